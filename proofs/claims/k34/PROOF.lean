

import PyProof.Rows.All
import Wide.All
import OpenK.AllK
import Wide.FinOn
import HandS.ForMost
import HandS.Wide
import HandS.IsInst
import HandS.EndBits
import HandS.Walk
import HandS.Style
import HandS.Defaults
import HandS.ExcInit
import HandS.ExcField
import HandS.ExcIs
import KE.KExcIs
import HandS.ForExc
import HandS.SlotsOwn
import HandS.DictComp
import HandS.ListItems
import HandS.ClsMeth
import KE.KDictPairs
import HandS.Star
import KE.GoesEnum
import KE.GoesMore
import KE.DataCmp
import HandS.ExcOwn
import KE.KOpsOwn
import HandS.ExcValue
import PySem.Challenge.RW_whatpasses_k34_parts_made
import KE.SortData
import KE.KDictList
import HandS.Conv
import HandS.DictTup
import HandS.MakeKwOnly
import HandS.MakeKw
import HandS.Property
import HandS.MethStar
import HandS.TupAny
import HandS.Lambda
import HandS.TupLen
import KE.KDictCopyH
import HandS.DictEq
import HandS.Deep
set_option Elab.async false
set_option linter.all false
set_option maxRecDepth 100000
set_option maxHeartbeats 4000000
/-! ### sorted of a dict whose keys are tuples of texts -/
namespace SrtT
open PySem PySem.W PySem.Calls PyProof.Rows PyProof.V PySem.Spec
section
variable {prog : Program} {w : World} {A : Around} {E : Value → Shared → Prop} {s : Shared} {T : String} {r d : Addr} {n : Nat} {P : Nat → Value → Prop} {OK : Heap → Prop}
/-- what is drawn out of a dict, a view of one .. stands in a new list -/
theorem collected {R : List Value → Shared → Prop} (S : KdlSrc prog w T r d n P OK) (hh : A.handled = none) (ok : OK s.heap) (hn : n ≤ sizeLine)
    (h : ∀ (h' : Heap) (tk : Nat) (acc : Array Value), (∀ b o, s.heap.get? b = some o → h'.get? b = some o) → s.heap.objs.size < h'.objs.size → ItemsOf P acc n → R acc.toList { s with heap := h', toks := tk }) :
    wpAny (model prog w) A (collect (.ref r)) R E s := by
  obtain ⟨hr, hd⟩ := S.there _ ok
  unfold collect
  refine wpAny_bind (wpAny_runValue (codeAny_builtin entry_proto_collect' ?_))
  rw [Around.under_plainId PySem.F.plain_proto_collect _]
  show wpAny _ A.in1 (newList [] >>= fun l => again (.builtin "list.__iadd__" ⟨[l, .ref r], []⟩)) _ _ s
  refine wpAny_bind (wpAny_newObj_type (wpAny_pure ⟨plainId_quiet PySem.F.plain_list_iadd _, codeAny_builtin entry_list_iadd' ?_⟩))
  rw [Around.under_plainId PySem.F.plain_list_iadd _]
  have hS : (s.heap.push { cls := .type "list", data := .seq ([] : List Value).toArray }).get? s.heap.objs.size = some { cls := .type "list", data := .seq #[] } := Heap.get?_push_size _ rfl
  show wpAny _ A.in1 (Builtin.List.listExtendWith (.ref s.heap.objs.size) (.ref r) (.ref s.heap.objs.size)) _ _ _
  have key := kdl_extend (A := A) (s := { s with heap := s.heap.push { cls := .type "list", data := .seq ([] : List Value).toArray } })
    (R := fun (q : Result) (s' : Shared) => ∃ (h' : Heap) (tk : Nat) (acc : Array Value) (c : Nat), q = .ok (.ret (.ref s.heap.objs.size)) ∧ s' = { s with heap := h', toks := tk } ∧
      (∀ b o, s.heap.get? b = some o → h'.get? b = some o) ∧ h'.get? s.heap.objs.size = some { cls := .type "list", dict := none, data := .seq acc c, slots := #[] } ∧ ItemsOf P acc n)
    S hh (S.keep _ _ ok fun b _ o e => Heap.get?_push_of_some _ e) s.heap.objs.size (Nat.ne_of_gt hr) (Nat.ne_of_gt hd) (.ref s.heap.objs.size) 0 hS
    (fun h' tk acc c hk hS' hi => ⟨h', tk, acc, c, rfl, rfl, fun b o e => hk b o (Nat.ne_of_lt (Heap.lt_size e)) (Heap.get?_push_of_some _ e), hS', hi⟩) hn
  have fin : ∀ (q : Result) (s' : Shared), (∃ (h' : Heap) (tk : Nat) (acc : Array Value) (c : Nat), q = .ok (.ret (.ref s.heap.objs.size)) ∧ s' = { s with heap := h', toks := tk } ∧
      (∀ b o, s.heap.get? b = some o → h'.get? b = some o) ∧ h'.get? s.heap.objs.size = some { cls := .type "list", dict := none, data := .seq acc c, slots := #[] } ∧ ItemsOf P acc n) →
      q = .ok (.ret (.ref s.heap.objs.size)) ∧ wpAny (model prog w) A (do
        match (← load s.heap.objs.size).data with
        | .seq xs _ => pure xs.toList
        | _ => unsupported "internal:collect") R E s' := by
    rintro q s' ⟨h', tk, acc, c, rfl, rfl, hk, hS', hi⟩
    refine ⟨rfl, wpAny_bind (wpAny_load hS' (wpAny_pure ?_))⟩
    exact h h' tk acc hk (Heap.lt_size hS') hi
  refine wpAny_mono key (fun f s' x => ?_) fun e s' x => ?_
  · cases f with
    | done f =>
      obtain ⟨e, k⟩ := fin _ _ x
      cases e
      exact k
    | again c₁ =>
      refine ⟨x.1, codeAny_mono x.2 fun q s₂ y => ?_⟩
      obtain ⟨e, k⟩ := fin _ _ y
      cases e
      exact k
  · obtain ⟨_, _, _, _, e', _⟩ := x
    cases e'
/-- sorted(d) up to the sort -/
theorem sorted_up {Q : Value → Shared → Prop} (S : KdlSrc prog w T r d n P OK) (hh : A.handled = none) (ok : OK s.heap) (hn : n ≤ sizeLine)
    (h : ∀ (h' : Heap) (tk : Nat) (acc : Array Value), (∀ b o, s.heap.get? b = some o → h'.get? b = some o) → s.heap.objs.size < h'.objs.size → ItemsOf P acc n →
      wpAny (model prog w) A.in1 (call (.builtin "list.sort") [.ref h'.objs.size]) (fun _ s' => Q (.ref h'.objs.size) s') E { s with heap := h'.push { cls := .type "list", data := .seq acc.toList.toArray }, toks := tk }) :
    wpAny (model prog w) A (call (.builtin "sorted") [.ref r]) Q E s := by
  refine call_function_entry kind_sorted plain_sorted entry_sorted (args_sorted1 _) ?_
  unfold Builtin.«sorted»
  refine wpAny_bind (m := checkCount "sorted" 1 1 _) (wpAny_pure ?_)
  refine wpAny_bind (collected (A := A.in1) S hh ok hn fun h' tk acc hk hlt hi => ?_)
  refine wpAny_bind (wpAny_newList ?_ (by rw [Array.length_toList, hi.1]; exact hn))
  refine wpAny_bind (wpAny_holding (wpAny_mono (h h' tk acc hk hlt hi) (fun _ s' x => ?_) fun _ _ e => e))
  exact wpAny_pure ⟨_, rfl, x⟩
end
end SrtT

namespace Lw
open PySem PySem.Spec PyProof.Rows L2
/-! ### short steps: where the walk's name is only a name -/

/-! ### isinstance -/
theorem ty_non {K : PySem.W.Frag} {H : Hp} : TyX K H .non (.type "NoneType") := .base .non
theorem ty_bl {K : PySem.W.Frag} {H : Hp} {b : Bool} : TyX K H (.bl b) (.type "bool") := .base (.bl b)
theorem ty_int {K : PySem.W.Frag} {H : Hp} {i : Int} : TyX K H (.int i) (.type "int") := .base (.int i)
theorem ty_str {K : PySem.W.Frag} {H : Hp} {z : Str} : TyX K H (.str z) (.type "str") := .base (.str z)
theorem ty_lst {K : PySem.W.Frag} {H : Hp} {a : Addr} {xs : List V} (e : H a = some (.lst xs)) : TyX K H (.ref a) (.type "list") := .base (.lst e)
theorem ty_tup {K : PySem.W.Frag} {H : Hp} {a : Addr} {xs : List V} (e : H a = some (.tup xs)) : TyX K H (.ref a) (.type "tuple") := .base (.tup e)
theorem kit_of2 {K : PySem.W.Frag} {a c : String} (r : Bool) (h : kitB a c = some r) : PySem.W.kitOne K (.type a) (.type c) = some r := kit_ty h

theorem ty_sqL {K : PySem.W.Frag} {H : Hp} {a : Addr} {xs : List V} (h : SqL K H a xs) : TyX K H (.ref a) (.type "list") := by
  rcases h with (h | ⟨o, h⟩) | ⟨o, its, n, h, c, _⟩
  · exact .base (.lst h)
  · exact .base (.frz h)
  · exact .kList h c
theorem ty_sqT {K : PySem.W.Frag} {H : Hp} {a : Addr} {xs : List V} (h : SqT K H a xs) : TyX K H (.ref a) (.type "tuple") := by
  rcases h with (h | ⟨o, h⟩) | ⟨o, its, n, h, c, _⟩
  · exact .base (.tup h)
  · exact .fTuple h
  · exact .kTuple h c
theorem small5 {n : Nat} (h : n ≤ 100000) : n < sizeLine := Nat.lt_of_le_of_lt h (by decide)
def isUp (c : Nat) : Bool := decide (65 ≤ c ∧ c ≤ 90)
def isLow (c : Nat) : Bool := decide (97 ≤ c ∧ c ≤ 122)

/-! ### an own class's in, len, ==, != -/
section
variable {X : Cx} {CX : CXT} {n : Nat} {C g : Addr} {sp : Sp} {E : XK} {pins : List (Addr × Obj)} {σ : L2.St} {H : Hp} {s : Shared}
theorem ins_inst {a dx : Addr} {fs : List (Str × V)} (I : Inv X pins σ H s) (e : H a = some (.ins C dx fs)) : ∃ od, PySem.W.InstAt s.heap a (PySem.W.instObj C dx) C (some od) := by
  obtain ⟨mA, O, _⟩ := ins_get I.hok e
  obtain ⟨od, ho, _⟩ := lookIn_ns O.ns
  exact ⟨od, O.obj, rfl, rfl, ho⟩
/-- a value and its type, for the other side of == -/
def TyO (K : PySem.W.Frag) (H : Hp) (y : V) (tb : Value) : Prop := TyX K H y tb ∨ ∃ (b C2 dy : Addr) (fs : List (Str × V)), y = .ref b ∧ H b = some (.ins C2 dy fs) ∧ tb = .ref C2
def rInOwn (C : Addr) (sp : Sp) (E : XK) (neg : Bool) : R2 := fun x y H Q => ∃ a dx fs, y = .ref a ∧ H a = some (.ins C dx fs) ∧ sp [.ref a, x] H (fun v H' => ∃ b : Bool, v = .bl b ∧ Q (.bl (if neg then !b else b)) H') E
theorem op_inOwn (hs : PySem.W.findIn X.K (.ref C) "__contains__" = some (some (.ref g))) (hf : PySem.W.isFn X.K (.ref g) = true) (F : FnR X.prog X.w X.K X.mg X.base CX n g sp) (hr : Room n X.A) (hx : Passes CX X E) : OpR X (compareOp .In) (rInOwn C sp E false) := by
  intro pins s σ H x y v u Q I rx ry h
  obtain ⟨a, dx, fs, rfl, ha, q⟩ := h
  cases (show u = Value.ref a from ry)
  obtain ⟨od, J⟩ := ins_inst I ha
  obtain ⟨m, hF⟩ := I.fr
  refine PySem.W.in_K hF I.ok.mod.kin J hs hf (wpAny_mono (wpAny_call (run_fnR (us := [.ref a, v]) (vs := [.ref a, x]) F hr hx I (.cons rfl (.cons rx .nil)) q)) (fun z s' hz => ?_) fun _ _ e => e)
  obtain ⟨z1, H1, I1, rz, b, rfl, q1⟩ := hz
  cases (show z = Value.bool b from rz)
  exact wpAny_truthy_bool ⟨.bl b, H1, I1, rfl, q1⟩
theorem op_notInOwn (hs : PySem.W.findIn X.K (.ref C) "__contains__" = some (some (.ref g))) (hf : PySem.W.isFn X.K (.ref g) = true) (F : FnR X.prog X.w X.K X.mg X.base CX n g sp) (hr : Room n X.A) (hx : Passes CX X E) : OpR X (compareOp .NotIn) (rInOwn C sp E true) := by
  intro pins s σ H x y v u Q I rx ry h
  obtain ⟨a, dx, fs, rfl, ha, q⟩ := h
  cases (show u = Value.ref a from ry)
  obtain ⟨od, J⟩ := ins_inst I ha
  obtain ⟨m, hF⟩ := I.fr
  refine PySem.W.notIn_K hF I.ok.mod.kin J hs hf (wpAny_mono (wpAny_call (run_fnR (us := [.ref a, v]) (vs := [.ref a, x]) F hr hx I (.cons rfl (.cons rx .nil)) q)) (fun z s' hz => ?_) fun _ _ e => e)
  obtain ⟨z1, H1, I1, rz, b, rfl, q1⟩ := hz
  cases (show z = Value.bool b from rz)
  exact wpAny_truthy_bool ⟨.bl (!b), H1, I1, rfl, q1⟩
theorem call_lenOwn (hs : PySem.W.findIn X.K (.ref C) "__len__" = some (some (.ref g))) (hf : PySem.W.isFn X.K (.ref g) = true) (F : FnR X.prog X.w X.K X.mg X.base CX n g sp) (hr : Room (n + 1) X.A) (hx : Passes CX X E) :
    CallR X (.builtin "len") (fun xs H Q => ∃ a dx fs, xs = [.ref a] ∧ H a = some (.ins C dx fs) ∧ sp [.ref a] H (fun v H' => ∃ k : Nat, v = .int k ∧ k < 100000 ∧ Q (.int k) H') E) := by
  intro pins s σ H xs us Q I r h
  obtain ⟨a, dx, fs, rfl, ha, q⟩ := h
  obtain ⟨u, rfl, ru⟩ := r.one
  cases (show u = Value.ref a from ru)
  obtain ⟨od, J⟩ := ins_inst I ha
  obtain ⟨m, hF⟩ := I.fr
  refine PySem.W.len_K hF I.ok.mod.kin J hs hf (wpAny_mono (wpAny_call (SlX.run_at (us := [.ref a]) (ws := [.ref a]) F (Room.in1 hr) I.env0.in1 hx I (.cons rfl .nil) q)) (fun z s' hz => ?_) fun _ _ e => e)
  obtain ⟨z1, H1, I1, rz, k, rfl, hk, q1⟩ := hz
  obtain ⟨t, rfl⟩ := (show ∃ t, z = Value.int k t from rz)
  exact ⟨⟨Int.natCast_nonneg k, by omega⟩, .int k, H1, I1.tok _, ⟨_, rfl⟩, q1⟩
theorem looks_tyO {y : V} {u tb : Value} (I : Inv X pins σ H s) (ry : RelV y u) (ty : TyO X.K H y tb) : PySem.W.Looks (model X.prog X.w) s.heap (typeOf u) tb := by
  rcases ty with ty | ⟨b, C2, dy, fs, rfl, hb, rfl⟩
  · obtain ⟨P, Z, hP, _⟩ := kit_of I ry ty
    exact Z.ty _ _ I.kIn hP
  · cases (show u = Value.ref b from ry)
    obtain ⟨od, J⟩ := ins_inst I hb
    exact J.type
def rEqOwn (K : PySem.W.Frag) (C : Addr) (sp : Sp) (E : XK) : R2 := fun x y H Q => ∃ a dx fs tb, x = .ref a ∧ H a = some (.ins C dx fs) ∧ TyO K H y tb ∧ PySem.W.notFirst K C tb = true ∧ sp [x, y] H Q E
theorem op_eqOwn (hs : PySem.W.findIn X.K (.ref C) "__eq__" = some (some (.ref g))) (hf : PySem.W.isFn X.K (.ref g) = true) (F : FnR X.prog X.w X.K X.mg X.base CX n g sp) (hr : Room n X.A) (hx : Passes CX X E) : OpR X (compareOp .Eq) (rEqOwn X.K C sp E) := by
  intro pins s σ H x y v u Q I rx ry h
  obtain ⟨a, dx, fs, tb, rfl, ha, ty, hn, q⟩ := h
  cases (show v = Value.ref a from rx)
  obtain ⟨od, J⟩ := ins_inst I ha
  obtain ⟨m, hF⟩ := I.fr
  refine PySem.W.cmp_K (op := .Eq) (tb := tb) hr.units0 hF I.ok.mod.kin J (looks_tyO I ry ty) hn hs hf ?_
  refine wpAny_mono (wpAny_call (run_fnR (us := [.ref a, u]) (vs := [.ref a, y]) F hr hx I (.cons rfl (.cons ry .nil)) q)) (fun z s' hz => ?_) fun _ _ e => e
  obtain ⟨z1, H1, I1, rz, q1⟩ := hz
  exact SlX.cmpback rz ⟨z1, H1, I1, rz, q1⟩
theorem ifBound_ne {M : Model} {K : PySem.W.Frag} {ox : Obj} {od : Option Obj} {a : Addr} {args : List Value} {Ex : Value → Shared → Prop} {A : Around} {Qx : Option Value → Shared → Prop} (kin : K.In s.heap) (J : PySem.W.InstAt s.heap a ox C od)
    (hn : PySem.W.findIn K (.ref C) "__ne__" = some (some (.builtin "object.__ne__"))) (h : wpAny M A (call (.builtin "object.__ne__") (.ref a :: args)) (fun v => Qx (some v)) Ex s) : wpAny M A (callSpecialIfBound? (.ref a) "__ne__" args) Qx Ex s := by
  have hb : ∀ self : Value, bindSpecial (.builtin "object.__ne__") self = pure (.builtin "object.__ne__", [self]) := fun self => PySem.F.cmp_object.ne.bind self
  simp only [callSpecialIfBound?, bindSpecialIfBound?]
  refine wpAny_holding (wpAny_bind (wpAny_bind (wpAny_bind (J.type.here ((PySem.W.looks_findIn kin hn).here ?_)))))
  refine wpAny_bind (wpAny_askSetting (wpAny_ite ?_))
  have fin : wpAny M A (call (.builtin "object.__ne__") ([.ref a] ++ args) >>= fun v => pure (some v)) Qx Ex s := wpAny_bind (wpAny_mono h (fun v s1 h1 => wpAny_pure h1) fun _ _ h1 => h1)
  split
  · rw [hb]
    exact wpAny_bind (wpAny_pure (wpAny_pure (by exact fin)))
  · rw [hb]
    exact wpAny_tryCatch (wpAny_bind (wpAny_pure (wpAny_pure (by exact fin))))
theorem ne_entry {P : Program} {w : World} {K : PySem.W.Frag} {ox : Obj} {od : Option Obj} {a : Addr} {u : Value} {Ex : Value → Shared → Prop} {A : Around} {Qx : Fin → Shared → Prop} (hu : A.units < cLine) (kin : K.In s.heap) (J : PySem.W.InstAt s.heap a ox C od)
    (hs : PySem.W.findIn K (.ref C) "__eq__" = some (some (.ref g))) (hf : PySem.W.isFn K (.ref g) = true)
    (h : wpAny (model P w) A (call (.ref g) [.ref a, u]) (fun v s1 => ∃ b, v = .bool b ∧ Qx (.done (.ret (.bool (!b)))) s1) Ex s) : wpAny (model P w) A (Builtin.«object.__ne__» ⟨[.ref a, u], []⟩) Qx Ex s := by
  unfold Builtin.«object.__ne__»
  repeat (first
    | with_reducible refine wpAny_cRoomFor hu ?_
    | (refine wpAny_bind (m := callSpecialIfBound? (.ref a) (Str.ofString "__eq__") [u]) (PySem.W.ifBound_K kin J hs hf (wpAny_mono h (fun r s1 hr => by
          obtain ⟨b, rfl, hq⟩ := hr
          repeat (first | exact hq | exact wpAny_pure hq | exact wpAny_truthy_bool hq | (refine wpAny_bind (m := truthy (.bool _)) (wpAny_truthy_bool ?_)) | wp_step)) fun _ _ e => e)))
    | wp_step)
def rNeOwn (K : PySem.W.Frag) (C : Addr) (sp : Sp) (E : XK) : R2 := fun x y H Q => ∃ a dx fs tb, x = .ref a ∧ H a = some (.ins C dx fs) ∧ TyO K H y tb ∧ PySem.W.notFirst K C tb = true ∧ sp [x, y] H (fun v H' => ∃ b : Bool, v = .bl b ∧ Q (.bl (!b)) H') E
theorem op_neOwn (hs : PySem.W.findIn X.K (.ref C) "__eq__" = some (some (.ref g))) (hf : PySem.W.isFn X.K (.ref g) = true) (hn : PySem.W.findIn X.K (.ref C) "__ne__" = some (some (.builtin "object.__ne__"))) (top : PySem.W.mroIn X.K C (.type "object") = some true)
    (F : FnR X.prog X.w X.K X.mg X.base CX n g sp) (hr : Room (n + 1) X.A) (hx : Passes CX X E) : OpR X (compareOp .NotEq) (rNeOwn X.K C sp E) := by
  intro pins s σ H x y v u Q I rx ry h
  obtain ⟨a, dx, fs, tb, rfl, ha, ty, hnf, q⟩ := h
  cases (show v = Value.ref a from rx)
  obtain ⟨od, J⟩ := ins_inst I ha
  have kin := I.kIn
  have hr1 : Room n X.A.in1 := Room.in1 hr
  have sub : PySem.W.Looks (model X.prog X.w) s.heap (isInstance (.ref a) (.type "object")) true := J.type.andThen (PySem.W.looks_mroIn kin top)
  have one : wpAny (model X.prog X.w) X.A (tryCompare (.ref a) "__ne__" u) (fun r s1 => ∃ z, r = some z ∧ EP X pins σ Q z s1) X.xe s := by
    unfold tryCompare
    refine wpAny_bind (ifBound_ne kin J hn (wpAny_call (codeAny_call_builtin PySem.F.cmp_object.ne.plain PySem.F.cmpEntry_ne (PySem.W.check_slot PySem.F.cmpKind_ne PySem.F.cmpSplit_ne sub (PySem.F.cmpArgs_ne _ _) ?_))))
    refine ne_entry (A := X.A.in1) hr1.units0 kin J hs hf (wpAny_mono (wpAny_call (SlX.run_at (us := [.ref a, u]) (ws := [.ref a, y]) F hr1 I.env0.in1 hx I (.cons rfl (.cons ry .nil)) q)) (fun z s1 hz => ?_) fun _ _ e => e)
    obtain ⟨z1, H1, I1, rz, b, rfl, q1⟩ := hz
    cases (show z = Value.bool b from rz)
    first
      | exact ⟨b, rfl, wpAny_pure ⟨_, rfl, .bl (!b), H1, I1, rfl, q1⟩⟩
      | exact ⟨b, rfl, _, rfl, .bl (!b), H1, I1, rfl, q1⟩
      | exact ⟨b, rfl, wpAny_pure (wpAny_pure ⟨_, rfl, .bl (!b), H1, I1, rfl, q1⟩)⟩
  show wpAny _ _ (richCompare .NotEq (.ref a) u) _ _ _
  unfold richCompare
  simp only [oneThing_ref]
  refine wpAny_holding (wpAny_bind (wpAny_cRoomFor hr.units0 ?_))
  refine wpAny_bind (J.type.here (wpAny_bind ((looks_tyO I ry ty).here ?_)))
  split
  · rename_i qq
    have e : PySem.W.subIn X.K tb (.ref C) = some false := by
      rcases Bool.or_eq_true_iff.mp hnf with e | e
      · rw [beq_iff_eq.mp e] at qq; simp at qq
      · exact beq_iff_eq.mp e
    refine wpAny_bind ((PySem.W.looks_subIn kin e).here ?_)
    simp only [Bool.false_eq_true, if_false]
    refine wpAny_bind (wpAny_mono one (fun r s1 z => ?_) fun _ _ e => e)
    obtain ⟨z1, rfl, hq⟩ := z
    exact wpAny_pure hq
  · refine wpAny_bind (wpAny_pure ?_)
    simp only [Bool.false_eq_true, if_false]
    refine wpAny_bind (wpAny_mono one (fun r s1 z => ?_) fun _ _ e => e)
    obtain ⟨z1, rfl, hq⟩ := z
    exact wpAny_pure hq
end

/-! ### enumerate over a tuple -/
theorem meets_enum1 {v : Value} {o : Obj} {φ : Heap → Prop} (bg : Begins v o φ) :
    Meets (Builtin.«enumerate.__new__» ⟨[.type "enumerate", v], []⟩) (fun _ R s => φ s.heap ∧
      R (.ok (.ret (.ref (s.heap.push o).objs.size))) { s with heap := (s.heap.push o).push { cls := .type "enumerate", data := .fields #[.none, .bool false, .ref s.heap.objs.size, rawInt 0, .none, .none] } }) :=
  .of_wp fun pr wd ar rr sh hh => by
    obtain ⟨hq, gq, dq, tq, oq⟩ := sh; obtain ⟨k1, k2⟩ := hh
    have subE := sub_enumerate
    have it1 : ∀ {A' : Around} {Ex : Value → Shared → Prop} {Qx : Value → Shared → Prop}, Qx (.ref hq.objs.size) ⟨hq.push o, gq, dq, tq, oq⟩ → wpAny (model pr wd) A' (pyIter v) Qx Ex ⟨hq, gq, dq, tq, oq⟩ :=
      fun q => bg.iter pr wd _ _ ⟨hq, gq, dq, tq, oq⟩ _ k1 q
    wp_walk using it1
    refine wpAny_stack_any fun stk => wpAny_pure ?_
    split
    · rename_i cl _ _ _ _ _
      cases (cl == Value.type "enumerate") <;> (wp_walk using it1) <;> exact ⟨_, rfl, k2⟩
    · wp_walk using it1
      exact ⟨_, rfl, k2⟩
theorem call_enum1 {pr : Program} {wd : World} {A : Around} {Ex : Value → Shared → Prop} {s : Shared} {v : Value} {o : Obj} {φ : Heap → Prop} {Qx : Value → Shared → Prop} (bg : Begins v o φ) (k1 : φ s.heap)
    (k2 : ∀ h', IsEnum h' (s.heap.objs.size + 1) s.heap.objs.size 0 .none → h'.get? s.heap.objs.size = some o → (∀ b u, s.heap.get? b = some u → h'.get? b = some u) → Qx (.ref (s.heap.objs.size + 1)) { s with heap := h' }) :
    wpAny (model pr wd) A (call (.type "enumerate") [v]) Qx Ex s := by
  have hz : (s.heap.push o).objs.size = s.heap.objs.size + 1 := Heap.size_push ..
  have he : IsEnum ((s.heap.push o).push { cls := .type "enumerate", data := .fields #[.none, .bool false, .ref s.heap.objs.size, rawInt 0, .none, .none] }) (s.heap.objs.size + 1) s.heap.objs.size 0 .none := by
    have e := Heap.get?_push_size (s.heap.push o) (o := { cls := .type "enumerate", data := .fields #[.none, .bool false, .ref s.heap.objs.size, rawInt 0, .none, .none] }) rfl
    rw [hz] at e
    exact e
  refine callType_new F.called_enumerate (by decide) (F.typeCall_enumerate_1 _) (F.newCall_enumerate_1 _) (fun ob => F.args_object_init_2 ob _) F.entry_enumerate_new (meets_enum1 bg) ⟨k1, ?_⟩
  show _ ∧ _
  rw [hz]
  exact ⟨⟨_, he, rfl⟩, k2 _ he (Heap.get?_push_of_some _ (Heap.get?_push_size _ bg.free)) fun b u e => Heap.get?_push_of_some _ (Heap.get?_push_of_some _ e)⟩
/-- the tuple at a: each item in a new pair -/
def ItE (K : PySem.W.Frag) (a : Addr) : It where
  go := fun i H => ∃ (xs : List V) (x : V), SqT K H a xs ∧ xs[i]? = some x
  yld := fun i H v H' => ∃ T x, v = .ref T ∧ H T = none ∧ H' = upd H T (.tup [.int (i : Nat), x]) ∧ ∀ xs, SqT K H a xs → xs[i]? = some x
  stop := fun i H => ∃ xs : List V, SqT K H a xs ∧ xs.length = i
theorem turn_enumT {P : Program} {w : World} {K : PySem.W.Frag} {el : List Expr} {kk : Nat} {tp : Pos} (a e it : Addr) :
    Turn P w K (.Tuple el kk tp) (ItE K a) [e, it] e (fun i h => (∃ old, IsEnum h e it ((i : Nat) : Int) old) ∧ h.IsTupleIter it a i ∧ e ≠ it) := by
  refine { mem := List.mem_cons_self, obj := ?_, keep := ?_, item := ?_, done := ?_, self := ?_ }
  · rintro i h ⟨⟨old, he⟩, ⟨o, ho, hc, hd⟩, _⟩ b hb
    rcases List.mem_cons.mp hb with z | z
    · subst z
      exact ⟨_, he, fun v q => nomatch q⟩
    · have z := List.mem_singleton.mp z
      subst z
      exact ⟨o, ho, fun v q => by rw [hd] at q; cases q⟩
  · rintro i h h' ⟨⟨old, he⟩, hi, hne⟩ k
    exact ⟨⟨old, k e List.mem_cons_self _ he⟩, hi.at fun o q => k it (List.mem_cons_of_mem _ List.mem_cons_self) o q, hne⟩
  · rintro X rfl rfl rfl hc i pins s σ H E J hf ⟨⟨old, he⟩, hit, hne⟩ ⟨xs, x, hq, hx⟩
    obtain ⟨its, rv, p, hz⟩ := J.tuple hq
    obtain ⟨u, hu, ru⟩ := rv.get hx
    have pT : s.heap.IsTuple a its.toArray := p
    have hea : a ≠ e := fun z => by
      obtain ⟨o, ho, hcl, _⟩ := pT
      rw [z, he] at ho
      cases ho
      have hcl : Value.type "enumerate" = Value.type "tuple" := hcl
      injection hcl with hcl
      exact absurd hcl (by decide)
    have hia : a ≠ it := fun z => by
      obtain ⟨o, ho, hcl, _⟩ := pT
      obtain ⟨o2, ho2, hcl2, _⟩ := hit
      rw [z, ho2] at ho
      cases ho
      rw [hcl2] at hcl
      injection hcl with hcl
      exact absurd hcl (by decide)
    have hel : e < s.heap.objs.size := Heap.lt_size he
    have hil : it < s.heap.objs.size := by
      obtain ⟨_, q, _⟩ := hit
      exact Heap.lt_size q
    have hh : X.A.in1.handled = none := J.ok.hd hc
    have hlt : i < its.toArray.size := by
      rw [List.size_toArray]
      exact (List.getElem?_eq_some_iff.mp hu).1
    refine wpAny_pyNext_enum_itemD (Draws.tuple hh it a hia its.toArray) he ⟨hit, pT⟩ hlt hne (by simp [hne, Ne.symm hea]) fun y h1 tk hy ho hst hT hsz hk => ?_
    have ey : y = u := by
      have h2 : its[i]? = some y := by simpa using hy
      rw [hu] at h2
      exact (Option.some.inj h2).symm
    subst ey
    refine ⟨_, rfl, wpAny_letOwnedTupleGo_enum (s := { s with heap := h1, toks := tk + 1 }) ho fun h2 he2 sb => ?_⟩
    have hT2 : h2.get? s.heap.objs.size = some { cls := .type "tuple", data := .seq #[.int i tk, y] } := (sb.2 _ (Nat.ne_of_gt hel)).trans hT
    have nw : ObjOk X.prog X.w (upd H s.heap.objs.size (.tup [.int (i : Nat), x])) h2 s.heap.objs.size (.tup [.int (i : Nat), x]) :=
      ⟨by show 2 ≤ sizeLine; decide, [.int i tk, y], .cons ⟨_, rfl⟩ (.cons ru .nil), ⟨_, hT2, rfl, _, rfl⟩⟩
    have J1 : Inv X pins σ (upd H s.heap.objs.size (.tup [.int (i : Nat), x])) { s with heap := h2, toks := tk + 1 } :=
      J.turnedNew (ch := [e, it]) (fun b ob hb q => (sb.2 b (fun z => hb (z ▸ List.mem_cons_self))).trans (hk b ob (fun z => hb (z ▸ List.mem_cons_self)) (fun z => hb (z ▸ List.mem_cons_of_mem _ List.mem_cons_self)) q)) hf (Nat.le_refl _) nw
    refine ⟨.ref s.heap.objs.size, _, J1, rfl, ⟨_, x, rfl, J.hok.fresh (Nat.le_refl _), rfl, fun ys hy => ?_⟩, ⟨⟨y, ?_⟩, hst.1.at fun o q => (sb.2 it (Ne.symm hne)).trans q, hne⟩, fun b hb => ?_⟩
    · have : ys = xs := J.tuple_inj hy hq
      rw [this]
      exact hx
    · have e1 : ((i + 1 : Nat) : Int) = (i : Int) + 1 := by omega
      rw [e1]
      exact he2
    · have hb2 : b < s.heap.objs.size := by
        rcases List.mem_cons.mp hb with z | z
        · rw [z]; exact hel
        · rw [List.mem_singleton.mp z]; exact hil
      rw [upd_ne (Nat.ne_of_lt hb2)]
      exact (hf b hb).1
  · rintro X rfl rfl rfl hc i pins s σ H E J hf ⟨⟨old, he⟩, hit, hne⟩ ⟨xs, hq, hx⟩
    obtain ⟨its, rv, p, hz⟩ := J.tuple hq
    have pT : s.heap.IsTuple a its.toArray := p
    obtain ⟨f0, f1, f2, f3, f4, f5⟩ := hf it (List.mem_cons_of_mem _ List.mem_cons_self)
    have hia : a ≠ it := fun z => by
      obtain ⟨o, ho, hcl, _⟩ := pT
      obtain ⟨o2, ho2, hcl2, _⟩ := hit
      rw [z, ho2] at ho
      cases ho
      rw [hcl2] at hcl
      injection hcl with hcl
      exact absurd hcl (by decide)
    have hh : X.A.in1.handled = none := J.ok.hd hc
    have hl : its.toArray.size = i := by
      rw [List.size_toArray, ← rv.length]
      exact hx
    refine wpAny_pyNext_enum_endD (Draws.tuple hh it a hia its.toArray) he (by rw [hl]; exact ⟨hit, pT⟩) fun h1 eb => ⟨rfl, J.turned (t' := s.toks) (fun b o hb q => eb b o hb q) f0 f1 f3 f4 f5⟩
  · rintro A i s Q E ⟨⟨_, he⟩, _⟩ h
    exact wpAny_pyIter_enum he h
def iEnumT (K : PySem.W.Frag) (ta : TA) : TI := fun σ H R => ta σ H fun vs H1 => ∃ a xs, vs = [.ref a] ∧ SqT K H1 a xs ∧ R (ItE K a) H1
theorem pi_enumT {X : Cx} {e : Expr} {ta : TA} {p pos tp : Pos} {el : List Expr} {kk : Nat} (gE : Gl X "enumerate") (mE : X.mg "enumerate" = none) (ha : PA X [e] ta) (hs : starEach [e] X.env = [(false, eval e X.env)] := by rfl) :
    PI X (.Tuple el kk tp) (.Call (.Name "enumerate" p) [e] [] pos) (iEnumT X.K ta) := by
  refine ⟨fun pins s σ H R J h => ?_⟩
  refine Call_ (ld_blt J gE mE boot_enumerate (PyProof.Rows.callWith_type1 (thn (ha.run pos pins s σ H _ J h) fun us s1 hh => ?_) hs rfl))
  obtain ⟨vs, H1, J1, r1, a, xs, ex, hq, q⟩ := hh
  subst ex
  cases r1 with
  | cons r rr =>
    cases rr
    cases r
    obtain ⟨its, rv, p2, hz⟩ := J1.tuple hq
    refine call_enum1 (begins_tuple a its.toArray) (show s1.heap.IsTuple a its.toArray from p2) fun h1 he hit hk => wpAny_pyIter_enum he ?_
    have J2 : Inv X pins σ H1 { s1 with heap := h1 } := J1.kept (t' := s1.toks) hk
    refine ⟨s1.heap.objs.size + 1, [s1.heap.objs.size + 1, s1.heap.objs.size], _, _, H1, rfl, J2, turn_enumT a (s1.heap.objs.size + 1) s1.heap.objs.size, ⟨⟨.none, he⟩, ⟨_, hit, rfl, rfl⟩, Nat.succ_ne_self _⟩, fun b hb => ?_, q⟩
    have hle : s1.heap.objs.size ≤ b := by
      rcases List.mem_cons.mp hb with z | z
      · rw [z]; exact Nat.le_add_right _ _
      · rw [List.mem_singleton.mp z]; exact Nat.le_refl _
    exact J1.fpOk hle (J1.hok.fresh hle)
theorem walk_enumT {K : PySem.W.Frag} {a : Addr} {xs : List V} : Walk (ItE K a) xs.length (fun H => SqT K H a xs) (YPair (fun i => some (.int (i : Nat))) (fun i => xs[i]?)) := by
  refine ⟨fun i _ hi q => ⟨xs, xs[i], q, List.getElem?_eq_getElem hi⟩, fun _ q => ⟨xs, q, rfl⟩, fun i H v H' _ q y => ?_⟩
  obtain ⟨T, x, h1, h2, h3, h4⟩ := y
  exact ⟨T, .int (i : Nat), x, h1, h2, h3, rfl, h4 xs q⟩

/-! ### a static method without arguments; dict of a written tuple of pairs; enumerate over either -/
theorem pe_smeth0 {X : Cx} {CX : CXT} {k : Nat} {C p g : Addr} {mc : Value} {sp : Sp} {E : XK} {o : Expr} {m : Str} {pos apos : Pos} {ta : TE} {pl : Sem Bool} (he : PE X o ta) (ht0 : PySem.W.typeIn X.K (.ref C) = some mc) (r : ClX.CRead X.K C mc)
    (c : PySem.W.findCls X.K (.ref C) mc m = some (.get (.builtin "staticmethod.__get__") (.ref p) .none (.ref C))) (hp : ∃ rest, PySem.W.recIn X.K p "staticmethod" = some (.ref g :: rest)) (hk : PySem.W.keepIn X.K (.ref g) = true)
    (F : FnR X.prog X.w X.K X.mg X.base CX k g sp) (hr : Room k X.A) (hx : Passes CX X E)
    (ht : eval (.Call (.Attribute o m apos) [] [] pos) X.env = (do
      let ov ← eval o X.env
      standAt apos.atName
      let (f, first) ← holding [ov] (getMethod ov m pl)
      callWith pos f first (backTo pos (starEach [] X.env)) (backToKw pos (keywordEach [] X.env))) := by rfl) :
    PE X (.Call (.Attribute o m apos) [] [] pos) (fun σ H Q => ta σ H fun x H1 => x = .ref C ∧ sp [] H1 Q E) := by
  refine ⟨fun pins s σ H Q I h => ?_⟩
  refine PySem.W.methodCall_KW (pl := pl) (thn (he.run pins s σ H _ I h) fun u s1 hh => ?_) ht
  obtain ⟨x, H1, I1, rx, ex, q⟩ := hh
  subst ex
  obtain rfl : u = Value.ref C := rx
  obtain ⟨m1, hF⟩ := I1.fr
  obtain ⟨rest, hrec⟩ := hp
  refine PySem.W.method_of_cls hF I1.ok.mod.kin r.ga (PySem.W.cls_sm hF I1.ok.mod.kin ht0 r.rd c hrec rfl ?_)
  have I2 : Inv X pins σ H1 { s1 with toks := s1.toks + 1 } := I1.tok _
  exact PySem.W.callWith_K0 I2.kIn hk (wpAny_call (run_fnR (us := []) (vs := []) F hr hx I2 .nil q))
section
variable {X : Cx}
theorem pairs2 {pins : List (Addr × Obj)} {σ : L2.St} {H : Hp} {s : Shared} (I : Inv X pins σ H s) : ∀ {ps : List Addr} {kvs : List (Key × V)}, Paired (fun p kv => SqT X.K H p [kV kv.1, kv.2]) ps kvs →
    ∃ (prs : List (Key × Value)) (vps : List (Value × Value)), KV kvs prs ∧ prs.length = ps.length ∧ vps.length = ps.length ∧ ∀ (j : Nat) (k v : Value), vps[j]? = some (k, v) → ∃ (key : Key) (b : Addr), prs[j]? = some (key, v) ∧ (mixKind X.prog X.w).is key k = true ∧ ps[j]? = some b ∧ IsTup s.heap b #[k, v]
  | _, _, .nil => ⟨[], [], .nil, rfl, rfl, fun j k v e => by simp at e⟩
  | _, _, .cons (a := p) (b := kv) h t => by
    obtain ⟨prs, vps, r, hl, hl2, hp⟩ := pairs2 I t
    obtain ⟨its, rv, htp, _⟩ := I.tuple h
    obtain ⟨u, y, ei, ru, ry⟩ := vals2 rv
    subst ei
    refine ⟨(kv.1, y) :: prs, (u, y) :: vps, .cons ⟨rfl, ry⟩ r, by rw [List.length_cons, List.length_cons, hl], by rw [List.length_cons, List.length_cons, hl2], fun j k v e => ?_⟩
    cases j with
    | zero =>
      have e1 : (u, y) = (k, v) := Option.some.inj e
      have e2 : u = k := congrArg Prod.fst e1
      have e3 : y = v := congrArg Prod.snd e1
      subst e2 e3
      exact ⟨kv.1, p, rfl, kV_is (P := X.prog) (w := X.w) ru, rfl, htp⟩
    | succ j =>
      obtain ⟨key, b, e1, e2, e3, e4⟩ := hp j k v (by simpa using e)
      exact ⟨key, b, by simpa using e1, e2, by simpa using e3, e4⟩
/-- dict(T), T a written tuple of pairs -/
theorem call_dictT {a : Addr} {ps : List Addr} {o : Obj} {its : Array Value} {n : Nat} (calm : X.calm = true) (hk : X.K.lookup a = some o) (hc : o.cls = .type "tuple") (hd : o.dict = none) (hdat : o.data = .seq its n) (hits : its.toList = ps.map Value.ref) :
    CallR X (.type "dict") (fun xs H Q => ∃ kvs : List (Key × V), xs = [.ref a] ∧ Paired (fun p kv => SqT X.K H p [kV kv.1, kv.2]) ps kvs ∧ ps.length ≤ 1000 ∧ ∀ p, H p = none → Q (.ref p) (upd H p (.dK (mergeK [] kvs)))) := by
  intro pins s σ H xs us Q I r q
  obtain ⟨kvs, rfl, hp, hsz, q⟩ := q
  obtain ⟨u, eu, rx⟩ := vals1 r
  subst eu
  cases rx
  obtain ⟨prs, vps, rel, hl, hl2, hpr⟩ := pairs2 I hp
  have ho := I.kIn a o hk
  have size : its.size = vps.length := by rw [← Array.length_toList, hits, List.length_map, hl2]
  have line : ps.length ≤ sizeLine := Nat.le_trans hsz (by decide)
  refine PySem.call_dict_pairs (knd := mixKind X.prog X.w) (kvs := prs) (PySem.PairArg.tuple a its (fun j => ps.getD j 0) vps) (I.ok.hd calm) ⟨⟨o, n, ho, hc, hd, hdat⟩, size, fun j k v e => ?_⟩ ⟨by rw [hl, hl2], fun j k v e => ?_⟩ (by rw [hl2]; exact line) fun h1 tk hd1 kp => ?_
  · obtain ⟨key, b, e1, e2, e3, e4⟩ := hpr j k v e
    have eb : ps.getD j 0 = b := by rw [List.getD_eq_getElem?_getD, e3]; rfl
    refine ⟨?_, ?_⟩
    · show its[j]? = some (Value.ref (ps.getD j 0))
      rw [eb, ← Array.getElem?_toList, hits, List.getElem?_map, e3]
      rfl
    · show PySem.PairAt s.heap (ps.getD j 0) k v
      rw [eb]
      exact .inl e4
  · obtain ⟨key, b, e1, e2, _, _⟩ := hpr j k v e
    exact ⟨key, e1, e2⟩
  · have hm : (s.heap.objs.size == sysModules) = false := beq_eq_false_iff_ne.mpr (Nat.ne_of_gt I.big)
    have hlen : (mergeK [] kvs).length ≤ sizeLine := by
      refine Nat.le_trans (length_mergeK kvs []) ?_
      rw [List.length_nil, Nat.zero_add, rel.length, hl]
      exact line
    exact ⟨.ref s.heap.objs.size, upd H s.heap.objs.size (.dK (mergeK [] kvs)), I.laid (t' := tk) (fun b u e => kp b u (fun h => nomatch h) e) (Nat.le_refl _) (show ObjOk X.prog X.w _ _ _ (.dK (mergeK [] kvs)) from ⟨hlen, hm, merged [] prs, KV.merge rel .nil, hd1⟩), rfl, q _ (I.hok.fresh (Nat.le_refl _))⟩
end
/-- enumerate over a list or a tuple -/
def iEnum2 (K : PySem.W.Frag) (ta : TA) : TI := fun σ H R => ta σ H fun vs H1 => (∃ a xs, vs = [.ref a] ∧ SqL K H1 a xs ∧ R (Ite K a) H1) ∨ ∃ a xs, vs = [.ref a] ∧ SqT K H1 a xs ∧ R (ItE K a) H1
theorem pi_enum2 {X : Cx} {e : Expr} {ta : TA} {p pos tp : Pos} {el : List Expr} {kk : Nat} (gE : Gl X "enumerate") (mE : X.mg "enumerate" = none) (ha : PA X [e] ta) (hs : starEach [e] X.env = [(false, eval e X.env)] := by rfl) :
    PI X (.Tuple el kk tp) (.Call (.Name "enumerate" p) [e] [] pos) (iEnum2 X.K ta) := by
  refine ⟨fun pins s σ H R J h => ?_⟩
  refine Call_ (ld_blt J gE mE boot_enumerate (PyProof.Rows.callWith_type1 (thn (ha.run pos pins s σ H _ J h) fun us s1 hh => ?_) hs rfl))
  obtain ⟨vs, H1, J1, r1, hh⟩ := hh
  have fpk : ∀ (h1 : Heap), ∀ b ∈ [s1.heap.objs.size + 1, s1.heap.objs.size], FpOk X pins H1 b := fun _ b hb => by
    have hle : s1.heap.objs.size ≤ b := by
      rcases List.mem_cons.mp hb with z | z
      · rw [z]; exact Nat.le_add_right _ _
      · rw [List.mem_singleton.mp z]; exact Nat.le_refl _
    exact J1.fpOk hle (J1.hok.fresh hle)
  rcases hh with ⟨a, xs, ex, hq, q⟩ | ⟨a, xs, ex, hq, q⟩
  · subst ex
    cases r1 with
    | cons r rr =>
      cases rr
      cases r
      obtain ⟨its, rv, p2, hz⟩ := J1.list hq
      refine call_enum1 (begins_list a its.toArray) p2.isList fun h1 he hit hk => wpAny_pyIter_enum he ?_
      have J2 : Inv X pins σ H1 { s1 with heap := h1 } := J1.kept (t' := s1.toks) hk
      exact ⟨s1.heap.objs.size + 1, [s1.heap.objs.size + 1, s1.heap.objs.size], _, _, H1, rfl, J2, turn_enum a (s1.heap.objs.size + 1) s1.heap.objs.size, ⟨⟨.none, he⟩, ⟨_, hit, rfl, rfl⟩, Nat.succ_ne_self _⟩, fpk h1, q⟩
  · subst ex
    cases r1 with
    | cons r rr =>
      cases rr
      cases r
      obtain ⟨its, rv, p2, hz⟩ := J1.tuple hq
      refine call_enum1 (begins_tuple a its.toArray) (show s1.heap.IsTuple a its.toArray from p2) fun h1 he hit hk => wpAny_pyIter_enum he ?_
      have J2 : Inv X pins σ H1 { s1 with heap := h1 } := J1.kept (t' := s1.toks) hk
      exact ⟨s1.heap.objs.size + 1, [s1.heap.objs.size + 1, s1.heap.objs.size], _, _, H1, rfl, J2, turn_enumT a (s1.heap.objs.size + 1) s1.heap.objs.size, ⟨⟨.none, he⟩, ⟨_, hit, rfl, rfl⟩, Nat.succ_ne_self _⟩, fpk h1, q⟩

/-- an exception object at a: its class, its own dict -/
def ExK (cls : Value) (dd : Option Addr) (a : Addr) : HO := .ext fun g => ∃ (ob : Obj) (fl : Array Value), g.get? a = some ob ∧ Zc cls dd ob ∧ ob.data = .fields fl
/-! ### data of any kind, what they stand for in a heap -/
inductive U where
  | non | bl (b : Bool) | int (i : Int) | str (z : Str) | ty (n : String) | raw (a : Addr)
  | lst (xs : List U) | fls (xs : List U) | tup (xs : List U)
  | dic (ks : List Key) (xs : List U)
  | dct (ks : List (List Key)) (xs : List U)
  | obj (C : Addr) (ns : List Str) (xs : List U)
  | exo (C : Addr) (ns : List Str) (xs : List U)
mutual
inductive At (K : PySem.W.Frag) (G : Hp) : V → U → Prop
  | non : At K G .non .non
  | bl (b : Bool) : At K G (.bl b) (.bl b)
  | int (i : Int) : At K G (.int i) (.int i)
  | str (z : Str) : At K G (.str z) (.str z)
  | ty (n : String) : At K G (.ty n) (.ty n)
  | raw (a : Addr) : At K G (.ref a) (.raw a)
  | lst {a : Addr} {xs : List V} {ds : List U} : G a = some (.lst xs) → AtAll K G xs ds → At K G (.ref a) (.lst ds)
  | fls {a : Addr} {xs : List V} {ds : List U} : SqL K G a xs → AtAll K G xs ds → At K G (.ref a) (.fls ds)
  | tup {a : Addr} {xs : List V} {ds : List U} : G a = some (.tup xs) → AtAll K G xs ds → At K G (.ref a) (.tup ds)
  | dic {a : Addr} {kvs : List (Key × V)} {ds : List U} : G a = some (.dK kvs) → AtAll K G (kvs.map (·.2)) ds → At K G (.ref a) (.dic (kvs.map (·.1)) ds)
  | dct {a : Addr} {kvs : List (List Key × V)} {ds : List U} : G a = some (.dT kvs) → AtAll K G (kvs.map (·.2)) ds → At K G (.ref a) (.dct (kvs.map (·.1)) ds)
  | obj {a C dx : Addr} {fs : List (Str × V)} {ds : List U} : G a = some (.ins C dx fs) → AtAll K G (fs.map (·.2)) ds → At K G (.ref a) (.obj C (fs.map (·.1)) ds)
  | exo {a C e : Addr} {fs : List (Str × V)} {ds : List U} : G a = some (ExK (.ref C) (some e) a) → G e = some (.xd fs) → AtAll K G (fs.map (·.2)) ds → At K G (.ref a) (.exo C (fs.map (·.1)) ds)
  | exo0 {a C : Addr} : G a = some (ExK (.ref C) none a) → At K G (.ref a) (.exo C [] [])
inductive AtAll (K : PySem.W.Frag) (G : Hp) : List V → List U → Prop
  | nil : AtAll K G [] []
  | cons {v : V} {vs : List V} {d : U} {ds : List U} : At K G v d → AtAll K G vs ds → AtAll K G (v :: vs) (d :: ds)
end
theorem sql_same {K : PySem.W.Frag} {H H' : Hp} {a : Addr} {xs : List V} (s : Same H H') (h : SqL K H a xs) : SqL K H' a xs := s.seq h
theorem sqt_same {K : PySem.W.Frag} {H H' : Hp} {a : Addr} {xs : List V} (s : Same H H') (h : SqT K H a xs) : SqT K H' a xs := by
  rcases h with (h | ⟨o, h⟩) | h
  · exact .inl (.inl (s _ _ h))
  · exact .inl (.inr ⟨o, s _ _ h⟩)
  · exact .inr h
section
variable {K : PySem.W.Frag} {G G' : Hp}
mutual
theorem At.mono (s : Same G G') : ∀ (d : U) (v : V), At K G v d → At K G' v d
  | .non, _, h => by cases h; exact .non
  | .bl _, _, h => by cases h; exact .bl _
  | .int _, _, h => by cases h; exact .int _
  | .str _, _, h => by cases h; exact .str _
  | .ty _, _, h => by cases h; exact .ty _
  | .raw _, _, h => by cases h; exact .raw _
  | .lst ds, _, h => by
    cases h with
    | lst hs ha => exact .lst (s _ _ hs) (AtAll.mono s ds _ ha)
  | .fls ds, _, h => by
    cases h with
    | fls hs ha => exact .fls (sql_same s hs) (AtAll.mono s ds _ ha)
  | .tup ds, _, h => by
    cases h with
    | tup hs ha => exact .tup (s _ _ hs) (AtAll.mono s ds _ ha)
  | .dic ks ds, _, h => by
    cases h with
    | dic hs ha => exact .dic (s _ _ hs) (AtAll.mono s ds _ ha)
  | .dct ks ds, _, h => by
    cases h with
    | dct hs ha => exact .dct (s _ _ hs) (AtAll.mono s ds _ ha)
  | .obj C ns ds, _, h => by
    cases h with
    | obj hs ha => exact .obj (s _ _ hs) (AtAll.mono s ds _ ha)
  | .exo C ns ds, _, h => by
    cases h with
    | exo hs he ha => exact .exo (s _ _ hs) (s _ _ he) (AtAll.mono s ds _ ha)
    | exo0 hs => exact .exo0 (s _ _ hs)
theorem AtAll.mono (s : Same G G') : ∀ (ds : List U) (vs : List V), AtAll K G vs ds → AtAll K G' vs ds
  | [], _, h => by cases h; exact .nil
  | d :: r, _, h => by
    cases h with
    | cons h1 h2 => exact .cons (At.mono s d _ h1) (AtAll.mono s r _ h2)
end
theorem AtAll.length : ∀ {vs : List V} {ds : List U}, AtAll K G vs ds → vs.length = ds.length
  | _, _, .nil => rfl
  | _, _, .cons _ b => by rw [List.length_cons, List.length_cons, AtAll.length b]
theorem AtAll.append : ∀ {vs ws : List V} {ds es : List U}, AtAll K G vs ds → AtAll K G ws es → AtAll K G (vs ++ ws) (ds ++ es)
  | _, _, _, _, .nil, h => h
  | _, _, _, _, .cons a b, h => .cons a (AtAll.append b h)
theorem AtAll.snoc {vs : List V} {ds : List U} {v : V} {d : U} (h : AtAll K G vs ds) (x : At K G v d) : AtAll K G (vs ++ [v]) (ds ++ [d]) := h.append (.cons x .nil)
theorem AtAll.get : ∀ {vs : List V} {ds : List U} {i : Nat} {v : V}, AtAll K G vs ds → vs[i]? = some v → ∃ d, ds[i]? = some d ∧ At K G v d
  | _, _, _, _, .nil, h => by simp at h
  | _, _, 0, _, .cons a _, h => by
    simp at h
    subst h
    exact ⟨_, rfl, a⟩
  | _, _, i + 1, _, .cons _ b, h => by
    obtain ⟨d, h1, h2⟩ := AtAll.get (i := i) b (by simpa using h)
    exact ⟨d, by simpa using h1, h2⟩
theorem AtAll.get2 : ∀ {vs : List V} {ds : List U} {i : Nat} {d : U}, AtAll K G vs ds → ds[i]? = some d → ∃ v, vs[i]? = some v ∧ At K G v d
  | _, _, _, _, .nil, h => by simp at h
  | _, _, 0, _, .cons a _, h => by
    simp at h
    subst h
    exact ⟨_, rfl, a⟩
  | _, _, i + 1, _, .cons _ b, h => by
    obtain ⟨d, h1, h2⟩ := AtAll.get2 (i := i) b (by simpa using h)
    exact ⟨d, by simpa using h1, h2⟩
theorem AtAll.set : ∀ {vs : List V} {ds : List U} (i : Nat) {v : V} {d : U}, AtAll K G vs ds → At K G v d → AtAll K G (vs.set i v) (ds.set i d)
  | _, _, _, _, _, .nil, _ => .nil
  | _, _, 0, _, _, .cons _ t, x => .cons x t
  | _, _, i + 1, _, _, .cons a t, x => .cons a (AtAll.set i t x)
theorem AtAll.take : ∀ {vs : List V} {ds : List U} (n : Nat), AtAll K G vs ds → AtAll K G (vs.take n) (ds.take n)
  | _, _, 0, _ => by rw [List.take_zero, List.take_zero]; exact .nil
  | _, _, _ + 1, .nil => .nil
  | _, _, n + 1, .cons a t => .cons a (AtAll.take n t)
theorem AtAll.drop : ∀ {vs : List V} {ds : List U} (n : Nat), AtAll K G vs ds → AtAll K G (vs.drop n) (ds.drop n)
  | _, _, 0, h => h
  | _, _, _ + 1, .nil => .nil
  | _, _, n + 1, .cons _ t => AtAll.drop n t
end

/-! ### slots, states -/
/-- what is known of a slot: nothing; a datum, never changed again; an own object of now this content; a borrowed one (the caller's) -/
inductive Sl where
  | un | val (d : U) | own (d : U) | bor (d : U)
def Sl.cell : Sl → Option U
  | .own d => some d
  | .bor d => some d
  | _ => none
abbrev Sls := List Sl
/-- G: what is frozen; ρ: what is known of the slots; σ: the slots; H: the heap -/
structure Sta where
  G : Hp
  ρ : Sls
  σ : L2.St
  H : Hp
/-- what an own object holds -/
inductive Cell (K : PySem.W.Frag) (G : Hp) : HO → U → Prop
  | lst {xs : List V} {ds : List U} : AtAll K G xs ds → Cell K G (.lst xs) (.lst ds)
  | dic {kvs : List (Key × V)} {ds : List U} : AtAll K G (kvs.map (·.2)) ds → Cell K G (.dK kvs) (.dic (kvs.map (·.1)) ds)
  | dct {kvs : List (List Key × V)} {ds : List U} : AtAll K G (kvs.map (·.2)) ds → Cell K G (.dT kvs) (.dct (kvs.map (·.1)) ds)
  | obj {C dx : Addr} {fs : List (Str × V)} {ds : List U} : AtAll K G (fs.map (·.2)) ds → Cell K G (.ins C dx fs) (.obj C (fs.map (·.1)) ds)
theorem Cell.mono {K : PySem.W.Frag} {G G' : Hp} {o : HO} {d : U} (s : Same G G') (h : Cell K G o d) : Cell K G' o d := by
  cases h with
  | lst h => exact .lst (AtAll.mono s _ _ h)
  | dic h => exact .dic (AtAll.mono s _ _ h)
  | dct h => exact .dct (AtAll.mono s _ _ h)
  | obj h => exact .obj (AtAll.mono s _ _ h)
theorem Cell.at {K : PySem.W.Frag} {G : Hp} {a : Addr} {o : HO} {d : U} (h : Cell K G o d) (e : G a = some o) : At K G (.ref a) d := by
  cases h with
  | lst h => exact .lst e h
  | dic h => exact .dic e h
  | dct h => exact .dct e h
  | obj h => exact .obj e h
/-- slot i holds the own object at a -/
def OwnAt (s : Sta) (i : Nat) (a : Addr) : Prop := (∃ (sl : Sl) (d : U), s.ρ[i]? = some sl ∧ sl.cell = some d) ∧ s.σ[i]? = some (some (.ref a))
def Owns (s : Sta) (a : Addr) : Prop := ∃ i, OwnAt s i a
structure Den (K : PySem.W.Frag) (s : Sta) : Prop where
  sub : Same s.G s.H
  len : s.σ.length = s.ρ.length
  val : ∀ (i : Nat) (d : U), s.ρ[i]? = some (.val d) → ∃ v, s.σ[i]? = some (some v) ∧ At K s.G v d
  own : ∀ (i : Nat) (sl : Sl) (d : U), s.ρ[i]? = some sl → sl.cell = some d → ∃ a o, s.σ[i]? = some (some (.ref a)) ∧ s.G a = none ∧ s.H a = some o ∧ Cell K s.G o d
  dis : ∀ (i j : Nat) (a : Addr), OwnAt s i a → OwnAt s j a → i = j
theorem Cell.notup {K : PySem.W.Frag} {G : Hp} {o : HO} {d : U} (h : Cell K G o d) : ∀ xs, o ≠ .tup xs := by
  cases h <;> exact fun _ e => nomatch e
/-- there, and no tuple -/
def Tem (h : Option HO) : Prop := ∃ o, h = some o ∧ ∀ xs, o ≠ .tup xs
theorem Tem.ne {h : Option HO} (t : Tem h) : h ≠ none := fun e => by
  obtain ⟨o, z, _⟩ := t
  rw [e] at z
  cases z
/-- how a later state stands to an earlier one -/
structure Stp (s s' : Sta) : Prop where
  sub : Same s.G s'.G
  fr : ∀ a o, s.H a = some o → ¬ Owns s a → s'.H a = some o
  dom : ∀ a, s'.H a = none → s.H a = none
  own : ∀ a, Owns s' a → Owns s a ∨ s.H a = none
  gfr : ∀ a, Tem (s.H a) → ¬ Owns s a → s.G a = none → s'.G a = none
  bor : ∀ (i : Nat) (d : U), s.ρ[i]? = some (.bor d) → ∃ d' : U, s'.ρ[i]? = some (.bor d') ∧ s'.σ[i]? = s.σ[i]?
theorem Stp.refl (s : Sta) : Stp s s := ⟨fun _ _ h => h, fun _ _ h _ => h, fun _ h => h, fun _ h => .inl h, fun _ _ _ h => h, fun _ d h => ⟨d, h, rfl⟩⟩
theorem Stp.trans {s s1 s2 : Sta} (x : Stp s s1) (y : Stp s1 s2) : Stp s s2 := by
  have no : ∀ a, s.H a ≠ none → ¬ Owns s a → ¬ Owns s1 a := fun a n h z => by
    rcases x.own a z with z | z
    · exact h z
    · exact n z
  refine ⟨x.sub.trans y.sub, fun a o e n => ?_, fun a h => x.dom a (y.dom a h), fun a h => ?_, fun a n1 n2 h => ?_, fun i d h => ?_⟩
  · exact y.fr a o (x.fr a o e n) (no a (by rw [e]; exact fun z => nomatch z) n)
  · rcases y.own a h with h | h
    · exact x.own a h
    · exact .inr (x.dom a h)
  · obtain ⟨o, e, nt⟩ := n1
    exact y.gfr a ⟨o, x.fr a o e n2, nt⟩ (no a (by rw [e]; exact nofun) n2) (x.gfr a ⟨o, e, nt⟩ n2 h)
  · obtain ⟨d1, h1, e1⟩ := x.bor i d h
    obtain ⟨d2, h2, e2⟩ := y.bor i d1 h1
    exact ⟨d2, h2, e2.trans e1⟩
/-- what an expression gives: a datum; the own object of a slot; a new own object -/
inductive Av where
  | dt (d : U) | sl (i : Nat) | own (d : U)
def AvOk (K : PySem.W.Frag) (s s' : Sta) (v : V) : Av → Prop
  | .dt d => At K s'.G v d
  | .sl i => s'.σ[i]? = some (some v)
  | .own d => ∃ a o, v = .ref a ∧ s'.H a = some o ∧ s'.G a = none ∧ Cell K s'.G o d ∧ ¬ Owns s' a ∧ (s.H a = none ∨ Owns s a)
/-- within an expression -/
structure Nxt (K : PySem.W.Frag) (s s' : Sta) : Prop where
  stp : Stp s s'
  den : Den K s'
  slots : s'.σ = s.σ
theorem Nxt.refl {K : PySem.W.Frag} {s : Sta} (h : Den K s) : Nxt K s s := ⟨Stp.refl s, h, rfl⟩
theorem Nxt.trans {K : PySem.W.Frag} {s s1 s2 : Sta} (x : Nxt K s s1) (y : Nxt K s1 s2) : Nxt K s s2 := ⟨x.stp.trans y.stp, y.den, y.slots.trans x.slots⟩
theorem AvOk.base {K : PySem.W.Frag} {s s1 s2 : Sta} {v : V} {av : Av} (x : Stp s s1) (h : AvOk K s1 s2 v av) : AvOk K s s2 v av := by
  cases av with
  | dt d => exact h
  | sl i => exact h
  | own d =>
    obtain ⟨a, o, h1, h2, h3, h4, h5, h6⟩ := h
    refine ⟨a, o, h1, h2, h3, h4, h5, ?_⟩
    rcases h6 with h | h
    · exact .inl (x.dom a h)
    · rcases x.own a h with h | h
      · exact .inr h
      · exact .inl h
/-- a datum or a slot stays what it is -/
def Av.flat : Av → Prop
  | .own _ => False
  | _ => True
theorem AvOk.next {K : PySem.W.Frag} {s s1 s2 : Sta} {v : V} {av : Av} (f : av.flat) (y : Nxt K s1 s2) (h : AvOk K s s1 v av) : AvOk K s s2 v av := by
  cases av with
  | dt d => exact At.mono y.stp.sub _ _ h
  | sl i =>
    show s2.σ[i]? = _
    rw [y.slots]
    exact h
  | own d => exact f.elim
/-- errors by their data: an own class with fields -/
structure Er where
  C : Addr
  ns : List Str
  xs : List U
def ErOk (K : PySem.W.Frag) (s' : Sta) (cls : Value) (dd : Option Addr) (e : Er) : Prop :=
  cls = .ref e.C ∧ ∃ d fs, dd = some d ∧ s'.H d = some (.xd fs) ∧ fs.map (·.1) = e.ns ∧ AtAll K s'.G (fs.map (·.2)) e.xs
/-- what is wanted of a raise, at the slots and the heap -/
abbrev Wx := Value → Option Addr → L2.St → Hp → Prop
/-- .. in a state's words -/
def XOk (K : PySem.W.Frag) (s : Sta) (W : Wx) (X : Er → Sls → Prop) : Prop :=
  ∀ cls dd e s', Stp s s' → Den K s' → ErOk K s' cls dd e → X e s'.ρ → W cls dd s'.σ s'.H
theorem XOk.next {K : PySem.W.Frag} {s s1 : Sta} {W : Wx} {X : Er → Sls → Prop} (h : XOk K s W X) (n : Stp s s1) : XOk K s1 W X := fun cls dd e s' n2 d ok x => h cls dd e s' (n.trans n2) d ok x

/-! ### readings of expressions by data -/
def Av.fl : Av → Av
  | .own d => .dt d
  | a => a
theorem fl_flat : ∀ a : Av, a.fl.flat
  | .dt _ => trivial
  | .sl _ => trivial
  | .own _ => trivial
def View (ρ : Sls) : Av → U → Prop
  | .dt d', d => d' = d
  | .sl i, d => ∃ sl, ρ[i]? = some sl ∧ (sl = .val d ∨ sl.cell = some d)
  | .own _, _ => False
section
variable {K : PySem.W.Frag} {W : Wx}
/-- what stands behind a value -/
abbrev Cnt (K : PySem.W.Frag) (s : Sta) (Q : Av → Sls → Prop) (Q0 : VK) : Prop := ∀ v av s', Nxt K s s' → AvOk K s s' v av → Q av s'.ρ → Q0 v s'.H
def WE (K : PySem.W.Frag) (W : Wx) (t : TE) (ρ : Sls) (Q : Av → Sls → Prop) (X : Er → Sls → Prop) : Prop :=
  ∀ (s : Sta) (Q0 : VK), s.ρ = ρ → Den K s → XOk K s W X → Cnt K s Q Q0 → t s.σ s.H Q0
def WT (K : PySem.W.Frag) (W : Wx) (t : TT) (ρ : Sls) (Q : Bool → Sls → Prop) (X : Er → Sls → Prop) : Prop :=
  ∀ (s : Sta) (Q0 : Bool → Hp → Prop), s.ρ = ρ → Den K s → XOk K s W X → (∀ b s', Nxt K s s' → Q b s'.ρ → Q0 b s'.H) → t s.σ s.H Q0
inductive AvsOk (K : PySem.W.Frag) (s : Sta) : List V → List Av → Prop
  | nil : AvsOk K s [] []
  | cons {v : V} {vs : List V} {a : Av} {as : List Av} : a.flat → AvOk K s s v a → AvsOk K s vs as → AvsOk K s (v :: vs) (a :: as)
def WA (K : PySem.W.Frag) (W : Wx) (t : TA) (ρ : Sls) (Q : List Av → Sls → Prop) (X : Er → Sls → Prop) : Prop :=
  ∀ (s : Sta) (Q0 : List V → Hp → Prop), s.ρ = ρ → Den K s → XOk K s W X → (∀ vs avs s', Nxt K s s' → AvsOk K s' vs avs → Q avs s'.ρ → Q0 vs s'.H) → t s.σ s.H Q0
theorem Cnt.lift {s s1 : Sta} {Q : Av → Sls → Prop} {Q0 : VK} (k : Cnt K s Q Q0) (n : Nxt K s s1) : Cnt K s1 Q Q0 := fun v av s' n2 ok q => k v av s' (n.trans n2) (ok.base n.stp) q
theorem AvOk.self {s s1 : Sta} {v : V} {av : Av} (f : av.flat) (h : AvOk K s s1 v av) : AvOk K s1 s1 v av := by
  cases av with
  | dt d => exact h
  | sl i => exact h
  | own d => exact f.elim
theorem AvsOk.next {s1 s2 : Sta} (n : Nxt K s1 s2) : ∀ {vs : List V} {as : List Av}, AvsOk K s1 vs as → AvsOk K s2 vs as
  | _, _, .nil => .nil
  | _, _, .cons f h t => .cons f ((AvOk.next f n h).self f) (AvsOk.next n t)
theorem Owns.with_G {s : Sta} {G : Hp} {a : Addr} (h : Owns { s with G := G } a) : Owns s a := h
/-- a new own object is frozen -/
theorem freeze {s s1 : Sta} {v : V} {d : U} (n : Nxt K s s1) (h : AvOk K s s1 v (.own d)) : ∃ s2, s2.ρ = s1.ρ ∧ s2.H = s1.H ∧ Nxt K s s2 ∧ AvOk K s s2 v (.dt d) := by
  obtain ⟨a, o, rfl, h2, h3, h4, h5, h6⟩ := h
  have sub : Same s1.G (upd s1.G a o) := fun b u e => by
    rw [upd_ne (ne_of_none e h3)]
    exact e
  have nown : ∀ i b, OwnAt s1 i b → b ≠ a := fun i b z e => h5 ⟨i, e ▸ z⟩
  refine ⟨{ s1 with G := upd s1.G a o }, rfl, rfl, ⟨⟨n.stp.sub.trans sub, n.stp.fr, n.stp.dom, n.stp.own, fun b n1 n2 e => ?_, n.stp.bor⟩, ⟨fun b u e => ?_, n.den.len, fun i x e => ?_, fun i sl x e1 e2 => ?_, n.den.dis⟩, n.slots⟩, ?_⟩
  · have ne : b ≠ a := by
      rintro rfl
      rcases h6 with h | h
      · obtain ⟨_, z, _⟩ := n1
        rw [h] at z
        cases z
      · exact n2 h
    show upd s1.G a o b = none
    rw [upd_ne ne]
    exact n.stp.gfr b n1 n2 e
  · have e : upd s1.G a o b = some u := e
    by_cases q : b = a
    · subst q
      rw [upd_same] at e
      cases e
      exact h2
    · rw [upd_ne q] at e
      exact n.den.sub b u e
  · obtain ⟨v, e1, e2⟩ := n.den.val i x e
    exact ⟨v, e1, At.mono sub _ _ e2⟩
  · obtain ⟨b, u, e3, e4, e5, e6⟩ := n.den.own i sl x e1 e2
    refine ⟨b, u, e3, ?_, e5, e6.mono sub⟩
    show upd s1.G a o b = none
    rw [upd_ne (nown i b ⟨⟨sl, x, e1, e2⟩, e3⟩)]
    exact e4
  · exact (h4.mono sub).at upd_same
/-- an operand: what is new is frozen at once -/
theorem WE.flat {t : TE} {ρ : Sls} {Q : Av → Sls → Prop} {X : Er → Sls → Prop} (h : WE K W t ρ (fun av ρ' => Q av.fl ρ') X) {s : Sta} {Q0 : VK} (e : s.ρ = ρ) (d : Den K s) (x : XOk K s W X)
    (k : ∀ v av s', Nxt K s s' → av.flat → AvOk K s' s' v av → Q av s'.ρ → Q0 v s'.H) : t s.σ s.H Q0 := by
  refine h s Q0 e d x fun v av s1 n ok q => ?_
  cases av with
  | dt d => exact k v (.dt d) s1 n trivial ok q
  | sl i => exact k v (.sl i) s1 n trivial ok q
  | own d =>
    obtain ⟨s2, e1, e2, n2, ok2⟩ := freeze n ok
    rw [← e2]
    exact k v (.dt d) s2 n2 trivial ok2 (by rw [e1]; exact q)
theorem view_at {s : Sta} {v : V} {av : Av} {d : U} (D : Den K s) (ok : AvOk K s s v av) (w : View s.ρ av d) : At K s.H v d := by
  cases av with
  | dt d' =>
    obtain rfl : d' = d := w
    exact At.mono D.sub _ _ ok
  | sl i =>
    obtain ⟨sl, e, h⟩ := w
    have ok : s.σ[i]? = some (some v) := ok
    rcases h with rfl | h
    · obtain ⟨v', e1, e2⟩ := D.val i d e
      rw [ok] at e1
      cases e1
      exact At.mono D.sub _ _ e2
    · obtain ⟨a, o, e1, _, e3, e4⟩ := D.own i sl d e h
      rw [ok] at e1
      cases e1
      exact (e4.mono D.sub).at e3
  | own _ => exact w.elim
/-- the items of what is looked at: data for ever -/
theorem view_items {s : Sta} {v : V} {av : Av} {d : U} (D : Den K s) (ok : AvOk K s s v av) (w : View s.ρ av d) :
    At K s.G v d ∨ ∃ a o, v = .ref a ∧ s.H a = some o ∧ Cell K s.G o d := by
  cases av with
  | dt d' =>
    obtain rfl : d' = d := w
    exact .inl ok
  | sl i =>
    obtain ⟨sl, e, h⟩ := w
    have ok : s.σ[i]? = some (some v) := ok
    rcases h with rfl | h
    · obtain ⟨v', e1, e2⟩ := D.val i d e
      rw [ok] at e1
      cases e1
      exact .inl e2
    · obtain ⟨a, o, e1, _, e3, e4⟩ := D.own i sl d e h
      rw [ok] at e1
      cases e1
      exact .inr ⟨a, o, rfl, e3, e4⟩
  | own _ => exact w.elim
theorem view_list {s : Sta} {v : V} {av : Av} {ds : List U} (D : Den K s) (ok : AvOk K s s v av) (w : View s.ρ av (.lst ds)) : ∃ a xs, v = .ref a ∧ s.H a = some (.lst xs) ∧ AtAll K s.G xs ds := by
  rcases view_items D ok w with h | ⟨a, o, rfl, h1, h2⟩
  · cases h with
    | lst hs ha => exact ⟨_, _, rfl, D.sub _ _ hs, ha⟩
  · cases h2 with
    | lst h2 => exact ⟨a, _, rfl, h1, h2⟩
theorem view_tup {s : Sta} {v : V} {av : Av} {ds : List U} (D : Den K s) (ok : AvOk K s s v av) (w : View s.ρ av (.tup ds)) : ∃ a xs, v = .ref a ∧ SqT K s.H a xs ∧ AtAll K s.G xs ds := by
  rcases view_items D ok w with h | ⟨a, o, rfl, h1, h2⟩
  · cases h with
    | tup hs ha => exact ⟨_, _, rfl, SqT.of (D.sub _ _ hs), ha⟩
  · cases h2
/-- plain data come as they are -/
theorem at_int {s : Sta} {v : V} {i : Int} (h : AvOk K s s v (.dt (.int i))) : v = .int i := by
  have h : At K s.G v (.int i) := h
  cases h
  rfl
theorem at_str {s : Sta} {v : V} {z : Str} (h : AvOk K s s v (.dt (.str z))) : v = .str z := by
  have h : At K s.G v (.str z) := h
  cases h
  rfl
theorem at_bl {s : Sta} {v : V} {b : Bool} (h : AvOk K s s v (.dt (.bl b))) : v = .bl b := by
  have h : At K s.G v (.bl b) := h
  cases h
  rfl
theorem at_non {s : Sta} {v : V} (h : AvOk K s s v (.dt .non)) : v = .non := by
  have h : At K s.G v .non := h
  cases h
  rfl
/-! ### names, constants -/
variable {X : Er → Sls → Prop} {ρ : Sls}
theorem we_val {i : Nat} {d : U} {Q : Av → Sls → Prop} (e : ρ[i]? = some (.val d)) (q : Q (.dt d) ρ) : WE K W (tVar i) ρ Q X := by
  rintro s Q0 rfl D _ k
  obtain ⟨v, e1, e2⟩ := D.val i d e
  exact ⟨v, e1, k v (.dt d) s (Nxt.refl D) e2 q⟩
theorem we_slot {i : Nat} {sl : Sl} {d : U} {Q : Av → Sls → Prop} (e : ρ[i]? = some sl) (c : sl.cell = some d) (q : Q (.sl i) ρ) : WE K W (tVar i) ρ Q X := by
  rintro s Q0 rfl D _ k
  obtain ⟨a, o, e1, _⟩ := D.own i sl d e c
  exact ⟨_, e1, k _ (.sl i) s (Nxt.refl D) e1 q⟩
theorem we_own {i : Nat} {d : U} {Q : Av → Sls → Prop} (e : ρ[i]? = some (.own d)) (q : Q (.sl i) ρ) : WE K W (tVar i) ρ Q X := we_slot e rfl q
theorem we_bor {i : Nat} {d : U} {Q : Av → Sls → Prop} (e : ρ[i]? = some (.bor d)) (q : Q (.sl i) ρ) : WE K W (tVar i) ρ Q X := we_slot e rfl q
theorem we_c {v : V} {d : U} {Q : Av → Sls → Prop} (h : ∀ G, At K G v d) (q : Q (.dt d) ρ) : WE K W (tC v) ρ Q X := by
  rintro s Q0 rfl D _ k
  exact k v (.dt d) s (Nxt.refl D) (h _) q
theorem we_int {i : Int} {Q : Av → Sls → Prop} (q : Q (.dt (.int i)) ρ) : WE K W (tC (.int i)) ρ Q X := we_c (fun _ => .int i) q
theorem we_str {z : Str} {Q : Av → Sls → Prop} (q : Q (.dt (.str z)) ρ) : WE K W (tC (.str z)) ρ Q X := we_c (fun _ => .str z) q
theorem we_bl {b : Bool} {Q : Av → Sls → Prop} (q : Q (.dt (.bl b)) ρ) : WE K W (tC (.bl b)) ρ Q X := we_c (fun _ => .bl b) q
theorem we_non {Q : Av → Sls → Prop} (q : Q (.dt .non) ρ) : WE K W (tC .non) ρ Q X := we_c (fun _ => .non) q
theorem we_ty {n : String} {Q : Av → Sls → Prop} (q : Q (.dt (.ty n)) ρ) : WE K W (tC (.ty n)) ρ Q X := we_c (fun _ => .ty n) q
theorem we_raw {a : Addr} {Q : Av → Sls → Prop} (q : Q (.dt (.raw a)) ρ) : WE K W (tC (.ref a)) ρ Q X := we_c (fun _ => .raw a) q
/-! ### operators, by values -/
def WR (K : PySem.W.Frag) (W : Wx) (r : R2) (a b : Av) (ρ : Sls) (Q : Av → Sls → Prop) (X : Er → Sls → Prop) : Prop :=
  ∀ (s : Sta) (v w : V) (Q0 : VK), s.ρ = ρ → Den K s → XOk K s W X → AvOk K s s v a → AvOk K s s w b → Cnt K s Q Q0 → r v w s.H Q0
theorem we_op {r : R2} {ta tb : TE} {Q : Av → Sls → Prop} (h : WE K W ta ρ (fun a ρ1 => WE K W tb ρ1 (fun b ρ2 => WR K W r a.fl b.fl ρ2 Q X) X) X) : WE K W (tOp r ta tb) ρ Q X := by
  rintro s Q0 rfl D x k
  refine WE.flat (Q := fun a ρ1 => WE K W tb ρ1 (fun b ρ2 => WR K W r a b.fl ρ2 Q X) X) h rfl D x fun v a s1 n1 f1 ok1 q1 => ?_
  show tb s.σ s1.H _
  rw [← n1.slots]
  refine WE.flat (Q := fun b ρ2 => WR K W r a b ρ2 Q X) q1 rfl n1.den (x.next n1.stp) fun w b s2 n2 f2 ok2 q2 => ?_
  exact q2 s2 v w Q0 rfl n2.den (x.next (n1.trans n2).stp) ((AvOk.next f1 n2 ok1).self f1) ok2 (k.lift (n1.trans n2))
/-- a rule that leaves the heap and gives a datum -/
theorem wr_pure {r : R2} {a b : Av} {d : U} {Q : Av → Sls → Prop} (h : ∀ s v w (Q0 : VK), s.ρ = ρ → Den K s → AvOk K s s v a → AvOk K s s w b → (∀ u, At K s.G u d → Q0 u s.H) → r v w s.H Q0) (q : Q (.dt d) ρ) : WR K W r a b ρ Q X := by
  rintro s v w Q0 rfl D x ok1 ok2 k
  exact h s v w Q0 rfl D ok1 ok2 fun u hu => k u (.dt d) s (Nxt.refl D) hu q
/-! ### tests -/
theorem wt_test {t : TE} {Q : Bool → Sls → Prop} (h : WE K W t ρ (fun a ρ1 => ∃ b, a = .dt (.bl b) ∧ Q b ρ1) X) : WT K W (tTest t) ρ Q X := by
  rintro s Q0 rfl D x k
  refine h s _ rfl D x fun v av s1 n ok ⟨b, e, q⟩ => ?_
  subst e
  have ok : At K s1.G v (.bl b) := ok
  cases ok
  exact ⟨b, rfl, k b s1 n q⟩
theorem wt_b {t : TE} {Q : Bool → Sls → Prop} (h : WE K W t ρ (fun a ρ1 => ∃ b, a = .dt (.bl b) ∧ Q b ρ1) X) : WT K W (tB t) ρ Q X := by
  rintro s Q0 rfl D x k
  refine h s _ rfl D x fun v av s1 n ok ⟨b, e, q⟩ => ?_
  subst e
  have ok : At K s1.G v (.bl b) := ok
  cases ok
  exact ⟨b, rfl, k b s1 n q⟩
theorem WT.go {t : TT} {Q : Bool → Sls → Prop} (h : WT K W t ρ Q X) {s s1 : Sta} {Q0 : Bool → Hp → Prop} (n : Nxt K s s1) (e : s1.ρ = ρ) (x : XOk K s W X) (k : ∀ b s', Nxt K s s' → Q b s'.ρ → Q0 b s'.H) : t s.σ s1.H Q0 := by
  rw [← n.slots]
  exact h s1 Q0 e n.den (x.next n.stp) fun b s2 n2 q => k b s2 (n.trans n2) q
theorem WE.go {t : TE} {Q : Av → Sls → Prop} (h : WE K W t ρ Q X) {s s1 : Sta} {Q0 : VK} (n : Nxt K s s1) (e : s1.ρ = ρ) (x : XOk K s W X) (k : Cnt K s Q Q0) : t s.σ s1.H Q0 := by
  rw [← n.slots]
  exact h s1 Q0 e n.den (x.next n.stp) (k.lift n)
theorem wt_and {t u : TT} {Q : Bool → Sls → Prop} (h : WT K W t ρ (fun b ρ1 => if b = true then WT K W u ρ1 Q X else Q false ρ1) X) : WT K W (tAnd t u) ρ Q X := by
  rintro s Q0 rfl D x k
  refine h s _ rfl D x fun b s1 n q => ?_
  cases b with
  | true => exact iteT ((show WT K W u s1.ρ Q X by simpa using q).go n rfl x k)
  | false => exact iteF (k false s1 n (by simpa using q))
theorem wt_or {t u : TT} {Q : Bool → Sls → Prop} (h : WT K W t ρ (fun b ρ1 => if b = true then Q true ρ1 else WT K W u ρ1 Q X) X) : WT K W (tOr t u) ρ Q X := by
  rintro s Q0 rfl D x k
  refine h s _ rfl D x fun b s1 n q => ?_
  cases b with
  | true => exact iteT (k true s1 n (by simpa using q))
  | false => exact iteF ((show WT K W u s1.ρ Q X by simpa using q).go n rfl x k)
theorem wt_not {t : TT} {Q : Bool → Sls → Prop} (h : WT K W t ρ (fun b ρ1 => Q (!b) ρ1) X) : WT K W (tNot t) ρ Q X := by
  rintro s Q0 rfl D x k
  exact h s _ rfl D x fun b s1 n q => k (!b) s1 n q
theorem wt_yes {Q : Bool → Sls → Prop} (q : Q true ρ) : WT K W tYes ρ Q X := by
  rintro s Q0 rfl D x k
  exact k true s (Nxt.refl D) q
theorem we_if {c : TT} {ta tb : TE} {Q : Av → Sls → Prop} (h : WT K W c ρ (fun b ρ1 => if b = true then WE K W ta ρ1 Q X else WE K W tb ρ1 Q X) X) : WE K W (tIf c ta tb) ρ Q X := by
  rintro s Q0 rfl D x k
  refine h s _ rfl D x fun b s1 n q => ?_
  cases b with
  | true => exact iteT ((show WE K W ta s1.ρ Q X by simpa using q).go n rfl x k)
  | false => exact iteF ((show WE K W tb s1.ρ Q X by simpa using q).go n rfl x k)
theorem we_isN {t : TE} {Q : Av → Sls → Prop} (h : WE K W t ρ (fun a ρ1 => ∃ b, (∀ (s : Sta) v, s.ρ = ρ1 → Den K s → AvOk K s s v a.fl → decide (v = .non) = b) ∧ Q (.dt (.bl b)) ρ1) X) : WE K W (tIsN t) ρ Q X := by
  rintro s Q0 rfl D x k
  refine WE.flat (Q := fun a ρ1 => ∃ b, (∀ (s : Sta) v, s.ρ = ρ1 → Den K s → AvOk K s s v a → decide (v = .non) = b) ∧ Q (.dt (.bl b)) ρ1) h rfl D x fun v av s1 n f ok ⟨b, e, q⟩ => ?_
  rw [e s1 v rfl n.den ok]
  exact k _ (.dt (.bl b)) s1 n (At.bl b) q
/-! ### argument lists, displays -/
theorem wa_nil {Q : List Av → Sls → Prop} (q : Q [] ρ) : WA K W tNil ρ Q X := by
  rintro s Q0 rfl D x k
  exact k [] [] s (Nxt.refl D) .nil q
theorem wa_cons {te : TE} {tr : TA} {Q : List Av → Sls → Prop} (h : WE K W te ρ (fun a ρ1 => WA K W tr ρ1 (fun as ρ2 => Q (a.fl :: as) ρ2) X) X) : WA K W (tCons te tr) ρ Q X := by
  rintro s Q0 rfl D x k
  refine WE.flat (Q := fun a ρ1 => WA K W tr ρ1 (fun as ρ2 => Q (a :: as) ρ2) X) h rfl D x fun v a s1 n1 f1 ok1 q1 => ?_
  show tr s.σ s1.H _
  rw [← n1.slots]
  exact q1 s1 _ rfl n1.den (x.next n1.stp) fun vs as s2 n2 ok2 q2 => k _ _ s2 (n1.trans n2) (.cons f1 ((AvOk.next f1 n2 ok1).self f1) ok2) q2
end

/-! ### states: new objects, slots frozen, slots stored -/
section
variable {K : PySem.W.Frag} {W : Wx}
theorem Den.free {s : Sta} {a : Addr} (D : Den K s) (h : s.H a = none) : s.G a = none ∧ ¬ Owns s a := by
  refine ⟨D.sub.free h, ?_⟩
  rintro ⟨i, ⟨sl, d, e1, e2⟩, e3⟩
  obtain ⟨b, o, e4, _, e5, _⟩ := D.own i sl d e1 e2
  rw [e3] at e4
  cases e4
  rw [h] at e5
  cases e5
/-- a new object is laid -/
theorem lay {s : Sta} {p : Addr} {o : HO} (D : Den K s) (h : s.H p = none) : Nxt K s { s with H := upd s.H p o } := by
  have nn : ∀ {b : Addr} {u : HO}, s.H b = some u → upd s.H p o b = some u := fun {b u} e => by
    rw [upd_ne (ne_of_none e h)]
    exact e
  refine ⟨⟨fun _ _ e => e, fun a u e _ => nn e, fun a e => ?_, fun _ h => .inl h, fun _ _ _ e => e, fun _ d e => ⟨d, e, rfl⟩⟩, ⟨fun b u e => nn (D.sub b u e), D.len, D.val, fun i sl d e1 e2 => ?_, D.dis⟩, rfl⟩
  · have e : upd s.H p o a = none := e
    by_cases q : a = p
    · rw [q, upd_same] at e
      cases e
    · rw [upd_ne q] at e
      exact e
  · obtain ⟨a, u, e3, e4, e5, e6⟩ := D.own i sl d e1 e2
    exact ⟨a, u, e3, e4, nn e5, e6⟩
/-- .. and frozen -/
theorem layF {s : Sta} {p : Addr} {o : HO} (D : Den K s) (h : s.H p = none) : Nxt K s { s with H := upd s.H p o, G := upd s.G p o } ∧ Same s.G (upd s.G p o) := by
  have n := lay (o := o) D h
  obtain ⟨g, no⟩ := D.free h
  have sub : Same s.G (upd s.G p o) := fun b u e => by
    rw [upd_ne (ne_of_none e g)]
    exact e
  refine ⟨⟨⟨sub, n.stp.fr, n.stp.dom, n.stp.own, fun b n1 n2 e => ?_, n.stp.bor⟩, ⟨fun b u e => ?_, n.den.len, fun i x e => ?_, fun i sl x e1 e2 => ?_, n.den.dis⟩, rfl⟩, sub⟩
  · show upd s.G p o b = none
    rw [upd_ne (fun q => n1.ne (by rw [q]; exact h))]
    exact e
  · have e : upd s.G p o b = some u := e
    show upd s.H p o b = some u
    by_cases q : b = p
    · subst q
      rw [upd_same] at e ⊢
      exact e
    · rw [upd_ne q] at e ⊢
      exact D.sub b u e
  · obtain ⟨v, e1, e2⟩ := D.val i x e
    exact ⟨v, e1, At.mono sub _ _ e2⟩
  · obtain ⟨b, u, e3, e4, e5, e6⟩ := n.den.own i sl x e1 e2
    refine ⟨b, u, e3, ?_, e5, e6.mono sub⟩
    show upd s.G p o b = none
    rw [upd_ne ?_]
    · exact e4
    · rintro rfl
      exact no ⟨i, ⟨sl, x, e1, e2⟩, e3⟩
theorem lt_of_get {α : Type} {xs : List α} {i : Nat} {x : α} (e : xs[i]? = some x) : i < xs.length := (List.getElem?_eq_some_iff.mp e).1
theorem get_set {α : Type} {xs : List α} {i j : Nat} {x y : α} (e : (xs.set i x)[j]? = some y) : (j = i ∧ y = x ∧ i < xs.length) ∨ (j ≠ i ∧ xs[j]? = some y) := by
  by_cases h : j = i
  · subst h
    have l : j < xs.length := by
      have := lt_of_get e
      rw [List.length_set] at this
      exact this
    rw [List.getElem?_set_self l] at e
    exact .inl ⟨rfl, (Option.some.inj e).symm, l⟩
  · rw [List.getElem?_set_ne (Ne.symm h)] at e
    exact .inr ⟨h, e⟩
/-- a slot of which less is known -/
theorem Den.weak {s : Sta} {i : Nat} {x : Sl} (D : Den K s) (hx : x = .un ∨ ∃ d, x = .val d ∧ ∃ v, s.σ[i]? = some (some v) ∧ At K s.G v d) : Den K { s with ρ := s.ρ.set i x } := by
  refine ⟨D.sub, by show s.σ.length = (s.ρ.set i x).length; rw [List.length_set]; exact D.len, fun j d e => ?_, fun j sl d e1 e2 => ?_, fun j k a h1 h2 => ?_⟩
  · rcases get_set e with ⟨rfl, rfl, _⟩ | ⟨_, e⟩
    · rcases hx with hx | ⟨d', hx, v, h1, h2⟩
      · cases hx
      · cases hx
        exact ⟨v, h1, h2⟩
    · exact D.val j d e
  · rcases get_set e1 with ⟨rfl, rfl, _⟩ | ⟨_, e⟩
    · rcases hx with rfl | ⟨d', rfl, _⟩
      · cases e2
      · cases e2
    · exact D.own j sl d e e2
  · have f : ∀ {j a}, OwnAt { s with ρ := s.ρ.set i x } j a → OwnAt s j a := fun {j a} h => by
      obtain ⟨⟨sl, d, e1, e2⟩, e3⟩ := h
      rcases get_set e1 with ⟨rfl, rfl, _⟩ | ⟨_, e⟩
      · rcases hx with rfl | ⟨d', rfl, _⟩
        · cases e2
        · cases e2
      · exact ⟨⟨sl, d, e, e2⟩, e3⟩
    exact D.dis j k a (f h1) (f h2)
theorem Owns.weak {s : Sta} {i : Nat} {x : Sl} {G : Hp} (hx : x.cell = none) {a : Addr} (h : Owns { s with ρ := s.ρ.set i x, G := G } a) : Owns s a ∧ ∃ j, j ≠ i ∧ OwnAt s j a := by
  obtain ⟨j, ⟨sl, d, e1, e2⟩, e3⟩ := h
  rcases get_set e1 with ⟨rfl, rfl, _⟩ | ⟨n, e⟩
  · rw [hx] at e2
    cases e2
  · exact ⟨⟨j, ⟨sl, d, e, e2⟩, e3⟩, j, n, ⟨sl, d, e, e2⟩, e3⟩
/-- an own slot is frozen where it is -/
theorem freeze_slot {s : Sta} {i : Nat} {d : U} (D : Den K s) (e : s.ρ[i]? = some (.own d)) : ∃ G, Nxt K s { s with G := G, ρ := s.ρ.set i (.val d) } ∧ Same s.G G ∧ ∃ v, s.σ[i]? = some (some v) ∧ At K G v d := by
  obtain ⟨a, o, e1, e2, e3, e4⟩ := D.own i _ d e rfl
  have oa : OwnAt s i a := ⟨⟨_, d, e, rfl⟩, e1⟩
  have sub : Same s.G (upd s.G a o) := fun b u q => by
    rw [upd_ne (ne_of_none q e2)]
    exact q
  have atd : At K (upd s.G a o) (.ref a) d := (e4.mono sub).at upd_same
  refine ⟨upd s.G a o, ⟨⟨sub, fun b u q _ => q, fun b q => q, fun b h => .inl (Owns.weak rfl h).1, fun b n1 n2 q => ?_, fun j x q => ?_⟩, ⟨fun b u q => ?_, ?_, fun j x q => ?_, fun j sl x q1 q2 => ?_, fun j k b h1 h2 => ?_⟩, rfl⟩, sub, .ref a, e1, atd⟩
  · show upd s.G a o b = none
    rw [upd_ne (fun h => n2 (by rw [h]; exact ⟨i, oa⟩))]
    exact q
  · refine ⟨x, ?_, rfl⟩
    show (s.ρ.set i (.val d))[j]? = _
    rw [List.getElem?_set_ne (fun h => by rw [← h, e] at q; cases q)]
    exact q
  · have q : upd s.G a o b = some u := q
    by_cases h : b = a
    · subst h
      rw [upd_same] at q
      cases q
      exact e3
    · rw [upd_ne h] at q
      exact D.sub b u q
  · show s.σ.length = (s.ρ.set i (.val d)).length
    rw [List.length_set]
    exact D.len
  · rcases get_set q with ⟨rfl, h, _⟩ | ⟨_, q⟩
    · cases h
      exact ⟨.ref a, e1, atd⟩
    · obtain ⟨v, h1, h2⟩ := D.val j x q
      exact ⟨v, h1, At.mono sub _ _ h2⟩
  · rcases get_set q1 with ⟨rfl, h, _⟩ | ⟨n, q⟩
    · subst h
      cases q2
    · obtain ⟨b, u, h1, h2, h3, h4⟩ := D.own j sl x q q2
      refine ⟨b, u, h1, ?_, h3, h4.mono sub⟩
      show upd s.G a o b = none
      rw [upd_ne ?_]
      · exact h2
      · rintro rfl
        exact n (D.dis j i b ⟨⟨sl, x, q, q2⟩, h1⟩ oa)
  · have f : ∀ {j b}, OwnAt { s with G := upd s.G a o, ρ := s.ρ.set i (.val d) } j b → OwnAt s j b := fun {j b} h => by
      obtain ⟨⟨sl, x, q1, q2⟩, q3⟩ := h
      rcases get_set q1 with ⟨rfl, h, _⟩ | ⟨n, q⟩
      · subst h
        cases q2
      · exact ⟨⟨sl, x, q, q2⟩, q3⟩
    exact D.dis j k b (f h1) (f h2)
/-- is no borrowed slot -/
def nb (ρ : Sls) (i : Nat) : Bool := match ρ[i]? with
  | some (.bor _) => false
  | some _ => true
  | none => false
theorem nb_lt {ρ : Sls} {i : Nat} (h : nb ρ i = true) : i < ρ.length ∧ ∀ d, ρ[i]? ≠ some (.bor d) := by
  unfold nb at h
  cases e : ρ[i]? with
  | none => rw [e] at h; cases h
  | some x =>
    refine ⟨lt_of_get e, fun d q => ?_⟩
    cases q
    rw [e] at h
    cases h
/-- a slot is stored: a datum -/
theorem put_val {s : Sta} {i : Nat} {v : V} {d : U} (D : Den K s) (h : nb s.ρ i = true) (hv : At K s.G v d) : Stp s { s with ρ := s.ρ.set i (.val d), σ := s.σ.set i (some v) } ∧ Den K { s with ρ := s.ρ.set i (.val d), σ := s.σ.set i (some v) } := by
  obtain ⟨hl, hb⟩ := nb_lt h
  have hl2 : i < s.σ.length := by rw [D.len]; exact hl
  have f : ∀ {j b}, OwnAt { s with ρ := s.ρ.set i (.val d), σ := s.σ.set i (some v) } j b → j ≠ i ∧ OwnAt s j b := fun {j b} h => by
    obtain ⟨⟨sl, x, q1, q2⟩, q3⟩ := h
    rcases get_set q1 with ⟨rfl, h, _⟩ | ⟨n, q⟩
    · subst h
      cases q2
    · refine ⟨n, ⟨sl, x, q, q2⟩, ?_⟩
      rcases get_set q3 with ⟨h, _⟩ | ⟨_, q3⟩
      · exact absurd h n
      · exact q3
  refine ⟨⟨fun _ _ e => e, fun _ _ e _ => e, fun _ e => e, fun b ⟨j, h⟩ => .inl ⟨j, (f h).2⟩, fun _ _ _ e => e, fun j x e => ?_⟩, ⟨D.sub, ?_, fun j x e => ?_, fun j sl x e1 e2 => ?_, fun j k b h1 h2 => D.dis j k b (f h1).2 (f h2).2⟩⟩
  · have n : i ≠ j := fun q => hb x (by rw [q]; exact e)
    exact ⟨x, by show (s.ρ.set i _)[j]? = _; rw [List.getElem?_set_ne n]; exact e, by show (s.σ.set i _)[j]? = _; rw [List.getElem?_set_ne n]⟩
  · show (s.σ.set i (some v)).length = (s.ρ.set i (.val d)).length
    rw [List.length_set, List.length_set]
    exact D.len
  · rcases get_set e with ⟨rfl, h, _⟩ | ⟨n, e⟩
    · cases h
      exact ⟨v, List.getElem?_set_self hl2, hv⟩
    · obtain ⟨u, h1, h2⟩ := D.val j x e
      exact ⟨u, by show (s.σ.set i _)[j]? = _; rw [List.getElem?_set_ne (Ne.symm n)]; exact h1, h2⟩
  · rcases get_set e1 with ⟨rfl, h, _⟩ | ⟨n, e⟩
    · subst h
      cases e2
    · obtain ⟨b, u, h1, h2, h3, h4⟩ := D.own j sl x e e2
      exact ⟨b, u, by show (s.σ.set i _)[j]? = _; rw [List.getElem?_set_ne (Ne.symm n)]; exact h1, h2, h3, h4⟩
/-- .. a new own object -/
theorem put_own {s0 s : Sta} {i : Nat} {v : V} {d : U} (n0 : Stp s0 s) (D : Den K s) (h : nb s.ρ i = true) (hv : AvOk K s0 s v (.own d)) : Stp s0 { s with ρ := s.ρ.set i (.own d), σ := s.σ.set i (some v) } ∧ Den K { s with ρ := s.ρ.set i (.own d), σ := s.σ.set i (some v) } := by
  obtain ⟨a, o, rfl, v2, v3, v4, v5, v6⟩ := hv
  obtain ⟨hl, hb⟩ := nb_lt h
  have hl2 : i < s.σ.length := by rw [D.len]; exact hl
  have f : ∀ {j b}, OwnAt { s with ρ := s.ρ.set i (.own d), σ := s.σ.set i (some (.ref a)) } j b → (j = i ∧ b = a) ∨ (j ≠ i ∧ OwnAt s j b) := fun {j b} h => by
    obtain ⟨⟨sl, x, q1, q2⟩, q3⟩ := h
    rcases get_set q3 with ⟨rfl, h, _⟩ | ⟨n, q3⟩
    · cases h
      exact .inl ⟨rfl, rfl⟩
    · rcases get_set q1 with ⟨h, _⟩ | ⟨_, q⟩
      · exact absurd h n
      · exact .inr ⟨n, ⟨sl, x, q, q2⟩, q3⟩
  refine ⟨⟨n0.sub, n0.fr, n0.dom, fun b ⟨j, h⟩ => ?_, n0.gfr, fun j x e => ?_⟩, ⟨D.sub, ?_, fun j x e => ?_, fun j sl x e1 e2 => ?_, fun j k b h1 h2 => ?_⟩⟩
  · rcases f h with ⟨_, rfl⟩ | ⟨_, h⟩
    · exact v6.elim .inr .inl
    · exact n0.own b ⟨j, h⟩
  · obtain ⟨x', e1, e2⟩ := n0.bor j x e
    have n : i ≠ j := fun q => hb x' (by rw [q]; exact e1)
    exact ⟨x', by show (s.ρ.set i _)[j]? = _; rw [List.getElem?_set_ne n]; exact e1, by show (s.σ.set i _)[j]? = _; rw [List.getElem?_set_ne n]; exact e2⟩
  · show (s.σ.set i _).length = (s.ρ.set i _).length
    rw [List.length_set, List.length_set]
    exact D.len
  · rcases get_set e with ⟨rfl, h, _⟩ | ⟨n, e⟩
    · cases h
    · obtain ⟨u, h1, h2⟩ := D.val j x e
      exact ⟨u, by show (s.σ.set i _)[j]? = _; rw [List.getElem?_set_ne (Ne.symm n)]; exact h1, h2⟩
  · rcases get_set e1 with ⟨rfl, h, _⟩ | ⟨n, e⟩
    · subst h
      cases e2
      exact ⟨a, o, List.getElem?_set_self hl2, v3, v2, v4⟩
    · obtain ⟨b, u, h1, h2, h3, h4⟩ := D.own j sl x e e2
      exact ⟨b, u, by show (s.σ.set i _)[j]? = _; rw [List.getElem?_set_ne (Ne.symm n)]; exact h1, h2, h3, h4⟩
  · rcases f h1 with ⟨rfl, rfl⟩ | ⟨m1, h1⟩ <;> rcases f h2 with ⟨hk, hba⟩ | ⟨m2, h2⟩
    · exact hk.symm
    · exact absurd ⟨k, h2⟩ v5
    · exact absurd ⟨j, hba ▸ h1⟩ v5
    · exact D.dis j k b h1 h2
/-! ### displays -/
/-- own slots among operands are frozen; what they are then -/
inductive Frz : Sls → List Av → List U → Sls → Prop
  | nil {ρ : Sls} : Frz ρ [] [] ρ
  | dt {ρ ρ' : Sls} {d : U} {as : List Av} {ds : List U} : Frz ρ as ds ρ' → Frz ρ (.dt d :: as) (d :: ds) ρ'
  | sl {ρ ρ' : Sls} {i : Nat} {d : U} {as : List Av} {ds : List U} : ρ[i]? = some (.own d) → Frz (ρ.set i (.val d)) as ds ρ' → Frz ρ (.sl i :: as) (d :: ds) ρ'
  | va {ρ ρ' : Sls} {i : Nat} {d : U} {as : List Av} {ds : List U} : ρ[i]? = some (.val d) → Frz ρ as ds ρ' → Frz ρ (.sl i :: as) (d :: ds) ρ'
theorem Frz.run : ∀ {ρ ρ' : Sls} {as : List Av} {ds : List U}, Frz ρ as ds ρ' → ∀ {s : Sta} {vs : List V}, s.ρ = ρ → Den K s → AvsOk K s vs as → ∃ s2, s2.ρ = ρ' ∧ s2.H = s.H ∧ Nxt K s s2 ∧ AtAll K s2.G vs ds
  | _, _, _, _, .nil, s, _, e, D, .nil => ⟨s, e, rfl, Nxt.refl D, .nil⟩
  | _, _, _, _, .dt f, s, _, e, D, .cons _ h t => by
    obtain ⟨s2, e1, e2, n, q⟩ := Frz.run f e D t
    exact ⟨s2, e1, e2, n, .cons (At.mono n.stp.sub _ _ h) q⟩
  | _, _, _, _, .sl (i := i) e0 f, s, _, e, D, .cons _ h t => by
    subst e
    obtain ⟨G, n, sub, v, h1, h2⟩ := freeze_slot D e0
    obtain ⟨s2, e1, e2, n2, q⟩ := Frz.run f (s := { s with G := G, ρ := s.ρ.set i _ }) rfl n.den (AvsOk.next n t)
    have h : s.σ[i]? = some (some _) := h
    rw [h] at h1
    cases h1
    exact ⟨s2, e1, e2, n.trans n2, .cons (At.mono n2.stp.sub _ _ h2) q⟩
  | _, _, _, _, .va (i := i) e0 f, s, _, e, D, .cons _ h t => by
    subst e
    obtain ⟨s2, e1, e2, n, q⟩ := Frz.run f rfl D t
    have h : s.σ[i]? = some (some _) := h
    obtain ⟨v, h1, h2⟩ := D.val i _ e0
    rw [h] at h1
    cases h1
    exact ⟨s2, e1, e2, n, .cons (At.mono n.stp.sub _ _ h2) q⟩
variable {X : Er → Sls → Prop} {ρ : Sls}
theorem we_tup {t : TA} {Q : Av → Sls → Prop} (h : WA K W t ρ (fun as ρ1 => ∃ ds ρ2, Frz ρ1 as ds ρ2 ∧ ds.length ≤ 1000 ∧ Q (.dt (.tup ds)) ρ2) X) : WE K W (tTup t) ρ Q X := by
  rintro s Q0 rfl D x k
  refine h s _ rfl D x fun vs as s1 n1 ok ⟨ds, ρ2, f, hl, q⟩ => ?_
  obtain ⟨s2, e1, e2, n2, hd⟩ := f.run rfl n1.den ok
  refine ⟨Nat.le_of_lt (small1000 (by rw [hd.length]; exact hl)), fun p hp => ?_⟩
  rw [← e2] at hp ⊢
  obtain ⟨n3, sub⟩ := layF (o := .tup vs) n2.den hp
  exact k (.ref p) (.dt (.tup ds)) _ (n1.trans (n2.trans n3)) (.tup upd_same (AtAll.mono sub _ _ hd)) (by show Q _ s2.ρ; rw [e1]; exact q)
theorem we_lst {t : TA} {Q : Av → Sls → Prop} (h : WA K W t ρ (fun as ρ1 => ∃ ds ρ2, Frz ρ1 as ds ρ2 ∧ ds.length ≤ 1000 ∧ Q (.own (.lst ds)) ρ2) X) : WE K W (tLst t) ρ Q X := by
  rintro s Q0 rfl D x k
  refine h s _ rfl D x fun vs as s1 n1 ok ⟨ds, ρ2, f, hl, q⟩ => ?_
  obtain ⟨s2, e1, e2, n2, hd⟩ := f.run rfl n1.den ok
  refine ⟨Nat.le_of_lt (small1000 (by rw [hd.length]; exact hl)), fun p hp => ?_⟩
  rw [← e2] at hp ⊢
  have n3 := lay (o := .lst vs) n2.den hp
  have n12 := n1.trans n2
  obtain ⟨g, no⟩ := n2.den.free hp
  exact k (.ref p) (.own (.lst ds)) _ (n12.trans n3) ⟨p, .lst vs, rfl, upd_same, g, .lst hd, no, .inl (n12.stp.dom p hp)⟩ (by show Q _ s2.ρ; rw [e1]; exact q)
theorem we_dnewK {Q : Av → Sls → Prop} (q : Q (.own (.dic [] [])) ρ) : WE K W tDNewK ρ Q X := by
  rintro s Q0 rfl D x k p hp
  have n3 := lay (o := .dK []) D hp
  obtain ⟨g, no⟩ := D.free hp
  exact k (.ref p) (.own (.dic [] [])) _ n3 ⟨p, .dK [], rfl, upd_same, g, .dic (kvs := []) .nil, no, .inl hp⟩ q
theorem we_dnewT {Q : Av → Sls → Prop} (q : Q (.own (.dct [] [])) ρ) : WE K W tDNewT ρ Q X := by
  rintro s Q0 rfl D x k p hp
  have n3 := lay (o := .dT []) D hp
  obtain ⟨g, no⟩ := D.free hp
  exact k (.ref p) (.own (.dct [] [])) _ n3 ⟨p, .dT [], rfl, upd_same, g, .dct (kvs := []) .nil, no, .inl hp⟩ q
/-! ### statements -/
structure Post where
  nx : Sls → Prop
  rt : Av → Sls → Prop
  bk : Sls → Prop := fun _ => False
  ct : Sls → Prop := fun _ => False
  xc : Er → Sls → Prop := fun _ _ => False
structure Fin (K : PySem.W.Frag) (s : Sta) (D : Ends) (P : Post) : Prop where
  nx : ∀ s', Stp s s' → Den K s' → P.nx s'.ρ → D.nx s'.σ s'.H
  rt : ∀ v av s', Stp s s' → Den K s' → AvOk K s s' v av → P.rt av s'.ρ → D.rt v s'.H
  bk : ∀ s', Stp s s' → Den K s' → P.bk s'.ρ → D.bk s'.σ s'.H
  ct : ∀ s', Stp s s' → Den K s' → P.ct s'.ρ → D.ct s'.σ s'.H
theorem Fin.next {s s1 : Sta} {D : Ends} {P : Post} (f : Fin K s D P) (n : Stp s s1) : Fin K s1 D P :=
  ⟨fun s' m d q => f.nx s' (n.trans m) d q, fun v av s' m d ok q => f.rt v av s' (n.trans m) d (ok.base n) q, fun s' m d q => f.bk s' (n.trans m) d q, fun s' m d q => f.ct s' (n.trans m) d q⟩
def WS (K : PySem.W.Frag) (W : Wx) (t : TS) (ρ : Sls) (P : Post) : Prop :=
  ∀ (s : Sta) (D : Ends), s.ρ = ρ → Den K s → XOk K s W P.xc → Fin K s D P → t D s.σ s.H
variable {P : Post}
theorem ws_next (q : P.nx ρ) : WS K W tNext ρ P := by
  rintro s D rfl d x f
  exact f.nx s (Stp.refl s) d q
theorem ws_break (q : P.bk ρ) : WS K W tBreak ρ P := by
  rintro s D rfl d x f
  exact f.bk s (Stp.refl s) d q
theorem ws_cont (q : P.ct ρ) : WS K W tCont ρ P := by
  rintro s D rfl d x f
  exact f.ct s (Stp.refl s) d q
theorem ws_seq {t u : TS} (h : WS K W t ρ { P with nx := fun ρ1 => WS K W u ρ1 P }) : WS K W (tSeq t u) ρ P := by
  rintro s D rfl d x f
  exact h s { D with nx := u D } rfl d x ⟨fun s1 n d1 q => q s1 D rfl d1 (x.next n) (f.next n), f.rt, f.bk, f.ct⟩
theorem ws_drop {te : TE} (h : WE K W te ρ (fun _ ρ1 => P.nx ρ1) P.xc) : WS K W (tDrop te) ρ P := by
  rintro s D rfl d x f
  refine h s _ rfl d x fun v av s1 n ok q => ?_
  rw [← n.slots]
  exact f.nx s1 n.stp n.den q
/-- what a return gives out -/
def Rt (a : Av) (ρ : Sls) (N : Av → Sls → Prop) : Prop := match a with
  | .sl i => (∃ d, ρ[i]? = some (.own d) ∧ N (.own d) (ρ.set i .un)) ∨ ∃ d, ρ[i]? = some (.val d) ∧ N (.dt d) ρ
  | a => N a ρ
theorem ws_ret {te : TE} (h : WE K W te ρ (fun a ρ1 => Rt a ρ1 P.rt) P.xc) : WS K W (tRet te) ρ P := by
  rintro s D rfl d x f
  refine h s _ rfl d x fun v av s1 n ok q => ?_
  cases av with
  | dt z => exact f.rt v (.dt z) s1 n.stp n.den ok q
  | own z => exact f.rt v (.own z) s1 n.stp n.den ok q
  | sl i =>
    have ok : s1.σ[i]? = some (some v) := ok
    rcases q with ⟨z, e, q⟩ | ⟨z, e, q⟩
    · obtain ⟨a, o, e1, e2, e3, e4⟩ := n.den.own i _ z e rfl
      have e0 := e1
      rw [ok] at e1
      cases e1
      have oa : OwnAt s1 i a := ⟨⟨_, z, e, rfl⟩, e0⟩
      refine f.rt (.ref a) (.own z) { s1 with ρ := s1.ρ.set i .un } ⟨n.stp.sub, n.stp.fr, n.stp.dom, fun b h => n.stp.own b (Owns.weak rfl h).1, n.stp.gfr, fun j y h => ?_⟩ (n.den.weak (.inl rfl)) ⟨a, o, rfl, e3, e2, e4, fun h => ?_, (n.stp.own a ⟨i, oa⟩).symm⟩ q
      · obtain ⟨y', h1, h2⟩ := n.stp.bor j y h
        refine ⟨y', ?_, h2⟩
        show (s1.ρ.set i _)[j]? = _
        rw [List.getElem?_set_ne (fun h => by rw [← h, e] at h1; cases h1)]
        exact h1
      · obtain ⟨_, j, nj, h⟩ := Owns.weak (G := s1.G) rfl h
        exact nj (n.den.dis j i a h oa)
    · obtain ⟨v', h1, h2⟩ := n.den.val i z e
      rw [ok] at h1
      cases h1
      exact f.rt v (.dt z) s1 n.stp n.den h2 q
theorem ws_retN (q : P.rt (.dt .non) ρ) : WS K W tRetN ρ P := by
  rintro s D rfl d x f
  exact f.rt .non (.dt .non) s (Stp.refl s) d At.non q
theorem WS.go {t : TS} (h : WS K W t ρ P) {s s1 : Sta} {D : Ends} (n : Nxt K s s1) (e : s1.ρ = ρ) (x : XOk K s W P.xc) (f : Fin K s D P) : t D s.σ s1.H := by
  rw [← n.slots]
  exact h s1 D e n.den (x.next n.stp) (f.next n.stp)
theorem ws_if {c : TT} {t u : TS} (h : WT K W c ρ (fun b ρ1 => if b = true then WS K W t ρ1 P else WS K W u ρ1 P) P.xc) : WS K W (tIfS c t u) ρ P := by
  rintro s D rfl d x f
  refine h s _ rfl d x fun b s1 n q => ?_
  cases b with
  | true => exact iteT ((show WS K W t s1.ρ P by simpa using q).go n rfl x f)
  | false => exact iteF ((show WS K W u s1.ρ P by simpa using q).go n rfl x f)
/-- a value goes into a slot -/
def Put (i : Nat) (a : Av) (ρ : Sls) (N : Sls → Prop) : Prop := nb ρ i = true ∧ match a with
  | .dt d => N (ρ.set i (.val d))
  | .own d => N (ρ.set i (.own d))
  | .sl j => (∃ d, ρ[j]? = some (.own d) ∧ N ((ρ.set j (.val d)).set i (.val d))) ∨ ∃ d, ρ[j]? = some (.val d) ∧ N (ρ.set i (.val d))
theorem nb_set {ρ : Sls} {i j : Nat} {d : U} (h : nb ρ i = true) : nb (ρ.set j (.val d)) i = true := by
  obtain ⟨hl, hb⟩ := nb_lt h
  unfold nb
  cases e : (ρ.set j (.val d))[i]? with
  | none =>
    rw [List.getElem?_eq_none_iff, List.length_set] at e
    omega
  | some x =>
    rcases get_set e with ⟨rfl, rfl, _⟩ | ⟨_, e⟩
    · rfl
    · cases x with
      | bor d => exact absurd e (hb d)
      | _ => rfl
theorem put_run {s s1 : Sta} {i : Nat} {v : V} {av : Av} {N : Sls → Prop} {M : L2.St → Hp → Prop} (n : Nxt K s s1) (ok : AvOk K s s1 v av) (q : Put i av s1.ρ N) (k : ∀ s', Stp s s' → Den K s' → N s'.ρ → M s'.σ s'.H) : M (s.σ.set i (some v)) s1.H := by
  obtain ⟨h, q⟩ := q
  rw [← n.slots]
  cases av with
  | dt d =>
    obtain ⟨a, b⟩ := put_val n.den h ok
    exact k _ (n.stp.trans a) b q
  | own d =>
    obtain ⟨a, b⟩ := put_own n.stp n.den h ok
    exact k _ a b q
  | sl j =>
    have ok : s1.σ[j]? = some (some v) := ok
    rcases q with ⟨d, e, q⟩ | ⟨d, e, q⟩
    · obtain ⟨G, n2, sub, v', h1, h2⟩ := freeze_slot n.den e
      rw [ok] at h1
      cases h1
      obtain ⟨a, b⟩ := put_val (i := i) n2.den (nb_set h) h2
      exact k _ ((n.trans n2).stp.trans a) b q
    · obtain ⟨v', h1, h2⟩ := n.den.val j d e
      rw [ok] at h1
      cases h1
      obtain ⟨a, b⟩ := put_val n.den h h2
      exact k _ (n.stp.trans a) b q
theorem ws_set {i : Nat} {te : TE} (h : WE K W te ρ (fun a ρ1 => Put i a ρ1 P.nx) P.xc) : WS K W (tAsg te (gName i)) ρ P := by
  rintro s D rfl d x f
  exact h s _ rfl d x fun v av s1 n ok q => put_run (M := D.nx) n ok q f.nx
theorem ws_aug {i : Nat} {te : TE} {ti : TIp} {dx : U} (e : ρ[i]? = some (.val dx)) (h : WE K W te ρ (fun b ρ1 => ρ1[i]? = some (.val dx) ∧ WR K W ti (.dt dx) b.fl ρ1 (fun a ρ2 => Put i a ρ2 P.nx) P.xc) P.xc) : WS K W (tAug i te ti) ρ P := by
  rintro s D rfl d x f
  obtain ⟨v, e1, e2⟩ := d.val i dx e
  refine ⟨v, e1, ?_⟩
  refine WE.flat (Q := fun b ρ1 => ρ1[i]? = some (.val dx) ∧ WR K W ti (.dt dx) b ρ1 (fun a ρ2 => Put i a ρ2 P.nx) P.xc) h rfl d x fun w b s1 n fb ok ⟨e3, q⟩ => ?_
  exact q s1 v w _ rfl n.den (x.next n.stp) (At.mono n.stp.sub _ _ e2) ok fun u av s2 n2 ok2 q2 => put_run (M := D.nx) (n.trans n2) (ok2.base n.stp) q2 f.nx
end

/-! ### what a def promises, by data -/
/-- what is asked of the arguments, of what is given out (with the arguments as they are then), of what is raised -/
abbrev RU := Sls → (Av → Sls → Prop) → (Er → Sls → Prop) → Prop
def Args (ρ : Sls) : Prop := ∀ (i : Nat) (sl : Sl), ρ[i]? = some sl → (∃ d, sl = .val d) ∨ ∃ d, sl = .bor d
def Av.ns : Av → Prop
  | .sl _ => False
  | _ => True
def spU (K : PySem.W.Frag) (R : RU) : Sp := fun vs H Q E => ∃ (G : Hp) (ρ : Sls), Den K ⟨G, ρ, vs.map some, H⟩ ∧ Args ρ ∧
  R ρ (fun a ρ' => ∀ v s', s'.σ = vs.map some → s'.ρ = ρ' → Den K s' → Stp ⟨G, ρ, vs.map some, H⟩ s' → a.ns → AvOk K ⟨G, ρ, vs.map some, H⟩ s' v a → Q v s'.H)
    (fun e ρ' => ∀ cls dd s', s'.σ = vs.map some → s'.ρ = ρ' → Den K s' → Stp ⟨G, ρ, vs.map some, H⟩ s' → ErOk K s' cls dd e → E cls dd s'.H)
/-- the arguments behind a body: what was borrowed as it is then -/
def out : Sls → Sls → Sls
  | [], _ => []
  | .bor d :: r, [] => .bor d :: out r []
  | .bor _ :: r, x :: r' => x :: out r r'
  | a :: r, [] => a :: out r []
  | a :: r, _ :: r' => a :: out r r'
theorem out_length : ∀ ρ ρ' : Sls, (out ρ ρ').length = ρ.length
  | [], _ => rfl
  | .bor d :: r, [] => by show (out r []).length + 1 = _; rw [out_length r []]; rfl
  | .bor _ :: r, x :: r' => by show (out r r').length + 1 = _; rw [out_length r r']; rfl
  | .val _ :: r, [] => by show (out r []).length + 1 = _; rw [out_length r []]; rfl
  | .val _ :: r, x :: r' => by show (out r r').length + 1 = _; rw [out_length r r']; rfl
  | .un :: r, [] => by show (out r []).length + 1 = _; rw [out_length r []]; rfl
  | .un :: r, x :: r' => by show (out r r').length + 1 = _; rw [out_length r r']; rfl
  | .own _ :: r, [] => by show (out r []).length + 1 = _; rw [out_length r []]; rfl
  | .own _ :: r, x :: r' => by show (out r r').length + 1 = _; rw [out_length r r']; rfl
theorem out_get : ∀ {ρ ρ' : Sls} {i : Nat} {x : Sl}, (out ρ ρ')[i]? = some x → (∃ d, ρ[i]? = some (.bor d) ∧ (ρ'[i]? = some x ∨ (ρ'[i]? = none ∧ x = .bor d))) ∨ ((∀ d, x ≠ .bor d) ∧ ρ[i]? = some x)
  | [], _, _, _, h => by simp [out] at h
  | .bor d :: r, [], 0, x, h => by
    have h : some (Sl.bor d) = some x := h
    cases h
    exact .inl ⟨d, rfl, .inr ⟨rfl, rfl⟩⟩
  | .bor d :: r, [], i + 1, x, h => by
    rcases out_get (ρ := r) (ρ' := []) (i := i) h with ⟨d, h1, h2⟩ | h
    · exact .inl ⟨d, h1, h2⟩
    · exact .inr h
  | .bor d :: r, y :: r', 0, x, h => .inl ⟨d, rfl, .inl h⟩
  | .bor d :: r, y :: r', i + 1, x, h => out_get (ρ := r) (ρ' := r') (i := i) h
  | .val d :: r, [], 0, x, h => by
    have h : some (Sl.val d) = some x := h
    cases h
    exact .inr ⟨fun _ => nofun, rfl⟩
  | .val d :: r, [], i + 1, x, h => by
    rcases out_get (ρ := r) (ρ' := []) (i := i) h with ⟨d, h1, h2⟩ | h
    · exact .inl ⟨d, h1, h2⟩
    · exact .inr h
  | .val d :: r, y :: r', 0, x, h => by
    have h : some (Sl.val d) = some x := h
    cases h
    exact .inr ⟨fun _ => nofun, rfl⟩
  | .val d :: r, y :: r', i + 1, x, h => out_get (ρ := r) (ρ' := r') (i := i) h
  | .un :: r, [], 0, x, h => by
    have h : some Sl.un = some x := h
    cases h
    exact .inr ⟨fun _ => nofun, rfl⟩
  | .un :: r, [], i + 1, x, h => by
    rcases out_get (ρ := r) (ρ' := []) (i := i) h with ⟨d, h1, h2⟩ | h
    · exact .inl ⟨d, h1, h2⟩
    · exact .inr h
  | .un :: r, y :: r', 0, x, h => by
    have h : some Sl.un = some x := h
    cases h
    exact .inr ⟨fun _ => nofun, rfl⟩
  | .un :: r, y :: r', i + 1, x, h => out_get (ρ := r) (ρ' := r') (i := i) h
  | .own d :: r, [], 0, x, h => by
    have h : some (Sl.own d) = some x := h
    cases h
    exact .inr ⟨fun _ => nofun, rfl⟩
  | .own d :: r, [], i + 1, x, h => by
    rcases out_get (ρ := r) (ρ' := []) (i := i) h with ⟨d, h1, h2⟩ | h
    · exact .inl ⟨d, h1, h2⟩
    · exact .inr h
  | .own d :: r, y :: r', 0, x, h => by
    have h : some (Sl.own d) = some x := h
    cases h
    exact .inr ⟨fun _ => nofun, rfl⟩
  | .own d :: r, y :: r', i + 1, x, h => out_get (ρ := r) (ρ' := r') (i := i) h
section
variable {K : PySem.W.Frag} {W : Wx}
theorem get_pad {α : Type} {xs : List α} {k i : Nat} {u x : α} (h : (xs ++ List.replicate k u)[i]? = some x) (n : x ≠ u) : xs[i]? = some x := by
  by_cases l : i < xs.length
  · rw [List.getElem?_append_left l] at h
    exact h
  · rw [List.getElem?_append_right (by omega)] at h
    have := List.mem_of_getElem? h
    exact absurd (List.eq_of_mem_replicate this) n
theorem pad_get {α : Type} {xs ys : List α} {i : Nat} {x : α} (h : xs[i]? = some x) : (xs ++ ys)[i]? = some x := by
  rw [List.getElem?_append_left (lt_of_get h)]
  exact h
/-- a body, from what it is to keep -/
theorem body_U {R : RU} {t : TS} {N : List Str} {vs : List V} {H : Hp} {Q : VK} {E : XK} (h : spU K R vs H Q E)
    (hb : ∀ (ρ : Sls) (Qd : Av → Sls → Prop) (Xd : Er → Sls → Prop), ρ.length = vs.length → R ρ Qd Xd →
      WS K (fun cls dd _ H' => E cls dd H') t (ρ ++ List.replicate (N.length - vs.length) .un) { nx := fun ρ' => Qd (.dt .non) (out ρ ρ'), rt := fun a ρ' => a.ns ∧ Qd a (out ρ ρ'), xc := fun e ρ' => Xd e (out ρ ρ') }) :
    t { nx := fun _ H' => Q .non H', rt := Q } (start N vs) H := by
  obtain ⟨G, ρ, D, ar, hR⟩ := h
  have hl : ρ.length = vs.length := by
    have : (vs.map some).length = ρ.length := D.len
    rw [List.length_map] at this
    exact this.symm
  have s0 : Den K ⟨G, ρ ++ List.replicate (N.length - vs.length) .un, start N vs, H⟩ := by
    have f : ∀ {i a}, OwnAt ⟨G, ρ ++ List.replicate (N.length - vs.length) .un, start N vs, H⟩ i a → OwnAt ⟨G, ρ, vs.map some, H⟩ i a := fun {i a} ⟨⟨sl, d, e1, e2⟩, e3⟩ => by
      refine ⟨⟨sl, d, get_pad e1 (by rintro rfl; cases e2), e2⟩, get_pad e3 nofun⟩
    refine ⟨D.sub, ?_, fun i d e => ?_, fun i sl d e1 e2 => ?_, fun i j a h1 h2 => D.dis i j a (f h1) (f h2)⟩
    · show (vs.map some ++ List.replicate (N.length - vs.length) none).length = (ρ ++ List.replicate (N.length - vs.length) Sl.un).length
      rw [List.length_append, List.length_append, List.length_replicate, List.length_replicate, List.length_map, hl]
    · obtain ⟨v, h1, h2⟩ := D.val i d (get_pad e nofun)
      exact ⟨v, pad_get h1, h2⟩
    · obtain ⟨a, o, h1, h2⟩ := D.own i sl d (get_pad e1 (by rintro rfl; cases e2)) e2
      exact ⟨a, o, pad_get h1, h2⟩
  -- the state behind the body, the arguments alone
  have trim : ∀ s', Stp ⟨G, ρ ++ List.replicate (N.length - vs.length) .un, start N vs, H⟩ s' → Den K s' →
      Den K ⟨s'.G, out ρ s'.ρ, vs.map some, s'.H⟩ ∧ Stp ⟨G, ρ, vs.map some, H⟩ ⟨s'.G, out ρ s'.ρ, vs.map some, s'.H⟩ ∧ (∀ a, Owns ⟨s'.G, out ρ s'.ρ, vs.map some, s'.H⟩ a → Owns s' a) := by
    intro s' n d
    have bo : ∀ {i : Nat} {d : U}, ρ[i]? = some (Sl.bor d) → ∃ d', s'.ρ[i]? = some (Sl.bor d') ∧ s'.σ[i]? = (vs.map some)[i]? := fun {i d} e => by
      obtain ⟨d', h1, h2⟩ := n.bor i d (pad_get e)
      refine ⟨d', h1, h2.trans ?_⟩
      have : i < (vs.map some).length := by rw [List.length_map, ← hl]; exact lt_of_get e
      exact List.getElem?_append_left this
    have f : ∀ {i a}, OwnAt ⟨s'.G, out ρ s'.ρ, vs.map some, s'.H⟩ i a → OwnAt s' i a ∧ OwnAt ⟨G, ρ, vs.map some, H⟩ i a := fun {i a} ⟨⟨sl, x, e1, e2⟩, e3⟩ => by
      rcases out_get e1 with ⟨y, h1, h2⟩ | ⟨h1, h2⟩
      · obtain ⟨d', h3, h4⟩ := bo h1
        refine ⟨⟨⟨.bor d', d', h3, rfl⟩, h4.trans e3⟩, ⟨⟨.bor y, y, h1, rfl⟩, e3⟩⟩
      · rcases ar i sl h2 with ⟨y, rfl⟩ | ⟨y, rfl⟩
        · cases e2
        · exact absurd rfl (h1 y)
    have of : ∀ {i a}, OwnAt ⟨G, ρ, vs.map some, H⟩ i a → OwnAt ⟨G, ρ ++ List.replicate (N.length - vs.length) .un, start N vs, H⟩ i a := fun {i a} ⟨⟨sl, x, e1, e2⟩, e3⟩ => ⟨⟨sl, x, pad_get e1, e2⟩, pad_get e3⟩
    have no : ∀ {a}, ¬ Owns ⟨G, ρ, vs.map some, H⟩ a → ¬ Owns ⟨G, ρ ++ List.replicate (N.length - vs.length) .un, start N vs, H⟩ a := fun {a} h ⟨i, ⟨sl, x, e1, e2⟩, e3⟩ => h ⟨i, ⟨sl, x, get_pad e1 (by rintro rfl; cases e2), e2⟩, get_pad e3 nofun⟩
    refine ⟨⟨d.sub, ?_, fun i x e => ?_, fun i sl x e1 e2 => ?_, fun i j a h1 h2 => d.dis i j a (f h1).1 (f h2).1⟩, ⟨n.sub, fun a o e h => n.fr a o e (no h), n.dom, fun a ⟨i, h⟩ => .inl ⟨i, (f h).2⟩, fun a n1 n2 e => n.gfr a n1 (no n2) e, fun i x e => ?_⟩, fun a ⟨i, h⟩ => ⟨i, (f h).1⟩⟩
    · show (vs.map some).length = (out ρ s'.ρ).length
      rw [out_length, List.length_map, hl]
    · rcases out_get e with ⟨y, h1, h2⟩ | ⟨h1, h2⟩
      · obtain ⟨d', h3, h4⟩ := bo h1
        rcases h2 with h2 | ⟨h2, _⟩
        · rw [h3] at h2
          cases h2
        · rw [h3] at h2
          cases h2
      · obtain ⟨v, e1, e2⟩ := D.val i x h2
        exact ⟨v, e1, At.mono n.sub _ _ e2⟩
    · rcases out_get e1 with ⟨y, h1, h2⟩ | ⟨h1, h2⟩
      · obtain ⟨d', h3, h4⟩ := bo h1
        have : sl = .bor d' := by
          rcases h2 with h2 | ⟨h2, _⟩
          · rw [h3] at h2
            exact (Option.some.inj h2).symm
          · rw [h3] at h2
            cases h2
        subst this
        cases e2
        obtain ⟨a, o, h5, h6⟩ := d.own i _ _ h3 rfl
        exact ⟨a, o, h4.symm.trans h5, h6⟩
      · rcases ar i sl h2 with ⟨y, rfl⟩ | ⟨y, rfl⟩
        · cases e2
        · exact absurd rfl (h1 y)
    · obtain ⟨d', h3, h4⟩ := bo e
      refine ⟨d', ?_, rfl⟩
      cases q : (out ρ s'.ρ)[i]? with
      | none =>
        rw [List.getElem?_eq_none_iff, out_length] at q
        have : i < ρ.length := lt_of_get e
        omega
      | some y =>
        rcases out_get q with ⟨z, h1, h2⟩ | ⟨h1, h2⟩
        · rcases h2 with h2 | ⟨h2, _⟩
          · rw [h3] at h2
            exact congrArg some (Option.some.inj h2).symm
          · rw [h3] at h2
            cases h2
        · rw [e] at h2
          cases h2
          exact absurd rfl (h1 x)
  refine hb ρ _ _ hl hR ⟨G, ρ ++ List.replicate (N.length - vs.length) .un, start N vs, H⟩ _ rfl s0 (fun cls dd e s' n d ok x => ?_) ⟨fun s' n d q => ?_, fun v av s' n d ok q => ?_, fun s' n d q => q.elim, fun s' n d q => q.elim⟩
  · obtain ⟨t1, t2, _⟩ := trim s' n d
    exact x cls dd ⟨s'.G, out ρ s'.ρ, vs.map some, s'.H⟩ rfl rfl t1 t2 ok
  · obtain ⟨t1, t2, _⟩ := trim s' n d
    exact q .non ⟨s'.G, out ρ s'.ρ, vs.map some, s'.H⟩ rfl rfl t1 t2 trivial At.non
  · obtain ⟨t1, t2, t3⟩ := trim s' n d
    obtain ⟨q1, q⟩ := q
    refine q v ⟨s'.G, out ρ s'.ρ, vs.map some, s'.H⟩ rfl rfl t1 t2 q1 ?_
    cases av with
    | dt z => exact ok
    | sl i => exact q1.elim
    | own z =>
      obtain ⟨a, o, h1, h2, h3, h4, h5, h6⟩ := ok
      refine ⟨a, o, h1, h2, h3, h4, fun h => h5 (t3 a h), ?_⟩
      rcases h6 with h | ⟨i, ⟨sl, x, e1, e2⟩, e3⟩
      · exact .inl h
      · exact .inr ⟨i, ⟨sl, x, get_pad e1 (by rintro rfl; cases e2), e2⟩, get_pad e3 nofun⟩
/-! ### calls -/
inductive Arg where
  | va (d : U) | bo (i : Nat) (d : U)
def Arg.slot : Arg → Sl
  | .va d => .val d
  | .bo _ d => .bor d
/-- operands as arguments: data, own objects frozen, own objects lent -/
inductive Pas : Sls → List Av → List Arg → Sls → Prop
  | nil {ρ : Sls} : Pas ρ [] [] ρ
  | dt {ρ ρ' : Sls} {d : U} {as : List Av} {gs : List Arg} : Pas ρ as gs ρ' → Pas ρ (.dt d :: as) (.va d :: gs) ρ'
  | va {ρ ρ' : Sls} {i : Nat} {d : U} {as : List Av} {gs : List Arg} : ρ[i]? = some (.val d) → Pas ρ as gs ρ' → Pas ρ (.sl i :: as) (.va d :: gs) ρ'
  | fz {ρ ρ' : Sls} {i : Nat} {d : U} {as : List Av} {gs : List Arg} : ρ[i]? = some (.own d) → Pas (ρ.set i (.val d)) as gs ρ' → Pas ρ (.sl i :: as) (.va d :: gs) ρ'
  | bo {ρ ρ' : Sls} {i : Nat} {sl : Sl} {d : U} {as : List Av} {gs : List Arg} : Pas ρ as gs ρ' → ρ'[i]? = some sl → sl.cell = some d → Pas ρ (.sl i :: as) (.bo i d :: gs) ρ'
inductive ArgsOk (K : PySem.W.Frag) (s : Sta) : List V → List Arg → Prop
  | nil : ArgsOk K s [] []
  | va {v : V} {d : U} {vs : List V} {gs : List Arg} : At K s.G v d → ArgsOk K s vs gs → ArgsOk K s (v :: vs) (.va d :: gs)
  | bo {v : V} {i : Nat} {sl : Sl} {d : U} {vs : List V} {gs : List Arg} : s.σ[i]? = some (some v) → s.ρ[i]? = some sl → sl.cell = some d → ArgsOk K s vs gs → ArgsOk K s (v :: vs) (.bo i d :: gs)
theorem Pas.run : ∀ {ρ ρ' : Sls} {as : List Av} {gs : List Arg}, Pas ρ as gs ρ' → ∀ {s : Sta} {vs : List V}, s.ρ = ρ → Den K s → AvsOk K s vs as → ∃ s2, s2.ρ = ρ' ∧ s2.H = s.H ∧ Nxt K s s2 ∧ ArgsOk K s2 vs gs
  | _, _, _, _, .nil, s, _, e, D, .nil => ⟨s, e, rfl, Nxt.refl D, .nil⟩
  | _, _, _, _, .dt f, s, _, e, D, .cons _ h t => by
    obtain ⟨s2, e1, e2, n, q⟩ := Pas.run f e D t
    exact ⟨s2, e1, e2, n, .va (At.mono n.stp.sub _ _ h) q⟩
  | _, _, _, _, .va (i := i) e0 f, s, _, e, D, .cons _ h t => by
    subst e
    obtain ⟨s2, e1, e2, n, q⟩ := Pas.run f rfl D t
    have h : s.σ[i]? = some (some _) := h
    obtain ⟨v, h1, h2⟩ := D.val i _ e0
    rw [h] at h1
    cases h1
    exact ⟨s2, e1, e2, n, .va (At.mono n.stp.sub _ _ h2) q⟩
  | _, _, _, _, .fz (i := i) e0 f, s, _, e, D, .cons _ h t => by
    subst e
    obtain ⟨G, n, sub, v, h1, h2⟩ := freeze_slot D e0
    obtain ⟨s2, e1, e2, n2, q⟩ := Pas.run f (s := { s with G := G, ρ := s.ρ.set i _ }) rfl n.den (AvsOk.next n t)
    have h : s.σ[i]? = some (some _) := h
    rw [h] at h1
    cases h1
    exact ⟨s2, e1, e2, n.trans n2, .va (At.mono n2.stp.sub _ _ h2) q⟩
  | _, _, _, _, .bo (i := i) f e1 e2, s, _, e, D, .cons _ h t => by
    obtain ⟨s2, e3, e4, n, q⟩ := Pas.run f e D t
    have h : s.σ[i]? = some (some _) := h
    exact ⟨s2, e3, e4, n, .bo (by rw [n.slots]; exact h) (by rw [e3]; exact e1) e2 q⟩
/-- no object is lent twice -/
def sep : List Arg → Bool
  | [] => true
  | .va _ :: r => sep r
  | .bo i _ :: r => !(r.any fun g => match g with | .bo j _ => j == i | .va _ => false) && sep r
theorem sep_ix : ∀ {gs : List Arg} {p q i : Nat} {d e : U}, sep gs = true → gs[p]? = some (.bo i d) → gs[q]? = some (.bo i e) → p = q
  | [], _, _, _, _, _, _, h, _ => by simp at h
  | .va _ :: r, 0, _, _, _, _, _, h, _ => by simp at h
  | .va _ :: r, _ + 1, 0, _, _, _, _, _, h => by simp at h
  | .va _ :: r, p + 1, q + 1, _, _, _, s, h1, h2 => congrArg (· + 1) (sep_ix (gs := r) s (by simpa using h1) (by simpa using h2))
  | .bo j x :: r, 0, 0, _, _, _, _, _, _ => rfl
  | .bo j x :: r, 0, q + 1, i, d, e, s, h1, h2 => by
    have s : (!(r.any fun g => match g with | .bo k _ => k == j | .va _ => false) && sep r) = true := s
    rw [Bool.and_eq_true] at s
    have h1 : j = i := by
      have : some (Arg.bo j x) = some (Arg.bo i d) := h1
      cases this
      rfl
    subst h1
    have m := List.mem_of_getElem? (show r[q]? = some (.bo j e) by simpa using h2)
    have : (r.any fun g => match g with | .bo k _ => k == j | .va _ => false) = true := List.any_eq_true.mpr ⟨_, m, beq_self_eq_true j⟩
    rw [this] at s
    cases s.1
  | .bo j x :: r, p + 1, 0, i, d, e, s, h1, h2 => by
    have s : (!(r.any fun g => match g with | .bo k _ => k == j | .va _ => false) && sep r) = true := s
    rw [Bool.and_eq_true] at s
    have h2 : j = i := by
      have : some (Arg.bo j x) = some (Arg.bo i e) := h2
      cases this
      rfl
    subst h2
    have m := List.mem_of_getElem? (show r[p]? = some (.bo j d) by simpa using h1)
    have : (r.any fun g => match g with | .bo k _ => k == j | .va _ => false) = true := List.any_eq_true.mpr ⟨_, m, beq_self_eq_true j⟩
    rw [this] at s
    cases s.1
  | .bo j x :: r, p + 1, q + 1, i, d, e, s, h1, h2 => by
    have s : (!(r.any fun g => match g with | .bo k _ => k == j | .va _ => false) && sep r) = true := s
    rw [Bool.and_eq_true] at s
    exact congrArg (· + 1) (sep_ix (gs := r) s.2 (by simpa using h1) (by simpa using h2))
/-- an own or borrowed slot has another content -/
def setC (ρ : Sls) (i : Nat) (d : U) : Sls := match ρ[i]? with
  | some (.own _) => ρ.set i (.own d)
  | some (.bor _) => ρ.set i (.bor d)
  | _ => ρ
/-- the caller's slots behind a call -/
def upds : Sls → List Arg → Sls → Sls
  | ρ, .va _ :: gs, _ :: r => upds ρ gs r
  | ρ, .bo i _ :: gs, .bor d :: r => upds (setC ρ i d) gs r
  | ρ, .bo _ _ :: gs, _ :: r => upds ρ gs r
  | ρ, _, _ => ρ
theorem setC_length (ρ : Sls) (i : Nat) (d : U) : (setC ρ i d).length = ρ.length := by
  unfold setC
  split <;> first | rw [List.length_set] | rfl
theorem setC_get {ρ : Sls} {i j : Nat} {d : U} {x : Sl} (h : (setC ρ i d)[j]? = some x) : (ρ[j]? = some x ∧ (j ≠ i ∨ x.cell = none)) ∨ (j = i ∧ x.cell = some d ∧ ∃ y, ρ[i]? = some y ∧ ((x = .own d ∧ ∃ z, y = .own z) ∨ (x = .bor d ∧ ∃ z, y = .bor z))) := by
  unfold setC at h
  split at h
  · rename_i z e
    rcases get_set h with ⟨rfl, rfl, _⟩ | ⟨n, h⟩
    · exact .inr ⟨rfl, rfl, _, e, .inl ⟨rfl, z, rfl⟩⟩
    · exact .inl ⟨h, .inl n⟩
  · rename_i z e
    rcases get_set h with ⟨rfl, rfl, _⟩ | ⟨n, h⟩
    · exact .inr ⟨rfl, rfl, _, e, .inr ⟨rfl, z, rfl⟩⟩
    · exact .inl ⟨h, .inl n⟩
  · rename_i n1 n2
    refine .inl ⟨h, ?_⟩
    by_cases q : j = i
    · subst q
      right
      cases x with
      | own z => exact absurd h (n1 z)
      | bor z => exact absurd h (n2 z)
      | _ => rfl
    · exact .inl q
/-- where the content of a slot behind a call comes from -/
theorem upds_get : ∀ {gs : List Arg} {ρ r : Sls} {j : Nat} {x : Sl}, (upds ρ gs r)[j]? = some x →
    (∃ (p : Nat) (z d : U), gs[p]? = some (Arg.bo j z) ∧ r[p]? = some (Sl.bor d) ∧ x.cell = some d ∧ ∃ y, ρ[j]? = some y ∧ y.cell.isSome = true ∧ ((∃ u, x = .bor u) ↔ ∃ u, y = .bor u)) ∨ (ρ[j]? = some x ∧ (x.cell.isSome = true → ∀ (p : Nat) (z d : U), gs[p]? = some (Arg.bo j z) → r[p]? ≠ some (Sl.bor d)))
  | [], ρ, r, j, x, h => by
    have h : ρ[j]? = some x := by cases r <;> exact h
    exact .inr ⟨h, fun _ p z d e => by simp at e⟩
  | .va a :: gs, ρ, [], j, x, h => .inr ⟨h, fun _ p z d _ e => by simp at e⟩
  | .bo i a :: gs, ρ, [], j, x, h => .inr ⟨h, fun _ p z d _ e => by simp at e⟩
  | .va a :: gs, ρ, y :: r, j, x, h => by
    rcases upds_get (gs := gs) (ρ := ρ) (r := r) h with ⟨p, z, d, h1, h2, h3⟩ | ⟨h1, h2⟩
    · exact .inl ⟨p + 1, z, d, by simpa using h1, by simpa using h2, h3⟩
    · refine .inr ⟨h1, fun c p z d e1 e2 => ?_⟩
      cases p with
      | zero => simp at e1
      | succ p => exact h2 c p z d (by simpa using e1) (by simpa using e2)
  | .bo i a :: gs, ρ, .bor d0 :: r, j, x, h => by
    have h : (upds (setC ρ i d0) gs r)[j]? = some x := h
    rcases upds_get (gs := gs) (ρ := setC ρ i d0) (r := r) h with ⟨p, z, d, h1, h2, h3, y, h4, h5, h6⟩ | ⟨h1, h2⟩
    · refine .inl ⟨p + 1, z, d, by simpa using h1, by simpa using h2, h3, ?_⟩
      rcases setC_get h4 with ⟨h7, _⟩ | ⟨rfl, h7, w, h8, h9⟩
      · exact ⟨y, h7, h5, h6⟩
      · refine ⟨w, h8, ?_, ?_⟩
        · rcases h9 with ⟨_, u, rfl⟩ | ⟨_, u, rfl⟩ <;> rfl
        · rw [h6]
          rcases h9 with ⟨rfl, u, rfl⟩ | ⟨rfl, u, rfl⟩
          · exact ⟨fun ⟨u, e⟩ => (nomatch e), fun ⟨u, e⟩ => (nomatch e)⟩
          · exact ⟨fun _ => ⟨u, rfl⟩, fun _ => ⟨_, rfl⟩⟩
    · rcases setC_get h1 with ⟨h7, h8⟩ | ⟨rfl, h7, w, h8, h9⟩
      · refine .inr ⟨h7, fun c p z d e1 e2 => ?_⟩
        cases p with
        | zero =>
          have e1 : some (Arg.bo i a) = some (Arg.bo j z) := e1
          cases e1
          rcases h8 with h8 | h8
          · exact h8 rfl
          · rw [h8] at c
            cases c
        | succ p => exact h2 c p z d (by simpa using e1) (by simpa using e2)
      · refine .inl ⟨0, a, d0, rfl, rfl, h7, w, h8, ?_, ?_⟩
        · rcases h9 with ⟨_, u, rfl⟩ | ⟨_, u, rfl⟩ <;> rfl
        · rcases h9 with ⟨rfl, u, rfl⟩ | ⟨rfl, u, rfl⟩
          · exact ⟨fun ⟨u, e⟩ => (nomatch e), fun ⟨u, e⟩ => (nomatch e)⟩
          · exact ⟨fun _ => ⟨u, rfl⟩, fun _ => ⟨_, rfl⟩⟩
  | .bo i a :: gs, ρ, .un :: r, j, x, h => by
    rcases upds_get (gs := gs) (ρ := ρ) (r := r) h with ⟨p, z, d, h1, h2, h3⟩ | ⟨h1, h2⟩
    · exact .inl ⟨p + 1, z, d, by simpa using h1, by simpa using h2, h3⟩
    · refine .inr ⟨h1, fun c p z d e1 e2 => ?_⟩
      cases p with
      | zero => simp at e2
      | succ p => exact h2 c p z d (by simpa using e1) (by simpa using e2)
  | .bo i a :: gs, ρ, .val _ :: r, j, x, h => by
    rcases upds_get (gs := gs) (ρ := ρ) (r := r) h with ⟨p, z, d, h1, h2, h3⟩ | ⟨h1, h2⟩
    · exact .inl ⟨p + 1, z, d, by simpa using h1, by simpa using h2, h3⟩
    · refine .inr ⟨h1, fun c p z d e1 e2 => ?_⟩
      cases p with
      | zero => simp at e2
      | succ p => exact h2 c p z d (by simpa using e1) (by simpa using e2)
  | .bo i a :: gs, ρ, .own _ :: r, j, x, h => by
    rcases upds_get (gs := gs) (ρ := ρ) (r := r) h with ⟨p, z, d, h1, h2, h3⟩ | ⟨h1, h2⟩
    · exact .inl ⟨p + 1, z, d, by simpa using h1, by simpa using h2, h3⟩
    · refine .inr ⟨h1, fun c p z d e1 e2 => ?_⟩
      cases p with
      | zero => simp at e2
      | succ p => exact h2 c p z d (by simpa using e1) (by simpa using e2)
theorem upds_length : ∀ (gs : List Arg) (ρ r : Sls), (upds ρ gs r).length = ρ.length
  | [], ρ, [] => rfl
  | [], ρ, _ :: _ => rfl
  | .va _ :: gs, ρ, [] => rfl
  | .bo _ _ :: gs, ρ, [] => rfl
  | .va _ :: gs, ρ, _ :: r => upds_length gs ρ r
  | .bo i _ :: gs, ρ, .bor d :: r => (upds_length gs (setC ρ i d) r).trans (setC_length ρ i d)
  | .bo _ _ :: gs, ρ, .un :: r => upds_length gs ρ r
  | .bo _ _ :: gs, ρ, .val _ :: r => upds_length gs ρ r
  | .bo _ _ :: gs, ρ, .own _ :: r => upds_length gs ρ r
theorem setC_bor {ρ : Sls} {i j : Nat} {d x : U} (h : ρ[j]? = some (.bor x)) : ∃ y, (setC ρ i d)[j]? = some (.bor y) := by
  unfold setC
  split
  · rename_i z e
    by_cases q : i = j
    · subst q
      rw [h] at e
      cases e
    · exact ⟨x, by rw [List.getElem?_set_ne q]; exact h⟩
  · rename_i z e
    by_cases q : i = j
    · subst q
      exact ⟨d, List.getElem?_set_self (lt_of_get h)⟩
    · exact ⟨x, by rw [List.getElem?_set_ne q]; exact h⟩
  · exact ⟨x, h⟩
theorem upds_bor : ∀ (gs : List Arg) {ρ r : Sls} {j : Nat} {x : U}, ρ[j]? = some (.bor x) → ∃ y, (upds ρ gs r)[j]? = some (.bor y)
  | [], _, [], _, x, h => ⟨x, h⟩
  | [], _, _ :: _, _, x, h => ⟨x, h⟩
  | .va _ :: gs, _, [], _, x, h => ⟨x, h⟩
  | .bo _ _ :: gs, _, [], _, x, h => ⟨x, h⟩
  | .va _ :: gs, ρ, _ :: r, _, _, h => upds_bor gs (r := r) h
  | .bo i _ :: gs, ρ, .bor d :: r, _, _, h => by
    obtain ⟨y, e⟩ := setC_bor (i := i) (d := d) h
    exact upds_bor gs (r := r) e
  | .bo _ _ :: gs, ρ, .un :: r, _, _, h => upds_bor gs (r := r) h
  | .bo _ _ :: gs, ρ, .val _ :: r, _, _, h => upds_bor gs (r := r) h
  | .bo _ _ :: gs, ρ, .own _ :: r, _, _, h => upds_bor gs (r := r) h
theorem ArgsOk.get {s : Sta} : ∀ {vs : List V} {gs : List Arg} {p : Nat} {g : Arg}, ArgsOk K s vs gs → gs[p]? = some g → ∃ v, vs[p]? = some v ∧ match g with
    | .va d => At K s.G v d
    | .bo i d => s.σ[i]? = some (some v) ∧ ∃ sl, s.ρ[i]? = some sl ∧ sl.cell = some d
  | _, _, _, _, .nil, e => by simp at e
  | _, _, 0, g, .va h t, e => by
    have e : some (Arg.va _) = some g := e
    cases e
    exact ⟨_, rfl, h⟩
  | _, _, 0, g, .bo h1 h2 h3 t, e => by
    have e : some (Arg.bo _ _) = some g := e
    cases e
    exact ⟨_, rfl, h1, _, h2, h3⟩
  | _, _, p + 1, g, .va h t, e => by
    obtain ⟨v, h1, h2⟩ := ArgsOk.get t (p := p) (by simpa using e)
    exact ⟨v, by simpa using h1, h2⟩
  | _, _, p + 1, g, .bo _ _ _ t, e => by
    obtain ⟨v, h1, h2⟩ := ArgsOk.get t (p := p) (by simpa using e)
    exact ⟨v, by simpa using h1, h2⟩
theorem ArgsOk.length {s : Sta} : ∀ {vs : List V} {gs : List Arg}, ArgsOk K s vs gs → vs.length = gs.length
  | _, _, .nil => rfl
  | _, _, .va _ t => congrArg (· + 1) (ArgsOk.length t)
  | _, _, .bo _ _ _ t => congrArg (· + 1) (ArgsOk.length t)
/-- the callee's state at its entry -/
theorem callee_den {s : Sta} {vs : List V} {gs : List Arg} (D : Den K s) (ok : ArgsOk K s vs gs) (hs : sep gs = true) :
    Den K ⟨s.G, gs.map Arg.slot, vs.map some, s.H⟩ ∧ Args (gs.map Arg.slot) ∧ (∀ p a, OwnAt ⟨s.G, gs.map Arg.slot, vs.map some, s.H⟩ p a → ∃ i d, gs[p]? = some (.bo i d) ∧ OwnAt s i a) := by
  have f : ∀ p a, OwnAt ⟨s.G, gs.map Arg.slot, vs.map some, s.H⟩ p a → ∃ i d, gs[p]? = some (.bo i d) ∧ OwnAt s i a := by
    rintro p a ⟨⟨sl, d, e1, e2⟩, e3⟩
    have e1 : (gs.map Arg.slot)[p]? = some sl := e1
    rw [List.getElem?_map] at e1
    cases e : gs[p]? with
    | none => rw [e] at e1; cases e1
    | some g =>
      rw [e] at e1
      have e1 : g.slot = sl := Option.some.inj e1
      cases g with
      | va x =>
        subst e1
        cases e2
      | bo i x =>
        obtain ⟨v, h1, h2, sl', h3, h4⟩ := ok.get e
        have e3 : (vs.map some)[p]? = some (some (.ref a)) := e3
        rw [List.getElem?_map, h1] at e3
        have e3 : v = .ref a := Option.some.inj (Option.some.inj e3)
        subst e3
        exact ⟨i, x, rfl, ⟨sl', x, h3, h4⟩, h2⟩
  refine ⟨⟨D.sub, ?_, fun p d e => ?_, fun p sl d e1 e2 => ?_, fun p q a h1 h2 => ?_⟩, fun p sl e => ?_, f⟩
  · show (vs.map some).length = (gs.map Arg.slot).length
    rw [List.length_map, List.length_map]
    exact ok.length
  · have e1 : (gs.map Arg.slot)[p]? = some (.val d) := e
    rw [List.getElem?_map] at e1
    cases e : gs[p]? with
    | none => rw [e] at e1; cases e1
    | some g =>
      rw [e] at e1
      have e1 : g.slot = .val d := Option.some.inj e1
      cases g with
      | va x =>
        cases e1
        obtain ⟨v, h1, h2⟩ := ok.get e
        exact ⟨v, by show (vs.map some)[p]? = _; rw [List.getElem?_map, h1]; rfl, h2⟩
      | bo i x => cases e1
  · have e1 : (gs.map Arg.slot)[p]? = some sl := e1
    rw [List.getElem?_map] at e1
    cases e : gs[p]? with
    | none => rw [e] at e1; cases e1
    | some g =>
      rw [e] at e1
      have e1 : g.slot = sl := Option.some.inj e1
      cases g with
      | va x =>
        subst e1
        cases e2
      | bo i x =>
        subst e1
        cases e2
        obtain ⟨v, h1, h2, sl', h3, h4⟩ := ok.get e
        obtain ⟨a, o, h5, h6⟩ := D.own i sl' _ h3 h4
        rw [h2] at h5
        cases h5
        exact ⟨a, o, by show (vs.map some)[p]? = _; rw [List.getElem?_map, h1]; rfl, h6⟩
  · obtain ⟨i, x, g1, o1⟩ := f p a h1
    obtain ⟨j, y, g2, o2⟩ := f q a h2
    obtain rfl := D.dis i j a o1 o2
    exact sep_ix hs g1 g2
  · rw [List.getElem?_map] at e
    cases q : gs[p]? with
    | none => rw [q] at e; cases e
    | some g =>
      rw [q] at e
      have e : g.slot = sl := Option.some.inj e
      cases g with
      | va x => exact .inl ⟨x, e.symm⟩
      | bo i x => exact .inr ⟨x, e.symm⟩
/-- the caller's state behind the call -/
theorem caller_den {s s3 : Sta} {vs : List V} {gs : List Arg} (D : Den K s) (ok : ArgsOk K s vs gs) (hs : sep gs = true) (e3 : s3.σ = vs.map some) (D3 : Den K s3) (n3 : Stp ⟨s.G, gs.map Arg.slot, vs.map some, s.H⟩ s3) :
    Nxt K s ⟨s3.G, upds s.ρ gs s3.ρ, s.σ, s3.H⟩ ∧ (∀ a, Owns ⟨s3.G, upds s.ρ gs s3.ρ, s.σ, s3.H⟩ a → Owns s a) ∧ (∀ a, Owns ⟨s.G, gs.map Arg.slot, vs.map some, s.H⟩ a → Owns s3 a) := by
  obtain ⟨Dc, ar, f⟩ := callee_den D ok hs
  have back : ∀ {j a}, OwnAt ⟨s3.G, upds s.ρ gs s3.ρ, s.σ, s3.H⟩ j a → OwnAt s j a := fun {j a} ⟨⟨sl, d, e1, e2⟩, e4⟩ => by
    rcases upds_get e1 with ⟨p, z, d', h1, h2, h3, y, h4, h5, _⟩ | ⟨h1, _⟩
    · cases q : y.cell with
      | none => rw [q] at h5; cases h5
      | some w => exact ⟨⟨y, w, h4, q⟩, e4⟩
    · exact ⟨⟨sl, d, h1, e2⟩, e4⟩
  have no : ∀ {a}, ¬ Owns s a → ¬ Owns ⟨s.G, gs.map Arg.slot, vs.map some, s.H⟩ a := fun {a} h ⟨p, hp⟩ => by
    obtain ⟨i, d, _, o⟩ := f p a hp
    exact h ⟨i, o⟩
  have lent : ∀ {p j : Nat} {z : U} {a : Addr}, gs[p]? = some (Arg.bo j z) → OwnAt s j a → OwnAt ⟨s.G, gs.map Arg.slot, vs.map some, s.H⟩ p a := fun {p j z a} g ⟨_, o2⟩ => by
    obtain ⟨v, h1, h2, sl', h3, h4⟩ := ok.get g
    rw [o2] at h2
    cases h2
    exact ⟨⟨.bor z, z, by show (gs.map Arg.slot)[p]? = _; rw [List.getElem?_map, g]; rfl, rfl⟩, by show (vs.map some)[p]? = _; rw [List.getElem?_map, h1]; rfl⟩
  have bor3 : ∀ {p j : Nat} {z : U}, gs[p]? = some (Arg.bo j z) → ∃ d', s3.ρ[p]? = some (Sl.bor d') ∧ s3.σ[p]? = (vs.map some)[p]? := fun {p j z} g =>
    n3.bor p z (by show (gs.map Arg.slot)[p]? = _; rw [List.getElem?_map, g]; rfl)
  refine ⟨⟨⟨n3.sub, fun a o e h => n3.fr a o e (no h), n3.dom, fun a ⟨j, h⟩ => .inl ⟨j, back h⟩, fun a n1 n2 e => n3.gfr a n1 (no n2) e, fun j x e => ?_⟩, ⟨D3.sub, ?_, fun j d e => ?_, fun j sl d e1 e2 => ?_, fun i j a h1 h2 => D.dis i j a (back h1) (back h2)⟩, rfl⟩, fun a ⟨j, h⟩ => ⟨j, back h⟩, fun a ⟨p, h⟩ => ?_⟩
  · obtain ⟨y, h⟩ := upds_bor gs (r := s3.ρ) e
    exact ⟨y, h, rfl⟩
  · show s.σ.length = (upds s.ρ gs s3.ρ).length
    rw [upds_length]
    exact D.len
  · rcases upds_get e with ⟨p, z, d', h1, h2, h3, _⟩ | ⟨h1, _⟩
    · cases h3
    · obtain ⟨v, h2, h3⟩ := D.val j d h1
      exact ⟨v, h2, At.mono n3.sub _ _ h3⟩
  · rcases upds_get e1 with ⟨p, z, d', h1, h2, h3, y, h4, h5, _⟩ | ⟨h1, h2⟩
    · rw [e2] at h3
      cases h3
      obtain ⟨a, o, h6, h7⟩ := D3.own p _ d h2 rfl
      obtain ⟨v, h8, h9, _⟩ := ok.get h1
      rw [e3, List.getElem?_map, h8] at h6
      have h6 : v = .ref a := Option.some.inj (Option.some.inj h6)
      subst h6
      exact ⟨a, o, h9, h7⟩
    · obtain ⟨a, o, h3, h4, h5, h6⟩ := D.own j sl d h1 e2
      have oa : OwnAt s j a := ⟨⟨sl, d, h1, e2⟩, h3⟩
      have nc : ¬ Owns ⟨s.G, gs.map Arg.slot, vs.map some, s.H⟩ a := fun ⟨p, hp⟩ => by
        obtain ⟨i, x, g, o'⟩ := f p a hp
        obtain rfl := D.dis i j a o' oa
        obtain ⟨d', h7, _⟩ := bor3 g
        exact h2 (by rw [e2]; rfl) p x d' g h7
      exact ⟨a, o, h3, n3.gfr a ⟨o, h5, h6.notup⟩ nc h4, n3.fr a o h5 nc, h6.mono n3.sub⟩
  · obtain ⟨i, d, g, o⟩ := f p a h
    obtain ⟨d', h1, h2⟩ := bor3 g
    obtain ⟨_, h3⟩ := h
    exact ⟨p, ⟨.bor d', d', h1, rfl⟩, h2.trans h3⟩
/-- what a call asks -/
def CallU (R : RU) (avs : List Av) (ρ : Sls) (Q : Av → Sls → Prop) (X : Er → Sls → Prop) : Prop := ∃ gs ρ1, Pas ρ avs gs ρ1 ∧ sep gs = true ∧
  ∀ (Q' : Av → Sls → Prop) (X' : Er → Sls → Prop), (∀ a r, Q a (upds ρ1 gs r) → Q' a r) → (∀ e r, X e (upds ρ1 gs r) → X' e r) → R (gs.map Arg.slot) Q' X'
theorem CallU.run {R : RU} {avs : List Av} {Q : Av → Sls → Prop} {X : Er → Sls → Prop} {s : Sta} {vs : List V} {Q0 : VK} {E : XK} (h : CallU R avs s.ρ Q X) (D : Den K s) (ok : AvsOk K s vs avs) (k : Cnt K s Q Q0)
    (x : ∀ cls dd e s', Stp s s' → Den K s' → s'.σ = s.σ → ErOk K s' cls dd e → X e s'.ρ → E cls dd s'.H) : spU K R vs s.H Q0 E := by
  obtain ⟨gs, ρ1, hp, hs, hR⟩ := h
  obtain ⟨s2, e1, e2, n2, ok2⟩ := hp.run rfl D ok
  subst e1
  rw [← e2]
  obtain ⟨Dc, ar, f⟩ := callee_den n2.den ok2 hs
  refine ⟨s2.G, gs.map Arg.slot, Dc, ar, hR _ _ (fun a r q v s3 h1 h2 D3 n3 na ok3 => ?_) fun e r q cls dd s3 h1 h2 D3 n3 ok3 => ?_⟩
  · subst h2
    obtain ⟨n4, b1, b2⟩ := caller_den n2.den ok2 hs h1 D3 n3
    refine (k.lift n2) v a ⟨s3.G, upds s2.ρ gs s3.ρ, s2.σ, s3.H⟩ n4 ?_ q
    cases a with
    | dt d => exact ok3
    | sl i => exact na.elim
    | own d =>
      obtain ⟨b, o, h3, h4, h5, h6, h7, h8⟩ := ok3
      have h9 : s2.H b = none := by
        rcases h8 with h | h
        · exact h
        · exact absurd (b2 b h) h7
      refine ⟨b, o, h3, h4, h5, h6, fun z => ?_, .inl h9⟩
      exact (n2.den.free h9).2 (b1 b z)
  · subst h2
    obtain ⟨n4, b1, b2⟩ := caller_den n2.den ok2 hs h1 D3 n3
    exact x cls dd e ⟨s3.G, upds s2.ρ gs s3.ρ, s2.σ, s3.H⟩ (n2.trans n4).stp n4.den (n4.slots.trans n2.slots) ok3 q
variable {X : Er → Sls → Prop} {ρ : Sls}
/-- f(..), nothing is raised -/
theorem we_call {R : RU} {t : TA} {Q : Av → Sls → Prop} (h : WA K W t ρ (fun as ρ1 => CallU R as ρ1 Q (fun _ _ => False)) X) : WE K W (tCall (spU K R) [] E0 t) ρ Q X := by
  rintro s Q0 rfl D x k
  refine h s _ rfl D x fun vs as s1 n1 ok q => ?_
  rw [List.append_nil]
  exact q.run n1.den ok (k.lift n1) fun _ _ _ _ _ _ _ _ z => z.elim
/-- f(..), what is raised is wished for at the slots -/
theorem we_callS {R : RU} {t : TA} {Q : Av → Sls → Prop} (h : WA K W t ρ (fun as ρ1 => CallU R as ρ1 Q X) X) : WE K W (tCallS (spU K R) (fun σ cls dd H => W cls dd σ H) t) ρ Q X := by
  rintro s Q0 rfl D x k
  refine h s _ rfl D x fun vs as s1 n1 ok q => ?_
  refine q.run n1.den ok (k.lift n1) fun cls dd e s' n d eσ ok' z => ?_
  have := (x.next n1.stp) cls dd e s' n d ok' z
  rw [eσ, n1.slots] at this
  exact this
end

/-! ### what is walked -/
section
variable {K : PySem.W.Frag} {W : Wx} {X : Er → Sls → Prop} {ρ : Sls} {P : Post}
def UWalk (K : PySem.W.Frag) (s : Sta) (J : It) (ds : List U) : Prop := ∃ (Gd : Hp → Prop) (Y : Nat → Hp → V → Hp → Prop), Walk J ds.length Gd Y ∧
  (∀ s', Stp s s' → Den K s' → Gd s'.H) ∧
  (∀ i x s' H', i < ds.length → Stp s s' → Den K s' → Y i s'.H x H' → ∃ s'' d, s''.ρ = s'.ρ ∧ s''.H = H' ∧ Nxt K s' s'' ∧ ds[i]? = some d ∧ At K s''.G x d)
def WI (K : PySem.W.Frag) (W : Wx) (wi : TI) (ρ : Sls) (Q : List U → Sls → Prop) (X : Er → Sls → Prop) : Prop :=
  ∀ (s : Sta) (R0 : It → Hp → Prop), s.ρ = ρ → Den K s → XOk K s W X → (∀ J ds s', Nxt K s s' → UWalk K s' J ds → Q ds s'.ρ → R0 J s'.H) → wi s.σ s.H R0
theorem uwalk_list {s : Sta} {a : Addr} {xs : List V} {ds : List U} (h : SqL K s.G a xs) (hd : AtAll K s.G xs ds) : UWalk K s (Itl K a) ds := by
  refine ⟨_, _, (hd.length ▸ walk_list (K := K) (a := a) (xs := xs)), fun s' n D => sql_same (n.sub.trans D.sub) h, fun i x s' H' hi n D y => ?_⟩
  obtain ⟨rfl, y⟩ := y
  obtain ⟨d, e, q⟩ := hd.get y
  exact ⟨s', d, rfl, rfl, Nxt.refl D, e, At.mono n.sub _ _ q⟩
theorem uwalk_tup {s : Sta} {a : Addr} {xs : List V} {ds : List U} (h : SqT K s.G a xs) (hd : AtAll K s.G xs ds) : UWalk K s (Itt K a) ds := by
  refine ⟨_, _, (hd.length ▸ walk_tup (K := K) (a := a) (xs := xs)), fun s' n D => sqt_same (n.sub.trans D.sub) h, fun i x s' H' hi n D y => ?_⟩
  obtain ⟨rfl, y⟩ := y
  obtain ⟨d, e, q⟩ := hd.get y
  exact ⟨s', d, rfl, rfl, Nxt.refl D, e, At.mono n.sub _ _ q⟩
theorem frz1 {s : Sta} {a : Av} {d : U} {ρ2 : Sls} {v : V} (f : Frz s.ρ [a] [d] ρ2) (fl : a.flat) (D : Den K s) (ok : AvOk K s s v a) : ∃ s2, s2.ρ = ρ2 ∧ s2.H = s.H ∧ Nxt K s s2 ∧ At K s2.G v d := by
  obtain ⟨s2, e1, e2, n, h⟩ := f.run rfl D (.cons fl ok .nil)
  cases h with
  | cons h _ => exact ⟨s2, e1, e2, n, h⟩
theorem wi_list {te : TE} {Q : List U → Sls → Prop} (h : WE K W te ρ (fun a ρ1 => ∃ ds ρ2, Frz ρ1 [a.fl] [.lst ds] ρ2 ∧ Q ds ρ2) X) : WI K W (iList K te) ρ Q X := by
  rintro s R0 rfl D x k
  refine WE.flat (Q := fun a ρ1 => ∃ ds ρ2, Frz ρ1 [a] [.lst ds] ρ2 ∧ Q ds ρ2) h rfl D x fun v a s1 n f ok ⟨ds, ρ2, hf, q⟩ => ?_
  obtain ⟨s2, e1, e2, n2, hv⟩ := frz1 hf f n.den ok
  cases hv with
  | lst hs ha =>
    rw [← e2]
    exact ⟨_, rfl, ⟨_, SqL.of (n2.den.sub _ _ hs)⟩, k _ ds s2 (n.trans n2) (uwalk_list (SqL.of hs) ha) (by rw [e1]; exact q)⟩
theorem wi_tup {te : TE} {Q : List U → Sls → Prop} (h : WE K W te ρ (fun a ρ1 => ∃ ds ρ2, Frz ρ1 [a.fl] [.tup ds] ρ2 ∧ Q ds ρ2) X) : WI K W (iTup K te) ρ Q X := by
  rintro s R0 rfl D x k
  refine WE.flat (Q := fun a ρ1 => ∃ ds ρ2, Frz ρ1 [a] [.tup ds] ρ2 ∧ Q ds ρ2) h rfl D x fun v a s1 n f ok ⟨ds, ρ2, hf, q⟩ => ?_
  obtain ⟨s2, e1, e2, n2, hv⟩ := frz1 hf f n.den ok
  cases hv with
  | tup hs ha =>
    rw [← e2]
    exact ⟨_, rfl, ⟨_, SqT.of (n2.den.sub _ _ hs)⟩, k _ ds s2 (n.trans n2) (uwalk_tup (SqT.of hs) ha) (by rw [e1]; exact q)⟩
def rgU (lo : Int) (n : Nat) : List U := (List.range n).map fun i => U.int (lo + (i : Nat))
theorem rgU_length {lo : Int} {n : Nat} : (rgU lo n).length = n := by unfold rgU; rw [List.length_map, List.length_range]
theorem rgU_get {lo : Int} {n k : Nat} {d : U} (h : (rgU lo n)[k]? = some d) : k < n ∧ d = .int (lo + (k : Nat)) := by
  unfold rgU at h
  rw [List.getElem?_map] at h
  cases e : (List.range n)[k]? with
  | none => rw [e] at h; cases h
  | some i =>
    rw [e] at h
    have l := lt_of_get e
    rw [List.length_range] at l
    rw [List.getElem?_range l] at e
    cases e
    exact ⟨l, (Option.some.inj h).symm⟩
theorem uwalk_range {s : Sta} {lo : Int} {n : Nat} : UWalk K s (Itr lo n) (rgU lo n) := by
  refine ⟨fun _ => True, YFn fun i => .int (lo + i), (by rw [rgU_length]; exact walk_range (lo := lo) (n := n)), fun _ _ _ => trivial, fun i x s' H' hi m D y => ?_⟩
  obtain ⟨rfl, rfl⟩ := y
  rw [rgU_length] at hi
  refine ⟨s', .int (lo + (i : Nat)), rfl, rfl, Nxt.refl D, ?_, .int _⟩
  unfold rgU
  rw [List.getElem?_map, List.getElem?_range hi]
  rfl
theorem avs1 {s : Sta} {vs : List V} {i : Int} (h : AvsOk K s vs [.dt (.int i)]) : vs = [.int i] := by
  cases h with
  | cons _ h t =>
    cases t
    rw [at_int h]
theorem avs2 {s : Sta} {vs : List V} {i j : Int} (h : AvsOk K s vs [.dt (.int i), .dt (.int j)]) : vs = [.int i, .int j] := by
  cases h with
  | cons _ h t =>
    rw [at_int h, avs1 t]
theorem wi_range1 {ta : TA} {Q : List U → Sls → Prop} (h : WA K W ta ρ (fun as ρ1 => ∃ j : Int, as = [.dt (.int j)] ∧ (-4000000000 ≤ j ∧ j ≤ 4000000000) ∧ Q (rgU 0 j.toNat) ρ1) X) : WI K W (iRng1 ta) ρ Q X := by
  rintro s R0 rfl D x k
  refine h s _ rfl D x fun vs as s1 n ok ⟨j, e, hj, q⟩ => ?_
  subst e
  obtain rfl := avs1 ok
  exact ⟨j, rfl, by omega, by omega, k _ _ s1 n uwalk_range q⟩
theorem wi_range2 {ta : TA} {Q : List U → Sls → Prop} (h : WA K W ta ρ (fun as ρ1 => ∃ i j : Int, as = [.dt (.int i), .dt (.int j)] ∧ (-4000000000 ≤ i ∧ i ≤ 4000000000 ∧ -4000000000 ≤ j ∧ j ≤ 4000000000) ∧ Q (rgU i (j - i).toNat) ρ1) X) : WI K W (iRng2 ta) ρ Q X := by
  rintro s R0 rfl D x k
  refine h s _ rfl D x fun vs as s1 n ok ⟨i, j, e, hj, q⟩ => ?_
  subst e
  obtain rfl := avs2 ok
  exact ⟨i, j, rfl, ⟨by omega, by omega, by omega, by omega⟩, k _ _ s1 n uwalk_range q⟩
/-! ### targets -/
def WG (K : PySem.W.Frag) (g : TG) (vs : List Nat) (d : U) (ρ : Sls) (N : Sls → Prop) : Prop :=
  ∀ (s : Sta) (v : V) (Q0 : L2.St → Hp → Prop), s.ρ = ρ → Den K s → At K s.G v d → (∀ s', Stp s s' → Den K s' → (∀ i, i ∉ vs → s'.σ[i]? = s.σ[i]?) → s'.σ.length = s.σ.length → N s'.ρ → Q0 s'.σ s'.H) → g v s.σ s.H Q0
def WGs (K : PySem.W.Frag) (g : TGs) (vs : List Nat) (ds : List U) (ρ : Sls) (N : Sls → Prop) : Prop :=
  ∀ (s : Sta) (us : List V) (Q0 : L2.St → Hp → Prop), s.ρ = ρ → Den K s → AtAll K s.G us ds → (∀ s', Stp s s' → Den K s' → (∀ i, i ∉ vs → s'.σ[i]? = s.σ[i]?) → s'.σ.length = s.σ.length → N s'.ρ → Q0 s'.σ s'.H) → g us s.σ s.H Q0
theorem wg_name {i : Nat} {vs : List Nat} {d : U} {N : Sls → Prop} (h : nb ρ i = true) (hi : i ∈ vs) (q : N (ρ.set i (.val d))) : WG K (gName i) vs d ρ N := by
  rintro s v Q0 rfl D hv k
  obtain ⟨a, b⟩ := put_val D h hv
  refine k _ a b (fun j hj => ?_) ?_ q
  · show (s.σ.set i _)[j]? = _
    rw [List.getElem?_set_ne (fun e => hj (by rw [← e]; exact hi))]
  · show (s.σ.set i _).length = _
    rw [List.length_set]
theorem wgs_nil {vs : List Nat} {N : Sls → Prop} (q : N ρ) : WGs K gNil vs [] ρ N := by
  rintro s us Q0 rfl D hv k
  cases hv
  exact ⟨rfl, k s (Stp.refl s) D (fun _ _ => rfl) rfl q⟩
theorem wgs_cons {t : TG} {u : TGs} {vs : List Nat} {d : U} {ds : List U} {N : Sls → Prop} (h : WG K t vs d ρ (fun ρ1 => WGs K u vs ds ρ1 N)) : WGs K (gCons t u) vs (d :: ds) ρ N := by
  rintro s us Q0 rfl D hv k
  cases hv with
  | cons hv ht =>
    refine ⟨_, _, rfl, h s _ _ rfl D hv fun s1 n1 D1 o1 l1 q1 => ?_⟩
    exact q1 s1 _ _ rfl D1 (AtAll.mono n1.sub _ _ ht) fun s2 n2 D2 o2 l2 q2 => k s2 (n1.trans n2) D2 (fun i hi => (o2 i hi).trans (o1 i hi)) (l2.trans l1) q2
theorem wg_tup {n : Nat} {t : TGs} {vs : List Nat} {d : U} {N : Sls → Prop} (h : ∃ ds, d = .tup ds ∧ ds.length = n ∧ WGs K t vs ds ρ N) : WG K (gTup K n t) vs d ρ N := by
  rintro s v Q0 rfl D hv k
  obtain ⟨ds, rfl, hl, h⟩ := h
  cases hv with
  | tup hs ha => exact ⟨_, _, rfl, SqT.of (D.sub _ _ hs), by rw [ha.length]; exact hl, h s _ _ rfl D ha k⟩
theorem ws_asg {te : TE} {g : TG} {n : Nat} (h : WE K W te ρ (fun a ρ1 => ∃ d ρ2, Frz ρ1 [a.fl] [d] ρ2 ∧ WG K g (List.range n) d ρ2 P.nx) P.xc) : WS K W (tAsg te g) ρ P := by
  rintro s D rfl d x f
  refine WE.flat (Q := fun a ρ1 => ∃ d ρ2, Frz ρ1 [a] [d] ρ2 ∧ WG K g (List.range n) d ρ2 P.nx) h rfl d x fun v a s1 n1 fa ok ⟨z, ρ2, hf, q⟩ => ?_
  obtain ⟨s2, e1, e2, n2, hv⟩ := frz1 hf fa n1.den ok
  rw [← e2, ← n1.slots, ← n2.slots]
  exact q s2 v _ e1 n2.den hv fun s3 n3 D3 _ _ q3 => f.nx s3 ((n1.trans n2).stp.trans n3) D3 q3
/-! ### for -/
theorem ws_for {wi : TI} {g : TG} {tb : TS} (m : Nat) (h : WI K W wi ρ (fun ds ρ1 => ∃ Iv : Nat → Sls → Prop, Iv 0 ρ1 ∧
    (∀ (k : Nat) (d : U) (ρ2 : Sls), ds[k]? = some d → Iv k ρ2 → WG K g (List.range m) d ρ2 (fun ρ3 => WS K W tb ρ3 { P with nx := Iv (k + 1), ct := Iv (k + 1), bk := P.nx })) ∧ ∀ ρ2, Iv ds.length ρ2 → P.nx ρ2) P.xc) : WS K W (tFor wi g tb) ρ P := by
  rintro s D rfl d x f
  refine h s _ rfl d x fun J ds s1 n1 ⟨Gd, Y, w, hG, hY⟩ ⟨Iv, i0, step, fin⟩ => ?_
  refine for_it w (fun k σ H => ∃ s', s'.σ = σ ∧ s'.H = H ∧ Stp s1 s' ∧ Den K s' ∧ Iv k s'.ρ) ⟨s1, n1.slots, rfl, Stp.refl _, n1.den, i0⟩ ?_ ?_ ?_
  · rintro i σ H _ ⟨s', rfl, rfl, st, d', _⟩
    exact hG s' st d'
  · rintro i x' σ H H' hi ⟨s', rfl, rfl, st, d', inv⟩ y
    obtain ⟨s2, dd, e1, e2, n2, e3, e4⟩ := hY i x' s' H' hi st d' y
    rw [← e2, ← n2.slots]
    have st2 := st.trans n2.stp
    refine step i dd s'.ρ e3 inv s2 x' _ e1 n2.den e4 fun s3 n3 D3 _ _ q3 => ?_
    have st3 := st2.trans n3
    refine q3 s3 _ rfl D3 ((x.next n1.stp).next st3) ⟨fun s4 n4 D4 q4 => ⟨s4, rfl, rfl, st3.trans n4, D4, q4⟩, fun v av s4 n4 D4 ok q4 => (f.next (n1.stp.trans st3)).rt v av s4 n4 D4 ok q4, fun s4 n4 D4 q4 => (f.next (n1.stp.trans st3)).nx s4 n4 D4 q4, fun s4 n4 D4 q4 => ⟨s4, rfl, rfl, st3.trans n4, D4, q4⟩⟩
  · rintro σ H ⟨s', rfl, rfl, st, d', inv⟩
    exact f.nx s' (n1.stp.trans st) d' (fin _ inv)
/-! ### while -/
theorem ws_while {c : TT} {tb : TS} (Iv : Nat → Sls → Prop) (m0 : Nat) (i0 : Iv m0 ρ)
    (step : ∀ m ρ2, Iv m ρ2 → WT K W c ρ2 (fun b ρ3 => if b = true then WS K W tb ρ3 { P with nx := fun ρ4 => ∃ m', m' < m ∧ Iv m' ρ4, ct := fun ρ4 => ∃ m', m' < m ∧ Iv m' ρ4, bk := P.nx } else P.nx ρ3) P.xc) : WS K W (tWhile c tb) ρ P := by
  rintro s D rfl d x f
  refine ⟨fun m σ H => ∃ s', s'.σ = σ ∧ s'.H = H ∧ Stp s s' ∧ Den K s' ∧ Iv m s'.ρ, ⟨m0, s, rfl, rfl, Stp.refl s, d, i0⟩, ?_⟩
  rintro m σ H ⟨s', rfl, rfl, st, d', inv⟩
  refine step m s'.ρ inv s' _ rfl d' (x.next st) fun b s1 n1 q => ?_
  have st1 := st.trans n1.stp
  cases b with
  | true =>
    refine iteT ⟨fun σ H => ∃ m', m' < m ∧ ∃ s', s'.σ = σ ∧ s'.H = H ∧ Stp s s' ∧ Den K s' ∧ Iv m' s'.ρ, fun σ H h => h, ?_⟩
    rw [← n1.slots]
    have q : WS K W tb s1.ρ { P with nx := fun ρ4 => ∃ m', m' < m ∧ Iv m' ρ4, ct := fun ρ4 => ∃ m', m' < m ∧ Iv m' ρ4, bk := P.nx } := by simpa using q
    exact q s1 _ rfl n1.den (x.next st1) ⟨fun s4 n4 D4 ⟨m', l, q4⟩ => ⟨m', l, s4, rfl, rfl, st1.trans n4, D4, q4⟩, fun v av s4 n4 D4 ok q4 => (f.next st1).rt v av s4 n4 D4 ok q4, fun s4 n4 D4 q4 => (f.next st1).nx s4 n4 D4 q4, fun s4 n4 D4 ⟨m', l, q4⟩ => ⟨m', l, s4, rfl, rfl, st1.trans n4, D4, q4⟩⟩
  | false =>
    refine iteF ?_
    rw [← n1.slots]
    exact f.nx s1 st1 n1.den (by simpa using q)
/-! ### comprehensions -/
def wipeE (ρ : Sls) : List Nat → Sls
  | [] => ρ
  | v :: vs => (wipeE ρ vs).set v .un
def keepV : Option Sl → Sl
  | some (.val d) => .val d
  | _ => .un
def mixE (ρ1 ρ2 : Sls) : List Nat → Sls
  | [] => ρ2
  | v :: vs => (mixE ρ1 ρ2 vs).set v (keepV ρ1[v]?)
theorem wipe1 {s : Sta} {i : Nat} (D : Den K s) (h : nb s.ρ i = true) : Stp s { s with ρ := s.ρ.set i .un, σ := s.σ.set i none } ∧ Den K { s with ρ := s.ρ.set i .un, σ := s.σ.set i none } := by
  obtain ⟨hl, hb⟩ := nb_lt h
  have f : ∀ {j b}, OwnAt { s with ρ := s.ρ.set i .un, σ := s.σ.set i none } j b → j ≠ i ∧ OwnAt s j b := fun {j b} h => by
    obtain ⟨⟨sl, x, q1, q2⟩, q3⟩ := h
    rcases get_set q1 with ⟨rfl, h, _⟩ | ⟨n, q⟩
    · subst h
      cases q2
    · refine ⟨n, ⟨sl, x, q, q2⟩, ?_⟩
      rcases get_set q3 with ⟨h, _⟩ | ⟨_, q3⟩
      · exact absurd h n
      · exact q3
  refine ⟨⟨fun _ _ e => e, fun _ _ e _ => e, fun _ e => e, fun b ⟨j, h⟩ => .inl ⟨j, (f h).2⟩, fun _ _ _ e => e, fun j x e => ?_⟩, ⟨D.sub, ?_, fun j x e => ?_, fun j sl x e1 e2 => ?_, fun j k b h1 h2 => D.dis j k b (f h1).2 (f h2).2⟩⟩
  · have n : i ≠ j := fun q => hb x (by rw [q]; exact e)
    exact ⟨x, by show (s.ρ.set i _)[j]? = _; rw [List.getElem?_set_ne n]; exact e, by show (s.σ.set i _)[j]? = _; rw [List.getElem?_set_ne n]⟩
  · show (s.σ.set i none).length = (s.ρ.set i .un).length
    rw [List.length_set, List.length_set]
    exact D.len
  · rcases get_set e with ⟨rfl, h, _⟩ | ⟨n, e⟩
    · cases h
    · obtain ⟨u, h1, h2⟩ := D.val j x e
      exact ⟨u, by show (s.σ.set i _)[j]? = _; rw [List.getElem?_set_ne (Ne.symm n)]; exact h1, h2⟩
  · rcases get_set e1 with ⟨rfl, h, _⟩ | ⟨n, e⟩
    · subst h
      cases e2
    · obtain ⟨b, u, h1, h2, h3, h4⟩ := D.own j sl x e e2
      exact ⟨b, u, by show (s.σ.set i _)[j]? = _; rw [List.getElem?_set_ne (Ne.symm n)]; exact h1, h2, h3, h4⟩
/-- all of these slots can be wiped -/
def nbs (ρ : Sls) : List Nat → Bool
  | [] => true
  | v :: vs => nb (wipeE ρ vs) v && nbs ρ vs
theorem wipe_all {s : Sta} (D : Den K s) : ∀ {vs : List Nat}, nbs s.ρ vs = true → Stp s { s with ρ := wipeE s.ρ vs, σ := wipe s.σ vs } ∧ Den K { s with ρ := wipeE s.ρ vs, σ := wipe s.σ vs }
  | [], _ => ⟨Stp.refl s, D⟩
  | v :: vs, h => by
    have h : (nb (wipeE s.ρ vs) v && nbs s.ρ vs) = true := h
    rw [Bool.and_eq_true] at h
    obtain ⟨a, b⟩ := wipe_all D h.2
    obtain ⟨c, d⟩ := wipe1 (s := { s with ρ := wipeE s.ρ vs, σ := wipe s.σ vs }) b h.1
    exact ⟨a.trans c, d⟩
theorem wipe_ext {σ σ' : L2.St} : ∀ {vs : List Nat}, (∀ i, i ∉ vs → σ'[i]? = σ[i]?) → σ'.length = σ.length → wipe σ' vs = wipe σ vs := by
  intro vs h l
  apply List.ext_getElem?
  intro i
  by_cases hi : i ∈ vs
  · have key : ∀ (σ : L2.St) (vs : List Nat), i ∈ vs → (wipe σ vs)[i]? = if i < σ.length then some none else none := by
      intro σ vs
      induction vs with
      | nil => intro h; cases h
      | cons v vs ih =>
        intro h
        unfold wipe
        by_cases q : v = i
        · subst q
          rw [List.getElem?_set, if_pos rfl, wipe_length]
        · rw [List.getElem?_set_ne q]
          exact ih (by rcases List.mem_cons.mp h with e | e; exact absurd e.symm q; exact e)
    rw [key σ' vs hi, key σ vs hi, l]
  · rw [wipe_out hi, wipe_out hi]
    exact h i hi
theorem wipe_idem {σ : L2.St} {vs : List Nat} : wipe (wipe σ vs) vs = wipe σ vs := wipe_ext (fun i hi => wipe_out hi) (wipe_length σ vs)
theorem mix_get {ρ1 ρ2 : Sls} {i : Nat} {x : Sl} : ∀ {vs : List Nat}, (mixE ρ1 ρ2 vs)[i]? = some x → (i ∈ vs ∧ x = keepV ρ1[i]?) ∨ (i ∉ vs ∧ ρ2[i]? = some x)
  | [], h => .inr ⟨by simp, h⟩
  | v :: vs, h => by
    rcases get_set (show ((mixE ρ1 ρ2 vs).set v (keepV ρ1[v]?))[i]? = some x from h) with ⟨rfl, rfl, _⟩ | ⟨n, h⟩
    · exact .inl ⟨List.mem_cons_self, rfl⟩
    · rcases mix_get h with ⟨m, e⟩ | ⟨m, e⟩
      · exact .inl ⟨List.mem_cons_of_mem _ m, e⟩
      · exact .inr ⟨fun z => by rcases List.mem_cons.mp z with z | z; exact n z; exact m z, e⟩
theorem mix_length {ρ1 ρ2 : Sls} : ∀ {vs : List Nat}, (mixE ρ1 ρ2 vs).length = ρ2.length
  | [] => rfl
  | v :: vs => by unfold mixE; rw [List.length_set]; exact mix_length
/-- a new object that is in no slot is written -/
theorem poke {s0 s : Sta} {p : Addr} {o u : HO} (n0 : Stp s0 s) (D : Den K s) (h0 : s0.H p = none) (h1 : s.H p = some u) (h2 : s.G p = none) (h3 : ¬ Owns s p) : Stp s0 { s with H := upd s.H p o } ∧ Den K { s with H := upd s.H p o } := by
  refine ⟨⟨n0.sub, fun a x e n => ?_, fun a e => ?_, n0.own, n0.gfr, n0.bor⟩, ⟨fun a x e => ?_, D.len, D.val, fun i sl d e1 e2 => ?_, D.dis⟩⟩
  · show upd s.H p o a = some x
    rw [upd_ne (ne_of_none e h0)]
    exact n0.fr a x e n
  · have e : upd s.H p o a = none := e
    by_cases q : a = p
    · rw [q, upd_same] at e
      cases e
    · rw [upd_ne q] at e
      exact n0.dom a e
  · show upd s.H p o a = some x
    rw [upd_ne (ne_of_none e h2)]
    exact D.sub a x e
  · obtain ⟨a, x, e3, e4, e5, e6⟩ := D.own i sl d e1 e2
    refine ⟨a, x, e3, e4, ?_, e6⟩
    show upd s.H p o a = some x
    rw [upd_ne (fun q => h3 (by rw [← q]; exact ⟨i, ⟨sl, d, e1, e2⟩, e3⟩))]
    exact e5
/-- a new object that is in no slot stays -/
theorem Stp.temp {s s' : Sta} {p : Addr} {u : HO} (n : Stp s s') (h1 : s.H p = some u) (h2 : s.G p = none) (h3 : ¬ Owns s p) (nt : ∀ xs, u ≠ .tup xs := by nofun) : s'.H p = some u ∧ s'.G p = none ∧ ¬ Owns s' p :=
  ⟨n.fr p u h1 h3, n.gfr p ⟨u, h1, nt⟩ h3 h2, fun h => by
    rcases n.own p h with h | h
    · exact h3 h
    · rw [h1] at h
      cases h⟩
theorem we_lc {wi : TI} {g : TG} {tt : TT} {te : TE} {vs : List Nat} {Q : Av → Sls → Prop} (h : WI K W wi ρ (fun ds ρ1 => nbs ρ1 vs = true ∧ ∃ Iv : Nat → List U → Sls → Prop, Iv 0 [] (wipeE ρ1 vs) ∧
    (∀ (k : Nat) (d : U) (acc : List U) (ρ2 : Sls), ds[k]? = some d → acc.length ≤ k → Iv k acc ρ2 → WG K g vs d ρ2 (fun ρ3 => WT K W tt ρ3 (fun b ρ4 => if b = true then
        WE K W te ρ4 (fun a ρ5 => ∃ d' ρ6, Frz ρ5 [a.fl] [d'] ρ6 ∧ acc.length < 1000 ∧ nbs ρ6 vs = true ∧ Iv (k + 1) (acc ++ [d']) (wipeE ρ6 vs)) X
      else nbs ρ4 vs = true ∧ Iv (k + 1) acc (wipeE ρ4 vs)) X)) ∧
    ∀ acc ρ2, acc.length ≤ ds.length → Iv ds.length acc ρ2 → Q (.own (.lst acc)) (mixE ρ1 ρ2 vs)) X) : WE K W (tLc wi g tt te vs) ρ Q X := by
  rintro s Q0 rfl D x k
  refine h s _ rfl D x fun J ds s1 n1 ⟨Gd, Y, w, hG, hY⟩ ⟨hnb, Iv, i0, step, fin⟩ => ?_
  intro p hp
  have nL := lay (o := .lst []) n1.den hp
  obtain ⟨sw, dw⟩ := wipe_all (s := { s1 with H := upd s1.H p (.lst []) }) nL.den hnb
  have stw := nL.stp.trans sw
  obtain ⟨g0, o0⟩ := n1.den.free hp
  have ow : ¬ Owns { s1 with H := upd s1.H p (.lst []), ρ := wipeE s1.ρ vs, σ := wipe s1.σ vs } p := fun h => by
    rcases sw.own p h with h | h
    · exact o0 h
    · have h : upd s1.H p (.lst []) p = none := h
      rw [upd_same] at h
      cases h
  rw [← n1.slots]
  refine lc_it w (fun k H => ∃ s' xs acc, s'.H = H ∧ s'.σ = wipe s1.σ vs ∧ Stp s1 s' ∧ Den K s' ∧ s'.H p = some (.lst xs) ∧ AtAll K s'.G xs acc ∧ s'.G p = none ∧ ¬ Owns s' p ∧ acc.length ≤ k ∧ Iv k acc s'.ρ)
    ⟨{ s1 with H := upd s1.H p (.lst []), ρ := wipeE s1.ρ vs, σ := wipe s1.σ vs }, [], [], rfl, rfl, stw, dw, upd_same, .nil, g0, ow, Nat.le_refl _, i0⟩ ?_ ?_ ?_
  · rintro i H _ ⟨s', xs, acc, rfl, _, st, d', _⟩
    exact hG s' st d'
  · rintro i x' H H' hi ⟨s', xs, acc, rfl, eσ, st, d', hD, hx, hg, ho, hl, inv⟩ y
    obtain ⟨s2, dd, e1, e2, n2, e3, e4⟩ := hY i x' s' H' hi st d' y
    have eσ2 : s2.σ = wipe s1.σ vs := n2.slots.trans eσ
    rw [← e2, ← eσ2]
    have st2 := st.trans n2.stp
    obtain ⟨hD2, hg2, ho2⟩ := n2.stp.temp hD hg ho
    refine step i dd acc s'.ρ e3 hl inv s2 x' _ e1 n2.den e4 fun s3 n3 D3 k3 l3 q3 => ?_
    have ew : wipe s3.σ vs = wipe s1.σ vs := (wipe_ext k3 l3).trans (by rw [eσ2]; exact wipe_idem)
    have st3 := st2.trans n3
    obtain ⟨hD3, hg3, ho3⟩ := n3.temp hD2 hg2 ho2
    have hx3 := AtAll.mono (n2.stp.sub.trans n3.sub) _ _ hx
    refine ⟨ew.trans eσ2.symm, q3 s3 _ rfl D3 ((x.next n1.stp).next st3) fun b s4 n4 q4 => ?_⟩
    obtain ⟨hD4, hg4, ho4⟩ := n4.stp.temp hD3 hg3 ho3
    have st4 := st3.trans n4.stp
    have hx4 := AtAll.mono n4.stp.sub _ _ hx3
    cases b with
    | true =>
      refine iteT ?_
      rw [← n4.slots]
      have q4 : WE K W te s4.ρ (fun a ρ5 => ∃ d' ρ6, Frz ρ5 [a.fl] [d'] ρ6 ∧ acc.length < 1000 ∧ nbs ρ6 vs = true ∧ Iv (i + 1) (acc ++ [d']) (wipeE ρ6 vs)) X := by simpa using q4
      refine WE.flat (Q := fun a ρ5 => ∃ d' ρ6, Frz ρ5 [a] [d'] ρ6 ∧ acc.length < 1000 ∧ nbs ρ6 vs = true ∧ Iv (i + 1) (acc ++ [d']) (wipeE ρ6 vs)) q4 rfl n4.den ((x.next n1.stp).next st4) fun u a s5 n5 fa ok5 ⟨d1, ρ6, hf, hlen, hn6, inv6⟩ => ?_
      obtain ⟨s6, e5, e6, n6, hu⟩ := frz1 hf fa n5.den ok5
      have n56 := n5.trans n6
      obtain ⟨hD6, hg6, ho6⟩ := n56.stp.temp hD4 hg4 ho4
      have hx6 := AtAll.mono n56.stp.sub _ _ hx4
      rw [← e6]
      refine ⟨xs, hD6, small1000 (by rw [hx6.length]; omega), ?_⟩
      obtain ⟨st7, d7⟩ := poke (o := .lst (xs ++ [u])) (st4.trans n56.stp) n56.den hp hD6 hg6 ho6
      obtain ⟨sw7, dw7⟩ := wipe_all (s := { s6 with H := upd s6.H p (.lst (xs ++ [u])) }) (vs := vs) d7 (by show nbs s6.ρ vs = true; rw [e5]; exact hn6)
      refine ⟨{ s6 with H := upd s6.H p (.lst (xs ++ [u])), ρ := wipeE s6.ρ vs, σ := wipe s6.σ vs }, _, acc ++ [d1], rfl, ?_, st7.trans sw7, dw7, upd_same, hx6.snoc hu, hg6, fun h => ?_, by rw [List.length_append, List.length_singleton]; omega, by show Iv _ _ (wipeE s6.ρ vs); rw [e5]; exact inv6⟩
      · show wipe s6.σ vs = _
        rw [n56.slots, n4.slots]
        exact ew.trans eσ2.symm
      · rcases sw7.own p h with h | h
        · exact ho6 h
        · have h : upd s6.H p (.lst (xs ++ [u])) p = none := h
          rw [upd_same] at h
          cases h
    | false =>
      refine iteF ?_
      obtain ⟨hn4, inv4⟩ : nbs s4.ρ vs = true ∧ Iv (i + 1) acc (wipeE s4.ρ vs) := by simpa using q4
      obtain ⟨sw4, dw4⟩ := wipe_all n4.den hn4
      refine ⟨{ s4 with ρ := wipeE s4.ρ vs, σ := wipe s4.σ vs }, xs, acc, rfl, ?_, st4.trans sw4, dw4, hD4, hx4, hg4, (sw4.temp hD4 hg4 ho4).2.2, by omega, inv4⟩
      show wipe s4.σ vs = _
      rw [n4.slots]
      exact ew.trans eσ2.symm
  · rintro H ⟨s', xs, acc, rfl, eσ, st, d', hD, hx, hg, ho, hl, inv⟩
    have out : ∀ {i : Nat}, i ∉ vs → s'.σ[i]? = s1.σ[i]? := fun {i} hi => by rw [eσ]; exact wipe_out hi
    have f : ∀ {i a}, OwnAt ⟨s'.G, mixE s1.ρ s'.ρ vs, s1.σ, s'.H⟩ i a → OwnAt s' i a := fun {i a} ⟨⟨sl, z, e1, e2⟩, e3⟩ => by
      rcases mix_get e1 with ⟨m, rfl⟩ | ⟨m, e⟩
      · exfalso
        unfold keepV at e2
        split at e2 <;> cases e2
      · exact ⟨⟨sl, z, e, e2⟩, (out m).trans e3⟩
    refine k (.ref p) (.own (.lst acc)) ⟨s'.G, mixE s1.ρ s'.ρ vs, s1.σ, s'.H⟩ (n1.trans ⟨⟨st.sub, st.fr, st.dom, fun a ⟨i, h⟩ => st.own a ⟨i, f h⟩, st.gfr, fun i z e => ?_⟩, ⟨d'.sub, ?_, fun i z e => ?_, fun i sl z e1 e2 => ?_, fun i j a h1 h2 => d'.dis i j a (f h1) (f h2)⟩, rfl⟩) ⟨p, .lst xs, rfl, hD, hg, .lst hx, fun ⟨i, h⟩ => ho ⟨i, f h⟩, .inl (n1.stp.dom p hp)⟩ (fin acc _ hl inv)
    · obtain ⟨y, h1, h2⟩ := st.bor i z e
      refine ⟨y, ?_, rfl⟩
      cases q : (mixE s1.ρ s'.ρ vs)[i]? with
      | none =>
        rw [List.getElem?_eq_none_iff, mix_length] at q
        have := lt_of_get h1
        omega
      | some w =>
        rcases mix_get q with ⟨m, _⟩ | ⟨m, e'⟩
        · exfalso
          have hw : ∀ vs : List Nat, i ∈ vs → ∀ (ρ : Sls) (w : U), (wipeE ρ vs)[i]? ≠ some (.bor w) := by
            intro vs
            induction vs with
            | nil => intro h; cases h
            | cons v vs ih =>
              intro h ρ w e
              rcases get_set (show ((wipeE ρ vs).set v .un)[i]? = some (.bor w) from e) with ⟨_, e, _⟩ | ⟨n, e⟩
              · cases e
              · rcases List.mem_cons.mp h with h | h
                · exact n h
                · exact ih h ρ w e
          obtain ⟨y2, h3, _⟩ := stw.bor i z e
          exact hw vs m s1.ρ y2 h3
        · rw [h1] at e'
          exact congrArg some (Option.some.inj e').symm
    · show s1.σ.length = (mixE s1.ρ s'.ρ vs).length
      rw [mix_length, ← d'.len, eσ, wipe_length]
    · rcases mix_get e with ⟨m, h⟩ | ⟨m, h⟩
      · have h : keepV s1.ρ[i]? = .val z := h.symm
        cases q : s1.ρ[i]? with
        | none => rw [q] at h; cases h
        | some w =>
          rw [q] at h
          cases w with
          | val y =>
            cases h
            obtain ⟨v, h1, h2⟩ := n1.den.val i _ q
            exact ⟨v, h1, At.mono st.sub _ _ h2⟩
          | _ => cases h
      · obtain ⟨v, h1, h2⟩ := d'.val i z h
        exact ⟨v, (out m).symm.trans h1, h2⟩
    · rcases mix_get e1 with ⟨m, rfl⟩ | ⟨m, h⟩
      · exfalso
        unfold keepV at e2
        split at e2 <;> cases e2
      · obtain ⟨a, o, h1, h2⟩ := d'.own i sl z h e2
        exact ⟨a, o, (out m).symm.trans h1, h2⟩
end

/-! ### own objects written -/
section
variable {K : PySem.W.Frag} {W : Wx} {X : Er → Sls → Prop} {ρ : Sls} {P : Post}
theorem cell_write {s : Sta} {i : Nat} {sl : Sl} {d d' : U} {a : Addr} {o o' : HO} (D : Den K s) (e : s.ρ[i]? = some sl) (c : sl.cell = some d) (ea : s.σ[i]? = some (some (.ref a))) (ho : s.H a = some o) (c' : Cell K s.G o' d') :
    Nxt K s { s with ρ := setC s.ρ i d', H := upd s.H a o' } := by
  have oa : OwnAt s i a := ⟨⟨sl, d, e, c⟩, ea⟩
  obtain ⟨a', o1, e1, g1, e2, e3⟩ := D.own i sl d e c
  rw [ea] at e1
  cases e1
  have back : ∀ {j b}, OwnAt { s with ρ := setC s.ρ i d', H := upd s.H a o' } j b → OwnAt s j b := fun {j b} ⟨⟨sl', x, q1, q2⟩, q3⟩ => by
    rcases setC_get q1 with ⟨h, _⟩ | ⟨rfl, h, y, h2, _⟩
    · exact ⟨⟨sl', x, h, q2⟩, q3⟩
    · rw [h2] at e
      cases e
      exact ⟨⟨sl, d, h2, c⟩, q3⟩
  refine ⟨⟨fun _ _ h => h, fun b u h n => ?_, fun b h => ?_, fun b ⟨j, h⟩ => .inl ⟨j, back h⟩, fun _ _ _ h => h, fun j x h => ?_⟩, ⟨fun b u h => ?_, ?_, fun j x h => ?_, fun j sl' x h1 h2 => ?_, fun j k b h1 h2 => D.dis j k b (back h1) (back h2)⟩, rfl⟩
  · show upd s.H a o' b = some u
    rw [upd_ne (fun q => n (by rw [q]; exact ⟨i, oa⟩))]
    exact h
  · have h : upd s.H a o' b = none := h
    by_cases q : b = a
    · rw [q, upd_same] at h
      cases h
    · rw [upd_ne q] at h
      exact h
  · obtain ⟨y, q⟩ := setC_bor (i := i) (d := d') h
    exact ⟨y, q, rfl⟩
  · show upd s.H a o' b = some u
    rw [upd_ne (ne_of_none h g1)]
    exact D.sub b u h
  · show s.σ.length = (setC s.ρ i d').length
    rw [setC_length]
    exact D.len
  · rcases setC_get h with ⟨h, _⟩ | ⟨rfl, h, _⟩
    · exact D.val j x h
    · cases h
  · rcases setC_get h1 with ⟨h3, h4⟩ | ⟨rfl, h3, _⟩
    · obtain ⟨b, u, q1, q2, q3, q4⟩ := D.own j sl' x h3 h2
      refine ⟨b, u, q1, q2, ?_, q4⟩
      show upd s.H a o' b = some u
      rw [upd_ne ?_]
      · exact q3
      · rintro rfl
        obtain rfl := D.dis j i b ⟨⟨sl', x, h3, h2⟩, q1⟩ oa
        rcases h4 with h4 | h4
        · exact h4 rfl
        · rw [h2] at h4
          cases h4
    · rw [h3] at h2
      cases h2
      exact ⟨a, o', ea, g1, upd_same, c'⟩
/-! ### data that are no objects -/
def scalU : U → Option V
  | .non => some .non
  | .bl b => some (.bl b)
  | .int i => some (.int i)
  | .str z => some (.str z)
  | .ty n => some (.ty n)
  | _ => none
theorem at_scal {G : Hp} {v x : V} {d : U} (h : At K G v d) (e : scalU d = some x) : v = x := by
  cases h <;> first | exact Option.some.inj e | cases e
theorem avs_one {s : Sta} {vs : List V} {a : Av} (h : AvsOk K s vs [a]) : ∃ v, vs = [v] ∧ AvOk K s s v a := by
  cases h with
  | cons _ h t =>
    cases t
    exact ⟨_, rfl, h⟩
theorem avs_two {s : Sta} {vs : List V} {a b : Av} (h : AvsOk K s vs [a, b]) : ∃ v w, vs = [v, w] ∧ AvOk K s s v a ∧ AvOk K s s w b := by
  cases h with
  | cons _ h t =>
    obtain ⟨w, rfl, h2⟩ := avs_one t
    exact ⟨_, w, rfl, h, h2⟩
theorem AtAll.atI {G : Hp} {xs : List V} {ds : List U} {i : Int} {d : U} (h : AtAll K G xs ds) (e : L2.atI ds i = some d) : ∃ z, L2.atI xs i = some z ∧ At K G z d := by
  unfold L2.atI at e ⊢
  rw [h.length]
  cases q : ixN ds.length i with
  | none => rw [q] at e; cases e
  | some j =>
    rw [q] at e
    obtain ⟨v, h1, h2⟩ := h.get2 (show ds[j]? = some d from e)
    exact ⟨v, h1, h2⟩
theorem Cnt.dt {s : Sta} {Q : Av → Sls → Prop} {Q0 : VK} (k : Cnt K s Q Q0) (D : Den K s) {v : V} {d : U} (h : At K s.G v d) (q : Q (.dt d) s.ρ) : Q0 v s.H := k v (.dt d) s (Nxt.refl D) h q
theorem Cnt.new {s : Sta} {Q : Av → Sls → Prop} {Q0 : VK} (k : Cnt K s Q Q0) (D : Den K s) {p : Addr} {o : HO} {d : U} (hp : s.H p = none) (c : Cell K s.G o d) (q : Q (.own d) s.ρ) : Q0 (.ref p) (upd s.H p o) := by
  have n3 := lay (o := o) D hp
  obtain ⟨g, no⟩ := D.free hp
  exact k (.ref p) (.own d) _ n3 ⟨p, o, rfl, upd_same, g, c, no, .inl hp⟩ q
theorem Cnt.tup {s : Sta} {Q : Av → Sls → Prop} {Q0 : VK} (k : Cnt K s Q Q0) (D : Den K s) {p : Addr} {xs : List V} {ds : List U} (hp : s.H p = none) (c : AtAll K s.G xs ds) (q : Q (.dt (.tup ds)) s.ρ) : Q0 (.ref p) (upd s.H p (.tup xs)) := by
  obtain ⟨n3, sub⟩ := layF (o := .tup xs) D hp
  exact k (.ref p) (.dt (.tup ds)) _ n3 (.tup upd_same (AtAll.mono sub _ _ c)) q
/-! ### operators -/
theorem wr_I {C : Int → Int → Prop} {f : Int → Int → V} {i j : Int} {d : U} {Q : Av → Sls → Prop} (c : C i j) (hd : ∀ G, At K G (f i j) d) (q : Q (.dt d) ρ) : WR K W (rI C f) (.dt (.int i)) (.dt (.int j)) ρ Q X := by
  rintro s v w Q0 rfl D x h1 h2 k
  rw [at_int h1, at_int h2]
  exact ⟨i, j, rfl, rfl, c, k.dt D (hd _) q⟩
theorem wr_I0 {f : Int → Int → V} {i j : Int} {d : U} {Q : Av → Sls → Prop} (hd : ∀ G, At K G (f i j) d) (q : Q (.dt d) ρ) : WR K W (rI0 f) (.dt (.int i)) (.dt (.int j)) ρ Q X := by
  rintro s v w Q0 rfl D x h1 h2 k
  rw [at_int h1, at_int h2]
  exact ⟨i, j, rfl, rfl, k.dt D (hd _) q⟩
theorem wr_ip {f : Int → Int → Int} {i j : Int} {Q : Av → Sls → Prop} (q : Q (.dt (.int (f i j))) ρ) : WR K W (ipI f) (.dt (.int i)) (.dt (.int j)) ρ Q X := by
  rintro s v w Q0 rfl D x h1 h2 k
  rw [at_int h1, at_int h2]
  exact ⟨i, j, rfl, rfl, k.dt D (.int _) q⟩
theorem wr_eq {d e : U} {x y : V} {Q : Av → Sls → Prop} (hx : scalU d = some x) (hy : scalU e = some y) (c : scal x y = true) (q : Q (.dt (.bl (decide (x = y)))) ρ) : WR K W rEq (.dt d) (.dt e) ρ Q X := by
  rintro s v w Q0 rfl D _ h1 h2 k
  rw [at_scal h1 hx, at_scal h2 hy]
  exact ⟨c, k.dt D (.bl _) q⟩
theorem wr_ne {d e : U} {x y : V} {Q : Av → Sls → Prop} (hx : scalU d = some x) (hy : scalU e = some y) (c : scal x y = true) (q : Q (.dt (.bl (!decide (x = y)))) ρ) : WR K W rNe (.dt d) (.dt e) ρ Q X := by
  rintro s v w Q0 rfl D _ h1 h2 k
  rw [at_scal h1 hx, at_scal h2 hy]
  exact ⟨c, k.dt D (.bl _) q⟩
theorem wr_cat_str {i j : Str} {Q : Av → Sls → Prop} (c : i.length + j.length ≤ 100000) (q : Q (.dt (.str (i ++ j))) ρ) : WR K W (fun x y H Q => ∃ i j, x = .str i ∧ y = .str j ∧ i.length + j.length ≤ sizeLine ∧ Q (.str (i ++ j)) H) (.dt (.str i)) (.dt (.str j)) ρ Q X := by
  rintro s v w Q0 rfl D _ h1 h2 k
  rw [at_str h1, at_str h2]
  exact ⟨i, j, rfl, rfl, Nat.le_trans c (by decide), k.dt D (.str _) q⟩
theorem wr_cat {a b : Av} {ds es : List U} {Q : Av → Sls → Prop} (ha : View ρ a (.lst ds)) (hb : View ρ b (.lst es)) (c : ds.length + es.length ≤ 100000) (q : Q (.own (.lst (ds ++ es))) ρ) : WR K W rCat a b ρ Q X := by
  rintro s v w Q0 rfl D _ h1 h2 k
  obtain ⟨l, xs, rfl, e1, q1⟩ := view_list D h1 ha
  obtain ⟨m, ys, rfl, e2, q2⟩ := view_list D h2 hb
  refine ⟨l, m, xs, ys, rfl, rfl, e1, e2, ?_, fun p hp => k.new D hp (.lst (q1.append q2)) q⟩
  rw [q1.length, q2.length]
  exact Nat.le_trans c (by decide)
theorem wr_ixL {a : Av} {ds : List U} {i : Int} {d : U} {Q : Av → Sls → Prop} (ha : View ρ a (.lst ds)) (e : atI ds i = some d) (q : Q (.dt d) ρ) : WR K W (rIxL K) a (.dt (.int i)) ρ Q X := by
  rintro s v w Q0 rfl D _ h1 h2 k
  obtain ⟨l, xs, rfl, e1, q1⟩ := view_list D h1 ha
  rw [at_int h2]
  obtain ⟨z, e2, hz⟩ := q1.atI e
  exact ⟨l, xs, i, z, rfl, rfl, SqL.of e1, e2, k.dt D hz q⟩
theorem wr_ixT {a : Av} {ds : List U} {i : Int} {d : U} {Q : Av → Sls → Prop} (ha : View ρ a (.tup ds)) (e : atI ds i = some d) (q : Q (.dt d) ρ) : WR K W (rIxT K) a (.dt (.int i)) ρ Q X := by
  rintro s v w Q0 rfl D _ h1 h2 k
  obtain ⟨l, xs, rfl, e1, q1⟩ := view_tup D h1 ha
  rw [at_int h2]
  obtain ⟨z, e2, hz⟩ := q1.atI e
  exact ⟨l, xs, i, z, rfl, rfl, e1, e2, k.dt D hz q⟩
theorem wr_ixF {ds : List U} {i : Int} {d : U} {Q : Av → Sls → Prop} (e : atI ds i = some d) (q : Q (.dt d) ρ) : WR K W (rIxL K) (.dt (.fls ds)) (.dt (.int i)) ρ Q X := by
  rintro s v w Q0 rfl D _ h1 h2 k
  have h1 : At K s.G v (.fls ds) := h1
  cases h1 with
  | fls hs q1 =>
    rw [at_int h2]
    obtain ⟨z, e2, hz⟩ := q1.atI e
    exact ⟨_, _, i, z, rfl, rfl, sql_same D.sub hs, e2, k.dt D hz q⟩
theorem wr_ixS {z : Str} {i : Int} {c : Nat} {Q : Av → Sls → Prop} (l : z.length ≤ 100000) (e : atI z.cps.toList i = some c) (q : Q (.dt (.str ⟨#[c]⟩)) ρ) : WR K W rIxS (.dt (.str z)) (.dt (.int i)) ρ Q X := by
  rintro s v w Q0 rfl D _ h1 h2 k
  rw [at_str h1, at_int h2]
  exact ⟨z, i, c, rfl, rfl, Nat.le_trans l (by decide), e, k.dt D (.str _) q⟩
theorem wr_ix {a b : Av} {Q : Av → Sls → Prop} (h : WR K W (rIxL K) a b ρ Q X ∨ WR K W (rIxT K) a b ρ Q X ∨ WR K W rIxS a b ρ Q X) : WR K W (rIx K) a b ρ Q X := by
  rintro s v w Q0 e D x h1 h2 k
  rcases h with h | h | h
  · exact .inl (h s v w Q0 e D x h1 h2 k)
  · exact .inr (.inl (h s v w Q0 e D x h1 h2 k))
  · exact .inr (.inr (h s v w Q0 e D x h1 h2 k))
/-- x in a list or tuple of plain items -/
theorem AtAll.scal {G : Hp} : ∀ {xs : List V} {ds : List U} {ys : List V}, AtAll K G xs ds → ds.map scalU = ys.map some → xs = ys
  | _, _, [], .nil, _ => rfl
  | _, _, _ :: _, .nil, e => nomatch e
  | _, _, [], .cons _ _, e => nomatch e
  | _, _, y :: ys, .cons h t, e => by
    have e1 := List.cons.inj e
    rw [at_scal h e1.1, AtAll.scal t e1.2]
theorem wr_in {a : Av} {d : U} {x : V} {ds : List U} {ys : List V} {neg : Bool} {Q : Av → Sls → Prop} (hx : scalU d = some x) (ha : View ρ a (.lst ds) ∨ View ρ a (.tup ds)) (hd : ds.map scalU = ys.map some) (f1 : flatV x = true) (f2 : ys.all flatV = true)
    (q : Q (.dt (.bl (if neg then !inV x ys else inV x ys))) ρ) : WR K W (rIn K neg) (.dt d) a ρ Q X := by
  rintro s v w Q0 rfl D _ h1 h2 k
  rw [at_scal h1 hx]
  rcases ha with ha | ha
  · obtain ⟨l, xs, rfl, e1, q1⟩ := view_list D h2 ha
    obtain rfl := q1.scal hd
    exact ⟨l, xs, rfl, .inl (SqL.of e1), f1, f2, k.dt D (.bl _) q⟩
  · obtain ⟨l, xs, rfl, e1, q1⟩ := view_tup D h2 ha
    obtain rfl := q1.scal hd
    exact ⟨l, xs, rfl, .inr e1, f1, f2, k.dt D (.bl _) q⟩
theorem wr_in_sign {c : Nat} {z : Str} {Q : Av → Sls → Prop} (q : Q (.dt (.bl (decide (c ∈ z.cps.toList)))) ρ) : WR K W (fun x y H Q => ∃ (c : Nat) (z : Str), x = .str ⟨#[c]⟩ ∧ y = .str z ∧ Q (.bl (decide (c ∈ z.cps.toList))) H) (.dt (.str ⟨#[c]⟩)) (.dt (.str z)) ρ Q X := by
  rintro s v w Q0 rfl D _ h1 h2 k
  rw [at_str h1, at_str h2]
  exact ⟨c, z, rfl, rfl, k.dt D (.bl _) q⟩
def nonU : U → Bool
  | .non => true
  | _ => false
theorem at_nonU {G : Hp} {v : V} {d : U} (h : At K G v d) : decide (v = .non) = nonU d := by
  cases h <;> first | rfl | exact decide_eq_false nofun
/-- what is looked at is None just if the datum is -/
theorem view_non {s : Sta} {v : V} {a : Av} {d : U} (D : Den K s) (ok : AvOk K s s v a) (w : View s.ρ a d) : decide (v = .non) = nonU d := at_nonU (view_at D ok w)
theorem wr_isN {a : Av} {d : U} {Q : Av → Sls → Prop} (ha : View ρ a d) (q : Q (.dt (.bl (nonU d))) ρ) : WR K W (fun x y H Q => y = .non ∧ Q (.bl (decide (x = .non))) H) a (.dt .non) ρ Q X := by
  rintro s v w Q0 rfl D _ h1 h2 k
  rw [at_non h2]
  refine ⟨rfl, ?_⟩
  rw [view_non D h1 ha]
  exact k.dt D (.bl _) q
theorem wr_notN {a : Av} {d : U} {Q : Av → Sls → Prop} (ha : View ρ a d) (q : Q (.dt (.bl (!nonU d))) ρ) : WR K W (fun x y H Q => y = .non ∧ Q (.bl (!decide (x = .non))) H) a (.dt .non) ρ Q X := by
  rintro s v w Q0 rfl D _ h1 h2 k
  rw [at_non h2]
  refine ⟨rfl, ?_⟩
  rw [view_non D h1 ha]
  exact k.dt D (.bl _) q
theorem wr_isB {b c : Bool} {Q : Av → Sls → Prop} (q : Q (.dt (.bl (decide (b = c)))) ρ) : WR K W rIsB (.dt (.bl b)) (.dt (.bl c)) ρ Q X := by
  rintro s v w Q0 rfl D _ h1 h2 k
  rw [at_bl h1, at_bl h2]
  exact ⟨b, c, rfl, rfl, k.dt D (.bl _) q⟩
theorem wr_notB {b c : Bool} {Q : Av → Sls → Prop} (q : Q (.dt (.bl (!decide (b = c)))) ρ) : WR K W rNotB (.dt (.bl b)) (.dt (.bl c)) ρ Q X := by
  rintro s v w Q0 rfl D _ h1 h2 k
  rw [at_bl h1, at_bl h2]
  exact ⟨b, c, rfl, rfl, k.dt D (.bl _) q⟩
theorem we_un {f : Int → V} {ta : TE} {Q : Av → Sls → Prop} (h : WE K W ta ρ (fun a ρ1 => ∃ i d, a = .dt (.int i) ∧ (∀ G, At K G (f i) d) ∧ Q (.dt d) ρ1) X) : WE K W (tUn (rU f) ta) ρ Q X := by
  rintro s Q0 rfl D x k
  refine h s _ rfl D x fun v a s1 n ok ⟨i, d, e, hd, q⟩ => ?_
  subst e
  have ok : At K s1.G v (.int i) := ok
  cases ok
  exact ⟨i, rfl, k _ (.dt d) s1 n (hd _) q⟩
/-! ### built-in functions -/
def WC (K : PySem.W.Frag) (W : Wx) (r : List V → Hp → VK → Prop) (as : List Av) (ρ : Sls) (Q : Av → Sls → Prop) (X : Er → Sls → Prop) : Prop :=
  ∀ (s : Sta) (vs : List V) (Q0 : VK), s.ρ = ρ → Den K s → XOk K s W X → AvsOk K s vs as → Cnt K s Q Q0 → r vs s.H Q0
theorem we_cb {r : List V → Hp → VK → Prop} {t : TA} {Q : Av → Sls → Prop} (h : WA K W t ρ (fun as ρ1 => WC K W r as ρ1 Q X) X) : WE K W (tCB r t) ρ Q X := by
  rintro s Q0 rfl D x k
  exact h s _ rfl D x fun vs as s1 n ok q => q s1 vs Q0 rfl n.den (x.next n.stp) ok (k.lift n)
theorem wc_int {i : Int} {Q : Av → Sls → Prop} (q : Q (.dt (.int i)) ρ) : WC K W (fun xs H Q => (∃ i, xs = [.int i] ∧ Q (.int i) H) ∨ ∃ k, xs = [.bl k] ∧ Q (.int (if k then 1 else 0)) H) [.dt (.int i)] ρ Q X := by
  rintro s vs Q0 rfl D _ h0 k
  obtain ⟨v, rfl, h⟩ := avs_one h0
  rw [at_int h]
  exact .inl ⟨i, rfl, k.dt D (.int _) q⟩
theorem wc_int_bl {b : Bool} {Q : Av → Sls → Prop} (q : Q (.dt (.int (if b then 1 else 0))) ρ) : WC K W (fun xs H Q => (∃ i, xs = [.int i] ∧ Q (.int i) H) ∨ ∃ k, xs = [.bl k] ∧ Q (.int (if k then 1 else 0)) H) [.dt (.bl b)] ρ Q X := by
  rintro s vs Q0 rfl D _ h0 k
  obtain ⟨v, rfl, h⟩ := avs_one h0
  rw [at_bl h]
  exact .inr ⟨b, rfl, k.dt D (.int _) q⟩
theorem wc_abs {i : Int} {Q : Av → Sls → Prop} (q : Q (.dt (.int (if i < 0 then -i else i))) ρ) : WC K W (fun xs H Q => ∃ i, xs = [.int i] ∧ Q (.int (if i < 0 then -i else i)) H) [.dt (.int i)] ρ Q X := by
  rintro s vs Q0 rfl D _ h0 k
  obtain ⟨v, rfl, h⟩ := avs_one h0
  rw [at_int h]
  exact ⟨i, rfl, k.dt D (.int _) q⟩
theorem wc_max {i j : Int} {Q : Av → Sls → Prop} (q : Q (.dt (.int (if j > i then j else i))) ρ) : WC K W (fun xs H Q => ∃ i j, xs = [.int i, .int j] ∧ Q (.int (if j > i then j else i)) H) [.dt (.int i), .dt (.int j)] ρ Q X := by
  rintro s vs Q0 rfl D _ h k
  obtain ⟨v, w, rfl, h1, h2⟩ := avs_two h
  rw [at_int h1, at_int h2]
  exact ⟨i, j, rfl, k.dt D (.int _) q⟩
theorem wc_min {i j : Int} {Q : Av → Sls → Prop} (q : Q (.dt (.int (if j < i then j else i))) ρ) : WC K W (fun xs H Q => ∃ i j, xs = [.int i, .int j] ∧ Q (.int (if j < i then j else i)) H) [.dt (.int i), .dt (.int j)] ρ Q X := by
  rintro s vs Q0 rfl D _ h k
  obtain ⟨v, w, rfl, h1, h2⟩ := avs_two h
  rw [at_int h1, at_int h2]
  exact ⟨i, j, rfl, k.dt D (.int _) q⟩
/-- how long a datum is -/
def ulen : U → Option Nat
  | .lst ds => some ds.length
  | .fls ds => some ds.length
  | .tup ds => some ds.length
  | .str z => if z.length ≤ 100000 then some z.length else none
  | _ => none
theorem wc_len {a : Av} {d : U} {n : Nat} {Q : Av → Sls → Prop} (ha : View ρ a d) (e : ulen d = some n) (q : Q (.dt (.int n)) ρ) : WC K W (fun xs H Q => ∃ x n, xs = [x] ∧ LenV K x H n ∧ Q (.int n) H) [a] ρ Q X := by
  rintro s vs Q0 rfl D _ h0 k
  obtain ⟨v, rfl, h⟩ := avs_one h0
  refine ⟨v, n, rfl, ?_, k.dt D (.int _) q⟩
  have hv := view_at D h ha
  cases hv with
  | lst hs hx =>
    cases (show some _ = some n from e)
    exact .inl ⟨_, SqL.of hs, hx.length.symm⟩
  | fls hs hx =>
    cases (show some _ = some n from e)
    exact .inl ⟨_, hs, hx.length.symm⟩
  | tup hs hx =>
    cases (show some _ = some n from e)
    exact .inr ⟨_, SqT.of hs, hx.length.symm⟩
  | str z =>
    have e : (if z.length ≤ 100000 then some z.length else none) = some n := e
    by_cases hz : z.length ≤ 100000
    · rw [if_pos hz] at e
      cases e
      exact ⟨Nat.le_trans hz (by decide), rfl⟩
    · rw [if_neg hz] at e
      cases e
  | _ => cases e
theorem wc_lenD {a : Av} {ks : List Key} {ds : List U} {Q : Av → Sls → Prop} (ha : View ρ a (.dic ks ds)) (q : Q (.dt (.int (ks.length : Nat))) ρ) : WC K W (fun xs H Q => ∃ a kvs, xs = [V.ref a] ∧ H a = some (.dK kvs) ∧ Q (.int kvs.length) H) [a] ρ Q X := by
  rintro s vs Q0 rfl D _ h0 k
  obtain ⟨v, rfl, h⟩ := avs_one h0
  have hv := view_at D h ha
  cases hv with
  | dic hs hd =>
    refine ⟨_, _, rfl, hs, ?_⟩
    rw [List.length_map] at q
    exact k.dt D (.int _) q
/-- the class of a datum -/
def tyU : U → Value
  | .non => .type "NoneType"
  | .bl _ => .type "bool"
  | .int _ => .type "int"
  | .str _ => .type "str"
  | .lst _ => .type "list"
  | .fls _ => .type "list"
  | .tup _ => .type "tuple"
  | .dic _ _ => .type "dict"
  | .dct _ _ => .type "dict"
  | .obj C _ _ => .ref C
  | .exo C _ _ => .ref C
  | _ => .none
def plainU : U → Bool
  | .non => true
  | .bl _ => true
  | .int _ => true
  | .str _ => true
  | .lst _ => true
  | .fls _ => true
  | .tup _ => true
  | _ => false
theorem at_ty {H : Hp} {v : V} {d : U} (h : At K H v d) (p : plainU d = true) : TyX K H v (tyU d) := by
  cases h <;> first | cases p; done | exact ty_non | exact ty_bl | exact ty_int | exact ty_str | (rename_i hs _; exact ty_lst hs) | (rename_i hs _; exact ty_sqL hs) | (rename_i hs _; exact ty_sqT (SqT.of hs))
theorem wc_isi {a : Av} {d : U} {n : String} {b : Bool} {Q : Av → Sls → Prop} (ha : View ρ a d) (p : plainU d = true) (e : PySem.W.kitOne K (tyU d) (.type n) = some b) (q : Q (.dt (.bl b)) ρ) : WC K W (rIsi K) [a, .dt (.ty n)] ρ Q X := by
  rintro s vs Q0 rfl D _ h k
  obtain ⟨v, w, rfl, h1, h2⟩ := avs_two h
  have h2 : At K s.G w (.ty n) := h2
  cases h2
  exact ⟨v, .ty n, _, _, b, rfl, .ty n, at_ty (view_at D h1 ha) p, e, k.dt D (.bl _) q⟩
theorem AtAll.cls {G : Hp} : ∀ {xs : List V} {ns : List String}, AtAll K G xs (ns.map U.ty) → Paired ClsV xs (ns.map Value.type)
  | _, [], .nil => .nil
  | _, n :: ns, .cons h t => by
    cases h
    exact .cons (.ty n) (AtAll.cls t)
theorem wc_isiT {a : Av} {d : U} {ns : List String} {b : Bool} {Q : Av → Sls → Prop} (ha : View ρ a d) (p : plainU d = true) (e : PySem.W.kitAny K (tyU d) (ns.map Value.type) = some b) (q : Q (.dt (.bl b)) ρ) : WC K W (rIsiT K) [a, .dt (.tup (ns.map U.ty))] ρ Q X := by
  rintro s vs Q0 rfl D _ h k
  obtain ⟨v, w, rfl, h1, h2⟩ := avs_two h
  have h2 : At K s.G w (.tup (ns.map U.ty)) := h2
  cases h2 with
  | tup hs hd => exact ⟨v, _, _, _, _, b, rfl, D.sub _ _ hs, hd.cls, at_ty (view_at D h1 ha) p, e, k.dt D (.bl _) q⟩
theorem wc_all {a : Av} {bs : List Bool} {Q : Av → Sls → Prop} (ha : View ρ a (.lst (bs.map U.bl))) (q : Q (.dt (.bl (bs.all id))) ρ) : WC K W (rAll K) [a] ρ Q X := by
  rintro s vs Q0 rfl D _ h0 k
  obtain ⟨v, rfl, h⟩ := avs_one h0
  obtain ⟨l, xs, rfl, e1, q1⟩ := view_list D h ha
  obtain rfl := q1.scal (ys := bs.map V.bl) (by rw [List.map_map, List.map_map]; rfl)
  exact ⟨l, bs, rfl, SqL.of e1, k.dt D (.bl _) q⟩
theorem wc_any {a : Av} {bs : List Bool} {Q : Av → Sls → Prop} (ha : View ρ a (.lst (bs.map U.bl))) (q : Q (.dt (.bl (bs.any id))) ρ) : WC K W (rAny K) [a] ρ Q X := by
  rintro s vs Q0 rfl D _ h0 k
  obtain ⟨v, rfl, h⟩ := avs_one h0
  obtain ⟨l, xs, rfl, e1, q1⟩ := view_list D h ha
  obtain rfl := q1.scal (ys := bs.map V.bl) (by rw [List.map_map, List.map_map]; rfl)
  exact ⟨l, bs, rfl, SqL.of e1, k.dt D (.bl _) q⟩
theorem wc_sum {a : Av} {ns : List Int} {Q : Av → Sls → Prop} (ha : View ρ a (.lst (ns.map U.int))) (q : Q (.dt (.int ns.sum)) ρ) : WC K W (rSum K) [a] ρ Q X := by
  rintro s vs Q0 rfl D _ h0 k
  obtain ⟨v, rfl, h⟩ := avs_one h0
  obtain ⟨l, xs, rfl, e1, q1⟩ := view_list D h ha
  obtain rfl := q1.scal (ys := ns.map V.int) (by rw [List.map_map, List.map_map]; rfl)
  exact ⟨l, ns, rfl, SqL.of e1, k.dt D (.int _) q⟩
theorem wc_str {i : Int} {Q : Av → Sls → Prop} (l : i.natAbs.log2 < 1920) (q : Q (.dt (.str (toString i))) ρ) : WC K W (fun xs H Q => ∃ i, xs = [.int i] ∧ i.natAbs.log2 < 1920 ∧ Q (.str (toString i)) H) [.dt (.int i)] ρ Q X := by
  rintro s vs Q0 rfl D _ h0 k
  obtain ⟨v, rfl, h⟩ := avs_one h0
  rw [at_int h]
  exact ⟨i, rfl, l, k.dt D (.str _) q⟩
theorem wc_tuple {a : Av} {ds : List U} {Q : Av → Sls → Prop} (ha : View ρ a (.lst ds)) (q : Q (.dt (.tup ds)) ρ) :
    WC K W (fun xs H Q => ∃ p ys, xs = [.ref p] ∧ ((SqL K H p ys ∧ ∀ l, H l = none → Q (.ref l) (upd H l (.tup ys))) ∨ (SqT K H p ys ∧ Q (.ref p) H))) [a] ρ Q X := by
  rintro s vs Q0 rfl D _ h0 k
  obtain ⟨v, rfl, h⟩ := avs_one h0
  obtain ⟨l, xs, rfl, e1, q1⟩ := view_list D h ha
  exact ⟨l, xs, rfl, .inl ⟨SqL.of e1, fun p hp => k.tup D hp q1 q⟩⟩
theorem wc_list {a : Av} {ds : List U} {Q : Av → Sls → Prop} (ha : View ρ a (.lst ds) ∨ View ρ a (.tup ds)) (q : Q (.own (.lst ds)) ρ) :
    WC K W (fun xs H Q => ∃ p ys, xs = [.ref p] ∧ (SqL K H p ys ∨ SqT K H p ys) ∧ ∀ l, H l = none → Q (.ref l) (upd H l (.lst ys))) [a] ρ Q X := by
  rintro s vs Q0 rfl D _ h0 k
  obtain ⟨v, rfl, h⟩ := avs_one h0
  rcases ha with ha | ha
  · obtain ⟨l, xs, rfl, e1, q1⟩ := view_list D h ha
    exact ⟨l, xs, rfl, .inl (SqL.of e1), fun p hp => k.new D hp (.lst q1) q⟩
  · obtain ⟨l, xs, rfl, e1, q1⟩ := view_tup D h ha
    exact ⟨l, xs, rfl, .inr e1, fun p hp => k.new D hp (.lst q1) q⟩
/-- slices -/
def WO (K : PySem.W.Frag) (W : Wx) (t : TO) (ρ : Sls) (Q : Option Int → Sls → Prop) (X : Er → Sls → Prop) : Prop :=
  ∀ (s : Sta) (Q0 : Option Int → Hp → Prop), s.ρ = ρ → Den K s → XOk K s W X → (∀ o s', Nxt K s s' → Q o s'.ρ → Q0 o s'.H) → t s.σ s.H Q0
theorem wo_none {Q : Option Int → Sls → Prop} (q : Q none ρ) : WO K W tNoPart ρ Q X := by
  rintro s Q0 rfl D x k
  exact k none s (Nxt.refl D) q
theorem wo_some {t : TE} {Q : Option Int → Sls → Prop} (h : WE K W t ρ (fun a ρ1 => ∃ i, a = .dt (.int i) ∧ Q (some i) ρ1) X) : WO K W (tPart t) ρ Q X := by
  rintro s Q0 rfl D x k
  refine h s _ rfl D x fun v a s1 n ok ⟨i, e, q⟩ => ?_
  subst e
  have ok : At K s1.G v (.int i) := ok
  cases ok
  exact ⟨i, rfl, k (some i) s1 n q⟩
theorem we_sl {r : V → Option Int → Option Int → Hp → VK → Prop} {te : TE} {tl th : TO} {Q : Av → Sls → Prop}
    (h : WE K W te ρ (fun a ρ1 => WO K W tl ρ1 (fun l ρ2 => WO K W th ρ2 (fun u ρ3 => ∀ (s : Sta) (v : V) (Q0 : VK), s.ρ = ρ3 → Den K s → AvOk K s s v a.fl → Cnt K s Q Q0 → r v l u s.H Q0) X) X) X) : WE K W (tSl r te tl th) ρ Q X := by
  rintro s Q0 rfl D x k
  refine WE.flat (Q := fun a ρ1 => WO K W tl ρ1 (fun l ρ2 => WO K W th ρ2 (fun u ρ3 => ∀ (s : Sta) (v : V) (Q0 : VK), s.ρ = ρ3 → Den K s → AvOk K s s v a → Cnt K s Q Q0 → r v l u s.H Q0) X) X) h rfl D x fun v a s1 n1 f ok q1 => ?_
  show tl s.σ s1.H _
  rw [← n1.slots]
  refine q1 s1 _ rfl n1.den (x.next n1.stp) fun l s2 n2 q2 => ?_
  show th s1.σ s2.H _
  rw [← n2.slots]
  refine q2 s2 _ rfl n2.den (x.next (n1.trans n2).stp) fun u s3 n3 q3 => ?_
  exact q3 s3 v Q0 rfl n3.den ((AvOk.next f (n2.trans n3) ok).self f) (k.lift (n1.trans (n2.trans n3)))
def cutU (xs : List U) (lo hi : Option Int) : List U := (xs.drop (HT.sIx xs.length 0 lo)).take (HT.sIx xs.length xs.length hi - HT.sIx xs.length 0 lo)
theorem sl_L {a : Av} {ds : List U} {l u : Option Int} {Q : Av → Sls → Prop} {ρ3 : Sls} (ha : View ρ3 a (.lst ds)) (q : Q (.own (.lst (cutU ds l u))) ρ3) : ∀ (s : Sta) (v : V) (Q0 : VK), s.ρ = ρ3 → Den K s → AvOk K s s v a → Cnt K s Q Q0 → rSlL K v l u s.H Q0 := by
  rintro s v Q0 rfl D h k
  obtain ⟨p, xs, rfl, e1, q1⟩ := view_list D h ha
  refine ⟨p, xs, rfl, SqL.of e1, fun b hb => k.new D hb (.lst ?_) q⟩
  unfold cutV cutU
  rw [q1.length]
  exact (q1.drop _).take _
theorem sl_S {z : Str} {l u : Option Int} {Q : Av → Sls → Prop} {ρ3 : Sls} (hz : z.length ≤ 100000) (q : Q (.dt (.str (cutS z l u))) ρ3) : ∀ (s : Sta) (v : V) (Q0 : VK), s.ρ = ρ3 → Den K s → AvOk K s s v (.dt (.str z)) → Cnt K s Q Q0 → rSlS v l u s.H Q0 := by
  rintro s v Q0 rfl D h k
  rw [at_str h]
  exact ⟨z, rfl, Nat.le_trans hz (by decide), k.dt D (.str _) q⟩
/-! ### lists written -/
theorem ws_append {i : Nat} {t : TA} (h : WA K W t ρ (fun as ρ1 => ∃ d ρ2 sl ds, Frz ρ1 as [d] ρ2 ∧ ρ2[i]? = some sl ∧ sl.cell = some (.lst ds) ∧ ds.length < 100000 ∧ P.nx (setC ρ2 i (.lst (ds ++ [d])))) P.xc)
    (hc : ∃ sl ds, ρ[i]? = some sl ∧ sl.cell = some (.lst ds)) : WS K W (tDrop (tBM K "list" rAppend (tVar i) t)) ρ P := by
  rintro s D rfl d x f
  obtain ⟨sl, ds, e, c⟩ := hc
  obtain ⟨a, o, e1, e2, e3, e4⟩ := d.own i sl _ e c
  refine ⟨.ref a, e1, ?_, ?_⟩
  · cases e4 with
    | lst _ => exact .inl ⟨rfl, _, SqL.of e3⟩
  · refine h s _ rfl d x fun vs as s1 n1 ok ⟨z, ρ2, sl', ds', hf, q1, q2, q3, q⟩ => ?_
    obtain ⟨s2, e5, e6, n2, hz⟩ := hf.run rfl n1.den ok
    cases hz with
    | cons hz ht =>
      cases ht
      have n12 := n1.trans n2
      subst e5
      obtain ⟨a', o', e7, e8, e9, e10⟩ := n2.den.own i sl' _ q1 q2
      have e7' : s2.σ[i]? = some (some (.ref a)) := by rw [n12.slots]; exact e1
      rw [e7'] at e7
      cases e7
      cases e10 with
      | lst hx =>
        rename_i xs
        rw [← e6]
        refine ⟨a, xs, _, rfl, rfl, e9, Nat.lt_of_lt_of_le (by rw [hx.length]; exact q3) (by decide), ?_⟩
        have nw := cell_write (o' := .lst (xs ++ [_])) (d' := .lst (ds' ++ [z])) n2.den q1 q2 e7' e9 (.lst (hx.snoc hz))
        have := f.nx _ (n12.stp.trans nw.stp) nw.den q
        rw [show ({ s2 with ρ := setC s2.ρ i (.lst (ds' ++ [z])), H := upd s2.H a (.lst (xs ++ [_])) } : Sta).σ = s.σ from n12.slots] at this
        exact this
theorem ws_setL {j : Nat} {te ti : TE} (h : WE K W te ρ (fun a ρ1 => ∃ d ρ2, Frz ρ1 [a.fl] [d] ρ2 ∧ (∃ sl ds, ρ2[j]? = some sl ∧ sl.cell = some (.lst ds)) ∧ WE K W ti ρ2 (fun b ρ3 => ∃ i m sl ds, b = .dt (.int i) ∧ ρ3[j]? = some sl ∧ sl.cell = some (.lst ds) ∧ ixN ds.length i = some m ∧ P.nx (setC ρ3 j (.lst (ds.set m d)))) P.xc) P.xc) :
    WS K W (tAsg te (gSub (tVar j) ti rSetL)) ρ P := by
  rintro s D rfl d x f
  refine WE.flat (Q := fun a ρ1 => ∃ d ρ2, Frz ρ1 [a] [d] ρ2 ∧ (∃ sl ds, ρ2[j]? = some sl ∧ sl.cell = some (.lst ds)) ∧ WE K W ti ρ2 (fun b ρ3 => ∃ i m sl ds, b = .dt (.int i) ∧ ρ3[j]? = some sl ∧ sl.cell = some (.lst ds) ∧ ixN ds.length i = some m ∧ P.nx (setC ρ3 j (.lst (ds.set m d)))) P.xc) h rfl d x fun v a s1 n1 fa ok ⟨z, ρ2, hf, hc, q⟩ => ?_
  obtain ⟨s2, e1, e2, n2, hz⟩ := frz1 hf fa n1.den ok
  subst e1
  obtain ⟨sl, ds, c1, c2⟩ := hc
  obtain ⟨b, o, e3, e4, e5, e6⟩ := n2.den.own j sl _ c1 c2
  have n12 := n1.trans n2
  have eσ : s.σ[j]? = some (some (.ref b)) := by rw [← n12.slots]; exact e3
  refine ⟨.ref b, eσ, ?_⟩
  rw [← e2, ← n12.slots]
  refine q s2 _ rfl n2.den (x.next n12.stp) fun w bv s3 n3 ok3 ⟨i, m, sl', ds', eb, c3, c4, c5, q3⟩ => ?_
  subst eb
  have ok3 : At K s3.G w (.int i) := ok3
  cases ok3
  obtain ⟨b', o', e7, e8, e9, e10⟩ := n3.den.own j sl' _ c3 c4
  have e7' : s3.σ[j]? = some (some (.ref b)) := by rw [n3.slots]; exact e3
  rw [e7'] at e7
  cases e7
  cases e10 with
  | lst hx =>
    rename_i xs
    refine ⟨b, xs, i, m, rfl, rfl, e9, by rw [hx.length]; exact c5, ?_⟩
    have nw := cell_write (o' := .lst (xs.set m v)) (d' := .lst (ds'.set m z)) n3.den c3 c4 e7' e9 (.lst (hx.set m (At.mono n3.stp.sub _ _ hz)))
    have := f.nx _ (n12.stp.trans (n3.stp.trans nw.stp)) nw.den q3
    rw [show ({ s3 with ρ := setC s3.ρ j (.lst (ds'.set m z)), H := upd s3.H b (.lst (xs.set m v)) } : Sta).σ = s2.σ from n3.slots] at this
    exact this
theorem ws_par {i j : Nat} {ta : TA} (h : WA K W ta ρ (fun as ρ1 => ∃ d e ρ2, Frz ρ1 as [d, e] ρ2 ∧ nb ρ2 i = true ∧ nb ρ2 j = true ∧ P.nx ((ρ2.set i (.val d)).set j (.val e))) P.xc) : WS K W (tPar i j ta) ρ P := by
  rintro s D rfl d x f
  refine h s _ rfl d x fun vs as s1 n1 ok ⟨z, w, ρ2, hf, b1, b2, q⟩ => ?_
  obtain ⟨s2, e1, e2, n2, hz⟩ := hf.run rfl n1.den ok
  subst e1
  cases hz with
  | cons hz ht =>
    cases ht with
    | cons hw ht =>
      cases ht
      refine ⟨_, _, rfl, ?_⟩
      obtain ⟨st3, d3⟩ := put_val n2.den b1 hz
      obtain ⟨st4, d4⟩ := put_val (i := j) d3 (nb_set b2) hw
      rw [← e2]
      have := f.nx _ ((n1.trans n2).stp.trans (st3.trans st4)) d4 q
      rw [show ({ s2 with ρ := (s2.ρ.set i (.val z)).set j (.val w), σ := (s2.σ.set i (some _)).set j (some _) } : Sta).σ = (s.σ.set i (some _)).set j (some _) from by rw [← (n1.trans n2).slots]] at this
      exact this
end
theorem put_dt {i : Nat} {d : U} {ρ : Sls} {N : Sls → Prop} (h : nb ρ i = true) (q : N (ρ.set i (.val d))) : Put i (.dt d) ρ N := ⟨h, q⟩
theorem put_new {i : Nat} {d : U} {ρ : Sls} {N : Sls → Prop} (h : nb ρ i = true) (q : N (ρ.set i (.own d))) : Put i (.own d) ρ N := ⟨h, q⟩
theorem put_mv {i j : Nat} {d : U} {ρ : Sls} {N : Sls → Prop} (h : nb ρ i = true) (e : ρ[j]? = some (.own d)) (q : N ((ρ.set j (.val d)).set i (.val d))) : Put i (.sl j) ρ N := ⟨h, .inl ⟨d, e, q⟩⟩
theorem rt_dt {d : U} {ρ : Sls} {N : Av → Sls → Prop} (q : N (.dt d) ρ) : Rt (.dt d) ρ N := q
theorem rt_new {d : U} {ρ : Sls} {N : Av → Sls → Prop} (q : N (.own d) ρ) : Rt (.own d) ρ N := q
theorem rt_own {i : Nat} {d : U} {ρ : Sls} {N : Av → Sls → Prop} (e : ρ[i]? = some (.own d)) (q : N (.own d) (ρ.set i .un)) : Rt (.sl i) ρ N := .inl ⟨d, e, q⟩
/-- a def's promise has as many arguments as slots -/
theorem spU_len {K : PySem.W.Frag} {R : RU} {vs : List V} {H : Hp} {Q : VK} {E : XK} {n : Nat} (h : spU K R vs H Q E) (hn : ∀ ρ Q X, R ρ Q X → ρ.length = n) : vs.length = n := by
  obtain ⟨G, ρ, D, _, h⟩ := h
  have e := D.len
  rw [List.length_map] at e
  exact e.trans (hn _ _ _ h)
/-- THE RULE for a def that lets nothing out, by data -/
theorem Fun_okU {P : Program} {w : World} {K : PySem.W.Frag} {mg : Str → Option Value} {base : Heap} {x qual : Str} {st : Stmt} {f : Addr} {fd : FuncData} {N ps : List Str} {k : Nat} {R : RU} (F : Fun K x qual st f fd) (S : FnScope N ps (defScope st)) (hn : ∀ ρ Q X, R ρ Q X → ρ.length = ps.length)
    (hbody : ∀ (cdv : Value) (A : Around) (outer : List PySem.Env) (s : Shared) (H : Hp) (E : XK), Room k (A.deeper (envOfC qual (defScope st) s.heap.objs.size f cdv)) →
      ∃ t, PSs (cxOf CX0 P w K mg base N qual (defScope st) f cdv A outer s H E).nox (defBody st) t ∧
        ∀ (W : Wx) (ρ : Sls) (Qd : Av → Sls → Prop) (Xd : Er → Sls → Prop), R ρ Qd Xd →
          WS K W t (ρ ++ List.replicate (N.length - ps.length) .un) { nx := fun ρ' => Qd (.dt .non) (out ρ ρ'), rt := fun a ρ' => a.ns ∧ Qd a (out ρ ρ'), xc := fun e ρ' => Xd e (out ρ ρ') }) :
    FnOk P w K mg base CX0 (k + 1) f fd ps (spU K R) := by
  refine F.ok S (fun vs H Q E h => spU_len h hn) (fun cdv A outer s H vs Q E hr h => ?_)
  obtain ⟨t, ht, hw⟩ := hbody cdv A outer s H E hr
  refine ⟨t, ht, body_U h fun ρ Qd Xd hl hR => ?_⟩
  have e : vs.length = ps.length := hl.symm.trans (hn _ _ _ hR)
  rw [e]
  exact hw _ ρ Qd Xd hR
/-- .. for a def that may raise -/
theorem Fun_okUX {P : Program} {w : World} {K : PySem.W.Frag} {mg : Str → Option Value} {base : Heap} {x qual : Str} {st : Stmt} {f : Addr} {fd : FuncData} {N ps : List Str} {k : Nat} {R : RU} (F : Fun K x qual st f fd) (S : FnScope N ps (defScope st)) (hn : ∀ ρ Q X, R ρ Q X → ρ.length = ps.length)
    (hbody : ∀ (cdv : Value) (A : Around) (outer : List PySem.Env) (s : Shared) (H : Hp) (E : XK), Room k (A.deeper (envOfC qual (defScope st) s.heap.objs.size f cdv)) →
      ∃ t, PSs (cxOf (L2.CX P w) P w K mg base N qual (defScope st) f cdv A outer s H E) (defBody st) t ∧
        ∀ (ρ : Sls) (Qd : Av → Sls → Prop) (Xd : Er → Sls → Prop), R ρ Qd Xd →
          WS K (fun cls dd _ H' => E cls dd H') t (ρ ++ List.replicate (N.length - ps.length) .un) { nx := fun ρ' => Qd (.dt .non) (out ρ ρ'), rt := fun a ρ' => a.ns ∧ Qd a (out ρ ρ'), xc := fun e ρ' => Xd e (out ρ ρ') }) :
    FnOk P w K mg base (L2.CX P w) (k + 1) f fd ps (spU K R) := by
  refine F.okX S (fun vs H Q E h => spU_len h hn) (fun cdv A outer s H vs Q E hr h => ?_)
  obtain ⟨t, ht, hw⟩ := hbody cdv A outer s H E hr
  refine ⟨t, ht, body_U h fun ρ Qd Xd hl hR => ?_⟩
  have e : vs.length = ps.length := hl.symm.trans (hn _ _ _ hR)
  rw [e]
  exact hw ρ Qd Xd hR
/-! ### the same, reckoned -/
def frzC : Sls → List Av → Option (List U × Sls)
  | ρ, [] => some ([], ρ)
  | ρ, .dt d :: as => match frzC ρ as with
    | some (ds, ρ') => some (d :: ds, ρ')
    | none => none
  | ρ, .sl i :: as => match ρ[i]? with
    | some (.own d) => (match frzC (ρ.set i (.val d)) as with
      | some (ds, ρ') => some (d :: ds, ρ')
      | none => none)
    | some (.val d) => (match frzC ρ as with
      | some (ds, ρ') => some (d :: ds, ρ')
      | none => none)
    | _ => none
  | _, .own _ :: _ => none
theorem frzC_ok : ∀ {as : List Av} {ρ ρ' : Sls} {ds : List U}, frzC ρ as = some (ds, ρ') → Frz ρ as ds ρ'
  | [], _, _, _, h => by
    cases (show some _ = some _ from h)
    exact .nil
  | .dt d :: as, ρ, ρ', ds, h => by
    unfold frzC at h
    cases e : frzC ρ as with
    | none => rw [e] at h; cases h
    | some p =>
      rw [e] at h
      cases (show some _ = some _ from h)
      exact .dt (frzC_ok (as := as) e)
  | .sl i :: as, ρ, ρ', ds, h => by
    unfold frzC at h
    split at h
    · rename_i d e0
      cases e : frzC (ρ.set i (.val d)) as with
      | none => rw [e] at h; cases h
      | some p =>
        rw [e] at h
        cases (show some _ = some _ from h)
        exact .sl e0 (frzC_ok (as := as) e)
    · rename_i d e0
      cases e : frzC ρ as with
      | none => rw [e] at h; cases h
      | some p =>
        rw [e] at h
        cases (show some _ = some _ from h)
        exact .va e0 (frzC_ok (as := as) e)
    · cases h
  | .own _ :: _, _, _, _, h => nomatch h
/-- operands as arguments; of own objects it is said whether they are lent (true) or frozen -/
def pasC : Sls → List Av → List Bool → Option (List Arg × Sls)
  | ρ, [], _ => some ([], ρ)
  | ρ, .dt d :: as, _ :: ms => match pasC ρ as ms with
    | some (gs, ρ') => some (.va d :: gs, ρ')
    | none => none
  | ρ, .sl i :: as, true :: ms => match pasC ρ as ms with
    | some (gs, ρ') => (match ρ'[i]? with
      | some (.own d) => some (.bo i d :: gs, ρ')
      | some (.bor d) => some (.bo i d :: gs, ρ')
      | _ => none)
    | none => none
  | ρ, .sl i :: as, false :: ms => match ρ[i]? with
    | some (.own d) => (match pasC (ρ.set i (.val d)) as ms with
      | some (gs, ρ') => some (.va d :: gs, ρ')
      | none => none)
    | some (.val d) => (match pasC ρ as ms with
      | some (gs, ρ') => some (.va d :: gs, ρ')
      | none => none)
    | _ => none
  | _, _, _ => none
theorem pasC_ok : ∀ {as : List Av} {ms : List Bool} {ρ ρ' : Sls} {gs : List Arg}, pasC ρ as ms = some (gs, ρ') → Pas ρ as gs ρ'
  | [], ms, ρ, ρ', gs, h => by
    cases ms <;> (cases (show some (([] : List Arg), ρ) = some (gs, ρ') from h); exact .nil)
  | .dt d :: as, [], _, _, _, h => nomatch h
  | .sl i :: as, [], _, _, _, h => nomatch h
  | .own _ :: as, [], _, _, _, h => nomatch h
  | .own _ :: as, _ :: _, _, _, _, h => nomatch h
  | .dt d :: as, m :: ms, ρ, ρ', gs, h => by
    unfold pasC at h
    cases e : pasC ρ as ms with
    | none => rw [e] at h; cases h
    | some p =>
      rw [e] at h
      cases (show some _ = some _ from h)
      exact .dt (pasC_ok (as := as) e)
  | .sl i :: as, true :: ms, ρ, ρ', gs, h => by
    unfold pasC at h
    cases e : pasC ρ as ms with
    | none => rw [e] at h; cases h
    | some p =>
      obtain ⟨gs2, ρ2⟩ := p
      rw [e] at h
      dsimp only at h
      split at h
      · rename_i d e0
        cases (show some _ = some _ from h)
        exact .bo (pasC_ok (as := as) e) e0 rfl
      · rename_i d e0
        cases (show some _ = some _ from h)
        exact .bo (pasC_ok (as := as) e) e0 rfl
      · cases h
  | .sl i :: as, false :: ms, ρ, ρ', gs, h => by
    unfold pasC at h
    split at h
    · rename_i d e0
      cases e : pasC (ρ.set i (.val d)) as ms with
      | none => rw [e] at h; cases h
      | some p =>
        rw [e] at h
        cases (show some _ = some _ from h)
        exact .fz e0 (pasC_ok (as := as) e)
    · rename_i d e0
      cases e : pasC ρ as ms with
      | none => rw [e] at h; cases h
      | some p =>
        rw [e] at h
        cases (show some _ = some _ from h)
        exact .va e0 (pasC_ok (as := as) e)
    · cases h
theorem callU {R : RU} {avs : List Av} {ρ : Sls} {Q : Av → Sls → Prop} {X : Er → Sls → Prop} (ms : List Bool) {gs : List Arg} {ρ1 : Sls} (h : pasC ρ avs ms = some (gs, ρ1)) (s : sep gs = true)
    (k : ∀ (Q' : Av → Sls → Prop) (X' : Er → Sls → Prop), (∀ a r, Q a (upds ρ1 gs r) → Q' a r) → (∀ e r, X e (upds ρ1 gs r) → X' e r) → R (gs.map Arg.slot) Q' X') : CallU R avs ρ Q X := ⟨gs, ρ1, pasC_ok h, s, k⟩
theorem wc_lenS {K : PySem.W.Frag} {W : Wx} {X : Er → Sls → Prop} {ρ : Sls} {z : Str} {Q : Av → Sls → Prop} (h : z.length ≤ 100000) (q : Q (.dt (.int (z.length : Nat))) ρ) : WC K W (fun xs H Q => ∃ x n, xs = [x] ∧ LenV K x H n ∧ Q (.int n) H) [.dt (.str z)] ρ Q X :=
  wc_len (d := .str z) rfl (by show (if z.length ≤ 100000 then some z.length else none) = _; exact if_pos h) q

/-! ### errors that are kept behind their handler -/
theorem exK_ok {P : Program} {w : World} {H : Hp} {g : Heap} {a : Addr} {cls : Value} {dd : Option Addr} {ob : Obj} {fl : Array Value} (e : g.get? a = some ob) (z : Zc cls dd ob) (f : ob.data = .fields fl) : ObjOk P w H g a (ExK cls dd a) :=
  ⟨⟨ob, fl, e, z, f⟩, ⟨ob, e⟩, fun _ _ ⟨o, v, q, r⟩ kp => ⟨o, v, kp o q, r⟩⟩
section
variable {X : Cx} {pins : List (Addr × Obj)} {σ : L2.St} {H : Hp} {s : Shared}
/-- an object that stands untracked is tracked from now on -/
theorem inv_track {a : Addr} {o : HO} (I : L2.Inv X pins σ H s) (hn : H a = none) (h0 : X.s_0.heap.get? a = none) (hL : a ≠ X.env.locals) (hC : ∀ x c, X.env.cells.lookup x = some c → c ≠ a) (hP : ∀ p ∈ X.pn ++ pins, p.1 ≠ a)
    (new : ObjOk X.prog X.w (upd H a o) s.heap a o) : L2.Inv X pins σ (upd H a o) s := by
  have kp : ∀ b u, s.heap.get? b = some u → s.heap.get? b = some u := fun _ _ q => q
  have B := I.base
  refine ⟨I.ok, I.os, I.bare, ⟨fun b u q n => B.keep b u q n, fun b u q n => B.slot b u q n, fun b u q n hx => ?_, B.there, fun b xs q => ?_, fun b u v q => ?_, fun b ps q => ?_⟩, I.loc, I.cell, ?_, fun x c q => ?_, fun p hp => ?_, I.hok.laidN kp hn new, I.len⟩
  · rw [upd_ne (fun z => by rw [z, h0] at q; cases q)]
    exact B.free b u q n hx
  · have r := B.tups b xs q
    rw [upd_ne (ne_of_none r hn)]
    exact r
  · have r := B.frzs b u v q
    rw [upd_ne (ne_of_none r hn)]
    exact r
  · obtain ⟨more, r⟩ := B.tbls b ps q
    exact ⟨more, by rw [upd_ne (ne_of_none r hn)]; exact r⟩
  · rw [upd_ne (Ne.symm hL)]
    exact I.free
  · rw [upd_ne (hC x c q)]
    exact I.freeC x c q
  · obtain ⟨q1, q2, q3⟩ := I.pin p hp
    exact ⟨q1, by rw [upd_ne (hP p hp)]; exact q2, q3⟩
/-- what 'except x as n' wishes of an error, which is kept behind the suite -/
def wKeep (K : PySem.W.Frag) (c : Value) (i : Nat) (ts : Addr → Value → Option Addr → TS) (Wo : WX) (D : Ends) : WX := fun cls dd σ H =>
  ∃ b, PySem.W.exmOne K cls c = some b ∧ (b = false → Wo cls dd σ H) ∧
    (b = true → ∀ a, H a = none → ts a cls dd { nx := fun σ2 H2 => H2 a = none → D.nx (σ2.set i none) (upd H2 a (ExK cls dd a)), rt := fun v H2 => H2 a = none → D.rt v (upd H2 a (ExK cls dd a)), bk := fun σ2 H2 => H2 a = none → D.bk (σ2.set i none) (upd H2 a (ExK cls dd a)), ct := fun σ2 H2 => H2 a = none → D.ct (σ2.set i none) (upd H2 a (ExK cls dd a)) } (σ.set i (some (.ref a))) H)
end
section
variable {X : Cx} {x n : Str} {c : Value} {i : Nat} {body suite : List Stmt} {first : Stmt} {np p1 p2 : Pos} {tb : WX → TS} {ts : Addr → Value → Option Addr → TS} {Wo : WX}
theorem ps_try_keep (hex : X.ex = []) (hst : X.stack = X.env :: X.outer) (hfr : X.env.frame = some X.env.locals) (nd : X.N.Nodup) (hi : X.N[i]? = some n) (hk : X.env.kindOf n = some .local) (hc : Names X x c) (tk : Takes X Wo)
    (hb : ∀ (W : WX) (pn : List (Addr × Obj)) (xe : Value → Shared → Prop), Takes (X.tr pn xe) W → PassesOwn (model X.prog X.w) X.A X.env xe → PSs (X.tr pn xe) body (tb W))
    (hsu : ∀ (a : Addr) (ob : Obj) (cls : Value) (dd : Option Addr) (pn : List (Addr × Obj)), Zc cls dd ob → (∃ fl, ob.data = .fields fl) → PSs (X.suite a ((a, ob) :: pn)) (first :: suite) (ts a cls dd)) :
    PS X (.Try body [.ExceptHandler (some (.Name x np)) (some n) (first :: suite) p1] [] [] p2) (fun D σ H => tb (wKeep X.K c i ts Wo D) D σ H) := by
  refine ⟨fun pins s σ H D I red => ?_⟩
  have okX := I.ok
  have frames : X.A.frames = some (X.env :: X.outer) := okX.frames.trans (congrArg some hst)
  let air : Value → Shared → Prop := fun e s1 => wpAny (model X.prog X.w) X.A (noteFrame e X.env) (fun _ s2 => wpAny (model X.prog X.w) X.A (setFlight e none)
    (fun _ s3 => wpAny (model X.prog X.w) X.A (handleBy e X.env [.ExceptHandler (some (.Name x np)) (some n) (first :: suite) p1]) (SP X pins D) X.xe s3) X.xe s2) X.xe s1
  have caught : Takes (X.tr (X.pn ++ pins) air) (wKeep X.K c i ts Wo D) := by
    rintro u s1 ⟨a, B, sI, pins2, σ1, H1, cls, dd, rfl, J0, nb, up, sky, na, os, ag, b, hb1, hno, hyes⟩
    have J : L2.Inv X pins σ1 H1 sI := J0.ofTry okX
    have sky2 : Sky B (X.env :: X.outer) a (Zc cls dd) X.env.locals s1.heap := hst ▸ sky
    show wpAny (model X.prog X.w) X.A (noteFrame (.ref a) X.env) _ _ _
    refine Sky.land Zc.steady frames hfr sky2 fun h3 fl3 up3 => ?_
    have J3 : L2.Inv X pins σ1 H1 { s1 with heap := h3 } := J.landed nb fl3.1 (up.trans up3) os ag
    obtain ⟨o3, v3, e3, z3, d3⟩ := fl3.there
    have off : a ∉ frs (X.env :: X.outer) := fun hm => by
      obtain ⟨_, o, e, nf⟩ := fl3.2.2.1.mem hm
      rw [e3] at e
      cases e
      exact nf _ d3
    have offL : a ≠ X.env.locals := fun z => off (List.mem_filterMap.mpr ⟨X.env, List.mem_cons_self, hfr.trans (congrArg some z.symm)⟩)
    have offF : a ∉ X.fs := fun hm => by
      obtain ⟨e, h1, h2⟩ := List.mem_filterMap.mp hm
      exact off (List.mem_filterMap.mpr ⟨e, List.mem_cons_of_mem _ h1, h2⟩)
    have gB : B.get? a = none := fl3.2.1
    have new0 : X.s_0.heap.get? a = none := by
      cases q : X.s_0.heap.get? a with
      | none => rfl
      | some o =>
        obtain ⟨o', q2⟩ := J.base.there a o q (by rw [hex]; exact nofun)
        have := nb a o' q2 (by rw [hst]; exact off)
        rw [gB] at this
        cases this
    have offP : ∀ p ∈ X.pn ++ pins, p.1 ≠ a := fun p hp z => by
      obtain ⟨q1, _⟩ := J.pin p hp
      rw [z] at q1
      have := nb a _ q1 (by rw [hst]; exact off)
      rw [gB] at this
      cases this
    have S3 := J3.suite e3 d3 na offL offF
    refine wpAny_handleBy_cons (codeAny_handlers_test ?_) (by intro q; cases q)
    have ofT : PySem.W.Looks (model X.prog X.w) h3 (typeOf (.ref a)) cls := fun A Q E s kk q => wpAny_typeOf_ref (kk _ _ e3) (by rw [z3.1]; exact q)
    have fits := PySem.W.exm_one (M := model X.prog X.w) (J3.kIn) ofT hb1
    have clause : ∀ {Q : Value → Shared → Prop} {E : Value → Shared → Prop}, Q c { s1 with heap := h3 } → wpAny (model X.prog X.w) (X.A.mark (some (.ref a))) (eval (.Name x np) X.env) Q E { s1 with heap := h3 } := by
      intro Q E q
      obtain ⟨hg, hdb, hm⟩ := hc
      rcases hm with hm | ⟨hm, hv, hnn⟩
      · exact ld_glob (X := X.suite a ((a, o3) :: (X.pn ++ pins))) S3 hg hm q hdb
      · exact ld_blt (X := X.suite a ((a, o3) :: (X.pn ++ pins))) S3 hg hm hv q hnn hdb
    refine clause (fits.here ?_)
    cases b with
    | false =>
      show wpAny _ X.A (handleBy (.ref a) X.env []) _ _ _
      refine wpAny_handleBy_nil ?_
      obtain ⟨_, _, _, ob, fl, T, oT, _, g1, g2, g3, g4, _⟩ := id fl3
      unfold PySem.passOn
      refine wpAny_bind (wpAny_field g1 g3 g4 ?_)
      rw [if_neg (show ¬ ((Value.ref T == Value.none) = true) from by simp)]
      have on : wpAny (model X.prog X.w) X.A (setFlight (.ref a) X.env.frame) (fun _ s4 => wpAny (model X.prog X.w) X.A (throw (.ref a) : Sem Flow) (SP X pins D) X.xe s4) X.xe { s1 with heap := h3 } := by
        rw [hfr]
        refine HandSPX.setFlight_upZ fl3 fun h4 held up4 => wpAny_throw (tk _ _ ?_)
        exact ⟨a, B, sI, pins, σ1, H1, cls, dd, rfl, J, nb, (up.trans up3).trans up4, .inr (.inr (hst ▸ held)), na, os, ag, hno rfl⟩
      first
        | exact wpAny_bind (wpAny_pure (wpAny_bind on))
        | exact wpAny_bind on
    | true =>
      refine codeAny_handlers_suite_as ?_
      refine HandSPX.lands_againZ fl3 fun h4 fl4 up4 => ?_
      have J4 : L2.Inv X pins σ1 H1 { s1 with heap := h4 } := J.landed nb fl4.1 ((up.trans up3).trans up4) os ag
      obtain ⟨o4, v4, e4, z4, d4⟩ := fl4.there
      have S4 := J4.suite e4 d4 na offL offF
      refine store_ok (X := X.suite a ((a, o4) :: (X.pn ++ pins))) (v := .ref a) S4 nd hi (.inl hk) rfl (fun s5 S5 => ?_) (.inr hk)
      refine wpAny_mono ((hsu a o4 cls dd (X.pn ++ pins) z4 ⟨_, d4⟩).run [] s5 _ H1 _ S5 (hyes rfl a na)) (fun f s6 got => ?_) (fun _ _ z => False.elim z)
      have keep : ∀ {σ6 : L2.St} {H6 : Hp}, L2.Inv (X.suite a ((a, o4) :: (X.pn ++ pins))) [] σ6 H6 s6 → H6 a = none ∧ L2.Inv X pins σ6 (upd H6 a (ExK cls dd a)) s6 := fun {σ6 H6} S6 => by
        obtain ⟨q1, q2, _⟩ := S6.pin (a, o4) (List.mem_append_left _ List.mem_cons_self)
        refine ⟨q2, inv_track (S6.unsuite okX) q2 new0 offL (fun y cc hy z => ?_) offP (exK_ok q1 z4 d4)⟩
        obtain ⟨v, ob, g1, g2⟩ := S6.cell y cc hy
        rw [z, q1] at g1
        cases g1
        rw [show o4.data = _ from d4] at g2
        cases g2
      have close : ∀ {σ6 : L2.St} {H6 : Hp} {R : Shared → Prop}, L2.Inv X pins σ6 H6 s6 → (∀ s7, L2.Inv X pins (σ6.set i none) H6 s7 → R s7) →
          wpAny (model X.prog X.w) X.A (do bindName X.env n .none; unbindBehindTheSuite X.env n p1) (fun _ s7 => R s7) X.xe s6 := fun {σ6 H6 R} I6 hq => gone_ok I6 nd hi hk hq
      cases f with
      | ret u =>
        obtain ⟨v6, σ6, H6, S6, r6, q6⟩ := got
        obtain ⟨k1, k2⟩ := keep S6
        exact close k2 fun s7 J7 => ⟨_, _, _, J7, r6, q6 k1⟩
      | next =>
        obtain ⟨σ6, H6, S6, q6⟩ := got
        obtain ⟨k1, k2⟩ := keep S6
        exact close k2 fun s7 J7 => ⟨_, _, J7, q6 k1⟩
      | brk =>
        obtain ⟨σ6, H6, S6, q6⟩ := got
        obtain ⟨k1, k2⟩ := keep S6
        exact close k2 fun s7 J7 => ⟨_, _, J7, q6 k1⟩
      | cont =>
        obtain ⟨σ6, H6, S6, q6⟩ := got
        obtain ⟨k1, k2⟩ := keep S6
        exact close k2 fun s7 J7 => ⟨_, _, J7, q6 k1⟩
  refine wpAny_Try_except ?_
  refine wpAny_mono ((hb (wKeep X.K c i ts Wo D) (X.pn ++ pins) air caught PassesOwn.looking).run [] s σ H D (I.toTry _) red) (fun f s1 got => ?_) (fun e s1 he => he)
  cases f with
  | ret u =>
    obtain ⟨v, σ1, H1, J1, r1, q1⟩ := got
    exact ⟨v, σ1, H1, J1.ofTry okX, r1, q1⟩
  | next =>
    obtain ⟨σ1, H1, J1, q1⟩ := got
    exact wpAny_execs_nil ⟨σ1, H1, J1.ofTry okX, q1⟩
  | brk =>
    obtain ⟨σ1, H1, J1, q1⟩ := got
    exact ⟨σ1, H1, J1.ofTry okX, q1⟩
  | cont =>
    obtain ⟨σ1, H1, J1, q1⟩ := got
    exact ⟨σ1, H1, J1.ofTry okX, q1⟩
end
/-! ### a kept error's field -/
def tXfK (C : Addr) (f : Str) (te : TE) : TE := fun σ H Q => te σ H fun y H1 => ∃ (a dd : Addr) (fs : List (Str × V)) (v : V), y = .ref a ∧ H1 a = some (ExK (.ref C) (some dd) a) ∧ H1 dd = some (.xd fs) ∧ fs.lookup f = some v ∧ Q v H1
theorem pe_xfK {X : Cx} {C : Addr} {e : Expr} {te : TE} {pos : Pos} {n : Str} (T : XfC X.K C) (hno : PySem.W.findIn X.K (.ref C) n = some none) (he : PE X e te) (hb : attributeBase e n X.env (eval e X.env) = eval e X.env := by rfl) : PE X (.Attribute e n pos) (tXfK C n te) := by
  refine ⟨fun pins s σ H Q I h => attr_of hb (thn (he.run pins s σ H _ I h) fun u s1 hh => ?_)⟩
  obtain ⟨y, H1, I1, ry, a, dd, fs, v, rfl, ea, ed, l, q⟩ := hh
  obtain rfl : u = Value.ref a := ry
  obtain ⟨⟨ob, fl, g1, g2, g3⟩, _, _⟩ := I1.hok a _ ea
  obtain ⟨mA, ns, rel⟩ := (I1.hok dd _ ed : ObjOk X.prog X.w H1 s1.heap dd (.xd fs))
  obtain ⟨od, ho, hl⟩ := lookIn_ns ns
  obtain ⟨z, hz, rz⟩ := RelO.some_of (v := v) (o := mA n) (by rw [← l]; exact rel n)
  have inst : PySem.W.InstAt s1.heap a ob C (some od) := ⟨g1, g2.1, by unfold PySem.W.notCls; rw [g3] <;> rfl, by rw [g2.2]; exact ho⟩
  exact HandSPX.exc_get I1.kIn inst T.ga T.gg T.exC (PySem.W.findObj_own T.hdC hno rfl (by rw [hl, hz])) (handed_of rz) ⟨v, H1, I1.tok _, rz, q⟩

theorem small200 {j : Int} (h0 : 0 < j) (h : j < 2 ^ 200) : j.natAbs < 2 ^ 200 := by
  have e : ((2 : Int) ^ 200) = ((2 ^ 200 : Nat) : Int) := by decide +kernel
  rw [e] at h
  omega
theorem log_small {i j : Int} (h0 : 0 < j) (h : j < 2 ^ 200) : CDivW i j := wide_div h0 (small200 h0 h) (by decide) (by decide)
/-! ### more rules by data -/
section
variable {K : PySem.W.Frag} {W : Wx} {X : Er → Sls → Prop} {ρ : Sls}
theorem uT {b : Bool} {p q : Prop} (h : b = true) (x : p) : if b = true then p else q := by
  rw [if_pos h]
  exact x
theorem uF {b : Bool} {p q : Prop} (h : b = false) (x : q) : if b = true then p else q := by
  rw [h, if_neg Bool.false_ne_true]
  exact x
def signs (z : Str) : List U := z.cps.toList.map fun c => U.str ⟨#[c]⟩
theorem uwalk_str {s : Sta} {z : Str} : UWalk K s (Its z) (signs z) := by
  have hl : z.cps.size = (signs z).length := by rw [signs, List.length_map, Array.length_toList]
  refine ⟨_, _, (hl ▸ walk_str (z := z)), fun _ _ _ => trivial, fun i x s' H' hi n D y => ?_⟩
  obtain ⟨rfl, c, hc, rfl⟩ := y
  refine ⟨s', .str ⟨#[c]⟩, rfl, rfl, Nxt.refl D, ?_, .str _⟩
  rw [signs, List.getElem?_map, Array.getElem?_toList, hc]
  rfl
theorem wi_str {te : TE} {Q : List U → Sls → Prop} (h : WE K W te ρ (fun a ρ1 => ∃ z, a = .dt (.str z) ∧ Q (signs z) ρ1) X) : WI K W (iStr te) ρ Q X := by
  rintro s R0 rfl D x k
  refine h s _ rfl D x fun v a s1 n ok ⟨z, e, q⟩ => ?_
  subst e
  have ok : At K s1.G v (.str z) := ok
  cases ok
  exact ⟨z, rfl, k _ _ s1 n uwalk_str q⟩
theorem we_and {ta tb : TE} {Q : Av → Sls → Prop} (h : WE K W ta ρ (fun a ρ1 => ∃ b, a = .dt (.bl b) ∧ if b = true then WE K W tb ρ1 Q X else Q (.dt (.bl false)) ρ1) X) : WE K W (tAndV ta tb) ρ Q X := by
  rintro s Q0 rfl D x k
  refine h s _ rfl D x fun v a s1 n ok ⟨b, e, q⟩ => ?_
  subst e
  have ok : At K s1.G v (.bl b) := ok
  cases ok
  refine ⟨b, rfl, ?_⟩
  cases b with
  | true => exact iteT ((show WE K W tb s1.ρ Q X by simpa using q).go n rfl x k)
  | false => exact iteF (k _ (.dt (.bl false)) s1 n (At.bl false) (by simpa using q))
theorem we_or {ta tb : TE} {Q : Av → Sls → Prop} (h : WE K W ta ρ (fun a ρ1 => ∃ b, a = .dt (.bl b) ∧ if b = true then Q (.dt (.bl true)) ρ1 else WE K W tb ρ1 Q X) X) : WE K W (tOrV ta tb) ρ Q X := by
  rintro s Q0 rfl D x k
  refine h s _ rfl D x fun v a s1 n ok ⟨b, e, q⟩ => ?_
  subst e
  have ok : At K s1.G v (.bl b) := ok
  cases ok
  refine ⟨b, rfl, ?_⟩
  cases b with
  | true => exact iteT (k _ (.dt (.bl true)) s1 n (At.bl true) (by simpa using q))
  | false => exact iteF ((show WE K W tb s1.ρ Q X by simpa using q).go n rfl x k)
theorem we_not {ta : TE} {Q : Av → Sls → Prop} (h : WE K W ta ρ (fun a ρ1 => ∃ b, a = .dt (.bl b) ∧ Q (.dt (.bl (!b))) ρ1) X) : WE K W (tNotV ta) ρ Q X := by
  rintro s Q0 rfl D x k
  refine h s _ rfl D x fun v a s1 n ok ⟨b, e, q⟩ => ?_
  subst e
  have ok : At K s1.G v (.bl b) := ok
  cases ok
  exact ⟨b, rfl, k _ (.dt (.bl (!b))) s1 n (At.bl (!b)) q⟩
/-- a slice's part that may be None -/
def tPartN (t : TE) : TO := fun σ H Q => t σ H fun x H1 => (x = .non ∧ Q none H1) ∨ ∃ i, x = .int i ∧ Q (some i) H1
theorem po_any {Y : Cx} {e : Expr} {te : TE} (h : PE Y e te) : PO Y (some e) (tPartN te) := by
  refine ⟨fun pins s σ H Q I hw => ?_⟩
  rw [evalPart_some]
  refine thn (h.run pins s σ H _ I hw) fun u s1 ⟨x, H1, I1, r1, q1⟩ => ?_
  rcases q1 with ⟨rfl, q⟩ | ⟨i, rfl, q⟩
  · cases (show u = Value.none from r1)
    exact ⟨none, H1, I1, .none, q⟩
  · obtain ⟨t, rfl⟩ := r1
    exact ⟨some i, H1, I1, .int i t, q⟩
def partU : U → Option (Option Int)
  | .non => some none
  | .int i => some (some i)
  | _ => none
theorem wo_any {t : TE} {Q : Option Int → Sls → Prop} (h : WE K W t ρ (fun a ρ1 => ∃ d o, a = .dt d ∧ partU d = some o ∧ Q o ρ1) X) : WO K W (tPartN t) ρ Q X := by
  rintro s Q0 rfl D x k
  refine h s _ rfl D x fun v a s1 n ok ⟨d, o, e, p, q⟩ => ?_
  subst e
  have ok : At K s1.G v d := ok
  cases ok with
  | non =>
    cases (show some none = some o from p)
    exact .inl ⟨rfl, k none s1 n q⟩
  | int i =>
    cases (show some (some i) = some o from p)
    exact .inr ⟨i, rfl, k (some i) s1 n q⟩
  | _ => cases p
/-- isinstance(x, c): x plain, or an error that is kept -/
def rIsG (K : PySem.W.Frag) : List V → Hp → VK → Prop := fun xs H Q => ∃ (x c : V) (t u : Value) (b : Bool), xs = [x, c] ∧ ClsV c u ∧
  (TyX K H x t ∨ (∃ (C a e : Addr) (fs : List (Str × V)), x = .ref a ∧ t = .ref C ∧ ExcC K C ∧ H a = some (ExK (.ref C) (some e) a) ∧ H e = some (.xd fs)) ∨ ∃ C a : Addr, x = .ref a ∧ t = .ref C ∧ ExcC K C ∧ H a = some (ExK (.ref C) none a)) ∧ PySem.W.kitOne K t u = some b ∧ Q (.bl b) H
theorem call_isG {Y : Cx} : CallR Y (.builtin "isinstance") (rIsG Y.K) := by
  intro pins s σ H xs us Q I r h
  obtain ⟨x, c, t, u, b, rfl, k, ty, e, q⟩ := h
  rcases ty with ty | ⟨C, a, ed, fs, rfl, rfl, EC, ea, ee⟩ | ⟨C, a, rfl, rfl, EC, ea⟩
  · exact call_isi pins s σ H _ us Q I r ⟨x, c, t, u, b, rfl, k, ty, e, q⟩
  rotate_left
  · obtain ⟨u1, u2, rfl, r1, r2⟩ := vals2 r
    have e2 := k.eq r2
    subst e2
    obtain rfl : u1 = Value.ref a := r1
    obtain ⟨⟨ob, fl, g1, g2, g3⟩, _, _⟩ := I.hok a _ ea
    have inst : PySem.W.InstAt s.heap a ob C none := ⟨g1, g2.1, by unfold PySem.W.notCls; rw [g3] <;> rfl, by rw [g2.2]; trivial⟩
    have hcl : (PySem.W.clsIn Y.K C).isSome = true := by
      obtain ⟨cd, hc, _⟩ := PySem.W.any_some EC.hd
      rw [hc]
      rfl
    exact PySem.W.kia_one (PySem.W.kitx_exc hcl EC.hg EC.hk EC.hs EC.ha EC.hn EC.ht EC.hm) I.kIn inst e (fun z => nomatch z) fun tk => ⟨.bl b, H, I.tok tk, rfl, q⟩
  obtain ⟨u1, u2, rfl, r1, r2⟩ := vals2 r
  have e2 := k.eq r2
  subst e2
  obtain rfl : u1 = Value.ref a := r1
  obtain ⟨⟨ob, fl, g1, g2, g3⟩, _, _⟩ := I.hok a _ ea
  obtain ⟨mA, ns, rel⟩ := (I.hok ed _ ee : ObjOk Y.prog Y.w H s.heap ed (.xd fs))
  obtain ⟨od, ho, _⟩ := lookIn_ns ns
  have inst : PySem.W.InstAt s.heap a ob C (some od) := ⟨g1, g2.1, by unfold PySem.W.notCls; rw [g3] <;> rfl, by rw [g2.2]; exact ho⟩
  have hcl : (PySem.W.clsIn Y.K C).isSome = true := by
    obtain ⟨cd, hc, _⟩ := PySem.W.any_some EC.hd
    rw [hc]
    rfl
  exact PySem.W.kia_one (PySem.W.kitx_exc hcl EC.hg EC.hk EC.hs EC.ha EC.hn EC.ht EC.hm) I.kIn inst e (fun z => nomatch z) fun tk => ⟨.bl b, H, I.tok tk, rfl, q⟩
def clsU : U → Option Value
  | .ty n => some (.type n)
  | .raw a => some (.ref a)
  | _ => none
theorem wc_isG {a c : Av} {d dc : U} {u : Value} {b : Bool} {Q : Av → Sls → Prop} (ha : View ρ a d) (hc : c = .dt dc) (hu : clsU dc = some u) (p : plainU d = true ∨ ∃ C ns xs, d = .exo C ns xs ∧ ExcC K C) (e : PySem.W.kitOne K (tyU d) u = some b) (q : Q (.dt (.bl b)) ρ) : WC K W (rIsG K) [a, c] ρ Q X := by
  rintro s vs Q0 rfl D _ h k
  obtain ⟨v, w, rfl, h1, h2⟩ := avs_two h
  subst hc
  have h2 : At K s.G w dc := h2
  have cv : ClsV w u := by
    cases h2 <;> first | (cases hu; done) | skip
    · cases hu
      exact .ty _
    · cases hu
      exact .own _
  refine ⟨v, w, _, u, b, rfl, cv, ?_, e, k.dt D (.bl _) q⟩
  have hv := view_at D h1 ha
  rcases p with p | ⟨C, ns, xs, rfl, EC⟩
  · exact .inl (at_ty hv p)
  · cases hv with
    | exo hs he _ => exact .inr (.inl ⟨_, _, _, _, rfl, rfl, EC, hs, he⟩)
    | exo0 hs => exact .inr (.inr ⟨_, _, rfl, rfl, EC, hs⟩)
/-- the field of a kept error -/
def lookU : List Str → List U → Str → Option U
  | n :: ns, d :: ds, f => if (f == n) = true then some d else lookU ns ds f
  | _, _, _ => none
theorem AtAll.lookU {G : Hp} : ∀ {fs : List (Str × V)} {ds : List U} {f : Str} {d : U}, AtAll K G (fs.map (·.2)) ds → Lw.lookU (fs.map (·.1)) ds f = some d → ∃ v, fs.lookup f = some v ∧ At K G v d
  | [], _, _, _, _, h => by cases h
  | (n, v) :: fs, _, f, d, .cons h t, e => by
    have e : (if (f == n) = true then some _ else Lw.lookU (fs.map (·.1)) _ f) = some d := e
    rw [List.lookup_cons]
    cases q : f == n with
    | true =>
      rw [q, if_pos rfl] at e
      cases e
      exact ⟨v, rfl, h⟩
    | false =>
      rw [q, if_neg Bool.false_ne_true] at e
      exact AtAll.lookU t e
theorem we_xfK {C : Addr} {f : Str} {te : TE} {Q : Av → Sls → Prop} (h : WE K W te ρ (fun a ρ1 => ∃ ns xs d, a = .dt (.exo C ns xs) ∧ lookU ns xs f = some d ∧ Q (.dt d) ρ1) X) : WE K W (tXfK C f te) ρ Q X := by
  rintro s Q0 rfl D x k
  refine h s _ rfl D x fun v a s1 n ok ⟨ns, xs, d, e, l, q⟩ => ?_
  subst e
  have ok : At K s1.G v (.exo C ns xs) := ok
  cases ok with
  | exo hs he ha =>
    obtain ⟨z, e1, e2⟩ := ha.lookU l
    exact ⟨_, _, _, z, rfl, n.den.sub _ _ hs, n.den.sub _ _ he, e1, k z (.dt d) s1 n e2 q⟩
  | exo0 hs => cases l
end

/-! ### own objects by data: fields, methods, making -/
section
variable {K : PySem.W.Frag} {W : Wx} {X : Er → Sls → Prop} {ρ : Sls} {P : Post}
theorem view_obj {s : Sta} {v : V} {av : Av} {C : Addr} {ns : List Str} {xs : List U} (D : Den K s) (ok : AvOk K s s v av) (w : View s.ρ av (.obj C ns xs)) : ∃ a dx fs, v = .ref a ∧ s.H a = some (.ins C dx fs) ∧ fs.map (·.1) = ns ∧ AtAll K s.G (fs.map (·.2)) xs := by
  rcases view_items D ok w with h | ⟨a, o, rfl, h1, h2⟩
  · cases h with
    | obj hs ha => exact ⟨_, _, _, rfl, D.sub _ _ hs, rfl, ha⟩
  · cases h2 with
    | obj h2 => exact ⟨a, _, _, rfl, h1, rfl, h2⟩
/-- e.f -/
theorem we_fld {te : TE} {f : Str} {Q : Av → Sls → Prop} (h : WE K W te ρ (fun a ρ1 => ∃ C ns xs d, View ρ1 a.fl (.obj C ns xs) ∧ Cls K C ∧ NoAttr K C f ∧ lookU ns xs f = some d ∧ Q (.dt d) ρ1) X) : WE K W (tFld K te f) ρ Q X := by
  rintro s Q0 rfl D x k
  refine WE.flat (Q := fun a ρ1 => ∃ C ns xs d, View ρ1 a (.obj C ns xs) ∧ Cls K C ∧ NoAttr K C f ∧ lookU ns xs f = some d ∧ Q (.dt d) ρ1) h rfl D x fun v a s1 n1 fa ok ⟨C, ns, xs, d, hw, hc, hn, l, q⟩ => ?_
  obtain ⟨b, dx, fs, rfl, e1, rfl, e2⟩ := view_obj n1.den ok hw
  obtain ⟨z, l1, l2⟩ := e2.lookU l
  exact ⟨b, C, dx, fs, z, rfl, e1, hc, hn, l1, k z (.dt d) s1 n1 l2 q⟩
/-- o.m(..) -/
theorem we_meth {C : Addr} {m : Str} {R : RU} {ta : TE} {t : TA} {Q : Av → Sls → Prop} (h : WE K W ta ρ (fun a ρ1 => ∃ ns xs, View ρ1 a.fl (.obj C ns xs) ∧ m ∉ ns ∧ WA K W t ρ1 (fun as ρ2 => CallU R (a.fl :: as) ρ2 Q (fun _ _ => False)) X) X) : WE K W (tMeth C m (spU K R) [] E0 ta t) ρ Q X := by
  rintro s Q0 rfl D x k
  refine WE.flat (Q := fun a ρ1 => ∃ ns xs, View ρ1 a (.obj C ns xs) ∧ m ∉ ns ∧ WA K W t ρ1 (fun as ρ2 => CallU R (a :: as) ρ2 Q (fun _ _ => False)) X) h rfl D x fun v a s1 n1 fa ok ⟨ns, xs, hw, hm, q⟩ => ?_
  obtain ⟨b, dx, fs, rfl, e1, rfl, e2⟩ := view_obj n1.den ok hw
  refine ⟨b, dx, fs, rfl, e1, ?_, ?_⟩
  · refine List.lookup_eq_none_iff.mpr fun p hp => ?_
    rw [bne_iff_ne]
    exact fun e => hm (by rw [e]; exact List.mem_map_of_mem hp)
  · rw [← n1.slots]
    refine q s1 _ rfl n1.den (x.next n1.stp) fun vs as s2 n2 ok2 q2 => ?_
    rw [List.append_nil]
    exact q2.run n2.den (.cons fa ((AvOk.next fa n2 ok).self fa) ok2) ((k.lift n1).lift n2) fun _ _ _ _ _ _ _ _ z => z.elim
/-- a field is stored -/
def putN (f : Str) : List Str → List Str
  | [] => [f]
  | g :: r => if g = f then g :: r else g :: putN f r
def putX (f : Str) (d : U) : List Str → List U → List U
  | g :: r, x :: xs => if g = f then d :: xs else x :: putX f d r xs
  | _, xs => xs ++ [d]
theorem putF_names (f : Str) (v : V) : ∀ fs : List (Str × V), (putF f v fs).map (·.1) = putN f (fs.map (·.1))
  | [] => rfl
  | (g, x) :: r => by
    show ((if g = f then (g, v) :: r else (g, x) :: putF f v r).map (·.1)) = if g = f then g :: r.map (·.1) else g :: putN f (r.map (·.1))
    by_cases h : g = f
    · rw [if_pos h, if_pos h]
      rfl
    · rw [if_neg h, if_neg h, List.map_cons, putF_names f v r]
theorem putF_at {G : Hp} {f : Str} {v : V} {d : U} (hv : At K G v d) : ∀ {fs : List (Str × V)} {xs : List U}, AtAll K G (fs.map (·.2)) xs → AtAll K G ((putF f v fs).map (·.2)) (putX f d (fs.map (·.1)) xs)
  | [], _, .nil => .cons hv .nil
  | (g, x) :: r, y :: xs, .cons h t => by
    show AtAll K G ((if g = f then (g, v) :: r else (g, x) :: putF f v r).map (·.2)) (if g = f then d :: xs else y :: putX f d (r.map (·.1)) xs)
    by_cases e : g = f
    · rw [if_pos e, if_pos e]
      exact .cons hv t
    · rw [if_neg e, if_neg e]
      exact .cons h (putF_at hv t)
theorem ws_fld {j : Nat} {te : TE} {f : Str} (h : WE K W te ρ (fun a ρ1 => ∃ d ρ2 sl C ns xs, Frz ρ1 [a.fl] [d] ρ2 ∧ ρ2[j]? = some sl ∧ sl.cell = some (.obj C ns xs) ∧ Cls K C ∧ NoAttr K C f ∧ ns.length < 1000 ∧ P.nx (setC ρ2 j (.obj C (putN f ns) (putX f d ns xs)))) P.xc) :
    WS K W (sFld K (tVar j) te f) ρ P := by
  rintro s D rfl d x fi
  refine WE.flat (Q := fun a ρ1 => ∃ d ρ2 sl C ns xs, Frz ρ1 [a] [d] ρ2 ∧ ρ2[j]? = some sl ∧ sl.cell = some (.obj C ns xs) ∧ Cls K C ∧ NoAttr K C f ∧ ns.length < 1000 ∧ P.nx (setC ρ2 j (.obj C (putN f ns) (putX f d ns xs)))) h rfl d x fun v a s1 n1 fa ok ⟨z, ρ2, sl, C, ns, xs, hf, c1, c2, hc, hn, hl, q⟩ => ?_
  obtain ⟨s2, e1, e2, n2, hz⟩ := frz1 hf fa n1.den ok
  subst e1
  have n12 := n1.trans n2
  obtain ⟨b, o, e3, e4, e5, e6⟩ := n2.den.own j sl _ c1 c2
  have eσ : s.σ[j]? = some (some (.ref b)) := by rw [← n12.slots]; exact e3
  cases e6 with
  | obj hx =>
    rename_i dx fs
    rw [← e2]
    refine ⟨.ref b, eσ, b, C, dx, fs, rfl, e5, hc, hn, by rw [← List.length_map (f := (·.1))]; exact hl, ?_⟩
    have nw := cell_write (o' := .ins C dx (putF f v fs)) (d' := .obj C (putN f (fs.map (·.1))) (putX f z (fs.map (·.1)) xs)) n2.den c1 c2 e3 e5 (putF_names f v fs ▸ .obj (putF_at hz hx))
    have := fi.nx _ (n12.stp.trans nw.stp) nw.den q
    rw [show ({ s2 with ρ := setC s2.ρ j (.obj C (putN f (fs.map (·.1))) (putX f z (fs.map (·.1)) xs)), H := upd s2.H b (.ins C dx (putF f v fs)) } : Sta).σ = s.σ from n12.slots] at this
    exact this
end
/-! ### an instance is made -/
/-- behind the call: nothing given out; what the new object is then -/
def MadeQ (n : Nat) (Q : Av → Sls → Prop) : Av → Sls → Prop := fun a r => a = .dt .non ∧ ∃ d, r[n]? = some (.own d) ∧ Q (.own d) (r.take n)
section
variable {K : PySem.W.Frag} {W : Wx} {X : Er → Sls → Prop} {ρ : Sls}
theorem fresh_none {H H' : Hp} {e : Addr} (s : Same H H') (n : H' e = none) : H e = none := by
  cases q : H e with
  | none => rfl
  | some o =>
    rw [s _ _ q] at n
    cases n
theorem take_get {α : Type} {r : List α} {n i : Nat} {z : α} (h : (r.take n)[i]? = some z) : i < n ∧ r[i]? = some z := by
  rw [List.getElem?_take] at h
  split at h
  · exact ⟨‹_›, h⟩
  · cases h
theorem snoc_get {α : Type} {r : List α} {i : Nat} {y z : α} (h : (r ++ [y])[i]? = some z) : (i = r.length ∧ y = z) ∨ (i < r.length ∧ r[i]? = some z) := by
  by_cases l : i < r.length
  · rw [List.getElem?_append_left l] at h
    exact .inr ⟨l, h⟩
  · rw [List.getElem?_append_right (by omega)] at h
    have := lt_of_get h
    rw [List.length_singleton] at this
    have e : i - r.length = 0 := by omega
    rw [e] at h
    cases h
    exact .inl ⟨by omega, rfl⟩
theorem made_den {s1 : Sta} {x dx C : Addr} (D : Den K s1) (hx : s1.H x = none) (hd : s1.H dx = none) (ne : dx ≠ x) :
    Den K ⟨s1.G, s1.ρ ++ [.own (.obj C [] [])], s1.σ ++ [some (.ref x)], upd (upd s1.H dx (.own x)) x (.ins C dx [])⟩ ∧ (∀ a, Owns ⟨s1.G, s1.ρ ++ [.own (.obj C [] [])], s1.σ ++ [some (.ref x)], upd (upd s1.H dx (.own x)) x (.ins C dx [])⟩ a → a = x ∨ Owns s1 a) ∧
      Same s1.H (upd (upd s1.H dx (.own x)) x (.ins C dx [])) := by
  obtain ⟨gx, ox⟩ := D.free hx
  have s12 : Same s1.H (upd (upd s1.H dx (.own x)) x (.ins C dx [])) := fun a o e => by
    rw [upd_ne (ne_of_none e hx), upd_ne (ne_of_none e hd)]
    exact e
  have f : ∀ {i a}, OwnAt ⟨s1.G, s1.ρ ++ [.own (.obj C [] [])], s1.σ ++ [some (.ref x)], upd (upd s1.H dx (.own x)) x (.ins C dx [])⟩ i a → (i = s1.ρ.length ∧ a = x) ∨ (i < s1.ρ.length ∧ OwnAt s1 i a) := fun {i a} ⟨⟨sl, d, e1, e2⟩, e3⟩ => by
    rcases snoc_get e1 with ⟨rfl, _⟩ | ⟨l, e1⟩
    · rcases snoc_get e3 with ⟨_, h⟩ | ⟨l, _⟩
      · cases h
        exact .inl ⟨rfl, rfl⟩
      · rw [D.len] at l
        omega
    · rcases snoc_get e3 with ⟨h, _⟩ | ⟨_, e3⟩
      · rw [D.len] at h
        omega
      · exact .inr ⟨l, ⟨sl, d, e1, e2⟩, e3⟩
  refine ⟨⟨D.sub.trans s12, ?_, fun i d e => ?_, fun i sl d e1 e2 => ?_, fun i j a h1 h2 => ?_⟩, fun a ⟨i, h⟩ => ?_, s12⟩
  · show (s1.σ ++ [_]).length = (s1.ρ ++ [_]).length
    rw [List.length_append, List.length_append, D.len]
    rfl
  · rcases snoc_get e with ⟨_, h⟩ | ⟨l, e⟩
    · cases h
    · obtain ⟨v, h1, h2⟩ := D.val i d e
      exact ⟨v, pad_get h1, h2⟩
  · rcases snoc_get e1 with ⟨rfl, h⟩ | ⟨l, e⟩
    · cases h
      cases e2
      refine ⟨x, .ins C dx [], ?_, gx, upd_same, .obj (fs := []) .nil⟩
      show (s1.σ ++ [some (V.ref x)])[s1.ρ.length]? = _
      rw [← D.len, List.getElem?_append_right (Nat.le_refl _), Nat.sub_self]
      rfl
    · obtain ⟨a, o, h1, h2, h3, h4⟩ := D.own i sl d e e2
      exact ⟨a, o, pad_get h1, h2, s12 _ _ h3, h4⟩
  · rcases f h1 with ⟨rfl, rfl⟩ | ⟨l1, o1⟩ <;> rcases f h2 with ⟨rfl, hb⟩ | ⟨l2, o2⟩
    · rfl
    · exact absurd ⟨j, o2⟩ ox
    · exact absurd ⟨i, hb ▸ o1⟩ ox
    · exact D.dis i j a o1 o2
  · rcases f h with ⟨_, rfl⟩ | ⟨_, h⟩
    · exact .inl rfl
    · exact .inr ⟨i, h⟩
/-- the caller's state behind the making -/
theorem made_back {s1 s2 : Sta} {x dx C : Addr} (D1 : Den K s1) (hx : s1.H x = none) (hd : s1.H dx = none) (ne : dx ≠ x)
    (n2 : Stp ⟨s1.G, s1.ρ ++ [.own (.obj C [] [])], s1.σ ++ [some (.ref x)], upd (upd s1.H dx (.own x)) x (.ins C dx [])⟩ s2) (d2 : Den K s2) (hσ : s2.σ = s1.σ ++ [some (.ref x)]) :
    Den K { s2 with ρ := s2.ρ.take s1.ρ.length, σ := s1.σ } ∧ Stp s1 { s2 with ρ := s2.ρ.take s1.ρ.length, σ := s1.σ } ∧ (∀ {i b}, OwnAt { s2 with ρ := s2.ρ.take s1.ρ.length, σ := s1.σ } i b → i < s1.ρ.length ∧ OwnAt s2 i b) := by
  obtain ⟨D2, ow, s12⟩ := made_den (C := C) D1 hx hd ne
  have lenσ : s1.σ.length = s1.ρ.length := D1.len
  have len2 : s2.ρ.length = s1.ρ.length + 1 := by
    rw [← d2.len, hσ, List.length_append, lenσ]
    rfl
  have out : ∀ {i b}, OwnAt { s2 with ρ := s2.ρ.take s1.ρ.length, σ := s1.σ } i b → i < s1.ρ.length ∧ OwnAt s2 i b := fun {i b} ⟨⟨sl, z, e2, e3⟩, e4⟩ => by
    obtain ⟨l, e2⟩ := take_get e2
    exact ⟨l, ⟨sl, z, e2, e3⟩, by rw [hσ]; exact pad_get e4⟩
  have old : ∀ {b}, s1.H b ≠ none → ¬ Owns s1 b → (upd (upd s1.H dx (.own x)) x (.ins C dx [])) b = s1.H b ∧ ¬ Owns ⟨s1.G, s1.ρ ++ [.own (.obj C [] [])], s1.σ ++ [some (.ref x)], upd (upd s1.H dx (.own x)) x (.ins C dx [])⟩ b := fun {b} n1' n2' => by
    have b1 : b ≠ x := fun e => n1' (e ▸ hx)
    have b2 : b ≠ dx := fun e => n1' (e ▸ hd)
    refine ⟨by rw [upd_ne b1, upd_ne b2], fun h => ?_⟩
    rcases ow b h with h | h
    · exact b1 h
    · exact n2' h
  refine ⟨⟨d2.sub, ?_, fun i z e => ?_, fun i sl z e2 e3 => ?_, fun i j b h1 h2 => d2.dis i j b (out h1).2 (out h2).2⟩, ⟨n2.sub, fun b u e n => ?_, fun b e => ?_, fun b ⟨i, h⟩ => ?_, fun b h1 h2 h3 => ?_, fun i z e => ?_⟩, out⟩
  · show s1.σ.length = (s2.ρ.take s1.ρ.length).length
    rw [List.length_take, len2, lenσ]
    omega
  · obtain ⟨l, e⟩ := take_get e
    obtain ⟨u, h1, h2⟩ := d2.val i z e
    rw [hσ, List.getElem?_append_left (by rw [lenσ]; exact l)] at h1
    exact ⟨u, h1, h2⟩
  · obtain ⟨l, e2⟩ := take_get e2
    obtain ⟨b, u, h1, h2⟩ := d2.own i sl z e2 e3
    rw [hσ, List.getElem?_append_left (by rw [lenσ]; exact l)] at h1
    exact ⟨b, u, h1, h2⟩
  · obtain ⟨h1, h2⟩ := old (by rw [e]; exact nofun) n
    exact n2.fr b u (h1.trans e) h2
  · exact fresh_none s12 (n2.dom b e)
  · rcases n2.own b ⟨i, (out h).2⟩ with h | h
    · rcases ow b h with rfl | h
      · exact .inr hx
      · exact .inl h
    · exact .inr (fresh_none s12 h)
  · obtain ⟨h4, h5⟩ := old h1.ne h2
    exact n2.gfr b (by rw [show (Sta.H _) b = s1.H b from h4]; exact h1) h5 h3
  · obtain ⟨z', h1, h2⟩ := n2.bor i z (pad_get e)
    have l : i < s1.ρ.length := lt_of_get e
    refine ⟨z', ?_, rfl⟩
    show (s2.ρ.take s1.ρ.length)[i]? = _
    rw [List.getElem?_take, if_pos l]
    exact h1
/-- what the making asks of __init__ -/
def MakeU (C : Addr) (R : RU) (as : List Av) (ρ : Sls) (Q : Av → Sls → Prop) (X : Er → Sls → Prop) : Prop :=
  CallU R (.sl ρ.length :: as) (ρ ++ [.own (.obj C [] [])]) (MadeQ ρ.length Q) (fun e r => X e (r.take ρ.length))
theorem MakeU.run {C : Addr} {R : RU} {as : List Av} {Q : Av → Sls → Prop} {s s1 : Sta} {vs : List V} {Q0 : VK} {E : XK} {x dx : Addr} (q : MakeU C R as s1.ρ Q X) (n1 : Nxt K s s1) (ok : AvsOk K s1 vs as) (k : Cnt K s Q Q0)
    (ex : ∀ cls dd e s', Stp s1 s' → Den K s' → s'.σ = s1.σ → ErOk K s' cls dd e → X e s'.ρ → E cls dd s'.H) (hx : s1.H x = none) (hd : s1.H dx = none) (ne : dx ≠ x) :
    spU K R (.ref x :: vs) (upd (upd s1.H dx (.own x)) x (.ins C dx [])) (fun v G => v = .non ∧ Q0 (.ref x) G) E := by
  obtain ⟨D2, ow, s12⟩ := made_den (C := C) n1.den hx hd ne
  have lenσ : s1.σ.length = s1.ρ.length := n1.den.len
  have q : CallU R (.sl s1.ρ.length :: as) (Sta.ρ ⟨s1.G, s1.ρ ++ [.own (.obj C [] [])], s1.σ ++ [some (.ref x)], upd (upd s1.H dx (.own x)) x (.ins C dx [])⟩) (MadeQ s1.ρ.length Q) (fun e r => X e (r.take s1.ρ.length)) := q
  refine CallU.run q D2 (.cons (a := .sl s1.ρ.length) trivial ?_ ?_) ?_ ?_
  · show (s1.σ ++ [some (V.ref x)])[s1.ρ.length]? = some (some (V.ref x))
    rw [← lenσ, List.getElem?_append_right (Nat.le_refl _), Nat.sub_self]
    rfl
  · have go : ∀ {vs : List V} {as : List Av}, AvsOk K s1 vs as → AvsOk K ⟨s1.G, s1.ρ ++ [.own (.obj C [] [])], s1.σ ++ [some (.ref x)], upd (upd s1.H dx (.own x)) x (.ins C dx [])⟩ vs as := fun {vs as} h => by
      induction h with
      | nil => exact .nil
      | @cons v vs a as fa oa _ ih =>
        refine .cons fa ?_ ih
        cases a with
        | dt d => exact oa
        | sl i => exact pad_get (show s1.σ[i]? = some (some v) from oa)
        | own d => exact fa.elim
    exact go ok
  · rintro v av s2 n2 ok2 ⟨rfl, d, e1, q2⟩
    have ok2 : At K s2.G v .non := ok2
    cases ok2
    refine ⟨rfl, ?_⟩
    have hσ : s2.σ = s1.σ ++ [some (.ref x)] := n2.slots
    obtain ⟨D3, S3, out⟩ := made_back n1.den hx hd ne n2.stp n2.den hσ
    obtain ⟨a, o, o1, o2, o3, o4⟩ := n2.den.own s1.ρ.length _ d e1 rfl
    have ea : a = x := by
      rw [hσ] at o1
      rcases snoc_get o1 with ⟨_, h⟩ | ⟨l, _⟩
      · cases h
        rfl
      · omega
    subst ea
    have no : ¬ Owns { s2 with ρ := s2.ρ.take s1.ρ.length, σ := s1.σ } a := fun ⟨i, h⟩ => by
      obtain ⟨l, h⟩ := out h
      have := n2.den.dis i s1.ρ.length a h ⟨⟨_, d, e1, rfl⟩, o1⟩
      omega
    exact k (.ref a) (.own d) { s2 with ρ := s2.ρ.take s1.ρ.length, σ := s1.σ } ⟨n1.stp.trans S3, D3, n1.slots⟩ ⟨a, o, rfl, o3, o2, o4, no, .inl (n1.stp.dom a hx)⟩ q2
  · intro cls dd e s2 n2 d2 hσ er xe
    obtain ⟨D3, S3, _⟩ := made_back n1.den hx hd ne n2 d2 hσ
    exact ex cls dd e { s2 with ρ := s2.ρ.take s1.ρ.length, σ := s1.σ } S3 D3 rfl er xe
/-- C(..), nothing is raised -/
theorem we_make {C : Addr} {R : RU} {t : TA} {Q : Av → Sls → Prop} (h : WA K W t ρ (fun as ρ1 => MakeU C R as ρ1 Q (fun _ _ => False)) X) : WE K W (tMake C (spU K R) [] E0 t) ρ Q X := by
  rintro s Q0 rfl D xo k
  refine h s _ rfl D xo fun vs as s1 n1 ok q => ?_
  intro x dx hx hd ne
  rw [List.append_nil]
  exact q.run n1 ok k (fun _ _ _ _ _ _ _ _ z => z.elim) hx hd ne
end

/-! ### making an instance whose __init__ may let an error out, read at the slots -/
def tMkS (C : Addr) (sp : Sp) (E : L2.St → XK) (t : TA) : TE := fun σ H Q =>
  t σ H fun us H' => ∀ o d, H' o = none → H' d = none → d ≠ o → sp (.ref o :: us) (upd (upd H' d (.own o)) o (.ins C d [])) (fun v G => v = .non ∧ Q (.ref o) G) (E σ)
section
variable {X : Cx} {CX : CXT} {m : Nat} {i C : Addr} {fd : FuncData} {qs : List Str} {sp : Sp} {E : L2.St → XK}
theorem run_mkS {pins : List (Addr × Obj)} {σ : L2.St} {H : Hp} {s : Shared} {Q : VK} {us : List Value} {ws : List V}
    (M : Mk X.K C i) (F : FnOk X.prog X.w X.K X.mg X.base CX m i fd qs sp)
    (hr : Room (m + 1) X.A) (hb : Binds X.K fd qs []) (hx : PassesAt CX X σ (E σ)) (I : Inv X pins σ H s) (r : Vals ws us)
    (h : ∀ o d, H o = none → H d = none → d ≠ o → sp (.ref o :: ws) (upd (upd H d (.own o)) o (.ins C d [])) (fun v G => v = .non ∧ Q (.ref o) G) (E σ)) :
    wpAny (model X.prog X.w) X.A (call (.ref C) us) (EP X pins σ Q) X.xe s := by
  obtain ⟨z, hz⟩ : ∃ z, z = s.heap.objs.size := ⟨_, rfl⟩
  have h0 := h (z + 1) z (I.hok.fresh (by omega)) (I.hok.fresh (by omega)) (Nat.ne_of_lt (Nat.lt_succ_self _))
  subst hz
  have J := Inv.made (C := C) I
  have rr : Vals (V.ref (s.heap.objs.size + 1) :: ws) (Value.ref (s.heap.objs.size + 1) :: us) := .cons rfl r
  have len : (Value.ref (s.heap.objs.size + 1) :: us).length = qs.length :=
    rr.length.symm.trans (F.len _ _ _ _ h0)
  have bb := hb _ (Value.ref (s.heap.objs.size + 1) :: us) J.kIn (by rw [List.append_nil]; exact len)
  rw [List.append_nil] at bb
  have go := F.run _ X.stack _ _ ⟨Value.ref (s.heap.objs.size + 1) :: us, []⟩ _ _ _ (E σ) (hr.make C us [])
    (J.env0.make C us []) bb rr h0
  refine wpAny_call (make_map (f := i) I.kIn M.makes M.init (beq_iff_eq.mp M.fn) (codeAny_mono go fun e s1 g => ?_))
  match e, g with
  | .error x, g => exact hx pins _ _ x s1 J g
  | .ok (.ret u), g =>
    obtain ⟨v, G, J2, rv, ev, last⟩ := J.after g
    subst ev
    exact ⟨rv, V.ref (s.heap.objs.size + 1), G, J2, rfl, last⟩
  | .ok .next, g => exact False.elim g
  | .ok .brk, g => exact False.elim g
  | .ok .cont, g => exact False.elim g
theorem pe_mkS {x : Str} {p pos : Pos} {e : Expr} {es : List Expr} {t : TA} (M : Mk X.K C i)
    (F : FnOk X.prog X.w X.K X.mg X.base CX m i fd qs sp) (hr : Room (m + 1) X.A) (hg : Gl X x)
    (hm : X.mg x = some (.ref C)) (hb : Binds X.K fd qs []) (hx : ∀ σ, PassesAt CX X σ (E σ)) (ha : PA X (e :: es) t)
    (hd : (x == ("__debug__" : Str)) = false := by decide)
    (he : starEach (e :: es) X.env = (false, eval e X.env) :: starEach es X.env := by rfl)
    (hp : (backTo pos (starEach es X.env)).any (·.1) = false := by rfl) :
    PE X (.Call (.Name x p) (e :: es) [] pos) (tMkS C sp E t) := by
  refine ⟨fun pins s σ H Q I h => wpAny_Call_Name_kw (ld_glob I hg hm ?_ hd)⟩
  refine PySem.W.callWith_K (h₀ := X.base) I.ok.mod.kin M.kp (thn (ha.run pos pins s σ H _ I h) ?_) he hp
  rintro us s1 ⟨vs, H1, I1, r, q⟩
  exact ⟨I1.kIn, run_mkS M F hr hb (hx σ) I1 r q⟩
end

/-! ### making an instance that may raise, by data -/
section
variable {K : PySem.W.Frag} {W : Wx} {X : Er → Sls → Prop} {ρ : Sls}
theorem we_mkS {C : Addr} {R : RU} {t : TA} {Q : Av → Sls → Prop} (h : WA K W t ρ (fun as ρ1 => MakeU C R as ρ1 Q X) X) : WE K W (tMkS C (spU K R) (fun σ cls dd H => W cls dd σ H) t) ρ Q X := by
  rintro s Q0 rfl D xo k
  refine h s _ rfl D xo fun vs as s1 n1 ok q => ?_
  intro x dx hx hd ne
  refine q.run n1 ok k (fun cls dd e s' n d eσ er z => ?_) hx hd ne
  have := (xo.next n1.stp) cls dd e s' n d er z
  rw [eσ, n1.slots] at this
  exact this
end

/-! ### an own class's __add__, the other operand of a built-in type -/
/-- what a built-in type must say -/
def AddT (K : PySem.W.Frag) (C : Addr) (T : String) : Prop := ∃ fo ro : Option Value, PySem.W.findIn K (.type T) "__add__" = some fo ∧ PySem.W.findIn K (.type T) "__radd__" = some ro ∧ PySem.W.subIn K (.type T) (.ref C) = some false
structure AddC (K : PySem.W.Frag) (C g : Addr) : Prop where
  at_ : PySem.W.findIn K (.ref C) "__add__" = some (some (.ref g))
  fn : PySem.W.isFn K (.ref g) = true
  first : PySem.W.selfFirst K C = true
  back : PySem.W.findIn K (.ref C) "__radd__" = some none
section
open PySem.W
theorem add_own {P : Program} {w : World} {A : Around} {Ex : Value → Shared → Prop} {sh : Shared} {K : Frag} {a C g : Addr} {oa : Obj} {da : Option Obj} {T : String} {u : Value} {R : Value → Shared → Prop} (kin : K.In sh.heap) (J : InstAt sh.heap a oa C da) (tu : Looks (model P w) sh.heap (typeOf u) (.type T)) (c : AddC K C g) (t : AddT K C T)
    (q : wpAny (model P w) A (call (.ref g) [.ref a, u]) (PySem.W.CmpBack R) Ex sh) : wpAny (model P w) A (binaryOp .Add (.ref a) u) R Ex sh := by
  obtain ⟨fo, ro, f1, f2, f3⟩ := t
  obtain ⟨cd, rest, e1, e2⟩ := ksp_first c.first
  have tried := ksp_try (name := PySem.dunder "add") kin J (show findIn K (.ref C) (PySem.dunder "add") = some (some (.ref g)) from c.at_) c.fn q
  obtain ⟨hq, gq, dq, tq, oq⟩ := sh
  have l1 : Looks (model P w) hq (typeOf (.ref a)) (.ref C) := J.type
  have l2 : Looks (model P w) hq (fillsNumberSlot (.ref C) "add") true := fills_K (nm := "add") kin e1 e2 c.at_
  have l3 : Looks (model P w) hq (fillsNumberSlot (.type T) "add") ((fo.isSome && !isSeqSlot fo) || (ro.isSome && !isSeqSlot ro)) := ksp_fillsT (nm := "add") kin f1 f2
  have l4 : Looks (model P w) hq (isSubtype (.type T) (.ref C)) false := looks_subIn kin f3
  have l5 : Looks (model P w) hq (numberSlotInPython (.ref C) "add") true := ksp_inPy (nm := "add") kin c.at_ c.back (.inl rfl)
  have l6 : Looks (model P w) hq (numberSlotInPython (.type T) "add") false := Looks.of_pure rfl
  have l7 : Looks (model P w) hq (typeLookup (.type T) (dunderR "add")) ro := looks_findIn kin f2
  generalize ((fo.isSome && !isSeqSlot fo) || (ro.isSome && !isSeqSlot ro)) = both at l3
  have apart : (Value.ref C == Value.type T) = false := by
    rw [beq_eq_false_iff_ne]
    exact fun h => nomatch h
  unfold binaryOp
  refine wpAny_holding (wpAny_bind (m := binaryOp1 "add" (.ref a) u) ?_)
  unfold binaryOp1
  refine wpAny_bind (l1.at (wpAny_bind (tu.at (wpAny_bind (l2.at ?_)))))
  simp only [apart, Bool.false_eq_true, if_false]
  have go : ∀ {N : Option Value → Shared → Prop}, (∀ v s', R v s' → N (some v) s') → wpAny (model P w) A (tryMethod (.ref a) (PySem.dunder "add") u) N Ex ⟨hq, gq, dq, tq, oq⟩ := fun hN => wpAny_mono tried (fun r s' h => by
    obtain ⟨v, rfl, hv⟩ := h
    exact hN v s' hv) fun _ _ z => z
  cases both with
  | false =>
    ksp_lk
    refine go fun v s' hv => ?_
    ksp_lk
    exact hv
  | true =>
    ksp_lk
    refine go fun v s' hv => ?_
    ksp_lk
    exact hv
end
section
variable {X : Cx} {CX : CXT} {n : Nat} {C g : Addr} {sp : Sp} {E : XK}
def rAddOwn (K : PySem.W.Frag) (C : Addr) (sp : Sp) (E : XK) : R2 := fun x y H Q => ∃ (a dx : Addr) (fs : List (Str × V)) (T : String), x = .ref a ∧ H a = some (.ins C dx fs) ∧ TyX K H y (.type T) ∧ AddT K C T ∧ sp [x, y] H Q E
theorem op_addOwn (c : AddC X.K C g) (F : FnR X.prog X.w X.K X.mg X.base CX n g sp) (hr : Room n X.A) (hx : Passes CX X E) : OpR X (binaryOp .Add) (rAddOwn X.K C sp E) := by
  intro pins s σ H x y v u Q I rx ry h
  obtain ⟨a, dx, fs, T, rfl, ha, ty, t, q⟩ := h
  obtain rfl : v = Value.ref a := rx
  obtain ⟨od, J⟩ := ins_inst I ha
  refine add_own I.kIn J (looks_tyO I ry (.inl ty)) c t (wpAny_mono (wpAny_call (run_fnR (us := [.ref a, u]) (vs := [.ref a, y]) F hr hx I (.cons rfl (.cons ry .nil)) q)) (fun z s' hz => ?_) fun _ _ e => e)
  obtain ⟨z1, H1, I1, rz, q1⟩ := hz
  exact SlX.cmpback rz ⟨z1, H1, I1, rz, q1⟩
end

/-! ### dicts by data -/
section
variable {K : PySem.W.Frag} {W : Wx} {X : Er → Sls → Prop} {ρ : Sls} {P : Post}
def keyU : U → Option Key
  | .int i => some (.inl i)
  | .str z => some (.inr z)
  | _ => none
theorem at_key {G : Hp} {v : V} {d : U} {k : Key} (h : At K G v d) (e : keyU d = some k) : v = kV k := by
  cases h <;> cases e <;> rfl
/-- what stands at a key -/
def valU {κ : Type} [DecidableEq κ] : List κ → List U → κ → Option U
  | n :: ns, d :: ds, k => if n = k then some d else valU ns ds k
  | _, _, _ => none
theorem at_valU {κ : Type} [DecidableEq κ] {G : Hp} : ∀ {kvs : List (κ × V)} {ds : List U} {k : κ}, AtAll K G (kvs.map (·.2)) ds → (valV kvs k = none ∧ valU (kvs.map (·.1)) ds k = none) ∨ ∃ v d, valV kvs k = some v ∧ valU (kvs.map (·.1)) ds k = some d ∧ At K G v d
  | [], _, _, .nil => .inl ⟨rfl, rfl⟩
  | (n, v) :: r, d :: ds, k, .cons h t => by
    by_cases e : n = k
    · refine .inr ⟨v, d, ?_, if_pos e, h⟩
      unfold valV
      rw [List.find?_cons]
      rw [show decide ((n, v).1 = k) = true from decide_eq_true e]
      rfl
    · have e1 : valV ((n, v) :: r) k = valV r k := by
        unfold valV
        rw [List.find?_cons]
        rw [show decide ((n, v).1 = k) = false from decide_eq_false e]
      have e2 : valU (((n, v) :: r).map (·.1)) (d :: ds) k = valU (r.map (·.1)) ds k := if_neg e
      rw [e1, e2]
      exact at_valU t
theorem view_dic {s : Sta} {v : V} {av : Av} {ks : List Key} {xs : List U} (D : Den K s) (ok : AvOk K s s v av) (w : View s.ρ av (.dic ks xs)) : ∃ a kvs, v = .ref a ∧ s.H a = some (.dK kvs) ∧ kvs.map (·.1) = ks ∧ AtAll K s.G (kvs.map (·.2)) xs := by
  rcases view_items D ok w with h | ⟨a, o, rfl, h1, h2⟩
  · cases h with
    | dic hs ha => exact ⟨_, _, rfl, D.sub _ _ hs, rfl, ha⟩
  · cases h2 with
    | dic h2 => exact ⟨a, _, rfl, h1, rfl, h2⟩
/-- d[k], the key there -/
theorem we_dget {td ty : TE} {Q : Av → Sls → Prop} (h : WE K W td ρ (fun a ρ1 => WE K W ty ρ1 (fun b ρ2 => ∃ ks xs e k d, View ρ2 a.fl (.dic ks xs) ∧ b = .dt e ∧ keyU e = some k ∧ valU ks xs k = some d ∧ Q (.dt d) ρ2) X) X) : WE K W (tDGet td ty) ρ Q X := by
  rintro s Q0 rfl D x k
  refine WE.flat (Q := fun a ρ1 => WE K W ty ρ1 (fun b ρ2 => ∃ ks xs e k d, View ρ2 a (.dic ks xs) ∧ b = .dt e ∧ keyU e = some k ∧ valU ks xs k = some d ∧ Q (.dt d) ρ2) X) h rfl D x fun v a s1 n1 fa ok q => ?_
  show ty s.σ s1.H _
  rw [← n1.slots]
  refine q s1 _ rfl n1.den (x.next n1.stp) fun w b s2 n2 ok2 ⟨ks, xs, e, ky, d, hv, eb, hk, hl, q2⟩ => ?_
  subst eb
  obtain ⟨c, kvs, rfl, e1, rfl, e2⟩ := view_dic n2.den ((AvOk.next fa n2 ok).self fa) hv
  rw [at_key (show At K s2.G w e from ok2) hk]
  rcases at_valU (k := ky) e2 with ⟨_, h2⟩ | ⟨u, d2, h1, h2, h3⟩
  · rw [h2] at hl
    cases hl
  · rw [h2] at hl
    cases hl
    refine ⟨c, u, rfl, ?_, (k.lift (n1.trans n2)) u (.dt _) s2 (Nxt.refl n2.den) h3 q2⟩
    rw [← h1]
    exact DGet.k e1
/-- k in d, k not in d -/
theorem we_din {td ty : TE} {Q : Av → Sls → Prop} (h : WE K W ty ρ (fun b ρ1 => WE K W td ρ1 (fun a ρ2 => ∃ ks xs e k, View ρ2 a.fl (.dic ks xs) ∧ b = .dt e ∧ keyU e = some k ∧ Q (.dt (.bl (valU ks xs k).isSome)) ρ2) X) X) : WE K W (tDIn ty td) ρ Q X := by
  rintro s Q0 rfl D x k
  refine h s _ rfl D x fun w b s1 n1 ok1 q => ?_
  show td s.σ s1.H _
  rw [← n1.slots]
  refine WE.flat (Q := fun a ρ2 => ∃ ks xs e k, View ρ2 a (.dic ks xs) ∧ b = .dt e ∧ keyU e = some k ∧ Q (.dt (.bl (valU ks xs k).isSome)) ρ2) q rfl n1.den (x.next n1.stp) fun v a s2 n2 fa ok2 ⟨ks, xs, e, ky, hv, eb, hk, q2⟩ => ?_
  subst eb
  obtain ⟨c, kvs, rfl, e1, rfl, e2⟩ := view_dic n2.den ok2 hv
  rw [at_key (show At K s1.G w e from ok1) hk]
  refine ⟨c, valV kvs ky, rfl, DGet.k e1, ?_⟩
  have es : (valV kvs ky).isSome = (valU (kvs.map (·.1)) xs ky).isSome := by
    rcases at_valU (k := ky) e2 with ⟨h1, h2⟩ | ⟨u, d2, h1, h2, _⟩
    · rw [h1, h2]
      rfl
    · rw [h1, h2]
      rfl
  rw [es]
  exact (k.lift (n1.trans n2)) _ (.dt _) s2 (Nxt.refl n2.den) (At.bl _) q2
theorem we_dnotin {td ty : TE} {Q : Av → Sls → Prop} (h : WE K W ty ρ (fun b ρ1 => WE K W td ρ1 (fun a ρ2 => ∃ ks xs e k, View ρ2 a.fl (.dic ks xs) ∧ b = .dt e ∧ keyU e = some k ∧ Q (.dt (.bl (!(valU ks xs k).isSome))) ρ2) X) X) : WE K W (tDNotIn ty td) ρ Q X := by
  rintro s Q0 rfl D x k
  refine h s _ rfl D x fun w b s1 n1 ok1 q => ?_
  show td s.σ s1.H _
  rw [← n1.slots]
  refine WE.flat (Q := fun a ρ2 => ∃ ks xs e k, View ρ2 a (.dic ks xs) ∧ b = .dt e ∧ keyU e = some k ∧ Q (.dt (.bl (!(valU ks xs k).isSome))) ρ2) q rfl n1.den (x.next n1.stp) fun v a s2 n2 fa ok2 ⟨ks, xs, e, ky, hv, eb, hk, q2⟩ => ?_
  subst eb
  obtain ⟨c, kvs, rfl, e1, rfl, e2⟩ := view_dic n2.den ok2 hv
  rw [at_key (show At K s1.G w e from ok1) hk]
  refine ⟨c, valV kvs ky, rfl, DGet.k e1, ?_⟩
  have es : (valV kvs ky).isSome = (valU (kvs.map (·.1)) xs ky).isSome := by
    rcases at_valU (k := ky) e2 with ⟨h1, h2⟩ | ⟨u, d2, h1, h2, _⟩
    · rw [h1, h2]
      rfl
    · rw [h1, h2]
      rfl
  rw [es]
  exact (k.lift (n1.trans n2)) _ (.dt _) s2 (Nxt.refl n2.den) (At.bl _) q2
/-- d.get(k, x) -/
theorem we_dget2 {td ty tx : TE} {Q : Av → Sls → Prop} (h : WE K W td ρ (fun a ρ1 => (∃ ks xs, View ρ1 a.fl (.dic ks xs)) ∧ WE K W ty ρ1 (fun b ρ2 => WE K W tx ρ2 (fun c ρ3 => ∃ ks xs e k z, View ρ3 a.fl (.dic ks xs) ∧ b = .dt e ∧ keyU e = some k ∧ c = .dt z ∧ Q (.dt ((valU ks xs k).getD z)) ρ3) X) X) X) : WE K W (tDGet2 td ty tx) ρ Q X := by
  rintro s Q0 rfl D x k
  refine WE.flat (Q := fun a ρ1 => (∃ ks xs, View ρ1 a (.dic ks xs)) ∧ WE K W ty ρ1 (fun b ρ2 => WE K W tx ρ2 (fun c ρ3 => ∃ ks xs e k z, View ρ3 a (.dic ks xs) ∧ b = .dt e ∧ keyU e = some k ∧ c = .dt z ∧ Q (.dt ((valU ks xs k).getD z)) ρ3) X) X) h rfl D x fun v a s1 n1 fa ok ⟨⟨_, _, w0⟩, q⟩ => ?_
  obtain ⟨c, kv0, rfl, e0, _, _⟩ := view_dic n1.den ok w0
  refine ⟨c, rfl, .inl ⟨kv0, .inl e0⟩, ?_⟩
  rw [← n1.slots]
  refine q s1 _ rfl n1.den (x.next n1.stp) fun w b s2 n2 ok2 q2 => ?_
  show tx s1.σ s2.H _
  rw [← n2.slots]
  refine q2 s2 _ rfl n2.den (x.next (n1.trans n2).stp) fun u bz s3 n3 ok3 ⟨ks, xs, e, ky, z, hv, eb, hk, ez, q3⟩ => ?_
  subst eb
  subst ez
  obtain ⟨c', kvs, ec, e1, rfl, e2⟩ := view_dic n3.den ((AvOk.next fa (n2.trans n3) ok).self fa) hv
  cases ec
  rw [at_key (show At K s2.G w e from ok2) hk]
  refine ⟨valV kvs ky, DGet.k e1, ?_⟩
  rcases at_valU (k := ky) e2 with ⟨h1, h2⟩ | ⟨v2, d2, h1, h2, h3⟩
  · rw [h2] at q3
    rw [h1]
    exact (k.lift ((n1.trans n2).trans n3)) u (.dt z) s3 (Nxt.refl n3.den) (show At K s3.G u z from ok3) q3
  · rw [h2] at q3
    rw [h1]
    exact (k.lift ((n1.trans n2).trans n3)) v2 (.dt d2) s3 (Nxt.refl n3.den) h3 q3
/-- d[k] = v: in its place, or at the end -/
def putKU {κ : Type} [DecidableEq κ] (ks : List κ) (k : κ) : List κ := if (ks.any fun n => decide (n = k)) = true then ks else ks ++ [k]
def putXU {κ : Type} [DecidableEq κ] (ks : List κ) (xs : List U) (k : κ) (d : U) : List U := if (ks.any fun n => decide (n = k)) = true then (ks.zip xs).map (fun p => if p.1 = k then d else p.2) else xs ++ [d]
theorem putK_names {κ : Type} [DecidableEq κ] (kvs : List (κ × V)) (k : κ) (v : V) : (putK kvs k v).map (·.1) = putKU (kvs.map (·.1)) k := by
  unfold putK putKU
  rw [List.any_map]
  by_cases h : (kvs.any fun kv => decide (kv.1 = k)) = true
  · rw [if_pos h, if_pos (by exact h), List.map_map]
    refine List.map_congr_left fun p _ => ?_
    show (if p.1 = k then (p.1, v) else p).1 = p.1
    split <;> rfl
  · rw [if_neg h, if_neg (by exact h), List.map_append]
    rfl
theorem zip_at {κ : Type} [DecidableEq κ] {G : Hp} {k : κ} {v : V} {d : U} (hv : At K G v d) : ∀ {kvs : List (κ × V)} {xs : List U}, AtAll K G (kvs.map (·.2)) xs → AtAll K G ((kvs.map (fun kv => if kv.1 = k then (kv.1, v) else kv)).map (·.2)) (((kvs.map (·.1)).zip xs).map (fun p => if p.1 = k then d else p.2))
  | [], _, .nil => .nil
  | (n, z) :: r, x :: xs, .cons h t => by
    show AtAll K G ((if n = k then (n, v) else (n, z)).2 :: _) ((if n = k then d else x) :: _)
    by_cases e : n = k
    · rw [if_pos e, if_pos e]
      exact .cons hv (zip_at hv t)
    · rw [if_neg e, if_neg e]
      exact .cons h (zip_at hv t)
theorem putK_at {κ : Type} [DecidableEq κ] {G : Hp} {kvs : List (κ × V)} {xs : List U} {k : κ} {v : V} {d : U} (hv : At K G v d) (h : AtAll K G (kvs.map (·.2)) xs) : AtAll K G ((putK kvs k v).map (·.2)) (putXU (kvs.map (·.1)) xs k d) := by
  unfold putK putXU
  rw [List.any_map]
  by_cases e : (kvs.any fun kv => decide (kv.1 = k)) = true
  · rw [if_pos e, if_pos (by exact e)]
    exact zip_at hv h
  · rw [if_neg e, if_neg (by exact e), List.map_append]
    exact h.snoc hv
theorem ws_dput {j : Nat} {ty tv : TE} (h : WE K W tv ρ (fun a ρ1 => ∃ d ρ2, Frz ρ1 [a.fl] [d] ρ2 ∧ (∃ sl ks xs, ρ2[j]? = some sl ∧ sl.cell = some (.dic ks xs)) ∧ WE K W ty ρ2 (fun b ρ3 => ∃ e k sl ks xs, b = .dt e ∧ keyU e = some k ∧ ρ3[j]? = some sl ∧ sl.cell = some (.dic ks xs) ∧ ks.length < 100000 ∧ P.nx (setC ρ3 j (.dic (putKU ks k) (putXU ks xs k d)))) P.xc) P.xc) :
    WS K W (sDPut (tVar j) ty tv) ρ P := by
  rintro s D rfl d x fi
  refine WE.flat (Q := fun a ρ1 => ∃ d ρ2, Frz ρ1 [a] [d] ρ2 ∧ (∃ sl ks xs, ρ2[j]? = some sl ∧ sl.cell = some (.dic ks xs)) ∧ WE K W ty ρ2 (fun b ρ3 => ∃ e k sl ks xs, b = .dt e ∧ keyU e = some k ∧ ρ3[j]? = some sl ∧ sl.cell = some (.dic ks xs) ∧ ks.length < 100000 ∧ P.nx (setC ρ3 j (.dic (putKU ks k) (putXU ks xs k d)))) P.xc) h rfl d x fun v a s1 n1 fa ok ⟨z, ρ2, hf, hc, q⟩ => ?_
  obtain ⟨s2, e1, e2, n2, hz⟩ := frz1 hf fa n1.den ok
  subst e1
  obtain ⟨sl, ks, xs, c1, c2⟩ := hc
  obtain ⟨b, o, e3, e4, e5, e6⟩ := n2.den.own j sl _ c1 c2
  have n12 := n1.trans n2
  have eσ : s.σ[j]? = some (some (.ref b)) := by rw [← n12.slots]; exact e3
  refine ⟨.ref b, eσ, ?_⟩
  rw [← e2, ← n12.slots]
  refine q s2 _ rfl n2.den (x.next n12.stp) fun w bv s3 n3 ok3 ⟨e, ky, sl', ks', xs', eb, hk, c3, c4, c5, q3⟩ => ?_
  subst eb
  rw [at_key (show At K s3.G w e from ok3) hk]
  obtain ⟨b', o', e7, e8, e9, e10⟩ := n3.den.own j sl' _ c3 c4
  have e7' : s3.σ[j]? = some (some (.ref b)) := by rw [n3.slots]; exact e3
  rw [e7'] at e7
  cases e7
  cases e10 with
  | dic hx =>
    rename_i kvs
    refine ⟨b, _, rfl, DPut.k e9 (Nat.lt_of_lt_of_le (by rw [← List.length_map (f := (·.1))]; exact c5) (by decide)), ?_⟩
    have nw := cell_write (o' := .dK (putK kvs ky v)) (d' := .dic (putKU (kvs.map (·.1)) ky) (putXU (kvs.map (·.1)) xs' ky z)) n3.den c3 c4 e7' e9 (putK_names kvs ky v ▸ .dic (putK_at (At.mono n3.stp.sub _ _ hz) hx))
    have := fi.nx _ (n12.stp.trans (n3.stp.trans nw.stp)) nw.den q3
    rw [show ({ s3 with ρ := setC s3.ρ j (.dic (putKU (kvs.map (·.1)) ky) (putXU (kvs.map (·.1)) xs' ky z)), H := upd s3.H b (.dK (putK kvs ky v)) } : Sta).σ = s2.σ from n3.slots] at this
    exact this
/-! ### operators of own objects -/
def tyV : U → Option Value
  | .obj C _ _ => some (.ref C)
  | d => if plainU d = true then some (tyU d) else none
theorem at_tyO {s : Sta} {v : V} {av : Av} {d : U} {t : Value} (D : Den K s) (ok : AvOk K s s v av) (w : View s.ρ av d) (e : tyV d = some t) : TyO K s.H v t := by
  cases d
  case obj C ns xs =>
    obtain ⟨a, dx, fs, rfl, e1, _, _⟩ := view_obj D ok w
    cases e
    exact .inr ⟨a, C, dx, fs, rfl, e1, rfl⟩
  all_goals (unfold tyV at e; split at e; · (rename_i z; cases z; done))
  all_goals (split at e; · (rename_i p; cases e; exact .inl (at_ty (view_at D ok w) p)))
  all_goals cases e
theorem wr_inOwn {C : Addr} {R : RU} {neg : Bool} {a b : Av} {ns : List Str} {xs : List U} {Q : Av → Sls → Prop} (fa : a.flat) (fb : b.flat) (hb : View ρ b (.obj C ns xs)) (h : CallU R [b, a] ρ (fun r ρ' => ∃ c, r = .dt (.bl c) ∧ Q (.dt (.bl (if neg then !c else c))) ρ') (fun _ _ => False)) : WR K W (rInOwn C (spU K R) E0 neg) a b ρ Q X := by
  rintro s v w Q0 rfl D _ h1 h2 k
  obtain ⟨o, dx, fs, rfl, e1, _, _⟩ := view_obj D h2 hb
  refine ⟨o, dx, fs, rfl, e1, h.run D (.cons fb h2 (.cons fa h1 .nil)) (fun u av s' n ok ⟨c, e, q⟩ => ?_) fun _ _ _ _ _ _ _ _ z => z.elim⟩
  subst e
  have ok : At K s'.G u (.bl c) := ok
  cases ok
  exact ⟨c, rfl, k _ (.dt _) s' n (At.bl _) q⟩
theorem wr_eqOwn {C : Addr} {R : RU} {a b : Av} {ns : List Str} {xs : List U} {d : U} {t : Value} {Q : Av → Sls → Prop} (fa : a.flat) (fb : b.flat) (ha : View ρ a (.obj C ns xs)) (hb : View ρ b d) (ht : tyV d = some t) (hn : PySem.W.notFirst K C t = true) (h : CallU R [a, b] ρ Q (fun _ _ => False)) : WR K W (rEqOwn K C (spU K R) E0) a b ρ Q X := by
  rintro s v w Q0 rfl D _ h1 h2 k
  obtain ⟨o, dx, fs, rfl, e1, _, _⟩ := view_obj D h1 ha
  exact ⟨o, dx, fs, t, rfl, e1, at_tyO D h2 hb ht, hn, h.run D (.cons fa h1 (.cons fb h2 .nil)) k fun _ _ _ _ _ _ _ _ z => z.elim⟩
theorem wr_neOwn {C : Addr} {R : RU} {a b : Av} {ns : List Str} {xs : List U} {d : U} {t : Value} {Q : Av → Sls → Prop} (fa : a.flat) (fb : b.flat) (ha : View ρ a (.obj C ns xs)) (hb : View ρ b d) (ht : tyV d = some t) (hn : PySem.W.notFirst K C t = true)
    (h : CallU R [a, b] ρ (fun r ρ' => ∃ c, r = .dt (.bl c) ∧ Q (.dt (.bl (!c))) ρ') (fun _ _ => False)) : WR K W (rNeOwn K C (spU K R) E0) a b ρ Q X := by
  rintro s v w Q0 rfl D _ h1 h2 k
  obtain ⟨o, dx, fs, rfl, e1, _, _⟩ := view_obj D h1 ha
  refine ⟨o, dx, fs, t, rfl, e1, at_tyO D h2 hb ht, hn, h.run D (.cons fa h1 (.cons fb h2 .nil)) (fun u av s' n ok ⟨c, e, q⟩ => ?_) fun _ _ _ _ _ _ _ _ z => z.elim⟩
  subst e
  have ok : At K s'.G u (.bl c) := ok
  cases ok
  exact ⟨c, rfl, k _ (.dt _) s' n (At.bl _) q⟩
theorem wr_addOwn {C : Addr} {R : RU} {a b : Av} {ns : List Str} {xs : List U} {d : U} {n : String} {Q : Av → Sls → Prop} (fa : a.flat) (fb : b.flat) (ha : View ρ a (.obj C ns xs)) (hb : View ρ b d) (hp : plainU d = true) (ht : tyU d = .type n) (hn : AddT K C n) (h : CallU R [a, b] ρ Q (fun _ _ => False)) : WR K W (rAddOwn K C (spU K R) E0) a b ρ Q X := by
  rintro s v w Q0 rfl D _ h1 h2 k
  obtain ⟨o, dx, fs, rfl, e1, _, _⟩ := view_obj D h1 ha
  exact ⟨o, dx, fs, n, rfl, e1, ht ▸ at_ty (view_at D h2 hb) hp, hn, h.run D (.cons fa h1 (.cons fb h2 .nil)) k fun _ _ _ _ _ _ _ _ z => z.elim⟩
theorem wc_lenOwn {C : Addr} {R : RU} {a : Av} {ns : List Str} {xs : List U} {Q : Av → Sls → Prop} (fa : a.flat) (ha : View ρ a (.obj C ns xs)) (h : CallU R [a] ρ (fun r ρ' => ∃ k : Nat, r = .dt (.int k) ∧ k < 100000 ∧ Q (.dt (.int k)) ρ') (fun _ _ => False)) :
    WC K W (fun xs H Q => ∃ a dx fs, xs = [.ref a] ∧ H a = some (.ins C dx fs) ∧ spU K R [.ref a] H (fun v H' => ∃ k : Nat, v = .int k ∧ k < 100000 ∧ Q (.int k) H') E0) [a] ρ Q X := by
  rintro s vs Q0 rfl D _ h0 k
  obtain ⟨v, rfl, h1⟩ := avs_one h0
  obtain ⟨o, dx, fs, rfl, e1, _, _⟩ := view_obj D h1 ha
  refine ⟨o, dx, fs, rfl, e1, h.run D (.cons fa h1 .nil) (fun u av s' n ok ⟨c, e, hc, q⟩ => ?_) fun _ _ _ _ _ _ _ _ z => z.elim⟩
  subst e
  have ok : At K s'.G u (.int c) := ok
  cases ok
  exact ⟨c, rfl, hc, k _ (.dt _) s' n (At.int _) q⟩
end

theorem ps_never {X : Cx} {st : Stmt} : PS X st (fun _ _ _ => False) := ⟨fun pins s σ H D I h => h.elim⟩
/-! the rule -/
def keyD : Key → PyData
  | .inl i => .int i
  | .inr z => .str z
def tupD (q : List Key × V) : PyData := .tuple (q.1.map keyD)
/-- a key that is a tuple of texts, of one at least -/
def TxtKey (k : List Key) : Prop := ∃ (z : Str) (zs : List Str), k = (z :: zs).map Sum.inr
theorem alike_txts : ∀ xs ys : List Str, PySem.W.alikeAll ((xs.map (Sum.inr : Str → Key)).map keyD) ((ys.map (Sum.inr : Str → Key)).map keyD) = true
  | [], _ => by unfold PySem.W.alikeAll; rfl
  | _ :: _, [] => by unfold PySem.W.alikeAll; rfl
  | x :: xs, y :: ys => by
    show (PySem.W.alike (.str x) (.str y) && PySem.W.alikeAll ((xs.map (Sum.inr : Str → Key)).map keyD) ((ys.map (Sum.inr : Str → Key)).map keyD)) = true
    rw [alike_txts xs ys]
    rfl
theorem tup_alike {kvs : List (List Key × V)} (h : ∀ p ∈ kvs, TxtKey p.1) : PySem.W.AllAlike (kvs.map tupD) := by
  intro d hd d' hd'
  obtain ⟨p, hp, rfl⟩ := List.mem_map.mp hd
  obtain ⟨p', hp', rfl⟩ := List.mem_map.mp hd'
  obtain ⟨z, zs, e⟩ := h p hp
  obtain ⟨z', zs', e'⟩ := h p' hp'
  show PySem.W.alikeAll (p.1.map keyD) (p'.1.map keyD) = true
  rw [e, e']
  exact alike_txts _ _
theorem tup_sortable {kvs : List (List Key × V)} (h : ∀ p ∈ kvs, TxtKey p.1) : PySem.W.Sortable (kvs.map tupD) := .inl fun d hd => by
  obtain ⟨p, hp, rfl⟩ := List.mem_map.mp hd
  obtain ⟨z, zs, e⟩ := h p hp
  exact ⟨.str z, (zs.map (Sum.inr : Str → Key)).map keyD, by show PyData.tuple (p.1.map keyD) = _; rw [e]; rfl⟩
theorem depth_keys : ∀ ks : List Key, PyData.depthAll (ks.map keyD) = 0
  | [] => rfl
  | k :: ks => by
    show max (PyData.depth (keyD k)) (PyData.depthAll (ks.map keyD)) = 0
    rw [depth_keys ks]
    cases k <;> rfl
theorem dp_keys {K : PySem.W.Frag} {H : Hp} : ∀ ks : List Key, DpAll K H (ks.map kV) (ks.map keyD)
  | [] => .nil
  | .inl i :: ks => .cons (.int i) (dp_keys ks)
  | .inr z :: ks => .cons (.str z) (dp_keys ks)
theorem each_refs {β : Type} {Pb : Addr → β → Prop} : ∀ {vs : List Value} {qs : List β}, PySem.W.EachIs (fun v q => ∃ b, v = Value.ref b ∧ Pb b q) vs qs → ∃ bs : List Addr, vs = bs.map Value.ref ∧ PySem.W.EachIs Pb bs qs
  | _, _, .nil => ⟨[], rfl, .nil⟩
  | _, _, .cons h t => by
    obtain ⟨b, rfl, p⟩ := h
    obtain ⟨bs, rfl, q⟩ := each_refs t
    exact ⟨b :: bs, rfl, .cons p q⟩
def leT : List Key × V → List Key × V → Bool := PySem.W.dataLe false tupD
/-- sorted(d), d's keys tuples of texts -/
def rSortedT : List V → Hp → VK → Prop := fun vs H Q => ∃ (d : Addr) (kvs : List (List Key × V)), vs = [.ref d] ∧ H d = some (.dT kvs) ∧ (∀ p ∈ kvs, TxtKey p.1) ∧
  ∀ (p : Addr) (bs : List Addr), H p = none → PySem.W.EachIs (fun b q => H b = some (.tup (q.1.map kV))) bs (kvs.mergeSort leT) → Q (.ref p) (upd H p (.lst (bs.map V.ref)))
theorem cr_sortedT {X : Cx} (hc : X.calm = true) (hu : X.A.units + 64 < cLine) : CallR X (.builtin "sorted") rSortedT := by
  intro pins s σ H xs us Q I r h
  obtain ⟨d, kvs, rfl, hd, ht, q⟩ := h
  obtain rfl := Vals.ref1 r
  obtain ⟨z, hs, ks, pr, o, es, ep, ho, hx, hdt, he, hn⟩ := dt_of I.hok hd
  have l1 : es.size = ks.length := size_of_entries he
  have l2 : kvs.length = ks.length := Paired.length pr
  refine SrtT.sorted_up (kdl_raw hs hx hdt) (I.ok.hd hc) ho (by omega) fun h' tk acc kp hlt it => ?_
  have hl : acc.toList.length = ks.length := by rw [Array.length_toList, it.1]; exact l1
  -- what is drawn: the keys
  have each : PySem.W.EachIs (fun v (p : List Key × V) => ∃ b, v = Value.ref b ∧ H b = some (.tup (p.1.map kV))) acc.toList kvs := by
    refine PySem.W.EachIs.of_zip (by omega) fun p hp => ?_
    obtain ⟨j, hj⟩ := List.mem_iff_getElem?.mp hp
    obtain ⟨j1, j2⟩ := List.getElem?_zip_eq_some.mp hj
    obtain ⟨en, hen, hv⟩ := it.2 j p.1 (by rw [← Array.getElem?_toList]; exact j1)
    have qe := entry_at he j
    rw [hen] at qe
    cases hb : ks[j]? with
    | none =>
      rw [hb] at qe
      exact nomatch (show some en = none from qe)
    | some b =>
      rw [hb] at qe
      have e2 : en = entryOfKey (tupleKind (mixKind X.prog X.w)) b := Option.some.inj qe
      obtain ⟨p0, hp0, r1, r2, r3⟩ := L2.DX.pget pr hb
      have : p0 = p.2 := Option.some.inj (hp0.symm.trans j2)
      subst this
      exact ⟨b.2.1, by rw [hv, e2]; rfl, r2⟩
  have hob : (h'.push { cls := .type "list", data := .seq acc.toList.toArray }).get? h'.objs.size = some (seqObj "list" acc.toList.toArray 0) := Heap.get?_push_size _ rfl
  have kb : ∀ b o, s.heap.get? b = some o → b ≠ h'.objs.size ∧ (h'.push { cls := .type "list", data := .seq acc.toList.toArray }).get? b = some o := fun b o e =>
    ⟨Nat.ne_of_lt (Heap.lt_size (kp b o e)), Heap.get?_push_of_some _ (kp b o e)⟩
  generalize hh2 : h'.push { cls := .type "list", data := .seq acc.toList.toArray } = h2 at hob kb ⊢
  have rd : PySem.W.EachIs (fun v p => ∃ as, Reads (PySem.W.sortingHeap h2 h'.objs.size acc.toList) v (tupD p) as) acc.toList kvs := by
    refine each.mono ?_
    rintro v p ⟨b, rfl, e⟩
    obtain ⟨as, q⟩ := Dp.reads I (.tuple (p.1.map keyD)) (.ref b) (.ref b) (.tup (.inl (.inl e)) (dp_keys _)) rfl
    exact ⟨as, PyProof.Rows.Reads.keeps (fun b o e => PySem.W.sortingHeap_old (kb b o e).1 (kb b o e).2) q⟩
  have S := PySem.W.SortsAt.data (prog := X.prog) (w := X.w) (A := X.A.in1.in1) (s := { s with heap := PySem.W.sortingHeap h2 h'.objs.size acc.toList, toks := tk }) (PySem.W.each_map (R := fun v d => ∃ as, Reads (PySem.W.sortingHeap h2 h'.objs.size acc.toList) v d as) tupD rd) (tup_alike ht) (tup_sortable ht)
    (PySem.W.bound_map fun p hp => by
      show X.A.units + 1 + 1 + (PyData.depthAll (p.1.map keyD) + 1) < cLine
      rw [depth_keys]
      omega)
  refine wpAny_call_entry PyProof.Rows.slot_list_sort ⟨_, hob, rfl⟩ PyProof.Rows.entry_list_sort (PySem.W.list_sort_vals (s := { s with heap := h2, toks := tk }) hob S (by omega) ⟨.none, rfl, ?_⟩) (PyProof.Rows.args_list_sort _)
  obtain ⟨bs, eb, qb⟩ := each_refs (PySem.W.sortVals_data false each rd (tup_alike ht))
  have lb : bs.length = kvs.length := by rw [qb.length, List.length_mergeSort]
  show EP X pins σ Q (.ref h'.objs.size) { s with heap := sortedHeap h2 h'.objs.size acc.toList (PySem.W.sortVals (PySem.W.dataKind (PySem.W.sortingHeap h2 h'.objs.size acc.toList) (kvs.map tupD)) false acc.toList acc.toList).toArray, toks := tk }
  rw [eb]
  obtain ⟨eF, heF⟩ := PyProof.Rows.sortedHeap_at (vs := acc.toList) (out := (bs.map Value.ref).toArray) hob
  have kS : ∀ b o, s.heap.get? b = some o → (sortedHeap h2 h'.objs.size acc.toList (bs.map Value.ref).toArray).get? b = some o := fun b o e =>
    (PyProof.Rows.sortedHeap_old (kb b o e).1 (Heap.lt_size (kb b o e).2)).trans (kb b o e).2
  refine ⟨.ref h'.objs.size, _, I.laid (t' := tk) (o := .lst (bs.map V.ref)) kS (Nat.le_of_lt hlt) ?_, rfl, q _ bs (I.hok.fresh (Nat.le_of_lt hlt)) qb⟩
  exact ⟨by rw [List.length_map]; omega, bs.map Value.ref, eF, vals_refs bs, heF⟩

/-! ### {path: e for target in iter if ..}: keys that are tuples -/
section
variable {X : Cx}
theorem put_dT {pins : List (Addr × Obj)} {σ : L2.St} {H : Hp} {s : Shared} {E : Value → Shared → Prop} {D b : Addr} {kvs : List (List Key × V)} {k : List Key} {v : V} {r : Value} {Q : Unit → Shared → Prop} (hu : X.A.units < cLine) (I : Inv X pins σ H s)
    (e : H D = some (.dT kvs)) (eb : H b = some (.tup (k.map kV))) (l : kvs.length < sizeLine) (rv : RelV v r) (h : ∀ s', Inv X pins σ (upd H D (.dT (putK kvs k v))) s' → Q () s') : wpAny (model X.prog X.w) X.A (dictSet D (.ref b) r) Q E s := by
  obtain ⟨z, hd, xs, rel, dd⟩ := dt_of I.hok e
  have l1 := Paired.length rel
  have hz : xs.length ≤ sizeLine := by omega
  have hl : (putK kvs k v).length ≤ sizeLine := by have := length_putK kvs k v; omega
  refine wpAny_dictSet_heap (hsz := hz) hu (key_of I.hok eb) dd fun h' dd' hs => h _ ?_
  obtain ⟨q, es, ep, hq, h2, h3, h4, _, h5⟩ := dd'
  have hk : KT (upd H D (.dT (putK kvs k v))) (putK kvs k v) (storedH xs k b r) := (rel.put k eb rv).keeps fun c ys ec => by
    rw [upd_ne (ne_of ec e (fun z => nomatch z))]
    exact ec
  exact d_write I (by rw [e]; exact True.intro) hs ⟨q, hq⟩ ⟨hl, hd, _, hk, q, es, ep, hq, h2, h3, h4, h5⟩
/-- one turn's store: y a tuple k that is there, D a dict with tuple keys, z its value -/
def PutT (D : Addr) (Nx : Hp → Prop) (y z : V) (H : Hp) : Prop := ∃ kvs k b, y = .ref b ∧ H b = some (.tup (k.map kV)) ∧ H D = some (.dT kvs) ∧ kvs.length < sizeLine ∧ Nx (upd H D (.dT (putK kvs k z)))
/-- D the new dict; W: what holds ahead of the turn i, m turns more at most -/
def tDcT (wi : TI) (g : TG) (tt : TT) (tk tv : TE) (vs : List Nat) : TE := fun σ H Q => wi σ H fun J H1 => ∀ D, H1 D = none → ∃ W : Nat → Nat → Hp → Prop, (∃ m, W 0 m (upd H1 D (.dT []))) ∧ ∀ i m H, W i m H →
  (J.stop i H ∧ Q (.ref D) H) ∨ (J.go i H ∧ ∃ Nx : Hp → Prop, (∀ H', Nx H' → ∃ m', m' < m ∧ W (i + 1) m' H') ∧ ∀ x H', J.yld i H x H' → g x (wipe σ vs) H' fun σ2 H2 => wipe σ2 vs = wipe σ vs ∧ tt σ2 H2 fun b H3 =>
    if b = true then tk σ2 H3 fun y H4 => tv σ2 H4 fun z H5 => PutT D Nx y z H5 else Nx H3)
/-- the block's loop -/
theorem dcT_loop {s0 : Shared} {σ : L2.St} {H0 : Hp} {kx vx tg iter : Expr} {ifs : List Expr} {scope : Scope} {pos : Pos} {g : TG} {tt : TT} {tk tv : TE} {vs : List Nat} {R : Result → Shared → Prop}
    {it D : Addr} {fp : List Addr} {tn : Nat → Heap → Prop} {J : It} {ce : Env} {Q : Hp → Prop} {W : Nat → Nat → Hp → Prop} {s : Shared} {H : Hp} {m : Nat}
    (hc : X.calm = true) (hu : X.A.units < cLine) (T : Turn X.prog X.w X.K tg J fp it tn)
    (pg : PG (X.blk s0 H0 scope ce fp) tg g) (pt : PTs (X.blk s0 H0 scope ce fp) ifs tt) (pk : PE (X.blk s0 H0 scope ce fp) kx tk) (pe : PE (X.blk s0 H0 scope ce fp) vx tv)
    (turn : ∀ i m H, W i m H → (J.stop i H ∧ Q H) ∨ (J.go i H ∧ ∃ Nx : Hp → Prop, (∀ H', Nx H' → ∃ m', m' < m ∧ W (i + 1) m' H') ∧ ∀ x H', J.yld i H x H' → g x (wipe σ vs) H' fun σ2 H2 => wipe σ2 vs = wipe σ vs ∧ tt σ2 H2 fun b H3 =>
      if b = true then tk σ2 H3 fun y H4 => tv σ2 H4 fun z H5 => PutT D Nx y z H5 else Nx H3))
    (hend : ∀ s' H', Inv (X.blk s0 H0 scope ce fp) [] (wipe σ vs) H' s' → Q H' → R (.ok .next) s')
    (I : Inv (X.blk s0 H0 scope ce fp) [] (wipe σ vs) H s) (st : tn 0 s.heap) (nf : ∀ b ∈ fp, H b = none) (w0 : W 0 m H) :
    codeAny (model X.prog X.w) X.A (.compLoop (.DictComp kx vx [⟨tg, iter, ifs, 0⟩] scope pos) 0 (.ref it) (.ref D) ce) R s := by
  have can : ∀ {σ' : L2.St} {H' : Hp} {s' : Shared}, Inv (X.blk s0 H0 scope ce fp) [] σ' H' s' → (∀ b ∈ fp, H' b = none) → ∀ b ∈ fp, FpOk (X.blk s0 H0 scope ce fp) [] H' b := fun I' hn b hb =>
    ⟨hn b hb, (I'.ok.exf b hb).1, I'.ok.exfs b hb, .inl hb, fun x c e => (I'.ok.exf b hb).2 x c e, fun p hp => nomatch (show p ∈ ([] : List (Addr × Obj)) from hp)⟩
  refine compLoop_anyD (fun n s' => ∃ i H', Inv (X.blk s0 H0 scope ce fp) [] (wipe σ vs) H' s' ∧ tn i s'.heap ∧ (∀ b ∈ fp, H' b = none) ∧ W i n H') ?_ m ⟨0, H, I, st, nf, w0⟩
  rintro n s1 ⟨i, H1, I1, st1, n1, w1⟩
  rcases turn i n H1 w1 with ⟨stop, q⟩ | ⟨go, Nx, less, step⟩
  · refine thnF (T.done (X.blk s0 H0 scope ce fp) rfl rfl rfl hc i [] s1 _ H1 (fun _ _ => False) I1 (can I1 n1) st1 stop) fun r s2 ⟨hr, I2⟩ => ?_
    subst hr
    exact hend s2 H1 I2 q
  · refine thnF (T.item (X.blk s0 H0 scope ce fp) rfl rfl rfl hc i [] s1 _ H1 (fun _ _ => False) I1 (can I1 n1) st1 go) fun r s2 ⟨u, hr, h2⟩ => ?_
    subst hr
    refine thnF h2 fun _ s3 ⟨x, H3, I3, r3, y3, st3, n3⟩ => ?_
    have I4 := I3.pinned (can I3 n3) (T.obj _ _ st3)
    refine thnF (pg.run _ s3 _ H3 x u _ I4 r3 (step x H3 y3)) fun _ s5 ⟨σ5, H5, I5, e5, q5⟩ => ?_
    refine thnF (pt.run _ s5 σ5 H5 _ I5 q5) fun b s6 ⟨H6, I6, q6⟩ => ?_
    have on : ∀ {s' : Shared} {H' : Hp}, Inv (X.blk s0 H0 scope ce fp) ([] ++ pinsAt fp s3.heap) σ5 H' s' → Nx H' → ∃ m, m < n ∧ ∃ i H', Inv (X.blk s0 H0 scope ce fp) [] (wipe σ vs) H' s' ∧ tn i s'.heap ∧ (∀ b ∈ fp, H' b = none) ∧ W i m H' := by
      intro s' H' I' nx
      obtain ⟨m', lt, w'⟩ := less H' nx
      have kept : ∀ b ∈ fp, ∀ o, s3.heap.get? b = some o → s'.heap.get? b = some o ∧ H' b = none := fun b hb o e =>
        ⟨(I'.pin (b, o) (List.mem_append_right _ (List.mem_append_right _ (mem_pinsAt hb e)))).1, (I'.pin (b, o) (List.mem_append_right _ (List.mem_append_right _ (mem_pinsAt hb e)))).2.1⟩
      refine ⟨m', lt, i + 1, H', (I'.unpinned (pins := [])).weak (by rw [← e5, wipe_length]) (fun j v e => ?_), T.keep _ _ _ st3 fun b hb o e => (kept b hb o e).1, fun b hb => ?_, w'⟩
      · rw [← e5] at e
        exact (wipe_some e).1
      · obtain ⟨o, e, _⟩ := T.obj _ _ st3 b hb
        exact (kept b hb o e).2
    by_cases hb : b = true
    · dsimp only at q6
      rw [if_pos hb] at q6 ⊢
      refine thnF (pk.run _ s6 σ5 H6 _ I6 q6) fun z s7 ⟨yk, H7, I7, r7, q7⟩ => ?_
      refine thnF (pe.run _ s7 σ5 H7 _ I7 q7) fun z2 s8 ⟨yv, H8, I8, r8, kvs, k, a, ek, ea, eD, l8, nx⟩ => ?_
      subst ek
      cases (show z = Value.ref a from r7)
      exact put_dT (X := X.blk s0 H0 scope ce fp) hu I8 eD ea l8 r8 fun s9 I9 => on I9 nx
    · dsimp only at q6
      rw [if_neg hb] at q6 ⊢
      exact on I6 q6
/-- the value -/
theorem pe_dcT {kx vx tg iter : Expr} {ifs : List Expr} {scope : Scope} {own : List (Str × Nat)} {pos : Pos} {wi : TI} {g : TG} {tt : TT} {tk tv : TE} (hc : X.calm = true) (hu : X.A.units < cLine) (hN : X.N.Nodup) (hi : PI X tg iter wi) (ok : BlkOk X.N X.env.scope scope own)
    (hg : ∀ (s : Shared) (H : Hp) (C : Addr) (cl : List (Str × Addr)) (fp : List Addr), PG (X.blk s H scope (compEnvC scope cl C X.env) fp) tg g) (ht : ∀ (s : Shared) (H : Hp) (C : Addr) (cl : List (Str × Addr)) (fp : List Addr), PTs (X.blk s H scope (compEnvC scope cl C X.env) fp) ifs tt)
    (hk : ∀ (s : Shared) (H : Hp) (C : Addr) (cl : List (Str × Addr)) (fp : List Addr), PE (X.blk s H scope (compEnvC scope cl C X.env) fp) kx tk)
    (he : ∀ (s : Shared) (H : Hp) (C : Addr) (cl : List (Str × Addr)) (fp : List Addr), PE (X.blk s H scope (compEnvC scope cl C X.env) fp) vx tv) (hs : ∀ x, foldedSetIterable iter X.env x = pure x := by intro _; rfl) :
    PE X (.DictComp kx vx [⟨tg, iter, ifs, 0⟩] scope pos) (tDcT wi g tt tk tv (own.map (·.2))) := by
  refine ⟨fun pins s σ H Q I h => ?_⟩
  rw [arm_eval_DictComp]
  have free : ∀ y ∈ scope.names, y.2 = .free → ∃ c, X.env.cells.lookup y.1 = some c := fun y hy e => I.ok.has _ (ok.free y hy e)
  refine wpAny_comprehension_free rfl hs (closure_ok free) ok.kind (fun y hy e => by rw [ok.uniq y hy, e]) (thn (hi.run pins s σ H _ I h) fun xv s1 hx => thn hx fun itv s2 h2 => ?_)
  obtain ⟨it, fp, tn, J, H2, rfl, I2, T, st2, f2, q⟩ := h2
  refine wpAny_newObj_type (newEnv_comp ?_)
  -- the new dict
  have big := I2.big
  obtain ⟨D, hD⟩ : ∃ D, D = s2.heap.objs.size := ⟨_, rfl⟩
  obtain ⟨s3, hs3⟩ : ∃ s3 : Shared, s3 = { s2 with heap := s2.heap.push { cls := .type "dict", data := .dict #[] } } := ⟨_, rfl⟩
  have hD0 : H2 D = none := I2.hok.fresh (Nat.le_of_eq hD.symm)
  obtain ⟨W, ⟨m0, w0⟩, turn⟩ := q D hD0
  have I3 : Inv X pins σ (upd H2 D (.dT [])) s3 := by
    rw [hs3]
    refine I2.laid (t' := s2.toks) (fun b o e => Heap.get?_push_of_some _ e) (Nat.le_of_eq hD.symm) ?_
    rw [hD]
    exact dt_empty s2.heap big
  have size3 : s3.heap.objs.size = s2.heap.objs.size + 1 := by rw [hs3]; exact Heap.size_push _ _
  have old3 : ∀ {b o}, s2.heap.get? b = some o → s3.heap.get? b = some o := fun e => by rw [hs3]; exact Heap.get?_push_of_some _ e
  have low : ∀ b ∈ fp, b < s2.heap.objs.size := fun b hb => let ⟨o, e, _⟩ := T.obj _ _ st2 b hb; Heap.lt_size e
  have f3 : ∀ b ∈ fp, FpOk X pins (upd H2 D (.dT [])) b ∧ b < s3.heap.objs.size := fun b hb => by
    have lt := low b hb
    obtain ⟨z1, z2⟩ := f2 b hb
    exact ⟨⟨by rw [upd_ne (by rw [hD]; exact Nat.ne_of_lt lt)]; exact z1, z2⟩, by rw [size3]; exact Nat.lt_succ_of_lt lt⟩
  have st3 : tn 0 s3.heap := T.keep _ _ _ st2 fun b _ o e => old3 e
  have I4 := block_start I3 ok hN f3
  have nf : ∀ b ∈ fp, (upd H2 D (.dT [])) b = none := fun b hb => (f3 b hb).1.1
  rw [← hs3, ← hD]
  generalize upd H2 D (.dT []) = H3 at I3 I4 w0 nf f3
  obtain ⟨C, hC⟩ : ∃ C, C = s3.heap.objs.size := ⟨_, rfl⟩
  rw [← hC] at I4
  obtain ⟨cl, hcl⟩ : ∃ cl, cl = cellsFrom (C + 1) scope.names (cloFrom X.env.cells scope.names []) := ⟨_, rfl⟩
  rw [← hcl] at I4
  obtain ⟨s4, hs4⟩ : ∃ s4 : Shared, s4 = { s3 with heap := pushCells (s3.heap.push { cls := .type "dict", data := .dict #[] }) scope.names } := ⟨_, rfl⟩
  rw [← hs4] at I4
  have st4 : tn 0 s4.heap := T.keep _ _ _ st3 fun b _ o e => by rw [hs4]; exact pushCells_keeps _ _ _ _ (Heap.get?_push_of_some _ e)
  show codeAny _ _ (.compStart (.DictComp kx vx [⟨tg, iter, ifs, 0⟩] scope pos) 0 (.ref it) (.ref D) (compEnvC scope (cellsFrom (s3.heap.objs.size + 1) scope.names (cloFrom X.env.cells scope.names [])) s3.heap.objs.size X.env)) _ { s3 with heap := pushCells (s3.heap.push { cls := .type "dict", data := .dict #[] }) scope.names }
  rw [← hC, ← hcl, ← hs4]
  have cL : (compEnvC scope cl C X.env).locals = C := rfl
  have loop := dcT_loop (iter := iter) (R := compPost (model X.prog X.w) X.A X.xe none (EP X pins σ Q) (.ref D) C) (pos := pos) (s := s4) (m := m0) (Q := fun H => Q (.ref D) H) hc hu T (hg s3 H3 C cl fp) (ht s3 H3 C cl fp) (hk s3 H3 C cl fp) (he s3 H3 C cl fp) turn (fun s5 H5 I5 q5 => by
    have I6 : Inv X pins σ H5 s5 := I3.call' (ch := fp) I5.os I5.base I5.hok I5.bare fun b hb => ⟨(f3 b hb).1.2.2.2.1, (f3 b hb).1.2.1, (f3 b hb).1.2.2.2.2.1, (f3 b hb).1.2.2.2.2.2⟩
    have nC : H5 C = none := I5.free
    obtain ⟨m, hn, _⟩ := I5.loc
    obtain ⟨g0, g1, g2, g3, g4, g5⟩ : FpOk X pins H5 C := I3.fpOk (by rw [hC]; exact Nat.le_refl _) nC
    exact ⟨m, hn, fun h'' sb => ⟨.ref D, H5, I6.turned (t' := s5.toks) (fun b o hb e => (sb.2 b hb).trans e) g0 g1 g3 g4 g5, rfl, q5⟩⟩) I4 st4 nf w0
  exact codeAny_compStart_dict loop (T.self X.A 0 _ _ _ st4 loop)
end

/-! ### tuples that are there become data -/
section
variable {K : PySem.W.Frag} {W : Wx} {X : Er → Sls → Prop} {ρ : Sls} {P : Post}
theorem adoptT {s : Sta} {b : Addr} {xs : List V} {ds : List U} (D : Den K s) (h : s.H b = some (.tup xs)) (c : AtAll K s.G xs ds) : ∃ G', Stp s { s with G := G' } ∧ Den K { s with G := G' } ∧ At K G' (.ref b) (.tup ds) := by
  cases e : s.G b with
  | some o =>
    have := D.sub b o e
    rw [h] at this
    cases this
    exact ⟨s.G, Stp.refl s, D, .tup e c⟩
  | none =>
    have sub : Same s.G (upd s.G b (.tup xs)) := fun a u z => by
      rw [upd_ne (ne_of_none z e)]
      exact z
    refine ⟨upd s.G b (.tup xs), ⟨sub, fun _ _ h _ => h, fun _ h => h, fun _ h => .inl h, fun a n1 n2 z => ?_, fun _ d h => ⟨d, h, rfl⟩⟩, ⟨fun a u z => ?_, D.len, fun i d z => ?_, fun i sl d e1 e2 => ?_, D.dis⟩, .tup upd_same (AtAll.mono sub _ _ c)⟩
    · show upd s.G b (.tup xs) a = none
      rw [upd_ne (fun q => by
        obtain ⟨o, z1, z2⟩ := n1
        rw [q, h] at z1
        cases z1
        exact z2 _ rfl)]
      exact z
    · have z : upd s.G b (.tup xs) a = some u := z
      by_cases q : a = b
      · subst q
        rw [upd_same] at z
        cases z
        exact h
      · rw [upd_ne q] at z
        exact D.sub a u z
    · obtain ⟨v, h1, h2⟩ := D.val i d z
      exact ⟨v, h1, At.mono sub _ _ h2⟩
    · obtain ⟨a, o, h1, h2, h3, h4⟩ := D.own i sl d e1 e2
      refine ⟨a, o, h1, ?_, h3, h4.mono sub⟩
      show upd s.G b (.tup xs) a = none
      rw [upd_ne (fun q => by
        rw [q, h] at h3
        cases h3
        exact h4.notup _ rfl)]
      exact h2
/-! ### dicts whose keys are tuples, by data -/
def keyI : Key → U
  | .inl i => .int i
  | .inr z => .str z
def keysU : List U → Option (List Key)
  | [] => some []
  | d :: r => match keyU d, keysU r with
    | some k, some ks => some (k :: ks)
    | _, _ => none
def keyT : U → Option (List Key)
  | .tup ds => keysU ds
  | _ => none
theorem at_keys {G : Hp} : ∀ {ds : List U} {xs : List V} {k : List Key}, AtAll K G xs ds → keysU ds = some k → xs = k.map kV
  | [], _, _, .nil, e => by cases e; rfl
  | d :: r, _, k, .cons h t, e => by
    unfold keysU at e
    cases e1 : keyU d with
    | none => rw [e1] at e; cases e
    | some k1 =>
      cases e2 : keysU r with
      | none => rw [e1, e2] at e; cases e
      | some k2 =>
        rw [e1, e2] at e
        cases e
        rw [at_key h e1, at_keys t e2]
        rfl
theorem at_keyT {G : Hp} {v : V} {d : U} {k : List Key} (h : At K G v d) (e : keyT d = some k) : ∃ b, v = .ref b ∧ G b = some (.tup (k.map kV)) := by
  cases h <;> try cases e
  rename_i hs ha
  exact ⟨_, rfl, at_keys ha e ▸ hs⟩
theorem keys_at {G : Hp} : ∀ k : List Key, AtAll K G (k.map kV) (k.map keyI)
  | [] => .nil
  | .inl i :: k => .cons (.int i) (keys_at k)
  | .inr z :: k => .cons (.str z) (keys_at k)
theorem keysI : ∀ k : List Key, keysU (k.map keyI) = some k
  | [] => rfl
  | .inl i :: k => by
    show (match some (Sum.inl i), keysU (k.map keyI) with | some k, some ks => some (k :: ks) | _, _ => none) = _
    rw [keysI k]
  | .inr z :: k => by
    show (match some (Sum.inr z), keysU (k.map keyI) with | some k, some ks => some (k :: ks) | _, _ => none) = _
    rw [keysI k]
theorem view_dct {s : Sta} {v : V} {av : Av} {ks : List (List Key)} {xs : List U} (D : Den K s) (ok : AvOk K s s v av) (w : View s.ρ av (.dct ks xs)) : ∃ a kvs, v = .ref a ∧ s.H a = some (.dT kvs) ∧ kvs.map (·.1) = ks ∧ AtAll K s.G (kvs.map (·.2)) xs := by
  rcases view_items D ok w with h | ⟨a, o, rfl, h1, h2⟩
  · cases h with
    | dct hs ha => exact ⟨_, _, rfl, D.sub _ _ hs, rfl, ha⟩
  · cases h2 with
    | dct h2 => exact ⟨a, _, rfl, h1, rfl, h2⟩
/-- d[k], the key there -/
theorem we_dgetT {td ty : TE} {Q : Av → Sls → Prop} (h : WE K W td ρ (fun a ρ1 => WE K W ty ρ1 (fun b ρ2 => ∃ ks xs e k d, View ρ2 a.fl (.dct ks xs) ∧ b.fl = .dt e ∧ keyT e = some k ∧ valU ks xs k = some d ∧ Q (.dt d) ρ2) X) X) : WE K W (tDGet td ty) ρ Q X := by
  rintro s Q0 rfl D x k
  refine WE.flat (Q := fun a ρ1 => WE K W ty ρ1 (fun b ρ2 => ∃ ks xs e k d, View ρ2 a (.dct ks xs) ∧ b.fl = .dt e ∧ keyT e = some k ∧ valU ks xs k = some d ∧ Q (.dt d) ρ2) X) h rfl D x fun v a s1 n1 fa ok q => ?_
  show ty s.σ s1.H _
  rw [← n1.slots]
  refine WE.flat (Q := fun b ρ2 => ∃ ks xs e k d, View ρ2 a (.dct ks xs) ∧ b = .dt e ∧ keyT e = some k ∧ valU ks xs k = some d ∧ Q (.dt d) ρ2) q rfl n1.den (x.next n1.stp) fun w b s2 n2 fb ok2 ⟨ks, xs, e, ky, d, hv, eb, hk, hl, q2⟩ => ?_
  subst eb
  obtain ⟨c, kvs, rfl, e1, rfl, e2⟩ := view_dct n2.den ((AvOk.next fa n2 ok).self fa) hv
  obtain ⟨bk, rfl, ek⟩ := at_keyT (show At K s2.G w e from ok2) hk
  rcases at_valU (k := ky) e2 with ⟨_, h2⟩ | ⟨u, d2, h1, h2, h3⟩
  · rw [h2] at hl
    cases hl
  · rw [h2] at hl
    cases hl
    refine ⟨c, u, rfl, ?_, (k.lift (n1.trans n2)) u (.dt _) s2 (Nxt.refl n2.den) h3 q2⟩
    rw [← h1]
    exact DGet.t e1 (n2.den.sub _ _ ek)
theorem dct_isSome {G : Hp} {kvs : List (List Key × V)} {xs : List U} {ky : List Key} (e2 : AtAll K G (kvs.map (·.2)) xs) : (valV kvs ky).isSome = (valU (kvs.map (·.1)) xs ky).isSome := by
  rcases at_valU (k := ky) e2 with ⟨h1, h2⟩ | ⟨u, d2, h1, h2, _⟩
  · rw [h1, h2]
    rfl
  · rw [h1, h2]
    rfl
/-- k in d, k not in d -/
theorem we_dinT {td ty : TE} {Q : Av → Sls → Prop} (h : WE K W ty ρ (fun b ρ1 => WE K W td ρ1 (fun a ρ2 => ∃ ks xs e k, View ρ2 a.fl (.dct ks xs) ∧ b.fl = .dt e ∧ keyT e = some k ∧ Q (.dt (.bl (valU ks xs k).isSome)) ρ2) X) X) : WE K W (tDIn ty td) ρ Q X := by
  rintro s Q0 rfl D x k
  refine WE.flat (Q := fun b ρ1 => WE K W td ρ1 (fun a ρ2 => ∃ ks xs e k, View ρ2 a.fl (.dct ks xs) ∧ b = .dt e ∧ keyT e = some k ∧ Q (.dt (.bl (valU ks xs k).isSome)) ρ2) X) h rfl D x fun w b s1 n1 fb ok1 q => ?_
  show td s.σ s1.H _
  rw [← n1.slots]
  refine WE.flat (Q := fun a ρ2 => ∃ ks xs e k, View ρ2 a (.dct ks xs) ∧ b = .dt e ∧ keyT e = some k ∧ Q (.dt (.bl (valU ks xs k).isSome)) ρ2) q rfl n1.den (x.next n1.stp) fun v a s2 n2 fa ok2 ⟨ks, xs, e, ky, hv, eb, hk, q2⟩ => ?_
  subst eb
  obtain ⟨c, kvs, rfl, e1, rfl, e2⟩ := view_dct n2.den ok2 hv
  obtain ⟨bk, rfl, ek⟩ := at_keyT (show At K s1.G w e from ok1) hk
  refine ⟨c, valV kvs ky, rfl, DGet.t e1 (n2.den.sub _ _ (n2.stp.sub _ _ ek)), ?_⟩
  rw [dct_isSome e2]
  exact (k.lift (n1.trans n2)) _ (.dt _) s2 (Nxt.refl n2.den) (At.bl _) q2
theorem we_dnotinT {td ty : TE} {Q : Av → Sls → Prop} (h : WE K W ty ρ (fun b ρ1 => WE K W td ρ1 (fun a ρ2 => ∃ ks xs e k, View ρ2 a.fl (.dct ks xs) ∧ b.fl = .dt e ∧ keyT e = some k ∧ Q (.dt (.bl (!(valU ks xs k).isSome))) ρ2) X) X) : WE K W (tDNotIn ty td) ρ Q X := by
  rintro s Q0 rfl D x k
  refine WE.flat (Q := fun b ρ1 => WE K W td ρ1 (fun a ρ2 => ∃ ks xs e k, View ρ2 a.fl (.dct ks xs) ∧ b = .dt e ∧ keyT e = some k ∧ Q (.dt (.bl (!(valU ks xs k).isSome))) ρ2) X) h rfl D x fun w b s1 n1 fb ok1 q => ?_
  show td s.σ s1.H _
  rw [← n1.slots]
  refine WE.flat (Q := fun a ρ2 => ∃ ks xs e k, View ρ2 a (.dct ks xs) ∧ b = .dt e ∧ keyT e = some k ∧ Q (.dt (.bl (!(valU ks xs k).isSome))) ρ2) q rfl n1.den (x.next n1.stp) fun v a s2 n2 fa ok2 ⟨ks, xs, e, ky, hv, eb, hk, q2⟩ => ?_
  subst eb
  obtain ⟨c, kvs, rfl, e1, rfl, e2⟩ := view_dct n2.den ok2 hv
  obtain ⟨bk, rfl, ek⟩ := at_keyT (show At K s1.G w e from ok1) hk
  refine ⟨c, valV kvs ky, rfl, DGet.t e1 (n2.den.sub _ _ (n2.stp.sub _ _ ek)), ?_⟩
  rw [dct_isSome e2]
  exact (k.lift (n1.trans n2)) _ (.dt _) s2 (Nxt.refl n2.den) (At.bl _) q2
/-- d[k] = v in a slot of one's own -/
theorem ws_dputT {j : Nat} {ty tv : TE} (h : WE K W tv ρ (fun a ρ1 => ∃ d ρ2, Frz ρ1 [a.fl] [d] ρ2 ∧ (∃ sl ks xs, ρ2[j]? = some sl ∧ sl.cell = some (.dct ks xs)) ∧ WE K W ty ρ2 (fun b ρ3 => ∃ e k sl ks xs, b.fl = .dt e ∧ keyT e = some k ∧ ρ3[j]? = some sl ∧ sl.cell = some (.dct ks xs) ∧ ks.length < 100000 ∧ P.nx (setC ρ3 j (.dct (putKU ks k) (putXU ks xs k d)))) P.xc) P.xc) :
    WS K W (sDPut (tVar j) ty tv) ρ P := by
  rintro s D rfl d x fi
  refine WE.flat (Q := fun a ρ1 => ∃ d ρ2, Frz ρ1 [a] [d] ρ2 ∧ (∃ sl ks xs, ρ2[j]? = some sl ∧ sl.cell = some (.dct ks xs)) ∧ WE K W ty ρ2 (fun b ρ3 => ∃ e k sl ks xs, b.fl = .dt e ∧ keyT e = some k ∧ ρ3[j]? = some sl ∧ sl.cell = some (.dct ks xs) ∧ ks.length < 100000 ∧ P.nx (setC ρ3 j (.dct (putKU ks k) (putXU ks xs k d)))) P.xc) h rfl d x fun v a s1 n1 fa ok ⟨z, ρ2, hf, hc, q⟩ => ?_
  obtain ⟨s2, e1, e2, n2, hz⟩ := frz1 hf fa n1.den ok
  subst e1
  obtain ⟨sl, ks, xs, c1, c2⟩ := hc
  obtain ⟨b, o, e3, e4, e5, e6⟩ := n2.den.own j sl _ c1 c2
  have n12 := n1.trans n2
  have eσ : s.σ[j]? = some (some (.ref b)) := by rw [← n12.slots]; exact e3
  refine ⟨.ref b, eσ, ?_⟩
  rw [← e2, ← n12.slots]
  refine WE.flat (Q := fun b ρ3 => ∃ e k sl ks xs, b = .dt e ∧ keyT e = some k ∧ ρ3[j]? = some sl ∧ sl.cell = some (.dct ks xs) ∧ ks.length < 100000 ∧ P.nx (setC ρ3 j (.dct (putKU ks k) (putXU ks xs k z)))) q rfl n2.den (x.next n12.stp) fun w bv s3 n3 fb ok3 ⟨e, ky, sl', ks', xs', eb, hk, c3, c4, c5, q3⟩ => ?_
  subst eb
  obtain ⟨bk, rfl, ek⟩ := at_keyT (show At K s3.G w e from ok3) hk
  obtain ⟨b', o', e7, e8, e9, e10⟩ := n3.den.own j sl' _ c3 c4
  have e7' : s3.σ[j]? = some (some (.ref b)) := by rw [n3.slots]; exact e3
  rw [e7'] at e7
  cases e7
  cases e10 with
  | dct hx =>
    rename_i kvs
    refine ⟨b, _, rfl, DPut.t e9 (n3.den.sub _ _ ek) (Nat.lt_of_lt_of_le (by rw [← List.length_map (f := (·.1))]; exact c5) (by decide)), ?_⟩
    have nw := cell_write (o' := .dT (putK kvs ky v)) (d' := .dct (putKU (kvs.map (·.1)) ky) (putXU (kvs.map (·.1)) xs' ky z)) n3.den c3 c4 e7' e9 (putK_names kvs ky v ▸ .dct (putK_at (At.mono n3.stp.sub _ _ hz) hx))
    have := fi.nx _ (n12.stp.trans (n3.stp.trans nw.stp)) nw.den q3
    rw [show ({ s3 with ρ := setC s3.ρ j (.dct (putKU (kvs.map (·.1)) ky) (putXU (kvs.map (·.1)) xs' ky z)), H := upd s3.H b (.dT (putK kvs ky v)) } : Sta).σ = s2.σ from n3.slots] at this
    exact this
end

/-! ### sorted of such a dict; a comprehension that makes one -/
section
variable {K : PySem.W.Frag} {W : Wx} {X : Er → Sls → Prop} {ρ : Sls} {P : Post}
def keyDs (k : List Key) : PyData := .tuple (k.map keyD)
def sortT (ks : List (List Key)) : List (List Key) := ks.mergeSort (PySem.W.dataLe false keyDs)
def tupU (k : List Key) : U := .tup (k.map keyI)
theorem sortT_of (kvs : List (List Key × V)) : (kvs.mergeSort leT).map (·.1) = sortT (kvs.map (·.1)) := PySem.W.sort_maps (fun p : List Key × V => p.1) fun _ _ _ _ => rfl
theorem adoptTs : ∀ {bs : List Addr} {qs : List (List Key × V)} {s : Sta}, Den K s → PySem.W.EachIs (fun b q => s.H b = some (.tup (q.1.map kV))) bs qs → ∃ G', Stp s { s with G := G' } ∧ Den K { s with G := G' } ∧ AtAll K G' (bs.map V.ref) (qs.map fun q => tupU q.1)
  | _, _, s, D, .nil => ⟨s.G, Stp.refl s, D, .nil⟩
  | b :: bs, q :: qs, s, D, .cons h t => by
    obtain ⟨G1, n1, D1, a1⟩ := adoptT D h (keys_at q.1)
    obtain ⟨G2, n2, D2, a2⟩ := adoptTs (s := { s with G := G1 }) D1 t
    exact ⟨G2, n1.trans n2, D2, .cons (At.mono n2.sub _ _ a1) a2⟩
theorem wc_sortedT {a : Av} {ks : List (List Key)} {xs : List U} {Q : Av → Sls → Prop} (ha : View ρ a (.dct ks xs)) (ht : ∀ k ∈ ks, TxtKey k) (q : Q (.own (.lst ((sortT ks).map tupU))) ρ) : WC K W rSortedT [a] ρ Q X := by
  rintro s vs Q0 rfl D _ h k
  obtain ⟨v, rfl, hv⟩ := avs_one h
  obtain ⟨c, kvs, rfl, e1, rfl, e2⟩ := view_dct D hv ha
  refine ⟨c, kvs, rfl, e1, fun p hp => ht _ (List.mem_map_of_mem hp), fun p bs hp hb => ?_⟩
  obtain ⟨G1, n1, D1, a1⟩ := adoptTs D hb
  refine (k.lift (s1 := { s with G := G1 }) ⟨n1, D1, rfl⟩).new (d := .lst ((sortT (kvs.map (·.1))).map tupU)) D1 hp (.lst ?_) q
  rw [← sortT_of, List.map_map]
  exact a1
section
variable {J : It} {n : Nat} {Gd : Hp → Prop} {Y : Nat → Hp → V → Hp → Prop}
theorem dcT_it (w : Walk J n Gd Y) {g : TG} {tt : TT} {tk tv : TE} {vs : List Nat} {σ : L2.St} {H1 : Hp} {D : Addr} {Qd : Hp → Prop} (Pv : Nat → Hp → Prop) (h0 : Pv 0 (upd H1 D (.dT []))) (hG : ∀ i H, i ≤ n → Pv i H → Gd H)
    (hs : ∀ i x H H', i < n → Pv i H → Y i H x H' → g x (wipe σ vs) H' fun σ2 H2 => wipe σ2 vs = wipe σ vs ∧ tt σ2 H2 fun b H3 =>
      if b = true then tk σ2 H3 fun y H4 => tv σ2 H4 fun z H5 => PutT D (Pv (i + 1)) y z H5 else Pv (i + 1) H3) (hd : ∀ H, Pv n H → Qd H) :
    ∃ W : Nat → Nat → Hp → Prop, (∃ m, W 0 m (upd H1 D (.dT []))) ∧ ∀ i m H, W i m H →
      (J.stop i H ∧ Qd H) ∨ (J.go i H ∧ ∃ Nx : Hp → Prop, (∀ H', Nx H' → ∃ m', m' < m ∧ W (i + 1) m' H') ∧ ∀ x H', J.yld i H x H' → g x (wipe σ vs) H' fun σ2 H2 => wipe σ2 vs = wipe σ vs ∧ tt σ2 H2 fun b H3 =>
        if b = true then tk σ2 H3 fun y H4 => tv σ2 H4 fun z H5 => PutT D Nx y z H5 else Nx H3) := by
  refine ⟨fun i m H => m + i = n ∧ Pv i H, ⟨n, rfl, h0⟩, fun i m H ⟨e, p⟩ => ?_⟩
  have q := hG i H (by omega) p
  rcases Nat.lt_or_ge i n with lt | ge
  · exact .inr ⟨w.goes i H lt q, Pv (i + 1), fun H' p' => ⟨m - 1, by omega, by omega, p'⟩, fun x H' y => hs i x H H' lt p (w.yields i H x H' lt q y)⟩
  · obtain rfl : i = n := by omega
    exact .inl ⟨w.stops H q, hd H p⟩
end
theorem putK_len {κ : Type} [DecidableEq κ] (kvs : List (κ × V)) (k : κ) (v : V) : (putK kvs k v).length ≤ kvs.length + 1 := by
  have := length_putK kvs k v
  omega
theorem mix_back {s s1 s' : Sta} {vs : List Nat} {Hw : Hp} (n1 : Nxt K s s1) (stw : Stp s1 { s1 with H := Hw, ρ := wipeE s1.ρ vs, σ := wipe s1.σ vs }) (st : Stp s1 s') (d' : Den K s') (eσ : s'.σ = wipe s1.σ vs) :
    Nxt K s ⟨s'.G, mixE s1.ρ s'.ρ vs, s1.σ, s'.H⟩ ∧ ∀ {i a}, OwnAt ⟨s'.G, mixE s1.ρ s'.ρ vs, s1.σ, s'.H⟩ i a → OwnAt s' i a := by
    have out : ∀ {i : Nat}, i ∉ vs → s'.σ[i]? = s1.σ[i]? := fun {i} hi => by rw [eσ]; exact wipe_out hi
    have f : ∀ {i a}, OwnAt ⟨s'.G, mixE s1.ρ s'.ρ vs, s1.σ, s'.H⟩ i a → OwnAt s' i a := fun {i a} ⟨⟨sl, z, e1, e2⟩, e3⟩ => by
      rcases mix_get e1 with ⟨m, rfl⟩ | ⟨m, e⟩
      · exfalso
        unfold keepV at e2
        split at e2 <;> cases e2
      · exact ⟨⟨sl, z, e, e2⟩, (out m).trans e3⟩
    refine ⟨n1.trans ⟨⟨st.sub, st.fr, st.dom, fun a ⟨i, h⟩ => st.own a ⟨i, f h⟩, st.gfr, fun i z e => ?_⟩, ⟨d'.sub, ?_, fun i z e => ?_, fun i sl z e1 e2 => ?_, fun i j a h1 h2 => d'.dis i j a (f h1) (f h2)⟩, rfl⟩, f⟩
    · obtain ⟨y, h1, h2⟩ := st.bor i z e
      refine ⟨y, ?_, rfl⟩
      cases q : (mixE s1.ρ s'.ρ vs)[i]? with
      | none =>
        rw [List.getElem?_eq_none_iff, mix_length] at q
        have := lt_of_get h1
        omega
      | some w =>
        rcases mix_get q with ⟨m, _⟩ | ⟨m, e'⟩
        · exfalso
          have hw : ∀ vs : List Nat, i ∈ vs → ∀ (ρ : Sls) (w : U), (wipeE ρ vs)[i]? ≠ some (.bor w) := by
            intro vs
            induction vs with
            | nil => intro h; cases h
            | cons v vs ih =>
              intro h ρ w e
              rcases get_set (show ((wipeE ρ vs).set v .un)[i]? = some (.bor w) from e) with ⟨_, e, _⟩ | ⟨n, e⟩
              · cases e
              · rcases List.mem_cons.mp h with h | h
                · exact n h
                · exact ih h ρ w e
          obtain ⟨y2, h3, _⟩ := stw.bor i z e
          exact hw vs m s1.ρ y2 h3
        · rw [h1] at e'
          exact congrArg some (Option.some.inj e').symm
    · show s1.σ.length = (mixE s1.ρ s'.ρ vs).length
      rw [mix_length, ← d'.len, eσ, wipe_length]
    · rcases mix_get e with ⟨m, h⟩ | ⟨m, h⟩
      · have h : keepV s1.ρ[i]? = .val z := h.symm
        cases q : s1.ρ[i]? with
        | none => rw [q] at h; cases h
        | some w =>
          rw [q] at h
          cases w with
          | val y =>
            cases h
            obtain ⟨v, h1, h2⟩ := n1.den.val i _ q
            exact ⟨v, h1, At.mono st.sub _ _ h2⟩
          | _ => cases h
      · obtain ⟨v, h1, h2⟩ := d'.val i z h
        exact ⟨v, (out m).symm.trans h1, h2⟩
    · rcases mix_get e1 with ⟨m, rfl⟩ | ⟨m, h⟩
      · exfalso
        unfold keepV at e2
        split at e2 <;> cases e2
      · obtain ⟨a, o, h1, h2⟩ := d'.own i sl z h e2
        exact ⟨a, o, (out m).symm.trans h1, h2⟩
theorem we_dcT {wi : TI} {g : TG} {tt : TT} {tk tv : TE} {vs : List Nat} {Q : Av → Sls → Prop} (h : WI K W wi ρ (fun ds ρ1 => nbs ρ1 vs = true ∧ ds.length ≤ 1000 ∧ ∃ Iv : Nat → List (List Key) → List U → Sls → Prop, Iv 0 [] [] (wipeE ρ1 vs) ∧
    (∀ (k : Nat) (d : U) (ks : List (List Key)) (xs : List U) (ρ2 : Sls), ds[k]? = some d → Iv k ks xs ρ2 → WG K g vs d ρ2 (fun ρ3 => WT K W tt ρ3 (fun b ρ4 => if b = true then
        WE K W tk ρ4 (fun a ρ5 => ∃ e ky, a.fl = .dt e ∧ keyT e = some ky ∧ WE K W tv ρ5 (fun c ρ6 => ∃ d' ρ7, Frz ρ6 [c.fl] [d'] ρ7 ∧ nbs ρ7 vs = true ∧ Iv (k + 1) (putKU ks ky) (putXU ks xs ky d') (wipeE ρ7 vs)) X) X
      else nbs ρ4 vs = true ∧ Iv (k + 1) ks xs (wipeE ρ4 vs)) X)) ∧
    ∀ ks xs ρ2, Iv ds.length ks xs ρ2 → Q (.own (.dct ks xs)) (mixE ρ1 ρ2 vs)) X) : WE K W (tDcT wi g tt tk tv vs) ρ Q X := by
  rintro s Q0 rfl D x k
  refine h s _ rfl D x fun J ds s1 n1 ⟨Gd, Y, w, hG, hY⟩ ⟨hnb, h1000, Iv, i0, step, fin⟩ => ?_
  intro p hp
  have nL := lay (o := .dT []) n1.den hp
  obtain ⟨sw, dw⟩ := wipe_all (s := { s1 with H := upd s1.H p (.dT []) }) nL.den hnb
  have stw := nL.stp.trans sw
  obtain ⟨g0, o0⟩ := n1.den.free hp
  have ow : ¬ Owns { s1 with H := upd s1.H p (.dT []), ρ := wipeE s1.ρ vs, σ := wipe s1.σ vs } p := fun h => by
    rcases sw.own p h with h | h
    · exact o0 h
    · have h : upd s1.H p (.dT []) p = none := h
      rw [upd_same] at h
      cases h
  rw [← n1.slots]
  refine dcT_it w (fun k H => ∃ s' kvs xs, s'.H = H ∧ s'.σ = wipe s1.σ vs ∧ Stp s1 s' ∧ Den K s' ∧ s'.H p = some (.dT kvs) ∧ AtAll K s'.G (kvs.map (·.2)) xs ∧ s'.G p = none ∧ ¬ Owns s' p ∧ kvs.length ≤ k ∧ Iv k (kvs.map (·.1)) xs s'.ρ)
    ⟨{ s1 with H := upd s1.H p (.dT []), ρ := wipeE s1.ρ vs, σ := wipe s1.σ vs }, [], [], rfl, rfl, stw, dw, upd_same, .nil, g0, ow, Nat.le_refl _, i0⟩ ?_ ?_ ?_
  · rintro i H _ ⟨s', xs, acc, rfl, _, st, d', _⟩
    exact hG s' st d'
  · rintro i x' H H' hi ⟨s', kvs, xs, rfl, eσ, st, d', hD, hx, hg, ho, hl, inv⟩ y
    obtain ⟨s2, dd, e1, e2, n2, e3, e4⟩ := hY i x' s' H' hi st d' y
    have eσ2 : s2.σ = wipe s1.σ vs := n2.slots.trans eσ
    rw [← e2, ← eσ2]
    have st2 := st.trans n2.stp
    obtain ⟨hD2, hg2, ho2⟩ := n2.stp.temp hD hg ho
    refine step i dd _ xs s'.ρ e3 inv s2 x' _ e1 n2.den e4 fun s3 n3 D3 k3 l3 q3 => ?_
    have ew : wipe s3.σ vs = wipe s1.σ vs := (wipe_ext k3 l3).trans (by rw [eσ2]; exact wipe_idem)
    have st3 := st2.trans n3
    obtain ⟨hD3, hg3, ho3⟩ := n3.temp hD2 hg2 ho2
    have hx3 := AtAll.mono (n2.stp.sub.trans n3.sub) _ _ hx
    refine ⟨ew.trans eσ2.symm, q3 s3 _ rfl D3 ((x.next n1.stp).next st3) fun b s4 n4 q4 => ?_⟩
    obtain ⟨hD4, hg4, ho4⟩ := n4.stp.temp hD3 hg3 ho3
    have st4 := st3.trans n4.stp
    have hx4 := AtAll.mono n4.stp.sub _ _ hx3
    cases b with
    | true =>
      refine iteT ?_
      rw [← n4.slots]
      have q4 : WE K W tk s4.ρ (fun a ρ5 => ∃ e ky, a.fl = .dt e ∧ keyT e = some ky ∧ WE K W tv ρ5 (fun c ρ6 => ∃ d' ρ7, Frz ρ6 [c.fl] [d'] ρ7 ∧ nbs ρ7 vs = true ∧ Iv (i + 1) (putKU (kvs.map (·.1)) ky) (putXU (kvs.map (·.1)) xs ky d') (wipeE ρ7 vs)) X) X := by simpa using q4
      refine WE.flat (Q := fun a ρ5 => ∃ e ky, a = .dt e ∧ keyT e = some ky ∧ WE K W tv ρ5 (fun c ρ6 => ∃ d' ρ7, Frz ρ6 [c.fl] [d'] ρ7 ∧ nbs ρ7 vs = true ∧ Iv (i + 1) (putKU (kvs.map (·.1)) ky) (putXU (kvs.map (·.1)) xs ky d') (wipeE ρ7 vs)) X) q4 rfl n4.den ((x.next n1.stp).next st4) fun u a s5 n5 fa ok5 ⟨e, ky, ea, hk, q5⟩ => ?_
      subst ea
      obtain ⟨bk, rfl, ek⟩ := at_keyT (show At K s5.G u e from ok5) hk
      have st5 := st4.trans n5.stp
      rw [← n5.slots]
      refine WE.flat (Q := fun c ρ6 => ∃ d' ρ7, Frz ρ6 [c] [d'] ρ7 ∧ nbs ρ7 vs = true ∧ Iv (i + 1) (putKU (kvs.map (·.1)) ky) (putXU (kvs.map (·.1)) xs ky d') (wipeE ρ7 vs)) q5 rfl n5.den ((x.next n1.stp).next st5) fun u2 c s6 n6 fc ok6 ⟨d1, ρ7, hf, hn7, inv7⟩ => ?_
      obtain ⟨s7, e7, e8, n7, hu⟩ := frz1 hf fc n6.den ok6
      have n57 := n5.trans (n6.trans n7)
      obtain ⟨hD7, hg7, ho7⟩ := n57.stp.temp hD4 hg4 ho4
      have hx7 := AtAll.mono n57.stp.sub _ _ hx4
      rw [← e8]
      refine ⟨kvs, ky, bk, rfl, n7.den.sub _ _ ((n6.trans n7).stp.sub _ _ ek), hD7, small1000 (by omega), ?_⟩
      obtain ⟨st8, d8⟩ := poke (o := .dT (putK kvs ky u2)) (st4.trans n57.stp) n57.den hp hD7 hg7 ho7
      obtain ⟨sw8, dw8⟩ := wipe_all (s := { s7 with H := upd s7.H p (.dT (putK kvs ky u2)) }) (vs := vs) d8 (by show nbs s7.ρ vs = true; rw [e7]; exact hn7)
      refine ⟨{ s7 with H := upd s7.H p (.dT (putK kvs ky u2)), ρ := wipeE s7.ρ vs, σ := wipe s7.σ vs }, _, putXU (kvs.map (·.1)) xs ky d1, rfl, ?_, st8.trans sw8, dw8, upd_same, putK_at hu hx7, hg7, fun h => ?_, by have := putK_len kvs ky u2; omega, ?_⟩
      · show wipe s7.σ vs = _
        rw [n57.slots, n4.slots]
        exact ew.trans eσ2.symm
      · rcases sw8.own p h with h | h
        · exact ho7 h
        · have h : upd s7.H p (.dT (putK kvs ky u2)) p = none := h
          rw [upd_same] at h
          cases h
      · show Iv _ _ _ (wipeE s7.ρ vs)
        rw [e7, putK_names]
        exact inv7
    | false =>
      refine iteF ?_
      obtain ⟨hn4, inv4⟩ : nbs s4.ρ vs = true ∧ Iv (i + 1) (kvs.map (·.1)) xs (wipeE s4.ρ vs) := by simpa using q4
      obtain ⟨sw4, dw4⟩ := wipe_all n4.den hn4
      refine ⟨{ s4 with ρ := wipeE s4.ρ vs, σ := wipe s4.σ vs }, kvs, xs, rfl, ?_, st4.trans sw4, dw4, hD4, hx4, hg4, (sw4.temp hD4 hg4 ho4).2.2, by omega, inv4⟩
      show wipe s4.σ vs = _
      rw [n4.slots]
      exact ew.trans eσ2.symm
  · rintro H ⟨s', kvs, xs, rfl, eσ, st, d', hD, hx, hg, ho, hl, inv⟩
    obtain ⟨n2, f⟩ := mix_back n1 stw st d' eσ
    exact k (.ref p) (.own (.dct (kvs.map (·.1)) xs)) ⟨s'.G, mixE s1.ρ s'.ρ vs, s1.σ, s'.H⟩ n2 ⟨p, .dT kvs, rfl, hD, hg, .dct hx, fun ⟨i, h⟩ => ho ⟨i, f h⟩, .inl (n1.stp.dom p hp)⟩ (fin _ _ _ inv)
end

/-! ### for .. in d.items(), d's keys tuples of texts, d locked -/
def Itit (d : Addr) (o : Obj) (kvs : List (List Key × V)) : It :=
  ⟨fun i H => H d = some (.frz o (.dT kvs)) ∧ i < kvs.length, fun i H x H' => ∃ T k v q, kvs[i]? = some (k, v) ∧ x = .ref T ∧ H q = some (.tup (k.map kV)) ∧ H T = none ∧ H' = upd H T (.tup [.ref q, v]), fun i H => H d = some (.frz o (.dT kvs)) ∧ kvs.length ≤ i⟩
theorem frzT2 {X : Cx} {pins : List (Addr × Obj)} {σ : L2.St} {H : Hp} {s : Shared} {d : Addr} {o : Obj} {kvs : List (List Key × V)} (I : Inv X pins σ H s) (h : H d = some (.frz o (.dT kvs))) :
    (d == sysModules) = false ∧ s.heap.get? d = some o ∧ o.ExactDict ∧ ∃ (es : Array DictEntry) (ep : Nat), o.data = .dict es ep ∧ es.size = kvs.length ∧
      ∀ (i : Nat) (k : List Key) (v : V), kvs[i]? = some (k, v) → ∃ (en : DictEntry) (q : Addr), es[i]? = some en ∧ en.key = .ref q ∧ H q = some (.tup (k.map kV)) ∧ RelV v en.val := by
  obtain ⟨hd, z, hs, xs, pr, o', es, ep, ho, hx, hdt, he, _⟩ := I.hok d _ h
  rw [hd] at ho
  cases ho
  refine ⟨hs, hd, hx, es, ep, hdt, ?_, fun i k v e => ?_⟩
  · have l1 : es.size = xs.length := size_of_entries he
    have l2 : kvs.length = xs.length := Paired.length pr
    omega
  · obtain ⟨b, hb, e1, e2, e3⟩ := paired_get pr e
    have q := entry_at he i
    rw [hb] at q
    exact ⟨_, b.2.1, q, rfl, e2, e3⟩
theorem turn_itemsT {P : Program} {w : World} {K : PySem.W.Frag} {d : Addr} {o : Obj} {es : Array DictEntry} {ep : Nat} {kvs : List (List Key × V)} {elts : List Expr} {kk : Nat} {tpos : Pos} (it : Addr) (hod : o.data = .dict es ep) :
    Turn P w K (.Tuple elts kk tpos) (Itit d o kvs) [it] it (fun i h => ∃ ok ov, IsItemIter h it d i kvs.length ep ok ov) where
  mem := by simp
  obj := fun i h st b hb => by
    have e : b = it := by simpa using hb
    subst e
    obtain ⟨ok, ov, e⟩ := st
    exact ⟨_, e, fun v z => nomatch z⟩
  keep := fun i h h' st k => let ⟨ok, ov, e⟩ := st; ⟨ok, ov, k it (by simp) _ e⟩
  item := by
    intro X hP hw hK hc i pins s σ H E I hf st hg
    subst hP hw hK
    obtain ⟨hd, hi⟩ := hg
    obtain ⟨hs, hgd, hx, es', ep', hdt, hsz, ent⟩ := frzT2 I hd
    obtain ⟨rfl, rfl⟩ := dict_ep hod hdt
    obtain ⟨⟨k, v⟩, hkv⟩ : ∃ p, kvs[i]? = some p := ⟨kvs[i], List.getElem?_eq_getElem hi⟩
    obtain ⟨en, q, hen, hkey, hq, hv⟩ := ent i k v hkv
    obtain ⟨ok, ov, he⟩ := st
    rw [← hsz] at he
    have hlt : it < s.heap.objs.size := Heap.lt_size he
    have hie : i < es'.size := by omega
    have een : es'[i] = en := by
      rw [Array.getElem?_eq_getElem hie] at hen
      exact Option.some.inj hen
    refine DT.nextI he ⟨o, hgd, hx, hdt⟩ hie fun h' ho hT hz hk => ?_
    rw [een] at ho hT
    refine ⟨_, rfl, wpAny_letOwnedTupleGo_items (s := { s with heap := h' }) ho fun h'' he' sb => ?_⟩
    have hT2 : h''.get? s.heap.objs.size = some { cls := .type "tuple", data := .seq #[en.key, en.val] } := (sb.2 _ (Nat.ne_of_gt hlt)).trans hT
    have new : ObjOk X.prog X.w (upd H s.heap.objs.size (.tup [.ref q, v])) h'' s.heap.objs.size (.tup [.ref q, v]) :=
      ⟨by show 2 ≤ sizeLine; decide, [en.key, en.val], .cons hkey (.cons hv .nil), ⟨_, hT2, rfl, _, rfl⟩⟩
    have I1 : Inv X pins σ (upd H s.heap.objs.size (.tup [.ref q, v])) { s with heap := h'' } :=
      I.turnedNew (t' := s.toks) (ch := [it]) (fun b ob hb e => (sb.2 b (by simpa using hb)).trans (hk b ob (by simpa using hb) e)) hf (Nat.le_refl _) new
    refine ⟨.ref s.heap.objs.size, _, I1, rfl, ⟨_, k, v, q, hkv, rfl, hq, I.hok.fresh (Nat.le_refl _), rfl⟩, ⟨en.key, en.val, ?_⟩, fun b hb => ?_⟩
    · rw [← hsz]; exact he'
    · have e : b = it := by simpa using hb
      rw [e, upd_ne (Nat.ne_of_lt hlt)]
      exact (hf it (by simp)).1
  done := by
    intro X hP hw hK hc i pins s σ H E I hf st hg
    subst hP hw hK
    obtain ⟨hd, hi⟩ := hg
    obtain ⟨f0, f1, f2, f3, f4, f5⟩ := hf it (by simp)
    obtain ⟨hs, hgd, hx, es', ep', hdt, hsz, ent⟩ := frzT2 I hd
    obtain ⟨rfl, rfl⟩ := dict_ep hod hdt
    obtain ⟨ok, ov, he⟩ := st
    rw [← hsz] at he
    exact DT.endI (I.ok.hd hc) he ⟨o, hgd, hx, hdt⟩ (by omega) fun h' eb => ⟨rfl, I.turned (t' := s.toks) (fun b ob hb e => eb b ob hb e) f0 f1 f3 f4 f5⟩
  self := fun A i s Q E st h => let ⟨_, _, e⟩ := st; PySem.W.kcp_self e h
def iItemsT (td : TE) : TI := fun σ H R => td σ H fun x H1 => ∃ d o kvs, x = .ref d ∧ H1 d = some (.frz o (.dT kvs)) ∧ R (Itit d o kvs) H1
theorem pi_itemsT {X : Cx} {e : Expr} {td : TE} {apos cpos : Pos} {elts : List Expr} {kk : Nat} {tpos : Pos} (he : PE X e td) (hbase : attributeBase e "items" X.env (eval e X.env) = eval e X.env := by rfl) (hline : (apos.endLine == cpos.line) = true := by rfl) :
    PI X (.Tuple elts kk tpos) (.Call (.Attribute e "items" apos) [] [] cpos) (iItemsT td) := by
  refine ⟨fun pins s σ H R I h => ?_⟩
  refine wpAny_Call_method (T := "dict") (id := "dict.items") hbase rfl hline PySem.F.plainAttrs_dict PySem.F.slot_dict_items PySem.F.type_dict_items (thn (he.run pins s σ H _ I h) fun u s1 ⟨x, H1, I1, rx, d, o, kvs, ex, hd, q⟩ => ?_)
  subst ex
  obtain rfl : u = Value.ref d := rx
  obtain ⟨hs, hgd, hx, es, ep, hdt, hsz, ent⟩ := frzT2 I1 hd
  have raw : DT.Raw s1.heap d es ep := ⟨o, hgd, hx, hdt⟩
  refine ⟨raw.typeIs, fun a ea => (by cases ea; exact ⟨o, hgd, hx.2.1⟩), ?_⟩
  have I2 : Inv X pins σ H1 { s1 with heap := s1.heap.push { cls := .type "dict_items", data := .fields #[.ref d] } } := I1.kept (t' := s1.toks) fun b ob q => Heap.get?_push_of_some _ q
  have fin : wpAny (model X.prog X.w) X.A (pyIter (.ref s1.heap.objs.size)) (PIE X pins σ (.Tuple elts kk tpos) R) X.xe { s1 with heap := s1.heap.push { cls := .type "dict_items", data := .fields #[.ref d] } } := by
    refine DT.iterI (d := d) ⟨_, Heap.get?_push_size _ rfl, rfl, rfl⟩ (raw.push _) (pi_one (tk := s1.toks) I2 _ (turn_itemsT _ hdt) ⟨.none, .none, ?_⟩ q)
    rw [← hsz]
    exact Heap.get?_push_size _ rfl
  show wpAny _ _ (callWith cpos (.builtin "dict.items") [.ref d] [] []) _ X.xe s1
  exact method_meetsIn PySem.F.slot_dict_items PySem.F.entry_dict_items rfl (PySem.evalArgs_none ⟨rfl, raw.typeIs, PySem.F.args_dict_items_1 _, _, DT.meetsItems (es := es) (ep := ep) hs, raw, fin⟩)

/-! ### own error classes over any built-in one: a field is stored -/
structure OexG (K : PySem.W.Frag) (C : Addr) : Prop where
  base : ∃ (B nI iI : String) (bm : List Value), ExcBaseFacts B nI iI bm ∧ StoreFacts B bm "object.__setattr__" "object" ∧ PySem.W.excInitIn K C bm nI = true ∧ PySem.W.excOver K C bm = true
  hd : PySem.W.hasDictIn K C = true
  sa : PySem.W.findIn K (.ref C) "__setattr__" = some (some (.builtin "object.__setattr__"))
  ex : PySem.W.subIn K (.ref C) (.type "BaseException") = some true
  ty : PySem.W.typeIn K (.ref C) = some (.type "type")
  kp : PySem.W.keepIn K (.ref C) = true
section
variable {X : Cx} {pins : List (Addr × Obj)} {σ : L2.St} {H : Hp} {s : Shared} {a C : Addr} {f : Str} {y : V} {u : Value} {Q : Unit → Shared → Prop} {E : Value → Shared → Prop} {A : Around}
open Builtin Builtin.ObjectAttr in
theorem store_first (T : OexG X.K C) (I : L2.Inv X pins σ H s) (ea : H a = some (exo a C none)) (hno : PySem.W.findIn X.K (.ref C) f = some none) (ry : RelV y u)
    (go : ∀ dn s2, H dn = none → dn ≠ a → L2.Inv X pins σ (upd (upd H dn (exd dn [(f, y)])) a (exo a C (some dn))) s2 → Q () s2) : wpAny (model X.prog X.w) A (setAttr (.ref a) f u) Q E s := by
  obtain ⟨B, nI, iI, bm, FB, SF, q1, q2⟩ := T.base
  obtain ⟨tp, hx⟩ := exo_at I.hok ea
  obtain ⟨cd, hcd, hdic⟩ : ∃ cd, PySem.W.clsIn X.K C = some cd ∧ cd.hasDict = true := PySem.W.any_some T.hd
  obtain ⟨h0, gs, dr, tk, os⟩ := s
  have J : PySem.W.InstAt h0 a { cls := .ref C, dict := none, data := .fields #[.ref tp, .none, .none, .none, .bool false, .none] } C none := ⟨hx, rfl, rfl, trivial⟩
  have nD : H h0.objs.size = none := I.hok.fresh (Nat.le_refl _)
  have far : a ≠ h0.objs.size := Nat.ne_of_lt (Heap.lt_size hx)
  have oldA : ∀ {b : Addr}, H b = none → b ≠ a := fun e z => by rw [z, ea] at e; cases e
  have oldD : ∀ {b : Addr} {w : Obj}, h0.get? b = some w → b ≠ h0.objs.size := fun e => Nat.ne_of_lt (Heap.lt_size e)
  -- what is tracked stays, the error and its dict are new
  have other : ∀ {b : Addr} {o : HO}, H b = some o → (∀ d, exo a C d ≠ o) → upd (upd H h0.objs.size (exd h0.objs.size [(f, y)])) a (exo a C (some h0.objs.size)) b = some o := fun {b o} e ne => by
    rw [upd_ne (fun z => ne none (by rw [z, ea] at e; exact Option.some.inj e)), upd_ne (ne_of_none e nD)]
    exact e
  have made : ∀ (h2 : Heap) {tk2 : Nat}, (∀ b w, b ≠ a → h0.get? b = some w → h2.get? b = some w) →
      h2.get? a = some ({ cls := .ref C, dict := some h0.objs.size, data := .fields #[.ref tp, .none, .none, .none, .bool false, .none] } : Obj) →
      h2.Ns1 h0.objs.size (fun z => if z = f then some u else none) → Q () ⟨h2, gs, dr, tk2, os⟩ := fun h2 tk2 stay now n1 => by
    refine go h0.objs.size _ nD (Ne.symm far) (I.un (t' := tk2) ⟨fun b w e n _ _ => stay b w (oldA n) e, fun b w e n _ _ => ⟨w.slots, stay b w (oldA n) e⟩, fun b w e n _ => ?_, fun b w e _ => ?_, fun b xs e => other e fun _ => exo_tup, fun b w v e => other e fun _ => exo_frz, fun b ps e => ⟨#[], ?_⟩⟩ fun b o e => ?_)
    · rw [upd_ne (oldA n), upd_ne (oldD e)]
      exact n
    · by_cases z : b = a
      · rw [z]
        exact ⟨_, now⟩
      · exact ⟨w, stay b w z e⟩
    · rw [Array.append_empty]
      exact other e fun _ => exo_tbl
    · by_cases z : b = a
      · subst z
        rw [upd_same] at e
        cases e
        exact exo_ok now
      · rw [upd_ne z] at e
        by_cases z2 : b = h0.objs.size
        · subst z2
          rw [upd_same] at e
          cases e
          exact exd_ok n1 (relO_put (fs := []) ry fun _ => trivial)
        · rw [upd_ne z2] at e
          refine (I.hok b o e).stay (fun c w hc g => stay c w (fun q => ?_) g) (fun c hc => other hc fun _ => exo_own) fun c xs hc => other hc fun _ => exo_tup
          rcases hc with hc | hc
          · exact z (hc ▸ q)
          · rw [q, ea] at hc
            exact exo_own (Option.some.inj hc)
  refine PySem.W.set_plain I.kIn J T.sa (PySem.W.osa_openX SF I.kIn J q2 (r := none) (by unfold PySem.W.takerIn; rw [hno]; rfl) fun onType => ?_)
  have look : PySem.W.Looks (model X.prog X.w) h0 (classData C) cd := PySem.W.looks_clsIn I.kIn hcd
  obtain ⟨nm, bs, mro, ns, qn, hd, sn, sb, ab, col, del⟩ := cd
  obtain rfl : hd = true := hdic
  show wpAny _ _ (storeInOwnDict _ _ _ _ _ onType) _ _ _
  unfold storeInOwnDict ownDictForStores
  repeat (first
    | with_reducible refine wpAny_loadPart_at hx ?_
    | with_reducible refine look.at ?_
    | with_reducible refine PySem.HandSPX.store_in_new ?_ ?_
    | wp_step)
  · exact ⟨_, #[], _, (Heap.get?_update_ne _ _ _ _ (Ne.symm far)).trans (Heap.get?_push_at rfl rfl), rfl, fun en hen => absurd hen (by simp), fun _ => rfl⟩
  intro h2 tk2 n1 same
  have hxp : (h0.push { cls := .type "dict", data := .dict #[] }).get? a = some ({ cls := .ref C, data := .fields #[.ref tp, .none, .none, .none, .bool false, .none] } : Obj) := Heap.get?_push_of_some _ hx
  have stay : ∀ b w, b ≠ a → h0.get? b = some w → h2.get? b = some w := fun b w nb e =>
    (same.2 b (Nat.ne_of_lt (Heap.lt_size e))).trans ((Heap.get?_update_ne _ _ _ _ nb).trans (Heap.get?_push_of_some _ e))
  have now : h2.get? a = some ({ cls := .ref C, dict := some h0.objs.size, data := .fields #[.ref tp, .none, .none, .none, .bool false, .none] } : Obj) := (same.2 a far).trans (Heap.get?_update_self _ hxp rfl)
  exact made _ stay now n1
open Builtin Builtin.ObjectAttr in
theorem store_more {dn : Addr} {fs : List (Str × V)} (T : OexG X.K C) (I : L2.Inv X pins σ H s) (ea : H a = some (exo a C (some dn))) (ed : H dn = some (exd dn fs)) (hl : fs.length ≤ 900) (hno : PySem.W.findIn X.K (.ref C) f = some none) (ry : RelV y u)
    (go : ∀ s2, L2.Inv X pins σ (upd H dn (exd dn ((f, y) :: fs))) s2 → Q () s2) : wpAny (model X.prog X.w) A (setAttr (.ref a) f u) Q E s := by
  obtain ⟨B, nI, iI, bm, FB, SF, q1, q2⟩ := T.base
  obtain ⟨tp, hx⟩ := exo_at I.hok ea
  obtain ⟨mD, n1, rel⟩ := exd_at I.hok ed
  have wi := within_of rel
  obtain ⟨cd, hcd, hdic⟩ : ∃ cd, PySem.W.clsIn X.K C = some cd ∧ cd.hasDict = true := PySem.W.any_some T.hd
  obtain ⟨h0, gs, dr, tk, os⟩ := s
  obtain ⟨oD, _, _, gD, _, _⟩ := n1.count wi
  have J : PySem.W.InstAt h0 a { cls := .ref C, dict := some dn, data := .fields #[.ref tp, .none, .none, .none, .bool false, .none] } C (some oD) := ⟨hx, rfl, rfl, gD⟩
  refine PySem.W.set_plain I.kIn J T.sa (PySem.W.osa_openX SF I.kIn J q2 (r := none) (by unfold PySem.W.takerIn; rw [hno]; rfl) fun onType => ?_)
  have look : PySem.W.Looks (model X.prog X.w) h0 (classData C) cd := PySem.W.looks_clsIn I.kIn hcd
  obtain ⟨nm, bs, mro, ns, qn, hd, sn, sb, ab, col, del⟩ := cd
  obtain rfl : hd = true := hdic
  show wpAny _ _ (storeInOwnDict _ _ _ _ _ onType) _ _ _
  unfold storeInOwnDict ownDictForStores
  repeat (first
    | with_reducible refine PySem.OEX.store_in_old n1 wi (by rw [List.length_map]; omega) ?_
    | with_reducible refine wpAny_loadPart_at hx ?_
    | with_reducible refine look.at ?_
    | wp_step)
  intro h2 tk2 n2 same
  have there : ∃ w, h2.get? dn = some w := by
    obtain ⟨w, _, _, e, _⟩ := n2
    exact ⟨w, e⟩
  exact go _ (I.write (t' := tk2) (x := dn) (e := dn) (o := exd dn ((f, y) :: fs)) (by rw [ed]; trivial) (.inl rfl) (fun b w nb e => (same.2 b nb).trans e) there (exd_ok n2 (relO_put ry rel)))
end
/-- o.f = e, o an error that is being made -/
def tOstG (K : PySem.W.Frag) (f : Str) (to te : TE) : TS := fun D σ H => te σ H fun y H1 => to σ H1 fun x H2 => ∃ a C : Addr, x = .ref a ∧ OexG K C ∧ PySem.W.findIn K (.ref C) f = some none ∧
  ((H2 a = some (exo a C none) ∧ ∀ dn, H2 dn = none → dn ≠ a → D.nx σ (upd (upd H2 dn (exd dn [(f, y)])) a (exo a C (some dn)))) ∨
    ∃ (dn : Addr) (fs : List (Str × V)), H2 a = some (exo a C (some dn)) ∧ H2 dn = some (exd dn fs) ∧ fs.length ≤ 900 ∧ D.nx σ (upd H2 dn (exd dn ((f, y) :: fs))))
section
variable {X : Cx} {o e : Expr} {es : List Expr} {to te : TE} {ta : TA} {f : Str} {p p2 pos : Pos}
theorem ps_ostG (ho : PE X o to) (he : PE X e te) (hs : swapsWith e (some (.Attribute o f p2)) pos.line X.env = pure false := by rfl) : PS X (.Assign [.Attribute o f p2] e pos) (tOstG X.K f to te) := by
  refine ⟨fun pins s σ H D I red => plainObj_wpAny_Assign_Attribute (thn (he.run pins s σ H _ I red) fun v s1 hv => ?_) hs⟩
  obtain ⟨y, H1, I1, ry, q1⟩ := hv
  refine thn (ho.run pins s1 σ H1 _ I1 q1) fun u s2 hu => ?_
  obtain ⟨x, H2, I2, rx, a, C, ex, T, hno, q⟩ := hu
  subst ex
  obtain rfl : u = Value.ref a := rx
  rcases q with ⟨ea, q⟩ | ⟨dn, fs, ea, ed, hl, q⟩
  · exact store_first T I2 ea hno ry fun dn s3 n ne J => ⟨σ, _, J, q dn n ne⟩
  · exact store_more T I2 ea ed hl hno ry fun s3 J => ⟨σ, _, J, q⟩
/-- C(e, ..), C's own __init__ keeping sp -/
theorem pmk_oexG {CX : CXT} {x : Str} {C i : Addr} {k : Nat} {fd : FuncData} {ps : List Str} {sp : Sp} (T : OexG X.K C) (hi : PySem.W.findIn X.K (.ref C) "__init__" = some (some (.ref i))) (ti : PySem.W.typeIn X.K (.ref i) = some (.type "function"))
    (F : FnOk X.prog X.w X.K X.mg X.base CX k i fd ps sp) (hr : Room (k + 1) X.A) (hb : Binds X.K fd ps []) (hx : Passes CX X E0) (hg : Gl X x) (hm : X.mg x = some (.ref C)) (ha : PA X (e :: es) ta)
    (hd : (x == ("__debug__" : Str)) = false := by decide) (h1 : starEach (e :: es) X.env = (false, eval e X.env) :: starEach es X.env := by rfl) (h2 : (backTo pos (starEach es X.env)).any (·.1) = false := by rfl) :
    PMk X (.Call (.Name x p) (e :: es) [] pos) (tMkO C sp [] ta) := by
  intro pins s σ H Q I red
  obtain ⟨B, nI, iI, bm, FB, SF, q1, q2⟩ := T.base
  refine wpAny_Call_Name_kw (ld_glob I hg hm ?_ hd)
  refine PySem.W.callWith_K (h₀ := X.base) I.ok.mod.kin T.kp (thn (ha.run pos pins s σ H _ I red) fun us s1 hu => ?_) h1 h2
  obtain ⟨vs, H1, I1, rv, len, q⟩ := hu
  refine ⟨I1.kIn, ?_⟩
  obtain ⟨nm, N, qn, bs, mro, hdct, sn, sub, ab, col, dd, k0, k1, k2, k3, k5, hC, hT⟩ := PySem.W.excInit_of I1.kIn q1
  obtain ⟨h0, gs, dr, tk, os⟩ := s1
  show wpAny _ _ (call (.ref C) us) _ _ _
  have new : H1 (h0.objs.size + 1) = none := I1.hok.fresh (Nat.le_succ _)
  have q := q _ new
  have at_ : ((h0.push (PySem.W.kdv_tup us)).push (PySem.HandSPX.excO C h0.objs.size)).get? (h0.objs.size + 1) = some (PySem.HandSPX.excO C h0.objs.size) := by heap_get
  have old : ∀ b w, h0.get? b = some w → ((h0.push (PySem.W.kdv_tup us)).push (PySem.HandSPX.excO C h0.objs.size)).get? b = some w := fun b w e => Heap.get?_push_of_some _ (Heap.get?_push_of_some _ e)
  have I2 := I1.laid (t' := tk) (o := exo (h0.objs.size + 1) C none) old (Nat.le_succ _) (exo_ok at_)
  have rs : Vals (V.ref (h0.objs.size + 1) :: vs) (Value.ref (h0.objs.size + 1) :: us) := .cons rfl rv
  rw [List.append_nil] at q
  have lens : (Value.ref (h0.objs.size + 1) :: us).length = ps.length := rs.length.symm.trans (F.len _ _ _ _ q)
  have bnd := hb _ (Value.ref (h0.objs.size + 1) :: us) I2.kIn (by rw [List.append_nil]; exact lens)
  rw [List.append_nil] at bnd
  have go := F.run _ X.stack _ _ ⟨Value.ref (h0.objs.size + 1) :: us, []⟩ _ _ _ _ (hr.make C us []) (I2.env0.make C us []) bnd rs q
  refine wpAny_call (PySem.HandSPX.call_own FB hT hC (PySem.W.looks_findIn I1.kIn hi) (fun self => PySem.W.bind_fn I1.kIn self ti) (by rw [← rv.length, sizeLine_eq]; omega) (codeAny_mono go fun r s2 hq => ?_))
  match r, hq with
  | .error x, hq => exact hx pins σ _ _ x s2 I2 hq
  | .ok (.ret u), hq =>
    obtain ⟨v, H2, os2, bare2, un2, hok2, rz, ev, d, fs, ea, ed, hd1, q3⟩ := hq
    subst ev
    obtain ⟨h2, g2, d2, t2, o2⟩ := s2
    exact ⟨rz, mk_end (raises_own T.ex T.ty) I1 (Nat.le_succ _) old un2 hok2 os2 bare2 ea ed hd1 q3⟩
  | .ok .next, hq => exact False.elim hq
  | .ok .brk, hq => exact False.elim hq
  | .ok .cont, hq => exact False.elim hq
end

/-! ### an own error as a value -/
section
variable {X : Cx} {pins : List (Addr × Obj)} {σ : L2.St} {H : Hp} {a : Addr} {o : HO}
theorem inv_lay {s1 s2 : Shared} (J : L2.Inv X pins σ H s1) (k : ∀ b w, s1.heap.get? b = some w → s2.heap.get? b = some w) (g : s1.heap.get? a = none) (na : H a = none) (eo : s2.os = s1.os) (eb : AllBare s2.gens) (new : ObjOk X.prog X.w (upd H a o) s2.heap a o) : L2.Inv X pins σ (upd H a o) s2 := by
  have Z := L2.Inv.laidN (t' := s2.toks) J k g na new
  exact ⟨Z.ok, eo.trans Z.os, eb, Z.base, Z.loc, Z.cell, Z.free, Z.freeC, Z.pin, Z.hok, Z.len⟩
def tMkV (t : L2.St → Hp → XK → Prop) : TE := fun σ H Q => t σ H fun cls dd H2 => ∀ a, H2 a = none → Q (.ref a) (upd H2 a (ExK cls dd a))
theorem pe_ofMk {e : Expr} {t : L2.St → Hp → XK → Prop} (h : PMk X e t) : PE X e (tMkV t) := by
  refine ⟨fun pins s σ H Q I red => wpAny_mono (h pins s σ H _ I red) (fun u s2 hu => ?_) fun _ _ z => z⟩
  obtain ⟨a, oe, vs, s1, H2, cls, dd, rfl, J, k, g, there, z, d, _, na, eo, eb, _, q⟩ := hu
  exact ⟨.ref a, _, inv_lay J k g na eo eb (exK_ok there z d), rfl, q a na⟩
end
section
variable {X : Cx}
/-- C(), C without an __init__ of its own -/
theorem pe_excN {C : Addr} {bm : List Value} {B nI iI : String} {x : Str} {p pos : Pos} (F : ExcBaseFacts B nI iI bm) (q : PySem.W.excIn X.K C bm nI = true) (gC : X.mg x = some (.ref C)) (kC : PySem.W.keepIn X.K (.ref C) = true) (hg : Gl X x) (hd : (x == ("__debug__" : Str)) = false := by decide) :
    PE X (.Call (.Name x p) [] [] pos) (fun σ H Q => ∀ a, H a = none → Q (.ref a) (upd H a (ExK (.ref C) none a))) := by
  refine ⟨fun pins s σ H Q I red => ?_⟩
  refine wpAny_Call_Name_kw (ld_glob I hg gC ?_ hd)
  refine PySem.W.callWith_K0 I.kIn kC ?_
  obtain ⟨mro, N, nm, qn, bs, hdct, sn, sub, ab, col, dd, k0, k1, k2, k3, k5, mN, hC, hN, hni, OT⟩ := exc_obj I.kIn q
  obtain ⟨h0, gs, dr, tk, os⟩ := s
  show wpAny _ _ (call (.ref C) []) _ _ _
  refine wpAny_call_exc_subT F OT hC hN hni (fun h2 a made => ?_) (Nat.zero_le _)
  obtain ⟨t, at_, _, _⟩ := made.there
  have na : H a = none := I.hok.gone made.new
  exact ⟨.ref a, _, L2.Inv.laidN I made.keeps made.new na (exK_ok at_ ⟨rfl, rfl⟩ rfl), rfl, red a na⟩
end

/-! ### a def that is called from a place where no repr is under way -/
def GOk (P : Program) (w : World) (K : PySem.W.Frag) (mg : Str → Option Value) (base : Heap) (k : Nat) (f : Addr) (fd : FuncData) (ps : List Str) (sp : Sp) : Prop :=
  ∀ (A : Around) (outer : List PySem.Env) (s : Shared) (H : Hp) (us : List Value) (vs : List V) (Q : VK) (E : XK), A.guards = some [] → Room k A → Env0 P w K mg base A outer s H → BindsTo s fd ⟨us, []⟩ (ps.zip us) → Vals vs us → sp vs H Q E →
    codeAny (model P w) A (.call (.ref f) ⟨us, []⟩) (CR CX0 outer P w H s Q E) s
theorem gOk_of {P : Program} {w : World} {K : PySem.W.Frag} {mg : Str → Option Value} {base : Heap} {x qual : Str} {st : Stmt} {f : Addr} {fd : FuncData} {N ps : List Str} {k : Nat} {R : RU} (F : Fun K x qual st f fd) (S : FnScope N ps (defScope st)) (hn : ∀ ρ Q X, R ρ Q X → ρ.length = ps.length)
    (hbody : ∀ (cdv : Value) (A : Around) (outer : List PySem.Env) (s : Shared) (H : Hp) (E : XK), Room k (A.deeper (envOfC qual (defScope st) s.heap.objs.size f cdv)) → (A.deeper (envOfC qual (defScope st) s.heap.objs.size f cdv)).guards = some [] →
      ∃ t, PSs (cxOf CX0 P w K mg base N qual (defScope st) f cdv A outer s H E).nox (defBody st) t ∧
        ∀ (W : Wx) (ρ : Sls) (Qd : Av → Sls → Prop) (Xd : Er → Sls → Prop), R ρ Qd Xd →
          WS K W t (ρ ++ List.replicate (N.length - ps.length) .un) { nx := fun ρ' => Qd (.dt .non) (out ρ ρ'), rt := fun a ρ' => a.ns ∧ Qd a (out ρ ρ'), xc := fun e ρ' => Xd e (out ρ ρ') }) :
    GOk P w K mg base (k + 1) f fd ps (spU K R) := by
  intro A outer s H us vs Q E hg hr e0 hb r h
  obtain ⟨oc, od, kV, doc, pm, an, cdv, ct, osl, rfl, lk, hcd⟩ := F.ex
  have hl : vs.length = ps.length := spU_len h hn
  refine LamX.run_ofS lk hcd S hr e0 hb r hl fun hr2 => ?_
  obtain ⟨t, ht, hw⟩ := hbody cdv A outer s H E hr2 hg
  refine ⟨t, ht.nox, body_U h fun ρ Qd Xd hρ hR => ?_⟩
  have e : vs.length = ps.length := hl
  rw [e]
  exact hw _ ρ Qd Xd hR
/-- the law, called at the top, from a heap of which at most the script is tracked -/
theorem top_run {P : Program} {w : World} {K : PySem.W.Frag} {mg mb : Str → Option Value} {k : Nat} {f a : Addr} {fd : FuncData} {x : Str} {sp : Sp} {s : Shared} {its : List Value} {H : Hp}
    (hK : K.In s.heap) (hG : s.heap.Ns mainGlobals mg) (hB : s.heap.Ns builtinsNs mb) (hBB : ∀ x : Str, x ≠ "__name__" → mb x = bootBuiltins x) (hL : s.heap.NoLimit) (hg : s.gens = #[])
    (ha : s.heap.get? a = some { cls := .type "list", data := .seq its.toArray }) (hr : Room k callerA) (F : ∀ base : Heap, K.In base → base.Ns mainGlobals mg → GOk P w K mg base k f fd [x] sp)
    (bnd : ∀ (s : Shared) (u : Value), BindsTo s fd ⟨[u], []⟩ [(x, u)]) (hO : Only H) (hsp : sp [.ref a] H (fun v _ => v = .bl true) E0) (hok : HOk P w H s.heap) (at_ : ∀ b, H b ≠ none → b = a) (out_ : H a ≠ none → K.lookup a = none) :
    codeAny (model P w) callerA (.call (.ref f) ⟨[.ref a], []⟩) (fun r s2 => r = .ok (.ret (.bool true)) ∧ OldK s.heap s2.heap ∧ s2.os = s.os ∧ AllBare s2.gens) s := by
  have none_of : ∀ {b : Addr}, b ≠ a → H b = none := fun {b} n => Classical.byContradiction fun h => n (at_ b h)
  have dict_none : ∀ {b : Addr} {w : Obj} {es : Array DictEntry} {n : Nat}, s.heap.get? b = some w → w.data = .dict es n → H b = none := fun {b w es n} e d => none_of fun z => by
    rw [z, ha] at e
    cases e
    cases d
  have ns : ∀ {b : Addr} {m : Str → Option Value}, s.heap.Ns b m → (hidT s.heap H).Ns b m := fun ⟨w, es, n, e, d, r⟩ => ⟨w, es, n, hidT_get e (dict_none e d), d, r⟩
  have kin : K.In (hidT s.heap H) := fun b w e => hidT_get (hK b w e) (Classical.byContradiction fun h => by
    have z := at_ b h
    rw [z] at e h
    rw [out_ h] at e
    cases e)
  obtain ⟨ml, l1, l2⟩ := hL
  have md : Mod K mg (hidT s.heap H) := ⟨kin, ns hG, ⟨mb, ns hB, hBB⟩, ⟨ml, ns l1, l2⟩⟩
  have e0 : Env0 P w K mg (hidT s.heap H) callerA [] s H := ⟨rfl, md, fun _ _ e => of_hidT e, Nat.le_of_eq (hidT_size _ _), trivial, fun b hb => (nomatch hb), hok, .of_eq hg⟩
  refine codeAny_mono (F _ kin (ns hG) callerA [] s H [.ref a] [.ref a] _ _ rfl hr e0 (bnd s (.ref a)) (.cons rfl .nil) hsp) fun r s2 h => ?_
  match r, h with
  | .error x, h => exact h.elim
  | .ok .next, h => exact h.elim
  | .ok .brk, h => exact h.elim
  | .ok .cont, h => exact h.elim
  | .ok (.ret u), h =>
    obtain ⟨v, H2, eo, eb, un, hok2, rv, q⟩ := h
    obtain rfl : v = .bl true := q
    obtain rfl : u = Value.bool true := rv
    refine ⟨rfl, OldK.of_keep fun b w e => ?_, eo, eb⟩
    rcases hO b with n | ⟨ob, xs, t⟩
    · exact un.keep b w e n (fun z => nomatch z) fun z => nomatch z
    · obtain ⟨p1, _⟩ := hok b _ t
      obtain ⟨p2, _⟩ := hok2 b _ (un.frzs b ob _ t)
      rw [e] at p1
      cases p1
      exact p2
theorem top_call {P : Program} {w : World} {K : PySem.W.Frag} {mg mb : Str → Option Value} {k : Nat} {f a : Addr} {fd : FuncData} {x : Str} {sp : Sp} {s : Shared} {its : List Value} {ns : List Int}
    (hK : K.In s.heap) (hG : s.heap.Ns mainGlobals mg) (hB : s.heap.Ns builtinsNs mb) (hBB : ∀ x : Str, x ≠ "__name__" → mb x = bootBuiltins x) (hL : s.heap.NoLimit) (hg : s.gens = #[])
    (ha : s.heap.get? a = some { cls := .type "list", data := .seq its.toArray }) (hi : IntsAre its ns) (len : ns.length ≤ sizeLine) (hr : Room k callerA) (F : ∀ base : Heap, K.In base → base.Ns mainGlobals mg → GOk P w K mg base k f fd [x] sp)
    (bnd : ∀ (s : Shared) (u : Value), BindsTo s fd ⟨[u], []⟩ [(x, u)]) (hsp : ∀ H : Hp, Only H → SqL K H a (ns.map V.int) → sp [.ref a] H (fun v _ => v = .bl true) E0) :
    codeAny (model P w) callerA (.call (.ref f) ⟨[.ref a], []⟩) (fun r s2 => r = .ok (.ret (.bool true)) ∧ OldK s.heap s2.heap ∧ s2.os = s.os ∧ AllBare s2.gens) s := by
  have rv : Vals (ns.map V.int) its := vals_ints hi
  cases hk : K.lookup a with
  | some w0 =>
    have e := hK a w0 hk
    rw [ha] at e
    cases e
    have hO : Only fun _ => none := fun _ => .inl rfl
    refine top_run (H := fun _ => none) hK hG hB hBB hL hg ha hr F bnd hO (hsp _ hO (.inr ⟨_, its.toArray, _, hk, rfl, rfl, rfl, ?_, ?_⟩)) (fun _ _ z => nomatch z) (fun _ z => absurd rfl z) fun z => absurd rfl z
    · rw [List.size_toArray, ← rv.length, List.length_map]
      exact len
    · rw [List.toList_toArray]
      exact rv
  | none =>
    obtain ⟨u, hu⟩ : ∃ u : HO, u = .frz { cls := .type "list", data := .seq its.toArray } (.lst (ns.map V.int)) := ⟨_, rfl⟩
    have off : ∀ {b : Addr}, b ≠ a → upd (fun _ => none) a u b = none := fun n => upd_ne n
    have hO : Only (upd (fun _ => none) a u) := fun b => by
      by_cases z : b = a
      · rw [z, upd_same, hu]
        exact .inr ⟨_, _, rfl⟩
      · exact .inl (off z)
    refine top_run (H := upd (fun _ => none) a u) hK hG hB hBB hL hg ha hr F bnd hO (hsp _ hO (.inl (.inr ⟨_, by rw [upd_same, hu]⟩))) (fun b v e => ?_) (fun b z => Classical.byContradiction fun n => z (off n)) fun _ => hk
    by_cases z : b = a
    · subst z
      rw [upd_same, hu] at e
      cases e
      exact ⟨ha, by rw [List.length_map]; exact len, its, _, rv, ha⟩
    · rw [off z] at e
      cases e
open PySem.W in
theorem walk_top {l : OpenLaw} {n k : Nat} {q : Program} {loose : List Str} {XP : (Str → Option Value) → Heap → Prop} {YP : World → Heap → Prop} {d : DefRec} {K : Params → Frag} {sp : World → Sp} {x : Str}
    (hn : l.most = some n) (hz : n ≤ sizeLine) (hd : d.params.defaults = []) (hr : Room k callerA) (hY : ∀ (w : World) (h : Heap), YP w h → (K w.params).In h)
    (F : ∀ (w : World) (mg : Str → Option Value) (fa : Addr) (h : Heap), (K w.params).In h → h.Ns mainGlobals mg → mg d.name = some (.ref fa) →
      ∃ fd : FuncData, (∀ (s : Shared) (u : Value), BindsTo s fd ⟨[u], []⟩ [(x, u)]) ∧ ∀ base : Heap, (K w.params).In base → base.Ns mainGlobals mg → GOk l.prog w (K w.params) mg base k fa fd [x] (sp w))
    (hsp : ∀ (w : World) (H : Hp) (a : Addr) (ns : List Int), ns.length ≤ n → (∀ z ∈ ns, Builtin.Int.intBits z ≤ 1048576) → Only H → SqL (K w.params) H a (ns.map V.int) → sp w [.ref a] H (fun v _ => v = .bl true) E0) :
    WalkO q loose XP YP l.row.toRowW d [] (fun f vs => PySem.call f vs) := by
  refine Att.attach_callB hn hd fun w s0 s mg mb fa o pm cd doc a vs ns G Y ho hdat hcd hmg hobj hints hlen hbits hg => ?_
  obtain ⟨fd, bnd, hF⟩ := F w mg fa _ (hY w _ Y) G.T.g hmg
  exact top_call (hY w _ Y) G.T.g G.T.b G.T.builtins G.T.nolimit hg hobj hints (Nat.le_trans hlen hz) hr hF bnd fun H hO hS => hsp w H a ns hlen hbits hO hS

/-! ### a | b, both of one own class that has __or__ -/
structure OrC (K : PySem.W.Frag) (C g : Addr) : Prop where
  at_ : PySem.W.findIn K (.ref C) "__or__" = some (some (.ref g))
  fn : PySem.W.isFn K (.ref g) = true
  first : PySem.W.selfFirst K C = true
section
open PySem.W
theorem or_own {P : Program} {w : World} {A : Around} {Ex : Value → Shared → Prop} {sh : Shared} {K : Frag} {a b C g : Addr} {oa ob : Obj} {da db : Option Obj} {R : Value → Shared → Prop} (kin : K.In sh.heap) (J : InstAt sh.heap a oa C da) (J2 : InstAt sh.heap b ob C db) (c : OrC K C g)
    (q : wpAny (model P w) A (call (.ref g) [.ref a, .ref b]) (PySem.W.CmpBack R) Ex sh) : wpAny (model P w) A (binaryOp .BitOr (.ref a) (.ref b)) R Ex sh := by
  obtain ⟨cd, rest, e1, e2⟩ := ksp_first c.first
  have tried := ksp_try (name := PySem.dunder "or") kin J (show findIn K (.ref C) (PySem.dunder "or") = some (some (.ref g)) from c.at_) c.fn q
  obtain ⟨hq, gq, dq, tq, oq⟩ := sh
  have l1 : Looks (model P w) hq (typeOf (.ref a)) (.ref C) := J.type
  have l2 : Looks (model P w) hq (typeOf (.ref b)) (.ref C) := J2.type
  have l3 : Looks (model P w) hq (fillsNumberSlot (.ref C) "or") true := fills_K (nm := "or") kin e1 e2 c.at_
  have same : (Value.ref C == Value.ref C) = true := beq_self_eq_true _
  unfold binaryOp
  refine wpAny_holding (wpAny_bind (m := binaryOp1 "or" (.ref a) (.ref b)) ?_)
  unfold binaryOp1
  refine wpAny_bind (l1.at (wpAny_bind (l2.at (wpAny_bind (l3.at ?_)))))
  simp only [same, if_true]
  have go : ∀ {N : Option Value → Shared → Prop}, (∀ v s', R v s' → N (some v) s') → wpAny (model P w) A (tryMethod (.ref a) (PySem.dunder "or") (.ref b)) N Ex ⟨hq, gq, dq, tq, oq⟩ := fun hN => wpAny_mono tried (fun r s' h => by
    obtain ⟨v, rfl, hv⟩ := h
    exact hN v s' hv) fun _ _ z => z
  ksp_lk
  refine go fun v s' hv => ?_
  ksp_lk
  exact hv
end
section
variable {X : Cx} {CX : CXT} {n : Nat} {C g : Addr} {sp : Sp} {E : XK}
def rOrOwn (C : Addr) (sp : Sp) (E : XK) : R2 := fun x y H Q => ∃ (a dx : Addr) (fs : List (Str × V)) (b dy : Addr) (gs : List (Str × V)), x = .ref a ∧ y = .ref b ∧ H a = some (.ins C dx fs) ∧ H b = some (.ins C dy gs) ∧ sp [x, y] H Q E
theorem op_orOwn (c : OrC X.K C g) (F : FnR X.prog X.w X.K X.mg X.base CX n g sp) (hr : Room n X.A) (hx : Passes CX X E) : OpR X (binaryOp .BitOr) (rOrOwn C sp E) := by
  intro pins s σ H x y v u Q I rx ry h
  obtain ⟨a, dx, fs, b, dy, gs, rfl, rfl, ha, hb, q⟩ := h
  obtain rfl : v = Value.ref a := rx
  obtain rfl : u = Value.ref b := ry
  obtain ⟨od, J⟩ := ins_inst I ha
  obtain ⟨od2, J2⟩ := ins_inst I hb
  refine or_own I.kIn J J2 c (wpAny_mono (wpAny_call (run_fnR (us := [.ref a, .ref b]) (vs := [.ref a, .ref b]) F hr hx I (.cons rfl (.cons rfl .nil)) q)) (fun z s' hz => ?_) fun _ _ e => e)
  obtain ⟨z1, H1, I1, rz, q1⟩ := hz
  exact SlX.cmpback rz ⟨z1, H1, I1, rz, q1⟩
end

def topS (i : Nat) : Stmt := PySem.Challenge.pw_whatpasses_k34_parts_made.main.body.getD i (.Pass ⟨0, 0, 0, 0⟩)
abbrev s_consists_of : Stmt := topS 8
theorem sc_consists_of : FnScope ["text", "characters", "character"] ["text", "characters"] (defScope s_consists_of) := ⟨rfl, rfl, rfl, by decide +kernel, rfl, by decide +kernel, by decide +kernel⟩
abbrev s_is_integer : Stmt := topS 9
theorem sc_is_integer : FnScope ["thing"] ["thing"] (defScope s_is_integer) := ⟨rfl, rfl, rfl, by decide +kernel, rfl, by decide +kernel, by decide +kernel⟩
abbrev s_is_small_word : Stmt := topS 10
theorem sc_is_small_word : FnScope ["thing", "most"] ["thing", "most"] (defScope s_is_small_word) := ⟨rfl, rfl, rfl, by decide +kernel, rfl, by decide +kernel, by decide +kernel⟩
abbrev s_is_class_name : Stmt := topS 13
theorem sc_is_class_name : FnScope ["thing"] ["thing"] (defScope s_is_class_name) := ⟨rfl, rfl, rfl, by decide +kernel, rfl, by decide +kernel, by decide +kernel⟩
abbrev s_is_item : Stmt := topS 16
theorem sc_is_item : FnScope ["thing"] ["thing"] (defScope s_is_item) := ⟨rfl, rfl, rfl, by decide +kernel, rfl, by decide +kernel, by decide +kernel⟩
abbrev s_is_raised : Stmt := topS 17
theorem sc_is_raised : FnScope ["thing", "word", "kind", "cause"] ["thing"] (defScope s_is_raised) := ⟨rfl, rfl, rfl, by decide +kernel, rfl, by decide +kernel, by decide +kernel⟩
abbrev s_is_answer : Stmt := topS 18
theorem sc_is_answer : FnScope ["thing", "item"] ["thing"] (defScope s_is_answer) := ⟨rfl, rfl, rfl, by decide +kernel, rfl, by decide +kernel, by decide +kernel⟩
abbrev s_weight : Stmt := topS 19
theorem sc_weight : FnScope ["answer"] ["answer"] (defScope s_weight) := ⟨rfl, rfl, rfl, by decide +kernel, rfl, by decide +kernel, by decide +kernel⟩
abbrev s_total_weight : Stmt := topS 20
theorem sc_total_weight : FnScope ["answers", "answer"] ["answers"] (defScope s_total_weight) := ⟨rfl, rfl, rfl, by decide +kernel, rfl, by decide +kernel, by decide +kernel⟩
abbrev s_copied : Stmt := topS 21
theorem sc_copied : FnScope ["answer"] ["answer"] (defScope s_copied) := ⟨rfl, rfl, rfl, by decide +kernel, rfl, by decide +kernel, by decide +kernel⟩
abbrev s_is_name : Stmt := topS 28
theorem sc_is_name : FnScope ["thing"] ["thing"] (defScope s_is_name) := ⟨rfl, rfl, rfl, by decide +kernel, rfl, by decide +kernel, by decide +kernel⟩
abbrev s_is_number_text : Stmt := topS 29
theorem sc_is_number_text : FnScope ["text", "digits"] ["text"] (defScope s_is_number_text) := ⟨rfl, rfl, rfl, by decide +kernel, rfl, by decide +kernel, by decide +kernel⟩
abbrev s_is_string_text : Stmt := topS 30
theorem sc_is_string_text : FnScope ["text"] ["text"] (defScope s_is_string_text) := ⟨rfl, rfl, rfl, by decide +kernel, rfl, by decide +kernel, by decide +kernel⟩
abbrev s_is_constant_text : Stmt := topS 31
theorem sc_is_constant_text : FnScope ["text"] ["text"] (defScope s_is_constant_text) := ⟨rfl, rfl, rfl, by decide +kernel, rfl, by decide +kernel, by decide +kernel⟩
abbrev s_is_call : Stmt := topS 32
theorem sc_is_call : FnScope ["thing", "name", "opening", "inner", "constants", "text"] ["thing"] (defScope s_is_call) := ⟨rfl, rfl, rfl, by decide +kernel, rfl, by decide +kernel, by decide +kernel⟩
abbrev s_is_path : Stmt := topS 33
theorem sc_is_path : FnScope ["thing", "ageing", "text"] ["thing", "ageing"] (defScope s_is_path) := ⟨rfl, rfl, rfl, by decide +kernel, rfl, by decide +kernel, by decide +kernel⟩
abbrev s_is_entry : Stmt := topS 35
theorem sc_is_entry : FnScope ["thing", "ageing", "path", "answer"] ["thing", "ageing"] (defScope s_is_entry) := ⟨rfl, rfl, rfl, by decide +kernel, rfl, by decide +kernel, by decide +kernel⟩
abbrev s_law_weight : Stmt := topS 38
theorem sc_law_weight : FnScope ["answer"] ["answer"] (defScope s_law_weight) := ⟨rfl, rfl, rfl, by decide +kernel, rfl, by decide +kernel, by decide +kernel⟩
abbrev s_law_answer_at : Stmt := topS 39
theorem sc_law_answer_at : FnScope ["pairs", "path", "found", "known", "answer"] ["pairs", "path"] (defScope s_law_answer_at) := ⟨rfl, rfl, rfl, by decide +kernel, rfl, by decide +kernel, by decide +kernel⟩
abbrev s_law_kept : Stmt := topS 40
theorem sc_law_kept : FnScope ["pairs", "paths", "path", "answer"] ["pairs"] (defScope s_law_kept) := ⟨rfl, rfl, rfl, by decide +kernel, rfl, by decide +kernel, by decide +kernel⟩
abbrev s_law_equal : Stmt := topS 41
theorem sc_law_equal : FnScope ["one", "other", "k"] ["one", "other"] (defScope s_law_equal) := ⟨rfl, rfl, rfl, by decide +kernel, rfl, by decide +kernel, by decide +kernel⟩
abbrev s_law_are_entries : Stmt := topS 42
theorem sc_law_are_entries : FnScope ["told", "pairs", "due", "k"] ["told", "pairs"] (defScope s_law_are_entries) := ⟨rfl, rfl, rfl, by decide +kernel, rfl, by decide +kernel, by decide +kernel⟩
abbrev s_law_is_integer : Stmt := topS 43
theorem sc_law_is_integer : FnScope ["thing"] ["thing"] (defScope s_law_is_integer) := ⟨rfl, rfl, rfl, by decide +kernel, rfl, by decide +kernel, by decide +kernel⟩
abbrev s_law_bag : Stmt := topS 44
theorem sc_law_bag : FnScope ["script", "at", "cell"] ["script", "at"] (defScope s_law_bag) := ⟨rfl, rfl, rfl, by decide +kernel, rfl, by decide +kernel, by decide +kernel⟩
abbrev s_law_take : Stmt := topS 45
theorem sc_law_take : FnScope ["bag", "many", "digit", "mixed"] ["bag", "many"] (defScope s_law_take) := ⟨rfl, rfl, rfl, by decide +kernel, rfl, by decide +kernel, by decide +kernel⟩
abbrev s_law_of : Stmt := topS 46
theorem sc_law_of : FnScope ["bag", "some"] ["bag", "some"] (defScope s_law_of) := ⟨rfl, rfl, rfl, by decide +kernel, rfl, by decide +kernel, by decide +kernel⟩
abbrev s_law_number : Stmt := topS 47
theorem sc_law_number : FnScope ["bag", "near", "way", "top"] ["bag", "near"] (defScope s_law_number) := ⟨rfl, rfl, rfl, by decide +kernel, rfl, by decide +kernel, by decide +kernel⟩
abbrev s_law_written : Stmt := topS 48
theorem sc_law_written : FnScope ["value", "one"] ["value"] (defScope s_law_written) := ⟨rfl, rfl, rfl, by decide +kernel, rfl, by decide +kernel, by decide +kernel⟩
abbrev s_law_word : Stmt := topS 49
theorem sc_law_word : FnScope ["bag", "most", "turn"] ["bag", "most"] (defScope s_law_word) := ⟨rfl, rfl, rfl, by decide +kernel, rfl, by decide +kernel, by decide +kernel⟩
abbrev s_law_name : Stmt := topS 50
theorem sc_law_name : FnScope ["bag"] ["bag"] (defScope s_law_name) := ⟨rfl, rfl, rfl, by decide +kernel, rfl, by decide +kernel, by decide +kernel⟩
abbrev s_law_family : Stmt := topS 51
theorem sc_law_family : FnScope ["bag", "most", "found", "turn", "name"] ["bag", "most"] (defScope s_law_family) := ⟨rfl, rfl, rfl, by decide +kernel, rfl, by decide +kernel, by decide +kernel⟩
abbrev s_law_core : Stmt := topS 52
theorem sc_law_core : FnScope ["bag", "calls", "flags", "classes", "numbers", "texts", "turn", "value", "names", "words", "parents", "k"] ["bag", "calls", "flags", "classes"] (defScope s_law_core) := ⟨rfl, rfl, rfl, by decide +kernel, rfl, by decide +kernel, by decide +kernel⟩
abbrev s_law_path : Stmt := topS 53
theorem sc_law_path : FnScope ["bag", "texts", "aged", "turn"] ["bag", "texts", "aged"] (defScope s_law_path) := ⟨rfl, rfl, rfl, by decide +kernel, rfl, by decide +kernel, by decide +kernel⟩
abbrev s_law_near : Stmt := topS 54
theorem sc_law_near : FnScope ["bag", "kit", "number"] ["bag", "kit"] (defScope s_law_near) := ⟨rfl, rfl, rfl, by decide +kernel, rfl, by decide +kernel, by decide +kernel⟩
abbrev s_law_any_answer : Stmt := topS 55
theorem sc_law_any_answer : FnScope ["bag", "kit", "way", "classes", "cause", "turn"] ["bag", "kit"] (defScope s_law_any_answer) := ⟨rfl, rfl, rfl, by decide +kernel, rfl, by decide +kernel, by decide +kernel⟩
abbrev s_law_drawn_pairs : Stmt := topS 56
theorem sc_law_drawn_pairs : FnScope ["bag", "kit", "texts", "aged", "many", "found", "turn", "path", "old"] ["bag", "kit", "texts", "aged", "many"] (defScope s_law_drawn_pairs) := ⟨rfl, rfl, rfl, by decide +kernel, rfl, by decide +kernel, by decide +kernel⟩
abbrev s_law_any_constant : Stmt := topS 57
theorem sc_law_any_constant : FnScope ["bag", "way"] ["bag"] (defScope s_law_any_constant) := ⟨rfl, rfl, rfl, by decide +kernel, rfl, by decide +kernel, by decide +kernel⟩
abbrev s_law_call_text : Stmt := topS 58
theorem sc_law_call_text : FnScope ["name", "values", "value"] ["name", "values"] (defScope s_law_call_text) := ⟨rfl, rfl, rfl, by decide +kernel, rfl, by decide +kernel, by decide +kernel⟩
abbrev s_law_keywords : Stmt := topS 59
theorem sc_law_keywords : FnScope [] [] (defScope s_law_keywords) := ⟨rfl, rfl, rfl, by decide +kernel, rfl, by decide +kernel, by decide +kernel⟩
abbrev s_law_any_name : Stmt := topS 60
theorem sc_law_any_name : FnScope ["bag", "letters", "found", "turn"] ["bag"] (defScope s_law_any_name) := ⟨rfl, rfl, rfl, by decide +kernel, rfl, by decide +kernel, by decide +kernel⟩
abbrev s_law_any_call : Stmt := topS 61
theorem sc_law_any_call : FnScope ["bag", "some", "turn"] ["bag"] (defScope s_law_any_call) := ⟨rfl, rfl, rfl, by decide +kernel, rfl, by decide +kernel, by decide +kernel⟩
abbrev s_law_some_texts : Stmt := topS 62
theorem sc_law_some_texts : FnScope ["bag", "many", "found", "turn", "text"] ["bag", "many"] (defScope s_law_some_texts) := ⟨rfl, rfl, rfl, by decide +kernel, rfl, by decide +kernel, by decide +kernel⟩
abbrev s_law_copy : Stmt := topS 63
theorem sc_law_copy : FnScope ["pairs", "path", "answer"] ["pairs"] (defScope s_law_copy) := ⟨rfl, rfl, rfl, by decide +kernel, rfl, by decide +kernel, by decide +kernel⟩
abbrev s_law_is_right : Stmt := topS 64
theorem sc_law_is_right : FnScope ["part", "due", "aged", "heavy", "turn", "told", "path", "answer"] ["part", "due", "aged"] (defScope s_law_is_right) := ⟨rfl, rfl, rfl, by decide +kernel, rfl, by decide +kernel, by decide +kernel⟩
abbrev s_law : Stmt := topS 65
theorem sc_law : FnScope ["script", "at", "bag", "aged", "kit", "due", "handed", "part", "path", "answer", "k", "other", "changed"] ["script"] (defScope s_law) := ⟨rfl, rfl, rfl, by decide +kernel, rfl, by decide +kernel, by decide +kernel⟩
def clsNth (j : Nat) : Stmt → Stmt
  | .ClassDef (body := b) .. => b.getD j (.Pass ⟨0, 0, 0, 0⟩)
  | _ => .Pass ⟨0, 0, 0, 0⟩
abbrev s_Part___init__ : Stmt := clsNth 0 (topS 36)
theorem sc_Part___init__ : FnScope ["self", "entries", "ageing", "answers", "at", "entry", "path", "answer"] ["self", "entries", "ageing"] (defScope s_Part___init__) := ⟨rfl, rfl, rfl, by decide +kernel, rfl, by decide +kernel, by decide +kernel⟩
abbrev s_Part_entries : Stmt := clsNth 1 (topS 36)
theorem sc_Part_entries : FnScope ["self", "path", "answer"] ["self"] (defScope s_Part_entries) := ⟨rfl, rfl, rfl, by decide +kernel, rfl, by decide +kernel, by decide +kernel⟩
abbrev s_Part_weight : Stmt := clsNth 2 (topS 36)
theorem sc_Part_weight : FnScope ["self"] ["self"] (defScope s_Part_weight) := ⟨rfl, rfl, rfl, by decide +kernel, rfl, by decide +kernel, by decide +kernel⟩
abbrev s_Part___len__ : Stmt := clsNth 5 (topS 36)
theorem sc_Part___len__ : FnScope ["self"] ["self"] (defScope s_Part___len__) := ⟨rfl, rfl, rfl, by decide +kernel, rfl, by decide +kernel, by decide +kernel⟩
abbrev s_Part___eq__ : Stmt := clsNth 6 (topS 36)
theorem sc_Part___eq__ : FnScope ["self", "other"] ["self", "other"] (defScope s_Part___eq__) := ⟨rfl, rfl, rfl, by decide +kernel, rfl, by decide +kernel, by decide +kernel⟩
def clsDef : Stmt → Stmt
  | .ClassDef (body := b) .. => b.getD 0 (.Pass ⟨0, 0, 0, 0⟩)
  | _ => .Pass ⟨0, 0, 0, 0⟩
abbrev si_BadPart : Stmt := clsDef (topS 2)
theorem sci_BadPart : FnScope ["self", "at"] ["self", "at"] (defScope si_BadPart) := ⟨rfl, rfl, rfl, by decide +kernel, rfl, by decide +kernel, by decide +kernel⟩
/-- what is asked of an own class for ==, !=, isinstance and its static methods -/
structure OwnFacts (K : PySem.W.Frag) (C : Addr) : Prop where
  ty : PySem.W.typeIn K (.ref C) = some (.type "type")
  cr : ClX.CRead K C (.type "type")
  ne : PySem.W.findIn K (.ref C) "__ne__" = some (some (.builtin "object.__ne__"))
  top : PySem.W.mroIn K C (.type "object") = some true
  ca : PySem.W.findIn K (.ref C) "__class__" = some (some (.builtin "object.__class__"))
  cg : PySem.W.specialIn K (.builtin "object.__class__") "__get__" = some (some (.builtin "getset_descriptor.__get__"))
  ct : PySem.W.takesIn K (.builtin "object.__class__") = some true
  k1 : PySem.W.kitOne K (.ref C) (.ref C) = some true
  k2 : PySem.W.kitOne K (.type "list") (.ref C) = some false
  k3 : PySem.W.kitOne K (.type "tuple") (.ref C) = some false
  f1 : PySem.W.notFirst K C (.ref C) = true
  f2 : PySem.W.notFirst K C (.type "list") = true
  f3 : PySem.W.notFirst K C (.type "tuple") = true
/-- an own error class over ValueError whose __init__ stores its one field -/
structure ErrC (K : PySem.W.Frag) (mg : Str → Option Value) (x f : Str) (C fI : Addr) : Prop where
  g : mg x = some (.ref C)
  o : OexC K C
  i : PySem.W.findIn K (.ref C) "__init__" = some (some (.ref fI))
  t : PySem.W.typeIn K (.ref fI) = some (.type "function")
  xf : XfC K C
  no : PySem.W.findIn K (.ref C) f = some none
  te : PySem.W.exmOne K (.ref C) (.ref C) = some true
def vals_KEYWORDS : List V := [.str (Str.ofString "and"), .str (Str.ofString "assert"), .str (Str.ofString "assume"), .str (Str.ofString "break"), .str (Str.ofString "call"), .str (Str.ofString "clear"), .str (Str.ofString "continue"), .str (Str.ofString "else"), .str (Str.ofString "end"), .str (Str.ofString "error"), .str (Str.ofString "except"), .str (Str.ofString "fail"), .str (Str.ofString "for"), .str (Str.ofString "from"), .str (Str.ofString "if"), .str (Str.ofString "in"), .str (Str.ofString "is"), .str (Str.ofString "len"), .str (Str.ofString "let"), .str (Str.ofString "list"), .str (Str.ofString "none"), .str (Str.ofString "not"), .str (Str.ofString "number"), .str (Str.ofString "on"), .str (Str.ofString "or"), .str (Str.ofString "pass"), .str (Str.ofString "raises"), .str (Str.ofString "return"), .str (Str.ofString "set"), .str (Str.ofString "skip"), .str (Str.ofString "test"), .str (Str.ofString "try"), .str (Str.ofString "under"), .str (Str.ofString "word")]
/-- what the top leaves: where the defs stand, which names are built-in -/
structure Txt (K : PySem.W.Frag) (mg : Str → Option Value) where
  f_consists_of : Addr
  fd_consists_of : FuncData
  F_consists_of : Fun K "consists_of" "consists_of" s_consists_of f_consists_of fd_consists_of
  b_consists_of : Binds K fd_consists_of ["text", "characters"] []
  g_consists_of : mg "consists_of" = some (.ref f_consists_of)
  f_is_integer : Addr
  fd_is_integer : FuncData
  F_is_integer : Fun K "is_integer" "is_integer" s_is_integer f_is_integer fd_is_integer
  b_is_integer : Binds K fd_is_integer ["thing"] []
  g_is_integer : mg "is_integer" = some (.ref f_is_integer)
  f_is_small_word : Addr
  fd_is_small_word : FuncData
  F_is_small_word : Fun K "is_small_word" "is_small_word" s_is_small_word f_is_small_word fd_is_small_word
  b_is_small_word : Binds K fd_is_small_word ["thing", "most"] []
  g_is_small_word : mg "is_small_word" = some (.ref f_is_small_word)
  f_is_class_name : Addr
  fd_is_class_name : FuncData
  F_is_class_name : Fun K "is_class_name" "is_class_name" s_is_class_name f_is_class_name fd_is_class_name
  b_is_class_name : Binds K fd_is_class_name ["thing"] []
  g_is_class_name : mg "is_class_name" = some (.ref f_is_class_name)
  f_is_item : Addr
  fd_is_item : FuncData
  F_is_item : Fun K "is_item" "is_item" s_is_item f_is_item fd_is_item
  b_is_item : Binds K fd_is_item ["thing"] []
  g_is_item : mg "is_item" = some (.ref f_is_item)
  f_is_raised : Addr
  fd_is_raised : FuncData
  F_is_raised : Fun K "is_raised" "is_raised" s_is_raised f_is_raised fd_is_raised
  b_is_raised : Binds K fd_is_raised ["thing"] []
  g_is_raised : mg "is_raised" = some (.ref f_is_raised)
  f_is_answer : Addr
  fd_is_answer : FuncData
  F_is_answer : Fun K "is_answer" "is_answer" s_is_answer f_is_answer fd_is_answer
  b_is_answer : Binds K fd_is_answer ["thing"] []
  g_is_answer : mg "is_answer" = some (.ref f_is_answer)
  f_weight : Addr
  fd_weight : FuncData
  F_weight : Fun K "weight" "weight" s_weight f_weight fd_weight
  b_weight : Binds K fd_weight ["answer"] []
  g_weight : mg "weight" = some (.ref f_weight)
  f_total_weight : Addr
  fd_total_weight : FuncData
  F_total_weight : Fun K "total_weight" "total_weight" s_total_weight f_total_weight fd_total_weight
  b_total_weight : Binds K fd_total_weight ["answers"] []
  g_total_weight : mg "total_weight" = some (.ref f_total_weight)
  f_copied : Addr
  fd_copied : FuncData
  F_copied : Fun K "copied" "copied" s_copied f_copied fd_copied
  b_copied : Binds K fd_copied ["answer"] []
  g_copied : mg "copied" = some (.ref f_copied)
  f_is_name : Addr
  fd_is_name : FuncData
  F_is_name : Fun K "is_name" "is_name" s_is_name f_is_name fd_is_name
  b_is_name : Binds K fd_is_name ["thing"] []
  g_is_name : mg "is_name" = some (.ref f_is_name)
  f_is_number_text : Addr
  fd_is_number_text : FuncData
  F_is_number_text : Fun K "is_number_text" "is_number_text" s_is_number_text f_is_number_text fd_is_number_text
  b_is_number_text : Binds K fd_is_number_text ["text"] []
  g_is_number_text : mg "is_number_text" = some (.ref f_is_number_text)
  f_is_string_text : Addr
  fd_is_string_text : FuncData
  F_is_string_text : Fun K "is_string_text" "is_string_text" s_is_string_text f_is_string_text fd_is_string_text
  b_is_string_text : Binds K fd_is_string_text ["text"] []
  g_is_string_text : mg "is_string_text" = some (.ref f_is_string_text)
  f_is_constant_text : Addr
  fd_is_constant_text : FuncData
  F_is_constant_text : Fun K "is_constant_text" "is_constant_text" s_is_constant_text f_is_constant_text fd_is_constant_text
  b_is_constant_text : Binds K fd_is_constant_text ["text"] []
  g_is_constant_text : mg "is_constant_text" = some (.ref f_is_constant_text)
  f_is_call : Addr
  fd_is_call : FuncData
  F_is_call : Fun K "is_call" "is_call" s_is_call f_is_call fd_is_call
  b_is_call : Binds K fd_is_call ["thing"] []
  g_is_call : mg "is_call" = some (.ref f_is_call)
  f_is_path : Addr
  fd_is_path : FuncData
  F_is_path : Fun K "is_path" "is_path" s_is_path f_is_path fd_is_path
  bd_is_path : ∃ ds, Vals [V.bl false] ds ∧ Binds K fd_is_path ["thing", "ageing"] ds
  bk_is_path : KBn K fd_is_path ["thing", "ageing"] 1 ["ageing"] (fun us ws => us ++ ws) (fun vs zs => vs ++ zs)
  b0_is_path : KBn K fd_is_path ["thing", "ageing"] 0 ["thing", "ageing"] (fun us ws => us ++ ws) (fun vs zs => vs ++ zs)
  g_is_path : mg "is_path" = some (.ref f_is_path)
  f_is_entry : Addr
  fd_is_entry : FuncData
  F_is_entry : Fun K "is_entry" "is_entry" s_is_entry f_is_entry fd_is_entry
  b_is_entry : Binds K fd_is_entry ["thing", "ageing"] []
  g_is_entry : mg "is_entry" = some (.ref f_is_entry)
  f_law_weight : Addr
  fd_law_weight : FuncData
  F_law_weight : Fun K "_law_weight" "_law_weight" s_law_weight f_law_weight fd_law_weight
  b_law_weight : Binds K fd_law_weight ["answer"] []
  g_law_weight : mg "_law_weight" = some (.ref f_law_weight)
  f_law_answer_at : Addr
  fd_law_answer_at : FuncData
  F_law_answer_at : Fun K "_law_answer_at" "_law_answer_at" s_law_answer_at f_law_answer_at fd_law_answer_at
  b_law_answer_at : Binds K fd_law_answer_at ["pairs", "path"] []
  g_law_answer_at : mg "_law_answer_at" = some (.ref f_law_answer_at)
  f_law_kept : Addr
  fd_law_kept : FuncData
  F_law_kept : Fun K "_law_kept" "_law_kept" s_law_kept f_law_kept fd_law_kept
  b_law_kept : Binds K fd_law_kept ["pairs"] []
  g_law_kept : mg "_law_kept" = some (.ref f_law_kept)
  f_law_equal : Addr
  fd_law_equal : FuncData
  F_law_equal : Fun K "_law_equal" "_law_equal" s_law_equal f_law_equal fd_law_equal
  b_law_equal : Binds K fd_law_equal ["one", "other"] []
  g_law_equal : mg "_law_equal" = some (.ref f_law_equal)
  f_law_are_entries : Addr
  fd_law_are_entries : FuncData
  F_law_are_entries : Fun K "_law_are_entries" "_law_are_entries" s_law_are_entries f_law_are_entries fd_law_are_entries
  b_law_are_entries : Binds K fd_law_are_entries ["told", "pairs"] []
  g_law_are_entries : mg "_law_are_entries" = some (.ref f_law_are_entries)
  f_law_is_integer : Addr
  fd_law_is_integer : FuncData
  F_law_is_integer : Fun K "_law_is_integer" "_law_is_integer" s_law_is_integer f_law_is_integer fd_law_is_integer
  b_law_is_integer : Binds K fd_law_is_integer ["thing"] []
  g_law_is_integer : mg "_law_is_integer" = some (.ref f_law_is_integer)
  f_law_bag : Addr
  fd_law_bag : FuncData
  F_law_bag : Fun K "_law_bag" "_law_bag" s_law_bag f_law_bag fd_law_bag
  b_law_bag : Binds K fd_law_bag ["script", "at"] []
  g_law_bag : mg "_law_bag" = some (.ref f_law_bag)
  f_law_take : Addr
  fd_law_take : FuncData
  F_law_take : Fun K "_law_take" "_law_take" s_law_take f_law_take fd_law_take
  b_law_take : Binds K fd_law_take ["bag", "many"] []
  g_law_take : mg "_law_take" = some (.ref f_law_take)
  f_law_of : Addr
  fd_law_of : FuncData
  F_law_of : Fun K "_law_of" "_law_of" s_law_of f_law_of fd_law_of
  b_law_of : Binds K fd_law_of ["bag", "some"] []
  g_law_of : mg "_law_of" = some (.ref f_law_of)
  f_law_number : Addr
  fd_law_number : FuncData
  F_law_number : Fun K "_law_number" "_law_number" s_law_number f_law_number fd_law_number
  b_law_number : Binds K fd_law_number ["bag", "near"] []
  g_law_number : mg "_law_number" = some (.ref f_law_number)
  f_law_written : Addr
  fd_law_written : FuncData
  F_law_written : Fun K "_law_written" "_law_written" s_law_written f_law_written fd_law_written
  b_law_written : Binds K fd_law_written ["value"] []
  g_law_written : mg "_law_written" = some (.ref f_law_written)
  f_law_word : Addr
  fd_law_word : FuncData
  F_law_word : Fun K "_law_word" "_law_word" s_law_word f_law_word fd_law_word
  b_law_word : Binds K fd_law_word ["bag", "most"] []
  g_law_word : mg "_law_word" = some (.ref f_law_word)
  f_law_name : Addr
  fd_law_name : FuncData
  F_law_name : Fun K "_law_name" "_law_name" s_law_name f_law_name fd_law_name
  b_law_name : Binds K fd_law_name ["bag"] []
  g_law_name : mg "_law_name" = some (.ref f_law_name)
  f_law_family : Addr
  fd_law_family : FuncData
  F_law_family : Fun K "_law_family" "_law_family" s_law_family f_law_family fd_law_family
  b_law_family : Binds K fd_law_family ["bag", "most"] []
  g_law_family : mg "_law_family" = some (.ref f_law_family)
  f_law_core : Addr
  fd_law_core : FuncData
  F_law_core : Fun K "_law_core" "_law_core" s_law_core f_law_core fd_law_core
  b_law_core : Binds K fd_law_core ["bag", "calls", "flags", "classes"] []
  g_law_core : mg "_law_core" = some (.ref f_law_core)
  f_law_path : Addr
  fd_law_path : FuncData
  F_law_path : Fun K "_law_path" "_law_path" s_law_path f_law_path fd_law_path
  b_law_path : Binds K fd_law_path ["bag", "texts", "aged"] []
  g_law_path : mg "_law_path" = some (.ref f_law_path)
  f_law_near : Addr
  fd_law_near : FuncData
  F_law_near : Fun K "_law_near" "_law_near" s_law_near f_law_near fd_law_near
  b_law_near : Binds K fd_law_near ["bag", "kit"] []
  g_law_near : mg "_law_near" = some (.ref f_law_near)
  f_law_any_answer : Addr
  fd_law_any_answer : FuncData
  F_law_any_answer : Fun K "_law_any_answer" "_law_any_answer" s_law_any_answer f_law_any_answer fd_law_any_answer
  b_law_any_answer : Binds K fd_law_any_answer ["bag", "kit"] []
  g_law_any_answer : mg "_law_any_answer" = some (.ref f_law_any_answer)
  f_law_drawn_pairs : Addr
  fd_law_drawn_pairs : FuncData
  F_law_drawn_pairs : Fun K "_law_drawn_pairs" "_law_drawn_pairs" s_law_drawn_pairs f_law_drawn_pairs fd_law_drawn_pairs
  b_law_drawn_pairs : Binds K fd_law_drawn_pairs ["bag", "kit", "texts", "aged", "many"] []
  g_law_drawn_pairs : mg "_law_drawn_pairs" = some (.ref f_law_drawn_pairs)
  f_law_any_constant : Addr
  fd_law_any_constant : FuncData
  F_law_any_constant : Fun K "_law_any_constant" "_law_any_constant" s_law_any_constant f_law_any_constant fd_law_any_constant
  b_law_any_constant : Binds K fd_law_any_constant ["bag"] []
  g_law_any_constant : mg "_law_any_constant" = some (.ref f_law_any_constant)
  f_law_call_text : Addr
  fd_law_call_text : FuncData
  F_law_call_text : Fun K "_law_call_text" "_law_call_text" s_law_call_text f_law_call_text fd_law_call_text
  b_law_call_text : Binds K fd_law_call_text ["name", "values"] []
  g_law_call_text : mg "_law_call_text" = some (.ref f_law_call_text)
  f_law_keywords : Addr
  fd_law_keywords : FuncData
  F_law_keywords : Fun K "_law_keywords" "_law_keywords" s_law_keywords f_law_keywords fd_law_keywords
  b_law_keywords : Binds K fd_law_keywords [] []
  g_law_keywords : mg "_law_keywords" = some (.ref f_law_keywords)
  f_law_any_name : Addr
  fd_law_any_name : FuncData
  F_law_any_name : Fun K "_law_any_name" "_law_any_name" s_law_any_name f_law_any_name fd_law_any_name
  b_law_any_name : Binds K fd_law_any_name ["bag"] []
  g_law_any_name : mg "_law_any_name" = some (.ref f_law_any_name)
  f_law_any_call : Addr
  fd_law_any_call : FuncData
  F_law_any_call : Fun K "_law_any_call" "_law_any_call" s_law_any_call f_law_any_call fd_law_any_call
  b_law_any_call : Binds K fd_law_any_call ["bag"] []
  g_law_any_call : mg "_law_any_call" = some (.ref f_law_any_call)
  f_law_some_texts : Addr
  fd_law_some_texts : FuncData
  F_law_some_texts : Fun K "_law_some_texts" "_law_some_texts" s_law_some_texts f_law_some_texts fd_law_some_texts
  b_law_some_texts : Binds K fd_law_some_texts ["bag", "many"] []
  g_law_some_texts : mg "_law_some_texts" = some (.ref f_law_some_texts)
  f_law_copy : Addr
  fd_law_copy : FuncData
  F_law_copy : Fun K "_law_copy" "_law_copy" s_law_copy f_law_copy fd_law_copy
  b_law_copy : Binds K fd_law_copy ["pairs"] []
  g_law_copy : mg "_law_copy" = some (.ref f_law_copy)
  f_law_is_right : Addr
  fd_law_is_right : FuncData
  F_law_is_right : Fun K "_law_is_right" "_law_is_right" s_law_is_right f_law_is_right fd_law_is_right
  b_law_is_right : Binds K fd_law_is_right ["part", "due", "aged"] []
  g_law_is_right : mg "_law_is_right" = some (.ref f_law_is_right)
  C_Part : Addr
  gC_Part : mg "Part" = some (.ref C_Part)
  cl_Part : Cls K C_Part
  tp_Part : OwnFacts K C_Part
  nA_Part_ageing : NoAttr K C_Part "ageing"
  nA_Part__answers : NoAttr K C_Part "_answers"
  e_Part___init___0 : Addr
  f_Part___init__ : Addr
  fd_Part___init__ : FuncData
  F_Part___init__ : FunD K "__init__" "Part.__init__" (defArgs s_Part___init__) (defBody s_Part___init__) (defScope s_Part___init__) [V.ref e_Part___init___0] [("ageing", V.bl false)] f_Part___init__ fd_Part___init__
  bk_Part___init__ : KBn K fd_Part___init__ ["self", "entries", "ageing"] 2 ["ageing"] (fun us ws => us ++ ws) (fun vs zs => vs ++ zs)
  bp_Part___init__ : ∃ ds, Vals [V.bl false] ds ∧ Binds K fd_Part___init__ ["self", "entries", "ageing"] ds
  bz_Part___init__ : ∃ ds, Vals [V.ref e_Part___init___0, V.bl false] ds ∧ Binds K fd_Part___init__ ["self", "entries", "ageing"] ds
  q_Part___init___0 : ∀ H : Hp, SqT K H e_Part___init___0 []
  n_Part___init__ : PySem.W.isFn K (.ref f_Part___init__) = true
  mk_Part : Mk K C_Part f_Part___init__
  f_Part_entries : Addr
  fd_Part_entries : FuncData
  F_Part_entries : Fun K "entries" "Part.entries" s_Part_entries f_Part_entries fd_Part_entries
  b_Part_entries : Binds K fd_Part_entries ["self"] []
  n_Part_entries : PySem.W.isFn K (.ref f_Part_entries) = true
  p_Part_entries : Addr
  pr_Part_entries : PropOf K C_Part "entries" p_Part_entries f_Part_entries
  f_Part_weight : Addr
  fd_Part_weight : FuncData
  F_Part_weight : Fun K "weight" "Part.weight" s_Part_weight f_Part_weight fd_Part_weight
  b_Part_weight : Binds K fd_Part_weight ["self"] []
  n_Part_weight : PySem.W.isFn K (.ref f_Part_weight) = true
  p_Part_weight : Addr
  pr_Part_weight : PropOf K C_Part "weight" p_Part_weight f_Part_weight
  f_Part___len__ : Addr
  fd_Part___len__ : FuncData
  F_Part___len__ : Fun K "__len__" "Part.__len__" s_Part___len__ f_Part___len__ fd_Part___len__
  b_Part___len__ : Binds K fd_Part___len__ ["self"] []
  n_Part___len__ : PySem.W.isFn K (.ref f_Part___len__) = true
  o_Part___len__ : PySem.W.findIn K (.ref C_Part) "__len__" = some (some (.ref f_Part___len__))
  f_Part___eq__ : Addr
  fd_Part___eq__ : FuncData
  F_Part___eq__ : Fun K "__eq__" "Part.__eq__" s_Part___eq__ f_Part___eq__ fd_Part___eq__
  b_Part___eq__ : Binds K fd_Part___eq__ ["self", "other"] []
  n_Part___eq__ : PySem.W.isFn K (.ref f_Part___eq__) = true
  o_Part___eq__ : PySem.W.findIn K (.ref C_Part) "__eq__" = some (some (.ref f_Part___eq__))
  cC_BadPart : Addr
  cI_BadPart : Addr
  cfd_BadPart : FuncData
  cF_BadPart : Fun K "__init__" "BadPart.__init__" si_BadPart cI_BadPart cfd_BadPart
  cb_BadPart : Binds K cfd_BadPart ["self", "at"] []
  cE_BadPart : ErrC K mg "BadPart" "at" cC_BadPart cI_BadPart
  m_abs : mg "abs" = none
  m_all : mg "all" = none
  m_bool : mg "bool" = none
  m_enumerate : mg "enumerate" = none
  m_int : mg "int" = none
  m_isinstance : mg "isinstance" = none
  m_len : mg "len" = none
  m_list : mg "list" = none
  m_max : mg "max" = none
  m_min : mg "min" = none
  m_range : mg "range" = none
  m_repr : mg "repr" = none
  m_sorted : mg "sorted" = none
  m_str : mg "str" = none
  m_sum : mg "sum" = none
  m_tuple : mg "tuple" = none
  c_SMALL_LETTERS : ∃ t, mg "SMALL_LETTERS" = some (.str "abcdefghijklmnopqrstuvwxyz" t)
  c_CAPITAL_LETTERS : ∃ t, mg "CAPITAL_LETTERS" = some (.str "ABCDEFGHIJKLMNOPQRSTUVWXYZ" t)
  c_DIGITS : ∃ t, mg "DIGITS" = some (.str "0123456789" t)
  c_MOST_CLASS_LETTERS : ∃ t, mg "MOST_CLASS_LETTERS" = some (.int 12 t)
  c_MOST_WORD_LETTERS : ∃ t, mg "MOST_WORD_LETTERS" = some (.int 30 t)
  a_KEYWORDS : Addr
  c_KEYWORDS : mg "KEYWORDS" = some (.ref a_KEYWORDS)
  q_KEYWORDS : ∀ H : Hp, SqT K H a_KEYWORDS vals_KEYWORDS
  c_MOST_NAME_LETTERS : ∃ t, mg "MOST_NAME_LETTERS" = some (.int 12 t)
  c_MOST_STRING_LETTERS : ∃ t, mg "MOST_STRING_LETTERS" = some (.int 8 t)
  c_MOST_DIGITS : ∃ t, mg "MOST_DIGITS" = some (.int 30 t)
  c_MOST_CONSTANTS : ∃ t, mg "MOST_CONSTANTS" = some (.int 3 t)
local macro_rules | `(tactic| walk_at "lw list") => `(tactic| first | assumption | exact upd_same | (rw [upd_ne (by assumption)]; assumption))
local macro_rules | `(tactic| walk_at "lw c") => `(tactic| first
  | (show (_ : Int) ≠ 0; omega)
  | exact log_small (by omega) (by assumption)
  | exact Or.inl ⟨by omega, by omega⟩
  | exact Or.inr ⟨by omega, by omega⟩
  | exact ⟨by omega, by omega⟩
  | exact ⟨by omega, by omega, by omega⟩)
local macro_rules | `(tactic| walk_at "lw n") => `(tactic| first | exact Nat.zero_le _ | (refine Nat.le_of_lt (small1000 ?_); simp only [List.length_cons, List.length_nil]; decide))
local macro_rules | `(tactic| walk_at "lw v") => `(tactic| first
  | refine ⟨_, rfl, ?_⟩
  | refine ⟨_, _, rfl, rfl, ?_⟩
  | refine ⟨_, _, rfl, ?_⟩
  | refine .inl ⟨_, rfl, ?_⟩
  | refine ⟨⟨_, rfl⟩, ?_⟩
  | refine ⟨rfl, ?_⟩
  | (refine' ⟨_, _, _, _, rfl, rfl, SqL.of ?h, ?r, ?_⟩; (case h => walk_at "lw list"); (case r => rfl))
  | (refine' ⟨_, _, _, _, rfl, rfl, ?h, ?r, ?_⟩; (case h => walk_at "lw list"); (case r => rfl))
  | (refine' ⟨_, _, rfl, .inl ⟨_, SqL.of ?h, rfl⟩, ?_⟩; (case h => walk_at "lw list"))
  | (refine' ⟨_, _, rfl, .inl ⟨_, ?h, rfl⟩, ?_⟩; (case h => assumption))
  | (refine' ⟨_, _, rfl, .inr ⟨_, ?h, rfl⟩, ?_⟩; (case h => assumption))
  | (refine ⟨_, _, rfl, ⟨(by have := PySem.sizeLine_eq; omega), rfl⟩, ?_⟩)
  | (refine ⟨(by walk_at "lw c"), ?_⟩))
local macro_rules | `(tactic| walk_at "lw isi") => `(tactic| (refine' ⟨_, _, _, _, _, rfl, .ty _, ?ty, ?k, ?_⟩; (case ty => first | exact ty_int | exact ty_str | exact ty_non | exact ty_bl | exact ty_lst (by assumption) | exact ty_tup (by assumption) | exact ty_sqL (by assumption) | exact ty_sqT (by assumption)); (case k => first | (refine kit_of2 true ?_; decide +kernel) | (refine kit_of2 false ?_; decide +kernel))))
local macro_rules | `(tactic| walk_at "lw w") => `(tactic| first | walk_at "lw v" | walk_at "lw isi")

/-! ### own errors, defs with a star -/
/-- __init__ of an error with one field -/
def sp_init (f : Str) (C : Addr) : Sp := fun vs H Q _ => ∃ (a : Addr) (v : V), vs = [.ref a, v] ∧ H a = some (exo a C none) ∧ ∀ dx, H dx = none → dx ≠ a → Q .non (upd (upd H dx (exd dx [(f, v)])) a (exo a C (some dx)))
/-- an error is made: what its making asks -/
theorem mk_err {f : Str} {C : Addr} {v : V} {H1 : Hp} {Q : XK} (h : ∀ d, H1 d = none → Q (.ref C) (some d) (upd H1 d (.xd [(f, v)]))) :
    [v].length ≤ 1000 ∧ ∀ a, H1 a = none → sp_init f C (.ref a :: ([v] ++ [])) (upd H1 a (exo a C none))
      (fun u H2 => u = .non ∧ ∃ (d : Addr) (fs : List (Str × V)), H2 a = some (exo a C (some d)) ∧ H2 d = some (exd d fs) ∧ H1 d = none ∧ Q (.ref C) (some d) (upd (del H2 a) d (.xd fs))) (fun _ _ _ => False) := by
  refine ⟨(show 1 ≤ 1000 by decide), fun a na => ⟨a, v, rfl, upd_same, fun dx nd ne => ⟨rfl, dx, [(f, v)], upd_same, ?_, ?_, ?_⟩⟩⟩
  · rw [upd_ne ne]
    exact upd_same
  · rw [upd_ne ne] at nd
    exact nd
  · have e : upd (del (upd (upd (upd H1 a (exo a C none)) dx (exd dx [(f, v)])) a (exo a C (some dx))) a) dx (.xd [(f, v)]) = upd H1 dx (.xd [(f, v)]) := by
      funext q
      by_cases h1 : q = dx
      · rw [h1, upd_same, upd_same]
      · rw [upd_ne h1, upd_ne h1]
        by_cases h2 : q = a
        · rw [h2, del_same, na]
        · rw [del_ne h2, upd_ne h2, upd_ne h1, upd_ne h2]
    rw [e]
    rw [upd_ne ne] at nd
    exact h dx nd

/-! ### words -/
/-- a word: small letters, at most m -/
def IsWord (z : Str) (m : Nat) : Prop := z.length ≤ m ∧ z.cps.toList.all isLow = true
/-- texts joined, as lists of codes -/
def joinL (sep : List Nat) : List (List Nat) → List Nat
  | [] => []
  | [x] => x
  | x :: y :: r => x ++ sep ++ joinL sep (y :: r)
theorem str_join_list (sep : Str) : ∀ ys : List Str, (Str.join sep ys).cps.toList = joinL sep.cps.toList (ys.map fun y => y.cps.toList)
  | [] => rfl
  | [x] => rfl
  | x :: y :: r => by
    have ih := str_join_list sep (y :: r)
    show ((x.cps ++ sep.cps) ++ (Str.join sep (y :: r)).cps).toList = _
    rw [Array.toList_append, Array.toList_append, ih]
    rfl
theorem join_list (sep : Str) (ys : List Str) : (Txt.join sep ys).cps.toList = joinL sep.cps.toList (ys.map fun y => y.cps.toList) := by
  show (PySem.Builtin.Str.glued sep ys).cps.toList = _
  rw [StrLaws.glued_eq_join]
  exact str_join_list sep ys
theorem joinL_nil : ∀ ls : List (List Nat), joinL [] ls = ls.flatten
  | [] => rfl
  | [x] => by simp [joinL]
  | x :: y :: r => by
    show x ++ [] ++ joinL [] (y :: r) = _
    rw [joinL_nil (y :: r), List.append_nil]
    rfl
theorem joined_word {ys : List Str} {m : Nat} (h : ys.length ≤ m) (h1 : ∀ y ∈ ys, ∃ c, y = ⟨#[c]⟩ ∧ isLow c = true) : IsWord (Txt.join (Str.ofString "") ys) m := by
  have e : (Txt.join (Str.ofString "") ys).cps.toList = (ys.map fun y => y.cps.toList).flatten := by
    rw [join_list, show (Str.ofString "").cps.toList = [] from rfl, joinL_nil]
  have g : ∀ ys : List Str, (∀ y ∈ ys, ∃ c, y = ⟨#[c]⟩ ∧ isLow c = true) → ((ys.map fun y => y.cps.toList).flatten).length = ys.length ∧ ((ys.map fun y => y.cps.toList).flatten).all isLow = true := by
    intro ys
    induction ys with
    | nil => intro _; exact ⟨rfl, rfl⟩
    | cons y r ih =>
      intro h
      obtain ⟨c, rfl, hc⟩ := h y List.mem_cons_self
      obtain ⟨i1, i2⟩ := ih fun z hz => h z (List.mem_cons_of_mem _ hz)
      have e : ((Str.mk #[c] :: r).map fun y => y.cps.toList).flatten = c :: (r.map fun y => y.cps.toList).flatten := rfl
      rw [e]
      refine ⟨?_, ?_⟩
      · rw [List.length_cons, i1, List.length_cons]
      · rw [List.all_cons, hc, i2]
        rfl
  obtain ⟨g1, g2⟩ := g ys h1
  refine ⟨?_, ?_⟩
  · show (Txt.join (Str.ofString "") ys).cps.size ≤ m
    rw [← Array.length_toList, e, g1]
    exact h
  · rw [e]
    exact g2

theorem e30 : (10 : Int) ^ (Int.toNat 30) = 1000000000000000000000000000000 := by decide +kernel
def IsNum (i : Int) : Prop := -1000000000000000000000000000000 < i ∧ i < 1000000000000000000000000000000

/-! ### the draws -/
/-- the bag of draws at b: its last number is at most n -/
def Bag (H : Hp) (b : Addr) (n : Int) : Prop := ∃ x y z : Int, H b = some (.lst [.int x, .int y, .int z]) ∧ 0 ≤ x ∧ 0 ≤ y ∧ y ≤ 2000000000 ∧ 0 ≤ z ∧ z ≤ n
/-- all that was tracked stands as it stood, but what stands at b -/
def Keep (b : Addr) (H H' : Hp) : Prop := ∀ q o, q ≠ b → H q = some o → H' q = some o
theorem Keep.refl (b : Addr) (H : Hp) : Keep b H H := fun _ _ _ h => h
theorem Keep.trans {b : Addr} {H H1 H2 : Hp} (x : Keep b H H1) (y : Keep b H1 H2) : Keep b H H2 := fun q o n h => y q o n (x q o n h)
theorem Keep.upd (b : Addr) (H : Hp) (o : HO) : Keep b H (upd H b o) := fun q u n h => by rw [upd_ne n]; exact h
theorem Keep.new {b p : Addr} {H : Hp} {o : HO} (hp : H p = none) : Keep b H (L2.upd H p o) := fun q u _ h => by
  rw [upd_ne (ne_of_none h hp)]
  exact h
theorem Bag.new {b p : Addr} {H : Hp} {o : HO} {n : Int} (h : Bag H b n) (hp : H p = none) : Bag (L2.upd H p o) b n := by
  obtain ⟨x, y, z, e, r⟩ := h
  exact ⟨x, y, z, by rw [upd_ne (ne_of_none e hp)]; exact e, r⟩
theorem Bag.mono {b : Addr} {H : Hp} {n m : Int} (h : Bag H b n) (l : n ≤ m) : Bag H b m := by
  obtain ⟨x, y, z, e, r1, r2, r3, r4, r5⟩ := h
  exact ⟨x, y, z, e, r1, r2, r3, r4, by omega⟩
theorem Bag.ne {b p : Addr} {H : Hp} {n : Int} (h : Bag H b n) (hp : H p = none) : b ≠ p := by
  obtain ⟨x, y, z, e, _⟩ := h
  exact ne_of_none e hp
theorem same_new {H : Hp} {p : Addr} {o : HO} (h : H p = none) : Same H (upd H p o) := fun b x e => by
  rw [upd_ne (ne_of_none e h)]
  exact e

/-! ### any values -/
theorem op_mul_str {X : Cx} : OpR X (binaryOp .Mult) (fun x y H Q => ∃ z n, x = .str z ∧ y = .int n ∧ MulOk z n ∧ Q (.str (Txt.mul z n)) H) := by
  intro pins s σ H x y v u Q I rx ry h
  obtain ⟨i, j, rfl, rfl, hz, q⟩ := h
  obtain ⟨t, rfl⟩ := rx
  obtain ⟨t', rfl⟩ := ry
  exact PySem.SB.mul hz fun t' tk => ⟨.str _, H, I.tok _, ⟨_, rfl⟩, q⟩
/-- what was not tracked in H -/
def since (H H' : Hp) : Hp := fun q => match H q with | none => H' q | some _ => none
theorem since_some {H H' : Hp} {q : Addr} {o : HO} (h : since H H' q = some o) : H q = none ∧ H' q = some o := by
  unfold since at h
  cases e : H q with
  | none => rw [e] at h; exact ⟨rfl, h⟩
  | some _ => rw [e] at h; cases h
theorem since_of {H H' : Hp} {q : Addr} {o : HO} (h : H q = none) (h' : H' q = some o) : since H H' q = some o := by
  unfold since
  rw [h]
  exact h'
theorem since_same {H H' : Hp} : Same (since H H') H' := fun _ _ h => (since_some h).2
/-- every place that H tracks is tracked in H' -/
def Dom (H H' : Hp) : Prop := ∀ q o, H q = some o → ∃ o', H' q = some o'
theorem Dom.refl (H : Hp) : Dom H H := fun _ o h => ⟨o, h⟩
theorem Dom.trans {H H1 H2 : Hp} (x : Dom H H1) (y : Dom H1 H2) : Dom H H2 := fun q o h => by
  obtain ⟨o', h'⟩ := x q o h
  exact y q o' h'
theorem Same.dom {H H' : Hp} (s : Same H H') : Dom H H' := fun q o h => ⟨o, s q o h⟩
theorem Keep.dom {b : Addr} {H H' : Hp} (k : Keep b H H') (h : ∃ o, H' b = some o) : Dom H H' := fun q o e => by
  by_cases n : q = b
  · rw [n]; exact h
  · exact ⟨o, k q o n e⟩
theorem Dom.free {H H' : Hp} (d : Dom H H') {q : Addr} (h : H' q = none) : H q = none := by
  cases e : H q with
  | none => rfl
  | some o =>
    obtain ⟨o', e'⟩ := d q o e
    rw [h] at e'
    cases e'
theorem since_mono {H0 H H' H'' : Hp} {b : Addr} (d : Dom H0 H) (hb : ∃ o, H b = some o) (k : Keep b H' H'') : Same (since H H') (since H0 H'') := fun q o h => by
  obtain ⟨h1, h2⟩ := since_some h
  have n : q ≠ b := fun e => by
    obtain ⟨o', e'⟩ := hb
    rw [e, e'] at h1
    cases h1
  exact since_of (d.free h1) (k q o n h2)
theorem since_mono0 {H0 H H' H'' : Hp} (d : Dom H0 H) (k : Same H' H'') : Same (since H H') (since H0 H'') := fun q o h => by
  obtain ⟨h1, h2⟩ := since_some h
  exact since_of (d.free h1) (k q o h2)
theorem SqL.same {K : PySem.W.Frag} {H H' : Hp} {a : Addr} {xs : List V} (s : Same H H') (h : SqL K H a xs) : SqL K H' a xs := s.seq h
theorem SqT.same {K : PySem.W.Frag} {H H' : Hp} {a : Addr} {xs : List V} (s : Same H H') (h : SqT K H a xs) : SqT K H' a xs := by
  rcases h with (h | ⟨o, h⟩) | h
  · exact .inl (.inl (s _ _ h))
  · exact .inl (.inr ⟨o, s _ _ h⟩)
  · exact .inr h
mutual
theorem Dp.same {K : PySem.W.Frag} {H H' : Hp} (s : Same H H') : ∀ (d : PyData) (v : V), Dp K H v d → Dp K H' v d
  | .none, _, h => by cases h; exact .non
  | .bool _, _, h => by cases h; exact .bl _
  | .int _, _, h => by cases h; exact .int _
  | .str _, _, h => by cases h; exact .str _
  | .list ds, _, h => by
    cases h with
    | lst hs ha => exact .lst (SqL.same s hs) (DpAll.same s ds _ ha)
  | .tuple ds, _, h => by
    cases h with
    | tup hs ha => exact .tup (SqT.same s hs) (DpAll.same s ds _ ha)
  | .dict _, _, h => by cases h
theorem DpAll.same {K : PySem.W.Frag} {H H' : Hp} (s : Same H H') : ∀ (ds : List PyData) (vs : List V), DpAll K H vs ds → DpAll K H' vs ds
  | [], _, h => by cases h; exact .nil
  | d :: r, _, h => by
    cases h with
    | cons h1 h2 => exact .cons (Dp.same s d _ h1) (DpAll.same s r _ h2)
end
theorem DpAll.snoc {K : PySem.W.Frag} {H : Hp} : ∀ {vs : List V} {ds : List PyData} {v : V} {d : PyData}, DpAll K H vs ds → Dp K H v d → DpAll K H (vs ++ [v]) (ds ++ [d])
  | _, _, _, _, .nil, h => .cons h .nil
  | _, _, _, _, .cons a b, h => .cons a (DpAll.snoc b h)
theorem DpAll.length {K : PySem.W.Frag} {H : Hp} : ∀ {vs : List V} {ds : List PyData}, DpAll K H vs ds → vs.length = ds.length
  | _, _, .nil => rfl
  | _, _, .cons _ b => by rw [List.length_cons, List.length_cons, DpAll.length b]
theorem DpAll.append {K : PySem.W.Frag} {H : Hp} : ∀ {vs ws : List V} {ds es : List PyData}, DpAll K H vs ds → DpAll K H ws es → DpAll K H (vs ++ ws) (ds ++ es)
  | _, _, _, _, .nil, h => h
  | _, _, _, _, .cons a b, h => .cons a (DpAll.append b h)
theorem DpAll.get {K : PySem.W.Frag} {H : Hp} : ∀ {vs : List V} {ds : List PyData} {i : Nat} {v : V}, DpAll K H vs ds → vs[i]? = some v → ∃ d, ds[i]? = some d ∧ Dp K H v d
  | _, _, _, _, .nil, h => by simp at h
  | _, _, 0, _, .cons a _, h => by
    simp at h
    subst h
    exact ⟨_, rfl, a⟩
  | _, _, i + 1, _, .cons _ b, h => by
    obtain ⟨d, h1, h2⟩ := DpAll.get (i := i) b (by simpa using h)
    exact ⟨d, by simpa using h1, h2⟩
theorem DpAll.mem {K : PySem.W.Frag} {H : Hp} : ∀ {vs : List V} {ds : List PyData} {v : V}, DpAll K H vs ds → v ∈ vs → ∃ d, d ∈ ds ∧ Dp K H v d
  | _, _, _, .nil, h => by cases h
  | _, _, v, .cons a b, h => by
    rcases List.mem_cons.mp h with e | e
    · subst e
      exact ⟨_, List.mem_cons_self, a⟩
    · obtain ⟨d, h1, h2⟩ := DpAll.mem b e
      exact ⟨d, List.mem_cons_of_mem _ h1, h2⟩
mutual
/-- texts of at most a hundred thousand signs, lists of at most a thousand, no dict -/
def fine : PyData → Bool
  | .str z => decide (z.length ≤ 100000) && PyData.strOk z
  | .list ds => decide (ds.length ≤ 1000) && fineAll ds
  | .tuple ds => decide (ds.length ≤ 1000) && fineAll ds
  | .dict _ => false
  | .none => true
  | .bool _ => true
  | .int _ => true
def fineAll : List PyData → Bool
  | [] => true
  | d :: r => fine d && fineAll r
end
theorem fineAll_mem : ∀ {ds : List PyData} {d : PyData}, fineAll ds = true → d ∈ ds → fine d = true
  | [], _, _, h => by cases h
  | e :: r, d, h, m => by
    unfold fineAll at h
    rw [Bool.and_eq_true] at h
    rcases List.mem_cons.mp m with q | q
    · rw [q]; exact h.1
    · exact fineAll_mem h.2 q
theorem fineAll_snoc : ∀ {ds : List PyData} {d : PyData}, fineAll ds = true → fine d = true → fineAll (ds ++ [d]) = true
  | [], d, _, h => by show (fine d && true) = true; rw [h]; rfl
  | e :: r, d, h, m => by
    unfold fineAll at h
    rw [Bool.and_eq_true] at h
    show (fine e && fineAll (r ++ [d])) = true
    rw [h.1, fineAll_snoc h.2 m]
    rfl
theorem depthAll_snoc : ∀ {ds : List PyData} {d : PyData} {n : Nat}, PyData.depthAll ds ≤ n → PyData.depth d ≤ n → PyData.depthAll (ds ++ [d]) ≤ n
  | [], d, n, _, h => by
    show max (PyData.depth d) 0 ≤ n
    omega
  | e :: r, d, n, h, m => by
    have h' : max (PyData.depth e) (PyData.depthAll r) ≤ n := h
    have := depthAll_snoc (ds := r) (n := n) (by omega) m
    show max (PyData.depth e) (PyData.depthAll (r ++ [d])) ≤ n
    omega
mutual
theorem canLay_fine : ∀ (d : PyData), fine d = true → PyData.canLay0 d = true
  | .none, _ => rfl
  | .bool _, _ => rfl
  | .int _, _ => rfl
  | .str z, h => by
    unfold fine at h
    rw [Bool.and_eq_true] at h
    exact h.2
  | .list ds, h => by
    unfold fine at h
    rw [Bool.and_eq_true] at h
    exact canLayAll_fine ds h.2
  | .tuple ds, h => by
    unfold fine at h
    rw [Bool.and_eq_true] at h
    exact canLayAll_fine ds h.2
  | .dict _, h => by cases h
theorem canLayAll_fine : ∀ (ds : List PyData), fineAll ds = true → PyData.canLayAll0 ds = true
  | [], _ => rfl
  | d :: r, h => by
    unfold fineAll at h
    rw [Bool.and_eq_true] at h
    show (PyData.canLay0 d && PyData.canLayAll0 r) = true
    rw [canLay_fine d h.1, canLayAll_fine r h.2]
    rfl
end
theorem shaped_fine {d : PyData} (h : fine d = true) (hd : PyData.depth d ≤ 64) : SeqAt.shaped d = true := by
  unfold SeqAt.shaped
  rw [canLay_fine d h, decide_eq_true hd]
  rfl
theorem since_step {Hd H' H3 H4 : Hp} {D b : Addr} (d : Dom Hd H') (hb : ∃ o, Hd b = some o) (hD : ∃ o, Hd D = some o) (k : Keep b H' H3) (h4 : ∀ q, q ≠ D → H4 q = H3 q) : Same (since Hd H') (since Hd H4) ∧ Same (since H' H3) (since Hd H4) := by
  have nn : ∀ {q : Addr} {p : Addr}, Hd q = none → (∃ o, Hd p = some o) → q ≠ p := fun {q p} h1 h2 e => by
    obtain ⟨o, h2⟩ := h2
    rw [e, h2] at h1
    cases h1
  refine ⟨fun q o h => ?_, fun q o h => ?_⟩
  · obtain ⟨h1, h2⟩ := since_some h
    refine since_of h1 ?_
    rw [h4 q (nn h1 hD)]
    exact k q o (nn h1 hb) h2
  · obtain ⟨h1, h2⟩ := since_some h
    have h0 := d.free h1
    refine since_of h0 ?_
    rw [h4 q (nn h0 hD)]
    exact h2
theorem Dom.upd {H : Hp} {p : Addr} {o : HO} : Dom H (L2.upd H p o) := fun q u h => by
  by_cases n : q = p
  · subst n
    exact ⟨o, upd_same⟩
  · exact ⟨u, by rw [upd_ne n]; exact h⟩
theorem Bag.has {H : Hp} {b : Addr} {n : Int} (h : Bag H b n) : ∃ o, H b = some o := by
  obtain ⟨x, y, z, e, _⟩ := h
  exact ⟨_, e⟩
theorem Bag.upd {b D : Addr} {H : Hp} {o : HO} {n : Int} (h : Bag H b n) (nb : b ≠ D) : Bag (L2.upd H D o) b n := by
  obtain ⟨x, y, z, e, r⟩ := h
  exact ⟨x, y, z, by rw [upd_ne nb]; exact e, r⟩

/-! ### words, names of classes, items, answers: what is said of a value -/
theorem up_in (c : Nat) : decide (c ∈ (Str.ofString "ABCDEFGHIJKLMNOPQRSTUVWXYZ").cps.toList) = isUp c := by
  have e : (Str.ofString "ABCDEFGHIJKLMNOPQRSTUVWXYZ").cps.toList = [65, 66, 67, 68, 69, 70, 71, 72, 73, 74, 75, 76, 77, 78, 79, 80, 81, 82, 83, 84, 85, 86, 87, 88, 89, 90] := by decide +kernel
  rw [e]
  unfold isUp
  refine decide_eq_decide.mpr ?_
  simp only [List.mem_cons, List.not_mem_nil, or_false]
  omega
theorem low_in (c : Nat) : decide (c ∈ (Str.ofString "abcdefghijklmnopqrstuvwxyz").cps.toList) = isLow c := by
  have e : (Str.ofString "abcdefghijklmnopqrstuvwxyz").cps.toList = [97, 98, 99, 100, 101, 102, 103, 104, 105, 106, 107, 108, 109, 110, 111, 112, 113, 114, 115, 116, 117, 118, 119, 120, 121, 122] := by decide +kernel
  rw [e]
  unfold isLow
  refine decide_eq_decide.mpr ?_
  simp only [List.mem_cons, List.not_mem_nil, or_false]
  omega
theorem lu_in (c : Nat) : decide (c ∈ (Str.ofString "abcdefghijklmnopqrstuvwxyz" ++ Str.ofString "ABCDEFGHIJKLMNOPQRSTUVWXYZ").cps.toList) = (isUp c || isLow c) := by
  have e : (Str.ofString "abcdefghijklmnopqrstuvwxyz" ++ Str.ofString "ABCDEFGHIJKLMNOPQRSTUVWXYZ").cps.toList = (Str.ofString "abcdefghijklmnopqrstuvwxyz").cps.toList ++ (Str.ofString "ABCDEFGHIJKLMNOPQRSTUVWXYZ").cps.toList := Array.toList_append
  rw [e, ← up_in, ← low_in, ← Bool.decide_or]
  refine decide_eq_decide.mpr ?_
  rw [List.mem_append, or_comm]
theorem ul_in (c : Nat) : decide (c ∈ (Str.ofString "ABCDEFGHIJKLMNOPQRSTUVWXYZ" ++ Str.ofString "abcdefghijklmnopqrstuvwxyz").cps.toList) = (isUp c || isLow c) := by
  have e : (Str.ofString "ABCDEFGHIJKLMNOPQRSTUVWXYZ" ++ Str.ofString "abcdefghijklmnopqrstuvwxyz").cps.toList = (Str.ofString "ABCDEFGHIJKLMNOPQRSTUVWXYZ").cps.toList ++ (Str.ofString "abcdefghijklmnopqrstuvwxyz").cps.toList := Array.toList_append
  rw [e, ← up_in, ← low_in, ← Bool.decide_or]
  refine decide_eq_decide.mpr ?_
  rw [List.mem_append]
def isIntD : PyData → Bool
  | .int _ => true
  | _ => false
def isWordZ (z : Str) (m : Nat) : Bool := decide (z.length ≤ m) && z.cps.toList.all isLow
def isWordD (m : Nat) : PyData → Bool
  | .str z => isWordZ z m
  | _ => false
def isItemD : PyData → Bool
  | .none => true
  | .int _ => true
  | .str z => isWordZ z 30
  | _ => false
def isClassL : List Nat → Bool
  | [] => false
  | c :: cs => decide (cs.length + 1 ≤ 12) && (isUp c && (c :: cs).all fun x => isUp x || isLow x)
theorem isClassL_cons (c : Nat) (cs : List Nat) : isClassL (c :: cs) = (decide (cs.length + 1 ≤ 12) && (isUp c && (c :: cs).all fun x => isUp x || isLow x)) := rfl
def isClassD : PyData → Bool
  | .str z => isClassL z.cps.toList
  | _ => false
def isRaisedD : List PyData → Bool
  | [w, k, c] => PyData.eqv w (.str (Str.ofString "raises")) && (isClassD k && (PyData.eqv c .none || isClassD c))
  | _ => false
def isRaisedT : PyData → Bool
  | .tuple ds => isRaisedD ds
  | _ => false
def isAnswerD : PyData → Bool
  | .list ds => ds.all isItemD
  | .tuple ds => isRaisedD ds
  | d => isItemD d
/-- a def that says yes or no of one value and leaves what was there -/
def sp_bool1 (K : PySem.W.Frag) (f : PyData → Bool) : Sp := fun vs H Q _ => ∃ (x : V) (d : PyData), vs = [x] ∧ Dp K H x d ∧ fine d = true ∧ PyData.depth d ≤ 60 ∧
  ∀ (r : Bool) (H' : Hp), r = f d → Same H H' → Q (.bl r) H'
/-- a text of at most a hundred thousand signs, or no text -/
def shortD : PyData → Bool
  | .str z => decide (z.length ≤ 100000)
  | _ => true
theorem short_fine {d : PyData} (h : fine d = true) : shortD d = true := by
  cases d with
  | str z =>
    unfold fine at h
    rw [Bool.and_eq_true] at h
    exact h.1
  | _ => rfl
def sp_word1 (K : PySem.W.Frag) : Sp := fun vs H Q _ => ∃ (x : V) (d : PyData) (m : Nat), vs = [x, .int m] ∧ Dp K H x d ∧ shortD d = true ∧
  ∀ (r : Bool) (H' : Hp), r = isWordD m d → Same H H' → Q (.bl r) H'
def sp_consists : Sp := fun vs H Q _ => ∃ (z cs : Str), vs = [.str z, .str cs] ∧ z.length ≤ 100000 ∧
  ∀ (r : Bool) (H' : Hp), r = (z.cps.toList.all fun c => decide (c ∈ cs.cps.toList)) → Same H H' → Q (.bl r) H'
theorem isItemD_eq (d : PyData) : isItemD d = (PyData.eqv d .none || (isIntD d || isWordD 30 d)) := by
  cases d <;> rfl
theorem non_eq {K : PySem.W.Frag} {H : Hp} {x : V} {d : PyData} (h : Dp K H x d) : decide (x = .non) = PyData.eqv d .none := by
  cases h <;> rfl
theorem fine_tup {ds : List PyData} (h : fine (.tuple ds) = true) : ds.length ≤ 1000 ∧ fineAll ds = true := by
  unfold fine at h
  rw [Bool.and_eq_true] at h
  exact ⟨of_decide_eq_true h.1, h.2⟩
theorem fine_lst {ds : List PyData} (h : fine (.list ds) = true) : ds.length ≤ 1000 ∧ fineAll ds = true := by
  unfold fine at h
  rw [Bool.and_eq_true] at h
  exact ⟨of_decide_eq_true h.1, h.2⟩
theorem depth_mem : ∀ {ds : List PyData} {d : PyData}, d ∈ ds → PyData.depth d ≤ PyData.depthAll ds
  | [], _, h => by cases h
  | e :: r, d, h => by
    show _ ≤ max (PyData.depth e) (PyData.depthAll r)
    rcases List.mem_cons.mp h with q | q
    · rw [q]
      omega
    · have := depth_mem q
      omega
theorem iteNT {c A B : Prop} [Decidable c] (hc : ¬ c) (h : A) : if (!decide c) = true then A else B := by
  rw [decide_eq_false hc]
  exact iteT h
theorem ifF {A B : Prop} {b : Bool} (e : b = false) (h : B) : if b = true then A else B := by
  rw [e]
  exact iteF h
theorem ifT {A B : Prop} {b : Bool} (e : b = true) (h : A) : if b = true then A else B := by
  rw [e]
  exact iteT h
theorem isAnswerD_eq {d : PyData} (h : ¬ ∃ ds, d = .list ds) : isAnswerD d = (isItemD d || isRaisedT d) := by
  cases d with
  | list ds => exact absurd ⟨ds, rfl⟩ h
  | tuple ds => rfl
  | none => rfl
  | bool b => rfl
  | int i => rfl
  | str z => show isWordZ z 30 = (isWordZ z 30 || false); rw [Bool.or_false]
  | dict k => rfl
theorem cut_up (c : Nat) : decide (c ∈ (cutS (Str.ofString "ABCDEFGHIJKLMNOPQRSTUVWXYZ" ++ Str.ofString "abcdefghijklmnopqrstuvwxyz") none (some 26)).cps.toList) = isUp c := by
  rw [show cutS (Str.ofString "ABCDEFGHIJKLMNOPQRSTUVWXYZ" ++ Str.ofString "abcdefghijklmnopqrstuvwxyz") none (some 26) = Str.ofString "ABCDEFGHIJKLMNOPQRSTUVWXYZ" by decide +kernel]
  exact up_in c

/-! ### texts cut and joined -/
theorem len_list (x : Str) : x.cps.toList.length = x.length := Array.length_toList
theorem at_iff2 {x y : Str} {k : Nat} : StrLaws.At x y x.length k ↔ k + y.length ≤ x.length ∧ (x.cps.toList.drop k).take y.length = y.cps.toList := by
  unfold StrLaws.At
  rw [StrLaws.subAt_eq]
  constructor
  · rintro ⟨h1, h2⟩
    exact ⟨h1, eq_of_beq h2⟩
  · rintro ⟨h1, h2⟩
    exact ⟨h1, by rw [h2]; exact beq_self_eq_true _⟩
/-- the separator ", " stands at k -/
def Sep2 : Str := Str.ofString ", "
theorem sep2_list : Sep2.cps.toList = [44, 32] := by decide +kernel
theorem sep2_len : Sep2.length = 2 := by decide +kernel
theorem take_two {l : List Nat} {a b : Nat} (h : l.take 2 = [a, b]) : ∃ r, l = a :: b :: r := by
  match l, h with
  | [], h => cases h
  | [_], h => cases h
  | x :: y :: r, h =>
    have e1 : x = a := by injection h
    have e2 : y = b := by injection h with _ h; injection h
    exact ⟨r, by rw [e1, e2]⟩
theorem at_sep {x : Str} {k : Nat} (h : StrLaws.At x Sep2 x.length k) : ∃ r, x.cps.toList.drop k = 44 :: 32 :: r := by
  obtain ⟨_, h2⟩ := at_iff2.mp h
  rw [sep2_len, sep2_list] at h2
  exact take_two h2
theorem sep_at {x : Str} {k : Nat} {r : List Nat} (h : x.cps.toList.drop k = 44 :: 32 :: r) : StrLaws.At x Sep2 x.length k := by
  refine at_iff2.mpr ⟨?_, ?_⟩
  · have := congrArg List.length h
    rw [List.length_drop, len_list, List.length_cons, List.length_cons] at this
    rw [sep2_len]
    omega
  · rw [h, sep2_len, sep2_list]
    rfl
theorem drop_get {l p t : List Nat} {a k : Nat} (h : l.drop a = p ++ t) (hk : a ≤ k) (hk2 : k < a + p.length) {c : Nat} {r : List Nat} (hc : l.drop k = c :: r) : c ∈ p := by
  have e : l.drop k = (l.drop a).drop (k - a) := by rw [List.drop_drop]; congr 1; omega
  rw [e, h, List.drop_append_of_le_length (by omega)] at hc
  have : p.drop (k - a) ≠ [] := by
    intro h0
    have := congrArg List.length h0
    rw [List.length_drop, List.length_nil] at this
    omega
  cases hd : p.drop (k - a) with
  | nil => exact absurd hd this
  | cons d q =>
    rw [hd] at hc
    have : d = c := by injection hc
    rw [← this]
    exact List.mem_of_mem_drop (hd ▸ List.mem_cons_self)
/-- the cuts of a joined text are where it was joined -/
theorem cuts_joined (x : Str) : ∀ (ps : List (List Nat)) (p : List Nat) (a : Nat) (cuts : List Nat) (f : Nat), (∀ q ∈ p :: ps, 44 ∉ q) → x.cps.toList.drop a = joinL [44, 32] (p :: ps) → a ≤ x.length →
    StrLaws.ChainG x Sep2 x.length a cuts f → (∀ k, f ≤ k → ¬ StrLaws.At x Sep2 x.length k) → (StrLaws.partsFrom x 2 a cuts).map (fun y => y.cps.toList) = p :: ps
  | [], p, a, cuts, f, hp, hd, ha, hc, hf => by
    have hd : x.cps.toList.drop a = p := hd
    cases cuts with
    | nil =>
      show [(PySem.Builtin.Str.strSub x a x.length).cps.toList] = [p]
      rw [StrLaws.strSub_toList, hd, List.take_of_length_le]
      rw [← hd, List.length_drop, len_list]
      exact Nat.le_refl _
    | cons c r =>
      exfalso
      obtain ⟨h1, h2, _⟩ := hc
      obtain ⟨t, ht⟩ := at_sep h2
      have hl : c < a + p.length := by
        have e1 := congrArg List.length ht
        have e2 := congrArg List.length hd
        rw [List.length_drop, List.length_cons] at e1
        rw [List.length_drop] at e2
        omega
      exact hp p List.mem_cons_self (drop_get (t := []) (by rw [List.append_nil]; exact hd) h1 hl ht)
  | p2 :: ps, p, a, cuts, f, hp, hd, ha, hc, hf => by
    have hd : x.cps.toList.drop a = p ++ [44, 32] ++ joinL [44, 32] (p2 :: ps) := hd
    have hd2 : x.cps.toList.drop (a + p.length) = 44 :: 32 :: joinL [44, 32] (p2 :: ps) := by
      rw [← List.drop_drop, hd, List.append_assoc, List.drop_left]
      rfl
    have hat := sep_at hd2
    cases cuts with
    | nil =>
      have : f = a := hc
      subst this
      exact absurd hat (hf _ (by omega))
    | cons c r =>
      obtain ⟨h1, h2, h3, h4⟩ := hc
      have hcc : c = a + p.length := by
        rcases Nat.lt_trichotomy c (a + p.length) with h | h | h
        · obtain ⟨t, ht⟩ := at_sep h2
          exact absurd (drop_get (t := [44, 32] ++ joinL [44, 32] (p2 :: ps)) (by rw [← List.append_assoc]; exact hd) h1 h ht) (hp p List.mem_cons_self)
        · exact h
        · exact absurd hat (h3 _ (by omega) h)
      subst hcc
      show (PySem.Builtin.Str.strSub x a (a + p.length)).cps.toList :: (StrLaws.partsFrom x 2 (a + p.length + 2) r).map (fun y => y.cps.toList) = _
      have hlen : a + p.length + 2 ≤ x.length := by
        have := (at_iff2.mp hat).1
        rw [sep2_len] at this
        exact this
      rw [cuts_joined x ps p2 (a + p.length + 2) r f (fun q hq => hp q (List.mem_cons_of_mem _ hq)) ?_ hlen (by rw [← sep2_len]; exact h4) hf]
      · rw [StrLaws.strSub_toList, hd, Nat.add_sub_cancel_left, List.append_assoc, List.take_left]
      · rw [← List.drop_drop, hd2]
        rfl
theorem strKind_sep : PySem.Builtin.Str.strKind Sep2 = 1 := by decide +kernel
theorem strKind_pos (x : Str) : 1 ≤ PySem.Builtin.Str.strKind x := by
  unfold PySem.Builtin.Str.strKind
  split
  · exact Nat.le_refl _
  · split <;> decide
/-- a joined text is split into what it was joined of -/
theorem split_joined {x : Str} {p : List Nat} {ps : List (List Nat)} (hx : x.cps.toList = joinL [44, 32] (p :: ps)) (hp : ∀ q ∈ p :: ps, 44 ∉ q) : (Txt.split x Sep2).map (fun y => y.cps.toList) = p :: ps := by
  obtain ⟨f, h1, h2⟩ := StrLaws.occ_tight x Sep2 (by rw [sep2_len]; decide)
  have key := cuts_joined x ps p 0 _ f hp hx (Nat.zero_le _) h1 h2
  unfold Txt.split
  split
  · rename_i hc
    rw [strKind_sep, sep2_len, decide_eq_false (show ¬ PySem.Builtin.Str.strKind x < 1 by have := strKind_pos x; omega), Bool.or_false] at hc
    have hl := of_decide_eq_true hc
    cases ps with
    | nil =>
      show [x.cps.toList] = [p]
      rw [hx]
      rfl
    | cons p2 ps =>
      exfalso
      have := congrArg List.length hx
      rw [len_list] at this
      have e : (joinL [44, 32] (p :: p2 :: ps)).length = p.length + 2 + (joinL [44, 32] (p2 :: ps)).length := by
        show (p ++ [44, 32] ++ joinL [44, 32] (p2 :: ps)).length = _
        rw [List.length_append, List.length_append]
        rfl
      omega
  · split
    · rename_i h0
      have h0 := List.isEmpty_iff.mp h0
      rw [h0] at key
      have e : (PySem.Builtin.Str.strSub x 0 x.length).cps.toList = x.cps.toList := by
        rw [StrLaws.strSub_toList, List.drop_zero, List.take_of_length_le]
        rw [len_list]
        exact Nat.le_refl _
      show [x.cps.toList] = _
      rw [← key, ← e]
      rfl
    · rw [StrLaws.partsBetween_eq, sep2_len]
      exact key
theorem str_ext {a b : Str} (h : a.cps.toList = b.cps.toList) : a = b := by
  obtain ⟨a⟩ := a
  obtain ⟨b⟩ := b
  have : a = b := Array.toList_inj.mp h
  rw [this]
/-- a name, an opening bracket and a rest, parted at the bracket -/
theorem partition_at {x : Str} {n r : List Nat} (hx : x.cps.toList = n ++ 40 :: r) (hn : 40 ∉ n) : Txt.partition x (Str.ofString "(") = (⟨n.toArray⟩, Str.ofString "(", ⟨r.toArray⟩) := by
  have hb : (Str.ofString "(").cps.toList = [40] := by decide +kernel
  have hbl : (Str.ofString "(").length = 1 := by decide +kernel
  have hxl : x.length = n.length + (r.length + 1) := by rw [← len_list, hx, List.length_append, List.length_cons]
  have hat : StrLaws.At x (Str.ofString "(") x.length n.length := by
    refine at_iff2.mpr ⟨by rw [hbl]; omega, ?_⟩
    rw [hx, List.drop_left, hbl, hb]
    rfl
  unfold Txt.partition
  rcases StrLaws.occ_head x (Str.ofString "(") 1 (Nat.le_refl 1) with ⟨h0, hn0⟩ | ⟨i, q, h0, hi, hm⟩
  · exact absurd hat (hn0 _)
  · have hin : i = n.length := by
      rcases Nat.lt_trichotomy i n.length with h | h | h
      · obtain ⟨_, h2⟩ := at_iff2.mp hi
        rw [hbl, hb] at h2
        exfalso
        cases hd : x.cps.toList.drop i with
        | nil => rw [hd] at h2; cases h2
        | cons c t =>
          rw [hd] at h2
          have : c = 40 := by injection h2
          subst this
          exact hn (drop_get (a := 0) (p := n) (t := 40 :: r) (by rw [List.drop_zero]; exact hx) (Nat.zero_le _) (by omega) hd)
      · exact h
      · exact absurd hat (hm _ h)
    rw [h0]
    subst hin
    refine Prod.ext (str_ext ?_) (Prod.ext rfl (str_ext ?_))
    · show (PySem.Builtin.Str.strSub x 0 n.length).cps.toList = n
      rw [StrLaws.strSub_toList, hx, List.drop_zero, Nat.sub_zero, List.take_left]
    · show (PySem.Builtin.Str.strSub x (n.length + (Str.ofString "(").length) x.length).cps.toList = r
      rw [StrLaws.strSub_toList, hx, hbl, ← List.drop_drop, List.drop_left, List.take_of_length_le]
      · rfl
      · show r.length ≤ _
        omega

/-! ### numbers as texts -/
def D10 (m : Nat) : List Nat := (Nat.toDigits 10 m).map Char.toNat
theorem digit_pos : ∀ d : Nat, d < 10 → 0 < d → 49 ≤ (Nat.digitChar d).toNat ∧ (Nat.digitChar d).toNat ≤ 57 := by decide
theorem D10_head : ∀ n : Nat, 0 < n → ∃ c r, D10 n = c :: r ∧ 49 ≤ c ∧ c ≤ 57 := by
  intro n
  induction n using Nat.strongRecOn with
  | _ n ih =>
    intro h0
    by_cases h : n < 10
    · refine ⟨_, [], by unfold D10; rw [Nat.toDigits_of_lt_base h]; rfl, (digit_pos n h h0).1, (digit_pos n h h0).2⟩
    · have t : Nat.toDigits 10 (n / 10) ++ Nat.toDigits 10 (n % 10) = Nat.toDigits 10 (10 * (n / 10) + n % 10) := Nat.toDigits_append_toDigits (by decide) (by omega) (Nat.mod_lt n (by decide))
      rw [Nat.div_add_mod] at t
      obtain ⟨c, r, e, h1, h2⟩ := ih (n / 10) (by omega) (by omega)
      refine ⟨c, r ++ (Nat.toDigits 10 (n % 10)).map Char.toNat, ?_, h1, h2⟩
      unfold D10 at e ⊢
      rw [← t, List.map_append, e]
      rfl
theorem D10_zero : D10 0 = [48] := by decide
def isDig (c : Nat) : Bool := decide (48 ≤ c ∧ c ≤ 57)
theorem D10_digs (m : Nat) : (D10 m).all isDig = true := by
  refine List.all_eq_true.mpr fun x hx => ?_
  obtain ⟨ch, hc, e⟩ := List.mem_map.mp hx
  have h1 : ch.isDigit = true := Nat.isDigit_of_mem_toDigits (by decide) (by decide) hc
  have := PyProof.Rows.digit_range h1
  exact decide_eq_true (by omega)
theorem D10_len {m : Nat} (h : m < 10 ^ 30) : (D10 m).length ≤ 30 := by
  unfold D10
  rw [List.length_map]
  exact (Nat.length_toDigits_le_iff (by decide) (by decide)).mpr h
theorem num_list (i : Int) : (Str.ofString (toString i)).cps.toList = if 0 ≤ i then D10 i.natAbs else 45 :: D10 i.natAbs := by
  rw [signs_ofString]
  cases i with
  | ofNat m =>
    rw [if_pos (show (0 : Int) ≤ Int.ofNat m from Int.natCast_nonneg m)]
    show (Nat.repr m).toList.map Char.toNat = D10 m
    rw [Nat.toList_repr]
    rfl
  | negSucc m =>
    rw [if_neg (show ¬ (0 : Int) ≤ Int.negSucc m by omega)]
    show ("-" ++ Nat.repr (m + 1)).toList.map Char.toNat = 45 :: D10 (m + 1)
    rw [String.toList_append, List.map_append, Nat.toList_repr]
    rfl
/-- what stands behind a sign -/
def digitsOf : List Nat → List Nat
  | [] => []
  | c :: r => if c = 45 then r else c :: r
def isNumD (l : List Nat) : List Nat → Bool
  | [] => false
  | c :: r => decide (r.length + 1 ≤ 30) && ((c :: r).all isDig && (decide (l = [48]) || !decide (c = 48)))
/-- a number, as a list of codes -/
def isNumL (l : List Nat) : Bool := isNumD l (digitsOf l)
theorem isNumL_num {i : Int} (h : IsNum i) : isNumL (Str.ofString (toString i)).cps.toList = true := by
  have hn : i.natAbs < 10 ^ 30 := by
    have e : (10 : Nat) ^ 30 = 1000000000000000000000000000000 := by decide +kernel
    rw [e]
    obtain ⟨h1, h2⟩ := h
    omega
  have hl := D10_len hn
  have hd := D10_digs i.natAbs
  rw [num_list]
  by_cases h0 : i = 0
  · subst h0
    decide +kernel
  · obtain ⟨c, r, e, c1, c2⟩ := D10_head i.natAbs (by omega)
    rw [e] at hl hd
    rw [List.length_cons] at hl
    have key : ∀ l, isNumD l (c :: r) = true := fun l => by
      show (decide (r.length + 1 ≤ 30) && ((c :: r).all isDig && (decide (l = [48]) || !decide (c = 48)))) = true
      rw [decide_eq_true hl, hd, decide_eq_false (show ¬ c = 48 by omega)]
      simp
    by_cases hi : 0 ≤ i
    · rw [if_pos hi, e]
      show isNumD _ (if c = 45 then r else c :: r) = true
      rw [if_neg (by omega)]
      exact key _
    · rw [if_neg hi, e]
      show isNumD _ (if (45 : Nat) = 45 then c :: r else 45 :: c :: r) = true
      rw [if_pos rfl]
      exact key _
theorem num_len {i : Int} (h : IsNum i) : (Str.ofString (toString i)).length ≤ 31 := by
  have hn : i.natAbs < 10 ^ 30 := by
    have e : (10 : Nat) ^ 30 = 1000000000000000000000000000000 := by decide +kernel
    rw [e]
    obtain ⟨h1, h2⟩ := h
    omega
  have hl := D10_len hn
  rw [← len_list, num_list]
  split
  · omega
  · rw [List.length_cons]
    omega
theorem num_free {i : Int} {k : Nat} (hk : k ≠ 45 ∧ (k < 48 ∨ 57 < k)) : k ∉ (Str.ofString (toString i)).cps.toList := PyProof.Rows.int_text_free' k hk i
/-- a string in its quotes, as a list of codes: its inside at most 8 small letters -/
def isStrL (l : List Nat) : Bool := match l with
  | [] => false
  | c :: r => decide (c = 34) && (decide (r.getLast? = some 34) && (decide (r.length - 1 ≤ 8) && r.dropLast.all isLow))
theorem isStrL_word {z : List Nat} (h1 : z.length ≤ 8) (h2 : z.all isLow = true) : isStrL (34 :: (z ++ [34])) = true := by
  show (decide (34 = 34) && (decide ((z ++ [34]).getLast? = some 34) && (decide ((z ++ [34]).length - 1 ≤ 8) && (z ++ [34]).dropLast.all isLow))) = true
  rw [List.dropLast_concat, h2, List.length_append, List.getLast?_append]
  simp
  omega
def isConstL (l : List Nat) : Bool := decide (l = [110, 111, 110, 101]) || (isNumL l || isStrL l)

/-! ### a call by keywords alone -/
theorem pe_callN0 {X : Cx} {CX : CXT} {k : Nat} {f : Addr} {fd : FuncData} {ps ks : List Str} {sp : Sp} {E : XK} {x : Str} {p pos : Pos} {kws : List Keyword} {tk : TA} {g : List Value → List Value → List Value} {gV : List V → List V → List V}
    (F : FnOk X.prog X.w X.K X.mg X.base CX k f fd ps sp) (hr : Room k X.A) (hg : Gl X x) (hm : X.mg x = some (.ref f)) (hk : PySem.W.keepIn X.K (.ref f) = true) (hb : KBn X.K fd ps 0 ks g gV) (hx : Passes CX X E)
    (hkw : PK X kws tk) (hall : (backToKw pos (keywordEach kws X.env)).all (·.1.isSome) = true := by rfl) (hks : (backToKw pos (keywordEach kws X.env)).filterMap (·.1) = ks := by rfl)
    (hdb : (x == ("__debug__" : Str)) = false := by decide)
    (hpl : ((backTo pos (starEach [] X.env)).any (·.1) || (backToKw pos (keywordEach kws X.env)).any (·.1.isNone)) = false := by rfl) :
    PE X (.Call (.Name x p) [] kws pos) (tCallN 0 ks.length sp gV E tNil tk) := by
  refine ⟨fun pins s σ H Q I h => ?_⟩
  refine wpAny_Call_Name_kw (ld_glob I hg hm ?_ hdb)
  refine PySem.W.callWith_KW0 (h₀ := X.base) I.ok.mod.kin hk hall (thn (hkw.run pos pins s σ H _ I h) fun ws s2 ⟨zs, H2, I2, rz, l1, l2, q2⟩ => ⟨I2.kIn, ?_⟩) hpl
  rw [hks]
  exact run_fnN F hr hb hx I2 .nil rz l1 l2 q2

section
variable {P : Program} {w : World} {K : PySem.W.Frag} {mg : Str → Option Value} {base : Heap}
theorem ok_consists_of (T : Txt K mg) : FnOk P w K mg base CX0 1 T.f_consists_of T.fd_consists_of ["text", "characters"] sp_consists := by
  refine T.F_consists_of.ok sc_consists_of (fun vs H Q E h => ?_) (fun cdv A outer s H vs Q E hr h => ?_)
  · obtain ⟨x, y, rfl, _⟩ := h
    rfl
  · obtain ⟨z, cs, rfl, hz, q⟩ := h
    refine ⟨_, (pss_one (ps_ret (pe_callB (cr_all rfl) (by rfl) T.m_all (by decide +kernel) (pa_cons (pe_lc (own := [("character", 2)]) (g := gName 2) rfl sc_consists_of.nd (pi_str (pv 0)) (blkOk_by (own := [("character", 2)]) (N := ["text", "characters", "character"]) (sc := defScope s_consists_of) (by decide +kernel)) (fun _ _ _ _ _ => pg_name (i := 2) sc_consists_of.nd rfl (.inl rfl)) (fun _ _ _ _ _ => pts_nil) (fun _ _ _ _ _ => (pe_cmpR op_in_sign (pv 2) (pv 1) (by rfl)))) pa_nil)))), ?_⟩
    repeat (walk_at "lw w")
    intro D nD
    refine lc_it (walk_str (z := z)) (fun i H' => H' D = some (.lst ((z.cps.toList.take i).map fun c => V.bl (decide (c ∈ cs.cps.toList)))) ∧ Same H H') ?_ ?_ ?_ ?_
    · exact ⟨upd_same, same_new nD⟩
    · intro i H' _ _
      trivial
    · rintro i x H1 H' hi ⟨eD, S⟩ ⟨rfl, c, hc, rfl⟩
      refine ⟨rfl, ?_⟩
      repeat (walk_at "lw w")
      refine ⟨_, eD, ?_, ?_, ?_⟩
      · rw [List.length_map, List.length_take]
        exact small5 (Nat.le_trans (Nat.min_le_right _ _) (by rw [Array.length_toList]; exact hz))
      · have hc' : z.cps.toList[i]? = some c := by rw [Array.getElem?_toList]; exact hc
        rw [upd_same, List.take_add_one, hc', List.map_append]
        rfl
      · intro q' o e
        rw [upd_ne (ne_of_none e nD)]
        exact S _ _ e
    · rintro H' ⟨eD, S⟩
      have el : z.cps.toList.take z.cps.size = z.cps.toList := List.take_of_length_le (by rw [Array.length_toList]; exact Nat.le_refl _)
      rw [el] at eD
      refine ⟨D, z.cps.toList.map fun c => decide (c ∈ cs.cps.toList), rfl, ?_, ?_⟩
      · rw [List.map_map]
        exact SqL.of eD
      · exact q _ H' (by rw [List.all_map]; rfl) S
end

section
variable {P : Program} {w : World} {K : PySem.W.Frag} {mg : Str → Option Value} {base : Heap}
theorem ok_is_integer (T : Txt K mg) : FnOk P w K mg base CX0 1 T.f_is_integer T.fd_is_integer ["thing"] (sp_bool1 K isIntD) := by
  refine T.F_is_integer.ok sc_is_integer (fun vs H Q E h => ?_) (fun cdv A outer s H vs Q E hr h => ?_)
  · obtain ⟨x, d, rfl, _⟩ := h
    rfl
  · obtain ⟨x, d, rfl, hd, hf, _, q⟩ := h
    refine ⟨_, (pss_one (ps_ret (pe_and (pe_callB call_isi (by rfl) T.m_isinstance (by decide +kernel) (pa_cons (pv 0) (pa_cons (pe_bltn (v := .ty "int") (by rfl) T.m_int (by decide +kernel) rfl) pa_nil))) (pe_one (pe_not (pe_callB call_isi (by rfl) T.m_isinstance (by decide +kernel) (pa_cons (pv 0) (pa_cons (pe_bltn (v := .ty "bool") (by rfl) T.m_bool (by decide +kernel) rfl) pa_nil)))))))), ?_⟩
    cases hd <;> (repeat (walk_at "lw w")) <;> exact q _ _ rfl (Same.refl _)
end

section
variable {P : Program} {w : World} {K : PySem.W.Frag} {mg : Str → Option Value} {base : Heap}
theorem ok_is_small_word (T : Txt K mg) : FnOk P w K mg base CX0 2 T.f_is_small_word T.fd_is_small_word ["thing", "most"] (sp_word1 K) := by
  have G_consists_of := ok_consists_of (P := P) (w := w) (base := base) T
  refine T.F_is_small_word.ok sc_is_small_word (fun vs H Q E h => ?_) (fun cdv A outer s H vs Q E hr h => ?_)
  · obtain ⟨x, d, m, rfl, _⟩ := h
    rfl
  · obtain ⟨x, d, m, rfl, hd, hf, q⟩ := h
    refine ⟨_, (pss_one (ps_ret (pe_and (pe_callB call_isi (by rfl) T.m_isinstance (by decide +kernel) (pa_cons (pv 0) (pa_cons (pe_bltn (v := .ty "str") (by rfl) T.m_str (by decide +kernel) rfl) pa_nil))) (pe_and (pe_cmpR op_le (pe_callB call_len (by rfl) T.m_len (by decide +kernel) (pa_cons (pv 0) pa_nil)) (pv 1) (nomark _)) (pe_one (pe_call G_consists_of hr (by rfl) T.g_consists_of T.F_consists_of.kp T.b_consists_of .nil pass0 (pa_cons (pv 0) (pa_cons (pe_glob (v := .str "abcdefghijklmnopqrstuvwxyz") rfl T.c_SMALL_LETTERS.choose_spec ⟨_, rfl⟩) pa_nil)))))))), ?_⟩
    cases hd
    case str z =>
      have hz : z.length ≤ 100000 := of_decide_eq_true hf
      repeat (walk_at "lw w")
      refine ite2 (fun e => ?_) (fun e => ?_)
      · repeat (walk_at "lw w")
        refine ⟨hz, fun r H' er S => q r H' ?_ S⟩
        rw [er]
        have e1 : ((z.length : Nat) : Int) ≤ (m : Int) := of_decide_eq_true e
        show _ = (decide (z.length ≤ m) && z.cps.toList.all isLow)
        rw [decide_eq_true (show z.length ≤ m by omega), Bool.true_and]
        congr 1
        funext c
        exact low_in c
      · refine q _ _ ?_ (Same.refl _)
        have e1 : ¬ ((z.length : Nat) : Int) ≤ (m : Int) := fun h => e (decide_eq_true h)
        show _ = (decide (z.length ≤ m) && z.cps.toList.all isLow)
        rw [decide_eq_false (show ¬ z.length ≤ m by omega)]
        rfl
    all_goals (repeat (walk_at "lw w")) <;> exact q _ _ rfl (Same.refl _)
end

section
variable {P : Program} {w : World} {K : PySem.W.Frag} {mg : Str → Option Value} {base : Heap}
theorem ok_is_class_name (T : Txt K mg) : FnOk P w K mg base CX0 2 T.f_is_class_name T.fd_is_class_name ["thing"] (sp_bool1 K isClassD) := by
  have G_consists_of := ok_consists_of (P := P) (w := w) (base := base) T
  refine T.F_is_class_name.ok sc_is_class_name (fun vs H Q E h => ?_) (fun cdv A outer s H vs Q E hr h => ?_)
  · obtain ⟨x, d, rfl, _⟩ := h
    rfl
  · obtain ⟨x, d, rfl, hd, hf, hp, q⟩ := h
    clear hp
    refine ⟨_, (pss_cons (ps_if (PW.pt (pw_or (pt_not (pt_val (pe_callB call_isi (by rfl) T.m_isinstance (by decide +kernel) (pa_cons (pv 0) (pa_cons (pe_bltn (v := .ty "str") (by rfl) T.m_str (by decide +kernel) rfl) pa_nil))))) (pw_or (pt_cmpR op_eq (pv 0) pe_str (nomark _)) (pw_or1 (pt_cmpR op_gt (pe_callB call_len (by rfl) T.m_len (by decide +kernel) (pa_cons (pv 0) pa_nil)) (pe_glob (v := .int 12) rfl T.c_MOST_CLASS_LETTERS.choose_spec ⟨_, rfl⟩) (nomark _)))))) (pss_one (ps_ret pe_bl)) pss_nil)
        (pss_one (ps_ret (pe_and (pe_cmpR op_in_sign (pe_ix ix_str (pv 0) pe_int (fun _ _ => rfl)) (pe_glob (v := .str "ABCDEFGHIJKLMNOPQRSTUVWXYZ") rfl T.c_CAPITAL_LETTERS.choose_spec ⟨_, rfl⟩) (by rfl)) (pe_one (pe_call G_consists_of hr (by rfl) T.g_consists_of T.F_consists_of.kp T.b_consists_of .nil pass0 (pa_cons (pv 0) (pa_cons (pe_op op_add_str (pe_glob (v := .str "abcdefghijklmnopqrstuvwxyz") rfl T.c_SMALL_LETTERS.choose_spec ⟨_, rfl⟩) (pe_glob (v := .str "ABCDEFGHIJKLMNOPQRSTUVWXYZ") rfl T.c_CAPITAL_LETTERS.choose_spec ⟨_, rfl⟩)) pa_nil)))))))), ?_⟩
    cases hd
    case str z =>
      have hz : z.length ≤ 100000 := by
        unfold fine at hf
        rw [Bool.and_eq_true] at hf
        exact of_decide_eq_true hf.1
      repeat (walk_at "lw w")
      refine ite2 (fun e => ?_) (fun e => ?_)
      · repeat (walk_at "lw w")
        refine q _ _ ?_ (Same.refl _)
        have e1 : z = Str.ofString "" := V.str.inj (of_decide_eq_true e)
        rw [e1]
        decide +kernel
      · obtain ⟨c, cs, ez⟩ : ∃ c cs, z.cps.toList = c :: cs := by
          cases ez : z.cps.toList with
          | nil =>
            refine absurd (decide_eq_true (congrArg V.str ?_)) e
            have : z.cps = #[] := Array.toList_inj.mp ez
            show z = ⟨#[]⟩
            rw [← this]
          | cons c cs => exact ⟨c, cs, rfl⟩
        have el : z.length = cs.length + 1 := by
          show z.cps.size = _
          rw [← Array.length_toList, ez, List.length_cons]
        repeat (walk_at "lw w")
        refine ite2 (fun e2 => ?_) (fun e2 => ?_)
        · repeat (walk_at "lw w")
          refine q _ _ ?_ (Same.refl _)
          have e3 : (12 : Int) < ((z.length : Nat) : Int) := of_decide_eq_true e2
          show _ = isClassL z.cps.toList
          rw [ez]
          rw [isClassL_cons]
          rw [decide_eq_false (show ¬ cs.length + 1 ≤ 12 by omega)]
          rfl
        · have e3 : ¬ (12 : Int) < ((z.length : Nat) : Int) := fun h => e2 (decide_eq_true h)
          repeat (walk_at "lw w")
          refine ⟨z, 0, c, rfl, rfl, by have := PySem.sizeLine_eq; omega, by rw [ez]; exact atI_nat (j := 0) rfl, ?_⟩
          repeat (walk_at "lw w")
          have fin : ∀ r : Bool, r = (isUp c && (c :: cs).all fun x => isUp x || isLow x) → r = isClassD (.str z) := by
            intro r er
            show _ = isClassL z.cps.toList
            rw [ez]
            rw [isClassL_cons]
            rw [decide_eq_true (show cs.length + 1 ≤ 12 by omega), Bool.true_and]
            exact er
          refine ite2 (fun e4 => ?_) (fun e4 => ?_)
          · rw [up_in] at e4
            repeat (walk_at "lw w")
            refine ⟨by decide +kernel, ?_⟩
            repeat (walk_at "lw w")
            refine ⟨hz, fun r H' er S => q r H' (fin _ ?_) S⟩
            rw [er, e4, Bool.true_and, ez]
            congr 1
            funext x
            exact lu_in x
          · rw [up_in] at e4
            refine q _ _ (fin _ ?_) (Same.refl _)
            rw [show isUp c = false by simpa using e4]
            rfl
    all_goals (repeat (walk_at "lw w")) <;> exact q _ _ rfl (Same.refl _)
end

/-! ### parts of a text -/
theorem starts_minus (z : Str) : Txt.startswith z (Str.ofString "-") = decide (z.cps.toList.head? = some 45) := by
  unfold Txt.startswith
  rw [StrLaws.subAt_eq, show (Str.ofString "-").cps.toList = [45] by decide +kernel, show (Str.ofString "-").length = 1 by decide +kernel, ← len_list]
  cases h : z.cps.toList with
  | nil => rfl
  | cons c r =>
    rw [decide_eq_true (show 0 + 1 ≤ (c :: r).length by rw [List.length_cons]; omega), Bool.true_and]
    show ([c] == [45]) = decide (some c = some 45)
    by_cases e : c = 45
    · rw [e]; rfl
    · rw [decide_eq_false (by simpa using e), beq_false_of_ne (by simpa using e)]
theorem ends_paren (z : Str) : Txt.endswith z (Str.ofString ")") = decide (z.cps.toList.getLast? = some 41) := by
  unfold Txt.endswith
  rw [StrLaws.subAt_eq, show (Str.ofString ")").cps.toList = [41] by decide +kernel, show (Str.ofString ")").length = 1 by decide +kernel, ← len_list]
  rcases List.eq_nil_or_concat z.cps.toList with h | ⟨l, c, h⟩
  · rw [h]; rfl
  · rw [h, List.concat_eq_append]
    have hl : (l ++ [c]).length - 1 = l.length := by rw [List.length_append]; rfl
    rw [hl, List.drop_left, List.getLast?_append, decide_eq_true (show 0 + 1 ≤ (l ++ [c]).length by rw [List.length_append, List.length_singleton]; omega), Bool.true_and]
    show ([c] == [41]) = decide (some c = some 41)
    by_cases e : c = 41
    · rw [e]; rfl
    · rw [decide_eq_false (by simpa using e), beq_false_of_ne (by simpa using e)]
theorem cut_first (z : Str) : (cutS z (some 1) none).cps.toList = z.cps.toList.drop 1 := by
  show ((z.cps.toList.drop (HT.sIx z.length 0 (some ((1 : Nat) : Int)))).take (HT.sIx z.length z.length none - HT.sIx z.length 0 (some ((1 : Nat) : Int)))) = _
  rw [HT.sIx_nat, HT.sIx_none, ← len_list]
  cases z.cps.toList with
  | nil => rfl
  | cons c r =>
    have e : min 1 (c :: r).length = 1 := by rw [List.length_cons]; omega
    rw [e, List.take_of_length_le]
    rw [List.length_drop]
    exact Nat.le_refl _
theorem sIx_m1 (n : Nat) : HT.sIx n n (some (-1)) = n - 1 := by
  show (if (-1 : Int) < 0 then ((-1 : Int) + (n : Int)).toNat else min (-1 : Int).toNat n) = n - 1
  rw [if_pos (by decide)]
  omega
theorem cut_init (z : Str) : (cutS z none (some (-1))).cps.toList = z.cps.toList.dropLast := by
  show ((z.cps.toList.drop (HT.sIx z.length 0 none)).take (HT.sIx z.length z.length (some (-1)) - HT.sIx z.length 0 none)) = _
  rw [HT.sIx_none, sIx_m1, List.drop_zero, Nat.sub_zero, ← len_list, List.dropLast_eq_take]
theorem cut_inner (z : Str) : (cutS z (some 1) (some (-1))).cps.toList = (z.cps.toList.drop 1).dropLast := by
  show ((z.cps.toList.drop (HT.sIx z.length 0 (some ((1 : Nat) : Int)))).take (HT.sIx z.length z.length (some (-1)) - HT.sIx z.length 0 (some ((1 : Nat) : Int)))) = _
  rw [HT.sIx_nat, sIx_m1, ← len_list]
  cases z.cps.toList with
  | nil => rfl
  | cons c r =>
    have e : min 1 (c :: r).length = 1 := by rw [List.length_cons]; omega
    rw [e, List.dropLast_eq_take]
    rfl
theorem cut_short (z : Str) (a b : Option Int) : (cutS z a b).length ≤ z.length := by
  rw [← len_list, ← len_list]
  show ((z.cps.toList.drop _).take _).length ≤ _
  rw [List.length_take, List.length_drop]
  omega
theorem dig_in (c : Nat) : decide (c ∈ (Str.ofString "0123456789").cps.toList) = isDig c := by
  have e : (Str.ofString "0123456789").cps.toList = [48, 49, 50, 51, 52, 53, 54, 55, 56, 57] := by decide +kernel
  rw [e]
  unfold isDig
  refine decide_eq_decide.mpr ?_
  simp only [List.mem_cons, List.not_mem_nil, or_false]
  omega
theorem split_part {x y a : Str} (h : a ∈ Txt.split x y) (hy : 1 ≤ y.length) : a.length ≤ x.length := by
  have h1 := PyProof.Rows.split_weight x y hy
  have h2 : ∀ {l : List Str} {a : Str}, a ∈ l → a.length + 1 ≤ (l.map (·.length)).sum + l.length := by
    intro l
    induction l with
    | nil => intro a h; cases h
    | cons b r ih =>
      intro a h
      rw [List.map_cons, List.sum_cons, List.length_cons]
      rcases List.mem_cons.mp h with e | e
      · rw [e]; omega
      · have := ih e
        omega
  have := h2 h
  omega
def isNameZ (z : Str) : Bool := isWordZ z 12 && (!decide (z = Str.ofString "") && !inV (.str z) vals_KEYWORDS)
def partsOf (z : Str) : List Str := if z = Str.ofString "" then [] else Txt.split z (Str.ofString ", ")
def isCallP (p : Str × Str × Str) : Bool := (!decide (p.2.1 = Str.ofString "") && isNameZ p.1) && (decide ((partsOf p.2.2).length ≤ 3) && (partsOf p.2.2).all fun c => isConstL c.cps.toList)
def isCallZ (z : Str) : Bool := decide (z.cps.toList.getLast? = some 41) && isCallP (Txt.partition (cutS z none (some (-1))) (Str.ofString "("))
def isCallD : PyData → Bool
  | .str z => isCallZ z
  | _ => false
def sp_str1 (f : Str → Bool) : Sp := fun vs H Q _ => ∃ z : Str, vs = [.str z] ∧ z.length ≤ 100000 ∧ ∀ (r : Bool) (H' : Hp), r = f z → Same H H' → Q (.bl r) H'
def sp_any1 (K : PySem.W.Frag) (f : PyData → Bool) : Sp := fun vs H Q _ => ∃ (x : V) (d : PyData), vs = [x] ∧ Dp K H x d ∧ shortD d = true ∧
  ∀ (r : Bool) (H' : Hp), r = f d → Same H H' → Q (.bl r) H'
theorem vals_strs : ∀ y ∈ vals_KEYWORDS, ∃ k, y = .str k := by
  intro y hy
  simp only [vals_KEYWORDS, List.mem_cons, List.not_mem_nil, or_false] at hy
  rcases hy with rfl | rfl | rfl | rfl | rfl | rfl | rfl | rfl | rfl | rfl | rfl | rfl | rfl | rfl | rfl | rfl | rfl | rfl | rfl | rfl | rfl | rfl | rfl | rfl | rfl | rfl | rfl | rfl | rfl | rfl | rfl | rfl | rfl | rfl <;> exact ⟨_, rfl⟩
def isPathD (ag : Bool) : PyData → Bool
  | .tuple ds => !decide (ds.length = 0) && ((ag || decide (ds.length = 1)) && ds.all isCallD)
  | _ => false
def pathOk : PyData → Prop
  | .tuple ds => ds.length ≤ 1000 ∧ ∀ e ∈ ds, shortD e = true
  | _ => True
def sp_path (K : PySem.W.Frag) : Sp := fun vs H Q _ => ∃ (x : V) (ag : Bool) (d : PyData), vs = [x, .bl ag] ∧ Dp K H x d ∧ pathOk d ∧
  ∀ (r : Bool) (H' : Hp), r = isPathD ag d → Same H H' → Q (.bl r) H'

section
variable {P : Program} {w : World} {K : PySem.W.Frag} {mg : Str → Option Value} {base : Heap}
theorem ok_is_name (T : Txt K mg) : FnOk P w K mg base CX0 3 T.f_is_name T.fd_is_name ["thing"] (sp_str1 isNameZ) := by
  have G_is_small_word := ok_is_small_word (P := P) (w := w) (base := base) T
  refine T.F_is_name.ok sc_is_name (fun vs H Q E h => ?_) (fun cdv A outer s H vs Q E hr h => ?_)
  · obtain ⟨z, rfl, _⟩ := h
    rfl
  · obtain ⟨z, rfl, hz, q⟩ := h
    refine ⟨_, (pss_one (ps_ret (pe_and (pe_call G_is_small_word hr (by rfl) T.g_is_small_word T.F_is_small_word.kp T.b_is_small_word .nil pass0 (pa_cons (pv 0) (pa_cons (pe_glob (v := .int 12) rfl T.c_MOST_NAME_LETTERS.choose_spec ⟨_, rfl⟩) pa_nil))) (pe_and (pe_cmpR op_ne (pv 0) pe_str (nomark _)) (pe_one (pe_cmpR op_notIn_seq (pv 0) (pe_glob (v := .ref T.a_KEYWORDS) rfl T.c_KEYWORDS rfl) (by rfl))))))), ?_⟩
    repeat (walk_at "lw w")
    refine ⟨_, .str z, 12, rfl, .str z, decide_eq_true hz, fun r1 H1 e1 S1 => ?_⟩
    have e1 : r1 = isWordZ z 12 := e1
    repeat (walk_at "lw w")
    refine ite2 (fun h1 => ?_) (fun h1 => ?_)
    · repeat (walk_at "lw w")
      by_cases h2 : z = Str.ofString ""
      · refine ifF (by rw [decide_eq_true (congrArg V.str h2)]; rfl) ?_
        refine q _ _ ?_ S1
        unfold isNameZ
        rw [← e1, h1, decide_eq_true h2]
        rfl
      · refine ifT (by rw [decide_eq_false (fun h => h2 (V.str.inj h))]; rfl) ?_
        repeat (walk_at "lw w")
        refine ⟨_, vals_KEYWORDS, rfl, .inr (T.q_KEYWORDS _), rfl, ?_, ?_⟩
        · refine List.all_eq_true.mpr fun y hy => ?_
          obtain ⟨k, rfl⟩ := vals_strs y hy
          rfl
        · refine q _ _ ?_ S1
          unfold isNameZ
          rw [← e1, h1, decide_eq_false h2]
          rfl
    · refine q _ _ ?_ S1
      unfold isNameZ
      rw [← e1, show r1 = false by simpa using h1]
      rfl
theorem ok_is_number_text (T : Txt K mg) : FnOk P w K mg base CX0 2 T.f_is_number_text T.fd_is_number_text ["text"] (sp_str1 fun z => isNumL z.cps.toList) := by
  have G_consists_of := ok_consists_of (P := P) (w := w) (base := base) T
  refine T.F_is_number_text.ok sc_is_number_text (fun vs H Q E h => ?_) (fun cdv A outer s H vs Q E hr h => ?_)
  · obtain ⟨z, rfl, _⟩ := h
    rfl
  · obtain ⟨z, rfl, hz, q⟩ := h
    refine ⟨_, (pss_cons (ps_set (i := 1) sc_is_number_text.nd rfl (.inl rfl) (pe_ifExp (pt_val (pe_m1 PySem.F.slot_str_startswith PySem.F.type_str_startswith mt_startswith (pv 0) pe_str)) (pe_slice sl_str (pv 0) (po_some pe_int) po_none) (pv 0)))
        (pss_cons (ps_if (PW.pt (pw_or (pt_cmpR op_eq (pv 1) pe_str (nomark _)) (pw_or (pt_cmpR op_gt (pe_callB call_len (by rfl) T.m_len (by decide +kernel) (pa_cons (pv 1) pa_nil)) (pe_glob (v := .int 30) rfl T.c_MOST_DIGITS.choose_spec ⟨_, rfl⟩) (nomark _)) (pw_or1 (pt_not (pt_val (pe_call G_consists_of hr (by rfl) T.g_consists_of T.F_consists_of.kp T.b_consists_of .nil pass0 (pa_cons (pv 1) (pa_cons (pe_glob (v := .str "0123456789") rfl T.c_DIGITS.choose_spec ⟨_, rfl⟩) pa_nil))))))))) (pss_one (ps_ret pe_bl)) pss_nil)
        (pss_one (ps_ret (pe_or (pe_cmpR op_eq (pv 0) pe_str (nomark _)) (pe_one (pe_cmpR op_ne (pe_ix ix_str (pv 1) pe_int (fun _ _ => rfl)) pe_str (nomark _)))))))), ?_⟩
    have hsz := PySem.sizeLine_eq
    have q : ∀ (r : Bool) (H' : Hp), r = isNumL z.cps.toList → Same H H' → Q (.bl r) H' := q
    have fin : ∀ g : Str, g.length ≤ 100000 → g.cps.toList = digitsOf z.cps.toList →
        (tSeq (tIfS (tOr (tTest (tOp rEq (tVar 1) (tC (.str (Str.ofString ""))))) (tOr (tTest (tOp (rI0 fun i j => .bl (decide (j < i))) (tCB (fun xs H Q => ∃ x n, xs = [x] ∧ LenV K x H n ∧ Q (.int n) H) (tCons (tVar 1) tNil)) (tC (.int 30))))
          (tNot (tB (tCall sp_consists [] E0 (tCons (tVar 1) (tCons (tC (.str (Str.ofString "0123456789"))) tNil))))))) (tRet (tC (.bl false))) tNext)
          (tRet (tOrV (tOp rEq (tVar 0) (tC (.str (Str.ofString "0")))) (tOp rNe (tOp rIxS (tVar 1) (tC (.int 0))) (tC (.str (Str.ofString "0"))))))) { nx := fun _ H' => Q .non H', rt := Q } [some (.str z), some (.str g)] H := by
      intro g hg eg
      refine ⟨_, rfl, rfl, _, rfl, ite2 (fun e => ?_) (fun e => ?_)⟩
      · refine q _ _ ?_ (Same.refl _)
        have e1 : g = Str.ofString "" := V.str.inj (of_decide_eq_true e)
        unfold isNumL
        rw [← eg, e1]
        rfl
      · obtain ⟨c, r, hc⟩ : ∃ c r, g.cps.toList = c :: r := by
          cases h : g.cps.toList with
          | nil => exact absurd (decide_eq_true (congrArg V.str (str_ext (b := Str.ofString "") h))) e
          | cons c r => exact ⟨c, r, rfl⟩
        have hlen : g.length = r.length + 1 := by rw [← len_list, hc, List.length_cons]
        have hN : isNumL z.cps.toList = (decide (r.length + 1 ≤ 30) && ((c :: r).all isDig && (decide (z.cps.toList = [48]) || !decide (c = 48)))) := by
          unfold isNumL
          rw [← eg, hc]
          rfl
        refine ⟨_, rfl, _, _, rfl, ⟨by omega, rfl⟩, _, _, rfl, rfl, _, rfl, ite2 (fun e2 => ?_) (fun e2 => ?_)⟩
        · refine q _ _ ?_ (Same.refl _)
          have e3 : (30 : Int) < ((g.length : Nat) : Int) := of_decide_eq_true e2
          rw [hN, decide_eq_false (show ¬ r.length + 1 ≤ 30 by omega)]
          rfl
        · have e3 : ¬ (30 : Int) < ((g.length : Nat) : Int) := fun h => e2 (decide_eq_true h)
          refine ⟨_, rfl, g, _, rfl, hg, fun r1 H1 er S1 => ?_⟩
          have er : r1 = (c :: r).all isDig := by
            rw [er, hc]
            congr 1
            funext x
            exact dig_in x
          refine ⟨_, rfl, ?_⟩
          cases hr1 : r1 with
          | false =>
            refine q _ _ ?_ S1
            rw [hN, ← er, hr1, Bool.false_and, Bool.and_false]
          | true =>
            refine ⟨_, rfl, rfl, _, rfl, ite2 (fun e4 => ?_) (fun e4 => ?_)⟩
            · refine q _ _ ?_ S1
              have e5 : z = Str.ofString "0" := V.str.inj (of_decide_eq_true e4)
              have e6 : z.cps.toList = [48] := by rw [e5]; decide +kernel
              rw [hN, ← er, hr1, decide_eq_true (show r.length + 1 ≤ 30 by omega), decide_eq_true e6]
              rfl
            · refine ⟨_, rfl, g, 0, c, rfl, rfl, by omega, by rw [hc]; exact atI_nat (j := 0) rfl, rfl, ?_⟩
              refine q _ _ ?_ S1
              have e6 : ¬ z.cps.toList = [48] := fun h => e4 (decide_eq_true (congrArg V.str (str_ext (b := Str.ofString "0") (by rw [h]; decide +kernel))))
              rw [hN, ← er, hr1, decide_eq_true (show r.length + 1 ≤ 30 by omega), decide_eq_false e6, Bool.true_and, Bool.true_and, Bool.false_or]
              congr 1
              refine decide_eq_decide.mpr ⟨fun h => ?_, fun h => ?_⟩
              · have := congrArg (fun s : Str => s.cps.toList) (V.str.inj h)
                have h2 : [c] = [48] := this.trans (by decide +kernel)
                injection h2
              · rw [h]
                decide +kernel
    repeat (walk_at "lw w")
    rw [starts_minus]
    refine ite2 (fun e => ?_) (fun e => ?_)
    · have e1 := of_decide_eq_true e
      repeat (walk_at "lw w")
      refine ⟨by omega, ?_⟩
      refine fin _ (Nat.le_trans (cut_short _ _ _) hz) ?_
      rw [cut_first]
      cases h : z.cps.toList with
      | nil => rfl
      | cons c r =>
        rw [h] at e1
        have : c = 45 := by injection e1
        show r = if c = 45 then r else c :: r
        rw [if_pos this]
    · have e1 : ¬ z.cps.toList.head? = some 45 := fun h => e (decide_eq_true h)
      refine ⟨_, rfl, ?_⟩
      refine fin _ hz ?_
      cases h : z.cps.toList with
      | nil => rfl
      | cons c r =>
        rw [h] at e1
        show c :: r = if c = 45 then r else c :: r
        rw [if_neg (fun h => e1 (by rw [h]; rfl))]
end

section
variable {P : Program} {w : World} {K : PySem.W.Frag} {mg : Str → Option Value} {base : Heap}
theorem ok_is_string_text (T : Txt K mg) : FnOk P w K mg base CX0 3 T.f_is_string_text T.fd_is_string_text ["text"] (sp_str1 fun z => isStrL z.cps.toList) := by
  have G_is_small_word := ok_is_small_word (P := P) (w := w) (base := base) T
  refine T.F_is_string_text.ok sc_is_string_text (fun vs H Q E h => ?_) (fun cdv A outer s H vs Q E hr h => ?_)
  · obtain ⟨z, rfl, _⟩ := h
    rfl
  · obtain ⟨z, rfl, hz, q⟩ := h
    refine ⟨_, (pss_cons (ps_if (PW.pt (pw_or (pt_cmpR op_lt (pe_callB call_len (by rfl) T.m_len (by decide +kernel) (pa_cons (pv 0) pa_nil)) pe_int (nomark _)) (pw_or (pt_cmpR op_ne (pe_ix ix_str (pv 0) pe_int (fun _ _ => rfl)) pe_str (nomark _)) (pw_or1 (pt_cmpR op_ne (pe_ix ix_str (pv 0) (pe_un un_neg pe_int) (fun _ _ => rfl)) pe_str (nomark _)))))) (pss_one (ps_ret pe_bl)) pss_nil)
        (pss_one (ps_ret (pe_call G_is_small_word hr (by rfl) T.g_is_small_word T.F_is_small_word.kp T.b_is_small_word .nil pass0 (pa_cons (pe_slice sl_str (pv 0) (po_some pe_int) (po_some (pe_un un_neg pe_int))) (pa_cons (pe_glob (v := .int 8) rfl T.c_MOST_STRING_LETTERS.choose_spec ⟨_, rfl⟩) pa_nil)))))), ?_⟩
    have hsz := PySem.sizeLine_eq
    have q : ∀ (r : Bool) (H' : Hp), r = isStrL z.cps.toList → Same H H' → Q (.bl r) H' := q
    have hlz := len_list z
    repeat (walk_at "lw w")
    refine ite2 (fun e => ?_) (fun e => ?_)
    · have e1 : ((z.length : Nat) : Int) < 2 := of_decide_eq_true e
      repeat (walk_at "lw w")
      refine q _ _ ?_ (Same.refl _)
      cases h : z.cps.toList with
      | nil => rfl
      | cons c r =>
        cases r with
        | nil =>
          show false = (decide (c = 34) && (false && _))
          rw [Bool.false_and, Bool.and_false]
        | cons c2 r =>
          rw [h, List.length_cons, List.length_cons] at hlz
          omega
    · have e1 : ¬ ((z.length : Nat) : Int) < 2 := fun h => e (decide_eq_true h)
      obtain ⟨c, r, hc⟩ : ∃ c r, z.cps.toList = c :: r := by
        cases h : z.cps.toList with
        | nil => rw [h, List.length_nil] at hlz; omega
        | cons c r => exact ⟨c, r, rfl⟩
      obtain ⟨m, l, hr2⟩ : ∃ m l, r = m ++ [l] := by
        rcases List.eq_nil_or_concat r with h | ⟨m, l, h⟩
        · rw [hc, h, List.length_singleton] at hlz; omega
        · exact ⟨m, l, by rw [h, List.concat_eq_append]⟩
      subst hr2
      have hS : isStrL z.cps.toList = (decide (c = 34) && (decide (l = 34) && (decide (m.length ≤ 8) && m.all isLow))) := by
        rw [hc]
        show (decide (c = 34) && (decide ((m ++ [l]).getLast? = some 34) && (decide ((m ++ [l]).length - 1 ≤ 8) && (m ++ [l]).dropLast.all isLow))) = _
        rw [List.dropLast_concat, List.getLast?_append, List.length_append]
        congr 2
        exact decide_eq_decide.mpr ⟨fun h => by injection h, fun h => by rw [h]; rfl⟩
      repeat (walk_at "lw w")
      refine ⟨z, 0, c, rfl, rfl, by omega, by rw [hc]; exact atI_nat (j := 0) rfl, ?_⟩
      have q34 : (Str.ofString "\"").cps.toList = [34] := by decide +kernel
      have one : ∀ x : Nat, (V.str ⟨#[x]⟩ = V.str (Str.ofString "\"")) ↔ x = 34 := fun x => by
        constructor
        · intro h
          have := congrArg (fun s : Str => s.cps.toList) (V.str.inj h)
          have h2 : [x] = [34] := this.trans q34
          injection h2
        · intro h
          rw [h]
          exact congrArg V.str (str_ext (by rw [q34]))
      repeat (walk_at "lw w")
      by_cases h1 : c = 34
      · refine iteNS ((one c).mpr h1) ?_
        repeat (walk_at "lw w")
        refine ⟨z, -1, l, rfl, rfl, by omega, by rw [hc, show c :: (m ++ [l]) = (c :: m) ++ [l] from rfl]; exact atI_last _ _, ?_⟩
        repeat (walk_at "lw w")
        by_cases h2 : l = 34
        · refine iteNS ((one l).mpr h2) ?_
          repeat (walk_at "lw w")
          refine ⟨by omega, ?_⟩
          refine ⟨_, .str (cutS z (some 1) (some (-1))), 8, rfl, .str _, decide_eq_true (Nat.le_trans (cut_short _ _ _) hz), fun r1 H1 er S1 => ?_⟩
          refine q _ _ ?_ S1
          have hcut : (cutS z (some 1) (some (-1))).cps.toList = m := by
            rw [cut_inner, hc]
            show (m ++ [l]).dropLast = m
            exact List.dropLast_concat
          rw [er, hS, decide_eq_true h1, decide_eq_true h2, Bool.true_and, Bool.true_and]
          show (decide ((cutS z (some 1) (some (-1))).length ≤ 8) && (cutS z (some 1) (some (-1))).cps.toList.all isLow) = _
          rw [← len_list, hcut]
        · refine iteNT (fun h => h2 ((one l).mp h)) ?_
          refine q _ _ ?_ (Same.refl _)
          rw [hS, decide_eq_false h2, Bool.false_and, Bool.and_false]
      · refine iteNT (fun h => h1 ((one c).mp h)) ?_
        refine q _ _ ?_ (Same.refl _)
        rw [hS, decide_eq_false h1, Bool.false_and]
theorem ok_is_constant_text (T : Txt K mg) : FnOk P w K mg base CX0 4 T.f_is_constant_text T.fd_is_constant_text ["text"] (sp_str1 fun z => isConstL z.cps.toList) := by
  have G_is_number_text := ok_is_number_text (P := P) (w := w) (base := base) T
  have G_is_string_text := ok_is_string_text (P := P) (w := w) (base := base) T
  refine T.F_is_constant_text.ok sc_is_constant_text (fun vs H Q E h => ?_) (fun cdv A outer s H vs Q E hr h => ?_)
  · obtain ⟨z, rfl, _⟩ := h
    rfl
  · obtain ⟨z, rfl, hz, q⟩ := h
    refine ⟨_, (pss_one (ps_ret (pe_or (pe_cmpR op_eq (pv 0) pe_str (nomark _)) (pe_or (pe_call G_is_number_text (hr.mono (by omega)) (by rfl) T.g_is_number_text T.F_is_number_text.kp T.b_is_number_text .nil pass0 (pa_cons (pv 0) pa_nil)) (pe_one (pe_call G_is_string_text hr (by rfl) T.g_is_string_text T.F_is_string_text.kp T.b_is_string_text .nil pass0 (pa_cons (pv 0) pa_nil))))))), ?_⟩
    have q : ∀ (r : Bool) (H' : Hp), r = isConstL z.cps.toList → Same H H' → Q (.bl r) H' := q
    have hn : (Str.ofString "none").cps.toList = [110, 111, 110, 101] := by decide +kernel
    repeat (walk_at "lw w")
    refine ite2 (fun e => ?_) (fun e => ?_)
    · refine q _ _ ?_ (Same.refl _)
      have e1 : z = Str.ofString "none" := V.str.inj (of_decide_eq_true e)
      unfold isConstL
      rw [e1, hn]
      rfl
    · have e1 : ¬ z.cps.toList = [110, 111, 110, 101] := fun h => e (decide_eq_true (congrArg V.str (str_ext (by rw [h, hn]))))
      repeat (walk_at "lw w")
      refine ⟨hz, fun r1 H1 er S1 => ?_⟩
      have er : r1 = isNumL z.cps.toList := er
      repeat (walk_at "lw w")
      refine ite2 (fun e2 => ?_) (fun e2 => ?_)
      · refine q _ _ ?_ S1
        unfold isConstL
        rw [← er, e2, decide_eq_false e1]
        rfl
      · repeat (walk_at "lw w")
        refine ⟨hz, fun r2 H2 er2 S2 => ?_⟩
        refine q _ _ ?_ (S1.trans S2)
        unfold isConstL
        rw [← er, show r1 = false by simpa using e2, decide_eq_false e1, er2]
        rfl
end

section
variable {P : Program} {w : World} {K : PySem.W.Frag} {mg : Str → Option Value} {base : Heap}
theorem ok_is_call (T : Txt K mg) : FnOk P w K mg base CX0 5 T.f_is_call T.fd_is_call ["thing"] (sp_any1 K isCallD) := by
  have G_is_name := ok_is_name (P := P) (w := w) (base := base) T
  have G_is_constant_text := ok_is_constant_text (P := P) (w := w) (base := base) T
  refine T.F_is_call.ok sc_is_call (fun vs H Q E h => ?_) (fun cdv A outer s H vs Q E hr h => ?_)
  · obtain ⟨x, d, rfl, _⟩ := h
    rfl
  · obtain ⟨x, d, rfl, hd, hf, q⟩ := h
    refine ⟨_, (pss_cons (ps_if (PW.pt (pw_or (pt_not (pt_val (pe_callB call_isi (by rfl) T.m_isinstance (by decide +kernel) (pa_cons (pv 0) (pa_cons (pe_bltn (v := .ty "str") (by rfl) T.m_str (by decide +kernel) rfl) pa_nil))))) (pw_or1 (pt_not (pt_val (pe_m1 PySem.F.slot_str_endswith PySem.F.type_str_endswith mt_endswith (pv 0) pe_str)))))) (pss_one (ps_ret pe_bl)) pss_nil)
        (pss_cons (ps_asg (pe_partition (pe_slice sl_str (pv 0) po_none (po_some (pe_un un_neg pe_int))) pe_str) (pg_tup rfl (pgs_cons (pg_name (i := 1) sc_is_call.nd rfl (.inl rfl)) (pgs_cons (pg_name (i := 2) sc_is_call.nd rfl (.inl rfl)) (pgs_cons (pg_name (i := 3) sc_is_call.nd rfl (.inl rfl)) pgs_nil)))))
        (pss_cons (ps_if (PW.pt (pw_or (pt_cmpR op_eq (pv 2) pe_str (nomark _)) (pw_or1 (pt_not (pt_val (pe_call G_is_name (hr.mono (by omega)) (by rfl) T.g_is_name T.F_is_name.kp T.b_is_name .nil pass0 (pa_cons (pv 1) pa_nil))))))) (pss_one (ps_ret pe_bl)) pss_nil)
        (pss_cons (ps_set (i := 4) sc_is_call.nd rfl (.inl rfl) (pe_ifExp (pt_cmpR op_eq (pv 3) pe_str (nomark _)) (pe_lst pa_nil) (pe_split (pv 3) pe_str)))
        (pss_one (ps_ret (pe_and (pe_cmpR op_le (pe_callB call_len (by rfl) T.m_len (by decide +kernel) (pa_cons (pv 4) pa_nil)) (pe_glob (v := .int 3) rfl T.c_MOST_CONSTANTS.choose_spec ⟨_, rfl⟩) (nomark _)) (pe_one (pe_callB (cr_all rfl) (by rfl) T.m_all (by decide +kernel) (pa_cons (pe_lc (own := [("text", 5)]) (g := gName 5) rfl sc_is_call.nd (pi_list (pv 4)) (blkOk_by (own := [("text", 5)]) (N := ["thing", "name", "opening", "inner", "constants", "text"]) (sc := defScope s_is_call) (by decide +kernel)) (fun _ _ _ _ _ => pg_name (i := 5) sc_is_call.nd rfl (.inl rfl)) (fun _ _ _ _ _ => pts_nil) (fun _ _ _ _ _ => (pe_call G_is_constant_text hr (by rfl) T.g_is_constant_text T.F_is_constant_text.kp T.b_is_constant_text .nil pass0 (pa_cons (pv 5) pa_nil)))) pa_nil)))))))))), ?_⟩
    have hsz := PySem.sizeLine_eq
    cases hd
    case str z =>
      have hz : z.length ≤ 100000 := of_decide_eq_true hf
      have q : ∀ (r : Bool) (H' : Hp), r = isCallZ z → Same H H' → Q (.bl r) H' := q
      repeat (walk_at "lw w")
      rw [ends_paren]
      cases he : decide (z.cps.toList.getLast? = some 41) with
      | false =>
        repeat (walk_at "lw w")
        refine q _ _ ?_ (Same.refl _)
        unfold isCallZ
        rw [he]
        rfl
      | true =>
        have hC : isCallZ z = isCallP (Txt.partition (cutS z none (some (-1))) (Str.ofString "(")) := by
          unfold isCallZ
          rw [he, Bool.true_and]
        have hx : (cutS z none (some (-1))).length ≤ 100000 := Nat.le_trans (cut_short _ _ _) hz
        have hfp := PyProof.Rows.fact_partition (cutS z none (some (-1))) (Str.ofString "(")
        repeat (walk_at "lw w")
        refine ⟨by omega, ?_⟩
        refine ⟨⟨_, rfl⟩, ?_⟩
        refine ⟨_, _, rfl, rfl, rfl, by omega, fun p np => ?_⟩
        generalize Txt.partition (cutS z none (some (-1))) (Str.ofString "(") = pp at *
        obtain ⟨n1, n2, n3⟩ := pp
        refine ⟨p, _, rfl, SqT.of upd_same, rfl, ?_⟩
        have S1 : Same H (upd H p (.tup [.str n1, .str n2, .str n3])) := same_new np
        generalize upd H p (.tup [.str n1, .str n2, .str n3]) = H1 at *
        obtain ⟨f1, f2, f3⟩ := hfp
        have f1 : n1.length ≤ 100000 := Nat.le_trans f1 hx
        have f3 : n3.length ≤ 100000 := Nat.le_trans f3 hx
        repeat (walk_at "lw w")
        refine ite2 (fun e => ?_) (fun e => ?_)
        · repeat (walk_at "lw w")
          refine q _ _ ?_ S1
          have e1 : n2 = Str.ofString "" := V.str.inj (of_decide_eq_true e)
          rw [hC]
          unfold isCallP
          rw [decide_eq_true e1]
          rfl
        · have e1 : ¬ n2 = Str.ofString "" := fun h => e (decide_eq_true (congrArg V.str h))
          repeat (walk_at "lw w")
          refine ⟨f1, fun r1 H2 er S2 => ?_⟩
          repeat (walk_at "lw w")
          cases hr1 : r1 with
          | false =>
            refine q _ _ ?_ (S1.trans S2)
            rw [hC]
            unfold isCallP
            rw [decide_eq_false e1, ← er, hr1]
            rfl
          | true =>
            have hC2 : isCallZ z = (decide ((partsOf n3).length ≤ 3) && (partsOf n3).all fun c => isConstL c.cps.toList) := by
              rw [hC]
              unfold isCallP
              rw [decide_eq_false e1, ← er, hr1]
              rfl
            have fin : ∀ (L : Addr) (H3 : Hp) (ys : List Str) (t : Option V), Same H H3 → H3 L = some (.lst (ys.map V.str)) → ys = partsOf n3 →
                (tRet (tAndV (tOp (rI0 fun i j => .bl (decide (i ≤ j))) (tCB (fun xs H Q => ∃ x n, xs = [x] ∧ LenV K x H n ∧ Q (.int n) H) (tCons (tVar 4) tNil)) (tC (.int 3)))
                  (tCB (rAll K) (tCons (tLc (iList K (tVar 4)) (gName 5) tYes (tCall (sp_str1 fun z => isConstL z.cps.toList) [] E0 (tCons (tVar 5) tNil)) [5]) tNil))))
                  { nx := fun _ H' => Q .non H', rt := Q } [some (.str z), some (.str n1), some (.str n2), some (.str n3), some (.ref L), t] H3 := by
              intro L H3 ys t S3 eL ey
              have hys : ∀ y ∈ ys, y.length ≤ 100000 := by
                intro y hy
                rw [ey] at hy
                unfold partsOf at hy
                split at hy
                · cases hy
                · exact Nat.le_trans (split_part hy (by decide +kernel)) f3
              refine ⟨_, rfl, _, _, rfl, .inl ⟨_, SqL.of eL, rfl⟩, _, _, rfl, rfl, _, rfl, ite2 (fun e => ?_) (fun e => ?_)⟩
              · have e2 : ys.length ≤ 3 := by
                  have := of_decide_eq_true e
                  rw [List.length_map] at this
                  omega
                refine ⟨_, rfl, L, rfl, ⟨_, SqL.of eL⟩, fun D nD => ?_⟩
                refine lc_list (K := K) (a := L) (xs := ys.map V.str) (fun i H' => H' D = some (.lst ((ys.take i).map fun c => V.bl (isConstL c.cps.toList))) ∧ Same H3 H') ?_ ?_ ?_ ?_
                · exact ⟨upd_same, same_new nD⟩
                · rintro i H' _ ⟨_, S⟩
                  exact SqL.of (S _ _ eL)
                · rintro i x H' hx ⟨eD, S⟩
                  rw [List.getElem?_map] at hx
                  cases hy : ys[i]? with
                  | none => rw [hy] at hx; cases hx
                  | some y =>
                    rw [hy] at hx
                    have hx : V.str y = x := by injection hx
                    subst hx
                    refine ⟨rfl, _, rfl, y, rfl, hys y (List.mem_of_getElem? hy), fun r H4 er S4 => ?_⟩
                    refine ⟨_, S4 _ _ eD, ?_, ?_, ?_⟩
                    · rw [List.length_map, List.length_take]
                      exact small1000 (by omega)
                    · rw [upd_same, List.take_add_one, hy, List.map_append, er]
                      rfl
                    · intro q' o e
                      rw [upd_ne (ne_of_none e nD)]
                      exact S4 _ _ (S _ _ e)
                · rintro H' ⟨eD, S⟩
                  rw [List.length_map, List.take_length] at eD
                  refine ⟨D, ys.map fun c => isConstL c.cps.toList, rfl, ?_, ?_⟩
                  · rw [List.map_map]
                    exact SqL.of eD
                  · refine q _ H' ?_ (S3.trans S)
                    rw [hC2, ← ey, decide_eq_true e2, List.all_map]
                    rfl
              · refine q _ _ ?_ S3
                have e2 : ¬ ys.length ≤ 3 := fun h => e (decide_eq_true (by rw [List.length_map]; omega))
                rw [hC2, ← ey, decide_eq_false e2]
                rfl
            repeat (walk_at "lw w")
            by_cases h3 : n3 = Str.ofString ""
            · refine ifT (decide_eq_true (congrArg V.str h3)) ?_
              refine ⟨Nat.zero_le _, fun L nL => ?_⟩
              exact fin L _ [] _ ((S1.trans S2).trans (same_new nL)) upd_same (by unfold partsOf; rw [if_pos h3])
            · refine ifF (decide_eq_false (fun h => h3 (V.str.inj h))) ?_
              repeat (walk_at "lw w")
              refine ⟨by show n3.length + 2 ≤ sizeLine; omega, fun L nL => ?_⟩
              exact fin L _ _ _ ((S1.trans S2).trans (same_new nL)) upd_same (by unfold partsOf; rw [if_neg h3])
    all_goals (repeat (walk_at "lw w")) <;> exact q _ _ rfl (Same.refl _)
end

section
variable {P : Program} {w : World} {K : PySem.W.Frag} {mg : Str → Option Value} {base : Heap}
theorem ok_is_path (T : Txt K mg) : FnOk P w K mg base CX0 6 T.f_is_path T.fd_is_path ["thing", "ageing"] (sp_path K) := by
  have G_is_call := ok_is_call (P := P) (w := w) (base := base) T
  refine T.F_is_path.ok sc_is_path (fun vs H Q E h => ?_) (fun cdv A outer s H vs Q E hr h => ?_)
  · obtain ⟨x, ag, d, rfl, _⟩ := h
    rfl
  · obtain ⟨x, ag, d, rfl, hd, hf, q⟩ := h
    refine ⟨_, (pss_cons (ps_if (PW.pt (pw_or (pt_not (pt_val (pe_callB call_isi (by rfl) T.m_isinstance (by decide +kernel) (pa_cons (pv 0) (pa_cons (pe_bltn (v := .ty "tuple") (by rfl) T.m_tuple (by decide +kernel) rfl) pa_nil))))) (pw_or1 (pt_cmpR op_eq (pe_callB call_len (by rfl) T.m_len (by decide +kernel) (pa_cons (pv 0) pa_nil)) pe_int (nomark _))))) (pss_one (ps_ret pe_bl)) pss_nil)
        (pss_one (ps_ret (pe_and (pe_or (pv 1) (pe_one (pe_cmpR op_eq (pe_callB call_len (by rfl) T.m_len (by decide +kernel) (pa_cons (pv 0) pa_nil)) pe_int (nomark _)))) (pe_one (pe_callB (cr_all rfl) (by rfl) T.m_all (by decide +kernel) (pa_cons (pe_lc (own := [("text", 2)]) (g := gName 2) rfl sc_is_path.nd (pi_tup (pv 0)) (blkOk_by (own := [("text", 2)]) (N := ["thing", "ageing", "text"]) (sc := defScope s_is_path) (by decide +kernel)) (fun _ _ _ _ _ => pg_name (i := 2) sc_is_path.nd rfl (.inl rfl)) (fun _ _ _ _ _ => pts_nil) (fun _ _ _ _ _ => (pe_call G_is_call hr (by rfl) T.g_is_call T.F_is_call.kp T.b_is_call .nil pass0 (pa_cons (pv 2) pa_nil)))) pa_nil))))))), ?_⟩
    cases hd
    case tup a xs ds hs ha =>
      obtain ⟨l1, hf⟩ : ds.length ≤ 1000 ∧ ∀ e ∈ ds, shortD e = true := hf
      have hl := DpAll.length ha
      repeat (walk_at "lw w")
      have q : ∀ (r : Bool) (H' : Hp), r = (!decide (ds.length = 0) && ((ag || decide (ds.length = 1)) && ds.all isCallD)) → Same H H' → Q (.bl r) H' := q
      by_cases h0 : ds.length = 0
      · refine ifT (decide_eq_true (congrArg V.int (by omega))) ?_
        repeat (walk_at "lw w")
        exact q _ _ (by rw [decide_eq_true h0]; rfl) (Same.refl _)
      · refine ifF (decide_eq_false (fun h => h0 (by have := V.int.inj h; omega))) ?_
        rw [decide_eq_false h0] at q
        have comp : ∀ b : Bool, b = (ag || decide (ds.length = 1)) → (if b = true then
            (tCB (rAll K) (tCons (tLc (iTup K (tVar 0)) (gName 2) tYes (tCall (sp_any1 K isCallD) [] E0 (tCons (tVar 2) tNil)) [2]) tNil)) [some (.ref a), some (.bl ag), none] H Q else Q (.bl false) H) := by
          intro b hb
          refine ite2 (fun e => ?_) (fun e => ?_)
          · refine ⟨_, rfl, a, rfl, ⟨xs, hs⟩, fun D nD => ?_⟩
            refine lc_tup (K := K) (a := a) (xs := xs) (fun i H' => H' D = some (.lst ((ds.take i).map fun d => V.bl (isCallD d))) ∧ Same H H') ?_ ?_ ?_ ?_
            · exact ⟨upd_same, same_new nD⟩
            · rintro i H' _ ⟨_, S⟩
              exact SqT.same S hs
            · rintro i x H' hx ⟨eD, S⟩
              obtain ⟨d, hd1, hd2⟩ := DpAll.get ha hx
              refine ⟨rfl, _, rfl, _, d, rfl, Dp.same S _ _ hd2, hf d (List.mem_of_getElem? hd1), fun r H4 er S4 => ?_⟩
              refine ⟨_, S4 _ _ eD, ?_, ?_, ?_⟩
              · rw [List.length_map, List.length_take]
                exact small1000 (by omega)
              · rw [upd_same, List.take_add_one, hd1, List.map_append, er]
                rfl
              · intro q' o e
                rw [upd_ne (ne_of_none e nD)]
                exact S4 _ _ (S _ _ e)
            · rintro H' ⟨eD, S⟩
              rw [hl, List.take_length] at eD
              refine ⟨D, ds.map isCallD, rfl, ?_, ?_⟩
              · rw [List.map_map]
                exact SqL.of eD
              · refine q _ H' ?_ S
                rw [← hb, e, List.all_map]
                rfl
          · refine q _ _ ?_ (Same.refl _)
            rw [← hb, show b = false by simpa using e]
            rfl
        repeat (walk_at "lw w")
        refine ite2 (fun e => ?_) (fun e => ?_)
        · exact ⟨_, rfl, comp true (by rw [e]; rfl)⟩
        · repeat (walk_at "lw w")
          refine comp _ ?_
          rw [show ag = false by simpa using e, Bool.false_or]
          exact decide_eq_decide.mpr ⟨fun h => by have := V.int.inj h; omega, fun h => congrArg V.int (by omega)⟩
    all_goals (repeat (walk_at "lw w")) <;> exact q _ _ rfl (Same.refl _)
end

section
variable {P : Program} {w : World} {K : PySem.W.Frag} {mg : Str → Option Value} {base : Heap}
theorem ok_is_item (T : Txt K mg) : FnOk P w K mg base CX0 3 T.f_is_item T.fd_is_item ["thing"] (sp_bool1 K isItemD) := by
  have G_is_integer := ok_is_integer (P := P) (w := w) (base := base) T
  have G_is_small_word := ok_is_small_word (P := P) (w := w) (base := base) T
  refine T.F_is_item.ok sc_is_item (fun vs H Q E h => ?_) (fun cdv A outer s H vs Q E hr h => ?_)
  · obtain ⟨x, d, rfl, _⟩ := h
    rfl
  · obtain ⟨x, d, rfl, hd, hf, hp, q⟩ := h
    refine ⟨_, (pss_one (ps_ret (pe_or (pe_cmpR op_isN (pv 0) pe_non (nomark _)) (pe_or (pe_call G_is_integer (hr.mono (by omega)) (by rfl) T.g_is_integer T.F_is_integer.kp T.b_is_integer .nil pass0 (pa_cons (pv 0) pa_nil)) (pe_one (pe_call G_is_small_word hr (by rfl) T.g_is_small_word T.F_is_small_word.kp T.b_is_small_word .nil pass0 (pa_cons (pv 0) (pa_cons (pe_glob (v := .int 30) rfl T.c_MOST_WORD_LETTERS.choose_spec ⟨_, rfl⟩) pa_nil)))))))), ?_⟩
    repeat (walk_at "lw w")
    rw [non_eq hd]
    refine ite2 (fun e => ?_) (fun e => ?_)
    · exact q _ _ (by rw [isItemD_eq, e]; rfl) (Same.refl _)
    · have e0 : PyData.eqv d .none = false := by simpa using e
      repeat (walk_at "lw w")
      refine ⟨_, d, rfl, hd, hf, hp, fun r H1 er S1 => ?_⟩
      repeat (walk_at "lw w")
      refine ite2 (fun e1 => ?_) (fun e1 => ?_)
      · exact q _ _ (by rw [isItemD_eq, e0, ← er, e1]; rfl) S1
      · have e2 : r = false := by simpa using e1
        repeat (walk_at "lw w")
        refine ⟨_, d, 30, rfl, Dp.same S1 _ _ hd, short_fine hf, fun r2 H2 er2 S2 => ?_⟩
        exact q _ _ (by rw [isItemD_eq, e0, ← er, e2, er2]; rfl) (S1.trans S2)
theorem ok_is_raised (T : Txt K mg) : FnOk P w K mg base CX0 3 T.f_is_raised T.fd_is_raised ["thing"] (sp_bool1 K isRaisedT) := by
  have G_is_class_name := ok_is_class_name (P := P) (w := w) (base := base) T
  refine T.F_is_raised.ok sc_is_raised (fun vs H Q E h => ?_) (fun cdv A outer s H vs Q E hr h => ?_)
  · obtain ⟨x, d, rfl, _⟩ := h
    rfl
  · obtain ⟨x, d, rfl, hd, hf, hp, q⟩ := h
    refine ⟨_, (pss_cons (ps_if (PW.pt (pw_or (pt_not (pt_val (pe_callB call_isi (by rfl) T.m_isinstance (by decide +kernel) (pa_cons (pv 0) (pa_cons (pe_bltn (v := .ty "tuple") (by rfl) T.m_tuple (by decide +kernel) rfl) pa_nil))))) (pw_or1 (pt_cmpR op_ne (pe_callB call_len (by rfl) T.m_len (by decide +kernel) (pa_cons (pv 0) pa_nil)) pe_int (nomark _))))) (pss_one (ps_ret pe_bl)) pss_nil)
        (pss_cons (ps_asg (pv 0) (pg_tup rfl (pgs_cons (pg_name (i := 1) sc_is_raised.nd rfl (.inl rfl)) (pgs_cons (pg_name (i := 2) sc_is_raised.nd rfl (.inl rfl)) (pgs_cons (pg_name (i := 3) sc_is_raised.nd rfl (.inl rfl)) pgs_nil)))))
        (pss_one (ps_ret (pe_and (pe_cmpR (op_eqD hr.units) (pv 1) pe_str (nomark _)) (pe_and (pe_call G_is_class_name hr (by rfl) T.g_is_class_name T.F_is_class_name.kp T.b_is_class_name .nil pass0 (pa_cons (pv 2) pa_nil)) (pe_one (pe_or (pe_cmpR op_isN (pv 3) pe_non (nomark _)) (pe_one (pe_call G_is_class_name hr (by rfl) T.g_is_class_name T.F_is_class_name.kp T.b_is_class_name .nil pass0 (pa_cons (pv 3) pa_nil))))))))))), ?_⟩
    cases hd
    case tup a xs ds hs ha =>
      obtain ⟨f1, f2⟩ := fine_tup hf
      have hl := DpAll.length ha
      repeat (walk_at "lw w")
      by_cases h3 : ds.length = 3
      · obtain ⟨d0, d1, d2, rfl⟩ : ∃ d0 d1 d2, ds = [d0, d1, d2] := by
          match ds, h3 with
          | [a, b, c], _ => exact ⟨a, b, c, rfl⟩
        cases ha with
        | @cons x0 _ _ _ a0 ha =>
        cases ha with
        | @cons x1 _ _ _ a1 ha =>
        cases ha with
        | @cons x2 _ _ _ a2 ha =>
        cases ha
        have g0 : fine d0 = true := fineAll_mem f2 (by simp)
        have g1 : fine d1 = true := fineAll_mem f2 (by simp)
        have g2 : fine d2 = true := fineAll_mem f2 (by simp)
        have hp' : PyData.depthAll [d0, d1, d2] ≤ 59 := by
          have h : PyData.depthAll [d0, d1, d2] + 1 ≤ 60 := hp
          omega
        have p0 : PyData.depth d0 ≤ 60 := Nat.le_trans (depth_mem (by simp)) (Nat.le_trans hp' (by decide))
        have p1 : PyData.depth d1 ≤ 60 := Nat.le_trans (depth_mem (by simp)) (Nat.le_trans hp' (by decide))
        have p2 : PyData.depth d2 ≤ 60 := Nat.le_trans (depth_mem (by simp)) (Nat.le_trans hp' (by decide))
        repeat (walk_at "lw w")
        refine ⟨a, [x0, x1, x2], rfl, hs, rfl, ?_⟩
        repeat (walk_at "lw w")
        refine ⟨d0, .str (Str.ofString "raises"), a0, .str _, shaped_fine g0 (by omega), by decide +kernel, ?_⟩
        repeat (walk_at "lw w")
        refine ite2 (fun e => ?_) (fun e => ?_)
        · repeat (walk_at "lw w")
          refine ⟨_, d1, rfl, a1, g1, p1, fun r H1 er S1 => ?_⟩
          repeat (walk_at "lw w")
          refine ite2 (fun e1 => ?_) (fun e1 => ?_)
          · repeat (walk_at "lw w")
            rw [non_eq a2]
            refine ite2 (fun e2 => ?_) (fun e2 => ?_)
            · refine q _ _ ?_ S1
              show _ = (PyData.eqv d0 (.str (Str.ofString "raises")) && (isClassD d1 && (PyData.eqv d2 .none || isClassD d2)))
              rw [e, ← er, e1, e2]
              rfl
            · have e3 : PyData.eqv d2 .none = false := by simpa using e2
              repeat (walk_at "lw w")
              refine ⟨_, d2, rfl, Dp.same S1 _ _ a2, g2, p2, fun r2 H2 er2 S2 => ?_⟩
              refine q _ _ ?_ (S1.trans S2)
              show _ = (PyData.eqv d0 (.str (Str.ofString "raises")) && (isClassD d1 && (PyData.eqv d2 .none || isClassD d2)))
              rw [e, ← er, e1, e3, er2]
              rfl
          · refine q _ _ ?_ S1
            show _ = (PyData.eqv d0 (.str (Str.ofString "raises")) && (isClassD d1 && (PyData.eqv d2 .none || isClassD d2)))
            rw [e, ← er, show r = false by simpa using e1]
            rfl
        · refine q _ _ ?_ (Same.refl _)
          show _ = (PyData.eqv d0 (.str (Str.ofString "raises")) && (isClassD d1 && (PyData.eqv d2 .none || isClassD d2)))
          rw [show PyData.eqv d0 (.str (Str.ofString "raises")) = false by simpa using e]
          rfl
      · refine iteNT (by intro h; have h' := V.int.inj h; omega) ?_
        refine q _ _ ?_ (Same.refl _)
        match ds, h3 with
        | [], _ => rfl
        | [_], _ => rfl
        | [_, _], _ => rfl
        | [_, _, _], h => exact absurd rfl h
        | _ :: _ :: _ :: _ :: _, _ => rfl
    all_goals (repeat (walk_at "lw w")) <;> exact q _ _ rfl (Same.refl _)
theorem ok_is_answer (T : Txt K mg) : FnOk P w K mg base CX0 4 T.f_is_answer T.fd_is_answer ["thing"] (sp_bool1 K isAnswerD) := by
  have G_is_item := ok_is_item (P := P) (w := w) (base := base) T
  have G_is_raised := ok_is_raised (P := P) (w := w) (base := base) T
  refine T.F_is_answer.ok sc_is_answer (fun vs H Q E h => ?_) (fun cdv A outer s H vs Q E hr h => ?_)
  · obtain ⟨x, d, rfl, _⟩ := h
    rfl
  · obtain ⟨x, d, rfl, hd, hf, hp, q⟩ := h
    refine ⟨_, (pss_cons (ps_if (pt_val (pe_callB call_isi (by rfl) T.m_isinstance (by decide +kernel) (pa_cons (pv 0) (pa_cons (pe_bltn (v := .ty "list") (by rfl) T.m_list (by decide +kernel) rfl) pa_nil)))) (pss_one (ps_ret (pe_callB (cr_all rfl) (by rfl) T.m_all (by decide +kernel) (pa_cons (pe_lc (own := [("item", 1)]) (g := gName 1) rfl sc_is_answer.nd (pi_list (pv 0)) (blkOk_by (own := [("item", 1)]) (N := ["thing", "item"]) (sc := defScope s_is_answer) (by decide +kernel)) (fun _ _ _ _ _ => pg_name (i := 1) sc_is_answer.nd rfl (.inl rfl)) (fun _ _ _ _ _ => pts_nil) (fun _ _ _ _ _ => (pe_call G_is_item hr (by rfl) T.g_is_item T.F_is_item.kp T.b_is_item .nil pass0 (pa_cons (pv 1) pa_nil)))) pa_nil)))) pss_nil)
        (pss_one (ps_ret (pe_or (pe_call G_is_item hr (by rfl) T.g_is_item T.F_is_item.kp T.b_is_item .nil pass0 (pa_cons (pv 0) pa_nil)) (pe_one (pe_call G_is_raised hr (by rfl) T.g_is_raised T.F_is_raised.kp T.b_is_raised .nil pass0 (pa_cons (pv 0) pa_nil))))))), ?_⟩
    by_cases hl : ∃ ds, d = .list ds
    · obtain ⟨ds, rfl⟩ := hl
      cases hd with
      | @lst a xs _ hs ha =>
      obtain ⟨f1, f2⟩ := fine_lst hf
      have hl := DpAll.length ha
      repeat (walk_at "lw w")
      refine ⟨⟨xs, hs⟩, fun D nD => ?_⟩
      refine lc_list (K := K) (a := a) (xs := xs) (fun i H' => H' D = some (.lst ((ds.take i).map fun d => V.bl (isItemD d))) ∧ Same H H') ?_ ?_ ?_ ?_
      · exact ⟨upd_same, same_new nD⟩
      · rintro i H' _ ⟨_, S⟩
        exact S.seq hs
      · rintro i x H' hx ⟨eD, S⟩
        obtain ⟨d, hd1, hd2⟩ := DpAll.get ha hx
        have hm := List.mem_of_getElem? hd1
        have hi : i < ds.length := by
          have := (List.getElem?_eq_some_iff.mp hx).1
          omega
        refine ⟨rfl, ?_⟩
        repeat (walk_at "lw w")
        refine ⟨_, d, rfl, Dp.same S _ _ hd2, fineAll_mem f2 hm, ?_, fun r H1 er S1 => ?_⟩
        · have h1 := depth_mem hm
          have h2 : PyData.depthAll ds + 1 ≤ 60 := hp
          omega
        · refine ⟨_, S1 _ _ eD, ?_, ?_, ?_⟩
          · rw [List.length_map, List.length_take]
            exact small1000 (by omega)
          · rw [upd_same, List.take_add_one, hd1, List.map_append, er]
            rfl
          · intro q' o e
            rw [upd_ne (ne_of_none e nD)]
            exact S1 _ _ (S _ _ e)
      · rintro H' ⟨eD, S⟩
        rw [hl, List.take_length] at eD
        refine ⟨D, ds.map isItemD, rfl, ?_, ?_⟩
        · rw [List.map_map]
          exact SqL.of eD
        · exact q _ H' (by rw [List.all_map]; rfl) S
    · have hA := isAnswerD_eq hl
      have hd0 := hd
      cases hd
      case lst => exact absurd ⟨_, rfl⟩ hl
      all_goals
        (repeat (walk_at "lw w"))
        refine ⟨_, _, rfl, hd0, hf, hp, fun r H1 er S1 => ?_⟩
        (repeat (walk_at "lw w"))
        refine ite2 (fun e => ?_) (fun e => ?_)
        · exact q _ _ (by rw [hA, ← er, e]; rfl) S1
        · (repeat (walk_at "lw w"))
          refine ⟨_, _, rfl, Dp.same S1 _ _ hd0, hf, hp, fun r2 H2 er2 S2 => ?_⟩
          exact q _ _ (by rw [hA, ← er, show r = false by simpa using e, er2]; rfl) (S1.trans S2)
end

local macro_rules | `(tactic| walk_at "unorm") => `(tactic| (dsimp only [upds, setC, Av.fl, Arg.slot, List.map_cons, List.map_nil, List.getElem?_cons_zero, List.getElem?_cons_succ, List.set_cons_zero, List.set_cons_succ, List.cons_append, List.nil_append, wipeE, mixE, keepV]))
local macro_rules | `(tactic| walk_at "uview") => `(tactic| first | exact rfl | exact ⟨_, rfl, .inr rfl⟩ | exact ⟨_, rfl, .inl rfl⟩)
local macro_rules | `(tactic| walk_at "ufrz") => `(tactic| exact frzC_ok rfl)
local macro_rules | `(tactic| walk_at "uc") => `(tactic| first
  | (show (_ : Int) ≠ 0; omega)
  | exact log_small (by omega) (by assumption)
  | exact Or.inl ⟨by omega, by omega⟩
  | exact Or.inr ⟨by omega, by omega⟩
  | exact ⟨by omega, by omega⟩
  | exact ⟨by omega, by omega, by omega⟩)
local macro_rules | `(tactic| walk_at "ul") => `(tactic| first | (simp only [List.length_cons, List.length_nil]; omega) | (simp only [List.length_cons, List.length_nil]; decide))
local macro_rules | `(tactic| walk_at "u") => `(tactic| first
  | with_reducible refine ws_seq ?_
  | with_reducible refine ws_if ?_
  | with_reducible refine ws_ret ?_
  | with_reducible refine ws_set ?_
  | ((with_reducible show WS _ _ (tDrop (tBM _ _ _ _ _)) _ _); (refine' ws_append ?h ?c); (case c => exact ⟨_, _, rfl, rfl⟩))
  | with_reducible refine ws_drop ?_
  | with_reducible refine ws_next ?_
  | with_reducible refine we_op ?_
  | with_reducible refine we_cb ?_
  | with_reducible refine we_call ?_
  | with_reducible refine we_if ?_
  | with_reducible refine we_tup ?_
  | with_reducible refine we_lst ?_
  | ((with_reducible show WR _ _ _ _ _ _ _ _); first
     | (refine' wr_I0 (fun _ => .int _) ?_; done)
     | refine' wr_I0 (fun _ => .int _) ?_
     | refine' wr_I0 (fun _ => .bl _) ?_
     | (refine' wr_I ?c (fun _ => .int _) ?_; (case c => walk_at "uc"))
     | refine' wr_ip ?_
     | (refine' wr_eq rfl rfl ?c ?_; (case c => exact rfl))
     | (refine' wr_ne rfl rfl ?c ?_; (case c => exact rfl))
     | (refine' wr_ixL ?w ?e ?_; (case w => walk_at "uview"); (case e => exact rfl))
     | (refine' wr_ixT ?w ?e ?_; (case w => walk_at "uview"); (case e => exact rfl))
     | (refine' wr_cat ?a ?b ?c ?_; (case a => walk_at "uview"); (case b => walk_at "uview"); (case c => walk_at "ul"))
     | (refine' wr_isN ?w ?_; (case w => walk_at "uview"))
     | (refine' wr_notN ?w ?_; (case w => walk_at "uview"))
     | (refine' wr_cat_str ?c ?_; (case c => walk_at "ul"))
     | refine' wr_isB ?_
     | refine' wr_notB ?_
     | refine' wr_in_sign ?_
     | (refine' wr_ix ?_; first
        | (refine' .inl (wr_ixL ?w ?e ?_); (case w => walk_at "uview"); (case e => exact rfl))
        | (refine' .inr (.inl (wr_ixT ?w ?e ?_)); (case w => walk_at "uview"); (case e => exact rfl))))
  | ((with_reducible show WC _ _ _ _ _ _ _); first
     | refine' wc_int ?_
     | refine' wc_int_bl ?_
     | refine' wc_abs ?_
     | refine' wc_max ?_
     | refine' wc_min ?_
     | (refine' wc_len ?w ?e ?_; (case w => walk_at "uview"); (case e => exact rfl))
     | (refine' wc_lenS ?h ?_; (case h => omega))
     | (refine' wc_isi ?w ?p ?e ?_; (case w => walk_at "uview"); (case p => exact rfl); (case e => first | (refine kit_of2 true ?_; decide +kernel) | (refine kit_of2 false ?_; decide +kernel)))
     | (refine' wc_tuple ?w ?_; (case w => walk_at "uview"))
     | (refine' wc_list ?w ?_; (case w => first | (refine' .inl ?_; walk_at "uview") | (refine' .inr ?_; walk_at "uview"))))
  | (with_reducible refine wt_test ?_)
  | ((with_reducible refine' uT ?h ?_); (case h => exact rfl))
  | ((with_reducible refine' uF ?h ?_); (case h => exact rfl))
  | with_reducible refine wi_str ?_
  | with_reducible refine we_din ?_
  | with_reducible refine we_dnotin ?_
  | with_reducible refine we_dget ?_
  | with_reducible refine we_dget2 ?_
  | with_reducible refine ws_dput ?_
  | ((with_reducible show WE _ _ (tFld _ _ _) _ _ _); refine we_fld ?_)
  | with_reducible refine we_meth ?_
  | with_reducible refine we_make ?_
  | ((with_reducible show WS _ _ (sFld _ _ _ _) _ _); refine ws_fld ?_)
  | with_reducible refine we_and ?_
  | with_reducible refine we_or ?_
  | with_reducible refine we_not ?_
  | with_reducible refine wo_any ?_
  | with_reducible refine we_raw ?_
  | (with_reducible refine ⟨_, rfl, ?_⟩)
  | ((with_reducible refine' put_dt ?h ?_); (case h => first | exact rfl | assumption); walk_at "unorm")
  | ((with_reducible refine' put_new ?h ?_); (case h => first | exact rfl | assumption); walk_at "unorm")
  | ((with_reducible refine' rt_dt ?_); refine ⟨trivial, ?_⟩)
  | ((with_reducible refine' rt_new ?_); refine ⟨trivial, ?_⟩)
  | ((with_reducible refine' rt_own ?h ?_); (case h => exact rfl); refine ⟨trivial, ?_⟩)
  | ((with_reducible refine' ws_setL ?_))
  | refine ⟨_, _, frzC_ok rfl, ⟨_, _, rfl, rfl⟩, ?_⟩
  | refine ⟨_, _, frzC_ok rfl, Nat.le_of_ble_eq_true rfl, ?_⟩
  | (refine ⟨_, _, _, _, rfl, rfl, rfl, rfl, ?_⟩; walk_at "unorm")
  | with_reducible refine wt_b ?_
  | with_reducible refine we_sl ?_
  | with_reducible refine wo_none ?_
  | ((with_reducible refine wo_some ?_); done)
  | with_reducible refine wo_some ?_
  | with_reducible refine ws_for 40 ?_
  | with_reducible refine wi_range1 ?_
  | with_reducible refine wi_range2 ?_
  | ((with_reducible show WI _ _ (iList _ _) _ _ _); refine wi_list ?_)
  | ((with_reducible show WI _ _ (iTup _ _) _ _ _); refine wi_tup ?_)
  | with_reducible refine we_lc ?_
  | with_reducible refine ws_asg (n := 40) ?_
  | with_reducible refine ws_break ?_
  | with_reducible refine ws_cont ?_
  | with_reducible refine ws_retN ?_
  | ((with_reducible refine' wg_name ?h ?m ?_); (case h => first | exact rfl | assumption); (case m => decide); walk_at "unorm")
  | ((with_reducible refine wg_tup ?_); refine ⟨_, rfl, rfl, ?_⟩)
  | with_reducible refine wgs_cons ?_
  | with_reducible refine wgs_nil ?_
  | with_reducible refine wt_and ?_
  | with_reducible refine wt_or ?_
  | with_reducible refine wt_not ?_
  | with_reducible refine wt_yes ?_
  | with_reducible refine wa_cons ?_
  | with_reducible refine wa_nil ?_
  | with_reducible refine we_int ?_
  | with_reducible refine we_str ?_
  | with_reducible refine we_bl ?_
  | with_reducible refine we_non ?_
  | with_reducible refine we_ty ?_
  | with_reducible refine we_un ?_
  | refine ⟨_, _, rfl, fun _ => .int _, ?_⟩
  | ((with_reducible refine' we_val ?h ?_); (case h => exact rfl))
  | ((with_reducible refine' we_own ?h ?_); (case h => exact rfl))
  | ((with_reducible refine' we_bor ?h ?_); (case h => exact rfl)))
set_option hygiene false in
local macro_rules | `(tactic| walk_at "ucl") => `(tactic| (clear qq xx Q' X'; walk_at "unorm"))

def BagU (d : U) (n : Int) : Prop := ∃ x y z : Int, d = .lst [.int x, .int y, .int z] ∧ 0 ≤ x ∧ 0 ≤ y ∧ y ≤ 2000000000 ∧ 0 ≤ z ∧ z ≤ n
def r_take : RU := fun ρ Q _ => ∃ (b : U) (m n : Int), ρ = [.bor b, .val (.int m)] ∧ BagU b n ∧ n ≤ 1000000000 ∧ 0 < m ∧ m < 2 ^ 200 ∧
  ∀ (d : Int) (b' : U), 0 ≤ d → d < m → BagU b' (n + 1) → Q (.dt (.int d)) [.bor b', .val (.int m)]
section
variable {P : Program} {w : World} {K : PySem.W.Frag} {mg : Str → Option Value} {base : Heap}
theorem ok_law_take (T : Txt K mg) : FnOk P w K mg base CX0 1 T.f_law_take T.fd_law_take ["bag", "many"] (spU K r_take) := by
  refine Fun_okU T.F_law_take sc_law_take (fun ρ Q X h => ?_) (fun cdv A outer s H E hr => ⟨_, (pss_cons (ps_if (pt_cmpR op_gt (pe_ix ix_list (pv 0) pe_int (fun _ _ => rfl)) pe_int (nomark _)) (pss_cons (ps_set (i := 2) sc_law_take.nd rfl (.inl rfl) (pe_op op_modN (pe_callTy call_int1 (by rfl) T.m_int (by decide +kernel) (pa_cons (pe_ix ix_list (pv 0) pe_int (fun _ _ => rfl)) pa_nil)) (pv 1)))
        (pss_cons (ps_asg (pe_op op_fdivW (pe_ix ix_list (pv 0) pe_int (fun _ _ => rfl)) (pv 1)) (pg_sub (pv 0) pe_int set_list))
        (pss_one (ps_ret (pv 2))))) pss_nil)
        (pss_cons (ps_asg (pe_op op_add (pe_ix ix_list (pv 0) pe_int (fun _ _ => rfl)) pe_int) (pg_sub (pv 0) pe_int set_list))
        (pss_cons (ps_set (i := 3) sc_law_take.nd rfl (.inl rfl) (pe_op op_modN (pe_callTy call_int1 (by rfl) T.m_int (by decide +kernel) (pa_cons (pe_op op_mul (pe_op op_add (pe_ix ix_list (pv 0) pe_int (fun _ _ => rfl)) (pe_op op_mul pe_int (pe_ix ix_list (pv 0) pe_int (fun _ _ => rfl)))) (pe_op op_add (pe_ix ix_list (pv 0) pe_int (fun _ _ => rfl)) pe_int)) pa_nil)) pe_int))
        (pss_one (ps_ret (pe_op op_modN (pe_callTy call_int1 (by rfl) T.m_int (by decide +kernel) (pa_cons (pe_op op_fdivN (pe_op op_modN (pe_callTy call_int1 (by rfl) T.m_int (by decide +kernel) (pa_cons (pe_op op_pow (pe_op op_add (pv 3) (pe_op op_mul pe_int (pe_ix ix_list (pv 0) pe_int (fun _ _ => rfl)))) pe_int) pa_nil)) pe_int) pe_int) pa_nil)) (pv 1))))))), ?_⟩)
  · obtain ⟨b, m, n, rfl, _⟩ := h
    rfl
  rintro W ρ Qd Xd ⟨b, m, n, rfl, ⟨x, y, z, rfl, x0, y0, y1, z0, z1⟩, hn, m0, m1, q⟩
  show WS K _ _ [.bor _, .val _, .un, .un] _
  repeat (walk_at "u")
  refine ite2 (fun e => ?_) (fun e => ?_)
  · have e0 : 0 < x := of_decide_eq_true e
    repeat (walk_at "u")
    exact q _ _ (Int.fmod_nonneg_of_pos _ m0) (Int.fmod_lt_of_pos _ m0) ⟨x / m, y, z, rfl, Int.ediv_nonneg x0 (by omega), y0, y1, z0, by omega⟩
  · have f1 : 0 ≤ ((y + 40009 * (z + 1)) * (y + 7919)).fmod 2147483647 := Int.fmod_nonneg_of_pos _ (by decide)
    have f2 : ((y + 40009 * (z + 1)) * (y + 7919)).fmod 2147483647 < 2147483647 := Int.fmod_lt_of_pos _ (by decide)
    repeat (walk_at "u")
    exact q _ _ (Int.fmod_nonneg_of_pos _ m0) (Int.fmod_lt_of_pos _ m0) ⟨x, y, z + 1, rfl, x0, y0, y1, by omega, by omega⟩
theorem atI_of {α : Type} {xs : List α} {d : Int} (h0 : 0 ≤ d) (h1 : d < (xs.length : Int)) : ∃ v, v ∈ xs ∧ atI xs d = some v := by
  obtain ⟨k, rfl⟩ := Int.eq_ofNat_of_zero_le h0
  have hk : k < xs.length := by omega
  exact ⟨xs[k], List.getElem_mem hk, atI_nat (List.getElem?_eq_getElem hk)⟩
/-- one of some: of a list, or a letter of a text -/
def r_of : RU := fun ρ Q _ => ∃ (b : U) (sl : Sl) (n : Int), ρ = [.bor b, sl] ∧ BagU b n ∧ n ≤ 1000000000 ∧
  ((∃ ds, (sl = .val (.lst ds) ∨ sl = .bor (.lst ds)) ∧ 0 < ds.length ∧ ds.length ≤ 100000 ∧ ∀ (d b' : U), d ∈ ds → BagU b' (n + 1) → Q (.dt d) [.bor b', sl]) ∨
    (∃ z : Str, sl = .val (.str z) ∧ 0 < z.length ∧ z.length ≤ 1000 ∧ ∀ (c : Nat) (b' : U), c ∈ z.cps.toList → BagU b' (n + 1) → Q (.dt (.str ⟨#[c]⟩)) [.bor b', sl]))
theorem ok_law_of (T : Txt K mg) : FnOk P w K mg base CX0 2 T.f_law_of T.fd_law_of ["bag", "some"] (spU K r_of) := by
  have G_law_take := ok_law_take (P := P) (w := w) (base := base) T
  refine Fun_okU T.F_law_of sc_law_of (fun ρ Q X h => ?_) (fun cdv A outer s H E hr => ⟨_, (pss_one (ps_ret (pe_ix ix_seq (pv 1) (pe_call G_law_take hr (by rfl) T.g_law_take T.F_law_take.kp T.b_law_take .nil pass0 (pa_cons (pv 0) (pa_cons (pe_callB call_len (by rfl) T.m_len (by decide +kernel) (pa_cons (pv 1) pa_nil)) pa_nil))) (fun _ _ => rfl)))), ?_⟩)
  · obtain ⟨b, m, n, rfl, _⟩ := h
    rfl
  rintro W ρ Qd Xd ⟨b, sl, n, rfl, hb, hn, q⟩
  rcases q with ⟨ds, h, l0, l1, q⟩ | ⟨z, rfl, l0, l1, q⟩
  · rcases h with rfl | rfl
    · show WS K _ _ [.bor _, .val _] _
      repeat (walk_at "u")
      refine callU [true, true] rfl rfl fun Q' X' qq xx => ⟨b, _, n, rfl, hb, hn, by omega, by omega, fun d b' d0 d1 hb' => qq _ _ ?_⟩
      walk_at "ucl"
      obtain ⟨v, hv, ha⟩ := atI_of d0 d1
      refine wr_ix (.inl (wr_ixL rfl ha ?_))
      repeat (walk_at "u")
      exact q _ _ hv hb'
    · show WS K _ _ [.bor _, .bor _] _
      repeat (walk_at "u")
      refine callU [true, true] rfl rfl fun Q' X' qq xx => ⟨b, _, n, rfl, hb, hn, by omega, by omega, fun d b' d0 d1 hb' => qq _ _ ?_⟩
      walk_at "ucl"
      obtain ⟨v, hv, ha⟩ := atI_of d0 d1
      refine wr_ix (.inl (wr_ixL ⟨_, rfl, .inr rfl⟩ ha ?_))
      repeat (walk_at "u")
      exact q _ _ hv hb'
  · show WS K _ _ [.bor _, .val _] _
    repeat (walk_at "u")
    refine callU [true, true] rfl rfl fun Q' X' qq xx => ⟨b, _, n, rfl, hb, hn, by omega, by omega, fun d b' d0 d1 hb' => qq _ _ ?_⟩
    walk_at "ucl"
    obtain ⟨v, hv, ha⟩ := atI_of (xs := z.cps.toList) d0 (by rw [Array.length_toList]; exact d1)
    refine wr_ix (.inr (.inr (wr_ixS (by omega) ha ?_)))
    repeat (walk_at "u")
    exact q _ _ hv hb'
def IsClass (z : Str) : Prop := ∃ c cs, z.cps.toList = c :: cs ∧ cs.length ≤ 11 ∧ isUp c = true ∧ cs.all (fun x => isUp x || isLow x) = true
theorem BagU.mono {b : U} {n m : Int} (h : BagU b n) (l : n ≤ m) : BagU b m := by
  obtain ⟨x, y, z, e, r1, r2, r3, r4, r5⟩ := h
  exact ⟨x, y, z, e, r1, r2, r3, r4, by omega⟩
end

/-! ### data (rows of udata.in without families) -/
def plU : U → Bool
  | .str z => decide (z.length ≤ 1000)
  | d => plainU d
def plT : U → Bool
  | .tup ds => ds.all plU
  | d => plainU d
theorem strOk_low {z : Str} (h : z.cps.toList.all isLow = true) : PyData.strOk z = true := by
  unfold PyData.strOk
  rw [← Array.all_toList]
  refine List.all_eq_true.mpr fun c hc => ?_
  have h1 := List.all_eq_true.mp h c hc
  unfold isLow at h1
  have h2 := of_decide_eq_true h1
  exact decide_eq_true (by omega)
theorem fine_str {z : Str} {n : Nat} (h : PyData.strOk z = true) (l : z.length ≤ n) (hn : n ≤ 100000 := by decide) : fine (.str z) = true := by
  unfold fine
  rw [h, decide_eq_true (Nat.le_trans l hn)]
  rfl

mutual
def dU : U → PyData
  | .non => .none
  | .bl b => .bool b
  | .int i => .int i
  | .str z => .str z
  | .lst ds => .list (dUs ds)
  | .fls ds => .list (dUs ds)
  | .tup ds => .tuple (dUs ds)
  | _ => .none
def dUs : List U → List PyData
  | [] => []
  | d :: r => dU d :: dUs r
end
mutual
def okU : U → Bool
  | .non => true
  | .bl _ => true
  | .int _ => true
  | .str _ => true
  | .lst ds => okUs ds
  | .tup ds => okUs ds
  | _ => false
def okUs : List U → Bool
  | [] => true
  | d :: r => okU d && okUs r
end
mutual
theorem at_dp {K : PySem.W.Frag} {G : Hp} : ∀ (d : U) (v : V), At K G v d → okU d = true → Dp K G v (dU d)
  | .non, _, h, _ => by cases h; exact .non
  | .bl _, _, h, _ => by cases h; exact .bl _
  | .int _, _, h, _ => by cases h; exact .int _
  | .str _, _, h, _ => by cases h; exact .str _
  | .ty _, _, _, o => nomatch o
  | .raw _, _, _, o => nomatch o
  | .lst ds, _, h, o => by
    cases h with
    | lst hs ha => exact .lst (SqL.of hs) (ats_dp ds _ ha o)
  | .fls _, _, _, o => nomatch o
  | .tup ds, _, h, o => by
    cases h with
    | tup hs ha => exact .tup (SqT.of hs) (ats_dp ds _ ha o)
  | .dic _ _, _, _, o => nomatch o
  | .dct _ _, _, _, o => nomatch o
  | .obj _ _ _, _, _, o => nomatch o
  | .exo _ _ _, _, _, o => nomatch o
theorem ats_dp {K : PySem.W.Frag} {G : Hp} : ∀ (ds : List U) (vs : List V), AtAll K G vs ds → okUs ds = true → DpAll K G vs (dUs ds)
  | [], _, h, _ => by cases h; exact .nil
  | d :: r, _, h, o => by
    have o : (okU d && okUs r) = true := o
    rw [Bool.and_eq_true] at o
    cases h with
    | cons h1 h2 => exact .cons (at_dp d _ h1 o.1) (ats_dp r _ h2 o.2)
end
/-- a small value -/
def GoodU (d : U) : Prop := okU d = true ∧ fine (dU d) = true ∧ PyData.depth (dU d) ≤ 3 ∧ plU d = true
/-- a drawn entry -/
def EntU (d : U) : Prop := okU d = true ∧ fine (dU d) = true ∧ PyData.depth (dU d) ≤ 8 ∧ plT d = true
theorem GoodU.ent {d : U} (h : GoodU d) (p : plT d = true) : EntU d := ⟨h.1, h.2.1, Nat.le_trans h.2.2.1 (by decide), p⟩
theorem good_list {x y : U} (hx : GoodU x) (hy : GoodU y) : EntU (.lst [x, y]) := by
  obtain ⟨a1, a2, a3, a4⟩ := hx
  obtain ⟨b1, b2, b3, b4⟩ := hy
  refine ⟨?_, ?_, ?_, rfl⟩
  · show (okU x && (okU y && true)) = true
    rw [a1, b1]
    rfl
  · show (decide (2 ≤ 1000) && (fine (dU x) && (fine (dU y) && true))) = true
    rw [a2, b2]
    rfl
  · show max (PyData.depth (dU x)) (max (PyData.depth (dU y)) 0) + 1 ≤ 8
    omega
theorem good_one {x : U} (hx : GoodU x) : EntU (.tup [x]) := by
  obtain ⟨a1, a2, a3, a4⟩ := hx
  refine ⟨?_, ?_, ?_, ?_⟩
  · show (okU x && true) = true
    rw [a1]
    rfl
  · show (decide (1 ≤ 1000) && (fine (dU x) && true)) = true
    rw [a2]
    rfl
  · show max (PyData.depth (dU x)) 0 + 1 ≤ 8
    omega
  · show (plU x && true) = true
    rw [a4]
    rfl
theorem good_three {x y z : U} (hx : GoodU x) (hy : GoodU y) (hz : GoodU z) : EntU (.tup [x, y, z]) := by
  obtain ⟨a1, a2, a3, a4⟩ := hx
  obtain ⟨b1, b2, b3, b4⟩ := hy
  obtain ⟨c1, c2, c3, c4⟩ := hz
  refine ⟨?_, ?_, ?_, ?_⟩
  · show (okU x && (okU y && (okU z && true))) = true
    rw [a1, b1, c1]
    rfl
  · show (decide (3 ≤ 1000) && (fine (dU x) && (fine (dU y) && (fine (dU z) && true)))) = true
    rw [a2, b2, c2]
    rfl
  · show max (PyData.depth (dU x)) (max (PyData.depth (dU y)) (max (PyData.depth (dU z)) 0)) + 1 ≤ 8
    omega
  · show (plU x && (plU y && (plU z && true))) = true
    rw [a4, b4, c4]
    rfl
def SmallS (z : Str) : Prop := z.length ≤ 40 ∧ PyData.strOk z = true
theorem SmallS.good {z : Str} (h : SmallS z) : GoodU (.str z) := by
  refine ⟨rfl, fine_str h.2 h.1, Nat.le_trans (Nat.le_of_eq (show PyData.depth (.str z) = 0 from rfl)) (by decide), decide_eq_true (by have := h.1; omega)⟩
theorem good_pair {x y : U} (hx : GoodU x) (hy : GoodU y) : EntU (.tup [x, y]) := by
  obtain ⟨a1, a2, a3, a4⟩ := hx
  obtain ⟨b1, b2, b3, b4⟩ := hy
  refine ⟨?_, ?_, ?_, ?_⟩
  · show (okU x && (okU y && true)) = true
    rw [a1, b1]
    rfl
  · show (decide (2 ≤ 1000) && (fine (dU x) && (fine (dU y) && true))) = true
    rw [a2, b2]
    rfl
  · show max (PyData.depth (dU x)) (max (PyData.depth (dU y)) 0) + 1 ≤ 8
    omega
  · show (plU x && (plU y && true)) = true
    rw [a4, b4]
    rfl
theorem isClass_small {z : Str} (h : IsClass z) : SmallS z := by
  obtain ⟨c, cs, ez, hl, hu, hc⟩ := h
  have len : z.length = cs.length + 1 := by
    show z.cps.size = _
    rw [← Array.length_toList, ez, List.length_cons]
  refine ⟨by omega, ?_⟩
  unfold PyData.strOk
  rw [← Array.all_toList, ez]
  have up : ∀ x, isUp x = true → x < 0x110000 := fun x hx => by
    unfold isUp at hx
    have := of_decide_eq_true hx
    omega
  have low : ∀ x, isLow x = true → x < 0x110000 := fun x hx => by
    unfold isLow at hx
    have := of_decide_eq_true hx
    omega
  refine List.all_eq_true.mpr fun x hx => decide_eq_true ?_
  rcases List.mem_cons.mp hx with rfl | hx
  · exact up _ hu
  · have := List.all_eq_true.mp hc x hx
    rw [Bool.or_eq_true] at this
    rcases this with h | h
    · exact up _ h
    · exact low _ h
theorem small_append {z y : Str} (h : SmallS z) (hz : z.length ≤ 20) (e : y.length ≤ 20 ∧ PyData.strOk y = true) : SmallS (z ++ y) := by
  refine ⟨?_, ?_⟩
  · show (z.cps ++ y.cps).size ≤ 40
    rw [Array.size_append]
    have h1 := hz
    have h2 := e.1
    have h1 : z.cps.size ≤ 20 := h1
    have h2 : y.cps.size ≤ 20 := h2
    omega
  · have h1 := h.2
    have h2 := e.2
    unfold PyData.strOk at h1 h2 ⊢
    show (z.cps ++ y.cps).all _ = true
    rw [Array.all_append, h1, h2]
    rfl
theorem isClass_len {z : Str} (h : IsClass z) : z.length ≤ 12 := by
  obtain ⟨c, cs, ez, hl, _⟩ := h
  show z.cps.size ≤ 12
  rw [← Array.length_toList, ez, List.length_cons]
  omega
theorem wr_mulS {K : PySem.W.Frag} {W : Wx} {X : Er → Sls → Prop} {ρ : Sls} {z : Str} {n : Int} {Q : Av → Sls → Prop} (h : MulOk z n) (q : Q (.dt (.str (Txt.mul z n))) ρ) : WR K W (fun x y H Q => ∃ z n, x = .str z ∧ y = .int n ∧ MulOk z n ∧ Q (.str (Txt.mul z n)) H) (.dt (.str z)) (.dt (.int n)) ρ Q X := by
  rintro s v w Q0 rfl D _ h1 h2 k
  rw [at_str h1, at_int h2]
  exact ⟨z, n, rfl, rfl, h, k.dt D (.str _) q⟩
theorem dUs_map : ∀ ds : List U, dUs ds = ds.map dU
  | [] => rfl
  | d :: r => congrArg (dU d :: ·) (dUs_map r)
mutual
theorem eqv_dU : ∀ d : U, PyData.eqv (dU d) (dU d) = true
  | .non => rfl
  | .bl _ => beq_self_eq_true _
  | .int _ => beq_self_eq_true _
  | .str _ => beq_self_eq_true _
  | .lst ds => eqv_dUs ds
  | .fls ds => eqv_dUs ds
  | .tup ds => eqv_dUs ds
  | .ty _ => rfl
  | .raw _ => rfl
  | .dic _ _ => rfl
  | .dct _ _ => rfl
  | .obj _ _ _ => rfl
  | .exo _ _ _ => rfl
theorem eqv_dUs : ∀ ds : List U, PyData.eqvAll (dUs ds) (dUs ds) = true
  | [] => rfl
  | d :: r => by
    show (PyData.eqv (dU d) (dU d) && PyData.eqvAll (dUs r) (dUs r)) = true
    rw [eqv_dU d, eqv_dUs r]
    rfl
end
theorem no_own {G H : Hp} {d : U} {σ : L2.St} {a : Addr} : ¬ Owns ⟨G, [.val d], σ, H⟩ a := by
  rintro ⟨i, ⟨sl, x, e1, e2⟩, _⟩
  have := List.mem_of_getElem? e1
  rw [List.mem_singleton.mp this] at e2
  cases e2

/-! ### calls with keywords, by data -/
section
variable {K : PySem.W.Frag} {W : Wx} {X : Er → Sls → Prop} {ρ : Sls}
theorem AvsOk.append {s : Sta} : ∀ {vs us : List V} {as bs : List Av}, AvsOk K s vs as → AvsOk K s us bs → AvsOk K s (vs ++ us) (as ++ bs)
  | _, _, _, _, .nil, h => h
  | _, _, _, _, .cons f a t, h => .cons f a (AvsOk.append t h)
theorem AvsOk.length {s : Sta} : ∀ {vs : List V} {as : List Av}, AvsOk K s vs as → vs.length = as.length
  | _, _, .nil => rfl
  | _, _, .cons _ _ t => congrArg (· + 1) (AvsOk.length t)
/-- f(e, .., k = v, ..) -/
theorem we_callN {R : RU} {n m : Nat} {t tk : TA} {Q : Av → Sls → Prop} (h : WA K W t ρ (fun as ρ1 => WA K W tk ρ1 (fun bs ρ2 => as.length = n ∧ bs.length = m ∧ CallU R (as ++ bs) ρ2 Q (fun _ _ => False)) X) X) : WE K W (tCallN n m (spU K R) (fun vs zs => vs ++ zs) E0 t tk) ρ Q X := by
  rintro s Q0 rfl D x k
  refine h s _ rfl D x fun vs as s1 n1 ok1 q => ?_
  show tk s.σ s1.H _
  rw [← n1.slots]
  refine q s1 _ rfl n1.den (x.next n1.stp) fun zs bs s2 n2 ok2 ⟨l1, l2, q2⟩ => ?_
  have n12 := n1.trans n2
  refine ⟨by rw [ok1.length]; exact l1, by rw [ok2.length]; exact l2, ?_⟩
  exact q2.run n2.den ((AvsOk.next n2 ok1).append ok2) (k.lift n12) fun _ _ _ _ _ _ _ _ z => z.elim
end
theorem same_free {H H' : Hp} {e : Addr} (s : Same H H') (n : H' e = none) : H e = none := by
  cases q : H e with
  | none => rfl
  | some o =>
    rw [s _ _ q] at n
    cases n
/-! ### functions of values that say yes or no, by data -/
section
variable {P : Program} {w : World} {K : PySem.W.Frag} {mg : Str → Option Value} {base : Heap}
theorem vals_none {ρ : Sls} {σ : L2.St} {G H : Hp} (hv : ∀ sl ∈ ρ, ∃ d, sl = Sl.val d) {a : Addr} : ¬ Owns ⟨G, ρ, σ, H⟩ a := by
  rintro ⟨i, ⟨sl, x, e1, e2⟩, _⟩
  obtain ⟨d, rfl⟩ := hv sl (List.mem_of_getElem? e1)
  cases e2
theorem vals_step {ρ : Sls} {σ : L2.St} {G H H2 : Hp} (hv : ∀ sl ∈ ρ, ∃ d, sl = Sl.val d) (D : Den K ⟨G, ρ, σ, H⟩) (s : Same H H2) : Den K ⟨G, ρ, σ, H2⟩ ∧ Stp ⟨G, ρ, σ, H⟩ ⟨G, ρ, σ, H2⟩ := by
  refine ⟨⟨D.sub.trans s, D.len, D.val, fun i sl d e1 e2 => ?_, D.dis⟩, ⟨fun _ _ h => h, fun a o e _ => s a o e, fun a e => same_free s e, fun a h => absurd h (vals_none hv), fun _ _ _ h => h, fun _ d h => ⟨d, h, rfl⟩⟩⟩
  obtain ⟨d', rfl⟩ := hv sl (List.mem_of_getElem? e1)
  cases e2
def r_yes (ok : U → Prop) (f : U → Bool) : RU := fun ρ Q _ => ∃ d, ρ = [.val d] ∧ ok d ∧ Q (.dt (.bl (f d))) [.val d]
def okD (d : U) : Prop := okU d = true ∧ fine (dU d) = true ∧ PyData.depth (dU d) ≤ 60
theorem u_bool1 {k : Nat} {f : Addr} {fd : FuncData} {ps : List Str} {g : PyData → Bool} (F : FnOk P w K mg base CX0 k f fd ps (sp_bool1 K g)) : FnOk P w K mg base CX0 k f fd ps (spU K (r_yes okD fun d => g (dU d))) := by
  refine F.imp fun vs H Q E h => ?_
  obtain ⟨G, ρ, D, ar, d, rfl, ⟨ok, fi, dp⟩, q⟩ := h
  obtain ⟨v, e1, hv⟩ := D.val 0 d rfl
  obtain rfl : vs = [v] := by
    have hlen : (vs.map some).length = 1 := D.len
    match vs, hlen, e1 with
    | [x], _, e1 => cases e1; rfl
  refine ⟨v, dU d, rfl, Dp.same D.sub _ _ (at_dp d v hv ok), fi, dp, fun r H' er s => ?_⟩
  subst er
  obtain ⟨D2, S2⟩ := vals_step (by simp) D s
  exact q _ ⟨G, [.val d], [some v], H'⟩ rfl rfl D2 S2 trivial (.bl _)
def isPathU (ag : Bool) (d : U) : Bool := isPathD ag (dU d)
def isAnswerU (d : U) : Bool := isAnswerD (dU d)
def r_path : RU := fun ρ Q _ => ∃ (d : U) (ag : Bool), ρ = [.val d, .val (.bl ag)] ∧ okU d = true ∧ pathOk (dU d) ∧ Q (.dt (.bl (isPathU ag d))) [.val d, .val (.bl ag)]
theorem u_path {k : Nat} {f : Addr} {fd : FuncData} {ps : List Str} (F : FnOk P w K mg base CX0 k f fd ps (sp_path K)) : FnOk P w K mg base CX0 k f fd ps (spU K r_path) := by
  refine F.imp fun vs H Q E h => ?_
  obtain ⟨G, ρ, D, ar, d, ag, rfl, ok, po, q⟩ := h
  obtain ⟨v, e1, hv⟩ := D.val 0 d rfl
  obtain ⟨u, e2, hu⟩ := D.val 1 (.bl ag) rfl
  cases hu
  obtain rfl : vs = [v, .bl ag] := by
    have hlen : (vs.map some).length = 2 := D.len
    match vs, hlen, e1, e2 with
    | [x, y], _, e1, e2 => cases e1; cases e2; rfl
  refine ⟨v, ag, dU d, rfl, Dp.same D.sub _ _ (at_dp d v hv ok), po, fun r H' er s => ?_⟩
  subst er
  obtain ⟨D2, S2⟩ := vals_step (by simp) D s
  exact q _ ⟨G, [.val d, .val (.bl ag)], [some v, some (.bl ag)], H'⟩ rfl rfl D2 S2 trivial (.bl _)
theorem uk_is_path (T : Txt K mg) : FnOk P w K mg base CX0 6 T.f_is_path T.fd_is_path ["thing", "ageing"] (spU K r_path) := u_path (ok_is_path T)
theorem uk_is_answer (T : Txt K mg) : FnOk P w K mg base CX0 4 T.f_is_answer T.fd_is_answer ["thing"] (spU K (r_yes okD isAnswerU)) := u_bool1 (ok_is_answer T)
/-! ### entries -/
def isEntryU (ag : Bool) : U → Bool
  | .tup [p, a] => isPathU ag p && isAnswerU a
  | _ => false
theorem pathOk_fine {d : PyData} (h : fine d = true) : pathOk d := by
  cases d <;> try exact trivial
  rename_i ds
  have h : (decide (ds.length ≤ 1000) && fineAll ds) = true := h
  rw [Bool.and_eq_true] at h
  exact ⟨of_decide_eq_true h.1, fun e he => short_fine (fineAll_mem h.2 he)⟩
def r_entry : RU := fun ρ Q _ => ∃ (d : U) (ag : Bool), ρ = [.val d, .val (.bl ag)] ∧ okD d ∧ Q (.dt (.bl (isEntryU ag d))) [.val d, .val (.bl ag)]
theorem uk_is_entry (T : Txt K mg) : FnOk P w K mg base CX0 7 T.f_is_entry T.fd_is_entry ["thing", "ageing"] (spU K r_entry) := by
  have G_is_path := uk_is_path (P := P) (w := w) (base := base) T
  have G_is_answer := uk_is_answer (P := P) (w := w) (base := base) T
  refine Fun_okU T.F_is_entry sc_is_entry (fun ρ Q X h => ?_) (fun cdv A outer s H E hr => ⟨_, (pss_cons (ps_if (PW.pt (pw_or (pt_not (pt_val (pe_callB call_isi (by rfl) T.m_isinstance (by decide +kernel) (pa_cons (pv 0) (pa_cons (pe_bltn (v := .ty "tuple") (by rfl) T.m_tuple (by decide +kernel) rfl) pa_nil))))) (pw_or1 (pt_cmpR op_ne (pe_callB call_len (by rfl) T.m_len (by decide +kernel) (pa_cons (pv 0) pa_nil)) pe_int (nomark _))))) (pss_one (ps_ret pe_bl)) pss_nil)
        (pss_cons (ps_asg (pv 0) (pg_tup rfl (pgs_cons (pg_name (i := 2) sc_is_entry.nd rfl (.inl rfl)) (pgs_cons (pg_name (i := 3) sc_is_entry.nd rfl (.inl rfl)) pgs_nil))))
        (pss_one (ps_ret (pe_and (pe_callN G_is_path (hr.mono (by omega)) (by rfl) T.g_is_path T.F_is_path.kp T.bk_is_path pass0 (pa_cons (pv 2) pa_nil) (pk_cons (pv 1) pk_nil)) (pe_one (pe_call G_is_answer (hr.mono (by omega)) (by rfl) T.g_is_answer T.F_is_answer.kp T.b_is_answer .nil pass0 (pa_cons (pv 3) pa_nil)))))))), ?_⟩)
  · obtain ⟨d, ag, rfl, _⟩ := h
    rfl
  rintro W ρ Qd Xd ⟨d, ag, rfl, ⟨ok, fi, dp⟩, q⟩
  show WS K _ _ [.val _, .val _, .un, .un] _
  cases d
  case tup ds =>
    repeat (walk_at "u")
    by_cases hl : ds.length = 2
    · obtain ⟨p, a, rfl⟩ : ∃ p a, ds = [p, a] := by
        match ds, hl with
        | [p, a], _ => exact ⟨p, a, rfl⟩
      have ok2 : (okU p && (okU a && true)) = true := ok
      have fi2 : (decide (2 ≤ 1000) && (fine (dU p) && (fine (dU a) && true))) = true := fi
      rw [Bool.and_eq_true, Bool.and_eq_true] at ok2
      rw [Bool.and_eq_true, Bool.and_eq_true, Bool.and_eq_true] at fi2
      have dp2 : max (PyData.depth (dU p)) (max (PyData.depth (dU a)) 0) + 1 ≤ 60 := dp
      refine uF (by rfl) ?_
      repeat (walk_at "u")
      refine ⟨_, _, frzC_ok rfl, ?_⟩
      refine wg_tup ⟨_, rfl, rfl, ?_⟩
      repeat (walk_at "u")
      refine we_callN ?_
      repeat (walk_at "u")
      refine ⟨rfl, rfl, ?_⟩
      refine callU [false, false] rfl rfl fun Q' X' qq xx => ⟨p, ag, rfl, ok2.1, pathOk_fine fi2.2.1, qq _ _ ?_⟩
      walk_at "ucl"
      repeat (walk_at "u")
      have e : isEntryU ag (.tup [p, a]) = (isPathU ag p && isAnswerU a) := rfl
      rw [e] at q
      refine ite2 (fun z => ?_) (fun z => ?_)
      · rw [z] at q
        repeat (walk_at "u")
        refine callU [false] rfl rfl fun Q' X' qq xx => ⟨a, rfl, ⟨ok2.2.1, fi2.2.2.1, by omega⟩, qq _ _ ?_⟩
        walk_at "ucl"
        repeat (walk_at "u")
        exact q
      · rw [Bool.eq_false_iff.mpr z] at q
        repeat (walk_at "u")
        exact q
    · refine uT (by rw [decide_eq_false (fun e => hl (by injection e with e; omega))]; rfl) ?_
      repeat (walk_at "u")
      have e : isEntryU ag (.tup ds) = false := by
        match ds, hl with
        | [], _ => rfl
        | [_], _ => rfl
        | [_, _], h => exact absurd rfl h
        | _ :: _ :: _ :: _, _ => rfl
      rw [e] at q
      exact q
  all_goals (first | (cases ok; done) | ((repeat (walk_at "u")); exact q))
end

theorem keep_same {b : Addr} {H H1 H2 : Hp} (s : Same H H1) (nb : H b = none) (k : Keep b H1 H2) : Same H H2 := fun q o e => k q o (ne_of_none e nb) (s q o e)
theorem kit2 {K : PySem.W.Frag} {a c1 c2 : String} {r1 r2 : Bool} (h1 : kitB a c1 = some r1) (h2 : kitB a c2 = some r2) : PySem.W.kitAny K (.type a) [.type c1, .type c2] = some (r1 || r2) := by
  refine kitAny_cons (kit_ty h1) (fun e => ?_) (fun e => by rw [e]; rfl)
  rw [e, Bool.false_or]
  exact kitAny_cons (kit_ty h2) (fun e => by rw [e]; exact kitAny_nil) (fun e => e)
def spLaw (K : PySem.W.Frag) : Sp := fun vs H Q _ => ∃ (a : Addr) (ns : List Int), vs = [.ref a] ∧ SqL K H a (ns.map V.int) ∧ ns.length ≤ 63 ∧ (∀ z ∈ ns, Builtin.Int.intBits z ≤ 1048576) ∧ ∀ H', Q (.bl true) H'

/-! ### enumerate, by data -/
section
variable {K : PySem.W.Frag} {W : Wx} {X : Er → Sls → Prop} {ρ : Sls}
def enU (ds : List U) : List U := (List.range ds.length).map fun i => .tup [.int (i : Nat), ds.getD i .non]
theorem enU_length (ds : List U) : (enU ds).length = ds.length := by unfold enU; rw [List.length_map, List.length_range]
theorem enU_get {ds : List U} {i : Nat} {d : U} (e : ds[i]? = some d) : (enU ds)[i]? = some (.tup [.int (i : Nat), d]) := by
  unfold enU
  have h : i < ds.length := (List.getElem?_eq_some_iff.mp e).1
  rw [List.getElem?_map, List.getElem?_range h]
  show some (U.tup [.int (i : Nat), ds.getD i .non]) = _
  rw [List.getD_eq_getElem?_getD, e]
  rfl
theorem enU_at {ds : List U} {i : Nat} {x : U} (e : (enU ds)[i]? = some x) : ∃ d, ds[i]? = some d ∧ x = .tup [.int (i : Nat), d] := by
  have h : i < ds.length := by rw [← enU_length ds]; exact (List.getElem?_eq_some_iff.mp e).1
  refine ⟨ds[i], by simp [h], ?_⟩
  have e2 := enU_get (show ds[i]? = some ds[i] by simp [h])
  rw [e] at e2
  exact Option.some.inj e2
theorem uwalk_pairs {s : Sta} {J : It} {xs : List V} {ds : List U} {Gd : Hp → Prop} (hd : AtAll K s.G xs ds) (w : Walk J xs.length Gd (YPair (fun i => some (.int (i : Nat))) (fun i => xs[i]?))) (hg : ∀ s', Stp s s' → Den K s' → Gd s'.H) : UWalk K s J (enU ds) := by
  refine ⟨Gd, _, by rw [enU_length, ← hd.length]; exact w, hg, fun i x s' H' hi n D y => ?_⟩
  obtain ⟨T, x1, x2, rfl, hT, rfl, e1, e2⟩ := y
  cases e1
  obtain ⟨d, e, q⟩ := hd.get e2
  obtain ⟨n2, sub⟩ := layF (o := .tup [.int (i : Nat), x2]) D hT
  exact ⟨{ s' with H := upd s'.H T (.tup [.int (i : Nat), x2]), G := upd s'.G T (.tup [.int (i : Nat), x2]) }, .tup [.int (i : Nat), d], rfl, rfl, n2, enU_get e, .tup upd_same (.cons (.int _) (.cons (At.mono (n.sub.trans sub) _ _ q) .nil))⟩
theorem wi_enum2 {ta : TA} {Q : List U → Sls → Prop} (h : WA K W ta ρ (fun as ρ1 => ∃ a d ds ρ2, as = [a] ∧ (d = .lst ds ∨ d = .tup ds) ∧ Frz ρ1 [a] [d] ρ2 ∧ Q (enU ds) ρ2) X) : WI K W (iEnum2 K ta) ρ Q X := by
  rintro s R0 rfl D x k
  refine h s _ rfl D x fun vs as s1 n ok ⟨a, d, ds, ρ2, ea, hd, hf, q⟩ => ?_
  subst ea
  obtain ⟨s2, e1, e2, n2, hv⟩ := hf.run rfl n.den ok
  cases hv with
  | cons hv hn =>
    cases hn
    rw [← e2]
    rcases hd with rfl | rfl
    · cases hv with
      | lst hs ha =>
        exact .inl ⟨_, _, rfl, SqL.of (n2.den.sub _ _ hs), k _ _ s2 (n.trans n2) (uwalk_pairs ha walk_enum fun s' n' D' => SqL.of (D'.sub _ _ (n'.sub _ _ hs))) (by rw [e1]; exact q)⟩
    · cases hv with
      | tup hs ha =>
        exact .inr ⟨_, _, rfl, SqT.of (n2.den.sub _ _ hs), k _ _ s2 (n.trans n2) (uwalk_pairs ha walk_enumT fun s' n' D' => SqT.of (D'.sub _ _ (n'.sub _ _ hs))) (by rw [e1]; exact q)⟩
end
/-! ### entries of parts -/
def entP : U → List Key × U
  | .tup [p, a] => ((keyT p).getD [], a)
  | _ => ([], .non)
def pathsU (ds : List U) : List (List Key) := ds.map fun d => (entP d).1
def ansU (ds : List U) : List U := ds.map fun d => (entP d).2
def goodAt (ag : Bool) (ds : List U) (i : Nat) (d : U) : Prop := isEntryU ag d = true ∧ (entP d).1 ∉ pathsU (ds.take i)
def RightP (ag : Bool) (ds : List U) (n : Nat) : Prop := ∀ i < n, ∃ d, ds[i]? = some d ∧ goodAt ag ds i d
theorem calls_keys : ∀ {es : List U}, (dUs es).all isCallD = true → ∃ zs : List Str, es = zs.map U.str
  | [], _ => ⟨[], rfl⟩
  | e :: r, h => by
    have h : (isCallD (dU e) && (dUs r).all isCallD) = true := h
    rw [Bool.and_eq_true] at h
    obtain ⟨zs, rfl⟩ := calls_keys h.2
    obtain ⟨h1, _⟩ := h
    cases e
    case str z => exact ⟨z :: zs, rfl⟩
    all_goals exact absurd h1 Bool.false_ne_true
theorem keys_strs : ∀ zs : List Str, keysU (zs.map U.str) = some (zs.map Sum.inr)
  | [] => rfl
  | z :: zs => by
    show (match some (Sum.inr z), keysU (zs.map U.str) with | some k, some ks => some (k :: ks) | _, _ => none) = _
    rw [keys_strs zs]
    rfl
/-- an entry's path: a tuple of texts -/
theorem entry_path {ag : Bool} {d : U} (h : isEntryU ag d = true) : ∃ (zs : List Str) (a : U), d = .tup [.tup (zs.map U.str), a] ∧ zs ≠ [] ∧ isAnswerU a = true ∧ entP d = (zs.map Sum.inr, a) := by
  unfold isEntryU at h
  split at h
  · rename_i p a
    rw [Bool.and_eq_true] at h
    have h1 : isPathD ag (dU p) = true := h.1
    cases p <;> first | exact absurd h1 Bool.false_ne_true | skip
    rename_i es
    have h1 : (!decide ((dUs es).length = 0) && ((ag || decide ((dUs es).length = 1)) && (dUs es).all isCallD)) = true := h1
    rw [Bool.and_eq_true, Bool.and_eq_true] at h1
    obtain ⟨zs, rfl⟩ := calls_keys h1.2.2
    refine ⟨zs, a, rfl, fun e => ?_, h.2, ?_⟩
    · subst e
      exact absurd h1.1 Bool.false_ne_true
    · show ((keysU (zs.map U.str)).getD [], a) = _
      rw [keys_strs]
      rfl
  · cases h
theorem path_txt {zs : List Str} (h : zs ≠ []) : TxtKey (zs.map Sum.inr) := by
  cases zs with
  | nil => exact absurd rfl h
  | cons z zs => exact ⟨z, zs, rfl⟩
theorem take_snoc {α β : Type} (f : α → β) {ds : List α} {i : Nat} {d : α} (e : ds[i]? = some d) : (ds.take (i + 1)).map f = (ds.take i).map f ++ [f d] := by
  rw [List.take_succ, e, List.map_append]
  rfl
theorem any_mem {κ : Type} [DecidableEq κ] (ks : List κ) (k : κ) : (ks.any fun n => decide (n = k)) = decide (k ∈ ks) := by
  rw [Bool.eq_iff_iff, List.any_eq_true, decide_eq_true_iff]
  constructor
  · rintro ⟨x, hx, e⟩
    rw [← of_decide_eq_true e]
    exact hx
  · exact fun h => ⟨k, h, decide_eq_true rfl⟩
theorem putKU_new {κ : Type} [DecidableEq κ] {ks : List κ} {k : κ} (h : k ∉ ks) : putKU ks k = ks ++ [k] := by
  unfold putKU
  rw [any_mem, decide_eq_false h]
  rfl
theorem putXU_new {κ : Type} [DecidableEq κ] {ks : List κ} {xs : List U} {k : κ} {d : U} (h : k ∉ ks) : putXU ks xs k d = xs ++ [d] := by
  unfold putXU
  rw [any_mem, decide_eq_false h]
  rfl
theorem valU_some {κ : Type} [DecidableEq κ] : ∀ {ks : List κ} {xs : List U} {k : κ}, ks.length = xs.length → (valU ks xs k).isSome = decide (k ∈ ks)
  | [], [], k, _ => by simp [valU]
  | a :: ks, x :: xs, k, h => by
    have h : ks.length = xs.length := Nat.succ.inj h
    unfold valU
    by_cases e : a = k
    · rw [if_pos e, decide_eq_true (by rw [e]; exact List.mem_cons_self)]
      rfl
    · rw [if_neg e, valU_some h, Bool.eq_iff_iff, decide_eq_true_iff, decide_eq_true_iff, List.mem_cons]
      exact ⟨.inr, fun z => z.elim (fun z => absurd z.symm e) id⟩
  | [], _ :: _, _, h => nomatch h
  | _ :: _, [], _, h => nomatch h

/-! ### C(e, .., k = v, ..) that may let an error out -/
def tMkKS (C : Addr) (n m : Nat) (sp : Sp) (gV : List V → List V → List V) (E : L2.St → XK) (t tk : TA) : TE := fun σ H Q => t σ H fun vs H1 => tk σ H1 fun zs H2 => vs.length = n ∧ zs.length = m ∧ ∀ x dx, H2 x = none → H2 dx = none → dx ≠ x →
  sp (gV (.ref x :: vs) zs) (upd (upd H2 dx (.own x)) x (.ins C dx [])) (fun v H3 => v = .non ∧ Q (.ref x) H3) (E σ)
section
variable {X : Cx} {CX : CXT} {k n : Nat} {f C : Addr} {fd : FuncData} {ps ks : List Str} {sp : Sp} {E : L2.St → XK} {x : Str} {p pos : Pos} {e : Expr} {es : List Expr} {kws : List Keyword} {t tk : TA} {g : List Value → List Value → List Value} {gV : List V → List V → List V}
theorem run_mkKS {pins : List (Addr × Obj)} {σ : L2.St} {H : Hp} {s : Shared} {Q : VK} {us ws : List Value} {vs zs : List V} (M : Mk X.K C f) (F : FnOk X.prog X.w X.K X.mg X.base CX k f fd ps sp) (hr : Room (k + 1) X.A) (hb : KBn X.K fd ps (n + 1) ks g gV) (hx : PassesAt CX X σ (E σ))
    (I : Inv X pins σ H s) (r : Vals vs us) (rz : Vals zs ws) (l1 : vs.length = n) (l2 : zs.length = ks.length)
    (h : ∀ x dx, H x = none → H dx = none → dx ≠ x → sp (gV (.ref x :: vs) zs) (upd (upd H dx (.own x)) x (.ins C dx [])) (fun v H2 => v = .non ∧ Q (.ref x) H2) (E σ)) :
    wpAny (model X.prog X.w) X.A (call (.ref C) us (ks.zip ws)) (EP X pins σ Q) X.xe s := by
  have hq := h (s.heap.objs.size + 1) s.heap.objs.size (I.hok.fresh (Nat.le_succ _)) (I.hok.fresh (Nat.le_refl _)) (Nat.ne_of_lt (Nat.lt_succ_self _))
  have I2 := Inv.made (C := C) I
  have r1 : Vals (V.ref (s.heap.objs.size + 1) :: vs) (Value.ref (s.heap.objs.size + 1) :: us) := .cons rfl r
  have r2 := hb.rel r1 rz
  have n1 : (Value.ref (s.heap.objs.size + 1) :: us).length = n + 1 := by
    rw [List.length_cons, ← r.length, l1]
  have go := F.run _ X.stack _ _ ⟨Value.ref (s.heap.objs.size + 1) :: us, ks.zip ws⟩ (g (Value.ref (s.heap.objs.size + 1) :: us) ws) _ _ (E σ) (hr.make C us (ks.zip ws))
    (I2.env0.make C us (ks.zip ws)) (hb.to _ (Value.ref (s.heap.objs.size + 1) :: us) ws I2.kIn n1 (rz.length.symm.trans l2)) r2 hq
  refine wpAny_call (make_map (f := f) I.kIn M.makes M.init (beq_iff_eq.mp M.fn) (codeAny_mono go fun e s' hq' => ?_))
  match e, hq' with
  | .error e, hq' => exact hx pins _ _ e s' I2 hq'
  | .ok (.ret u), hq' =>
    obtain ⟨v, H', I3, rv, ev, q3⟩ := I2.after hq'
    subst ev
    exact ⟨rv, V.ref (s.heap.objs.size + 1), H', I3, rfl, q3⟩
  | .ok .next, hq' => exact False.elim hq'
  | .ok .brk, hq' => exact False.elim hq'
  | .ok .cont, hq' => exact False.elim hq'
theorem pe_mkKS (M : Mk X.K C f) (F : FnOk X.prog X.w X.K X.mg X.base CX k f fd ps sp) (hr : Room (k + 1) X.A) (hg : Gl X x) (hm : X.mg x = some (.ref C)) (hb : KBn X.K fd ps (n + 1) ks g gV) (hx : ∀ σ, PassesAt CX X σ (E σ)) (ha : PA X (e :: es) t) (hkw : PK X kws tk)
    (hall : (backToKw pos (keywordEach kws X.env)).all (·.1.isSome) = true := by rfl) (hks : (backToKw pos (keywordEach kws X.env)).filterMap (·.1) = ks := by rfl) (hdb : (x == ("__debug__" : Str)) = false := by decide)
    (he : starEach (e :: es) X.env = (false, eval e X.env) :: starEach es X.env := by rfl) (hpl : ((backTo pos (starEach (e :: es) X.env)).any (·.1) || (backToKw pos (keywordEach kws X.env)).any (·.1.isNone)) = false := by rfl) :
    PE X (.Call (.Name x p) (e :: es) kws pos) (tMkKS C n ks.length sp gV E t tk) := by
  refine ⟨fun pins s σ H Q I h => ?_⟩
  refine wpAny_Call_Name_kw (ld_glob I hg hm ?_ hdb)
  refine PySem.W.callWith_KW (h₀ := X.base) I.ok.mod.kin M.kp hall (thn (ha.run pos pins s σ H _ I h) fun us s1 ⟨vs, H1, I1, r, q⟩ => ?_) hpl he
  refine thn (hkw.run pos pins s1 σ H1 _ I1 q) fun ws s2 ⟨zs, H2, I2, rz, l1, l2, q2⟩ => ⟨I2.kIn, ?_⟩
  rw [hks]
  exact run_mkKS M F hr hb (hx σ) I2 r rz l1 l2 q2
end
section
variable {K : PySem.W.Frag} {W : Wx} {X : Er → Sls → Prop} {ρ : Sls}
/-- C(e, .., k = v, ..), by data -/
theorem we_mkKS {C : Addr} {R : RU} {n m : Nat} {t tk : TA} {Q : Av → Sls → Prop} (h : WA K W t ρ (fun as ρ1 => WA K W tk ρ1 (fun bs ρ2 => as.length = n ∧ bs.length = m ∧ MakeU C R (as ++ bs) ρ2 Q X) X) X) : WE K W (tMkKS C n m (spU K R) (fun vs zs => vs ++ zs) (fun σ cls dd H => W cls dd σ H) t tk) ρ Q X := by
  rintro s Q0 rfl D xo k
  refine h s _ rfl D xo fun vs as s1 n1 ok1 q1 => ?_
  show tk s.σ s1.H _
  rw [← n1.slots]
  refine q1 s1 _ rfl n1.den (xo.next n1.stp) fun zs bs s2 n2 ok2 ⟨l1, l2, q⟩ => ?_
  have n12 := n1.trans n2
  refine ⟨by rw [ok1.length]; exact l1, by rw [ok2.length]; exact l2, fun x dx hx hd ne => ?_⟩
  refine MakeU.run (vs := vs ++ zs) q n12 ((AvsOk.next n2 ok1).append ok2) k (fun cls dd e s' n d eσ er z => ?_) hx hd ne
  have := (xo.next n12.stp) cls dd e s' n d er z
  rw [eσ, n12.slots] at this
  rw [n1.slots]
  exact this
end
/-- isinstance(e, c) in the suite that caught e -/
def rIsX (K : PySem.W.Frag) (a : Addr) (cls : Value) (d : Option Addr) : List V → Hp → VK → Prop := fun xs H Q => ∃ (c : V) (u : Value) (b : Bool) (C dd : Addr) (fs : List (Str × V)), xs = [.ref a, c] ∧ ClsV c u ∧ cls = .ref C ∧ d = some dd ∧ ExcC K C ∧ H dd = some (.xd fs) ∧ PySem.W.kitOne K (.ref C) u = some b ∧ Q (.bl b) H
theorem call_isX {X : Cx} {K : PySem.W.Frag} {a : Addr} {oe : Obj} {cls : Value} {d : Option Addr} {pn : List (Addr × Obj)} (hK : X.K = K) (hz : Zc cls d oe) (hf : ∃ vs, oe.data = .fields vs) : CallR (X.suite a ((a, oe) :: pn)) (.builtin "isinstance") (rIsX K a cls d) := by
  intro pins s σ H xs us Q I r h
  obtain ⟨c, u, b, C, dd, fs, rfl, k, rfl, rfl, EC, ee, e, q⟩ := h
  obtain ⟨u1, u2, rfl, r1, r2⟩ := vals2 r
  have e2 := k.eq r2
  subst e2
  obtain rfl : u1 = Value.ref a := r1
  obtain ⟨ha, _⟩ := I.pin (a, oe) (List.mem_append_left _ List.mem_cons_self)
  obtain ⟨vs, hd⟩ := hf
  obtain ⟨mA, ns, rel⟩ := (I.hok dd _ ee : ObjOk X.prog X.w H s.heap dd (.xd fs))
  obtain ⟨od, ho, _⟩ := lookIn_ns ns
  have inst : PySem.W.InstAt s.heap a oe C (some od) := ⟨ha, hz.1, by unfold PySem.W.notCls; rw [hd] <;> rfl, by rw [hz.2]; exact ho⟩
  have hcl : (PySem.W.clsIn K C).isSome = true := by
    obtain ⟨cd, hc, _⟩ := PySem.W.any_some EC.hd
    rw [hc]
    rfl
  subst hK
  exact PySem.W.kia_one (PySem.W.kitx_exc hcl EC.hg EC.hk EC.hs EC.ha EC.hn EC.ht EC.hm) I.kIn inst e (fun z => nomatch z) fun tk => ⟨.bl b, H, I.tok tk, rfl, q⟩
/-! ### a method with defaults and keyword-only parameters -/
theorem FunD_okUX {P : Program} {w : World} {K : PySem.W.Frag} {mg : Str → Option Value} {base : Heap} {x qual : Str} {st : Stmt} {dvs : List V} {kws : List (Str × V)} {f : Addr} {fd : FuncData} {N ps : List Str} {k : Nat} {R : RU} (F : FunD K x qual (defArgs st) (defBody st) (defScope st) dvs kws f fd) (S : FnScope N ps (defScope st)) (hn : ∀ ρ Q X, R ρ Q X → ρ.length = ps.length)
    (hbody : ∀ (cdv : Value) (A : Around) (outer : List PySem.Env) (s : Shared) (H : Hp) (E : XK), Room k (A.deeper (envOfC qual (defScope st) s.heap.objs.size f cdv)) →
      ∃ t, PSs (cxOf (L2.CX P w) P w K mg base N qual (defScope st) f cdv A outer s H E) (defBody st) t ∧
        ∀ (ρ : Sls) (Qd : Av → Sls → Prop) (Xd : Er → Sls → Prop), R ρ Qd Xd →
          WS K (fun cls dd _ H' => E cls dd H') t (ρ ++ List.replicate (N.length - ps.length) .un) { nx := fun ρ' => Qd (.dt .non) (out ρ ρ'), rt := fun a ρ' => a.ns ∧ Qd a (out ρ ρ'), xc := fun e ρ' => Xd e (out ρ ρ') }) :
    FnOk P w K mg base (L2.CX P w) (k + 1) f fd ps (spU K R) := by
  refine F.ok S (fun vs H Q E h => spU_len h hn) (fun cdv A outer s H vs Q E hr h => ?_)
  obtain ⟨t, ht, hw⟩ := hbody cdv A outer s H E hr
  refine ⟨t, ht, body_U h fun ρ Qd Xd hl hR => ?_⟩
  have e : vs.length = ps.length := hl.symm.trans (hn _ _ _ hR)
  rw [e]
  exact hw ρ Qd Xd hR

section
variable {P : Program} {w : World} {K : PySem.W.Frag} {mg : Str → Option Value} {base : Heap}
/-! ### a part made, by data -/
def r_copied : RU := fun ρ Q _ => ∃ d : U, ρ = [.val d] ∧ okD d ∧ ∀ a : Av, (a = .dt d ∨ a = .own d) → Q a [.val d]
theorem uk_copied (T : Txt K mg) : FnOk P w K mg base CX0 1 T.f_copied T.fd_copied ["answer"] (spU K r_copied) := by
  refine Fun_okU T.F_copied sc_copied (fun ρ Q X h => ?_) (fun cdv A outer s H E hr => ⟨_, (pss_one (ps_ret (pe_ifExp (pt_val (pe_callB call_isi (by rfl) T.m_isinstance (by decide +kernel) (pa_cons (pv 0) (pa_cons (pe_bltn (v := .ty "list") (by rfl) T.m_list (by decide +kernel) rfl) pa_nil)))) (pe_callTy call_list_of (by rfl) T.m_list (by decide +kernel) (pa_cons (pv 0) pa_nil)) (pv 0)))), ?_⟩)
  · obtain ⟨d, rfl, _⟩ := h
    rfl
  rintro W ρ Qd Xd ⟨d, rfl, ⟨ok, fi, dp⟩, q⟩
  show WS K _ _ [.val _] _
  cases d
  case lst ds =>
    repeat (walk_at "u")
    exact q _ (.inr rfl)
  all_goals (first | (cases ok; done) | ((repeat (walk_at "u")); exact q _ (.inl rfl)))
end
/-! ### raise C(e) -/
section
variable {K : PySem.W.Frag} {W : Wx} {ρ : Sls} {P : Post}
theorem ws_raise1 {C : Addr} {f : Str} {ta : TA} (h : WA K W ta ρ (fun as ρ1 => ∃ d ρ2, Frz ρ1 as [d] ρ2 ∧ P.xc ⟨C, [f], [d]⟩ ρ2) P.xc) : WS K W (fun _ σ H => tMkO C (sp_init f C) [] ta σ H fun cls d H' => W cls d σ H') ρ P := by
  rintro s D rfl d x fi
  refine h s _ rfl d x fun vs as s1 n1 ok ⟨z, ρ2, fz, q⟩ => ?_
  obtain ⟨s2, e1, e2, n2, hd⟩ := fz.run rfl n1.den ok
  cases hd with
  | @cons v _ _ _ hv ht =>
    cases ht
    refine mk_err (Q := fun cls d H' => W cls d s.σ H') fun dn nd => ?_
    rw [← e2] at nd ⊢
    obtain ⟨n3, sub⟩ := layF (o := .xd [(f, v)]) n2.den nd
    have n13 := n1.trans (n2.trans n3)
    have := x (.ref C) (some dn) ⟨C, [f], [z]⟩ _ n13.stp n13.den ⟨rfl, dn, [(f, v)], rfl, upd_same, rfl, .cons (At.mono sub _ _ hv) .nil⟩ (by show P.xc _ s2.ρ; rw [e1]; exact q)
    rw [n13.slots] at this
    exact this
end
section
variable {P : Program} {w : World} {K : PySem.W.Frag} {mg : Str → Option Value} {base : Heap}
def seqP : U → Option (List U)
  | .lst ds => some ds
  | .tup ds => some ds
  | _ => none
def keptK (ks : List (List Key)) (xs : List U) (l : List (List Key)) : List (List Key) := l.filter fun k => !nonU ((valU ks xs k).getD (.int 0))
def keptX (ks : List (List Key)) (xs : List U) (l : List (List Key)) : List U := (keptK ks xs l).map fun k => (valU ks xs k).getD .non
def ptU (C : Addr) (ag : Bool) (ds : List U) : U := .obj C [Str.ofString "ageing", Str.ofString "_answers"] [.bl ag, .dct (keptK (pathsU ds) (ansU ds) (sortT (pathsU ds))) (keptX (pathsU ds) (ansU ds) (sortT (pathsU ds)))]
def r_pinit (C CB : Addr) : RU := fun ρ Q X => ∃ (d : U) (ag : Bool), ρ = [.bor (.obj C [] []), .val d, .val (.bl ag)] ∧ okD d ∧
  (∀ ds, seqP d = some ds → ds.length ≤ 1000 ∧ (RightP ag ds ds.length → Q (.dt .non) [.bor (ptU C ag ds), .val d, .val (.bl ag)]) ∧
    ∀ (i : Nat) (x : U), RightP ag ds i → ds[i]? = some x → ¬ goodAt ag ds i x → X ⟨CB, ["at"], [.int i]⟩ [.bor (.obj C [] []), .val d, .val (.bl ag)]) ∧
  (seqP d = none → X ⟨CB, ["at"], [.int (-1)]⟩ [.bor (.obj C [] []), .val d, .val (.bl ag)])
theorem ok_init_BadPart (T : Txt K mg) : FnOk P w K mg base CX0 1 T.cI_BadPart T.cfd_BadPart ["self", "at"] (sp_init "at" T.cC_BadPart) := by
  refine T.cF_BadPart.ok sci_BadPart (fun vs H Q E h => ?_) (fun cdv A outer s H vs Q E hr h => ?_)
  · obtain ⟨a, v, rfl, _⟩ := h
    rfl
  · obtain ⟨a, v, rfl, ha, q⟩ := h
    refine ⟨_, pss_one (ps_ost (pv 0) (pv 1)), ?_⟩
    exact ⟨v, rfl, .ref a, rfl, a, T.cC_BadPart, rfl, T.cE_BadPart.o, T.cE_BadPart.no, .inl ⟨ha, fun dx nd ne => q dx nd ne⟩⟩
theorem valU_in {κ : Type} [DecidableEq κ] {ks : List κ} {xs : List U} {k : κ} (h : ks.length = xs.length) (m : k ∈ ks) : (valU ks xs k).isSome = true := by
  rw [valU_some h]
  exact decide_eq_true m
theorem valU_out {κ : Type} [DecidableEq κ] {ks : List κ} {xs : List U} {k : κ} (h : ks.length = xs.length) (m : k ∉ ks) : (valU ks xs k).isSome = false := by
  rw [valU_some h]
  exact decide_eq_false m
theorem paths_nodup {ag : Bool} : ∀ {ds : List U}, RightP ag ds ds.length → (pathsU ds).Nodup := by
  intro ds h
  unfold pathsU List.Nodup
  rw [List.pairwise_iff_getElem]
  intro i j hi hj hij e
  rw [List.length_map] at hi hj
  rw [List.getElem_map, List.getElem_map] at e
  obtain ⟨d, e1, _, e2⟩ := h j hj
  rw [List.getElem?_eq_getElem hj] at e1
  rw [Option.some.inj e1] at e
  refine e2 ?_
  rw [← e]
  exact List.mem_map_of_mem (f := fun d => (entP d).1) (List.mem_of_getElem? (show (ds.take j)[i]? = some ds[i] by rw [List.getElem?_take_of_lt hij, List.getElem?_eq_getElem hi]))
theorem take_one {α : Type} {l : List α} {k : Nat} {a : α} (h : l[k]? = some a) : l.take (k + 1) = l.take k ++ [a] := by
  rw [List.take_succ, h]
  rfl
theorem not_before {α : Type} {l : List α} {k : Nat} {a : α} (nd : l.Nodup) (h : l[k]? = some a) : a ∉ l.take k := by
  intro m
  obtain ⟨i, hi⟩ := List.mem_iff_getElem?.mp m
  have lt : i < k := by
    have := (List.getElem?_eq_some_iff.mp hi).1
    rw [List.length_take] at this
    omega
  rw [List.getElem?_take_of_lt lt] at hi
  have h1 := (List.getElem?_eq_some_iff.mp hi)
  have h2 := (List.getElem?_eq_some_iff.mp h)
  obtain ⟨l1, e1⟩ := h1
  obtain ⟨l2, e2⟩ := h2
  exact (List.pairwise_iff_getElem.mp nd i k l1 l2 lt) (e1.trans e2.symm)
theorem kept_yes {P : List (List Key)} {A : List U} {l : List (List Key)} {k : Nat} {ky : List Key} {x : U} (h : l[k]? = some ky) (hx : valU P A ky = some x) (hn : nonU x = false) : keptK P A (l.take (k + 1)) = keptK P A (l.take k) ++ [ky] ∧ keptX P A (l.take (k + 1)) = keptX P A (l.take k) ++ [x] := by
  have e : keptK P A (l.take (k + 1)) = keptK P A (l.take k) ++ [ky] := by
    unfold keptK
    rw [take_one h, List.filter_append]
    refine congrArg _ (List.filter_eq_self.mpr fun z hz => ?_)
    rw [List.mem_singleton.mp hz, hx]
    show (!nonU x) = true
    rw [hn]
    rfl
  refine ⟨e, ?_⟩
  unfold keptX
  rw [e, List.map_append]
  show _ ++ [(valU P A ky).getD .non] = _
  rw [hx]
  rfl
theorem kept_no {P : List (List Key)} {A : List U} {l : List (List Key)} {k : Nat} {ky : List Key} {x : U} (h : l[k]? = some ky) (hx : valU P A ky = some x) (hn : nonU x = true) : keptK P A (l.take (k + 1)) = keptK P A (l.take k) ∧ keptX P A (l.take (k + 1)) = keptX P A (l.take k) := by
  have e : keptK P A (l.take (k + 1)) = keptK P A (l.take k) := by
    unfold keptK
    rw [take_one h, List.filter_append]
    have : [ky].filter (fun k => !nonU ((valU P A k).getD (.int 0))) = [] := by
      rw [List.filter_eq_nil_iff]
      intro z hz
      rw [List.mem_singleton.mp hz, hx]
      show ¬(!nonU x) = true
      rw [hn]
      exact Bool.false_ne_true
    rw [this, List.append_nil]
  refine ⟨e, ?_⟩
  unfold keptX
  rw [e]
theorem depth_mem2 {ds : List PyData} {d : PyData} (h : d ∈ ds) : PyData.depth d ≤ PyData.depthAll ds := by
  induction ds with
  | nil => cases h
  | cons a r ih =>
    show PyData.depth d ≤ max (PyData.depth a) (PyData.depthAll r)
    rcases List.mem_cons.mp h with rfl | h
    · exact Nat.le_max_left _ _
    · exact Nat.le_trans (ih h) (Nat.le_max_right _ _)
theorem okUs_mem2 : ∀ {ds : List U} {x : U}, okUs ds = true → x ∈ ds → okU x = true
  | d :: r, x, h, m => by
    have h : (okU d && okUs r) = true := h
    rw [Bool.and_eq_true] at h
    rcases List.mem_cons.mp m with rfl | m
    · exact h.1
    · exact okUs_mem2 h.2 m
theorem dUs_mem : ∀ {ds : List U} {x : U}, x ∈ ds → dU x ∈ dUs ds
  | d :: r, x, m => by
    rcases List.mem_cons.mp m with rfl | m
    · exact List.mem_cons_self
    · exact List.mem_cons_of_mem _ (dUs_mem m)
theorem okD_item {d e : U} {ds : List U} (h : okD d) (hd : d = .lst ds ∨ d = .tup ds) (m : e ∈ ds) : okD e := by
  obtain ⟨ok, fi, dp⟩ := h
  have key : okUs ds = true ∧ fineAll (dUs ds) = true ∧ PyData.depthAll (dUs ds) + 1 ≤ 60 := by
    rcases hd with rfl | rfl
    all_goals
      have fi : (decide ((dUs ds).length ≤ 1000) && fineAll (dUs ds)) = true := fi
      rw [Bool.and_eq_true] at fi
      exact ⟨ok, fi.2, dp⟩
  have := depth_mem2 (dUs_mem m)
  exact ⟨okUs_mem2 key.1 m, fineAll_mem key.2.1 (dUs_mem m), by omega⟩
set_option hygiene false in
local macro_rules | `(tactic| walk_at "ut") => `(tactic| first
  | with_reducible refine we_dinT ?_
  | with_reducible refine we_dnotinT ?_
  | with_reducible refine we_dgetT ?_
  | with_reducible refine ws_dputT ?_
  | walk_at "u")
theorem uk_pinit (T : Txt K mg) : FnOk P w K mg base (L2.CX P w) 8 T.f_Part___init__ T.fd_Part___init__ ["self", "entries", "ageing"] (spU K (r_pinit T.C_Part T.cC_BadPart)) := by
  have G_is_entry := uk_is_entry (P := P) (w := w) (base := base) T
  have G_copied := uk_copied (P := P) (w := w) (base := base) T
  have GI_BadPart := ok_init_BadPart (P := P) (w := w) (base := base) T
  refine FunD_okUX T.F_Part___init__ sc_Part___init__ (fun ρ Q X h => ?_) (fun cdv A outer s H E hr => ⟨_, (pss_cons (ps_if (pt_not (pt_val (pe_callB call_isiT (by rfl) T.m_isinstance (by decide +kernel) (pa_cons (pv 1) (pa_cons (pe_tup (pa_cons (pe_bltn (v := .ty "list") (by rfl) T.m_list (by decide +kernel) rfl) (pa_cons (pe_bltn (v := .ty "tuple") (by rfl) T.m_tuple (by decide +kernel) rfl) pa_nil))) pa_nil))))) (pss_one (ps_raise rfl (takes_of rfl rfl rfl rfl) (pmk_oex T.cE_BadPart.o T.cE_BadPart.i T.cE_BadPart.t GI_BadPart (hr.mono (by omega)) T.cb_BadPart .nil pass0 (by rfl) T.cE_BadPart.g (pa_cons (pe_un un_neg pe_int) pa_nil)))) pss_nil)
        (pss_cons (ps_set (i := 3) sc_Part___init__.nd rfl (.inr rfl) pe_dnewT)
        (pss_cons (ps_for (passes_of rfl) rfl (pi_enum2 (by rfl) T.m_enumerate (pa_cons (pv 1) pa_nil)) (pg_tup rfl (pgs_cons (pg_name (i := 4) sc_Part___init__.nd rfl (.inl rfl)) (pgs_cons (pg_name (i := 5) sc_Part___init__.nd rfl (.inl rfl)) pgs_nil))) (pss_cons (ps_if (pt_not (pt_val (pe_call G_is_entry hr (by rfl) T.g_is_entry T.F_is_entry.kp T.b_is_entry .nil pass0 (pa_cons (pv 5) (pa_cons (pv 2) pa_nil))))) (pss_one (ps_raise rfl (takes_of rfl rfl rfl rfl) (pmk_oex T.cE_BadPart.o T.cE_BadPart.i T.cE_BadPart.t GI_BadPart (hr.mono (by omega)) T.cb_BadPart .nil pass0 (by rfl) T.cE_BadPart.g (pa_cons (pv 4) pa_nil)))) pss_nil)
        (pss_cons (ps_asg (pv 5) (pg_tup rfl (pgs_cons (pg_name (i := 6) sc_Part___init__.nd rfl (.inl rfl)) (pgs_cons (pg_name (i := 7) sc_Part___init__.nd rfl (.inl rfl)) pgs_nil))))
        (pss_cons (ps_if (pt_cmp (pc_din (hu_of hr) (pv 6) (pv 3))) (pss_one (ps_raise rfl (takes_of rfl rfl rfl rfl) (pmk_oex T.cE_BadPart.o T.cE_BadPart.i T.cE_BadPart.t GI_BadPart (hr.mono (by omega)) T.cb_BadPart .nil pass0 (by rfl) T.cE_BadPart.g (pa_cons (pv 4) pa_nil)))) pss_nil)
        (pss_one (ps_dput (hu_of hr) (pv 3) (pv 6) (pe_call G_copied (hr.mono (by omega)) (by rfl) T.g_copied T.F_copied.kp T.b_copied .nil pass0 (pa_cons (pv 7) pa_nil)) rfl))))))
        (pss_cons (ps_fld (pv 0) (pv 2) rfl)
        (pss_one (ps_fld (pv 0) (pe_dcT (own := [("path", 6)]) (g := gName 6) rfl (Nat.lt_of_le_of_lt (Nat.le_add_right _ 64) hr.units) sc_Part___init__.nd (pi_list (pe_callB (cr_sortedT rfl hr.units) (by rfl) T.m_sorted (by decide +kernel) (pa_cons (pv 3) pa_nil))) (blkOk_by (own := [("path", 6)]) (N := ["self", "entries", "ageing", "answers", "at", "entry", "path", "answer"]) (sc := defScope s_Part___init__) (by decide +kernel)) (fun _ _ _ _ _ => pg_name (i := 6) sc_Part___init__.nd rfl (.inl rfl)) (fun _ _ _ _ _ => pts_one ((pt_cmpR op_notN (pe_dget (hu_of hr) (pv 3) (pv 6) (fun _ _ => rfl)) pe_non (nomark _)))) (fun _ _ _ _ _ => (pv 6)) (fun _ _ _ _ _ => (pe_dget (hu_of hr) (pv 3) (pv 6) (fun _ _ => rfl)))) rfl)))))), ?_⟩)
  · obtain ⟨d, ag, rfl, _⟩ := h
    rfl
  rintro ρ Qd Xd ⟨d, ag, rfl, ⟨ok, fi, dp⟩, qs, qn⟩
  show WS K _ _ [.bor _, .val _, .val _, .un, .un, .un, .un, .un] _
  repeat (walk_at "ut")
  have kind : PySem.W.kitAny K (tyU d) [.type "list", .type "tuple"] = some (seqP d).isSome := by
    cases d <;> first
      | exact kit2 (r1 := false) (r2 := false) (by decide +kernel) (by decide +kernel)
      | exact kit2 (r1 := true) (r2 := false) (by decide +kernel) (by decide +kernel)
      | exact kit2 (r1 := false) (r2 := true) (by decide +kernel) (by decide +kernel)
      | cases ok
  refine wc_isiT (ns := ["list", "tuple"]) rfl (by cases d <;> first | rfl | cases ok) kind ⟨_, rfl, ?_⟩
  cases hs : seqP d with
  | none =>
    refine uT rfl ?_
    refine ws_raise1 ?_
    repeat (walk_at "ut")
    refine ⟨_, _, frzC_ok rfl, ?_⟩
    exact qn hs
  | some ds =>
    obtain ⟨q1, q2, q3⟩ := qs ds hs
    have dss : d = .lst ds ∨ d = .tup ds := by
      cases d <;> first | (cases hs; exact .inl rfl) | (cases hs; exact .inr rfl) | cases hs
    refine uF rfl ?_
    repeat (walk_at "ut")
    refine we_dnewT ?_
    repeat (walk_at "ut")
    refine wi_enum2 ?_
    repeat (walk_at "ut")
    refine ⟨_, d, ds, _, rfl, dss, frzC_ok rfl, fun i ρ => ∃ t1 t2 t3 t4, ρ = [.bor (.obj T.C_Part [] []), .val d, .val (.bl ag), .own (.dct (pathsU (ds.take i)) (ansU (ds.take i))), t1, t2, t3, t4] ∧ RightP ag ds i ∧ nb [t1] 0 = true ∧ nb [t2] 0 = true ∧ nb [t3] 0 = true ∧ nb [t4] 0 = true, ?_, ?_, ?_⟩
    · exact ⟨.un, .un, .un, .un, rfl, fun _ h => absurd h (Nat.not_lt_zero _), rfl, rfl, rfl, rfl⟩
    · rintro i x ρ hx ⟨t1, t2, t3, t4, rfl, hr, h1, h2, h3, h4⟩
      obtain ⟨e, he, rfl⟩ := enU_at hx
      have oe : okD e := okD_item ⟨ok, fi, dp⟩ dss (List.mem_of_getElem? he)
      refine wg_tup ⟨_, rfl, rfl, ?_⟩
      repeat (walk_at "ut")
      refine callU [false, false] rfl rfl fun Q' X' qq xx => ⟨e, ag, rfl, oe, qq _ _ ?_⟩
      walk_at "ucl"
      repeat (walk_at "ut")
      cases hE : isEntryU ag e with
      | false =>
        refine uT rfl ?_
        refine ws_raise1 ?_
        repeat (walk_at "ut")
        refine ⟨_, _, frzC_ok rfl, ?_⟩
        exact q3 i e hr he fun g => by have := g.1; rw [hE] at this; cases this
      | true =>
        obtain ⟨zs, a, rfl, hz, ha, eP⟩ := entry_path hE
        have oa : okD a := okD_item oe (.inr rfl) (by simp)
        refine uF rfl ?_
        repeat (walk_at "ut")
        refine ⟨_, _, frzC_ok rfl, ?_⟩
        refine wg_tup ⟨_, rfl, rfl, ?_⟩
        repeat (walk_at "ut")
        refine ⟨pathsU (ds.take i), ansU (ds.take i), _, zs.map Sum.inr, ⟨_, rfl, .inr rfl⟩, rfl, keys_strs zs, _, rfl, ?_⟩
        have le : (pathsU (ds.take i)).length = (ansU (ds.take i)).length := by unfold pathsU ansU; rw [List.length_map, List.length_map]
        by_cases hm : zs.map Sum.inr ∈ pathsU (ds.take i)
        · refine uT (valU_in le hm) ?_
          refine ws_raise1 ?_
          repeat (walk_at "ut")
          refine ⟨_, _, frzC_ok rfl, ?_⟩
          exact q3 i _ hr he fun g => g.2 (by rw [eP]; exact hm)
        · refine uF (valU_out le hm) ?_
          repeat (walk_at "ut")
          refine callU [false] rfl rfl fun Q' X' qq xx => ⟨a, rfl, oa, fun r hr2 => qq _ _ ?_⟩
          have ea : r.fl = .dt a := by rcases hr2 with rfl | rfl <;> rfl
          clear qq xx Q' X'
          rw [ea]
          walk_at "unorm"
          refine ⟨_, _, frzC_ok rfl, ⟨_, _, _, rfl, rfl⟩, ?_⟩
          repeat (walk_at "ut")
          refine ⟨_, zs.map Sum.inr, _, _, _, rfl, keys_strs zs, rfl, rfl, (by unfold pathsU; rw [List.length_map, List.length_take]; omega), ?_⟩
          rw [putKU_new hm, putXU_new hm]
          have e1 : pathsU (ds.take (i + 1)) = pathsU (ds.take i) ++ [zs.map Sum.inr] := by
            have := take_snoc (fun d => (entP d).1) he
            rw [eP] at this
            exact this
          have e2 : ansU (ds.take (i + 1)) = ansU (ds.take i) ++ [a] := by
            have := take_snoc (fun d => (entP d).2) he
            rw [eP] at this
            exact this
          refine ⟨_, _, _, _, by rw [e1, e2]; rfl, fun j hj => ?_, rfl, rfl, rfl, rfl⟩
          rcases Nat.lt_or_ge j i with lt | ge
          · exact hr j lt
          · obtain rfl : j = i := by omega
            exact ⟨_, he, hE, by rw [eP]; exact hm⟩
    · rintro ρ ⟨t1, t2, t3, t4, rfl, hr, h1, h2, h3, h4⟩
      rw [enU_length] at hr ⊢
      rw [List.take_length]
      have txt : ∀ k ∈ pathsU ds, TxtKey k := fun k hk => by
        obtain ⟨e, he, rfl⟩ := List.mem_map.mp hk
        obtain ⟨j, hj⟩ := List.mem_iff_getElem?.mp he
        obtain ⟨e', h5, h6, _⟩ := hr j (List.getElem?_eq_some_iff.mp hj).1
        rw [hj] at h5
        cases h5
        obtain ⟨zs, a, _, hz, _, eP⟩ := entry_path h6
        rw [eP]
        exact path_txt hz
      repeat (walk_at "ut")
      refine ⟨_, _, _, T.C_Part, [], [], frzC_ok rfl, rfl, rfl, T.cl_Part, T.nA_Part_ageing, by decide, ?_⟩
      repeat (walk_at "ut")
      refine we_dcT ?_
      repeat (walk_at "ut")
      refine wc_sortedT ⟨_, rfl, .inr rfl⟩ txt ?_
      repeat (walk_at "ut")
      show ∃ ds_1 ρ2, Frz [.bor (.obj T.C_Part [Str.ofString "ageing"] [.bl ag]), .val d, .val (.bl ag), .own (.dct (pathsU ds) (ansU ds)), t1, t2, t3, t4] _ _ _ ∧ _
      have le : (pathsU ds).length = (ansU ds).length := by unfold pathsU ansU; rw [List.length_map, List.length_map]
      have nd : (sortT (pathsU ds)).Nodup := (List.mergeSort_perm _ _).nodup_iff.mpr (paths_nodup hr)
      refine ⟨_, _, frzC_ok rfl, (by show (nb [t3] 0 && true) = true; rw [h3]; rfl), by rw [List.length_map]; unfold sortT; rw [List.length_mergeSort]; unfold pathsU; rw [List.length_map]; exact q1,
        fun k ks xs ρ => ρ = [.bor (.obj T.C_Part [Str.ofString "ageing"] [.bl ag]), .val d, .val (.bl ag), .own (.dct (pathsU ds) (ansU ds)), t1, t2, .un, t4] ∧ ks = keptK (pathsU ds) (ansU ds) ((sortT (pathsU ds)).take k) ∧ xs = keptX (pathsU ds) (ansU ds) ((sortT (pathsU ds)).take k), ?_, ?_, ?_⟩
      · exact ⟨rfl, rfl, rfl⟩
      · rintro k d1 ks xs ρ hd1 ⟨rfl, rfl, rfl⟩
        rw [List.getElem?_map] at hd1
        cases hk : (sortT (pathsU ds))[k]? with
        | none => rw [hk] at hd1; cases hd1
        | some ky =>
          rw [hk] at hd1
          cases hd1
          have mem : ky ∈ pathsU ds := (List.mergeSort_perm _ _).mem_iff.mp (List.mem_of_getElem? hk)
          obtain ⟨x, hx⟩ := Option.isSome_iff_exists.mp (valU_in le mem)
          repeat (walk_at "ut")
          refine ⟨pathsU ds, ansU ds, _, ky, x, ⟨_, rfl, .inr rfl⟩, rfl, keysI ky, hx, ?_⟩
          repeat (walk_at "ut")
          have nm : ky ∉ keptK (pathsU ds) (ansU ds) ((sortT (pathsU ds)).take k) := fun m => not_before nd hk (List.mem_filter.mp m).1
          cases hn : nonU x with
          | false =>
            obtain ⟨k1, k2⟩ := kept_yes hk hx hn
            refine uT (by rfl) ?_
            repeat (walk_at "ut")
            refine ⟨_, ky, rfl, keysI ky, ?_⟩
            repeat (walk_at "ut")
            refine ⟨pathsU ds, ansU ds, _, ky, x, ⟨_, rfl, .inr rfl⟩, rfl, keysI ky, hx, ?_⟩
            refine ⟨_, _, frzC_ok rfl, rfl, rfl, ?_, ?_⟩
            · rw [putKU_new nm, k1]
            · rw [putXU_new nm, k2]
          | true =>
            obtain ⟨k1, k2⟩ := kept_no hk hx hn
            refine uF (by rfl) ?_
            exact ⟨rfl, rfl, k1.symm, k2.symm⟩
      · rintro ks xs ρ ⟨rfl, rfl, rfl⟩
        repeat (walk_at "ut")
        rw [List.length_map, List.take_length]
        refine ⟨_, _, _, T.C_Part, [Str.ofString "ageing"], [.bl ag], frzC_ok rfl, rfl, rfl, T.cl_Part, T.nA_Part__answers, by decide, ?_⟩
        exact q2 hr
end

/-! ### sep.join(texts) by data -/
section
variable {K : PySem.W.Frag} {W : Wx} {X : Er → Sls → Prop} {ρ : Sls}
theorem ats_strs {G : Hp} : ∀ {vs : List V} {zs : List Str}, AtAll K G vs (zs.map .str) → vs = zs.map V.str
  | _, [], h => by cases h; rfl
  | _, z :: zs, h => by
    cases h with
    | cons h1 h2 =>
      cases h1
      rw [ats_strs h2]
      rfl
theorem we_join {to te : TE} {Q : Av → Sls → Prop} (h : WE K W to ρ (fun a ρ1 => ∃ sep, a = .dt (.str sep) ∧ WE K W te ρ1 (fun b ρ2 => ∃ zs : List Str, View ρ2 b.fl (.lst (zs.map .str)) ∧ (zs.map (·.length)).sum + zs.length * sep.length ≤ 1000000 ∧ Q (.dt (.str (Txt.join sep zs))) ρ2) X) X) :
    WE K W (tM1 (fun x xs H Q => ∃ a p, ∃ ys : List Str, x = .str a ∧ xs = [.ref p] ∧ (SqL K H p (ys.map V.str) ∨ SqT K H p (ys.map V.str)) ∧ (ys.map (·.length)).sum + ys.length * a.length ≤ 16777216 ∧ Q (.str (Txt.join a ys)) H) to te) ρ Q X := by
  rintro s Q0 rfl D x k
  refine h s _ rfl D x fun v a s1 n1 ok ⟨sep, e, q⟩ => ?_
  subst e
  have ok : At K s1.G v (.str sep) := ok
  cases ok
  refine ⟨⟨_, rfl⟩, ?_⟩
  rw [← n1.slots]
  refine WE.flat (Q := fun b ρ2 => ∃ zs : List Str, View ρ2 b (.lst (zs.map .str)) ∧ (zs.map (·.length)).sum + zs.length * sep.length ≤ 1000000 ∧ Q (.dt (.str (Txt.join sep zs))) ρ2) q rfl n1.den (x.next n1.stp) fun w b s2 n2 f2 ok2 ⟨zs, hw, hz, q2⟩ => ?_
  obtain ⟨p, xs, rfl, e1, e2⟩ := view_list n2.den ok2 hw
  rw [ats_strs e2] at e1
  exact ⟨sep, p, zs, rfl, rfl, .inl (SqL.of e1), Nat.le_trans hz (by decide), k _ (.dt _) s2 (n1.trans n2) (At.str _) q2⟩
end

/-! ### words, any values -/
def r_word : RU := fun ρ Q _ => ∃ (b : U) (m : Nat) (n : Int), ρ = [.bor b, .val (.int (m : Nat))] ∧ BagU b n ∧ n ≤ 800000000 ∧ m ≤ 60 ∧
  ∀ (z : Str) (b' : U), z.length ≤ m → z.cps.toList.all isLow = true → BagU b' (n + 100) → Q (.dt (.str z)) [.bor b', .val (.int (m : Nat))]
section
variable {P : Program} {w : World} {K : PySem.W.Frag} {mg : Str → Option Value} {base : Heap}
theorem uk_word (T : Txt K mg) : FnOk P w K mg base CX0 3 T.f_law_word T.fd_law_word ["bag", "most"] (spU K r_word) := by
  have G_law_take := ok_law_take (P := P) (w := w) (base := base) T
  have G_law_of := ok_law_of (P := P) (w := w) (base := base) T
  refine Fun_okU T.F_law_word sc_law_word (fun ρ Q X h => ?_) (fun cdv A outer s H E hr => ⟨_, (pss_one (ps_ret (pe_join pe_str (pe_lc (own := [("turn", 2)]) (g := gName 2) rfl sc_law_word.nd (pi_range1 (by rfl) T.m_range (pa_cons (pe_call G_law_take (hr.mono (by omega)) (by rfl) T.g_law_take T.F_law_take.kp T.b_law_take .nil pass0 (pa_cons (pv 0) (pa_cons (pe_op op_add (pv 1) pe_int) pa_nil))) pa_nil)) (blkOk_by (own := [("turn", 2)]) (N := ["bag", "most", "turn"]) (sc := defScope s_law_word) (by decide +kernel)) (fun _ _ _ _ _ => pg_name (i := 2) sc_law_word.nd rfl (.inl rfl)) (fun _ _ _ _ _ => pts_nil) (fun _ _ _ _ _ => (pe_call G_law_of hr (by rfl) T.g_law_of T.F_law_of.kp T.b_law_of .nil pass0 (pa_cons (pv 0) (pa_cons pe_str pa_nil)))))))), ?_⟩)
  · obtain ⟨b, m, n, rfl, _⟩ := h
    rfl
  rintro W ρ Qd Xd ⟨b, m, n, rfl, hb, hn, hm, q⟩
  show WS K _ _ [.bor _, .val _, .un] _
  refine ws_ret (we_join (we_str ⟨_, rfl, ?_⟩))
  repeat (walk_at "u")
  refine callU [true, true] rfl rfl fun Q' X' qq xx => ⟨b, _, _, rfl, hb, by omega, by omega, Int.lt_of_le_of_lt (show _ ≤ (61 : Int) by omega) (by decide), fun d b1 d0 d1 hb1 => qq _ _ ?_⟩
  walk_at "ucl"
  repeat (walk_at "u")
  refine ⟨by omega, rfl, fun k acc ρ => ∃ (bi : U) (zs : List Str), ρ = [.bor bi, .val (.int (m : Nat)), .un] ∧ acc = zs.map .str ∧ (∀ z ∈ zs, ∃ c, z = ⟨#[c]⟩ ∧ isLow c = true) ∧ zs.length = k ∧ BagU bi (n + 1 + k), ?_, ?_, ?_⟩
  · exact ⟨b1, [], rfl, rfl, nofun, rfl, hb1.mono (by omega)⟩
  · rintro k x acc ρ hx hl ⟨bi, zs, rfl, rfl, hz, hk, hB⟩
    obtain ⟨hk2, hxe⟩ := rgU_get hx
    repeat (walk_at "u")
    refine callU [true, true] rfl rfl fun Q' X' qq xx => ⟨bi, _, _, rfl, hB, by omega, .inr ⟨_, rfl, by decide +kernel, by decide +kernel, fun c b2 hc hb2 => qq _ _ ?_⟩⟩
    have hlow : isLow c = true := (by decide +kernel : ∀ c ∈ (Str.ofString "abcdefghijklmnopqrstuvwxyz").cps.toList, isLow c = true) c hc
    walk_at "ucl"
    refine ⟨_, _, frzC_ok rfl, by omega, rfl, b2, zs ++ [⟨#[c]⟩], rfl, ?_, ?_, ?_, hb2.mono (by omega)⟩
    · rw [List.map_append]
      rfl
    · intro z hm2
      rcases List.mem_append.mp hm2 with h | h
      · exact hz z h
      · rw [List.mem_singleton.mp h]
        exact ⟨c, rfl, hlow⟩
    · rw [List.length_append, hk]
      rfl
  · rintro acc ρ hl ⟨bi, zs, rfl, rfl, hz, hk, hB⟩
    rw [rgU_length] at hk hB
    have one : (zs.map (·.length)).sum = zs.length := by
      clear hl hk hB
      induction zs with
      | nil => rfl
      | cons z r ih =>
        obtain ⟨c, rfl, _⟩ := hz z List.mem_cons_self
        rw [List.map_cons, List.sum_cons, List.length_cons, ih fun y hy => hz y (List.mem_cons_of_mem _ hy)]
        exact Nat.add_comm _ _
    refine ⟨zs, rfl, ?_, ?_⟩
    · rw [one, show (Str.ofString "").length = 0 from rfl]
      omega
    · obtain ⟨w1, w2⟩ := joined_word (ys := zs) (m := m) (by omega) hz
      exact ⟨trivial, q _ _ w1 w2 (hB.mono (by omega))⟩
end

def r_bag : RU := fun ρ Q _ => ∃ (ns : List Int) (i : Int), ρ = [.val (.fls (ns.map .int)), .val (.int i)] ∧ ns.length ≤ 63 ∧ 0 ≤ i ∧ i ≤ 63 ∧ ∀ b, BagU b 0 → Q (.own b) [.val (.fls (ns.map .int)), .val (.int i)]
section
variable {P : Program} {w : World} {K : PySem.W.Frag} {mg : Str → Option Value} {base : Heap}
theorem uk_bag (T : Txt K mg) : FnOk P w K mg base CX0 1 T.f_law_bag T.fd_law_bag ["script", "at"] (spU K r_bag) := by
  refine Fun_okU T.F_law_bag sc_law_bag (fun ρ Q X h => ?_) (fun cdv A outer s H E hr => ⟨_, (pss_cons (ps_set (i := 2) sc_law_bag.nd rfl (.inl rfl) (pe_ifExp (pt_cmpR op_lt (pv 1) (pe_callB call_len (by rfl) T.m_len (by decide +kernel) (pa_cons (pv 0) pa_nil)) (nomark _)) (pe_ix ix_list (pv 0) (pv 1) (fun _ _ => rfl)) pe_int))
        (pss_one (ps_ret (pe_lst (pa_cons (pe_ifExp (pt_cmpR op_ge (pe_callB call_abs (by rfl) T.m_abs (by decide +kernel) (pa_cons (pv 2) pa_nil)) (pe_op op_pow pe_int pe_int) (nomark _)) (pe_callB call_abs (by rfl) T.m_abs (by decide +kernel) (pa_cons (pv 2) pa_nil)) pe_int) (pa_cons (pe_op op_add (pe_op op_modN (pe_callTy call_int1 (by rfl) T.m_int (by decide +kernel) (pa_cons (pv 2) pa_nil)) pe_int) (pe_op op_mul pe_int (pv 1))) (pa_cons pe_int pa_nil))))))), ?_⟩)
  · obtain ⟨ns, i, rfl, _⟩ := h
    rfl
  rintro W ρ Qd Xd ⟨ns, i, rfl, h63, i0, i1, q⟩
  show WS K _ _ [.val _, .val _, .un] _
  repeat (walk_at "u")
  refine ite2 (fun e => ?_) (fun e => ?_)
  · have e := of_decide_eq_true e
    rw [List.length_map] at e
    obtain ⟨k, rfl⟩ := Int.eq_ofNat_of_zero_le i0
    have hk : k < ns.length := by omega
    repeat (walk_at "u")
    refine wr_ixF (atI_nat (v := .int ns[k]) (by rw [List.getElem?_map, List.getElem?_eq_getElem hk]; rfl)) ?_
    generalize ns[k] = c
    repeat (walk_at "u")
    have f1 : 0 ≤ c.fmod 998244353 := Int.fmod_nonneg_of_pos _ (by decide)
    have f2 : c.fmod 998244353 < 998244353 := Int.fmod_lt_of_pos _ (by decide)
    refine ite2 (fun e3 => ?_) (fun e3 => ?_)
    · repeat (walk_at "u")
      refine q _ ⟨_, _, _, rfl, ?_, ?_, ?_, by omega, by omega⟩
      · split <;> omega
      · omega
      · omega
    · repeat (walk_at "u")
      exact q _ ⟨_, _, _, rfl, by omega, by omega, by omega, by omega, by omega⟩
  · repeat (walk_at "u")
    have f0 : (0 : Int).fmod 998244353 = 0 := rfl
    exact q _ ⟨_, _, _, rfl, by omega, by omega, by omega, by omega, by omega⟩
end

/-! ### a written call is a call text -/
def ConstV (v : V) : Prop := v = .non ∨ (∃ i, v = .int i ∧ IsNum i) ∨ ∃ z, v = .str z ∧ IsWord z 8
/-- a code point -/
def okc (c : Nat) : Bool := decide (c < 1114112)
def ConstT (w : Str) : Prop := isConstL w.cps.toList = true ∧ 44 ∉ w.cps.toList ∧ w.cps.toList ≠ [] ∧ w.length ≤ 31 ∧ w.cps.toList.all okc = true
theorem constT_none : ConstT (Str.ofString "none") := ⟨by decide +kernel, by decide +kernel, by decide +kernel, by decide +kernel, by decide +kernel⟩
theorem constT_num {i : Int} (h : IsNum i) : ConstT (Str.ofString (toString i)) := by
  refine ⟨?_, num_free ⟨by decide, by decide⟩, ?_, num_len h, ?_⟩
  · unfold isConstL
    rw [isNumL_num h]
    simp
  · rw [num_list]
    intro h0
    have h1 : D10 i.natAbs ≠ [] := by
      by_cases e : i.natAbs = 0
      · rw [e, D10_zero]; exact List.cons_ne_nil _ _
      · obtain ⟨c, r, e, _⟩ := D10_head i.natAbs (by omega)
        rw [e]; exact List.cons_ne_nil _ _
    split at h0
    · exact h1 h0
    · cases h0
  · have h1 : (D10 i.natAbs).all okc = true := List.all_eq_true.mpr fun c hc => by
      have := of_decide_eq_true (List.all_eq_true.mp (D10_digs i.natAbs) c hc)
      exact decide_eq_true (by omega)
    rw [num_list]
    split
    · exact h1
    · rw [List.all_cons, h1]
      rfl
theorem constT_str {z w : Str} (h : IsWord z 8) (e : w.cps.toList = 34 :: (z.cps.toList ++ [34])) : ConstT w := by
  obtain ⟨h1, h2⟩ := h
  have hl : z.cps.toList.length ≤ 8 := by rw [len_list]; exact h1
  have hw : w.length = z.cps.toList.length + 2 := by rw [← len_list, e, List.length_cons, List.length_append]; rfl
  refine ⟨?_, ?_, by rw [e]; exact List.cons_ne_nil _ _, by omega, ?_⟩
  · unfold isConstL
    rw [e, isStrL_word hl h2]
    simp
  · rw [e]
    intro hm
    rcases List.mem_cons.mp hm with h | h
    · cases h
    · rcases List.mem_append.mp h with h | h
      · have := List.all_eq_true.mp h2 _ h
        have := of_decide_eq_true this
        omega
      · have := List.mem_singleton.mp h
        omega
  · have h1 : z.cps.toList.all okc = true := List.all_eq_true.mpr fun c hc => by
      have := of_decide_eq_true (List.all_eq_true.mp h2 c hc)
      exact decide_eq_true (by omega)
    rw [e, List.all_cons, List.all_append, h1]
    rfl
theorem joinL_ok : ∀ {ws : List (List Nat)}, (∀ w ∈ ws, w.all okc = true) → (joinL [44, 32] ws).all okc = true
  | [], _ => rfl
  | [w], h => h w List.mem_cons_self
  | w :: y :: r, h => by
    show (w ++ [44, 32] ++ joinL [44, 32] (y :: r)).all okc = true
    rw [List.all_append, List.all_append, h w List.mem_cons_self, joinL_ok fun v hv => h v (List.mem_cons_of_mem _ hv)]
    rfl
theorem strOk_of {z : Str} (h : z.cps.toList.all okc = true) : PyData.strOk z = true := by
  unfold PyData.strOk
  rw [← Array.all_toList]
  exact h
theorem name_low {n : Str} (h : isNameZ n = true) : n.length ≤ 12 ∧ n.cps.toList.all isLow = true := by
  unfold isNameZ isWordZ at h
  rw [Bool.and_eq_true, Bool.and_eq_true] at h
  exact ⟨of_decide_eq_true h.1.1, h.1.2⟩
theorem call_good {n z : Str} {ws : List Str} (hn : isNameZ n = true) (hl : ws.length ≤ 3) (hw : ∀ w ∈ ws, ConstT w)
    (hz : z.cps.toList = n.cps.toList ++ 40 :: (joinL [44, 32] (ws.map fun w => w.cps.toList) ++ [41])) : isCallZ z = true := by
  have e41 : z.cps.toList.getLast? = some 41 := by
    rw [hz, show n.cps.toList ++ 40 :: (joinL [44, 32] (ws.map fun w => w.cps.toList) ++ [41]) = (n.cps.toList ++ 40 :: joinL [44, 32] (ws.map fun w => w.cps.toList)) ++ [41] by simp, List.getLast?_append]
    rfl
  have ecut : (cutS z none (some (-1))).cps.toList = n.cps.toList ++ 40 :: joinL [44, 32] (ws.map fun w => w.cps.toList) := by
    rw [cut_init, hz, show n.cps.toList ++ 40 :: (joinL [44, 32] (ws.map fun w => w.cps.toList) ++ [41]) = (n.cps.toList ++ 40 :: joinL [44, 32] (ws.map fun w => w.cps.toList)) ++ [41] by simp, List.dropLast_concat]
  have h40 : 40 ∉ n.cps.toList := by
    intro hm
    have := List.all_eq_true.mp (name_low hn).2 _ hm
    have := of_decide_eq_true this
    omega
  unfold isCallZ
  rw [decide_eq_true e41, Bool.true_and, partition_at ecut h40]
  unfold isCallP
  have en : (⟨n.cps.toList.toArray⟩ : Str) = n := str_ext rfl
  show ((!decide (Str.ofString "(" = Str.ofString "") && isNameZ ⟨n.cps.toList.toArray⟩) && _) = true
  rw [en, hn, decide_eq_false (by decide +kernel : ¬ Str.ofString "(" = Str.ofString "")]
  show (decide ((partsOf ⟨(joinL [44, 32] (ws.map fun w => w.cps.toList)).toArray⟩).length ≤ 3) && (partsOf ⟨(joinL [44, 32] (ws.map fun w => w.cps.toList)).toArray⟩).all fun c => isConstL c.cps.toList) = true
  cases ws with
  | nil => rfl
  | cons w r =>
    have key := split_joined (x := ⟨(joinL [44, 32] ((w :: r).map fun w => w.cps.toList)).toArray⟩) (p := w.cps.toList) (ps := r.map fun w => w.cps.toList) rfl (by
      intro q hq
      obtain ⟨y, hy, e⟩ := List.mem_map.mp (show q ∈ (w :: r).map fun w => w.cps.toList from hq)
      rw [← e]
      exact (hw y hy).2.1)
    have hne : ¬ (⟨(joinL [44, 32] ((w :: r).map fun w => w.cps.toList)).toArray⟩ : Str) = Str.ofString "" := by
      intro h
      have h1 := congrArg (fun s : Str => s.cps.toList) h
      have h2 : joinL [44, 32] ((w :: r).map fun w => w.cps.toList) = [] := h1
      have hw0 := (hw w List.mem_cons_self).2.2.1
      cases r with
      | nil => exact hw0 h2
      | cons y t =>
        have h3 : w.cps.toList ++ [44, 32] ++ joinL [44, 32] ((y :: t).map fun w => w.cps.toList) = [] := h2
        rw [List.append_assoc] at h3
        exact hw0 (List.append_eq_nil_iff.mp h3).1
    unfold partsOf
    rw [if_neg hne]
    have hlen := congrArg List.length key
    rw [List.length_map, List.length_cons, List.length_map] at hlen
    rw [show Str.ofString ", " = Sep2 from rfl, decide_eq_true (show (Txt.split ⟨(joinL [44, 32] ((w :: r).map fun w => w.cps.toList)).toArray⟩ Sep2).length ≤ 3 by rw [hlen]; exact hl), Bool.true_and]
    have hall := congrArg (fun l : List (List Nat) => l.all isConstL) key
    rw [List.all_map] at hall
    refine Eq.trans hall ?_
    refine List.all_eq_true.mpr fun q hq => ?_
    obtain ⟨y, hy, e⟩ := List.mem_map.mp (show q ∈ (w :: r).map fun w => w.cps.toList from hq)
    rw [← e]
    exact (hw y hy).1
theorem q_names : (vals_KEYWORDS.all fun y => match y with | .str k => isNameZ (Str.ofString "q" ++ k) | _ => false) = true := by decide +kernel

/-! ### any value -/
/-- a value, nested at most e deep, of which repr can tell -/
def AnyU (e : Nat) (d : U) : Prop := okU d = true ∧ fine (dU d) = true ∧ PyData.depth (dU d) ≤ e ∧ PyData.showable (dU d) = true ∧ (PyData.shown (dU d)).length ≤ 500 * 6 ^ e ∧ plainU d = true
theorem AnyU.up {d : U} {e f : Nat} (h : AnyU e d) (l : e ≤ f) : AnyU f d := ⟨h.1, h.2.1, Nat.le_trans h.2.2.1 l, h.2.2.2.1, Nat.le_trans h.2.2.2.2.1 (Nat.mul_le_mul_left _ (Nat.pow_le_pow_right (by decide) l)), h.2.2.2.2.2⟩
theorem any_str {z : Str} (h : SmallS z) : AnyU 0 (.str z) := by
  obtain ⟨g1, g2, g3, _⟩ := h.good
  refine ⟨rfl, g2, Nat.zero_le _, rfl, ?_, rfl⟩
  have := StrLaws.reprText_len z fun c hc => by
    have h2 := h.2
    unfold PyData.strOk at h2
    rw [← Array.all_toList] at h2
    have := of_decide_eq_true (List.all_eq_true.mp h2 c hc)
    exact Nat.lt_of_lt_of_le this (by decide)
  have h1 := h.1
  show (reprText z).length ≤ 500 * 6 ^ 0
  omega
theorem log_of {i : Int} (h : i.natAbs < 10 ^ 40) : i.natAbs.log2 < 1920 := by
  by_cases z : i.natAbs = 0
  · rw [z]
    decide
  · have h2 : i.natAbs.log2 < 140 := (Nat.log2_lt z).mpr (Nat.lt_of_lt_of_le h (by decide))
    omega
theorem any_int {i : Int} (h : i.natAbs < 10 ^ 40) : AnyU 0 (.int i) := by
  refine ⟨rfl, rfl, Nat.zero_le _, decide_eq_true (log_of h), ?_, rfl⟩
  have := int_text_length_le10 (k := 40) (by decide) h
  show (Str.ofString (toString i)).length ≤ 500 * 6 ^ 0
  rw [PySem.ofString_length]
  omega
theorem any_bl (b : Bool) : AnyU 0 (.bl b) := by
  cases b <;> exact ⟨rfl, rfl, Nat.zero_le _, rfl, by decide +kernel, rfl⟩
theorem any_non : AnyU 0 .non := ⟨rfl, rfl, Nat.zero_le _, rfl, by decide +kernel, rfl⟩
theorem piled_up {B : Nat} : ∀ {ts : List Str}, (∀ t ∈ ts, t.length ≤ B) → piled ts ≤ ts.length * (B + 2)
  | [], _ => Nat.zero_le _
  | t :: r, h => by
    rw [piled_cons, List.length_cons, Nat.succ_mul]
    have h1 := h t List.mem_cons_self
    have h2 := piled_up (ts := r) fun u hu => h u (List.mem_cons_of_mem _ hu)
    omega
theorem shown_mem : ∀ {ds : List U} {t : Str}, t ∈ PyData.shownAll (dUs ds) → ∃ d ∈ ds, t = PyData.shown (dU d)
  | [], _, h => nomatch h
  | d :: r, t, h => by
    rcases List.mem_cons.mp h with rfl | h
    · exact ⟨d, List.mem_cons_self, rfl⟩
    · obtain ⟨x, hx, e⟩ := shown_mem (ds := r) h
      exact ⟨x, List.mem_cons_of_mem _ hx, e⟩
theorem shown_len : ∀ ds : List U, (PyData.shownAll (dUs ds)).length = ds.length
  | [] => rfl
  | d :: r => congrArg (· + 1) (shown_len r)
theorem list_text : ∀ ts : List Str, (listText ts).length ≤ piled ts + 3
  | [] => by decide +kernel
  | t :: r => by
    have e : listText (t :: r) = textFrom 1 ("[" ++ "" ++ t) r ++ "]" := rfl
    rw [e, strLen_append, textFrom_length_pos r 1 _ (by decide), strLen_append, strLen_append, piled_cons]
    have h1 : (("[" : String) : Str).length = 1 := rfl
    have h2 : (("" : String) : Str).length = 0 := rfl
    have h3 : (("]" : String) : Str).length = 1 := rfl
    omega
theorem tuple_text (ts : List Str) : (tupleText ts).length ≤ piled ts + 3 := by
  unfold tupleText
  rw [strLen_append, strLen_append]
  have h1 : (("(" : String) : Str).length = 1 := rfl
  have h2 : (((if ts.length == 1 then ",)" else ")") : String) : Str).length ≤ 2 := by
    split <;> decide +kernel
  by_cases z : ts = []
  · subst z
    have h3 : (Str.join ", " []).length = 0 := rfl
    omega
  · have := join_length_add ts z
    omega
theorem any_all {e : Nat} : ∀ {ds : List U}, (∀ d ∈ ds, AnyU e d) → okUs ds = true ∧ fineAll (dUs ds) = true ∧ PyData.depthAll (dUs ds) ≤ e ∧ PyData.showableAll (dUs ds) = true
  | [], _ => ⟨rfl, rfl, Nat.zero_le _, rfl⟩
  | d :: r, h => by
    obtain ⟨a1, a2, a3, a4, _⟩ := h d List.mem_cons_self
    obtain ⟨b1, b2, b3, b4⟩ := any_all (ds := r) fun x hx => h x (List.mem_cons_of_mem _ hx)
    refine ⟨?_, ?_, ?_, ?_⟩
    · show (okU d && okUs r) = true
      rw [a1, b1]
      rfl
    · show (fine (dU d) && fineAll (dUs r)) = true
      rw [a2, b2]
      rfl
    · show max (PyData.depth (dU d)) (PyData.depthAll (dUs r)) ≤ e
      omega
    · show (PyData.showable (dU d) && PyData.showableAll (dUs r)) = true
      rw [a4, b4]
      rfl
theorem any_seq {e : Nat} {ds : List U} (h : ∀ d ∈ ds, AnyU e d) (l : ds.length ≤ 4) : AnyU (e + 1) (.lst ds) ∧ AnyU (e + 1) (.tup ds) := by
  obtain ⟨a1, a2, a3, a4⟩ := any_all h
  have hl : (dUs ds).length ≤ 1000 := by rw [dUs_map, List.length_map]; omega
  have hf : (decide ((dUs ds).length ≤ 1000) && fineAll (dUs ds)) = true := by
    rw [decide_eq_true hl, a2]
    rfl
  have hp := piled_up (B := 500 * 6 ^ e) (ts := PyData.shownAll (dUs ds)) fun t ht => by
    obtain ⟨d, hd, rfl⟩ := shown_mem ht
    exact (h d hd).2.2.2.2.1
  rw [shown_len] at hp
  have h6 : 1 ≤ 6 ^ e := Nat.one_le_pow _ _ (by decide)
  have hB : ds.length * (500 * 6 ^ e + 2) ≤ 4 * (500 * 6 ^ e + 2) := Nat.mul_le_mul_right _ l
  have hs : piled (PyData.shownAll (dUs ds)) + 3 ≤ 500 * 6 ^ (e + 1) := by
    rw [Nat.pow_succ]
    omega
  have hd : PyData.depthAll (dUs ds) + 1 ≤ e + 1 := Nat.succ_le_succ a3
  exact ⟨⟨a1, hf, hd, a4, Nat.le_trans (list_text _) hs, rfl⟩, ⟨a1, hf, hd, a4, Nat.le_trans (tuple_text _) hs, rfl⟩⟩
/-- of which repr can tell, item by item -/
def RepA : U → Prop
  | .lst ds => ∀ x ∈ ds, AnyU 0 x
  | d => AnyU 1 d
def RepU (d : U) : Prop := okU d = true ∧ PyData.showable (dU d) = true ∧ PyData.depth (dU d) ≤ 60 ∧ (PyData.shown (dU d)).length ≤ 1000000
theorem AnyU.rep {d : U} {e : Nat} (h : AnyU e d) (he : e ≤ 4) : RepU d := by
  obtain ⟨h1, _, h3, h4, h5, _⟩ := h.up he
  exact ⟨h1, h4, Nat.le_trans h3 (by decide), Nat.le_trans h5 (by decide)⟩
theorem any_raised {y : Str} {c : U} (hy : SmallS y) (hc : AnyU 0 c) : RepA (.tup [.str (Str.ofString "raises"), .str y, c]) :=
  (any_seq (ds := [.str (Str.ofString "raises"), .str y, c]) (fun d m => by
    rcases List.mem_cons.mp m with rfl | m
    · exact any_str ⟨by decide +kernel, by decide +kernel⟩
    · rcases List.mem_cons.mp m with rfl | m
      · exact any_str hy
      · rw [List.mem_singleton.mp m]
        exact hc) (Nat.le_of_ble_eq_true rfl)).2

/-! ### numbers -/
def r_number : RU := fun ρ Q _ => ∃ (b : U) (sl : Sl) (ns : List Int) (n : Int), ρ = [.bor b, sl] ∧ (sl = .val (.lst (ns.map .int)) ∨ sl = .bor (.lst (ns.map .int))) ∧ ns.length ≤ 900 ∧ BagU b n ∧ n ≤ 900000000 ∧
  ∀ (i : Int) (b' : U), IsNum i → BagU b' (n + 3) → Q (.dt (.int i)) [.bor b', sl]
section
variable {P : Program} {w : World} {K : PySem.W.Frag} {mg : Str → Option Value} {base : Heap}
theorem uk_number (T : Txt K mg) : FnOk P w K mg base CX0 3 T.f_law_number T.fd_law_number ["bag", "near"] (spU K r_number) := by
  have G_law_take := ok_law_take (P := P) (w := w) (base := base) T
  have G_law_of := ok_law_of (P := P) (w := w) (base := base) T
  refine Fun_okU T.F_law_number sc_law_number (fun ρ Q X h => ?_) (fun cdv A outer s H E hr => ⟨_, (pss_cons (ps_par (i := 2) (j := 3) (by rfl) sc_law_number.nd rfl rfl (by decide) rfl rfl (pa_cons (pe_call G_law_take (hr.mono (by omega)) (by rfl) T.g_law_take T.F_law_take.kp T.b_law_take .nil pass0 (pa_cons (pv 0) (pa_cons pe_int pa_nil))) (pa_cons (pe_op op_sub (pe_op op_pow pe_int pe_int) pe_int) pa_nil)) (by rfl))
        (pss_cons (ps_if (pt_cmpR op_gt (pv 2) pe_int (nomark _)) (pss_one (ps_ret (pe_op op_sub (pe_call G_law_take (hr.mono (by omega)) (by rfl) T.g_law_take T.F_law_take.kp T.b_law_take .nil pass0 (pa_cons (pv 0) (pa_cons pe_int pa_nil))) pe_int))) pss_nil)
        (pss_cons (ps_if (pt_cmpR op_eq (pv 2) pe_int (nomark _)) (pss_one (ps_ret (pe_op op_mul (pe_op op_sub (pv 3) (pe_call G_law_take (hr.mono (by omega)) (by rfl) T.g_law_take T.F_law_take.kp T.b_law_take .nil pass0 (pa_cons (pv 0) (pa_cons (pe_op op_pow pe_int pe_int) pa_nil)))) (pe_op op_sub pe_int (pe_op op_mul pe_int (pe_call G_law_take (hr.mono (by omega)) (by rfl) T.g_law_take T.F_law_take.kp T.b_law_take .nil pass0 (pa_cons (pv 0) (pa_cons pe_int pa_nil)))))))) pss_nil)
        (pss_one (ps_ret (pe_callB (call_max2 rfl) (by rfl) T.m_max (by decide +kernel) (pa_cons (pe_un un_neg (pv 3)) (pa_cons (pe_callB (call_min2 rfl) (by rfl) T.m_min (by decide +kernel) (pa_cons (pv 3) (pa_cons (pe_op op_sub (pe_op op_add (pe_call G_law_of hr (by rfl) T.g_law_of T.F_law_of.kp T.b_law_of .nil pass0 (pa_cons (pv 0) (pa_cons (pe_op op_cat (pv 1) (pe_lst (pa_cons pe_int pa_nil))) pa_nil))) (pe_call G_law_take (hr.mono (by omega)) (by rfl) T.g_law_take T.F_law_take.kp T.b_law_take .nil pass0 (pa_cons (pv 0) (pa_cons pe_int pa_nil)))) pe_int) pa_nil))) pa_nil)))))))), ?_⟩)
  · obtain ⟨b, sl, ns, n, rfl, _⟩ := h
    rfl
  rintro W ρ Qd Xd ⟨b, sl, ns, n, rfl, hs, hl, hb, hn, q⟩
  rcases hs with rfl | rfl
  · show WS K _ _ [.bor _, .val _, .un, .un] _
    repeat (walk_at "u")
    refine ws_par ?_
    repeat (walk_at "u")
    refine callU [true, true] rfl rfl fun Q' X' qq xx => ⟨b, _, n, rfl, hb, by omega, by omega, by omega, fun way b1 w0 w1 hb1 => qq _ _ ?_⟩
    walk_at "ucl"
    repeat (walk_at "u")
    refine ⟨_, _, _, frzC_ok rfl, rfl, rfl, ?_⟩
    rw [e30]
    repeat (walk_at "u")
    refine ite2 (fun e => ?_) (fun e => ?_)
    · repeat (walk_at "u")
      refine callU [true, true] rfl rfl fun Q' X' qq xx => ⟨b1, _, _, rfl, hb1, by omega, by omega, by omega, fun d2 b2 d20 d21 hb2 => qq _ _ ?_⟩
      walk_at "ucl"
      repeat (walk_at "u")
      exact q _ _ ⟨by omega, by omega⟩ (hb2.mono (by omega))
    · repeat (walk_at "u")
      refine ite2 (fun e => ?_) (fun e => ?_)
      · repeat (walk_at "u")
        rw [e30]
        refine callU [true, true] rfl rfl fun Q' X' qq xx => ⟨b1, _, _, rfl, hb1, by omega, by decide +kernel, by decide +kernel, fun d2 b2 d20 d21 hb2 => qq _ _ ?_⟩
        walk_at "ucl"
        repeat (walk_at "u")
        refine callU [true, true] rfl rfl fun Q' X' qq xx => ⟨b2, _, _, rfl, hb2, by omega, by omega, by omega, fun d3 b3 d30 d31 hb3 => qq _ _ ?_⟩
        walk_at "ucl"
        repeat (walk_at "u")
        have hz : d3 = 0 ∨ d3 = 1 := by omega
        refine q _ _ ?_ (hb3.mono (by omega))
        rcases hz with rfl | rfl <;> (unfold IsNum; omega)
      · repeat (walk_at "u")
        refine wr_cat (ds := ns.map .int) (es := [.int 0]) rfl rfl (by rw [List.length_map]; show _ + 1 ≤ _; omega) ?_
        repeat (walk_at "u")
        refine callU [true, false] rfl rfl fun Q' X' qq xx => ⟨b1, _, _, rfl, hb1, by omega, .inl ⟨_, .inl rfl, by rw [List.length_append, List.length_map]; exact Nat.succ_pos _, by rw [List.length_append, List.length_map]; show _ + 1 ≤ _; omega, fun v b2 hv hb2 => qq _ _ ?_⟩⟩
        obtain ⟨u, rfl⟩ : ∃ u, v = U.int u := by
          rcases List.mem_append.mp hv with h | h
          · obtain ⟨u, _, rfl⟩ := List.mem_map.mp h
            exact ⟨u, rfl⟩
          · exact ⟨0, List.mem_singleton.mp h⟩
        walk_at "ucl"
        repeat (walk_at "u")
        refine callU [true, true] rfl rfl fun Q' X' qq xx => ⟨b2, _, _, rfl, hb2, by omega, by omega, by omega, fun d5 b5 d50 d51 hb5 => qq _ _ ?_⟩
        walk_at "ucl"
        repeat (walk_at "u")
        refine q _ _ ?_ (hb5.mono (by omega))
        unfold IsNum
        constructor <;> (repeat' split) <;> omega
  · show WS K _ _ [.bor _, .bor _, .un, .un] _
    repeat (walk_at "u")
    refine ws_par ?_
    repeat (walk_at "u")
    refine callU [true, true] rfl rfl fun Q' X' qq xx => ⟨b, _, n, rfl, hb, by omega, by omega, by omega, fun way b1 w0 w1 hb1 => qq _ _ ?_⟩
    walk_at "ucl"
    repeat (walk_at "u")
    refine ⟨_, _, _, frzC_ok rfl, rfl, rfl, ?_⟩
    rw [e30]
    repeat (walk_at "u")
    refine ite2 (fun e => ?_) (fun e => ?_)
    · repeat (walk_at "u")
      refine callU [true, true] rfl rfl fun Q' X' qq xx => ⟨b1, _, _, rfl, hb1, by omega, by omega, by omega, fun d2 b2 d20 d21 hb2 => qq _ _ ?_⟩
      walk_at "ucl"
      repeat (walk_at "u")
      exact q _ _ ⟨by omega, by omega⟩ (hb2.mono (by omega))
    · repeat (walk_at "u")
      refine ite2 (fun e => ?_) (fun e => ?_)
      · repeat (walk_at "u")
        rw [e30]
        refine callU [true, true] rfl rfl fun Q' X' qq xx => ⟨b1, _, _, rfl, hb1, by omega, by decide +kernel, by decide +kernel, fun d2 b2 d20 d21 hb2 => qq _ _ ?_⟩
        walk_at "ucl"
        repeat (walk_at "u")
        refine callU [true, true] rfl rfl fun Q' X' qq xx => ⟨b2, _, _, rfl, hb2, by omega, by omega, by omega, fun d3 b3 d30 d31 hb3 => qq _ _ ?_⟩
        walk_at "ucl"
        repeat (walk_at "u")
        have hz : d3 = 0 ∨ d3 = 1 := by omega
        refine q _ _ ?_ (hb3.mono (by omega))
        rcases hz with rfl | rfl <;> (unfold IsNum; omega)
      · repeat (walk_at "u")
        refine wr_cat (ds := ns.map .int) (es := [.int 0]) ⟨_, rfl, .inr rfl⟩ rfl (by rw [List.length_map]; show _ + 1 ≤ _; omega) ?_
        repeat (walk_at "u")
        refine callU [true, false] rfl rfl fun Q' X' qq xx => ⟨b1, _, _, rfl, hb1, by omega, .inl ⟨_, .inl rfl, by rw [List.length_append, List.length_map]; exact Nat.succ_pos _, by rw [List.length_append, List.length_map]; show _ + 1 ≤ _; omega, fun v b2 hv hb2 => qq _ _ ?_⟩⟩
        obtain ⟨u, rfl⟩ : ∃ u, v = U.int u := by
          rcases List.mem_append.mp hv with h | h
          · obtain ⟨u, _, rfl⟩ := List.mem_map.mp h
            exact ⟨u, rfl⟩
          · exact ⟨0, List.mem_singleton.mp h⟩
        walk_at "ucl"
        repeat (walk_at "u")
        refine callU [true, true] rfl rfl fun Q' X' qq xx => ⟨b2, _, _, rfl, hb2, by omega, by omega, by omega, fun d5 b5 d50 d51 hb5 => qq _ _ ?_⟩
        walk_at "ucl"
        repeat (walk_at "u")
        refine q _ _ ?_ (hb5.mono (by omega))
        unfold IsNum
        constructor <;> (repeat' split) <;> omega
end

/-! ### call texts -/
def ConstU (d : U) : Prop := d = .non ∨ (∃ i, d = .int i ∧ IsNum i) ∨ ∃ z, d = .str z ∧ IsWord z 8
def r_const : RU := fun ρ Q _ => ∃ (b : U) (n : Int), ρ = [.bor b] ∧ BagU b n ∧ n ≤ 700000000 ∧ ∀ (d b' : U), ConstU d → BagU b' (n + 105) → Q (.dt d) [.bor b']
def r_written : RU := fun ρ Q _ => ∃ d : U, ρ = [.val d] ∧ ConstU d ∧ ∀ w : Str, ConstT w → Q (.dt (.str w)) [.val d]
def r_calltext : RU := fun ρ Q _ => ∃ (nm : Str) (ds : List U), ρ = [.val (.str nm), .val (.lst ds)] ∧ nm.length ≤ 100 ∧ ds.length ≤ 10 ∧ (∀ d ∈ ds, ConstU d) ∧
  ∀ (z : Str) (ws : List Str), z.cps.toList = nm.cps.toList ++ 40 :: (joinL [44, 32] (ws.map fun w => w.cps.toList) ++ [41]) → ws.length = ds.length → (∀ w ∈ ws, ConstT w) → Q (.dt (.str z)) [.val (.str nm), .val (.lst ds)]
section
variable {P : Program} {w : World} {K : PySem.W.Frag} {mg : Str → Option Value} {base : Heap}
theorem uk_any_constant (T : Txt K mg) : FnOk P w K mg base CX0 4 T.f_law_any_constant T.fd_law_any_constant ["bag"] (spU K r_const) := by
  have G_law_take := ok_law_take (P := P) (w := w) (base := base) T
  have G_law_of := ok_law_of (P := P) (w := w) (base := base) T
  have G_law_number := uk_number (P := P) (w := w) (base := base) T
  have G_law_word := uk_word (P := P) (w := w) (base := base) T
  refine Fun_okU T.F_law_any_constant sc_law_any_constant (fun ρ Q X h => ?_) (fun cdv A outer s H E hr => ⟨_, (pss_cons (ps_set (i := 1) sc_law_any_constant.nd rfl (.inl rfl) (pe_call G_law_take (hr.mono (by omega)) (by rfl) T.g_law_take T.F_law_take.kp T.b_law_take .nil pass0 (pa_cons (pv 0) (pa_cons pe_int pa_nil))))
        (pss_cons (ps_if (pt_cmpR op_eq (pv 1) pe_int (nomark _)) (pss_one (ps_ret pe_non)) pss_nil)
        (pss_cons (ps_if (pt_cmpR op_eq (pv 1) pe_int (nomark _)) (pss_one (ps_ret (pe_call G_law_of (hr.mono (by omega)) (by rfl) T.g_law_of T.F_law_of.kp T.b_law_of .nil pass0 (pa_cons (pv 0) (pa_cons (pe_lst (pa_cons pe_int (pa_cons pe_int (pa_cons (pe_un un_neg pe_int) (pa_cons pe_int (pa_cons (pe_un un_neg pe_int) (pa_cons pe_int (pa_cons (pe_op op_sub (pe_op op_pow pe_int pe_int) pe_int) (pa_cons (pe_op op_sub pe_int (pe_op op_pow pe_int pe_int)) pa_nil))))))))) pa_nil))))) pss_nil)
        (pss_one (ps_ret (pe_ifExp (pt_cmpR op_lt (pv 1) pe_int (nomark _)) (pe_call G_law_number hr (by rfl) T.g_law_number T.F_law_number.kp T.b_law_number .nil pass0 (pa_cons (pv 0) (pa_cons (pe_lst pa_nil) pa_nil))) (pe_call G_law_word hr (by rfl) T.g_law_word T.F_law_word.kp T.b_law_word .nil pass0 (pa_cons (pv 0) (pa_cons pe_int pa_nil))))))))), ?_⟩)
  · obtain ⟨b, n, rfl, _⟩ := h
    rfl
  rintro W ρ Qd Xd ⟨b, n, rfl, hb, hn, q⟩
  show WS K _ _ [.bor _, .un] _
  repeat (walk_at "u")
  refine callU [true, true] rfl rfl fun Q' X' qq xx => ⟨b, _, n, rfl, hb, by omega, by omega, by omega, fun way b1 w0 w1 hb1 => qq _ _ ?_⟩
  walk_at "ucl"
  repeat (walk_at "u")
  refine ite2 (fun e => ?_) (fun e => ?_)
  · repeat (walk_at "u")
    exact q _ _ (.inl rfl) (hb1.mono (by omega))
  · repeat (walk_at "u")
    refine ite2 (fun e => ?_) (fun e => ?_)
    · repeat (walk_at "u")
      rw [e30]
      refine callU [true, false] rfl rfl fun Q' X' qq xx => ⟨b1, _, _, rfl, hb1, by omega, .inl ⟨_, .inl rfl, by decide, by decide, fun v b2 hv hb2 => qq _ _ ?_⟩⟩
      walk_at "ucl"
      repeat (walk_at "u")
      refine q _ _ ?_ (hb2.mono (by omega))
      simp only [List.mem_cons, List.not_mem_nil, or_false] at hv
      rcases hv with rfl | rfl | rfl | rfl | rfl | rfl | rfl | rfl
      all_goals exact .inr (.inl ⟨_, rfl, by unfold IsNum; omega⟩)
    · repeat (walk_at "u")
      refine ite2 (fun e => ?_) (fun e => ?_)
      · repeat (walk_at "u")
        refine callU [true, false] rfl rfl fun Q' X' qq xx => ⟨b1, _, [], _, rfl, .inl rfl, by decide, hb1, by omega, fun i b2 hi hb2 => qq _ _ ?_⟩
        walk_at "ucl"
        repeat (walk_at "u")
        exact q _ _ (.inr (.inl ⟨_, rfl, hi⟩)) (hb2.mono (by omega))
      · repeat (walk_at "u")
        refine callU [true, true] rfl rfl fun Q' X' qq xx => ⟨b1, 8, _, rfl, hb1, by omega, by decide, fun z b2 z1 z2 hb2 => qq _ _ ?_⟩
        walk_at "ucl"
        repeat (walk_at "u")
        exact q _ _ (.inr (.inr ⟨z, rfl, z1, z2⟩)) (hb2.mono (by omega))
theorem uk_written (T : Txt K mg) : FnOk P w K mg base CX0 2 T.f_law_written T.fd_law_written ["value"] (spU K r_written) := by
  have G_law_written : FnOk P w K mg base CX0 1 T.f_law_written T.fd_law_written ["value"] (fun _ _ _ _ => False) :=
    T.F_law_written.ok sc_law_written (fun vs H Q E h => h.elim) (fun cdv A outer s H vs Q E hr h => h.elim)
  refine Fun_okU T.F_law_written sc_law_written (fun ρ Q X h => ?_) (fun cdv A outer s H E hr => ⟨_, (pss_cons (ps_if (pt_val (pe_callB call_isi (by rfl) T.m_isinstance (by decide +kernel) (pa_cons (pv 0) (pa_cons (pe_bltn (v := .ty "tuple") (by rfl) T.m_tuple (by decide +kernel) rfl) pa_nil)))) (pss_one (ps_ret (pe_op op_add_str (pe_op op_add_str pe_str (pe_join pe_str (pe_lc (own := [("one", 1)]) (g := gName 1) rfl sc_law_written.nd (pi_tup (pv 0)) (blkOk_by (own := [("one", 1)]) (N := ["value", "one"]) (sc := defScope s_law_written) (by decide +kernel)) (fun _ _ _ _ _ => pg_name (i := 1) sc_law_written.nd rfl (.inl rfl)) (fun _ _ _ _ _ => pts_nil) (fun _ _ _ _ _ => (pe_call G_law_written hr (by rfl) T.g_law_written T.F_law_written.kp T.b_law_written .nil pass0 (pa_cons (pv 1) pa_nil)))))) pe_str))) pss_nil)
        (pss_cons (ps_if (pt_cmpR op_isN (pv 0) pe_non (nomark _)) (pss_one (ps_ret pe_str)) pss_nil)
        (pss_one (ps_ret (pe_ifExp (pt_val (pe_callB call_isi (by rfl) T.m_isinstance (by decide +kernel) (pa_cons (pv 0) (pa_cons (pe_bltn (v := .ty "str") (by rfl) T.m_str (by decide +kernel) rfl) pa_nil)))) (pe_op op_add_str (pe_op op_add_str pe_str (pv 0)) pe_str) (pe_callTy call_str_int (by rfl) T.m_str (by decide +kernel) (pa_cons (pv 0) pa_nil))))))), ?_⟩)
  · obtain ⟨d, rfl, _⟩ := h
    rfl
  rintro W ρ Qd Xd ⟨d, rfl, hd, q⟩
  show WS K _ _ [.val _, .un] _
  rcases hd with rfl | ⟨i, rfl, hi⟩ | ⟨z, rfl, hz⟩
  · repeat (walk_at "u")
    exact q _ constT_none
  · have hlog : i.natAbs.log2 < 1920 := by
      have h1 : i.natAbs < 2 ^ 1920 := Nat.lt_of_lt_of_le (show i.natAbs < 1000000000000000000000000000000 by obtain ⟨h1, h2⟩ := hi; omega) (by decide +kernel)
      exact PySem.Flt.log2_lt_of (by decide) h1
    repeat (walk_at "u")
    refine wc_str hlog ?_
    repeat (walk_at "u")
    exact q _ (constT_num hi)
  · have hzl := hz.1
    have hq1 : (Str.ofString "\"").length = 1 := by decide +kernel
    have hcat : (Str.ofString "\"" ++ z).length = z.length + 1 := by
      rw [← len_list]
      show ((Str.ofString "\"").cps ++ z.cps).toList.length = _
      rw [Array.toList_append, List.length_append, len_list, len_list, hq1]
      omega
    repeat (walk_at "u")
    refine wr_cat_str (by rw [hq1]; omega) ?_
    repeat (walk_at "u")
    refine wr_cat_str (by rw [hcat, hq1]; omega) ?_
    repeat (walk_at "u")
    refine q _ (constT_str hz ?_)
    show ((Str.ofString "\"").cps ++ z.cps ++ (Str.ofString "\"").cps).toList = _
    rw [Array.toList_append, Array.toList_append, show (Str.ofString "\"").cps.toList = [34] by decide +kernel]
    rfl
theorem joinL_len {m : Nat} : ∀ {ws : List (List Nat)}, (∀ w ∈ ws, w.length ≤ m) → (joinL [44, 32] ws).length ≤ ws.length * (m + 2)
  | [], _ => Nat.zero_le _
  | [x], h => by
    have := h x List.mem_cons_self
    show x.length ≤ 1 * (m + 2)
    omega
  | x :: y :: r, h => by
    have h1 := h x List.mem_cons_self
    have h2 := joinL_len (ws := y :: r) fun v hv => h v (List.mem_cons_of_mem _ hv)
    show (x ++ [44, 32] ++ joinL [44, 32] (y :: r)).length ≤ ((y :: r).length + 1) * (m + 2)
    rw [List.length_append, List.length_append, Nat.succ_mul]
    have h4 : ([44, 32] : List Nat).length = 2 := rfl
    omega
theorem str_app (a b : Str) : (a ++ b).length = a.length + b.length := by
  rw [← len_list, ← len_list, ← len_list]
  show (a.cps ++ b.cps).toList.length = _
  rw [Array.toList_append, List.length_append]
theorem uk_call_text (T : Txt K mg) : FnOk P w K mg base CX0 3 T.f_law_call_text T.fd_law_call_text ["name", "values"] (spU K r_calltext) := by
  have G_law_written := uk_written (P := P) (w := w) (base := base) T
  refine Fun_okU T.F_law_call_text sc_law_call_text (fun ρ Q X h => ?_) (fun cdv A outer s H E hr => ⟨_, (pss_one (ps_ret (pe_op op_add_str (pe_op op_add_str (pe_op op_add_str (pv 0) pe_str) (pe_join pe_str (pe_lc (own := [("value", 2)]) (g := gName 2) rfl sc_law_call_text.nd (pi_list (pv 1)) (blkOk_by (own := [("value", 2)]) (N := ["name", "values", "value"]) (sc := defScope s_law_call_text) (by decide +kernel)) (fun _ _ _ _ _ => pg_name (i := 2) sc_law_call_text.nd rfl (.inl rfl)) (fun _ _ _ _ _ => pts_nil) (fun _ _ _ _ _ => (pe_call G_law_written hr (by rfl) T.g_law_written T.F_law_written.kp T.b_law_written .nil pass0 (pa_cons (pv 2) pa_nil)))))) pe_str))), ?_⟩)
  · obtain ⟨nm, ds, rfl, _⟩ := h
    rfl
  rintro W ρ Qd Xd ⟨nm, ds, rfl, hn, hl, hd, q⟩
  show WS K _ _ [.val _, .val _, .un] _
  have h1 : (Str.ofString "(").length = 1 := by decide +kernel
  repeat (walk_at "u")
  refine wr_cat_str (by rw [h1]; omega) ?_
  repeat (walk_at "u")
  refine we_join (we_str ⟨_, rfl, ?_⟩)
  repeat (walk_at "u")
  refine ⟨_, _, frzC_ok rfl, rfl, fun k acc ρ => ∃ ws : List Str, ρ = [.val (.str nm), .val (.lst ds), .un] ∧ acc = ws.map .str ∧ ws.length = k ∧ ∀ w ∈ ws, ConstT w, ?_, ?_, ?_⟩
  · exact ⟨[], rfl, rfl, rfl, nofun⟩
  · rintro k d acc ρ hk hl2 ⟨ws, rfl, rfl, el, hw⟩
    have hlt : k < ds.length := (List.getElem?_eq_some_iff.mp hk).1
    repeat (walk_at "u")
    refine callU [false] rfl rfl fun Q' X' qq xx => ⟨d, rfl, hd d (List.mem_of_getElem? hk), fun v hv => qq _ _ ?_⟩
    walk_at "ucl"
    repeat (walk_at "u")
    refine ⟨_, _, frzC_ok rfl, by rw [List.length_map]; omega, rfl, ws ++ [v], rfl, ?_, ?_, ?_⟩
    · rw [List.map_append]
      rfl
    · rw [List.length_append, el]
      rfl
    · intro y hy
      rcases List.mem_append.mp hy with h | h
      · exact hw y h
      · rw [List.mem_singleton.mp h]
        exact hv
  · rintro acc ρ hl2 ⟨ws, rfl, rfl, el, hw⟩
    have hll : ∀ y ∈ ws.map fun w => w.cps.toList, y.length ≤ 31 := fun y hy => by
      obtain ⟨w, h, e⟩ := List.mem_map.mp hy
      rw [← e, len_list]
      exact (hw w h).2.2.2.1
    have hjl := joinL_len hll
    have hj : (Txt.join (Str.ofString ", ") ws).cps.toList = joinL [44, 32] (ws.map fun w => w.cps.toList) := by
      rw [join_list, show (Str.ofString ", ").cps.toList = [44, 32] by decide +kernel]
    have hjn : (Txt.join (Str.ofString ", ") ws).length ≤ 400 := by
      rw [← len_list, hj]
      rw [List.length_map] at hjl
      have : ws.length * (31 + 2) ≤ 10 * 33 := Nat.mul_le_mul (by omega) (by decide)
      omega
    have hsum : (ws.map (·.length)).sum ≤ ws.length * 31 := by
      clear hjl hj hjn hll el hl2
      induction ws with
      | nil => exact Nat.zero_le _
      | cons y r ih =>
        have h1 := (hw y List.mem_cons_self).2.2.2.1
        have h2 := ih fun v hv => hw v (List.mem_cons_of_mem _ hv)
        rw [List.map_cons, List.sum_cons, List.length_cons, Nat.succ_mul]
        omega
    have h2 : (Str.ofString ", ").length = 2 := by decide +kernel
    have h3 : (Str.ofString ")").length = 1 := by decide +kernel
    have h31 : ws.length * 31 ≤ 10 * 31 := Nat.mul_le_mul (by omega) (by decide)
    repeat (walk_at "u")
    refine ⟨ws, rfl, by rw [h2]; omega, ?_⟩
    repeat (walk_at "u")
    refine wr_cat_str (by rw [str_app, h1]; omega) ?_
    repeat (walk_at "u")
    refine wr_cat_str (by rw [str_app, str_app, h1, h3]; omega) ?_
    repeat (walk_at "u")
    refine q _ ws ?_ (by omega) hw
    show (nm.cps ++ (Str.ofString "(").cps ++ (Txt.join (Str.ofString ", ") ws).cps ++ (Str.ofString ")").cps).toList = _
    rw [Array.toList_append, Array.toList_append, Array.toList_append, hj, show (Str.ofString "(").cps.toList = [40] by decide +kernel, show (Str.ofString ")").cps.toList = [41] by decide +kernel]
    simp
end

/-! ### any names, any calls -/
def kwU : List U := vals_KEYWORDS.map fun v => match v with
  | .str z => .str z
  | _ => .non
def r_keywords : RU := fun ρ Q _ => ρ = [] ∧ Q (.own (.lst kwU)) []
def r_anyname : RU := fun ρ Q _ => ∃ (b : U) (n : Int), ρ = [.bor b] ∧ BagU b n ∧ n ≤ 800000000 ∧ ∀ (z : Str) (b' : U), isNameZ z = true → BagU b' (n + 20) → Q (.dt (.str z)) [.bor b']
/-- a call text, of moderate length -/
def CallS (z : Str) : Prop := isCallZ z = true ∧ z.length ≤ 1000 ∧ PyData.strOk z = true
def r_anycall : RU := fun ρ Q _ => ∃ (b : U) (n : Int), ρ = [.bor b] ∧ BagU b n ∧ n ≤ 600000000 ∧ ∀ (z : Str) (b' : U), CallS z → BagU b' (n + 1000) → Q (.dt (.str z)) [.bor b']
section
variable {P : Program} {w : World} {K : PySem.W.Frag} {mg : Str → Option Value} {base : Heap}
theorem uk_keywords (T : Txt K mg) : FnOk P w K mg base CX0 1 T.f_law_keywords T.fd_law_keywords [] (spU K r_keywords) := by
  refine Fun_okU T.F_law_keywords sc_law_keywords (fun ρ Q X h => ?_) (fun cdv A outer s H E hr => ⟨_, (pss_one (ps_ret (pe_lst (pa_cons pe_str (pa_cons pe_str (pa_cons pe_str (pa_cons pe_str (pa_cons pe_str (pa_cons pe_str (pa_cons pe_str (pa_cons pe_str (pa_cons pe_str (pa_cons pe_str (pa_cons pe_str (pa_cons pe_str (pa_cons pe_str (pa_cons pe_str (pa_cons pe_str (pa_cons pe_str (pa_cons pe_str (pa_cons pe_str (pa_cons pe_str (pa_cons pe_str (pa_cons pe_str (pa_cons pe_str (pa_cons pe_str (pa_cons pe_str (pa_cons pe_str (pa_cons pe_str (pa_cons pe_str (pa_cons pe_str (pa_cons pe_str (pa_cons pe_str (pa_cons pe_str (pa_cons pe_str (pa_cons pe_str (pa_cons pe_str pa_nil))))))))))))))))))))))))))))))))))))), ?_⟩)
  · obtain ⟨rfl, _⟩ := h
    rfl
  rintro W ρ Qd Xd ⟨rfl, q⟩
  show WS K _ _ [] _
  repeat (walk_at "u")
  exact q
theorem uk_any_name (T : Txt K mg) : FnOk P w K mg base CX0 3 T.f_law_any_name T.fd_law_any_name ["bag"] (spU K r_anyname) := by
  have G_law_take := ok_law_take (P := P) (w := w) (base := base) T
  have G_law_of := ok_law_of (P := P) (w := w) (base := base) T
  have G_law_keywords := uk_keywords (P := P) (w := w) (base := base) T
  refine Fun_okU T.F_law_any_name sc_law_any_name (fun ρ Q X h => ?_) (fun cdv A outer s H E hr => ⟨_, (pss_cons (ps_set (i := 1) sc_law_any_name.nd rfl (.inl rfl) pe_str)
        (pss_cons (ps_set (i := 2) sc_law_any_name.nd rfl (.inl rfl) (pe_call G_law_of hr (by rfl) T.g_law_of T.F_law_of.kp T.b_law_of .nil pass0 (pa_cons (pv 0) (pa_cons (pv 1) pa_nil))))
        (pss_cons (ps_for PassesOwn.never rfl (pi_range1 (by rfl) T.m_range (pa_cons (pe_call G_law_take (hr.mono (by omega)) (by rfl) T.g_law_take T.F_law_take.kp T.b_law_take .nil pass0 (pa_cons (pv 0) (pa_cons pe_int pa_nil))) pa_nil)) (pg_name (i := 3) sc_law_any_name.nd rfl (.inl rfl)) (pss_one (ps_set (i := 2) sc_law_any_name.nd rfl (.inl rfl) (pe_op op_add_str (pv 2) (pe_call G_law_of hr (by rfl) T.g_law_of T.F_law_of.kp T.b_law_of .nil pass0 (pa_cons (pv 0) (pa_cons (pv 1) pa_nil)))))))
        (pss_cons (ps_if (pt_cmpR op_in_seq (pv 2) (pe_call0 G_law_keywords (hr.mono (by omega)) (by rfl) T.g_law_keywords T.F_law_keywords.kp T.b_law_keywords .nil pass0) (by rfl)) (pss_one (ps_set (i := 2) sc_law_any_name.nd rfl (.inl rfl) (pe_op op_add_str pe_str (pv 2)))) pss_nil)
        (pss_one (ps_ret (pv 2))))))), ?_⟩)
  · obtain ⟨b, n, rfl, _⟩ := h
    rfl
  rintro W ρ Qd Xd ⟨b, n, rfl, hb, hn, q⟩
  show WS K _ _ [.bor _, .un, .un, .un] _
  have lows : ∀ c ∈ (Str.ofString "abcdefghijklmnopqrstuvwxyz").cps.toList, isLow c = true := by decide +kernel
  repeat (walk_at "u")
  refine callU [true, false] rfl rfl fun Q' X' qq xx => ⟨b, _, n, rfl, hb, by omega, .inr ⟨_, rfl, by decide +kernel, by decide +kernel, fun c b1 hc hb1 => qq _ _ ?_⟩⟩
  walk_at "ucl"
  repeat (walk_at "u")
  refine callU [true, true] rfl rfl fun Q' X' qq xx => ⟨b1, _, _, rfl, hb1, by omega, by decide, by decide, fun d b2 d0 d1 hb2 => qq _ _ ?_⟩
  walk_at "ucl"
  repeat (walk_at "u")
  refine ⟨by omega, fun i ρ => ∃ (z : Str) (t : Sl) (bi : U), ρ = [.bor bi, .val (.str (Str.ofString "abcdefghijklmnopqrstuvwxyz")), .val (.str z), t] ∧ nb [t] 0 = true ∧ z.length = i + 1 ∧ z.cps.toList.all isLow = true ∧ BagU bi (n + 2 + i), ?_, ?_, ?_⟩
  · refine ⟨_, .un, b2, rfl, rfl, rfl, ?_, hb2.mono (by omega)⟩
    show [c].all isLow = true
    rw [List.all_cons, lows c hc]
    rfl
  · rintro i x ρ hx ⟨z, t, bi, rfl, ht, el, ec, hB⟩
    obtain ⟨hi, hxe⟩ := rgU_get hx
    have hi : i < d.toNat := hi
    repeat (walk_at "u")
    refine callU [true, false] rfl rfl fun Q' X' qq xx => ⟨bi, _, _, rfl, hB, by omega, .inr ⟨_, rfl, by decide +kernel, by decide +kernel, fun c2 b3 hc2 hb3 => qq _ _ ?_⟩⟩
    walk_at "ucl"
    repeat (walk_at "u")
    refine wr_cat_str (by show z.length + 1 ≤ _; omega) ?_
    repeat (walk_at "u")
    refine ⟨_, _, b3, rfl, rfl, ?_, ?_, hb3.mono (by omega)⟩
    · rw [str_app, el]
      rfl
    · show (z.cps ++ #[c2]).toList.all isLow = true
      rw [Array.toList_append, List.all_append, ec]
      simp only [List.all_cons, lows c2 hc2, List.all_nil, Bool.and_true]
  · rintro ρ ⟨z, t, bi, rfl, ht, el, ec, hB⟩
    rw [rgU_length] at el hB
    have hw12 : isWordZ z 12 = true := by
      unfold isWordZ
      rw [ec, decide_eq_true (show z.length ≤ 12 by omega)]
      rfl
    have hne : ¬ z = Str.ofString "" := fun h => by
      rw [h] at el
      have : (Str.ofString "").length = 0 := by decide +kernel
      omega
    repeat (walk_at "u")
    refine callU [] rfl rfl fun Q' X' qq xx => ⟨rfl, qq _ _ ?_⟩
    walk_at "ucl"
    repeat (walk_at "u")
    refine wr_in (ys := vals_KEYWORDS) rfl (.inl rfl) (by decide +kernel) rfl (by decide +kernel) ⟨_, rfl, ?_⟩
    show if inV (.str z) vals_KEYWORDS = true then _ else _
    cases hin : inV (.str z) vals_KEYWORDS with
    | false =>
      refine uF rfl ?_
      repeat (walk_at "u")
      refine q z _ ?_ (hB.mono (by omega))
      unfold isNameZ
      rw [hw12, hin, decide_eq_false hne]
      rfl
    | true =>
      have hq : isNameZ (Str.ofString "q" ++ z) = true := by
        obtain ⟨y, hy, e⟩ := List.any_eq_true.mp hin
        have h1 := List.all_eq_true.mp q_names y hy
        obtain ⟨k, rfl⟩ := vals_strs y hy
        have e2 : k = z := eq_of_beq e
        rw [← e2]
        exact h1
      have h1 : (Str.ofString "q").length = 1 := by decide +kernel
      refine uT rfl ?_
      repeat (walk_at "u")
      refine wr_cat_str (by rw [h1]; omega) ?_
      repeat (walk_at "u")
      exact q _ _ hq (hB.mono (by omega))
theorem uk_any_call (T : Txt K mg) : FnOk P w K mg base CX0 5 T.f_law_any_call T.fd_law_any_call ["bag"] (spU K r_anycall) := by
  have G_law_take := ok_law_take (P := P) (w := w) (base := base) T
  have G_law_any_constant := uk_any_constant (P := P) (w := w) (base := base) T
  have G_law_call_text := uk_call_text (P := P) (w := w) (base := base) T
  have G_law_any_name := uk_any_name (P := P) (w := w) (base := base) T
  refine Fun_okU T.F_law_any_call sc_law_any_call (fun ρ Q X h => ?_) (fun cdv A outer s H E hr => ⟨_, (pss_cons (ps_setLc (i := 1) (own := [("turn", 2)]) (g := gName 2) rfl sc_law_any_call.nd rfl rfl (sw_true rfl rfl rfl (by decide +kernel)) (pi_range1 (by rfl) T.m_range (pa_cons (pe_call G_law_take (hr.mono (by omega)) (by rfl) T.g_law_take T.F_law_take.kp T.b_law_take .nil pass0 (pa_cons (pv 0) (pa_cons pe_int pa_nil))) pa_nil)) (blkOk_by (own := [("turn", 2)]) (N := ["bag", "some", "turn"]) (sc := defScope s_law_any_call) (by decide +kernel)) (fun _ _ _ _ _ => pg_name (i := 2) sc_law_any_call.nd rfl (.inl rfl)) (fun _ _ _ _ _ => pts_nil) (fun _ _ _ _ _ => (pe_call G_law_any_constant hr (by rfl) T.g_law_any_constant T.F_law_any_constant.kp T.b_law_any_constant .nil pass0 (pa_cons (pv 0) pa_nil))))
        (pss_one (ps_ret (pe_call G_law_call_text (hr.mono (by omega)) (by rfl) T.g_law_call_text T.F_law_call_text.kp T.b_law_call_text .nil pass0 (pa_cons (pe_call G_law_any_name (hr.mono (by omega)) (by rfl) T.g_law_any_name T.F_law_any_name.kp T.b_law_any_name .nil pass0 (pa_cons (pv 0) pa_nil)) (pa_cons (pv 1) pa_nil)))))), ?_⟩)
  · obtain ⟨b, n, rfl, _⟩ := h
    rfl
  rintro W ρ Qd Xd ⟨b, n, rfl, hb, hn, q⟩
  show WS K _ _ [.bor _, .un, .un] _
  repeat (walk_at "u")
  refine callU [true, true] rfl rfl fun Q' X' qq xx => ⟨b, _, _, rfl, hb, by omega, by omega, by omega, fun d b1 d0 d1 hb1 => qq _ _ ?_⟩
  walk_at "ucl"
  repeat (walk_at "u")
  refine ⟨by omega, rfl, fun k acc ρ => ∃ bi : U, ρ = [.bor bi, .un, .un] ∧ acc.length = k ∧ (∀ d ∈ acc, ConstU d) ∧ BagU bi (n + 1 + 105 * k), ?_, ?_, ?_⟩
  · exact ⟨b1, rfl, rfl, nofun, hb1.mono (by omega)⟩
  · rintro k x acc ρ hx hl2 ⟨bi, rfl, el, hc, hB⟩
    obtain ⟨hk, hxe⟩ := rgU_get hx
    have hk : k < d.toNat := hk
    repeat (walk_at "u")
    refine callU [true] rfl rfl fun Q' X' qq xx => ⟨bi, _, rfl, hB, by omega, fun v b2 hv hb2 => qq _ _ ?_⟩
    walk_at "ucl"
    repeat (walk_at "u")
    refine ⟨_, _, frzC_ok rfl, by omega, rfl, b2, rfl, ?_, ?_, hb2.mono (by omega)⟩
    · rw [List.length_append, el]
      rfl
    · intro y hy
      rcases List.mem_append.mp hy with h | h
      · exact hc y h
      · rw [List.mem_singleton.mp h]
        exact hv
  · rintro acc ρ hl2 ⟨bi, rfl, el, hc, hB⟩
    rw [rgU_length] at el hB
    refine ⟨rfl, ?_⟩
    show WS K W _ [.bor bi, .own (.lst acc), .un] _
    repeat (walk_at "u")
    refine callU [true] rfl rfl fun Q' X' qq xx => ⟨bi, _, rfl, hB, by omega, fun z b3 hz hb3 => qq _ _ ?_⟩
    walk_at "ucl"
    have hzl := (name_low hz).1
    repeat (walk_at "u")
    refine callU [false, false] rfl rfl fun Q' X' qq xx => ⟨z, acc, rfl, by omega, by omega, hc, fun t ws et ew hw => qq _ _ ?_⟩
    walk_at "ucl"
    repeat (walk_at "u")
    refine q t _ ⟨call_good hz (by omega) hw et, ?_, ?_⟩ (hb3.mono (by omega))
    · have hll : ∀ y ∈ ws.map fun w => w.cps.toList, y.length ≤ 31 := fun y hy => by
        obtain ⟨w, h, e⟩ := List.mem_map.mp hy
        rw [← e, len_list]
        exact (hw w h).2.2.2.1
      have hjl := joinL_len hll
      rw [List.length_map] at hjl
      have h3 : ws.length * (31 + 2) ≤ 10 * 33 := Nat.mul_le_mul (by omega) (by decide)
      rw [← len_list, et, List.length_append, List.length_cons, List.length_append, len_list]
      have h4 : ([41] : List Nat).length = 1 := rfl
      omega
    · refine strOk_of ?_
      have h1 : z.cps.toList.all okc = true := List.all_eq_true.mpr fun c hc => by
        have := of_decide_eq_true (List.all_eq_true.mp (name_low hz).2 c hc)
        exact decide_eq_true (by omega)
      rw [et, List.all_append, List.all_cons, List.all_append, h1, joinL_ok]
      · rfl
      · intro y hy
        obtain ⟨w, h, e⟩ := List.mem_map.mp hy
        rw [← e]
        exact (hw w h).2.2.2.2
end

/-! ### texts, paths -/
def r_texts : RU := fun ρ Q _ => ∃ (b : U) (m : Nat) (n : Int), ρ = [.bor b, .val (.int (m : Nat))] ∧ 0 < m ∧ m ≤ 10 ∧ BagU b n ∧ n ≤ 500000000 ∧
  ∀ (zs : List Str) (b' : U), zs ≠ [] → zs.length ≤ 11 → (∀ z ∈ zs, CallS z) → BagU b' (n + 12000) → Q (.own (.lst (zs.map .str))) [.bor b', .val (.int (m : Nat))]
def r_lpath : RU := fun ρ Q _ => ∃ (b : U) (zs : List Str) (ag : Bool) (n : Int), ρ = [.bor b, .val (.lst (zs.map .str)), .val (.bl ag)] ∧ zs ≠ [] ∧ zs.length ≤ 900 ∧ BagU b n ∧ n ≤ 900000000 ∧
  ∀ (ps : List Str) (b' : U), ps ≠ [] → ps.length ≤ 4 → (ag = false → ps.length = 1) → (∀ p ∈ ps, p ∈ zs) → BagU b' (n + 5) → Q (.dt (.tup (ps.map .str))) [.bor b', .val (.lst (zs.map .str)), .val (.bl ag)]
section
variable {P : Program} {w : World} {K : PySem.W.Frag} {mg : Str → Option Value} {base : Heap}
theorem sc_strs (zs : List Str) : (zs.map U.str).map scalU = (zs.map V.str).map some := by
  rw [List.map_map, List.map_map]
  rfl
theorem fl_strs (zs : List Str) : (zs.map V.str).all flatV = true := List.all_eq_true.mpr fun v hv => by
  obtain ⟨z, _, rfl⟩ := List.mem_map.mp hv
  rfl
theorem uk_some_texts (T : Txt K mg) : FnOk P w K mg base CX0 6 T.f_law_some_texts T.fd_law_some_texts ["bag", "many"] (spU K r_texts) := by
  have G_law_take := ok_law_take (P := P) (w := w) (base := base) T
  have G_law_any_call := uk_any_call (P := P) (w := w) (base := base) T
  refine Fun_okU T.F_law_some_texts sc_law_some_texts (fun ρ Q X h => ?_) (fun cdv A outer s H E hr => ⟨_, (pss_cons (ps_set (i := 2) sc_law_some_texts.nd rfl (.inl rfl) (pe_lst (pa_cons (pe_call G_law_any_call hr (by rfl) T.g_law_any_call T.F_law_any_call.kp T.b_law_any_call .nil pass0 (pa_cons (pv 0) pa_nil)) pa_nil)))
        (pss_cons (ps_for PassesOwn.never rfl (pi_range1 (by rfl) T.m_range (pa_cons (pe_call G_law_take (hr.mono (by omega)) (by rfl) T.g_law_take T.F_law_take.kp T.b_law_take .nil pass0 (pa_cons (pv 0) (pa_cons (pv 1) pa_nil))) pa_nil)) (pg_name (i := 3) sc_law_some_texts.nd rfl (.inl rfl)) (pss_cons (ps_set (i := 4) sc_law_some_texts.nd rfl (.inl rfl) (pe_call G_law_any_call hr (by rfl) T.g_law_any_call T.F_law_any_call.kp T.b_law_any_call .nil pass0 (pa_cons (pv 0) pa_nil)))
        (pss_one (ps_if (pt_cmpR op_notIn_seq (pv 4) (pv 2) (by rfl)) (pss_one (ps_expr (pe_bm PySem.F.plainAttrs_list PySem.F.slot_list_append PySem.F.type_list_append mt_append (pv 2) (pa_cons (pv 4) pa_nil)))) pss_nil))))
        (pss_one (ps_ret (pv 2))))), ?_⟩)
  · obtain ⟨b, m, n, rfl, _⟩ := h
    rfl
  rintro W ρ Qd Xd ⟨b, m, n, rfl, m0, m1, hb, hn, q⟩
  show WS K _ _ [.bor _, .val _, .un, .un, .un] _
  repeat (walk_at "u")
  refine callU [true] rfl rfl fun Q' X' qq xx => ⟨b, _, rfl, hb, by omega, fun z b1 hz hb1 => qq _ _ ?_⟩
  walk_at "ucl"
  repeat (walk_at "u")
  refine callU [true, true] rfl rfl fun Q' X' qq xx => ⟨b1, _, _, rfl, hb1, by omega, by omega, Int.lt_of_le_of_lt (show _ ≤ (11 : Int) by omega) (by decide), fun d b2 d0 d1 hb2 => qq _ _ ?_⟩
  walk_at "ucl"
  repeat (walk_at "u")
  refine ⟨by omega, fun i ρ => ∃ (zs : List Str) (t1 t2 : Sl) (bi : U), ρ = [.bor bi, .val (.int (m : Nat)), .own (.lst (zs.map .str)), t1, t2] ∧ nb [t1] 0 = true ∧ nb [t2] 0 = true ∧ zs ≠ [] ∧ zs.length ≤ i + 1 ∧ (∀ z ∈ zs, CallS z) ∧ BagU bi (n + 1001 + 1000 * i), ?_, ?_, ?_⟩
  · exact ⟨[z], .un, .un, b2, rfl, rfl, rfl, by simp, by simp, fun y hy => by rw [List.mem_singleton.mp hy]; exact hz, hb2.mono (by omega)⟩
  · rintro i x ρ hx ⟨zs, t1, t2, bi, rfl, h1, h2, hne, hl, hc, hB⟩
    obtain ⟨hi, hxe⟩ := rgU_get hx
    have hi : i < d.toNat := hi
    repeat (walk_at "u")
    refine callU [true] rfl rfl fun Q' X' qq xx => ⟨bi, _, rfl, hB, by omega, fun y b3 hy hb3 => qq _ _ ?_⟩
    walk_at "ucl"
    repeat (walk_at "u")
    refine wr_in (ys := zs.map .str) rfl (.inl ⟨_, rfl, .inr rfl⟩) (sc_strs _) rfl (fl_strs _) ⟨_, rfl, ?_⟩
    refine ite2 (fun e => ?_) (fun e => ?_)
    · repeat (walk_at "u")
      refine ⟨_, _, _, _, frzC_ok rfl, rfl, rfl, by rw [List.length_map]; omega, zs ++ [y], .val x, .val (.str y), b3, ?_, rfl, rfl, by simp, by rw [List.length_append]; show _ + 1 ≤ _; omega, ?_, hb3.mono (by omega)⟩
      · rw [List.map_append]
        rfl
      · intro v hv
        rcases List.mem_append.mp hv with h | h
        · exact hc v h
        · rw [List.mem_singleton.mp h]
          exact hy
    · repeat (walk_at "u")
      exact ⟨zs, _, _, b3, rfl, rfl, rfl, hne, by omega, hc, hb3.mono (by omega)⟩
  · rintro ρ ⟨zs, t1, t2, bi, rfl, h1, h2, hne, hl, hc, hB⟩
    rw [rgU_length] at hl hB
    repeat (walk_at "u")
    exact q zs bi hne (by omega) hc (hB.mono (by omega))
theorem uk_lpath (T : Txt K mg) : FnOk P w K mg base CX0 3 T.f_law_path T.fd_law_path ["bag", "texts", "aged"] (spU K r_lpath) := by
  have G_law_take := ok_law_take (P := P) (w := w) (base := base) T
  have G_law_of := ok_law_of (P := P) (w := w) (base := base) T
  refine Fun_okU T.F_law_path sc_law_path (fun ρ Q X h => ?_) (fun cdv A outer s H E hr => ⟨_, (pss_one (ps_ret (pe_callTy call_tuple_of (by rfl) T.m_tuple (by decide +kernel) (pa_cons (pe_lc (own := [("turn", 3)]) (g := gName 3) rfl sc_law_path.nd (pi_range1 (by rfl) T.m_range (pa_cons (pe_op op_add pe_int (pe_op op_mul (pe_call G_law_take (hr.mono (by omega)) (by rfl) T.g_law_take T.F_law_take.kp T.b_law_take .nil pass0 (pa_cons (pv 0) (pa_cons pe_int pa_nil))) (pe_callTy call_int1 (by rfl) T.m_int (by decide +kernel) (pa_cons (pv 2) pa_nil)))) pa_nil)) (blkOk_by (own := [("turn", 3)]) (N := ["bag", "texts", "aged", "turn"]) (sc := defScope s_law_path) (by decide +kernel)) (fun _ _ _ _ _ => pg_name (i := 3) sc_law_path.nd rfl (.inl rfl)) (fun _ _ _ _ _ => pts_nil) (fun _ _ _ _ _ => (pe_call G_law_of hr (by rfl) T.g_law_of T.F_law_of.kp T.b_law_of .nil pass0 (pa_cons (pv 0) (pa_cons (pv 1) pa_nil))))) pa_nil)))), ?_⟩)
  · obtain ⟨b, zs, ag, n, rfl, _⟩ := h
    rfl
  rintro W ρ Qd Xd ⟨b, zs, ag, n, rfl, hz, hl, hb, hn, q⟩
  show WS K _ _ [.bor _, .val _, .val _, .un] _
  repeat (walk_at "u")
  refine callU [true, true] rfl rfl fun Q' X' qq xx => ⟨b, _, _, rfl, hb, by omega, by omega, by omega, fun d b1 d0 d1 hb1 => qq _ _ ?_⟩
  walk_at "ucl"
  repeat (walk_at "u")
  have bd : 1 ≤ (1 + d * if ag = true then 1 else 0) ∧ (1 + d * if ag = true then 1 else 0) ≤ 4 ∧ (ag = false → (1 + d * if ag = true then 1 else 0) = 1) := by
    cases ag
    · exact ⟨by simp, by simp, fun _ => by simp⟩
    · exact ⟨by simp; omega, by simp; omega, nofun⟩
  generalize (1 + d * if ag = true then 1 else 0) = m at bd ⊢
  obtain ⟨m1, m2, m3⟩ := bd
  refine ⟨by omega, rfl, fun k acc ρ => ∃ (bi : U) (ps : List Str), ρ = [.bor bi, .val (.lst (zs.map .str)), .val (.bl ag), .un] ∧ acc = ps.map .str ∧ ps.length = k ∧ (∀ p ∈ ps, p ∈ zs) ∧ BagU bi (n + 1 + k), ?_, ?_, ?_⟩
  · exact ⟨b1, [], rfl, rfl, rfl, nofun, hb1.mono (by omega)⟩
  · rintro k x acc ρ hx hl2 ⟨bi, ps, rfl, rfl, el, hp, hB⟩
    obtain ⟨hk, hxe⟩ := rgU_get hx
    have hk : k < m.toNat := hk
    repeat (walk_at "u")
    refine callU [true, true] rfl rfl fun Q' X' qq xx => ⟨bi, _, _, rfl, hB, by omega, .inl ⟨_, .inl rfl, ?_, ?_, fun v b2 hv hb2 => qq _ _ ?_⟩⟩
    · rw [List.length_map]
      exact List.length_pos_iff.mpr hz
    · rw [List.length_map]
      omega
    obtain ⟨u, hu, rfl⟩ := List.mem_map.mp hv
    walk_at "ucl"
    repeat (walk_at "u")
    refine ⟨_, _, frzC_ok rfl, by rw [List.length_map]; omega, rfl, b2, ps ++ [u], rfl, ?_, ?_, ?_, hb2.mono (by omega)⟩
    · rw [List.map_append]
      rfl
    · rw [List.length_append, el]
      rfl
    · intro y hy
      rcases List.mem_append.mp hy with h | h
      · exact hp y h
      · rw [List.mem_singleton.mp h]
        exact hu
  · rintro acc ρ hl2 ⟨bi, ps, rfl, rfl, el, hp, hB⟩
    rw [rgU_length] at el hB
    repeat (walk_at "u")
    refine q ps bi (fun e => ?_) (by omega) (fun e => by have := m3 e; omega) hp (hB.mono (by omega))
    subst e
    have el : 0 = m.toNat := el
    omega
end

/-! ### answers -/
def KitU (kit : U) : Prop := ∃ (ks : List Key) (xs : List U) (ns : List Int) (ws cs : List Str), kit = .dic ks xs ∧
  valU ks xs (.inr (Str.ofString "numbers")) = some (.lst (ns.map .int)) ∧ ns ≠ [] ∧ ns.length ≤ 900 ∧ (∀ n ∈ ns, IsNum n) ∧
  valU ks xs (.inr (Str.ofString "words")) = some (.lst (ws.map .str)) ∧ ws.length ≤ 900 ∧ (∀ w ∈ ws, IsWord w 8) ∧
  valU ks xs (.inr (Str.ofString "classes")) = some (.lst (cs.map .str)) ∧ cs.length ≤ 900 ∧ ∀ c ∈ cs, isClassL c.cps.toList = true
/-- None, a whole number, a short word -/
def ItemU (d : U) : Prop := d = .non ∨ (∃ i, d = .int i ∧ i.natAbs < 10 ^ 40) ∨ ∃ z, d = .str z ∧ IsWord z 9
def r_near : RU := fun ρ Q _ => ∃ (b kit : U) (n : Int), ρ = [.bor b, .val kit] ∧ KitU kit ∧ BagU b n ∧ n ≤ 900000000 ∧ ∀ (d b' : U), ItemU d → BagU b' (n + 4) → Q (.dt d) [.bor b', .val kit]
section
variable {P : Program} {w : World} {K : PySem.W.Frag} {mg : Str → Option Value} {base : Heap}
theorem uk_near (T : Txt K mg) : FnOk P w K mg base CX0 3 T.f_law_near T.fd_law_near ["bag", "kit"] (spU K r_near) := by
  have G_law_take := ok_law_take (P := P) (w := w) (base := base) T
  have G_law_of := ok_law_of (P := P) (w := w) (base := base) T
  refine Fun_okU T.F_law_near sc_law_near (fun ρ Q X h => ?_) (fun cdv A outer s H E hr => ⟨_, (pss_cons (ps_set (i := 2) sc_law_near.nd rfl (.inl rfl) (pe_op op_sub (pe_op op_add (pe_call G_law_of hr (by rfl) T.g_law_of T.F_law_of.kp T.b_law_of .nil pass0 (pa_cons (pv 0) (pa_cons (pe_dget (hu_of hr) (pv 1) pe_str (fun _ _ => rfl)) pa_nil))) (pe_call G_law_take (hr.mono (by omega)) (by rfl) T.g_law_take T.F_law_take.kp T.b_law_take .nil pass0 (pa_cons (pv 0) (pa_cons pe_int pa_nil)))) pe_int))
        (pss_one (ps_ret (pe_call G_law_of hr (by rfl) T.g_law_of T.F_law_of.kp T.b_law_of .nil pass0 (pa_cons (pv 0) (pa_cons (pe_lst (pa_cons pe_non (pa_cons (pe_call G_law_of hr (by rfl) T.g_law_of T.F_law_of.kp T.b_law_of .nil pass0 (pa_cons (pv 0) (pa_cons (pe_op op_cat (pe_dget (hu_of hr) (pv 1) pe_str (fun _ _ => rfl)) (pe_lst (pa_cons pe_str pa_nil))) pa_nil))) (pa_cons (pv 2) (pa_cons (pv 2) pa_nil))))) pa_nil)))))), ?_⟩)
  · obtain ⟨b, kit, n, rfl, _⟩ := h
    rfl
  rintro W ρ Qd Xd ⟨b, kit, n, rfl, ⟨ks, xs, ns, ws, cs, rfl, e1, ne1, l1, nb1, e2, l2, g2, e3, l3, g3⟩, hb, hn, q⟩
  show WS K _ _ [.bor _, .val _, .un] _
  repeat (walk_at "u")
  refine ⟨ks, xs, _, _, _, rfl, rfl, rfl, e1, ?_⟩
  repeat (walk_at "u")
  refine callU [true, true] rfl rfl fun Q' X' qq xx => ⟨b, _, n, rfl, hb, by omega, .inl ⟨_, .inl rfl, by rw [List.length_map]; exact List.length_pos_iff.mpr ne1, by rw [List.length_map]; omega, fun v b1 hv hb1 => qq _ _ ?_⟩⟩
  obtain ⟨u, hu, rfl⟩ := List.mem_map.mp hv
  have ub := nb1 u hu
  unfold IsNum at ub
  walk_at "ucl"
  repeat (walk_at "u")
  refine callU [true, true] rfl rfl fun Q' X' qq xx => ⟨b1, _, _, rfl, hb1, by omega, by omega, by omega, fun d b2 d0 d1 hb2 => qq _ _ ?_⟩
  walk_at "ucl"
  repeat (walk_at "u")
  refine ⟨ks, xs, _, _, _, rfl, rfl, rfl, e2, ?_⟩
  repeat (walk_at "u")
  refine wr_cat (ds := ws.map .str) (es := [.str (Str.ofString "qqqqqqqqq")]) rfl rfl (by rw [List.length_map]; show _ + 1 ≤ _; omega) ?_
  repeat (walk_at "u")
  refine callU [true, false] rfl rfl fun Q' X' qq xx => ⟨b2, _, _, rfl, hb2, by omega, .inl ⟨_, .inl rfl, by rw [List.length_append]; exact Nat.succ_pos _, by rw [List.length_append, List.length_map]; show _ + 1 ≤ _; omega, fun v b3 hv hb3 => qq _ _ ?_⟩⟩
  obtain ⟨z, rfl, hz⟩ : ∃ z, v = .str z ∧ IsWord z 9 := by
    rcases List.mem_append.mp hv with h | h
    · obtain ⟨z, hz, rfl⟩ := List.mem_map.mp h
      exact ⟨z, rfl, Nat.le_succ_of_le (g2 z hz).1, (g2 z hz).2⟩
    · exact ⟨_, List.mem_singleton.mp h, by decide +kernel, by decide +kernel⟩
  walk_at "ucl"
  repeat (walk_at "u")
  refine callU [true, false] rfl rfl fun Q' X' qq xx => ⟨b3, _, _, rfl, hb3, by omega, .inl ⟨_, .inl rfl, Nat.succ_pos _, Nat.le_of_ble_eq_true rfl, fun v b4 hv hb4 => qq _ _ ?_⟩⟩
  walk_at "ucl"
  repeat (walk_at "u")
  refine q _ _ ?_ (hb4.mono (by omega))
  simp only [List.mem_cons, List.not_mem_nil, or_false] at hv
  rcases hv with rfl | rfl | rfl | rfl
  · exact .inl rfl
  · exact .inr (.inr ⟨z, rfl, hz⟩)
  · exact .inr (.inl ⟨_, rfl, by omega⟩)
  · exact .inr (.inl ⟨_, rfl, by omega⟩)
/-- an answer of a part -/
def AnsU (d : U) : Prop := isAnswerU d = true ∧ okU d = true ∧ fine (dU d) = true ∧ PyData.depth (dU d) ≤ 2
def r_answer : RU := fun ρ Q _ => ∃ (b kit : U) (n : Int), ρ = [.bor b, .val kit] ∧ KitU kit ∧ BagU b n ∧ n ≤ 800000000 ∧ ∀ (a : Av) (d b' : U), (a = .dt d ∨ a = .own d) → AnsU d → RepA d → BagU b' (n + 30) → Q a [.bor b', .val kit]
theorem item_any {d : U} (h : ItemU d) : AnyU 0 d := by
  rcases h with rfl | ⟨i, rfl, h⟩ | ⟨z, rfl, h1, h2⟩
  · exact any_non
  · exact any_int h
  · exact any_str ⟨by omega, strOk_of (List.all_eq_true.mpr fun c hc => by
      have := of_decide_eq_true (List.all_eq_true.mp h2 c hc)
      exact decide_eq_true (by omega))⟩
theorem item_rep {d : U} (h : ItemU d) : RepA d := by
  have := (item_any h).up (Nat.zero_le 1)
  rcases h with rfl | ⟨i, rfl, h⟩ | ⟨z, rfl, h1, h2⟩ <;> exact this
theorem item_ans {d : U} (h : ItemU d) : AnsU d ∧ isItemD (dU d) = true ∧ PyData.depth (dU d) = 0 := by
  rcases h with rfl | ⟨i, rfl, _⟩ | ⟨z, rfl, h1, h2⟩
  · exact ⟨⟨rfl, rfl, rfl, by decide⟩, rfl, rfl⟩
  · exact ⟨⟨rfl, rfl, rfl, Nat.zero_le _⟩, rfl, rfl⟩
  · have hw : isWordZ z 30 = true := by
      unfold isWordZ
      rw [h2, decide_eq_true (show z.length ≤ 30 by omega)]
      rfl
    refine ⟨⟨hw, rfl, fine_str (n := 9) (strOk_of (List.all_eq_true.mpr fun c hc => ?_)) h1, Nat.zero_le _⟩, hw, rfl⟩
    have := of_decide_eq_true (List.all_eq_true.mp h2 c hc)
    exact decide_eq_true (by omega)
theorem class_str {z : Str} (h : isClassL z.cps.toList = true) : fine (.str z) = true := by
  have len : z.length = z.cps.toList.length := (len_list z).symm
  cases e : z.cps.toList with
  | nil => rw [e] at h; cases h
  | cons c cs =>
    rw [e, isClassL_cons, Bool.and_eq_true, Bool.and_eq_true] at h
    have h1 := of_decide_eq_true h.1
    refine fine_str (n := 12) (strOk_of (List.all_eq_true.mpr fun x hx => ?_)) (by rw [len, e, List.length_cons]; exact h1)
    rw [e] at hx
    have := List.all_eq_true.mp h.2.2 x hx
    rcases Bool.or_eq_true_iff.mp this with h | h
    · have := of_decide_eq_true h
      exact decide_eq_true (by omega)
    · have := of_decide_eq_true h
      exact decide_eq_true (by omega)
theorem cls_small {z : Str} (h : isClassL z.cps.toList = true) : SmallS z := by
  have h1 := class_str h
  have h1 : (decide (z.length ≤ 100000) && PyData.strOk z) = true := h1
  rw [Bool.and_eq_true] at h1
  refine ⟨?_, h1.2⟩
  have len : z.length = z.cps.toList.length := (len_list z).symm
  cases e : z.cps.toList with
  | nil => rw [e] at h; cases h
  | cons c cs =>
    rw [e, isClassL_cons, Bool.and_eq_true, Bool.and_eq_true] at h
    have h2 := of_decide_eq_true h.1
    show z.length ≤ 40
    rw [len, e, List.length_cons]
    omega
theorem raised_ans {y : Str} {c : U} (hy : isClassL y.cps.toList = true) (hc : c = .non ∨ ∃ z, c = .str z ∧ isClassL z.cps.toList = true) : AnsU (.tup [.str (Str.ofString "raises"), .str y, c]) := by
  have fr : fine (.str (Str.ofString "raises")) = true := by decide +kernel
  have fy := class_str hy
  rcases hc with rfl | ⟨z, rfl, hz⟩
  · refine ⟨?_, rfl, ?_, Nat.le_of_ble_eq_true rfl⟩
    · show (PyData.eqv (.str (Str.ofString "raises")) (.str (Str.ofString "raises")) && (isClassL y.cps.toList && (true || _))) = true
      rw [hy]
      decide +kernel
    · show (decide (3 ≤ 1000) && (fine (.str (Str.ofString "raises")) && (fine (.str y) && (true && true)))) = true
      rw [fr, fy]
      rfl
  · have fz := class_str hz
    refine ⟨?_, rfl, ?_, Nat.le_of_ble_eq_true rfl⟩
    · show (PyData.eqv (.str (Str.ofString "raises")) (.str (Str.ofString "raises")) && (isClassL y.cps.toList && (_ || isClassL z.cps.toList))) = true
      rw [hy, hz, Bool.or_true]
      decide +kernel
    · show (decide (3 ≤ 1000) && (fine (.str (Str.ofString "raises")) && (fine (.str y) && (fine (.str z) && true)))) = true
      rw [fr, fy, fz]
      rfl
theorem items_ans {ds : List U} (hl : ds.length ≤ 900) (h : ∀ d ∈ ds, ItemU d) : AnsU (.lst ds) := by
  have key : (dUs ds).all isItemD = true ∧ okUs ds = true ∧ fineAll (dUs ds) = true ∧ PyData.depthAll (dUs ds) = 0 := by
    clear hl
    induction ds with
    | nil => exact ⟨rfl, rfl, rfl, rfl⟩
    | cons d r ih =>
      obtain ⟨i1, i2, i3, i4⟩ := ih fun x hx => h x (List.mem_cons_of_mem _ hx)
      obtain ⟨⟨_, a2, a3, _⟩, a5, a6⟩ := item_ans (h d List.mem_cons_self)
      refine ⟨?_, ?_, ?_, ?_⟩
      · show (isItemD (dU d) && (dUs r).all isItemD) = true
        rw [a5, i1]
        rfl
      · show (okU d && okUs r) = true
        rw [a2, i2]
        rfl
      · show (fine (dU d) && fineAll (dUs r)) = true
        rw [a3, i3]
        rfl
      · show max (PyData.depth (dU d)) (PyData.depthAll (dUs r)) = 0
        rw [a6, i4]
        rfl
  refine ⟨key.1, key.2.1, ?_, ?_⟩
  · show (decide ((dUs ds).length ≤ 1000) && fineAll (dUs ds)) = true
    rw [key.2.2.1, decide_eq_true (show (dUs ds).length ≤ 1000 by rw [dUs_map, List.length_map]; omega)]
    rfl
  · show PyData.depthAll (dUs ds) + 1 ≤ 2
    rw [key.2.2.2]
    decide
theorem uk_any_answer (T : Txt K mg) : FnOk P w K mg base CX0 4 T.f_law_any_answer T.fd_law_any_answer ["bag", "kit"] (spU K r_answer) := by
  have G_law_take := ok_law_take (P := P) (w := w) (base := base) T
  have G_law_of := ok_law_of (P := P) (w := w) (base := base) T
  have G_law_near := uk_near (P := P) (w := w) (base := base) T
  refine Fun_okU T.F_law_any_answer sc_law_any_answer (fun ρ Q X h => ?_) (fun cdv A outer s H E hr => ⟨_, (pss_cons (ps_par (i := 2) (j := 3) (by rfl) sc_law_any_answer.nd rfl rfl (by decide) rfl rfl (pa_cons (pe_call G_law_take (hr.mono (by omega)) (by rfl) T.g_law_take T.F_law_take.kp T.b_law_take .nil pass0 (pa_cons (pv 0) (pa_cons pe_int pa_nil))) (pa_cons (pe_op op_cat (pe_dget (hu_of hr) (pv 1) pe_str (fun _ _ => rfl)) (pe_lst (pa_cons pe_str pa_nil))) pa_nil)) (by rfl))
        (pss_cons (ps_if (pt_cmpR op_lt (pv 2) pe_int (nomark _)) (pss_one (ps_ret (pe_call G_law_near hr (by rfl) T.g_law_near T.F_law_near.kp T.b_law_near .nil pass0 (pa_cons (pv 0) (pa_cons (pv 1) pa_nil))))) pss_nil)
        (pss_cons (ps_if (pt_cmpR op_eq (pv 2) pe_int (nomark _)) (pss_cons (ps_set (i := 4) sc_law_any_answer.nd rfl (.inl rfl) (pe_ifExp (pt_cmpR op_eq (pe_call G_law_take (hr.mono (by omega)) (by rfl) T.g_law_take T.F_law_take.kp T.b_law_take .nil pass0 (pa_cons (pv 0) (pa_cons pe_int pa_nil))) pe_int (nomark _)) (pe_call G_law_of (hr.mono (by omega)) (by rfl) T.g_law_of T.F_law_of.kp T.b_law_of .nil pass0 (pa_cons (pv 0) (pa_cons (pv 3) pa_nil))) pe_non))
        (pss_one (ps_ret (pe_tup (pa_cons pe_str (pa_cons (pe_call G_law_of (hr.mono (by omega)) (by rfl) T.g_law_of T.F_law_of.kp T.b_law_of .nil pass0 (pa_cons (pv 0) (pa_cons (pv 3) pa_nil))) (pa_cons (pv 4) pa_nil))))))) pss_nil)
        (pss_cons (ps_if (pt_cmpR op_eq (pv 2) pe_int (nomark _)) (pss_one (ps_ret pe_non)) pss_nil)
        (pss_one (ps_ret (pe_lc (own := [("turn", 5)]) (g := gName 5) rfl sc_law_any_answer.nd (pi_range1 (by rfl) T.m_range (pa_cons (pe_call G_law_take (hr.mono (by omega)) (by rfl) T.g_law_take T.F_law_take.kp T.b_law_take .nil pass0 (pa_cons (pv 0) (pa_cons pe_int pa_nil))) pa_nil)) (blkOk_by (own := [("turn", 5)]) (N := ["bag", "kit", "way", "classes", "cause", "turn"]) (sc := defScope s_law_any_answer) (by decide +kernel)) (fun _ _ _ _ _ => pg_name (i := 5) sc_law_any_answer.nd rfl (.inl rfl)) (fun _ _ _ _ _ => pts_nil) (fun _ _ _ _ _ => (pe_call G_law_near hr (by rfl) T.g_law_near T.F_law_near.kp T.b_law_near .nil pass0 (pa_cons (pv 0) (pa_cons (pv 1) pa_nil))))))))))), ?_⟩)
  · obtain ⟨b, kit, n, rfl, _⟩ := h
    rfl
  rintro W ρ Qd Xd ⟨b, kit, n, rfl, hk, hb, hn, q⟩
  obtain ⟨ks, xs, ns, ws, cs, rfl, e1, ne1, l1, nb1, e2, l2, g2, e3, l3, g3⟩ := id hk
  show WS K _ _ [.bor _, .val _, .un, .un, .un, .un] _
  repeat (walk_at "u")
  refine ws_par ?_
  repeat (walk_at "u")
  refine callU [true, true] rfl rfl fun Q' X' qq xx => ⟨b, _, n, rfl, hb, by omega, by omega, by omega, fun way b1 w0 w1 hb1 => qq _ _ ?_⟩
  walk_at "ucl"
  repeat (walk_at "u")
  refine ⟨ks, xs, _, _, _, rfl, rfl, rfl, e3, ?_⟩
  repeat (walk_at "u")
  refine wr_cat (ds := cs.map .str) (es := [.str (Str.ofString "Zq")]) rfl rfl (by rw [List.length_map]; show _ + 1 ≤ _; omega) ?_
  repeat (walk_at "u")
  refine ⟨_, _, _, frzC_ok rfl, rfl, rfl, ?_⟩
  have cl : ∀ v ∈ cs.map U.str ++ [U.str (Str.ofString "Zq")], ∃ z, v = .str z ∧ isClassL z.cps.toList = true := fun v hv => by
    rcases List.mem_append.mp hv with h | h
    · obtain ⟨z, hz, rfl⟩ := List.mem_map.mp h
      exact ⟨z, rfl, g3 z hz⟩
    · exact ⟨_, List.mem_singleton.mp h, by decide +kernel⟩
  have cln : 0 < (cs.map U.str ++ [U.str (Str.ofString "Zq")]).length ∧ (cs.map U.str ++ [U.str (Str.ofString "Zq")]).length ≤ 1000 := by
    rw [List.length_append, List.length_map]
    show 0 < _ + 1 ∧ _ + 1 ≤ 1000
    omega
  generalize cs.map U.str ++ [U.str (Str.ofString "Zq")] = cls at cl cln ⊢
  repeat (walk_at "u")
  refine ite2 (fun e => ?_) (fun e => ?_)
  · repeat (walk_at "u")
    refine callU [true, true] rfl rfl fun Q' X' qq xx => ⟨b1, _, _, rfl, hk, hb1, by omega, fun d b2 hd hb2 => qq _ _ ?_⟩
    walk_at "ucl"
    repeat (walk_at "u")
    exact q _ _ _ (.inl rfl) (item_ans hd).1 (item_rep hd) (hb2.mono (by omega))
  · repeat (walk_at "u")
    refine ite2 (fun e => ?_) (fun e => ?_)
    · repeat (walk_at "u")
      refine callU [true, true] rfl rfl fun Q' X' qq xx => ⟨b1, _, _, rfl, hb1, by omega, by omega, by omega, fun d b2 d0 d1 hb2 => qq _ _ ?_⟩
      walk_at "ucl"
      repeat (walk_at "u")
      refine ite2 (fun e => ?_) (fun e => ?_)
      · repeat (walk_at "u")
        refine callU [true, true] rfl rfl fun Q' X' qq xx => ⟨b2, _, _, rfl, hb2, by omega, .inl ⟨_, .inl rfl, cln.1, by omega, fun v b3 hv hb3 => qq _ _ ?_⟩⟩
        obtain ⟨z, rfl, hz⟩ := cl v hv
        walk_at "ucl"
        repeat (walk_at "u")
        refine callU [true, true] rfl rfl fun Q' X' qq xx => ⟨b3, _, _, rfl, hb3, by omega, .inl ⟨_, .inl rfl, cln.1, by omega, fun v b4 hv hb4 => qq _ _ ?_⟩⟩
        obtain ⟨y, rfl, hy⟩ := cl v hv
        walk_at "ucl"
        repeat (walk_at "u")
        exact q _ _ _ (.inl rfl) (raised_ans hy (.inr ⟨z, rfl, hz⟩)) (any_raised (cls_small hy) (any_str (cls_small hz))) (hb4.mono (by omega))
      · repeat (walk_at "u")
        refine callU [true, true] rfl rfl fun Q' X' qq xx => ⟨b2, _, _, rfl, hb2, by omega, .inl ⟨_, .inl rfl, cln.1, by omega, fun v b4 hv hb4 => qq _ _ ?_⟩⟩
        obtain ⟨y, rfl, hy⟩ := cl v hv
        walk_at "ucl"
        repeat (walk_at "u")
        exact q _ _ _ (.inl rfl) (raised_ans hy (.inl rfl)) (any_raised (cls_small hy) any_non) (hb4.mono (by omega))
    · repeat (walk_at "u")
      refine ite2 (fun e => ?_) (fun e => ?_)
      · repeat (walk_at "u")
        exact q _ _ _ (.inl rfl) (item_ans (.inl rfl)).1 (item_rep (.inl rfl)) (hb1.mono (by omega))
      · repeat (walk_at "u")
        refine callU [true, true] rfl rfl fun Q' X' qq xx => ⟨b1, _, _, rfl, hb1, by omega, by omega, by omega, fun d b2 d0 d1 hb2 => qq _ _ ?_⟩
        walk_at "ucl"
        repeat (walk_at "u")
        refine ⟨by omega, rfl, fun k acc ρ => ∃ bi : U, ρ = [.bor bi, .val (.dic ks xs), .val (.int way), .val (.lst cls), .un, .un] ∧ acc.length = k ∧ (∀ d ∈ acc, ItemU d) ∧ BagU bi (n + 2 + 4 * k), ?_, ?_, ?_⟩
        · exact ⟨b2, rfl, rfl, nofun, hb2.mono (by omega)⟩
        · rintro k x acc ρ hx hl2 ⟨bi, rfl, el, hi, hB⟩
          obtain ⟨hk2, hxe⟩ := rgU_get hx
          have hk2 : k < d.toNat := hk2
          repeat (walk_at "u")
          refine callU [true, true] rfl rfl fun Q' X' qq xx => ⟨bi, _, _, rfl, hk, hB, by omega, fun v b3 hv hb3 => qq _ _ ?_⟩
          walk_at "ucl"
          repeat (walk_at "u")
          refine ⟨_, _, frzC_ok rfl, by omega, rfl, b3, rfl, ?_, ?_, hb3.mono (by omega)⟩
          · rw [List.length_append, el]
            rfl
          · intro y hy
            rcases List.mem_append.mp hy with h | h
            · exact hi y h
            · rw [List.mem_singleton.mp h]
              exact hv
        · rintro acc ρ hl2 ⟨bi, rfl, el, hi, hB⟩
          rw [rgU_length] at el hB
          repeat (walk_at "u")
          exact q _ _ _ (.inr rfl) (items_ans (by omega) hi) (fun x m => item_any (hi x m)) (hB.mono (by omega))
end

/-! ### a list comprehension over a list of one's own: it may be grown later -/
section
variable {K : PySem.W.Frag} {W : Wx} {X : Er → Sls → Prop} {ρ : Sls}
theorem walk_own {a : Addr} {n : Nat} : Walk (Itl K a) n (fun H => ∃ xs : List V, SqL K H a xs ∧ xs.length = n) (fun i H x H' => H' = H ∧ ∀ xs : List V, SqL K H a xs → xs[i]? = some x) :=
  ⟨fun i H hi ⟨xs, q, e⟩ => ⟨xs, xs[i]'(by omega), q, by simp⟩, fun H ⟨xs, q, e⟩ => ⟨xs, q, Nat.le_of_eq e⟩, fun _ _ _ _ _ _ y => y⟩
theorem we_lcO {j : Nat} {g : TG} {tt : TT} {te : TE} {vs : List Nat} {ds : List U} {sl : Sl} {Q : Av → Sls → Prop} (hj : j ∉ vs) (e0 : ρ[j]? = some sl) (c0 : sl.cell = some (.lst ds)) (hnb : nbs ρ vs = true)
    (h : ∃ Iv : Nat → List U → Sls → Prop, Iv 0 [] (wipeE ρ vs) ∧ (∀ k acc ρ2, Iv k acc ρ2 → ∃ sl : Sl, ρ2[j]? = some sl ∧ sl.cell = some (.lst ds)) ∧
    (∀ (k : Nat) (d : U) (acc : List U) (ρ2 : Sls), ds[k]? = some d → acc.length ≤ k → Iv k acc ρ2 → WG K g vs d ρ2 (fun ρ3 => WT K W tt ρ3 (fun b ρ4 => if b = true then
        WE K W te ρ4 (fun a ρ5 => ∃ d' ρ6, Frz ρ5 [a.fl] [d'] ρ6 ∧ acc.length < 1000 ∧ nbs ρ6 vs = true ∧ Iv (k + 1) (acc ++ [d']) (wipeE ρ6 vs)) X
      else nbs ρ4 vs = true ∧ Iv (k + 1) acc (wipeE ρ4 vs)) X)) ∧
    ∀ acc ρ2, acc.length ≤ ds.length → Iv ds.length acc ρ2 → Q (.own (.lst acc)) (mixE ρ ρ2 vs)) : WE K W (tLc (iList K (tVar j)) g tt te vs) ρ Q X := by
  rintro s Q0 rfl D x k
  obtain ⟨Iv, i0, own, step, fin⟩ := h
  obtain ⟨a, o, ea, ga, ha, ca⟩ := D.own j sl _ e0 c0
  cases ca
  rename_i xs0 ax0
  have n1 : Nxt K s s := Nxt.refl D
  refine ⟨.ref a, ea, a, rfl, ⟨xs0, SqL.of ha⟩, ?_⟩
  have cellAt : ∀ {s' : Sta} {i : Nat} {acc : List U}, Den K s' → s'.σ = wipe s.σ vs → Iv i acc s'.ρ → ∃ xs' : List V, s'.H a = some (.lst xs') ∧ AtAll K s'.G xs' ds := fun {s' i acc} d' eσ inv => by
    obtain ⟨sl', e', c'⟩ := own i acc s'.ρ inv
    obtain ⟨a', o', ea', _, ha', ca'⟩ := d'.own j sl' _ e' c'
    rw [eσ, wipe_out hj, ea] at ea'
    cases ea'
    cases ca'
    rename_i xs' ax'
    exact ⟨xs', ha', ax'⟩
  have w := walk_own (K := K) (a := a) (n := ds.length)
  intro p hp
  have nL := lay (o := .lst []) n1.den hp
  obtain ⟨sw, dw⟩ := wipe_all (s := { s with H := upd s.H p (.lst []) }) nL.den hnb
  have stw := nL.stp.trans sw
  obtain ⟨g0, o0⟩ := n1.den.free hp
  have ow : ¬ Owns { s with H := upd s.H p (.lst []), ρ := wipeE s.ρ vs, σ := wipe s.σ vs } p := fun h => by
    rcases sw.own p h with h | h
    · exact o0 h
    · have h : upd s.H p (.lst []) p = none := h
      rw [upd_same] at h
      cases h
  refine lc_it w (fun k H => ∃ s' xs acc, s'.H = H ∧ s'.σ = wipe s.σ vs ∧ Stp s s' ∧ Den K s' ∧ s'.H p = some (.lst xs) ∧ AtAll K s'.G xs acc ∧ s'.G p = none ∧ ¬ Owns s' p ∧ acc.length ≤ k ∧ Iv k acc s'.ρ)
    ⟨{ s with H := upd s.H p (.lst []), ρ := wipeE s.ρ vs, σ := wipe s.σ vs }, [], [], rfl, rfl, stw, dw, upd_same, .nil, g0, ow, Nat.le_refl _, i0⟩ ?_ ?_ ?_
  · rintro i H _ ⟨s', xs, acc, rfl, eσ0, st, d', _, _, _, _, _, inv0⟩
    obtain ⟨xs', hx', ax⟩ := cellAt d' eσ0 inv0
    exact ⟨xs', SqL.of hx', ax.length⟩
  · rintro i x' H H' hi ⟨s', xs, acc, rfl, eσ, st, d', hD, hx, hg, ho, hl, inv⟩ y
    obtain ⟨s2, dd, e1, e2, n2, e3, e4⟩ : ∃ s2 dd, s2.ρ = s'.ρ ∧ s2.H = H' ∧ Nxt K s' s2 ∧ ds[i]? = some dd ∧ At K s2.G x' dd := by
      obtain ⟨rfl, y⟩ := y
      obtain ⟨xs', hx', ax⟩ := cellAt d' eσ inv
      obtain ⟨dd, e3, e4⟩ := ax.get (y xs' (SqL.of hx'))
      exact ⟨s', dd, rfl, rfl, Nxt.refl d', e3, e4⟩
    have eσ2 : s2.σ = wipe s.σ vs := n2.slots.trans eσ
    rw [← e2, ← eσ2]
    have st2 := st.trans n2.stp
    obtain ⟨hD2, hg2, ho2⟩ := n2.stp.temp hD hg ho
    refine step i dd acc s'.ρ e3 hl inv s2 x' _ e1 n2.den e4 fun s3 n3 D3 k3 l3 q3 => ?_
    have ew : wipe s3.σ vs = wipe s.σ vs := (wipe_ext k3 l3).trans (by rw [eσ2]; exact wipe_idem)
    have st3 := st2.trans n3
    obtain ⟨hD3, hg3, ho3⟩ := n3.temp hD2 hg2 ho2
    have hx3 := AtAll.mono (n2.stp.sub.trans n3.sub) _ _ hx
    refine ⟨ew.trans eσ2.symm, q3 s3 _ rfl D3 ((x.next n1.stp).next st3) fun b s4 n4 q4 => ?_⟩
    obtain ⟨hD4, hg4, ho4⟩ := n4.stp.temp hD3 hg3 ho3
    have st4 := st3.trans n4.stp
    have hx4 := AtAll.mono n4.stp.sub _ _ hx3
    cases b with
    | true =>
      refine iteT ?_
      rw [← n4.slots]
      have q4 : WE K W te s4.ρ (fun a ρ5 => ∃ d' ρ6, Frz ρ5 [a.fl] [d'] ρ6 ∧ acc.length < 1000 ∧ nbs ρ6 vs = true ∧ Iv (i + 1) (acc ++ [d']) (wipeE ρ6 vs)) X := by simpa using q4
      refine WE.flat (Q := fun a ρ5 => ∃ d' ρ6, Frz ρ5 [a] [d'] ρ6 ∧ acc.length < 1000 ∧ nbs ρ6 vs = true ∧ Iv (i + 1) (acc ++ [d']) (wipeE ρ6 vs)) q4 rfl n4.den ((x.next n1.stp).next st4) fun u a s5 n5 fa ok5 ⟨d1, ρ6, hf, hlen, hn6, inv6⟩ => ?_
      obtain ⟨s6, e5, e6, n6, hu⟩ := frz1 hf fa n5.den ok5
      have n56 := n5.trans n6
      obtain ⟨hD6, hg6, ho6⟩ := n56.stp.temp hD4 hg4 ho4
      have hx6 := AtAll.mono n56.stp.sub _ _ hx4
      rw [← e6]
      refine ⟨xs, hD6, small1000 (by rw [hx6.length]; omega), ?_⟩
      obtain ⟨st7, d7⟩ := poke (o := .lst (xs ++ [u])) (st4.trans n56.stp) n56.den hp hD6 hg6 ho6
      obtain ⟨sw7, dw7⟩ := wipe_all (s := { s6 with H := upd s6.H p (.lst (xs ++ [u])) }) (vs := vs) d7 (by show nbs s6.ρ vs = true; rw [e5]; exact hn6)
      refine ⟨{ s6 with H := upd s6.H p (.lst (xs ++ [u])), ρ := wipeE s6.ρ vs, σ := wipe s6.σ vs }, _, acc ++ [d1], rfl, ?_, st7.trans sw7, dw7, upd_same, hx6.snoc hu, hg6, fun h => ?_, by rw [List.length_append, List.length_singleton]; omega, by show Iv _ _ (wipeE s6.ρ vs); rw [e5]; exact inv6⟩
      · show wipe s6.σ vs = _
        rw [n56.slots, n4.slots]
        exact ew.trans eσ2.symm
      · rcases sw7.own p h with h | h
        · exact ho6 h
        · have h : upd s6.H p (.lst (xs ++ [u])) p = none := h
          rw [upd_same] at h
          cases h
    | false =>
      refine iteF ?_
      obtain ⟨hn4, inv4⟩ : nbs s4.ρ vs = true ∧ Iv (i + 1) acc (wipeE s4.ρ vs) := by simpa using q4
      obtain ⟨sw4, dw4⟩ := wipe_all n4.den hn4
      refine ⟨{ s4 with ρ := wipeE s4.ρ vs, σ := wipe s4.σ vs }, xs, acc, rfl, ?_, st4.trans sw4, dw4, hD4, hx4, hg4, (sw4.temp hD4 hg4 ho4).2.2, by omega, inv4⟩
      show wipe s4.σ vs = _
      rw [n4.slots]
      exact ew.trans eσ2.symm
  · rintro H ⟨s', xs, acc, rfl, eσ, st, d', hD, hx, hg, ho, hl, inv⟩
    have out : ∀ {i : Nat}, i ∉ vs → s'.σ[i]? = s.σ[i]? := fun {i} hi => by rw [eσ]; exact wipe_out hi
    have f : ∀ {i a}, OwnAt ⟨s'.G, mixE s.ρ s'.ρ vs, s.σ, s'.H⟩ i a → OwnAt s' i a := fun {i a} ⟨⟨sl, z, e1, e2⟩, e3⟩ => by
      rcases mix_get e1 with ⟨m, rfl⟩ | ⟨m, e⟩
      · exfalso
        unfold keepV at e2
        split at e2 <;> cases e2
      · exact ⟨⟨sl, z, e, e2⟩, (out m).trans e3⟩
    refine k (.ref p) (.own (.lst acc)) ⟨s'.G, mixE s.ρ s'.ρ vs, s.σ, s'.H⟩ (n1.trans ⟨⟨st.sub, st.fr, st.dom, fun a ⟨i, h⟩ => st.own a ⟨i, f h⟩, st.gfr, fun i z e => ?_⟩, ⟨d'.sub, ?_, fun i z e => ?_, fun i sl z e1 e2 => ?_, fun i j a h1 h2 => d'.dis i j a (f h1) (f h2)⟩, rfl⟩) ⟨p, .lst xs, rfl, hD, hg, .lst hx, fun ⟨i, h⟩ => ho ⟨i, f h⟩, .inl (n1.stp.dom p hp)⟩ (fin acc _ hl inv)
    · obtain ⟨y, h1, h2⟩ := st.bor i z e
      refine ⟨y, ?_, rfl⟩
      cases q : (mixE s.ρ s'.ρ vs)[i]? with
      | none =>
        rw [List.getElem?_eq_none_iff, mix_length] at q
        have := lt_of_get h1
        omega
      | some w =>
        rcases mix_get q with ⟨m, _⟩ | ⟨m, e'⟩
        · exfalso
          have hw : ∀ vs : List Nat, i ∈ vs → ∀ (ρ : Sls) (w : U), (wipeE ρ vs)[i]? ≠ some (.bor w) := by
            intro vs
            induction vs with
            | nil => intro h; cases h
            | cons v vs ih =>
              intro h ρ w e
              rcases get_set (show ((wipeE ρ vs).set v .un)[i]? = some (.bor w) from e) with ⟨_, e, _⟩ | ⟨n, e⟩
              · cases e
              · rcases List.mem_cons.mp h with h | h
                · exact n h
                · exact ih h ρ w e
          obtain ⟨y2, h3, _⟩ := stw.bor i z e
          exact hw vs m s.ρ y2 h3
        · rw [h1] at e'
          exact congrArg some (Option.some.inj e').symm
    · show s.σ.length = (mixE s.ρ s'.ρ vs).length
      rw [mix_length, ← d'.len, eσ, wipe_length]
    · rcases mix_get e with ⟨m, h⟩ | ⟨m, h⟩
      · have h : keepV s.ρ[i]? = .val z := h.symm
        cases q : s.ρ[i]? with
        | none => rw [q] at h; cases h
        | some w =>
          rw [q] at h
          cases w with
          | val y =>
            cases h
            obtain ⟨v, h1, h2⟩ := n1.den.val i _ q
            exact ⟨v, h1, At.mono st.sub _ _ h2⟩
          | _ => cases h
      · obtain ⟨v, h1, h2⟩ := d'.val i z h
        exact ⟨v, (out m).symm.trans h1, h2⟩
    · rcases mix_get e1 with ⟨m, rfl⟩ | ⟨m, h⟩
      · exfalso
        unfold keepV at e2
        split at e2 <;> cases e2
      · obtain ⟨a, o, h1, h2⟩ := d'.own i sl z h e2
        exact ⟨a, o, (out m).symm.trans h1, h2⟩
end

section
variable {K : PySem.W.Frag} {W : Wx} {X : Er → Sls → Prop} {ρ : Sls}
/-- deep == of plain data -/
theorem wr_eqD {a b : Av} {d e : U} {Q : Av → Sls → Prop} (ha : View ρ a d) (hb : View ρ b e) (od : okU d = true) (oe : okU e = true) (sd : SeqAt.shaped (dU d) = true) (se : SeqAt.shaped (dU e) = true) (q : Q (.dt (.bl (PyData.eqv (dU d) (dU e)))) ρ) : WR K W (rEqD K) a b ρ Q X := by
  rintro s v w Q0 rfl D _ h1 h2 k
  exact ⟨dU d, dU e, at_dp d v (view_at D h1 ha) od, at_dp e w (view_at D h2 hb) oe, sd, se, k.dt D (.bl _) q⟩
theorem wr_neD {a b : Av} {d e : U} {Q : Av → Sls → Prop} (ha : View ρ a d) (hb : View ρ b e) (od : okU d = true) (oe : okU e = true) (sd : SeqAt.shaped (dU d) = true) (se : SeqAt.shaped (dU e) = true) (q : Q (.dt (.bl (!PyData.eqv (dU d) (dU e)))) ρ) : WR K W (rNeD K) a b ρ Q X := by
  rintro s v w Q0 rfl D _ h1 h2 k
  exact ⟨dU d, dU e, at_dp d v (view_at D h1 ha) od, at_dp e w (view_at D h2 hb) oe, sd, se, k.dt D (.bl _) q⟩
end

/-! ### drawn pairs -/
theorem ix_tupK {X : Cx} {K : PySem.W.Frag} (hK : X.K = K) : IxR X (rIxT K) := hK ▸ ix_tup
theorem op_neDK {X : Cx} {K : PySem.W.Frag} (hK : X.K = K) (hu : X.A.units + 64 < cLine) : OpR X (compareOp .NotEq) (rNeD K) := hK ▸ op_neD hu
theorem op_eqDK {X : Cx} {K : PySem.W.Frag} (hK : X.K = K) (hu : X.A.units + 64 < cLine) : OpR X (compareOp .Eq) (rEqD K) := hK ▸ op_eqD hu
theorem eqv_strs : ∀ ps qs : List Str, PyData.eqvAll (dUs (ps.map U.str)) (dUs (qs.map U.str)) = decide (ps = qs)
  | [], [] => rfl
  | [], _ :: _ => rfl
  | _ :: _, [] => rfl
  | p :: ps, q :: qs => by
    show (PyData.eqv (.str p) (.str q) && PyData.eqvAll (dUs (ps.map U.str)) (dUs (qs.map U.str))) = _
    rw [eqv_strs ps qs]
    show ((p == q) && _) = _
    rw [Bool.eq_iff_iff]
    simp
/-- a pair as drawn -/
def PairE (ag : Bool) (zs : List Str) (e : U) : Prop := ∃ (ps : List Str) (a : U), e = .tup [.tup (ps.map .str), a] ∧ ps ≠ [] ∧ ps.length ≤ 4 ∧ (ag = false → ps.length = 1) ∧ (∀ p ∈ ps, p ∈ zs) ∧ AnsU a ∧ RepA a
def r_pairs : RU := fun ρ Q _ => ∃ (b kit : U) (zs : List Str) (ag : Bool) (m : Nat) (n : Int), ρ = [.bor b, .val kit, .val (.lst (zs.map .str)), .val (.bl ag), .val (.int (m : Nat))] ∧ KitU kit ∧ zs ≠ [] ∧ zs.length ≤ 900 ∧ (∀ z ∈ zs, CallS z) ∧ m ≤ 12 ∧ BagU b n ∧ n ≤ 400000000 ∧
  ∀ (es : List U) (b' : U), RightP ag es es.length → es.length ≤ m → (∀ e ∈ es, PairE ag zs e) → BagU b' (n + 600) → Q (.own (.lst es)) [.bor b', .val kit, .val (.lst (zs.map .str)), .val (.bl ag), .val (.int (m : Nat))]
section
variable {P : Program} {w : World} {K : PySem.W.Frag} {mg : Str → Option Value} {base : Heap}
theorem strs_ok : ∀ ps : List Str, okUs (ps.map U.str) = true
  | [] => rfl
  | p :: ps => strs_ok ps
theorem strs_depth : ∀ ps : List Str, PyData.depthAll (dUs (ps.map U.str)) = 0
  | [] => rfl
  | p :: ps => by
    show max 0 (PyData.depthAll (dUs (ps.map U.str))) = 0
    rw [strs_depth ps]
    rfl
theorem strs_fine : ∀ {ps : List Str}, (∀ p ∈ ps, CallS p) → fineAll (dUs (ps.map U.str)) = true
  | [], _ => rfl
  | p :: ps, h => by
    show (fine (.str p) && fineAll (dUs (ps.map U.str))) = true
    rw [strs_fine fun q hq => h q (List.mem_cons_of_mem _ hq), fine_str (h p List.mem_cons_self).2.2 (h p List.mem_cons_self).2.1]
    rfl
theorem path_fine {ps : List Str} (hl : ps.length ≤ 4) (h : ∀ p ∈ ps, CallS p) : okU (.tup (ps.map .str)) = true ∧ fine (dU (.tup (ps.map .str))) = true ∧ PyData.depth (dU (.tup (ps.map .str))) = 1 := by
  refine ⟨strs_ok ps, ?_, ?_⟩
  · show (decide ((dUs (ps.map U.str)).length ≤ 1000) && fineAll (dUs (ps.map U.str))) = true
    rw [strs_fine h, decide_eq_true (show (dUs (ps.map U.str)).length ≤ 1000 by rw [dUs_map, List.length_map, List.length_map]; omega)]
    rfl
  · show PyData.depthAll (dUs (ps.map U.str)) + 1 = 1
    rw [strs_depth]
theorem path_shaped {ps : List Str} (hl : ps.length ≤ 4) (h : ∀ p ∈ ps, CallS p) : SeqAt.shaped (dU (.tup (ps.map .str))) = true := by
  obtain ⟨_, h2, h3⟩ := path_fine hl h
  exact shaped_fine h2 (by omega)
theorem entP_pair (qs : List Str) (a : U) : entP (.tup [.tup (qs.map .str), a]) = (qs.map Sum.inr, a) := by
  show ((keysU (qs.map U.str)).getD [], a) = _
  rw [keys_strs]
  rfl
theorem inr_inj : ∀ {qs ps : List Str}, (qs.map (Sum.inr : Str → Key)) = ps.map Sum.inr → qs = ps
  | [], [], _ => rfl
  | [], _ :: _, h => nomatch h
  | _ :: _, [], h => nomatch h
  | q :: qs, p :: ps, h => by
    injection h with h1 h2
    injection h1 with h1
    rw [h1, inr_inj h2]
theorem calls_all : ∀ {ps : List Str}, (∀ p ∈ ps, CallS p) → (dUs (ps.map U.str)).all isCallD = true
  | [], _ => rfl
  | p :: ps, h => by
    show (isCallZ p && (dUs (ps.map U.str)).all isCallD) = true
    rw [(h p List.mem_cons_self).1, calls_all fun q hq => h q (List.mem_cons_of_mem _ hq)]
    rfl
theorem entry_pair {ag : Bool} {zs : List Str} {e : U} (hc : ∀ z ∈ zs, CallS z) (h : PairE ag zs e) : isEntryU ag e = true := by
  obtain ⟨ps, a, rfl, h1, _, h3, h4, ⟨a1, _⟩, _⟩ := h
  show (isPathD ag (.tuple (dUs (ps.map U.str))) && isAnswerU a) = true
  rw [a1, Bool.and_true]
  have hl : (dUs (ps.map U.str)).length = ps.length := by rw [dUs_map, List.length_map, List.length_map]
  show (!decide ((dUs (ps.map U.str)).length = 0) && ((ag || decide ((dUs (ps.map U.str)).length = 1)) && (dUs (ps.map U.str)).all isCallD)) = true
  rw [calls_all fun p hp => hc p (h4 p hp), hl, decide_eq_false (fun e => h1 (List.length_eq_zero_iff.mp e))]
  cases ag with
  | true => rfl
  | false =>
    rw [decide_eq_true (h3 rfl)]
    rfl
theorem rightP_snoc {ag : Bool} {es : List U} {e : U} (h : RightP ag es es.length) (g : isEntryU ag e = true) (f : (entP e).1 ∉ pathsU es) : RightP ag (es ++ [e]) (es ++ [e]).length := by
  intro j hj
  rw [List.length_append] at hj
  rcases Nat.lt_or_ge j es.length with lt | ge
  · obtain ⟨d, h1, h2, h3⟩ := h j lt
    refine ⟨d, by rw [List.getElem?_append_left lt]; exact h1, h2, ?_⟩
    rw [List.take_append_of_le_length (Nat.le_of_lt lt)]
    exact h3
  · have hj : j < es.length + 1 := hj
    obtain rfl : j = es.length := by omega
    refine ⟨e, by rw [List.getElem?_append_right (Nat.le_refl _), Nat.sub_self]; rfl, g, ?_⟩
    rw [List.take_append_of_le_length (Nat.le_refl _), List.take_length]
    exact f
theorem pair_fine {ag : Bool} {zs : List Str} {e : U} (hc : ∀ z ∈ zs, CallS z) (h : PairE ag zs e) : okU e = true ∧ fine (dU e) = true ∧ PyData.depth (dU e) ≤ 3 := by
  obtain ⟨ps, a, rfl, _, h2, _, h4, ⟨_, a2, a3, a4⟩, _⟩ := h
  obtain ⟨f1, f2, f3⟩ := path_fine h2 fun p hp => hc p (h4 p hp)
  refine ⟨?_, ?_, ?_⟩
  · show (okU (.tup (ps.map .str)) && (okU a && true)) = true
    rw [f1, a2]
    rfl
  · show (decide (2 ≤ 1000) && (fine (dU (.tup (ps.map .str))) && (fine (dU a) && true))) = true
    rw [f2, a3]
    rfl
  · show max (PyData.depth (dU (.tup (ps.map .str)))) (max (PyData.depth (dU a)) 0) + 1 ≤ 3
    rw [f3]
    omega
theorem pairs_shaped {es : List U} (hl : es.length ≤ 900) (h : ∀ e ∈ es, okU e = true ∧ fine (dU e) = true ∧ PyData.depth (dU e) ≤ 3) : okU (.lst es) = true ∧ SeqAt.shaped (dU (.lst es)) = true := by
  have key : okUs es = true ∧ fineAll (dUs es) = true ∧ PyData.depthAll (dUs es) ≤ 3 := by
    clear hl
    induction es with
    | nil => exact ⟨rfl, rfl, Nat.zero_le _⟩
    | cons e r ih =>
      obtain ⟨i1, i2, i3⟩ := ih fun x hx => h x (List.mem_cons_of_mem _ hx)
      obtain ⟨a1, a2, a3⟩ := h e List.mem_cons_self
      refine ⟨?_, ?_, ?_⟩
      · show (okU e && okUs r) = true
        rw [a1, i1]
        rfl
      · show (fine (dU e) && fineAll (dUs r)) = true
        rw [a2, i2]
        rfl
      · show max (PyData.depth (dU e)) (PyData.depthAll (dUs r)) ≤ 3
        omega
  refine ⟨key.1, shaped_fine ?_ ?_⟩
  · show (decide ((dUs es).length ≤ 1000) && fineAll (dUs es)) = true
    rw [key.2.1, decide_eq_true (show (dUs es).length ≤ 1000 by rw [dUs_map, List.length_map]; omega)]
    rfl
  · show PyData.depthAll (dUs es) + 1 ≤ 64
    omega
set_option hygiene false in
local macro_rules | `(tactic| walk_at "uo") => `(tactic| first
  | refine we_lcO (j := 5) (by decide) rfl rfl (by show (nb [t3] 0 && true) = true; rw [h3]; rfl) ?_
  | walk_at "u")
theorem uk_drawn_pairs (T : Txt K mg) : FnOk P w K mg base CX0 5 T.f_law_drawn_pairs T.fd_law_drawn_pairs ["bag", "kit", "texts", "aged", "many"] (spU K r_pairs) := by
  have G_law_take := ok_law_take (P := P) (w := w) (base := base) T
  have G_law_path := uk_lpath (P := P) (w := w) (base := base) T
  have G_law_any_answer := uk_any_answer (P := P) (w := w) (base := base) T
  refine Fun_okU T.F_law_drawn_pairs sc_law_drawn_pairs (fun ρ Q X h => ?_) (fun cdv A outer s H E hr => ⟨_, (pss_cons (ps_set (i := 5) sc_law_drawn_pairs.nd rfl (.inl rfl) (pe_lst pa_nil))
        (pss_cons (ps_for PassesOwn.never rfl (pi_range1 (by rfl) T.m_range (pa_cons (pe_call G_law_take (hr.mono (by omega)) (by rfl) T.g_law_take T.F_law_take.kp T.b_law_take .nil pass0 (pa_cons (pv 0) (pa_cons (pe_op op_add (pv 4) pe_int) pa_nil))) pa_nil)) (pg_name (i := 6) sc_law_drawn_pairs.nd rfl (.inl rfl)) (pss_cons (ps_set (i := 7) sc_law_drawn_pairs.nd rfl (.inr rfl) (pe_call G_law_path (hr.mono (by omega)) (by rfl) T.g_law_path T.F_law_path.kp T.b_law_path .nil pass0 (pa_cons (pv 0) (pa_cons (pv 2) (pa_cons (pv 3) pa_nil)))))
        (pss_one (ps_if (pt_cmpR (op_eqD hr.units) (pe_lc (own := [("old", 8)]) (g := gName 8) rfl sc_law_drawn_pairs.nd (pi_list (pv 5)) (blkOk_by (own := [("old", 8)]) (N := ["bag", "kit", "texts", "aged", "many", "found", "turn", "path", "old"]) (sc := defScope s_law_drawn_pairs) (by decide +kernel)) (fun _ _ _ _ _ => pg_name (i := 8) sc_law_drawn_pairs.nd rfl (.inl rfl)) (fun _ _ _ _ _ => pts_one ((pt_cmpR (op_eqDK (K := K) rfl hr.units) (pe_ix (ix_tupK (K := K) rfl) (pv 8) pe_int (fun _ _ => rfl)) (pv 7) (nomark _)))) (fun _ _ _ _ _ => (pv 8))) (pe_lst pa_nil) (nomark _)) (pss_one (ps_expr (pe_bm PySem.F.plainAttrs_list PySem.F.slot_list_append PySem.F.type_list_append mt_append (pv 5) (pa_cons (pe_tup (pa_cons (pv 7) (pa_cons (pe_call G_law_any_answer hr (by rfl) T.g_law_any_answer T.F_law_any_answer.kp T.b_law_any_answer .nil pass0 (pa_cons (pv 0) (pa_cons (pv 1) pa_nil))) pa_nil))) pa_nil)))) pss_nil))))
        (pss_one (ps_ret (pv 5))))), ?_⟩)
  · obtain ⟨b, kit, zs, ag, m, n, rfl, _⟩ := h
    rfl
  rintro W ρ Qd Xd ⟨b, kit, zs, ag, m, n, rfl, hk, hz, hl, hc, hm, hb, hn, q⟩
  show WS K _ _ [.bor _, .val _, .val _, .val _, .val _, .un, .un, .un, .un] _
  repeat (walk_at "u")
  refine callU [true, true] rfl rfl fun Q' X' qq xx => ⟨b, _, _, rfl, hb, by omega, by omega, Int.lt_of_le_of_lt (show _ ≤ (13 : Int) by omega) (by decide), fun d b1 d0 d1 hb1 => qq _ _ ?_⟩
  walk_at "ucl"
  repeat (walk_at "u")
  refine ⟨by omega, fun i ρ => ∃ (es : List U) (t1 t2 t3 : Sl) (bi : U), ρ = [.bor bi, .val kit, .val (.lst (zs.map .str)), .val (.bl ag), .val (.int (m : Nat)), .own (.lst es), t1, t2, t3] ∧ nb [t1] 0 = true ∧ nb [t2] 0 = true ∧ nb [t3] 0 = true ∧ RightP ag es es.length ∧ es.length ≤ i ∧ (∀ e ∈ es, PairE ag zs e) ∧ BagU bi (n + 1 + 40 * i), ?_, ?_, ?_⟩
  · exact ⟨[], .un, .un, .un, b1, rfl, rfl, rfl, rfl, fun j hj => absurd hj (Nat.not_lt_zero j), Nat.le_refl _, nofun, hb1.mono (by omega)⟩
  · rintro i x ρ hx ⟨es, t1, t2, t3, bi, rfl, h1, h2, h3, hr, hle, hp, hB⟩
    obtain ⟨hi, hxe⟩ := rgU_get hx
    have hi : i < d.toNat := hi
    repeat (walk_at "u")
    refine callU [true, true, true] rfl rfl fun Q' X' qq xx => ⟨bi, zs, ag, _, rfl, hz, hl, hB, by omega, fun ps b2 p1 p2 p3 p4 hb2 => qq _ _ ?_⟩
    walk_at "ucl"
    repeat (walk_at "uo")
    refine ⟨fun k acc ρ => ρ = [.bor b2, .val kit, .val (.lst (zs.map .str)), .val (.bl ag), .val (.int (m : Nat)), .own (.lst es), .val x, .val (.tup (ps.map .str)), .un] ∧ (acc = [] ↔ ∀ e ∈ es.take k, (entP e).1 ≠ ps.map Sum.inr) ∧ ∀ e ∈ acc, e ∈ es, ?_, ?_, ?_, ?_⟩
    · exact ⟨rfl, ⟨fun _ => nofun, fun _ => rfl⟩, nofun⟩
    · rintro k acc ρ ⟨rfl, _⟩
      exact ⟨_, rfl, rfl⟩
    · rintro k e acc ρ he hl2 ⟨rfl, ha, hm⟩
      obtain ⟨qs, a, rfl, g1, g2, g3, g4, g5⟩ := hp e (List.mem_of_getElem? he)
      have cp : ∀ p ∈ ps, CallS p := fun p h => hc p (p4 p h)
      have cq : ∀ p ∈ qs, CallS p := fun p h => hc p (g4 p h)
      repeat (walk_at "u")
      refine wr_eqD rfl rfl (path_fine g2 cq).1 (path_fine p2 cp).1 (path_shaped g2 cq) (path_shaped p2 cp) ?_
      rw [show PyData.eqv (dU (.tup (qs.map .str))) (dU (.tup (ps.map .str))) = decide (qs = ps) from eqv_strs qs ps]
      repeat (walk_at "u")
      have hks : (entP (.tup [.tup (qs.map .str), a])).1 = qs.map Sum.inr := congrArg Prod.fst (entP_pair qs a)
      have tk := take_one he
      refine ite2 (fun z => ?_) (fun z => ?_)
      · have z := of_decide_eq_true z
        subst z
        repeat (walk_at "u")
        have kl : k < es.length := (List.getElem?_eq_some_iff.mp he).1
        have el : es.length ≤ 12 := by omega
        refine ⟨_, _, frzC_ok rfl, by omega, rfl, rfl, ⟨fun h => absurd h (by simp), fun h => absurd hks (h _ (by rw [tk]; simp))⟩, fun y hy => ?_⟩
        rcases List.mem_append.mp hy with h | h
        · exact hm y h
        · rw [List.mem_singleton.mp h]
          exact List.mem_of_getElem? he
      · have z : ¬ qs = ps := fun e => z (decide_eq_true e)
        refine ⟨rfl, rfl, ?_, hm⟩
        rw [ha, tk]
        constructor
        · intro h y hy
          rcases List.mem_append.mp hy with hy | hy
          · exact h y hy
          · rw [List.mem_singleton.mp hy, hks]
            exact fun e => z (inr_inj e)
        · exact fun h y hy => h y (List.mem_append_left _ hy)
    · rintro acc ρ hl2 ⟨rfl, ha, hm⟩
      have hz3 : nb [keepV (some t3)] 0 = true := by cases t3 <;> rfl
      show WE K W (tLst tNil) [.bor b2, .val kit, .val (.lst (zs.map .str)), .val (.bl ag), .val (.int (m : Nat)), .own (.lst es), .val x, .val (.tup (ps.map .str)), keepV (some t3)] _ _
      generalize keepV (some t3) = z3 at hz3 ⊢
      rw [List.take_length] at ha
      have pa : okU (.lst acc) = true ∧ SeqAt.shaped (dU (.lst acc)) = true := pairs_shaped (by omega) fun e he => pair_fine hc (hp e (hm e he))
      repeat (walk_at "u")
      refine wr_eqD (d := .lst acc) (e := .lst []) rfl rfl pa.1 rfl pa.2 (by decide) ?_
      cases acc with
      | nil =>
        have fresh := ha.mp rfl
        refine ⟨_, rfl, ?_⟩
        refine uT rfl ?_
        repeat (walk_at "u")
        refine callU [true, true] rfl rfl fun Q' X' qq xx => ⟨b2, _, _, rfl, hk, hb2, by omega, fun r a b3 hra hans hrep hb3 => qq _ _ ?_⟩
        have er : r.fl = .dt a := by rcases hra with rfl | rfl <;> rfl
        clear qq xx Q' X'
        rw [er]
        walk_at "unorm"
        repeat (walk_at "u")
        have pe : PairE ag zs (.tup [.tup (ps.map .str), a]) := ⟨ps, a, rfl, p1, p2, p3, p4, hans, hrep⟩
        have he : (entP (.tup [.tup (ps.map .str), a])).1 = ps.map Sum.inr := congrArg Prod.fst (entP_pair ps a)
        refine ⟨_, _, _, _, frzC_ok rfl, rfl, rfl, by omega, es ++ [.tup [.tup (ps.map .str), a]], _, _, z3, b3, rfl, rfl, rfl, hz3, rightP_snoc hr (entry_pair hc pe) (fun m => ?_), by rw [List.length_append]; show _ + 1 ≤ _; omega, ?_, hb3.mono (by omega)⟩
        · rw [he] at m
          obtain ⟨y, hy, e⟩ := List.mem_map.mp m
          exact fresh y hy e
        · intro y hy
          rcases List.mem_append.mp hy with h | h
          · exact hp y h
          · rw [List.mem_singleton.mp h]
            exact pe
      | cons y acc =>
        refine ⟨_, rfl, ?_⟩
        refine uF rfl ?_
        repeat (walk_at "u")
        exact ⟨es, _, _, z3, b2, rfl, rfl, rfl, hz3, hr, by omega, hp, hb2.mono (by omega)⟩
  · rintro ρ ⟨es, t1, t2, t3, bi, rfl, h1, h2, h3, hr, hle, hp, hB⟩
    rw [rgU_length] at hle hB
    repeat (walk_at "u")
    exact q es bi hr (by omega) hp (hB.mono (by omega))
end

/-! ### dict displays with texts and whole numbers as keys; list(d): by data -/
section
variable {K : PySem.W.Frag} {W : Wx} {X : Er → Sls → Prop} {ρ : Sls}
def flatTA : List (TE × TE) → TA
  | [] => tNil
  | (a, b) :: r => tCons a (tCons b (flatTA r))
def pairUp : List V → List (V × V)
  | k :: v :: r => (k, v) :: pairUp r
  | _ => []
theorem pairs_flat_eq : ∀ (trs : List (TE × TE)) (σ : L2.St) (H : Hp) (Q : List (V × V) → Hp → Prop), tPairs trs σ H Q = flatTA trs σ H (fun vs H2 => Q (pairUp vs) H2)
  | [], _, _, _ => rfl
  | (a, b) :: r, σ, H, Q => by
    show a σ H (fun x H1 => b σ H1 fun y H2 => tPairs r σ H2 fun ps H3 => Q ((x, y) :: ps) H3) = a σ H (fun x H1 => b σ H1 fun y H2 => flatTA r σ H2 fun vs H3 => Q ((x, y) :: pairUp vs) H3)
    refine congrArg (a σ H) ?_
    funext x H1
    refine congrArg (b σ H1) ?_
    funext y H2
    exact pairs_flat_eq r σ H2 _
theorem pairs_flat {trs : List (TE × TE)} {σ : L2.St} {H : Hp} {Q : List (V × V) → Hp → Prop} (h : flatTA trs σ H (fun vs H2 => Q (pairUp vs) H2)) : tPairs trs σ H Q := by
  rw [pairs_flat_eq]
  exact h
def pairsU : List U → Option (List Key × List U)
  | [] => some ([], [])
  | k :: v :: r => match keyU k, pairsU r with
    | some k, some (ks, xs) => some (k :: ks, v :: xs)
    | _, _ => none
  | _ => none
theorem at_pairs {G : Hp} : ∀ {ds : List U} {vs : List V} {ks : List Key} {xs : List U}, AtAll K G vs ds → pairsU ds = some (ks, xs) → ∃ kvs : List (Key × V), pairUp vs = kvs.map (fun kv => (kV kv.1, kv.2)) ∧ kvs.map (·.1) = ks ∧ AtAll K G (kvs.map (·.2)) xs
  | [], _, _, _, .nil, e => by cases e; exact ⟨[], rfl, rfl, .nil⟩
  | [_], _, _, _, _, e => nomatch e
  | k :: v :: r, _, ks, xs, .cons h1 (.cons h2 t), e => by
    unfold pairsU at e
    cases e1 : keyU k with
    | none => rw [e1] at e; cases e
    | some k1 =>
      cases e2 : pairsU r with
      | none => rw [e1, e2] at e; cases e
      | some q =>
        obtain ⟨ks2, xs2⟩ := q
        rw [e1, e2] at e
        cases e
        obtain ⟨kvs, f1, f2, f3⟩ := at_pairs t e2
        rw [at_key h1 e1]
        exact ⟨(k1, _) :: kvs, congrArg _ f1, congrArg _ f2, .cons h2 f3⟩
theorem merge_new : ∀ {kvs acc : List (Key × V)}, ((acc ++ kvs).map (·.1)).Nodup → mergeK acc kvs = acc ++ kvs
  | [], acc, _ => (List.append_nil acc).symm
  | p :: kvs, acc, h => by
    show mergeK (putK acc p.1 p.2) kvs = _
    have n : ¬ (acc.any fun kv => decide (kv.1 = p.1)) = true := fun z => by
      obtain ⟨q, hq, e⟩ := List.any_eq_true.mp z
      rw [List.map_append] at h
      exact (List.nodup_append.mp h).2.2 q.1 (List.mem_map_of_mem hq) p.1 (by simp) (of_decide_eq_true e)
    have e : putK acc p.1 p.2 = acc ++ [p] := by
      unfold putK
      rw [if_neg n]
    rw [e, merge_new (by rw [List.append_assoc]; exact h), List.append_assoc]
    rfl
theorem we_disp {trs : List (TE × TE)} {Q : Av → Sls → Prop} (h : WA K W (flatTA trs) ρ (fun as ρ1 => ∃ ds ρ2 ks xs, Frz ρ1 as ds ρ2 ∧ pairsU ds = some (ks, xs) ∧ ks.Nodup ∧ ks.length ≤ 15 ∧ Q (.own (.dic ks xs)) ρ2) X) : WE K W (tDisp trs) ρ Q X := by
  rintro s Q0 rfl D x k
  intro p hp
  have nL := lay (o := .dK []) D hp
  obtain ⟨g0, o0⟩ := D.free hp
  refine pairs_flat ?_
  refine h { s with H := upd s.H p (.dK []) } _ rfl nL.den (x.next nL.stp) fun vs as s1 n1 ok ⟨ds, ρ2, ks, xs, fz, e1, nd, l, q⟩ => ?_
  obtain ⟨s2, f1, f2, n2, hd⟩ := fz.run rfl n1.den ok
  obtain ⟨kvs, e2, e3, e4⟩ := at_pairs hd e1
  have n12 := n1.trans n2
  obtain ⟨hD, hg, ho⟩ := n12.stp.temp (p := p) (u := .dK []) upd_same g0 o0
  rw [← f2]
  refine ⟨hD, kvs, e2, by rw [← List.length_map (f := (·.1)), e3]; exact l, ?_⟩
  rw [merge_new (acc := []) (by rw [List.nil_append, e3]; exact nd), List.nil_append]
  obtain ⟨st3, d3⟩ := poke (o := .dK kvs) (nL.stp.trans n12.stp) n12.den hp hD hg ho
  have q : Q (.own (.dic ks xs)) s2.ρ := by rw [f1]; exact q
  rw [← e3] at q
  exact k (.ref p) (.own (.dic (kvs.map (·.1)) xs)) { s2 with H := upd s2.H p (.dK kvs) } ⟨st3, d3, n12.slots⟩ ⟨p, .dK kvs, rfl, upd_same, hg, .dic e4, ho, .inl hp⟩ q
theorem wc_listD {a : Av} {ks : List Key} {xs : List U} {Q : Av → Sls → Prop} (ha : View ρ a (.dic ks xs)) (q : Q (.own (.lst (ks.map keyI))) ρ) :
    WC K W (fun xs H Q => ∃ (a : Addr) (kvs : List (Key × V)), xs = [.ref a] ∧ Rd H a (.dK kvs) ∧ ∀ p, H p = none → Q (.ref p) (upd H p (.lst (kvs.map fun kv => kV kv.1)))) [a] ρ Q X := by
  rintro s vs Q0 rfl D _ h k
  obtain ⟨v, rfl, hv⟩ := avs_one h
  obtain ⟨c, kvs, rfl, e1, rfl, e2⟩ := view_dic D hv ha
  refine ⟨c, kvs, rfl, .inl e1, fun p hp => ?_⟩
  refine k.new (d := .lst ((kvs.map (·.1)).map keyI)) D hp (.lst ?_) q
  have := keys_at (K := K) (G := s.G) (kvs.map (·.1))
  rw [List.map_map] at this
  exact this
end

/-! ### names, classes, the kit -/
def r_lname : RU := fun ρ Q _ => ∃ (b : U) (n : Int), ρ = [.bor b] ∧ BagU b n ∧ n ≤ 700000000 ∧ ∀ (z : Str) (b' : U), z.length ≤ 9 → BagU b' (n + 110) → Q (.dt (.str z)) [.bor b']
/-- a dict whose keys are names of classes -/
def ClsDic (ks : List Key) : Prop := ∀ k ∈ ks, ∃ z : Str, k = .inr z ∧ isClassL z.cps.toList = true
def r_lfam : RU := fun ρ Q _ => ∃ (b : U) (m : Nat) (n : Int), ρ = [.bor b, .val (.int (m : Nat))] ∧ m ≤ 10 ∧ BagU b n ∧ n ≤ 600000000 ∧ ∀ (ks : List Key) (xs : List U) (b' : U), ClsDic ks → ks.length ≤ 14 → BagU b' (n + 1200) → Q (.own (.dic ks xs)) [.bor b', .val (.int (m : Nat))]
section
variable {P : Program} {w : World} {K : PySem.W.Frag} {mg : Str → Option Value} {base : Heap}
theorem putKU_cls {ks : List Key} {z : Str} (h : ClsDic ks) (hz : isClassL z.cps.toList = true) : ClsDic (putKU ks (.inr z)) := by
  unfold putKU
  split
  · exact h
  · intro k hk
    rcases List.mem_append.mp hk with hk | hk
    · exact h k hk
    · exact ⟨z, List.mem_singleton.mp hk, hz⟩
theorem uk_lname (T : Txt K mg) : FnOk P w K mg base CX0 4 T.f_law_name T.fd_law_name ["bag"] (spU K r_lname) := by
  have G_law_of := ok_law_of (P := P) (w := w) (base := base) T
  have G_law_word := uk_word (P := P) (w := w) (base := base) T
  refine Fun_okU T.F_law_name sc_law_name (fun ρ Q X h => ?_) (fun cdv A outer s H E hr => ⟨_, (pss_one (ps_ret (pe_op op_add_str (pe_op op_add_str (pe_call G_law_of (hr.mono (by omega)) (by rfl) T.g_law_of T.F_law_of.kp T.b_law_of .nil pass0 (pa_cons (pv 0) (pa_cons pe_str pa_nil))) pe_str) (pe_call G_law_word hr (by rfl) T.g_law_word T.F_law_word.kp T.b_law_word .nil pass0 (pa_cons (pv 0) (pa_cons pe_int pa_nil)))))), ?_⟩)
  · obtain ⟨b, n, rfl, _⟩ := h
    rfl
  rintro W ρ Qd Xd ⟨b, n, rfl, hb, hn, q⟩
  show WS K _ _ [.bor _] _
  repeat (walk_at "u")
  refine callU [true, false] rfl rfl fun Q' X' qq xx => ⟨b, _, n, rfl, hb, by omega, .inr ⟨_, rfl, by decide +kernel, by decide +kernel, fun c b1 hc hb1 => qq _ _ ?_⟩⟩
  walk_at "ucl"
  repeat (walk_at "u")
  refine wr_cat_str (Nat.le_of_ble_eq_true rfl) ?_
  repeat (walk_at "u")
  refine callU [true, true] rfl rfl fun Q' X' qq xx => ⟨b1, 7, _, rfl, hb1, by omega, by decide, fun z b2 z1 z2 hb2 => qq _ _ ?_⟩
  walk_at "ucl"
  have l2 : ((⟨#[c]⟩ : Str) ++ Str.ofString "q").length = 2 := by rw [str_app]; rfl
  repeat (walk_at "u")
  refine wr_cat_str (by rw [l2]; omega) ?_
  repeat (walk_at "u")
  exact q _ _ (by rw [str_app, l2]; omega) (hb2.mono (by omega))
theorem uk_lfam (T : Txt K mg) : FnOk P w K mg base CX0 4 T.f_law_family T.fd_law_family ["bag", "most"] (spU K r_lfam) := by
  have G_law_take := ok_law_take (P := P) (w := w) (base := base) T
  have G_law_of := ok_law_of (P := P) (w := w) (base := base) T
  have G_law_word := uk_word (P := P) (w := w) (base := base) T
  refine Fun_okU T.F_law_family sc_law_family (fun ρ Q X h => ?_) (fun cdv A outer s H E hr => ⟨_, (pss_cons (ps_set (i := 2) sc_law_family.nd rfl (.inl rfl) (pe_disp (pps_cons pe_str pe_non (pps_cons pe_str pe_str (pps_cons pe_str pe_str (pps_cons pe_str pe_str pps_nil)))) rfl rfl (by simp) (by decide)))
        (pss_cons (ps_for PassesOwn.never rfl (pi_range1 (by rfl) T.m_range (pa_cons (pe_call G_law_take (hr.mono (by omega)) (by rfl) T.g_law_take T.F_law_take.kp T.b_law_take .nil pass0 (pa_cons (pv 0) (pa_cons (pe_op op_add (pv 1) pe_int) pa_nil))) pa_nil)) (pg_name (i := 3) sc_law_family.nd rfl (.inl rfl)) (pss_cons (ps_set (i := 4) sc_law_family.nd rfl (.inl rfl) (pe_op op_add_str (pe_op op_add_str (pe_call G_law_of (hr.mono (by omega)) (by rfl) T.g_law_of T.F_law_of.kp T.b_law_of .nil pass0 (pa_cons (pv 0) (pa_cons pe_str pa_nil))) (pe_call G_law_word hr (by rfl) T.g_law_word T.F_law_word.kp T.b_law_word .nil pass0 (pa_cons (pv 0) (pa_cons pe_int pa_nil)))) (pe_ix ix_str pe_str (pv 3) (fun _ _ => rfl))))
        (pss_one (ps_dput (hu_of hr) (pv 2) (pv 4) (pe_call G_law_of (hr.mono (by omega)) (by rfl) T.g_law_of T.F_law_of.kp T.b_law_of .nil pass0 (pa_cons (pv 0) (pa_cons (pe_callTy (call_listD rfl) (by rfl) T.m_list (by decide +kernel) (pa_cons (pv 2) pa_nil)) pa_nil))) rfl))))
        (pss_one (ps_ret (pv 2))))), ?_⟩)
  · obtain ⟨b, m, n, rfl, _⟩ := h
    rfl
  rintro W ρ Qd Xd ⟨b, m, n, rfl, hm, hb, hn, q⟩
  show WS K _ _ [.bor _, .val _, .un, .un, .un] _
  repeat (walk_at "u")
  refine we_disp ?_
  show WA K W (tCons _ (tCons _ (tCons _ (tCons _ (tCons _ (tCons _ (tCons _ (tCons _ tNil)))))))) _ _ _
  repeat (walk_at "u")
  refine ⟨_, _, _, _, frzC_ok rfl, rfl, by decide +kernel, by decide, ?_⟩
  repeat (walk_at "u")
  refine callU [true, true] rfl rfl fun Q' X' qq xx => ⟨b, _, _, rfl, hb, by omega, by omega, Int.lt_of_le_of_lt (show _ ≤ (11 : Int) by omega) (by decide), fun d b1 d0 d1 hb1 => qq _ _ ?_⟩
  walk_at "ucl"
  repeat (walk_at "u")
  refine ⟨by omega, fun i ρ => ∃ (ks : List Key) (xs : List U) (t1 t2 : Sl) (bi : U), ρ = [.bor bi, .val (.int (m : Nat)), .own (.dic ks xs), t1, t2] ∧ nb [t1] 0 = true ∧ nb [t2] 0 = true ∧ ClsDic ks ∧ ks ≠ [] ∧ ks.length ≤ 4 + i ∧ BagU bi (n + 1 + 105 * i), ?_, ?_, ?_⟩
  · refine ⟨_, _, .un, .un, b1, rfl, rfl, rfl, fun k hk => ?_, by simp, Nat.le_refl _, hb1.mono (by omega)⟩
    simp only [List.mem_cons, List.not_mem_nil, or_false] at hk
    rcases hk with rfl | rfl | rfl | rfl
    all_goals exact ⟨_, rfl, by decide +kernel⟩
  · rintro i x ρ hx ⟨ks, xs, t1, t2, bi, rfl, h1, h2, hc, hne, hl, hB⟩
    obtain ⟨hi, hxe⟩ := rgU_get hx
    have hi : i < d.toNat := hi
    rw [Int.zero_add] at hxe
    subst hxe
    repeat (walk_at "u")
    refine callU [true, false] rfl rfl fun Q' X' qq xx => ⟨bi, _, _, rfl, hB, by omega, .inr ⟨_, rfl, by decide +kernel, by decide +kernel, fun c b2 hcc hb2 => qq _ _ ?_⟩⟩
    walk_at "ucl"
    repeat (walk_at "u")
    refine callU [true, true] rfl rfl fun Q' X' qq xx => ⟨b2, 3, _, rfl, hb2, by omega, by decide, fun z b3 z1 z2 hb3 => qq _ _ ?_⟩
    walk_at "ucl"
    have l1 : ((⟨#[c]⟩ : Str) ++ z).length = 1 + z.length := by rw [str_app]; rfl
    refine wr_cat_str (by show 1 + z.length ≤ _; omega) ?_
    repeat (walk_at "u")
    obtain ⟨cc, hcc2, hat⟩ := atI_of (xs := (Str.ofString "ABCDEFGHIJKLMNOPQRSTUVWXYZ").cps.toList) (d := (i : Int)) (by omega) (Int.lt_of_lt_of_le (show (i : Int) < 26 by omega) (by decide +kernel))
    refine wr_ixS (by decide +kernel) hat ?_
    repeat (walk_at "u")
    refine wr_cat_str (by rw [l1]; show 1 + z.length + 1 ≤ _; omega) ?_
    have caps : ∀ c ∈ (Str.ofString "ABCDEFGHIJKLMNOPQRSTUVWXYZ").cps.toList, isUp c = true := by decide +kernel
    have cls : isClassL ((⟨#[c]⟩ : Str) ++ z ++ ⟨#[cc]⟩).cps.toList = true := by
      show isClassL (#[c] ++ z.cps ++ #[cc]).toList = true
      rw [Array.toList_append, Array.toList_append]
      show isClassL (c :: (z.cps.toList ++ [cc])) = true
      rw [isClassL_cons, List.length_append, caps c hcc, List.all_cons, List.all_append, caps c hcc]
      have hz : z.cps.toList.all (fun x => isUp x || isLow x) = true := List.all_eq_true.mpr fun y hy => by
        rw [List.all_eq_true.mp z2 y hy, Bool.or_true]
      rw [hz, decide_eq_true (show z.cps.toList.length + [cc].length + 1 ≤ 12 by rw [len_list]; show z.length + 1 + 1 ≤ 12; omega)]
      simp [caps cc hcc2]
    generalize ((⟨#[c]⟩ : Str) ++ z ++ ⟨#[cc]⟩) = nm at cls ⊢
    repeat (walk_at "u")
    refine wc_listD ⟨_, rfl, .inr rfl⟩ ?_
    repeat (walk_at "u")
    refine callU [true, false] rfl rfl fun Q' X' qq xx => ⟨b3, _, _, rfl, hb3, by omega, .inl ⟨_, .inl rfl, by rw [List.length_map]; exact List.length_pos_iff.mpr hne, by rw [List.length_map]; omega, fun v b4 hv hb4 => qq _ _ ?_⟩⟩
    walk_at "ucl"
    refine ⟨_, _, frzC_ok rfl, ⟨_, _, _, rfl, rfl⟩, ?_⟩
    repeat (walk_at "u")
    refine ⟨_, .inr nm, _, _, _, rfl, rfl, rfl, rfl, by omega, ?_⟩
    refine ⟨_, _, _, _, b4, rfl, rfl, rfl, ?_, ?_, ?_, hb4.mono (by omega)⟩
    · exact putKU_cls hc cls
    · unfold putKU
      split
      · exact hne
      · simp
    · have : (putKU ks (.inr nm)).length ≤ ks.length + 1 := by
        unfold putKU
        split
        · exact Nat.le_succ _
        · rw [List.length_append]
          exact Nat.le_refl _
      omega
  · rintro ρ ⟨ks, xs, t1, t2, bi, rfl, h1, h2, hc, hne, hl, hB⟩
    rw [rgU_length] at hl hB
    repeat (walk_at "u")
    exact q ks xs bi hc (by omega) (hB.mono (by omega))
end

/-! ### two new own objects at once -/
section
variable {K : PySem.W.Frag} {W : Wx} {ρ : Sls} {P : Post}
theorem nb_setO {ρ : Sls} {i j : Nat} {d : U} (h : nb ρ i = true) : nb (ρ.set j (.own d)) i = true := by
  obtain ⟨hl, hb⟩ := nb_lt h
  unfold nb
  by_cases e : j = i
  · subst e
    rw [List.getElem?_set_self hl]
  · rw [List.getElem?_set_ne e]
    exact h
theorem ws_par_new {i j : Nat} {te tu : TE} (h : WE K W te ρ (fun a ρ1 => ∃ d1, a = .own d1 ∧ WE K W tu ρ1 (fun b ρ2 => ∃ d2, b = .own d2 ∧ nb ρ2 i = true ∧ nb ρ2 j = true ∧ P.nx ((ρ2.set i (.own d1)).set j (.own d2))) P.xc) P.xc) : WS K W (tPar i j (tCons te (tCons tu tNil))) ρ P := by
  rintro s D rfl d x f
  refine h s _ rfl d x fun v a s1 n1 ok1 ⟨d1, e1, h2⟩ => ?_
  subst e1
  show tu s.σ s1.H _
  rw [← n1.slots]
  refine h2 s1 _ rfl n1.den (x.next n1.stp) fun w b s2 n2 ok2 ⟨d2, e2, b1, b2, q⟩ => ?_
  subst e2
  have n12 := n1.trans n2
  have ok2' := ok2.base n1.stp
  obtain ⟨a1, o1, rfl, p1, p2, p3, p4, p5⟩ := ok1
  obtain ⟨t1, t2, t3⟩ := n2.stp.temp p1 p2 p4 p3.notup
  have okA : AvOk K s s2 (.ref a1) (.own d1) := ⟨a1, o1, rfl, t1, t2, p3.mono n2.stp.sub, t3, p5⟩
  obtain ⟨st3, d3⟩ := put_own n12.stp n2.den b1 okA
  obtain ⟨a2, o2, rfl, r1, r2, r3, r4, r5⟩ := ok2
  have n21 : a2 ≠ a1 := by
    rintro rfl
    rcases r5 with h | h
    · rw [p1] at h
      cases h
    · exact p4 h
  have r6 : s.H a2 = none ∨ Owns s a2 := by
    obtain ⟨a3, o3, e3, _, _, _, _, h⟩ := ok2'
    cases e3
    exact h
  have okB : AvOk K s { s2 with ρ := s2.ρ.set i (.own d1), σ := s2.σ.set i (some (.ref a1)) } (.ref a2) (.own d2) := by
    refine ⟨a2, o2, rfl, r1, r2, r3, ?_, r6⟩
    rintro ⟨k, ⟨sl, x, q1, q2⟩, q3⟩
    rcases get_set q3 with ⟨rfl, h, _⟩ | ⟨n, q3⟩
    · cases h
      exact n21 rfl
    · rcases get_set q1 with ⟨h, _⟩ | ⟨_, q1⟩
      · exact n h
      · exact r4 ⟨k, ⟨sl, x, q1, q2⟩, q3⟩
  obtain ⟨st4, d4⟩ := put_own (i := j) st3 d3 (nb_setO b2) okB
  have := f.nx _ st4 d4 q
  rw [show ({ s2 with ρ := (s2.ρ.set i (.own d1)).set j (.own d2), σ := (s2.σ.set i (some (.ref a1))).set j (some (.ref a2)) } : Sta).σ = (s.σ.set i (some (.ref a1))).set j (some (.ref a2)) from by rw [← n12.slots]] at this
  refine ⟨_, _, rfl, ?_⟩
  rw [n1.slots]
  exact this
end

/-! ### the kit -/
def r_core : RU := fun ρ Q _ => ∃ (b : U) (n : Int), ρ = [.bor b, .val (.int 1), .val (.int 1), .val (.int 2)] ∧ BagU b n ∧ n ≤ 400000000 ∧ ∀ (kit b' : U), KitU kit → BagU b' (n + 5000) → Q (.own kit) [.bor b', .val (.int 1), .val (.int 1), .val (.int 2)]
section
variable {P : Program} {w : World} {K : PySem.W.Frag} {mg : Str → Option Value} {base : Heap}
theorem cls_strs : ∀ {ks : List Key}, ClsDic ks → ∃ cs : List Str, ks.map keyI = cs.map U.str ∧ ∀ c ∈ cs, isClassL c.cps.toList = true
  | [], _ => ⟨[], rfl, nofun⟩
  | k :: ks, h => by
    obtain ⟨cs, e, hc⟩ := cls_strs (ks := ks) fun x hx => h x (List.mem_cons_of_mem _ hx)
    obtain ⟨z, rfl, hz⟩ := h k List.mem_cons_self
    refine ⟨z :: cs, by rw [List.map_cons, List.map_cons, e]; rfl, fun c hc2 => ?_⟩
    rcases List.mem_cons.mp hc2 with rfl | hc2
    · exact hz
    · exact hc c hc2
theorem uk_core (T : Txt K mg) : FnOk P w K mg base CX0 5 T.f_law_core T.fd_law_core ["bag", "calls", "flags", "classes"] (spU K r_core) := by
  have G_law_take := ok_law_take (P := P) (w := w) (base := base) T
  have G_law_of := ok_law_of (P := P) (w := w) (base := base) T
  have G_law_number := uk_number (P := P) (w := w) (base := base) T
  have G_law_written := uk_written (P := P) (w := w) (base := base) T
  have G_law_name := uk_lname (P := P) (w := w) (base := base) T
  have G_law_word := uk_word (P := P) (w := w) (base := base) T
  have G_law_family := uk_lfam (P := P) (w := w) (base := base) T
  refine Fun_okU T.F_law_core sc_law_core (fun ρ Q X h => ?_) (fun cdv A outer s H E hr => ⟨_, (pss_cons (ps_par (i := 4) (j := 5) (by rfl) sc_law_core.nd rfl rfl (by decide) rfl rfl (pa_cons (pe_lst (pa_cons pe_int pa_nil)) (pa_cons (pe_lst pa_nil) pa_nil)) (by rfl))
        (pss_cons (ps_for PassesOwn.never rfl (pi_range1 (by rfl) T.m_range (pa_cons (pe_op op_add pe_int (pe_call G_law_take (hr.mono (by omega)) (by rfl) T.g_law_take T.F_law_take.kp T.b_law_take .nil pass0 (pa_cons (pv 0) (pa_cons pe_int pa_nil)))) pa_nil)) (pg_name (i := 6) sc_law_core.nd rfl (.inl rfl)) (pss_one (ps_expr (pe_bm PySem.F.plainAttrs_list PySem.F.slot_list_append PySem.F.type_list_append mt_append (pv 4) (pa_cons (pe_call G_law_number (hr.mono (by omega)) (by rfl) T.g_law_number T.F_law_number.kp T.b_law_number .nil pass0 (pa_cons (pv 0) (pa_cons (pv 4) pa_nil))) pa_nil)))))
        (pss_cons (ps_for PassesOwn.never rfl (pi_range1 (by rfl) T.m_range (pa_cons (pe_op op_add pe_int (pe_call G_law_take (hr.mono (by omega)) (by rfl) T.g_law_take T.F_law_take.kp T.b_law_take .nil pass0 (pa_cons (pv 0) (pa_cons (pv 1) pa_nil)))) pa_nil)) (pg_name (i := 6) sc_law_core.nd rfl (.inl rfl)) (pss_cons (ps_set (i := 7) sc_law_core.nd rfl (.inl rfl) (pe_call G_law_written (hr.mono (by omega)) (by rfl) T.g_law_written T.F_law_written.kp T.b_law_written .nil pass0 (pa_cons (pe_call G_law_of (hr.mono (by omega)) (by rfl) T.g_law_of T.F_law_of.kp T.b_law_of .nil pass0 (pa_cons (pv 0) (pa_cons (pe_lst (pa_cons pe_non (pa_cons pe_int (pa_cons (pe_call G_law_number (hr.mono (by omega)) (by rfl) T.g_law_number T.F_law_number.kp T.b_law_number .nil pass0 (pa_cons (pv 0) (pa_cons (pe_lst pa_nil) pa_nil))) pa_nil)))) pa_nil))) pa_nil)))
        (pss_one (ps_expr (pe_bm PySem.F.plainAttrs_list PySem.F.slot_list_append PySem.F.type_list_append mt_append (pv 5) (pa_cons (pe_op op_add_str (pe_op op_add_str (pe_op op_add_str (pe_op op_add_str (pe_call G_law_name hr (by rfl) T.g_law_name T.F_law_name.kp T.b_law_name .nil pass0 (pa_cons (pv 0) pa_nil)) (pe_ix ix_str pe_str (pv 6) (fun _ _ => rfl))) pe_str) (pv 7)) pe_str) pa_nil))))))
        (pss_cons (ps_setLc (i := 8) (own := [("k", 11)]) (g := gName 11) rfl sc_law_core.nd rfl rfl (sw_true rfl rfl rfl (by decide +kernel)) (pi_range1 (by rfl) T.m_range (pa_cons (pe_op op_add pe_int (pe_call G_law_take (hr.mono (by omega)) (by rfl) T.g_law_take T.F_law_take.kp T.b_law_take .nil pass0 (pa_cons (pv 0) (pa_cons (pv 2) pa_nil)))) pa_nil)) (blkOk_by (own := [("k", 11)]) (N := ["bag", "calls", "flags", "classes", "numbers", "texts", "turn", "value", "names", "words", "parents", "k"]) (sc := defScope s_law_core) (by decide +kernel)) (fun _ _ _ _ _ => pg_name (i := 11) sc_law_core.nd rfl (.inl rfl)) (fun _ _ _ _ _ => pts_nil) (fun _ _ _ _ _ => (pe_op op_add_str (pe_call G_law_name hr (by rfl) T.g_law_name T.F_law_name.kp T.b_law_name .nil pass0 (pa_cons (pv 0) pa_nil)) (pe_ix ix_str pe_str (pv 11) (fun _ _ => rfl)))))
        (pss_cons (ps_par (i := 9) (j := 10) (by rfl) sc_law_core.nd rfl rfl (by decide) rfl rfl (pa_cons (pe_lst (pa_cons pe_str (pa_cons (pe_call G_law_word (hr.mono (by omega)) (by rfl) T.g_law_word T.F_law_word.kp T.b_law_word .nil pass0 (pa_cons (pv 0) (pa_cons pe_int pa_nil))) pa_nil))) (pa_cons (pe_call G_law_family hr (by rfl) T.g_law_family T.F_law_family.kp T.b_law_family .nil pass0 (pa_cons (pv 0) (pa_cons (pv 3) pa_nil))) pa_nil)) (by rfl))
        (pss_one (ps_ret (pe_disp (pps_cons pe_str (pv 5) (pps_cons pe_str (pv 4) (pps_cons pe_str (pv 9) (pps_cons pe_str (pv 8) (pps_cons pe_str pe_int (pps_cons pe_str pe_int (pps_cons pe_str (pv 10) (pps_cons pe_str (pe_callTy (call_listD rfl) (by rfl) T.m_list (by decide +kernel) (pa_cons (pv 10) pa_nil)) pps_nil)))))))) rfl rfl (by simp) (by decide))))))))), ?_⟩)
  · obtain ⟨b, n, rfl, _⟩ := h
    rfl
  rintro W ρ Qd Xd ⟨b, n, rfl, hb, hn, q⟩
  show WS K _ _ [.bor _, .val _, .val _, .val _, .un, .un, .un, .un, .un, .un, .un, .un] _
  repeat (walk_at "u")
  refine ws_par_new ?_
  repeat (walk_at "u")
  refine ⟨rfl, rfl, ?_⟩
  show WS K W _ [.bor b, .val (.int 1), .val (.int 1), .val (.int 2), .own (.lst [.int 0]), .own (.lst []), .un, .un, .un, .un, .un, .un] _
  repeat (walk_at "u")
  refine callU [true, true] rfl rfl fun Q' X' qq xx => ⟨b, _, _, rfl, hb, by omega, by omega, by omega, fun d b1 d0 d1 hb1 => qq _ _ ?_⟩
  walk_at "ucl"
  repeat (walk_at "u")
  refine ⟨by omega, fun i ρ => ∃ (ns : List Int) (t6 : Sl) (bi : U), ρ = [.bor bi, .val (.int 1), .val (.int 1), .val (.int 2), .own (.lst (ns.map .int)), .own (.lst []), t6, .un, .un, .un, .un, .un] ∧ nb [t6] 0 = true ∧ ns ≠ [] ∧ ns.length ≤ 1 + i ∧ (∀ m ∈ ns, IsNum m) ∧ BagU bi (n + 1 + 3 * i), ?_, ?_, ?_⟩
  · exact ⟨[0], .un, b1, rfl, rfl, by simp, Nat.le_refl _, fun m h => (by rw [List.mem_singleton.mp h]; unfold IsNum; omega), hb1.mono (by omega)⟩
  · rintro i x ρ hx ⟨ns, t6, bi, rfl, h6, hne, hl, hnum, hB⟩
    obtain ⟨hi, hxe⟩ := rgU_get hx
    have hi : i < (1 + d).toNat := hi
    repeat (walk_at "u")
    refine callU [true, true] rfl rfl fun Q' X' qq xx => ⟨bi, _, ns, _, rfl, .inr rfl, by omega, hB, by omega, fun v b2 hv hb2 => qq _ _ ?_⟩
    walk_at "ucl"
    repeat (walk_at "u")
    refine ⟨_, _, _, _, frzC_ok rfl, rfl, rfl, by rw [List.length_map]; omega, ns ++ [v], .val x, b2, ?_, rfl, by simp, by rw [List.length_append]; show _ + 1 ≤ _; omega, ?_, hb2.mono (by omega)⟩
    · rw [List.map_append]
      rfl
    · intro m h
      rcases List.mem_append.mp h with h | h
      · exact hnum m h
      · rw [List.mem_singleton.mp h]
        exact hv
  · rintro ρ ⟨ns, t6, bi, rfl, h6, hne, hl, hnum, hB⟩
    rw [rgU_length] at hl hB
    repeat (walk_at "u")
    refine callU [true, true] rfl rfl fun Q' X' qq xx => ⟨bi, _, _, rfl, hB, by omega, by omega, by omega, fun d2 b2 d20 d21 hb2 => qq _ _ ?_⟩
    walk_at "ucl"
    repeat (walk_at "u")
    refine ⟨by omega, fun i ρ => ∃ (ts : List U) (t6 t7 : Sl) (bi : U), ρ = [.bor bi, .val (.int 1), .val (.int 1), .val (.int 2), .own (.lst (ns.map .int)), .own (.lst ts), t6, t7, .un, .un, .un, .un] ∧ nb [t6] 0 = true ∧ nb [t7] 0 = true ∧ ts.length ≤ i ∧ BagU bi (n + 20 + 120 * i), ?_, ?_, ?_⟩
    · exact ⟨[], t6, .un, b2, rfl, h6, rfl, Nat.le_refl _, hb2.mono (by omega)⟩
    · rintro i x ρ hx ⟨ts, t6, t7, bi, rfl, h6, h7, hlt, hB⟩
      obtain ⟨hi, hxe⟩ := rgU_get hx
      have hi : i < (1 + d2).toNat := hi
      rw [Int.zero_add] at hxe
      subst hxe
      repeat (walk_at "u")
      refine callU [true, false] rfl rfl fun Q' X' qq xx => ⟨bi, _, [], _, rfl, .inl rfl, by decide, hB, by omega, fun v b3 hv hb3 => qq _ _ ?_⟩
      walk_at "ucl"
      repeat (walk_at "u")
      refine callU [true, false] rfl rfl fun Q' X' qq xx => ⟨b3, _, _, rfl, hb3, by omega, .inl ⟨_, .inl rfl, Nat.succ_pos _, Nat.le_of_ble_eq_true rfl, fun u b4 hu hb4 => qq _ _ ?_⟩⟩
      have cu : ConstU u := by
        simp only [List.mem_cons, List.not_mem_nil, or_false] at hu
        rcases hu with rfl | rfl | rfl
        · exact .inl rfl
        · exact .inr (.inl ⟨1, rfl, by unfold IsNum; omega⟩)
        · exact .inr (.inl ⟨v, rfl, hv⟩)
      walk_at "ucl"
      repeat (walk_at "u")
      refine callU [false] rfl rfl fun Q' X' qq xx => ⟨u, rfl, cu, fun wt hw => qq _ _ ?_⟩
      walk_at "ucl"
      have hwl := hw.2.2.2.1
      repeat (walk_at "u")
      refine callU [true] rfl rfl fun Q' X' qq xx => ⟨b4, _, rfl, hb4, by omega, fun z b5 hz hb5 => qq _ _ ?_⟩
      walk_at "ucl"
      repeat (walk_at "u")
      obtain ⟨cc, hcc, hat⟩ := atI_of (xs := (Str.ofString "abcd").cps.toList) (d := (i : Int)) (by omega) (Int.lt_of_lt_of_le (show (i : Int) < 4 by omega) (by decide +kernel))
      refine wr_ixS (by decide +kernel) hat ?_
      have o1 : (⟨#[cc]⟩ : Str).length = 1 := rfl
      have o2 : (Str.ofString "(").length = 1 := by decide +kernel
      have o3 : (Str.ofString ")").length = 1 := by decide +kernel
      repeat (walk_at "u")
      refine wr_cat_str (by rw [o1]; omega) ?_
      repeat (walk_at "u")
      refine wr_cat_str (by rw [str_app, o1, o2]; omega) ?_
      repeat (walk_at "u")
      refine wr_cat_str (by rw [str_app, str_app, o1, o2]; omega) ?_
      repeat (walk_at "u")
      refine wr_cat_str (by rw [str_app, str_app, str_app, o1, o2, o3]; omega) ?_
      repeat (walk_at "u")
      exact ⟨_, _, _, _, frzC_ok rfl, rfl, rfl, by omega, _, .val (.int i), .val (.str wt), b5, rfl, rfl, rfl, by rw [List.length_append]; show _ + 1 ≤ _; omega, hb5.mono (by omega)⟩
    · rintro ρ ⟨ts, t6, t7, bi, rfl, h6, h7, hlt, hB⟩
      rw [rgU_length] at hlt hB
      repeat (walk_at "u")
      refine callU [true, true] rfl rfl fun Q' X' qq xx => ⟨bi, _, _, rfl, hB, by omega, by omega, by omega, fun d3 b3 d30 d31 hb3 => qq _ _ ?_⟩
      walk_at "ucl"
      repeat (walk_at "u")
      refine ⟨by omega, rfl, fun k acc ρ => ∃ bj : U, ρ = [.bor bj, .val (.int 1), .val (.int 1), .val (.int 2), .own (.lst (ns.map .int)), .own (.lst ts), t6, t7, .un, .un, .un, .un] ∧ acc.length = k ∧ BagU bj (n + 300 + 120 * k), ?_, ?_, ?_⟩
      · exact ⟨b3, rfl, rfl, hb3.mono (by omega)⟩
      · rintro k x acc ρ hx hl2 ⟨bj, rfl, el, hB2⟩
        obtain ⟨hk, hxe⟩ := rgU_get hx
        have hk : k < (1 + d3).toNat := hk
        rw [Int.zero_add] at hxe
        subst hxe
        repeat (walk_at "u")
        refine callU [true] rfl rfl fun Q' X' qq xx => ⟨bj, _, rfl, hB2, by omega, fun z b5 hz hb5 => qq _ _ ?_⟩
        walk_at "ucl"
        repeat (walk_at "u")
        obtain ⟨cc, hcc, hat⟩ := atI_of (xs := (Str.ofString "uvw").cps.toList) (d := (k : Int)) (by omega) (Int.lt_of_lt_of_le (show (k : Int) < 3 by omega) (by decide +kernel))
        refine wr_ixS (by decide +kernel) hat ?_
        have o1 : (⟨#[cc]⟩ : Str).length = 1 := rfl
        repeat (walk_at "u")
        refine wr_cat_str (by rw [o1]; omega) ?_
        repeat (walk_at "u")
        exact ⟨_, _, frzC_ok rfl, by omega, rfl, b5, rfl, by rw [List.length_append, el]; rfl, hb5.mono (by omega)⟩
      · rintro acc ρ hl2 ⟨bj, rfl, el, hB2⟩
        rw [rgU_length] at el hB2
        refine ⟨rfl, ?_⟩
        show WS K W _ [.bor bj, .val (.int 1), .val (.int 1), .val (.int 2), .own (.lst (ns.map .int)), .own (.lst ts), t6, t7, .own (.lst acc), .un, .un, .un] _
        repeat (walk_at "u")
        refine ws_par_new ?_
        repeat (walk_at "u")
        refine callU [true, true] rfl rfl fun Q' X' qq xx => ⟨bj, 8, _, rfl, hB2, by omega, by decide, fun z b5 z1 z2 hb5 => qq _ _ ?_⟩
        walk_at "ucl"
        repeat (walk_at "u")
        refine callU [true, true] rfl rfl fun Q' X' qq xx => ⟨b5, 2, _, rfl, by decide, hb5, by omega, fun ks xs b6 hc hkl hb6 => qq _ _ ?_⟩
        walk_at "ucl"
        repeat (walk_at "u")
        refine ⟨rfl, rfl, ?_⟩
        show WS K W _ [.bor b6, .val (.int 1), .val (.int 1), .val (.int 2), .own (.lst (ns.map .int)), .own (.lst ts), t6, t7, .own (.lst acc), .own (.lst [.str (Str.ofString ""), .str z]), .own (.dic ks xs), .un] _
        repeat (walk_at "u")
        refine we_disp ?_
        show WA K W (tCons _ (tCons _ (tCons _ (tCons _ (tCons _ (tCons _ (tCons _ (tCons _ (tCons _ (tCons _ (tCons _ (tCons _ (tCons _ (tCons _ (tCons _ (tCons _ tNil)))))))))))))))) _ _ _
        repeat (walk_at "u")
        refine wc_listD ⟨_, rfl, .inr rfl⟩ ?_
        obtain ⟨cs, ecs, hcs⟩ := cls_strs hc
        have lcs : cs.length ≤ 900 := by
          have := congrArg List.length ecs
          rw [List.length_map, List.length_map] at this
          omega
        rw [ecs]
        repeat (walk_at "u")
        refine ⟨_, _, _, _, frzC_ok rfl, rfl, by decide +kernel, by decide, ?_⟩
        repeat (walk_at "u")
        refine q _ _ ⟨_, _, ns, [Str.ofString "", z], cs, rfl, rfl, hne, by omega, hnum, rfl, Nat.le_of_ble_eq_true rfl, ?_, rfl, lcs, hcs⟩ (hb6.mono (by omega))
        intro v hv
        simp only [List.mem_cons, List.not_mem_nil, or_false] at hv
        rcases hv with rfl | rfl
        · exact ⟨by decide +kernel, by decide +kernel⟩
        · exact ⟨z1, z2⟩
end

/-! ### copies of pairs -/
theorem call_isiK {X : Cx} {K : PySem.W.Frag} (hK : X.K = K) : CallR X (.builtin "isinstance") (rIsi K) := hK ▸ call_isi
theorem call_list_ofK {X : Cx} {K : PySem.W.Frag} (hK : X.K = K) : CallR X (.type "list") (fun xs H Q => ∃ p ys, xs = [V.ref p] ∧ (SqL K H p ys ∨ SqT K H p ys) ∧ ∀ l : Addr, H l = none → Q (V.ref l) (upd H l (HO.lst ys))) := hK ▸ call_list_of
def r_lcopy : RU := fun ρ Q _ => ∃ es : List U, ρ = [.val (.lst es)] ∧ es.length ≤ 900 ∧ (∀ e ∈ es, ∃ p a, e = .tup [p, a] ∧ okU a = true) ∧ Q (.own (.lst es)) [.val (.lst es)]
section
variable {P : Program} {w : World} {K : PySem.W.Frag} {mg : Str → Option Value} {base : Heap}
theorem uk_lcopy (T : Txt K mg) : FnOk P w K mg base CX0 1 T.f_law_copy T.fd_law_copy ["pairs"] (spU K r_lcopy) := by
  refine Fun_okU T.F_law_copy sc_law_copy (fun ρ Q X h => ?_) (fun cdv A outer s H E hr => ⟨_, (pss_one (ps_ret (pe_lc (own := [("path", 1), ("answer", 2)]) (g := gTup K 2 (gCons (gName 1) (gCons (gName 2) gNil))) rfl sc_law_copy.nd (pi_list (pv 0)) (blkOk_by (own := [("path", 1), ("answer", 2)]) (N := ["pairs", "path", "answer"]) (sc := defScope s_law_copy) (by decide +kernel)) (fun _ _ _ _ _ => pg_tup rfl (pgs_cons (pg_name (i := 1) sc_law_copy.nd rfl (.inl rfl)) (pgs_cons (pg_name (i := 2) sc_law_copy.nd rfl (.inl rfl)) pgs_nil))) (fun _ _ _ _ _ => pts_nil) (fun _ _ _ _ _ => (pe_tup (pa_cons (pv 1) (pa_cons (pe_ifExp (pt_val (pe_callB (call_isiK (K := K) rfl) (by rfl) T.m_isinstance (by decide +kernel) (pa_cons (pv 2) (pa_cons (pe_bltn (v := .ty "list") (by rfl) T.m_list (by decide +kernel) rfl) pa_nil)))) (pe_callTy (call_list_ofK (K := K) rfl) (by rfl) T.m_list (by decide +kernel) (pa_cons (pv 2) pa_nil)) (pv 2)) pa_nil))))))), ?_⟩)
  · obtain ⟨es, rfl, _⟩ := h
    rfl
  rintro W ρ Qd Xd ⟨es, rfl, hl, he, q⟩
  show WS K _ _ [.val _, .un, .un] _
  repeat (walk_at "u")
  refine ⟨_, _, frzC_ok rfl, rfl, fun k acc ρ => ρ = [.val (.lst es), .un, .un] ∧ acc = es.take k, ?_, ?_, ?_⟩
  · exact ⟨rfl, rfl⟩
  · rintro k d acc ρ hd hl2 ⟨rfl, rfl⟩
    obtain ⟨p, a, rfl, ok⟩ := he d (List.mem_of_getElem? hd)
    have kl : k < es.length := (List.getElem?_eq_some_iff.mp hd).1
    have tk := take_one hd
    refine wg_tup ⟨_, rfl, rfl, ?_⟩
    have l : (es.take k).length < 1000 := by rw [List.length_take]; omega
    cases a
    case lst ds =>
      repeat (walk_at "u")
      exact ⟨_, _, frzC_ok rfl, l, rfl, rfl, tk.symm⟩
    all_goals (first | (cases ok; done) | ((repeat (walk_at "u")); exact ⟨_, _, frzC_ok rfl, l, rfl, rfl, tk.symm⟩))
  · rintro acc ρ hl2 ⟨rfl, rfl⟩
    rw [List.take_length]
    repeat (walk_at "u")
    exact q
end

/-! ### a comprehension from one state -/
section
variable {K : PySem.W.Frag} {W : Wx} {X : Er → Sls → Prop} {ρ : Sls}
theorem lc_at {s1 : Sta} {J : It} {ds : List U} {g : TG} {tt : TT} {te : TE} {vs : List Nat} {Q : Av → Sls → Prop} {Q0 : VK} (D1 : Den K s1) (x : XOk K s1 W X) (k : Cnt K s1 Q Q0) (uw : UWalk K s1 J ds) (hnb : nbs s1.ρ vs = true) (Iv : Nat → List U → Sls → Prop) (i0 : Iv 0 [] (wipeE s1.ρ vs))
    (step : ∀ (k : Nat) (d : U) (acc : List U) (ρ2 : Sls), ds[k]? = some d → acc.length ≤ k → Iv k acc ρ2 → WG K g vs d ρ2 (fun ρ3 => WT K W tt ρ3 (fun b ρ4 => if b = true then
        WE K W te ρ4 (fun a ρ5 => ∃ d' ρ6, Frz ρ5 [a.fl] [d'] ρ6 ∧ acc.length < 1000 ∧ nbs ρ6 vs = true ∧ Iv (k + 1) (acc ++ [d']) (wipeE ρ6 vs)) X
      else nbs ρ4 vs = true ∧ Iv (k + 1) acc (wipeE ρ4 vs)) X))
    (fin : ∀ acc ρ2, acc.length ≤ ds.length → Iv ds.length acc ρ2 → Q (.own (.lst acc)) (mixE s1.ρ ρ2 vs)) : tLc (fun _ H R => R J H) g tt te vs s1.σ s1.H Q0 := by
  obtain ⟨Gd, Y, w, hG, hY⟩ := uw
  have n1 : Nxt K s1 s1 := Nxt.refl D1
  intro p hp
  have nL := lay (o := .lst []) n1.den hp
  obtain ⟨sw, dw⟩ := wipe_all (s := { s1 with H := upd s1.H p (.lst []) }) nL.den hnb
  have stw := nL.stp.trans sw
  obtain ⟨g0, o0⟩ := n1.den.free hp
  have ow : ¬ Owns { s1 with H := upd s1.H p (.lst []), ρ := wipeE s1.ρ vs, σ := wipe s1.σ vs } p := fun h => by
    rcases sw.own p h with h | h
    · exact o0 h
    · have h : upd s1.H p (.lst []) p = none := h
      rw [upd_same] at h
      cases h
  refine lc_it w (fun k H => ∃ s' xs acc, s'.H = H ∧ s'.σ = wipe s1.σ vs ∧ Stp s1 s' ∧ Den K s' ∧ s'.H p = some (.lst xs) ∧ AtAll K s'.G xs acc ∧ s'.G p = none ∧ ¬ Owns s' p ∧ acc.length ≤ k ∧ Iv k acc s'.ρ)
    ⟨{ s1 with H := upd s1.H p (.lst []), ρ := wipeE s1.ρ vs, σ := wipe s1.σ vs }, [], [], rfl, rfl, stw, dw, upd_same, .nil, g0, ow, Nat.le_refl _, i0⟩ ?_ ?_ ?_
  · rintro i H _ ⟨s', xs, acc, rfl, _, st, d', _⟩
    exact hG s' st d'
  · rintro i x' H H' hi ⟨s', xs, acc, rfl, eσ, st, d', hD, hx, hg, ho, hl, inv⟩ y
    obtain ⟨s2, dd, e1, e2, n2, e3, e4⟩ := hY i x' s' H' hi st d' y
    have eσ2 : s2.σ = wipe s1.σ vs := n2.slots.trans eσ
    rw [← e2, ← eσ2]
    have st2 := st.trans n2.stp
    obtain ⟨hD2, hg2, ho2⟩ := n2.stp.temp hD hg ho
    refine step i dd acc s'.ρ e3 hl inv s2 x' _ e1 n2.den e4 fun s3 n3 D3 k3 l3 q3 => ?_
    have ew : wipe s3.σ vs = wipe s1.σ vs := (wipe_ext k3 l3).trans (by rw [eσ2]; exact wipe_idem)
    have st3 := st2.trans n3
    obtain ⟨hD3, hg3, ho3⟩ := n3.temp hD2 hg2 ho2
    have hx3 := AtAll.mono (n2.stp.sub.trans n3.sub) _ _ hx
    refine ⟨ew.trans eσ2.symm, q3 s3 _ rfl D3 (x.next st3) fun b s4 n4 q4 => ?_⟩
    obtain ⟨hD4, hg4, ho4⟩ := n4.stp.temp hD3 hg3 ho3
    have st4 := st3.trans n4.stp
    have hx4 := AtAll.mono n4.stp.sub _ _ hx3
    cases b with
    | true =>
      refine iteT ?_
      rw [← n4.slots]
      have q4 : WE K W te s4.ρ (fun a ρ5 => ∃ d' ρ6, Frz ρ5 [a.fl] [d'] ρ6 ∧ acc.length < 1000 ∧ nbs ρ6 vs = true ∧ Iv (i + 1) (acc ++ [d']) (wipeE ρ6 vs)) X := by simpa using q4
      refine WE.flat (Q := fun a ρ5 => ∃ d' ρ6, Frz ρ5 [a] [d'] ρ6 ∧ acc.length < 1000 ∧ nbs ρ6 vs = true ∧ Iv (i + 1) (acc ++ [d']) (wipeE ρ6 vs)) q4 rfl n4.den (x.next st4) fun u a s5 n5 fa ok5 ⟨d1, ρ6, hf, hlen, hn6, inv6⟩ => ?_
      obtain ⟨s6, e5, e6, n6, hu⟩ := frz1 hf fa n5.den ok5
      have n56 := n5.trans n6
      obtain ⟨hD6, hg6, ho6⟩ := n56.stp.temp hD4 hg4 ho4
      have hx6 := AtAll.mono n56.stp.sub _ _ hx4
      rw [← e6]
      refine ⟨xs, hD6, small1000 (by rw [hx6.length]; omega), ?_⟩
      obtain ⟨st7, d7⟩ := poke (o := .lst (xs ++ [u])) (st4.trans n56.stp) n56.den hp hD6 hg6 ho6
      obtain ⟨sw7, dw7⟩ := wipe_all (s := { s6 with H := upd s6.H p (.lst (xs ++ [u])) }) (vs := vs) d7 (by show nbs s6.ρ vs = true; rw [e5]; exact hn6)
      refine ⟨{ s6 with H := upd s6.H p (.lst (xs ++ [u])), ρ := wipeE s6.ρ vs, σ := wipe s6.σ vs }, _, acc ++ [d1], rfl, ?_, st7.trans sw7, dw7, upd_same, hx6.snoc hu, hg6, fun h => ?_, by rw [List.length_append, List.length_singleton]; omega, by show Iv _ _ (wipeE s6.ρ vs); rw [e5]; exact inv6⟩
      · show wipe s6.σ vs = _
        rw [n56.slots, n4.slots]
        exact ew.trans eσ2.symm
      · rcases sw7.own p h with h | h
        · exact ho6 h
        · have h : upd s6.H p (.lst (xs ++ [u])) p = none := h
          rw [upd_same] at h
          cases h
    | false =>
      refine iteF ?_
      obtain ⟨hn4, inv4⟩ : nbs s4.ρ vs = true ∧ Iv (i + 1) acc (wipeE s4.ρ vs) := by simpa using q4
      obtain ⟨sw4, dw4⟩ := wipe_all n4.den hn4
      refine ⟨{ s4 with ρ := wipeE s4.ρ vs, σ := wipe s4.σ vs }, xs, acc, rfl, ?_, st4.trans sw4, dw4, hD4, hx4, hg4, (sw4.temp hD4 hg4 ho4).2.2, by omega, inv4⟩
      show wipe s4.σ vs = _
      rw [n4.slots]
      exact ew.trans eσ2.symm
  · rintro H ⟨s', xs, acc, rfl, eσ, st, d', hD, hx, hg, ho, hl, inv⟩
    have out : ∀ {i : Nat}, i ∉ vs → s'.σ[i]? = s1.σ[i]? := fun {i} hi => by rw [eσ]; exact wipe_out hi
    have f : ∀ {i a}, OwnAt ⟨s'.G, mixE s1.ρ s'.ρ vs, s1.σ, s'.H⟩ i a → OwnAt s' i a := fun {i a} ⟨⟨sl, z, e1, e2⟩, e3⟩ => by
      rcases mix_get e1 with ⟨m, rfl⟩ | ⟨m, e⟩
      · exfalso
        unfold keepV at e2
        split at e2 <;> cases e2
      · exact ⟨⟨sl, z, e, e2⟩, (out m).trans e3⟩
    refine k (.ref p) (.own (.lst acc)) ⟨s'.G, mixE s1.ρ s'.ρ vs, s1.σ, s'.H⟩ ⟨⟨st.sub, st.fr, st.dom, fun a ⟨i, h⟩ => st.own a ⟨i, f h⟩, st.gfr, fun i z e => ?_⟩, ⟨d'.sub, ?_, fun i z e => ?_, fun i sl z e1 e2 => ?_, fun i j a h1 h2 => d'.dis i j a (f h1) (f h2)⟩, rfl⟩ ⟨p, .lst xs, rfl, hD, hg, .lst hx, fun ⟨i, h⟩ => ho ⟨i, f h⟩, .inl hp⟩ (fin acc _ hl inv)
    · obtain ⟨y, h1, h2⟩ := st.bor i z e
      refine ⟨y, ?_, rfl⟩
      cases q : (mixE s1.ρ s'.ρ vs)[i]? with
      | none =>
        rw [List.getElem?_eq_none_iff, mix_length] at q
        have := lt_of_get h1
        omega
      | some w =>
        rcases mix_get q with ⟨m, _⟩ | ⟨m, e'⟩
        · exfalso
          have hw : ∀ vs : List Nat, i ∈ vs → ∀ (ρ : Sls) (w : U), (wipeE ρ vs)[i]? ≠ some (.bor w) := by
            intro vs
            induction vs with
            | nil => intro h; cases h
            | cons v vs ih =>
              intro h ρ w e
              rcases get_set (show ((wipeE ρ vs).set v .un)[i]? = some (.bor w) from e) with ⟨_, e, _⟩ | ⟨n, e⟩
              · cases e
              · rcases List.mem_cons.mp h with h | h
                · exact n h
                · exact ih h ρ w e
          obtain ⟨y2, h3, _⟩ := stw.bor i z e
          exact hw vs m s1.ρ y2 h3
        · rw [h1] at e'
          exact congrArg some (Option.some.inj e').symm
    · show s1.σ.length = (mixE s1.ρ s'.ρ vs).length
      rw [mix_length, ← d'.len, eσ, wipe_length]
    · rcases mix_get e with ⟨m, h⟩ | ⟨m, h⟩
      · have h : keepV s1.ρ[i]? = .val z := h.symm
        cases q : s1.ρ[i]? with
        | none => rw [q] at h; cases h
        | some w =>
          rw [q] at h
          cases w with
          | val y =>
            cases h
            obtain ⟨v, h1, h2⟩ := n1.den.val i _ q
            exact ⟨v, h1, At.mono st.sub _ _ h2⟩
          | _ => cases h
      · obtain ⟨v, h1, h2⟩ := d'.val i z h
        exact ⟨v, (out m).symm.trans h1, h2⟩
    · rcases mix_get e1 with ⟨m, rfl⟩ | ⟨m, h⟩
      · exfalso
        unfold keepV at e2
        split at e2 <;> cases e2
      · obtain ⟨a, o, h1, h2⟩ := d'.own i sl z h e2
        exact ⟨a, o, (out m).symm.trans h1, h2⟩
/-! ### [.. for .. in self.f.items()], self.f a dict whose keys are tuples of texts -/
def itemsU (ks : List (List Key)) (xs : List U) : List U := (ks.zip xs).map fun p => .tup [tupU p.1, p.2]
theorem itemsU_get {ks : List (List Key)} {xs : List U} {i : Nat} {k : List Key} {x : U} (h1 : ks[i]? = some k) (h2 : xs[i]? = some x) : (itemsU ks xs)[i]? = some (.tup [tupU k, x]) := by
  unfold itemsU
  rw [List.getElem?_map, (List.getElem?_zip_eq_some (z := (k, x))).mpr ⟨h1, h2⟩]
  rfl
theorem itemsU_at {ks : List (List Key)} {xs : List U} {i : Nat} {d : U} (h : (itemsU ks xs)[i]? = some d) : ∃ k x, ks[i]? = some k ∧ xs[i]? = some x ∧ d = .tup [tupU k, x] := by
  unfold itemsU at h
  rw [List.getElem?_map] at h
  cases e : (ks.zip xs)[i]? with
  | none => rw [e] at h; cases h
  | some p =>
    rw [e] at h
    cases h
    obtain ⟨h1, h2⟩ := List.getElem?_zip_eq_some.mp e
    exact ⟨p.1, p.2, h1, h2, rfl⟩
mutual
theorem at_min {G G1 : Hp} (hG : ∀ a o, G a = some o → (∀ kvs, o ≠ .dT kvs) → G1 a = some o) : ∀ (d : U) (v : V), At K G v d → okU d = true → At K G1 v d
  | .non, _, h, _ => by cases h; exact .non
  | .bl _, _, h, _ => by cases h; exact .bl _
  | .int _, _, h, _ => by cases h; exact .int _
  | .str _, _, h, _ => by cases h; exact .str _
  | .ty _, _, _, o => nomatch o
  | .raw _, _, _, o => nomatch o
  | .lst ds, _, h, o => by
    cases h with
    | lst hs ha => exact .lst (hG _ _ hs nofun) (ats_min hG ds _ ha o)
  | .fls _, _, _, o => nomatch o
  | .tup ds, _, h, o => by
    cases h with
    | tup hs ha => exact .tup (hG _ _ hs nofun) (ats_min hG ds _ ha o)
  | .dic _ _, _, _, o => nomatch o
  | .dct _ _, _, _, o => nomatch o
  | .obj _ _ _, _, _, o => nomatch o
  | .exo _ _ _, _, _, o => nomatch o
theorem ats_min {G G1 : Hp} (hG : ∀ a o, G a = some o → (∀ kvs, o ≠ .dT kvs) → G1 a = some o) : ∀ (ds : List U) (vs : List V), AtAll K G vs ds → okUs ds = true → AtAll K G1 vs ds
  | [], _, h, _ => by cases h; exact .nil
  | d :: r, _, h, o => by
    cases h with
    | cons h1 h2 =>
      have o : (okU d && okUs r) = true := o
      rw [Bool.and_eq_true] at o
      exact .cons (at_min hG d _ h1 o.1) (ats_min hG r _ h2 o.2)
end
def valUn : Sl → Bool
  | .val _ => true
  | .un => true
  | _ => false
theorem valUn_none {σ : L2.St} {G H : Hp} (hv : ∀ sl ∈ ρ, valUn sl = true) {a : Addr} : ¬ Owns ⟨G, ρ, σ, H⟩ a := by
  rintro ⟨i, ⟨sl, x, e1, e2⟩, _⟩
  have := hv sl (List.mem_of_getElem? e1)
  cases sl <;> first | (cases this; done) | cases e2
theorem we_items {i : Nat} {C : Addr} {ns : List Str} {us : List U} {f : Str} {ks : List (List Key)} {xs : List U} {g : TG} {tt : TT} {te : TE} {vs : List Nat} {Q : Av → Sls → Prop}
    (hρ : ρ[i]? = some (.val (.obj C ns us))) (hv : ∀ sl ∈ ρ, valUn sl = true) (cl : Cls K C) (na : NoAttr K C f) (fl : lookU ns us f = some (.dct ks xs)) (ok : okUs xs = true) (hnb : nbs (List.replicate ρ.length .un) vs = true)
    (Iv : Nat → List U → Sls → Prop) (i0 : Iv 0 [] (wipeE (List.replicate ρ.length .un) vs))
    (step : ∀ (k : Nat) (d : U) (acc : List U) (ρ2 : Sls), (itemsU ks xs)[k]? = some d → acc.length ≤ k → Iv k acc ρ2 → WG K g vs d ρ2 (fun ρ3 => WT K W tt ρ3 (fun b ρ4 => if b = true then
        WE K W te ρ4 (fun a ρ5 => ∃ d' ρ6, Frz ρ5 [a.fl] [d'] ρ6 ∧ acc.length < 1000 ∧ nbs ρ6 vs = true ∧ Iv (k + 1) (acc ++ [d']) (wipeE ρ6 vs)) (fun _ _ => False)
      else nbs ρ4 vs = true ∧ Iv (k + 1) acc (wipeE ρ4 vs)) (fun _ _ => False)))
    (fin : ∀ acc ρ2, acc.length ≤ (itemsU ks xs).length → Iv (itemsU ks xs).length acc ρ2 → Q (.own (.lst acc)) ρ) : WE K W (tLockE (tLc (iItemsT (tFld K (tVar i) f)) g tt te vs)) ρ Q X := by
  rintro s Q0 rfl D _ k
  obtain ⟨v, e1, hv1⟩ := D.val i _ hρ
  obtain ⟨p, dx, fs, rfl, e2, rfl, e3⟩ : ∃ p dx fs, v = V.ref p ∧ s.G p = some (.ins C dx fs) ∧ ns = fs.map (·.1) ∧ AtAll K s.G (fs.map (·.2)) us := by
    cases hv1 with
    | obj h1 h2 => exact ⟨_, _, _, rfl, h1, rfl, h2⟩
  obtain ⟨z, l1, l2⟩ := AtAll.lookU (f := f) e3 fl
  obtain ⟨d, kvs, rfl, g1, rfl, g2⟩ : ∃ d kvs, z = V.ref d ∧ s.G d = some (.dT kvs) ∧ ks = kvs.map (·.1) ∧ AtAll K s.G (kvs.map (·.2)) xs := by
    cases l2 with
    | dct h1 h2 => exact ⟨_, _, rfl, h1, rfl, h2⟩
  have hd := D.sub _ _ g1
  refine ⟨d, .dT kvs, hd, trivial, fun od => ?_⟩
  have pd : p ≠ d := fun z => by
    rw [z, g1] at e2
    cases e2
  have hp : upd s.H d (.frz od (.dT kvs)) p = some (.ins C dx fs) := by
    rw [upd_ne pd]
    exact D.sub _ _ e2
  refine ⟨.ref p, e1, p, C, dx, fs, .ref d, rfl, hp, cl, na, l1, d, od, kvs, rfl, upd_same, ?_⟩
  let G1 : Hp := fun a => if a = d then none else s.G a
  have G1d : G1 d = none := if_pos rfl
  have G1n : ∀ {a}, a ≠ d → G1 a = s.G a := fun h => if_neg h
  let s1 : Sta := ⟨G1, List.replicate s.ρ.length .un, s.σ, upd s.H d (.frz od (.dT kvs))⟩
  have un1 : ∀ sl ∈ s1.ρ, valUn sl = true := fun sl m => by
    rw [List.eq_of_mem_replicate m]
    rfl
  have D1 : Den K s1 := by
    refine ⟨fun a o e => ?_, ?_, fun j d' e => ?_, fun j sl d' e c => ?_, fun j k' a h => absurd ⟨j, h⟩ (valUn_none un1)⟩
    · have ad : a ≠ d := fun z => by
        have e : G1 a = some o := e
        rw [z, G1d] at e
        cases e
      have e : G1 a = some o := e
      rw [G1n ad] at e
      show upd s.H d _ a = some o
      rw [upd_ne ad]
      exact D.sub _ _ e
    · show s.σ.length = (List.replicate s.ρ.length Sl.un).length
      rw [List.length_replicate]
      exact D.len
    · have := List.eq_of_mem_replicate (List.mem_of_getElem? (show (List.replicate s.ρ.length Sl.un)[j]? = some (.val d') from e))
      cases this
    · have := List.eq_of_mem_replicate (List.mem_of_getElem? (show (List.replicate s.ρ.length Sl.un)[j]? = some sl from e))
      rw [this] at c
      cases c
  have vals : AtAll K G1 (kvs.map (·.2)) xs := ats_min (fun a o e n => by
    have ad : a ≠ d := fun z => by
      rw [z, g1] at e
      cases e
      exact n _ rfl
    rw [G1n ad]
    exact e) xs _ g2 ok
  have lock : ∀ {s'}, Stp s1 s' → s'.H d = some (.frz od (.dT kvs)) ∧ s'.G d = none := fun {s'} st => ⟨st.fr d _ upd_same (valUn_none un1), st.gfr d ⟨_, upd_same, nofun⟩ (valUn_none un1) G1d⟩
  have len : (itemsU (kvs.map (·.1)) xs).length = kvs.length := by
    unfold itemsU
    rw [List.length_map, List.length_zip, List.length_map, ← g2.length, List.length_map, Nat.min_self]
  have uw : UWalk K s1 (Itit d od kvs) (itemsU (kvs.map (·.1)) xs) := by
    refine ⟨fun H => H d = some (.frz od (.dT kvs)), fun i H x H' => ∃ T k v q, kvs[i]? = some (k, v) ∧ x = .ref T ∧ H q = some (.tup (k.map kV)) ∧ H T = none ∧ H' = upd H T (.tup [.ref q, v]), ?_, fun s' st _ => (lock st).1, ?_⟩
    · rw [len]
      exact ⟨fun _ _ hi q => ⟨q, hi⟩, fun _ q => ⟨q, Nat.le_refl _⟩, fun _ _ _ _ _ _ y => y⟩
    · rintro j x s' H' hj st D' ⟨T, kk, v, q, ekv, rfl, hq, hT, rfl⟩
      obtain ⟨x, ex, hx⟩ := vals.get (show (kvs.map (·.2))[j]? = some v by rw [List.getElem?_map, ekv]; rfl)
      obtain ⟨G2, n2, D2, a2⟩ := adoptT D' hq (keys_at kk)
      obtain ⟨n3, sub⟩ := layF (o := .tup [.ref q, v]) (s := { s' with G := G2 }) D2 hT
      have nn : Nxt K s' { s' with G := G2 } := ⟨n2, D2, rfl⟩
      exact ⟨{ s' with H := upd s'.H T (.tup [.ref q, v]), G := upd G2 T (.tup [.ref q, v]) }, .tup [tupU kk, x], rfl, rfl, nn.trans n3, itemsU_get (by rw [List.getElem?_map, ekv]; rfl) ex, .tup upd_same (.cons (At.mono sub _ _ a2) (.cons (At.mono (st.sub.trans (n2.sub.trans sub)) _ _ hx) .nil))⟩
  show tLc (fun (_ : L2.St) (H : Hp) (R : It → Hp → Prop) => R (Itit d od kvs) H) g tt te vs s1.σ s1.H (fun v H' => H' d = some (.frz od (.dT kvs)) ∧ Q0 v (upd H' d (.dT kvs)))
  refine lc_at (s1 := s1) (X := fun _ _ => False) (Q := fun a _ => ∃ acc, a = .own (.lst acc) ∧ Q (.own (.lst acc)) s.ρ) D1 (fun _ _ _ _ _ _ _ z => z.elim) ?_ uw hnb Iv i0 step (fun acc ρ2 h1 h2 => ⟨acc, rfl, fin acc ρ2 h1 h2⟩)
  rintro v a s' n ok' ⟨acc, rfl, q⟩
  obtain ⟨lk, lg⟩ := lock n.stp
  refine ⟨lk, ?_⟩
  obtain ⟨b, o, rfl, h1, h2, h3, h4, h5⟩ := ok'
  have bd : b ≠ d := fun z => by
    rw [z, lk] at h1
    cases h1
    cases h3
  have sub2 : Same s'.G (upd s'.G d (.dT kvs)) := fun a o e => by
    rw [upd_ne (ne_of_none e lg)]
    exact e
  have hvs : ∀ sl ∈ s.ρ, valUn sl = true := hv
  have subG : Same s.G (upd s'.G d (.dT kvs)) := fun a o e => by
    by_cases ad : a = d
    · rw [ad] at e ⊢
      rw [upd_same, ← g1]
      exact e
    · rw [upd_ne ad]
      refine n.stp.sub a o ?_
      show G1 a = some o
      rw [G1n ad]
      exact e
  have st : Stp s ⟨upd s'.G d (.dT kvs), s.ρ, s.σ, upd s'.H d (.dT kvs)⟩ := by
    refine ⟨subG, fun a o e no => ?_, fun a e => ?_, fun a h => absurd h (valUn_none hvs), fun a t no e => ?_, fun j d' e => ?_⟩
    · show upd s'.H d _ a = some o
      by_cases ad : a = d
      · rw [ad] at e ⊢
        rw [upd_same, ← hd]
        exact e
      · rw [upd_ne ad]
        refine n.stp.fr a o ?_ (valUn_none un1)
        show upd s.H d _ a = some o
        rw [upd_ne ad]
        exact e
    · have e : upd s'.H d (.dT kvs) a = none := e
      have ad : a ≠ d := fun z => by
        rw [z, upd_same] at e
        cases e
      rw [upd_ne ad] at e
      have := n.stp.dom a e
      rw [show s1.H a = upd s.H d _ a from rfl, upd_ne ad] at this
      exact this
    · have ad : a ≠ d := fun z => by
        rw [z, g1] at e
        cases e
      show upd s'.G d _ a = none
      rw [upd_ne ad]
      refine n.stp.gfr a ?_ (valUn_none un1) ?_
      · show Tem (upd s.H d _ a)
        rw [upd_ne ad]
        exact t
      · show G1 a = none
        rw [G1n ad]
        exact e
    · have := hvs _ (List.mem_of_getElem? e)
      cases this
  have D2 : Den K ⟨upd s'.G d (.dT kvs), s.ρ, s.σ, upd s'.H d (.dT kvs)⟩ := by
    refine ⟨fun a o e => ?_, D.len, fun j d' e => ?_, fun j sl d' e c => ?_, fun j k' a h => absurd ⟨j, h⟩ (valUn_none hvs)⟩
    · have e : upd s'.G d (.dT kvs) a = some o := e
      show upd s'.H d _ a = some o
      by_cases ad : a = d
      · rw [ad, upd_same] at e ⊢
        exact e
      · rw [upd_ne ad] at e ⊢
        exact n.den.sub _ _ e
    · obtain ⟨v, w1, w2⟩ := D.val j d' e
      exact ⟨v, w1, At.mono subG _ _ w2⟩
    · have := hvs _ (List.mem_of_getElem? e)
      cases sl <;> first | (cases this; done) | cases c
  refine k (.ref b) (.own (.lst acc)) ⟨upd s'.G d (.dT kvs), s.ρ, s.σ, upd s'.H d (.dT kvs)⟩ ⟨st, D2, rfl⟩ ⟨b, o, rfl, ?_, ?_, h3.mono sub2, valUn_none hvs, ?_⟩ q
  · show upd s'.H d _ b = some o
    rw [upd_ne bd]
    exact h1
  · show upd s'.G d _ b = none
    rw [upd_ne bd]
    exact h2
  · rcases h5 with h | h
    · refine .inl ?_
      have h : upd s.H d (.frz od (.dT kvs)) b = none := h
      rw [upd_ne bd] at h
      exact h
    · exact absurd h (valUn_none un1)
end

/-! ### e.f, f a property, by data -/
section
variable {K : PySem.W.Frag} {W : Wx} {X : Er → Sls → Prop} {ρ : Sls}
theorem we_prop {C : Addr} {R : RU} {ta : TE} {Q : Av → Sls → Prop} (h : WE K W ta ρ (fun a ρ1 => ∃ ns xs, View ρ1 a.fl (.obj C ns xs) ∧ CallU R [a.fl] ρ1 Q (fun _ _ => False)) X) : WE K W (tProp C (spU K R) [] E0 ta) ρ Q X := by
  rintro s Q0 rfl D x k
  refine WE.flat (Q := fun a ρ1 => ∃ ns xs, View ρ1 a (.obj C ns xs) ∧ CallU R [a] ρ1 Q (fun _ _ => False)) h rfl D x fun v a s1 n1 fa ok ⟨ns, xs, hw, q⟩ => ?_
  obtain ⟨b, dx, fs, rfl, e1, rfl, e2⟩ := view_obj n1.den ok hw
  refine ⟨b, dx, fs, rfl, e1, ?_⟩
  exact q.run n1.den (.cons fa ((AvOk.next fa (Nxt.refl n1.den) ok).self fa) .nil) (k.lift n1) fun _ _ _ _ _ _ _ _ z => z.elim
end

/-! ### calls from a place where no repr is under way -/
theorem pe_callG {X : Cx} {k : Nat} {f : Addr} {fd : FuncData} {ps : List Str} {sp : Sp} {E : XK} {x : Str} {p pos : Pos} {e : Expr} {es : List Expr} {t : TA} (F : GOk X.prog X.w X.K X.mg X.base k f fd ps sp) (len : ∀ vs H Q E, sp vs H Q E → vs.length = ps.length) (hgd : X.A.guards = some [])
    (hr : Room k X.A) (hg : Gl X x) (hm : X.mg x = some (.ref f)) (hk : PySem.W.keepIn X.K (.ref f) = true) (hb : Binds X.K fd ps []) (hx : Passes CX0 X E)
    (ha : PA X (e :: es) t) (hdb : (x == ("__debug__" : Str)) = false := by decide) (he : starEach (e :: es) X.env = (false, eval e X.env) :: starEach es X.env := by rfl) (hpl : (backTo pos (starEach es X.env)).any (·.1) = false := by rfl) :
    PE X (.Call (.Name x p) (e :: es) [] pos) (tCall sp [] E t) := by
  refine ⟨fun pins s σ H Q I h => ?_⟩
  refine wpAny_Call_Name_kw (ld_glob I hg hm ?_ hdb)
  refine PySem.W.callWith_K (h₀ := X.base) I.ok.mod.kin hk (thn (ha.run pos pins s σ H _ I h) fun us s1 ⟨vs, H1, I1, r, q⟩ => ⟨I1.kIn, ?_⟩) he hpl
  have q : sp (vs ++ []) H1 Q E := q
  rw [List.append_nil] at q
  have hl : us.length = ps.length := by rw [← r.length]; exact len _ _ _ _ q
  have bb := hb s1 us I1.kIn (by rw [List.append_nil]; exact hl)
  rw [List.append_nil] at bb
  refine wpAny_call (codeAny_mono (F X.A X.stack s1 H1 us vs Q E hgd hr I1.env0 bb r q) fun r s' hq => ?_)
  cases r with
  | error e => exact hx pins σ H1 s1 e s' I1 hq
  | ok fl =>
    cases fl with
    | ret u => exact I1.after hq
    | next => exact False.elim hq
    | brk => exact False.elim hq
    | cont => exact False.elim hq
theorem lenU {K : PySem.W.Frag} {R : RU} {ps : List Str} (hn : ∀ ρ Q X, R ρ Q X → ρ.length = ps.length) : ∀ vs H Q E, spU K R vs H Q E → vs.length = ps.length := fun vs H Q E h => spU_len h hn

/-! ### a part's entries -/
def prtU (C : Addr) (ag : Bool) (ks : List (List Key)) (xs : List U) : U := .obj C [Str.ofString "ageing", Str.ofString "_answers"] [.bl ag, .dct ks xs]
def r_entries (C : Addr) : RU := fun ρ Q _ => ∃ (ag : Bool) (ks : List (List Key)) (xs : List U), ρ = [.val (prtU C ag ks xs)] ∧ ks.length = xs.length ∧ xs.length ≤ 900 ∧ (∀ x ∈ xs, okD x) ∧ Q (.dt (.tup (itemsU ks xs))) [.val (prtU C ag ks xs)]
theorem okUs_of : ∀ {xs : List U}, (∀ x ∈ xs, okU x = true) → okUs xs = true
  | [], _ => rfl
  | x :: r, h => by
    show (okU x && okUs r) = true
    rw [h x List.mem_cons_self, okUs_of fun y m => h y (List.mem_cons_of_mem _ m)]
    rfl
section
variable {P : Program} {w : World} {K : PySem.W.Frag} {mg : Str → Option Value} {base : Heap}
theorem uk_entries (T : Txt K mg) : FnOk P w K mg base CX0 2 T.f_Part_entries T.fd_Part_entries ["self"] (spU K (r_entries T.C_Part)) := by
  have G_copied := uk_copied (P := P) (w := w) (base := base) T
  refine Fun_okU T.F_Part_entries sc_Part_entries (fun ρ Q X h => ?_) (fun cdv A outer s H E hr => ⟨_, (pss_one (ps_ret (pe_callTy call_tuple_of (by rfl) T.m_tuple (by decide +kernel) (pa_cons (pe_lock (pe_lc (own := [("path", 1), ("answer", 2)]) (g := gTup K 2 (gCons (gName 1) (gCons (gName 2) gNil))) rfl sc_Part_entries.nd (pi_itemsT (pe_fld (pv 0) rfl)) (blkOk_by (own := [("path", 1), ("answer", 2)]) (N := ["self", "path", "answer"]) (sc := defScope s_Part_entries) (by decide +kernel)) (fun _ _ _ _ _ => pg_tup rfl (pgs_cons (pg_name (i := 1) sc_Part_entries.nd rfl (.inl rfl)) (pgs_cons (pg_name (i := 2) sc_Part_entries.nd rfl (.inl rfl)) pgs_nil))) (fun _ _ _ _ _ => pts_nil) (fun _ _ _ _ _ => (pe_tup (pa_cons (pv 1) (pa_cons (pe_call G_copied hr (by rfl) T.g_copied T.F_copied.kp T.b_copied .nil pass0 (pa_cons (pv 2) pa_nil)) pa_nil)))))) pa_nil)))), ?_⟩)
  · obtain ⟨ag, ks, xs, rfl, _⟩ := h
    rfl
  rintro W ρ Qd Xd ⟨ag, ks, xs, rfl, hl, hx, hok, q⟩
  show WS K _ _ [.val _, .un, .un] _
  have li : (itemsU ks xs).length = xs.length := by
    unfold itemsU
    rw [List.length_map, List.length_zip, hl, Nat.min_self]
  repeat (walk_at "u")
  refine we_items (i := 0) (C := T.C_Part) (ks := ks) (xs := xs) rfl (by simp [valUn]) T.cl_Part T.nA_Part__answers rfl (okUs_of fun x m => (hok x m).1) rfl (fun k acc ρ => ρ = [.un, .un, .un] ∧ acc = (itemsU ks xs).take k) ⟨rfl, rfl⟩ ?_ ?_
  · rintro k d acc ρ hd hl2 ⟨rfl, rfl⟩
    obtain ⟨key, x, h1, h2, rfl⟩ := itemsU_at hd
    have kl : k < xs.length := (List.getElem?_eq_some_iff.mp h2).1
    refine wg_tup ⟨_, rfl, rfl, ?_⟩
    repeat (walk_at "u")
    refine callU [true] rfl rfl fun Q' X' qq xx => ⟨x, rfl, hok x (List.mem_of_getElem? h2), fun r hr2 => qq _ _ ?_⟩
    have er : r.fl = .dt x := by rcases hr2 with rfl | rfl <;> rfl
    clear qq xx Q' X'
    rw [er]
    walk_at "unorm"
    repeat (walk_at "u")
    have l : ((itemsU ks xs).take k).length < 1000 := by rw [List.length_take]; omega
    exact ⟨_, _, frzC_ok rfl, l, rfl, rfl, (take_one hd).symm⟩
  · rintro acc ρ2 hl2 ⟨rfl, rfl⟩
    rw [List.take_length]
    repeat (walk_at "u")
    exact q
end

/-! ### sorted(xs), xs a list of tuples of texts -/
def rSortedTL (K : PySem.W.Frag) : List V → Hp → VK → Prop := fun vs H Q => ∃ (l : Addr) (qs : List (List Key × V)) (bs : List Addr), vs = [.ref l] ∧ SqL K H l (bs.map V.ref) ∧ PySem.W.EachIs (fun b q => H b = some (.tup (q.1.map kV))) bs qs ∧ (∀ p ∈ qs, TxtKey p.1) ∧
  ∀ (p : Addr) (bs' : List Addr), H p = none → PySem.W.EachIs (fun b q => H b = some (.tup (q.1.map kV))) bs' (qs.mergeSort leT) → Q (.ref p) (upd H p (.lst (bs'.map V.ref)))
theorem each_vals {H : Hp} : ∀ {bs : List Addr} {qs : List (List Key × V)}, PySem.W.EachIs (fun b (q : List Key × V) => H b = some (.tup (q.1.map kV))) bs qs → PySem.W.EachIs (fun v (q : List Key × V) => ∃ b, v = Value.ref b ∧ H b = some (.tup (q.1.map kV))) (bs.map Value.ref) qs
  | _, _, .nil => .nil
  | _, _, .cons h t => .cons ⟨_, rfl, h⟩ (each_vals t)
theorem refs_vals : ∀ {bs : List Addr} {its : List Value}, Vals (bs.map V.ref) its → its = bs.map Value.ref
  | [], _, h => by cases h; rfl
  | b :: bs, _, h => by
    cases h with
    | cons h1 h2 =>
      rw [refs_vals h2]
      exact congrArg (· :: bs.map Value.ref) h1
theorem cr_sortedTL {X : Cx} {K : PySem.W.Frag} (hK : X.K = K) (hu : X.A.units + 64 < cLine) : CallR X (.builtin "sorted") (rSortedTL K) := by
  subst hK
  intro pins s σ H vs us Q I r h
  obtain ⟨l, qs, bs, rfl, hs, he, ht, q⟩ := h
  obtain ⟨its, rv, hl, hz⟩ := I.list hs
  rw [Vals.ref1 r]
  obtain rfl := refs_vals rv
  have each := each_vals he
  have rd : PySem.W.EachIs (fun v p => ∃ as, Reads s.heap v (tupD p) as) (bs.map Value.ref) qs := by
    refine each.mono ?_
    rintro v p ⟨b, rfl, e⟩
    exact Dp.reads I (.tuple (p.1.map keyD)) (.ref b) (.ref b) (.tup (.inl (.inl e)) (dp_keys _)) rfl
  have lb : bs.length = qs.length := he.length
  refine PySem.W.sorted_data (R := fun v (p : List Key × V) => ∃ b, v = Value.ref b ∧ H b = some (.tup (p.1.map kV))) (enc := tupD) hl.isList each rd (tup_alike ht) (tup_sortable ht) (by rw [List.length_map] at hz; omega) (fun p hp => ?_) fun out h1 h2 => ?_
  · show X.A.units + 2 + (PyData.depthAll (p.1.map keyD) + 1) < cLine
    rw [depth_keys]
    omega
  · obtain ⟨bs', rfl, qb⟩ := each_refs h2
    obtain ⟨ep, he'⟩ := PyProof.Rows.sortedAll_at s.heap (bs.map Value.ref) (bs'.map Value.ref).toArray
    have lb' : bs'.length = qs.length := by rw [qb.length, List.length_mergeSort]
    exact ⟨.ref _, upd H (s.heap.objs.size + 1) (.lst (bs'.map V.ref)), I.laid (t' := s.toks) (fun _ _ => PyProof.Rows.sortedAll_old) (Nat.le_succ _) ⟨by rw [List.length_map] at hz ⊢; omega, bs'.map Value.ref, ep, vals_refs bs', he'⟩, rfl, q _ bs' (I.hok.fresh (Nat.le_succ _)) qb⟩
theorem tups_at {K : PySem.W.Frag} {G : Hp} : ∀ {ks : List (List Key)} {xs : List V}, AtAll K G xs (ks.map tupU) → ∃ bs : List Addr, xs = bs.map V.ref ∧ PySem.W.EachIs (fun b (q : List Key × V) => G b = some (.tup (q.1.map kV))) bs (ks.map fun k => (k, V.non))
  | [], _, h => by cases h; exact ⟨[], rfl, .nil⟩
  | k :: ks, _, h => by
    cases h with
    | cons h1 h2 =>
      obtain ⟨bs, rfl, hb⟩ := tups_at h2
      cases h1 with
      | tup g a =>
        rename_i b ys
        have e := at_keys a (keysI k)
        subst e
        exact ⟨b :: bs, rfl, .cons g hb⟩
section
variable {K : PySem.W.Frag} {W : Wx} {X : Er → Sls → Prop} {ρ : Sls}
theorem wc_sortedTL {a : Av} {ks : List (List Key)} {Q : Av → Sls → Prop} (ha : View ρ a (.lst (ks.map tupU))) (ht : ∀ k ∈ ks, TxtKey k) (q : Q (.own (.lst ((sortT ks).map tupU))) ρ) : WC K W (rSortedTL K) [a] ρ Q X := by
  rintro s vs Q0 rfl D _ h k
  obtain ⟨v, rfl, hv⟩ := avs_one h
  obtain ⟨l, xs, rfl, e1, e2⟩ := view_list D hv ha
  obtain ⟨bs, rfl, hb⟩ := tups_at e2
  refine ⟨l, ks.map fun k => (k, V.non), bs, rfl, SqL.of e1, hb.mono fun b q e => D.sub _ _ e, fun p hp => ?_, fun p bs' hp hb' => ?_⟩
  · obtain ⟨k', hk, rfl⟩ := List.mem_map.mp hp
    exact ht _ hk
  · obtain ⟨G1, n1, D1, a1⟩ := adoptTs D hb'
    refine (k.lift (s1 := { s with G := G1 }) ⟨n1, D1, rfl⟩).new (d := .lst ((sortT ks).map tupU)) D1 hp (.lst ?_) q
    have e : (((ks.map fun k => (k, V.non)).mergeSort leT).map fun q => tupU q.1) = (sortT ks).map tupU := by
      have := sortT_of (ks.map fun k => (k, V.non))
      rw [List.map_map] at this
      have e2 : ((fun x : List Key × V => x.1) ∘ fun k : List Key => (k, V.non)) = id := rfl
      rw [show (ks.map ((fun x : List Key × V => x.1) ∘ fun k : List Key => (k, V.non))) = ks from by rw [e2, List.map_id]] at this
      rw [← this, List.map_map]
      rfl
    rw [e] at a1
    exact a1
end

/-! ### what is sorted and then picked -/
theorem sort_filter (l : List (List Key)) (p : List Key → Bool) : (sortT l).filter p = sortT (l.filter p) := by
  have tl : PySem.W.TotalLe (PySem.W.dataLe false keyDs) := PySem.W.sortLe_total _ _ _
  have comm : ∀ (m : List (List Key)) (q : List Key → Bool), (m.filter p).filter q = (m.filter q).filter p := fun m q => by
    rw [List.filter_filter, List.filter_filter]
    congr 1
    funext x
    exact Bool.and_comm _ _
  refine PySem.W.sort_unique tl ((PySem.W.sort_pairwise tl l).filter _) fun c => ?_
  show ((sortT l).filter p).filter _ = _
  rw [comm, comm]
  exact congrArg (List.filter p) (PySem.W.sort_stable tl l c)

/-! ### what is due -/
theorem atI_z {α : Type} (x : α) (r : List α) : atI (x :: r) ((0 : Nat) : Int) = some x := by
  simp [atI, ixN]
def keyP (ps : List Str) : List Key := ps.map Sum.inr
theorem tupU_key (ps : List Str) : tupU (keyP ps) = .tup (ps.map .str) := by
  unfold tupU keyP
  rw [List.map_map]
  rfl
def ansK (es : List U) (k : List Key) : U := (valU (pathsU es) (ansU es) k).getD .non
def pickK (es : List U) (k : List Key) : List U := (es.filter fun e => decide ((entP e).1 = k)).map fun e => (entP e).2
theorem pick_head (k : List Key) : ∀ es : List U, ansK es k = ((pickK es k).head?).getD .non
  | [] => rfl
  | e :: es => by
    unfold ansK pickK
    show ((valU ((entP e).1 :: pathsU es) ((entP e).2 :: ansU es) k).getD .non) = _
    unfold valU
    by_cases h : (entP e).1 = k
    · rw [if_pos h, List.filter_cons_of_pos (by simpa using h)]
      rfl
    · rw [if_neg h, List.filter_cons_of_neg (by simpa using h)]
      exact pick_head k es
def r_ansat : RU := fun ρ Q _ => ∃ (es : List U) (ag : Bool) (zs ps : List Str), ρ = [.val (.lst es), .val (.tup (ps.map .str))] ∧ es.length ≤ 40 ∧ (∀ z ∈ zs, CallS z) ∧ (∀ e ∈ es, PairE ag zs e) ∧ ps.length ≤ 8 ∧ (∀ p ∈ ps, p ∈ zs) ∧ Q (.dt (ansK es (keyP ps))) [.val (.lst es), .val (.tup (ps.map .str))]
theorem path8 {zs ps : List Str} (hc : ∀ z ∈ zs, CallS z) (hp : ∀ p ∈ ps, p ∈ zs) (hl : ps.length ≤ 8) : okU (.tup (ps.map .str)) = true ∧ SeqAt.shaped (dU (.tup (ps.map .str))) = true := by
  have key : okUs (ps.map U.str) = true ∧ fineAll (dUs (ps.map U.str)) = true ∧ PyData.depthAll (dUs (ps.map U.str)) ≤ 1 := by
    clear hl
    induction ps with
    | nil => exact ⟨rfl, rfl, Nat.zero_le _⟩
    | cons p ps ih =>
      obtain ⟨i1, i2, i3⟩ := ih fun x hx => hp x (List.mem_cons_of_mem _ hx)
      obtain ⟨_, c2, c3⟩ := hc p (hp p List.mem_cons_self)
      refine ⟨i1, ?_, ?_⟩
      · show (fine (.str p) && fineAll (dUs (ps.map U.str))) = true
        rw [fine_str c3 c2, i2]
        rfl
      · show max 0 (PyData.depthAll (dUs (ps.map U.str))) ≤ 1
        omega
  refine ⟨key.1, shaped_fine ?_ ?_⟩
  · show (decide ((dUs (ps.map U.str)).length ≤ 1000) && fineAll (dUs (ps.map U.str))) = true
    rw [key.2.1, decide_eq_true (show (dUs (ps.map U.str)).length ≤ 1000 by rw [dUs_map, List.length_map, List.length_map]; omega)]
    rfl
  · show PyData.depthAll (dUs (ps.map U.str)) + 1 ≤ 64
    omega
theorem answers_shaped {xs : List U} (hl : xs.length ≤ 40) (h : ∀ x ∈ xs, AnsU x) : okU (.lst xs) = true ∧ SeqAt.shaped (dU (.lst xs)) = true := by
  refine pairs_shaped (by omega) fun e he => ?_
  obtain ⟨_, h2, h3, h4⟩ := h e he
  exact ⟨h2, h3, Nat.le_trans h4 (by decide)⟩
theorem pick_snoc {es : List U} {j : Nat} {e : U} {k : List Key} (h : es[j]? = some e) : pickK (es.take (j + 1)) k = if (entP e).1 = k then pickK (es.take j) k ++ [(entP e).2] else pickK (es.take j) k := by
  unfold pickK
  rw [take_one h, List.filter_append, List.map_append]
  by_cases z : (entP e).1 = k
  · rw [if_pos z, List.filter_cons_of_pos (by simpa using z)]
    rfl
  · rw [if_neg z, List.filter_cons_of_neg (by simpa using z)]
    exact List.append_nil _
section
variable {P : Program} {w : World} {K : PySem.W.Frag} {mg : Str → Option Value} {base : Heap}
theorem uk_answer_at (T : Txt K mg) : FnOk P w K mg base CX0 1 T.f_law_answer_at T.fd_law_answer_at ["pairs", "path"] (spU K r_ansat) := by
  refine Fun_okU T.F_law_answer_at sc_law_answer_at (fun ρ Q X h => ?_) (fun cdv A outer s H E hr => ⟨_, (pss_cons (ps_setLc (i := 2) (own := [("known", 3), ("answer", 4)]) (g := gTup K 2 (gCons (gName 3) (gCons (gName 4) gNil))) rfl sc_law_answer_at.nd rfl rfl (sw_true rfl rfl rfl (by decide +kernel)) (pi_list (pv 0)) (blkOk_by (own := [("known", 3), ("answer", 4)]) (N := ["pairs", "path", "found", "known", "answer"]) (sc := defScope s_law_answer_at) (by decide +kernel)) (fun _ _ _ _ _ => pg_tup rfl (pgs_cons (pg_name (i := 3) sc_law_answer_at.nd rfl (.inl rfl)) (pgs_cons (pg_name (i := 4) sc_law_answer_at.nd rfl (.inl rfl)) pgs_nil))) (fun _ _ _ _ _ => pts_one ((pt_cmpR (op_eqDK (K := K) rfl hr.units) (pv 3) (pv 1) (nomark _)))) (fun _ _ _ _ _ => (pv 4)))
        (pss_one (ps_ret (pe_ifExp (pt_cmpR (op_neD hr.units) (pv 2) (pe_lst pa_nil) (nomark _)) (pe_ix ix_list (pv 2) pe_int (fun _ _ => rfl)) pe_non)))), ?_⟩)
  · obtain ⟨es, ag, zs, ps, rfl, _⟩ := h
    rfl
  rintro W ρ Qd Xd ⟨es, ag, zs, ps, rfl, hl, hc, he, hp, hz, q⟩
  show WS K _ _ [.val _, .val _, .un, .un, .un] _
  repeat (walk_at "u")
  refine ⟨_, _, frzC_ok rfl, rfl, fun k acc ρ => ρ = [.val (.lst es), .val (.tup (ps.map .str)), .un, .un, .un] ∧ acc = pickK (es.take k) (keyP ps), ⟨rfl, rfl⟩, ?_, ?_⟩
  · rintro k d acc ρ hd hl2 ⟨rfl, rfl⟩
    obtain ⟨qs, a, rfl, g1, g2, g3, g4, ga, gr⟩ := he d (List.mem_of_getElem? hd)
    refine wg_tup ⟨_, rfl, rfl, ?_⟩
    repeat (walk_at "u")
    have pq := path8 hc g4 (Nat.le_trans g2 (by decide))
    have pp := path8 hc hz hp
    refine wr_eqD rfl rfl pq.1 pp.1 pq.2 pp.2 ?_
    rw [show PyData.eqv (dU (.tup (qs.map .str))) (dU (.tup (ps.map .str))) = decide (qs = ps) from eqv_strs qs ps]
    have kl : k < es.length := (List.getElem?_eq_some_iff.mp hd).1
    have hk : (entP (.tup [.tup (qs.map .str), a])).1 = keyP qs := congrArg Prod.fst (entP_pair qs a)
    have ha : (entP (.tup [.tup (qs.map .str), a])).2 = a := congrArg Prod.snd (entP_pair qs a)
    have sn := pick_snoc (k := keyP ps) hd
    rw [hk, ha] at sn
    repeat (walk_at "u")
    refine ite2 (fun z => ?_) (fun z => ?_)
    · have z := of_decide_eq_true z
      rw [if_pos (by rw [z])] at sn
      repeat (walk_at "u")
      exact ⟨_, _, frzC_ok rfl, by omega, rfl, rfl, sn.symm⟩
    · have z : ¬ qs = ps := fun e => z (decide_eq_true e)
      rw [if_neg (show ¬ keyP qs = keyP ps from fun e => z (inr_inj e))] at sn
      exact ⟨rfl, rfl, sn.symm⟩
  · rintro acc ρ hl2 ⟨rfl, rfl⟩
    rw [List.take_length] at hl2 ⊢
    have hx : ∀ x ∈ pickK es (keyP ps), AnsU x := fun x m => by
      unfold pickK at m
      obtain ⟨e, me, rfl⟩ := List.mem_map.mp m
      obtain ⟨qs, a, rfl, g1, g2, g3, g4, ga, gr⟩ := he e (List.mem_filter.mp me).1
      have ha : (entP (.tup [.tup (qs.map .str), a])).2 = a := congrArg Prod.snd (entP_pair qs a)
      rw [ha]
      exact ga
    have hs := answers_shaped (by omega) hx
    have hh := pick_head (keyP ps) es
    repeat (walk_at "u")
    show WR K W _ (.sl 2) (.dt _) [.val _, .val _, .own _, .un, .un] _ _
    refine wr_neD (d := .lst (pickK es (keyP ps))) (e := .lst []) ⟨_, rfl, .inr rfl⟩ rfl hs.1 rfl hs.2 rfl ?_
    rw [hh] at q
    generalize pickK es (keyP ps) = xs at hs q hl2 ⊢
    cases xs with
    | nil =>
      refine ⟨_, rfl, ?_⟩
      refine uF rfl ?_
      repeat (walk_at "u")
      exact q
    | cons x r =>
      refine ⟨_, rfl, ?_⟩
      refine uT rfl ?_
      repeat (walk_at "u")
      refine wr_ixL ⟨_, rfl, .inr rfl⟩ (atI_z x r) ?_
      repeat (walk_at "u")
      exact q
end

/-! ### the entries that are due, in order -/
def livesE (e : U) : Bool := !nonU (entP e).2
def keysN (es : List U) : List (List Key) := (es.filter livesE).map fun e => (entP e).1
def keptU (es : List U) : List U := (sortT (keysN es)).map fun k => .tup [tupU k, ansK es k]
theorem keysN_snoc {es : List U} {j : Nat} {e : U} (h : es[j]? = some e) : keysN (es.take (j + 1)) = if livesE e = true then keysN (es.take j) ++ [(entP e).1] else keysN (es.take j) := by
  unfold keysN
  rw [take_one h, List.filter_append, List.map_append]
  by_cases z : livesE e = true
  · rw [if_pos z, List.filter_cons_of_pos z]
    rfl
  · rw [if_neg z, List.filter_cons_of_neg z]
    exact List.append_nil _
theorem keysN_path {es : List U} {ag : Bool} {zs : List Str} (he : ∀ e ∈ es, PairE ag zs e) {k : List Key} (m : k ∈ keysN es) : ∃ ps : List Str, k = keyP ps ∧ ps ≠ [] ∧ ps.length ≤ 4 ∧ ∀ p ∈ ps, p ∈ zs := by
  unfold keysN at m
  obtain ⟨e, me, rfl⟩ := List.mem_map.mp m
  obtain ⟨qs, a, rfl, g1, g2, g3, g4, _⟩ := he e (List.mem_filter.mp me).1
  exact ⟨qs, congrArg Prod.fst (entP_pair qs a), g1, g2, g4⟩
def r_kept : RU := fun ρ Q _ => ∃ (es : List U) (ag : Bool) (zs : List Str), ρ = [.val (.lst es)] ∧ es.length ≤ 40 ∧ (∀ z ∈ zs, CallS z) ∧ (∀ e ∈ es, PairE ag zs e) ∧ Q (.own (.lst (keptU es))) [.val (.lst es)]
section
variable {P : Program} {w : World} {K : PySem.W.Frag} {mg : Str → Option Value} {base : Heap}
theorem uk_kept (T : Txt K mg) : FnOk P w K mg base CX0 2 T.f_law_kept T.fd_law_kept ["pairs"] (spU K r_kept) := by
  have G_law_answer_at := uk_answer_at (P := P) (w := w) (base := base) T
  refine Fun_okU T.F_law_kept sc_law_kept (fun ρ Q X h => ?_) (fun cdv A outer s H E hr => ⟨_, (pss_cons (ps_set (i := 1) sc_law_kept.nd rfl (.inl rfl) (pe_callB (cr_sortedTL (K := K) rfl hr.units) (by rfl) T.m_sorted (by decide +kernel) (pa_cons (pe_lc (own := [("path", 2), ("answer", 3)]) (g := gTup K 2 (gCons (gName 2) (gCons (gName 3) gNil))) rfl sc_law_kept.nd (pi_list (pv 0)) (blkOk_by (own := [("path", 2), ("answer", 3)]) (N := ["pairs", "paths", "path", "answer"]) (sc := defScope s_law_kept) (by decide +kernel)) (fun _ _ _ _ _ => pg_tup rfl (pgs_cons (pg_name (i := 2) sc_law_kept.nd rfl (.inl rfl)) (pgs_cons (pg_name (i := 3) sc_law_kept.nd rfl (.inl rfl)) pgs_nil))) (fun _ _ _ _ _ => pts_one ((pt_cmpR op_notN (pv 3) pe_non (nomark _)))) (fun _ _ _ _ _ => (pv 2))) pa_nil)))
        (pss_one (ps_ret (pe_lc (own := [("path", 2)]) (g := gName 2) rfl sc_law_kept.nd (pi_list (pv 1)) (blkOk_by (own := [("path", 2)]) (N := ["pairs", "paths", "path", "answer"]) (sc := defScope s_law_kept) (by decide +kernel)) (fun _ _ _ _ _ => pg_name (i := 2) sc_law_kept.nd rfl (.inl rfl)) (fun _ _ _ _ _ => pts_nil) (fun _ _ _ _ _ => (pe_tup (pa_cons (pv 2) (pa_cons (pe_call G_law_answer_at hr (by rfl) T.g_law_answer_at T.F_law_answer_at.kp T.b_law_answer_at .nil pass0 (pa_cons (pv 0) (pa_cons (pv 2) pa_nil))) pa_nil)))))))), ?_⟩)
  · obtain ⟨es, ag, zs, rfl, _⟩ := h
    rfl
  rintro W ρ Qd Xd ⟨es, ag, zs, rfl, hl, hc, he, q⟩
  show WS K _ _ [.val _, .un, .un, .un] _
  repeat (walk_at "u")
  refine ⟨_, _, frzC_ok rfl, rfl, fun k acc ρ => ρ = [.val (.lst es), .un, .un, .un] ∧ acc = (keysN (es.take k)).map tupU, ⟨rfl, rfl⟩, ?_, ?_⟩
  · rintro k d acc ρ hd hl2 ⟨rfl, rfl⟩
    obtain ⟨qs, a, rfl, g1, g2, g3, g4, ga, gr⟩ := he d (List.mem_of_getElem? hd)
    refine wg_tup ⟨_, rfl, rfl, ?_⟩
    repeat (walk_at "u")
    have kl : k < es.length := (List.getElem?_eq_some_iff.mp hd).1
    have hk : (entP (.tup [.tup (qs.map .str), a])).1 = keyP qs := congrArg Prod.fst (entP_pair qs a)
    have ha : livesE (.tup [.tup (qs.map .str), a]) = !nonU a := by
      unfold livesE
      rw [show (entP (.tup [.tup (qs.map .str), a])).2 = a from congrArg Prod.snd (entP_pair qs a)]
    have sn := keysN_snoc hd
    rw [hk, ha] at sn
    cases hn : nonU a with
    | false =>
      rw [hn] at sn
      have sn := sn.trans (if_pos (show (!false) = true from rfl))
      refine uT (by rfl) ?_
      repeat (walk_at "u")
      refine ⟨_, _, frzC_ok rfl, by omega, rfl, rfl, ?_⟩
      rw [sn, List.map_append]
      exact congrArg _ (congrArg (fun x => [x]) (tupU_key qs).symm)
    | true =>
      rw [hn] at sn
      have sn := sn.trans (if_neg (show ¬ ((!true) = true) by decide))
      refine uF (by rfl) ?_
      exact ⟨rfl, rfl, by rw [sn]⟩
  · rintro acc ρ hl2 ⟨rfl, rfl⟩
    rw [List.take_length] at hl2 ⊢
    rw [List.length_map] at hl2
    show WA K W _ [.val _, .un, .un, .un] _ _
    repeat (walk_at "u")
    refine wc_sortedTL rfl (fun k m => ?_) ?_
    · obtain ⟨ps, rfl, h1, _⟩ := keysN_path he m
      exact path_txt h1
    repeat (walk_at "u")
    have hks : ∀ k ∈ sortT (keysN es), ∃ ps : List Str, k = keyP ps ∧ ps ≠ [] ∧ ps.length ≤ 4 ∧ ∀ p ∈ ps, p ∈ zs := fun k m => keysN_path he ((List.mergeSort_perm _ _).mem_iff.mp m)
    have lks : (sortT (keysN es)).length ≤ 40 := by
      unfold sortT keysN
      rw [List.length_mergeSort, List.length_map]
      exact Nat.le_trans (List.length_filter_le _ _) hl
    have q : Qd (Av.own (U.lst ((sortT (keysN es)).map fun k => .tup [tupU k, ansK es k]))) [Sl.val (U.lst es)] := q
    generalize sortT (keysN es) = ks at hks lks q ⊢
    refine ⟨_, _, frzC_ok rfl, rfl, fun j acc ρ => ρ = [.val (.lst es), .val (.lst (ks.map tupU)), .un, .un] ∧ acc = (ks.take j).map fun k => .tup [tupU k, ansK es k], ⟨rfl, rfl⟩, ?_, ?_⟩
    · rintro j d acc ρ hd hl3 ⟨rfl, rfl⟩
      rw [List.getElem?_map] at hd
      cases hk : ks[j]? with
      | none => rw [hk] at hd; cases hd
      | some k =>
        rw [hk] at hd
        cases hd
        obtain ⟨ps, rfl, h1, h2, h3⟩ := hks k (List.mem_of_getElem? hk)
        have kl : j < ks.length := (List.getElem?_eq_some_iff.mp hk).1
        have tk := take_one hk
        have lj : ((ks.take j).map fun k => U.tup [tupU k, ansK es k]).length < 1000 := by rw [List.length_map, List.length_take]; omega
        have fin : ((ks.take j).map fun k => U.tup [tupU k, ansK es k]) ++ [.tup [.tup (ps.map .str), ansK es (keyP ps)]] = (ks.take (j + 1)).map fun k => U.tup [tupU k, ansK es k] := by
          rw [tk, List.map_append, ← tupU_key]
          rfl
        rw [tupU_key]
        repeat (walk_at "u")
        refine callU [true, true] rfl rfl fun Q' X' qq xx => ⟨es, ag, zs, ps, rfl, hl, hc, he, by omega, h3, qq _ _ ?_⟩
        walk_at "ucl"
        repeat (walk_at "u")
        exact ⟨_, _, frzC_ok rfl, lj, rfl, rfl, fin⟩
    · rintro acc ρ hl3 ⟨rfl, rfl⟩
      rw [List.length_map, List.take_length]
      repeat (walk_at "u")
      exact q
end

/-! ### repr, chained comparisons by data -/
def rRepr (K : PySem.W.Frag) : List V → Hp → VK → Prop := fun xs H Q => ∃ v d, xs = [v] ∧ Dp K H v d ∧ PyData.showable d = true ∧ PyData.depth d ≤ 60 ∧ (PyData.shown d).length ≤ 1000000 ∧ Q (.str (PyData.shown d)) H
mutual
theorem dp_nodict {K : PySem.W.Frag} {H : Hp} : ∀ (d : PyData) (v : V), Dp K H v d → PyData.hasDict d = false
  | .none, _, _ => rfl
  | .bool _, _, _ => rfl
  | .int _, _, _ => rfl
  | .str _, _, _ => rfl
  | .list ds, _, h => by
    cases h with
    | lst _ ha => exact dps_nodict ds _ ha
  | .tuple ds, _, h => by
    cases h with
    | tup _ ha => exact dps_nodict ds _ ha
  | .dict _, _, h => by cases h
theorem dps_nodict {K : PySem.W.Frag} {H : Hp} : ∀ (ds : List PyData) (vs : List V), DpAll K H vs ds → PyData.hasDictAll ds = false
  | [], _, _ => rfl
  | d :: r, _, h => by
    cases h with
    | cons h1 h2 =>
      show (PyData.hasDict d || PyData.hasDictAll r) = false
      rw [dp_nodict d _ h1, dps_nodict r _ h2]
      rfl
end
theorem call_reprD {X : Cx} (hg : X.A.guards = some []) (hu : X.A.units + 64 < cLine) : CallR X (.builtin "repr") (rRepr X.K) := by
  intro pins s σ H xs us Q I r h
  obtain ⟨v, d, rfl, hd, hs, hp, hl, q⟩ := h
  obtain ⟨u, rfl, ru⟩ := vals1 r
  obtain ⟨as, rd⟩ := Dp.reads I d v u hd ru
  have nd := dp_nodict d v hd
  have hl : (PyData.shown d).length ≤ sizeLine := Nat.le_trans hl (by decide)
  cases hd with
  | non =>
    cases ru
    exact P.repr_of_none ⟨.str _, H, I.tok _, ⟨_, rfl⟩, q⟩
  | bl b =>
    cases ru
    exact P.repr_of_bool ⟨.str _, H, I.tok _, ⟨_, rfl⟩, q⟩
  | int i =>
    obtain ⟨t, rfl⟩ := ru
    exact P.repr_of_int (of_decide_eq_true hs) ⟨.str _, H, I.tok _, ⟨_, rfl⟩, q⟩
  | str z =>
    obtain ⟨t, rfl⟩ := ru
    exact P.repr_of_str ⟨.str _, H, I.tok _, ⟨_, rfl⟩, q⟩ hl
  | lst _ _ =>
    cases ru
    exact repr_of_reads' rd hs (fun z => by rw [nd] at z; cases z) hg (by omega) (fun _ _ e => e) (fun h2 t tk k => ⟨.str _, H, I.kept (t' := tk) k, ⟨_, rfl⟩, q⟩) hl
  | tup _ _ =>
    cases ru
    exact repr_of_reads' rd hs (fun z => by rw [nd] at z; cases z) hg (by omega) (fun _ _ e => e) (fun h2 t tk k => ⟨.str _, H, I.kept (t' := tk) k, ⟨_, rfl⟩, q⟩) hl
/-! readings within a comprehension must not name its context -/
theorem ix_listK {X : Cx} {K : PySem.W.Frag} (hK : X.K = K) : IxR X (rIxL K) := hK ▸ ix_list
theorem call_reprDK {X : Cx} {K : PySem.W.Frag} (hK : X.K = K) (hg : X.A.guards = some []) (hu : X.A.units + 64 < cLine) : CallR X (.builtin "repr") (rRepr K) := hK ▸ call_reprD hg hu
section
variable {K : PySem.W.Frag} {W : Wx} {X : Er → Sls → Prop} {ρ : Sls}
theorem wc_repr {a : Av} {d : U} {Q : Av → Sls → Prop} (ha : View ρ a d) (ok : okU d = true) (hs : PyData.showable (dU d) = true) (hp : PyData.depth (dU d) ≤ 60) (hl : (PyData.shown (dU d)).length ≤ 1000000) (q : Q (.dt (.str (PyData.shown (dU d)))) ρ) : WC K W (rRepr K) [a] ρ Q X := by
  rintro s vs Q0 rfl D _ h0 k
  obtain ⟨v, rfl, h⟩ := avs_one h0
  exact ⟨v, dU d, rfl, at_dp d v (view_at D h ha) ok, hs, hp, hl, k.dt D (.str _) q⟩
theorem we_chain {r r' : R2} {ta tb tc : TE} {Q : Av → Sls → Prop} (h : WE K W ta ρ (fun a ρ1 => WE K W tb ρ1 (fun b ρ2 => WR K W r a.fl b.fl ρ2 (fun c ρ3 => ∃ k, c = .dt (.bl k) ∧ if k = true then WE K W tc ρ3 (fun e ρ4 => WR K W r' b.fl e.fl ρ4 Q X) X else Q (.dt (.bl false)) ρ3) X) X) X) : WE K W (tChain r r' ta tb tc) ρ Q X := by
  rintro s Q0 rfl D x k
  refine WE.flat (Q := fun a ρ1 => WE K W tb ρ1 (fun b ρ2 => WR K W r a b.fl ρ2 (fun c ρ3 => ∃ k, c = .dt (.bl k) ∧ if k = true then WE K W tc ρ3 (fun e ρ4 => WR K W r' b.fl e.fl ρ4 Q X) X else Q (.dt (.bl false)) ρ3) X) X) h rfl D x fun v a s1 n1 f1 ok1 q1 => ?_
  show tb s.σ s1.H _
  rw [← n1.slots]
  refine WE.flat (Q := fun b ρ2 => WR K W r a b ρ2 (fun c ρ3 => ∃ k, c = .dt (.bl k) ∧ if k = true then WE K W tc ρ3 (fun e ρ4 => WR K W r' b e.fl ρ4 Q X) X else Q (.dt (.bl false)) ρ3) X) q1 rfl n1.den (x.next n1.stp) fun w b s2 n2 f2 ok2 q2 => ?_
  have n12 := n1.trans n2
  refine q2 s2 v w _ rfl n2.den (x.next n12.stp) ((AvOk.next f1 n2 ok1).self f1) ok2 fun z c s3 n3 ok3 ⟨k3, e3, q3⟩ => ?_
  subst e3
  have ok3 : At K s3.G z (.bl k3) := ok3
  cases ok3
  refine ⟨k3, rfl, ?_⟩
  have n13 := n12.trans n3
  cases k3 with
  | false => exact iteF (k _ (.dt (.bl false)) s3 n13 (At.bl false) (by simpa using q3))
  | true =>
    refine iteT ?_
    have q3 : WE K W tc s3.ρ (fun e ρ4 => WR K W r' b e.fl ρ4 Q X) X := by simpa using q3
    rw [← (n2.trans n3).slots]
    refine WE.flat (Q := fun e ρ4 => WR K W r' b e ρ4 Q X) q3 rfl n3.den (x.next n13.stp) fun y e s4 n4 f4 ok4 q4 => ?_
    exact q4 s4 w y Q0 rfl n4.den (x.next (n13.trans n4).stp) ((AvOk.next f2 (n3.trans n4) ok2).self f2) ok4 (k.lift (n13.trans n4))
end

/-! ### what is told and what is due, compared -/
def r_equal : RU := fun ρ Q _ => ∃ (s : Sl) (d : U), ρ = [s, .val d] ∧ (s = .val d ∨ s = .bor d) ∧ AnsU d ∧ RepA d ∧ Q (.dt (.bl true)) [s, .val d]
theorem dec_self (z : Str) : decide (V.str z = V.str z) = true := decide_eq_true rfl
section
variable {P : Program} {w : World} {K : PySem.W.Frag} {mg : Str → Option Value} {base : Heap}
theorem len_equal : ∀ vs H Q E, spU K r_equal vs H Q E → vs.length = 2 := lenU (ps := ["one", "other"]) fun ρ Q X h => by
  obtain ⟨s, d, rfl, _⟩ := h
  rfl
theorem uk_equal (T : Txt K mg) : GOk P w K mg base 1 T.f_law_equal T.fd_law_equal ["one", "other"] (spU K r_equal) := by
  refine gOk_of T.F_law_equal sc_law_equal (fun ρ Q X h => ?_) (fun cdv A outer s H E hr hgd => ⟨_, (pss_cons (ps_if (PW.pt (pw_and (pt_val (pe_callB call_isi (by rfl) T.m_isinstance (by decide +kernel) (pa_cons (pv 0) (pa_cons (pe_bltn (v := .ty "list") (by rfl) T.m_list (by decide +kernel) rfl) pa_nil)))) (pw_and1 (pt_val (pe_callB call_isi (by rfl) T.m_isinstance (by decide +kernel) (pa_cons (pv 1) (pa_cons (pe_bltn (v := .ty "list") (by rfl) T.m_list (by decide +kernel) rfl) pa_nil))))))) (pss_cons (ps_if (pt_cmpR op_ne (pe_callB call_len (by rfl) T.m_len (by decide +kernel) (pa_cons (pv 0) pa_nil)) (pe_callB call_len (by rfl) T.m_len (by decide +kernel) (pa_cons (pv 1) pa_nil)) (nomark _)) (pss_one (ps_ret pe_bl)) pss_nil)
        (pss_one (ps_ret (pe_cmpR (op_eqD hr.units) (pe_lc (own := [("k", 2)]) (g := gName 2) rfl sc_law_equal.nd (pi_range1 (by rfl) T.m_range (pa_cons (pe_callB call_len (by rfl) T.m_len (by decide +kernel) (pa_cons (pv 0) pa_nil)) pa_nil)) (blkOk_by (own := [("k", 2)]) (N := ["one", "other", "k"]) (sc := defScope s_law_equal) (by decide +kernel)) (fun _ _ _ _ _ => pg_name (i := 2) sc_law_equal.nd rfl (.inl rfl)) (fun _ _ _ _ _ => pts_one ((pt_cmpR op_ne (pe_callB (call_reprDK (K := K) rfl hgd hr.units) (by rfl) T.m_repr (by decide +kernel) (pa_cons (pe_ix (ix_listK (K := K) rfl) (pv 0) (pv 2) (fun _ _ => rfl)) pa_nil)) (pe_callB (call_reprDK (K := K) rfl hgd hr.units) (by rfl) T.m_repr (by decide +kernel) (pa_cons (pe_ix (ix_listK (K := K) rfl) (pv 1) (pv 2) (fun _ _ => rfl)) pa_nil)) (nomark _)))) (fun _ _ _ _ _ => (pv 2))) (pe_lst pa_nil) (nomark _))))) pss_nil)
        (pss_one (ps_ret (pe_and (pe_not (pe_callB call_isi (by rfl) T.m_isinstance (by decide +kernel) (pa_cons (pv 0) (pa_cons (pe_bltn (v := .ty "list") (by rfl) T.m_list (by decide +kernel) rfl) pa_nil)))) (pe_one (pe_cmpR op_eq (pe_callB (call_reprDK (K := K) rfl hgd hr.units) (by rfl) T.m_repr (by decide +kernel) (pa_cons (pv 0) pa_nil)) (pe_callB (call_reprDK (K := K) rfl hgd hr.units) (by rfl) T.m_repr (by decide +kernel) (pa_cons (pv 1) pa_nil)) (nomark _))))))), ?_⟩)
  · obtain ⟨s, d, rfl, _⟩ := h
    rfl
  rintro W ρ Qd Xd ⟨s, d, rfl, hs, ha, hr2, q⟩
  rcases hs with rfl | rfl
  · show WS K _ _ [.val _, .val _, .un] _
    have ok := ha.2.1
    have fi := ha.2.2.1
    clear ha
    cases d
    case lst ds =>
      have fi : (decide ((dUs ds).length ≤ 1000) && fineAll (dUs ds)) = true := fi
      rw [Bool.and_eq_true] at fi
      have hl := of_decide_eq_true fi.1
      rw [dUs_map, List.length_map] at hl
      repeat (walk_at "u")
      refine uF (by rw [decide_eq_true rfl]; rfl) ?_
      repeat (walk_at "u")
      refine ⟨by omega, rfl, fun k acc ρ => ρ = [.val (.lst ds), .val (.lst ds), .un] ∧ acc = [], ⟨rfl, rfl⟩, ?_, ?_⟩
      · rintro k x acc ρ hx hl2 ⟨rfl, rfl⟩
        obtain ⟨hk, hxe⟩ := rgU_get hx
        have hk : k < ds.length := hk
        rw [Int.zero_add] at hxe
        subst hxe
        clear hx
        have rp := (hr2 ds[k] (List.getElem_mem hk)).rep (Nat.zero_le 4)
        have em : ds[k]? = some ds[k] := List.getElem?_eq_getElem hk
        repeat (walk_at "u")
        refine wr_ixL rfl (atI_nat em) ?_
        repeat (walk_at "u")
        refine wc_repr rfl rp.1 rp.2.1 rp.2.2.1 rp.2.2.2 ?_
        repeat (walk_at "u")
        refine wr_ixL rfl (atI_nat em) ?_
        repeat (walk_at "u")
        refine wc_repr rfl rp.1 rp.2.1 rp.2.2.1 rp.2.2.2 ?_
        repeat (walk_at "u")
        refine uF (by rw [dec_self]; rfl) ?_
        exact ⟨rfl, rfl, rfl⟩
      · rintro acc ρ hl2 ⟨rfl, rfl⟩
        show WE K W _ [.val _, .val _, .un] _ _
        repeat (walk_at "u")
        refine wr_eqD (d := .lst []) (e := .lst []) rfl rfl rfl rfl (by decide) (by decide) ?_
        repeat (walk_at "u")
        exact q
    all_goals (first | (cases ok; done) | skip)
    all_goals
      have rp := AnyU.rep (e := 1) hr2 (by decide)
      repeat (walk_at "u")
      refine wc_repr rfl rp.1 rp.2.1 rp.2.2.1 rp.2.2.2 ?_
      repeat (walk_at "u")
      refine wc_repr rfl rp.1 rp.2.1 rp.2.2.1 rp.2.2.2 ?_
      repeat (walk_at "u")
      rw [dec_self]
      exact q
  · show WS K _ _ [.bor _, .val _, .un] _
    have ok := ha.2.1
    have fi := ha.2.2.1
    clear ha
    cases d
    case lst ds =>
      have fi : (decide ((dUs ds).length ≤ 1000) && fineAll (dUs ds)) = true := fi
      rw [Bool.and_eq_true] at fi
      have hl := of_decide_eq_true fi.1
      rw [dUs_map, List.length_map] at hl
      repeat (walk_at "u")
      refine uF (by rw [decide_eq_true rfl]; rfl) ?_
      repeat (walk_at "u")
      refine ⟨by omega, rfl, fun k acc ρ => ρ = [.bor (.lst ds), .val (.lst ds), .un] ∧ acc = [], ⟨rfl, rfl⟩, ?_, ?_⟩
      · rintro k x acc ρ hx hl2 ⟨rfl, rfl⟩
        obtain ⟨hk, hxe⟩ := rgU_get hx
        have hk : k < ds.length := hk
        rw [Int.zero_add] at hxe
        subst hxe
        clear hx
        have rp := (hr2 ds[k] (List.getElem_mem hk)).rep (Nat.zero_le 4)
        have em : ds[k]? = some ds[k] := List.getElem?_eq_getElem hk
        repeat (walk_at "u")
        refine wr_ixL ⟨_, rfl, .inr rfl⟩ (atI_nat em) ?_
        repeat (walk_at "u")
        refine wc_repr rfl rp.1 rp.2.1 rp.2.2.1 rp.2.2.2 ?_
        repeat (walk_at "u")
        refine wr_ixL rfl (atI_nat em) ?_
        repeat (walk_at "u")
        refine wc_repr rfl rp.1 rp.2.1 rp.2.2.1 rp.2.2.2 ?_
        repeat (walk_at "u")
        refine uF (by rw [dec_self]; rfl) ?_
        exact ⟨rfl, rfl, rfl⟩
      · rintro acc ρ hl2 ⟨rfl, rfl⟩
        show WE K W _ [.bor _, .val _, .un] _ _
        repeat (walk_at "u")
        refine wr_eqD (d := .lst []) (e := .lst []) rfl rfl rfl rfl (by decide) (by decide) ?_
        repeat (walk_at "u")
        exact q
    all_goals (first | (cases ok; done) | skip)
    all_goals
      have rp := AnyU.rep (e := 1) hr2 (by decide)
      repeat (walk_at "u")
      refine wc_repr ⟨_, rfl, .inr rfl⟩ rp.1 rp.2.1 rp.2.2.1 rp.2.2.2 ?_
      repeat (walk_at "u")
      refine wc_repr rfl rp.1 rp.2.1 rp.2.2.1 rp.2.2.2 ?_
      repeat (walk_at "u")
      rw [dec_self]
      exact q
end

/-! ### entries told -/
theorem pick_mem {es : List U} {k : List Key} {x : U} (m : x ∈ pickK es k) : ∃ e ∈ es, (entP e).2 = x := by
  unfold pickK at m
  obtain ⟨e, me, rfl⟩ := List.mem_map.mp m
  exact ⟨e, (List.mem_filter.mp me).1, rfl⟩
theorem pair_ans {ag : Bool} {zs : List Str} {e : U} (h : PairE ag zs e) : AnsU (entP e).2 ∧ RepA (entP e).2 := by
  obtain ⟨qs, a, rfl, _, _, _, _, ga, gr⟩ := h
  rw [show (entP (.tup [.tup (qs.map .str), a])).2 = a from congrArg Prod.snd (entP_pair qs a)]
  exact ⟨ga, gr⟩
theorem ans_good {es : List U} {ag : Bool} {zs : List Str} (he : ∀ e ∈ es, PairE ag zs e) (k : List Key) : AnsU (ansK es k) ∧ RepA (ansK es k) := by
  rw [pick_head]
  cases h : pickK es k with
  | nil => exact ⟨⟨rfl, rfl, rfl, Nat.zero_le _⟩, any_non.up (Nat.zero_le 1)⟩
  | cons x r =>
    obtain ⟨e, me, ex⟩ := pick_mem (k := k) (show x ∈ pickK es k by rw [h]; exact List.mem_cons_self)
    have := pair_ans (he e me)
    rw [ex] at this
    exact this
theorem rep_path {zs ps : List Str} (hc : ∀ z ∈ zs, CallS z) (hp : ∀ p ∈ ps, p ∈ zs) (hl : ps.length ≤ 8) : RepU (.tup (ps.map .str)) := by
  have ok := (path8 hc hp hl).1
  have key : PyData.showableAll (dUs (ps.map U.str)) = true ∧ PyData.depthAll (dUs (ps.map U.str)) = 0 := by
    clear hl hp ok
    induction ps with
    | nil => exact ⟨rfl, rfl⟩
    | cons p r ih =>
      refine ⟨ih.1, ?_⟩
      show max 0 (PyData.depthAll (dUs (r.map U.str))) = 0
      rw [ih.2]
      rfl
  refine ⟨ok, key.1, ?_, ?_⟩
  · show PyData.depthAll (dUs (ps.map U.str)) + 1 ≤ 60
    rw [key.2]
    decide
  · have hp2 := piled_up (B := 100000) (ts := PyData.shownAll (dUs (ps.map U.str))) fun t ht => by
      obtain ⟨d, hd, rfl⟩ := shown_mem ht
      obtain ⟨p, mp, rfl⟩ := List.mem_map.mp hd
      obtain ⟨_, c2, c3⟩ := hc p (hp p mp)
      have := StrLaws.reprText_len p fun c hc => by
        unfold PyData.strOk at c3
        rw [← Array.all_toList] at c3
        have := of_decide_eq_true (List.all_eq_true.mp c3 c hc)
        exact Nat.lt_of_lt_of_le this (by decide)
      show (reprText p).length ≤ 100000
      omega
    rw [shown_len, List.length_map] at hp2
    refine Nat.le_trans (tuple_text _) ?_
    omega
theorem kept_at {es : List U} {ag : Bool} {zs : List Str} (he : ∀ e ∈ es, PairE ag zs e) {j : Nat} (h : j < (keptU es).length) : ∃ (ps : List Str) (a : U), (keptU es)[j]? = some (.tup [.tup (ps.map .str), a]) ∧ ps.length ≤ 8 ∧ (∀ p ∈ ps, p ∈ zs) ∧ AnsU a ∧ RepA a := by
  unfold keptU at h ⊢
  rw [List.length_map] at h
  have mem := (List.mergeSort_perm _ _).mem_iff.mp (List.getElem_mem h)
  obtain ⟨ps, e, _, h2, h3⟩ := keysN_path he mem
  obtain ⟨g1, g2⟩ := ans_good he (keyP ps)
  refine ⟨ps, ansK es (keyP ps), ?_, by omega, h3, g1, g2⟩
  rw [List.getElem?_map, List.getElem?_eq_getElem h, ← tupU_key, ← e]
  rfl
def r_areent : RU := fun ρ Q _ => ∃ (es : List U) (ag : Bool) (zs : List Str), ρ = [.val (.tup (keptU es)), .val (.lst es)] ∧ es.length ≤ 40 ∧ (∀ z ∈ zs, CallS z) ∧ (∀ e ∈ es, PairE ag zs e) ∧ Q (.dt (.bl true)) [.val (.tup (keptU es)), .val (.lst es)]
section
variable {P : Program} {w : World} {K : PySem.W.Frag} {mg : Str → Option Value} {base : Heap}
theorem len_areent : ∀ vs H Q E, spU K r_areent vs H Q E → vs.length = 2 := lenU (ps := ["told", "pairs"]) fun ρ Q X h => by
  obtain ⟨es, ag, zs, rfl, _⟩ := h
  rfl
theorem uk_areent (T : Txt K mg) : GOk P w K mg base 3 T.f_law_are_entries T.fd_law_are_entries ["told", "pairs"] (spU K r_areent) := by
  have G_law_kept := uk_kept (P := P) (w := w) (base := base) T
  have G_law_equal := uk_equal (P := P) (w := w) (base := base) T
  have L_law_equal := len_equal (K := K)
  refine gOk_of T.F_law_are_entries sc_law_are_entries (fun ρ Q X h => ?_) (fun cdv A outer s H E hr hgd => ⟨_, (pss_cons (ps_set (i := 2) sc_law_are_entries.nd rfl (.inl rfl) (pe_call G_law_kept hr (by rfl) T.g_law_kept T.F_law_kept.kp T.b_law_kept .nil pass0 (pa_cons (pv 1) pa_nil)))
        (pss_cons (ps_if (PW.pt (pw_or (pt_not (pt_val (pe_callB call_isi (by rfl) T.m_isinstance (by decide +kernel) (pa_cons (pv 0) (pa_cons (pe_bltn (v := .ty "tuple") (by rfl) T.m_tuple (by decide +kernel) rfl) pa_nil))))) (pw_or1 (pt_cmpR op_ne (pe_callB call_len (by rfl) T.m_len (by decide +kernel) (pa_cons (pv 0) pa_nil)) (pe_callB call_len (by rfl) T.m_len (by decide +kernel) (pa_cons (pv 2) pa_nil)) (nomark _))))) (pss_one (ps_ret pe_bl)) pss_nil)
        (pss_cons (ps_for PassesOwn.never rfl (pi_range1 (by rfl) T.m_range (pa_cons (pe_callB call_len (by rfl) T.m_len (by decide +kernel) (pa_cons (pv 2) pa_nil)) pa_nil)) (pg_name (i := 3) sc_law_are_entries.nd rfl (.inl rfl)) (pss_cons (ps_if (PW.pt (pw_or (pt_not (pt_val (pe_callB call_isi (by rfl) T.m_isinstance (by decide +kernel) (pa_cons (pe_ix ix_tup (pv 0) (pv 3) (fun _ _ => rfl)) (pa_cons (pe_bltn (v := .ty "tuple") (by rfl) T.m_tuple (by decide +kernel) rfl) pa_nil))))) (pw_or1 (pt_cmpR op_ne (pe_callB call_len (by rfl) T.m_len (by decide +kernel) (pa_cons (pe_ix ix_tup (pv 0) (pv 3) (fun _ _ => rfl)) pa_nil)) pe_int (nomark _))))) (pss_one (ps_ret pe_bl)) pss_nil)
        (pss_one (ps_if (PW.pt (pw_or (pt_cmpR op_ne (pe_callB (call_reprDK (K := K) rfl hgd hr.units) (by rfl) T.m_repr (by decide +kernel) (pa_cons (pe_ix ix_tup (pe_ix ix_tup (pv 0) (pv 3) (fun _ _ => rfl)) pe_int (fun _ _ => rfl)) pa_nil)) (pe_callB (call_reprDK (K := K) rfl hgd hr.units) (by rfl) T.m_repr (by decide +kernel) (pa_cons (pe_ix ix_tup (pe_ix ix_list (pv 2) (pv 3) (fun _ _ => rfl)) pe_int (fun _ _ => rfl)) pa_nil)) (nomark _)) (pw_or1 (pt_not (pt_val (pe_callG G_law_equal L_law_equal hgd (hr.mono (by omega)) (by rfl) T.g_law_equal T.F_law_equal.kp T.b_law_equal pass0 (pa_cons (pe_ix ix_tup (pe_ix ix_tup (pv 0) (pv 3) (fun _ _ => rfl)) pe_int (fun _ _ => rfl)) (pa_cons (pe_ix ix_tup (pe_ix ix_list (pv 2) (pv 3) (fun _ _ => rfl)) pe_int (fun _ _ => rfl)) pa_nil)))))))) (pss_one (ps_ret pe_bl)) pss_nil))))
        (pss_one (ps_ret pe_bl))))), ?_⟩)
  · obtain ⟨es, ag, zs, rfl, _⟩ := h
    rfl
  rintro W ρ Qd Xd ⟨es, ag, zs, rfl, hl, hc, he, q⟩
  show WS K _ _ [.val _, .val _, .un, .un] _
  have lk : (keptU es).length ≤ 40 := by
    unfold keptU sortT keysN
    rw [List.length_map, List.length_mergeSort, List.length_map]
    exact Nat.le_trans (List.length_filter_le _ _) hl
  repeat (walk_at "u")
  refine callU [true] rfl rfl fun Q' X' qq xx => ⟨es, ag, zs, rfl, hl, hc, he, qq _ _ ?_⟩
  walk_at "ucl"
  repeat (walk_at "u")
  refine uF (by rw [decide_eq_true rfl]; rfl) ?_
  repeat (walk_at "u")
  refine ⟨by omega, fun j ρ => ∃ t, ρ = [.val (.tup (keptU es)), .val (.lst es), .own (.lst (keptU es)), t] ∧ nb [t] 0 = true, ?_, ?_, ?_⟩
  · exact ⟨.un, rfl, rfl⟩
  · rintro j x ρ hxx ⟨t, rfl, ht⟩
    obtain ⟨hj, hxe⟩ := rgU_get hxx
    rw [Int.zero_add] at hxe
    subst hxe
    clear hxx
    have hj : j < (keptU es).length := hj
    obtain ⟨ps, a, em, h1, h2, h3, h4⟩ := kept_at he hj
    have rp := rep_path hc h2 h1
    repeat (walk_at "u")
    refine wr_ixT rfl (atI_nat em) ?_
    repeat (walk_at "u")
    refine wr_ixT rfl (atI_nat em) ?_
    repeat (walk_at "u")
    refine wr_ixT rfl (atI_nat em) ?_
    repeat (walk_at "u")
    refine wc_repr rfl rp.1 rp.2.1 rp.2.2.1 rp.2.2.2 ?_
    repeat (walk_at "u")
    refine wr_ixL ⟨_, rfl, .inr rfl⟩ (atI_nat em) ?_
    repeat (walk_at "u")
    refine wc_repr rfl rp.1 rp.2.1 rp.2.2.1 rp.2.2.2 ?_
    repeat (walk_at "u")
    refine uF (by rw [dec_self]; rfl) ?_
    repeat (walk_at "u")
    refine wr_ixT rfl (atI_nat em) ?_
    repeat (walk_at "u")
    refine wr_ixL ⟨_, rfl, .inr rfl⟩ (atI_nat em) ?_
    repeat (walk_at "u")
    refine callU [true, true] rfl rfl fun Q' X' qq xx => ⟨_, a, rfl, .inl rfl, h3, h4, qq _ _ ?_⟩
    walk_at "ucl"
    repeat (walk_at "u")
    rfl
  · rintro ρ ⟨t, rfl, ht⟩
    repeat (walk_at "u")
    exact q
end

/-! ### list(e.values()), e's keys tuples; len of such -/
def ViewV (d v : Addr) : HO := .ext fun g => g.IsValuesView v d
theorem rawT {X : Cx} {pins : List (Addr × Obj)} {σ : L2.St} {H : Hp} {s : Shared} {d : Addr} {kvs : List (List Key × V)} (I : Inv X pins σ H s) (h : H d = some (.dT kvs)) :
    (d == sysModules) = false ∧ kvs.length ≤ sizeLine ∧ ∃ (es : Array DictEntry) (ep : Nat), s.heap.DictRaw d es ep ∧ es.size = kvs.length ∧
      ∀ (i : Nat) (k : List Key) (v : V), kvs[i]? = some (k, v) → ∃ (en : DictEntry), es[i]? = some en ∧ RelV v en.val := by
  obtain ⟨z, hs, xs, pr, o, es, ep, ho, hx, hdt, he, _⟩ := I.hok d _ h
  refine ⟨hs, z, es, ep, ⟨o, ho, hx, hdt⟩, ?_, fun i k v e => ?_⟩
  · have l1 : es.size = xs.length := size_of_entries he
    have l2 : kvs.length = xs.length := Paired.length pr
    omega
  · obtain ⟨b, hb, e1, e2, e3⟩ := paired_get pr e
    have q := entry_at he i
    rw [hb] at q
    exact ⟨_, q, e3⟩
def tValsT (td : TE) : TE := fun σ H Q => td σ H fun x H1 => ∃ d kvs, x = .ref d ∧ H1 d = some (.dT kvs) ∧ ∀ v, H1 v = none → Q (.ref v) (upd H1 v (ViewV d v))
theorem pe_valsT {X : Cx} {e : Expr} {td : TE} {apos cpos : Pos} (he : PE X e td) (hbase : attributeBase e "values" X.env (eval e X.env) = eval e X.env := by rfl) (hline : (apos.endLine == cpos.line) = true := by rfl) :
    PE X (.Call (.Attribute e "values" apos) [] [] cpos) (tValsT td) := by
  refine ⟨fun pins s σ H Q I h => ?_⟩
  refine wpAny_Call_method (T := "dict") (id := "dict.values") hbase rfl hline PySem.F.plainAttrs_dict PySem.F.slot_dict_values PySem.F.type_dict_values (thn (he.run pins s σ H _ I h) fun u s1 ⟨x, H1, I1, rx, d, kvs, ex, hd, q⟩ => ?_)
  subst ex
  obtain rfl : u = Value.ref d := rx
  obtain ⟨hs, z, es, ep, raw, hsz, ent⟩ := rawT I1 hd
  refine ⟨raw.typeIs, fun a ea => (by cases ea; obtain ⟨o, ho, hc, _⟩ := raw; exact ⟨o, ho, hc.2.1⟩), ?_⟩
  have I2 : Inv X pins σ (upd H1 s1.heap.objs.size (ViewV d s1.heap.objs.size)) { s1 with heap := s1.heap.push { cls := .type "dict_values", data := .fields #[.ref d] } } :=
    I1.laid (t' := s1.toks) (fun b ob q => Heap.get?_push_of_some _ q) (Nat.le_refl _)
      (show ObjOk X.prog X.w _ _ _ (ViewV d s1.heap.objs.size) from ⟨⟨_, Heap.get?_push_size _ rfl, rfl, rfl⟩, ⟨_, Heap.get?_push_size _ rfl⟩, fun h1 h2 f k => by
        obtain ⟨o, ho, r⟩ := f
        exact ⟨o, k o ho, r⟩⟩)
  show wpAny _ _ (callWith cpos (.builtin "dict.values") [.ref d] [] []) _ X.xe s1
  exact method_meetsIn PySem.F.slot_dict_values PySem.F.entry_dict_values rfl (PySem.evalArgs_none ⟨rfl, raw.typeIs, PySem.F.args_dict_values_1 _, _, PySem.meets_dict_values_raw d hs, ⟨_, _, raw⟩, ⟨.ref _, _, I2, rfl, q _ (I1.hok.fresh (Nat.le_refl _))⟩⟩)
def rListV : List V → Hp → VK → Prop := fun xs H Q => ∃ (v d : Addr) (kvs : List (List Key × V)), xs = [.ref v] ∧ H v = some (ViewV d v) ∧ H d = some (.dT kvs) ∧ ∀ p, H p = none → Q (.ref p) (upd H p (.lst (kvs.map fun kv => kv.2)))
theorem vals_at : ∀ {kvs : List (List Key × V)} {acc : List Value}, acc.length = kvs.length → (∀ (j : Nat) (k : List Key) (v : V) (u : Value), kvs[j]? = some (k, v) → acc[j]? = some u → RelV v u) → Vals (kvs.map fun kv => kv.2) acc
  | [], [], _, _ => .nil
  | [], _ :: _, h, _ => nomatch h
  | _ :: _, [], h, _ => nomatch h
  | (k, v) :: r, u :: us, h, f => .cons (f 0 k v u rfl rfl) (vals_at (by simpa using h) fun j k v u e1 e2 => f (j + 1) k v u e1 e2)
theorem call_listV {X : Cx} (hcalm : X.calm = true) : CallR X (.type "list") rListV := by
  intro pins s σ H xs us Q I r q
  obtain ⟨v, d, kvs, rfl, hv, hd, q⟩ := q
  obtain ⟨u, eu, rx⟩ := vals1 r
  subst eu
  cases rx
  obtain ⟨hs, z, es, ep, raw, hsz, ent⟩ := rawT I hd
  obtain ⟨vw, _, _⟩ := (show ObjOk X.prog X.w H s.heap v (ViewV d v) from I.hok v _ hv)
  refine PySem.W.kdl_call (PySem.KdlSrc.rawValues (es := es) (ep := ep)) (I.ok.hd hcalm) ⟨vw, raw⟩ (by omega) fun h' tk acc c' hk hD hacc => ?_
  have hvs : Vals (kvs.map fun kv => kv.2) acc.toList := vals_at (by rw [Array.length_toList, hacc.1, hsz]) fun j k x w e1 e2 => by
    obtain ⟨en, e3, e4⟩ := ent j k x e1
    obtain ⟨hi, e5⟩ := hacc.2 j w (by rw [← Array.getElem?_toList]; exact e2)
    rw [Array.getElem?_eq_getElem hi] at e3
    cases e3
    rw [e5]
    exact e4
  refine ⟨.ref s.heap.objs.size, upd H s.heap.objs.size (.lst (kvs.map fun kv => kv.2)), I.laid (t' := tk) hk (Nat.le_refl _)
    (show ObjOk X.prog X.w _ _ _ (.lst (kvs.map fun kv => kv.2)) from ⟨by rw [List.length_map]; exact z, acc.toList, c', hvs, by rw [Array.toArray_toList]; exact hD⟩), rfl, q _ (I.hok.fresh (Nat.le_refl _))⟩
abbrev tListV (td : TE) : TE := tCB rListV (tCons (tValsT td) tNil)
section
variable {K : PySem.W.Frag} {W : Wx} {X : Er → Sls → Prop} {ρ : Sls}
theorem we_listV {td : TE} {Q : Av → Sls → Prop} (h : WE K W td ρ (fun a ρ1 => ∃ ks xs, View ρ1 a.fl (.dct ks xs) ∧ Q (.own (.lst xs)) ρ1) X) : WE K W (tListV td) ρ Q X := by
  rintro s Q0 rfl D x k
  refine WE.flat (Q := fun a ρ1 => ∃ ks xs, View ρ1 a (.dct ks xs) ∧ Q (.own (.lst xs)) ρ1) h rfl D x fun v a s1 n1 fa ok ⟨ks, xs, hv, q⟩ => ?_
  obtain ⟨b, kvs, rfl, e1, rfl, e2⟩ := view_dct n1.den ok hv
  refine ⟨b, kvs, rfl, e1, fun c hc => ?_⟩
  have n2 := lay (o := ViewV b c) n1.den hc
  refine ⟨c, b, kvs, rfl, upd_same, ?_, fun p hp => ?_⟩
  · rw [upd_ne (ne_of_none e1 hc)]
    exact e1
  · exact (k.lift (n1.trans n2)).new (d := .lst xs) n2.den hp (.lst e2) q
theorem wc_lenT {a : Av} {ks : List (List Key)} {xs : List U} {Q : Av → Sls → Prop} (ha : View ρ a (.dct ks xs)) (hl : xs.length < 100000) (q : Q (.dt (.int xs.length)) ρ) : WC K W rLenT [a] ρ Q X := by
  rintro s vs Q0 rfl D _ h k
  obtain ⟨v, rfl, hv⟩ := avs_one h
  obtain ⟨b, kvs, rfl, e1, rfl, e2⟩ := view_dct D hv ha
  have l := e2.length
  rw [List.length_map] at l
  refine ⟨b, kvs, rfl, e1, ?_⟩
  rw [l]
  exact k.dt D (.int _) q
end

/-! ### == of dicts whose keys are tuples -/
section
open PySem PySem.W PySem.Calls PyProof.V
variable {prog : Program} {w : World} {κ : Type} [DecidableEq κ] {knd : HeapKind prog w κ} {A : Around} {E : Value → Shared → Prop} {s : Shared}
def HitsH (prog : Program) (w : World) (A : Around) (s : Shared) (xb : List (κ × Addr × Value)) : List (κ × Addr × Value) → Bool → Prop
  | [], r => r = true
  | (k, _, v) :: t, r => ((∀ (j : Nat) (p : Addr × Value), xb[j]? ≠ some (k, p)) → r = false) ∧ ∀ (j : Nat) (p : Addr × Value), xb[j]? = some (k, p) → ∃ e b, SeqAt.EqP prog w A s v p.2 e ∧ HitsH prog w A s xb t b ∧ r = (e && b)
theorem samePairsH {nm : String} {a b : Addr} {xa xb : List (κ × Addr × Value)} {r : Bool} {Q : Bool → Shared → Prop} (hu : knd.room A) (ha : (a == sysModules) = false) (hb : (b == sysModules) = false)
    (da : s.heap.DictOfH knd a xa) (db : s.heap.DictOfH knd b xb) (hits : xa.length = xb.length → HitsH prog w A s xb xa r) (h : Q (xa.length == xb.length && r) s) :
    wpAny (model prog w) A (Builtin.Dict.samePairs nm a b) Q E s := by
  obtain ⟨oa, es, ep, hoa, _, hda, hea, hia, _⟩ := da
  obtain ⟨ob, es', ep', hob, _, hdb, heb, hib, hnb⟩ := db
  have hla : xa.length = es.size := (size_of_entries hea).symm
  have hlb : xb.length = es'.size := (size_of_entries heb).symm
  rw [hla, hlb] at h
  unfold Builtin.Dict.samePairs Builtin.Dict.showsAll
  rw [if_neg (show ¬ (a == sysModules) = true by rw [ha]; exact Bool.false_ne_true), if_neg (show ¬ (b == sysModules) = true by rw [hb]; exact Bool.false_ne_true)]
  refine wpAny_bind (wpAny_pure (wpAny_bind (wpAny_pure ?_)))
  refine wpAny_bind (wpAny_dictEntries hoa hda ?_)
  dsimp only
  refine wpAny_bind (wpAny_dictEntries hob hdb ?_)
  by_cases hsz : es.size = es'.size
  case neg =>
    rw [if_pos (by simpa using hsz)]
    have hbf : (es.size == es'.size) = false := by simpa using hsz
    rw [hbf, Bool.false_and] at h
    exact wpAny_bind (wpAny_rule (wpAny_pure h))
  case pos =>
    have h' : Q r s := by simpa [hsz] using h
    have hits' := hits (by rw [hla, hlb]; exact hsz)
    rw [if_neg (by rw [hsz]; simp)]
    refine wpAny_bind (wpAny_dictEpoch hoa hda ?_)
    refine wpAny_bind ?_
    rw [Std.Legacy.Range.forIn_eq_forIn_range']
    simp only [Std.Legacy.Range.size, Nat.sub_zero, Nat.add_sub_cancel, Nat.div_one]
    refine wpAny_forIn_list _
      (fun rest q s' => s' = s ∧ q = (none, ()) ∧ ∃ i, rest = List.range' i (es.size - i) ∧ i ≤ es.size ∧ HitsH prog w A s xb (xa.drop i) r)
      _ ?_ ?_ _ _ ⟨rfl, rfl, 0, by simp, Nat.zero_le _, hits'⟩
    · rintro x rest q s' ⟨rfl, rfl, i, hr, hi, hpre⟩
      have hlt : i < es.size := by
        rcases Nat.lt_or_ge i es.size with h | h
        · exact h
        · rw [Nat.sub_eq_zero_of_le h] at hr; simp at hr
      obtain ⟨rfl, hrest⟩ : x = i ∧ rest = List.range' (i + 1) (es.size - (i + 1)) := by
        have e : es.size - i = (es.size - (i + 1)) + 1 := by omega
        rw [e, List.range'_succ] at hr
        injection hr with h1 h2
        exact ⟨h1, h2⟩
      refine wpAny_bind (wpAny_dictEntries hoa hda ?_)
      have hlt' : x < xa.length := by rw [hla]; exact hlt
      obtain ⟨k, p, v, hkv⟩ : ∃ k p v, xa[x] = (k, p, v) := ⟨_, _, _, rfl⟩
      have hget : xa[x]? = some (k, p, v) := by rw [List.getElem?_eq_getElem hlt', hkv]
      have hent : es[x]? = some ⟨knd.hash k, .ref p, v⟩ := by
        rw [entry_at hea x, hget]
        rfl
      have hdrop : xa.drop x = (k, p, v) :: xa.drop (x + 1) := by rw [← hkv]; exact List.drop_eq_getElem_cons hlt'
      have hkey : knd.is s'.heap k p := hia (k, p, v) (List.mem_of_getElem? hget)
      rw [hdrop] at hpre
      rw [hent]
      obtain ⟨hmiss, hhit⟩ := hpre
      refine wpAny_bind (wpAny_holding (wpAny_bind (wpAny_dictFind_heap hu hkey hob hdb heb hib hnb (fun hn => ?_) (fun j y hj => ?_))))
      · rw [hmiss hn] at h'
        refine wpAny_pure ?_
        show wpAny _ _ (if (!false) = true then _ else _) _ _ _
        rw [if_pos (by decide)]
        exact wpAny_pure (wpAny_pure h')
      · have hent' : es'[j]? = some ⟨knd.hash k, .ref y.1, y.2⟩ := by
          rw [entry_at heb j, hj]
          rfl
        refine wpAny_bind (wpAny_dictEntries hob hdb ?_)
        rw [hent']
        obtain ⟨e, b', he, hrr, er⟩ := hhit j y hj
        refine wpAny_holding (he _ _ ?_)
        cases e with
        | false =>
          rw [er, Bool.false_and] at h'
          show wpAny _ _ (if (!false) = true then _ else _) _ _ _
          rw [if_pos (by decide)]
          exact wpAny_pure (wpAny_pure h')
        | true =>
          rw [Bool.true_and] at er
          rw [← er] at hrr
          show wpAny _ _ (if (!true) = true then _ else _) _ _ _
          rw [if_neg (by decide)]
          refine wpAny_bind (wpAny_dictEpoch hoa hda ?_)
          rw [if_neg (by simp)]
          exact wpAny_pure ⟨rfl, rfl, x + 1, hrest, hlt, hrr⟩
    · rintro q s' ⟨rfl, rfl, i, hr, hi, hpre⟩
      have hin : i = es.size := by
        rcases Nat.lt_or_ge i es.size with h | h
        · have e : es.size - i = (es.size - (i + 1)) + 1 := by omega
          rw [e, List.range'_succ] at hr; exact nomatch hr
        · exact Nat.le_antisymm hi h
      refine wpAny_pure ?_
      rw [hin, ← hla, List.drop_length] at hpre
      rw [show r = true from hpre] at h'
      exact h'
theorem compareEqH {a b : Addr} {xa xb : List (κ × Addr × Value)} {r : Bool} {Q : Value → Shared → Prop} (hr : knd.room A.in1) (ha : (a == sysModules) = false) (hb : (b == sysModules) = false)
    (da : s.heap.DictOfH knd a xa) (db : s.heap.DictOfH knd b xb) (hu : A.units < cLine) (hits : xa.length = xb.length → HitsH prog w A.in1 s xb xa r) (h : Q (.bool (xa.length == xb.length && r)) s) :
    wpAny (model prog w) A (compareOp .Eq (.ref a) (.ref b)) Q E s := by
  refine wpAny_richCompare_same_room (op := .Eq) da.typeIs db.typeIs PySem.F.slot_dict_eq (wpAny_call_entry PySem.F.slot_dict_eq da.typeIs PySem.F.entry_dict_eq ?_ (PySem.F.args_dict_eq_2 _ _)) hu
  show wpAny _ _ (Builtin.Dict.dictSlotArgs "__eq__" ⟨[.ref a, .ref b], []⟩ >>= _) _ _ s
  refine wpAny_bind ?_
  unfold Builtin.Dict.dictSlotArgs
  refine wpAny_bind (wpAny_notOrdered_dict da.typeIs ?_)
  show wpAny _ _ (pure (Value.ref a, Value.ref b)) _ _ s
  refine wpAny_pure ?_
  refine wpAny_bind (wpAny_isInstance (T := "dict") db.typeIs PySem.F.sub_dict_dict ?_)
  simp only [Bool.not_true, Bool.false_eq_true, if_false]
  refine wpAny_bind (wpAny_pure (wpAny_bind (wpAny_pure ?_)))
  refine wpAny_bind (samePairsH hr ha hb da db hits ?_)
  refine wpAny_pure ⟨_, rfl, ?_, ?_⟩
  · exact fun x => nomatch x
  · simpa using h
end
/-- what stands at a key -/
def valG {κ α : Type} [DecidableEq κ] : List κ → List α → κ → Option α
  | n :: ns, d :: ds, k => if n = k then some d else valG ns ds k
  | _, _, _ => none
def hitsG {κ : Type} [DecidableEq κ] (ls : List κ) (es : List PyData) : List κ → List PyData → Bool
  | k :: ks, d :: ds => (match valG ls es k with | some e => PyData.eqv d e | none => false) && hitsG ls es ks ds
  | _, _ => true
section
variable {X : Cx} {K : PySem.W.Frag}
def FlatD (d : PyData) : Prop := SeqAt.shaped d = true ∧ PyData.depth d ≤ 60
def rEqT (K : PySem.W.Frag) : R2 := fun x y H Q => ∃ (a b : Addr) (kvs lvs : List (List Key × V)) (ds es : List PyData), x = .ref a ∧ y = .ref b ∧ H a = some (.dT kvs) ∧ H b = some (.dT lvs) ∧ DpAll K H (kvs.map (·.2)) ds ∧ DpAll K H (lvs.map (·.2)) es ∧
  (∀ d ∈ ds, FlatD d) ∧ (∀ e ∈ es, FlatD e) ∧ Q (.bl (kvs.length == lvs.length && hitsG (lvs.map (·.1)) es (kvs.map (·.1)) ds)) H
theorem eqP_data {pins : List (Addr × Obj)} {σ : L2.St} {H : Hp} {s : Shared} {A : Around} (I : Inv X pins σ H s) {x y : V} {v u : Value} {d e : PyData} (hu : A.units + 64 < cLine) (hd : Dp X.K H x d) (he : Dp X.K H y e) (rx : RelV x v) (ry : RelV y u) (fd : FlatD d) (fe : FlatD e) : SeqAt.EqP X.prog X.w A.in1 s v u (PyData.eqv d e) := by
  obtain ⟨as, r1⟩ := Dp.reads I d x v hd rx
  obtain ⟨bs, r2⟩ := Dp.reads I e y u he ry
  refine (SeqAt.eqAt_reads d e A.in1 s v u as bs r1 r2 (SeqAt.canLay_of_shaped fd.1) (SeqAt.canLay_of_shaped fe.1) ?_).eqP
  have h2 : min (PyData.depth d) (PyData.depth e) ≤ PyData.depth d := Nat.min_le_left _ _
  have := fd.2
  show A.units + 1 + _ < cLine
  omega
theorem kt_at {H : Hp} : ∀ {lvs : List (List Key × V)} {xb : List (List Key × Addr × Value)} {es : List PyData} (k : List Key), KT H lvs xb → DpAll X.K H (lvs.map (·.2)) es → (xb.map (·.1)).Nodup →
    (valG (lvs.map (·.1)) es k = none ∧ ∀ (j : Nat) (p : Addr × Value), xb[j]? ≠ some (k, p)) ∨
    ∃ (e : PyData) (y : V) (p : Addr × Value) (i : Nat), valG (lvs.map (·.1)) es k = some e ∧ e ∈ es ∧ Dp X.K H y e ∧ RelV y p.2 ∧ xb[i]? = some (k, p) ∧ ∀ (j : Nat) (q : Addr × Value), xb[j]? = some (k, q) → q = p
  | [], _, _, k, .nil, .nil, _ => .inl ⟨rfl, fun j p h => by simp at h⟩
  | (l, y) :: lvs, (l', p0) :: xb, e :: es, k, .cons h t, .cons hd ht, nd => by
    obtain ⟨h1, h2, h3⟩ := h
    have h1 : l = l' := h1
    subst h1
    have nd := List.nodup_cons.mp nd
    by_cases q : l = k
    · subst q
      refine .inr ⟨e, y, p0, 0, if_pos rfl, List.mem_cons_self, hd, h3, rfl, fun j q hj => ?_⟩
      cases j with
      | zero => cases hj; rfl
      | succ j => exact absurd (List.mem_map.mpr ⟨(l, q), List.mem_of_getElem? (show xb[j]? = some (l, q) from hj), rfl⟩) nd.1
    · rcases kt_at k t ht nd.2 with ⟨h5, h6⟩ | ⟨e', y', p, i, h5, h6, h7, h8, h9, h10⟩
      · refine .inl ⟨(if_neg q).trans h5, fun j p hj => ?_⟩
        cases j with
        | zero => cases hj; exact q rfl
        | succ j => exact h6 j p hj
      · refine .inr ⟨e', y', p, i + 1, (if_neg q).trans h5, List.mem_cons_of_mem _ h6, h7, h8, h9, fun j q' hj => ?_⟩
        cases j with
        | zero => cases hj; exact absurd rfl q
        | succ j => exact h10 j q' hj
theorem hits_at {pins : List (Addr × Obj)} {σ : L2.St} {H : Hp} {s : Shared} {A : Around} (I : Inv X pins σ H s) (hu : A.units + 64 < cLine) {lvs : List (List Key × V)} {xb : List (List Key × Addr × Value)} {es : List PyData} (rb : KT H lvs xb) (db : DpAll X.K H (lvs.map (·.2)) es) (nd : (xb.map (·.1)).Nodup) (fe : ∀ e ∈ es, FlatD e) :
    ∀ {kvs : List (List Key × V)} {xa : List (List Key × Addr × Value)} {ds : List PyData}, KT H kvs xa → DpAll X.K H (kvs.map (·.2)) ds → (∀ d ∈ ds, FlatD d) → HitsH X.prog X.w A.in1 s xb xa (hitsG (lvs.map (·.1)) es (kvs.map (·.1)) ds)
  | [], _, _, .nil, .nil, _ => rfl
  | (k, x) :: kvs, (k', p0) :: xa, d :: ds, .cons h t, .cons hd ht, fd => by
    obtain ⟨h1, h2, h3⟩ := h
    have h1 : k = k' := h1
    subst h1
    have ih := hits_at I hu rb db nd fe t ht fun d m => fd d (List.mem_cons_of_mem _ m)
    have step : hitsG (lvs.map (·.1)) es (((k, x) :: kvs).map (·.1)) (d :: ds) = ((match valG (lvs.map (·.1)) es k with | some e => PyData.eqv d e | none => false) && hitsG (lvs.map (·.1)) es (kvs.map (·.1)) ds) := rfl
    rw [step]
    rcases kt_at k rb db nd with ⟨h5, h6⟩ | ⟨e, y, p, i, h5, h6, h7, h8, h9, h10⟩
    · rw [h5]
      exact ⟨fun _ => rfl, fun j p hj => absurd hj (h6 j p)⟩
    · rw [h5]
      refine ⟨fun hn => absurd h9 (hn i p), fun j q hj => ?_⟩
      rw [h10 j q hj]
      exact ⟨_, _, eqP_data I hu hd h7 h3 h8 (fd d List.mem_cons_self) (fe e h6), ih, rfl⟩
theorem op_eqT (hK : X.K = K) (hu : X.A.units + 64 < cLine) : OpR X (compareOp .Eq) (rEqT K) := by
  subst hK
  intro pins s σ H x y v u Q I rx ry h
  obtain ⟨a, b, kvs, lvs, ds, es, rfl, rfl, ha, hb, hd, he, fd, fe, q⟩ := h
  obtain rfl : v = Value.ref a := rx
  obtain rfl : u = Value.ref b := ry
  obtain ⟨_, ya, xa, ra, da⟩ := dt_of I.hok ha
  obtain ⟨_, yb, xb, rb, db⟩ := dt_of I.hok hb
  have nd : (xb.map (·.1)).Nodup := by
    obtain ⟨_, _, _, _, _, _, _, _, n⟩ := db
    exact n
  refine compareEqH (A := X.A) (show X.A.units + 1 < cLine by omega) ya yb da db (by omega) (fun _ => hits_at I hu rb he nd fe ra hd fd) ⟨.bl _, H, I, ?_, q⟩
  have l1 : kvs.length = xa.length := Paired.length ra
  have l2 : lvs.length = xb.length := Paired.length rb
  show _ = _
  rw [l1, l2]
end

/-! ### *e in a display, by data -/
section
variable {K : PySem.W.Frag} {W : Wx} {X : Er → Sls → Prop} {ρ : Sls}
theorem avs_dts {s : Sta} : ∀ {vs : List V} {ds : List U}, AtAll K s.G vs ds → AvsOk K s vs (ds.map Av.dt)
  | _, _, .nil => .nil
  | _, _, .cons a b => .cons trivial a (avs_dts b)
theorem avs_append {s : Sta} : ∀ {vs ws : List V} {as bs : List Av}, AvsOk K s vs as → AvsOk K s ws bs → AvsOk K s (vs ++ ws) (as ++ bs)
  | _, _, _, _, .nil, h => h
  | _, _, _, _, .cons f a b, h => .cons f a (avs_append b h)
def seqUV : U → Option (List U)
  | .lst ds => some ds
  | .tup ds => some ds
  | _ => none
theorem seqUV_or {D : U} {ds : List U} (h : seqUV D = some ds) : D = .lst ds ∨ D = .tup ds := by
  cases D <;> first | (cases h; done) | skip
  · cases h
    exact .inl rfl
  · cases h
    exact .inr rfl
theorem wa_star {te : TE} {t : TA} {Q : List Av → Sls → Prop} (h : WE K W te ρ (fun a ρ1 => ∃ d ds, View ρ1 a.fl d ∧ seqUV d = some ds ∧ WA K W t ρ1 (fun as ρ2 => Q (ds.map Av.dt ++ as) ρ2) X) X) : WA K W (StX.tStar K te t) ρ Q X := by
  rintro s Q0 rfl D x k
  refine WE.flat (Q := fun a ρ1 => ∃ d ds, View ρ1 a d ∧ seqUV d = some ds ∧ WA K W t ρ1 (fun as ρ2 => Q (ds.map Av.dt ++ as) ρ2) X) h rfl D x fun v a s1 n1 f1 ok1 ⟨d, ds, hw, hs, q⟩ => ?_
  have key : ∃ p xs, v = .ref p ∧ (SqT K s1.H p xs ∨ SqL K s1.H p xs) ∧ AtAll K s1.G xs ds := by
    rcases seqUV_or hs with rfl | rfl
    · obtain ⟨p, xs, rfl, e1, e2⟩ := view_list n1.den ok1 hw
      exact ⟨p, xs, rfl, .inr (SqL.of e1), e2⟩
    · obtain ⟨p, xs, rfl, e1, e2⟩ := view_tup n1.den ok1 hw
      exact ⟨p, xs, rfl, .inl e1, e2⟩
  obtain ⟨p, xs, rfl, e1, e2⟩ := key
  refine ⟨p, xs, rfl, e1, ?_⟩
  rw [← n1.slots]
  exact q s1 _ rfl n1.den (x.next n1.stp) fun vs as s2 n2 ok2 q2 => k _ _ s2 (n1.trans n2) (avs_append (avs_dts (AtAll.mono n2.stp.sub _ _ e2)) ok2) q2
theorem frz_dts {ρ ρ' : Sls} {as : List Av} {es : List U} (h : Frz ρ as es ρ') : ∀ ds : List U, Frz ρ (ds.map Av.dt ++ as) (ds ++ es) ρ'
  | [] => h
  | _ :: ds => .dt (frz_dts h ds)
end
/-! ### + of an own object that may raise, read at the slots -/
def tAddS (K : PySem.W.Frag) (C : Addr) (sp : Sp) (E : L2.St → XK) (ta tb : TE) : TE := fun σ H Q => ta σ H fun x H1 => tb σ H1 fun y H2 => rAddOwn K C sp (E σ) x y H2 Q
section
variable {X : Cx} {CX : CXT} {m : Nat} {g C : Addr} {sp : Sp} {E : L2.St → XK}
theorem run_fnAt {pins : List (Addr × Obj)} {σ : L2.St} {H : Hp} {s : Shared} {Q : VK} {us : List Value} {vs : List V} {E : XK} (F : FnR X.prog X.w X.K X.mg X.base CX m g sp) (hr : Room m X.A) (hx : PassesAt CX X σ E) (I : Inv X pins σ H s) (r : Vals vs us) (h : sp vs H Q E) :
    codeAny (model X.prog X.w) X.A (.call (.ref g) ⟨us, []⟩) (fun r s' => match r with | .ok (.ret v) => EP X pins σ Q v s' | .ok _ => False | .error e => X.xe e s') s := by
  refine codeAny_mono (F X.A X.stack s H us vs Q E hr I.env0 r h) fun e s1 q => ?_
  match e, q with
  | .error x, q => exact hx pins H s x s1 I q
  | .ok (.ret u), q => exact I.after q
  | .ok .next, q => exact False.elim q
  | .ok .brk, q => exact False.elim q
  | .ok .cont, q => exact False.elim q
theorem pe_addS {K : PySem.W.Frag} {a b : Expr} {pos : Pos} {ta tb : TE} (hK : X.K = K) (c : AddC K C g) (F : FnR X.prog X.w X.K X.mg X.base CX m g sp) (hr : Room m X.A) (hx : ∀ σ, PassesAt CX X σ (E σ)) (ha : PE X a ta) (hb : PE X b tb) : PE X (.BinOp a .Add b pos) (tAddS K C sp E ta tb) := by
  subst hK
  refine ⟨fun pins s σ H Q I h => ?_⟩
  refine wpAny_BinOp (binT ha hb I h fun v u s2 x y H2 I2 rx ry q => ?_)
  obtain ⟨a, dx, fs, T, rfl, ha, ty, t, q⟩ := q
  obtain rfl : v = Value.ref a := rx
  obtain ⟨od, J⟩ := ins_inst I2 ha
  refine add_own I2.kIn J (looks_tyO I2 ry (.inl ty)) c t (wpAny_mono (wpAny_call (run_fnAt (us := [.ref a, u]) (vs := [.ref a, y]) F hr (hx σ) I2 (.cons rfl (.cons ry .nil)) q)) (fun z s' hz => ?_) fun _ _ e => e)
  obtain ⟨z1, H1, I1, rz, q1⟩ := hz
  exact SlX.cmpback rz ⟨z1, H1, I1, rz, q1⟩
end
section
variable {K : PySem.W.Frag} {W : Wx} {X : Er → Sls → Prop} {ρ : Sls}
theorem we_addS {C : Addr} {R : RU} {ta tb : TE} {Q : Av → Sls → Prop} (h : WE K W ta ρ (fun a ρ1 => WE K W tb ρ1 (fun b ρ2 => ∃ ns xs d n, View ρ2 a.fl (.obj C ns xs) ∧ View ρ2 b.fl d ∧ plainU d = true ∧ tyU d = .type n ∧ AddT K C n ∧ CallU R [a.fl, b.fl] ρ2 Q X) X) X) :
    WE K W (tAddS K C (spU K R) (fun σ cls dd H => W cls dd σ H) ta tb) ρ Q X := by
  rintro s Q0 rfl D x k
  refine WE.flat (Q := fun a ρ1 => WE K W tb ρ1 (fun b ρ2 => ∃ ns xs d n, View ρ2 a (.obj C ns xs) ∧ View ρ2 b.fl d ∧ plainU d = true ∧ tyU d = .type n ∧ AddT K C n ∧ CallU R [a, b.fl] ρ2 Q X) X) h rfl D x fun v a s1 n1 f1 ok1 q1 => ?_
  show tb s.σ s1.H _
  rw [← n1.slots]
  refine WE.flat (Q := fun b ρ2 => ∃ ns xs d n, View ρ2 a (.obj C ns xs) ∧ View ρ2 b d ∧ plainU d = true ∧ tyU d = .type n ∧ AddT K C n ∧ CallU R [a, b] ρ2 Q X) q1 rfl n1.den (x.next n1.stp) fun w b s2 n2 f2 ok2 ⟨ns, xs, d, n, ha, hb, hp, ht, hn, q⟩ => ?_
  have oka : AvOk K s2 s2 v a := (AvOk.next f1 n2 ok1).self f1
  obtain ⟨o, dx, fs, rfl, e1, _, _⟩ := view_obj n2.den oka ha
  refine ⟨o, dx, fs, n, rfl, e1, ht ▸ at_ty (view_at n2.den ok2 hb) hp, hn, ?_⟩
  have n12 := n1.trans n2
  refine q.run n2.den (.cons f1 oka (.cons f2 ok2 .nil)) (k.lift n12) fun cls dd e s' n d eσ ok' z => ?_
  have := (x.next n12.stp) cls dd e s' n d ok' z
  rw [eσ, n12.slots] at this
  rw [n1.slots]
  exact this
/-! ### try, the handler keeps a field of the error -/
theorem put_un {s : Sta} {i : Nat} {x : Option V} (D : Den K s) (h : nb s.ρ i = true) : Stp s { s with ρ := s.ρ.set i .un, σ := s.σ.set i x } ∧ Den K { s with ρ := s.ρ.set i .un, σ := s.σ.set i x } := by
  obtain ⟨hl, hb⟩ := nb_lt h
  have f : ∀ {j b}, OwnAt { s with ρ := s.ρ.set i .un, σ := s.σ.set i x } j b → j ≠ i ∧ OwnAt s j b := fun {j b} h => by
    obtain ⟨⟨sl, y, q1, q2⟩, q3⟩ := h
    rcases get_set q1 with ⟨rfl, h, _⟩ | ⟨n, q⟩
    · subst h
      cases q2
    · refine ⟨n, ⟨sl, y, q, q2⟩, ?_⟩
      rcases get_set q3 with ⟨h, _⟩ | ⟨_, q3⟩
      · exact absurd h n
      · exact q3
  refine ⟨⟨fun _ _ e => e, fun _ _ e _ => e, fun _ e => e, fun b ⟨j, h⟩ => .inl ⟨j, (f h).2⟩, fun _ _ _ e => e, fun j y e => ?_⟩, ⟨D.sub, ?_, fun j y e => ?_, fun j sl y e1 e2 => ?_, fun j k b h1 h2 => D.dis j k b (f h1).2 (f h2).2⟩⟩
  · have n : i ≠ j := fun q => hb y (by rw [q]; exact e)
    exact ⟨y, by show (s.ρ.set i _)[j]? = _; rw [List.getElem?_set_ne n]; exact e, by show (s.σ.set i _)[j]? = _; rw [List.getElem?_set_ne n]⟩
  · show (s.σ.set i _).length = (s.ρ.set i _).length
    rw [List.length_set, List.length_set]
    exact D.len
  · rcases get_set e with ⟨_, h, _⟩ | ⟨n, e⟩
    · cases h
    · obtain ⟨v, e1, e2⟩ := D.val j y e
      exact ⟨v, by show (s.σ.set i _)[j]? = _; rw [List.getElem?_set_ne (Ne.symm n)]; exact e1, e2⟩
  · rcases get_set e1 with ⟨_, h, _⟩ | ⟨n, e1⟩
    · subst h
      cases e2
    · obtain ⟨a, o, h1, h2⟩ := D.own j sl y e1 e2
      exact ⟨a, o, by show (s.σ.set i _)[j]? = _; rw [List.getElem?_set_ne (Ne.symm n)]; exact h1, h2⟩
/-- try, as a whole -/
def tTry (K : PySem.W.Frag) (c : Value) (i : Nat) (ts : Addr → Value → Option Addr → TS) (Wo : WX) (tb : WX → TS) : TS := fun D σ H => tb (wAs K c i ts Wo D) D σ H
theorem ps_tryU {X : Cx} {s : Stmt} {K : PySem.W.Frag} {c : Value} {i : Nat} {ts : Addr → Value → Option Addr → TS} {Wo : WX} {tb : WX → TS} (h : PS X s (fun D σ H => tb (wAs K c i ts Wo D) D σ H)) : PS X s (tTry K c i ts Wo tb) := h
theorem ws_try_at {P : Post} {c : Value} {C : Addr} {i j : Nat} {f : Str} {Wo : WX} {tb : WX → TS} (ne : i ≠ j)
    (h : ∀ W', WS K W' (tb W') ρ { P with xc := fun e ρ1 => ∃ b, PySem.W.exmOne K (.ref e.C) c = some b ∧ (b = true → e.C = C ∧ ∃ d, lookU e.ns e.xs f = some d ∧ nb ρ1 i = true ∧ nb ρ1 j = true ∧ P.nx ((ρ1.set j (.val d)).set i .un)) ∧ (b = false → Wo = W ∧ P.xc e ρ1) }) :
    WS K W (tTry K c i (fun a cls d => tAsg (tXf a cls d C f (tVar i)) (gName j)) Wo tb) ρ P := by
  rintro s D rfl dn x fi
  refine h _ s D rfl dn (fun cls dd e s' st den er ⟨b, hb, h1, h2⟩ => ?_) ⟨fi.nx, fi.rt, fi.bk, fi.ct⟩
  have er' := er
  obtain ⟨rfl, dd', fs, rfl, hxd, hn, hat⟩ := er'
  refine ⟨b, hb, fun hbt a na => ?_, fun hbf => ?_⟩
  case refine_2 =>
    obtain ⟨rfl, q⟩ := h2 hbf
    exact x _ _ e s' st den er q
  obtain ⟨eC, d, l, ni, nj, q⟩ := h1 hbt
  obtain ⟨v, l1, l2⟩ := AtAll.lookU (f := f) hat (by rw [hn]; exact l)
  obtain ⟨li, _⟩ := nb_lt ni
  have li2 : i < s'.σ.length := by rw [den.len]; exact li
  refine ⟨.ref a, List.getElem?_set_self li2, rfl, by rw [eC], dd', fs, v, rfl, hxd, l1, ?_⟩
  obtain ⟨st1, den1⟩ := put_val (i := j) den nj l2
  obtain ⟨st2, den2⟩ := put_un (i := i) (x := none) den1 (nb_set ni)
  have := fi.nx _ (st.trans (st1.trans st2)) den2 q
  show D.nx (((s'.σ.set i (some (.ref a))).set j (some v)).set i none) s'.H
  rw [List.set_comm _ _ ne, List.set_set]
  exact this
end

/-! ### C(e, .., k = v, ..), nothing is raised; tuples joined; a def that raises nothing here -/
section
variable {K : PySem.W.Frag} {W : Wx} {X : Er → Sls → Prop} {ρ : Sls}
theorem we_makeK {C : Addr} {R : RU} {n m : Nat} {t tk : TA} {Q : Av → Sls → Prop} (h : WA K W t ρ (fun as ρ1 => WA K W tk ρ1 (fun bs ρ2 => as.length = n ∧ bs.length = m ∧ MakeU C R (as ++ bs) ρ2 Q (fun _ _ => False)) X) X) : WE K W (tMakeK C n m (spU K R) (fun vs zs => vs ++ zs) E0 t tk) ρ Q X := by
  rintro s Q0 rfl D xo k
  refine h s _ rfl D xo fun vs as s1 n1 ok1 q1 => ?_
  show tk s.σ s1.H _
  rw [← n1.slots]
  refine q1 s1 _ rfl n1.den (xo.next n1.stp) fun zs bs s2 n2 ok2 ⟨l1, l2, q⟩ => ?_
  have n12 := n1.trans n2
  refine ⟨by rw [ok1.length]; exact l1, by rw [ok2.length]; exact l2, fun x dx hx hd ne => ?_⟩
  exact MakeU.run (vs := vs ++ zs) q n12 ((AvsOk.next n2 ok1).append ok2) k (fun _ _ _ _ _ _ _ _ z => z.elim) hx hd ne
theorem wr_catT {a b : Av} {ds es : List U} {Q : Av → Sls → Prop} (ha : View ρ a (.tup ds)) (hb : View ρ b (.tup es)) (hn : ds ≠ []) (hl : ds.length + es.length ≤ 1000) (q : Q (.dt (.tup (ds ++ es))) ρ) : WR K W (rCatT K) a b ρ Q X := by
  rintro s v w Q0 rfl D _ h1 h2 k
  have g1 : At K s.G v (.tup ds) := by
    rcases view_items D h1 ha with h | ⟨_, _, _, _, h2⟩
    · exact h
    · cases h2
  obtain ⟨p, xs, rfl, e1, q1⟩ := view_tup D h1 ha
  obtain ⟨p2, ys, rfl, e2, q2⟩ := view_tup D h2 hb
  refine ⟨p, p2, xs, ys, rfl, rfl, e1, e2, fun e => ?_, Nat.le_of_lt (small1000 (by rw [q1.length, q2.length]; exact hl)), fun e => ?_, fun _ c hc => ?_⟩
  · subst e
    cases q1
    exact hn rfl
  · subst e
    cases q2
    rw [List.append_nil] at q
    exact k.dt D g1 q
  · exact k.tup D hc (AtAll.append q1 q2) q
end
section
variable {K : PySem.W.Frag} {W : Wx} {ρ : Sls} {P : Post}
theorem ws_clear {i : Nat} {sl : Sl} {ds : List U} (e : ρ[i]? = some sl) (c : sl.cell = some (.lst ds)) (q : P.nx (setC ρ i (.lst []))) : WS K W (tDrop (tBM0 K "list" rClear (tVar i))) ρ P := by
  rintro s D rfl d x f
  obtain ⟨a, o, e1, e2, e3, e4⟩ := d.own i sl _ e c
  cases e4 with
  | lst hx =>
    refine ⟨.ref a, e1, .inl ⟨rfl, _, SqL.of e3⟩, a, _, rfl, rfl, e3, ?_⟩
    have nw := cell_write (o' := .lst []) (d' := .lst []) d e c e1 e3 (.lst .nil)
    exact f.nx _ nw.stp nw.den q
end

/-! ### a family is made of right entries: nothing is raised -/
theorem calm_fn {P : Program} {w : World} {K : PySem.W.Frag} {mg : Str → Option Value} {base : Heap} {k : Nat} {f : Addr} {fd : FuncData} {ps : List Str} {sp sp' : Sp} (F : FnOk P w K mg base (L2.CX P w) k f fd ps sp) (h : ∀ vs H Q E, sp' vs H Q E → sp vs H Q E0) : FnOk P w K mg base CX0 k f fd ps sp' := by
  refine ⟨fun vs H Q E g => F.len vs H Q E0 (h vs H Q E g), fun A outer s H args us vs Q E hr e0 hb r g => ?_⟩
  refine codeAny_mono (F.run A outer s H args us vs Q E0 hr e0 hb r (h vs H Q E g)) fun e s' z => ?_
  match e, z with
  | .ok (.ret u), z => exact z
  | .ok .next, z => exact z
  | .ok .brk, z => exact z
  | .ok .cont, z => exact z
  | .error _, z =>
    obtain ⟨_, _, _, _, _, _, _, _, _, _, _, _, q⟩ := z
    exact q.elim

/-! ### a part of what is due -/
def r_pinit0 (C : Addr) : RU := fun ρ Q _ => ∃ (es : List U) (ag : Bool), ρ = [.bor (.obj C [] []), .val (.lst es), .val (.bl ag)] ∧ okD (.lst es) ∧ es.length ≤ 1000 ∧ RightP ag es es.length ∧ Q (.dt .non) [.bor (ptU C ag es), .val (.lst es), .val (.bl ag)]
def ksP (es : List U) : List (List Key) := keptK (pathsU es) (ansU es) (sortT (pathsU es))
def xsP (es : List U) : List U := keptX (pathsU es) (ansU es) (sortT (pathsU es))
theorem pt_eq (C : Addr) (ag : Bool) (es : List U) : ptU C ag es = prtU C ag (ksP es) (xsP es) := rfl
theorem valU_map_in (f : List Key → U) : ∀ (ks : List (List Key)) (k : List Key), k ∈ ks → valU ks (ks.map f) k = some (f k)
  | [], k, m => nomatch m
  | a :: ks, k, m => by
    show (if a = k then some (f a) else valU ks (ks.map f) k) = _
    by_cases h : a = k
    · subst h
      rw [if_pos rfl]
    · rw [if_neg h]
      exact valU_map_in f ks k ((List.mem_cons.mp m).resolve_left fun e => h e.symm)
theorem valU_map_out (f : List Key → U) : ∀ (ks : List (List Key)) (k : List Key), k ∉ ks → valU ks (ks.map f) k = none
  | [], k, _ => rfl
  | a :: ks, k, m => by
    show (if a = k then some (f a) else valU ks (ks.map f) k) = _
    rw [if_neg fun h => m (by rw [h]; exact List.mem_cons_self)]
    exact valU_map_out f ks k fun h => m (List.mem_cons_of_mem _ h)
theorem kept_val (es : List U) (k : List Key) : (valU (ksP es) (xsP es) k).getD .non = ansK es k := by
  have le : (pathsU es).length = (ansU es).length := by unfold pathsU ansU; rw [List.length_map, List.length_map]
  unfold ansK
  rw [show xsP es = (ksP es).map fun k => (valU (pathsU es) (ansU es) k).getD .non from rfl]
  by_cases m : k ∈ ksP es
  · rw [valU_map_in _ _ _ m]
    rfl
  · rw [valU_map_out _ _ _ m]
    show U.non = _
    cases e : valU (pathsU es) (ansU es) k with
    | none => rfl
    | some x =>
      have mem : k ∈ pathsU es := Classical.byContradiction fun n => by
        have := valU_out le n
        rw [e] at this
        cases this
      have hn : nonU x = true := by
        cases h : nonU x with
        | true => rfl
        | false =>
          refine absurd (List.mem_filter.mpr ⟨(List.mergeSort_perm _ _).mem_iff.mpr mem, ?_⟩) m
          rw [e]
          show (!nonU x) = true
          rw [h]
          rfl
      cases x <;> first | rfl | exact absurd hn Bool.false_ne_true
theorem kept_len (es : List U) : (ksP es).length = (xsP es).length := by
  show _ = ((ksP es).map _).length
  rw [List.length_map]
theorem kept_short (es : List U) : (xsP es).length ≤ es.length := by
  rw [← kept_len]
  refine Nat.le_trans (List.length_filter_le _ _) ?_
  unfold sortT pathsU
  rw [List.length_mergeSort, List.length_map]
  exact Nat.le_refl _
theorem kept_ans {es : List U} {ag : Bool} {zs : List Str} (he : ∀ e ∈ es, PairE ag zs e) : ∀ x ∈ xsP es, AnsU x ∧ RepA x := fun x m => by
  obtain ⟨k, _, rfl⟩ := List.mem_map.mp (show x ∈ (ksP es).map fun k => (valU (pathsU es) (ansU es) k).getD .non from m)
  exact ans_good he k
theorem val_nodup : ∀ {ks : List (List Key)} {xs : List U} {j : Nat} {k : List Key} {x : U}, ks.Nodup → ks[j]? = some k → xs[j]? = some x → valU ks xs k = some x
  | [], _, _, _, _, _, h, _ => by cases h
  | _ :: _, [], _, _, _, _, _, h => by cases h
  | a :: ks, y :: xs, 0, k, x, _, h1, h2 => by
    cases h1
    cases h2
    show (if a = a then some y else _) = _
    rw [if_pos rfl]
  | a :: ks, y :: xs, j + 1, k, x, nd, h1, h2 => by
    have nd := List.nodup_cons.mp nd
    have h1 : ks[j]? = some k := h1
    show (if a = k then some y else valU ks xs k) = _
    rw [if_neg (fun e => nd.1 (by rw [e]; exact List.mem_of_getElem? h1))]
    exact val_nodup nd.2 h1 h2
theorem filter_live {es : List U} {ag : Bool} (hr : RightP ag es es.length) : (pathsU es).filter (fun k => !nonU ((valU (pathsU es) (ansU es) k).getD (.int 0))) = keysN es := by
  unfold keysN
  show (es.map fun d => (entP d).1).filter _ = _
  rw [List.filter_map]
  congr 1
  refine List.filter_congr fun e me => ?_
  obtain ⟨j, hj⟩ := List.mem_iff_getElem?.mp me
  have h1 : (pathsU es)[j]? = some (entP e).1 := by unfold pathsU; rw [List.getElem?_map, hj]; rfl
  have h2 : (ansU es)[j]? = some (entP e).2 := by unfold ansU; rw [List.getElem?_map, hj]; rfl
  show (!nonU ((valU (pathsU es) (ansU es) (entP e).1).getD (.int 0))) = livesE e
  rw [val_nodup (paths_nodup hr) h1 h2]
  rfl
theorem ksP_sort {es : List U} {ag : Bool} (hr : RightP ag es es.length) : ksP es = sortT (keysN es) := by
  unfold ksP keptK
  rw [sort_filter, filter_live hr]
theorem items_kept {es : List U} {ag : Bool} (hr : RightP ag es es.length) : itemsU (ksP es) (xsP es) = keptU es := by
  unfold itemsU keptU
  rw [show xsP es = (ksP es).map fun k => (valU (pathsU es) (ansU es) k).getD .non from rfl, ksP_sort hr, List.zip_map_right, List.map_map]
  generalize sortT (keysN es) = ks
  induction ks with
  | nil => rfl
  | cons a r ih => exact congrArg (_ :: ·) ih
section
variable {P : Program} {w : World} {K : PySem.W.Frag} {mg : Str → Option Value} {base : Heap}
theorem uk_pinit0 (T : Txt K mg) : FnOk P w K mg base CX0 8 T.f_Part___init__ T.fd_Part___init__ ["self", "entries", "ageing"] (spU K (r_pinit0 T.C_Part)) := by
  refine calm_fn (uk_pinit T) fun vs H Q E h => ?_
  obtain ⟨G, ρ, D, ar, es, ag, rfl, ok, hl, hr, q⟩ := h
  refine ⟨G, _, D, ar, .lst es, ag, rfl, ok, fun ds hds => ?_, nofun⟩
  cases hds
  refine ⟨hl, fun _ => q, fun i x h1 h2 h3 => ?_⟩
  obtain ⟨d, e, g⟩ := hr i (List.getElem?_eq_some_iff.mp h2).1
  rw [h2] at e
  cases e
  exact absurd g h3
end

/-! ### keys in order: one list of each set -/
theorem toks_inj : ∀ {a b : List Key}, PySem.W.keyToksAll (a.map keyD) = PySem.W.keyToksAll (b.map keyD) → a = b
  | [], [], _ => rfl
  | [], y :: ys, h => by
    rw [List.map_cons, PySem.W.toks_all_cons, List.map_nil] at h
    simp [PySem.W.keyToksAll] at h
  | x :: xs, [], h => by
    rw [List.map_cons, PySem.W.toks_all_cons, List.map_nil] at h
    simp [PySem.W.keyToksAll] at h
  | .inl i :: xs, .inl j :: ys, h => by
    rw [List.map_cons, List.map_cons, PySem.W.toks_all_cons, PySem.W.toks_all_cons] at h
    have h2 := List.cons.inj (show (Sum.inl i : Int ⊕ List Nat) :: PySem.W.keyToksAll (xs.map keyD) = Sum.inl j :: PySem.W.keyToksAll (ys.map keyD) from (List.cons.inj h).2)
    rw [Sum.inl.inj h2.1, toks_inj h2.2]
  | .inl i :: xs, .inr z :: ys, h => by
    rw [List.map_cons, List.map_cons, PySem.W.toks_all_cons, PySem.W.toks_all_cons] at h
    have h2 := List.cons.inj (show (Sum.inl i : Int ⊕ List Nat) :: PySem.W.keyToksAll (xs.map keyD) = Sum.inr z.cps.toList :: PySem.W.keyToksAll (ys.map keyD) from (List.cons.inj h).2)
    cases h2.1
  | .inr z :: xs, .inl i :: ys, h => by
    rw [List.map_cons, List.map_cons, PySem.W.toks_all_cons, PySem.W.toks_all_cons] at h
    have h2 := List.cons.inj (show (Sum.inr z.cps.toList : Int ⊕ List Nat) :: PySem.W.keyToksAll (xs.map keyD) = Sum.inl i :: PySem.W.keyToksAll (ys.map keyD) from (List.cons.inj h).2)
    cases h2.1
  | .inr z :: xs, .inr y :: ys, h => by
    rw [List.map_cons, List.map_cons, PySem.W.toks_all_cons, PySem.W.toks_all_cons] at h
    have h2 := List.cons.inj (show (Sum.inr z.cps.toList : Int ⊕ List Nat) :: PySem.W.keyToksAll (xs.map keyD) = Sum.inr y.cps.toList :: PySem.W.keyToksAll (ys.map keyD) from (List.cons.inj h).2)
    rw [PySem.W.str_of_cps (Sum.inr.inj h2.1), toks_inj h2.2]
theorem keyLe_anti (a b : List Key) (h1 : PySem.W.dataLe false keyDs a b = true) (h2 : PySem.W.dataLe false keyDs b a = true) : a = b := by
  have h1 : (!PySem.W.dataLt (keyDs b) (keyDs a)) = true := h1
  have h2 : (!PySem.W.dataLt (keyDs a) (keyDs b)) = true := h2
  have g1 : PySem.W.dataLt (keyDs b) (keyDs a) = false := by simpa using h1
  have g2 : PySem.W.dataLt (keyDs a) (keyDs b) = false := by simpa using h2
  have e : PySem.W.keyToks (keyDs a) = PySem.W.keyToks (keyDs b) := (listOrd itemOrd).total _ _ g2 g1
  refine toks_inj ?_
  unfold keyDs PySem.W.keyToks at e
  exact e
theorem sortT_pair (l : List (List Key)) : (sortT l).Pairwise fun a b => PySem.W.dataLe false keyDs a b = true := PySem.W.sort_pairwise (PySem.W.sortLe_total _ _ _) l
theorem sorted_one {l m : List (List Key)} (hl : l.Pairwise fun a b => PySem.W.dataLe false keyDs a b = true) (hm : m.Pairwise fun a b => PySem.W.dataLe false keyDs a b = true) (nl : l.Nodup) (nm : m.Nodup) (h : ∀ k, k ∈ l ↔ k ∈ m) : l = m :=
  List.Perm.eq_of_pairwise (le := fun a b => PySem.W.dataLe false keyDs a b = true) (fun a b _ _ h1 h2 => keyLe_anti a b h1 h2) hl hm ((List.perm_ext_iff_of_nodup nl nm).mpr h)
theorem sortT_one {l m : List (List Key)} (nl : l.Nodup) (nm : m.Nodup) (h : ∀ k, k ∈ l ↔ k ∈ m) : sortT l = sortT m := by
  have p1 := List.mergeSort_perm l (PySem.W.dataLe false keyDs)
  have p2 := List.mergeSort_perm m (PySem.W.dataLe false keyDs)
  exact sorted_one (sortT_pair l) (sortT_pair m) (p1.nodup_iff.mpr nl) (p2.nodup_iff.mpr nm) fun k => p1.mem_iff.trans ((h k).trans p2.mem_iff.symm)
/-! ### what entries say of a key -/
theorem nonU_eq {d : U} (h : nonU d = true) : d = .non := by
  cases d <;> first | rfl | exact absurd h Bool.false_ne_true
theorem live_iff {es : List U} (nd : (pathsU es).Nodup) (k : List Key) : k ∈ keysN es ↔ nonU (ansK es k) = false := by
  have le : (pathsU es).length = (ansU es).length := by unfold pathsU ansU; rw [List.length_map, List.length_map]
  have at_ : ∀ e ∈ es, ansK es (entP e).1 = (entP e).2 := fun e me => by
    obtain ⟨j, hj⟩ := List.mem_iff_getElem?.mp me
    have h1 : (pathsU es)[j]? = some (entP e).1 := by unfold pathsU; rw [List.getElem?_map, hj]; rfl
    have h2 : (ansU es)[j]? = some (entP e).2 := by unfold ansU; rw [List.getElem?_map, hj]; rfl
    unfold ansK
    rw [val_nodup nd h1 h2]
    rfl
  constructor
  · intro m
    unfold keysN at m
    obtain ⟨e, me, rfl⟩ := List.mem_map.mp m
    obtain ⟨m1, m2⟩ := List.mem_filter.mp me
    rw [at_ e m1]
    unfold livesE at m2
    simpa using m2
  · intro h
    have mem : k ∈ pathsU es := Classical.byContradiction fun n => by
      unfold ansK at h
      have := valU_out le n
      cases e : valU (pathsU es) (ansU es) k with
      | none => rw [e] at h; exact absurd h (by decide)
      | some x => rw [e] at this; cases this
    unfold pathsU at mem
    obtain ⟨e, me, rfl⟩ := List.mem_map.mp mem
    rw [at_ e me] at h
    refine List.mem_map.mpr ⟨e, List.mem_filter.mpr ⟨me, ?_⟩, rfl⟩
    unfold livesE
    rw [h]
    rfl
theorem ans_at {es : List U} (nd : (pathsU es).Nodup) {e : U} (me : e ∈ es) : ansK es (entP e).1 = (entP e).2 := by
  obtain ⟨j, hj⟩ := List.mem_iff_getElem?.mp me
  have h1 : (pathsU es)[j]? = some (entP e).1 := by unfold pathsU; rw [List.getElem?_map, hj]; rfl
  have h2 : (ansU es)[j]? = some (entP e).2 := by unfold ansU; rw [List.getElem?_map, hj]; rfl
  unfold ansK
  rw [val_nodup nd h1 h2]
  rfl
theorem ans_out {es : List U} {k : List Key} (h : k ∉ pathsU es) : ansK es k = .non := by
  have le : (pathsU es).length = (ansU es).length := by unfold pathsU ansU; rw [List.length_map, List.length_map]
  unfold ansK
  have := valU_out le h
  cases e : valU (pathsU es) (ansU es) k with
  | none => rfl
  | some x => rw [e] at this; cases this
theorem keysN_sub {es : List U} : (keysN es).Sublist (pathsU es) := List.filter_sublist.map _
theorem keysN_nodup {es : List U} (nd : (pathsU es).Nodup) : (keysN es).Nodup := keysN_sub.nodup nd
/-- entries that say the same of every key -/
theorem kept_ext {es fs : List U} (ne : (pathsU es).Nodup) (nf : (pathsU fs).Nodup) (h : ∀ k, ansK es k = ansK fs k) : sortT (keysN es) = sortT (keysN fs) ∧ keptU es = keptU fs := by
  have e : sortT (keysN es) = sortT (keysN fs) := sortT_one (keysN_nodup ne) (keysN_nodup nf) fun k => by rw [live_iff ne, live_iff nf, h k]
  refine ⟨e, ?_⟩
  unfold keptU
  rw [e]
  exact List.map_congr_left fun k _ => by rw [h k]
theorem ksP_nd {es : List U} (nd : (pathsU es).Nodup) : ksP es = sortT (keysN es) := by
  unfold ksP keptK
  rw [sort_filter]
  congr 1
  unfold keysN
  show (es.map fun d => (entP d).1).filter _ = _
  rw [List.filter_map]
  congr 1
  refine List.filter_congr fun e me => ?_
  obtain ⟨j, hj⟩ := List.mem_iff_getElem?.mp me
  have h1 : (pathsU es)[j]? = some (entP e).1 := by unfold pathsU; rw [List.getElem?_map, hj]; rfl
  have h2 : (ansU es)[j]? = some (entP e).2 := by unfold ansU; rw [List.getElem?_map, hj]; rfl
  show (!nonU ((valU (pathsU es) (ansU es) (entP e).1).getD (.int 0))) = livesE e
  rw [val_nodup nd h1 h2]
  rfl
theorem xsP_eq (es : List U) : xsP es = (ksP es).map (ansK es) := rfl
theorem part_ext {es fs : List U} (ne : (pathsU es).Nodup) (nf : (pathsU fs).Nodup) (h : ∀ k, ansK es k = ansK fs k) : ksP es = ksP fs ∧ xsP es = xsP fs := by
  have e : ksP es = ksP fs := by rw [ksP_nd ne, ksP_nd nf, (kept_ext ne nf h).1]
  refine ⟨e, ?_⟩
  rw [xsP_eq, xsP_eq, e]
  exact List.map_congr_left fun k _ => h k
theorem items_nd {es : List U} (nd : (pathsU es).Nodup) : itemsU (ksP es) (xsP es) = keptU es := by
  unfold itemsU keptU
  rw [xsP_eq, ksP_nd nd, List.zip_map_right, List.map_map]
  generalize sortT (keysN es) = ks
  induction ks with
  | nil => rfl
  | cons a r ih => exact congrArg (_ :: ·) ih
/-! ### kept entries are entries -/
theorem entP_key (k : List Key) (a : U) : entP (.tup [tupU k, a]) = (k, a) := by
  show ((keysU (k.map keyI)).getD [], a) = _
  rw [keysI]
  rfl
theorem kept_paths (es : List U) : pathsU (keptU es) = sortT (keysN es) := by
  unfold keptU pathsU
  rw [List.map_map]
  refine (List.map_congr_left fun k _ => ?_).trans (List.map_id _)
  exact congrArg Prod.fst (entP_key k _)
theorem kept_nodup {es : List U} (nd : (pathsU es).Nodup) : (pathsU (keptU es)).Nodup := by
  rw [kept_paths]
  exact (List.mergeSort_perm _ _).nodup_iff.mpr (keysN_nodup nd)
theorem kept_same {es : List U} (nd : (pathsU es).Nodup) (k : List Key) : ansK (keptU es) k = ansK es k := by
  by_cases h : k ∈ keysN es
  · have m : U.tup [tupU k, ansK es k] ∈ keptU es := List.mem_map.mpr ⟨k, (List.mergeSort_perm _ _).mem_iff.mpr h, rfl⟩
    have := ans_at (kept_nodup nd) m
    rw [entP_key] at this
    exact this
  · rw [ans_out (by rw [kept_paths]; exact fun m => h ((List.mergeSort_perm _ _).mem_iff.mp m))]
    rw [live_iff nd] at h
    exact (nonU_eq (by simpa using h)).symm
theorem kept_kept {es : List U} (nd : (pathsU es).Nodup) : keptU (keptU es) = keptU es := (kept_ext (kept_nodup nd) nd (kept_same nd)).2
/-- an entry is told by its key and what it says -/
def PairF (e : U) : Prop := ∃ (k : List Key) (a : U), e = .tup [tupU k, a]
theorem kept_sub {es : List U} (nd : (pathsU es).Nodup) (hp : ∀ e ∈ es, PairF e) {x : U} (m : x ∈ keptU es) : x ∈ es := by
  obtain ⟨k, hk, rfl⟩ := List.mem_map.mp (show x ∈ (sortT (keysN es)).map fun k => .tup [tupU k, ansK es k] from m)
  have hk := (List.mergeSort_perm _ _).mem_iff.mp hk
  obtain ⟨e, me, ek⟩ := List.mem_map.mp (show k ∈ (es.filter livesE).map fun e => (entP e).1 from hk)
  have me := (List.mem_filter.mp me).1
  obtain ⟨k', a, rfl⟩ := hp e me
  rw [entP_key] at ek
  obtain rfl : k' = k := ek
  have := ans_at nd me
  rw [entP_key] at this
  rw [show ansK es k' = a from this]
  exact me
/-! ### two sets of entries joined -/
def memG {κ : Type} [DecidableEq κ] (k : κ) (ks : List κ) : Bool := decide (k ∈ ks)
theorem memG_yes {κ : Type} [DecidableEq κ] {k : κ} {ks : List κ} (h : k ∈ ks) : memG k ks = true := decide_eq_true h
theorem memG_no {κ : Type} [DecidableEq κ] {k : κ} {ks : List κ} (h : k ∉ ks) : memG k ks = false := decide_eq_false h
theorem valU_memG {κ : Type} [DecidableEq κ] {ks : List κ} {xs : List U} {k : κ} (h : ks.length = xs.length) : (valU ks xs k).isSome = memG k ks := valU_some h
theorem memG_iff {κ : Type} [DecidableEq κ] {k : κ} {ks : List κ} : memG k ks = true ↔ k ∈ ks := decide_eq_true_iff
def joinB (ks : List (List Key)) (fs : List U) : List U := fs.filter fun e => !memG (entP e).1 ks
/-- the entries of the first, then those of the second with other paths -/
def joinU (es fs : List U) : List U := keptU es ++ joinB (pathsU (keptU es)) (keptU fs)
def joinV (es fs : List U) : List U := es.filter livesE ++ joinB (keysN es) fs
def ansJ (es fs : List U) (k : List Key) : U := if nonU (ansK es k) = true then ansK fs k else ansK es k
theorem pick_app (as bs : List U) (k : List Key) : pickK (as ++ bs) k = pickK as k ++ pickK bs k := by
  unfold pickK
  rw [List.filter_append, List.map_append]
theorem pick_out {es : List U} {k : List Key} (h : k ∉ pathsU es) : pickK es k = [] := by
  unfold pickK
  rw [List.filter_eq_nil_iff.mpr, List.map_nil]
  intro e me z
  exact h (List.mem_map.mpr ⟨e, me, of_decide_eq_true z⟩)
theorem pick_in {es : List U} {k : List Key} (h : k ∈ pathsU es) : pickK es k ≠ [] := by
  obtain ⟨e, me, rfl⟩ := List.mem_map.mp (show k ∈ es.map fun d => (entP d).1 from h)
  intro z
  have : (entP e).2 ∈ pickK es (entP e).1 := List.mem_map.mpr ⟨e, List.mem_filter.mpr ⟨me, decide_eq_true rfl⟩, rfl⟩
  rw [z] at this
  cases this
theorem ans_app (as bs : List U) (k : List Key) : ansK (as ++ bs) k = if memG k (pathsU as) = true then ansK as k else ansK bs k := by
  rw [pick_head, pick_head, pick_head, pick_app]
  by_cases h : k ∈ pathsU as
  · rw [if_pos (memG_yes h)]
    have := pick_in h
    cases e : pickK as k with
    | nil => exact absurd e this
    | cons x r => rfl
  · rw [if_neg (by rw [memG_no h]; exact Bool.false_ne_true), pick_out h, List.nil_append]
theorem joinB_pick (ks : List (List Key)) (fs : List U) {k : List Key} (h : k ∉ ks) : pickK (joinB ks fs) k = pickK fs k := by
  unfold pickK joinB
  rw [List.filter_filter]
  congr 1
  refine List.filter_congr fun e _ => ?_
  by_cases z : (entP e).1 = k
  · rw [z, decide_eq_true rfl, memG_no h]
    rfl
  · rw [decide_eq_false z]
    rfl
theorem joinB_paths (ks : List (List Key)) (fs : List U) : (pathsU (joinB ks fs)).Sublist (pathsU fs) := List.filter_sublist.map _
theorem joinB_off (ks : List (List Key)) (fs : List U) {k : List Key} (h : k ∈ pathsU (joinB ks fs)) : k ∉ ks := by
  obtain ⟨e, me, rfl⟩ := List.mem_map.mp (show k ∈ (joinB ks fs).map fun d => (entP d).1 from h)
  have := (List.mem_filter.mp me).2
  intro z
  rw [memG_yes z] at this
  exact absurd this Bool.false_ne_true
theorem app_nodup {as : List U} {ks : List (List Key)} {fs : List U} (h1 : (pathsU as).Nodup) (h2 : (pathsU fs).Nodup) (h3 : ∀ k ∈ pathsU as, k ∈ ks) : (pathsU (as ++ joinB ks fs)).Nodup := by
  unfold pathsU
  rw [List.map_append]
  refine List.nodup_append.mpr ⟨h1, (joinB_paths ks fs).nodup h2, fun a ma b mb e => ?_⟩
  subst e
  exact joinB_off ks fs mb (h3 _ ma)
theorem joinU_nodup {es fs : List U} (ne : (pathsU es).Nodup) (nf : (pathsU fs).Nodup) : (pathsU (joinU es fs)).Nodup := app_nodup (kept_nodup ne) (kept_nodup nf) fun _ h => h
theorem joinV_nodup {es fs : List U} (ne : (pathsU es).Nodup) (nf : (pathsU fs).Nodup) : (pathsU (joinV es fs)).Nodup := app_nodup (keysN_nodup ne) nf fun _ h => h
theorem joinU_ans {es fs : List U} (ne : (pathsU es).Nodup) (nf : (pathsU fs).Nodup) (k : List Key) : ansK (joinU es fs) k = ansJ es fs k := by
  unfold joinU ansJ
  rw [ans_app]
  have mem : k ∈ pathsU (keptU es) ↔ nonU (ansK es k) = false := by
    rw [kept_paths, ← live_iff ne]
    exact (List.mergeSort_perm _ _).mem_iff
  by_cases h : k ∈ pathsU (keptU es)
  · rw [if_pos (memG_yes h), kept_same ne, mem.mp h]
    exact (if_neg Bool.false_ne_true).symm
  · have h2 : nonU (ansK es k) = true := by
      cases z : nonU (ansK es k) with
      | true => rfl
      | false => exact absurd (mem.mpr z) h
    rw [if_neg (by rw [memG_no h]; exact Bool.false_ne_true), if_pos h2, pick_head, joinB_pick _ _ h, ← pick_head, kept_same nf]
theorem joinV_ans {es fs : List U} (ne : (pathsU es).Nodup) (k : List Key) : ansK (joinV es fs) k = ansJ es fs k := by
  unfold joinV ansJ
  rw [ans_app]
  have nl : (pathsU (es.filter livesE)).Nodup := keysN_nodup ne
  by_cases h : k ∈ keysN es
  · have e1 : ansK (es.filter livesE) k = ansK es k := by
      obtain ⟨e, me, rfl⟩ := List.mem_map.mp (show k ∈ (es.filter livesE).map fun e => (entP e).1 from h)
      rw [ans_at nl me, ans_at ne (List.mem_filter.mp me).1]
    rw [if_pos (memG_yes (show k ∈ pathsU (es.filter livesE) from h)), e1, (live_iff ne k).mp h]
    exact (if_neg Bool.false_ne_true).symm
  · have h2 : nonU (ansK es k) = true := by
      cases z : nonU (ansK es k) with
      | true => rfl
      | false => exact absurd ((live_iff ne k).mpr z) h
    rw [if_neg (by rw [memG_no (show ¬ k ∈ pathsU (es.filter livesE) from h)]; exact Bool.false_ne_true), if_pos h2, pick_head, joinB_pick _ _ h, ← pick_head]
theorem joinU_mem {es fs : List U} (ne : (pathsU es).Nodup) (nf : (pathsU fs).Nodup) (he : ∀ e ∈ es, PairF e) (hf : ∀ e ∈ fs, PairF e) {x : U} (m : x ∈ joinU es fs) : x ∈ es ∨ x ∈ fs := by
  rcases List.mem_append.mp m with m | m
  · exact .inl (kept_sub ne he m)
  · exact .inr (kept_sub nf hf (List.mem_filter.mp m).1)
theorem joinV_mem {es fs : List U} {x : U} (m : x ∈ joinV es fs) : x ∈ es ∨ x ∈ fs := by
  rcases List.mem_append.mp m with m | m
  · exact .inl (List.mem_filter.mp m).1
  · exact .inr (List.mem_filter.mp m).1
theorem kept_le (es : List U) : (keptU es).length ≤ es.length := by
  unfold keptU sortT keysN
  rw [List.length_map, List.length_mergeSort, List.length_map]
  exact List.length_filter_le _ _
theorem joinU_len (es fs : List U) : (joinU es fs).length ≤ es.length + fs.length := by
  unfold joinU joinB
  rw [List.length_append]
  have h1 := kept_le es
  have h2 := kept_le fs
  have h3 := List.length_filter_le (fun e => !memG (entP e).1 (pathsU (keptU es))) (keptU fs)
  omega
theorem joinV_len (es fs : List U) : (joinV es fs).length ≤ es.length + fs.length := by
  unfold joinV joinB
  rw [List.length_append]
  have h1 := List.length_filter_le livesE es
  have h3 := List.length_filter_le (fun e => !memG (entP e).1 (keysN es)) fs
  omega
/-- entries that may be given to a part -/
structure Ent (ag : Bool) (zs : List Str) (m : Nat) (es : List U) : Prop where
  nd : (pathsU es).Nodup
  pr : ∀ e ∈ es, PairE ag zs e
  ok : ∀ e ∈ es, isEntryU ag e = true
  le : es.length ≤ m
theorem PairE.f {ag : Bool} {zs : List Str} {e : U} (h : PairE ag zs e) : PairF e := by
  obtain ⟨ps, a, rfl, _⟩ := h
  exact ⟨keyP ps, a, by rw [tupU_key]⟩
theorem Ent.of {ag : Bool} {zs : List Str} {m : Nat} {es : List U} (hr : RightP ag es es.length) (hl : es.length ≤ m) (hp : ∀ e ∈ es, PairE ag zs e) : Ent ag zs m es := ⟨paths_nodup hr, hp, fun e me => by
  obtain ⟨j, hj⟩ := List.mem_iff_getElem?.mp me
  obtain ⟨d, e1, e2, _⟩ := hr j (List.getElem?_eq_some_iff.mp hj).1
  rw [hj] at e1
  cases e1
  exact e2, hl⟩
theorem Ent.right {ag : Bool} {zs : List Str} {m : Nat} {es : List U} (h : Ent ag zs m es) : RightP ag es es.length := fun i hi => by
  refine ⟨es[i], List.getElem?_eq_getElem hi, h.ok _ (List.getElem_mem hi), fun z => ?_⟩
  obtain ⟨e, me, ek⟩ := List.mem_map.mp (show (entP es[i]).1 ∈ (es.take i).map fun d => (entP d).1 from z)
  obtain ⟨j, hj⟩ := List.mem_iff_getElem?.mp me
  have lj : j < i := by
    have := (List.getElem?_eq_some_iff.mp hj).1
    rw [List.length_take] at this
    omega
  rw [List.getElem?_take_of_lt lj, List.getElem?_eq_getElem (by omega)] at hj
  cases hj
  have := (List.pairwise_iff_getElem.mp h.nd) j i (by unfold pathsU; rw [List.length_map]; omega) (by unfold pathsU; rw [List.length_map]; omega) lj
  refine this ?_
  unfold pathsU
  rw [List.getElem_map, List.getElem_map]
  exact ek
theorem Ent.kept {ag : Bool} {zs : List Str} {m : Nat} {es : List U} (h : Ent ag zs m es) : Ent ag zs m (keptU es) :=
  ⟨kept_nodup h.nd, fun e me => h.pr e (kept_sub h.nd (fun e me => (h.pr e me).f) me), fun e me => h.ok e (kept_sub h.nd (fun e me => (h.pr e me).f) me), Nat.le_trans (kept_le es) h.le⟩
theorem Ent.join {ag : Bool} {zs : List Str} {m n : Nat} {es fs : List U} (h : Ent ag zs m es) (g : Ent ag zs n fs) : Ent ag zs (m + n) (joinU es fs) := by
  have mem : ∀ x ∈ joinU es fs, x ∈ es ∨ x ∈ fs := fun x hx => joinU_mem h.nd g.nd (fun e me => (h.pr e me).f) (fun e me => (g.pr e me).f) hx
  exact ⟨joinU_nodup h.nd g.nd, fun e me => (mem e me).elim (h.pr e) (g.pr e), fun e me => (mem e me).elim (h.ok e) (g.ok e), Nat.le_trans (joinU_len es fs) (Nat.add_le_add h.le g.le)⟩
theorem Ent.joinV {ag : Bool} {zs : List Str} {m n : Nat} {es fs : List U} (h : Ent ag zs m es) (g : Ent ag zs n fs) : Ent ag zs (m + n) (joinV es fs) :=
  ⟨joinV_nodup h.nd g.nd, fun e me => (joinV_mem me).elim (h.pr e) (g.pr e), fun e me => (joinV_mem me).elim (h.ok e) (g.ok e), Nat.le_trans (joinV_len es fs) (Nat.add_le_add h.le g.le)⟩
theorem okD_pairs2 {es : List U} {ag : Bool} {zs : List Str} (hl : es.length ≤ 900) (z3 : ∀ z ∈ zs, CallS z) (hr3 : ∀ e ∈ es, PairE ag zs e) : okD (.lst es) := by
  have key : okUs es = true ∧ fineAll (dUs es) = true ∧ PyData.depthAll (dUs es) ≤ 3 := by
    clear hl
    induction es with
    | nil => exact ⟨rfl, rfl, Nat.zero_le _⟩
    | cons e r ih =>
      obtain ⟨i1, i2, i3⟩ := ih fun x hx => hr3 x (List.mem_cons_of_mem _ hx)
      obtain ⟨a1, a2, a3⟩ := pair_fine z3 (hr3 e List.mem_cons_self)
      refine ⟨by show (okU e && okUs r) = true; rw [a1, i1]; rfl, by show (fine (dU e) && fineAll (dUs r)) = true; rw [a2, i2]; rfl, by show max (PyData.depth (dU e)) (PyData.depthAll (dUs r)) ≤ 3; omega⟩
  refine ⟨key.1, ?_, ?_⟩
  · show (decide ((dUs es).length ≤ 1000) && fineAll (dUs es)) = true
    rw [key.2.1, decide_eq_true (show (dUs es).length ≤ 1000 by rw [dUs_map, List.length_map]; omega)]
    rfl
  · show PyData.depthAll (dUs es) + 1 ≤ 60
    omega
theorem join_self {es : List U} (nd : (pathsU es).Nodup) : ksP (joinU es es) = ksP es ∧ xsP (joinU es es) = xsP es := part_ext (joinU_nodup nd nd) nd fun k => by
  rw [joinU_ans nd nd]
  unfold ansJ
  split <;> rfl
theorem join_nil {es : List U} (nd : (pathsU es).Nodup) : ksP (joinU [] es) = ksP es ∧ xsP (joinU [] es) = xsP es := part_ext (joinU_nodup (es := []) List.nodup_nil nd) nd fun k => by
  rw [joinU_ans (es := []) List.nodup_nil nd]
  rfl
theorem join_right {es fs : List U} (ne : (pathsU es).Nodup) (nf : (pathsU fs).Nodup) : ksP (joinU (joinV es fs) fs) = ksP (joinV es fs) ∧ xsP (joinU (joinV es fs) fs) = xsP (joinV es fs) :=
  part_ext (joinU_nodup (joinV_nodup ne nf) nf) (joinV_nodup ne nf) fun k => by
    rw [joinU_ans (joinV_nodup ne nf) nf]
    unfold ansJ
    rw [joinV_ans ne]
    unfold ansJ
    by_cases h : nonU (ansK es k) = true
    · rw [if_pos h]
      split <;> rfl
    · rw [if_neg h, if_neg h]
theorem join_both {es fs : List U} (ne : (pathsU es).Nodup) (nf : (pathsU fs).Nodup) : ksP (joinU es (joinU fs (joinV es fs))) = ksP (joinV es fs) ∧ xsP (joinU es (joinU fs (joinV es fs))) = xsP (joinV es fs) := by
  have nv := joinV_nodup ne nf
  refine part_ext (joinU_nodup ne (joinU_nodup nf nv)) nv fun k => ?_
  rw [joinU_ans ne (joinU_nodup nf nv), joinV_ans ne]
  unfold ansJ
  rw [joinU_ans nf nv]
  unfold ansJ
  rw [joinV_ans ne]
  unfold ansJ
  by_cases h : nonU (ansK es k) = true
  · rw [if_pos h, if_pos h]
    split <;> rfl
  · rw [if_neg h, if_neg h]

/-! ### calls while which all lists that are there stand still -/
def frzM (h : Heap) (H : Hp) : Hp := fun a => match H a with
  | some (.lst xs) => (match h.get? a with | some o => some (.frz o (.lst xs)) | none => some (.lst xs))
  | r => r
def unfM (H H0 : Hp) : Hp := fun a => match H a with
  | some (.lst xs) => some (.lst xs)
  | _ => H0 a
section
variable {h : Heap} {H H0 : Hp} {a : Addr}
theorem frzM_lst {xs : List V} {o : Obj} (e : H a = some (.lst xs)) (g : h.get? a = some o) : frzM h H a = some (.frz o (.lst xs)) := by
  unfold frzM
  rw [e, g]
theorem frzM_oth (n : ∀ xs, H a ≠ some (.lst xs)) : frzM h H a = H a := by
  unfold frzM
  cases e : H a with
  | none => rfl
  | some u => cases u <;> first | rfl | exact absurd e (n _)
theorem frzM_none : frzM h H a = none ↔ H a = none := by
  unfold frzM
  cases e : H a with
  | none => exact Iff.rfl
  | some u =>
    cases u <;> first | exact Iff.rfl | skip
    cases h.get? a <;> exact ⟨nofun, nofun⟩
theorem unfM_lst {xs : List V} (e : H a = some (.lst xs)) : unfM H H0 a = some (.lst xs) := by
  unfold unfM
  rw [e]
theorem unfM_oth (n : ∀ xs, H a ≠ some (.lst xs)) : unfM H H0 a = H0 a := by
  unfold unfM
  cases e : H a with
  | none => rfl
  | some u => cases u <;> first | rfl | exact absurd e (n _)
/-- a list, or none -/
theorem lst_or (H : Hp) (a : Addr) : (∃ xs, H a = some (.lst xs)) ∨ ∀ xs, H a ≠ some (.lst xs) := by
  cases e : H a with
  | none => exact .inr fun _ => nofun
  | some u =>
    cases u
    case lst xs => exact .inl ⟨xs, rfl⟩
    all_goals exact .inr fun _ => nofun
variable {P : Program} {w : World}
theorem list_there {xs : List V} (ok : HOk P w H h) (e : H a = some (.lst xs)) : ∃ o, h.get? a = some o := by
  obtain ⟨_, its, n, _, g⟩ := (show ObjOk P w H h a (.lst xs) from ok a _ e)
  exact ⟨_, g⟩
theorem ok_frz (ok : HOk P w H h) : HOk P w (frzM h H) h := fun a u e => by
  have own : ∀ b c, H b = some (.own c) → frzM h H b = some (.own c) := fun b c e => by
    rw [frzM_oth fun xs => by rw [e]; exact nofun]
    exact e
  have tup : ∀ b xs, H b = some (.tup xs) → frzM h H b = some (.tup xs) := fun b xs e => by
    rw [frzM_oth fun xs => by rw [e]; exact nofun]
    exact e
  rcases lst_or H a with ⟨xs, q⟩ | q
  · obtain ⟨o, g⟩ := list_there ok q
    rw [frzM_lst q g] at e
    cases e
    exact ⟨g, (ok a _ q).stay (fun _ _ _ z => z) (fun b z => own b a z) tup⟩
  · rw [frzM_oth q] at e
    exact (ok a _ e).stay (fun _ _ _ z => z) (fun b z => own b a z) tup
theorem ok_unf {h' : Heap} (ok : HOk P w H h) (ok0 : HOk P w H0 h') (fz : ∀ a o u, frzM h H a = some (.frz o u) → H0 a = some (.frz o u)) : HOk P w (unfM H H0) h' := fun a u e => by
  have was : ∀ {b : Addr} {v : HO}, H0 b = some v → (∀ o u, v ≠ .frz o u) → unfM H H0 b = some v := fun {b v} e n => by
    rcases lst_or H b with ⟨xs, q⟩ | q
    · obtain ⟨o, g⟩ := list_there ok q
      rw [fz b _ _ (frzM_lst q g)] at e
      cases e
      exact absurd rfl (n _ _)
    · rw [unfM_oth q]
      exact e
  have own : ∀ b c, H0 b = some (.own c) → unfM H H0 b = some (.own c) := fun b c e => was e fun _ _ => nofun
  have tup : ∀ b xs, H0 b = some (.tup xs) → unfM H H0 b = some (.tup xs) := fun b xs e => was e fun _ _ => nofun
  rcases lst_or H a with ⟨xs, q⟩ | q
  · obtain ⟨o, g⟩ := list_there ok q
    rw [unfM_lst q] at e
    cases e
    obtain ⟨_, x⟩ := (show ObjOk P w H0 h' a (.frz o (.lst xs)) from ok0 a _ (fz a _ _ (frzM_lst q g)))
    exact ObjOk.stay (H := H0) (h := h') x (fun _ _ _ z => z) (fun b z => own b a z) tup
  · rw [unfM_oth q] at e
    exact (ok0 a _ e).stay (fun _ _ _ z => z) (fun b z => own b a z) tup
def spF (P : Program) (w : World) (n : Nat) (sp : Sp) : Sp := fun vs H Q _ => vs.length = n ∧ ∀ h, HOk P w H h → sp vs (frzM h H) (fun v H0 => Q v (unfM H H0)) E0
theorem FnOk.frz {K : PySem.W.Frag} {mg : Str → Option Value} {base : Heap} {k : Nat} {f : Addr} {fd : FuncData} {ps : List Str} {sp : Sp} (F : FnOk P w K mg base CX0 k f fd ps sp) : FnOk P w K mg base CX0 k f fd ps (spF P w ps.length sp) := by
  refine ⟨fun vs H Q E g => g.1, fun A outer s H args us vs Q E hr e0 hb r g => ?_⟩
  have g := g.2 s.heap e0.hok
  have e1 : Env0 P w K mg base A outer s (frzM s.heap H) := ⟨e0.frames, e0.mod, fun b o q => ⟨(e0.bs b o q).1, frzM_none.mpr (e0.bs b o q).2⟩, e0.bsz, e0.funs, fun b hb => frzM_none.mpr (e0.frf b hb), ok_frz e0.hok, e0.bare⟩
  refine codeAny_mono (F.run A outer s _ args us vs _ E0 hr e1 hb r g) fun e s' z => ?_
  match e, z with
  | .error _, z => exact z.elim
  | .ok (.ret u), z =>
    obtain ⟨v, H', os, br, un, ok', rv, q⟩ := z
    refine ⟨v, unfM H H', os, br, ⟨fun b o q n => un.keep b o q (frzM_none.mpr n), fun b o q n => un.slot b o q (frzM_none.mpr n), fun b o q n hx => ?_, un.there, fun b xs e => ?_, fun b o u e => ?_, fun b ps e => ?_⟩, ok_unf e0.hok ok' fun a o u e => un.frzs a o u e, rv, q⟩
    · rw [unfM_oth fun xs => by rw [n]; exact nofun]
      exact un.free b o q (frzM_none.mpr n) hx
    · have n : ∀ xs, H b ≠ some (.lst xs) := fun _ => by rw [e]; exact nofun
      rw [unfM_oth n]
      exact un.tups b xs (by rw [frzM_oth n]; exact e)
    · have n : ∀ xs, H b ≠ some (.lst xs) := fun _ => by rw [e]; exact nofun
      rw [unfM_oth n]
      exact un.frzs b o u (by rw [frzM_oth n]; exact e)
    · have n : ∀ xs, H b ≠ some (.lst xs) := fun _ => by rw [e]; exact nofun
      rw [unfM_oth n]
      exact un.tbls b ps (by rw [frzM_oth n]; exact e)
  | .ok .next, z => exact z
  | .ok .brk, z => exact z
  | .ok .cont, z => exact z
end
/-! ### data while all lists stand still -/
mutual
def fzU : U → U
  | .lst ds => .fls (fzUs ds)
  | .tup ds => .tup (fzUs ds)
  | d => d
def fzUs : List U → List U
  | [] => []
  | d :: r => fzU d :: fzUs r
end
theorem fzUs_map : ∀ ds : List U, fzUs ds = ds.map fzU
  | [] => rfl
  | d :: r => congrArg (fzU d :: ·) (fzUs_map r)
section
variable {K : PySem.W.Frag} {G : Hp} {h : Heap}
mutual
theorem At.frz (hl : ∀ a xs, G a = some (.lst xs) → ∃ o, h.get? a = some o) : ∀ (d : U) (v : V), okU d = true → At K G v d → At K (frzM h G) v (fzU d)
  | .non, _, _, x => by cases x; exact .non
  | .bl _, _, _, x => by cases x; exact .bl _
  | .int _, _, _, x => by cases x; exact .int _
  | .str _, _, _, x => by cases x; exact .str _
  | .lst ds, _, ok, x => by
    cases x with
    | lst g c =>
      obtain ⟨o, q⟩ := hl _ _ g
      exact .fls (.inl (.inr ⟨o, frzM_lst g q⟩)) (AtAll.frz hl ds _ ok c)
  | .tup ds, _, ok, x => by
    cases x with
    | tup g c => exact .tup (by rw [frzM_oth fun _ => by rw [g]; exact nofun]; exact g) (AtAll.frz hl ds _ ok c)
  | .ty _, _, ok, _ => nomatch ok
  | .raw _, _, ok, _ => nomatch ok
  | .fls _, _, ok, _ => nomatch ok
  | .dic _ _, _, ok, _ => nomatch ok
  | .dct _ _, _, ok, _ => nomatch ok
  | .obj _ _ _, _, ok, _ => nomatch ok
  | .exo _ _ _, _, ok, _ => nomatch ok
theorem AtAll.frz (hl : ∀ a xs, G a = some (.lst xs) → ∃ o, h.get? a = some o) : ∀ (ds : List U) (vs : List V), okUs ds = true → AtAll K G vs ds → AtAll K (frzM h G) vs (fzUs ds)
  | [], _, _, x => by cases x; exact .nil
  | d :: r, _, ok, x => by
    have ok : (okU d && okUs r) = true := ok
    rw [Bool.and_eq_true] at ok
    cases x with
    | cons x y => exact .cons (At.frz hl d _ ok.1 x) (AtAll.frz hl r _ ok.2 y)
end
mutual
def nfU : U → Bool
  | .fls _ => false
  | .exo _ _ _ => false
  | .lst ds => nfUs ds
  | .tup ds => nfUs ds
  | .dic _ ds => nfUs ds
  | .dct _ ds => nfUs ds
  | .obj _ _ ds => nfUs ds
  | _ => true
def nfUs : List U → Bool
  | [] => true
  | d :: r => nfU d && nfUs r
end
variable {G2 : Hp}
mutual
/-- what does not stand still because of the call -/
theorem At.unf (k : ∀ a o, G a = some o → (∀ o' u, o ≠ .frz o' u) → G2 a = some o) : ∀ (d : U) (v : V), nfU d = true → At K G v d → At K G2 v d
  | .non, _, _, x => by cases x; exact .non
  | .bl _, _, _, x => by cases x; exact .bl _
  | .int _, _, _, x => by cases x; exact .int _
  | .str _, _, _, x => by cases x; exact .str _
  | .ty _, _, _, x => by cases x; exact .ty _
  | .raw _, _, _, x => by cases x; exact .raw _
  | .lst ds, _, ok, x => by
    cases x with
    | lst g c => exact .lst (k _ _ g fun _ _ => nofun) (AtAll.unf k ds _ ok c)
  | .tup ds, _, ok, x => by
    cases x with
    | tup g c => exact .tup (k _ _ g fun _ _ => nofun) (AtAll.unf k ds _ ok c)
  | .dic _ ds, _, ok, x => by
    cases x with
    | dic g c => exact .dic (k _ _ g fun _ _ => nofun) (AtAll.unf k ds _ ok c)
  | .dct _ ds, _, ok, x => by
    cases x with
    | dct g c => exact .dct (k _ _ g fun _ _ => nofun) (AtAll.unf k ds _ ok c)
  | .obj _ _ ds, _, ok, x => by
    cases x with
    | obj g c => exact .obj (k _ _ g fun _ _ => nofun) (AtAll.unf k ds _ ok c)
  | .fls _, _, ok, _ => nomatch ok
  | .exo _ _ _, _, ok, _ => nomatch ok
theorem AtAll.unf (k : ∀ a o, G a = some o → (∀ o' u, o ≠ .frz o' u) → G2 a = some o) : ∀ (ds : List U) (vs : List V), nfUs ds = true → AtAll K G vs ds → AtAll K G2 vs ds
  | [], _, _, x => by cases x; exact .nil
  | d :: r, _, ok, x => by
    have ok : (nfU d && nfUs r) = true := ok
    rw [Bool.and_eq_true] at ok
    cases x with
    | cons x y => exact .cons (At.unf k d _ ok.1 x) (AtAll.unf k r _ ok.2 y)
end
end

/-! ### entries while their lists stand still -/
def fzA : U → U
  | .lst ds => .fls ds
  | d => d
def fzE (e : U) : U := .tup [tupU (entP e).1, fzA (entP e).2]
theorem fzE_pair (qs : List Str) (a : U) : fzE (.tup [.tup (qs.map .str), a]) = .tup [.tup (qs.map .str), fzA a] := by
  unfold fzE
  rw [entP_pair]
  show U.tup [tupU (keyP qs), fzA a] = _
  rw [tupU_key]
theorem item_scal {d : U} (h : isItemD (dU d) = true) (o : okU d = true) : fzU d = d ∧ nfU d = true := by
  cases d <;> first | exact ⟨rfl, rfl⟩ | (cases o; done) | (cases h; done)
theorem items_scal : ∀ {ds : List U}, (dUs ds).all isItemD = true → okUs ds = true → fzUs ds = ds ∧ nfUs ds = true
  | [], _, _ => ⟨rfl, rfl⟩
  | d :: r, h, o => by
    have h : (isItemD (dU d) && (dUs r).all isItemD) = true := h
    have o : (okU d && okUs r) = true := o
    rw [Bool.and_eq_true] at h o
    obtain ⟨i1, i2⟩ := items_scal h.2 o.2
    obtain ⟨j1, j2⟩ := item_scal h.1 o.1
    exact ⟨by show fzU d :: fzUs r = _; rw [i1, j1], by show (nfU d && nfUs r) = true; rw [j2, i2]; rfl⟩
theorem strs_scal : ∀ ps : List Str, fzUs (ps.map U.str) = ps.map U.str ∧ nfUs (ps.map U.str) = true
  | [] => ⟨rfl, rfl⟩
  | p :: ps => ⟨congrArg (U.str p :: ·) (strs_scal ps).1, (strs_scal ps).2⟩
theorem ans_tup0 {ds : List U} (h : isAnswerU (.tup ds) = true) : ∃ r k c, ds = [r, k, c] := by
  match ds, h with
  | [], h => cases h
  | [_], h => cases h
  | [_, _], h => cases h
  | [r, k, c], _ => exact ⟨r, k, c, rfl⟩
  | _ :: _ :: _ :: _ :: _, h => cases h
theorem ans_frz {a : U} (h : AnsU a) : fzU a = fzA a ∧ nfU a = true := by
  obtain ⟨h1, h2, _⟩ := h
  cases a
  case lst ds =>
    obtain ⟨i1, i2⟩ := items_scal h1 h2
    exact ⟨congrArg U.fls i1, i2⟩
  case tup ds =>
    obtain ⟨r, k, c, rfl⟩ := ans_tup0 h1
    have h : (PyData.eqv (dU r) (.str (Str.ofString "raises")) && (isClassD (dU k) && (PyData.eqv (dU c) .none || isClassD (dU c)))) = true := h1
    rw [Bool.and_eq_true, Bool.and_eq_true, Bool.or_eq_true] at h
    obtain ⟨a1, a2, a3⟩ := h
    have er : fzU r = r ∧ nfU r = true := by cases r <;> first | exact ⟨rfl, rfl⟩ | (cases a1; done)
    have ek : fzU k = k ∧ nfU k = true := by cases k <;> first | exact ⟨rfl, rfl⟩ | (cases a2; done)
    have okc : okU c = true := by
      have h2 : (okU r && (okU k && (okU c && true))) = true := h2
      rw [Bool.and_eq_true, Bool.and_eq_true, Bool.and_true] at h2
      exact h2.2.2
    have ec : fzU c = c ∧ nfU c = true := by
      rcases a3 with a3 | a3
      · cases c <;> first | exact ⟨rfl, rfl⟩ | (cases okc; done) | (cases a3; done)
      · cases c <;> first | exact ⟨rfl, rfl⟩ | (cases okc; done) | (cases a3; done)
    refine ⟨?_, ?_⟩
    · show U.tup [fzU r, fzU k, fzU c] = _
      rw [er.1, ek.1, ec.1]
      rfl
    · show (nfU r && (nfU k && (nfU c && true))) = true
      rw [er.2, ek.2, ec.2]
      rfl
  all_goals (first | exact ⟨rfl, rfl⟩ | (cases h2; done))
theorem pair_frz {ag : Bool} {zs : List Str} {e : U} (h : PairE ag zs e) : fzU e = fzE e ∧ nfU e = true ∧ okU e = true := by
  obtain ⟨qs, a, rfl, _, _, _, _, ga, _⟩ := h
  obtain ⟨i1, i2⟩ := ans_frz ga
  obtain ⟨j1, j2⟩ := strs_scal qs
  rw [fzE_pair]
  refine ⟨?_, ?_, ?_⟩
  · show U.tup [.tup (fzUs (qs.map .str)), fzU a] = _
    rw [i1, j1]
  · show (nfUs (qs.map .str) && (nfU a && true)) = true
    rw [i2, j2]
    rfl
  · show (okUs (qs.map .str) && (okU a && true)) = true
    rw [strs_ok, ga.2.1]
    rfl
theorem pairs_frz {ag : Bool} {zs : List Str} {es : List U} (h : ∀ e ∈ es, PairE ag zs e) : fzUs es = es.map fzE ∧ nfUs es = true ∧ okUs es = true := by
  induction es with
  | nil => exact ⟨rfl, rfl, rfl⟩
  | cons e r ih =>
    obtain ⟨i1, i2, i3⟩ := ih fun x m => h x (List.mem_cons_of_mem _ m)
    obtain ⟨j1, j2, j3⟩ := pair_frz (h e List.mem_cons_self)
    exact ⟨by show fzU e :: fzUs r = _; rw [i1, j1]; rfl, by show (nfU e && nfUs r) = true; rw [j2, i2]; rfl, by show (okU e && okUs r) = true; rw [j3, i3]; rfl⟩
section
variable {K : PySem.W.Frag} {G : Hp}
theorem at_fzA {a : U} {v : V} (h : At K G v (fzA a)) (ok : okU a = true) : Dp K G v (dU a) := by
  cases a
  case lst ds =>
    cases h with
    | fls hs ha => exact .lst hs (ats_dp ds _ ha ok)
  all_goals exact at_dp _ v h ok
variable {W : Wx} {X : Er → Sls → Prop} {ρ : Sls}
theorem view_fls {s : Sta} {v : V} {av : Av} {ds : List U} (D : Den K s) (ok : AvOk K s s v av) (w : View s.ρ av (.fls ds)) : ∃ a xs, v = .ref a ∧ SqL K s.H a xs ∧ AtAll K s.G xs ds := by
  rcases view_items D ok w with h | ⟨a, o, rfl, h1, h2⟩
  · cases h with
    | fls hs ha => exact ⟨_, _, rfl, sql_same D.sub hs, ha⟩
  · cases h2
theorem wc_listF {a : Av} {ds : List U} {Q : Av → Sls → Prop} (ha : View ρ a (.fls ds)) (q : Q (.own (.lst ds)) ρ) :
    WC K W (fun xs H Q => ∃ p ys, xs = [.ref p] ∧ (SqL K H p ys ∨ SqT K H p ys) ∧ ∀ l, H l = none → Q (.ref l) (upd H l (.lst ys))) [a] ρ Q X := by
  rintro s vs Q0 rfl D _ h0 k
  obtain ⟨v, rfl, h⟩ := avs_one h0
  obtain ⟨l, xs, rfl, e1, q1⟩ := view_fls D h ha
  exact ⟨l, xs, rfl, .inl e1, fun p hp => k.new D hp (.lst q1) q⟩
theorem wi_listF {te : TE} {Q : List U → Sls → Prop} (h : WE K W te ρ (fun a ρ1 => ∃ ds ρ2, Frz ρ1 [a.fl] [.fls ds] ρ2 ∧ Q ds ρ2) X) : WI K W (iList K te) ρ Q X := by
  rintro s R0 rfl D x k
  refine WE.flat (Q := fun a ρ1 => ∃ ds ρ2, Frz ρ1 [a] [.fls ds] ρ2 ∧ Q ds ρ2) h rfl D x fun v a s1 n f ok ⟨ds, ρ2, hf, q⟩ => ?_
  obtain ⟨s2, e1, e2, n2, hv⟩ := frz1 hf f n.den ok
  cases hv with
  | fls hs ha =>
    rw [← e2]
    exact ⟨_, rfl, ⟨_, sql_same n2.den.sub hs⟩, k _ ds s2 (n.trans n2) (uwalk_list hs ha) (by rw [e1]; exact q)⟩
theorem wi_enum2F {ta : TA} {Q : List U → Sls → Prop} (h : WA K W ta ρ (fun as ρ1 => ∃ a ds ρ2, as = [a] ∧ Frz ρ1 [a] [.fls ds] ρ2 ∧ Q (enU ds) ρ2) X) : WI K W (iEnum2 K ta) ρ Q X := by
  rintro s R0 rfl D x k
  refine h s _ rfl D x fun vs as s1 n ok ⟨a, ds, ρ2, ea, hf, q⟩ => ?_
  subst ea
  obtain ⟨s2, e1, e2, n2, hv⟩ := hf.run rfl n.den ok
  cases hv with
  | cons hv hn =>
    cases hn
    rw [← e2]
    cases hv with
    | fls hs ha =>
      exact .inl ⟨_, _, rfl, sql_same n2.den.sub hs, k _ _ s2 (n.trans n2) (uwalk_pairs ha walk_enum fun s' n' D' => sql_same (n'.sub.trans D'.sub) hs) (by rw [e1]; exact q)⟩
end
def r_ansC : RU := fun ρ Q _ => ∃ a, ρ = [.val (fzA a)] ∧ AnsU a ∧ Q (.dt (.bl true)) [.val (fzA a)]
def cpC : U → Av
  | .lst ds => .own (.lst ds)
  | d => .dt d
def r_cpC : RU := fun ρ Q _ => ∃ a, ρ = [.val (fzA a)] ∧ AnsU a ∧ Q (cpC a) [.val (fzA a)]
def r_entryC : RU := fun ρ Q _ => ∃ (e : U) (ag : Bool) (zs : List Str), ρ = [.val (fzE e), .val (.bl ag)] ∧ PairE ag zs e ∧ (∀ z ∈ zs, CallS z) ∧ Q (.dt (.bl true)) [.val (fzE e), .val (.bl ag)]
section
variable {P : Program} {w : World} {K : PySem.W.Frag} {mg : Str → Option Value} {base : Heap}
theorem uk_is_answerC (T : Txt K mg) : FnOk P w K mg base CX0 4 T.f_is_answer T.fd_is_answer ["thing"] (spU K r_ansC) := by
  refine (ok_is_answer T).imp fun vs H Q E h => ?_
  obtain ⟨G, ρ, D, ar, a, rfl, ha, q⟩ := h
  obtain ⟨v, e1, hv⟩ := D.val 0 _ rfl
  obtain rfl : vs = [v] := by
    have hlen : (vs.map some).length = 1 := D.len
    match vs, hlen, e1 with
    | [x], _, e1 => cases e1; rfl
  refine ⟨v, dU a, rfl, Dp.same D.sub _ _ (at_fzA hv ha.2.1), ha.2.2.1, Nat.le_trans ha.2.2.2 (by decide), fun r H' er s => ?_⟩
  subst er
  obtain ⟨D2, S2⟩ := vals_step (by simp) D s
  rw [show isAnswerD (dU a) = true from ha.1]
  exact q _ ⟨G, [.val (fzA a)], [some v], H'⟩ rfl rfl D2 S2 trivial (.bl _)
theorem uk_copiedC (T : Txt K mg) : FnOk P w K mg base CX0 1 T.f_copied T.fd_copied ["answer"] (spU K r_cpC) := by
  refine Fun_okU T.F_copied sc_copied (fun ρ Q X h => ?_) (fun cdv A outer s H E hr => ⟨_, (pss_one (ps_ret (pe_ifExp (pt_val (pe_callB call_isi (by rfl) T.m_isinstance (by decide +kernel) (pa_cons (pv 0) (pa_cons (pe_bltn (v := .ty "list") (by rfl) T.m_list (by decide +kernel) rfl) pa_nil)))) (pe_callTy call_list_of (by rfl) T.m_list (by decide +kernel) (pa_cons (pv 0) pa_nil)) (pv 0)))), ?_⟩)
  · obtain ⟨a, rfl, _⟩ := h
    rfl
  rintro W ρ Qd Xd ⟨a, rfl, ha, q⟩
  have ok := ha.2.1
  cases a
  case lst ds =>
    show WS K _ _ [.val (.fls ds)] _
    repeat (walk_at "u")
    refine wc_listF rfl ?_
    repeat (walk_at "u")
    exact q
  all_goals (first | (cases ok; done) | (show WS K _ _ [.val _] _; (repeat (walk_at "u")); exact q))
theorem uk_is_entryC (T : Txt K mg) : FnOk P w K mg base CX0 7 T.f_is_entry T.fd_is_entry ["thing", "ageing"] (spU K r_entryC) := by
  have G_is_path := uk_is_path (P := P) (w := w) (base := base) T
  have G_is_answer := uk_is_answerC (P := P) (w := w) (base := base) T
  refine Fun_okU T.F_is_entry sc_is_entry (fun ρ Q X h => ?_) (fun cdv A outer s H E hr => ⟨_, (pss_cons (ps_if (PW.pt (pw_or (pt_not (pt_val (pe_callB call_isi (by rfl) T.m_isinstance (by decide +kernel) (pa_cons (pv 0) (pa_cons (pe_bltn (v := .ty "tuple") (by rfl) T.m_tuple (by decide +kernel) rfl) pa_nil))))) (pw_or1 (pt_cmpR op_ne (pe_callB call_len (by rfl) T.m_len (by decide +kernel) (pa_cons (pv 0) pa_nil)) pe_int (nomark _))))) (pss_one (ps_ret pe_bl)) pss_nil)
        (pss_cons (ps_asg (pv 0) (pg_tup rfl (pgs_cons (pg_name (i := 2) sc_is_entry.nd rfl (.inl rfl)) (pgs_cons (pg_name (i := 3) sc_is_entry.nd rfl (.inl rfl)) pgs_nil))))
        (pss_one (ps_ret (pe_and (pe_callN G_is_path (hr.mono (by omega)) (by rfl) T.g_is_path T.F_is_path.kp T.bk_is_path pass0 (pa_cons (pv 2) pa_nil) (pk_cons (pv 1) pk_nil)) (pe_one (pe_call G_is_answer (hr.mono (by omega)) (by rfl) T.g_is_answer T.F_is_answer.kp T.b_is_answer .nil pass0 (pa_cons (pv 3) pa_nil)))))))), ?_⟩)
  · obtain ⟨e, ag, zs, rfl, _⟩ := h
    rfl
  rintro W ρ Qd Xd ⟨e, ag, zs, rfl, he, hz, q⟩
  have ie := entry_pair hz he
  obtain ⟨qs, a, rfl, g1, g2, g3, g4, ga, gr⟩ := he
  rw [fzE_pair] at q ⊢
  show WS K _ _ [.val _, .val _, .un, .un] _
  have pf := path_fine g2 fun p hp => hz p (g4 p hp)
  have ip : isPathU ag (.tup (qs.map .str)) = true := by
    have ie : (isPathU ag (.tup (qs.map .str)) && isAnswerU a) = true := ie
    rw [Bool.and_eq_true] at ie
    exact ie.1
  repeat (walk_at "u")
  refine ⟨_, _, frzC_ok rfl, ?_⟩
  refine wg_tup ⟨_, rfl, rfl, ?_⟩
  repeat (walk_at "u")
  refine we_callN ?_
  repeat (walk_at "u")
  refine ⟨rfl, rfl, ?_⟩
  refine callU [false, false] rfl rfl fun Q' X' qq xx => ⟨.tup (qs.map .str), ag, rfl, pf.1, pathOk_fine pf.2.1, qq _ _ ?_⟩
  rw [ip]
  walk_at "ucl"
  repeat (walk_at "u")
  refine callU [false] rfl rfl fun Q' X' qq xx => ⟨a, rfl, ga, qq _ _ ?_⟩
  walk_at "ucl"
  repeat (walk_at "u")
  exact q
end

/-! ### a part made of entries that stand still; copies of such -/
def r_pinitC (C : Addr) : RU := fun ρ Q _ => ∃ (es : List U) (ag : Bool) (zs : List Str) (m : Nat), ρ = [.bor (.obj C [] []), .val (.fls (es.map fzE)), .val (.bl ag)] ∧ Ent ag zs m es ∧ m ≤ 900 ∧ (∀ z ∈ zs, CallS z) ∧ Q (.dt .non) [.bor (ptU C ag es), .val (.fls (es.map fzE)), .val (.bl ag)]
set_option hygiene false in
local macro_rules | `(tactic| walk_at "ut") => `(tactic| first
  | with_reducible refine we_dinT ?_
  | with_reducible refine we_dnotinT ?_
  | with_reducible refine we_dgetT ?_
  | with_reducible refine ws_dputT ?_
  | walk_at "u")
section
variable {P : Program} {w : World} {K : PySem.W.Frag} {mg : Str → Option Value} {base : Heap}
theorem uk_pinitX (T : Txt K mg) : FnOk P w K mg base (L2.CX P w) 8 T.f_Part___init__ T.fd_Part___init__ ["self", "entries", "ageing"] (spU K (r_pinitC T.C_Part)) := by
  have G_is_entry := uk_is_entryC (P := P) (w := w) (base := base) T
  have G_copied := uk_copiedC (P := P) (w := w) (base := base) T
  have GI_BadPart := ok_init_BadPart (P := P) (w := w) (base := base) T
  refine FunD_okUX T.F_Part___init__ sc_Part___init__ (fun ρ Q X h => ?_) (fun cdv A outer s H E hr => ⟨_, (pss_cons (ps_if (pt_not (pt_val (pe_callB call_isiT (by rfl) T.m_isinstance (by decide +kernel) (pa_cons (pv 1) (pa_cons (pe_tup (pa_cons (pe_bltn (v := .ty "list") (by rfl) T.m_list (by decide +kernel) rfl) (pa_cons (pe_bltn (v := .ty "tuple") (by rfl) T.m_tuple (by decide +kernel) rfl) pa_nil))) pa_nil))))) (pss_one (ps_raise rfl (takes_of rfl rfl rfl rfl) (pmk_oex T.cE_BadPart.o T.cE_BadPart.i T.cE_BadPart.t GI_BadPart (hr.mono (by omega)) T.cb_BadPart .nil pass0 (by rfl) T.cE_BadPart.g (pa_cons (pe_un un_neg pe_int) pa_nil)))) pss_nil)
        (pss_cons (ps_set (i := 3) sc_Part___init__.nd rfl (.inr rfl) pe_dnewT)
        (pss_cons (ps_for (passes_of rfl) rfl (pi_enum2 (by rfl) T.m_enumerate (pa_cons (pv 1) pa_nil)) (pg_tup rfl (pgs_cons (pg_name (i := 4) sc_Part___init__.nd rfl (.inl rfl)) (pgs_cons (pg_name (i := 5) sc_Part___init__.nd rfl (.inl rfl)) pgs_nil))) (pss_cons (ps_if (pt_not (pt_val (pe_call G_is_entry hr (by rfl) T.g_is_entry T.F_is_entry.kp T.b_is_entry .nil pass0 (pa_cons (pv 5) (pa_cons (pv 2) pa_nil))))) (pss_one (ps_raise rfl (takes_of rfl rfl rfl rfl) (pmk_oex T.cE_BadPart.o T.cE_BadPart.i T.cE_BadPart.t GI_BadPart (hr.mono (by omega)) T.cb_BadPart .nil pass0 (by rfl) T.cE_BadPart.g (pa_cons (pv 4) pa_nil)))) pss_nil)
        (pss_cons (ps_asg (pv 5) (pg_tup rfl (pgs_cons (pg_name (i := 6) sc_Part___init__.nd rfl (.inl rfl)) (pgs_cons (pg_name (i := 7) sc_Part___init__.nd rfl (.inl rfl)) pgs_nil))))
        (pss_cons (ps_if (pt_cmp (pc_din (hu_of hr) (pv 6) (pv 3))) (pss_one (ps_raise rfl (takes_of rfl rfl rfl rfl) (pmk_oex T.cE_BadPart.o T.cE_BadPart.i T.cE_BadPart.t GI_BadPart (hr.mono (by omega)) T.cb_BadPart .nil pass0 (by rfl) T.cE_BadPart.g (pa_cons (pv 4) pa_nil)))) pss_nil)
        (pss_one (ps_dput (hu_of hr) (pv 3) (pv 6) (pe_call G_copied (hr.mono (by omega)) (by rfl) T.g_copied T.F_copied.kp T.b_copied .nil pass0 (pa_cons (pv 7) pa_nil)) rfl))))))
        (pss_cons (ps_fld (pv 0) (pv 2) rfl)
        (pss_one (ps_fld (pv 0) (pe_dcT (own := [("path", 6)]) (g := gName 6) rfl (Nat.lt_of_le_of_lt (Nat.le_add_right _ 64) hr.units) sc_Part___init__.nd (pi_list (pe_callB (cr_sortedT rfl hr.units) (by rfl) T.m_sorted (by decide +kernel) (pa_cons (pv 3) pa_nil))) (blkOk_by (own := [("path", 6)]) (N := ["self", "entries", "ageing", "answers", "at", "entry", "path", "answer"]) (sc := defScope s_Part___init__) (by decide +kernel)) (fun _ _ _ _ _ => pg_name (i := 6) sc_Part___init__.nd rfl (.inl rfl)) (fun _ _ _ _ _ => pts_one ((pt_cmpR op_notN (pe_dget (hu_of hr) (pv 3) (pv 6) (fun _ _ => rfl)) pe_non (nomark _)))) (fun _ _ _ _ _ => (pv 6)) (fun _ _ _ _ _ => (pe_dget (hu_of hr) (pv 3) (pv 6) (fun _ _ => rfl)))) rfl)))))), ?_⟩)
  · obtain ⟨es, ag, zs, m, rfl, _⟩ := h
    rfl
  rintro ρ Qd Xd ⟨ds, ag, zs, m, rfl, hE, hm, hz, q⟩
  show WS K _ _ [.bor _, .val _, .val _, .un, .un, .un, .un, .un] _
  have hl := hE.le
  repeat (walk_at "ut")
  refine wc_isiT (ns := ["list", "tuple"]) rfl rfl (kit2 (r1 := true) (r2 := false) (by decide +kernel) (by decide +kernel)) ⟨_, rfl, ?_⟩
  refine uF rfl ?_
  repeat (walk_at "ut")
  refine we_dnewT ?_
  repeat (walk_at "ut")
  refine wi_enum2F ?_
  repeat (walk_at "ut")
  refine ⟨_, ds.map fzE, _, rfl, frzC_ok rfl, fun i ρ => ∃ t1 t2 t3 t4, ρ = [.bor (.obj T.C_Part [] []), .val (.fls (ds.map fzE)), .val (.bl ag), .own (.dct (pathsU (ds.take i)) (ansU (ds.take i))), t1, t2, t3, t4] ∧ RightP ag ds i ∧ nb [t1] 0 = true ∧ nb [t2] 0 = true ∧ nb [t3] 0 = true ∧ nb [t4] 0 = true, ?_, ?_, ?_⟩
  · exact ⟨.un, .un, .un, .un, rfl, fun _ h => absurd h (Nat.not_lt_zero _), rfl, rfl, rfl, rfl⟩
  · rintro i x ρ hx ⟨t1, t2, t3, t4, rfl, hr, h1, h2, h3, h4⟩
    obtain ⟨e, he, rfl⟩ := enU_at hx
    have hx2 : ∃ e', ds[i]? = some e' ∧ e = fzE e' := by
      rw [List.getElem?_map] at he
      cases z : ds[i]? with
      | none => rw [z] at he; cases he
      | some e' => rw [z] at he; cases he; exact ⟨e', rfl, rfl⟩
    obtain ⟨e', he', rfl⟩ := hx2
    have pe := hE.pr e' (List.mem_of_getElem? he')
    have hm : (entP e').1 ∉ pathsU (ds.take i) := (hE.right i (List.getElem?_eq_some_iff.mp he').1).elim fun d z => by
      rw [he'] at z
      cases z.1
      exact z.2.2
    have hEe := hE.ok e' (List.mem_of_getElem? he')
    have li : i < ds.length := (List.getElem?_eq_some_iff.mp he').1
    refine wg_tup ⟨_, rfl, rfl, ?_⟩
    repeat (walk_at "ut")
    refine callU [false, false] rfl rfl fun Q' X' qq xx => ⟨e', ag, zs, rfl, pe, hz, qq _ _ ?_⟩
    walk_at "ucl"
    repeat (walk_at "ut")
    obtain ⟨qs, a, rfl, g1, g2, g3, g4, ga, gr⟩ := pe
    rw [fzE_pair]
    rw [entP_pair] at hm
    have eP := entP_pair qs a
    refine ⟨_, _, frzC_ok rfl, ?_⟩
    refine wg_tup ⟨_, rfl, rfl, ?_⟩
    repeat (walk_at "ut")
    refine ⟨pathsU (ds.take i), ansU (ds.take i), _, qs.map Sum.inr, ⟨_, rfl, .inr rfl⟩, rfl, keys_strs qs, _, rfl, ?_⟩
    have le : (pathsU (ds.take i)).length = (ansU (ds.take i)).length := by unfold pathsU ansU; rw [List.length_map, List.length_map]
    refine uF (valU_out le hm) ?_
    repeat (walk_at "ut")
    refine callU [false] rfl rfl fun Q' X' qq xx => ⟨a, rfl, ga, qq _ _ ?_⟩
    have ea : (cpC a).fl = .dt a := by cases a <;> rfl
    clear qq xx Q' X'
    rw [ea]
    walk_at "unorm"
    refine ⟨_, _, frzC_ok rfl, ⟨_, _, _, rfl, rfl⟩, ?_⟩
    repeat (walk_at "ut")
    refine ⟨_, qs.map Sum.inr, _, _, _, rfl, keys_strs qs, rfl, rfl, (by unfold pathsU; rw [List.length_map, List.length_take]; omega), ?_⟩
    rw [putKU_new hm, putXU_new hm]
    have e1 : pathsU (ds.take (i + 1)) = pathsU (ds.take i) ++ [qs.map Sum.inr] := by
      have := take_snoc (fun d => (entP d).1) he'
      rw [eP] at this
      exact this
    have e2 : ansU (ds.take (i + 1)) = ansU (ds.take i) ++ [a] := by
      have := take_snoc (fun d => (entP d).2) he'
      rw [eP] at this
      exact this
    refine ⟨_, _, _, _, by rw [e1, e2]; rfl, fun j hj => ?_, rfl, rfl, rfl, rfl⟩
    rcases Nat.lt_or_ge j i with lt | ge
    · exact hr j lt
    · obtain rfl : j = i := by omega
      exact ⟨_, he', hEe, by rw [eP]; exact hm⟩
  · rintro ρ ⟨t1, t2, t3, t4, rfl, hr, h1, h2, h3, h4⟩
    rw [enU_length, List.length_map] at hr ⊢
    rw [List.take_length]
    have txt : ∀ k ∈ pathsU ds, TxtKey k := fun k hk => by
      obtain ⟨e, he, rfl⟩ := List.mem_map.mp hk
      obtain ⟨j, hj⟩ := List.mem_iff_getElem?.mp he
      obtain ⟨e', h5, h6, _⟩ := hr j (List.getElem?_eq_some_iff.mp hj).1
      rw [hj] at h5
      cases h5
      obtain ⟨zs, a, _, hz, _, eP⟩ := entry_path h6
      rw [eP]
      exact path_txt hz
    repeat (walk_at "ut")
    refine ⟨_, _, _, T.C_Part, [], [], frzC_ok rfl, rfl, rfl, T.cl_Part, T.nA_Part_ageing, by decide, ?_⟩
    repeat (walk_at "ut")
    refine we_dcT ?_
    repeat (walk_at "ut")
    refine wc_sortedT ⟨_, rfl, .inr rfl⟩ txt ?_
    repeat (walk_at "ut")
    show ∃ ds_1 ρ2, Frz [.bor (.obj T.C_Part [Str.ofString "ageing"] [.bl ag]), .val (.fls (ds.map fzE)), .val (.bl ag), .own (.dct (pathsU ds) (ansU ds)), t1, t2, t3, t4] _ _ _ ∧ _
    have le : (pathsU ds).length = (ansU ds).length := by unfold pathsU ansU; rw [List.length_map, List.length_map]
    have nd : (sortT (pathsU ds)).Nodup := (List.mergeSort_perm _ _).nodup_iff.mpr (paths_nodup hr)
    refine ⟨_, _, frzC_ok rfl, (by show (nb [t3] 0 && true) = true; rw [h3]; rfl), by rw [List.length_map]; unfold sortT; rw [List.length_mergeSort]; unfold pathsU; rw [List.length_map]; omega,
      fun k ks xs ρ => ρ = [.bor (.obj T.C_Part [Str.ofString "ageing"] [.bl ag]), .val (.fls (ds.map fzE)), .val (.bl ag), .own (.dct (pathsU ds) (ansU ds)), t1, t2, .un, t4] ∧ ks = keptK (pathsU ds) (ansU ds) ((sortT (pathsU ds)).take k) ∧ xs = keptX (pathsU ds) (ansU ds) ((sortT (pathsU ds)).take k), ?_, ?_, ?_⟩
    · exact ⟨rfl, rfl, rfl⟩
    · rintro k d1 ks xs ρ hd1 ⟨rfl, rfl, rfl⟩
      rw [List.getElem?_map] at hd1
      cases hk : (sortT (pathsU ds))[k]? with
      | none => rw [hk] at hd1; cases hd1
      | some ky =>
        rw [hk] at hd1
        cases hd1
        have mem : ky ∈ pathsU ds := (List.mergeSort_perm _ _).mem_iff.mp (List.mem_of_getElem? hk)
        obtain ⟨x, hx⟩ := Option.isSome_iff_exists.mp (valU_in le mem)
        repeat (walk_at "ut")
        refine ⟨pathsU ds, ansU ds, _, ky, x, ⟨_, rfl, .inr rfl⟩, rfl, keysI ky, hx, ?_⟩
        repeat (walk_at "ut")
        have nm : ky ∉ keptK (pathsU ds) (ansU ds) ((sortT (pathsU ds)).take k) := fun m => not_before nd hk (List.mem_filter.mp m).1
        cases hn : nonU x with
        | false =>
          obtain ⟨k1, k2⟩ := kept_yes hk hx hn
          refine uT (by rfl) ?_
          repeat (walk_at "ut")
          refine ⟨_, ky, rfl, keysI ky, ?_⟩
          repeat (walk_at "ut")
          refine ⟨pathsU ds, ansU ds, _, ky, x, ⟨_, rfl, .inr rfl⟩, rfl, keysI ky, hx, ?_⟩
          refine ⟨_, _, frzC_ok rfl, rfl, rfl, ?_, ?_⟩
          · rw [putKU_new nm, k1]
          · rw [putXU_new nm, k2]
        | true =>
          obtain ⟨k1, k2⟩ := kept_no hk hx hn
          refine uF (by rfl) ?_
          exact ⟨rfl, rfl, k1.symm, k2.symm⟩
    · rintro ks xs ρ ⟨rfl, rfl, rfl⟩
      repeat (walk_at "ut")
      rw [List.length_map, List.take_length]
      refine ⟨_, _, _, T.C_Part, [Str.ofString "ageing"], [.bl ag], frzC_ok rfl, rfl, rfl, T.cl_Part, T.nA_Part__answers, by decide, ?_⟩
      exact q
theorem uk_pinitC (T : Txt K mg) : FnOk P w K mg base CX0 8 T.f_Part___init__ T.fd_Part___init__ ["self", "entries", "ageing"] (spU K (r_pinitC T.C_Part)) := by
  refine calm_fn (uk_pinitX T) fun vs H Q E h => ?_
  obtain ⟨G, ρ, D, ar, es, ag, zs, m, rfl, hE, hm, hz, q⟩ := h
  exact ⟨G, _, D, ar, es, ag, zs, m, rfl, hE, hm, hz, q⟩
def r_lcopyC : RU := fun ρ Q _ => ∃ (es : List U) (ag : Bool) (zs : List Str), ρ = [.val (.fls (es.map fzE))] ∧ es.length ≤ 900 ∧ (∀ e ∈ es, PairE ag zs e) ∧ Q (.own (.lst es)) [.val (.fls (es.map fzE))]
theorem uk_lcopyC (T : Txt K mg) : FnOk P w K mg base CX0 1 T.f_law_copy T.fd_law_copy ["pairs"] (spU K r_lcopyC) := by
  refine Fun_okU T.F_law_copy sc_law_copy (fun ρ Q X h => ?_) (fun cdv A outer s H E hr => ⟨_, (pss_one (ps_ret (pe_lc (own := [("path", 1), ("answer", 2)]) (g := gTup K 2 (gCons (gName 1) (gCons (gName 2) gNil))) rfl sc_law_copy.nd (pi_list (pv 0)) (blkOk_by (own := [("path", 1), ("answer", 2)]) (N := ["pairs", "path", "answer"]) (sc := defScope s_law_copy) (by decide +kernel)) (fun _ _ _ _ _ => pg_tup rfl (pgs_cons (pg_name (i := 1) sc_law_copy.nd rfl (.inl rfl)) (pgs_cons (pg_name (i := 2) sc_law_copy.nd rfl (.inl rfl)) pgs_nil))) (fun _ _ _ _ _ => pts_nil) (fun _ _ _ _ _ => (pe_tup (pa_cons (pv 1) (pa_cons (pe_ifExp (pt_val (pe_callB (call_isiK (K := K) rfl) (by rfl) T.m_isinstance (by decide +kernel) (pa_cons (pv 2) (pa_cons (pe_bltn (v := .ty "list") (by rfl) T.m_list (by decide +kernel) rfl) pa_nil)))) (pe_callTy (call_list_ofK (K := K) rfl) (by rfl) T.m_list (by decide +kernel) (pa_cons (pv 2) pa_nil)) (pv 2)) pa_nil))))))), ?_⟩)
  · obtain ⟨es, ag, zs, rfl, _⟩ := h
    rfl
  rintro W ρ Qd Xd ⟨es, ag, zs, rfl, hl, he, q⟩
  show WS K _ _ [.val _, .un, .un] _
  refine ws_ret (we_lc (wi_listF ?_))
  repeat (walk_at "u")
  refine ⟨_, _, frzC_ok rfl, rfl, fun k acc ρ => ρ = [.val (.fls (es.map fzE)), .un, .un] ∧ acc = es.take k, ?_, ?_, ?_⟩
  · exact ⟨rfl, rfl⟩
  · rintro k d acc ρ hd hl2 ⟨rfl, rfl⟩
    obtain ⟨e, he', rfl⟩ : ∃ e, es[k]? = some e ∧ d = fzE e := by
      rw [List.getElem?_map] at hd
      cases z : es[k]? with
      | none => rw [z] at hd; cases hd
      | some e' => rw [z] at hd; cases hd; exact ⟨e', rfl, rfl⟩
    obtain ⟨qs, a, rfl, _, _, _, _, ga, _⟩ := he e (List.mem_of_getElem? he')
    have kl : k < es.length := (List.getElem?_eq_some_iff.mp he').1
    have tk := take_one he'
    rw [fzE_pair]
    refine wg_tup ⟨_, rfl, rfl, ?_⟩
    have l : (es.take k).length < 1000 := by rw [List.length_take]; omega
    have ok := ga.2.1
    cases a
    case lst ds =>
      repeat (walk_at "u")
      refine wc_listF rfl ?_
      repeat (walk_at "u")
      exact ⟨_, _, frzC_ok rfl, l, rfl, rfl, tk.symm⟩
    all_goals (first | (cases ok; done) | ((repeat (walk_at "u")); exact ⟨_, _, frzC_ok rfl, l, rfl, rfl, tk.symm⟩))
  · rintro acc ρ hl2 ⟨rfl, rfl⟩
    rw [List.length_map, List.take_length]
    repeat (walk_at "u")
    exact q
end

/-! ### entries are handed over and then changed -/
theorem frzM_same {h : Heap} {G H : Hp} (s : Same G H) : Same (frzM h G) (frzM h H) := fun a u e => by
  rcases lst_or G a with ⟨xs, q⟩ | q
  · unfold frzM at e ⊢
    rw [q] at e
    rw [s _ _ q]
    exact e
  · rw [frzM_oth q] at e
    have e2 := s _ _ e
    rw [frzM_oth fun xs z => by rw [e2] at z; exact q xs (e.trans z)]
    exact e2
theorem frzM_inv {h : Heap} {H : Hp} {a : Addr} {u : HO} (e : frzM h H a = some u) (n : ∀ o v, u ≠ .frz o v) (hl : ∀ xs, H a = some (.lst xs) → ∃ o, h.get? a = some o) : H a = some u := by
  rcases lst_or H a with ⟨xs, q⟩ | q
  · obtain ⟨o, g⟩ := hl xs q
    rw [frzM_lst q g] at e
    cases e
    exact absurd rfl (n _ _)
  · rw [frzM_oth q] at e
    exact e
theorem vals_nown {ρ : Sls} {G H : Hp} {σ : L2.St} (hv : ∀ sl ∈ ρ, sl.cell = none) {a : Addr} : ¬ Owns ⟨G, ρ, σ, H⟩ a := by
  rintro ⟨i, ⟨sl, d, e1, e2⟩, _⟩
  rw [hv sl (List.mem_of_getElem? e1)] at e2
  cases e2
section
variable {K : PySem.W.Frag} {Pg : Program} {wd : World}
/-- what stands behind a copy that is made while all lists stand still -/
structure Copied (K : PySem.W.Frag) (s : Sta) (es : List U) (l : Addr) (H1 G1 : Hp) (xs : List V) : Prop where
  old : ∀ a o, s.H a = some o → H1 a = some o
  new : s.H l = none
  at_ : H1 l = some (.lst xs)
  all : AtAll K G1 xs es
  lnG : G1 l = none
  own : ∀ a, Tem (s.H a) → s.G a = none → G1 a = none
  sub : ∀ a o, G1 a = some o → (∀ o' u, o ≠ .frz o' u) → H1 a = some o
  lst : ∀ a ys, G1 a = some (.lst ys) → s.H a = none
theorem copied_run {s : Sta} (dn : Den K s) {i : Nat} {es : List U} {ag : Bool} {zs : List Str} (h5 : s.ρ[i]? = some (.val (.lst es))) (le : es.length ≤ 900) (he : ∀ e ∈ es, PairE ag zs e) {Q : VK}
    (q : ∀ (l : Addr) (H1 G1 : Hp) (xs : List V), Copied K s es l H1 G1 xs → Q (.ref l) H1) : tCall (spF Pg wd 1 (spU K r_lcopyC)) [] E0 (tCons (tVar i) tNil) s.σ s.H Q := by
  obtain ⟨v, e5, a5⟩ := dn.val i _ h5
  refine ⟨v, e5, rfl, fun h hok => ?_⟩
  have hl : ∀ a xs, s.H a = some (.lst xs) → ∃ o, h.get? a = some o := fun a xs e => list_there hok e
  have hlG : ∀ a xs, s.G a = some (.lst xs) → ∃ o, h.get? a = some o := fun a xs e => hl a xs (dn.sub _ _ e)
  obtain ⟨p1, p2, p3⟩ := pairs_frz he
  have av : At K (frzM h s.G) v (.fls (es.map fzE)) := by
    have := At.frz hlG (.lst es) v p3 a5
    rw [← p1]
    exact this
  refine ⟨frzM h s.G, [.val (.fls (es.map fzE))], ⟨frzM_same dn.sub, rfl, fun j d e => ?_, fun j sl d e c => ?_, fun j k a z _ => absurd ⟨j, z⟩ (vals_nown (by simp [Sl.cell]))⟩, fun j sl e => ?_, es, ag, zs, rfl, le, he, fun v' s' eσ eρ D' st ns ok => ?_⟩
  · match j, e with
    | 0, e => cases e; exact ⟨v, rfl, av⟩
    | j + 1, e => cases e
  · rw [List.mem_singleton.mp (List.mem_of_getElem? e)] at c
    cases c
  · exact .inl ⟨_, List.mem_singleton.mp (List.mem_of_getElem? e)⟩
  · obtain ⟨l, o, rfl, ol, gl, cl, _, fr⟩ := ok
    cases cl with
    | lst al =>
      rename_i xs
      have no : ∀ a, ¬ Owns (⟨frzM h s.G, [.val (.fls (es.map fzE))], [v].map some, frzM h s.H⟩ : Sta) a := fun a => vals_nown (by simp [Sl.cell])
      have new : s.H l = none := fr.elim (fun z => frzM_none.mp z) fun z => absurd z (no l)
      have keep : ∀ a o, frzM h s.H a = some o → s'.H a = some o := fun a o e => st.fr a o e (no a)
      have nl : ∀ xs, s.H l ≠ some (.lst xs) := fun _ => by rw [new]; exact nofun
      refine q l (unfM s.H s'.H) s'.G xs ⟨fun a o e => ?_, new, by rw [unfM_oth nl]; exact ol, al, gl, fun a t g => ?_, fun a o e n => ?_, fun a ys e => ?_⟩
      · rcases lst_or s.H a with ⟨ys, z⟩ | z
        · rw [unfM_lst z, ← z, e]
        · rw [unfM_oth z]
          exact keep a o (by rw [frzM_oth z]; exact e)
      · refine st.gfr a ?_ (no a) (frzM_none.mpr g)
        obtain ⟨o, e, nt⟩ := t
        rcases lst_or s.H a with ⟨ys, z⟩ | z
        · obtain ⟨ob, g2⟩ := hl a ys z
          exact ⟨_, frzM_lst z g2, fun _ => nofun⟩
        · exact ⟨o, (frzM_oth (h := h) z).trans e, nt⟩
      · have hs := D'.sub a o e
        rcases lst_or s.H a with ⟨ys, z⟩ | z
        · obtain ⟨ob, g2⟩ := hl a ys z
          rw [keep a _ (frzM_lst z g2)] at hs
          cases hs
          exact absurd rfl (n _ _)
        · rw [unfM_oth z]
          exact hs
      · cases e2 : s.H a with
        | none => rfl
        | some o =>
          exfalso
          have hs := D'.sub a _ e
          rcases lst_or s.H a with ⟨zs, z⟩ | z
          · obtain ⟨ob, g2⟩ := hl a zs z
            rw [keep a _ (frzM_lst z g2)] at hs
            cases hs
          · rw [keep a o (by rw [frzM_oth z]; exact e2)] at hs
            cases hs
            exact z _ e2
structure MadeP (K : PySem.W.Frag) (C : Addr) (ag : Bool) (es : List U) (l x : Addr) (H1 G1 H2 G2 : Hp) : Prop where
  old : ∀ a o, H1 a = some o → H2 a = some o
  new : H1 x = none
  ob : ∃ o, H2 x = some o ∧ Cell K G2 o (ptU C ag es)
  xG : G2 x = none
  own : ∀ a, Tem (H1 a) → a ≠ l → G1 a = none → G2 a = none
  sub : ∀ a o, G2 a = some o → (∀ o' u, o ≠ .frz o' u) → H2 a = some o
  lst : ∀ a ys, G2 a = some (.lst ys) → H1 a = none
def noFrz (G : Hp) : Hp := fun a => match G a with
  | some (.frz _ _) => none
  | r => r
theorem noFrz_in {G : Hp} {a : Addr} {o : HO} (e : noFrz G a = some o) : G a = some o ∧ ∀ o' u, o ≠ .frz o' u := by
  unfold noFrz at e
  cases q : G a with
  | none => rw [q] at e; cases e
  | some v =>
    rw [q] at e
    cases v <;> first | (cases e; exact ⟨rfl, fun _ _ => nofun⟩) | cases e
theorem noFrz_of {G : Hp} {a : Addr} {o : HO} (e : G a = some o) (n : ∀ o' u, o ≠ .frz o' u) : noFrz G a = some o := by
  unfold noFrz
  rw [e]
  cases o <;> first | rfl | exact absurd rfl (n _ _)
theorem made_run {s : Sta} {C : Addr} {es : List U} {ag : Bool} {zs : List Str} {m i j : Nat} {l : Addr} {H1 G1 : Hp} {xs : List V} {σ : L2.St} {Q : VK} (cp : Copied K s es l H1 G1 xs) (hE : Ent ag zs m es) (hm : m ≤ 900) (hz : ∀ z ∈ zs, CallS z)
    (e6 : σ[i]? = some (some (.ref l))) (e3 : σ[j]? = some (some (.bl ag))) (q : ∀ (x : Addr) (H2 G2 : Hp), MadeP K C ag es l x H1 G1 H2 G2 → Q (.ref x) H2) :
    tMakeK C 1 1 (spF Pg wd 3 (spU K (r_pinitC C))) (fun vs zs => vs ++ zs) E0 (tCons (tVar i) tNil) (tCons (tVar j) tNil) σ H1 Q := by
  refine ⟨.ref l, e6, .bl ag, e3, rfl, rfl, fun x dx hx hd ne => ⟨rfl, fun h hok => ?_⟩⟩
  have hmx : upd (upd H1 dx (.own x)) x (.ins C dx []) x = some (.ins C dx []) := upd_same
  have hm1 : ∀ a o, H1 a = some o → upd (upd H1 dx (.own x)) x (.ins C dx []) a = some o := fun a o e => by
    rw [upd_ne (ne_of_none e hx), upd_ne (ne_of_none e hd)]
    exact e
  have hml : ∀ a ys, upd (upd H1 dx (.own x)) x (.ins C dx []) a = some (.lst ys) → H1 a = some (.lst ys) := fun a ys e => by
    by_cases q1 : a = x
    · rw [q1, upd_same] at e
      cases e
    · rw [upd_ne q1] at e
      by_cases q2 : a = dx
      · rw [q2, upd_same] at e
        cases e
      · rw [upd_ne q2] at e
        exact e
  generalize eHm : upd (upd H1 dx (.own x)) x (.ins C dx []) = Hm at hmx hm1 hml hok ⊢
  have hl : ∀ a ys, Hm a = some (.lst ys) → ∃ o, h.get? a = some o := fun a ys e => list_there hok e
  have lx : l ≠ x := ne_of_none cp.at_ hx
  -- what is frozen
  have gx : Same (upd (noFrz G1) l (.lst xs)) Hm := fun a u e => by
    by_cases z : a = l
    · subst z
      rw [upd_same] at e
      cases e
      exact hm1 _ _ cp.at_
    · rw [upd_ne z] at e
      obtain ⟨g, n⟩ := noFrz_in e
      exact hm1 _ _ (cp.sub a u g n)
  have gxx : upd (noFrz G1) l (.lst xs) x = none := by
    rw [upd_ne (Ne.symm lx)]
    cases e : noFrz G1 x with
    | none => rfl
    | some u =>
      obtain ⟨g, n⟩ := noFrz_in e
      rw [cp.sub x u g n] at hx
      cases hx
  obtain ⟨p1, p2, p3⟩ := pairs_frz hE.pr
  have al : At K (upd (noFrz G1) l (.lst xs)) (.ref l) (.lst es) := .lst upd_same (AtAll.unf (fun a o e n => by
    have z : a ≠ l := fun z => by rw [z, cp.lnG] at e; cases e
    rw [upd_ne z]
    exact noFrz_of e n) es xs p2 cp.all)
  have av : At K (frzM h (upd (noFrz G1) l (.lst xs))) (.ref l) (.fls (es.map fzE)) := by
    have := At.frz (fun a ys e => hl a ys (gx _ _ e)) (.lst es) _ p3 al
    rw [← p1]
    exact this
  have own0 : ∀ {a : Addr}, Owns (⟨frzM h (upd (noFrz G1) l (.lst xs)), [.bor (.obj C [] []), .val (.fls (es.map fzE)), .val (.bl ag)], [some (.ref x), some (.ref l), some (.bl ag)], frzM h Hm⟩ : Sta) a → a = x := fun {a} z => by
    obtain ⟨k, ⟨sl, d, e1, e2⟩, e4⟩ := z
    match k, e1, e4 with
    | 0, _, e4 => cases e4; rfl
    | 1, e1, _ => cases e1; cases e2
    | 2, e1, _ => cases e1; cases e2
    | k + 3, e1, _ => cases e1
  have fx : frzM h Hm x = some (.ins C dx []) := by
    rw [frzM_oth fun ys z => by rw [hmx] at z; cases z]
    exact hmx
  refine ⟨frzM h (upd (noFrz G1) l (.lst xs)), [.bor (.obj C [] []), .val (.fls (es.map fzE)), .val (.bl ag)], ⟨frzM_same gx, rfl, fun k d e => ?_, fun k sl d e c => ?_, fun k k2 a z1 z2 => ?_⟩, fun k sl e => ?_, es, ag, zs, m, rfl, hE, hm, hz, fun v s2 eσ eρ D2 st ns ok => ?_⟩
  · match k, e with
    | 1, e => cases e; exact ⟨_, rfl, av⟩
    | 2, e => cases e; exact ⟨_, rfl, .bl ag⟩
  · match k, e with
    | 0, e =>
      cases e
      cases c
      exact ⟨x, _, rfl, frzM_none.mpr gxx, fx, .obj (C := C) (dx := dx) (fs := []) .nil⟩
    | 1, e => cases e; cases c
    | 2, e => cases e; cases c
  · obtain ⟨⟨sl, d, e1, e2⟩, e4⟩ := z1
    obtain ⟨⟨sl2, d2, e1', e2'⟩, e4'⟩ := z2
    have i0 : k = 0 := by
      match k, e1 with
      | 0, _ => rfl
      | 1, e1 => cases e1; cases e2
      | 2, e1 => cases e1; cases e2
    have j0 : k2 = 0 := by
      match k2, e1' with
      | 0, _ => rfl
      | 1, e1' => cases e1'; cases e2'
      | 2, e1' => cases e1'; cases e2'
    rw [i0, j0]
  · match k, e with
    | 0, e => cases e; exact .inr ⟨_, rfl⟩
    | 1, e => cases e; exact .inl ⟨_, rfl⟩
    | 2, e => cases e; exact .inl ⟨_, rfl⟩
  · have ok : At K s2.G v .non := ok
    cases ok
    refine ⟨rfl, ?_⟩
    obtain ⟨a, o, e1, e2, e4, e5⟩ := D2.own 0 _ _ (by rw [eρ]; rfl) rfl
    rw [eσ] at e1
    cases e1
    have keep : ∀ a o, a ≠ x → frzM h Hm a = some o → s2.H a = some o := fun a o n e => st.fr a o e fun z => n (own0 z)
    have nx : ∀ ys, Hm x ≠ some (.lst ys) := fun ys => by rw [hmx]; exact nofun
    refine q x (unfM Hm s2.H) s2.G ⟨fun a o e => ?_, hx, ⟨o, by rw [unfM_oth nx]; exact e4, e5⟩, e2, fun a t n g => ?_, fun a o e n => ?_, fun a ys e => ?_⟩
    · have e' := hm1 _ _ e
      rcases lst_or Hm a with ⟨ys, z⟩ | z
      · rw [unfM_lst z, ← z, e']
      · rw [unfM_oth z]
        exact keep a o (ne_of_none e hx) ((frzM_oth z).trans e')
    · obtain ⟨o, e, nt⟩ := t
      have na : a ≠ x := ne_of_none e hx
      refine st.gfr a ?_ (fun z => na (own0 z)) (frzM_none.mpr ?_)
      · have e' := hm1 _ _ e
        rcases lst_or Hm a with ⟨ys, z⟩ | z
        · obtain ⟨ob, g2⟩ := hl a ys z
          exact ⟨_, frzM_lst z g2, fun _ => nofun⟩
        · exact ⟨o, (frzM_oth (h := h) z).trans e', nt⟩
      · rw [upd_ne n]
        unfold noFrz
        rw [g]
    · have hs := D2.sub a o e
      rcases lst_or Hm a with ⟨ys, z⟩ | z
      · obtain ⟨ob, g2⟩ := hl a ys z
        rw [keep a _ (fun q => by rw [q, hmx] at z; cases z) (frzM_lst z g2)] at hs
        cases hs
        exact absurd rfl (n _ _)
      · rw [unfM_oth z]
        exact hs
    · cases e6 : H1 a with
      | none => rfl
      | some o' =>
        exfalso
        have hs := D2.sub a _ e
        have e' := hm1 _ _ e6
        have na : a ≠ x := ne_of_none e6 hx
        rcases lst_or Hm a with ⟨zs', z⟩ | z
        · obtain ⟨ob, g2⟩ := hl a zs' z
          rw [keep a _ na (frzM_lst z g2)] at hs
          cases hs
        · rw [keep a o' na ((frzM_oth z).trans e')] at hs
          cases hs
          exact z _ e'
end

/-! ### the loop that changes what was handed over -/
section
variable {K : PySem.W.Frag}
def Ts (s : Sta) (l : Addr) (H1 : Hp) (a : Addr) : Prop := s.H a = none ∧ a ≠ l ∧ ∃ ys, H1 a = some (.lst ys)
structure Spoil (s : Sta) (l : Addr) (H1 H2 : Hp) (i : Nat) (H : Hp) : Prop where
  not : ∀ a, ¬ Ts s l H1 a → H a = H2 a
  yes : ∀ a ys, Ts s l H1 a → H1 a = some (.lst ys) → ∃ ys', H a = some (.lst ys') ∧ ys'.length ≤ ys.length + i
def tLoop (K : PySem.W.Frag) (n : Nat) : TS := tFor (iList K (tVar 6)) (gTup K n (gCons (gName 8) (gCons (gName 9) gNil))) (tIfS (tB (tCB (rIsi K) (tCons (tVar 9) (tCons (tC (.ty "list")) tNil)))) (tDrop (tBM K "list" rAppend (tVar 9) (tCons (tC (.int 5)) tNil))) tNext)
theorem at_pair {G : Hp} {v : V} {d e : U} (h : At K G v (.tup [d, e])) : ∃ (r : Addr) (pv av : V), v = .ref r ∧ G r = some (.tup [pv, av]) ∧ At K G pv d ∧ At K G av e := by
  cases h with
  | tup g c =>
    cases c with
    | cons c1 c2 =>
      cases c2 with
      | cons c2 c3 =>
        cases c3
        exact ⟨_, _, _, rfl, g, c1, c2⟩
theorem ans_len0 {ds : List U} (h : AnsU (.lst ds)) : ds.length ≤ 1000 := by
  have fi : (decide ((dUs ds).length ≤ 1000) && fineAll (dUs ds)) = true := h.2.2.1
  rw [Bool.and_eq_true] at fi
  have hl := of_decide_eq_true fi.1
  rw [dUs_map, List.length_map] at hl
  exact hl
theorem set2_get {σ : L2.St} {y8 y9 : Option V} {i : Nat} (h8 : i ≠ 8) (h9 : i ≠ 9) : ((σ.set 8 y8).set 9 y9)[i]? = σ[i]? := by
  rw [List.getElem?_set_ne (Ne.symm h9), List.getElem?_set_ne (Ne.symm h8)]
theorem set2_set {σ : L2.St} {y8 y9 z8 z9 : Option V} : (((σ.set 8 y8).set 9 y9).set 8 z8).set 9 z9 = (σ.set 8 z8).set 9 z9 := by
  rw [List.set_comm (l := (σ.set 8 y8)) y9 z8 (by decide), List.set_set, List.set_set]
theorem set2_self (σ : L2.St) (h : 9 < σ.length) : ∃ y8 y9, σ = (σ.set 8 y8).set 9 y9 := by
  refine ⟨σ[8]'(by omega), σ[9], ?_⟩
  rw [List.set_getElem_self, List.set_getElem_self]
theorem loop_run {s : Sta} {C : Addr} {es : List U} {ag : Bool} {zs : List Str} {l x : Addr} {H1 G1 H2 G2 : Hp} {xs : List V} {σ : L2.St} {D : Ends} (cp : Copied K s es l H1 G1 xs) (mp : MadeP K C ag es l x H1 G1 H2 G2) (hp : ∀ e ∈ es, PairE ag zs e) (hl : es.length ≤ 900)
    (e6 : σ[6]? = some (some (.ref l))) (ln : 9 < σ.length) (q : ∀ y8 y9 H, Spoil s l H1 H2 xs.length H → D.nx ((σ.set 8 y8).set 9 y9) H) : tLoop K 2 D σ H2 := by
  have h2l : H2 l = some (.lst xs) := mp.old _ _ cp.at_
  have len : xs.length = es.length := cp.all.length
  have nl : ¬ Ts s l H1 l := fun z => z.2.1 rfl
  obtain ⟨y8, y9, eσ⟩ := set2_self σ ln
  refine ⟨.ref l, e6, l, rfl, ⟨xs, SqL.of h2l⟩, fun i m σ' H => m + i = xs.length ∧ (∃ y8 y9, σ' = (σ.set 8 y8).set 9 y9) ∧ Spoil s l H1 H2 i H, ⟨xs.length, rfl, ⟨y8, y9, eσ⟩, fun a _ => rfl, fun a ys _ e => ⟨ys, mp.old _ _ e, Nat.le_refl _⟩⟩, ?_⟩
  rintro i m _ H ⟨hm, ⟨y8, y9, rfl⟩, sp⟩
  have hl6 : H l = some (.lst xs) := (sp.not l nl).trans h2l
  rcases Nat.lt_or_ge i xs.length with lt | ge
  · refine .inr ⟨⟨xs, xs[i], SqL.of hl6, List.getElem?_eq_getElem lt⟩, fun σ' H' => (m - 1) + (i + 1) = xs.length ∧ (∃ y8 y9, σ' = (σ.set 8 y8).set 9 y9) ∧ Spoil s l H1 H2 (i + 1) H', fun σ' H' w => ⟨m - 1, by omega, w⟩, ?_⟩
    rintro v H' ⟨eH, hv⟩
    rw [eH]
    clear eH
    have hv := hv xs (SqL.of hl6)
    obtain ⟨d, hd, atd⟩ := cp.all.get hv
    obtain ⟨qs, a, rfl, z1, z2, z3, z4, ga, z5⟩ := hp d (List.mem_of_getElem? hd)
    clear z1 z2 z3 z4 z5
    obtain ⟨r, pv, av, rfl, gr, ap, aa⟩ := at_pair atd
    have hr1 : H1 r = some (.tup [pv, av]) := cp.sub r _ gr fun _ _ => nofun
    have hr : H r = some (.tup [pv, av]) := (sp.not r fun z => by
      obtain ⟨_, _, ys, z⟩ := z
      rw [hr1] at z
      cases z).trans (mp.old _ _ hr1)
    have e9 : ((((σ.set 8 y8).set 9 y9).set 8 (some pv)).set 9 (some av))[9]? = some (some av) := by
      rw [List.getElem?_set_self (by simp only [List.length_set]; exact ln)]
    have next : ∀ H', Spoil s l H1 H2 (i + 1) H' → (m - 1) + (i + 1) = xs.length ∧ (∃ z8 z9, (((σ.set 8 y8).set 9 y9).set 8 (some pv)).set 9 (some av) = (σ.set 8 z8).set 9 z9) ∧ Spoil s l H1 H2 (i + 1) H' := fun H' z => ⟨by omega, ⟨some pv, some av, set2_set⟩, z⟩
    have more : Spoil s l H1 H2 (i + 1) H := ⟨sp.not, fun a ys h e => by
      obtain ⟨ys', e1, e2⟩ := sp.yes a ys h e
      exact ⟨ys', e1, by omega⟩⟩
    refine ⟨r, [pv, av], rfl, SqT.of hr, rfl, pv, [av], rfl, av, [], rfl, rfl, ?_⟩
    refine ⟨av, e9, ?_⟩
    cases a
    case lst ds =>
      cases aa with
      | lst gq aq =>
        rename_i b ys
        have t : Ts s l H1 b := ⟨cp.lst _ _ gq, (fun z => by rw [z, cp.lnG] at gq; cases gq), ys, cp.sub _ _ gq fun _ _ => nofun⟩
        obtain ⟨ys', hb, hlen⟩ := sp.yes b ys t (cp.sub _ _ gq fun _ _ => nofun)
        have hyl : ys.length ≤ 1000 := by rw [aq.length]; exact ans_len0 ga
        refine ⟨.ref b, .ty "list", .type "list", .type "list", true, rfl, .ty _, ty_lst hb, kit_of2 true (by decide +kernel), true, rfl, ?_⟩
        refine iteT ?_
        refine ⟨.ref b, e9, .inl ⟨rfl, _, SqL.of hb⟩, b, ys', .int 5, rfl, rfl, hb, Nat.lt_of_lt_of_le (show ys'.length < 100000 by omega) (by decide), ?_⟩
        refine next _ ⟨fun a n => ?_, fun a zs' h e => ?_⟩
        · rw [upd_ne (fun z : a = b => n (by rw [z]; exact t))]
          exact sp.not a n
        · by_cases z : a = b
          · subst z
            obtain ⟨ws, w1, w2⟩ := sp.yes a zs' h e
            rw [hb] at w1
            cases w1
            exact ⟨ys' ++ [.int 5], upd_same, by rw [List.length_append]; show _ + 1 ≤ _; omega⟩
          · obtain ⟨ws, w1, w2⟩ := sp.yes a zs' h e
            exact ⟨ws, by rw [upd_ne z]; exact w1, by omega⟩
    case non =>
      cases aa
      exact ⟨.non, .ty "list", .type "NoneType", .type "list", false, rfl, .ty _, ty_non, kit_of2 false (by decide +kernel), false, rfl, next _ more⟩
    case int n =>
      cases aa
      exact ⟨.int n, .ty "list", .type "int", .type "list", false, rfl, .ty _, ty_int, kit_of2 false (by decide +kernel), false, rfl, next _ more⟩
    case str z =>
      cases aa
      exact ⟨.str z, .ty "list", .type "str", .type "list", false, rfl, .ty _, ty_str, kit_of2 false (by decide +kernel), false, rfl, next _ more⟩
    case tup ds =>
      cases aa with
      | tup gq aq =>
        rename_i b ys
        have hb1 := cp.sub _ _ gq fun _ _ => nofun
        have hb : H b = some (.tup ys) := (sp.not b fun z => by
          obtain ⟨_, _, zs', z⟩ := z
          rw [hb1] at z
          cases z).trans (mp.old _ _ hb1)
        exact ⟨.ref b, .ty "list", .type "tuple", .type "list", false, rfl, .ty _, ty_tup hb, kit_of2 false (by decide +kernel), false, rfl, next _ more⟩
    all_goals first | (cases ga.2.1; done) | (cases ga.1; done)
  · have ei : i = xs.length := by omega
    subst ei
    exact .inl ⟨⟨xs, SqL.of hl6, Nat.le_refl _⟩, q y8 y9 H sp⟩
/-- a slot of which nothing is known any more, whatever it holds -/
theorem drop_slot {s : Sta} {i : Nat} {v : Option V} (D : Den K s) (h : nb s.ρ i = true) : Stp s { s with ρ := s.ρ.set i .un, σ := s.σ.set i v } ∧ Den K { s with ρ := s.ρ.set i .un, σ := s.σ.set i v } := by
  obtain ⟨hl, hb⟩ := nb_lt h
  have f : ∀ {j b}, OwnAt { s with ρ := s.ρ.set i .un, σ := s.σ.set i v } j b → j ≠ i ∧ OwnAt s j b := fun {j b} ⟨⟨sl, d, e1, e2⟩, e3⟩ => by
    rcases get_set e1 with ⟨rfl, rfl, _⟩ | ⟨n, e⟩
    · cases e2
    · have e3 : (s.σ.set i v)[j]? = some (some (.ref b)) := e3
      rw [List.getElem?_set_ne (Ne.symm n)] at e3
      exact ⟨n, ⟨sl, d, e, e2⟩, e3⟩
  refine ⟨⟨fun _ _ e => e, fun _ _ e _ => e, fun _ e => e, fun a ⟨j, z⟩ => .inl ⟨j, (f z).2⟩, fun _ _ _ e => e, fun j d e => ⟨d, ?_, ?_⟩⟩, ⟨D.sub, by show (s.σ.set i v).length = (s.ρ.set i .un).length; rw [List.length_set, List.length_set]; exact D.len, fun j d e => ?_, fun j sl d e c => ?_, fun j k a z1 z2 => D.dis j k a (f z1).2 (f z2).2⟩⟩
  · have n : i ≠ j := fun z => hb d (by rw [z]; exact e)
    show (s.ρ.set i .un)[j]? = _
    rw [List.getElem?_set_ne n]
    exact e
  · have n : i ≠ j := fun z => hb d (by rw [z]; exact e)
    show (s.σ.set i v)[j]? = _
    rw [List.getElem?_set_ne n]
  · rcases get_set e with ⟨_, q, _⟩ | ⟨n, e⟩
    · cases q
    · obtain ⟨w, e1, e2⟩ := D.val j d e
      exact ⟨w, by show (s.σ.set i v)[j]? = _; rw [List.getElem?_set_ne (Ne.symm n)]; exact e1, e2⟩
  · rcases get_set e with ⟨_, q, _⟩ | ⟨n, e⟩
    · rw [q] at c
      cases c
    · obtain ⟨a, o, e1, e2, e3, e4⟩ := D.own j sl d e c
      exact ⟨a, o, by show (s.σ.set i v)[j]? = _; rw [List.getElem?_set_ne (Ne.symm n)]; exact e1, e2, e3, e4⟩
theorem nfUs_of : ∀ {xs : List U}, (∀ x ∈ xs, nfU x = true) → nfUs xs = true
  | [], _ => rfl
  | x :: r, h => by
    show (nfU x && nfUs r) = true
    rw [h x List.mem_cons_self, nfUs_of fun y m => h y (List.mem_cons_of_mem _ m)]
    rfl
theorem nb_set2 {ρ : Sls} {i j : Nat} {x : Sl} (n : i ≠ j) (h : nb ρ j = true) : nb (ρ.set i x) j = true := by
  unfold nb at h ⊢
  rw [List.getElem?_set_ne n]
  exact h
variable {Pg : Program} {wd : World} {W : Wx} {ρ : Sls} {P : Post}
/-- handed = copy(due); part = Part(handed, ..); what was handed over is changed and emptied -/
theorem ws_handed {C : Addr} {es : List U} {ag : Bool} {zs : List Str} {m : Nat} {rest : TS} (h5 : ρ[5]? = some (.val (.lst es))) (h3 : ρ[3]? = some (.val (.bl ag))) (n6 : nb ρ 6 = true) (n7 : nb ρ 7 = true) (n8 : nb ρ 8 = true) (n9 : nb ρ 9 = true)
    (hE : Ent ag zs m es) (hm : m ≤ 900) (hz : ∀ z ∈ zs, CallS z) (q : WS K W rest ((((ρ.set 6 (.own (.lst []))).set 7 (.own (ptU C ag es))).set 8 .un).set 9 .un) P) :
    WS K W (tSeq (tAsg (tCall (spF Pg wd 1 (spU K r_lcopyC)) [] E0 (tCons (tVar 5) tNil)) (gName 6))
      (tSeq (tAsg (tMakeK C 1 1 (spF Pg wd 3 (spU K (r_pinitC C))) (fun vs zs => vs ++ zs) E0 (tCons (tVar 6) tNil) (tCons (tVar 3) tNil)) (gName 7))
        (tSeq (tLoop K 2) (tSeq (tDrop (tBM0 K "list" rClear (tVar 6))) rest)))) ρ P := by
  rintro s D rfl dn xo fi
  have hle := hE.le
  refine copied_run (es := es) (ag := ag) (zs := zs) dn h5 (by omega) hE.pr fun l H1 G1 xs cp => ?_
  obtain ⟨lt9, _⟩ := nb_lt n9
  have ln : s.σ.length = s.ρ.length := dn.len
  obtain ⟨v3, e3, a3⟩ := dn.val 3 _ h3
  cases a3
  have s6 : (s.σ.set 6 (some (.ref l)))[6]? = some (some (.ref l)) := List.getElem?_set_self (by omega)
  have s3 : (s.σ.set 6 (some (.ref l)))[3]? = some (some (.bl ag)) := by rw [List.getElem?_set_ne (by decide)]; exact e3
  show tSeq (tAsg (tMakeK C 1 1 (spF Pg wd 3 (spU K (r_pinitC C))) (fun vs zs => vs ++ zs) E0 (tCons (tVar 6) tNil) (tCons (tVar 3) tNil)) (gName 7)) (tSeq (tLoop K 2) (tSeq (tDrop (tBM0 K "list" rClear (tVar 6))) rest)) D (s.σ.set 6 (some (.ref l))) H1
  refine made_run (Pg := Pg) (wd := wd) (C := C) (es := es) (ag := ag) (zs := zs) (m := m) (Q := fun v H' => gName 7 v (s.σ.set 6 (some (.ref l))) H' (tSeq (tLoop K 2) (tSeq (tDrop (tBM0 K "list" rClear (tVar 6))) rest) D)) cp hE hm hz s6 s3 fun x H2 G2 mp => ?_
  have s6' : ((s.σ.set 6 (some (.ref l))).set 7 (some (.ref x)))[6]? = some (some (.ref l)) := by rw [List.getElem?_set_ne (by decide)]; exact s6
  show tSeq (tLoop K 2) (tSeq (tDrop (tBM0 K "list" rClear (tVar 6))) rest) D ((s.σ.set 6 (some (.ref l))).set 7 (some (.ref x))) H2
  refine loop_run (σ := (s.σ.set 6 (some (.ref l))).set 7 (some (.ref x))) cp mp hE.pr (by omega) s6' (by simp only [List.length_set]; omega) fun y8 y9 H sp => ?_
  have nl : ¬ Ts s l H1 l := fun z => z.2.1 rfl
  have hl : H l = some (.lst xs) := (sp.not l nl).trans (mp.old _ _ cp.at_)
  refine ⟨.ref l, ?_, .inl ⟨rfl, _, SqL.of hl⟩, l, xs, rfl, rfl, hl, ?_⟩
  · rw [set2_get (by decide) (by decide)]
    exact s6'
  -- the state behind it
  have old : ∀ a o, s.H a = some o → upd H l (.lst []) a = some o := fun a o e => by
    have e1 := cp.old a o e
    have a1 : a ≠ l := fun z => by
      rw [z, cp.new] at e
      cases e
    have a2 : ¬ Ts s l H1 a := fun z => by
      have := z.1
      rw [e] at this
      cases this
    rw [upd_ne a1, sp.not a a2]
    exact mp.old _ _ e1
  have lx : l ≠ x := ne_of_none cp.at_ mp.new
  have lst2 : ∀ a ys, H1 a = some (.lst ys) → ∀ o, G2 a = some o → ∃ o' u, o = .frz o' u := fun a ys e o g => by
    apply Classical.byContradiction
    intro n
    have n : ∀ o' u, o ≠ .frz o' u := fun o' u z => n ⟨o', u, z⟩
    have e2 := mp.sub a o g n
    rw [mp.old _ _ e] at e2
    cases e2
    rw [mp.lst a ys g] at e
    cases e
  let Good : Addr → Prop := fun a => s.G a ≠ none ∨ ∃ u, G2 a = some u ∧ ∀ o' u', u ≠ .frz o' u'
  have goodL : ∀ a ys, s.H a = none → H1 a = some (.lst ys) → ¬ Good a := fun a ys e0 e1 z => by
    rcases z with z | ⟨u, g, n⟩
    · cases g : s.G a with
      | none => exact z g
      | some o =>
        rw [dn.sub _ _ g] at e0
        cases e0
    · obtain ⟨o', u', z⟩ := lst2 a ys e1 u g
      exact n o' u' z
  have goodH : ∀ a, Good a → upd H l (.lst []) a = H2 a := fun a g => by
    have a1 : a ≠ l := fun z => by
      rw [z] at g
      exact goodL l xs cp.new cp.at_ g
    rw [upd_ne a1]
    exact sp.not a fun t => by
      obtain ⟨t1, _, ys, t3⟩ := t
      exact goodL a ys t1 t3 g
  classical
  let G3 : Hp := fun a => if Good a then upd H l (.lst []) a else none
  have g3y : ∀ a, Good a → G3 a = upd H l (.lst []) a := fun a g => if_pos g
  have g3n : ∀ a, ¬ Good a → G3 a = none := fun a g => if_neg g
  have sub0 : Same s.G G3 := fun a o e => by
    rw [g3y a (.inl (by rw [e]; exact nofun))]
    exact old a o (dn.sub _ _ e)
  have subH : Same G3 (upd H l (.lst [])) := fun a o e => by
    by_cases g : Good a
    · rw [g3y a g] at e
      exact e
    · rw [g3n a g] at e
      cases e
  have good0 : ∀ a, Tem (s.H a) → s.G a = none → ¬ Good a := fun a t g z => by
    rcases z with z | ⟨u, z, _⟩
    · exact z g
    · obtain ⟨o, e, nt⟩ := t
      have t1 : Tem (H1 a) := ⟨o, cp.old _ _ e, nt⟩
      rw [mp.own a t1 (fun q => by rw [q, cp.new] at e; cases e) (cp.own a ⟨o, e, nt⟩ g)] at z
      cases z
  have ownD : ∀ {j a}, OwnAt s j a → ∃ o, s.H a = some o ∧ s.G a = none ∧ ∀ xs, o ≠ .tup xs := fun {j a} ⟨⟨sl, d, e1, e2⟩, e3⟩ => by
    obtain ⟨b, o, f1, f2, f3, f4⟩ := dn.own j sl d e1 e2
    rw [e3] at f1
    cases f1
    exact ⟨o, f3, f2, f4.notup⟩
  have domA : ∀ a, upd H l (.lst []) a = none → s.H a = none := fun a e => by
    cases z : s.H a with
    | none => rfl
    | some o =>
      rw [old a o z] at e
      cases e
  have stA : Stp s { s with G := G3, H := upd H l (.lst []) } := ⟨sub0, fun a o e _ => old a o e, domA, fun a z => .inl z, fun a t _ g => g3n a (good0 a t g), fun j d e => ⟨d, e, rfl⟩⟩
  have dnA : Den K { s with G := G3, H := upd H l (.lst []) } := ⟨subH, dn.len, fun j d e => by
    obtain ⟨v, e1, e2⟩ := dn.val j d e
    exact ⟨v, e1, At.mono sub0 _ _ e2⟩, fun j sl d e c => by
    obtain ⟨a, o, e1, e2, e4, e5⟩ := dn.own j sl d e c
    exact ⟨a, o, e1, g3n a (good0 a ⟨o, e4, e5.notup⟩ e2), old a o e4, e5.mono sub0⟩, dn.dis⟩
  have nown : ∀ a, s.H a = none → ¬ Owns s a := fun a e ⟨j, z⟩ => by
    obtain ⟨o, f, _⟩ := ownD z
    rw [e] at f
    cases f
  -- the list
  have avL : AvOk K s { s with G := G3, H := upd H l (.lst []) } (.ref l) (.own (.lst [])) := ⟨l, _, rfl, upd_same, g3n l (goodL l xs cp.new cp.at_), .lst .nil, nown l cp.new, .inl cp.new⟩
  obtain ⟨stB, dnB⟩ := put_own (i := 6) stA dnA n6 avL
  -- the part
  have x0 : s.H x = none := by
    cases z : s.H x with
    | none => rfl
    | some o =>
      have := cp.old x o z
      rw [mp.new] at this
      cases this
  obtain ⟨ob, ho, hc⟩ := mp.ob
  have nxT : ¬ Ts s l H1 x := fun z => by
    obtain ⟨_, _, ys, z⟩ := z
    rw [mp.new] at z
    cases z
  have hx : upd H l (.lst []) x = some ob := by
    rw [upd_ne (Ne.symm lx), sp.not x nxT]
    exact ho
  have gx : ¬ Good x := fun z => by
    rcases z with z | ⟨u, z, _⟩
    · cases g : s.G x with
      | none => exact z g
      | some o => rw [dn.sub _ _ g] at x0; cases x0
    · rw [mp.xG] at z
      cases z
  have cellX : Cell K G3 ob (ptU C ag es) := by
    generalize ep : ptU C ag es = pt at hc
    cases hc with
    | obj ha =>
      refine .obj (AtAll.unf (fun a o e n => ?_) _ _ ?_ ha)
      · have g : Good a := .inr ⟨o, e, n⟩
        rw [g3y a g, goodH a g]
        exact mp.sub a o e n
      · have ed : [U.bl ag, .dct (ksP es) (xsP es)] = _ := (U.obj.inj (show U.obj C _ [U.bl ag, .dct (ksP es) (xsP es)] = _ from ep)).2.2
        rw [← ed]
        show (true && (nfUs (xsP es) && true)) = true
        rw [nfUs_of fun x hx => (ans_frz (kept_ans hE.pr x hx).1).2]
        rfl
    | lst _ => cases ep
    | dic _ => cases ep
    | dct _ => cases ep
  have avX : AvOk K s { s with G := G3, H := upd H l (.lst []), ρ := s.ρ.set 6 (.own (.lst [])), σ := s.σ.set 6 (some (.ref l)) } (.ref x) (.own (ptU C ag es)) := by
    refine ⟨x, ob, rfl, hx, g3n x gx, cellX, ?_, .inl x0⟩
    rintro ⟨j, ⟨sl, d, e1, e2⟩, e4⟩
    by_cases z : j = 6
    · subst z
      have e4 : (s.σ.set 6 (some (.ref l)))[6]? = some (some (.ref x)) := e4
      rw [s6] at e4
      cases e4
      exact lx rfl
    · have e1 : (s.ρ.set 6 (.own (.lst [])))[j]? = some sl := e1
      have e4 : (s.σ.set 6 (some (.ref l)))[j]? = some (some (.ref x)) := e4
      rw [List.getElem?_set_ne (Ne.symm z)] at e1 e4
      exact nown x x0 ⟨j, ⟨sl, d, e1, e2⟩, e4⟩
  obtain ⟨stC, dnC⟩ := put_own (i := 7) stB dnB (nb_set2 (by decide) n7) avX
  obtain ⟨stD, dnD⟩ := drop_slot (i := 8) (v := y8) dnC (nb_set2 (by decide) (nb_set2 (by decide) n8))
  obtain ⟨stE, dnE⟩ := drop_slot (i := 9) (v := y9) dnD (nb_set2 (by decide) (nb_set2 (by decide) (nb_set2 (by decide) n9)))
  have stF := stC.trans (stD.trans stE)
  exact q _ D rfl dnE (xo.next stF) (fi.next stF)
end

/-! ### what repr writes of answers tells them apart -/
section
open PySem.Builtin.Str
theorem repr_toDigits (i : Int) : (toString i).toList = (match i with | .ofNat m => Nat.toDigits 10 m | .negSucc m => '-' :: Nat.toDigits 10 (m + 1)) := by
  cases i with
  | ofNat m => exact String.toList_ofList
  | negSucc m =>
    show ("-" ++ String.ofList (Nat.toDigits 10 (m + 1))).toList = _
    rw [String.toList_append, String.toList_ofList, String.toList_ofList]
    rfl
theorem digits_inj {m n : Nat} (h : Nat.toDigits 10 m = Nat.toDigits 10 n) : m = n := by
  rw [← Nat.ofDigitChars_toDigits (b := 10) (n := m) (by decide) (by decide), h, Nat.ofDigitChars_toDigits (by decide) (by decide)]
theorem digits_minus {n : Nat} : ∀ c ∈ Nat.toDigits 10 n, c ≠ '-' := fun c hc e => by
  have := Nat.isDigit_of_mem_toDigits (by decide) (by decide) hc
  rw [e] at this
  exact absurd this (by decide)
theorem int_txt_inj {i j : Int} (h : (Str.ofString (toString i)).cps = (Str.ofString (toString j)).cps) : i = j := by
  rw [Str.ofString_eq_toList, Str.ofString_eq_toList] at h
  have h : (toString i).toList.map Char.toNat = (toString j).toList.map Char.toNat := congrArg Array.toList h
  have h : (toString i).toList = (toString j).toList := (List.map_inj_right fun a b e => Char.toNat_inj.mp e).mp h
  rw [repr_toDigits, repr_toDigits] at h
  cases i with
  | ofNat m =>
    cases j with
    | ofNat n => rw [digits_inj h]
    | negSucc n =>
      have h : Nat.toDigits 10 m = '-' :: Nat.toDigits 10 (n + 1) := h
      exact absurd rfl (digits_minus (n := m) '-' (by rw [h]; exact List.mem_cons_self))
  | negSucc m =>
    cases j with
    | ofNat n =>
      have h : '-' :: Nat.toDigits 10 (m + 1) = Nat.toDigits 10 n := h
      exact absurd rfl (digits_minus (n := n) '-' (by rw [← h]; exact List.mem_cons_self))
    | negSucc n =>
      have := digits_inj (List.cons.inj h).2
      rw [show m = n by omega]
theorem int_head (i : Int) : ∃ c r, (Str.ofString (toString i)).cps.toList = c :: r ∧ (c = 45 ∨ (48 ≤ c ∧ c ≤ 57)) := by
  rw [Str.ofString_eq_toList]
  show ∃ c r, (toString i).toList.map Char.toNat = c :: r ∧ _
  rw [repr_toDigits]
  cases i with
  | ofNat m =>
    show ∃ c r, (Nat.toDigits 10 m).map Char.toNat = c :: r ∧ _
    cases e : Nat.toDigits 10 m with
    | nil => exact absurd e Nat.toDigits_ne_nil
    | cons d r =>
      refine ⟨_, _, rfl, .inr ?_⟩
      have := Nat.isDigit_of_mem_toDigits (b := 10) (n := m) (c := d) (by decide) (by decide) (by rw [e]; exact List.mem_cons_self)
      unfold Char.isDigit at this
      rw [Bool.and_eq_true, decide_eq_true_iff, decide_eq_true_iff] at this
      obtain ⟨a1, a2⟩ := this
      exact ⟨UInt32.le_iff_toNat_le.mp a1, UInt32.le_iff_toNat_le.mp a2⟩
  | negSucc m => exact ⟨45, _, rfl, .inl rfl⟩
def isLet (c : Nat) : Bool := isUp c || isLow c
theorem let_char {c : Nat} (h : isLet c = true) : reprChar 39 c = [c] := by
  have all : (List.range 123).all (fun c => !(decide (65 ≤ c ∧ c ≤ 90) || decide (97 ≤ c ∧ c ≤ 122)) || (reprChar 39 c == [c])) = true := by decide +kernel
  have lt : c < 123 := by
    unfold isLet isUp isLow at h
    rw [Bool.or_eq_true, decide_eq_true_iff, decide_eq_true_iff] at h
    omega
  have := List.all_eq_true.mp all c (List.mem_range.mpr lt)
  have h : (decide (65 ≤ c ∧ c ≤ 90) || decide (97 ≤ c ∧ c ≤ 122)) = true := h
  rw [h] at this
  exact eq_of_beq (by simpa using this)
def lett (z : Str) : Prop := ∀ c ∈ z.cps.toList, isLet c = true
theorem fold_let : ∀ (l : List Nat) (acc : Array Nat), (∀ c ∈ l, isLet c = true) → (l.foldl (fun out c => out ++ (reprChar 39 c).toArray) acc).toList = acc.toList ++ l
  | [], acc, _ => by rw [List.append_nil]; rfl
  | c :: r, acc, h => by
    rw [List.foldl_cons, fold_let r _ fun d hd => h d (List.mem_cons_of_mem _ hd), let_char (h c List.mem_cons_self), Array.toList_append, List.append_assoc]
    rfl
theorem repr_let {z : Str} (h : lett z) : (reprText z).cps.toList = 39 :: z.cps.toList ++ [39] := by
  have q : reprQuote z = 39 := by
    unfold reprQuote
    rw [if_neg]
    intro e
    rw [Bool.and_eq_true] at e
    have := h 39 (by simpa using e.1)
    exact absurd this (by decide)
  unfold reprText
  rw [q]
  show ((z.cps.foldl _ #[39]).push 39).toList = _
  rw [Array.toList_push, ← Array.foldl_toList, fold_let _ _ h]
  rfl
theorem cps_ext {x y : Str} (h : x.cps.toList = y.cps.toList) : x = y := PySem.W.str_of_cps h
theorem repr_let_inj {x y : Str} (hx : lett x) (hy : lett y) (h : reprText x = reprText y) : x = y := by
  have h := congrArg (fun s => s.cps.toList) h
  rw [show (reprText x).cps.toList = _ from repr_let hx, show (reprText y).cps.toList = _ from repr_let hy] at h
  exact cps_ext (List.append_cancel_right (List.cons.inj h).2)
/-- an item, or a class's name -/
def SimA : U → Prop
  | .non => True
  | .int _ => True
  | .str z => lett z
  | _ => False
theorem low_let {z : Str} {m : Nat} (h : isWordZ z m = true) : lett z := fun c hc => by
  unfold isWordZ at h
  rw [Bool.and_eq_true] at h
  have := List.all_eq_true.mp h.2 c hc
  show (isUp c || isLow c) = true
  rw [this, Bool.or_true]
theorem cls_let {z : Str} (h : isClassL z.cps.toList = true) : lett z := fun c hc => by
  cases e : z.cps.toList with
  | nil => rw [e] at hc; cases hc
  | cons a r =>
    rw [e] at h hc
    rw [isClassL_cons, Bool.and_eq_true, Bool.and_eq_true] at h
    exact List.all_eq_true.mp h.2.2 c hc
theorem item_sim {d : U} (h : isItemD (dU d) = true) (o : okU d = true) : SimA d := by
  cases d <;> first | trivial | (cases o; done) | (cases h; done) | exact low_let h
/-- the first sign -/
def hd1 (d : U) : Option Nat := (PyData.shown (dU d)).cps.toList.head?
theorem hd_non : hd1 .non = some 78 := by decide
theorem hd_int (i : Int) : ∃ c, hd1 (.int i) = some c ∧ (c = 45 ∨ (48 ≤ c ∧ c ≤ 57)) := by
  obtain ⟨c, r, e, h⟩ := int_head i
  refine ⟨c, ?_, h⟩
  show (Str.ofString (toString i)).cps.toList.head? = _
  rw [e]
  rfl
theorem hd_str {z : Str} (h : lett z) : hd1 (.str z) = some 39 := by
  show (reprText z).cps.toList.head? = _
  rw [repr_let h]
  rfl
theorem sim_inj {d e : U} (hd : SimA d) (he : SimA e) (h : PyData.shown (dU d) = PyData.shown (dU e)) : d = e := by
  have hh : hd1 d = hd1 e := by unfold hd1; rw [h]
  cases d <;> cases e <;> first | (cases hd; done) | (cases he; done) | skip
  · rfl
  · obtain ⟨c, e1, e2⟩ := hd_int ‹Int›
    rw [hd_non, e1] at hh
    cases hh
    omega
  · rw [hd_non, hd_str he] at hh
    cases hh
  · obtain ⟨c, e1, e2⟩ := hd_int ‹Int›
    rw [hd_non, e1] at hh
    cases hh
    omega
  · rw [int_txt_inj (congrArg Str.cps h)]
  · obtain ⟨c, e1, e2⟩ := hd_int ‹Int›
    rw [hd_str he, e1] at hh
    cases hh
    omega
  · rw [hd_non, hd_str hd] at hh
    cases hh
  · obtain ⟨c, e1, e2⟩ := hd_int ‹Int›
    rw [hd_str hd, e1] at hh
    cases hh
    omega
  · rw [repr_let_inj hd he h]
end

/-! ### answers compared by what repr writes -/
theorem split_at {α : Type} {c : α} : ∀ {k k' X X' : List α}, c ∉ k → c ∉ k' → k ++ c :: X = k' ++ c :: X' → k = k' ∧ X = X'
  | [], [], _, _, _, _, h => ⟨rfl, (List.cons.inj h).2⟩
  | [], a :: k', _, _, _, h2, h => absurd (by rw [(List.cons.inj h).1]; exact List.mem_cons_self) h2
  | a :: k, [], _, _, h1, _, h => absurd (by rw [← (List.cons.inj h).1]; exact List.mem_cons_self) h1
  | a :: k, b :: k', X, X', h1, h2, h => by
    have h := List.cons.inj h
    obtain ⟨e1, e2⟩ := split_at (fun m => h1 (List.mem_cons_of_mem _ m)) (fun m => h2 (List.mem_cons_of_mem _ m)) h.2
    exact ⟨by rw [h.1, e1], e2⟩
theorem tup_cps (a b c : Str) : (tupleText [a, b, c]).cps.toList = 40 :: (a.cps.toList ++ 44 :: 32 :: (b.cps.toList ++ 44 :: 32 :: c.cps.toList)) ++ [41] := by
  show ((("(" : Str) ++ (a ++ ", " ++ (b ++ ", " ++ c))) ++ (")" : String)).cps.toList = _
  show (((#[40] : Array Nat) ++ ((a.cps ++ #[44, 32]) ++ ((b.cps ++ #[44, 32]) ++ c.cps))) ++ #[41]).toList = _
  simp only [Array.toList_append, List.append_assoc, List.cons_append, List.nil_append]
theorem no39 {z : Str} (h : lett z) : 39 ∉ z.cps.toList := fun m => absurd (h 39 m) (by decide)
theorem tup_inj {r k k' : Str} {c c' : U} (hk : lett k) (hk' : lett k') (hc : SimA c) (hc' : SimA c') (h : PyData.shown (dU (.tup [.str r, .str k, c])) = PyData.shown (dU (.tup [.str r, .str k', c']))) : k = k' ∧ c = c' := by
  have h : (tupleText [reprText r, reprText k, PyData.shown (dU c)]).cps.toList = (tupleText [reprText r, reprText k', PyData.shown (dU c')]).cps.toList := congrArg (fun s => s.cps.toList) h
  rw [tup_cps, tup_cps, repr_let hk, repr_let hk'] at h
  have h := List.append_cancel_left (List.append_cancel_right (List.cons.inj h).2)
  have h := (List.cons.inj (List.cons.inj h).2).2
  simp only [List.cons_append, List.append_assoc, List.nil_append] at h
  have h := (List.cons.inj h).2
  obtain ⟨e1, e2⟩ := split_at (no39 hk) (no39 hk') h
  refine ⟨cps_ext e1, sim_inj hc hc' (cps_ext ?_)⟩
  exact (List.cons.inj (List.cons.inj e2).2).2
theorem ans_shape {d : U} (h : AnsU d) : SimA d ∨ (∃ z c, d = .tup [.str (Str.ofString "raises"), .str z, c] ∧ lett z ∧ SimA c) ∨ ∃ ds, d = .lst ds ∧ ∀ x ∈ ds, SimA x := by
  obtain ⟨h1, h2, h3⟩ := h
  clear h3
  cases d
  case lst ds =>
    refine .inr (.inr ⟨ds, rfl, fun x hx => ?_⟩)
    have h1 : (dUs ds).all isItemD = true := h1
    exact item_sim (List.all_eq_true.mp h1 _ (dUs_mem hx)) (okUs_mem2 h2 hx)
  case tup ds =>
    obtain ⟨r, k, c, rfl⟩ := ans_tup0 h1
    have a := h1
    have h : (PyData.eqv (dU r) (.str (Str.ofString "raises")) && (isClassD (dU k) && (PyData.eqv (dU c) .none || isClassD (dU c)))) = true := a
    rw [Bool.and_eq_true, Bool.and_eq_true, Bool.or_eq_true] at h
    obtain ⟨a1, a2, a3⟩ := h
    have h2 : (okU r && (okU k && (okU c && true))) = true := h2
    rw [Bool.and_eq_true, Bool.and_eq_true, Bool.and_true] at h2
    obtain ⟨o1, o2, o3⟩ := h2
    refine .inr (.inl ?_)
    cases r <;> first | (cases a1; done) | skip
    cases k <;> first | (cases a2; done) | skip
    rename_i r k
    have er : r = Str.ofString "raises" := eq_of_beq a1
    subst er
    refine ⟨k, c, rfl, cls_let a2, ?_⟩
    rcases a3 with a3 | a3
    · cases c <;> first | trivial | (cases o3; done) | (cases a3; done)
    · cases c <;> first | trivial | (cases o3; done) | (cases a3; done) | exact cls_let a3
  all_goals first | (cases h2; done) | exact .inl (item_sim h1 h2)
theorem eqv_sim {d e : U} (hd : SimA d) (he : SimA e) : PyData.eqv (dU d) (dU e) = true ↔ d = e := by
  cases d <;> cases e <;> first | (cases hd; done) | (cases he; done) | skip
  all_goals first
    | exact ⟨fun _ => rfl, fun _ => rfl⟩
    | (refine ⟨fun h => ?_, fun h => ?_⟩ <;> first | (cases h; done) | skip)
  · rw [show _ = _ from eq_of_beq h]
  · cases h
    exact beq_self_eq_true _
  · rw [show _ = _ from eq_of_beq h]
  · cases h
    exact beq_self_eq_true _
theorem sim_dec {d e : U} (hd : SimA d) (he : SimA e) : decide (V.str (PyData.shown (dU d)) = V.str (PyData.shown (dU e))) = PyData.eqv (dU d) (dU e) := by
  rw [Bool.eq_iff_iff, decide_eq_true_iff, eqv_sim hd he]
  exact ⟨fun h => sim_inj hd he (V.str.inj h), fun h => by rw [h]⟩
theorem hd_tup {r z : Str} {c : U} : hd1 (.tup [.str r, .str z, c]) = some 40 := by
  show (tupleText [reprText r, reprText z, PyData.shown (dU c)]).cps.toList.head? = _
  rw [tup_cps]
  rfl
theorem textFrom_head : ∀ (ts : List Str) (k : Nat) (acc : Str), acc.cps.toList.head? = some 91 → (textFrom k acc ts).cps.toList.head? = some 91
  | [], _, _, h => h
  | t :: ts, k, acc, h => by
    refine textFrom_head ts (k + 1) _ ?_
    show ((acc.cps ++ _) ++ t.cps).toList.head? = _
    rw [Array.toList_append, Array.toList_append]
    cases e : acc.cps.toList with
    | nil => rw [e] at h; cases h
    | cons c r => rw [e] at h; exact h
theorem hd_lst {ds : List U} : hd1 (.lst ds) = some 91 := by
  show (listText (PyData.shownAll (dUs ds))).cps.toList.head? = _
  unfold listText
  show ((textFrom 0 "[" (PyData.shownAll (dUs ds))).cps ++ _).toList.head? = _
  have := textFrom_head (PyData.shownAll (dUs ds)) 0 "[" rfl
  rw [Array.toList_append]
  cases e : (textFrom 0 "[" (PyData.shownAll (dUs ds))).cps.toList with
  | nil => rw [e] at this; cases this
  | cons c r => rw [e] at this; exact this
theorem hd_sim {d : U} (h : SimA d) : hd1 d ≠ some 40 ∧ hd1 d ≠ some 91 := by
  cases d <;> first | (cases h; done) | skip
  · rw [hd_non]
    exact ⟨by decide, by decide⟩
  · obtain ⟨c, e1, e2⟩ := hd_int ‹Int›
    rw [e1]
    refine ⟨fun h => ?_, fun h => ?_⟩ <;> (cases h; omega)
  · rw [hd_str h]
    exact ⟨by decide, by decide⟩
/-- an answer that is no list, and any other one -/
theorem nl_dec {d e : U} (hd : AnsU d) (he : AnsU e) (nd : ∀ ds, d ≠ .lst ds) : decide (V.str (PyData.shown (dU d)) = V.str (PyData.shown (dU e))) = PyData.eqv (dU d) (dU e) := by
  have apart : hd1 d ≠ hd1 e → PyData.eqv (dU d) (dU e) = false → decide (V.str (PyData.shown (dU d)) = V.str (PyData.shown (dU e))) = PyData.eqv (dU d) (dU e) := fun n f => by
    rw [f, decide_eq_false fun h => n (by unfold hd1; rw [V.str.inj h])]
  rcases ans_shape hd with s1 | ⟨z, c, rfl, hz, hc⟩ | ⟨ds, rfl, _⟩
  · rcases ans_shape he with s2 | ⟨z2, c2, rfl, _, _⟩ | ⟨ds, rfl, _⟩
    · exact sim_dec s1 s2
    · exact apart (by rw [hd_tup]; exact (hd_sim s1).1) (by cases d <;> first | rfl | (cases s1; done))
    · exact apart (by rw [hd_lst]; exact (hd_sim s1).2) (by cases d <;> first | rfl | (cases s1; done))
  · rcases ans_shape he with s2 | ⟨z2, c2, rfl, hz2, hc2⟩ | ⟨ds, rfl, _⟩
    · exact apart (by rw [hd_tup]; exact fun h => (hd_sim s2).1 h.symm) (by cases e <;> first | rfl | (cases s2; done))
    · rw [Bool.eq_iff_iff, decide_eq_true_iff]
      show _ ↔ ((Str.ofString "raises" == Str.ofString "raises") && ((z == z2) && (PyData.eqv (dU c) (dU c2) && true))) = true
      rw [beq_self_eq_true, Bool.true_and, Bool.and_true, Bool.and_eq_true, eqv_sim hc hc2]
      constructor
      · intro h
        obtain ⟨e1, e2⟩ := tup_inj hz hz2 hc hc2 (V.str.inj h)
        exact ⟨by rw [e1]; exact beq_self_eq_true _, e2⟩
      · rintro ⟨e1, e2⟩
        rw [eq_of_beq e1, e2]
    · exact apart (by rw [hd_tup, hd_lst]; exact by decide) rfl
  · exact absurd rfl (nd ds)

/-! ### own |, == of dicts with tuple keys, not in a list, by data -/
theorem hu65 {A : Around} {k : Nat} (hr : Room k A) : A.units + 65 < cLine := by have := hr.un; omega
theorem op_notInDK {X : Cx} {K : PySem.W.Frag} (hK : X.K = K) (hu : X.A.units + 65 < cLine) : OpR X (compareOp .NotIn) (rNotInD K) := hK ▸ op_notInD hu
theorem pe_fldK {X : Cx} {K : PySem.W.Frag} {e : Expr} {f : Str} {ta : TE} {pos : Pos} (hK : X.K = K) (he : PE X e ta) (hb : attributeBase e f X.env (eval e X.env) = eval e X.env) : PE X (.Attribute e f pos) (tFld K ta f) := hK ▸ pe_fld he hb
section
variable {K : PySem.W.Frag} {W : Wx} {X : Er → Sls → Prop} {ρ : Sls}
theorem wr_notInD {a b : Av} {d : U} {es : List U} {Q : Av → Sls → Prop} (ha : View ρ a d) (hb : View ρ b (.lst es)) (od : okU d = true) (oe : okUs es = true) (sd : SeqAt.shaped (dU d) = true) (se : SeqAt.shaped (dU (.lst es)) = true) (q : Q (.dt (.bl (!(dUs es).any fun z => PyData.eqv z (dU d)))) ρ) : WR K W (rNotInD K) a b ρ Q X := by
  rintro s v w Q0 rfl D _ h1 h2 k
  exact ⟨dU d, dUs es, at_dp d v (view_at D h1 ha) od, at_dp (.lst es) w (view_at D h2 hb) oe, sd, se, k.dt D (.bl _) q⟩
theorem wr_eqT {a b : Av} {ks ls : List (List Key)} {xs ys : List U} {Q : Av → Sls → Prop} (ha : View ρ a (.dct ks xs)) (hb : View ρ b (.dct ls ys)) (ox : okUs xs = true) (oy : okUs ys = true) (fx : ∀ d ∈ dUs xs, FlatD d) (fy : ∀ d ∈ dUs ys, FlatD d)
    (q : Q (.dt (.bl (ks.length == ls.length && hitsG ls (dUs ys) ks (dUs xs)))) ρ) : WR K W (rEqT K) a b ρ Q X := by
  rintro s v w Q0 rfl D _ h1 h2 k
  obtain ⟨p, kvs, rfl, e1, rfl, q1⟩ := view_dct D h1 ha
  obtain ⟨p2, lvs, rfl, e2, rfl, q2⟩ := view_dct D h2 hb
  refine ⟨p, p2, kvs, lvs, dUs xs, dUs ys, rfl, rfl, e1, e2, ats_dp xs _ (AtAll.mono D.sub _ _ q1) ox, ats_dp ys _ (AtAll.mono D.sub _ _ q2) oy, fx, fy, k.dt D (.bl _) ?_⟩
  rw [List.length_map, List.length_map] at q
  exact q
theorem wc_isO {a c : Av} {C : Addr} {ns : List Str} {xs : List U} {dc : U} {u : Value} {b : Bool} {Q : Av → Sls → Prop} (cl : Cls K C) (f1 : PySem.W.findIn K (.ref C) "__class__" = some (some (.builtin "object.__class__"))) (f2 : PySem.W.specialIn K (.builtin "object.__class__") "__get__" = some (some (.builtin "getset_descriptor.__get__")))
    (f3 : PySem.W.takesIn K (.builtin "object.__class__") = some true) (f4 : PySem.W.mroIn K C (.type "object") = some true) (ha : View ρ a (.obj C ns xs)) (hc : c = .dt dc) (hu : clsU dc = some u) (e : PySem.W.kitOne K (.ref C) u = some b) (q : Q (.dt (.bl b)) ρ) : WC K W (rIsG K) [a, c] ρ Q X := by
  rintro s vs Q0 rfl D _ h k
  obtain ⟨v, w, rfl, h1, h2⟩ := avs_two h
  subst hc
  have h2 : At K s.G w dc := h2
  have cv : ClsV w u := by
    cases h2 <;> first | (cases hu; done) | skip
    · cases hu
      exact .ty _
    · cases hu
      exact .own _
  obtain ⟨o, dx, fs, rfl, e1, _, _⟩ := view_obj D h1 ha
  exact ⟨.ref o, w, .ref C, u, b, rfl, cv, .inl (.base (.ins e1 cl f1 f2 f3 f4)), e, k.dt D (.bl _) q⟩
theorem wr_orOwn {C : Addr} {R : RU} {a b : Av} {ns ms : List Str} {xs ys : List U} {Q : Av → Sls → Prop} (fa : a.flat) (fb : b.flat) (ha : View ρ a (.obj C ns xs)) (hb : View ρ b (.obj C ms ys)) (h : CallU R [a, b] ρ Q (fun _ _ => False)) : WR K W (rOrOwn C (spU K R) E0) a b ρ Q X := by
  rintro s v w Q0 rfl D _ h1 h2 k
  obtain ⟨o, dx, fs, rfl, e1, _, _⟩ := view_obj D h1 ha
  obtain ⟨o2, dy, gs, rfl, e2, _, _⟩ := view_obj D h2 hb
  exact ⟨o, dx, fs, o2, dy, gs, rfl, rfl, e1, e2, h.run D (.cons fa h1 (.cons fb h2 .nil)) k fun _ _ _ _ _ _ _ _ z => z.elim⟩
end

local macro_rules | `(tactic| walk_at "u") => `(tactic| with_reducible refine we_listV ?_)
/-! ### weights, len, ==, | of parts -/
def weightU : U → Int
  | .non => 0
  | .lst ds => 1 + (ds.length : Int)
  | _ => 1
def r_weight : RU := fun ρ Q _ => ∃ d, ρ = [.val d] ∧ AnsU d ∧ Q (.dt (.int (weightU d))) [.val d]
def r_total : RU := fun ρ Q _ => ∃ ds : List U, ρ = [.val (.lst ds)] ∧ ds.length ≤ 900 ∧ (∀ d ∈ ds, AnsU d) ∧ Q (.dt (.int (ds.map weightU).sum)) [.val (.lst ds)]
def r_pweight (C : Addr) : RU := fun ρ Q _ => ∃ (ag : Bool) (ks : List (List Key)) (xs : List U), ρ = [.val (prtU C ag ks xs)] ∧ xs.length ≤ 900 ∧ (∀ x ∈ xs, AnsU x) ∧ Q (.dt (.int (xs.map weightU).sum)) [.val (prtU C ag ks xs)]
def r_plen (C : Addr) : RU := fun ρ Q _ => ∃ (ag : Bool) (ks : List (List Key)) (xs : List U), ρ = [.val (prtU C ag ks xs)] ∧ xs.length < 100000 ∧ Q (.dt (.int xs.length)) [.val (prtU C ag ks xs)]
def eqT (ks : List (List Key)) (xs : List U) (ls : List (List Key)) (ys : List U) : Bool := ks.length == ls.length && hitsG ls (dUs ys) ks (dUs xs)
def r_peq (C : Addr) : RU := fun ρ Q _ => ∃ (ag : Bool) (ks ls : List (List Key)) (xs ys : List U), ρ = [.val (prtU C ag ks xs), .val (prtU C ag ls ys)] ∧ (∀ x ∈ xs, AnsU x) ∧ (∀ x ∈ ys, AnsU x) ∧ Q (.dt (.bl (eqT ks xs ls ys))) [.val (prtU C ag ks xs), .val (prtU C ag ls ys)]
def r_por (C : Addr) : RU := fun ρ Q _ => ∃ (ag : Bool) (zs : List Str) (m n : Nat) (es fs : List U), ρ = [.val (prtU C ag (ksP es) (xsP es)), .val (prtU C ag (ksP fs) (xsP fs))] ∧ Ent ag zs m es ∧ Ent ag zs n fs ∧ m + n ≤ 200 ∧ (∀ z ∈ zs, CallS z) ∧
  Q (.own (prtU C ag (ksP (joinU es fs)) (xsP (joinU es fs)))) [.val (prtU C ag (ksP es) (xsP es)), .val (prtU C ag (ksP fs) (xsP fs))]
theorem ans_len {ds : List U} (h : AnsU (.lst ds)) : ds.length ≤ 1000 := by
  have fi : (decide ((dUs ds).length ≤ 1000) && fineAll (dUs ds)) = true := h.2.2.1
  rw [Bool.and_eq_true] at fi
  have hl := of_decide_eq_true fi.1
  rw [dUs_map, List.length_map] at hl
  exact hl
theorem ans_flat {xs : List U} (h : ∀ x ∈ xs, AnsU x) : ∀ d ∈ dUs xs, FlatD d := fun d hd => by
  rw [dUs_map] at hd
  obtain ⟨x, hx, rfl⟩ := List.mem_map.mp hd
  obtain ⟨_, h2, h3, h4⟩ := h x hx
  exact ⟨shaped_fine h3 (Nat.le_trans h4 (by decide)), Nat.le_trans h4 (by decide)⟩
section
variable {P : Program} {w : World} {K : PySem.W.Frag} {mg : Str → Option Value} {base : Heap}
theorem uk_weight (T : Txt K mg) : FnOk P w K mg base CX0 1 T.f_weight T.fd_weight ["answer"] (spU K r_weight) := by
  refine Fun_okU T.F_weight sc_weight (fun ρ Q X h => ?_) (fun cdv A outer s H E hr => ⟨_, (pss_cons (ps_if (pt_cmpR op_isN (pv 0) pe_non (nomark _)) (pss_one (ps_ret pe_int)) pss_nil)
        (pss_cons (ps_if (pt_val (pe_callB call_isi (by rfl) T.m_isinstance (by decide +kernel) (pa_cons (pv 0) (pa_cons (pe_bltn (v := .ty "list") (by rfl) T.m_list (by decide +kernel) rfl) pa_nil)))) (pss_one (ps_ret (pe_op op_add pe_int (pe_callB call_len (by rfl) T.m_len (by decide +kernel) (pa_cons (pv 0) pa_nil))))) pss_nil)
        (pss_one (ps_ret pe_int)))), ?_⟩)
  · obtain ⟨d, rfl, _⟩ := h
    rfl
  rintro W ρ Qd Xd ⟨d, rfl, ha, q⟩
  show WS K _ _ [.val _] _
  have ok := ha.2.1
  cases d
  case lst ds =>
    have hl := ans_len ha
    repeat (walk_at "u")
    exact q
  all_goals (first | (cases ok; done) | ((repeat (walk_at "u")); exact q))
theorem uk_lweight (T : Txt K mg) : FnOk P w K mg base CX0 1 T.f_law_weight T.fd_law_weight ["answer"] (spU K r_weight) := by
  refine Fun_okU T.F_law_weight sc_law_weight (fun ρ Q X h => ?_) (fun cdv A outer s H E hr => ⟨_, (pss_one (ps_ret (pe_ifExp (pt_val (pe_callB call_isi (by rfl) T.m_isinstance (by decide +kernel) (pa_cons (pv 0) (pa_cons (pe_bltn (v := .ty "list") (by rfl) T.m_list (by decide +kernel) rfl) pa_nil)))) (pe_op op_add pe_int (pe_callB call_len (by rfl) T.m_len (by decide +kernel) (pa_cons (pv 0) pa_nil))) (pe_callTy call_int1 (by rfl) T.m_int (by decide +kernel) (pa_cons (pe_cmpR op_notN (pv 0) pe_non (nomark _)) pa_nil))))), ?_⟩)
  · obtain ⟨d, rfl, _⟩ := h
    rfl
  rintro W ρ Qd Xd ⟨d, rfl, ha, q⟩
  show WS K _ _ [.val _] _
  have ok := ha.2.1
  cases d
  case lst ds =>
    have hl := ans_len ha
    repeat (walk_at "u")
    exact q
  all_goals (first | (cases ok; done) | ((repeat (walk_at "u")); exact q))
theorem uk_total (T : Txt K mg) : FnOk P w K mg base CX0 2 T.f_total_weight T.fd_total_weight ["answers"] (spU K r_total) := by
  have G_weight := uk_weight (P := P) (w := w) (base := base) T
  refine Fun_okU T.F_total_weight sc_total_weight (fun ρ Q X h => ?_) (fun cdv A outer s H E hr => ⟨_, (pss_one (ps_ret (pe_callB (cr_sum rfl) (by rfl) T.m_sum (by decide +kernel) (pa_cons (pe_lc (own := [("answer", 1)]) (g := gName 1) rfl sc_total_weight.nd (pi_list (pv 0)) (blkOk_by (own := [("answer", 1)]) (N := ["answers", "answer"]) (sc := defScope s_total_weight) (by decide +kernel)) (fun _ _ _ _ _ => pg_name (i := 1) sc_total_weight.nd rfl (.inl rfl)) (fun _ _ _ _ _ => pts_nil) (fun _ _ _ _ _ => (pe_call G_weight hr (by rfl) T.g_weight T.F_weight.kp T.b_weight .nil pass0 (pa_cons (pv 1) pa_nil)))) pa_nil)))), ?_⟩)
  · obtain ⟨ds, rfl, _⟩ := h
    rfl
  rintro W ρ Qd Xd ⟨ds, rfl, hl, ha, q⟩
  show WS K _ _ [.val _, .un] _
  repeat (walk_at "u")
  refine ⟨_, _, frzC_ok rfl, rfl, fun k acc ρ => ρ = [.val (.lst ds), .un] ∧ acc = ((ds.map weightU).take k).map U.int, ⟨rfl, rfl⟩, ?_, ?_⟩
  · rintro k d acc ρ hd hl2 ⟨rfl, rfl⟩
    have kl : k < ds.length := (List.getElem?_eq_some_iff.mp hd).1
    have l : (((ds.map weightU).take k).map U.int).length < 1000 := by rw [List.length_map, List.length_take, List.length_map]; omega
    have tk : ((ds.map weightU).take (k + 1)).map U.int = ((ds.map weightU).take k).map U.int ++ [.int (weightU d)] := by
      rw [take_one (show (ds.map weightU)[k]? = some (weightU d) by rw [List.getElem?_map, hd]; rfl), List.map_append]
      rfl
    repeat (walk_at "u")
    refine callU [true] rfl rfl fun Q' X' qq xx => ⟨d, rfl, ha d (List.mem_of_getElem? hd), qq _ _ ?_⟩
    walk_at "ucl"
    repeat (walk_at "u")
    exact ⟨_, _, frzC_ok rfl, l, rfl, rfl, tk.symm⟩
  · rintro acc ρ2 hl2 ⟨rfl, rfl⟩
    rw [List.take_of_length_le (by rw [List.length_map]; exact Nat.le_refl _)]
    repeat (walk_at "u")
    refine wc_sum rfl ?_
    repeat (walk_at "u")
    exact q
theorem uk_pweight (T : Txt K mg) : FnOk P w K mg base CX0 3 T.f_Part_weight T.fd_Part_weight ["self"] (spU K (r_pweight T.C_Part)) := by
  have G_total_weight := uk_total (P := P) (w := w) (base := base) T
  refine Fun_okU T.F_Part_weight sc_Part_weight (fun ρ Q X h => ?_) (fun cdv A outer s H E hr => ⟨_, (pss_one (ps_ret (pe_call G_total_weight hr (by rfl) T.g_total_weight T.F_total_weight.kp T.b_total_weight .nil pass0 (pa_cons (pe_callTy (call_listV rfl) (by rfl) T.m_list (by decide +kernel) (pa_cons (pe_valsT (pe_fld (pv 0) rfl)) pa_nil)) pa_nil)))), ?_⟩)
  · obtain ⟨ag, ks, xs, rfl, _⟩ := h
    rfl
  rintro W ρ Qd Xd ⟨ag, ks, xs, rfl, hl, ha, q⟩
  show WS K _ _ [.val _] _
  repeat (walk_at "u")
  refine ⟨T.C_Part, _, _, .dct ks xs, rfl, T.cl_Part, T.nA_Part__answers, rfl, ks, xs, rfl, ?_⟩
  repeat (walk_at "u")
  refine callU [false] rfl rfl fun Q' X' qq xx => ⟨xs, rfl, hl, ha, qq _ _ ?_⟩
  walk_at "ucl"
  repeat (walk_at "u")
  exact q
theorem uk_plen (T : Txt K mg) : FnOk P w K mg base CX0 1 T.f_Part___len__ T.fd_Part___len__ ["self"] (spU K (r_plen T.C_Part)) := by
  refine Fun_okU T.F_Part___len__ sc_Part___len__ (fun ρ Q X h => ?_) (fun cdv A outer s H E hr => ⟨_, (pss_one (ps_ret (pe_callB call_len_dT (by rfl) T.m_len (by decide +kernel) (pa_cons (pe_fld (pv 0) rfl) pa_nil)))), ?_⟩)
  · obtain ⟨ag, ks, xs, rfl, _⟩ := h
    rfl
  rintro W ρ Qd Xd ⟨ag, ks, xs, rfl, hl, q⟩
  show WS K _ _ [.val _] _
  repeat (walk_at "u")
  refine ⟨T.C_Part, _, _, .dct ks xs, rfl, T.cl_Part, T.nA_Part__answers, rfl, ?_⟩
  repeat (walk_at "u")
  refine wc_lenT rfl hl ?_
  repeat (walk_at "u")
  exact q
theorem uk_peq (T : Txt K mg) : FnOk P w K mg base CX0 1 T.f_Part___eq__ T.fd_Part___eq__ ["self", "other"] (spU K (r_peq T.C_Part)) := by
  refine Fun_okU T.F_Part___eq__ sc_Part___eq__ (fun ρ Q X h => ?_) (fun cdv A outer s H E hr => ⟨_, (pss_one (ps_ret (pe_and (pe_callB call_isG (by rfl) T.m_isinstance (by decide +kernel) (pa_cons (pv 1) (pa_cons (pe_glob (v := .ref T.C_Part) rfl T.gC_Part rfl) pa_nil))) (pe_and (pe_cmpR op_eq (pe_fld (pv 0) rfl) (pe_fld (pv 1) rfl) (nomark _)) (pe_one (pe_cmpR (op_eqT (K := K) rfl hr.units) (pe_fld (pv 0) rfl) (pe_fld (pv 1) rfl) (nomark _))))))), ?_⟩)
  · obtain ⟨ag, ks, ls, xs, ys, rfl, _⟩ := h
    rfl
  rintro W ρ Qd Xd ⟨ag, ks, ls, xs, ys, rfl, hx, hy, q⟩
  show WS K _ _ [.val _, .val _] _
  repeat (walk_at "u")
  refine wc_isO T.cl_Part T.tp_Part.ca T.tp_Part.cg T.tp_Part.ct T.tp_Part.top (show View _ (.dt _) (.obj _ _ _) from rfl) rfl rfl T.tp_Part.k1 ?_
  repeat (walk_at "u")
  refine ⟨_, _, _, .bl ag, rfl, T.cl_Part, T.nA_Part_ageing, rfl, ?_⟩
  repeat (walk_at "u")
  refine ⟨_, _, _, .bl ag, rfl, T.cl_Part, T.nA_Part_ageing, rfl, ?_⟩
  repeat (walk_at "u")
  refine uT (by rw [decide_eq_true rfl]) ?_
  repeat (walk_at "u")
  refine ⟨_, _, _, .dct ks xs, rfl, T.cl_Part, T.nA_Part__answers, rfl, ?_⟩
  repeat (walk_at "u")
  refine ⟨_, _, _, .dct ls ys, rfl, T.cl_Part, T.nA_Part__answers, rfl, ?_⟩
  refine wr_eqT rfl rfl (okUs_of fun x m => (hx x m).2.1) (okUs_of fun x m => (hy x m).2.1) (ans_flat hx) (ans_flat hy) ?_
  repeat (walk_at "u")
  exact q
end

/-! ### what the law joins -/
theorem eqv_tup (ps qs : List Str) : PyData.eqv (dU (.tup (ps.map .str))) (dU (.tup (qs.map .str))) = decide (ps = qs) := eqv_strs ps qs
theorem keyP_inj {ps qs : List Str} (h : keyP ps = keyP qs) : ps = qs := inr_inj h
theorem any_keys {qs : List Str} : ∀ {ks : List (List Key)}, (∀ k ∈ ks, ∃ ps : List Str, k = keyP ps) → ((dUs (ks.map tupU)).any fun z => PyData.eqv z (dU (.tup (qs.map .str)))) = memG (keyP qs) ks
  | [], _ => rfl
  | k :: ks, h => by
    obtain ⟨ps, rfl⟩ := h k List.mem_cons_self
    have ih := any_keys (qs := qs) fun k m => h k (List.mem_cons_of_mem _ m)
    show (PyData.eqv (dU (tupU (keyP ps))) (dU (.tup (qs.map .str))) || (dUs (ks.map tupU)).any fun z => PyData.eqv z (dU (.tup (qs.map .str)))) = _
    rw [ih, tupU_key, eqv_tup]
    by_cases e : ps = qs
    · subst e
      rw [decide_eq_true rfl, Bool.true_or, memG_yes List.mem_cons_self]
    · rw [decide_eq_false e, Bool.false_or]
      by_cases m : keyP qs ∈ ks
      · rw [memG_yes m, memG_yes (List.mem_cons_of_mem _ m)]
      · rw [memG_no m, memG_no fun z => (List.mem_cons.mp z).elim (fun z => e (keyP_inj z).symm) m]
theorem keys_shaped {zs : List Str} (hc : ∀ z ∈ zs, CallS z) : ∀ {ks : List (List Key)}, (∀ k ∈ ks, ∃ ps : List Str, k = keyP ps ∧ ps ≠ [] ∧ ps.length ≤ 4 ∧ ∀ p ∈ ps, p ∈ zs) → okUs (ks.map tupU) = true ∧ fineAll (dUs (ks.map tupU)) = true ∧ PyData.depthAll (dUs (ks.map tupU)) ≤ 1
  | [], _ => ⟨rfl, rfl, Nat.zero_le _⟩
  | k :: ks, h => by
    obtain ⟨ps, rfl, _, h2, h3⟩ := h k List.mem_cons_self
    obtain ⟨i1, i2, i3⟩ := keys_shaped hc fun k m => h k (List.mem_cons_of_mem _ m)
    obtain ⟨f1, f2, f3⟩ := path_fine h2 fun p hp => hc p (h3 p hp)
    rw [List.map_cons, tupU_key]
    refine ⟨?_, ?_, ?_⟩
    · show (okU (.tup (ps.map .str)) && okUs (ks.map tupU)) = true
      rw [f1, i1]
      rfl
    · show (fine (dU (.tup (ps.map .str))) && fineAll (dUs (ks.map tupU))) = true
      rw [f2, i2]
      rfl
    · show max (PyData.depth (dU (.tup (ps.map .str)))) (PyData.depthAll (dUs (ks.map tupU))) ≤ 1
      omega
theorem filter_snoc {α : Type} (p : α → Bool) {l : List α} {k : Nat} {d : α} (h : l[k]? = some d) : (l.take (k + 1)).filter p = if p d = true then (l.take k).filter p ++ [d] else (l.take k).filter p := by
  rw [take_one h, List.filter_append]
  by_cases z : p d = true
  · rw [if_pos z, List.filter_cons_of_pos z]
    rfl
  · rw [if_neg z, List.filter_cons_of_neg z]
    exact List.append_nil _

/-! ### a part is the joined one -/
theorem ksP_pth {es : List U} {ag : Bool} {zs : List Str} (nd : (pathsU es).Nodup) (he : ∀ e ∈ es, PairE ag zs e) {k : List Key} (m : k ∈ ksP es) : ∃ ps : List Str, k = keyP ps ∧ ps ≠ [] ∧ ps.length ≤ 4 ∧ ∀ p ∈ ps, p ∈ zs := by
  rw [ksP_nd nd] at m
  exact keysN_path he ((List.mergeSort_perm _ _).mem_iff.mp m)
theorem items_map : ∀ {ks : List (List Key)} {xs : List U}, ks.length = xs.length → (itemsU ks xs).map (fun e => (entP e).2) = xs
  | [], [], _ => rfl
  | [], _ :: _, h => nomatch h
  | _ :: _, [], h => nomatch h
  | k :: ks, x :: xs, h => by
    have ih := items_map (Nat.succ.inj h)
    show (entP (.tup [tupU k, x])).2 :: (itemsU ks xs).map (fun e => (entP e).2) = _
    rw [ih, entP_key]
theorem kept_vals {es : List U} (nd : (pathsU es).Nodup) : (keptU es).map (fun e => (entP e).2) = xsP es := by
  rw [← items_nd nd]
  exact items_map (kept_len es)
theorem kept_xlen {es : List U} (nd : (pathsU es).Nodup) : (xsP es).length = (keptU es).length := by
  rw [← kept_vals nd, List.length_map]
/-- == of two parts is == of their entries -/
theorem eqv_pair (ps qs : List Str) (a b : U) : PyData.eqv (dU (.tup [tupU (keyP ps), a])) (dU (.tup [tupU (keyP qs), b])) = (decide (ps = qs) && PyData.eqv (dU a) (dU b)) := by
  rw [tupU_key, tupU_key, ← eqv_tup ps qs]
  show (PyData.eqv _ _ && (PyData.eqv _ _ && true)) = _
  rw [Bool.and_true]
theorem eqv_len : ∀ {ds es : List PyData}, PyData.eqvAll ds es = true → ds.length = es.length
  | [], [], _ => rfl
  | [], _ :: _, h => by cases h
  | _ :: _, [], h => by cases h
  | _ :: _, _ :: _, h => by
    rw [PySem.W.eqv_all_cons, Bool.and_eq_true] at h
    exact congrArg (· + 1) (eqv_len h.2)
theorem eqv_items : ∀ {ks ls : List (List Key)} {xs ys : List U}, (∀ k ∈ ks, ∃ ps : List Str, k = keyP ps) → (∀ k ∈ ls, ∃ ps : List Str, k = keyP ps) → ks.length = xs.length → ls.length = ys.length →
    PyData.eqvAll (dUs (itemsU ks xs)) (dUs (itemsU ls ys)) = true → ks = ls
  | [], [], _, _, _, _, _, _, _ => rfl
  | [], _ :: _, [], y :: ys, _, _, _, _, h => by cases (eqv_len h)
  | _ :: _, [], x :: xs, [], _, _, _, _, h => by cases (eqv_len h)
  | k :: ks, l :: ls, x :: xs, y :: ys, h1, h2, l1, l2, h => by
    obtain ⟨ps, rfl⟩ := h1 k List.mem_cons_self
    obtain ⟨qs, rfl⟩ := h2 l List.mem_cons_self
    have h : PyData.eqvAll (dU (.tup [tupU (keyP ps), x]) :: dUs (itemsU ks xs)) (dU (.tup [tupU (keyP qs), y]) :: dUs (itemsU ls ys)) = true := h
    rw [PySem.W.eqv_all_cons, eqv_pair, Bool.and_eq_true, Bool.and_eq_true] at h
    rw [of_decide_eq_true h.1.1, eqv_items (fun k m => h1 k (List.mem_cons_of_mem _ m)) (fun k m => h2 k (List.mem_cons_of_mem _ m)) (Nat.succ.inj l1) (Nat.succ.inj l2) h.2]
  | [], _, _ :: _, _, _, _, l1, _, _ => nomatch l1
  | _ :: _, _, [], _, _, _, l1, _, _ => nomatch l1
  | _, [], _, _ :: _, _, _, _, l2, _ => nomatch l2
  | _, _ :: _, _, [], _, _, _, l2, _ => nomatch l2
theorem eqv_same : ∀ {ks : List (List Key)} {xs ys : List U}, (∀ k ∈ ks, ∃ ps : List Str, k = keyP ps) → ks.length = xs.length → ks.length = ys.length → PyData.eqvAll (dUs (itemsU ks xs)) (dUs (itemsU ks ys)) = PyData.eqvAll (dUs xs) (dUs ys)
  | [], [], [], _, _, _ => rfl
  | [], _ :: _, _, _, h, _ => nomatch h
  | [], _, _ :: _, _, _, h => nomatch h
  | _ :: _, [], _, _, h, _ => nomatch h
  | _ :: _, _, [], _, _, h => nomatch h
  | k :: ks, x :: xs, y :: ys, hk, l1, l2 => by
    obtain ⟨ps, rfl⟩ := hk k List.mem_cons_self
    show PyData.eqvAll (dU (.tup [tupU (keyP ps), x]) :: dUs (itemsU ks xs)) (dU (.tup [tupU (keyP ps), y]) :: dUs (itemsU ks ys)) = PyData.eqvAll (dU x :: dUs xs) (dU y :: dUs ys)
    rw [PySem.W.eqv_all_cons, PySem.W.eqv_all_cons, eqv_pair, decide_eq_true rfl, Bool.true_and, eqv_same (fun k m => hk k (List.mem_cons_of_mem _ m)) (Nat.succ.inj l1) (Nat.succ.inj l2)]
theorem valG_skip {κ α : Type} [DecidableEq κ] {a : κ} {ks : List κ} {d : α} {ds : List α} {k : κ} (h : a ≠ k) : valG (a :: ks) (d :: ds) k = valG ks ds k := if_neg h
theorem hits_skip {κ : Type} [DecidableEq κ] {a : κ} {ls : List κ} {e : PyData} {es : List PyData} : ∀ {ks : List κ} {ds : List PyData}, a ∉ ks → hitsG (a :: ls) (e :: es) ks ds = hitsG ls es ks ds
  | [], _, _ => rfl
  | _ :: _, [], _ => rfl
  | k :: ks, d :: ds, h => by
    have h1 : a ≠ k := fun e => h (by rw [e]; exact List.mem_cons_self)
    show ((match valG (a :: ls) (e :: es) k with | some e => PyData.eqv d e | none => false) && hitsG (a :: ls) (e :: es) ks ds) = _
    rw [valG_skip h1, hits_skip fun m => h (List.mem_cons_of_mem _ m)]
    rfl
theorem hits_same {κ : Type} [DecidableEq κ] : ∀ {ks : List κ} {ds es : List PyData}, ks.Nodup → ks.length = ds.length → ks.length = es.length → hitsG ks es ks ds = PyData.eqvAll ds es
  | [], [], [], _, _, _ => rfl
  | [], _ :: _, _, _, h, _ => nomatch h
  | [], _, _ :: _, _, _, h => nomatch h
  | _ :: _, [], _, _, h, _ => nomatch h
  | _ :: _, _, [], _, _, h => nomatch h
  | k :: ks, d :: ds, e :: es, nd, l1, l2 => by
    have nd := List.nodup_cons.mp nd
    show ((match valG (k :: ks) (e :: es) k with | some e => PyData.eqv d e | none => false) && hitsG (k :: ks) (e :: es) ks ds) = _
    rw [show valG (k :: ks) (e :: es) k = some e from if_pos rfl, hits_skip nd.1, hits_same nd.2 (Nat.succ.inj l1) (Nat.succ.inj l2), PySem.W.eqv_all_cons]
theorem valG_mem {κ α : Type} [DecidableEq κ] : ∀ {ls : List κ} {es : List α} {k : κ} {e : α}, valG ls es k = some e → k ∈ ls
  | [], _, _, _, h => nomatch h
  | _ :: _, [], _, _, h => nomatch h
  | l :: ls, e :: es, k, x, h => by
    by_cases z : l = k
    · rw [z]
      exact List.mem_cons_self
    · rw [valG_skip z] at h
      exact List.mem_cons_of_mem _ (valG_mem h)
theorem hits_mem {κ : Type} [DecidableEq κ] {ls : List κ} {es : List PyData} : ∀ {ks : List κ} {ds : List PyData}, ks.length = ds.length → hitsG ls es ks ds = true → ∀ k ∈ ks, k ∈ ls
  | [], _, _, _, _, m => nomatch m
  | _ :: _, [], l, _, _, _ => nomatch l
  | a :: ks, d :: ds, l, h, k, m => by
    have h : ((match valG ls es a with | some e => PyData.eqv d e | none => false) && hitsG ls es ks ds) = true := h
    rw [Bool.and_eq_true] at h
    rcases List.mem_cons.mp m with rfl | m
    · cases e : valG ls es k with
      | none => rw [e] at h; exact absurd h.1 Bool.false_ne_true
      | some x => exact valG_mem e
    · exact hits_mem (Nat.succ.inj l) h.2 k m
theorem nodup_sub {α : Type} [DecidableEq α] : ∀ {l m : List α}, l.Nodup → (∀ x ∈ l, x ∈ m) → l.length ≤ m.length
  | [], _, _, _ => Nat.zero_le _
  | a :: l, m, nd, h => by
    have nd := List.nodup_cons.mp nd
    have := nodup_sub (m := m.erase a) nd.2 fun x hx => (List.mem_erase_of_ne fun e => nd.1 (by rw [← e]; exact hx)).mpr (h x (List.mem_cons_of_mem _ hx))
    rw [List.length_erase_of_mem (h a List.mem_cons_self)] at this
    have hp : 0 < m.length := List.length_pos_of_mem (h a List.mem_cons_self)
    rw [List.length_cons]
    omega
theorem same_mem {α : Type} [DecidableEq α] {l m : List α} (nl : l.Nodup) (h : ∀ x ∈ l, x ∈ m) (e : l.length = m.length) (x : α) : x ∈ l ↔ x ∈ m := by
  refine ⟨h x, fun hm => Classical.byContradiction fun n => ?_⟩
  have := nodup_sub (l := x :: l) (m := m) (List.nodup_cons.mpr ⟨n, nl⟩) fun y hy => (List.mem_cons.mp hy).elim (fun z => by rw [z]; exact hm) (h y)
  rw [List.length_cons] at this
  omega
theorem eqT_same {es : List U} (nd : (pathsU es).Nodup) (h : ∀ x ∈ xsP es, AnsU x) : eqT (ksP es) (xsP es) (ksP es) (xsP es) = true := by
  have nk : (ksP es).Nodup := by rw [ksP_nd nd]; exact (List.mergeSort_perm _ _).nodup_iff.mpr (keysN_nodup nd)
  have l : (ksP es).length = (dUs (xsP es)).length := by rw [dUs_map, List.length_map]; exact kept_len es
  unfold eqT
  rw [hits_same nk l l, beq_self_eq_true, Bool.true_and]
  have key : ∀ xs : List U, (∀ x ∈ xs, AnsU x) → PyData.eqvAll (dUs xs) (dUs xs) = true := by
    intro xs
    induction xs with
    | nil => exact fun _ => rfl
    | cons x xs ih =>
      intro h
      show PyData.eqvAll (dU x :: dUs xs) (dU x :: dUs xs) = true
      rw [PySem.W.eqv_all_cons, ih fun y m => h y (List.mem_cons_of_mem _ m), PySem.SeqAt.eqv_refl _ (canLay_fine _ (h x List.mem_cons_self).2.2.1)]
      rfl
  exact key _ h
theorem eqT_items {es fs : List U} {ag : Bool} {zs : List Str} (ne : (pathsU es).Nodup) (nf : (pathsU fs).Nodup) (he : ∀ e ∈ es, PairE ag zs e) (hf : ∀ e ∈ fs, PairE ag zs e) : eqT (ksP es) (xsP es) (ksP fs) (xsP fs) = PyData.eqv (dU (.lst (keptU es))) (dU (.lst (keptU fs))) := by
  have nk : (ksP es).Nodup := by rw [ksP_nd ne]; exact (List.mergeSort_perm _ _).nodup_iff.mpr (keysN_nodup ne)
  have nl : (ksP fs).Nodup := by rw [ksP_nd nf]; exact (List.mergeSort_perm _ _).nodup_iff.mpr (keysN_nodup nf)
  have pk : ∀ k ∈ ksP es, ∃ ps : List Str, k = keyP ps := fun k m => (ksP_pth ne he m).imp fun _ h => h.1
  have pl : ∀ k ∈ ksP fs, ∃ ps : List Str, k = keyP ps := fun k m => (ksP_pth nf hf m).imp fun _ h => h.1
  have l1 := kept_len es
  have l2 := kept_len fs
  have d1 : (ksP es).length = (dUs (xsP es)).length := by rw [dUs_map, List.length_map]; exact l1
  have d2 : (ksP fs).length = (dUs (xsP fs)).length := by rw [dUs_map, List.length_map]; exact l2
  show _ = PyData.eqvAll (dUs (keptU es)) (dUs (keptU fs))
  rw [← items_nd ne, ← items_nd nf]
  by_cases e : ksP es = ksP fs
  · unfold eqT
    rw [← e] at d2 l2 ⊢
    rw [hits_same nk d1 d2, eqv_same pk l1 l2, beq_self_eq_true, Bool.true_and]
  · have r1 : PyData.eqvAll (dUs (itemsU (ksP es) (xsP es))) (dUs (itemsU (ksP fs) (xsP fs))) = false := by
      cases z : PyData.eqvAll (dUs (itemsU (ksP es) (xsP es))) (dUs (itemsU (ksP fs) (xsP fs))) with
      | false => rfl
      | true => exact absurd (eqv_items pk pl l1 l2 z) e
    rw [r1]
    cases z : eqT (ksP es) (xsP es) (ksP fs) (xsP fs) with
    | false => rfl
    | true =>
      exfalso
      unfold eqT at z
      rw [Bool.and_eq_true] at z
      have le : (ksP es).length = (ksP fs).length := eq_of_beq z.1
      have sub := hits_mem d1 z.2
      refine e (sorted_one ?_ ?_ nk nl (same_mem nk sub le))
      · rw [ksP_nd ne]; exact sortT_pair _
      · rw [ksP_nd nf]; exact sortT_pair _

/-! ### two answers compared; a part is right -/
theorem rep_lst {ds : List U} (ha : AnsU (.lst ds)) (hr : RepA (.lst ds)) : RepU (.lst ds) := by
  obtain ⟨a1, a2, a3, a4⟩ := any_all (e := 0) hr
  have l := ans_len0 ha
  refine ⟨a1, a4, ?_, ?_⟩
  · show PyData.depthAll (dUs ds) + 1 ≤ 60
    omega
  · have hp := piled_up (B := 500) (ts := PyData.shownAll (dUs ds)) fun t ht => by
      obtain ⟨d, hd, rfl⟩ := shown_mem ht
      have := (hr d hd).2.2.2.2.1
      omega
    rw [shown_len] at hp
    refine Nat.le_trans (list_text _) ?_
    omega
theorem rep_any {d : U} (ha : AnsU d) (hr : RepA d) : RepU d := by
  cases d
  case lst ds => exact rep_lst ha hr
  all_goals exact AnyU.rep (e := 1) hr (by decide)
def wrongK (ds es : List U) (n : Nat) : List Nat := (List.range n).filter fun j => !PyData.eqv (dU (ds.getD j .non)) (dU (es.getD j .non))
theorem wrong_none : ∀ {ds es : List U}, ds.length = es.length → (wrongK ds es ds.length).isEmpty = PyData.eqvAll (dUs ds) (dUs es) := by
  have key : ∀ {ds es : List U} (n : Nat), n ≤ ds.length → ds.length = es.length → ((wrongK ds es n).isEmpty = true ↔ ∀ j (h1 : j < n), PyData.eqv (dU (ds.getD j .non)) (dU (es.getD j .non)) = true) := by
    intro ds es n hn _
    unfold wrongK
    rw [List.isEmpty_iff, List.filter_eq_nil_iff]
    constructor
    · intro h j hj
      have := h j (List.mem_range.mpr hj)
      simpa using this
    · intro h j hj
      rw [h j (List.mem_range.mp hj)]
      decide
  have all : ∀ {ds es : List U}, ds.length = es.length → (PyData.eqvAll (dUs ds) (dUs es) = true ↔ ∀ j (h1 : j < ds.length), PyData.eqv (dU (ds.getD j .non)) (dU (es.getD j .non)) = true) := by
    intro ds
    induction ds with
    | nil =>
      intro es h
      cases es with
      | nil => exact ⟨fun _ j hj => absurd hj (Nat.not_lt_zero j), fun _ => rfl⟩
      | cons => cases h
    | cons d ds ih =>
      intro es h
      cases es with
      | nil => cases h
      | cons e es =>
        have ih := ih (es := es) (Nat.succ.inj h)
        show PyData.eqvAll (dU d :: dUs ds) (dU e :: dUs es) = true ↔ _
        rw [PySem.W.eqv_all_cons, Bool.and_eq_true, ih]
        constructor
        · rintro ⟨h1, h2⟩ j hj
          cases j with
          | zero => exact h1
          | succ j => exact h2 j (Nat.lt_of_succ_lt_succ hj)
        · exact fun h => ⟨h 0 (Nat.succ_pos _), fun j hj => h (j + 1) (Nat.succ_lt_succ hj)⟩
  intro ds es h
  rw [Bool.eq_iff_iff, key ds.length (Nat.le_refl _) h, all h]
def r_equal2 : RU := fun ρ Q _ => ∃ d e : U, ρ = [.val d, .val e] ∧ AnsU d ∧ AnsU e ∧ RepA d ∧ RepA e ∧ Q (.dt (.bl (PyData.eqv (dU d) (dU e)))) [.val d, .val e]
section
variable {P : Program} {w : World} {K : PySem.W.Frag} {mg : Str → Option Value} {base : Heap}
theorem len_equal2 : ∀ vs H Q E, spU K r_equal2 vs H Q E → vs.length = 2 := lenU (ps := ["one", "other"]) fun ρ Q X h => by
  obtain ⟨d, e, rfl, _⟩ := h
  rfl
theorem uk_equal2 (T : Txt K mg) : GOk P w K mg base 1 T.f_law_equal T.fd_law_equal ["one", "other"] (spU K r_equal2) := by
  refine gOk_of T.F_law_equal sc_law_equal (fun ρ Q X h => ?_) (fun cdv A outer s H E hr hgd => ⟨_, (pss_cons (ps_if (PW.pt (pw_and (pt_val (pe_callB call_isi (by rfl) T.m_isinstance (by decide +kernel) (pa_cons (pv 0) (pa_cons (pe_bltn (v := .ty "list") (by rfl) T.m_list (by decide +kernel) rfl) pa_nil)))) (pw_and1 (pt_val (pe_callB call_isi (by rfl) T.m_isinstance (by decide +kernel) (pa_cons (pv 1) (pa_cons (pe_bltn (v := .ty "list") (by rfl) T.m_list (by decide +kernel) rfl) pa_nil))))))) (pss_cons (ps_if (pt_cmpR op_ne (pe_callB call_len (by rfl) T.m_len (by decide +kernel) (pa_cons (pv 0) pa_nil)) (pe_callB call_len (by rfl) T.m_len (by decide +kernel) (pa_cons (pv 1) pa_nil)) (nomark _)) (pss_one (ps_ret pe_bl)) pss_nil)
        (pss_one (ps_ret (pe_cmpR (op_eqD hr.units) (pe_lc (own := [("k", 2)]) (g := gName 2) rfl sc_law_equal.nd (pi_range1 (by rfl) T.m_range (pa_cons (pe_callB call_len (by rfl) T.m_len (by decide +kernel) (pa_cons (pv 0) pa_nil)) pa_nil)) (blkOk_by (own := [("k", 2)]) (N := ["one", "other", "k"]) (sc := defScope s_law_equal) (by decide +kernel)) (fun _ _ _ _ _ => pg_name (i := 2) sc_law_equal.nd rfl (.inl rfl)) (fun _ _ _ _ _ => pts_one ((pt_cmpR op_ne (pe_callB (call_reprDK (K := K) rfl hgd hr.units) (by rfl) T.m_repr (by decide +kernel) (pa_cons (pe_ix (ix_listK (K := K) rfl) (pv 0) (pv 2) (fun _ _ => rfl)) pa_nil)) (pe_callB (call_reprDK (K := K) rfl hgd hr.units) (by rfl) T.m_repr (by decide +kernel) (pa_cons (pe_ix (ix_listK (K := K) rfl) (pv 1) (pv 2) (fun _ _ => rfl)) pa_nil)) (nomark _)))) (fun _ _ _ _ _ => (pv 2))) (pe_lst pa_nil) (nomark _))))) pss_nil)
        (pss_one (ps_ret (pe_and (pe_not (pe_callB call_isi (by rfl) T.m_isinstance (by decide +kernel) (pa_cons (pv 0) (pa_cons (pe_bltn (v := .ty "list") (by rfl) T.m_list (by decide +kernel) rfl) pa_nil)))) (pe_one (pe_cmpR op_eq (pe_callB (call_reprDK (K := K) rfl hgd hr.units) (by rfl) T.m_repr (by decide +kernel) (pa_cons (pv 0) pa_nil)) (pe_callB (call_reprDK (K := K) rfl hgd hr.units) (by rfl) T.m_repr (by decide +kernel) (pa_cons (pv 1) pa_nil)) (nomark _))))))), ?_⟩)
  · obtain ⟨d, e, rfl, _⟩ := h
    rfl
  rintro W ρ Qd Xd ⟨d, e, rfl, ha, hb, ra, rb, q⟩
  show WS K _ _ [.val _, .val _, .un] _
  have okd := ha.2.1
  have oke := hb.2.1
  have rp := rep_any ha ra
  have rq := rep_any hb rb
  cases d
  case lst ds =>
    have hl := ans_len0 ha
    cases e
    case lst es =>
      have hl2 := ans_len0 hb
      have q : Qd (.dt (.bl (PyData.eqvAll (dUs ds) (dUs es)))) [.val (.lst ds), .val (.lst es)] := q
      repeat (walk_at "u")
      by_cases le : ds.length = es.length
      · refine uF (by rw [le, decide_eq_true rfl]; rfl) ?_
        repeat (walk_at "u")
        refine ⟨by omega, rfl, fun k acc ρ => ρ = [.val (.lst ds), .val (.lst es), .un] ∧ acc = (wrongK ds es k).map (fun j => U.int (j : Nat)), ⟨rfl, rfl⟩, ?_, ?_⟩
        · rintro k x acc ρ hx hl3 ⟨rfl, rfl⟩
          obtain ⟨hk, hxe⟩ := rgU_get hx
          have hk : k < ds.length := hk
          have hk2 : k < es.length := by omega
          rw [Int.zero_add] at hxe
          subst hxe
          clear hx
          have r1 := (ra ds[k] (List.getElem_mem hk)).rep (Nat.zero_le 4)
          have r2 := (rb es[k] (List.getElem_mem hk2)).rep (Nat.zero_le 4)
          have em : ds[k]? = some ds[k] := List.getElem?_eq_getElem hk
          have em2 : es[k]? = some es[k] := List.getElem?_eq_getElem hk2
          have s1 : SimA ds[k] := by
            rcases ans_shape ha with h | ⟨_, _, h, _⟩ | ⟨_, h, g⟩
            · exact h.elim
            · cases h
            · cases h
              exact g _ (List.getElem_mem hk)
          have s2 : SimA es[k] := by
            rcases ans_shape hb with h | ⟨_, _, h, _⟩ | ⟨_, h, g⟩
            · exact h.elim
            · cases h
            · cases h
              exact g _ (List.getElem_mem hk2)
          have step : wrongK ds es (k + 1) = wrongK ds es k ++ (if PyData.eqv (dU ds[k]) (dU es[k]) = true then [] else [k]) := by
            unfold wrongK
            rw [List.range_succ, List.filter_append]
            congr 1
            have g1 : ds.getD k .non = ds[k] := by simp [hk]
            have g2 : es.getD k .non = es[k] := by simp [hk2]
            by_cases z : PyData.eqv (dU ds[k]) (dU es[k]) = true
            · rw [if_pos z, List.filter_cons_of_neg (by rw [g1, g2, z]; decide)]
              rfl
            · rw [if_neg z, List.filter_cons_of_pos (by rw [g1, g2]; simpa using z)]
              rfl
          repeat (walk_at "u")
          refine wr_ixL rfl (atI_nat em) ?_
          repeat (walk_at "u")
          refine wc_repr rfl r1.1 r1.2.1 r1.2.2.1 r1.2.2.2 ?_
          repeat (walk_at "u")
          refine wr_ixL rfl (atI_nat em2) ?_
          repeat (walk_at "u")
          refine wc_repr rfl r2.1 r2.2.1 r2.2.2.1 r2.2.2.2 ?_
          repeat (walk_at "u")
          rw [sim_dec s1 s2]
          have lw : (wrongK ds es k).length ≤ k := Nat.le_trans (List.length_filter_le _ _) (by rw [List.length_range]; exact Nat.le_refl _)
          cases z : PyData.eqv (dU ds[k]) (dU es[k]) with
          | true =>
            rw [z, if_pos rfl, List.append_nil] at step
            refine uF rfl ?_
            exact ⟨rfl, rfl, by rw [step]⟩
          | false =>
            rw [z, if_neg Bool.false_ne_true] at step
            refine uT rfl ?_
            repeat (walk_at "u")
            exact ⟨_, _, frzC_ok rfl, by rw [List.length_map]; omega, rfl, rfl, by rw [step, List.map_append]; rfl⟩
        · rintro acc ρ hl3 ⟨rfl, rfl⟩
          rw [rgU_length]
          show WE K W _ [.val _, .val _, .un] _ _
          have lw : (wrongK ds es ds.length).length ≤ ds.length := Nat.le_trans (List.length_filter_le _ _) (by rw [List.length_range]; exact Nat.le_refl _)
          have pq : okU (.lst ((wrongK ds es ds.length).map fun j => U.int (j : Nat))) = true ∧ fine (dU (.lst ((wrongK ds es ds.length).map fun j => U.int (j : Nat)))) = true ∧ PyData.depth (dU (.lst ((wrongK ds es ds.length).map fun j => U.int (j : Nat)))) ≤ 1 := by
            have key : ∀ l : List Nat, okUs (l.map fun j => U.int (j : Nat)) = true ∧ fineAll (dUs (l.map fun j => U.int (j : Nat))) = true ∧ PyData.depthAll (dUs (l.map fun j => U.int (j : Nat))) = 0 := by
              intro l
              induction l with
              | nil => exact ⟨rfl, rfl, rfl⟩
              | cons a r ih =>
                obtain ⟨i1, i2, i3⟩ := ih
                exact ⟨i1, i2, by show max 0 (PyData.depthAll _) = 0; rw [i3]; rfl⟩
            obtain ⟨k1, k2, k3⟩ := key (wrongK ds es ds.length)
            refine ⟨k1, ?_, ?_⟩
            · show (decide ((dUs ((wrongK ds es ds.length).map fun j => U.int (j : Nat))).length ≤ 1000) && fineAll _) = true
              rw [k2, decide_eq_true (by rw [dUs_map, List.length_map, List.length_map]; omega)]
              rfl
            · show PyData.depthAll _ + 1 ≤ 1
              rw [k3]
              exact Nat.le_refl _
          have res : PyData.eqv (dU (.lst ((wrongK ds es ds.length).map fun j => U.int (j : Nat)))) (dU (.lst [])) = PyData.eqvAll (dUs ds) (dUs es) := by
            rw [← wrong_none le]
            cases wrongK ds es ds.length <;> rfl
          repeat (walk_at "u")
          refine wr_eqD (d := .lst ((wrongK ds es ds.length).map fun j => U.int (j : Nat))) (e := .lst []) rfl rfl pq.1 rfl (shaped_fine pq.2.1 (Nat.le_trans pq.2.2 (by decide))) (by decide) ?_
          rw [res]
          repeat (walk_at "u")
          exact q
      · refine uT (by rw [decide_eq_false fun h => le (by injection h with h; omega)]; rfl) ?_
        repeat (walk_at "u")
        rw [show PyData.eqvAll (dUs ds) (dUs es) = false by
          cases z : PyData.eqvAll (dUs ds) (dUs es) with
          | false => rfl
          | true =>
            have := eqv_len z
            rw [dUs_map, dUs_map, List.length_map, List.length_map] at this
            exact absurd this le] at q
        exact q
    all_goals (first | (cases oke; done) | skip)
    all_goals
      repeat (walk_at "u")
      exact q
  all_goals (first | (cases okd; done) | skip)
  all_goals
    have nd := nl_dec ha hb (fun _ => nofun)
    cases e <;> first | (cases oke; done) | skip
  all_goals
    repeat (walk_at "u")
    refine wc_repr rfl rp.1 rp.2.1 rp.2.2.1 rp.2.2.2 ?_
    repeat (walk_at "u")
    refine wc_repr rfl rq.1 rq.2.1 rq.2.2.1 rq.2.2.2 ?_
    repeat (walk_at "u")
    rw [nd]
    exact q
end

/-! ### == of parts, and of a part and a tuple; a part is right -/
def r_peq2 (C : Addr) : RU := fun ρ Q _ => ∃ (ag : Bool) (ks : List (List Key)) (xs : List U) (o : U) (b : Bool), ρ = [.val (prtU C ag ks xs), .val o] ∧ (∀ x ∈ xs, AnsU x) ∧
  ((∃ (ag2 : Bool) (ls : List (List Key)) (ys : List U), o = prtU C ag2 ls ys ∧ (∀ y ∈ ys, AnsU y) ∧ b = (decide (ag = ag2) && eqT ks xs ls ys)) ∨ ∃ ds, o = .tup ds ∧ b = false) ∧ Q (.dt (.bl b)) [.val (prtU C ag ks xs), .val o]
theorem perm_sum : ∀ {l m : List Int}, l.Perm m → l.sum = m.sum := fun h => by
  induction h with
  | nil => rfl
  | cons x _ ih => rw [List.sum_cons, List.sum_cons, ih]
  | swap x y l => rw [List.sum_cons, List.sum_cons, List.sum_cons, List.sum_cons]; omega
  | trans _ _ a b => exact a.trans b
theorem kept_perm {es : List U} (nd : (pathsU es).Nodup) (hp : ∀ e ∈ es, PairF e) : (keptU es).Perm (es.filter livesE) := by
  have e : (keysN es).map (fun k => U.tup [tupU k, ansK es k]) = es.filter livesE := by
    unfold keysN
    rw [List.map_map]
    refine (List.map_congr_left fun e me => ?_).trans (List.map_id _)
    obtain ⟨m, _⟩ := List.mem_filter.mp me
    obtain ⟨k, a, rfl⟩ := hp e m
    have := ans_at nd m
    rw [entP_key] at this
    show U.tup [tupU (entP (.tup [tupU k, a])).1, ansK es (entP (.tup [tupU k, a])).1] = _
    rw [entP_key]
    show U.tup [tupU k, ansK es k] = _
    rw [show ansK es k = a from this]
    rfl
  rw [← e]
  exact (List.mergeSort_perm _ _).map _
theorem heavy_all : ∀ es : List U, ((es.filter livesE).map fun e => weightU (entP e).2).sum = (es.map fun e => weightU (entP e).2).sum
  | [] => rfl
  | e :: es => by
    by_cases h : livesE e = true
    · rw [List.filter_cons_of_pos h, List.map_cons, List.map_cons, List.sum_cons, List.sum_cons, heavy_all es]
    · rw [List.filter_cons_of_neg h, List.map_cons, List.sum_cons, heavy_all es]
      have : nonU (entP e).2 = true := by
        unfold livesE at h
        simpa using h
      rw [nonU_eq this]
      show _ = (0 : Int) + _
      omega
theorem heavy_kept {es : List U} (nd : (pathsU es).Nodup) (hp : ∀ e ∈ es, PairF e) : ((xsP es).map weightU).sum = (es.map fun e => weightU (entP e).2).sum := by
  rw [← heavy_all, ← kept_vals nd, List.map_map]
  exact perm_sum ((kept_perm nd hp).map _)
def r_isint : RU := fun ρ Q _ => ∃ i : Int, ρ = [.val (.int i)] ∧ Q (.dt (.bl true)) [.val (.int i)]
def r_right (C : Addr) : RU := fun ρ Q _ => ∃ (es : List U) (ag : Bool) (zs : List Str) (m : Nat), ρ = [.val (prtU C ag (ksP es) (xsP es)), .val (.lst es), .val (.bl ag)] ∧ Ent ag zs m es ∧ m ≤ 40 ∧ (∀ z ∈ zs, CallS z) ∧ Q (.dt (.bl true)) [.val (prtU C ag (ksP es) (xsP es)), .val (.lst es), .val (.bl ag)]
section
variable {P : Program} {w : World} {K : PySem.W.Frag} {mg : Str → Option Value} {base : Heap}
theorem uk_peq2 (T : Txt K mg) : FnOk P w K mg base CX0 1 T.f_Part___eq__ T.fd_Part___eq__ ["self", "other"] (spU K (r_peq2 T.C_Part)) := by
  refine Fun_okU T.F_Part___eq__ sc_Part___eq__ (fun ρ Q X h => ?_) (fun cdv A outer s H E hr => ⟨_, (pss_one (ps_ret (pe_and (pe_callB call_isG (by rfl) T.m_isinstance (by decide +kernel) (pa_cons (pv 1) (pa_cons (pe_glob (v := .ref T.C_Part) rfl T.gC_Part rfl) pa_nil))) (pe_and (pe_cmpR op_eq (pe_fld (pv 0) rfl) (pe_fld (pv 1) rfl) (nomark _)) (pe_one (pe_cmpR (op_eqT (K := K) rfl hr.units) (pe_fld (pv 0) rfl) (pe_fld (pv 1) rfl) (nomark _))))))), ?_⟩)
  · obtain ⟨ag, ks, xs, o, b, rfl, _⟩ := h
    rfl
  rintro W ρ Qd Xd ⟨ag, ks, xs, o, b, rfl, hx, ho, q⟩
  rcases ho with ⟨ag2, ls, ys, rfl, hy, rfl⟩ | ⟨ds, rfl, rfl⟩
  · show WS K _ _ [.val _, .val _] _
    repeat (walk_at "u")
    refine wc_isO T.cl_Part T.tp_Part.ca T.tp_Part.cg T.tp_Part.ct T.tp_Part.top (show View _ (.dt _) (.obj _ _ _) from rfl) rfl rfl T.tp_Part.k1 ?_
    repeat (walk_at "u")
    refine ⟨_, _, _, .bl ag, rfl, T.cl_Part, T.nA_Part_ageing, rfl, ?_⟩
    repeat (walk_at "u")
    refine ⟨_, _, _, .bl ag2, rfl, T.cl_Part, T.nA_Part_ageing, rfl, ?_⟩
    repeat (walk_at "u")
    by_cases e : ag = ag2
    · subst e
      rw [decide_eq_true rfl, Bool.true_and] at q
      refine uT (by rw [decide_eq_true rfl]) ?_
      repeat (walk_at "u")
      refine ⟨_, _, _, .dct ks xs, rfl, T.cl_Part, T.nA_Part__answers, rfl, ?_⟩
      repeat (walk_at "u")
      refine ⟨_, _, _, .dct ls ys, rfl, T.cl_Part, T.nA_Part__answers, rfl, ?_⟩
      refine wr_eqT rfl rfl (okUs_of fun x m => (hx x m).2.1) (okUs_of fun x m => (hy x m).2.1) (ans_flat hx) (ans_flat hy) ?_
      repeat (walk_at "u")
      exact q
    · rw [decide_eq_false e, Bool.false_and] at q
      refine uF (decide_eq_false fun h => e (V.bl.inj h)) ?_
      repeat (walk_at "u")
      exact q
  · show WS K _ _ [.val _, .val _] _
    repeat (walk_at "u")
    refine wc_isG (show View _ (.dt _) (.tup ds) from rfl) rfl rfl (.inl rfl) T.tp_Part.k3 ?_
    repeat (walk_at "u")
    exact q
theorem uk_isint (T : Txt K mg) : FnOk P w K mg base CX0 1 T.f_law_is_integer T.fd_law_is_integer ["thing"] (spU K r_isint) := by
  refine Fun_okU T.F_law_is_integer sc_law_is_integer (fun ρ Q X h => ?_) (fun cdv A outer s H E hr => ⟨_, (pss_one (ps_ret (pe_and (pe_callB call_isi (by rfl) T.m_isinstance (by decide +kernel) (pa_cons (pv 0) (pa_cons (pe_bltn (v := .ty "int") (by rfl) T.m_int (by decide +kernel) rfl) pa_nil))) (pe_one (pe_not (pe_callB call_isi (by rfl) T.m_isinstance (by decide +kernel) (pa_cons (pv 0) (pa_cons (pe_bltn (v := .ty "bool") (by rfl) T.m_bool (by decide +kernel) rfl) pa_nil)))))))), ?_⟩)
  · obtain ⟨i, rfl, _⟩ := h
    rfl
  rintro W ρ Qd Xd ⟨i, rfl, q⟩
  show WS K _ _ [.val _] _
  repeat (walk_at "u")
  exact q
theorem len_right {C : Addr} : ∀ vs H Q E, spU K (r_right C) vs H Q E → vs.length = 3 := lenU (ps := ["part", "due", "aged"]) fun ρ Q X h => by
  obtain ⟨es, ag, zs, m, rfl, _⟩ := h
  rfl
theorem uk_right (T : Txt K mg) : GOk P w K mg base 6 T.f_law_is_right T.fd_law_is_right ["part", "due", "aged"] (spU K (r_right T.C_Part)) := by
  have G_Part___len__ := uk_plen (P := P) (w := w) (base := base) T
  have G_Part_weight := uk_pweight (P := P) (w := w) (base := base) T
  have G_Part_entries := uk_entries (P := P) (w := w) (base := base) T
  have G_law_weight := uk_lweight (P := P) (w := w) (base := base) T
  have G_law_is_integer := uk_isint (P := P) (w := w) (base := base) T
  have G_law_kept := uk_kept (P := P) (w := w) (base := base) T
  have G_law_are_entries := uk_areent (P := P) (w := w) (base := base) T
  have L_law_are_entries := len_areent (K := K)
  refine gOk_of T.F_law_is_right sc_law_is_right (fun ρ Q X h => ?_) (fun cdv A outer s H E hr hgd => ⟨_, (pss_cons (ps_set (i := 3) sc_law_is_right.nd rfl (.inl rfl) (pe_callB (cr_sum rfl) (by rfl) T.m_sum (by decide +kernel) (pa_cons (pe_lc (own := [("path", 6), ("answer", 7)]) (g := gTup K 2 (gCons (gName 6) (gCons (gName 7) gNil))) rfl sc_law_is_right.nd (pi_list (pv 1)) (blkOk_by (own := [("path", 6), ("answer", 7)]) (N := ["part", "due", "aged", "heavy", "turn", "told", "path", "answer"]) (sc := defScope s_law_is_right) (by decide +kernel)) (fun _ _ _ _ _ => pg_tup rfl (pgs_cons (pg_name (i := 6) sc_law_is_right.nd rfl (.inl rfl)) (pgs_cons (pg_name (i := 7) sc_law_is_right.nd rfl (.inl rfl)) pgs_nil))) (fun _ _ _ _ _ => pts_nil) (fun _ _ _ _ _ => (pe_call G_law_weight (hr.mono (by omega)) (by rfl) T.g_law_weight T.F_law_weight.kp T.b_law_weight .nil pass0 (pa_cons (pv 7) pa_nil)))) pa_nil)))
        (pss_cons (ps_for PassesOwn.never rfl (pi_range1 (by rfl) T.m_range (pa_cons pe_int pa_nil)) (pg_name (i := 4) sc_law_is_right.nd rfl (.inl rfl)) (pss_cons (ps_set (i := 5) sc_law_is_right.nd rfl (.inl rfl) (pe_prop (pv 0) T.cl_Part T.pr_Part_entries G_Part_entries (hr.mono (by omega)) T.b_Part_entries .nil pass0 (by rfl)))
        (pss_cons (ps_if (PW.pt (pw_or (pt_not (pt_val (pe_callG G_law_are_entries L_law_are_entries hgd (hr.mono (by omega)) (by rfl) T.g_law_are_entries T.F_law_are_entries.kp T.b_law_are_entries pass0 (pa_cons (pv 5) (pa_cons (pv 1) pa_nil))))) (pw_or (pt_not (pt_val (pe_callB call_isi (by rfl) T.m_isinstance (by decide +kernel) (pa_cons (pe_fld (pv 0) rfl) (pa_cons (pe_bltn (v := .ty "bool") (by rfl) T.m_bool (by decide +kernel) rfl) pa_nil))))) (pw_or1 (pt_cmpR op_ne (pe_fld (pv 0) rfl) (pv 2) (nomark _)))))) (pss_one (ps_ret pe_bl)) pss_nil)
        (pss_cons (ps_if (PW.pt (pw_or (pt_not (pt_val (pe_call G_law_is_integer (hr.mono (by omega)) (by rfl) T.g_law_is_integer T.F_law_is_integer.kp T.b_law_is_integer .nil pass0 (pa_cons (pe_prop (pv 0) T.cl_Part T.pr_Part_weight G_Part_weight (hr.mono (by omega)) T.b_Part_weight .nil pass0 (by rfl)) pa_nil)))) (pw_or1 (pt_cmpR op_ne (pe_prop (pv 0) T.cl_Part T.pr_Part_weight G_Part_weight (hr.mono (by omega)) T.b_Part_weight .nil pass0 (by rfl)) (pv 3) (nomark _))))) (pss_one (ps_ret pe_bl)) pss_nil)
        (pss_one (ps_if (pt_cmpR op_ne (pe_callB (call_lenOwn T.o_Part___len__ T.n_Part___len__ (G_Part___len__.raw T.b_Part___len__ .nil) (hr.mono (by omega)) pass0) (by rfl) T.m_len (by decide +kernel) (pa_cons (pv 0) pa_nil)) (pe_callB call_len (by rfl) T.m_len (by decide +kernel) (pa_cons (pe_call G_law_kept (hr.mono (by omega)) (by rfl) T.g_law_kept T.F_law_kept.kp T.b_law_kept .nil pass0 (pa_cons (pv 1) pa_nil)) pa_nil)) (nomark _)) (pss_one (ps_ret pe_bl)) pss_nil))))))
        (pss_one (ps_ret pe_bl)))), ?_⟩)
  · obtain ⟨es, ag, zs, m, rfl, _⟩ := h
    rfl
  rintro W ρ Qd Xd ⟨es, ag, zs, m, rfl, hE, hm, hz, q⟩
  show WS K _ _ [.val _, .val _, .val _, .un, .un, .un, .un, .un] _
  have hl := hE.le
  have kl := kept_le es
  have xl := kept_xlen hE.nd
  have xa : ∀ x ∈ xsP es, AnsU x := fun x hx => (kept_ans hE.pr x hx).1
  have hw := heavy_kept hE.nd fun e me => (hE.pr e me).f
  repeat (walk_at "u")
  refine ⟨_, _, frzC_ok rfl, rfl, fun k acc ρ => ρ = [.val (prtU T.C_Part ag (ksP es) (xsP es)), .val (.lst es), .val (.bl ag), .un, .un, .un, .un, .un] ∧ acc = ((es.map fun e => weightU (entP e).2).take k).map U.int, ⟨rfl, rfl⟩, ?_, ?_⟩
  · rintro k d acc ρ hd hl2 ⟨rfl, rfl⟩
    obtain ⟨qs, a, rfl, g1, g2, g3, g4, ga, gr⟩ := hE.pr d (List.mem_of_getElem? hd)
    have lk : k < es.length := (List.getElem?_eq_some_iff.mp hd).1
    have l : (((es.map fun e => weightU (entP e).2).take k).map U.int).length < 1000 := by rw [List.length_map, List.length_take, List.length_map]; omega
    have tk : ((es.map fun e => weightU (entP e).2).take (k + 1)).map U.int = ((es.map fun e => weightU (entP e).2).take k).map U.int ++ [.int (weightU a)] := by
      rw [take_one (show (es.map fun e => weightU (entP e).2)[k]? = some (weightU a) by rw [List.getElem?_map, hd]; exact congrArg (fun z => some (weightU z)) (congrArg Prod.snd (entP_pair qs a))), List.map_append]
      rfl
    refine wg_tup ⟨_, rfl, rfl, ?_⟩
    repeat (walk_at "u")
    refine callU [true] rfl rfl fun Q' X' qq xx => ⟨a, rfl, ga, qq _ _ ?_⟩
    walk_at "ucl"
    repeat (walk_at "u")
    exact ⟨_, _, frzC_ok rfl, l, rfl, rfl, tk.symm⟩
  · rintro acc ρ2 hl2 ⟨rfl, rfl⟩
    rw [List.take_of_length_le (by rw [List.length_map]; exact Nat.le_refl _)]
    show WA K W _ [.val _, .val _, .val _, .un, .un, .un, .un, .un] _ _
    repeat (walk_at "u")
    refine wc_sum rfl ?_
    rw [← hw]
    repeat (walk_at "u")
    refine ⟨by decide, fun j ρ => ∃ t1 t2 t3 t4, ρ = [.val (prtU T.C_Part ag (ksP es) (xsP es)), .val (.lst es), .val (.bl ag), .val (.int ((xsP es).map weightU).sum), t1, t2, t3, t4] ∧ nb [t1] 0 = true ∧ nb [t2] 0 = true ∧ nb [t3] 0 = true ∧ nb [t4] 0 = true, ?_, ?_, ?_⟩
    · exact ⟨_, _, _, _, rfl, rfl, rfl, rfl, rfl⟩
    · rintro j x ρ hxx ⟨t1, t2, t3, t4, rfl, h1, h2, h3, h4⟩
      repeat (walk_at "u")
      refine we_prop ?_
      repeat (walk_at "u")
      refine ⟨_, _, rfl, ?_⟩
      refine callU [true] rfl rfl fun Q' X' qq xx => ⟨ag, ksP es, xsP es, rfl, kept_len es, by omega, fun x hx => ⟨(xa x hx).2.1, (xa x hx).2.2.1, Nat.le_trans (xa x hx).2.2.2 (by decide)⟩, qq _ _ ?_⟩
      rw [items_nd hE.nd]
      walk_at "ucl"
      repeat (walk_at "u")
      refine callU [true, true] rfl rfl fun Q' X' qq xx => ⟨es, ag, zs, rfl, by omega, hz, hE.pr, qq _ _ ?_⟩
      walk_at "ucl"
      repeat (walk_at "u")
      refine ⟨_, _, _, .bl ag, rfl, T.cl_Part, T.nA_Part_ageing, rfl, ?_⟩
      repeat (walk_at "u")
      refine ⟨_, _, _, .bl ag, rfl, T.cl_Part, T.nA_Part_ageing, rfl, ?_⟩
      repeat (walk_at "u")
      refine uF (by rw [decide_eq_true rfl]; rfl) ?_
      repeat (walk_at "u")
      refine we_prop ?_
      repeat (walk_at "u")
      refine ⟨_, _, rfl, ?_⟩
      refine callU [true] rfl rfl fun Q' X' qq xx => ⟨ag, ksP es, xsP es, rfl, by omega, xa, qq _ _ ?_⟩
      walk_at "ucl"
      repeat (walk_at "u")
      refine callU [true] rfl rfl fun Q' X' qq xx => ⟨_, rfl, qq _ _ ?_⟩
      walk_at "ucl"
      repeat (walk_at "u")
      refine we_prop ?_
      repeat (walk_at "u")
      refine ⟨_, _, rfl, ?_⟩
      refine callU [true] rfl rfl fun Q' X' qq xx => ⟨ag, ksP es, xsP es, rfl, by omega, xa, qq _ _ ?_⟩
      walk_at "ucl"
      repeat (walk_at "u")
      refine uF (by rw [decide_eq_true rfl]; rfl) ?_
      repeat (walk_at "u")
      refine wc_lenOwn (by trivial) rfl ?_
      refine callU [true] rfl rfl fun Q' X' qq xx => ⟨ag, ksP es, xsP es, rfl, (show (xsP es).length < 100000 by omega), qq _ _ ⟨(xsP es).length, rfl, (show (xsP es).length < 100000 by omega), ?_⟩⟩
      walk_at "ucl"
      repeat (walk_at "u")
      refine callU [true] rfl rfl fun Q' X' qq xx => ⟨es, ag, zs, rfl, by omega, hz, hE.pr, qq _ _ ?_⟩
      walk_at "ucl"
      repeat (walk_at "u")
      refine uF (by rw [xl, decide_eq_true rfl]; rfl) ?_
      repeat (walk_at "u")
      exact ⟨_, _, _, _, rfl, rfl, rfl, h3, h4⟩
    · rintro ρ ⟨t1, t2, t3, t4, rfl, h1, h2, h3, h4⟩
      repeat (walk_at "u")
      exact q
end

/-! ### Part(); a list turned round -/
def r_pinitN (C e0 : Addr) : RU := fun ρ Q _ => ρ = [.bor (.obj C [] []), .val (.raw e0), .val (.bl false)] ∧ Q (.dt .non) [.bor (prtU C false [] []), .val (.raw e0), .val (.bl false)]
section
variable {K : PySem.W.Frag} {W : Wx} {X : Er → Sls → Prop} {ρ : Sls}
theorem wc_isiTr {e0 : Addr} {ns : List String} {b : Bool} {Q : Av → Sls → Prop} (q0 : ∀ H : Hp, SqT K H e0 []) (e : PySem.W.kitAny K (.type "tuple") (ns.map Value.type) = some b) (q : Q (.dt (.bl b)) ρ) : WC K W (rIsiT K) [.dt (.raw e0), .dt (.tup (ns.map U.ty))] ρ Q X := by
  rintro s vs Q0 rfl D _ h k
  obtain ⟨v, w, rfl, h1, h2⟩ := avs_two h
  have h1 : At K s.G v (.raw e0) := h1
  have h2 : At K s.G w (.tup (ns.map U.ty)) := h2
  cases h1
  cases h2 with
  | tup hs hd => exact ⟨.ref e0, _, _, .type "tuple", _, b, rfl, D.sub _ _ hs, hd.cls, ty_sqT (q0 _), e, k.dt D (.bl _) q⟩
theorem wi_enum2R {e0 : Addr} {ta : TA} {Q : List U → Sls → Prop} (q0 : ∀ H : Hp, SqT K H e0 []) (h : WA K W ta ρ (fun as ρ1 => as = [.dt (.raw e0)] ∧ Q [] ρ1) X) : WI K W (iEnum2 K ta) ρ Q X := by
  rintro s R0 rfl D x k
  refine h s _ rfl D x fun vs as s1 n ok ⟨ea, q⟩ => ?_
  subst ea
  obtain ⟨v, rfl, h1⟩ := avs_one ok
  have h1 : At K s1.G v (.raw e0) := h1
  cases h1
  exact .inr ⟨e0, [], rfl, q0 _, k _ [] s1 n (uwalk_pairs (ds := []) .nil walk_enumT fun s' _ _ => q0 _) q⟩
theorem we_makeD {C : Addr} {R : RU} {dvs : List V} {ds : List U} {Q : Av → Sls → Prop} (hd : ∀ G, AtAll K G dvs ds) (h : MakeU C R (ds.map Av.dt) ρ Q (fun _ _ => False)) : WE K W (tMake C (spU K R) dvs E0 tNil) ρ Q X := by
  rintro s Q0 rfl D xo k
  intro x dx hx hdx ne
  have ok : ∀ {vs : List V} {ds : List U}, AtAll K s.G vs ds → AvsOk K s vs (ds.map Av.dt) := by
    intro vs ds h
    induction ds generalizing vs with
    | nil => cases h; exact .nil
    | cons d ds ih =>
      cases h with
      | cons h1 h2 => exact .cons trivial h1 (ih h2)
  exact h.run (Nxt.refl D) (ok (hd s.G)) k (fun _ _ _ _ _ _ _ _ z => z.elim) hx hdx ne
theorem AtAll.reverse {G : Hp} : ∀ {vs : List V} {ds : List U}, AtAll K G vs ds → AtAll K G vs.reverse ds.reverse
  | _, _, .nil => .nil
  | _, _, .cons a b => by
    rw [List.reverse_cons, List.reverse_cons]
    exact (AtAll.reverse b).snoc a
theorem we_revL {te : TE} {Q : Av → Sls → Prop} (h : WE K W te ρ (fun a ρ1 => ∃ ds, View ρ1 a.fl (.lst ds) ∧ Q (.own (.lst ds.reverse)) ρ1) X) : WE K W (tRevL K te) ρ Q X := by
  rintro s Q0 rfl D x k
  refine WE.flat (Q := fun a ρ1 => ∃ ds, View ρ1 a (.lst ds) ∧ Q (.own (.lst ds.reverse)) ρ1) h rfl D x fun v a s1 n1 fa ok ⟨ds, hv, q⟩ => ?_
  obtain ⟨b, xs, rfl, e1, e2⟩ := view_list n1.den ok hv
  exact ⟨b, xs, rfl, SqL.of e1, fun p hp => (k.lift n1).new (d := .lst ds.reverse) n1.den hp (.lst e2.reverse) q⟩
end
set_option hygiene false in
local macro_rules | `(tactic| walk_at "ut") => `(tactic| first
  | with_reducible refine we_dinT ?_
  | with_reducible refine we_dnotinT ?_
  | with_reducible refine we_dgetT ?_
  | with_reducible refine ws_dputT ?_
  | walk_at "u")
section
variable {P : Program} {w : World} {K : PySem.W.Frag} {mg : Str → Option Value} {base : Heap}
theorem uk_pinitY (T : Txt K mg) : FnOk P w K mg base (L2.CX P w) 8 T.f_Part___init__ T.fd_Part___init__ ["self", "entries", "ageing"] (spU K (r_pinitN T.C_Part T.e_Part___init___0)) := by
  have G_is_entry := uk_is_entryC (P := P) (w := w) (base := base) T
  have G_copied := uk_copiedC (P := P) (w := w) (base := base) T
  have GI_BadPart := ok_init_BadPart (P := P) (w := w) (base := base) T
  refine FunD_okUX T.F_Part___init__ sc_Part___init__ (fun ρ Q X h => ?_) (fun cdv A outer s H E hr => ⟨_, (pss_cons (ps_if (pt_not (pt_val (pe_callB call_isiT (by rfl) T.m_isinstance (by decide +kernel) (pa_cons (pv 1) (pa_cons (pe_tup (pa_cons (pe_bltn (v := .ty "list") (by rfl) T.m_list (by decide +kernel) rfl) (pa_cons (pe_bltn (v := .ty "tuple") (by rfl) T.m_tuple (by decide +kernel) rfl) pa_nil))) pa_nil))))) (pss_one (ps_raise rfl (takes_of rfl rfl rfl rfl) (pmk_oex T.cE_BadPart.o T.cE_BadPart.i T.cE_BadPart.t GI_BadPart (hr.mono (by omega)) T.cb_BadPart .nil pass0 (by rfl) T.cE_BadPart.g (pa_cons (pe_un un_neg pe_int) pa_nil)))) pss_nil)
        (pss_cons (ps_set (i := 3) sc_Part___init__.nd rfl (.inr rfl) pe_dnewT)
        (pss_cons (ps_for (passes_of rfl) rfl (pi_enum2 (by rfl) T.m_enumerate (pa_cons (pv 1) pa_nil)) (pg_tup rfl (pgs_cons (pg_name (i := 4) sc_Part___init__.nd rfl (.inl rfl)) (pgs_cons (pg_name (i := 5) sc_Part___init__.nd rfl (.inl rfl)) pgs_nil))) (pss_cons (ps_if (pt_not (pt_val (pe_call G_is_entry hr (by rfl) T.g_is_entry T.F_is_entry.kp T.b_is_entry .nil pass0 (pa_cons (pv 5) (pa_cons (pv 2) pa_nil))))) (pss_one (ps_raise rfl (takes_of rfl rfl rfl rfl) (pmk_oex T.cE_BadPart.o T.cE_BadPart.i T.cE_BadPart.t GI_BadPart (hr.mono (by omega)) T.cb_BadPart .nil pass0 (by rfl) T.cE_BadPart.g (pa_cons (pv 4) pa_nil)))) pss_nil)
        (pss_cons (ps_asg (pv 5) (pg_tup rfl (pgs_cons (pg_name (i := 6) sc_Part___init__.nd rfl (.inl rfl)) (pgs_cons (pg_name (i := 7) sc_Part___init__.nd rfl (.inl rfl)) pgs_nil))))
        (pss_cons (ps_if (pt_cmp (pc_din (hu_of hr) (pv 6) (pv 3))) (pss_one (ps_raise rfl (takes_of rfl rfl rfl rfl) (pmk_oex T.cE_BadPart.o T.cE_BadPart.i T.cE_BadPart.t GI_BadPart (hr.mono (by omega)) T.cb_BadPart .nil pass0 (by rfl) T.cE_BadPart.g (pa_cons (pv 4) pa_nil)))) pss_nil)
        (pss_one (ps_dput (hu_of hr) (pv 3) (pv 6) (pe_call G_copied (hr.mono (by omega)) (by rfl) T.g_copied T.F_copied.kp T.b_copied .nil pass0 (pa_cons (pv 7) pa_nil)) rfl))))))
        (pss_cons (ps_fld (pv 0) (pv 2) rfl)
        (pss_one (ps_fld (pv 0) (pe_dcT (own := [("path", 6)]) (g := gName 6) rfl (Nat.lt_of_le_of_lt (Nat.le_add_right _ 64) hr.units) sc_Part___init__.nd (pi_list (pe_callB (cr_sortedT rfl hr.units) (by rfl) T.m_sorted (by decide +kernel) (pa_cons (pv 3) pa_nil))) (blkOk_by (own := [("path", 6)]) (N := ["self", "entries", "ageing", "answers", "at", "entry", "path", "answer"]) (sc := defScope s_Part___init__) (by decide +kernel)) (fun _ _ _ _ _ => pg_name (i := 6) sc_Part___init__.nd rfl (.inl rfl)) (fun _ _ _ _ _ => pts_one ((pt_cmpR op_notN (pe_dget (hu_of hr) (pv 3) (pv 6) (fun _ _ => rfl)) pe_non (nomark _)))) (fun _ _ _ _ _ => (pv 6)) (fun _ _ _ _ _ => (pe_dget (hu_of hr) (pv 3) (pv 6) (fun _ _ => rfl)))) rfl)))))), ?_⟩)
  · obtain ⟨rfl, _⟩ := h
    rfl
  rintro ρ Qd Xd ⟨rfl, q⟩
  have q0 := T.q_Part___init___0
  show WS K _ _ [.bor _, .val _, .val _, .un, .un, .un, .un, .un] _
  repeat (walk_at "ut")
  refine wc_isiTr (ns := ["list", "tuple"]) q0 (kit2 (r1 := false) (r2 := true) (by decide +kernel) (by decide +kernel)) ⟨_, rfl, ?_⟩
  refine uF rfl ?_
  repeat (walk_at "ut")
  refine we_dnewT ?_
  repeat (walk_at "ut")
  refine wi_enum2R q0 ?_
  repeat (walk_at "ut")
  refine ⟨rfl, fun i ρ => ρ = [.bor (.obj T.C_Part [] []), .val (.raw T.e_Part___init___0), .val (.bl false), .own (.dct [] []), .un, .un, .un, .un], rfl, fun i x ρ hx => (by cases hx), ?_⟩
  rintro ρ rfl
  have nil : sortT ([] : List (List Key)) = [] := List.mergeSort_nil
  repeat (walk_at "ut")
  refine ⟨_, _, _, T.C_Part, [], [], frzC_ok rfl, rfl, rfl, T.cl_Part, T.nA_Part_ageing, by decide, ?_⟩
  repeat (walk_at "ut")
  refine we_dcT ?_
  repeat (walk_at "ut")
  refine wc_sortedT (ks := []) ⟨_, rfl, .inr rfl⟩ (fun k m => nomatch m) ?_
  rw [nil]
  repeat (walk_at "ut")
  show ∃ ds_1 ρ2, Frz [.bor (.obj T.C_Part [Str.ofString "ageing"] [.bl false]), .val (.raw _), .val (.bl false), .own (.dct [] []), .un, .un, .un, .un] _ _ _ ∧ _
  refine ⟨_, _, frzC_ok rfl, rfl, by decide, fun k ks xs ρ => ρ = [.bor (.obj T.C_Part [Str.ofString "ageing"] [.bl false]), .val (.raw T.e_Part___init___0), .val (.bl false), .own (.dct [] []), .un, .un, .un, .un] ∧ ks = [] ∧ xs = [], ⟨rfl, rfl, rfl⟩, ?_, ?_⟩
  · rintro k d ks xs ρ hd
    cases hd
  · rintro ks xs ρ ⟨rfl, rfl, rfl⟩
    repeat (walk_at "ut")
    refine ⟨_, _, _, T.C_Part, [Str.ofString "ageing"], [.bl false], frzC_ok rfl, rfl, rfl, T.cl_Part, T.nA_Part__answers, by decide, ?_⟩
    exact q
theorem uk_pinitN (T : Txt K mg) : FnOk P w K mg base CX0 8 T.f_Part___init__ T.fd_Part___init__ ["self", "entries", "ageing"] (spU K (r_pinitN T.C_Part T.e_Part___init___0)) := by
  refine calm_fn (uk_pinitY T) fun vs H Q E h => ?_
  obtain ⟨G, ρ, D, ar, rfl, q⟩ := h
  exact ⟨G, _, D, ar, rfl, q⟩
end

/-! ### entries turned round, for the other kind of part, one of them changed -/
theorem ans_mem {es fs : List U} (ne : (pathsU es).Nodup) (nf : (pathsU fs).Nodup) (h : ∀ e, e ∈ es ↔ e ∈ fs) (k : List Key) : ansK es k = ansK fs k := by
  by_cases m : k ∈ pathsU es
  · obtain ⟨e, me, rfl⟩ := List.mem_map.mp (show k ∈ es.map fun d => (entP d).1 from m)
    rw [ans_at ne me, ans_at nf ((h e).mp me)]
  · rw [ans_out m, ans_out fun z => m (by
      obtain ⟨e, me, rfl⟩ := List.mem_map.mp (show k ∈ fs.map fun d => (entP d).1 from z)
      exact List.mem_map.mpr ⟨e, (h e).mpr me, rfl⟩)]
theorem Ent.rev {ag : Bool} {zs : List Str} {m : Nat} {es : List U} (h : Ent ag zs m es) : Ent ag zs m es.reverse := by
  refine ⟨?_, fun e me => h.pr e (List.mem_reverse.mp me), fun e me => h.ok e (List.mem_reverse.mp me), by rw [List.length_reverse]; exact h.le⟩
  unfold pathsU
  rw [List.map_reverse]
  exact (List.reverse_perm _).nodup_iff.mpr h.nd
theorem rev_part {ag : Bool} {zs : List Str} {m : Nat} {es : List U} (h : Ent ag zs m es) : ksP es.reverse = ksP es ∧ xsP es.reverse = xsP es := part_ext h.rev.nd h.nd (ans_mem h.rev.nd h.nd fun _ => List.mem_reverse)
def longE (e : U) : Bool := decide (1 < (entP e).1.length)
theorem Ent.oth {ag : Bool} {zs : List Str} {m : Nat} {es : List U} (h : Ent ag zs m es) (hz : ∀ z ∈ zs, CallS z) (hl : es.filter longE = []) (ag2 : Bool) : Ent ag2 zs m es := by
  have pr : ∀ e ∈ es, PairE ag2 zs e := fun e me => by
    obtain ⟨ps, a, rfl, h1, h2, _, h4, h5, h6⟩ := h.pr e me
    refine ⟨ps, a, rfl, h1, h2, fun _ => ?_, h4, h5, h6⟩
    have := List.filter_eq_nil_iff.mp hl _ me
    unfold longE at this
    rw [entP_pair, decide_eq_true_iff] at this
    have this : ¬ 1 < (ps.map (Sum.inr : Str → Key)).length := this
    rw [List.length_map] at this
    have := List.length_pos_iff.mpr h1
    omega
  exact ⟨h.nd, pr, fun e me => entry_pair hz (pr e me), h.le⟩
theorem take_drop_set {α : Type} : ∀ {l : List α} {j : Nat} {x : α}, j < l.length → l.take j ++ [x] ++ l.drop (j + 1) = l.set j x
  | [], _, _, h => absurd h (Nat.not_lt_zero _)
  | a :: l, 0, x, _ => rfl
  | a :: l, j + 1, x, h => by
    show a :: (l.take j ++ [x] ++ l.drop (j + 1)) = a :: l.set j x
    rw [take_drop_set (Nat.lt_of_succ_lt_succ h)]
theorem paths_set {es : List U} {j : Nat} {qs : List Str} {a d : U} (hj : es[j]? = some (.tup [.tup (qs.map .str), a])) : pathsU (es.set j (.tup [.tup (qs.map .str), d])) = pathsU es := by
  unfold pathsU
  rw [List.map_set]
  refine List.ext_getElem? fun i => ?_
  by_cases e : j = i
  · subst e
    have lt := (List.getElem?_eq_some_iff.mp hj).1
    rw [List.getElem?_set_self (by rw [List.length_map]; exact lt), List.getElem?_map, hj]
    exact congrArg some ((congrArg Prod.fst (entP_pair qs d)).trans (congrArg Prod.fst (entP_pair qs a)).symm)
  · rw [List.getElem?_set_ne e]
theorem Ent.set {ag : Bool} {zs : List Str} {m : Nat} {es : List U} {j : Nat} {qs : List Str} {a d : U} (h : Ent ag zs m es) (hz : ∀ z ∈ zs, CallS z) (hj : es[j]? = some (.tup [.tup (qs.map .str), a])) (hd : AnsU d) (hr : RepA d) : Ent ag zs m (es.set j (.tup [.tup (qs.map .str), d])) := by
  have pn : PairE ag zs (.tup [.tup (qs.map .str), d]) := by
    obtain ⟨ps, a', e, h1, h2, h3, h4, _⟩ := h.pr _ (List.mem_of_getElem? hj)
    injection e with e
    injection e with e1 e2
    injection e1 with e1
    exact ⟨qs, d, rfl, by
      intro z
      rw [z] at e1
      exact h1 (List.map_eq_nil_iff.mp e1.symm), by
      have := congrArg List.length e1
      rw [List.length_map, List.length_map] at this
      omega, fun z => by
      have := congrArg List.length e1
      rw [List.length_map, List.length_map] at this
      have := h3 z
      omega, fun p hp => by
      have : U.str p ∈ ps.map U.str := by rw [← e1]; exact List.mem_map_of_mem hp
      obtain ⟨p', hp', e'⟩ := List.mem_map.mp this
      cases e'
      exact h4 p hp', hd, hr⟩
  have mem : ∀ e ∈ es.set j (.tup [.tup (qs.map .str), d]), e ∈ es ∨ e = .tup [.tup (qs.map .str), d] := fun e me => List.mem_or_eq_of_mem_set me
  refine ⟨by rw [paths_set hj]; exact h.nd, fun e me => ?_, fun e me => ?_, by rw [List.length_set]; exact h.le⟩
  · rcases mem e me with z | z
    · exact h.pr e z
    · rw [z]
      exact pn
  · rcases mem e me with z | z
    · exact h.ok e z
    · rw [z]
      exact entry_pair hz pn
theorem eqvs_sim : ∀ {ds es : List U}, (∀ x ∈ ds, SimA x) → (∀ x ∈ es, SimA x) → (PyData.eqvAll (dUs ds) (dUs es) = true ↔ ds = es)
  | [], [], _, _ => ⟨fun _ => rfl, fun _ => rfl⟩
  | [], _ :: _, _, _ => ⟨fun h => (by cases (eqv_len h)), nofun⟩
  | _ :: _, [], _, _ => ⟨fun h => (by cases (eqv_len h)), nofun⟩
  | d :: ds, e :: es, hd, he => by
    show PyData.eqvAll (dU d :: dUs ds) (dU e :: dUs es) = true ↔ _
    rw [PySem.W.eqv_all_cons, Bool.and_eq_true, eqv_sim (hd d List.mem_cons_self) (he e List.mem_cons_self), eqvs_sim (fun x m => hd x (List.mem_cons_of_mem _ m)) (fun x m => he x (List.mem_cons_of_mem _ m)), List.cons.injEq]
theorem eqv_ans {d e : U} (hd : AnsU d) (he : AnsU e) : PyData.eqv (dU d) (dU e) = true ↔ d = e := by
  refine ⟨fun h => ?_, fun h => by rw [h]; exact PySem.SeqAt.eqv_refl _ (canLay_fine _ he.2.2.1)⟩
  rcases ans_shape hd with s1 | ⟨z, c, rfl, hz, hc⟩ | ⟨ds, rfl, g1⟩ <;> rcases ans_shape he with s2 | ⟨z2, c2, rfl, hz2, hc2⟩ | ⟨es, rfl, g2⟩
  · exact (eqv_sim s1 s2).mp h
  · cases d <;> first | (cases s1; done) | cases h
  · cases d <;> first | (cases s1; done) | cases h
  · cases e <;> first | (cases s2; done) | cases h
  · have h : ((Str.ofString "raises" == Str.ofString "raises") && ((z == z2) && (PyData.eqv (dU c) (dU c2) && true))) = true := h
    rw [beq_self_eq_true, Bool.true_and, Bool.and_true, Bool.and_eq_true, eqv_sim hc hc2] at h
    rw [eq_of_beq h.1, h.2]
  · cases h
  · cases e <;> first | (cases s2; done) | cases h
  · cases h
  · rw [(eqvs_sim g1 g2).mp h]
theorem eqvs_ans : ∀ {ds es : List U}, (∀ x ∈ ds, AnsU x) → (∀ x ∈ es, AnsU x) → PyData.eqvAll (dUs ds) (dUs es) = true → ds = es
  | [], [], _, _, _ => rfl
  | [], _ :: _, _, _, h => by cases (eqv_len h)
  | _ :: _, [], _, _, h => by cases (eqv_len h)
  | d :: ds, e :: es, hd, he, h => by
    have h : PyData.eqvAll (dU d :: dUs ds) (dU e :: dUs es) = true := h
    rw [PySem.W.eqv_all_cons, Bool.and_eq_true] at h
    rw [(eqv_ans (hd d List.mem_cons_self) (he e List.mem_cons_self)).mp h.1, eqvs_ans (fun x m => hd x (List.mem_cons_of_mem _ m)) (fun x m => he x (List.mem_cons_of_mem _ m)) h.2]
/-- one entry changed: the parts are equal just if the answers are -/
theorem eqT_set {ag : Bool} {zs : List Str} {m : Nat} {es : List U} {j : Nat} {qs : List Str} {a d : U} (h : Ent ag zs m es) (hz : ∀ z ∈ zs, CallS z) (hj : es[j]? = some (.tup [.tup (qs.map .str), a])) (ha : AnsU a) (hd : AnsU d) (hr : RepA d) :
    eqT (ksP es) (xsP es) (ksP (es.set j (.tup [.tup (qs.map .str), d]))) (xsP (es.set j (.tup [.tup (qs.map .str), d]))) = PyData.eqv (dU d) (dU a) := by
  have g := h.set hz hj hd hr
  have x1 : ∀ x ∈ xsP es, AnsU x := fun x hx => (kept_ans h.pr x hx).1
  have x2 : ∀ x ∈ xsP (es.set j (.tup [.tup (qs.map .str), d])), AnsU x := fun x hx => (kept_ans g.pr x hx).1
  have lt := (List.getElem?_eq_some_iff.mp hj).1
  rw [Bool.eq_iff_iff, eqv_ans hd ha]
  constructor
  · intro t
    rw [eqT_items h.nd g.nd h.pr g.pr] at t
    have t : PyData.eqvAll (dUs (keptU es)) (dUs (keptU (es.set j (.tup [.tup (qs.map .str), d])))) = true := t
    rw [← items_nd h.nd, ← items_nd g.nd] at t
    have pk : ∀ k ∈ ksP es, ∃ ps : List Str, k = keyP ps := fun k m => (ksP_pth h.nd h.pr m).imp fun _ h => h.1
    have pl : ∀ k ∈ ksP (es.set j (.tup [.tup (qs.map .str), d])), ∃ ps : List Str, k = keyP ps := fun k m => (ksP_pth g.nd g.pr m).imp fun _ h => h.1
    have ek := eqv_items pk pl (kept_len _) (kept_len _) t
    have ex : xsP es = xsP (es.set j (.tup [.tup (qs.map .str), d])) := by
      rw [← ek] at t
      have l2 := kept_len (es.set j (.tup [.tup (qs.map .str), d]))
      rw [← ek] at l2
      rw [eqv_same pk (kept_len _) l2] at t
      exact eqvs_ans x1 x2 t
    have e0 : keptU es = keptU (es.set j (.tup [.tup (qs.map .str), d])) := by rw [← items_nd h.nd, ← items_nd g.nd, ek, ex]
    have e1 := ans_at h.nd (List.mem_of_getElem? hj)
    have e2 := ans_at g.nd (e := .tup [.tup (qs.map .str), d]) (List.mem_of_getElem? (List.getElem?_set_self lt))
    rw [entP_pair] at e1 e2
    have e1 : ansK es (qs.map Sum.inr) = a := e1
    have e2 : ansK (es.set j (.tup [.tup (qs.map .str), d])) (qs.map Sum.inr) = d := e2
    rw [← e1, ← e2, ← kept_same h.nd, ← kept_same g.nd, e0]
  · intro e
    rw [e]
    have same : es.set j (.tup [.tup (qs.map .str), a]) = es := by
      refine List.ext_getElem? fun i => ?_
      by_cases z : j = i
      · subst z
        rw [List.getElem?_set_self lt, hj]
      · rw [List.getElem?_set_ne z]
    rw [same]
    exact eqT_same h.nd x1
def r_pinit1 (C : Addr) : RU := fun ρ Q _ => ∃ (d : U) (es : List U) (ag : Bool), ρ = [.bor (.obj C [] []), .val d, .val (.bl ag)] ∧ seqP d = some es ∧ okD d ∧ es.length ≤ 1000 ∧ RightP ag es es.length ∧ Q (.dt .non) [.bor (ptU C ag es), .val d, .val (.bl ag)]
theorem okD_tup {es : List U} (h : okD (.lst es)) : okD (.tup es) := h
section
variable {P : Program} {w : World} {K : PySem.W.Frag} {mg : Str → Option Value} {base : Heap}
theorem uk_pinit1 (T : Txt K mg) : FnOk P w K mg base CX0 8 T.f_Part___init__ T.fd_Part___init__ ["self", "entries", "ageing"] (spU K (r_pinit1 T.C_Part)) := by
  refine calm_fn (uk_pinit T) fun vs H Q E h => ?_
  obtain ⟨G, ρ, D, ar, d, es, ag, rfl, hs, ok, hl, hr, q⟩ := h
  refine ⟨G, _, D, ar, d, ag, rfl, ok, fun ds hds => ?_, fun z => by rw [hs] at z; cases z⟩
  rw [hs] at hds
  cases hds
  refine ⟨hl, fun _ => q, fun i x h1 h2 h3 => ?_⟩
  obtain ⟨e, h4, g⟩ := hr i (List.getElem?_eq_some_iff.mp h2).1
  rw [h2] at h4
  cases h4
  exact absurd g h3
end

theorem law_turns (x : Int) (h0 : 0 ≤ x) (h1 : x ≤ 63) : -4000000000 ≤ (if (if x < 8 then x else 8) > 1 then (if x < 8 then x else 8) else 1) ∧ (if (if x < 8 then x else 8) > 1 then (if x < 8 then x else 8) else 1) ≤ 4000000000 ∧ (if (if x < 8 then x else 8) > 1 then (if x < 8 then x else 8) else 1).toNat ≤ 8 := by
  split <;> split <;> omega
theorem atI_last {α : Type} {xs : List α} {x : α} : atI (xs ++ [x]) (-1) = some x := by
  have e : ixN (xs ++ [x]).length (-1) = some xs.length := by
    rw [List.length_append]
    show (if (0 : Int) ≤ -1 then _ else if -((xs.length + 1 : Nat) : Int) ≤ -1 then some (-1 + ((xs.length + 1 : Nat) : Int)).toNat else none) = _
    rw [if_neg (by decide), if_pos (by omega)]
    exact congrArg some (by omega)
  show (ixN (xs ++ [x]).length (-1)).bind _ = _
  rw [e]
  simp
def r_law : RU := fun ρ Q _ => ∃ ns : List Int, ρ = [.val (.fls (ns.map .int))] ∧ ns.length ≤ 63 ∧ Q (.dt (.bl true)) [.val (.fls (ns.map .int))]
theorem ats_ints {K : PySem.W.Frag} {G : Hp} : ∀ ns : List Int, AtAll K G (ns.map V.int) (ns.map U.int)
  | [] => .nil
  | n :: ns => .cons (.int n) (ats_ints ns)
theorem law_of_U {K : PySem.W.Frag} {vs : List V} {H : Hp} {Q : VK} {E : XK} (h : spLaw K vs H Q E) : spU K r_law vs H Q E := by
  obtain ⟨a, ns, rfl, hs, hl, _, q⟩ := h
  refine ⟨H, [.val (.fls (ns.map .int))], ⟨Same.refl H, rfl, fun i d e => ?_, fun i sl d e1 e2 => ?_, fun i j a h1 _ => absurd ⟨i, h1⟩ no_own⟩, fun i sl e => ?_, ns, rfl, hl, fun v s' _ _ _ _ _ hv => ?_⟩
  · match i, e with
    | 0, e =>
      cases e
      exact ⟨.ref a, rfl, .fls hs (ats_ints ns)⟩
    | i + 1, e => cases e
  · have := List.mem_of_getElem? e1
    rw [List.mem_singleton.mp this] at e2
    cases e2
  · exact .inl ⟨_, List.mem_singleton.mp (List.mem_of_getElem? e)⟩
  · have hv : At K s'.G v (.bl true) := hv
    cases hv
    exact q _

/-! ### the law -/
theorem call_lenK {k : Cx} {K : PySem.W.Frag} (e : k.K = K) : CallR k (.builtin "len") (fun xs H Q => ∃ (x : V) (n : Nat), xs = [x] ∧ LenV K x H n ∧ Q (.int n) H) := by
  subst e
  exact call_len
theorem law_turns20 (x : Int) (h0 : 0 ≤ x) (h1 : x ≤ 63) : -4000000000 ≤ (if (if x < 20 then x else 20) > 1 then (if x < 20 then x else 20) else 1) ∧ (if (if x < 20 then x else 20) > 1 then (if x < 20 then x else 20) else 1) ≤ 4000000000 ∧ (if (if x < 20 then x else 20) > 1 then (if x < 20 then x else 20) else 1).toNat ≤ 20 := by
  split <;> split <;> omega
section
variable {K : PySem.W.Frag} {W : Wx} {ρ : Sls} {P : Post}
theorem ws_mid {t u : TS} (M : Sls → Prop) (h1 : WS K W t ρ { P with nx := M }) (h2 : ∀ ρ1, M ρ1 → WS K W u ρ1 P) : WS K W (tSeq t u) ρ P :=
  ws_seq fun s D e d x f => h1 s _ e d x ⟨fun s1 n d1 m => f.nx s1 n d1 (h2 _ m), f.rt, f.bk, f.ct⟩
theorem wsfrz {t : TS} {i : Nat} {d : U} (e : ρ[i]? = some (.own d)) (h : WS K W t (ρ.set i (.val d)) P) : WS K W t ρ P := by
  rintro s D rfl dn x fi
  obtain ⟨G, n, _, _⟩ := freeze_slot dn e
  exact h { s with G := G, ρ := s.ρ.set i (.val d) } D rfl n.den (x.next n.stp) (fi.next n.stp)
theorem wsfrz_or {t : TS} {i : Nat} {d : U} {sl : Sl} (hs : sl = .own d ∨ sl = .val d) (e : ρ[i]? = some sl) (h : WS K W t (ρ.set i (.val d)) P) : WS K W t ρ P := by
  rcases hs with rfl | rfl
  · exact wsfrz e h
  · have : ρ.set i (.val d) = ρ := List.ext_getElem? fun j => by
      by_cases z : i = j
      · subst z
        rw [List.getElem?_set_self (List.getElem?_eq_some_iff.mp e).1, e]
      · rw [List.getElem?_set_ne z]
    rw [this] at h
    exact h
end
theorem paths_tup {ag : Bool} {zs : List Str} : ∀ {es : List U}, (∀ e ∈ es, PairE ag zs e) → ∀ k ∈ pathsU es, ∃ ps : List Str, k = keyP ps ∧ ps ≠ [] ∧ ps.length ≤ 4 ∧ ∀ p ∈ ps, p ∈ zs := fun he k m => by
  obtain ⟨e, me, rfl⟩ := List.mem_map.mp (show k ∈ _ from m)
  obtain ⟨qs, a, rfl, g1, g2, g3, g4, _⟩ := he e me
  exact ⟨qs, congrArg Prod.fst (entP_pair qs a), g1, g2, g4⟩
theorem cut_take (us : List U) (k : Nat) : cutU us none (some (k : Int)) = us.take k := by
  unfold cutU
  rw [HT.sIx_none, HT.sIx_nat, List.drop_zero, Nat.sub_zero, List.take_eq_take_iff]
  omega
theorem cut_drop (us : List U) (k : Nat) : cutU us (some ((k : Int) + 1)) none = us.drop (k + 1) := by
  unfold cutU
  rw [HT.sIx_none, show ((k : Int) + 1) = ((k + 1 : Nat) : Int) from rfl, HT.sIx_nat]
  rcases Nat.le_total (k + 1) us.length with h | h
  · rw [Nat.min_eq_left h, List.take_of_length_le]
    rw [List.length_drop]
    exact Nat.le_refl _
  · rw [Nat.min_eq_right h, List.drop_length, List.take_nil, List.drop_of_length_le h]
section
variable {P : Program} {w : World} {K : PySem.W.Frag} {mg : Str → Option Value} {base : Heap}
theorem uk_law (T : Txt K mg) {f : Addr} {fd : FuncData} (F : Fun K "law" "law" s_law f fd) : GOk P w K mg base 12 f fd ["script"] (spU K r_law) := by
  have G_law_bag := uk_bag (P := P) (w := w) (base := base) T
  have G_law_take := ok_law_take (P := P) (w := w) (base := base) T
  have G_law_core := uk_core (P := P) (w := w) (base := base) T
  have G_law_some_texts := uk_some_texts (P := P) (w := w) (base := base) T
  have G_law_drawn_pairs := uk_drawn_pairs (P := P) (w := w) (base := base) T
  have G_law_any_answer := uk_any_answer (P := P) (w := w) (base := base) T
  have G_law_copy := uk_lcopy (P := P) (w := w) (base := base) T
  have G_law_copyF := FnOk.frz (uk_lcopyC (P := P) (w := w) (base := base) T)
  have G_Part___init__ := uk_pinit1 (P := P) (w := w) (base := base) T
  have G_Part___init__F := FnOk.frz (uk_pinitC (P := P) (w := w) (base := base) T)
  have G_Part___init__N := uk_pinitN (P := P) (w := w) (base := base) T
  have G_Part_entries := uk_entries (P := P) (w := w) (base := base) T
  have G_Part___eq__ := uk_peq2 (P := P) (w := w) (base := base) T
  have G_law_equal := uk_equal2 (P := P) (w := w) (base := base) T
  have L_law_equal := len_equal2 (K := K)
  have G_law_is_right := uk_right (P := P) (w := w) (base := base) T
  have L_law_is_right := len_right (K := K) (C := T.C_Part)
  refine gOk_of F sc_law (fun ρ Q X h => ?_) (fun cdv A outer s H E hr hgd => ⟨_, (pss_cons (ps_for PassesOwn.never rfl (pi_range1 (by rfl) T.m_range (pa_cons (pe_callB (call_max2 rfl) (by rfl) T.m_max (by decide +kernel) (pa_cons pe_int (pa_cons (pe_callB (call_min2 rfl) (by rfl) T.m_min (by decide +kernel) (pa_cons pe_int (pa_cons (pe_callB call_len (by rfl) T.m_len (by decide +kernel) (pa_cons (pv 0) pa_nil)) pa_nil))) pa_nil))) pa_nil)) (pg_name (i := 1) sc_law.nd rfl (.inl rfl)) (pss_cons (ps_set (i := 2) sc_law.nd rfl (.inl rfl) (pe_call G_law_bag (hr.mono (by omega)) (by rfl) T.g_law_bag T.F_law_bag.kp T.b_law_bag .nil pass0 (pa_cons (pv 0) (pa_cons (pv 1) pa_nil))))
        (pss_cons (ps_set (i := 3) sc_law.nd rfl (.inl rfl) (pe_cmpR op_eq (pe_call G_law_take (hr.mono (by omega)) (by rfl) T.g_law_take T.F_law_take.kp T.b_law_take .nil pass0 (pa_cons (pv 2) (pa_cons pe_int pa_nil))) pe_int (nomark _)))
        (pss_cons (ps_set (i := 4) sc_law.nd rfl (.inl rfl) (pe_call G_law_core (hr.mono (by omega)) (by rfl) T.g_law_core T.F_law_core.kp T.b_law_core .nil pass0 (pa_cons (pv 2) (pa_cons pe_int (pa_cons pe_int (pa_cons pe_int pa_nil))))))
        (pss_cons (ps_set (i := 5) sc_law.nd rfl (.inl rfl) (pe_call G_law_drawn_pairs (hr.mono (by omega)) (by rfl) T.g_law_drawn_pairs T.F_law_drawn_pairs.kp T.b_law_drawn_pairs .nil pass0 (pa_cons (pv 2) (pa_cons (pv 4) (pa_cons (pe_call G_law_some_texts (hr.mono (by omega)) (by rfl) T.g_law_some_texts T.F_law_some_texts.kp T.b_law_some_texts .nil pass0 (pa_cons (pv 2) (pa_cons pe_int pa_nil))) (pa_cons (pv 3) (pa_cons pe_int pa_nil)))))))
        (pss_cons (ps_set (i := 6) sc_law.nd rfl (.inl rfl) (pe_call G_law_copyF (hr.mono (by omega)) (by rfl) T.g_law_copy T.F_law_copy.kp T.b_law_copy .nil pass0 (pa_cons (pv 5) pa_nil)))
        (pss_cons (ps_set (i := 7) sc_law.nd rfl (.inl rfl) (pe_makeK T.mk_Part G_Part___init__F (hr.mono (by omega)) (by rfl) T.gC_Part T.bk_Part___init__ pass0 (pa_cons (pv 6) pa_nil) (pk_cons (pv 3) pk_nil)))
        (pss_cons (ps_for PassesOwn.never rfl (pi_list (pv 6)) (pg_tup rfl (pgs_cons (pg_name (i := 8) sc_law.nd rfl (.inl rfl)) (pgs_cons (pg_name (i := 9) sc_law.nd rfl (.inl rfl)) pgs_nil))) (pss_one (ps_if (pt_val (pe_callB call_isi (by rfl) T.m_isinstance (by decide +kernel) (pa_cons (pv 9) (pa_cons (pe_bltn (v := .ty "list") (by rfl) T.m_list (by decide +kernel) rfl) pa_nil)))) (pss_one (ps_expr (pe_bm PySem.F.plainAttrs_list PySem.F.slot_list_append PySem.F.type_list_append mt_append (pv 9) (pa_cons pe_int pa_nil)))) pss_nil)))
        (pss_cons (ps_expr (pe_bm0 PySem.F.plainAttrs_list PySem.F.slot_list_clear PySem.F.type_list_clear mt_clear (pv 6)))
        (pss_cons (ps_if (pt_not (pt_val (pe_callG G_law_is_right L_law_is_right hgd (hr.mono (by omega)) (by rfl) T.g_law_is_right T.F_law_is_right.kp T.b_law_is_right pass0 (pa_cons (pv 7) (pa_cons (pv 5) (pa_cons (pv 3) pa_nil)))))) (pss_one (ps_ret pe_bl)) pss_nil)
        (pss_cons (ps_if (PW.pt (pw_or (pt_not (pt_cmpR (op_eqOwn T.o_Part___eq__ T.n_Part___eq__ (G_Part___eq__.raw T.b_Part___eq__ .nil) (hr.mono (by omega)) pass0) (pv 7) (pe_makeK T.mk_Part G_Part___init__ (hr.mono (by omega)) (by rfl) T.gC_Part T.bk_Part___init__ pass0 (pa_cons (pe_callTy call_tuple_of (by rfl) T.m_tuple (by decide +kernel) (pa_cons (pe_revL (pe_call G_law_copy (hr.mono (by omega)) (by rfl) T.g_law_copy T.F_law_copy.kp T.b_law_copy .nil pass0 (pa_cons (pv 5) pa_nil))) pa_nil)) pa_nil) (pk_cons (pv 3) pk_nil)) (nomark _))) (pw_or1 (pt_cmpR (op_eqOwn T.o_Part___eq__ T.n_Part___eq__ (G_Part___eq__.raw T.b_Part___eq__ .nil) (hr.mono (by omega)) pass0) (pv 7) (pe_prop (pv 7) T.cl_Part T.pr_Part_entries G_Part_entries (hr.mono (by omega)) T.b_Part_entries .nil pass0 (by rfl)) (nomark _))))) (pss_one (ps_ret pe_bl)) pss_nil)
        (pss_cons (ps_if (pt_cmpR (op_eqD hr.units) (pe_lc (own := [("path", 8), ("answer", 9)]) (g := gTup K 2 (gCons (gName 8) (gCons (gName 9) gNil))) rfl sc_law.nd (pi_list (pv 5)) (blkOk_by (own := [("path", 8), ("answer", 9)]) (N := ["script", "at", "bag", "aged", "kit", "due", "handed", "part", "path", "answer", "k", "other", "changed"]) (sc := defScope s_law) (by decide +kernel)) (fun _ _ _ _ _ => pg_tup rfl (pgs_cons (pg_name (i := 8) sc_law.nd rfl (.inl rfl)) (pgs_cons (pg_name (i := 9) sc_law.nd rfl (.inl rfl)) pgs_nil))) (fun _ _ _ _ _ => pts_one ((pt_cmpR op_gt (pe_callB (call_lenK (K := K) rfl) (by rfl) T.m_len (by decide +kernel) (pa_cons (pv 8) pa_nil)) pe_int (nomark _)))) (fun _ _ _ _ _ => (pv 8))) (pe_lst pa_nil) (nomark _)) (pss_one (ps_if (pt_cmpR (op_eqOwn T.o_Part___eq__ T.n_Part___eq__ (G_Part___eq__.raw T.b_Part___eq__ .nil) (hr.mono (by omega)) pass0) (pv 7) (pe_makeK T.mk_Part G_Part___init__ (hr.mono (by omega)) (by rfl) T.gC_Part T.bk_Part___init__ pass0 (pa_cons (pe_call G_law_copy (hr.mono (by omega)) (by rfl) T.g_law_copy T.F_law_copy.kp T.b_law_copy .nil pass0 (pa_cons (pv 5) pa_nil)) pa_nil) (pk_cons (pe_not (pv 3)) pk_nil)) (nomark _)) (pss_one (ps_ret pe_bl)) pss_nil)) pss_nil)
        (pss_cons (ps_for PassesOwn.never rfl (pi_range1 (by rfl) T.m_range (pa_cons (pe_callB call_len (by rfl) T.m_len (by decide +kernel) (pa_cons (pv 5) pa_nil)) pa_nil)) (pg_name (i := 10) sc_law.nd rfl (.inl rfl)) (pss_cons (ps_set (i := 11) sc_law.nd rfl (.inl rfl) (pe_call G_law_any_answer (hr.mono (by omega)) (by rfl) T.g_law_any_answer T.F_law_any_answer.kp T.b_law_any_answer .nil pass0 (pa_cons (pv 2) (pa_cons (pv 4) pa_nil))))
        (pss_cons (ps_set (i := 12) sc_law.nd rfl (.inl rfl) (pe_op op_cat (pe_op op_cat (pe_slice sl_list (pv 5) po_none (po_any (pv 10))) (pe_lst (pa_cons (pe_tup (pa_cons (pe_ix ix_tup (pe_ix ix_list (pv 5) (pv 10) (fun _ _ => rfl)) pe_int (fun _ _ => rfl)) (pa_cons (pv 11) pa_nil))) pa_nil))) (pe_slice sl_list (pv 5) (po_some (pe_op op_add (pv 10) pe_int)) po_none)))
        (pss_one (ps_if (pt_cmpR op_ne (pe_cmpR (op_eqOwn T.o_Part___eq__ T.n_Part___eq__ (G_Part___eq__.raw T.b_Part___eq__ .nil) (hr.mono (by omega)) pass0) (pv 7) (pe_makeK T.mk_Part G_Part___init__ (hr.mono (by omega)) (by rfl) T.gC_Part T.bk_Part___init__ pass0 (pa_cons (pe_call G_law_copy (hr.mono (by omega)) (by rfl) T.g_law_copy T.F_law_copy.kp T.b_law_copy .nil pass0 (pa_cons (pv 12) pa_nil)) pa_nil) (pk_cons (pv 3) pk_nil)) (nomark _)) (pe_callG G_law_equal L_law_equal hgd (hr.mono (by omega)) (by rfl) T.g_law_equal T.F_law_equal.kp T.b_law_equal pass0 (pa_cons (pv 11) (pa_cons (pe_ix ix_tup (pe_ix ix_list (pv 5) (pv 10) (fun _ _ => rfl)) pe_int (fun _ _ => rfl)) pa_nil))) (nomark _)) (pss_one (ps_ret pe_bl)) pss_nil)))))
        (pss_one (ps_if (PW.pt (pw_or (pt_cmpR (op_neD hr.units) (pe_prop (pe_make0 T.mk_Part G_Part___init__N (hr.mono (by omega)) (by rfl) T.gC_Part T.bz_Part___init__.choose_spec.2 T.bz_Part___init__.choose_spec.1 pass0) T.cl_Part T.pr_Part_entries G_Part_entries (hr.mono (by omega)) T.b_Part_entries .nil pass0 (by rfl)) (pe_tup pa_nil) (nomark _)) (pw_or (pt_cmpR op_notBl (pe_fld (pe_make0 T.mk_Part G_Part___init__N (hr.mono (by omega)) (by rfl) T.gC_Part T.bz_Part___init__.choose_spec.2 T.bz_Part___init__.choose_spec.1 pass0) rfl) pe_bl (nomark _)) (pw_or1 (pt_not (pt_val (pe_callG G_law_is_right L_law_is_right hgd (hr.mono (by omega)) (by rfl) T.g_law_is_right T.F_law_is_right.kp T.b_law_is_right pass0 (pa_cons (pv 7) (pa_cons (pv 5) (pa_cons (pv 3) pa_nil)))))))))) (pss_one (ps_ret pe_bl)) pss_nil)))))))))))))))
        (pss_one (ps_ret pe_bl))), ?_⟩)
  · obtain ⟨ns, rfl, _⟩ := h
    rfl
  rintro W ρ Qd Xd ⟨ns, rfl, hl, q⟩
  show WS K _ _ [.val _, .un, .un, .un, .un, .un, .un, .un, .un, .un, .un, .un, .un] _
  repeat (walk_at "u")
  have hx : 0 ≤ (((ns.map U.int).length : Nat) : Int) ∧ (((ns.map U.int).length : Nat) : Int) ≤ 63 := by
    rw [List.length_map]
    omega
  obtain ⟨b1, b2, b3⟩ := law_turns20 _ hx.1 hx.2
  refine ⟨⟨b1, b2⟩, fun i ρ => ∃ t1 t2 t3 t4 t5 t6 t7 t8 t9 t10 t11 t12, ρ = [.val (.fls (ns.map .int)), t1, t2, t3, t4, t5, t6, t7, t8, t9, t10, t11, t12] ∧ (nb [t1] 0 = true ∧ nb [t2] 0 = true ∧ nb [t3] 0 = true ∧ nb [t4] 0 = true) ∧ (nb [t5] 0 = true ∧ nb [t6] 0 = true ∧ nb [t7] 0 = true ∧ nb [t8] 0 = true) ∧ (nb [t9] 0 = true ∧ nb [t10] 0 = true ∧ nb [t11] 0 = true ∧ nb [t12] 0 = true), ?_, ?_, ?_⟩
  · exact ⟨.un, .un, .un, .un, .un, .un, .un, .un, .un, .un, .un, .un, rfl, ⟨rfl, rfl, rfl, rfl⟩, ⟨rfl, rfl, rfl, rfl⟩, ⟨rfl, rfl, rfl, rfl⟩⟩
  · rintro i x ρ hxx ⟨t1, t2, t3, t4, t5, t6, t7, t8, t9, t10, t11, t12, rfl, ⟨h1, h2, h3, h4⟩, ⟨h5, h6, h7, h8⟩, ⟨h9, h10, h11, h12⟩⟩
    obtain ⟨hi, hxe⟩ := rgU_get hxx
    rw [Int.zero_add] at hxe
    subst hxe
    clear hxx
    repeat (walk_at "u")
    refine callU [true, true] rfl rfl fun Q' X' qq xx => ⟨ns, i, rfl, hl, by omega, by omega, fun b hb => qq _ _ ?_⟩
    walk_at "ucl"
    repeat (walk_at "u")
    refine callU [true, true] rfl rfl fun Q' X' qq xx => ⟨b, _, _, rfl, hb, by omega, by decide, by decide, fun ag0 b1 ag1 ag2 hb1 => qq _ _ ?_⟩
    walk_at "ucl"
    repeat (walk_at "u")
    generalize decide (V.int ag0 = V.int 1) = ag
    repeat (walk_at "u")
    refine callU [true, true, true, true] rfl rfl fun Q' X' qq xx => ⟨b1, _, rfl, hb1, by omega, fun kit b2 hk hb2 => qq _ _ ?_⟩
    walk_at "ucl"
    repeat (walk_at "u")
    refine callU [true, true] rfl rfl fun Q' X' qq xx => ⟨b2, 4, _, rfl, by decide, by decide, hb2, by omega, fun zs b3 z1 z2 z3 hb3 => qq _ _ ?_⟩
    walk_at "ucl"
    repeat (walk_at "u")
    refine callU [true, false, false, true, true] rfl rfl fun Q' X' qq xx => ⟨b3, kit, zs, ag, 12, _, rfl, hk, z1, by omega, z3, by decide, hb3, by omega, fun rs b4 hr1 hr2 hr3 hb4 => qq _ _ ?_⟩
    walk_at "ucl"
    walk_at "u"
    have hE : Ent ag zs 12 rs := Ent.of hr1 hr2 hr3
    show WS K W _ [.val (.fls (ns.map .int)), .val (.int i), .own b4, .val (.bl ag), .val kit, .own (.lst rs), t6, t7, t8, t9, t10, t11, t12] _
    refine wsfrz (i := 5) rfl ?_
    refine ws_handed (C := T.C_Part) (Pg := P) (wd := w) (es := rs) (ag := ag) (zs := zs) (m := 12) rfl rfl h6 h7 h8 h9 hE (by decide) z3 ?_
    show WS K W _ [.val (.fls (ns.map .int)), .val (.int i), .own b4, .val (.bl ag), .val kit, .val (.lst rs), .own (.lst []), .own (ptU T.C_Part ag rs), .un, .un, t10, t11, t12] _
    refine wsfrz (i := 7) rfl ?_
    show WS K W _ [.val (.fls (ns.map .int)), .val (.int i), .own b4, .val (.bl ag), .val kit, .val (.lst rs), .own (.lst []), .val (prtU T.C_Part ag (ksP rs) (xsP rs)), .un, .un, t10, t11, t12] _
    repeat (walk_at "u")
    have hl1 := hE.le
    have shape : ∀ {es : List U}, Ent ag zs 12 es → ∀ e ∈ es, ∃ p a, e = .tup [p, a] ∧ okU a = true := fun hx e he => by
      obtain ⟨ps, a, rfl, _, _, _, _, h, _⟩ := hx.pr e he
      exact ⟨_, a, rfl, h.2.1⟩
    have aR : ∀ x ∈ xsP rs, AnsU x := fun x hx => (kept_ans hE.pr x hx).1
    have hRv : Ent ag zs 12 rs.reverse := hE.rev
    have lRv : rs.reverse.length ≤ 12 := hRv.le
    refine callU [true, true, true] rfl rfl fun Q' X' qq xx => ⟨rs, ag, zs, 12, rfl, hE, by decide, z3, qq _ _ ?_⟩
    walk_at "ucl"
    repeat (walk_at "u")
    refine we_makeK ?_
    repeat (walk_at "u")
    refine we_revL ?_
    repeat (walk_at "u")
    refine callU [false] rfl rfl fun Q' X' qq xx => ⟨rs, rfl, by omega, shape hE, qq _ _ ?_⟩
    walk_at "ucl"
    refine ⟨_, rfl, ?_⟩
    repeat (walk_at "u")
    refine ⟨rfl, rfl, ?_⟩
    refine callU [true, true, true] rfl rfl fun Q' X' qq xx => ⟨.tup rs.reverse, rs.reverse, ag, rfl, rfl, okD_tup (okD_pairs2 (by omega) z3 hRv.pr), by omega, hRv.right, qq _ _ ⟨rfl, _, rfl, ?_⟩⟩
    have aRv : ∀ x ∈ xsP rs.reverse, AnsU x := fun x hx => (kept_ans hRv.pr x hx).1
    have okE : ∀ x ∈ xsP rs, okD x := fun x mx => by
      obtain ⟨_, h2, h3, h4⟩ := aR x mx
      exact ⟨h2, h3, Nat.le_trans h4 (by decide)⟩
    have ks1 := kept_short rs
    show WR K W _ _ _ [.val (.fls (ns.map .int)), .val (.int i), .own b4, .val (.bl ag), .val kit, .val (.lst rs), .own (.lst []), .val (prtU T.C_Part ag (ksP rs) (xsP rs)), .un, .un, t10, t11, t12] _ _
    refine wr_eqOwn trivial trivial rfl rfl rfl T.tp_Part.f1 ?_
    refine callU [true, true] rfl rfl fun Q' X' qq xx => ⟨ag, ksP rs, xsP rs, ptU T.C_Part ag rs.reverse, true, rfl, aR, .inl ⟨ag, ksP rs.reverse, xsP rs.reverse, rfl, aRv, by rw [decide_eq_true rfl, Bool.true_and, (rev_part hE).1, (rev_part hE).2, eqT_same hE.nd aR]⟩, qq _ _ ?_⟩
    walk_at "ucl"
    repeat (walk_at "u")
    refine we_prop ?_
    repeat (walk_at "u")
    refine ⟨_, _, rfl, ?_⟩
    refine callU [true] rfl rfl fun Q' X' qq xx => ⟨ag, ksP rs, xsP rs, rfl, kept_len rs, by omega, okE, qq _ _ ?_⟩
    walk_at "ucl"
    repeat (walk_at "u")
    refine wr_eqOwn trivial trivial rfl rfl rfl T.tp_Part.f3 ?_
    refine callU [true, true] rfl rfl fun Q' X' qq xx => ⟨ag, ksP rs, xsP rs, _, false, rfl, aR, .inr ⟨_, rfl, rfl⟩, qq _ _ ?_⟩
    walk_at "ucl"
    iterate 3 walk_at "u"
    show WS K W _ [.val (.fls (ns.map .int)), .val (.int i), .own b4, .val (.bl ag), .val kit, .val (.lst rs), .own (.lst []), .val (prtU T.C_Part ag (ksP rs) (xsP rs)), .un, .un, t10, t11, t12] _
    refine ws_mid (fun ρ => ρ = [.val (.fls (ns.map .int)), .val (.int i), .own b4, .val (.bl ag), .val kit, .val (.lst rs), .own (.lst []), .val (prtU T.C_Part ag (ksP rs) (xsP rs)), .un, .un, t10, t11, t12]) ?_ ?_
    · repeat (walk_at "u")
      refine ⟨_, _, frzC_ok rfl, rfl, fun k acc ρ => ρ = [.val (.fls (ns.map .int)), .val (.int i), .own b4, .val (.bl ag), .val kit, .val (.lst rs), .own (.lst []), .val (prtU T.C_Part ag (ksP rs) (xsP rs)), .un, .un, t10, t11, t12] ∧ acc = (pathsU ((rs.take k).filter longE)).map tupU, ⟨rfl, rfl⟩, ?_, ?_⟩
      · rintro k e acc ρ he hl2 ⟨rfl, rfl⟩
        obtain ⟨qs, a, rfl, g1, g2, g3, g4, ga, gr⟩ := hr3 e (List.mem_of_getElem? he)
        have lk : k < rs.length := (List.getElem?_eq_some_iff.mp he).1
        have l : ((pathsU ((rs.take k).filter longE)).map tupU).length < 1000 := by
          unfold pathsU
          rw [List.length_map, List.length_map]
          have := List.length_filter_le longE (rs.take k)
          rw [List.length_take] at this
          omega
        have lg : longE (.tup [.tup (qs.map .str), a]) = decide (1 < qs.length) := by
          unfold longE
          rw [entP_pair]
          show decide (1 < (qs.map (Sum.inr : Str → Key)).length) = _
          rw [List.length_map]
        refine wg_tup ⟨_, rfl, rfl, ?_⟩
        repeat (walk_at "u")
        by_cases hq : 1 < qs.length
        · refine uT (by rw [List.length_map]; exact decide_eq_true (by omega)) ?_
          repeat (walk_at "u")
          exact ⟨_, _, frzC_ok rfl, l, rfl, rfl, (by
            rw [take_one he, List.filter_append, List.filter_cons_of_pos (by rw [lg]; exact decide_eq_true hq)]
            unfold pathsU
            rw [List.map_append, List.map_append]
            congr 1
            show _ = [tupU (entP (.tup [.tup (qs.map .str), a])).1]
            rw [entP_pair]
            exact congrArg (fun x => [x]) (tupU_key qs).symm)⟩
        · refine uF (by rw [List.length_map]; exact decide_eq_false (by omega)) ?_
          exact ⟨rfl, rfl, by rw [take_one he, List.filter_append, List.filter_cons_of_neg (by rw [lg, decide_eq_false hq]; decide), List.filter_nil, List.append_nil]⟩
      · rintro acc ρ hl2 ⟨rfl, rfl⟩
        rw [List.take_length]
        show WE K W _ [.val (.fls (ns.map .int)), .val (.int i), .own b4, .val (.bl ag), .val kit, .val (.lst rs), .own (.lst []), .val (prtU T.C_Part ag (ksP rs) (xsP rs)), .un, .un, t10, t11, t12] _ _
        have kk := paths_tup (es := rs.filter longE) fun e me => hr3 e (List.mem_filter.mp me).1
        have ks := keys_shaped z3 kk
        have kl : (pathsU (rs.filter longE)).length ≤ 12 := by
          unfold pathsU
          rw [List.length_map]
          exact Nat.le_trans (List.length_filter_le _ _) hl1
        have sh : SeqAt.shaped (dU (.lst ((pathsU (rs.filter longE)).map tupU))) = true := shaped_fine (by
          show (decide ((dUs ((pathsU (rs.filter longE)).map tupU)).length ≤ 1000) && fineAll (dUs ((pathsU (rs.filter longE)).map tupU))) = true
          rw [ks.2.1, decide_eq_true (show (dUs ((pathsU (rs.filter longE)).map tupU)).length ≤ 1000 by rw [dUs_map, List.length_map, List.length_map]; omega)]
          rfl) (by show PyData.depthAll (dUs ((pathsU (rs.filter longE)).map tupU)) + 1 ≤ 64; omega)
        have ev : PyData.eqv (dU (.lst ((pathsU (rs.filter longE)).map tupU))) (dU (.lst [])) = (rs.filter longE).isEmpty := by
          cases rs.filter longE <;> rfl
        repeat (walk_at "u")
        refine wr_eqD (d := .lst ((pathsU (rs.filter longE)).map tupU)) (e := .lst []) rfl rfl ks.1 rfl sh (by decide) ?_
        rw [ev]
        cases hf : (rs.filter longE).isEmpty with
        | false =>
          repeat (walk_at "u")
          exact rfl
        | true =>
          have hO := hE.oth z3 (List.isEmpty_iff.mp hf) (!ag)
          repeat (walk_at "u")
          refine we_makeK ?_
          repeat (walk_at "u")
          refine callU [false] rfl rfl fun Q' X' qq xx => ⟨rs, rfl, by omega, shape hE, qq _ _ ?_⟩
          walk_at "ucl"
          repeat (walk_at "u")
          refine ⟨rfl, rfl, ?_⟩
          refine callU [true, false, true] rfl rfl fun Q' X' qq xx => ⟨.lst rs, rs, !ag, rfl, rfl, okD_pairs2 (by omega) z3 hE.pr, by omega, hO.right, qq _ _ ⟨rfl, _, rfl, ?_⟩⟩
          show WR K W _ _ _ [.val (.fls (ns.map .int)), .val (.int i), .own b4, .val (.bl ag), .val kit, .val (.lst rs), .own (.lst []), .val (prtU T.C_Part ag (ksP rs) (xsP rs)), .un, .un, t10, t11, t12] _ _
          refine wr_eqOwn trivial trivial rfl rfl rfl T.tp_Part.f1 ?_
          refine callU [true, true] rfl rfl fun Q' X' qq xx => ⟨ag, ksP rs, xsP rs, ptU T.C_Part (!ag) rs, false, rfl, aR, .inl ⟨!ag, ksP rs, xsP rs, rfl, aR, by rw [decide_eq_false (fun h => by cases ag <;> cases h)]; rfl⟩, qq _ _ ?_⟩
          walk_at "ucl"
          repeat (walk_at "u")
          exact rfl
    · rintro ρ rfl
      repeat (walk_at "u")
      refine ⟨by omega, fun j ρ => ∃ (bj : U) (t10 t11 t12 : Sl), ρ = [.val (.fls (ns.map .int)), .val (.int i), .own bj, .val (.bl ag), .val kit, .val (.lst rs), .own (.lst []), .val (prtU T.C_Part ag (ksP rs) (xsP rs)), .un, .un, t10, t11, t12] ∧ nb [t10] 0 = true ∧ nb [t11] 0 = true ∧ nb [t12] 0 = true ∧ BagU bj (40000 + 40 * j), ?_, ?_, ?_⟩
      · exact ⟨_, _, _, _, rfl, h10, h11, h12, hb4.mono (by omega)⟩
      · rintro j x ρ hxx ⟨bj, t10, t11, t12, rfl, h10, h11, h12, hB⟩
        obtain ⟨hj, hxe⟩ := rgU_get hxx
        rw [Int.zero_add] at hxe
        subst hxe
        clear hxx
        have hj : j < rs.length := hj
        walk_at "u"
        show WS K W _ [.val (.fls (ns.map .int)), .val (.int i), .own bj, .val (.bl ag), .val kit, .val (.lst rs), .own (.lst []), .val (prtU T.C_Part ag (ksP rs) (xsP rs)), .un, .un, .val (.int (j : Nat)), t11, t12] _
        refine ws_mid (fun ρ => ∃ (b7 a : U) (sl : Sl), ρ = [.val (.fls (ns.map .int)), .val (.int i), .own b7, .val (.bl ag), .val kit, .val (.lst rs), .own (.lst []), .val (prtU T.C_Part ag (ksP rs) (xsP rs)), .un, .un, .val (.int (j : Nat)), sl, t12] ∧ (sl = .own a ∨ sl = .val a) ∧ AnsU a ∧ RepA a ∧ BagU b7 (40000 + 40 * (j + 1))) ?_ ?_
        · repeat (walk_at "u")
          refine callU [true, true] rfl rfl fun Q' X' qq xx => ⟨bj, kit, _, rfl, hk, hB, by omega, fun r a b7 hra hans hrep hb7 => qq _ _ ?_⟩
          rcases hra with rfl | rfl
          · walk_at "ucl"
            repeat (walk_at "u")
            exact ⟨_, _, _, rfl, .inr rfl, hans, hrep, hb7.mono (by omega)⟩
          · walk_at "ucl"
            repeat (walk_at "u")
            exact ⟨_, _, _, rfl, .inl rfl, hans, hrep, hb7.mono (by omega)⟩
        · rintro ρ ⟨b7, a, sl, rfl, hs, hans, hrep, hb7⟩
          refine wsfrz_or (i := 11) hs rfl ?_
          show WS K W _ [.val (.fls (ns.map .int)), .val (.int i), .own b7, .val (.bl ag), .val kit, .val (.lst rs), .own (.lst []), .val (prtU T.C_Part ag (ksP rs) (xsP rs)), .un, .un, .val (.int (j : Nat)), .val a, t12] _
          clear hs hB h11
          repeat (walk_at "u")
          obtain ⟨en, em⟩ : ∃ en, rs[j]? = some en := ⟨_, List.getElem?_eq_getElem hj⟩
          obtain ⟨qs, a0, rfl, g1, g2, g3, g4, ga, gr⟩ := hr3 en (List.mem_of_getElem? em)
          have hC := hE.set z3 em hans hrep
          have lC : (rs.set j (.tup [.tup (qs.map .str), a])).length = rs.length := List.length_set
          refine ⟨_, _, rfl, rfl, ?_⟩
          refine sl_L rfl ?_
          rw [cut_take]
          repeat (walk_at "u")
          refine wr_ixL rfl (atI_nat em) ?_
          repeat (walk_at "u")
          refine wr_cat rfl rfl (by rw [List.length_take]; show _ + 1 ≤ _; omega) ?_
          repeat (walk_at "u")
          refine sl_L rfl ?_
          rw [cut_drop]
          repeat (walk_at "u")
          refine wr_cat rfl rfl (by rw [List.length_append, List.length_take, List.length_drop]; show _ + 1 + _ ≤ _; omega) ?_
          rw [take_drop_set hj]
          repeat (walk_at "u")
          refine we_makeK ?_
          repeat (walk_at "u")
          refine callU [false] rfl rfl fun Q' X' qq xx => ⟨rs.set j (.tup [.tup (qs.map .str), a]), rfl, by omega, shape hC, qq _ _ ?_⟩
          walk_at "ucl"
          repeat (walk_at "u")
          refine ⟨rfl, rfl, ?_⟩
          refine callU [true, false, true] rfl rfl fun Q' X' qq xx => ⟨.lst (rs.set j (.tup [.tup (qs.map .str), a])), rs.set j (.tup [.tup (qs.map .str), a]), ag, rfl, rfl, okD_pairs2 (by omega) z3 hC.pr, by omega, hC.right, qq _ _ ⟨rfl, _, rfl, ?_⟩⟩
          show WR K W _ _ _ [.val (.fls (ns.map .int)), .val (.int i), .own b7, .val (.bl ag), .val kit, .val (.lst rs), .own (.lst []), .val (prtU T.C_Part ag (ksP rs) (xsP rs)), .un, .un, .val (.int (j : Nat)), .val a, .val (.lst (rs.set j (.tup [.tup (qs.map .str), a])))] _ _
          refine wr_eqOwn trivial trivial rfl rfl rfl T.tp_Part.f1 ?_
          refine callU [true, true] rfl rfl fun Q' X' qq xx => ⟨ag, ksP rs, xsP rs, ptU T.C_Part ag (rs.set j (.tup [.tup (qs.map .str), a])), PyData.eqv (dU a) (dU a0), rfl, aR, .inl ⟨ag, ksP (rs.set j (.tup [.tup (qs.map .str), a])), xsP (rs.set j (.tup [.tup (qs.map .str), a])), rfl, fun x hx => (kept_ans hC.pr x hx).1, by rw [decide_eq_true rfl, Bool.true_and, eqT_set hE z3 em ga hans hrep]⟩, qq _ _ ?_⟩
          walk_at "ucl"
          repeat (walk_at "u")
          refine wr_ixL rfl (atI_nat em) ?_
          repeat (walk_at "u")
          refine callU [true, true] rfl rfl fun Q' X' qq xx => ⟨a, a0, rfl, hans, ga, hrep, gr, qq _ _ ?_⟩
          walk_at "ucl"
          repeat (walk_at "u")
          refine uF (by rw [decide_eq_true rfl]; rfl) ?_
          repeat (walk_at "u")
          exact ⟨_, _, _, _, rfl, rfl, rfl, rfl, hb7.mono (by omega)⟩
      · rintro ρ ⟨bj, t10, t11, t12, rfl, h10, h11, h12, hB⟩
        clear hb4
        repeat (walk_at "u")
        refine we_prop ?_
        refine we_makeD (ds := [.raw T.e_Part___init___0, .bl false]) (fun G => .cons (.raw _) (.cons (.bl false) .nil)) ?_
        refine callU [true, true, true] rfl rfl fun Q' X' qq xx => ⟨rfl, qq _ _ ⟨rfl, _, rfl, ?_⟩⟩
        refine ⟨_, _, rfl, ?_⟩
        show CallU _ _ [.val (.fls (ns.map .int)), .val (.int i), .own bj, .val (.bl ag), .val kit, .val (.lst rs), .own (.lst []), .val (prtU T.C_Part ag (ksP rs) (xsP rs)), .un, .un, t10, t11, t12] _ _
        refine callU [true] rfl rfl fun Q' X' qq xx => ⟨false, [], [], rfl, rfl, Nat.zero_le _, nofun, qq _ _ ?_⟩
        walk_at "ucl"
        repeat (walk_at "u")
        refine wr_neD (d := .tup []) (e := .tup []) rfl rfl rfl rfl (by decide) (by decide) ?_
        repeat (walk_at "u")
        refine we_makeD (ds := [.raw T.e_Part___init___0, .bl false]) (fun G => .cons (.raw _) (.cons (.bl false) .nil)) ?_
        refine callU [true, true, true] rfl rfl fun Q' X' qq xx => ⟨rfl, qq _ _ ⟨rfl, _, rfl, ?_⟩⟩
        refine ⟨_, _, _, .bl false, rfl, T.cl_Part, T.nA_Part_ageing, rfl, ?_⟩
        show WE K W _ [.val (.fls (ns.map .int)), .val (.int i), .own bj, .val (.bl ag), .val kit, .val (.lst rs), .own (.lst []), .val (prtU T.C_Part ag (ksP rs) (xsP rs)), .un, .un, t10, t11, t12] _ _
        repeat (walk_at "u")
        refine callU [true, true, true] rfl rfl fun Q' X' qq xx => ⟨rs, ag, zs, 12, rfl, hE, by decide, z3, qq _ _ ?_⟩
        walk_at "ucl"
        repeat (walk_at "u")
        exact ⟨_, _, _, _, _, _, _, _, _, _, _, _, rfl, ⟨rfl, rfl, rfl, rfl⟩, ⟨rfl, rfl, rfl, rfl⟩, ⟨rfl, h10, h11, h12⟩⟩
  · rintro ρ ⟨t1, t2, t3, t4, t5, t6, t7, t8, t9, t10, t11, t12, rfl, ⟨h1, h2, h3, h4⟩, ⟨h5, h6, h7, h8⟩, ⟨h9, h10, h11, h12⟩⟩
    repeat (walk_at "u")
    exact q
theorem ok_law (T : Txt K mg) {f : Addr} {fd : FuncData} (F : Fun K "law" "law" s_law f fd) : GOk P w K mg base 12 f fd ["script"] (spLaw K) :=
  fun A outer s H us vs Q E hg hr e0 hb r h => uk_law T F A outer s H us vs Q E hg hr e0 hb r (law_of_U h)
end

theorem kit_self {K : PySem.W.Frag} {C : Addr} : PySem.W.kitOne K (.ref C) (.ref C) = some true := if_pos (beq_self_eq_true _)
theorem kit_own {K : PySem.W.Frag} {C : Addr} {n : String} (ic : PySem.W.isClsIn K C = true) (ty : PySem.W.typeIn K (.ref C) = some (.type "type")) (nf : PySem.W.notFirst K C (.type n) = true) : PySem.W.kitOne K (.type n) (.ref C) = some false := by
  have ne : (Value.type n == Value.ref C) = false := by
    rw [beq_eq_false_iff_ne]
    exact fun h => nomatch h
  have e : PySem.W.subIn K (.type n) (.ref C) = some false := by
    rcases Bool.or_eq_true_iff.mp nf with h | h
    · rw [ne] at h
      cases h
    · exact beq_iff_eq.mp h
  have h1 : (PySem.W.clsIn K C).isSome = true := by
    unfold PySem.W.isClsIn at ic
    first | exact ic | (cases h : PySem.W.clsIn K C <;> simp_all)
  unfold PySem.W.kitOne PySem.W.kitCls
  rw [if_neg (by rw [ne]; exact Bool.false_ne_true)]
  show (if ((PySem.W.clsIn K C).isSome && PySem.W.typeIn K (.ref C) == some (.type "type")) = true then PySem.W.subIn K (.type n) (.ref C) else none) = some false
  rw [if_pos (by rw [h1, ty]; rfl)]
  exact e
theorem kit_sub {K : PySem.W.Frag} {C D : Addr} {b : Bool} (ic : PySem.W.isClsIn K D = true) (ty : PySem.W.typeIn K (.ref D) = some (.type "type")) (h : PySem.W.subIn K (.ref C) (.ref D) = some b) (hs : PySem.W.subIn K (.ref C) (.ref C) = some true) : PySem.W.kitOne K (.ref C) (.ref D) = some b := by
  by_cases e : C = D
  · subst e
    rw [hs] at h
    cases h
    exact kit_self
  · have ne : (Value.ref C == Value.ref D) = false := by
      rw [beq_eq_false_iff_ne]
      exact fun h => e (Value.ref.inj h)
    have h1 : (PySem.W.clsIn K D).isSome = true := by
      unfold PySem.W.isClsIn at ic
      first | exact ic | (cases h : PySem.W.clsIn K D <;> simp_all)
    unfold PySem.W.kitOne PySem.W.kitCls
    rw [if_neg (by rw [ne]; exact Bool.false_ne_true)]
    show (if ((PySem.W.clsIn K D).isSome && PySem.W.typeIn K (.ref D) == some (.type "type")) = true then PySem.W.subIn K (.ref C) (.ref D) else none) = some b
    rw [h1, ty]
    exact h
theorem kit_subT {K : PySem.W.Frag} {C : Addr} {n : String} {b : Bool} (m : PySem.W.kitMeta n = true) (h : PySem.W.subIn K (.ref C) (.type n) = some b) : PySem.W.kitOne K (.ref C) (.type n) = some b := by
  have ne : (Value.ref C == Value.type n) = false := by
    rw [beq_eq_false_iff_ne]
    exact fun h => nomatch h
  unfold PySem.W.kitOne PySem.W.kitCls
  rw [if_neg (by rw [ne]; exact Bool.false_ne_true)]
  show (if PySem.W.kitMeta n = true then PySem.W.subIn K (.ref C) (.type n) else none) = some b
  rw [if_pos m]
  exact h

theorem all_mk {l : PySem.W.OpenLaw} {w : World} {K : PySem.W.Frag} {h : Heap} {mg : Str → Option Value} {fa : Addr} (X : K.In h) (G : h.Ns mainGlobals mg) (hfa : mg "law" = some (.ref fa))
    {f_consists_of : Addr} {od0 an0 : Option Addr} {sl0 : Array (Option Value)} {oc0 kV0 dc0 pm0 cd0 ct0 : Value}
    {f_is_integer : Addr} {od1 an1 : Option Addr} {sl1 : Array (Option Value)} {oc1 kV1 dc1 pm1 cd1 ct1 : Value}
    {f_is_small_word : Addr} {od2 an2 : Option Addr} {sl2 : Array (Option Value)} {oc2 kV2 dc2 pm2 cd2 ct2 : Value}
    {f_is_class_name : Addr} {od3 an3 : Option Addr} {sl3 : Array (Option Value)} {oc3 kV3 dc3 pm3 cd3 ct3 : Value}
    {f_is_item : Addr} {od4 an4 : Option Addr} {sl4 : Array (Option Value)} {oc4 kV4 dc4 pm4 cd4 ct4 : Value}
    {f_is_raised : Addr} {od5 an5 : Option Addr} {sl5 : Array (Option Value)} {oc5 kV5 dc5 pm5 cd5 ct5 : Value}
    {f_is_answer : Addr} {od6 an6 : Option Addr} {sl6 : Array (Option Value)} {oc6 kV6 dc6 pm6 cd6 ct6 : Value}
    {f_weight : Addr} {od7 an7 : Option Addr} {sl7 : Array (Option Value)} {oc7 kV7 dc7 pm7 cd7 ct7 : Value}
    {f_total_weight : Addr} {od8 an8 : Option Addr} {sl8 : Array (Option Value)} {oc8 kV8 dc8 pm8 cd8 ct8 : Value}
    {f_copied : Addr} {od9 an9 : Option Addr} {sl9 : Array (Option Value)} {oc9 kV9 dc9 pm9 cd9 ct9 : Value}
    {f_is_name : Addr} {od10 an10 : Option Addr} {sl10 : Array (Option Value)} {oc10 kV10 dc10 pm10 cd10 ct10 : Value}
    {f_is_number_text : Addr} {od11 an11 : Option Addr} {sl11 : Array (Option Value)} {oc11 kV11 dc11 pm11 cd11 ct11 : Value}
    {f_is_string_text : Addr} {od12 an12 : Option Addr} {sl12 : Array (Option Value)} {oc12 kV12 dc12 pm12 cd12 ct12 : Value}
    {f_is_constant_text : Addr} {od13 an13 : Option Addr} {sl13 : Array (Option Value)} {oc13 kV13 dc13 pm13 cd13 ct13 : Value}
    {f_is_call : Addr} {od14 an14 : Option Addr} {sl14 : Array (Option Value)} {oc14 kV14 dc14 pm14 cd14 ct14 : Value}
    {f_is_path : Addr} {od15 an15 : Option Addr} {sl15 : Array (Option Value)} {oc15 dc15 pm15 cd15 ct15 : Value}
    {kd15 : Addr}
    {f_is_entry : Addr} {od16 an16 : Option Addr} {sl16 : Array (Option Value)} {oc16 kV16 dc16 pm16 cd16 ct16 : Value}
    {f_law_weight : Addr} {od17 an17 : Option Addr} {sl17 : Array (Option Value)} {oc17 kV17 dc17 pm17 cd17 ct17 : Value}
    {f_law_answer_at : Addr} {od18 an18 : Option Addr} {sl18 : Array (Option Value)} {oc18 kV18 dc18 pm18 cd18 ct18 : Value}
    {f_law_kept : Addr} {od19 an19 : Option Addr} {sl19 : Array (Option Value)} {oc19 kV19 dc19 pm19 cd19 ct19 : Value}
    {f_law_equal : Addr} {od20 an20 : Option Addr} {sl20 : Array (Option Value)} {oc20 kV20 dc20 pm20 cd20 ct20 : Value}
    {f_law_are_entries : Addr} {od21 an21 : Option Addr} {sl21 : Array (Option Value)} {oc21 kV21 dc21 pm21 cd21 ct21 : Value}
    {f_law_is_integer : Addr} {od22 an22 : Option Addr} {sl22 : Array (Option Value)} {oc22 kV22 dc22 pm22 cd22 ct22 : Value}
    {f_law_bag : Addr} {od23 an23 : Option Addr} {sl23 : Array (Option Value)} {oc23 kV23 dc23 pm23 cd23 ct23 : Value}
    {f_law_take : Addr} {od24 an24 : Option Addr} {sl24 : Array (Option Value)} {oc24 kV24 dc24 pm24 cd24 ct24 : Value}
    {f_law_of : Addr} {od25 an25 : Option Addr} {sl25 : Array (Option Value)} {oc25 kV25 dc25 pm25 cd25 ct25 : Value}
    {f_law_number : Addr} {od26 an26 : Option Addr} {sl26 : Array (Option Value)} {oc26 kV26 dc26 pm26 cd26 ct26 : Value}
    {f_law_written : Addr} {od27 an27 : Option Addr} {sl27 : Array (Option Value)} {oc27 kV27 dc27 pm27 cd27 ct27 : Value}
    {f_law_word : Addr} {od28 an28 : Option Addr} {sl28 : Array (Option Value)} {oc28 kV28 dc28 pm28 cd28 ct28 : Value}
    {f_law_name : Addr} {od29 an29 : Option Addr} {sl29 : Array (Option Value)} {oc29 kV29 dc29 pm29 cd29 ct29 : Value}
    {f_law_family : Addr} {od30 an30 : Option Addr} {sl30 : Array (Option Value)} {oc30 kV30 dc30 pm30 cd30 ct30 : Value}
    {f_law_core : Addr} {od31 an31 : Option Addr} {sl31 : Array (Option Value)} {oc31 kV31 dc31 pm31 cd31 ct31 : Value}
    {f_law_path : Addr} {od32 an32 : Option Addr} {sl32 : Array (Option Value)} {oc32 kV32 dc32 pm32 cd32 ct32 : Value}
    {f_law_near : Addr} {od33 an33 : Option Addr} {sl33 : Array (Option Value)} {oc33 kV33 dc33 pm33 cd33 ct33 : Value}
    {f_law_any_answer : Addr} {od34 an34 : Option Addr} {sl34 : Array (Option Value)} {oc34 kV34 dc34 pm34 cd34 ct34 : Value}
    {f_law_drawn_pairs : Addr} {od35 an35 : Option Addr} {sl35 : Array (Option Value)} {oc35 kV35 dc35 pm35 cd35 ct35 : Value}
    {f_law_any_constant : Addr} {od36 an36 : Option Addr} {sl36 : Array (Option Value)} {oc36 kV36 dc36 pm36 cd36 ct36 : Value}
    {f_law_call_text : Addr} {od37 an37 : Option Addr} {sl37 : Array (Option Value)} {oc37 kV37 dc37 pm37 cd37 ct37 : Value}
    {f_law_keywords : Addr} {od38 an38 : Option Addr} {sl38 : Array (Option Value)} {oc38 kV38 dc38 pm38 cd38 ct38 : Value}
    {f_law_any_name : Addr} {od39 an39 : Option Addr} {sl39 : Array (Option Value)} {oc39 kV39 dc39 pm39 cd39 ct39 : Value}
    {f_law_any_call : Addr} {od40 an40 : Option Addr} {sl40 : Array (Option Value)} {oc40 kV40 dc40 pm40 cd40 ct40 : Value}
    {f_law_some_texts : Addr} {od41 an41 : Option Addr} {sl41 : Array (Option Value)} {oc41 kV41 dc41 pm41 cd41 ct41 : Value}
    {f_law_copy : Addr} {od42 an42 : Option Addr} {sl42 : Array (Option Value)} {oc42 kV42 dc42 pm42 cd42 ct42 : Value}
    {f_law_is_right : Addr} {od43 an43 : Option Addr} {sl43 : Array (Option Value)} {oc43 kV43 dc43 pm43 cd43 ct43 : Value}
    {f_law : Addr} {od44 an44 : Option Addr} {sl44 : Array (Option Value)} {oc44 kV44 dc44 pm44 cd44 ct44 : Value}
    {C_Part : Addr}
    {f_Part___init__ : Addr} {od_Part___init__ an_Part___init__ : Option Addr} {sl_Part___init__ : Array (Option Value)} {oc_Part___init__ dc_Part___init__ pm_Part___init__ cd_Part___init__ ct_Part___init__ : Value}
    {kd_Part___init__ : Addr}
    {td_Part___init__ : Addr} {otd_Part___init__ : Option Addr} {ntd_Part___init__ : Nat} {std_Part___init__ : Array (Option Value)} {e_Part___init___0 : Addr}
    {ote_Part___init__ : Option Addr} {nte_Part___init__ : Nat} {ste_Part___init__ : Array (Option Value)}
    {f_Part_entries : Addr} {od_Part_entries an_Part_entries : Option Addr} {sl_Part_entries : Array (Option Value)} {oc_Part_entries kV_Part_entries dc_Part_entries pm_Part_entries cd_Part_entries ct_Part_entries : Value}
    {p_Part_entries : Addr} {rs_Part_entries : List Value}
    {f_Part_weight : Addr} {od_Part_weight an_Part_weight : Option Addr} {sl_Part_weight : Array (Option Value)} {oc_Part_weight kV_Part_weight dc_Part_weight pm_Part_weight cd_Part_weight ct_Part_weight : Value}
    {p_Part_weight : Addr} {rs_Part_weight : List Value}
    {f_Part___len__ : Addr} {od_Part___len__ an_Part___len__ : Option Addr} {sl_Part___len__ : Array (Option Value)} {oc_Part___len__ kV_Part___len__ dc_Part___len__ pm_Part___len__ cd_Part___len__ ct_Part___len__ : Value}
    {f_Part___eq__ : Addr} {od_Part___eq__ an_Part___eq__ : Option Addr} {sl_Part___eq__ : Array (Option Value)} {oc_Part___eq__ kV_Part___eq__ dc_Part___eq__ pm_Part___eq__ cd_Part___eq__ ct_Part___eq__ : Value}
    {C_BadPart I_BadPart N_BadPart B_BadPart_WhatpassesError : Addr} {nm_BadPart q_BadPart : Str} {bs_BadPart sub_BadPart : List Value} {sn_BadPart : List Str} {ab_BadPart : Bool} {col_BadPart : Option Bool} {dd_BadPart oi_BadPart an_BadPart : Option Addr} {osl_BadPart : Array (Option Value)} {m0_BadPart m1_BadPart m2_BadPart m3_BadPart m5_BadPart : Option Value} {oc_BadPart kV_BadPart dc_BadPart pm_BadPart cd_BadPart ct_BadPart : Value}
    {tc_SMALL_LETTERS : Tok}
    {tc_CAPITAL_LETTERS : Tok}
    {tc_DIGITS : Tok}
    {tc_MOST_CLASS_LETTERS : Tok}
    {tc_MOST_WORD_LETTERS : Tok}
    {a_KEYWORDS : Addr} {odc_KEYWORDS : Option Addr} {nc_KEYWORDS : Nat} {slc_KEYWORDS : Array (Option Value)} {tc_KEYWORDS_0 tc_KEYWORDS_1 tc_KEYWORDS_2 tc_KEYWORDS_3 tc_KEYWORDS_4 tc_KEYWORDS_5 tc_KEYWORDS_6 tc_KEYWORDS_7 tc_KEYWORDS_8 tc_KEYWORDS_9 tc_KEYWORDS_10 tc_KEYWORDS_11 tc_KEYWORDS_12 tc_KEYWORDS_13 tc_KEYWORDS_14 tc_KEYWORDS_15 tc_KEYWORDS_16 tc_KEYWORDS_17 tc_KEYWORDS_18 tc_KEYWORDS_19 tc_KEYWORDS_20 tc_KEYWORDS_21 tc_KEYWORDS_22 tc_KEYWORDS_23 tc_KEYWORDS_24 tc_KEYWORDS_25 tc_KEYWORDS_26 tc_KEYWORDS_27 tc_KEYWORDS_28 tc_KEYWORDS_29 tc_KEYWORDS_30 tc_KEYWORDS_31 tc_KEYWORDS_32 tc_KEYWORDS_33 : Tok}
    {tc_MOST_NAME_LETTERS : Tok}
    {tc_MOST_STRING_LETTERS : Tok}
    {tc_MOST_DIGITS : Tok}
    {tc_MOST_CONSTANTS : Tok}
    (a0 : PySem.W.nsIn K mainGlobals "consists_of" = some (some (.ref f_consists_of)))
    (l0 : K.lookup f_consists_of = some ⟨oc0, od0, .func (PySem.W.fnOf "consists_of" "consists_of" (defArgs s_consists_of) (defBody s_consists_of) (defScope s_consists_of) .none kV0 dc0 pm0 an0 cd0 ct0), sl0⟩)
    (c0 : PySem.W.codeIn K cd0 "consists_of" = true) (k0 : PySem.W.keepIn K (.ref f_consists_of) = true)
    (a1 : PySem.W.nsIn K mainGlobals "is_integer" = some (some (.ref f_is_integer)))
    (l1 : K.lookup f_is_integer = some ⟨oc1, od1, .func (PySem.W.fnOf "is_integer" "is_integer" (defArgs s_is_integer) (defBody s_is_integer) (defScope s_is_integer) .none kV1 dc1 pm1 an1 cd1 ct1), sl1⟩)
    (c1 : PySem.W.codeIn K cd1 "is_integer" = true) (k1 : PySem.W.keepIn K (.ref f_is_integer) = true)
    (a2 : PySem.W.nsIn K mainGlobals "is_small_word" = some (some (.ref f_is_small_word)))
    (l2 : K.lookup f_is_small_word = some ⟨oc2, od2, .func (PySem.W.fnOf "is_small_word" "is_small_word" (defArgs s_is_small_word) (defBody s_is_small_word) (defScope s_is_small_word) .none kV2 dc2 pm2 an2 cd2 ct2), sl2⟩)
    (c2 : PySem.W.codeIn K cd2 "is_small_word" = true) (k2 : PySem.W.keepIn K (.ref f_is_small_word) = true)
    (a3 : PySem.W.nsIn K mainGlobals "is_class_name" = some (some (.ref f_is_class_name)))
    (l3 : K.lookup f_is_class_name = some ⟨oc3, od3, .func (PySem.W.fnOf "is_class_name" "is_class_name" (defArgs s_is_class_name) (defBody s_is_class_name) (defScope s_is_class_name) .none kV3 dc3 pm3 an3 cd3 ct3), sl3⟩)
    (c3 : PySem.W.codeIn K cd3 "is_class_name" = true) (k3 : PySem.W.keepIn K (.ref f_is_class_name) = true)
    (a4 : PySem.W.nsIn K mainGlobals "is_item" = some (some (.ref f_is_item)))
    (l4 : K.lookup f_is_item = some ⟨oc4, od4, .func (PySem.W.fnOf "is_item" "is_item" (defArgs s_is_item) (defBody s_is_item) (defScope s_is_item) .none kV4 dc4 pm4 an4 cd4 ct4), sl4⟩)
    (c4 : PySem.W.codeIn K cd4 "is_item" = true) (k4 : PySem.W.keepIn K (.ref f_is_item) = true)
    (a5 : PySem.W.nsIn K mainGlobals "is_raised" = some (some (.ref f_is_raised)))
    (l5 : K.lookup f_is_raised = some ⟨oc5, od5, .func (PySem.W.fnOf "is_raised" "is_raised" (defArgs s_is_raised) (defBody s_is_raised) (defScope s_is_raised) .none kV5 dc5 pm5 an5 cd5 ct5), sl5⟩)
    (c5 : PySem.W.codeIn K cd5 "is_raised" = true) (k5 : PySem.W.keepIn K (.ref f_is_raised) = true)
    (a6 : PySem.W.nsIn K mainGlobals "is_answer" = some (some (.ref f_is_answer)))
    (l6 : K.lookup f_is_answer = some ⟨oc6, od6, .func (PySem.W.fnOf "is_answer" "is_answer" (defArgs s_is_answer) (defBody s_is_answer) (defScope s_is_answer) .none kV6 dc6 pm6 an6 cd6 ct6), sl6⟩)
    (c6 : PySem.W.codeIn K cd6 "is_answer" = true) (k6 : PySem.W.keepIn K (.ref f_is_answer) = true)
    (a7 : PySem.W.nsIn K mainGlobals "weight" = some (some (.ref f_weight)))
    (l7 : K.lookup f_weight = some ⟨oc7, od7, .func (PySem.W.fnOf "weight" "weight" (defArgs s_weight) (defBody s_weight) (defScope s_weight) .none kV7 dc7 pm7 an7 cd7 ct7), sl7⟩)
    (c7 : PySem.W.codeIn K cd7 "weight" = true) (k7 : PySem.W.keepIn K (.ref f_weight) = true)
    (a8 : PySem.W.nsIn K mainGlobals "total_weight" = some (some (.ref f_total_weight)))
    (l8 : K.lookup f_total_weight = some ⟨oc8, od8, .func (PySem.W.fnOf "total_weight" "total_weight" (defArgs s_total_weight) (defBody s_total_weight) (defScope s_total_weight) .none kV8 dc8 pm8 an8 cd8 ct8), sl8⟩)
    (c8 : PySem.W.codeIn K cd8 "total_weight" = true) (k8 : PySem.W.keepIn K (.ref f_total_weight) = true)
    (a9 : PySem.W.nsIn K mainGlobals "copied" = some (some (.ref f_copied)))
    (l9 : K.lookup f_copied = some ⟨oc9, od9, .func (PySem.W.fnOf "copied" "copied" (defArgs s_copied) (defBody s_copied) (defScope s_copied) .none kV9 dc9 pm9 an9 cd9 ct9), sl9⟩)
    (c9 : PySem.W.codeIn K cd9 "copied" = true) (k9 : PySem.W.keepIn K (.ref f_copied) = true)
    (a10 : PySem.W.nsIn K mainGlobals "is_name" = some (some (.ref f_is_name)))
    (l10 : K.lookup f_is_name = some ⟨oc10, od10, .func (PySem.W.fnOf "is_name" "is_name" (defArgs s_is_name) (defBody s_is_name) (defScope s_is_name) .none kV10 dc10 pm10 an10 cd10 ct10), sl10⟩)
    (c10 : PySem.W.codeIn K cd10 "is_name" = true) (k10 : PySem.W.keepIn K (.ref f_is_name) = true)
    (a11 : PySem.W.nsIn K mainGlobals "is_number_text" = some (some (.ref f_is_number_text)))
    (l11 : K.lookup f_is_number_text = some ⟨oc11, od11, .func (PySem.W.fnOf "is_number_text" "is_number_text" (defArgs s_is_number_text) (defBody s_is_number_text) (defScope s_is_number_text) .none kV11 dc11 pm11 an11 cd11 ct11), sl11⟩)
    (c11 : PySem.W.codeIn K cd11 "is_number_text" = true) (k11 : PySem.W.keepIn K (.ref f_is_number_text) = true)
    (a12 : PySem.W.nsIn K mainGlobals "is_string_text" = some (some (.ref f_is_string_text)))
    (l12 : K.lookup f_is_string_text = some ⟨oc12, od12, .func (PySem.W.fnOf "is_string_text" "is_string_text" (defArgs s_is_string_text) (defBody s_is_string_text) (defScope s_is_string_text) .none kV12 dc12 pm12 an12 cd12 ct12), sl12⟩)
    (c12 : PySem.W.codeIn K cd12 "is_string_text" = true) (k12 : PySem.W.keepIn K (.ref f_is_string_text) = true)
    (a13 : PySem.W.nsIn K mainGlobals "is_constant_text" = some (some (.ref f_is_constant_text)))
    (l13 : K.lookup f_is_constant_text = some ⟨oc13, od13, .func (PySem.W.fnOf "is_constant_text" "is_constant_text" (defArgs s_is_constant_text) (defBody s_is_constant_text) (defScope s_is_constant_text) .none kV13 dc13 pm13 an13 cd13 ct13), sl13⟩)
    (c13 : PySem.W.codeIn K cd13 "is_constant_text" = true) (k13 : PySem.W.keepIn K (.ref f_is_constant_text) = true)
    (a14 : PySem.W.nsIn K mainGlobals "is_call" = some (some (.ref f_is_call)))
    (l14 : K.lookup f_is_call = some ⟨oc14, od14, .func (PySem.W.fnOf "is_call" "is_call" (defArgs s_is_call) (defBody s_is_call) (defScope s_is_call) .none kV14 dc14 pm14 an14 cd14 ct14), sl14⟩)
    (c14 : PySem.W.codeIn K cd14 "is_call" = true) (k14 : PySem.W.keepIn K (.ref f_is_call) = true)
    (a15 : PySem.W.nsIn K mainGlobals "is_path" = some (some (.ref f_is_path)))
    (l15 : K.lookup f_is_path = some ⟨oc15, od15, .func (PySem.W.fnOf "is_path" "is_path" (defArgs s_is_path) (defBody s_is_path) (defScope s_is_path) .none (.ref kd15) dc15 pm15 an15 cd15 ct15), sl15⟩)
    (kx15 : PySem.W.nsIn K kd15 "ageing" = some (some (.bool false)))
    (c15 : PySem.W.codeIn K cd15 "is_path" = true) (k15 : PySem.W.keepIn K (.ref f_is_path) = true)
    (a16 : PySem.W.nsIn K mainGlobals "is_entry" = some (some (.ref f_is_entry)))
    (l16 : K.lookup f_is_entry = some ⟨oc16, od16, .func (PySem.W.fnOf "is_entry" "is_entry" (defArgs s_is_entry) (defBody s_is_entry) (defScope s_is_entry) .none kV16 dc16 pm16 an16 cd16 ct16), sl16⟩)
    (c16 : PySem.W.codeIn K cd16 "is_entry" = true) (k16 : PySem.W.keepIn K (.ref f_is_entry) = true)
    (a17 : PySem.W.nsIn K mainGlobals "_law_weight" = some (some (.ref f_law_weight)))
    (l17 : K.lookup f_law_weight = some ⟨oc17, od17, .func (PySem.W.fnOf "_law_weight" "_law_weight" (defArgs s_law_weight) (defBody s_law_weight) (defScope s_law_weight) .none kV17 dc17 pm17 an17 cd17 ct17), sl17⟩)
    (c17 : PySem.W.codeIn K cd17 "_law_weight" = true) (k17 : PySem.W.keepIn K (.ref f_law_weight) = true)
    (a18 : PySem.W.nsIn K mainGlobals "_law_answer_at" = some (some (.ref f_law_answer_at)))
    (l18 : K.lookup f_law_answer_at = some ⟨oc18, od18, .func (PySem.W.fnOf "_law_answer_at" "_law_answer_at" (defArgs s_law_answer_at) (defBody s_law_answer_at) (defScope s_law_answer_at) .none kV18 dc18 pm18 an18 cd18 ct18), sl18⟩)
    (c18 : PySem.W.codeIn K cd18 "_law_answer_at" = true) (k18 : PySem.W.keepIn K (.ref f_law_answer_at) = true)
    (a19 : PySem.W.nsIn K mainGlobals "_law_kept" = some (some (.ref f_law_kept)))
    (l19 : K.lookup f_law_kept = some ⟨oc19, od19, .func (PySem.W.fnOf "_law_kept" "_law_kept" (defArgs s_law_kept) (defBody s_law_kept) (defScope s_law_kept) .none kV19 dc19 pm19 an19 cd19 ct19), sl19⟩)
    (c19 : PySem.W.codeIn K cd19 "_law_kept" = true) (k19 : PySem.W.keepIn K (.ref f_law_kept) = true)
    (a20 : PySem.W.nsIn K mainGlobals "_law_equal" = some (some (.ref f_law_equal)))
    (l20 : K.lookup f_law_equal = some ⟨oc20, od20, .func (PySem.W.fnOf "_law_equal" "_law_equal" (defArgs s_law_equal) (defBody s_law_equal) (defScope s_law_equal) .none kV20 dc20 pm20 an20 cd20 ct20), sl20⟩)
    (c20 : PySem.W.codeIn K cd20 "_law_equal" = true) (k20 : PySem.W.keepIn K (.ref f_law_equal) = true)
    (a21 : PySem.W.nsIn K mainGlobals "_law_are_entries" = some (some (.ref f_law_are_entries)))
    (l21 : K.lookup f_law_are_entries = some ⟨oc21, od21, .func (PySem.W.fnOf "_law_are_entries" "_law_are_entries" (defArgs s_law_are_entries) (defBody s_law_are_entries) (defScope s_law_are_entries) .none kV21 dc21 pm21 an21 cd21 ct21), sl21⟩)
    (c21 : PySem.W.codeIn K cd21 "_law_are_entries" = true) (k21 : PySem.W.keepIn K (.ref f_law_are_entries) = true)
    (a22 : PySem.W.nsIn K mainGlobals "_law_is_integer" = some (some (.ref f_law_is_integer)))
    (l22 : K.lookup f_law_is_integer = some ⟨oc22, od22, .func (PySem.W.fnOf "_law_is_integer" "_law_is_integer" (defArgs s_law_is_integer) (defBody s_law_is_integer) (defScope s_law_is_integer) .none kV22 dc22 pm22 an22 cd22 ct22), sl22⟩)
    (c22 : PySem.W.codeIn K cd22 "_law_is_integer" = true) (k22 : PySem.W.keepIn K (.ref f_law_is_integer) = true)
    (a23 : PySem.W.nsIn K mainGlobals "_law_bag" = some (some (.ref f_law_bag)))
    (l23 : K.lookup f_law_bag = some ⟨oc23, od23, .func (PySem.W.fnOf "_law_bag" "_law_bag" (defArgs s_law_bag) (defBody s_law_bag) (defScope s_law_bag) .none kV23 dc23 pm23 an23 cd23 ct23), sl23⟩)
    (c23 : PySem.W.codeIn K cd23 "_law_bag" = true) (k23 : PySem.W.keepIn K (.ref f_law_bag) = true)
    (a24 : PySem.W.nsIn K mainGlobals "_law_take" = some (some (.ref f_law_take)))
    (l24 : K.lookup f_law_take = some ⟨oc24, od24, .func (PySem.W.fnOf "_law_take" "_law_take" (defArgs s_law_take) (defBody s_law_take) (defScope s_law_take) .none kV24 dc24 pm24 an24 cd24 ct24), sl24⟩)
    (c24 : PySem.W.codeIn K cd24 "_law_take" = true) (k24 : PySem.W.keepIn K (.ref f_law_take) = true)
    (a25 : PySem.W.nsIn K mainGlobals "_law_of" = some (some (.ref f_law_of)))
    (l25 : K.lookup f_law_of = some ⟨oc25, od25, .func (PySem.W.fnOf "_law_of" "_law_of" (defArgs s_law_of) (defBody s_law_of) (defScope s_law_of) .none kV25 dc25 pm25 an25 cd25 ct25), sl25⟩)
    (c25 : PySem.W.codeIn K cd25 "_law_of" = true) (k25 : PySem.W.keepIn K (.ref f_law_of) = true)
    (a26 : PySem.W.nsIn K mainGlobals "_law_number" = some (some (.ref f_law_number)))
    (l26 : K.lookup f_law_number = some ⟨oc26, od26, .func (PySem.W.fnOf "_law_number" "_law_number" (defArgs s_law_number) (defBody s_law_number) (defScope s_law_number) .none kV26 dc26 pm26 an26 cd26 ct26), sl26⟩)
    (c26 : PySem.W.codeIn K cd26 "_law_number" = true) (k26 : PySem.W.keepIn K (.ref f_law_number) = true)
    (a27 : PySem.W.nsIn K mainGlobals "_law_written" = some (some (.ref f_law_written)))
    (l27 : K.lookup f_law_written = some ⟨oc27, od27, .func (PySem.W.fnOf "_law_written" "_law_written" (defArgs s_law_written) (defBody s_law_written) (defScope s_law_written) .none kV27 dc27 pm27 an27 cd27 ct27), sl27⟩)
    (c27 : PySem.W.codeIn K cd27 "_law_written" = true) (k27 : PySem.W.keepIn K (.ref f_law_written) = true)
    (a28 : PySem.W.nsIn K mainGlobals "_law_word" = some (some (.ref f_law_word)))
    (l28 : K.lookup f_law_word = some ⟨oc28, od28, .func (PySem.W.fnOf "_law_word" "_law_word" (defArgs s_law_word) (defBody s_law_word) (defScope s_law_word) .none kV28 dc28 pm28 an28 cd28 ct28), sl28⟩)
    (c28 : PySem.W.codeIn K cd28 "_law_word" = true) (k28 : PySem.W.keepIn K (.ref f_law_word) = true)
    (a29 : PySem.W.nsIn K mainGlobals "_law_name" = some (some (.ref f_law_name)))
    (l29 : K.lookup f_law_name = some ⟨oc29, od29, .func (PySem.W.fnOf "_law_name" "_law_name" (defArgs s_law_name) (defBody s_law_name) (defScope s_law_name) .none kV29 dc29 pm29 an29 cd29 ct29), sl29⟩)
    (c29 : PySem.W.codeIn K cd29 "_law_name" = true) (k29 : PySem.W.keepIn K (.ref f_law_name) = true)
    (a30 : PySem.W.nsIn K mainGlobals "_law_family" = some (some (.ref f_law_family)))
    (l30 : K.lookup f_law_family = some ⟨oc30, od30, .func (PySem.W.fnOf "_law_family" "_law_family" (defArgs s_law_family) (defBody s_law_family) (defScope s_law_family) .none kV30 dc30 pm30 an30 cd30 ct30), sl30⟩)
    (c30 : PySem.W.codeIn K cd30 "_law_family" = true) (k30 : PySem.W.keepIn K (.ref f_law_family) = true)
    (a31 : PySem.W.nsIn K mainGlobals "_law_core" = some (some (.ref f_law_core)))
    (l31 : K.lookup f_law_core = some ⟨oc31, od31, .func (PySem.W.fnOf "_law_core" "_law_core" (defArgs s_law_core) (defBody s_law_core) (defScope s_law_core) .none kV31 dc31 pm31 an31 cd31 ct31), sl31⟩)
    (c31 : PySem.W.codeIn K cd31 "_law_core" = true) (k31 : PySem.W.keepIn K (.ref f_law_core) = true)
    (a32 : PySem.W.nsIn K mainGlobals "_law_path" = some (some (.ref f_law_path)))
    (l32 : K.lookup f_law_path = some ⟨oc32, od32, .func (PySem.W.fnOf "_law_path" "_law_path" (defArgs s_law_path) (defBody s_law_path) (defScope s_law_path) .none kV32 dc32 pm32 an32 cd32 ct32), sl32⟩)
    (c32 : PySem.W.codeIn K cd32 "_law_path" = true) (k32 : PySem.W.keepIn K (.ref f_law_path) = true)
    (a33 : PySem.W.nsIn K mainGlobals "_law_near" = some (some (.ref f_law_near)))
    (l33 : K.lookup f_law_near = some ⟨oc33, od33, .func (PySem.W.fnOf "_law_near" "_law_near" (defArgs s_law_near) (defBody s_law_near) (defScope s_law_near) .none kV33 dc33 pm33 an33 cd33 ct33), sl33⟩)
    (c33 : PySem.W.codeIn K cd33 "_law_near" = true) (k33 : PySem.W.keepIn K (.ref f_law_near) = true)
    (a34 : PySem.W.nsIn K mainGlobals "_law_any_answer" = some (some (.ref f_law_any_answer)))
    (l34 : K.lookup f_law_any_answer = some ⟨oc34, od34, .func (PySem.W.fnOf "_law_any_answer" "_law_any_answer" (defArgs s_law_any_answer) (defBody s_law_any_answer) (defScope s_law_any_answer) .none kV34 dc34 pm34 an34 cd34 ct34), sl34⟩)
    (c34 : PySem.W.codeIn K cd34 "_law_any_answer" = true) (k34 : PySem.W.keepIn K (.ref f_law_any_answer) = true)
    (a35 : PySem.W.nsIn K mainGlobals "_law_drawn_pairs" = some (some (.ref f_law_drawn_pairs)))
    (l35 : K.lookup f_law_drawn_pairs = some ⟨oc35, od35, .func (PySem.W.fnOf "_law_drawn_pairs" "_law_drawn_pairs" (defArgs s_law_drawn_pairs) (defBody s_law_drawn_pairs) (defScope s_law_drawn_pairs) .none kV35 dc35 pm35 an35 cd35 ct35), sl35⟩)
    (c35 : PySem.W.codeIn K cd35 "_law_drawn_pairs" = true) (k35 : PySem.W.keepIn K (.ref f_law_drawn_pairs) = true)
    (a36 : PySem.W.nsIn K mainGlobals "_law_any_constant" = some (some (.ref f_law_any_constant)))
    (l36 : K.lookup f_law_any_constant = some ⟨oc36, od36, .func (PySem.W.fnOf "_law_any_constant" "_law_any_constant" (defArgs s_law_any_constant) (defBody s_law_any_constant) (defScope s_law_any_constant) .none kV36 dc36 pm36 an36 cd36 ct36), sl36⟩)
    (c36 : PySem.W.codeIn K cd36 "_law_any_constant" = true) (k36 : PySem.W.keepIn K (.ref f_law_any_constant) = true)
    (a37 : PySem.W.nsIn K mainGlobals "_law_call_text" = some (some (.ref f_law_call_text)))
    (l37 : K.lookup f_law_call_text = some ⟨oc37, od37, .func (PySem.W.fnOf "_law_call_text" "_law_call_text" (defArgs s_law_call_text) (defBody s_law_call_text) (defScope s_law_call_text) .none kV37 dc37 pm37 an37 cd37 ct37), sl37⟩)
    (c37 : PySem.W.codeIn K cd37 "_law_call_text" = true) (k37 : PySem.W.keepIn K (.ref f_law_call_text) = true)
    (a38 : PySem.W.nsIn K mainGlobals "_law_keywords" = some (some (.ref f_law_keywords)))
    (l38 : K.lookup f_law_keywords = some ⟨oc38, od38, .func (PySem.W.fnOf "_law_keywords" "_law_keywords" (defArgs s_law_keywords) (defBody s_law_keywords) (defScope s_law_keywords) .none kV38 dc38 pm38 an38 cd38 ct38), sl38⟩)
    (c38 : PySem.W.codeIn K cd38 "_law_keywords" = true) (k38 : PySem.W.keepIn K (.ref f_law_keywords) = true)
    (a39 : PySem.W.nsIn K mainGlobals "_law_any_name" = some (some (.ref f_law_any_name)))
    (l39 : K.lookup f_law_any_name = some ⟨oc39, od39, .func (PySem.W.fnOf "_law_any_name" "_law_any_name" (defArgs s_law_any_name) (defBody s_law_any_name) (defScope s_law_any_name) .none kV39 dc39 pm39 an39 cd39 ct39), sl39⟩)
    (c39 : PySem.W.codeIn K cd39 "_law_any_name" = true) (k39 : PySem.W.keepIn K (.ref f_law_any_name) = true)
    (a40 : PySem.W.nsIn K mainGlobals "_law_any_call" = some (some (.ref f_law_any_call)))
    (l40 : K.lookup f_law_any_call = some ⟨oc40, od40, .func (PySem.W.fnOf "_law_any_call" "_law_any_call" (defArgs s_law_any_call) (defBody s_law_any_call) (defScope s_law_any_call) .none kV40 dc40 pm40 an40 cd40 ct40), sl40⟩)
    (c40 : PySem.W.codeIn K cd40 "_law_any_call" = true) (k40 : PySem.W.keepIn K (.ref f_law_any_call) = true)
    (a41 : PySem.W.nsIn K mainGlobals "_law_some_texts" = some (some (.ref f_law_some_texts)))
    (l41 : K.lookup f_law_some_texts = some ⟨oc41, od41, .func (PySem.W.fnOf "_law_some_texts" "_law_some_texts" (defArgs s_law_some_texts) (defBody s_law_some_texts) (defScope s_law_some_texts) .none kV41 dc41 pm41 an41 cd41 ct41), sl41⟩)
    (c41 : PySem.W.codeIn K cd41 "_law_some_texts" = true) (k41 : PySem.W.keepIn K (.ref f_law_some_texts) = true)
    (a42 : PySem.W.nsIn K mainGlobals "_law_copy" = some (some (.ref f_law_copy)))
    (l42 : K.lookup f_law_copy = some ⟨oc42, od42, .func (PySem.W.fnOf "_law_copy" "_law_copy" (defArgs s_law_copy) (defBody s_law_copy) (defScope s_law_copy) .none kV42 dc42 pm42 an42 cd42 ct42), sl42⟩)
    (c42 : PySem.W.codeIn K cd42 "_law_copy" = true) (k42 : PySem.W.keepIn K (.ref f_law_copy) = true)
    (a43 : PySem.W.nsIn K mainGlobals "_law_is_right" = some (some (.ref f_law_is_right)))
    (l43 : K.lookup f_law_is_right = some ⟨oc43, od43, .func (PySem.W.fnOf "_law_is_right" "_law_is_right" (defArgs s_law_is_right) (defBody s_law_is_right) (defScope s_law_is_right) .none kV43 dc43 pm43 an43 cd43 ct43), sl43⟩)
    (c43 : PySem.W.codeIn K cd43 "_law_is_right" = true) (k43 : PySem.W.keepIn K (.ref f_law_is_right) = true)
    (a44 : PySem.W.nsIn K mainGlobals "law" = some (some (.ref f_law)))
    (l44 : K.lookup f_law = some ⟨oc44, od44, .func (PySem.W.fnOf "law" "law" (defArgs s_law) (defBody s_law) (defScope s_law) .none kV44 dc44 pm44 an44 cd44 ct44), sl44⟩)
    (c44 : PySem.W.codeIn K cd44 "law" = true) (k44 : PySem.W.keepIn K (.ref f_law) = true)
    (h0_Part : PySem.W.nsIn K mainGlobals "Part" = some (some (.ref C_Part)))
    (h1_Part : PySem.W.plainGet K C_Part Str.empty = true)
    (h2_Part : PySem.W.hasDictIn K C_Part = true)
    (h3_Part : PySem.W.plainOver K C_Part = true)
    (h4_Part : PySem.W.findIn K (.ref C_Part) "__setattr__" = some (some (.builtin "object.__setattr__")))
    (h5_Part : PySem.W.typeIn K (.ref C_Part) = some (.type "type"))
    (h6_Part : PySem.W.readsIn K C_Part (.type "type") = true)
    (h7_Part : PySem.W.specialIn K (.ref C_Part) "__getattribute__" = some (some (.builtin "type.__getattribute__")))
    (h8_Part : PySem.W.findIn K (.ref C_Part) "__ne__" = some (some (.builtin "object.__ne__")))
    (h9_Part : PySem.W.mroIn K C_Part (.type "object") = some true)
    (i0_Part : PySem.W.findIn K (.ref C_Part) "__class__" = some (some (.builtin "object.__class__")))
    (i1_Part : PySem.W.specialIn K (.builtin "object.__class__") "__get__" = some (some (.builtin "getset_descriptor.__get__")))
    (i2_Part : PySem.W.takesIn K (.builtin "object.__class__") = some true)
    (i3_Part : PySem.W.isClsIn K C_Part = true)
    (i6_Part : PySem.W.notFirst K C_Part (.ref C_Part) = true)
    (i7_Part : PySem.W.notFirst K C_Part (.type "list") = true)
    (i8_Part : PySem.W.notFirst K C_Part (.type "tuple") = true)
    (j_Part_ageing : PySem.W.findIn K (.ref C_Part) "ageing" = some none)
    (j_Part__answers : PySem.W.findIn K (.ref C_Part) "_answers" = some none)
    (a_Part___init__ : PySem.W.findIn K (.ref C_Part) "__init__" = some (some (.ref f_Part___init__)))
    (l_Part___init__ : K.lookup f_Part___init__ = some ⟨oc_Part___init__, od_Part___init__, .func (PySem.W.fnOf "__init__" "Part.__init__" (defArgs s_Part___init__) (defBody s_Part___init__) (defScope s_Part___init__) (.ref td_Part___init__) (.ref kd_Part___init__) dc_Part___init__ pm_Part___init__ an_Part___init__ cd_Part___init__ ct_Part___init__), sl_Part___init__⟩)
    (t_Part___init__ : K.lookup td_Part___init__ = some ⟨.type "tuple", otd_Part___init__, .seq #[.ref e_Part___init___0] ntd_Part___init__, std_Part___init__⟩)
    (kx_Part___init___ageing : PySem.W.nsIn K kd_Part___init__ "ageing" = some (some (.bool false)))
    (c_Part___init__ : PySem.W.codeIn K cd_Part___init__ "Part.__init__" = true)
    (k_Part___init__ : PySem.W.keepIn K (.ref f_Part___init__) = true)
    (n_Part___init__ : PySem.W.isFn K (.ref f_Part___init__) = true)
    (te_Part___init__ : K.lookup e_Part___init___0 = some ⟨.type "tuple", ote_Part___init__, .seq #[] nte_Part___init__, ste_Part___init__⟩)
    (m1_Part___init__ : PySem.W.makesIn K C_Part = true)
    (m2_Part___init__ : PySem.W.keepIn K (.ref C_Part) = true)
    (a_Part_entries : PySem.W.findIn K (.ref C_Part) "entries" = some (some (.ref p_Part_entries)))
    (g_Part_entries : PySem.W.specialIn K (.ref p_Part_entries) "__get__" = some (some (.builtin "property.__get__")))
    (u_Part_entries : PySem.W.takesIn K (.ref p_Part_entries) = some true)
    (r_Part_entries : PySem.W.recIn K p_Part_entries "property" = some (.ref f_Part_entries :: rs_Part_entries))
    (l_Part_entries : K.lookup f_Part_entries = some ⟨oc_Part_entries, od_Part_entries, .func (PySem.W.fnOf "entries" "Part.entries" (defArgs s_Part_entries) (defBody s_Part_entries) (defScope s_Part_entries) .none kV_Part_entries dc_Part_entries pm_Part_entries an_Part_entries cd_Part_entries ct_Part_entries), sl_Part_entries⟩)
    (c_Part_entries : PySem.W.codeIn K cd_Part_entries "Part.entries" = true)
    (k_Part_entries : PySem.W.keepIn K (.ref f_Part_entries) = true)
    (n_Part_entries : PySem.W.isFn K (.ref f_Part_entries) = true)
    (a_Part_weight : PySem.W.findIn K (.ref C_Part) "weight" = some (some (.ref p_Part_weight)))
    (g_Part_weight : PySem.W.specialIn K (.ref p_Part_weight) "__get__" = some (some (.builtin "property.__get__")))
    (u_Part_weight : PySem.W.takesIn K (.ref p_Part_weight) = some true)
    (r_Part_weight : PySem.W.recIn K p_Part_weight "property" = some (.ref f_Part_weight :: rs_Part_weight))
    (l_Part_weight : K.lookup f_Part_weight = some ⟨oc_Part_weight, od_Part_weight, .func (PySem.W.fnOf "weight" "Part.weight" (defArgs s_Part_weight) (defBody s_Part_weight) (defScope s_Part_weight) .none kV_Part_weight dc_Part_weight pm_Part_weight an_Part_weight cd_Part_weight ct_Part_weight), sl_Part_weight⟩)
    (c_Part_weight : PySem.W.codeIn K cd_Part_weight "Part.weight" = true)
    (k_Part_weight : PySem.W.keepIn K (.ref f_Part_weight) = true)
    (n_Part_weight : PySem.W.isFn K (.ref f_Part_weight) = true)
    (a_Part___len__ : PySem.W.findIn K (.ref C_Part) "__len__" = some (some (.ref f_Part___len__)))
    (l_Part___len__ : K.lookup f_Part___len__ = some ⟨oc_Part___len__, od_Part___len__, .func (PySem.W.fnOf "__len__" "Part.__len__" (defArgs s_Part___len__) (defBody s_Part___len__) (defScope s_Part___len__) .none kV_Part___len__ dc_Part___len__ pm_Part___len__ an_Part___len__ cd_Part___len__ ct_Part___len__), sl_Part___len__⟩)
    (c_Part___len__ : PySem.W.codeIn K cd_Part___len__ "Part.__len__" = true)
    (k_Part___len__ : PySem.W.keepIn K (.ref f_Part___len__) = true)
    (n_Part___len__ : PySem.W.isFn K (.ref f_Part___len__) = true)
    (a_Part___eq__ : PySem.W.findIn K (.ref C_Part) "__eq__" = some (some (.ref f_Part___eq__)))
    (l_Part___eq__ : K.lookup f_Part___eq__ = some ⟨oc_Part___eq__, od_Part___eq__, .func (PySem.W.fnOf "__eq__" "Part.__eq__" (defArgs s_Part___eq__) (defBody s_Part___eq__) (defScope s_Part___eq__) .none kV_Part___eq__ dc_Part___eq__ pm_Part___eq__ an_Part___eq__ cd_Part___eq__ ct_Part___eq__), sl_Part___eq__⟩)
    (c_Part___eq__ : PySem.W.codeIn K cd_Part___eq__ "Part.__eq__" = true)
    (k_Part___eq__ : PySem.W.keepIn K (.ref f_Part___eq__) = true)
    (n_Part___eq__ : PySem.W.isFn K (.ref f_Part___eq__) = true)
    (e1_BadPart : PySem.W.nsIn K mainGlobals "BadPart" = some (some (.ref C_BadPart)))
    (e2_BadPart : K.lookup C_BadPart = some (excClassObj nm_BadPart q_BadPart C_BadPart N_BadPart bs_BadPart [.ref B_BadPart_WhatpassesError, .type "ValueError", .type "Exception", .type "BaseException", .type "object"] true sn_BadPart sub_BadPart ab_BadPart col_BadPart dd_BadPart m0_BadPart m1_BadPart m2_BadPart m3_BadPart m5_BadPart "ValueError.__new__"))
    (e3_BadPart : PySem.W.findIn K (.ref C_BadPart) "__setattr__" = some (some (.builtin "object.__setattr__")))
    (e4_BadPart : PySem.W.findIn K (.ref C_BadPart) "__getattribute__" = some (some (.builtin "BaseException.__getattribute__")))
    (e5_BadPart : PySem.W.findIn K (.ref C_BadPart) "__getattr__" = some none)
    (e6_BadPart : PySem.W.findIn K (.ref C_BadPart) "at" = some none)
    (e7_BadPart : PySem.W.findIn K (.ref C_BadPart) "__init__" = some (some (.ref I_BadPart)))
    (e8_BadPart : PySem.W.typeIn K (.ref I_BadPart) = some (.type "function"))
    (e9_BadPart : K.lookup I_BadPart = some ⟨oc_BadPart, oi_BadPart, .func (PySem.W.fnOf "__init__" "BadPart.__init__" (defArgs si_BadPart) (defBody si_BadPart) (defScope si_BadPart) .none kV_BadPart dc_BadPart pm_BadPart an_BadPart cd_BadPart ct_BadPart), osl_BadPart⟩)
    (e10_BadPart : PySem.W.codeIn K cd_BadPart "BadPart.__init__" = true)
    (e11_BadPart : PySem.W.keepIn K (.ref I_BadPart) = true)
    (e12_BadPart : PySem.W.keepIn K (.ref C_BadPart) = true)
    (e13_BadPart : PySem.W.subIn K (.ref C_BadPart) (.type "BaseException") = some true)
    (e14_BadPart : PySem.W.typeIn K (.ref C_BadPart) = some (.type "type"))
    (e15_BadPart : PySem.W.hasDictIn K C_BadPart = true)
    (e16_BadPart : PySem.W.isClsIn K C_BadPart = true)
    (e17_BadPart : PySem.W.subIn K (.ref C_BadPart) (.ref C_BadPart) = some true)
    (z_abs : PySem.W.nsIn K mainGlobals "abs" = some none)
    (z_all : PySem.W.nsIn K mainGlobals "all" = some none)
    (z_bool : PySem.W.nsIn K mainGlobals "bool" = some none)
    (z_enumerate : PySem.W.nsIn K mainGlobals "enumerate" = some none)
    (z_int : PySem.W.nsIn K mainGlobals "int" = some none)
    (z_isinstance : PySem.W.nsIn K mainGlobals "isinstance" = some none)
    (z_len : PySem.W.nsIn K mainGlobals "len" = some none)
    (z_list : PySem.W.nsIn K mainGlobals "list" = some none)
    (z_max : PySem.W.nsIn K mainGlobals "max" = some none)
    (z_min : PySem.W.nsIn K mainGlobals "min" = some none)
    (z_range : PySem.W.nsIn K mainGlobals "range" = some none)
    (z_repr : PySem.W.nsIn K mainGlobals "repr" = some none)
    (z_sorted : PySem.W.nsIn K mainGlobals "sorted" = some none)
    (z_str : PySem.W.nsIn K mainGlobals "str" = some none)
    (z_sum : PySem.W.nsIn K mainGlobals "sum" = some none)
    (z_tuple : PySem.W.nsIn K mainGlobals "tuple" = some none)
    (y_SMALL_LETTERS : PySem.W.nsIn K mainGlobals "SMALL_LETTERS" = some (some (.str "abcdefghijklmnopqrstuvwxyz" tc_SMALL_LETTERS)))
    (y_CAPITAL_LETTERS : PySem.W.nsIn K mainGlobals "CAPITAL_LETTERS" = some (some (.str "ABCDEFGHIJKLMNOPQRSTUVWXYZ" tc_CAPITAL_LETTERS)))
    (y_DIGITS : PySem.W.nsIn K mainGlobals "DIGITS" = some (some (.str "0123456789" tc_DIGITS)))
    (y_MOST_CLASS_LETTERS : PySem.W.nsIn K mainGlobals "MOST_CLASS_LETTERS" = some (some (.int 12 tc_MOST_CLASS_LETTERS)))
    (y_MOST_WORD_LETTERS : PySem.W.nsIn K mainGlobals "MOST_WORD_LETTERS" = some (some (.int 30 tc_MOST_WORD_LETTERS)))
    (y_KEYWORDS : PySem.W.nsIn K mainGlobals "KEYWORDS" = some (some (.ref a_KEYWORDS)))
    (u_KEYWORDS : K.lookup a_KEYWORDS = some ⟨.type "tuple", odc_KEYWORDS, .seq #[.str "and" tc_KEYWORDS_0, .str "assert" tc_KEYWORDS_1, .str "assume" tc_KEYWORDS_2, .str "break" tc_KEYWORDS_3, .str "call" tc_KEYWORDS_4, .str "clear" tc_KEYWORDS_5, .str "continue" tc_KEYWORDS_6, .str "else" tc_KEYWORDS_7, .str "end" tc_KEYWORDS_8, .str "error" tc_KEYWORDS_9, .str "except" tc_KEYWORDS_10, .str "fail" tc_KEYWORDS_11, .str "for" tc_KEYWORDS_12, .str "from" tc_KEYWORDS_13, .str "if" tc_KEYWORDS_14, .str "in" tc_KEYWORDS_15, .str "is" tc_KEYWORDS_16, .str "len" tc_KEYWORDS_17, .str "let" tc_KEYWORDS_18, .str "list" tc_KEYWORDS_19, .str "none" tc_KEYWORDS_20, .str "not" tc_KEYWORDS_21, .str "number" tc_KEYWORDS_22, .str "on" tc_KEYWORDS_23, .str "or" tc_KEYWORDS_24, .str "pass" tc_KEYWORDS_25, .str "raises" tc_KEYWORDS_26, .str "return" tc_KEYWORDS_27, .str "set" tc_KEYWORDS_28, .str "skip" tc_KEYWORDS_29, .str "test" tc_KEYWORDS_30, .str "try" tc_KEYWORDS_31, .str "under" tc_KEYWORDS_32, .str "word" tc_KEYWORDS_33] nc_KEYWORDS, slc_KEYWORDS⟩)
    (y_MOST_NAME_LETTERS : PySem.W.nsIn K mainGlobals "MOST_NAME_LETTERS" = some (some (.int 12 tc_MOST_NAME_LETTERS)))
    (y_MOST_STRING_LETTERS : PySem.W.nsIn K mainGlobals "MOST_STRING_LETTERS" = some (some (.int 8 tc_MOST_STRING_LETTERS)))
    (y_MOST_DIGITS : PySem.W.nsIn K mainGlobals "MOST_DIGITS" = some (some (.int 30 tc_MOST_DIGITS)))
    (y_MOST_CONSTANTS : PySem.W.nsIn K mainGlobals "MOST_CONSTANTS" = some (some (.int 3 tc_MOST_CONSTANTS))) :
    ∃ fd : FuncData, (∀ (s : Shared) (v : Value), BindsTo s fd ⟨[v], []⟩ [("script", v)]) ∧ ∀ base : Heap, K.In base → base.Ns mainGlobals mg → GOk l.prog w K mg base 12 fa fd ["script"] (spLaw K) := by
  have e := hfa.symm.trans (PySem.W.mg_of X G a44)
  cases e
  have F0 := fun_mk (st := s_consists_of) l0 c0 k0
  have b0 := F0.binds (ps := ["text", "characters"]) fun _ _ _ _ _ _ us hl => match us, hl with | [_, _], _ => rfl
  have F1 := fun_mk (st := s_is_integer) l1 c1 k1
  have b1 := F1.binds (ps := ["thing"]) fun _ _ _ _ _ _ us hl => match us, hl with | [_], _ => rfl
  have F2 := fun_mk (st := s_is_small_word) l2 c2 k2
  have b2 := F2.binds (ps := ["thing", "most"]) fun _ _ _ _ _ _ us hl => match us, hl with | [_, _], _ => rfl
  have F3 := fun_mk (st := s_is_class_name) l3 c3 k3
  have b3 := F3.binds (ps := ["thing"]) fun _ _ _ _ _ _ us hl => match us, hl with | [_], _ => rfl
  have F4 := fun_mk (st := s_is_item) l4 c4 k4
  have b4 := F4.binds (ps := ["thing"]) fun _ _ _ _ _ _ us hl => match us, hl with | [_], _ => rfl
  have F5 := fun_mk (st := s_is_raised) l5 c5 k5
  have b5 := F5.binds (ps := ["thing"]) fun _ _ _ _ _ _ us hl => match us, hl with | [_], _ => rfl
  have F6 := fun_mk (st := s_is_answer) l6 c6 k6
  have b6 := F6.binds (ps := ["thing"]) fun _ _ _ _ _ _ us hl => match us, hl with | [_], _ => rfl
  have F7 := fun_mk (st := s_weight) l7 c7 k7
  have b7 := F7.binds (ps := ["answer"]) fun _ _ _ _ _ _ us hl => match us, hl with | [_], _ => rfl
  have F8 := fun_mk (st := s_total_weight) l8 c8 k8
  have b8 := F8.binds (ps := ["answers"]) fun _ _ _ _ _ _ us hl => match us, hl with | [_], _ => rfl
  have F9 := fun_mk (st := s_copied) l9 c9 k9
  have b9 := F9.binds (ps := ["answer"]) fun _ _ _ _ _ _ us hl => match us, hl with | [_], _ => rfl
  have F10 := fun_mk (st := s_is_name) l10 c10 k10
  have b10 := F10.binds (ps := ["thing"]) fun _ _ _ _ _ _ us hl => match us, hl with | [_], _ => rfl
  have F11 := fun_mk (st := s_is_number_text) l11 c11 k11
  have b11 := F11.binds (ps := ["text"]) fun _ _ _ _ _ _ us hl => match us, hl with | [_], _ => rfl
  have F12 := fun_mk (st := s_is_string_text) l12 c12 k12
  have b12 := F12.binds (ps := ["text"]) fun _ _ _ _ _ _ us hl => match us, hl with | [_], _ => rfl
  have F13 := fun_mk (st := s_is_constant_text) l13 c13 k13
  have b13 := F13.binds (ps := ["text"]) fun _ _ _ _ _ _ us hl => match us, hl with | [_], _ => rfl
  have F14 := fun_mk (st := s_is_call) l14 c14 k14
  have b14 := F14.binds (ps := ["thing"]) fun _ _ _ _ _ _ us hl => match us, hl with | [_], _ => rfl
  have F15 := fun_mk (st := s_is_path) l15 c15 k15
  have FD15 : FunD K "is_path" "is_path" (defArgs s_is_path) (defBody s_is_path) (defScope s_is_path) [] [("ageing", V.bl false)] _ _ := ⟨⟨_, _, _, _, _, _, _, _, _, _, rfl, l15, c15, .inl ⟨rfl, rfl⟩, .inr ⟨_, rfl, fun q hq => by rw [List.mem_singleton.mp hq]; exact ⟨_, kx15, rfl⟩⟩⟩, k15⟩
  have bd15 := FD15.binds0 (ps := ["thing", "ageing"]) 1 (by simp) rfl fun D doc pm an cdv ct us ks hl hk => match us, ks, hl, hk with | [_], [_], _, _ => ⟨_, _, _, _, _, _, rfl, rfl, rfl⟩
  have bk15 : KBn K _ ["thing", "ageing"] 1 ["ageing"] (fun us ws => us ++ ws) (fun vs zs => vs ++ zs) := ⟨fun s us ws _ hl hw => match us, ws, hl, hw with | [_], [_], _, _ => BindsTo.of_eq (fd := PySem.W.fnOf "is_path" "is_path" (defArgs s_is_path) (defBody s_is_path) (defScope s_is_path) .none (.ref kd15) dc15 pm15 an15 cd15 ct15) rfl, fun r z => r.append z⟩
  have bz15 : KBn K _ ["thing", "ageing"] 0 ["thing", "ageing"] (fun us ws => us ++ ws) (fun vs zs => vs ++ zs) := ⟨fun s us ws _ hl hw => match us, ws, hl, hw with | [], [_, _], _, _ => BindsTo.of_eq (fd := PySem.W.fnOf "is_path" "is_path" (defArgs s_is_path) (defBody s_is_path) (defScope s_is_path) .none (.ref kd15) dc15 pm15 an15 cd15 ct15) rfl, fun r z => r.append z⟩
  have F16 := fun_mk (st := s_is_entry) l16 c16 k16
  have b16 := F16.binds (ps := ["thing", "ageing"]) fun _ _ _ _ _ _ us hl => match us, hl with | [_, _], _ => rfl
  have F17 := fun_mk (st := s_law_weight) l17 c17 k17
  have b17 := F17.binds (ps := ["answer"]) fun _ _ _ _ _ _ us hl => match us, hl with | [_], _ => rfl
  have F18 := fun_mk (st := s_law_answer_at) l18 c18 k18
  have b18 := F18.binds (ps := ["pairs", "path"]) fun _ _ _ _ _ _ us hl => match us, hl with | [_, _], _ => rfl
  have F19 := fun_mk (st := s_law_kept) l19 c19 k19
  have b19 := F19.binds (ps := ["pairs"]) fun _ _ _ _ _ _ us hl => match us, hl with | [_], _ => rfl
  have F20 := fun_mk (st := s_law_equal) l20 c20 k20
  have b20 := F20.binds (ps := ["one", "other"]) fun _ _ _ _ _ _ us hl => match us, hl with | [_, _], _ => rfl
  have F21 := fun_mk (st := s_law_are_entries) l21 c21 k21
  have b21 := F21.binds (ps := ["told", "pairs"]) fun _ _ _ _ _ _ us hl => match us, hl with | [_, _], _ => rfl
  have F22 := fun_mk (st := s_law_is_integer) l22 c22 k22
  have b22 := F22.binds (ps := ["thing"]) fun _ _ _ _ _ _ us hl => match us, hl with | [_], _ => rfl
  have F23 := fun_mk (st := s_law_bag) l23 c23 k23
  have b23 := F23.binds (ps := ["script", "at"]) fun _ _ _ _ _ _ us hl => match us, hl with | [_, _], _ => rfl
  have F24 := fun_mk (st := s_law_take) l24 c24 k24
  have b24 := F24.binds (ps := ["bag", "many"]) fun _ _ _ _ _ _ us hl => match us, hl with | [_, _], _ => rfl
  have F25 := fun_mk (st := s_law_of) l25 c25 k25
  have b25 := F25.binds (ps := ["bag", "some"]) fun _ _ _ _ _ _ us hl => match us, hl with | [_, _], _ => rfl
  have F26 := fun_mk (st := s_law_number) l26 c26 k26
  have b26 := F26.binds (ps := ["bag", "near"]) fun _ _ _ _ _ _ us hl => match us, hl with | [_, _], _ => rfl
  have F27 := fun_mk (st := s_law_written) l27 c27 k27
  have b27 := F27.binds (ps := ["value"]) fun _ _ _ _ _ _ us hl => match us, hl with | [_], _ => rfl
  have F28 := fun_mk (st := s_law_word) l28 c28 k28
  have b28 := F28.binds (ps := ["bag", "most"]) fun _ _ _ _ _ _ us hl => match us, hl with | [_, _], _ => rfl
  have F29 := fun_mk (st := s_law_name) l29 c29 k29
  have b29 := F29.binds (ps := ["bag"]) fun _ _ _ _ _ _ us hl => match us, hl with | [_], _ => rfl
  have F30 := fun_mk (st := s_law_family) l30 c30 k30
  have b30 := F30.binds (ps := ["bag", "most"]) fun _ _ _ _ _ _ us hl => match us, hl with | [_, _], _ => rfl
  have F31 := fun_mk (st := s_law_core) l31 c31 k31
  have b31 := F31.binds (ps := ["bag", "calls", "flags", "classes"]) fun _ _ _ _ _ _ us hl => match us, hl with | [_, _, _, _], _ => rfl
  have F32 := fun_mk (st := s_law_path) l32 c32 k32
  have b32 := F32.binds (ps := ["bag", "texts", "aged"]) fun _ _ _ _ _ _ us hl => match us, hl with | [_, _, _], _ => rfl
  have F33 := fun_mk (st := s_law_near) l33 c33 k33
  have b33 := F33.binds (ps := ["bag", "kit"]) fun _ _ _ _ _ _ us hl => match us, hl with | [_, _], _ => rfl
  have F34 := fun_mk (st := s_law_any_answer) l34 c34 k34
  have b34 := F34.binds (ps := ["bag", "kit"]) fun _ _ _ _ _ _ us hl => match us, hl with | [_, _], _ => rfl
  have F35 := fun_mk (st := s_law_drawn_pairs) l35 c35 k35
  have b35 := F35.binds (ps := ["bag", "kit", "texts", "aged", "many"]) fun _ _ _ _ _ _ us hl => match us, hl with | [_, _, _, _, _], _ => rfl
  have F36 := fun_mk (st := s_law_any_constant) l36 c36 k36
  have b36 := F36.binds (ps := ["bag"]) fun _ _ _ _ _ _ us hl => match us, hl with | [_], _ => rfl
  have F37 := fun_mk (st := s_law_call_text) l37 c37 k37
  have b37 := F37.binds (ps := ["name", "values"]) fun _ _ _ _ _ _ us hl => match us, hl with | [_, _], _ => rfl
  have F38 := fun_mk (st := s_law_keywords) l38 c38 k38
  have b38 := F38.binds (ps := []) fun _ _ _ _ _ _ us hl => match us, hl with | [], _ => rfl
  have F39 := fun_mk (st := s_law_any_name) l39 c39 k39
  have b39 := F39.binds (ps := ["bag"]) fun _ _ _ _ _ _ us hl => match us, hl with | [_], _ => rfl
  have F40 := fun_mk (st := s_law_any_call) l40 c40 k40
  have b40 := F40.binds (ps := ["bag"]) fun _ _ _ _ _ _ us hl => match us, hl with | [_], _ => rfl
  have F41 := fun_mk (st := s_law_some_texts) l41 c41 k41
  have b41 := F41.binds (ps := ["bag", "many"]) fun _ _ _ _ _ _ us hl => match us, hl with | [_, _], _ => rfl
  have F42 := fun_mk (st := s_law_copy) l42 c42 k42
  have b42 := F42.binds (ps := ["pairs"]) fun _ _ _ _ _ _ us hl => match us, hl with | [_], _ => rfl
  have F43 := fun_mk (st := s_law_is_right) l43 c43 k43
  have b43 := F43.binds (ps := ["part", "due", "aged"]) fun _ _ _ _ _ _ us hl => match us, hl with | [_, _, _], _ => rfl
  have F44 := fun_mk (st := s_law) l44 c44 k44
  have b44 := F44.binds (ps := ["script"]) fun _ _ _ _ _ _ us hl => match us, hl with | [_], _ => rfl
  have F_Part___init__ : FunD K "__init__" "Part.__init__" (defArgs s_Part___init__) (defBody s_Part___init__) (defScope s_Part___init__) [V.ref e_Part___init___0] [("ageing", V.bl false)] _ _ := ⟨⟨_, _, _, _, _, _, _, _, _, _, rfl, l_Part___init__, c_Part___init__, .inr ⟨by simp, _, _, _, _, rfl, t_Part___init__, rfl, .cons rfl .nil⟩, .inr ⟨_, rfl, fun q hq => by rw [List.mem_singleton.mp hq]; exact ⟨_, kx_Part___init___ageing, rfl⟩⟩⟩, k_Part___init__⟩
  have bk_Part___init__ : KBn K _ ["self", "entries", "ageing"] 2 ["ageing"] (fun us ws => us ++ ws) (fun vs zs => vs ++ zs) := (F_Part___init__.kbindsD 2 ["ageing"] (fun a _ c => a ++ c) (by simp) (fun r1 _ r3 => r1.append r3) fun T kV doc pm an cdv ct us its ws hl hi hw => match us, its, ws, hl, hi, hw with | [_, _], [_], [_], _, _, _ => ⟨_, rfl, rfl⟩).choose_spec
  have bp_Part___init__ := F_Part___init__.binds (ps := ["self", "entries", "ageing"]) 2 1 (by simp) rfl (fun T D doc pm an cdv ct us its ks hl hi hk => match us, its, ks, hl, hi, hk with | [_, _], [_], [_], _, _, _ => ⟨_, rfl, _, _, _, _, _, _, rfl, rfl, rfl⟩) (by simp)
  have bz_Part___init__ := F_Part___init__.binds (ps := ["self", "entries", "ageing"]) 1 0 (by simp) rfl (fun T D doc pm an cdv ct us its ks hl hi hk => match us, its, ks, hl, hi, hk with | [_], [_], [_], _, _, _ => ⟨_, rfl, _, _, _, _, _, _, rfl, rfl, rfl⟩) (by simp)
  have F_Part_entries := fun_mk (st := s_Part_entries) l_Part_entries c_Part_entries k_Part_entries
  have b_Part_entries := F_Part_entries.binds (ps := ["self"]) fun _ _ _ _ _ _ us hl => match us, hl with | [_], _ => rfl
  have F_Part_weight := fun_mk (st := s_Part_weight) l_Part_weight c_Part_weight k_Part_weight
  have b_Part_weight := F_Part_weight.binds (ps := ["self"]) fun _ _ _ _ _ _ us hl => match us, hl with | [_], _ => rfl
  have F_Part___len__ := fun_mk (st := s_Part___len__) l_Part___len__ c_Part___len__ k_Part___len__
  have b_Part___len__ := F_Part___len__.binds (ps := ["self"]) fun _ _ _ _ _ _ us hl => match us, hl with | [_], _ => rfl
  have F_Part___eq__ := fun_mk (st := s_Part___eq__) l_Part___eq__ c_Part___eq__ k_Part___eq__
  have b_Part___eq__ := F_Part___eq__.binds (ps := ["self", "other"]) fun _ _ _ _ _ _ us hl => match us, hl with | [_, _], _ => rfl
  have EF_BadPart := fun_mk (st := si_BadPart) e9_BadPart e10_BadPart e11_BadPart
  have Eb_BadPart := EF_BadPart.binds (ps := ["self", "at"]) fun _ _ _ _ _ _ us hl => match us, hl with | [_, _], _ => rfl
  have EE_BadPart : ErrC K mg "BadPart" "at" C_BadPart I_BadPart := ⟨PySem.W.mg_of X G e1_BadPart, ⟨⟨_, _, _, _, _, _, _, _, _, _, _, _, _, _, _, e2_BadPart, by first | rfl | decide +kernel⟩, e3_BadPart, e13_BadPart, e14_BadPart, e12_BadPart⟩, e7_BadPart, e8_BadPart, ⟨e4_BadPart, e5_BadPart, e13_BadPart, e15_BadPart⟩, e6_BadPart, PySem.W.exm_ref e13_BadPart e15_BadPart e14_BadPart e17_BadPart⟩
  have T : Txt K mg := {
    f_consists_of := f_consists_of, fd_consists_of := _, F_consists_of := F0, b_consists_of := b0, g_consists_of := PySem.W.mg_of X G a0,
    f_is_integer := f_is_integer, fd_is_integer := _, F_is_integer := F1, b_is_integer := b1, g_is_integer := PySem.W.mg_of X G a1,
    f_is_small_word := f_is_small_word, fd_is_small_word := _, F_is_small_word := F2, b_is_small_word := b2, g_is_small_word := PySem.W.mg_of X G a2,
    f_is_class_name := f_is_class_name, fd_is_class_name := _, F_is_class_name := F3, b_is_class_name := b3, g_is_class_name := PySem.W.mg_of X G a3,
    f_is_item := f_is_item, fd_is_item := _, F_is_item := F4, b_is_item := b4, g_is_item := PySem.W.mg_of X G a4,
    f_is_raised := f_is_raised, fd_is_raised := _, F_is_raised := F5, b_is_raised := b5, g_is_raised := PySem.W.mg_of X G a5,
    f_is_answer := f_is_answer, fd_is_answer := _, F_is_answer := F6, b_is_answer := b6, g_is_answer := PySem.W.mg_of X G a6,
    f_weight := f_weight, fd_weight := _, F_weight := F7, b_weight := b7, g_weight := PySem.W.mg_of X G a7,
    f_total_weight := f_total_weight, fd_total_weight := _, F_total_weight := F8, b_total_weight := b8, g_total_weight := PySem.W.mg_of X G a8,
    f_copied := f_copied, fd_copied := _, F_copied := F9, b_copied := b9, g_copied := PySem.W.mg_of X G a9,
    f_is_name := f_is_name, fd_is_name := _, F_is_name := F10, b_is_name := b10, g_is_name := PySem.W.mg_of X G a10,
    f_is_number_text := f_is_number_text, fd_is_number_text := _, F_is_number_text := F11, b_is_number_text := b11, g_is_number_text := PySem.W.mg_of X G a11,
    f_is_string_text := f_is_string_text, fd_is_string_text := _, F_is_string_text := F12, b_is_string_text := b12, g_is_string_text := PySem.W.mg_of X G a12,
    f_is_constant_text := f_is_constant_text, fd_is_constant_text := _, F_is_constant_text := F13, b_is_constant_text := b13, g_is_constant_text := PySem.W.mg_of X G a13,
    f_is_call := f_is_call, fd_is_call := _, F_is_call := F14, b_is_call := b14, g_is_call := PySem.W.mg_of X G a14,
    f_is_path := f_is_path, fd_is_path := _, F_is_path := F15, bd_is_path := bd15, bk_is_path := bk15, b0_is_path := bz15, g_is_path := PySem.W.mg_of X G a15,
    f_is_entry := f_is_entry, fd_is_entry := _, F_is_entry := F16, b_is_entry := b16, g_is_entry := PySem.W.mg_of X G a16,
    f_law_weight := f_law_weight, fd_law_weight := _, F_law_weight := F17, b_law_weight := b17, g_law_weight := PySem.W.mg_of X G a17,
    f_law_answer_at := f_law_answer_at, fd_law_answer_at := _, F_law_answer_at := F18, b_law_answer_at := b18, g_law_answer_at := PySem.W.mg_of X G a18,
    f_law_kept := f_law_kept, fd_law_kept := _, F_law_kept := F19, b_law_kept := b19, g_law_kept := PySem.W.mg_of X G a19,
    f_law_equal := f_law_equal, fd_law_equal := _, F_law_equal := F20, b_law_equal := b20, g_law_equal := PySem.W.mg_of X G a20,
    f_law_are_entries := f_law_are_entries, fd_law_are_entries := _, F_law_are_entries := F21, b_law_are_entries := b21, g_law_are_entries := PySem.W.mg_of X G a21,
    f_law_is_integer := f_law_is_integer, fd_law_is_integer := _, F_law_is_integer := F22, b_law_is_integer := b22, g_law_is_integer := PySem.W.mg_of X G a22,
    f_law_bag := f_law_bag, fd_law_bag := _, F_law_bag := F23, b_law_bag := b23, g_law_bag := PySem.W.mg_of X G a23,
    f_law_take := f_law_take, fd_law_take := _, F_law_take := F24, b_law_take := b24, g_law_take := PySem.W.mg_of X G a24,
    f_law_of := f_law_of, fd_law_of := _, F_law_of := F25, b_law_of := b25, g_law_of := PySem.W.mg_of X G a25,
    f_law_number := f_law_number, fd_law_number := _, F_law_number := F26, b_law_number := b26, g_law_number := PySem.W.mg_of X G a26,
    f_law_written := f_law_written, fd_law_written := _, F_law_written := F27, b_law_written := b27, g_law_written := PySem.W.mg_of X G a27,
    f_law_word := f_law_word, fd_law_word := _, F_law_word := F28, b_law_word := b28, g_law_word := PySem.W.mg_of X G a28,
    f_law_name := f_law_name, fd_law_name := _, F_law_name := F29, b_law_name := b29, g_law_name := PySem.W.mg_of X G a29,
    f_law_family := f_law_family, fd_law_family := _, F_law_family := F30, b_law_family := b30, g_law_family := PySem.W.mg_of X G a30,
    f_law_core := f_law_core, fd_law_core := _, F_law_core := F31, b_law_core := b31, g_law_core := PySem.W.mg_of X G a31,
    f_law_path := f_law_path, fd_law_path := _, F_law_path := F32, b_law_path := b32, g_law_path := PySem.W.mg_of X G a32,
    f_law_near := f_law_near, fd_law_near := _, F_law_near := F33, b_law_near := b33, g_law_near := PySem.W.mg_of X G a33,
    f_law_any_answer := f_law_any_answer, fd_law_any_answer := _, F_law_any_answer := F34, b_law_any_answer := b34, g_law_any_answer := PySem.W.mg_of X G a34,
    f_law_drawn_pairs := f_law_drawn_pairs, fd_law_drawn_pairs := _, F_law_drawn_pairs := F35, b_law_drawn_pairs := b35, g_law_drawn_pairs := PySem.W.mg_of X G a35,
    f_law_any_constant := f_law_any_constant, fd_law_any_constant := _, F_law_any_constant := F36, b_law_any_constant := b36, g_law_any_constant := PySem.W.mg_of X G a36,
    f_law_call_text := f_law_call_text, fd_law_call_text := _, F_law_call_text := F37, b_law_call_text := b37, g_law_call_text := PySem.W.mg_of X G a37,
    f_law_keywords := f_law_keywords, fd_law_keywords := _, F_law_keywords := F38, b_law_keywords := b38, g_law_keywords := PySem.W.mg_of X G a38,
    f_law_any_name := f_law_any_name, fd_law_any_name := _, F_law_any_name := F39, b_law_any_name := b39, g_law_any_name := PySem.W.mg_of X G a39,
    f_law_any_call := f_law_any_call, fd_law_any_call := _, F_law_any_call := F40, b_law_any_call := b40, g_law_any_call := PySem.W.mg_of X G a40,
    f_law_some_texts := f_law_some_texts, fd_law_some_texts := _, F_law_some_texts := F41, b_law_some_texts := b41, g_law_some_texts := PySem.W.mg_of X G a41,
    f_law_copy := f_law_copy, fd_law_copy := _, F_law_copy := F42, b_law_copy := b42, g_law_copy := PySem.W.mg_of X G a42,
    f_law_is_right := f_law_is_right, fd_law_is_right := _, F_law_is_right := F43, b_law_is_right := b43, g_law_is_right := PySem.W.mg_of X G a43,
    C_Part := C_Part, gC_Part := PySem.W.mg_of X G h0_Part, cl_Part := ⟨h1_Part, h2_Part, h3_Part, h4_Part⟩, tp_Part := ⟨h5_Part, ⟨h6_Part, h7_Part⟩, h8_Part, h9_Part, i0_Part, i1_Part, i2_Part, kit_self, kit_own i3_Part h5_Part i7_Part, kit_own i3_Part h5_Part i8_Part, i6_Part, i7_Part, i8_Part⟩,
    nA_Part_ageing := j_Part_ageing,
    nA_Part__answers := j_Part__answers,
    e_Part___init___0 := e_Part___init___0,
    f_Part___init__ := f_Part___init__, fd_Part___init__ := _, F_Part___init__ := F_Part___init__, n_Part___init__ := n_Part___init__,
    bk_Part___init__ := bk_Part___init__, bp_Part___init__ := bp_Part___init__,
    bz_Part___init__ := bz_Part___init__, q_Part___init___0 := fun H => .inr ⟨_, _, _, te_Part___init__, rfl, rfl, Nat.le_trans (Nat.le_of_eq (show _ = 0 from rfl)) (by decide), .nil⟩,
    mk_Part := ⟨m1_Part___init__, a_Part___init__, n_Part___init__, m2_Part___init__⟩,
    f_Part_entries := f_Part_entries, fd_Part_entries := _, F_Part_entries := F_Part_entries, b_Part_entries := b_Part_entries, n_Part_entries := n_Part_entries,
    p_Part_entries := p_Part_entries, pr_Part_entries := ⟨a_Part_entries, g_Part_entries, u_Part_entries, _, r_Part_entries⟩,
    f_Part_weight := f_Part_weight, fd_Part_weight := _, F_Part_weight := F_Part_weight, b_Part_weight := b_Part_weight, n_Part_weight := n_Part_weight,
    p_Part_weight := p_Part_weight, pr_Part_weight := ⟨a_Part_weight, g_Part_weight, u_Part_weight, _, r_Part_weight⟩,
    f_Part___len__ := f_Part___len__, fd_Part___len__ := _, F_Part___len__ := F_Part___len__, b_Part___len__ := b_Part___len__, n_Part___len__ := n_Part___len__,
    o_Part___len__ := a_Part___len__,
    f_Part___eq__ := f_Part___eq__, fd_Part___eq__ := _, F_Part___eq__ := F_Part___eq__, b_Part___eq__ := b_Part___eq__, n_Part___eq__ := n_Part___eq__,
    o_Part___eq__ := a_Part___eq__,
    cC_BadPart := C_BadPart, cI_BadPart := I_BadPart, cfd_BadPart := _, cF_BadPart := EF_BadPart, cb_BadPart := Eb_BadPart, cE_BadPart := EE_BadPart,
    m_abs := PySem.W.mg_none_of X G z_abs, m_all := PySem.W.mg_none_of X G z_all, m_bool := PySem.W.mg_none_of X G z_bool, m_enumerate := PySem.W.mg_none_of X G z_enumerate, m_int := PySem.W.mg_none_of X G z_int, m_isinstance := PySem.W.mg_none_of X G z_isinstance, m_len := PySem.W.mg_none_of X G z_len, m_list := PySem.W.mg_none_of X G z_list, m_max := PySem.W.mg_none_of X G z_max, m_min := PySem.W.mg_none_of X G z_min, m_range := PySem.W.mg_none_of X G z_range, m_repr := PySem.W.mg_none_of X G z_repr, m_sorted := PySem.W.mg_none_of X G z_sorted, m_str := PySem.W.mg_none_of X G z_str, m_sum := PySem.W.mg_none_of X G z_sum, m_tuple := PySem.W.mg_none_of X G z_tuple, c_SMALL_LETTERS := ⟨_, PySem.W.mg_of X G y_SMALL_LETTERS⟩, c_CAPITAL_LETTERS := ⟨_, PySem.W.mg_of X G y_CAPITAL_LETTERS⟩, c_DIGITS := ⟨_, PySem.W.mg_of X G y_DIGITS⟩, c_MOST_CLASS_LETTERS := ⟨_, PySem.W.mg_of X G y_MOST_CLASS_LETTERS⟩, c_MOST_WORD_LETTERS := ⟨_, PySem.W.mg_of X G y_MOST_WORD_LETTERS⟩, c_MOST_NAME_LETTERS := ⟨_, PySem.W.mg_of X G y_MOST_NAME_LETTERS⟩, c_MOST_STRING_LETTERS := ⟨_, PySem.W.mg_of X G y_MOST_STRING_LETTERS⟩, c_MOST_DIGITS := ⟨_, PySem.W.mg_of X G y_MOST_DIGITS⟩, c_MOST_CONSTANTS := ⟨_, PySem.W.mg_of X G y_MOST_CONSTANTS⟩, a_KEYWORDS := a_KEYWORDS, c_KEYWORDS := PySem.W.mg_of X G y_KEYWORDS, q_KEYWORDS := fun H => .inr ⟨_, _, _, u_KEYWORDS, rfl, rfl, Nat.le_trans (Nat.le_of_eq (show _ = 34 from rfl)) (by decide), (.cons ⟨_, rfl⟩ (.cons ⟨_, rfl⟩ (.cons ⟨_, rfl⟩ (.cons ⟨_, rfl⟩ (.cons ⟨_, rfl⟩ (.cons ⟨_, rfl⟩ (.cons ⟨_, rfl⟩ (.cons ⟨_, rfl⟩ (.cons ⟨_, rfl⟩ (.cons ⟨_, rfl⟩ (.cons ⟨_, rfl⟩ (.cons ⟨_, rfl⟩ (.cons ⟨_, rfl⟩ (.cons ⟨_, rfl⟩ (.cons ⟨_, rfl⟩ (.cons ⟨_, rfl⟩ (.cons ⟨_, rfl⟩ (.cons ⟨_, rfl⟩ (.cons ⟨_, rfl⟩ (.cons ⟨_, rfl⟩ (.cons ⟨_, rfl⟩ (.cons ⟨_, rfl⟩ (.cons ⟨_, rfl⟩ (.cons ⟨_, rfl⟩ (.cons ⟨_, rfl⟩ (.cons ⟨_, rfl⟩ (.cons ⟨_, rfl⟩ (.cons ⟨_, rfl⟩ (.cons ⟨_, rfl⟩ (.cons ⟨_, rfl⟩ (.cons ⟨_, rfl⟩ (.cons ⟨_, rfl⟩ (.cons ⟨_, rfl⟩ (.cons ⟨_, rfl⟩ (.nil)))))))))))))))))))))))))))))))))))⟩
  }
  exact ⟨PySem.W.fnOf "law" "law" (defArgs s_law) (defBody s_law) (defScope s_law) .none kV44 dc44 pm44 an44 cd44 ct44, fun s v => .of_eq rfl, fun base _ _ => ok_law T F44⟩
end Lw
open PySem PySem.W PyProof.Rows in
set_option maxRecDepth 100000 in
set_option maxHeartbeats 0 in
theorem PySem.Challenge.cw_whatpasses_k34_parts_made_holds : PySem.Challenge.rw_whatpasses_k34_parts_made.Holds := by
  w_on; o_law; k_head; (case hw => w_witness2)
  k_fill
  refine Lw.walk_top (l := PySem.Challenge.rw_whatpasses_k34_parts_made) (n := 63) (k := 12) (x := "script") (sp := fun w => Lw.spLaw _) rfl (by decide) rfl ⟨rfl, by decide, by decide⟩ (fun w h Y => PySem.W.kIn_of Y) ?F (fun _ _ a ns hl hb _ hS => ⟨a, ns, rfl, hS, hl, hb, fun _ => rfl⟩)
  case F =>
    intro w mg fa h KX G hmg
    refine' Lw.all_mk KX G hmg ?a0 ?l0 ?c0 ?k0 ?a1 ?l1 ?c1 ?k1 ?a2 ?l2 ?c2 ?k2 ?a3 ?l3 ?c3 ?k3 ?a4 ?l4 ?c4 ?k4 ?a5 ?l5 ?c5 ?k5 ?a6 ?l6 ?c6 ?k6 ?a7 ?l7 ?c7 ?k7 ?a8 ?l8 ?c8 ?k8 ?a9 ?l9 ?c9 ?k9 ?a10 ?l10 ?c10 ?k10 ?a11 ?l11 ?c11 ?k11 ?a12 ?l12 ?c12 ?k12 ?a13 ?l13 ?c13 ?k13 ?a14 ?l14 ?c14 ?k14 ?a15 ?l15 ?kx15 ?c15 ?k15 ?a16 ?l16 ?c16 ?k16 ?a17 ?l17 ?c17 ?k17 ?a18 ?l18 ?c18 ?k18 ?a19 ?l19 ?c19 ?k19 ?a20 ?l20 ?c20 ?k20 ?a21 ?l21 ?c21 ?k21 ?a22 ?l22 ?c22 ?k22 ?a23 ?l23 ?c23 ?k23 ?a24 ?l24 ?c24 ?k24 ?a25 ?l25 ?c25 ?k25 ?a26 ?l26 ?c26 ?k26 ?a27 ?l27 ?c27 ?k27 ?a28 ?l28 ?c28 ?k28 ?a29 ?l29 ?c29 ?k29 ?a30 ?l30 ?c30 ?k30 ?a31 ?l31 ?c31 ?k31 ?a32 ?l32 ?c32 ?k32 ?a33 ?l33 ?c33 ?k33 ?a34 ?l34 ?c34 ?k34 ?a35 ?l35 ?c35 ?k35 ?a36 ?l36 ?c36 ?k36 ?a37 ?l37 ?c37 ?k37 ?a38 ?l38 ?c38 ?k38 ?a39 ?l39 ?c39 ?k39 ?a40 ?l40 ?c40 ?k40 ?a41 ?l41 ?c41 ?k41 ?a42 ?l42 ?c42 ?k42 ?a43 ?l43 ?c43 ?k43 ?a44 ?l44 ?c44 ?k44 ?h0_Part ?h1_Part ?h2_Part ?h3_Part ?h4_Part ?h5_Part ?h6_Part ?h7_Part ?h8_Part ?h9_Part ?i0_Part ?i1_Part ?i2_Part ?i3_Part ?i6_Part ?i7_Part ?i8_Part ?j_Part_ageing ?j_Part__answers ?a_Part___init__ ?l_Part___init__ ?t_Part___init__ ?kx_Part___init___ageing ?c_Part___init__ ?k_Part___init__ ?n_Part___init__ ?te_Part___init__ ?m1_Part___init__ ?m2_Part___init__ ?a_Part_entries ?g_Part_entries ?u_Part_entries ?r_Part_entries ?l_Part_entries ?c_Part_entries ?k_Part_entries ?n_Part_entries ?a_Part_weight ?g_Part_weight ?u_Part_weight ?r_Part_weight ?l_Part_weight ?c_Part_weight ?k_Part_weight ?n_Part_weight ?a_Part___len__ ?l_Part___len__ ?c_Part___len__ ?k_Part___len__ ?n_Part___len__ ?a_Part___eq__ ?l_Part___eq__ ?c_Part___eq__ ?k_Part___eq__ ?n_Part___eq__ ?e1_BadPart ?e2_BadPart ?e3_BadPart ?e4_BadPart ?e5_BadPart ?e6_BadPart ?e7_BadPart ?e8_BadPart ?e9_BadPart ?e10_BadPart ?e11_BadPart ?e12_BadPart ?e13_BadPart ?e14_BadPart ?e15_BadPart ?e16_BadPart ?e17_BadPart ?z_abs ?z_all ?z_bool ?z_enumerate ?z_int ?z_isinstance ?z_len ?z_list ?z_max ?z_min ?z_range ?z_repr ?z_sorted ?z_str ?z_sum ?z_tuple ?y_SMALL_LETTERS ?y_CAPITAL_LETTERS ?y_DIGITS ?y_MOST_CLASS_LETTERS ?y_MOST_WORD_LETTERS ?y_KEYWORDS ?u_KEYWORDS ?y_MOST_NAME_LETTERS ?y_MOST_STRING_LETTERS ?y_MOST_DIGITS ?y_MOST_CONSTANTS
    (case a0 => first | k_is | kx_is | k_exc)
    (case l0 => first | k_is | kx_is | k_exc)
    (case c0 => first | k_is | kx_is | k_exc)
    (case k0 => first | k_is | kx_is | k_exc)
    (case a1 => first | k_is | kx_is | k_exc)
    (case l1 => first | k_is | kx_is | k_exc)
    (case c1 => first | k_is | kx_is | k_exc)
    (case k1 => first | k_is | kx_is | k_exc)
    (case a2 => first | k_is | kx_is | k_exc)
    (case l2 => first | k_is | kx_is | k_exc)
    (case c2 => first | k_is | kx_is | k_exc)
    (case k2 => first | k_is | kx_is | k_exc)
    (case a3 => first | k_is | kx_is | k_exc)
    (case l3 => first | k_is | kx_is | k_exc)
    (case c3 => first | k_is | kx_is | k_exc)
    (case k3 => first | k_is | kx_is | k_exc)
    (case a4 => first | k_is | kx_is | k_exc)
    (case l4 => first | k_is | kx_is | k_exc)
    (case c4 => first | k_is | kx_is | k_exc)
    (case k4 => first | k_is | kx_is | k_exc)
    (case a5 => first | k_is | kx_is | k_exc)
    (case l5 => first | k_is | kx_is | k_exc)
    (case c5 => first | k_is | kx_is | k_exc)
    (case k5 => first | k_is | kx_is | k_exc)
    (case a6 => first | k_is | kx_is | k_exc)
    (case l6 => first | k_is | kx_is | k_exc)
    (case c6 => first | k_is | kx_is | k_exc)
    (case k6 => first | k_is | kx_is | k_exc)
    (case a7 => first | k_is | kx_is | k_exc)
    (case l7 => first | k_is | kx_is | k_exc)
    (case c7 => first | k_is | kx_is | k_exc)
    (case k7 => first | k_is | kx_is | k_exc)
    (case a8 => first | k_is | kx_is | k_exc)
    (case l8 => first | k_is | kx_is | k_exc)
    (case c8 => first | k_is | kx_is | k_exc)
    (case k8 => first | k_is | kx_is | k_exc)
    (case a9 => first | k_is | kx_is | k_exc)
    (case l9 => first | k_is | kx_is | k_exc)
    (case c9 => first | k_is | kx_is | k_exc)
    (case k9 => first | k_is | kx_is | k_exc)
    (case a10 => first | k_is | kx_is | k_exc)
    (case l10 => first | k_is | kx_is | k_exc)
    (case c10 => first | k_is | kx_is | k_exc)
    (case k10 => first | k_is | kx_is | k_exc)
    (case a11 => first | k_is | kx_is | k_exc)
    (case l11 => first | k_is | kx_is | k_exc)
    (case c11 => first | k_is | kx_is | k_exc)
    (case k11 => first | k_is | kx_is | k_exc)
    (case a12 => first | k_is | kx_is | k_exc)
    (case l12 => first | k_is | kx_is | k_exc)
    (case c12 => first | k_is | kx_is | k_exc)
    (case k12 => first | k_is | kx_is | k_exc)
    (case a13 => first | k_is | kx_is | k_exc)
    (case l13 => first | k_is | kx_is | k_exc)
    (case c13 => first | k_is | kx_is | k_exc)
    (case k13 => first | k_is | kx_is | k_exc)
    (case a14 => first | k_is | kx_is | k_exc)
    (case l14 => first | k_is | kx_is | k_exc)
    (case c14 => first | k_is | kx_is | k_exc)
    (case k14 => first | k_is | kx_is | k_exc)
    (case a15 => first | k_is | kx_is | k_exc)
    (case l15 => first | k_is | kx_is | k_exc)
    (case kx15 => first | k_is | kx_is | k_exc)
    (case c15 => first | k_is | kx_is | k_exc)
    (case k15 => first | k_is | kx_is | k_exc)
    (case a16 => first | k_is | kx_is | k_exc)
    (case l16 => first | k_is | kx_is | k_exc)
    (case c16 => first | k_is | kx_is | k_exc)
    (case k16 => first | k_is | kx_is | k_exc)
    (case a17 => first | k_is | kx_is | k_exc)
    (case l17 => first | k_is | kx_is | k_exc)
    (case c17 => first | k_is | kx_is | k_exc)
    (case k17 => first | k_is | kx_is | k_exc)
    (case a18 => first | k_is | kx_is | k_exc)
    (case l18 => first | k_is | kx_is | k_exc)
    (case c18 => first | k_is | kx_is | k_exc)
    (case k18 => first | k_is | kx_is | k_exc)
    (case a19 => first | k_is | kx_is | k_exc)
    (case l19 => first | k_is | kx_is | k_exc)
    (case c19 => first | k_is | kx_is | k_exc)
    (case k19 => first | k_is | kx_is | k_exc)
    (case a20 => first | k_is | kx_is | k_exc)
    (case l20 => first | k_is | kx_is | k_exc)
    (case c20 => first | k_is | kx_is | k_exc)
    (case k20 => first | k_is | kx_is | k_exc)
    (case a21 => first | k_is | kx_is | k_exc)
    (case l21 => first | k_is | kx_is | k_exc)
    (case c21 => first | k_is | kx_is | k_exc)
    (case k21 => first | k_is | kx_is | k_exc)
    (case a22 => first | k_is | kx_is | k_exc)
    (case l22 => first | k_is | kx_is | k_exc)
    (case c22 => first | k_is | kx_is | k_exc)
    (case k22 => first | k_is | kx_is | k_exc)
    (case a23 => first | k_is | kx_is | k_exc)
    (case l23 => first | k_is | kx_is | k_exc)
    (case c23 => first | k_is | kx_is | k_exc)
    (case k23 => first | k_is | kx_is | k_exc)
    (case a24 => first | k_is | kx_is | k_exc)
    (case l24 => first | k_is | kx_is | k_exc)
    (case c24 => first | k_is | kx_is | k_exc)
    (case k24 => first | k_is | kx_is | k_exc)
    (case a25 => first | k_is | kx_is | k_exc)
    (case l25 => first | k_is | kx_is | k_exc)
    (case c25 => first | k_is | kx_is | k_exc)
    (case k25 => first | k_is | kx_is | k_exc)
    (case a26 => first | k_is | kx_is | k_exc)
    (case l26 => first | k_is | kx_is | k_exc)
    (case c26 => first | k_is | kx_is | k_exc)
    (case k26 => first | k_is | kx_is | k_exc)
    (case a27 => first | k_is | kx_is | k_exc)
    (case l27 => first | k_is | kx_is | k_exc)
    (case c27 => first | k_is | kx_is | k_exc)
    (case k27 => first | k_is | kx_is | k_exc)
    (case a28 => first | k_is | kx_is | k_exc)
    (case l28 => first | k_is | kx_is | k_exc)
    (case c28 => first | k_is | kx_is | k_exc)
    (case k28 => first | k_is | kx_is | k_exc)
    (case a29 => first | k_is | kx_is | k_exc)
    (case l29 => first | k_is | kx_is | k_exc)
    (case c29 => first | k_is | kx_is | k_exc)
    (case k29 => first | k_is | kx_is | k_exc)
    (case a30 => first | k_is | kx_is | k_exc)
    (case l30 => first | k_is | kx_is | k_exc)
    (case c30 => first | k_is | kx_is | k_exc)
    (case k30 => first | k_is | kx_is | k_exc)
    (case a31 => first | k_is | kx_is | k_exc)
    (case l31 => first | k_is | kx_is | k_exc)
    (case c31 => first | k_is | kx_is | k_exc)
    (case k31 => first | k_is | kx_is | k_exc)
    (case a32 => first | k_is | kx_is | k_exc)
    (case l32 => first | k_is | kx_is | k_exc)
    (case c32 => first | k_is | kx_is | k_exc)
    (case k32 => first | k_is | kx_is | k_exc)
    (case a33 => first | k_is | kx_is | k_exc)
    (case l33 => first | k_is | kx_is | k_exc)
    (case c33 => first | k_is | kx_is | k_exc)
    (case k33 => first | k_is | kx_is | k_exc)
    (case a34 => first | k_is | kx_is | k_exc)
    (case l34 => first | k_is | kx_is | k_exc)
    (case c34 => first | k_is | kx_is | k_exc)
    (case k34 => first | k_is | kx_is | k_exc)
    (case a35 => first | k_is | kx_is | k_exc)
    (case l35 => first | k_is | kx_is | k_exc)
    (case c35 => first | k_is | kx_is | k_exc)
    (case k35 => first | k_is | kx_is | k_exc)
    (case a36 => first | k_is | kx_is | k_exc)
    (case l36 => first | k_is | kx_is | k_exc)
    (case c36 => first | k_is | kx_is | k_exc)
    (case k36 => first | k_is | kx_is | k_exc)
    (case a37 => first | k_is | kx_is | k_exc)
    (case l37 => first | k_is | kx_is | k_exc)
    (case c37 => first | k_is | kx_is | k_exc)
    (case k37 => first | k_is | kx_is | k_exc)
    (case a38 => first | k_is | kx_is | k_exc)
    (case l38 => first | k_is | kx_is | k_exc)
    (case c38 => first | k_is | kx_is | k_exc)
    (case k38 => first | k_is | kx_is | k_exc)
    (case a39 => first | k_is | kx_is | k_exc)
    (case l39 => first | k_is | kx_is | k_exc)
    (case c39 => first | k_is | kx_is | k_exc)
    (case k39 => first | k_is | kx_is | k_exc)
    (case a40 => first | k_is | kx_is | k_exc)
    (case l40 => first | k_is | kx_is | k_exc)
    (case c40 => first | k_is | kx_is | k_exc)
    (case k40 => first | k_is | kx_is | k_exc)
    (case a41 => first | k_is | kx_is | k_exc)
    (case l41 => first | k_is | kx_is | k_exc)
    (case c41 => first | k_is | kx_is | k_exc)
    (case k41 => first | k_is | kx_is | k_exc)
    (case a42 => first | k_is | kx_is | k_exc)
    (case l42 => first | k_is | kx_is | k_exc)
    (case c42 => first | k_is | kx_is | k_exc)
    (case k42 => first | k_is | kx_is | k_exc)
    (case a43 => first | k_is | kx_is | k_exc)
    (case l43 => first | k_is | kx_is | k_exc)
    (case c43 => first | k_is | kx_is | k_exc)
    (case k43 => first | k_is | kx_is | k_exc)
    (case a44 => first | k_is | kx_is | k_exc)
    (case l44 => first | k_is | kx_is | k_exc)
    (case c44 => first | k_is | kx_is | k_exc)
    (case k44 => first | k_is | kx_is | k_exc)
    (case h0_Part => first | k_is | kx_is | k_exc)
    (case h1_Part => first | k_is | kx_is | k_exc)
    (case h2_Part => first | k_is | kx_is | k_exc)
    (case h3_Part => first | k_is | kx_is | k_exc)
    (case h4_Part => first | k_is | kx_is | k_exc)
    (case h5_Part => first | k_is | kx_is | k_exc)
    (case h6_Part => first | k_is | kx_is | k_exc)
    (case h7_Part => first | k_is | kx_is | k_exc)
    (case h8_Part => first | k_is | kx_is | k_exc)
    (case h9_Part => first | k_is | kx_is | k_exc)
    (case i0_Part => first | k_is | kx_is | k_exc)
    (case i1_Part => first | k_is | kx_is | k_exc)
    (case i2_Part => first | k_is | kx_is | k_exc)
    (case i3_Part => first | k_is | kx_is | k_exc)
    (case i6_Part => first | k_is | kx_is | k_exc)
    (case i7_Part => first | k_is | kx_is | k_exc)
    (case i8_Part => first | k_is | kx_is | k_exc)
    (case j_Part_ageing => first | k_is | kx_is | k_exc)
    (case j_Part__answers => first | k_is | kx_is | k_exc)
    (case a_Part___init__ => first | k_is | kx_is | k_exc)
    (case l_Part___init__ => first | k_is | kx_is | k_exc)
    (case t_Part___init__ => first | k_is | kx_is | k_exc)
    (case kx_Part___init___ageing => first | k_is | kx_is | k_exc)
    (case c_Part___init__ => first | k_is | kx_is | k_exc)
    (case k_Part___init__ => first | k_is | kx_is | k_exc)
    (case n_Part___init__ => first | k_is | kx_is | k_exc)
    (case te_Part___init__ => first | k_is | kx_is | k_exc)
    (case m1_Part___init__ => first | k_is | kx_is | k_exc)
    (case m2_Part___init__ => first | k_is | kx_is | k_exc)
    (case a_Part_entries => first | k_is | kx_is | k_exc)
    (case g_Part_entries => first | k_is | kx_is | k_exc)
    (case u_Part_entries => first | k_is | kx_is | k_exc)
    (case r_Part_entries => first | k_is | kx_is | k_exc)
    (case l_Part_entries => first | k_is | kx_is | k_exc)
    (case c_Part_entries => first | k_is | kx_is | k_exc)
    (case k_Part_entries => first | k_is | kx_is | k_exc)
    (case n_Part_entries => first | k_is | kx_is | k_exc)
    (case a_Part_weight => first | k_is | kx_is | k_exc)
    (case g_Part_weight => first | k_is | kx_is | k_exc)
    (case u_Part_weight => first | k_is | kx_is | k_exc)
    (case r_Part_weight => first | k_is | kx_is | k_exc)
    (case l_Part_weight => first | k_is | kx_is | k_exc)
    (case c_Part_weight => first | k_is | kx_is | k_exc)
    (case k_Part_weight => first | k_is | kx_is | k_exc)
    (case n_Part_weight => first | k_is | kx_is | k_exc)
    (case a_Part___len__ => first | k_is | kx_is | k_exc)
    (case l_Part___len__ => first | k_is | kx_is | k_exc)
    (case c_Part___len__ => first | k_is | kx_is | k_exc)
    (case k_Part___len__ => first | k_is | kx_is | k_exc)
    (case n_Part___len__ => first | k_is | kx_is | k_exc)
    (case a_Part___eq__ => first | k_is | kx_is | k_exc)
    (case l_Part___eq__ => first | k_is | kx_is | k_exc)
    (case c_Part___eq__ => first | k_is | kx_is | k_exc)
    (case k_Part___eq__ => first | k_is | kx_is | k_exc)
    (case n_Part___eq__ => first | k_is | kx_is | k_exc)
    (case e1_BadPart => first | k_is | kx_is | k_exc)
    (case e2_BadPart => first | k_is | kx_is | k_exc)
    (case e3_BadPart => first | k_is | kx_is | k_exc)
    (case e4_BadPart => first | k_is | kx_is | k_exc)
    (case e5_BadPart => first | k_is | kx_is | k_exc)
    (case e6_BadPart => first | k_is | kx_is | k_exc)
    (case e7_BadPart => first | k_is | kx_is | k_exc)
    (case e8_BadPart => first | k_is | kx_is | k_exc)
    (case e9_BadPart => first | k_is | kx_is | k_exc)
    (case e10_BadPart => first | k_is | kx_is | k_exc)
    (case e11_BadPart => first | k_is | kx_is | k_exc)
    (case e12_BadPart => first | k_is | kx_is | k_exc)
    (case e13_BadPart => first | k_is | kx_is | k_exc)
    (case e14_BadPart => first | k_is | kx_is | k_exc)
    (case e15_BadPart => first | k_is | kx_is | k_exc)
    (case e16_BadPart => first | k_is | kx_is | k_exc)
    (case e17_BadPart => first | k_is | kx_is | k_exc)
    (case z_abs => first | k_is | kx_is | k_exc)
    (case z_all => first | k_is | kx_is | k_exc)
    (case z_bool => first | k_is | kx_is | k_exc)
    (case z_enumerate => first | k_is | kx_is | k_exc)
    (case z_int => first | k_is | kx_is | k_exc)
    (case z_isinstance => first | k_is | kx_is | k_exc)
    (case z_len => first | k_is | kx_is | k_exc)
    (case z_list => first | k_is | kx_is | k_exc)
    (case z_max => first | k_is | kx_is | k_exc)
    (case z_min => first | k_is | kx_is | k_exc)
    (case z_range => first | k_is | kx_is | k_exc)
    (case z_repr => first | k_is | kx_is | k_exc)
    (case z_sorted => first | k_is | kx_is | k_exc)
    (case z_str => first | k_is | kx_is | k_exc)
    (case z_sum => first | k_is | kx_is | k_exc)
    (case z_tuple => first | k_is | kx_is | k_exc)
    (case y_SMALL_LETTERS => first | k_is | kx_is | k_exc)
    (case y_CAPITAL_LETTERS => first | k_is | kx_is | k_exc)
    (case y_DIGITS => first | k_is | kx_is | k_exc)
    (case y_MOST_CLASS_LETTERS => first | k_is | kx_is | k_exc)
    (case y_MOST_WORD_LETTERS => first | k_is | kx_is | k_exc)
    (case y_KEYWORDS => first | k_is | kx_is | k_exc)
    (case u_KEYWORDS => first | k_is | kx_is | k_exc)
    (case y_MOST_NAME_LETTERS => first | k_is | kx_is | k_exc)
    (case y_MOST_STRING_LETTERS => first | k_is | kx_is | k_exc)
    (case y_MOST_DIGITS => first | k_is | kx_is | k_exc)
    (case y_MOST_CONSTANTS => first | k_is | kx_is | k_exc)
