


import PyProof.Rows.All
import Wide.All
import OpenK.AllK
import Wide.FinOn
import HandS.ForMost
import HandS.Wide
import HandS.IsInst
import HandS.EndBits
import HandS.Walk
import HandS.Style
import HandS.Defaults
import HandS.ExcInit
import HandS.ExcField
import HandS.ExcIs
import KE.KExcIs
import HandS.ForExc
import HandS.SlotsOwn
import HandS.DictComp
import HandS.ListItems
import HandS.ClsMeth
import KE.KDictPairs
import HandS.Star
import KE.GoesEnum
import KE.GoesMore
import KE.DataCmp
import HandS.ExcOwn
import KE.KOpsOwn
import HandS.ExcValue
import PySem.Challenge.RW_whatpasses_k02_families_refused
set_option Elab.async false
set_option linter.all false
set_option maxRecDepth 100000
set_option maxHeartbeats 4000000

namespace Lw
open PySem PySem.Spec PyProof.Rows L2
def topS (i : Nat) : Stmt := PySem.Challenge.pw_whatpasses_k02_families_refused.main.body.getD i (.Pass ⟨0, 0, 0, 0⟩)
abbrev s_wall : Stmt := topS 0
theorem sc_wall : FnScope ["k"] ["k"] (defScope s_wall) := ⟨rfl, rfl, rfl, by decide +kernel, rfl, by decide +kernel, by decide +kernel⟩
abbrev s_consists_of : Stmt := topS 10
theorem sc_consists_of : FnScope ["text", "characters", "character"] ["text", "characters"] (defScope s_consists_of) := ⟨rfl, rfl, rfl, by decide +kernel, rfl, by decide +kernel, by decide +kernel⟩
abbrev s_is_class_name : Stmt := topS 15
theorem sc_is_class_name : FnScope ["thing"] ["thing"] (defScope s_is_class_name) := ⟨rfl, rfl, rfl, by decide +kernel, rfl, by decide +kernel, by decide +kernel⟩
abbrev s_can_be_declared : Stmt := topS 16
theorem sc_can_be_declared : FnScope ["pair", "above", "name", "parent"] ["pair", "above"] (defScope s_can_be_declared) := ⟨rfl, rfl, rfl, by decide +kernel, rfl, by decide +kernel, by decide +kernel⟩
abbrev s_law_take : Stmt := topS 19
theorem sc_law_take : FnScope ["bag", "many", "digit", "mixed"] ["bag", "many"] (defScope s_law_take) := ⟨rfl, rfl, rfl, by decide +kernel, rfl, by decide +kernel, by decide +kernel⟩
abbrev s_law_of : Stmt := topS 20
theorem sc_law_of : FnScope ["bag", "some"] ["bag", "some"] (defScope s_law_of) := ⟨rfl, rfl, rfl, by decide +kernel, rfl, by decide +kernel, by decide +kernel⟩
abbrev s_law_class : Stmt := topS 21
theorem sc_law_class : FnScope ["bag", "letters", "found", "turn"] ["bag"] (defScope s_law_class) := ⟨rfl, rfl, rfl, by decide +kernel, rfl, by decide +kernel, by decide +kernel⟩
abbrev s_law_is_class : Stmt := topS 22
theorem sc_law_is_class : FnScope ["thing", "letters", "sign"] ["thing"] (defScope s_law_is_class) := ⟨rfl, rfl, rfl, by decide +kernel, rfl, by decide +kernel, by decide +kernel⟩
abbrev s_law_bag : Stmt := topS 23
theorem sc_law_bag : FnScope ["script", "at", "cell"] ["script", "at"] (defScope s_law_bag) := ⟨rfl, rfl, rfl, by decide +kernel, rfl, by decide +kernel, by decide +kernel⟩
abbrev s_law_is_integer : Stmt := topS 24
theorem sc_law_is_integer : FnScope ["thing"] ["thing"] (defScope s_law_is_integer) := ⟨rfl, rfl, rfl, by decide +kernel, rfl, by decide +kernel, by decide +kernel⟩
abbrev s_law_entry : Stmt := topS 25
theorem sc_law_entry : FnScope ["bag", "names", "way", "name", "parent", "wrong"] ["bag", "names"] (defScope s_law_entry) := ⟨rfl, rfl, rfl, by decide +kernel, rfl, by decide +kernel, by decide +kernel⟩
abbrev s_law_right : Stmt := topS 26
theorem sc_law_right : FnScope ["names", "entry"] ["names", "entry"] (defScope s_law_right) := ⟨rfl, rfl, rfl, by decide +kernel, rfl, by decide +kernel, by decide +kernel⟩
abbrev s_law_due : Stmt := topS 27
theorem sc_law_due : FnScope ["entries", "names", "at"] ["entries"] (defScope s_law_due) := ⟨rfl, rfl, rfl, by decide +kernel, rfl, by decide +kernel, by decide +kernel⟩
abbrev s_law_got : Stmt := topS 28
theorem sc_law_got : FnScope ["pairs", "got", "e"] ["pairs"] (defScope s_law_got) := ⟨rfl, rfl, rfl, by decide +kernel, rfl, by decide +kernel, by decide +kernel⟩
abbrev s_law : Stmt := topS 29
theorem sc_law : FnScope ["script", "at", "bag", "names", "entries", "turn", "due", "pairs", "got", "wanted", "thing"] ["script"] (defScope s_law) := ⟨rfl, rfl, rfl, by decide +kernel, rfl, by decide +kernel, by decide +kernel⟩
def clsNth (j : Nat) : Stmt → Stmt
  | .ClassDef (body := b) .. => b.getD j (.Pass ⟨0, 0, 0, 0⟩)
  | _ => .Pass ⟨0, 0, 0, 0⟩
abbrev s_Family___init__ : Stmt := clsNth 0 (topS 17)
theorem sc_Family___init__ : FnScope ["self", "pairs", "above", "at", "pair", "name", "parent"] ["self", "pairs"] (defScope s_Family___init__) := ⟨rfl, rfl, rfl, by decide +kernel, rfl, by decide +kernel, by decide +kernel⟩
def clsDef : Stmt → Stmt
  | .ClassDef (body := b) .. => b.getD 0 (.Pass ⟨0, 0, 0, 0⟩)
  | _ => .Pass ⟨0, 0, 0, 0⟩
abbrev si_BadFamily : Stmt := clsDef (topS 3)
theorem sci_BadFamily : FnScope ["self", "at"] ["self", "at"] (defScope si_BadFamily) := ⟨rfl, rfl, rfl, by decide +kernel, rfl, by decide +kernel, by decide +kernel⟩
/-- what is asked of an own class for ==, !=, isinstance and its static methods -/
structure OwnFacts (K : PySem.W.Frag) (C : Addr) : Prop where
  ty : PySem.W.typeIn K (.ref C) = some (.type "type")
  cr : ClX.CRead K C (.type "type")
  ne : PySem.W.findIn K (.ref C) "__ne__" = some (some (.builtin "object.__ne__"))
  top : PySem.W.mroIn K C (.type "object") = some true
  ca : PySem.W.findIn K (.ref C) "__class__" = some (some (.builtin "object.__class__"))
  cg : PySem.W.specialIn K (.builtin "object.__class__") "__get__" = some (some (.builtin "getset_descriptor.__get__"))
  ct : PySem.W.takesIn K (.builtin "object.__class__") = some true
  k1 : PySem.W.kitOne K (.ref C) (.ref C) = some true
  k2 : PySem.W.kitOne K (.type "list") (.ref C) = some false
  k3 : PySem.W.kitOne K (.type "tuple") (.ref C) = some false
  f1 : PySem.W.notFirst K C (.ref C) = true
  f2 : PySem.W.notFirst K C (.type "list") = true
  f3 : PySem.W.notFirst K C (.type "tuple") = true
/-- an own error class over ValueError whose __init__ stores its one field -/
structure ErrC (K : PySem.W.Frag) (mg : Str → Option Value) (x f : Str) (C fI : Addr) : Prop where
  g : mg x = some (.ref C)
  o : OexC K C
  i : PySem.W.findIn K (.ref C) "__init__" = some (some (.ref fI))
  t : PySem.W.typeIn K (.ref fI) = some (.type "function")
  xf : XfC K C
  no : PySem.W.findIn K (.ref C) f = some none
  te : PySem.W.exmOne K (.ref C) (.ref C) = some true
/-- what the top leaves: where the defs stand, which names are built-in -/
structure Txt (K : PySem.W.Frag) (mg : Str → Option Value) where
  f_wall : Addr
  fd_wall : FuncData
  F_wall : Fun K "_wall" "_wall" s_wall f_wall fd_wall
  b_wall : Binds K fd_wall ["k"] []
  g_wall : mg "_wall" = some (.ref f_wall)
  f_consists_of : Addr
  fd_consists_of : FuncData
  F_consists_of : Fun K "consists_of" "consists_of" s_consists_of f_consists_of fd_consists_of
  b_consists_of : Binds K fd_consists_of ["text", "characters"] []
  g_consists_of : mg "consists_of" = some (.ref f_consists_of)
  f_is_class_name : Addr
  fd_is_class_name : FuncData
  F_is_class_name : Fun K "is_class_name" "is_class_name" s_is_class_name f_is_class_name fd_is_class_name
  b_is_class_name : Binds K fd_is_class_name ["thing"] []
  g_is_class_name : mg "is_class_name" = some (.ref f_is_class_name)
  f_can_be_declared : Addr
  fd_can_be_declared : FuncData
  F_can_be_declared : Fun K "can_be_declared" "can_be_declared" s_can_be_declared f_can_be_declared fd_can_be_declared
  b_can_be_declared : Binds K fd_can_be_declared ["pair", "above"] []
  g_can_be_declared : mg "can_be_declared" = some (.ref f_can_be_declared)
  f_law_take : Addr
  fd_law_take : FuncData
  F_law_take : Fun K "_law_take" "_law_take" s_law_take f_law_take fd_law_take
  b_law_take : Binds K fd_law_take ["bag", "many"] []
  g_law_take : mg "_law_take" = some (.ref f_law_take)
  f_law_of : Addr
  fd_law_of : FuncData
  F_law_of : Fun K "_law_of" "_law_of" s_law_of f_law_of fd_law_of
  b_law_of : Binds K fd_law_of ["bag", "some"] []
  g_law_of : mg "_law_of" = some (.ref f_law_of)
  f_law_class : Addr
  fd_law_class : FuncData
  F_law_class : Fun K "_law_class" "_law_class" s_law_class f_law_class fd_law_class
  b_law_class : Binds K fd_law_class ["bag"] []
  g_law_class : mg "_law_class" = some (.ref f_law_class)
  f_law_is_class : Addr
  fd_law_is_class : FuncData
  F_law_is_class : Fun K "_law_is_class" "_law_is_class" s_law_is_class f_law_is_class fd_law_is_class
  b_law_is_class : Binds K fd_law_is_class ["thing"] []
  g_law_is_class : mg "_law_is_class" = some (.ref f_law_is_class)
  f_law_bag : Addr
  fd_law_bag : FuncData
  F_law_bag : Fun K "_law_bag" "_law_bag" s_law_bag f_law_bag fd_law_bag
  b_law_bag : Binds K fd_law_bag ["script", "at"] []
  g_law_bag : mg "_law_bag" = some (.ref f_law_bag)
  f_law_is_integer : Addr
  fd_law_is_integer : FuncData
  F_law_is_integer : Fun K "_law_is_integer" "_law_is_integer" s_law_is_integer f_law_is_integer fd_law_is_integer
  b_law_is_integer : Binds K fd_law_is_integer ["thing"] []
  g_law_is_integer : mg "_law_is_integer" = some (.ref f_law_is_integer)
  f_law_entry : Addr
  fd_law_entry : FuncData
  F_law_entry : Fun K "_law_entry" "_law_entry" s_law_entry f_law_entry fd_law_entry
  b_law_entry : Binds K fd_law_entry ["bag", "names"] []
  g_law_entry : mg "_law_entry" = some (.ref f_law_entry)
  f_law_right : Addr
  fd_law_right : FuncData
  F_law_right : Fun K "_law_right" "_law_right" s_law_right f_law_right fd_law_right
  b_law_right : Binds K fd_law_right ["names", "entry"] []
  g_law_right : mg "_law_right" = some (.ref f_law_right)
  f_law_due : Addr
  fd_law_due : FuncData
  F_law_due : Fun K "_law_due" "_law_due" s_law_due f_law_due fd_law_due
  b_law_due : Binds K fd_law_due ["entries"] []
  g_law_due : mg "_law_due" = some (.ref f_law_due)
  f_law_got : Addr
  fd_law_got : FuncData
  F_law_got : Fun K "_law_got" "_law_got" s_law_got f_law_got fd_law_got
  b_law_got : Binds K fd_law_got ["pairs"] []
  g_law_got : mg "_law_got" = some (.ref f_law_got)
  C_Family : Addr
  gC_Family : mg "Family" = some (.ref C_Family)
  cl_Family : Cls K C_Family
  tp_Family : OwnFacts K C_Family
  nA_Family__above : NoAttr K C_Family "_above"
  nA_Family_declared : NoAttr K C_Family "declared"
  f_Family___init__ : Addr
  fd_Family___init__ : FuncData
  F_Family___init__ : Fun K "__init__" "Family.__init__" s_Family___init__ f_Family___init__ fd_Family___init__
  b_Family___init__ : Binds K fd_Family___init__ ["self", "pairs"] []
  n_Family___init__ : PySem.W.isFn K (.ref f_Family___init__) = true
  mk_Family : Mk K C_Family f_Family___init__
  cC_BadFamily : Addr
  cI_BadFamily : Addr
  cfd_BadFamily : FuncData
  cF_BadFamily : Fun K "__init__" "BadFamily.__init__" si_BadFamily cI_BadFamily cfd_BadFamily
  cb_BadFamily : Binds K cfd_BadFamily ["self", "at"] []
  cE_BadFamily : ErrC K mg "BadFamily" "at" cC_BadFamily cI_BadFamily
  w_BadCall : Addr
  gw_BadCall : mg "BadCall" = some (.ref w_BadCall)
  w_BadSuite : Addr
  gw_BadSuite : mg "BadSuite" = some (.ref w_BadSuite)
  w_WhatpassesError : Addr
  gw_WhatpassesError : mg "WhatpassesError" = some (.ref w_WhatpassesError)
  xk_BadFamily : ExcC K cC_BadFamily
  xi_BadFamily_WhatpassesError : PySem.W.kitOne K (.ref cC_BadFamily) (.ref w_WhatpassesError) = some true
  xn_BadFamily_WhatpassesError : PySem.W.kitOne K (.type "NoneType") (.ref w_WhatpassesError) = some false
  xi_BadFamily_ValueError : PySem.W.kitOne K (.ref cC_BadFamily) (.type "ValueError") = some true
  xi_BadFamily_BadCall : PySem.W.kitOne K (.ref cC_BadFamily) (.ref w_BadCall) = some false
  xn_BadFamily_BadCall : PySem.W.kitOne K (.type "NoneType") (.ref w_BadCall) = some false
  xi_BadFamily_BadSuite : PySem.W.kitOne K (.ref cC_BadFamily) (.ref w_BadSuite) = some false
  xn_BadFamily_BadSuite : PySem.W.kitOne K (.type "NoneType") (.ref w_BadSuite) = some false
  m_ValueError : mg "ValueError" = none
  m_abs : mg "abs" = none
  m_all : mg "all" = none
  m_bool : mg "bool" = none
  m_dict : mg "dict" = none
  m_enumerate : mg "enumerate" = none
  m_int : mg "int" = none
  m_isinstance : mg "isinstance" = none
  m_len : mg "len" = none
  m_list : mg "list" = none
  m_max : mg "max" = none
  m_min : mg "min" = none
  m_range : mg "range" = none
  m_str : mg "str" = none
  m_tuple : mg "tuple" = none
  c_SMALL_LETTERS : ∃ t, mg "SMALL_LETTERS" = some (.str "abcdefghijklmnopqrstuvwxyz" t)
  c_CAPITAL_LETTERS : ∃ t, mg "CAPITAL_LETTERS" = some (.str "ABCDEFGHIJKLMNOPQRSTUVWXYZ" t)
  c_ROOT : ∃ t, mg "ROOT" = some (.str "Error" t)
  a_FIRST_CLASSES : Addr
  c_FIRST_CLASSES : mg "FIRST_CLASSES" = some (.ref a_FIRST_CLASSES)
  a_FIRST_CLASSES_0 : Addr
  q_FIRST_CLASSES_0 : ∀ H : Hp, SqT K H a_FIRST_CLASSES_0 [.str (Str.ofString "Error"), .non]
  a_FIRST_CLASSES_1 : Addr
  q_FIRST_CLASSES_1 : ∀ H : Hp, SqT K H a_FIRST_CLASSES_1 [.str (Str.ofString "Failed"), .str (Str.ofString "Error")]
  a_FIRST_CLASSES_2 : Addr
  q_FIRST_CLASSES_2 : ∀ H : Hp, SqT K H a_FIRST_CLASSES_2 [.str (Str.ofString "Misuse"), .str (Str.ofString "Error")]
  a_FIRST_CLASSES_3 : Addr
  q_FIRST_CLASSES_3 : ∀ H : Hp, SqT K H a_FIRST_CLASSES_3 [.str (Str.ofString "Beyond"), .str (Str.ofString "Misuse")]
  q_FIRST_CLASSES : ∀ H : Hp, SqT K H a_FIRST_CLASSES [.ref a_FIRST_CLASSES_0, .ref a_FIRST_CLASSES_1, .ref a_FIRST_CLASSES_2, .ref a_FIRST_CLASSES_3]
  d_FIRST_CLASSES : ∃ (o : Obj) (its : Array Value) (n : Nat), K.lookup a_FIRST_CLASSES = some o ∧ o.cls = .type "tuple" ∧ o.dict = none ∧ o.data = .seq its n ∧ its.toList = [a_FIRST_CLASSES_0, a_FIRST_CLASSES_1, a_FIRST_CLASSES_2, a_FIRST_CLASSES_3].map Value.ref
  c_MOST_CLASS_LETTERS : ∃ t, mg "MOST_CLASS_LETTERS" = some (.int 12 t)
/-! ### short steps: where the walk's name is only a name -/

/-! ### isinstance -/
theorem ty_non {K : PySem.W.Frag} {H : Hp} : TyX K H .non (.type "NoneType") := .base .non
theorem ty_bl {K : PySem.W.Frag} {H : Hp} {b : Bool} : TyX K H (.bl b) (.type "bool") := .base (.bl b)
theorem ty_int {K : PySem.W.Frag} {H : Hp} {i : Int} : TyX K H (.int i) (.type "int") := .base (.int i)
theorem ty_str {K : PySem.W.Frag} {H : Hp} {z : Str} : TyX K H (.str z) (.type "str") := .base (.str z)
theorem ty_lst {K : PySem.W.Frag} {H : Hp} {a : Addr} {xs : List V} (e : H a = some (.lst xs)) : TyX K H (.ref a) (.type "list") := .base (.lst e)
theorem ty_tup {K : PySem.W.Frag} {H : Hp} {a : Addr} {xs : List V} (e : H a = some (.tup xs)) : TyX K H (.ref a) (.type "tuple") := .base (.tup e)
theorem kit_of2 {K : PySem.W.Frag} {a c : String} (r : Bool) (h : kitB a c = some r) : PySem.W.kitOne K (.type a) (.type c) = some r := kit_ty h

theorem ty_sqL {K : PySem.W.Frag} {H : Hp} {a : Addr} {xs : List V} (h : SqL K H a xs) : TyX K H (.ref a) (.type "list") := by
  rcases h with (h | ⟨o, h⟩) | ⟨o, its, n, h, c, _⟩
  · exact .base (.lst h)
  · exact .base (.frz h)
  · exact .kList h c
theorem ty_sqT {K : PySem.W.Frag} {H : Hp} {a : Addr} {xs : List V} (h : SqT K H a xs) : TyX K H (.ref a) (.type "tuple") := by
  rcases h with (h | ⟨o, h⟩) | ⟨o, its, n, h, c, _⟩
  · exact .base (.tup h)
  · exact .fTuple h
  · exact .kTuple h c
theorem small5 {n : Nat} (h : n ≤ 100000) : n < sizeLine := Nat.lt_of_le_of_lt h (by decide)
def isUp (c : Nat) : Bool := decide (65 ≤ c ∧ c ≤ 90)
def isLow (c : Nat) : Bool := decide (97 ≤ c ∧ c ≤ 122)

/-! ### an own class's in, len, ==, != -/
section
variable {X : Cx} {CX : CXT} {n : Nat} {C g : Addr} {sp : Sp} {E : XK} {pins : List (Addr × Obj)} {σ : L2.St} {H : Hp} {s : Shared}
theorem ins_inst {a dx : Addr} {fs : List (Str × V)} (I : Inv X pins σ H s) (e : H a = some (.ins C dx fs)) : ∃ od, PySem.W.InstAt s.heap a (PySem.W.instObj C dx) C (some od) := by
  obtain ⟨mA, O, _⟩ := ins_get I.hok e
  obtain ⟨od, ho, _⟩ := lookIn_ns O.ns
  exact ⟨od, O.obj, rfl, rfl, ho⟩
/-- a value and its type, for the other side of == -/
def TyO (K : PySem.W.Frag) (H : Hp) (y : V) (tb : Value) : Prop := TyX K H y tb ∨ ∃ (b C2 dy : Addr) (fs : List (Str × V)), y = .ref b ∧ H b = some (.ins C2 dy fs) ∧ tb = .ref C2
def rInOwn (C : Addr) (sp : Sp) (E : XK) (neg : Bool) : R2 := fun x y H Q => ∃ a dx fs, y = .ref a ∧ H a = some (.ins C dx fs) ∧ sp [.ref a, x] H (fun v H' => ∃ b : Bool, v = .bl b ∧ Q (.bl (if neg then !b else b)) H') E
theorem op_inOwn (hs : PySem.W.findIn X.K (.ref C) "__contains__" = some (some (.ref g))) (hf : PySem.W.isFn X.K (.ref g) = true) (F : FnR X.prog X.w X.K X.mg X.base CX n g sp) (hr : Room n X.A) (hx : Passes CX X E) : OpR X (compareOp .In) (rInOwn C sp E false) := by
  intro pins s σ H x y v u Q I rx ry h
  obtain ⟨a, dx, fs, rfl, ha, q⟩ := h
  cases (show u = Value.ref a from ry)
  obtain ⟨od, J⟩ := ins_inst I ha
  obtain ⟨m, hF⟩ := I.fr
  refine PySem.W.in_K hF I.ok.mod.kin J hs hf (wpAny_mono (wpAny_call (run_fnR (us := [.ref a, v]) (vs := [.ref a, x]) F hr hx I (.cons rfl (.cons rx .nil)) q)) (fun z s' hz => ?_) fun _ _ e => e)
  obtain ⟨z1, H1, I1, rz, b, rfl, q1⟩ := hz
  cases (show z = Value.bool b from rz)
  exact wpAny_truthy_bool ⟨.bl b, H1, I1, rfl, q1⟩
theorem op_notInOwn (hs : PySem.W.findIn X.K (.ref C) "__contains__" = some (some (.ref g))) (hf : PySem.W.isFn X.K (.ref g) = true) (F : FnR X.prog X.w X.K X.mg X.base CX n g sp) (hr : Room n X.A) (hx : Passes CX X E) : OpR X (compareOp .NotIn) (rInOwn C sp E true) := by
  intro pins s σ H x y v u Q I rx ry h
  obtain ⟨a, dx, fs, rfl, ha, q⟩ := h
  cases (show u = Value.ref a from ry)
  obtain ⟨od, J⟩ := ins_inst I ha
  obtain ⟨m, hF⟩ := I.fr
  refine PySem.W.notIn_K hF I.ok.mod.kin J hs hf (wpAny_mono (wpAny_call (run_fnR (us := [.ref a, v]) (vs := [.ref a, x]) F hr hx I (.cons rfl (.cons rx .nil)) q)) (fun z s' hz => ?_) fun _ _ e => e)
  obtain ⟨z1, H1, I1, rz, b, rfl, q1⟩ := hz
  cases (show z = Value.bool b from rz)
  exact wpAny_truthy_bool ⟨.bl (!b), H1, I1, rfl, q1⟩
theorem call_lenOwn (hs : PySem.W.findIn X.K (.ref C) "__len__" = some (some (.ref g))) (hf : PySem.W.isFn X.K (.ref g) = true) (F : FnR X.prog X.w X.K X.mg X.base CX n g sp) (hr : Room (n + 1) X.A) (hx : Passes CX X E) :
    CallR X (.builtin "len") (fun xs H Q => ∃ a dx fs, xs = [.ref a] ∧ H a = some (.ins C dx fs) ∧ sp [.ref a] H (fun v H' => ∃ k : Nat, v = .int k ∧ k < 100000 ∧ Q (.int k) H') E) := by
  intro pins s σ H xs us Q I r h
  obtain ⟨a, dx, fs, rfl, ha, q⟩ := h
  obtain ⟨u, rfl, ru⟩ := r.one
  cases (show u = Value.ref a from ru)
  obtain ⟨od, J⟩ := ins_inst I ha
  obtain ⟨m, hF⟩ := I.fr
  refine PySem.W.len_K hF I.ok.mod.kin J hs hf (wpAny_mono (wpAny_call (SlX.run_at (us := [.ref a]) (ws := [.ref a]) F (Room.in1 hr) I.env0.in1 hx I (.cons rfl .nil) q)) (fun z s' hz => ?_) fun _ _ e => e)
  obtain ⟨z1, H1, I1, rz, k, rfl, hk, q1⟩ := hz
  obtain ⟨t, rfl⟩ := (show ∃ t, z = Value.int k t from rz)
  exact ⟨⟨Int.natCast_nonneg k, by omega⟩, .int k, H1, I1.tok _, ⟨_, rfl⟩, q1⟩
theorem looks_tyO {y : V} {u tb : Value} (I : Inv X pins σ H s) (ry : RelV y u) (ty : TyO X.K H y tb) : PySem.W.Looks (model X.prog X.w) s.heap (typeOf u) tb := by
  rcases ty with ty | ⟨b, C2, dy, fs, rfl, hb, rfl⟩
  · obtain ⟨P, Z, hP, _⟩ := kit_of I ry ty
    exact Z.ty _ _ I.kIn hP
  · cases (show u = Value.ref b from ry)
    obtain ⟨od, J⟩ := ins_inst I hb
    exact J.type
def rEqOwn (K : PySem.W.Frag) (C : Addr) (sp : Sp) (E : XK) : R2 := fun x y H Q => ∃ a dx fs tb, x = .ref a ∧ H a = some (.ins C dx fs) ∧ TyO K H y tb ∧ PySem.W.notFirst K C tb = true ∧ sp [x, y] H Q E
theorem op_eqOwn (hs : PySem.W.findIn X.K (.ref C) "__eq__" = some (some (.ref g))) (hf : PySem.W.isFn X.K (.ref g) = true) (F : FnR X.prog X.w X.K X.mg X.base CX n g sp) (hr : Room n X.A) (hx : Passes CX X E) : OpR X (compareOp .Eq) (rEqOwn X.K C sp E) := by
  intro pins s σ H x y v u Q I rx ry h
  obtain ⟨a, dx, fs, tb, rfl, ha, ty, hn, q⟩ := h
  cases (show v = Value.ref a from rx)
  obtain ⟨od, J⟩ := ins_inst I ha
  obtain ⟨m, hF⟩ := I.fr
  refine PySem.W.cmp_K (op := .Eq) (tb := tb) hr.units0 hF I.ok.mod.kin J (looks_tyO I ry ty) hn hs hf ?_
  refine wpAny_mono (wpAny_call (run_fnR (us := [.ref a, u]) (vs := [.ref a, y]) F hr hx I (.cons rfl (.cons ry .nil)) q)) (fun z s' hz => ?_) fun _ _ e => e
  obtain ⟨z1, H1, I1, rz, q1⟩ := hz
  exact SlX.cmpback rz ⟨z1, H1, I1, rz, q1⟩
theorem ifBound_ne {M : Model} {K : PySem.W.Frag} {ox : Obj} {od : Option Obj} {a : Addr} {args : List Value} {Ex : Value → Shared → Prop} {A : Around} {Qx : Option Value → Shared → Prop} (kin : K.In s.heap) (J : PySem.W.InstAt s.heap a ox C od)
    (hn : PySem.W.findIn K (.ref C) "__ne__" = some (some (.builtin "object.__ne__"))) (h : wpAny M A (call (.builtin "object.__ne__") (.ref a :: args)) (fun v => Qx (some v)) Ex s) : wpAny M A (callSpecialIfBound? (.ref a) "__ne__" args) Qx Ex s := by
  have hb : ∀ self : Value, bindSpecial (.builtin "object.__ne__") self = pure (.builtin "object.__ne__", [self]) := fun self => PySem.F.cmp_object.ne.bind self
  simp only [callSpecialIfBound?, bindSpecialIfBound?]
  refine wpAny_holding (wpAny_bind (wpAny_bind (wpAny_bind (J.type.here ((PySem.W.looks_findIn kin hn).here ?_)))))
  refine wpAny_bind (wpAny_askSetting (wpAny_ite ?_))
  have fin : wpAny M A (call (.builtin "object.__ne__") ([.ref a] ++ args) >>= fun v => pure (some v)) Qx Ex s := wpAny_bind (wpAny_mono h (fun v s1 h1 => wpAny_pure h1) fun _ _ h1 => h1)
  split
  · rw [hb]
    exact wpAny_bind (wpAny_pure (wpAny_pure (by exact fin)))
  · rw [hb]
    exact wpAny_tryCatch (wpAny_bind (wpAny_pure (wpAny_pure (by exact fin))))
theorem ne_entry {P : Program} {w : World} {K : PySem.W.Frag} {ox : Obj} {od : Option Obj} {a : Addr} {u : Value} {Ex : Value → Shared → Prop} {A : Around} {Qx : Fin → Shared → Prop} (hu : A.units < cLine) (kin : K.In s.heap) (J : PySem.W.InstAt s.heap a ox C od)
    (hs : PySem.W.findIn K (.ref C) "__eq__" = some (some (.ref g))) (hf : PySem.W.isFn K (.ref g) = true)
    (h : wpAny (model P w) A (call (.ref g) [.ref a, u]) (fun v s1 => ∃ b, v = .bool b ∧ Qx (.done (.ret (.bool (!b)))) s1) Ex s) : wpAny (model P w) A (Builtin.«object.__ne__» ⟨[.ref a, u], []⟩) Qx Ex s := by
  unfold Builtin.«object.__ne__»
  repeat (first
    | with_reducible refine wpAny_cRoomFor hu ?_
    | (refine wpAny_bind (m := callSpecialIfBound? (.ref a) (Str.ofString "__eq__") [u]) (PySem.W.ifBound_K kin J hs hf (wpAny_mono h (fun r s1 hr => by
          obtain ⟨b, rfl, hq⟩ := hr
          repeat (first | exact hq | exact wpAny_pure hq | exact wpAny_truthy_bool hq | (refine wpAny_bind (m := truthy (.bool _)) (wpAny_truthy_bool ?_)) | wp_step)) fun _ _ e => e)))
    | wp_step)
def rNeOwn (K : PySem.W.Frag) (C : Addr) (sp : Sp) (E : XK) : R2 := fun x y H Q => ∃ a dx fs tb, x = .ref a ∧ H a = some (.ins C dx fs) ∧ TyO K H y tb ∧ PySem.W.notFirst K C tb = true ∧ sp [x, y] H (fun v H' => ∃ b : Bool, v = .bl b ∧ Q (.bl (!b)) H') E
theorem op_neOwn (hs : PySem.W.findIn X.K (.ref C) "__eq__" = some (some (.ref g))) (hf : PySem.W.isFn X.K (.ref g) = true) (hn : PySem.W.findIn X.K (.ref C) "__ne__" = some (some (.builtin "object.__ne__"))) (top : PySem.W.mroIn X.K C (.type "object") = some true)
    (F : FnR X.prog X.w X.K X.mg X.base CX n g sp) (hr : Room (n + 1) X.A) (hx : Passes CX X E) : OpR X (compareOp .NotEq) (rNeOwn X.K C sp E) := by
  intro pins s σ H x y v u Q I rx ry h
  obtain ⟨a, dx, fs, tb, rfl, ha, ty, hnf, q⟩ := h
  cases (show v = Value.ref a from rx)
  obtain ⟨od, J⟩ := ins_inst I ha
  have kin := I.kIn
  have hr1 : Room n X.A.in1 := Room.in1 hr
  have sub : PySem.W.Looks (model X.prog X.w) s.heap (isInstance (.ref a) (.type "object")) true := J.type.andThen (PySem.W.looks_mroIn kin top)
  have one : wpAny (model X.prog X.w) X.A (tryCompare (.ref a) "__ne__" u) (fun r s1 => ∃ z, r = some z ∧ EP X pins σ Q z s1) X.xe s := by
    unfold tryCompare
    refine wpAny_bind (ifBound_ne kin J hn (wpAny_call (codeAny_call_builtin PySem.F.cmp_object.ne.plain PySem.F.cmpEntry_ne (PySem.W.check_slot PySem.F.cmpKind_ne PySem.F.cmpSplit_ne sub (PySem.F.cmpArgs_ne _ _) ?_))))
    refine ne_entry (A := X.A.in1) hr1.units0 kin J hs hf (wpAny_mono (wpAny_call (SlX.run_at (us := [.ref a, u]) (ws := [.ref a, y]) F hr1 I.env0.in1 hx I (.cons rfl (.cons ry .nil)) q)) (fun z s1 hz => ?_) fun _ _ e => e)
    obtain ⟨z1, H1, I1, rz, b, rfl, q1⟩ := hz
    cases (show z = Value.bool b from rz)
    first
      | exact ⟨b, rfl, wpAny_pure ⟨_, rfl, .bl (!b), H1, I1, rfl, q1⟩⟩
      | exact ⟨b, rfl, _, rfl, .bl (!b), H1, I1, rfl, q1⟩
      | exact ⟨b, rfl, wpAny_pure (wpAny_pure ⟨_, rfl, .bl (!b), H1, I1, rfl, q1⟩)⟩
  show wpAny _ _ (richCompare .NotEq (.ref a) u) _ _ _
  unfold richCompare
  simp only [oneThing_ref]
  refine wpAny_holding (wpAny_bind (wpAny_cRoomFor hr.units0 ?_))
  refine wpAny_bind (J.type.here (wpAny_bind ((looks_tyO I ry ty).here ?_)))
  split
  · rename_i qq
    have e : PySem.W.subIn X.K tb (.ref C) = some false := by
      rcases Bool.or_eq_true_iff.mp hnf with e | e
      · rw [beq_iff_eq.mp e] at qq; simp at qq
      · exact beq_iff_eq.mp e
    refine wpAny_bind ((PySem.W.looks_subIn kin e).here ?_)
    simp only [Bool.false_eq_true, if_false]
    refine wpAny_bind (wpAny_mono one (fun r s1 z => ?_) fun _ _ e => e)
    obtain ⟨z1, rfl, hq⟩ := z
    exact wpAny_pure hq
  · refine wpAny_bind (wpAny_pure ?_)
    simp only [Bool.false_eq_true, if_false]
    refine wpAny_bind (wpAny_mono one (fun r s1 z => ?_) fun _ _ e => e)
    obtain ⟨z1, rfl, hq⟩ := z
    exact wpAny_pure hq
end

/-! ### enumerate over a tuple -/
theorem meets_enum1 {v : Value} {o : Obj} {φ : Heap → Prop} (bg : Begins v o φ) :
    Meets (Builtin.«enumerate.__new__» ⟨[.type "enumerate", v], []⟩) (fun _ R s => φ s.heap ∧
      R (.ok (.ret (.ref (s.heap.push o).objs.size))) { s with heap := (s.heap.push o).push { cls := .type "enumerate", data := .fields #[.none, .bool false, .ref s.heap.objs.size, rawInt 0, .none, .none] } }) :=
  .of_wp fun pr wd ar rr sh hh => by
    obtain ⟨hq, gq, dq, tq, oq⟩ := sh; obtain ⟨k1, k2⟩ := hh
    have subE := sub_enumerate
    have it1 : ∀ {A' : Around} {Ex : Value → Shared → Prop} {Qx : Value → Shared → Prop}, Qx (.ref hq.objs.size) ⟨hq.push o, gq, dq, tq, oq⟩ → wpAny (model pr wd) A' (pyIter v) Qx Ex ⟨hq, gq, dq, tq, oq⟩ :=
      fun q => bg.iter pr wd _ _ ⟨hq, gq, dq, tq, oq⟩ _ k1 q
    wp_walk using it1
    refine wpAny_stack_any fun stk => wpAny_pure ?_
    split
    · rename_i cl _ _ _ _ _
      cases (cl == Value.type "enumerate") <;> (wp_walk using it1) <;> exact ⟨_, rfl, k2⟩
    · wp_walk using it1
      exact ⟨_, rfl, k2⟩
theorem call_enum1 {pr : Program} {wd : World} {A : Around} {Ex : Value → Shared → Prop} {s : Shared} {v : Value} {o : Obj} {φ : Heap → Prop} {Qx : Value → Shared → Prop} (bg : Begins v o φ) (k1 : φ s.heap)
    (k2 : ∀ h', IsEnum h' (s.heap.objs.size + 1) s.heap.objs.size 0 .none → h'.get? s.heap.objs.size = some o → (∀ b u, s.heap.get? b = some u → h'.get? b = some u) → Qx (.ref (s.heap.objs.size + 1)) { s with heap := h' }) :
    wpAny (model pr wd) A (call (.type "enumerate") [v]) Qx Ex s := by
  have hz : (s.heap.push o).objs.size = s.heap.objs.size + 1 := Heap.size_push ..
  have he : IsEnum ((s.heap.push o).push { cls := .type "enumerate", data := .fields #[.none, .bool false, .ref s.heap.objs.size, rawInt 0, .none, .none] }) (s.heap.objs.size + 1) s.heap.objs.size 0 .none := by
    have e := Heap.get?_push_size (s.heap.push o) (o := { cls := .type "enumerate", data := .fields #[.none, .bool false, .ref s.heap.objs.size, rawInt 0, .none, .none] }) rfl
    rw [hz] at e
    exact e
  refine callType_new F.called_enumerate (by decide) (F.typeCall_enumerate_1 _) (F.newCall_enumerate_1 _) (fun ob => F.args_object_init_2 ob _) F.entry_enumerate_new (meets_enum1 bg) ⟨k1, ?_⟩
  show _ ∧ _
  rw [hz]
  exact ⟨⟨_, he, rfl⟩, k2 _ he (Heap.get?_push_of_some _ (Heap.get?_push_size _ bg.free)) fun b u e => Heap.get?_push_of_some _ (Heap.get?_push_of_some _ e)⟩
/-- the tuple at a: each item in a new pair -/
def ItE (K : PySem.W.Frag) (a : Addr) : It where
  go := fun i H => ∃ (xs : List V) (x : V), SqT K H a xs ∧ xs[i]? = some x
  yld := fun i H v H' => ∃ T x, v = .ref T ∧ H T = none ∧ H' = upd H T (.tup [.int (i : Nat), x]) ∧ ∀ xs, SqT K H a xs → xs[i]? = some x
  stop := fun i H => ∃ xs : List V, SqT K H a xs ∧ xs.length = i
theorem turn_enumT {P : Program} {w : World} {K : PySem.W.Frag} {el : List Expr} {kk : Nat} {tp : Pos} (a e it : Addr) :
    Turn P w K (.Tuple el kk tp) (ItE K a) [e, it] e (fun i h => (∃ old, IsEnum h e it ((i : Nat) : Int) old) ∧ h.IsTupleIter it a i ∧ e ≠ it) := by
  refine { mem := List.mem_cons_self, obj := ?_, keep := ?_, item := ?_, done := ?_, self := ?_ }
  · rintro i h ⟨⟨old, he⟩, ⟨o, ho, hc, hd⟩, _⟩ b hb
    rcases List.mem_cons.mp hb with z | z
    · subst z
      exact ⟨_, he, fun v q => nomatch q⟩
    · have z := List.mem_singleton.mp z
      subst z
      exact ⟨o, ho, fun v q => by rw [hd] at q; cases q⟩
  · rintro i h h' ⟨⟨old, he⟩, hi, hne⟩ k
    exact ⟨⟨old, k e List.mem_cons_self _ he⟩, hi.at fun o q => k it (List.mem_cons_of_mem _ List.mem_cons_self) o q, hne⟩
  · rintro X rfl rfl rfl hc i pins s σ H E J hf ⟨⟨old, he⟩, hit, hne⟩ ⟨xs, x, hq, hx⟩
    obtain ⟨its, rv, p, hz⟩ := J.tuple hq
    obtain ⟨u, hu, ru⟩ := rv.get hx
    have pT : s.heap.IsTuple a its.toArray := p
    have hea : a ≠ e := fun z => by
      obtain ⟨o, ho, hcl, _⟩ := pT
      rw [z, he] at ho
      cases ho
      have hcl : Value.type "enumerate" = Value.type "tuple" := hcl
      injection hcl with hcl
      exact absurd hcl (by decide)
    have hia : a ≠ it := fun z => by
      obtain ⟨o, ho, hcl, _⟩ := pT
      obtain ⟨o2, ho2, hcl2, _⟩ := hit
      rw [z, ho2] at ho
      cases ho
      rw [hcl2] at hcl
      injection hcl with hcl
      exact absurd hcl (by decide)
    have hel : e < s.heap.objs.size := Heap.lt_size he
    have hil : it < s.heap.objs.size := by
      obtain ⟨_, q, _⟩ := hit
      exact Heap.lt_size q
    have hh : X.A.in1.handled = none := J.ok.hd hc
    have hlt : i < its.toArray.size := by
      rw [List.size_toArray]
      exact (List.getElem?_eq_some_iff.mp hu).1
    refine wpAny_pyNext_enum_itemD (Draws.tuple hh it a hia its.toArray) he ⟨hit, pT⟩ hlt hne (by simp [hne, Ne.symm hea]) fun y h1 tk hy ho hst hT hsz hk => ?_
    have ey : y = u := by
      have h2 : its[i]? = some y := by simpa using hy
      rw [hu] at h2
      exact (Option.some.inj h2).symm
    subst ey
    refine ⟨_, rfl, wpAny_letOwnedTupleGo_enum (s := { s with heap := h1, toks := tk + 1 }) ho fun h2 he2 sb => ?_⟩
    have hT2 : h2.get? s.heap.objs.size = some { cls := .type "tuple", data := .seq #[.int i tk, y] } := (sb.2 _ (Nat.ne_of_gt hel)).trans hT
    have nw : ObjOk X.prog X.w (upd H s.heap.objs.size (.tup [.int (i : Nat), x])) h2 s.heap.objs.size (.tup [.int (i : Nat), x]) :=
      ⟨by show 2 ≤ sizeLine; decide, [.int i tk, y], .cons ⟨_, rfl⟩ (.cons ru .nil), ⟨_, hT2, rfl, _, rfl⟩⟩
    have J1 : Inv X pins σ (upd H s.heap.objs.size (.tup [.int (i : Nat), x])) { s with heap := h2, toks := tk + 1 } :=
      J.turnedNew (ch := [e, it]) (fun b ob hb q => (sb.2 b (fun z => hb (z ▸ List.mem_cons_self))).trans (hk b ob (fun z => hb (z ▸ List.mem_cons_self)) (fun z => hb (z ▸ List.mem_cons_of_mem _ List.mem_cons_self)) q)) hf (Nat.le_refl _) nw
    refine ⟨.ref s.heap.objs.size, _, J1, rfl, ⟨_, x, rfl, J.hok.fresh (Nat.le_refl _), rfl, fun ys hy => ?_⟩, ⟨⟨y, ?_⟩, hst.1.at fun o q => (sb.2 it (Ne.symm hne)).trans q, hne⟩, fun b hb => ?_⟩
    · have : ys = xs := J.tuple_inj hy hq
      rw [this]
      exact hx
    · have e1 : ((i + 1 : Nat) : Int) = (i : Int) + 1 := by omega
      rw [e1]
      exact he2
    · have hb2 : b < s.heap.objs.size := by
        rcases List.mem_cons.mp hb with z | z
        · rw [z]; exact hel
        · rw [List.mem_singleton.mp z]; exact hil
      rw [upd_ne (Nat.ne_of_lt hb2)]
      exact (hf b hb).1
  · rintro X rfl rfl rfl hc i pins s σ H E J hf ⟨⟨old, he⟩, hit, hne⟩ ⟨xs, hq, hx⟩
    obtain ⟨its, rv, p, hz⟩ := J.tuple hq
    have pT : s.heap.IsTuple a its.toArray := p
    obtain ⟨f0, f1, f2, f3, f4, f5⟩ := hf it (List.mem_cons_of_mem _ List.mem_cons_self)
    have hia : a ≠ it := fun z => by
      obtain ⟨o, ho, hcl, _⟩ := pT
      obtain ⟨o2, ho2, hcl2, _⟩ := hit
      rw [z, ho2] at ho
      cases ho
      rw [hcl2] at hcl
      injection hcl with hcl
      exact absurd hcl (by decide)
    have hh : X.A.in1.handled = none := J.ok.hd hc
    have hl : its.toArray.size = i := by
      rw [List.size_toArray, ← rv.length]
      exact hx
    refine wpAny_pyNext_enum_endD (Draws.tuple hh it a hia its.toArray) he (by rw [hl]; exact ⟨hit, pT⟩) fun h1 eb => ⟨rfl, J.turned (t' := s.toks) (fun b o hb q => eb b o hb q) f0 f1 f3 f4 f5⟩
  · rintro A i s Q E ⟨⟨_, he⟩, _⟩ h
    exact wpAny_pyIter_enum he h
def iEnumT (K : PySem.W.Frag) (ta : TA) : TI := fun σ H R => ta σ H fun vs H1 => ∃ a xs, vs = [.ref a] ∧ SqT K H1 a xs ∧ R (ItE K a) H1
theorem pi_enumT {X : Cx} {e : Expr} {ta : TA} {p pos tp : Pos} {el : List Expr} {kk : Nat} (gE : Gl X "enumerate") (mE : X.mg "enumerate" = none) (ha : PA X [e] ta) (hs : starEach [e] X.env = [(false, eval e X.env)] := by rfl) :
    PI X (.Tuple el kk tp) (.Call (.Name "enumerate" p) [e] [] pos) (iEnumT X.K ta) := by
  refine ⟨fun pins s σ H R J h => ?_⟩
  refine Call_ (ld_blt J gE mE boot_enumerate (PyProof.Rows.callWith_type1 (thn (ha.run pos pins s σ H _ J h) fun us s1 hh => ?_) hs rfl))
  obtain ⟨vs, H1, J1, r1, a, xs, ex, hq, q⟩ := hh
  subst ex
  cases r1 with
  | cons r rr =>
    cases rr
    cases r
    obtain ⟨its, rv, p2, hz⟩ := J1.tuple hq
    refine call_enum1 (begins_tuple a its.toArray) (show s1.heap.IsTuple a its.toArray from p2) fun h1 he hit hk => wpAny_pyIter_enum he ?_
    have J2 : Inv X pins σ H1 { s1 with heap := h1 } := J1.kept (t' := s1.toks) hk
    refine ⟨s1.heap.objs.size + 1, [s1.heap.objs.size + 1, s1.heap.objs.size], _, _, H1, rfl, J2, turn_enumT a (s1.heap.objs.size + 1) s1.heap.objs.size, ⟨⟨.none, he⟩, ⟨_, hit, rfl, rfl⟩, Nat.succ_ne_self _⟩, fun b hb => ?_, q⟩
    have hle : s1.heap.objs.size ≤ b := by
      rcases List.mem_cons.mp hb with z | z
      · rw [z]; exact Nat.le_add_right _ _
      · rw [List.mem_singleton.mp z]; exact Nat.le_refl _
    exact J1.fpOk hle (J1.hok.fresh hle)
theorem walk_enumT {K : PySem.W.Frag} {a : Addr} {xs : List V} : Walk (ItE K a) xs.length (fun H => SqT K H a xs) (YPair (fun i => some (.int (i : Nat))) (fun i => xs[i]?)) := by
  refine ⟨fun i _ hi q => ⟨xs, xs[i], q, List.getElem?_eq_getElem hi⟩, fun _ q => ⟨xs, q, rfl⟩, fun i H v H' _ q y => ?_⟩
  obtain ⟨T, x, h1, h2, h3, h4⟩ := y
  exact ⟨T, .int (i : Nat), x, h1, h2, h3, rfl, h4 xs q⟩

/-! ### a static method without arguments; dict of a written tuple of pairs; enumerate over either -/
theorem pe_smeth0 {X : Cx} {CX : CXT} {k : Nat} {C p g : Addr} {mc : Value} {sp : Sp} {E : XK} {o : Expr} {m : Str} {pos apos : Pos} {ta : TE} {pl : Sem Bool} (he : PE X o ta) (ht0 : PySem.W.typeIn X.K (.ref C) = some mc) (r : ClX.CRead X.K C mc)
    (c : PySem.W.findCls X.K (.ref C) mc m = some (.get (.builtin "staticmethod.__get__") (.ref p) .none (.ref C))) (hp : ∃ rest, PySem.W.recIn X.K p "staticmethod" = some (.ref g :: rest)) (hk : PySem.W.keepIn X.K (.ref g) = true)
    (F : FnR X.prog X.w X.K X.mg X.base CX k g sp) (hr : Room k X.A) (hx : Passes CX X E)
    (ht : eval (.Call (.Attribute o m apos) [] [] pos) X.env = (do
      let ov ← eval o X.env
      standAt apos.atName
      let (f, first) ← holding [ov] (getMethod ov m pl)
      callWith pos f first (backTo pos (starEach [] X.env)) (backToKw pos (keywordEach [] X.env))) := by rfl) :
    PE X (.Call (.Attribute o m apos) [] [] pos) (fun σ H Q => ta σ H fun x H1 => x = .ref C ∧ sp [] H1 Q E) := by
  refine ⟨fun pins s σ H Q I h => ?_⟩
  refine PySem.W.methodCall_KW (pl := pl) (thn (he.run pins s σ H _ I h) fun u s1 hh => ?_) ht
  obtain ⟨x, H1, I1, rx, ex, q⟩ := hh
  subst ex
  obtain rfl : u = Value.ref C := rx
  obtain ⟨m1, hF⟩ := I1.fr
  obtain ⟨rest, hrec⟩ := hp
  refine PySem.W.method_of_cls hF I1.ok.mod.kin r.ga (PySem.W.cls_sm hF I1.ok.mod.kin ht0 r.rd c hrec rfl ?_)
  have I2 : Inv X pins σ H1 { s1 with toks := s1.toks + 1 } := I1.tok _
  exact PySem.W.callWith_K0 I2.kIn hk (wpAny_call (run_fnR (us := []) (vs := []) F hr hx I2 .nil q))
section
variable {X : Cx}
theorem pairs2 {pins : List (Addr × Obj)} {σ : L2.St} {H : Hp} {s : Shared} (I : Inv X pins σ H s) : ∀ {ps : List Addr} {kvs : List (Key × V)}, Paired (fun p kv => SqT X.K H p [kV kv.1, kv.2]) ps kvs →
    ∃ (prs : List (Key × Value)) (vps : List (Value × Value)), KV kvs prs ∧ prs.length = ps.length ∧ vps.length = ps.length ∧ ∀ (j : Nat) (k v : Value), vps[j]? = some (k, v) → ∃ (key : Key) (b : Addr), prs[j]? = some (key, v) ∧ (mixKind X.prog X.w).is key k = true ∧ ps[j]? = some b ∧ IsTup s.heap b #[k, v]
  | _, _, .nil => ⟨[], [], .nil, rfl, rfl, fun j k v e => by simp at e⟩
  | _, _, .cons (a := p) (b := kv) h t => by
    obtain ⟨prs, vps, r, hl, hl2, hp⟩ := pairs2 I t
    obtain ⟨its, rv, htp, _⟩ := I.tuple h
    obtain ⟨u, y, ei, ru, ry⟩ := vals2 rv
    subst ei
    refine ⟨(kv.1, y) :: prs, (u, y) :: vps, .cons ⟨rfl, ry⟩ r, by rw [List.length_cons, List.length_cons, hl], by rw [List.length_cons, List.length_cons, hl2], fun j k v e => ?_⟩
    cases j with
    | zero =>
      have e1 : (u, y) = (k, v) := Option.some.inj e
      have e2 : u = k := congrArg Prod.fst e1
      have e3 : y = v := congrArg Prod.snd e1
      subst e2 e3
      exact ⟨kv.1, p, rfl, kV_is (P := X.prog) (w := X.w) ru, rfl, htp⟩
    | succ j =>
      obtain ⟨key, b, e1, e2, e3, e4⟩ := hp j k v (by simpa using e)
      exact ⟨key, b, by simpa using e1, e2, by simpa using e3, e4⟩
/-- dict(T), T a written tuple of pairs -/
theorem call_dictT {a : Addr} {ps : List Addr} {o : Obj} {its : Array Value} {n : Nat} (calm : X.calm = true) (hk : X.K.lookup a = some o) (hc : o.cls = .type "tuple") (hd : o.dict = none) (hdat : o.data = .seq its n) (hits : its.toList = ps.map Value.ref) :
    CallR X (.type "dict") (fun xs H Q => ∃ kvs : List (Key × V), xs = [.ref a] ∧ Paired (fun p kv => SqT X.K H p [kV kv.1, kv.2]) ps kvs ∧ ps.length ≤ 1000 ∧ ∀ p, H p = none → Q (.ref p) (upd H p (.dK (mergeK [] kvs)))) := by
  intro pins s σ H xs us Q I r q
  obtain ⟨kvs, rfl, hp, hsz, q⟩ := q
  obtain ⟨u, eu, rx⟩ := vals1 r
  subst eu
  cases rx
  obtain ⟨prs, vps, rel, hl, hl2, hpr⟩ := pairs2 I hp
  have ho := I.kIn a o hk
  have size : its.size = vps.length := by rw [← Array.length_toList, hits, List.length_map, hl2]
  have line : ps.length ≤ sizeLine := Nat.le_trans hsz (by decide)
  refine PySem.call_dict_pairs (knd := mixKind X.prog X.w) (kvs := prs) (PySem.PairArg.tuple a its (fun j => ps.getD j 0) vps) (I.ok.hd calm) ⟨⟨o, n, ho, hc, hd, hdat⟩, size, fun j k v e => ?_⟩ ⟨by rw [hl, hl2], fun j k v e => ?_⟩ (by rw [hl2]; exact line) fun h1 tk hd1 kp => ?_
  · obtain ⟨key, b, e1, e2, e3, e4⟩ := hpr j k v e
    have eb : ps.getD j 0 = b := by rw [List.getD_eq_getElem?_getD, e3]; rfl
    refine ⟨?_, ?_⟩
    · show its[j]? = some (Value.ref (ps.getD j 0))
      rw [eb, ← Array.getElem?_toList, hits, List.getElem?_map, e3]
      rfl
    · show PySem.PairAt s.heap (ps.getD j 0) k v
      rw [eb]
      exact .inl e4
  · obtain ⟨key, b, e1, e2, _, _⟩ := hpr j k v e
    exact ⟨key, e1, e2⟩
  · have hm : (s.heap.objs.size == sysModules) = false := beq_eq_false_iff_ne.mpr (Nat.ne_of_gt I.big)
    have hlen : (mergeK [] kvs).length ≤ sizeLine := by
      refine Nat.le_trans (length_mergeK kvs []) ?_
      rw [List.length_nil, Nat.zero_add, rel.length, hl]
      exact line
    exact ⟨.ref s.heap.objs.size, upd H s.heap.objs.size (.dK (mergeK [] kvs)), I.laid (t' := tk) (fun b u e => kp b u (fun h => nomatch h) e) (Nat.le_refl _) (show ObjOk X.prog X.w _ _ _ (.dK (mergeK [] kvs)) from ⟨hlen, hm, merged [] prs, KV.merge rel .nil, hd1⟩), rfl, q _ (I.hok.fresh (Nat.le_refl _))⟩
end
/-- enumerate over a list or a tuple -/
def iEnum2 (K : PySem.W.Frag) (ta : TA) : TI := fun σ H R => ta σ H fun vs H1 => (∃ a xs, vs = [.ref a] ∧ SqL K H1 a xs ∧ R (Ite K a) H1) ∨ ∃ a xs, vs = [.ref a] ∧ SqT K H1 a xs ∧ R (ItE K a) H1
theorem pi_enum2 {X : Cx} {e : Expr} {ta : TA} {p pos tp : Pos} {el : List Expr} {kk : Nat} (gE : Gl X "enumerate") (mE : X.mg "enumerate" = none) (ha : PA X [e] ta) (hs : starEach [e] X.env = [(false, eval e X.env)] := by rfl) :
    PI X (.Tuple el kk tp) (.Call (.Name "enumerate" p) [e] [] pos) (iEnum2 X.K ta) := by
  refine ⟨fun pins s σ H R J h => ?_⟩
  refine Call_ (ld_blt J gE mE boot_enumerate (PyProof.Rows.callWith_type1 (thn (ha.run pos pins s σ H _ J h) fun us s1 hh => ?_) hs rfl))
  obtain ⟨vs, H1, J1, r1, hh⟩ := hh
  have fpk : ∀ (h1 : Heap), ∀ b ∈ [s1.heap.objs.size + 1, s1.heap.objs.size], FpOk X pins H1 b := fun _ b hb => by
    have hle : s1.heap.objs.size ≤ b := by
      rcases List.mem_cons.mp hb with z | z
      · rw [z]; exact Nat.le_add_right _ _
      · rw [List.mem_singleton.mp z]; exact Nat.le_refl _
    exact J1.fpOk hle (J1.hok.fresh hle)
  rcases hh with ⟨a, xs, ex, hq, q⟩ | ⟨a, xs, ex, hq, q⟩
  · subst ex
    cases r1 with
    | cons r rr =>
      cases rr
      cases r
      obtain ⟨its, rv, p2, hz⟩ := J1.list hq
      refine call_enum1 (begins_list a its.toArray) p2.isList fun h1 he hit hk => wpAny_pyIter_enum he ?_
      have J2 : Inv X pins σ H1 { s1 with heap := h1 } := J1.kept (t' := s1.toks) hk
      exact ⟨s1.heap.objs.size + 1, [s1.heap.objs.size + 1, s1.heap.objs.size], _, _, H1, rfl, J2, turn_enum a (s1.heap.objs.size + 1) s1.heap.objs.size, ⟨⟨.none, he⟩, ⟨_, hit, rfl, rfl⟩, Nat.succ_ne_self _⟩, fpk h1, q⟩
  · subst ex
    cases r1 with
    | cons r rr =>
      cases rr
      cases r
      obtain ⟨its, rv, p2, hz⟩ := J1.tuple hq
      refine call_enum1 (begins_tuple a its.toArray) (show s1.heap.IsTuple a its.toArray from p2) fun h1 he hit hk => wpAny_pyIter_enum he ?_
      have J2 : Inv X pins σ H1 { s1 with heap := h1 } := J1.kept (t' := s1.toks) hk
      exact ⟨s1.heap.objs.size + 1, [s1.heap.objs.size + 1, s1.heap.objs.size], _, _, H1, rfl, J2, turn_enumT a (s1.heap.objs.size + 1) s1.heap.objs.size, ⟨⟨.none, he⟩, ⟨_, hit, rfl, rfl⟩, Nat.succ_ne_self _⟩, fpk h1, q⟩

theorem kit_self {K : PySem.W.Frag} {C : Addr} : PySem.W.kitOne K (.ref C) (.ref C) = some true := if_pos (beq_self_eq_true _)
theorem kit_own {K : PySem.W.Frag} {C : Addr} {n : String} (ic : PySem.W.isClsIn K C = true) (ty : PySem.W.typeIn K (.ref C) = some (.type "type")) (nf : PySem.W.notFirst K C (.type n) = true) : PySem.W.kitOne K (.type n) (.ref C) = some false := by
  have ne : (Value.type n == Value.ref C) = false := by
    rw [beq_eq_false_iff_ne]
    exact fun h => nomatch h
  have e : PySem.W.subIn K (.type n) (.ref C) = some false := by
    rcases Bool.or_eq_true_iff.mp nf with h | h
    · rw [ne] at h
      cases h
    · exact beq_iff_eq.mp h
  have h1 : (PySem.W.clsIn K C).isSome = true := by
    unfold PySem.W.isClsIn at ic
    first | exact ic | (cases h : PySem.W.clsIn K C <;> simp_all)
  unfold PySem.W.kitOne PySem.W.kitCls
  rw [if_neg (by rw [ne]; exact Bool.false_ne_true)]
  show (if ((PySem.W.clsIn K C).isSome && PySem.W.typeIn K (.ref C) == some (.type "type")) = true then PySem.W.subIn K (.type n) (.ref C) else none) = some false
  rw [if_pos (by rw [h1, ty]; rfl)]
  exact e
theorem kit_sub {K : PySem.W.Frag} {C D : Addr} {b : Bool} (ic : PySem.W.isClsIn K D = true) (ty : PySem.W.typeIn K (.ref D) = some (.type "type")) (h : PySem.W.subIn K (.ref C) (.ref D) = some b) (hs : PySem.W.subIn K (.ref C) (.ref C) = some true) : PySem.W.kitOne K (.ref C) (.ref D) = some b := by
  by_cases e : C = D
  · subst e
    rw [hs] at h
    cases h
    exact kit_self
  · have ne : (Value.ref C == Value.ref D) = false := by
      rw [beq_eq_false_iff_ne]
      exact fun h => e (Value.ref.inj h)
    have h1 : (PySem.W.clsIn K D).isSome = true := by
      unfold PySem.W.isClsIn at ic
      first | exact ic | (cases h : PySem.W.clsIn K D <;> simp_all)
    unfold PySem.W.kitOne PySem.W.kitCls
    rw [if_neg (by rw [ne]; exact Bool.false_ne_true)]
    show (if ((PySem.W.clsIn K D).isSome && PySem.W.typeIn K (.ref D) == some (.type "type")) = true then PySem.W.subIn K (.ref C) (.ref D) else none) = some b
    rw [h1, ty]
    exact h
theorem kit_subT {K : PySem.W.Frag} {C : Addr} {n : String} {b : Bool} (m : PySem.W.kitMeta n = true) (h : PySem.W.subIn K (.ref C) (.type n) = some b) : PySem.W.kitOne K (.ref C) (.type n) = some b := by
  have ne : (Value.ref C == Value.type n) = false := by
    rw [beq_eq_false_iff_ne]
    exact fun h => nomatch h
  unfold PySem.W.kitOne PySem.W.kitCls
  rw [if_neg (by rw [ne]; exact Bool.false_ne_true)]
  show (if PySem.W.kitMeta n = true then PySem.W.subIn K (.ref C) (.type n) else none) = some b
  rw [if_pos m]
  exact h

/-- an exception object at a: its class, its own dict -/
def ExK (cls : Value) (dd : Option Addr) (a : Addr) : HO := .ext fun g => ∃ (ob : Obj) (fl : Array Value), g.get? a = some ob ∧ Zc cls dd ob ∧ ob.data = .fields fl
/-! ### data of any kind, what they stand for in a heap -/
inductive U where
  | non | bl (b : Bool) | int (i : Int) | str (z : Str) | ty (n : String) | raw (a : Addr)
  | lst (xs : List U) | fls (xs : List U) | tup (xs : List U)
  | dic (ks : List Key) (xs : List U)
  | dct (ks : List (List Key)) (xs : List U)
  | obj (C : Addr) (ns : List Str) (xs : List U)
  | exo (C : Addr) (ns : List Str) (xs : List U)
mutual
inductive At (K : PySem.W.Frag) (G : Hp) : V → U → Prop
  | non : At K G .non .non
  | bl (b : Bool) : At K G (.bl b) (.bl b)
  | int (i : Int) : At K G (.int i) (.int i)
  | str (z : Str) : At K G (.str z) (.str z)
  | ty (n : String) : At K G (.ty n) (.ty n)
  | raw (a : Addr) : At K G (.ref a) (.raw a)
  | lst {a : Addr} {xs : List V} {ds : List U} : G a = some (.lst xs) → AtAll K G xs ds → At K G (.ref a) (.lst ds)
  | fls {a : Addr} {xs : List V} {ds : List U} : SqL K G a xs → AtAll K G xs ds → At K G (.ref a) (.fls ds)
  | tup {a : Addr} {xs : List V} {ds : List U} : SqT K G a xs → AtAll K G xs ds → At K G (.ref a) (.tup ds)
  | dic {a : Addr} {kvs : List (Key × V)} {ds : List U} : G a = some (.dK kvs) → AtAll K G (kvs.map (·.2)) ds → At K G (.ref a) (.dic (kvs.map (·.1)) ds)
  | dct {a : Addr} {kvs : List (List Key × V)} {ds : List U} : G a = some (.dT kvs) → AtAll K G (kvs.map (·.2)) ds → At K G (.ref a) (.dct (kvs.map (·.1)) ds)
  | obj {a C dx : Addr} {fs : List (Str × V)} {ds : List U} : G a = some (.ins C dx fs) → AtAll K G (fs.map (·.2)) ds → At K G (.ref a) (.obj C (fs.map (·.1)) ds)
  | exo {a C e : Addr} {fs : List (Str × V)} {ds : List U} : G a = some (ExK (.ref C) (some e) a) → G e = some (.xd fs) → AtAll K G (fs.map (·.2)) ds → At K G (.ref a) (.exo C (fs.map (·.1)) ds)
inductive AtAll (K : PySem.W.Frag) (G : Hp) : List V → List U → Prop
  | nil : AtAll K G [] []
  | cons {v : V} {vs : List V} {d : U} {ds : List U} : At K G v d → AtAll K G vs ds → AtAll K G (v :: vs) (d :: ds)
end
theorem sql_same {K : PySem.W.Frag} {H H' : Hp} {a : Addr} {xs : List V} (s : Same H H') (h : SqL K H a xs) : SqL K H' a xs := s.seq h
theorem sqt_same {K : PySem.W.Frag} {H H' : Hp} {a : Addr} {xs : List V} (s : Same H H') (h : SqT K H a xs) : SqT K H' a xs := by
  rcases h with (h | ⟨o, h⟩) | h
  · exact .inl (.inl (s _ _ h))
  · exact .inl (.inr ⟨o, s _ _ h⟩)
  · exact .inr h
section
variable {K : PySem.W.Frag} {G G' : Hp}
mutual
theorem At.mono (s : Same G G') : ∀ (d : U) (v : V), At K G v d → At K G' v d
  | .non, _, h => by cases h; exact .non
  | .bl _, _, h => by cases h; exact .bl _
  | .int _, _, h => by cases h; exact .int _
  | .str _, _, h => by cases h; exact .str _
  | .ty _, _, h => by cases h; exact .ty _
  | .raw _, _, h => by cases h; exact .raw _
  | .lst ds, _, h => by
    cases h with
    | lst hs ha => exact .lst (s _ _ hs) (AtAll.mono s ds _ ha)
  | .fls ds, _, h => by
    cases h with
    | fls hs ha => exact .fls (sql_same s hs) (AtAll.mono s ds _ ha)
  | .tup ds, _, h => by
    cases h with
    | tup hs ha => exact .tup (sqt_same s hs) (AtAll.mono s ds _ ha)
  | .dic ks ds, _, h => by
    cases h with
    | dic hs ha => exact .dic (s _ _ hs) (AtAll.mono s ds _ ha)
  | .dct ks ds, _, h => by
    cases h with
    | dct hs ha => exact .dct (s _ _ hs) (AtAll.mono s ds _ ha)
  | .obj C ns ds, _, h => by
    cases h with
    | obj hs ha => exact .obj (s _ _ hs) (AtAll.mono s ds _ ha)
  | .exo C ns ds, _, h => by
    cases h with
    | exo hs he ha => exact .exo (s _ _ hs) (s _ _ he) (AtAll.mono s ds _ ha)
theorem AtAll.mono (s : Same G G') : ∀ (ds : List U) (vs : List V), AtAll K G vs ds → AtAll K G' vs ds
  | [], _, h => by cases h; exact .nil
  | d :: r, _, h => by
    cases h with
    | cons h1 h2 => exact .cons (At.mono s d _ h1) (AtAll.mono s r _ h2)
end
theorem AtAll.length : ∀ {vs : List V} {ds : List U}, AtAll K G vs ds → vs.length = ds.length
  | _, _, .nil => rfl
  | _, _, .cons _ b => by rw [List.length_cons, List.length_cons, AtAll.length b]
theorem AtAll.append : ∀ {vs ws : List V} {ds es : List U}, AtAll K G vs ds → AtAll K G ws es → AtAll K G (vs ++ ws) (ds ++ es)
  | _, _, _, _, .nil, h => h
  | _, _, _, _, .cons a b, h => .cons a (AtAll.append b h)
theorem AtAll.snoc {vs : List V} {ds : List U} {v : V} {d : U} (h : AtAll K G vs ds) (x : At K G v d) : AtAll K G (vs ++ [v]) (ds ++ [d]) := h.append (.cons x .nil)
theorem AtAll.get : ∀ {vs : List V} {ds : List U} {i : Nat} {v : V}, AtAll K G vs ds → vs[i]? = some v → ∃ d, ds[i]? = some d ∧ At K G v d
  | _, _, _, _, .nil, h => by simp at h
  | _, _, 0, _, .cons a _, h => by
    simp at h
    subst h
    exact ⟨_, rfl, a⟩
  | _, _, i + 1, _, .cons _ b, h => by
    obtain ⟨d, h1, h2⟩ := AtAll.get (i := i) b (by simpa using h)
    exact ⟨d, by simpa using h1, h2⟩
theorem AtAll.get2 : ∀ {vs : List V} {ds : List U} {i : Nat} {d : U}, AtAll K G vs ds → ds[i]? = some d → ∃ v, vs[i]? = some v ∧ At K G v d
  | _, _, _, _, .nil, h => by simp at h
  | _, _, 0, _, .cons a _, h => by
    simp at h
    subst h
    exact ⟨_, rfl, a⟩
  | _, _, i + 1, _, .cons _ b, h => by
    obtain ⟨d, h1, h2⟩ := AtAll.get2 (i := i) b (by simpa using h)
    exact ⟨d, by simpa using h1, h2⟩
theorem AtAll.set : ∀ {vs : List V} {ds : List U} (i : Nat) {v : V} {d : U}, AtAll K G vs ds → At K G v d → AtAll K G (vs.set i v) (ds.set i d)
  | _, _, _, _, _, .nil, _ => .nil
  | _, _, 0, _, _, .cons _ t, x => .cons x t
  | _, _, i + 1, _, _, .cons a t, x => .cons a (AtAll.set i t x)
theorem AtAll.take : ∀ {vs : List V} {ds : List U} (n : Nat), AtAll K G vs ds → AtAll K G (vs.take n) (ds.take n)
  | _, _, 0, _ => by rw [List.take_zero, List.take_zero]; exact .nil
  | _, _, _ + 1, .nil => .nil
  | _, _, n + 1, .cons a t => .cons a (AtAll.take n t)
theorem AtAll.drop : ∀ {vs : List V} {ds : List U} (n : Nat), AtAll K G vs ds → AtAll K G (vs.drop n) (ds.drop n)
  | _, _, 0, h => h
  | _, _, _ + 1, .nil => .nil
  | _, _, n + 1, .cons _ t => AtAll.drop n t
end

/-! ### slots, states -/
/-- what is known of a slot: nothing; a datum, never changed again; an own object of now this content; a borrowed one (the caller's) -/
inductive Sl where
  | un | val (d : U) | own (d : U) | bor (d : U)
def Sl.cell : Sl → Option U
  | .own d => some d
  | .bor d => some d
  | _ => none
abbrev Sls := List Sl
/-- G: what is frozen; ρ: what is known of the slots; σ: the slots; H: the heap -/
structure Sta where
  G : Hp
  ρ : Sls
  σ : L2.St
  H : Hp
/-- what an own object holds -/
inductive Cell (K : PySem.W.Frag) (G : Hp) : HO → U → Prop
  | lst {xs : List V} {ds : List U} : AtAll K G xs ds → Cell K G (.lst xs) (.lst ds)
  | dic {kvs : List (Key × V)} {ds : List U} : AtAll K G (kvs.map (·.2)) ds → Cell K G (.dK kvs) (.dic (kvs.map (·.1)) ds)
  | dct {kvs : List (List Key × V)} {ds : List U} : AtAll K G (kvs.map (·.2)) ds → Cell K G (.dT kvs) (.dct (kvs.map (·.1)) ds)
  | obj {C dx : Addr} {fs : List (Str × V)} {ds : List U} : AtAll K G (fs.map (·.2)) ds → Cell K G (.ins C dx fs) (.obj C (fs.map (·.1)) ds)
theorem Cell.mono {K : PySem.W.Frag} {G G' : Hp} {o : HO} {d : U} (s : Same G G') (h : Cell K G o d) : Cell K G' o d := by
  cases h with
  | lst h => exact .lst (AtAll.mono s _ _ h)
  | dic h => exact .dic (AtAll.mono s _ _ h)
  | dct h => exact .dct (AtAll.mono s _ _ h)
  | obj h => exact .obj (AtAll.mono s _ _ h)
theorem Cell.at {K : PySem.W.Frag} {G : Hp} {a : Addr} {o : HO} {d : U} (h : Cell K G o d) (e : G a = some o) : At K G (.ref a) d := by
  cases h with
  | lst h => exact .lst e h
  | dic h => exact .dic e h
  | dct h => exact .dct e h
  | obj h => exact .obj e h
/-- slot i holds the own object at a -/
def OwnAt (s : Sta) (i : Nat) (a : Addr) : Prop := (∃ (sl : Sl) (d : U), s.ρ[i]? = some sl ∧ sl.cell = some d) ∧ s.σ[i]? = some (some (.ref a))
def Owns (s : Sta) (a : Addr) : Prop := ∃ i, OwnAt s i a
structure Den (K : PySem.W.Frag) (s : Sta) : Prop where
  sub : Same s.G s.H
  len : s.σ.length = s.ρ.length
  val : ∀ (i : Nat) (d : U), s.ρ[i]? = some (.val d) → ∃ v, s.σ[i]? = some (some v) ∧ At K s.G v d
  own : ∀ (i : Nat) (sl : Sl) (d : U), s.ρ[i]? = some sl → sl.cell = some d → ∃ a o, s.σ[i]? = some (some (.ref a)) ∧ s.G a = none ∧ s.H a = some o ∧ Cell K s.G o d
  dis : ∀ (i j : Nat) (a : Addr), OwnAt s i a → OwnAt s j a → i = j
/-- how a later state stands to an earlier one -/
structure Stp (s s' : Sta) : Prop where
  sub : Same s.G s'.G
  fr : ∀ a o, s.H a = some o → ¬ Owns s a → s'.H a = some o
  dom : ∀ a, s'.H a = none → s.H a = none
  own : ∀ a, Owns s' a → Owns s a ∨ s.H a = none
  gfr : ∀ a, s.H a ≠ none → ¬ Owns s a → s.G a = none → s'.G a = none
  bor : ∀ (i : Nat) (d : U), s.ρ[i]? = some (.bor d) → ∃ d' : U, s'.ρ[i]? = some (.bor d') ∧ s'.σ[i]? = s.σ[i]?
theorem Stp.refl (s : Sta) : Stp s s := ⟨fun _ _ h => h, fun _ _ h _ => h, fun _ h => h, fun _ h => .inl h, fun _ _ _ h => h, fun _ d h => ⟨d, h, rfl⟩⟩
theorem Stp.trans {s s1 s2 : Sta} (x : Stp s s1) (y : Stp s1 s2) : Stp s s2 := by
  have no : ∀ a, s.H a ≠ none → ¬ Owns s a → ¬ Owns s1 a := fun a n h z => by
    rcases x.own a z with z | z
    · exact h z
    · exact n z
  refine ⟨x.sub.trans y.sub, fun a o e n => ?_, fun a h => x.dom a (y.dom a h), fun a h => ?_, fun a n1 n2 h => ?_, fun i d h => ?_⟩
  · exact y.fr a o (x.fr a o e n) (no a (by rw [e]; exact fun z => nomatch z) n)
  · rcases y.own a h with h | h
    · exact x.own a h
    · exact .inr (x.dom a h)
  · exact y.gfr a (fun z => n1 (x.dom a z)) (no a n1 n2) (x.gfr a n1 n2 h)
  · obtain ⟨d1, h1, e1⟩ := x.bor i d h
    obtain ⟨d2, h2, e2⟩ := y.bor i d1 h1
    exact ⟨d2, h2, e2.trans e1⟩
/-- what an expression gives: a datum; the own object of a slot; a new own object -/
inductive Av where
  | dt (d : U) | sl (i : Nat) | own (d : U)
def AvOk (K : PySem.W.Frag) (s s' : Sta) (v : V) : Av → Prop
  | .dt d => At K s'.G v d
  | .sl i => s'.σ[i]? = some (some v)
  | .own d => ∃ a o, v = .ref a ∧ s'.H a = some o ∧ s'.G a = none ∧ Cell K s'.G o d ∧ ¬ Owns s' a ∧ (s.H a = none ∨ Owns s a)
/-- within an expression -/
structure Nxt (K : PySem.W.Frag) (s s' : Sta) : Prop where
  stp : Stp s s'
  den : Den K s'
  slots : s'.σ = s.σ
theorem Nxt.refl {K : PySem.W.Frag} {s : Sta} (h : Den K s) : Nxt K s s := ⟨Stp.refl s, h, rfl⟩
theorem Nxt.trans {K : PySem.W.Frag} {s s1 s2 : Sta} (x : Nxt K s s1) (y : Nxt K s1 s2) : Nxt K s s2 := ⟨x.stp.trans y.stp, y.den, y.slots.trans x.slots⟩
theorem AvOk.base {K : PySem.W.Frag} {s s1 s2 : Sta} {v : V} {av : Av} (x : Stp s s1) (h : AvOk K s1 s2 v av) : AvOk K s s2 v av := by
  cases av with
  | dt d => exact h
  | sl i => exact h
  | own d =>
    obtain ⟨a, o, h1, h2, h3, h4, h5, h6⟩ := h
    refine ⟨a, o, h1, h2, h3, h4, h5, ?_⟩
    rcases h6 with h | h
    · exact .inl (x.dom a h)
    · rcases x.own a h with h | h
      · exact .inr h
      · exact .inl h
/-- a datum or a slot stays what it is -/
def Av.flat : Av → Prop
  | .own _ => False
  | _ => True
theorem AvOk.next {K : PySem.W.Frag} {s s1 s2 : Sta} {v : V} {av : Av} (f : av.flat) (y : Nxt K s1 s2) (h : AvOk K s s1 v av) : AvOk K s s2 v av := by
  cases av with
  | dt d => exact At.mono y.stp.sub _ _ h
  | sl i =>
    show s2.σ[i]? = _
    rw [y.slots]
    exact h
  | own d => exact f.elim
/-- errors by their data: an own class with fields -/
structure Er where
  C : Addr
  ns : List Str
  xs : List U
def ErOk (K : PySem.W.Frag) (s' : Sta) (cls : Value) (dd : Option Addr) (e : Er) : Prop :=
  cls = .ref e.C ∧ ∃ d fs, dd = some d ∧ s'.H d = some (.xd fs) ∧ fs.map (·.1) = e.ns ∧ AtAll K s'.G (fs.map (·.2)) e.xs
/-- what is wanted of a raise, at the slots and the heap -/
abbrev Wx := Value → Option Addr → L2.St → Hp → Prop
/-- .. in a state's words -/
def XOk (K : PySem.W.Frag) (s : Sta) (W : Wx) (X : Er → Sls → Prop) : Prop :=
  ∀ cls dd e s', Stp s s' → Den K s' → ErOk K s' cls dd e → X e s'.ρ → W cls dd s'.σ s'.H
theorem XOk.next {K : PySem.W.Frag} {s s1 : Sta} {W : Wx} {X : Er → Sls → Prop} (h : XOk K s W X) (n : Stp s s1) : XOk K s1 W X := fun cls dd e s' n2 d ok x => h cls dd e s' (n.trans n2) d ok x

/-! ### readings of expressions by data -/
def Av.fl : Av → Av
  | .own d => .dt d
  | a => a
theorem fl_flat : ∀ a : Av, a.fl.flat
  | .dt _ => trivial
  | .sl _ => trivial
  | .own _ => trivial
def View (ρ : Sls) : Av → U → Prop
  | .dt d', d => d' = d
  | .sl i, d => ∃ sl, ρ[i]? = some sl ∧ (sl = .val d ∨ sl.cell = some d)
  | .own _, _ => False
section
variable {K : PySem.W.Frag} {W : Wx}
/-- what stands behind a value -/
abbrev Cnt (K : PySem.W.Frag) (s : Sta) (Q : Av → Sls → Prop) (Q0 : VK) : Prop := ∀ v av s', Nxt K s s' → AvOk K s s' v av → Q av s'.ρ → Q0 v s'.H
def WE (K : PySem.W.Frag) (W : Wx) (t : TE) (ρ : Sls) (Q : Av → Sls → Prop) (X : Er → Sls → Prop) : Prop :=
  ∀ (s : Sta) (Q0 : VK), s.ρ = ρ → Den K s → XOk K s W X → Cnt K s Q Q0 → t s.σ s.H Q0
def WT (K : PySem.W.Frag) (W : Wx) (t : TT) (ρ : Sls) (Q : Bool → Sls → Prop) (X : Er → Sls → Prop) : Prop :=
  ∀ (s : Sta) (Q0 : Bool → Hp → Prop), s.ρ = ρ → Den K s → XOk K s W X → (∀ b s', Nxt K s s' → Q b s'.ρ → Q0 b s'.H) → t s.σ s.H Q0
inductive AvsOk (K : PySem.W.Frag) (s : Sta) : List V → List Av → Prop
  | nil : AvsOk K s [] []
  | cons {v : V} {vs : List V} {a : Av} {as : List Av} : a.flat → AvOk K s s v a → AvsOk K s vs as → AvsOk K s (v :: vs) (a :: as)
def WA (K : PySem.W.Frag) (W : Wx) (t : TA) (ρ : Sls) (Q : List Av → Sls → Prop) (X : Er → Sls → Prop) : Prop :=
  ∀ (s : Sta) (Q0 : List V → Hp → Prop), s.ρ = ρ → Den K s → XOk K s W X → (∀ vs avs s', Nxt K s s' → AvsOk K s' vs avs → Q avs s'.ρ → Q0 vs s'.H) → t s.σ s.H Q0
theorem Cnt.lift {s s1 : Sta} {Q : Av → Sls → Prop} {Q0 : VK} (k : Cnt K s Q Q0) (n : Nxt K s s1) : Cnt K s1 Q Q0 := fun v av s' n2 ok q => k v av s' (n.trans n2) (ok.base n.stp) q
theorem AvOk.self {s s1 : Sta} {v : V} {av : Av} (f : av.flat) (h : AvOk K s s1 v av) : AvOk K s1 s1 v av := by
  cases av with
  | dt d => exact h
  | sl i => exact h
  | own d => exact f.elim
theorem AvsOk.next {s1 s2 : Sta} (n : Nxt K s1 s2) : ∀ {vs : List V} {as : List Av}, AvsOk K s1 vs as → AvsOk K s2 vs as
  | _, _, .nil => .nil
  | _, _, .cons f h t => .cons f ((AvOk.next f n h).self f) (AvsOk.next n t)
theorem Owns.with_G {s : Sta} {G : Hp} {a : Addr} (h : Owns { s with G := G } a) : Owns s a := h
/-- a new own object is frozen -/
theorem freeze {s s1 : Sta} {v : V} {d : U} (n : Nxt K s s1) (h : AvOk K s s1 v (.own d)) : ∃ s2, s2.ρ = s1.ρ ∧ s2.H = s1.H ∧ Nxt K s s2 ∧ AvOk K s s2 v (.dt d) := by
  obtain ⟨a, o, rfl, h2, h3, h4, h5, h6⟩ := h
  have sub : Same s1.G (upd s1.G a o) := fun b u e => by
    rw [upd_ne (ne_of_none e h3)]
    exact e
  have nown : ∀ i b, OwnAt s1 i b → b ≠ a := fun i b z e => h5 ⟨i, e ▸ z⟩
  refine ⟨{ s1 with G := upd s1.G a o }, rfl, rfl, ⟨⟨n.stp.sub.trans sub, n.stp.fr, n.stp.dom, n.stp.own, fun b n1 n2 e => ?_, n.stp.bor⟩, ⟨fun b u e => ?_, n.den.len, fun i x e => ?_, fun i sl x e1 e2 => ?_, n.den.dis⟩, n.slots⟩, ?_⟩
  · have ne : b ≠ a := by
      rintro rfl
      rcases h6 with h | h
      · exact n1 h
      · exact n2 h
    show upd s1.G a o b = none
    rw [upd_ne ne]
    exact n.stp.gfr b n1 n2 e
  · have e : upd s1.G a o b = some u := e
    by_cases q : b = a
    · subst q
      rw [upd_same] at e
      cases e
      exact h2
    · rw [upd_ne q] at e
      exact n.den.sub b u e
  · obtain ⟨v, e1, e2⟩ := n.den.val i x e
    exact ⟨v, e1, At.mono sub _ _ e2⟩
  · obtain ⟨b, u, e3, e4, e5, e6⟩ := n.den.own i sl x e1 e2
    refine ⟨b, u, e3, ?_, e5, e6.mono sub⟩
    show upd s1.G a o b = none
    rw [upd_ne (nown i b ⟨⟨sl, x, e1, e2⟩, e3⟩)]
    exact e4
  · exact (h4.mono sub).at upd_same
/-- an operand: what is new is frozen at once -/
theorem WE.flat {t : TE} {ρ : Sls} {Q : Av → Sls → Prop} {X : Er → Sls → Prop} (h : WE K W t ρ (fun av ρ' => Q av.fl ρ') X) {s : Sta} {Q0 : VK} (e : s.ρ = ρ) (d : Den K s) (x : XOk K s W X)
    (k : ∀ v av s', Nxt K s s' → av.flat → AvOk K s' s' v av → Q av s'.ρ → Q0 v s'.H) : t s.σ s.H Q0 := by
  refine h s Q0 e d x fun v av s1 n ok q => ?_
  cases av with
  | dt d => exact k v (.dt d) s1 n trivial ok q
  | sl i => exact k v (.sl i) s1 n trivial ok q
  | own d =>
    obtain ⟨s2, e1, e2, n2, ok2⟩ := freeze n ok
    rw [← e2]
    exact k v (.dt d) s2 n2 trivial ok2 (by rw [e1]; exact q)
theorem view_at {s : Sta} {v : V} {av : Av} {d : U} (D : Den K s) (ok : AvOk K s s v av) (w : View s.ρ av d) : At K s.H v d := by
  cases av with
  | dt d' =>
    obtain rfl : d' = d := w
    exact At.mono D.sub _ _ ok
  | sl i =>
    obtain ⟨sl, e, h⟩ := w
    have ok : s.σ[i]? = some (some v) := ok
    rcases h with rfl | h
    · obtain ⟨v', e1, e2⟩ := D.val i d e
      rw [ok] at e1
      cases e1
      exact At.mono D.sub _ _ e2
    · obtain ⟨a, o, e1, _, e3, e4⟩ := D.own i sl d e h
      rw [ok] at e1
      cases e1
      exact (e4.mono D.sub).at e3
  | own _ => exact w.elim
/-- the items of what is looked at: data for ever -/
theorem view_items {s : Sta} {v : V} {av : Av} {d : U} (D : Den K s) (ok : AvOk K s s v av) (w : View s.ρ av d) :
    At K s.G v d ∨ ∃ a o, v = .ref a ∧ s.H a = some o ∧ Cell K s.G o d := by
  cases av with
  | dt d' =>
    obtain rfl : d' = d := w
    exact .inl ok
  | sl i =>
    obtain ⟨sl, e, h⟩ := w
    have ok : s.σ[i]? = some (some v) := ok
    rcases h with rfl | h
    · obtain ⟨v', e1, e2⟩ := D.val i d e
      rw [ok] at e1
      cases e1
      exact .inl e2
    · obtain ⟨a, o, e1, _, e3, e4⟩ := D.own i sl d e h
      rw [ok] at e1
      cases e1
      exact .inr ⟨a, o, rfl, e3, e4⟩
  | own _ => exact w.elim
theorem view_list {s : Sta} {v : V} {av : Av} {ds : List U} (D : Den K s) (ok : AvOk K s s v av) (w : View s.ρ av (.lst ds)) : ∃ a xs, v = .ref a ∧ s.H a = some (.lst xs) ∧ AtAll K s.G xs ds := by
  rcases view_items D ok w with h | ⟨a, o, rfl, h1, h2⟩
  · cases h with
    | lst hs ha => exact ⟨_, _, rfl, D.sub _ _ hs, ha⟩
  · cases h2 with
    | lst h2 => exact ⟨a, _, rfl, h1, h2⟩
theorem view_tup {s : Sta} {v : V} {av : Av} {ds : List U} (D : Den K s) (ok : AvOk K s s v av) (w : View s.ρ av (.tup ds)) : ∃ a xs, v = .ref a ∧ SqT K s.H a xs ∧ AtAll K s.G xs ds := by
  rcases view_items D ok w with h | ⟨a, o, rfl, h1, h2⟩
  · cases h with
    | tup hs ha => exact ⟨_, _, rfl, sqt_same D.sub hs, ha⟩
  · cases h2
/-- plain data come as they are -/
theorem at_int {s : Sta} {v : V} {i : Int} (h : AvOk K s s v (.dt (.int i))) : v = .int i := by
  have h : At K s.G v (.int i) := h
  cases h
  rfl
theorem at_str {s : Sta} {v : V} {z : Str} (h : AvOk K s s v (.dt (.str z))) : v = .str z := by
  have h : At K s.G v (.str z) := h
  cases h
  rfl
theorem at_bl {s : Sta} {v : V} {b : Bool} (h : AvOk K s s v (.dt (.bl b))) : v = .bl b := by
  have h : At K s.G v (.bl b) := h
  cases h
  rfl
theorem at_non {s : Sta} {v : V} (h : AvOk K s s v (.dt .non)) : v = .non := by
  have h : At K s.G v .non := h
  cases h
  rfl
/-! ### names, constants -/
variable {X : Er → Sls → Prop} {ρ : Sls}
theorem we_val {i : Nat} {d : U} {Q : Av → Sls → Prop} (e : ρ[i]? = some (.val d)) (q : Q (.dt d) ρ) : WE K W (tVar i) ρ Q X := by
  rintro s Q0 rfl D _ k
  obtain ⟨v, e1, e2⟩ := D.val i d e
  exact ⟨v, e1, k v (.dt d) s (Nxt.refl D) e2 q⟩
theorem we_slot {i : Nat} {sl : Sl} {d : U} {Q : Av → Sls → Prop} (e : ρ[i]? = some sl) (c : sl.cell = some d) (q : Q (.sl i) ρ) : WE K W (tVar i) ρ Q X := by
  rintro s Q0 rfl D _ k
  obtain ⟨a, o, e1, _⟩ := D.own i sl d e c
  exact ⟨_, e1, k _ (.sl i) s (Nxt.refl D) e1 q⟩
theorem we_own {i : Nat} {d : U} {Q : Av → Sls → Prop} (e : ρ[i]? = some (.own d)) (q : Q (.sl i) ρ) : WE K W (tVar i) ρ Q X := we_slot e rfl q
theorem we_bor {i : Nat} {d : U} {Q : Av → Sls → Prop} (e : ρ[i]? = some (.bor d)) (q : Q (.sl i) ρ) : WE K W (tVar i) ρ Q X := we_slot e rfl q
theorem we_c {v : V} {d : U} {Q : Av → Sls → Prop} (h : ∀ G, At K G v d) (q : Q (.dt d) ρ) : WE K W (tC v) ρ Q X := by
  rintro s Q0 rfl D _ k
  exact k v (.dt d) s (Nxt.refl D) (h _) q
theorem we_int {i : Int} {Q : Av → Sls → Prop} (q : Q (.dt (.int i)) ρ) : WE K W (tC (.int i)) ρ Q X := we_c (fun _ => .int i) q
theorem we_str {z : Str} {Q : Av → Sls → Prop} (q : Q (.dt (.str z)) ρ) : WE K W (tC (.str z)) ρ Q X := we_c (fun _ => .str z) q
theorem we_bl {b : Bool} {Q : Av → Sls → Prop} (q : Q (.dt (.bl b)) ρ) : WE K W (tC (.bl b)) ρ Q X := we_c (fun _ => .bl b) q
theorem we_non {Q : Av → Sls → Prop} (q : Q (.dt .non) ρ) : WE K W (tC .non) ρ Q X := we_c (fun _ => .non) q
theorem we_ty {n : String} {Q : Av → Sls → Prop} (q : Q (.dt (.ty n)) ρ) : WE K W (tC (.ty n)) ρ Q X := we_c (fun _ => .ty n) q
theorem we_raw {a : Addr} {Q : Av → Sls → Prop} (q : Q (.dt (.raw a)) ρ) : WE K W (tC (.ref a)) ρ Q X := we_c (fun _ => .raw a) q
/-! ### operators, by values -/
def WR (K : PySem.W.Frag) (W : Wx) (r : R2) (a b : Av) (ρ : Sls) (Q : Av → Sls → Prop) (X : Er → Sls → Prop) : Prop :=
  ∀ (s : Sta) (v w : V) (Q0 : VK), s.ρ = ρ → Den K s → XOk K s W X → AvOk K s s v a → AvOk K s s w b → Cnt K s Q Q0 → r v w s.H Q0
theorem we_op {r : R2} {ta tb : TE} {Q : Av → Sls → Prop} (h : WE K W ta ρ (fun a ρ1 => WE K W tb ρ1 (fun b ρ2 => WR K W r a.fl b.fl ρ2 Q X) X) X) : WE K W (tOp r ta tb) ρ Q X := by
  rintro s Q0 rfl D x k
  refine WE.flat (Q := fun a ρ1 => WE K W tb ρ1 (fun b ρ2 => WR K W r a b.fl ρ2 Q X) X) h rfl D x fun v a s1 n1 f1 ok1 q1 => ?_
  show tb s.σ s1.H _
  rw [← n1.slots]
  refine WE.flat (Q := fun b ρ2 => WR K W r a b ρ2 Q X) q1 rfl n1.den (x.next n1.stp) fun w b s2 n2 f2 ok2 q2 => ?_
  exact q2 s2 v w Q0 rfl n2.den (x.next (n1.trans n2).stp) ((AvOk.next f1 n2 ok1).self f1) ok2 (k.lift (n1.trans n2))
/-- a rule that leaves the heap and gives a datum -/
theorem wr_pure {r : R2} {a b : Av} {d : U} {Q : Av → Sls → Prop} (h : ∀ s v w (Q0 : VK), s.ρ = ρ → Den K s → AvOk K s s v a → AvOk K s s w b → (∀ u, At K s.G u d → Q0 u s.H) → r v w s.H Q0) (q : Q (.dt d) ρ) : WR K W r a b ρ Q X := by
  rintro s v w Q0 rfl D x ok1 ok2 k
  exact h s v w Q0 rfl D ok1 ok2 fun u hu => k u (.dt d) s (Nxt.refl D) hu q
/-! ### tests -/
theorem wt_test {t : TE} {Q : Bool → Sls → Prop} (h : WE K W t ρ (fun a ρ1 => ∃ b, a = .dt (.bl b) ∧ Q b ρ1) X) : WT K W (tTest t) ρ Q X := by
  rintro s Q0 rfl D x k
  refine h s _ rfl D x fun v av s1 n ok ⟨b, e, q⟩ => ?_
  subst e
  have ok : At K s1.G v (.bl b) := ok
  cases ok
  exact ⟨b, rfl, k b s1 n q⟩
theorem wt_b {t : TE} {Q : Bool → Sls → Prop} (h : WE K W t ρ (fun a ρ1 => ∃ b, a = .dt (.bl b) ∧ Q b ρ1) X) : WT K W (tB t) ρ Q X := by
  rintro s Q0 rfl D x k
  refine h s _ rfl D x fun v av s1 n ok ⟨b, e, q⟩ => ?_
  subst e
  have ok : At K s1.G v (.bl b) := ok
  cases ok
  exact ⟨b, rfl, k b s1 n q⟩
theorem WT.go {t : TT} {Q : Bool → Sls → Prop} (h : WT K W t ρ Q X) {s s1 : Sta} {Q0 : Bool → Hp → Prop} (n : Nxt K s s1) (e : s1.ρ = ρ) (x : XOk K s W X) (k : ∀ b s', Nxt K s s' → Q b s'.ρ → Q0 b s'.H) : t s.σ s1.H Q0 := by
  rw [← n.slots]
  exact h s1 Q0 e n.den (x.next n.stp) fun b s2 n2 q => k b s2 (n.trans n2) q
theorem WE.go {t : TE} {Q : Av → Sls → Prop} (h : WE K W t ρ Q X) {s s1 : Sta} {Q0 : VK} (n : Nxt K s s1) (e : s1.ρ = ρ) (x : XOk K s W X) (k : Cnt K s Q Q0) : t s.σ s1.H Q0 := by
  rw [← n.slots]
  exact h s1 Q0 e n.den (x.next n.stp) (k.lift n)
theorem wt_and {t u : TT} {Q : Bool → Sls → Prop} (h : WT K W t ρ (fun b ρ1 => if b = true then WT K W u ρ1 Q X else Q false ρ1) X) : WT K W (tAnd t u) ρ Q X := by
  rintro s Q0 rfl D x k
  refine h s _ rfl D x fun b s1 n q => ?_
  cases b with
  | true => exact iteT ((show WT K W u s1.ρ Q X by simpa using q).go n rfl x k)
  | false => exact iteF (k false s1 n (by simpa using q))
theorem wt_or {t u : TT} {Q : Bool → Sls → Prop} (h : WT K W t ρ (fun b ρ1 => if b = true then Q true ρ1 else WT K W u ρ1 Q X) X) : WT K W (tOr t u) ρ Q X := by
  rintro s Q0 rfl D x k
  refine h s _ rfl D x fun b s1 n q => ?_
  cases b with
  | true => exact iteT (k true s1 n (by simpa using q))
  | false => exact iteF ((show WT K W u s1.ρ Q X by simpa using q).go n rfl x k)
theorem wt_not {t : TT} {Q : Bool → Sls → Prop} (h : WT K W t ρ (fun b ρ1 => Q (!b) ρ1) X) : WT K W (tNot t) ρ Q X := by
  rintro s Q0 rfl D x k
  exact h s _ rfl D x fun b s1 n q => k (!b) s1 n q
theorem wt_yes {Q : Bool → Sls → Prop} (q : Q true ρ) : WT K W tYes ρ Q X := by
  rintro s Q0 rfl D x k
  exact k true s (Nxt.refl D) q
theorem we_if {c : TT} {ta tb : TE} {Q : Av → Sls → Prop} (h : WT K W c ρ (fun b ρ1 => if b = true then WE K W ta ρ1 Q X else WE K W tb ρ1 Q X) X) : WE K W (tIf c ta tb) ρ Q X := by
  rintro s Q0 rfl D x k
  refine h s _ rfl D x fun b s1 n q => ?_
  cases b with
  | true => exact iteT ((show WE K W ta s1.ρ Q X by simpa using q).go n rfl x k)
  | false => exact iteF ((show WE K W tb s1.ρ Q X by simpa using q).go n rfl x k)
theorem we_isN {t : TE} {Q : Av → Sls → Prop} (h : WE K W t ρ (fun a ρ1 => ∃ b, (∀ (s : Sta) v, s.ρ = ρ1 → Den K s → AvOk K s s v a.fl → decide (v = .non) = b) ∧ Q (.dt (.bl b)) ρ1) X) : WE K W (tIsN t) ρ Q X := by
  rintro s Q0 rfl D x k
  refine WE.flat (Q := fun a ρ1 => ∃ b, (∀ (s : Sta) v, s.ρ = ρ1 → Den K s → AvOk K s s v a → decide (v = .non) = b) ∧ Q (.dt (.bl b)) ρ1) h rfl D x fun v av s1 n f ok ⟨b, e, q⟩ => ?_
  rw [e s1 v rfl n.den ok]
  exact k _ (.dt (.bl b)) s1 n (At.bl b) q
/-! ### argument lists, displays -/
theorem wa_nil {Q : List Av → Sls → Prop} (q : Q [] ρ) : WA K W tNil ρ Q X := by
  rintro s Q0 rfl D x k
  exact k [] [] s (Nxt.refl D) .nil q
theorem wa_cons {te : TE} {tr : TA} {Q : List Av → Sls → Prop} (h : WE K W te ρ (fun a ρ1 => WA K W tr ρ1 (fun as ρ2 => Q (a.fl :: as) ρ2) X) X) : WA K W (tCons te tr) ρ Q X := by
  rintro s Q0 rfl D x k
  refine WE.flat (Q := fun a ρ1 => WA K W tr ρ1 (fun as ρ2 => Q (a :: as) ρ2) X) h rfl D x fun v a s1 n1 f1 ok1 q1 => ?_
  show tr s.σ s1.H _
  rw [← n1.slots]
  exact q1 s1 _ rfl n1.den (x.next n1.stp) fun vs as s2 n2 ok2 q2 => k _ _ s2 (n1.trans n2) (.cons f1 ((AvOk.next f1 n2 ok1).self f1) ok2) q2
end

/-! ### states: new objects, slots frozen, slots stored -/
section
variable {K : PySem.W.Frag} {W : Wx}
theorem Den.free {s : Sta} {a : Addr} (D : Den K s) (h : s.H a = none) : s.G a = none ∧ ¬ Owns s a := by
  refine ⟨D.sub.free h, ?_⟩
  rintro ⟨i, ⟨sl, d, e1, e2⟩, e3⟩
  obtain ⟨b, o, e4, _, e5, _⟩ := D.own i sl d e1 e2
  rw [e3] at e4
  cases e4
  rw [h] at e5
  cases e5
/-- a new object is laid -/
theorem lay {s : Sta} {p : Addr} {o : HO} (D : Den K s) (h : s.H p = none) : Nxt K s { s with H := upd s.H p o } := by
  have nn : ∀ {b : Addr} {u : HO}, s.H b = some u → upd s.H p o b = some u := fun {b u} e => by
    rw [upd_ne (ne_of_none e h)]
    exact e
  refine ⟨⟨fun _ _ e => e, fun a u e _ => nn e, fun a e => ?_, fun _ h => .inl h, fun _ _ _ e => e, fun _ d e => ⟨d, e, rfl⟩⟩, ⟨fun b u e => nn (D.sub b u e), D.len, D.val, fun i sl d e1 e2 => ?_, D.dis⟩, rfl⟩
  · have e : upd s.H p o a = none := e
    by_cases q : a = p
    · rw [q, upd_same] at e
      cases e
    · rw [upd_ne q] at e
      exact e
  · obtain ⟨a, u, e3, e4, e5, e6⟩ := D.own i sl d e1 e2
    exact ⟨a, u, e3, e4, nn e5, e6⟩
/-- .. and frozen -/
theorem layF {s : Sta} {p : Addr} {o : HO} (D : Den K s) (h : s.H p = none) : Nxt K s { s with H := upd s.H p o, G := upd s.G p o } ∧ Same s.G (upd s.G p o) := by
  have n := lay (o := o) D h
  obtain ⟨g, no⟩ := D.free h
  have sub : Same s.G (upd s.G p o) := fun b u e => by
    rw [upd_ne (ne_of_none e g)]
    exact e
  refine ⟨⟨⟨sub, n.stp.fr, n.stp.dom, n.stp.own, fun b n1 n2 e => ?_, n.stp.bor⟩, ⟨fun b u e => ?_, n.den.len, fun i x e => ?_, fun i sl x e1 e2 => ?_, n.den.dis⟩, rfl⟩, sub⟩
  · show upd s.G p o b = none
    rw [upd_ne (fun q => n1 (by rw [q]; exact h))]
    exact e
  · have e : upd s.G p o b = some u := e
    show upd s.H p o b = some u
    by_cases q : b = p
    · subst q
      rw [upd_same] at e ⊢
      exact e
    · rw [upd_ne q] at e ⊢
      exact D.sub b u e
  · obtain ⟨v, e1, e2⟩ := D.val i x e
    exact ⟨v, e1, At.mono sub _ _ e2⟩
  · obtain ⟨b, u, e3, e4, e5, e6⟩ := n.den.own i sl x e1 e2
    refine ⟨b, u, e3, ?_, e5, e6.mono sub⟩
    show upd s.G p o b = none
    rw [upd_ne ?_]
    · exact e4
    · rintro rfl
      exact no ⟨i, ⟨sl, x, e1, e2⟩, e3⟩
theorem lt_of_get {α : Type} {xs : List α} {i : Nat} {x : α} (e : xs[i]? = some x) : i < xs.length := (List.getElem?_eq_some_iff.mp e).1
theorem get_set {α : Type} {xs : List α} {i j : Nat} {x y : α} (e : (xs.set i x)[j]? = some y) : (j = i ∧ y = x ∧ i < xs.length) ∨ (j ≠ i ∧ xs[j]? = some y) := by
  by_cases h : j = i
  · subst h
    have l : j < xs.length := by
      have := lt_of_get e
      rw [List.length_set] at this
      exact this
    rw [List.getElem?_set_self l] at e
    exact .inl ⟨rfl, (Option.some.inj e).symm, l⟩
  · rw [List.getElem?_set_ne (Ne.symm h)] at e
    exact .inr ⟨h, e⟩
/-- a slot of which less is known -/
theorem Den.weak {s : Sta} {i : Nat} {x : Sl} (D : Den K s) (hx : x = .un ∨ ∃ d, x = .val d ∧ ∃ v, s.σ[i]? = some (some v) ∧ At K s.G v d) : Den K { s with ρ := s.ρ.set i x } := by
  refine ⟨D.sub, by show s.σ.length = (s.ρ.set i x).length; rw [List.length_set]; exact D.len, fun j d e => ?_, fun j sl d e1 e2 => ?_, fun j k a h1 h2 => ?_⟩
  · rcases get_set e with ⟨rfl, rfl, _⟩ | ⟨_, e⟩
    · rcases hx with hx | ⟨d', hx, v, h1, h2⟩
      · cases hx
      · cases hx
        exact ⟨v, h1, h2⟩
    · exact D.val j d e
  · rcases get_set e1 with ⟨rfl, rfl, _⟩ | ⟨_, e⟩
    · rcases hx with rfl | ⟨d', rfl, _⟩
      · cases e2
      · cases e2
    · exact D.own j sl d e e2
  · have f : ∀ {j a}, OwnAt { s with ρ := s.ρ.set i x } j a → OwnAt s j a := fun {j a} h => by
      obtain ⟨⟨sl, d, e1, e2⟩, e3⟩ := h
      rcases get_set e1 with ⟨rfl, rfl, _⟩ | ⟨_, e⟩
      · rcases hx with rfl | ⟨d', rfl, _⟩
        · cases e2
        · cases e2
      · exact ⟨⟨sl, d, e, e2⟩, e3⟩
    exact D.dis j k a (f h1) (f h2)
theorem Owns.weak {s : Sta} {i : Nat} {x : Sl} {G : Hp} (hx : x.cell = none) {a : Addr} (h : Owns { s with ρ := s.ρ.set i x, G := G } a) : Owns s a ∧ ∃ j, j ≠ i ∧ OwnAt s j a := by
  obtain ⟨j, ⟨sl, d, e1, e2⟩, e3⟩ := h
  rcases get_set e1 with ⟨rfl, rfl, _⟩ | ⟨n, e⟩
  · rw [hx] at e2
    cases e2
  · exact ⟨⟨j, ⟨sl, d, e, e2⟩, e3⟩, j, n, ⟨sl, d, e, e2⟩, e3⟩
/-- an own slot is frozen where it is -/
theorem freeze_slot {s : Sta} {i : Nat} {d : U} (D : Den K s) (e : s.ρ[i]? = some (.own d)) : ∃ G, Nxt K s { s with G := G, ρ := s.ρ.set i (.val d) } ∧ Same s.G G ∧ ∃ v, s.σ[i]? = some (some v) ∧ At K G v d := by
  obtain ⟨a, o, e1, e2, e3, e4⟩ := D.own i _ d e rfl
  have oa : OwnAt s i a := ⟨⟨_, d, e, rfl⟩, e1⟩
  have sub : Same s.G (upd s.G a o) := fun b u q => by
    rw [upd_ne (ne_of_none q e2)]
    exact q
  have atd : At K (upd s.G a o) (.ref a) d := (e4.mono sub).at upd_same
  refine ⟨upd s.G a o, ⟨⟨sub, fun b u q _ => q, fun b q => q, fun b h => .inl (Owns.weak rfl h).1, fun b n1 n2 q => ?_, fun j x q => ?_⟩, ⟨fun b u q => ?_, ?_, fun j x q => ?_, fun j sl x q1 q2 => ?_, fun j k b h1 h2 => ?_⟩, rfl⟩, sub, .ref a, e1, atd⟩
  · show upd s.G a o b = none
    rw [upd_ne (fun h => n2 (by rw [h]; exact ⟨i, oa⟩))]
    exact q
  · refine ⟨x, ?_, rfl⟩
    show (s.ρ.set i (.val d))[j]? = _
    rw [List.getElem?_set_ne (fun h => by rw [← h, e] at q; cases q)]
    exact q
  · have q : upd s.G a o b = some u := q
    by_cases h : b = a
    · subst h
      rw [upd_same] at q
      cases q
      exact e3
    · rw [upd_ne h] at q
      exact D.sub b u q
  · show s.σ.length = (s.ρ.set i (.val d)).length
    rw [List.length_set]
    exact D.len
  · rcases get_set q with ⟨rfl, h, _⟩ | ⟨_, q⟩
    · cases h
      exact ⟨.ref a, e1, atd⟩
    · obtain ⟨v, h1, h2⟩ := D.val j x q
      exact ⟨v, h1, At.mono sub _ _ h2⟩
  · rcases get_set q1 with ⟨rfl, h, _⟩ | ⟨n, q⟩
    · subst h
      cases q2
    · obtain ⟨b, u, h1, h2, h3, h4⟩ := D.own j sl x q q2
      refine ⟨b, u, h1, ?_, h3, h4.mono sub⟩
      show upd s.G a o b = none
      rw [upd_ne ?_]
      · exact h2
      · rintro rfl
        exact n (D.dis j i b ⟨⟨sl, x, q, q2⟩, h1⟩ oa)
  · have f : ∀ {j b}, OwnAt { s with G := upd s.G a o, ρ := s.ρ.set i (.val d) } j b → OwnAt s j b := fun {j b} h => by
      obtain ⟨⟨sl, x, q1, q2⟩, q3⟩ := h
      rcases get_set q1 with ⟨rfl, h, _⟩ | ⟨n, q⟩
      · subst h
        cases q2
      · exact ⟨⟨sl, x, q, q2⟩, q3⟩
    exact D.dis j k b (f h1) (f h2)
/-- is no borrowed slot -/
def nb (ρ : Sls) (i : Nat) : Bool := match ρ[i]? with
  | some (.bor _) => false
  | some _ => true
  | none => false
theorem nb_lt {ρ : Sls} {i : Nat} (h : nb ρ i = true) : i < ρ.length ∧ ∀ d, ρ[i]? ≠ some (.bor d) := by
  unfold nb at h
  cases e : ρ[i]? with
  | none => rw [e] at h; cases h
  | some x =>
    refine ⟨lt_of_get e, fun d q => ?_⟩
    cases q
    rw [e] at h
    cases h
/-- a slot is stored: a datum -/
theorem put_val {s : Sta} {i : Nat} {v : V} {d : U} (D : Den K s) (h : nb s.ρ i = true) (hv : At K s.G v d) : Stp s { s with ρ := s.ρ.set i (.val d), σ := s.σ.set i (some v) } ∧ Den K { s with ρ := s.ρ.set i (.val d), σ := s.σ.set i (some v) } := by
  obtain ⟨hl, hb⟩ := nb_lt h
  have hl2 : i < s.σ.length := by rw [D.len]; exact hl
  have f : ∀ {j b}, OwnAt { s with ρ := s.ρ.set i (.val d), σ := s.σ.set i (some v) } j b → j ≠ i ∧ OwnAt s j b := fun {j b} h => by
    obtain ⟨⟨sl, x, q1, q2⟩, q3⟩ := h
    rcases get_set q1 with ⟨rfl, h, _⟩ | ⟨n, q⟩
    · subst h
      cases q2
    · refine ⟨n, ⟨sl, x, q, q2⟩, ?_⟩
      rcases get_set q3 with ⟨h, _⟩ | ⟨_, q3⟩
      · exact absurd h n
      · exact q3
  refine ⟨⟨fun _ _ e => e, fun _ _ e _ => e, fun _ e => e, fun b ⟨j, h⟩ => .inl ⟨j, (f h).2⟩, fun _ _ _ e => e, fun j x e => ?_⟩, ⟨D.sub, ?_, fun j x e => ?_, fun j sl x e1 e2 => ?_, fun j k b h1 h2 => D.dis j k b (f h1).2 (f h2).2⟩⟩
  · have n : i ≠ j := fun q => hb x (by rw [q]; exact e)
    exact ⟨x, by show (s.ρ.set i _)[j]? = _; rw [List.getElem?_set_ne n]; exact e, by show (s.σ.set i _)[j]? = _; rw [List.getElem?_set_ne n]⟩
  · show (s.σ.set i (some v)).length = (s.ρ.set i (.val d)).length
    rw [List.length_set, List.length_set]
    exact D.len
  · rcases get_set e with ⟨rfl, h, _⟩ | ⟨n, e⟩
    · cases h
      exact ⟨v, List.getElem?_set_self hl2, hv⟩
    · obtain ⟨u, h1, h2⟩ := D.val j x e
      exact ⟨u, by show (s.σ.set i _)[j]? = _; rw [List.getElem?_set_ne (Ne.symm n)]; exact h1, h2⟩
  · rcases get_set e1 with ⟨rfl, h, _⟩ | ⟨n, e⟩
    · subst h
      cases e2
    · obtain ⟨b, u, h1, h2, h3, h4⟩ := D.own j sl x e e2
      exact ⟨b, u, by show (s.σ.set i _)[j]? = _; rw [List.getElem?_set_ne (Ne.symm n)]; exact h1, h2, h3, h4⟩
/-- .. a new own object -/
theorem put_own {s0 s : Sta} {i : Nat} {v : V} {d : U} (n0 : Stp s0 s) (D : Den K s) (h : nb s.ρ i = true) (hv : AvOk K s0 s v (.own d)) : Stp s0 { s with ρ := s.ρ.set i (.own d), σ := s.σ.set i (some v) } ∧ Den K { s with ρ := s.ρ.set i (.own d), σ := s.σ.set i (some v) } := by
  obtain ⟨a, o, rfl, v2, v3, v4, v5, v6⟩ := hv
  obtain ⟨hl, hb⟩ := nb_lt h
  have hl2 : i < s.σ.length := by rw [D.len]; exact hl
  have f : ∀ {j b}, OwnAt { s with ρ := s.ρ.set i (.own d), σ := s.σ.set i (some (.ref a)) } j b → (j = i ∧ b = a) ∨ (j ≠ i ∧ OwnAt s j b) := fun {j b} h => by
    obtain ⟨⟨sl, x, q1, q2⟩, q3⟩ := h
    rcases get_set q3 with ⟨rfl, h, _⟩ | ⟨n, q3⟩
    · cases h
      exact .inl ⟨rfl, rfl⟩
    · rcases get_set q1 with ⟨h, _⟩ | ⟨_, q⟩
      · exact absurd h n
      · exact .inr ⟨n, ⟨sl, x, q, q2⟩, q3⟩
  refine ⟨⟨n0.sub, n0.fr, n0.dom, fun b ⟨j, h⟩ => ?_, n0.gfr, fun j x e => ?_⟩, ⟨D.sub, ?_, fun j x e => ?_, fun j sl x e1 e2 => ?_, fun j k b h1 h2 => ?_⟩⟩
  · rcases f h with ⟨_, rfl⟩ | ⟨_, h⟩
    · exact v6.elim .inr .inl
    · exact n0.own b ⟨j, h⟩
  · obtain ⟨x', e1, e2⟩ := n0.bor j x e
    have n : i ≠ j := fun q => hb x' (by rw [q]; exact e1)
    exact ⟨x', by show (s.ρ.set i _)[j]? = _; rw [List.getElem?_set_ne n]; exact e1, by show (s.σ.set i _)[j]? = _; rw [List.getElem?_set_ne n]; exact e2⟩
  · show (s.σ.set i _).length = (s.ρ.set i _).length
    rw [List.length_set, List.length_set]
    exact D.len
  · rcases get_set e with ⟨rfl, h, _⟩ | ⟨n, e⟩
    · cases h
    · obtain ⟨u, h1, h2⟩ := D.val j x e
      exact ⟨u, by show (s.σ.set i _)[j]? = _; rw [List.getElem?_set_ne (Ne.symm n)]; exact h1, h2⟩
  · rcases get_set e1 with ⟨rfl, h, _⟩ | ⟨n, e⟩
    · subst h
      cases e2
      exact ⟨a, o, List.getElem?_set_self hl2, v3, v2, v4⟩
    · obtain ⟨b, u, h1, h2, h3, h4⟩ := D.own j sl x e e2
      exact ⟨b, u, by show (s.σ.set i _)[j]? = _; rw [List.getElem?_set_ne (Ne.symm n)]; exact h1, h2, h3, h4⟩
  · rcases f h1 with ⟨rfl, rfl⟩ | ⟨m1, h1⟩ <;> rcases f h2 with ⟨hk, hba⟩ | ⟨m2, h2⟩
    · exact hk.symm
    · exact absurd ⟨k, h2⟩ v5
    · exact absurd ⟨j, hba ▸ h1⟩ v5
    · exact D.dis j k b h1 h2
/-! ### displays -/
/-- own slots among operands are frozen; what they are then -/
inductive Frz : Sls → List Av → List U → Sls → Prop
  | nil {ρ : Sls} : Frz ρ [] [] ρ
  | dt {ρ ρ' : Sls} {d : U} {as : List Av} {ds : List U} : Frz ρ as ds ρ' → Frz ρ (.dt d :: as) (d :: ds) ρ'
  | sl {ρ ρ' : Sls} {i : Nat} {d : U} {as : List Av} {ds : List U} : ρ[i]? = some (.own d) → Frz (ρ.set i (.val d)) as ds ρ' → Frz ρ (.sl i :: as) (d :: ds) ρ'
  | va {ρ ρ' : Sls} {i : Nat} {d : U} {as : List Av} {ds : List U} : ρ[i]? = some (.val d) → Frz ρ as ds ρ' → Frz ρ (.sl i :: as) (d :: ds) ρ'
theorem Frz.run : ∀ {ρ ρ' : Sls} {as : List Av} {ds : List U}, Frz ρ as ds ρ' → ∀ {s : Sta} {vs : List V}, s.ρ = ρ → Den K s → AvsOk K s vs as → ∃ s2, s2.ρ = ρ' ∧ s2.H = s.H ∧ Nxt K s s2 ∧ AtAll K s2.G vs ds
  | _, _, _, _, .nil, s, _, e, D, .nil => ⟨s, e, rfl, Nxt.refl D, .nil⟩
  | _, _, _, _, .dt f, s, _, e, D, .cons _ h t => by
    obtain ⟨s2, e1, e2, n, q⟩ := Frz.run f e D t
    exact ⟨s2, e1, e2, n, .cons (At.mono n.stp.sub _ _ h) q⟩
  | _, _, _, _, .sl (i := i) e0 f, s, _, e, D, .cons _ h t => by
    subst e
    obtain ⟨G, n, sub, v, h1, h2⟩ := freeze_slot D e0
    obtain ⟨s2, e1, e2, n2, q⟩ := Frz.run f (s := { s with G := G, ρ := s.ρ.set i _ }) rfl n.den (AvsOk.next n t)
    have h : s.σ[i]? = some (some _) := h
    rw [h] at h1
    cases h1
    exact ⟨s2, e1, e2, n.trans n2, .cons (At.mono n2.stp.sub _ _ h2) q⟩
  | _, _, _, _, .va (i := i) e0 f, s, _, e, D, .cons _ h t => by
    subst e
    obtain ⟨s2, e1, e2, n, q⟩ := Frz.run f rfl D t
    have h : s.σ[i]? = some (some _) := h
    obtain ⟨v, h1, h2⟩ := D.val i _ e0
    rw [h] at h1
    cases h1
    exact ⟨s2, e1, e2, n, .cons (At.mono n.stp.sub _ _ h2) q⟩
variable {X : Er → Sls → Prop} {ρ : Sls}
theorem we_tup {t : TA} {Q : Av → Sls → Prop} (h : WA K W t ρ (fun as ρ1 => ∃ ds ρ2, Frz ρ1 as ds ρ2 ∧ ds.length ≤ 1000 ∧ Q (.dt (.tup ds)) ρ2) X) : WE K W (tTup t) ρ Q X := by
  rintro s Q0 rfl D x k
  refine h s _ rfl D x fun vs as s1 n1 ok ⟨ds, ρ2, f, hl, q⟩ => ?_
  obtain ⟨s2, e1, e2, n2, hd⟩ := f.run rfl n1.den ok
  refine ⟨Nat.le_of_lt (small1000 (by rw [hd.length]; exact hl)), fun p hp => ?_⟩
  rw [← e2] at hp ⊢
  obtain ⟨n3, sub⟩ := layF (o := .tup vs) n2.den hp
  exact k (.ref p) (.dt (.tup ds)) _ (n1.trans (n2.trans n3)) (.tup (SqT.of upd_same) (AtAll.mono sub _ _ hd)) (by show Q _ s2.ρ; rw [e1]; exact q)
theorem we_lst {t : TA} {Q : Av → Sls → Prop} (h : WA K W t ρ (fun as ρ1 => ∃ ds ρ2, Frz ρ1 as ds ρ2 ∧ ds.length ≤ 1000 ∧ Q (.own (.lst ds)) ρ2) X) : WE K W (tLst t) ρ Q X := by
  rintro s Q0 rfl D x k
  refine h s _ rfl D x fun vs as s1 n1 ok ⟨ds, ρ2, f, hl, q⟩ => ?_
  obtain ⟨s2, e1, e2, n2, hd⟩ := f.run rfl n1.den ok
  refine ⟨Nat.le_of_lt (small1000 (by rw [hd.length]; exact hl)), fun p hp => ?_⟩
  rw [← e2] at hp ⊢
  have n3 := lay (o := .lst vs) n2.den hp
  have n12 := n1.trans n2
  obtain ⟨g, no⟩ := n2.den.free hp
  exact k (.ref p) (.own (.lst ds)) _ (n12.trans n3) ⟨p, .lst vs, rfl, upd_same, g, .lst hd, no, .inl (n12.stp.dom p hp)⟩ (by show Q _ s2.ρ; rw [e1]; exact q)
theorem we_dnewK {Q : Av → Sls → Prop} (q : Q (.own (.dic [] [])) ρ) : WE K W tDNewK ρ Q X := by
  rintro s Q0 rfl D x k p hp
  have n3 := lay (o := .dK []) D hp
  obtain ⟨g, no⟩ := D.free hp
  exact k (.ref p) (.own (.dic [] [])) _ n3 ⟨p, .dK [], rfl, upd_same, g, .dic (kvs := []) .nil, no, .inl hp⟩ q
theorem we_dnewT {Q : Av → Sls → Prop} (q : Q (.own (.dct [] [])) ρ) : WE K W tDNewT ρ Q X := by
  rintro s Q0 rfl D x k p hp
  have n3 := lay (o := .dT []) D hp
  obtain ⟨g, no⟩ := D.free hp
  exact k (.ref p) (.own (.dct [] [])) _ n3 ⟨p, .dT [], rfl, upd_same, g, .dct (kvs := []) .nil, no, .inl hp⟩ q
/-! ### statements -/
structure Post where
  nx : Sls → Prop
  rt : Av → Sls → Prop
  bk : Sls → Prop := fun _ => False
  ct : Sls → Prop := fun _ => False
  xc : Er → Sls → Prop := fun _ _ => False
structure Fin (K : PySem.W.Frag) (s : Sta) (D : Ends) (P : Post) : Prop where
  nx : ∀ s', Stp s s' → Den K s' → P.nx s'.ρ → D.nx s'.σ s'.H
  rt : ∀ v av s', Stp s s' → Den K s' → AvOk K s s' v av → P.rt av s'.ρ → D.rt v s'.H
  bk : ∀ s', Stp s s' → Den K s' → P.bk s'.ρ → D.bk s'.σ s'.H
  ct : ∀ s', Stp s s' → Den K s' → P.ct s'.ρ → D.ct s'.σ s'.H
theorem Fin.next {s s1 : Sta} {D : Ends} {P : Post} (f : Fin K s D P) (n : Stp s s1) : Fin K s1 D P :=
  ⟨fun s' m d q => f.nx s' (n.trans m) d q, fun v av s' m d ok q => f.rt v av s' (n.trans m) d (ok.base n) q, fun s' m d q => f.bk s' (n.trans m) d q, fun s' m d q => f.ct s' (n.trans m) d q⟩
def WS (K : PySem.W.Frag) (W : Wx) (t : TS) (ρ : Sls) (P : Post) : Prop :=
  ∀ (s : Sta) (D : Ends), s.ρ = ρ → Den K s → XOk K s W P.xc → Fin K s D P → t D s.σ s.H
variable {P : Post}
theorem ws_next (q : P.nx ρ) : WS K W tNext ρ P := by
  rintro s D rfl d x f
  exact f.nx s (Stp.refl s) d q
theorem ws_break (q : P.bk ρ) : WS K W tBreak ρ P := by
  rintro s D rfl d x f
  exact f.bk s (Stp.refl s) d q
theorem ws_cont (q : P.ct ρ) : WS K W tCont ρ P := by
  rintro s D rfl d x f
  exact f.ct s (Stp.refl s) d q
theorem ws_seq {t u : TS} (h : WS K W t ρ { P with nx := fun ρ1 => WS K W u ρ1 P }) : WS K W (tSeq t u) ρ P := by
  rintro s D rfl d x f
  exact h s { D with nx := u D } rfl d x ⟨fun s1 n d1 q => q s1 D rfl d1 (x.next n) (f.next n), f.rt, f.bk, f.ct⟩
theorem ws_drop {te : TE} (h : WE K W te ρ (fun _ ρ1 => P.nx ρ1) P.xc) : WS K W (tDrop te) ρ P := by
  rintro s D rfl d x f
  refine h s _ rfl d x fun v av s1 n ok q => ?_
  rw [← n.slots]
  exact f.nx s1 n.stp n.den q
/-- what a return gives out -/
def Rt (a : Av) (ρ : Sls) (N : Av → Sls → Prop) : Prop := match a with
  | .sl i => (∃ d, ρ[i]? = some (.own d) ∧ N (.own d) (ρ.set i .un)) ∨ ∃ d, ρ[i]? = some (.val d) ∧ N (.dt d) ρ
  | a => N a ρ
theorem ws_ret {te : TE} (h : WE K W te ρ (fun a ρ1 => Rt a ρ1 P.rt) P.xc) : WS K W (tRet te) ρ P := by
  rintro s D rfl d x f
  refine h s _ rfl d x fun v av s1 n ok q => ?_
  cases av with
  | dt z => exact f.rt v (.dt z) s1 n.stp n.den ok q
  | own z => exact f.rt v (.own z) s1 n.stp n.den ok q
  | sl i =>
    have ok : s1.σ[i]? = some (some v) := ok
    rcases q with ⟨z, e, q⟩ | ⟨z, e, q⟩
    · obtain ⟨a, o, e1, e2, e3, e4⟩ := n.den.own i _ z e rfl
      have e0 := e1
      rw [ok] at e1
      cases e1
      have oa : OwnAt s1 i a := ⟨⟨_, z, e, rfl⟩, e0⟩
      refine f.rt (.ref a) (.own z) { s1 with ρ := s1.ρ.set i .un } ⟨n.stp.sub, n.stp.fr, n.stp.dom, fun b h => n.stp.own b (Owns.weak rfl h).1, n.stp.gfr, fun j y h => ?_⟩ (n.den.weak (.inl rfl)) ⟨a, o, rfl, e3, e2, e4, fun h => ?_, (n.stp.own a ⟨i, oa⟩).symm⟩ q
      · obtain ⟨y', h1, h2⟩ := n.stp.bor j y h
        refine ⟨y', ?_, h2⟩
        show (s1.ρ.set i _)[j]? = _
        rw [List.getElem?_set_ne (fun h => by rw [← h, e] at h1; cases h1)]
        exact h1
      · obtain ⟨_, j, nj, h⟩ := Owns.weak (G := s1.G) rfl h
        exact nj (n.den.dis j i a h oa)
    · obtain ⟨v', h1, h2⟩ := n.den.val i z e
      rw [ok] at h1
      cases h1
      exact f.rt v (.dt z) s1 n.stp n.den h2 q
theorem ws_retN (q : P.rt (.dt .non) ρ) : WS K W tRetN ρ P := by
  rintro s D rfl d x f
  exact f.rt .non (.dt .non) s (Stp.refl s) d At.non q
theorem WS.go {t : TS} (h : WS K W t ρ P) {s s1 : Sta} {D : Ends} (n : Nxt K s s1) (e : s1.ρ = ρ) (x : XOk K s W P.xc) (f : Fin K s D P) : t D s.σ s1.H := by
  rw [← n.slots]
  exact h s1 D e n.den (x.next n.stp) (f.next n.stp)
theorem ws_if {c : TT} {t u : TS} (h : WT K W c ρ (fun b ρ1 => if b = true then WS K W t ρ1 P else WS K W u ρ1 P) P.xc) : WS K W (tIfS c t u) ρ P := by
  rintro s D rfl d x f
  refine h s _ rfl d x fun b s1 n q => ?_
  cases b with
  | true => exact iteT ((show WS K W t s1.ρ P by simpa using q).go n rfl x f)
  | false => exact iteF ((show WS K W u s1.ρ P by simpa using q).go n rfl x f)
/-- a value goes into a slot -/
def Put (i : Nat) (a : Av) (ρ : Sls) (N : Sls → Prop) : Prop := nb ρ i = true ∧ match a with
  | .dt d => N (ρ.set i (.val d))
  | .own d => N (ρ.set i (.own d))
  | .sl j => (∃ d, ρ[j]? = some (.own d) ∧ N ((ρ.set j (.val d)).set i (.val d))) ∨ ∃ d, ρ[j]? = some (.val d) ∧ N (ρ.set i (.val d))
theorem nb_set {ρ : Sls} {i j : Nat} {d : U} (h : nb ρ i = true) : nb (ρ.set j (.val d)) i = true := by
  obtain ⟨hl, hb⟩ := nb_lt h
  unfold nb
  cases e : (ρ.set j (.val d))[i]? with
  | none =>
    rw [List.getElem?_eq_none_iff, List.length_set] at e
    omega
  | some x =>
    rcases get_set e with ⟨rfl, rfl, _⟩ | ⟨_, e⟩
    · rfl
    · cases x with
      | bor d => exact absurd e (hb d)
      | _ => rfl
theorem put_run {s s1 : Sta} {i : Nat} {v : V} {av : Av} {N : Sls → Prop} {M : L2.St → Hp → Prop} (n : Nxt K s s1) (ok : AvOk K s s1 v av) (q : Put i av s1.ρ N) (k : ∀ s', Stp s s' → Den K s' → N s'.ρ → M s'.σ s'.H) : M (s.σ.set i (some v)) s1.H := by
  obtain ⟨h, q⟩ := q
  rw [← n.slots]
  cases av with
  | dt d =>
    obtain ⟨a, b⟩ := put_val n.den h ok
    exact k _ (n.stp.trans a) b q
  | own d =>
    obtain ⟨a, b⟩ := put_own n.stp n.den h ok
    exact k _ a b q
  | sl j =>
    have ok : s1.σ[j]? = some (some v) := ok
    rcases q with ⟨d, e, q⟩ | ⟨d, e, q⟩
    · obtain ⟨G, n2, sub, v', h1, h2⟩ := freeze_slot n.den e
      rw [ok] at h1
      cases h1
      obtain ⟨a, b⟩ := put_val (i := i) n2.den (nb_set h) h2
      exact k _ ((n.trans n2).stp.trans a) b q
    · obtain ⟨v', h1, h2⟩ := n.den.val j d e
      rw [ok] at h1
      cases h1
      obtain ⟨a, b⟩ := put_val n.den h h2
      exact k _ (n.stp.trans a) b q
theorem ws_set {i : Nat} {te : TE} (h : WE K W te ρ (fun a ρ1 => Put i a ρ1 P.nx) P.xc) : WS K W (tAsg te (gName i)) ρ P := by
  rintro s D rfl d x f
  exact h s _ rfl d x fun v av s1 n ok q => put_run (M := D.nx) n ok q f.nx
theorem ws_aug {i : Nat} {te : TE} {ti : TIp} {dx : U} (e : ρ[i]? = some (.val dx)) (h : WE K W te ρ (fun b ρ1 => ρ1[i]? = some (.val dx) ∧ WR K W ti (.dt dx) b.fl ρ1 (fun a ρ2 => Put i a ρ2 P.nx) P.xc) P.xc) : WS K W (tAug i te ti) ρ P := by
  rintro s D rfl d x f
  obtain ⟨v, e1, e2⟩ := d.val i dx e
  refine ⟨v, e1, ?_⟩
  refine WE.flat (Q := fun b ρ1 => ρ1[i]? = some (.val dx) ∧ WR K W ti (.dt dx) b ρ1 (fun a ρ2 => Put i a ρ2 P.nx) P.xc) h rfl d x fun w b s1 n fb ok ⟨e3, q⟩ => ?_
  exact q s1 v w _ rfl n.den (x.next n.stp) (At.mono n.stp.sub _ _ e2) ok fun u av s2 n2 ok2 q2 => put_run (M := D.nx) (n.trans n2) (ok2.base n.stp) q2 f.nx
end

/-! ### what a def promises, by data -/
/-- what is asked of the arguments, of what is given out (with the arguments as they are then), of what is raised -/
abbrev RU := Sls → (Av → Sls → Prop) → (Er → Sls → Prop) → Prop
def Args (ρ : Sls) : Prop := ∀ (i : Nat) (sl : Sl), ρ[i]? = some sl → (∃ d, sl = .val d) ∨ ∃ d, sl = .bor d
def Av.ns : Av → Prop
  | .sl _ => False
  | _ => True
def spU (K : PySem.W.Frag) (R : RU) : Sp := fun vs H Q E => ∃ (G : Hp) (ρ : Sls), Den K ⟨G, ρ, vs.map some, H⟩ ∧ Args ρ ∧
  R ρ (fun a ρ' => ∀ v s', s'.σ = vs.map some → s'.ρ = ρ' → Den K s' → Stp ⟨G, ρ, vs.map some, H⟩ s' → a.ns → AvOk K ⟨G, ρ, vs.map some, H⟩ s' v a → Q v s'.H)
    (fun e ρ' => ∀ cls dd s', s'.σ = vs.map some → s'.ρ = ρ' → Den K s' → Stp ⟨G, ρ, vs.map some, H⟩ s' → ErOk K s' cls dd e → E cls dd s'.H)
/-- the arguments behind a body: what was borrowed as it is then -/
def out : Sls → Sls → Sls
  | [], _ => []
  | .bor d :: r, [] => .bor d :: out r []
  | .bor _ :: r, x :: r' => x :: out r r'
  | a :: r, [] => a :: out r []
  | a :: r, _ :: r' => a :: out r r'
theorem out_length : ∀ ρ ρ' : Sls, (out ρ ρ').length = ρ.length
  | [], _ => rfl
  | .bor d :: r, [] => by show (out r []).length + 1 = _; rw [out_length r []]; rfl
  | .bor _ :: r, x :: r' => by show (out r r').length + 1 = _; rw [out_length r r']; rfl
  | .val _ :: r, [] => by show (out r []).length + 1 = _; rw [out_length r []]; rfl
  | .val _ :: r, x :: r' => by show (out r r').length + 1 = _; rw [out_length r r']; rfl
  | .un :: r, [] => by show (out r []).length + 1 = _; rw [out_length r []]; rfl
  | .un :: r, x :: r' => by show (out r r').length + 1 = _; rw [out_length r r']; rfl
  | .own _ :: r, [] => by show (out r []).length + 1 = _; rw [out_length r []]; rfl
  | .own _ :: r, x :: r' => by show (out r r').length + 1 = _; rw [out_length r r']; rfl
theorem out_get : ∀ {ρ ρ' : Sls} {i : Nat} {x : Sl}, (out ρ ρ')[i]? = some x → (∃ d, ρ[i]? = some (.bor d) ∧ (ρ'[i]? = some x ∨ (ρ'[i]? = none ∧ x = .bor d))) ∨ ((∀ d, x ≠ .bor d) ∧ ρ[i]? = some x)
  | [], _, _, _, h => by simp [out] at h
  | .bor d :: r, [], 0, x, h => by
    have h : some (Sl.bor d) = some x := h
    cases h
    exact .inl ⟨d, rfl, .inr ⟨rfl, rfl⟩⟩
  | .bor d :: r, [], i + 1, x, h => by
    rcases out_get (ρ := r) (ρ' := []) (i := i) h with ⟨d, h1, h2⟩ | h
    · exact .inl ⟨d, h1, h2⟩
    · exact .inr h
  | .bor d :: r, y :: r', 0, x, h => .inl ⟨d, rfl, .inl h⟩
  | .bor d :: r, y :: r', i + 1, x, h => out_get (ρ := r) (ρ' := r') (i := i) h
  | .val d :: r, [], 0, x, h => by
    have h : some (Sl.val d) = some x := h
    cases h
    exact .inr ⟨fun _ => nofun, rfl⟩
  | .val d :: r, [], i + 1, x, h => by
    rcases out_get (ρ := r) (ρ' := []) (i := i) h with ⟨d, h1, h2⟩ | h
    · exact .inl ⟨d, h1, h2⟩
    · exact .inr h
  | .val d :: r, y :: r', 0, x, h => by
    have h : some (Sl.val d) = some x := h
    cases h
    exact .inr ⟨fun _ => nofun, rfl⟩
  | .val d :: r, y :: r', i + 1, x, h => out_get (ρ := r) (ρ' := r') (i := i) h
  | .un :: r, [], 0, x, h => by
    have h : some Sl.un = some x := h
    cases h
    exact .inr ⟨fun _ => nofun, rfl⟩
  | .un :: r, [], i + 1, x, h => by
    rcases out_get (ρ := r) (ρ' := []) (i := i) h with ⟨d, h1, h2⟩ | h
    · exact .inl ⟨d, h1, h2⟩
    · exact .inr h
  | .un :: r, y :: r', 0, x, h => by
    have h : some Sl.un = some x := h
    cases h
    exact .inr ⟨fun _ => nofun, rfl⟩
  | .un :: r, y :: r', i + 1, x, h => out_get (ρ := r) (ρ' := r') (i := i) h
  | .own d :: r, [], 0, x, h => by
    have h : some (Sl.own d) = some x := h
    cases h
    exact .inr ⟨fun _ => nofun, rfl⟩
  | .own d :: r, [], i + 1, x, h => by
    rcases out_get (ρ := r) (ρ' := []) (i := i) h with ⟨d, h1, h2⟩ | h
    · exact .inl ⟨d, h1, h2⟩
    · exact .inr h
  | .own d :: r, y :: r', 0, x, h => by
    have h : some (Sl.own d) = some x := h
    cases h
    exact .inr ⟨fun _ => nofun, rfl⟩
  | .own d :: r, y :: r', i + 1, x, h => out_get (ρ := r) (ρ' := r') (i := i) h
section
variable {K : PySem.W.Frag} {W : Wx}
theorem get_pad {α : Type} {xs : List α} {k i : Nat} {u x : α} (h : (xs ++ List.replicate k u)[i]? = some x) (n : x ≠ u) : xs[i]? = some x := by
  by_cases l : i < xs.length
  · rw [List.getElem?_append_left l] at h
    exact h
  · rw [List.getElem?_append_right (by omega)] at h
    have := List.mem_of_getElem? h
    exact absurd (List.eq_of_mem_replicate this) n
theorem pad_get {α : Type} {xs ys : List α} {i : Nat} {x : α} (h : xs[i]? = some x) : (xs ++ ys)[i]? = some x := by
  rw [List.getElem?_append_left (lt_of_get h)]
  exact h
/-- a body, from what it is to keep -/
theorem body_U {R : RU} {t : TS} {N : List Str} {vs : List V} {H : Hp} {Q : VK} {E : XK} (h : spU K R vs H Q E)
    (hb : ∀ (ρ : Sls) (Qd : Av → Sls → Prop) (Xd : Er → Sls → Prop), ρ.length = vs.length → R ρ Qd Xd →
      WS K (fun cls dd _ H' => E cls dd H') t (ρ ++ List.replicate (N.length - vs.length) .un) { nx := fun ρ' => Qd (.dt .non) (out ρ ρ'), rt := fun a ρ' => a.ns ∧ Qd a (out ρ ρ'), xc := fun e ρ' => Xd e (out ρ ρ') }) :
    t { nx := fun _ H' => Q .non H', rt := Q } (start N vs) H := by
  obtain ⟨G, ρ, D, ar, hR⟩ := h
  have hl : ρ.length = vs.length := by
    have : (vs.map some).length = ρ.length := D.len
    rw [List.length_map] at this
    exact this.symm
  have s0 : Den K ⟨G, ρ ++ List.replicate (N.length - vs.length) .un, start N vs, H⟩ := by
    have f : ∀ {i a}, OwnAt ⟨G, ρ ++ List.replicate (N.length - vs.length) .un, start N vs, H⟩ i a → OwnAt ⟨G, ρ, vs.map some, H⟩ i a := fun {i a} ⟨⟨sl, d, e1, e2⟩, e3⟩ => by
      refine ⟨⟨sl, d, get_pad e1 (by rintro rfl; cases e2), e2⟩, get_pad e3 nofun⟩
    refine ⟨D.sub, ?_, fun i d e => ?_, fun i sl d e1 e2 => ?_, fun i j a h1 h2 => D.dis i j a (f h1) (f h2)⟩
    · show (vs.map some ++ List.replicate (N.length - vs.length) none).length = (ρ ++ List.replicate (N.length - vs.length) Sl.un).length
      rw [List.length_append, List.length_append, List.length_replicate, List.length_replicate, List.length_map, hl]
    · obtain ⟨v, h1, h2⟩ := D.val i d (get_pad e nofun)
      exact ⟨v, pad_get h1, h2⟩
    · obtain ⟨a, o, h1, h2⟩ := D.own i sl d (get_pad e1 (by rintro rfl; cases e2)) e2
      exact ⟨a, o, pad_get h1, h2⟩
  -- the state behind the body, the arguments alone
  have trim : ∀ s', Stp ⟨G, ρ ++ List.replicate (N.length - vs.length) .un, start N vs, H⟩ s' → Den K s' →
      Den K ⟨s'.G, out ρ s'.ρ, vs.map some, s'.H⟩ ∧ Stp ⟨G, ρ, vs.map some, H⟩ ⟨s'.G, out ρ s'.ρ, vs.map some, s'.H⟩ ∧ (∀ a, Owns ⟨s'.G, out ρ s'.ρ, vs.map some, s'.H⟩ a → Owns s' a) := by
    intro s' n d
    have bo : ∀ {i : Nat} {d : U}, ρ[i]? = some (Sl.bor d) → ∃ d', s'.ρ[i]? = some (Sl.bor d') ∧ s'.σ[i]? = (vs.map some)[i]? := fun {i d} e => by
      obtain ⟨d', h1, h2⟩ := n.bor i d (pad_get e)
      refine ⟨d', h1, h2.trans ?_⟩
      have : i < (vs.map some).length := by rw [List.length_map, ← hl]; exact lt_of_get e
      exact List.getElem?_append_left this
    have f : ∀ {i a}, OwnAt ⟨s'.G, out ρ s'.ρ, vs.map some, s'.H⟩ i a → OwnAt s' i a ∧ OwnAt ⟨G, ρ, vs.map some, H⟩ i a := fun {i a} ⟨⟨sl, x, e1, e2⟩, e3⟩ => by
      rcases out_get e1 with ⟨y, h1, h2⟩ | ⟨h1, h2⟩
      · obtain ⟨d', h3, h4⟩ := bo h1
        refine ⟨⟨⟨.bor d', d', h3, rfl⟩, h4.trans e3⟩, ⟨⟨.bor y, y, h1, rfl⟩, e3⟩⟩
      · rcases ar i sl h2 with ⟨y, rfl⟩ | ⟨y, rfl⟩
        · cases e2
        · exact absurd rfl (h1 y)
    have of : ∀ {i a}, OwnAt ⟨G, ρ, vs.map some, H⟩ i a → OwnAt ⟨G, ρ ++ List.replicate (N.length - vs.length) .un, start N vs, H⟩ i a := fun {i a} ⟨⟨sl, x, e1, e2⟩, e3⟩ => ⟨⟨sl, x, pad_get e1, e2⟩, pad_get e3⟩
    have no : ∀ {a}, ¬ Owns ⟨G, ρ, vs.map some, H⟩ a → ¬ Owns ⟨G, ρ ++ List.replicate (N.length - vs.length) .un, start N vs, H⟩ a := fun {a} h ⟨i, ⟨sl, x, e1, e2⟩, e3⟩ => h ⟨i, ⟨sl, x, get_pad e1 (by rintro rfl; cases e2), e2⟩, get_pad e3 nofun⟩
    refine ⟨⟨d.sub, ?_, fun i x e => ?_, fun i sl x e1 e2 => ?_, fun i j a h1 h2 => d.dis i j a (f h1).1 (f h2).1⟩, ⟨n.sub, fun a o e h => n.fr a o e (no h), n.dom, fun a ⟨i, h⟩ => .inl ⟨i, (f h).2⟩, fun a n1 n2 e => n.gfr a n1 (no n2) e, fun i x e => ?_⟩, fun a ⟨i, h⟩ => ⟨i, (f h).1⟩⟩
    · show (vs.map some).length = (out ρ s'.ρ).length
      rw [out_length, List.length_map, hl]
    · rcases out_get e with ⟨y, h1, h2⟩ | ⟨h1, h2⟩
      · obtain ⟨d', h3, h4⟩ := bo h1
        rcases h2 with h2 | ⟨h2, _⟩
        · rw [h3] at h2
          cases h2
        · rw [h3] at h2
          cases h2
      · obtain ⟨v, e1, e2⟩ := D.val i x h2
        exact ⟨v, e1, At.mono n.sub _ _ e2⟩
    · rcases out_get e1 with ⟨y, h1, h2⟩ | ⟨h1, h2⟩
      · obtain ⟨d', h3, h4⟩ := bo h1
        have : sl = .bor d' := by
          rcases h2 with h2 | ⟨h2, _⟩
          · rw [h3] at h2
            exact (Option.some.inj h2).symm
          · rw [h3] at h2
            cases h2
        subst this
        cases e2
        obtain ⟨a, o, h5, h6⟩ := d.own i _ _ h3 rfl
        exact ⟨a, o, h4.symm.trans h5, h6⟩
      · rcases ar i sl h2 with ⟨y, rfl⟩ | ⟨y, rfl⟩
        · cases e2
        · exact absurd rfl (h1 y)
    · obtain ⟨d', h3, h4⟩ := bo e
      refine ⟨d', ?_, rfl⟩
      cases q : (out ρ s'.ρ)[i]? with
      | none =>
        rw [List.getElem?_eq_none_iff, out_length] at q
        have : i < ρ.length := lt_of_get e
        omega
      | some y =>
        rcases out_get q with ⟨z, h1, h2⟩ | ⟨h1, h2⟩
        · rcases h2 with h2 | ⟨h2, _⟩
          · rw [h3] at h2
            exact congrArg some (Option.some.inj h2).symm
          · rw [h3] at h2
            cases h2
        · rw [e] at h2
          cases h2
          exact absurd rfl (h1 x)
  refine hb ρ _ _ hl hR ⟨G, ρ ++ List.replicate (N.length - vs.length) .un, start N vs, H⟩ _ rfl s0 (fun cls dd e s' n d ok x => ?_) ⟨fun s' n d q => ?_, fun v av s' n d ok q => ?_, fun s' n d q => q.elim, fun s' n d q => q.elim⟩
  · obtain ⟨t1, t2, _⟩ := trim s' n d
    exact x cls dd ⟨s'.G, out ρ s'.ρ, vs.map some, s'.H⟩ rfl rfl t1 t2 ok
  · obtain ⟨t1, t2, _⟩ := trim s' n d
    exact q .non ⟨s'.G, out ρ s'.ρ, vs.map some, s'.H⟩ rfl rfl t1 t2 trivial At.non
  · obtain ⟨t1, t2, t3⟩ := trim s' n d
    obtain ⟨q1, q⟩ := q
    refine q v ⟨s'.G, out ρ s'.ρ, vs.map some, s'.H⟩ rfl rfl t1 t2 q1 ?_
    cases av with
    | dt z => exact ok
    | sl i => exact q1.elim
    | own z =>
      obtain ⟨a, o, h1, h2, h3, h4, h5, h6⟩ := ok
      refine ⟨a, o, h1, h2, h3, h4, fun h => h5 (t3 a h), ?_⟩
      rcases h6 with h | ⟨i, ⟨sl, x, e1, e2⟩, e3⟩
      · exact .inl h
      · exact .inr ⟨i, ⟨sl, x, get_pad e1 (by rintro rfl; cases e2), e2⟩, get_pad e3 nofun⟩
/-! ### calls -/
inductive Arg where
  | va (d : U) | bo (i : Nat) (d : U)
def Arg.slot : Arg → Sl
  | .va d => .val d
  | .bo _ d => .bor d
/-- operands as arguments: data, own objects frozen, own objects lent -/
inductive Pas : Sls → List Av → List Arg → Sls → Prop
  | nil {ρ : Sls} : Pas ρ [] [] ρ
  | dt {ρ ρ' : Sls} {d : U} {as : List Av} {gs : List Arg} : Pas ρ as gs ρ' → Pas ρ (.dt d :: as) (.va d :: gs) ρ'
  | va {ρ ρ' : Sls} {i : Nat} {d : U} {as : List Av} {gs : List Arg} : ρ[i]? = some (.val d) → Pas ρ as gs ρ' → Pas ρ (.sl i :: as) (.va d :: gs) ρ'
  | fz {ρ ρ' : Sls} {i : Nat} {d : U} {as : List Av} {gs : List Arg} : ρ[i]? = some (.own d) → Pas (ρ.set i (.val d)) as gs ρ' → Pas ρ (.sl i :: as) (.va d :: gs) ρ'
  | bo {ρ ρ' : Sls} {i : Nat} {sl : Sl} {d : U} {as : List Av} {gs : List Arg} : Pas ρ as gs ρ' → ρ'[i]? = some sl → sl.cell = some d → Pas ρ (.sl i :: as) (.bo i d :: gs) ρ'
inductive ArgsOk (K : PySem.W.Frag) (s : Sta) : List V → List Arg → Prop
  | nil : ArgsOk K s [] []
  | va {v : V} {d : U} {vs : List V} {gs : List Arg} : At K s.G v d → ArgsOk K s vs gs → ArgsOk K s (v :: vs) (.va d :: gs)
  | bo {v : V} {i : Nat} {sl : Sl} {d : U} {vs : List V} {gs : List Arg} : s.σ[i]? = some (some v) → s.ρ[i]? = some sl → sl.cell = some d → ArgsOk K s vs gs → ArgsOk K s (v :: vs) (.bo i d :: gs)
theorem Pas.run : ∀ {ρ ρ' : Sls} {as : List Av} {gs : List Arg}, Pas ρ as gs ρ' → ∀ {s : Sta} {vs : List V}, s.ρ = ρ → Den K s → AvsOk K s vs as → ∃ s2, s2.ρ = ρ' ∧ s2.H = s.H ∧ Nxt K s s2 ∧ ArgsOk K s2 vs gs
  | _, _, _, _, .nil, s, _, e, D, .nil => ⟨s, e, rfl, Nxt.refl D, .nil⟩
  | _, _, _, _, .dt f, s, _, e, D, .cons _ h t => by
    obtain ⟨s2, e1, e2, n, q⟩ := Pas.run f e D t
    exact ⟨s2, e1, e2, n, .va (At.mono n.stp.sub _ _ h) q⟩
  | _, _, _, _, .va (i := i) e0 f, s, _, e, D, .cons _ h t => by
    subst e
    obtain ⟨s2, e1, e2, n, q⟩ := Pas.run f rfl D t
    have h : s.σ[i]? = some (some _) := h
    obtain ⟨v, h1, h2⟩ := D.val i _ e0
    rw [h] at h1
    cases h1
    exact ⟨s2, e1, e2, n, .va (At.mono n.stp.sub _ _ h2) q⟩
  | _, _, _, _, .fz (i := i) e0 f, s, _, e, D, .cons _ h t => by
    subst e
    obtain ⟨G, n, sub, v, h1, h2⟩ := freeze_slot D e0
    obtain ⟨s2, e1, e2, n2, q⟩ := Pas.run f (s := { s with G := G, ρ := s.ρ.set i _ }) rfl n.den (AvsOk.next n t)
    have h : s.σ[i]? = some (some _) := h
    rw [h] at h1
    cases h1
    exact ⟨s2, e1, e2, n.trans n2, .va (At.mono n2.stp.sub _ _ h2) q⟩
  | _, _, _, _, .bo (i := i) f e1 e2, s, _, e, D, .cons _ h t => by
    obtain ⟨s2, e3, e4, n, q⟩ := Pas.run f e D t
    have h : s.σ[i]? = some (some _) := h
    exact ⟨s2, e3, e4, n, .bo (by rw [n.slots]; exact h) (by rw [e3]; exact e1) e2 q⟩
/-- no object is lent twice -/
def sep : List Arg → Bool
  | [] => true
  | .va _ :: r => sep r
  | .bo i _ :: r => !(r.any fun g => match g with | .bo j _ => j == i | .va _ => false) && sep r
theorem sep_ix : ∀ {gs : List Arg} {p q i : Nat} {d e : U}, sep gs = true → gs[p]? = some (.bo i d) → gs[q]? = some (.bo i e) → p = q
  | [], _, _, _, _, _, _, h, _ => by simp at h
  | .va _ :: r, 0, _, _, _, _, _, h, _ => by simp at h
  | .va _ :: r, _ + 1, 0, _, _, _, _, _, h => by simp at h
  | .va _ :: r, p + 1, q + 1, _, _, _, s, h1, h2 => congrArg (· + 1) (sep_ix (gs := r) s (by simpa using h1) (by simpa using h2))
  | .bo j x :: r, 0, 0, _, _, _, _, _, _ => rfl
  | .bo j x :: r, 0, q + 1, i, d, e, s, h1, h2 => by
    have s : (!(r.any fun g => match g with | .bo k _ => k == j | .va _ => false) && sep r) = true := s
    rw [Bool.and_eq_true] at s
    have h1 : j = i := by
      have : some (Arg.bo j x) = some (Arg.bo i d) := h1
      cases this
      rfl
    subst h1
    have m := List.mem_of_getElem? (show r[q]? = some (.bo j e) by simpa using h2)
    have : (r.any fun g => match g with | .bo k _ => k == j | .va _ => false) = true := List.any_eq_true.mpr ⟨_, m, beq_self_eq_true j⟩
    rw [this] at s
    cases s.1
  | .bo j x :: r, p + 1, 0, i, d, e, s, h1, h2 => by
    have s : (!(r.any fun g => match g with | .bo k _ => k == j | .va _ => false) && sep r) = true := s
    rw [Bool.and_eq_true] at s
    have h2 : j = i := by
      have : some (Arg.bo j x) = some (Arg.bo i e) := h2
      cases this
      rfl
    subst h2
    have m := List.mem_of_getElem? (show r[p]? = some (.bo j d) by simpa using h1)
    have : (r.any fun g => match g with | .bo k _ => k == j | .va _ => false) = true := List.any_eq_true.mpr ⟨_, m, beq_self_eq_true j⟩
    rw [this] at s
    cases s.1
  | .bo j x :: r, p + 1, q + 1, i, d, e, s, h1, h2 => by
    have s : (!(r.any fun g => match g with | .bo k _ => k == j | .va _ => false) && sep r) = true := s
    rw [Bool.and_eq_true] at s
    exact congrArg (· + 1) (sep_ix (gs := r) s.2 (by simpa using h1) (by simpa using h2))
/-- an own or borrowed slot has another content -/
def setC (ρ : Sls) (i : Nat) (d : U) : Sls := match ρ[i]? with
  | some (.own _) => ρ.set i (.own d)
  | some (.bor _) => ρ.set i (.bor d)
  | _ => ρ
/-- the caller's slots behind a call -/
def upds : Sls → List Arg → Sls → Sls
  | ρ, .va _ :: gs, _ :: r => upds ρ gs r
  | ρ, .bo i _ :: gs, .bor d :: r => upds (setC ρ i d) gs r
  | ρ, .bo _ _ :: gs, _ :: r => upds ρ gs r
  | ρ, _, _ => ρ
theorem setC_length (ρ : Sls) (i : Nat) (d : U) : (setC ρ i d).length = ρ.length := by
  unfold setC
  split <;> first | rw [List.length_set] | rfl
theorem setC_get {ρ : Sls} {i j : Nat} {d : U} {x : Sl} (h : (setC ρ i d)[j]? = some x) : (ρ[j]? = some x ∧ (j ≠ i ∨ x.cell = none)) ∨ (j = i ∧ x.cell = some d ∧ ∃ y, ρ[i]? = some y ∧ ((x = .own d ∧ ∃ z, y = .own z) ∨ (x = .bor d ∧ ∃ z, y = .bor z))) := by
  unfold setC at h
  split at h
  · rename_i z e
    rcases get_set h with ⟨rfl, rfl, _⟩ | ⟨n, h⟩
    · exact .inr ⟨rfl, rfl, _, e, .inl ⟨rfl, z, rfl⟩⟩
    · exact .inl ⟨h, .inl n⟩
  · rename_i z e
    rcases get_set h with ⟨rfl, rfl, _⟩ | ⟨n, h⟩
    · exact .inr ⟨rfl, rfl, _, e, .inr ⟨rfl, z, rfl⟩⟩
    · exact .inl ⟨h, .inl n⟩
  · rename_i n1 n2
    refine .inl ⟨h, ?_⟩
    by_cases q : j = i
    · subst q
      right
      cases x with
      | own z => exact absurd h (n1 z)
      | bor z => exact absurd h (n2 z)
      | _ => rfl
    · exact .inl q
/-- where the content of a slot behind a call comes from -/
theorem upds_get : ∀ {gs : List Arg} {ρ r : Sls} {j : Nat} {x : Sl}, (upds ρ gs r)[j]? = some x →
    (∃ (p : Nat) (z d : U), gs[p]? = some (Arg.bo j z) ∧ r[p]? = some (Sl.bor d) ∧ x.cell = some d ∧ ∃ y, ρ[j]? = some y ∧ y.cell.isSome = true ∧ ((∃ u, x = .bor u) ↔ ∃ u, y = .bor u)) ∨ (ρ[j]? = some x ∧ (x.cell.isSome = true → ∀ (p : Nat) (z d : U), gs[p]? = some (Arg.bo j z) → r[p]? ≠ some (Sl.bor d)))
  | [], ρ, r, j, x, h => by
    have h : ρ[j]? = some x := by cases r <;> exact h
    exact .inr ⟨h, fun _ p z d e => by simp at e⟩
  | .va a :: gs, ρ, [], j, x, h => .inr ⟨h, fun _ p z d _ e => by simp at e⟩
  | .bo i a :: gs, ρ, [], j, x, h => .inr ⟨h, fun _ p z d _ e => by simp at e⟩
  | .va a :: gs, ρ, y :: r, j, x, h => by
    rcases upds_get (gs := gs) (ρ := ρ) (r := r) h with ⟨p, z, d, h1, h2, h3⟩ | ⟨h1, h2⟩
    · exact .inl ⟨p + 1, z, d, by simpa using h1, by simpa using h2, h3⟩
    · refine .inr ⟨h1, fun c p z d e1 e2 => ?_⟩
      cases p with
      | zero => simp at e1
      | succ p => exact h2 c p z d (by simpa using e1) (by simpa using e2)
  | .bo i a :: gs, ρ, .bor d0 :: r, j, x, h => by
    have h : (upds (setC ρ i d0) gs r)[j]? = some x := h
    rcases upds_get (gs := gs) (ρ := setC ρ i d0) (r := r) h with ⟨p, z, d, h1, h2, h3, y, h4, h5, h6⟩ | ⟨h1, h2⟩
    · refine .inl ⟨p + 1, z, d, by simpa using h1, by simpa using h2, h3, ?_⟩
      rcases setC_get h4 with ⟨h7, _⟩ | ⟨rfl, h7, w, h8, h9⟩
      · exact ⟨y, h7, h5, h6⟩
      · refine ⟨w, h8, ?_, ?_⟩
        · rcases h9 with ⟨_, u, rfl⟩ | ⟨_, u, rfl⟩ <;> rfl
        · rw [h6]
          rcases h9 with ⟨rfl, u, rfl⟩ | ⟨rfl, u, rfl⟩
          · exact ⟨fun ⟨u, e⟩ => (nomatch e), fun ⟨u, e⟩ => (nomatch e)⟩
          · exact ⟨fun _ => ⟨u, rfl⟩, fun _ => ⟨_, rfl⟩⟩
    · rcases setC_get h1 with ⟨h7, h8⟩ | ⟨rfl, h7, w, h8, h9⟩
      · refine .inr ⟨h7, fun c p z d e1 e2 => ?_⟩
        cases p with
        | zero =>
          have e1 : some (Arg.bo i a) = some (Arg.bo j z) := e1
          cases e1
          rcases h8 with h8 | h8
          · exact h8 rfl
          · rw [h8] at c
            cases c
        | succ p => exact h2 c p z d (by simpa using e1) (by simpa using e2)
      · refine .inl ⟨0, a, d0, rfl, rfl, h7, w, h8, ?_, ?_⟩
        · rcases h9 with ⟨_, u, rfl⟩ | ⟨_, u, rfl⟩ <;> rfl
        · rcases h9 with ⟨rfl, u, rfl⟩ | ⟨rfl, u, rfl⟩
          · exact ⟨fun ⟨u, e⟩ => (nomatch e), fun ⟨u, e⟩ => (nomatch e)⟩
          · exact ⟨fun _ => ⟨u, rfl⟩, fun _ => ⟨_, rfl⟩⟩
  | .bo i a :: gs, ρ, .un :: r, j, x, h => by
    rcases upds_get (gs := gs) (ρ := ρ) (r := r) h with ⟨p, z, d, h1, h2, h3⟩ | ⟨h1, h2⟩
    · exact .inl ⟨p + 1, z, d, by simpa using h1, by simpa using h2, h3⟩
    · refine .inr ⟨h1, fun c p z d e1 e2 => ?_⟩
      cases p with
      | zero => simp at e2
      | succ p => exact h2 c p z d (by simpa using e1) (by simpa using e2)
  | .bo i a :: gs, ρ, .val _ :: r, j, x, h => by
    rcases upds_get (gs := gs) (ρ := ρ) (r := r) h with ⟨p, z, d, h1, h2, h3⟩ | ⟨h1, h2⟩
    · exact .inl ⟨p + 1, z, d, by simpa using h1, by simpa using h2, h3⟩
    · refine .inr ⟨h1, fun c p z d e1 e2 => ?_⟩
      cases p with
      | zero => simp at e2
      | succ p => exact h2 c p z d (by simpa using e1) (by simpa using e2)
  | .bo i a :: gs, ρ, .own _ :: r, j, x, h => by
    rcases upds_get (gs := gs) (ρ := ρ) (r := r) h with ⟨p, z, d, h1, h2, h3⟩ | ⟨h1, h2⟩
    · exact .inl ⟨p + 1, z, d, by simpa using h1, by simpa using h2, h3⟩
    · refine .inr ⟨h1, fun c p z d e1 e2 => ?_⟩
      cases p with
      | zero => simp at e2
      | succ p => exact h2 c p z d (by simpa using e1) (by simpa using e2)
theorem upds_length : ∀ (gs : List Arg) (ρ r : Sls), (upds ρ gs r).length = ρ.length
  | [], ρ, [] => rfl
  | [], ρ, _ :: _ => rfl
  | .va _ :: gs, ρ, [] => rfl
  | .bo _ _ :: gs, ρ, [] => rfl
  | .va _ :: gs, ρ, _ :: r => upds_length gs ρ r
  | .bo i _ :: gs, ρ, .bor d :: r => (upds_length gs (setC ρ i d) r).trans (setC_length ρ i d)
  | .bo _ _ :: gs, ρ, .un :: r => upds_length gs ρ r
  | .bo _ _ :: gs, ρ, .val _ :: r => upds_length gs ρ r
  | .bo _ _ :: gs, ρ, .own _ :: r => upds_length gs ρ r
theorem setC_bor {ρ : Sls} {i j : Nat} {d x : U} (h : ρ[j]? = some (.bor x)) : ∃ y, (setC ρ i d)[j]? = some (.bor y) := by
  unfold setC
  split
  · rename_i z e
    by_cases q : i = j
    · subst q
      rw [h] at e
      cases e
    · exact ⟨x, by rw [List.getElem?_set_ne q]; exact h⟩
  · rename_i z e
    by_cases q : i = j
    · subst q
      exact ⟨d, List.getElem?_set_self (lt_of_get h)⟩
    · exact ⟨x, by rw [List.getElem?_set_ne q]; exact h⟩
  · exact ⟨x, h⟩
theorem upds_bor : ∀ (gs : List Arg) {ρ r : Sls} {j : Nat} {x : U}, ρ[j]? = some (.bor x) → ∃ y, (upds ρ gs r)[j]? = some (.bor y)
  | [], _, [], _, x, h => ⟨x, h⟩
  | [], _, _ :: _, _, x, h => ⟨x, h⟩
  | .va _ :: gs, _, [], _, x, h => ⟨x, h⟩
  | .bo _ _ :: gs, _, [], _, x, h => ⟨x, h⟩
  | .va _ :: gs, ρ, _ :: r, _, _, h => upds_bor gs (r := r) h
  | .bo i _ :: gs, ρ, .bor d :: r, _, _, h => by
    obtain ⟨y, e⟩ := setC_bor (i := i) (d := d) h
    exact upds_bor gs (r := r) e
  | .bo _ _ :: gs, ρ, .un :: r, _, _, h => upds_bor gs (r := r) h
  | .bo _ _ :: gs, ρ, .val _ :: r, _, _, h => upds_bor gs (r := r) h
  | .bo _ _ :: gs, ρ, .own _ :: r, _, _, h => upds_bor gs (r := r) h
theorem ArgsOk.get {s : Sta} : ∀ {vs : List V} {gs : List Arg} {p : Nat} {g : Arg}, ArgsOk K s vs gs → gs[p]? = some g → ∃ v, vs[p]? = some v ∧ match g with
    | .va d => At K s.G v d
    | .bo i d => s.σ[i]? = some (some v) ∧ ∃ sl, s.ρ[i]? = some sl ∧ sl.cell = some d
  | _, _, _, _, .nil, e => by simp at e
  | _, _, 0, g, .va h t, e => by
    have e : some (Arg.va _) = some g := e
    cases e
    exact ⟨_, rfl, h⟩
  | _, _, 0, g, .bo h1 h2 h3 t, e => by
    have e : some (Arg.bo _ _) = some g := e
    cases e
    exact ⟨_, rfl, h1, _, h2, h3⟩
  | _, _, p + 1, g, .va h t, e => by
    obtain ⟨v, h1, h2⟩ := ArgsOk.get t (p := p) (by simpa using e)
    exact ⟨v, by simpa using h1, h2⟩
  | _, _, p + 1, g, .bo _ _ _ t, e => by
    obtain ⟨v, h1, h2⟩ := ArgsOk.get t (p := p) (by simpa using e)
    exact ⟨v, by simpa using h1, h2⟩
theorem ArgsOk.length {s : Sta} : ∀ {vs : List V} {gs : List Arg}, ArgsOk K s vs gs → vs.length = gs.length
  | _, _, .nil => rfl
  | _, _, .va _ t => congrArg (· + 1) (ArgsOk.length t)
  | _, _, .bo _ _ _ t => congrArg (· + 1) (ArgsOk.length t)
/-- the callee's state at its entry -/
theorem callee_den {s : Sta} {vs : List V} {gs : List Arg} (D : Den K s) (ok : ArgsOk K s vs gs) (hs : sep gs = true) :
    Den K ⟨s.G, gs.map Arg.slot, vs.map some, s.H⟩ ∧ Args (gs.map Arg.slot) ∧ (∀ p a, OwnAt ⟨s.G, gs.map Arg.slot, vs.map some, s.H⟩ p a → ∃ i d, gs[p]? = some (.bo i d) ∧ OwnAt s i a) := by
  have f : ∀ p a, OwnAt ⟨s.G, gs.map Arg.slot, vs.map some, s.H⟩ p a → ∃ i d, gs[p]? = some (.bo i d) ∧ OwnAt s i a := by
    rintro p a ⟨⟨sl, d, e1, e2⟩, e3⟩
    have e1 : (gs.map Arg.slot)[p]? = some sl := e1
    rw [List.getElem?_map] at e1
    cases e : gs[p]? with
    | none => rw [e] at e1; cases e1
    | some g =>
      rw [e] at e1
      have e1 : g.slot = sl := Option.some.inj e1
      cases g with
      | va x =>
        subst e1
        cases e2
      | bo i x =>
        obtain ⟨v, h1, h2, sl', h3, h4⟩ := ok.get e
        have e3 : (vs.map some)[p]? = some (some (.ref a)) := e3
        rw [List.getElem?_map, h1] at e3
        have e3 : v = .ref a := Option.some.inj (Option.some.inj e3)
        subst e3
        exact ⟨i, x, rfl, ⟨sl', x, h3, h4⟩, h2⟩
  refine ⟨⟨D.sub, ?_, fun p d e => ?_, fun p sl d e1 e2 => ?_, fun p q a h1 h2 => ?_⟩, fun p sl e => ?_, f⟩
  · show (vs.map some).length = (gs.map Arg.slot).length
    rw [List.length_map, List.length_map]
    exact ok.length
  · have e1 : (gs.map Arg.slot)[p]? = some (.val d) := e
    rw [List.getElem?_map] at e1
    cases e : gs[p]? with
    | none => rw [e] at e1; cases e1
    | some g =>
      rw [e] at e1
      have e1 : g.slot = .val d := Option.some.inj e1
      cases g with
      | va x =>
        cases e1
        obtain ⟨v, h1, h2⟩ := ok.get e
        exact ⟨v, by show (vs.map some)[p]? = _; rw [List.getElem?_map, h1]; rfl, h2⟩
      | bo i x => cases e1
  · have e1 : (gs.map Arg.slot)[p]? = some sl := e1
    rw [List.getElem?_map] at e1
    cases e : gs[p]? with
    | none => rw [e] at e1; cases e1
    | some g =>
      rw [e] at e1
      have e1 : g.slot = sl := Option.some.inj e1
      cases g with
      | va x =>
        subst e1
        cases e2
      | bo i x =>
        subst e1
        cases e2
        obtain ⟨v, h1, h2, sl', h3, h4⟩ := ok.get e
        obtain ⟨a, o, h5, h6⟩ := D.own i sl' _ h3 h4
        rw [h2] at h5
        cases h5
        exact ⟨a, o, by show (vs.map some)[p]? = _; rw [List.getElem?_map, h1]; rfl, h6⟩
  · obtain ⟨i, x, g1, o1⟩ := f p a h1
    obtain ⟨j, y, g2, o2⟩ := f q a h2
    obtain rfl := D.dis i j a o1 o2
    exact sep_ix hs g1 g2
  · rw [List.getElem?_map] at e
    cases q : gs[p]? with
    | none => rw [q] at e; cases e
    | some g =>
      rw [q] at e
      have e : g.slot = sl := Option.some.inj e
      cases g with
      | va x => exact .inl ⟨x, e.symm⟩
      | bo i x => exact .inr ⟨x, e.symm⟩
/-- the caller's state behind the call -/
theorem caller_den {s s3 : Sta} {vs : List V} {gs : List Arg} (D : Den K s) (ok : ArgsOk K s vs gs) (hs : sep gs = true) (e3 : s3.σ = vs.map some) (D3 : Den K s3) (n3 : Stp ⟨s.G, gs.map Arg.slot, vs.map some, s.H⟩ s3) :
    Nxt K s ⟨s3.G, upds s.ρ gs s3.ρ, s.σ, s3.H⟩ ∧ (∀ a, Owns ⟨s3.G, upds s.ρ gs s3.ρ, s.σ, s3.H⟩ a → Owns s a) ∧ (∀ a, Owns ⟨s.G, gs.map Arg.slot, vs.map some, s.H⟩ a → Owns s3 a) := by
  obtain ⟨Dc, ar, f⟩ := callee_den D ok hs
  have back : ∀ {j a}, OwnAt ⟨s3.G, upds s.ρ gs s3.ρ, s.σ, s3.H⟩ j a → OwnAt s j a := fun {j a} ⟨⟨sl, d, e1, e2⟩, e4⟩ => by
    rcases upds_get e1 with ⟨p, z, d', h1, h2, h3, y, h4, h5, _⟩ | ⟨h1, _⟩
    · cases q : y.cell with
      | none => rw [q] at h5; cases h5
      | some w => exact ⟨⟨y, w, h4, q⟩, e4⟩
    · exact ⟨⟨sl, d, h1, e2⟩, e4⟩
  have no : ∀ {a}, ¬ Owns s a → ¬ Owns ⟨s.G, gs.map Arg.slot, vs.map some, s.H⟩ a := fun {a} h ⟨p, hp⟩ => by
    obtain ⟨i, d, _, o⟩ := f p a hp
    exact h ⟨i, o⟩
  have lent : ∀ {p j : Nat} {z : U} {a : Addr}, gs[p]? = some (Arg.bo j z) → OwnAt s j a → OwnAt ⟨s.G, gs.map Arg.slot, vs.map some, s.H⟩ p a := fun {p j z a} g ⟨_, o2⟩ => by
    obtain ⟨v, h1, h2, sl', h3, h4⟩ := ok.get g
    rw [o2] at h2
    cases h2
    exact ⟨⟨.bor z, z, by show (gs.map Arg.slot)[p]? = _; rw [List.getElem?_map, g]; rfl, rfl⟩, by show (vs.map some)[p]? = _; rw [List.getElem?_map, h1]; rfl⟩
  have bor3 : ∀ {p j : Nat} {z : U}, gs[p]? = some (Arg.bo j z) → ∃ d', s3.ρ[p]? = some (Sl.bor d') ∧ s3.σ[p]? = (vs.map some)[p]? := fun {p j z} g =>
    n3.bor p z (by show (gs.map Arg.slot)[p]? = _; rw [List.getElem?_map, g]; rfl)
  refine ⟨⟨⟨n3.sub, fun a o e h => n3.fr a o e (no h), n3.dom, fun a ⟨j, h⟩ => .inl ⟨j, back h⟩, fun a n1 n2 e => n3.gfr a n1 (no n2) e, fun j x e => ?_⟩, ⟨D3.sub, ?_, fun j d e => ?_, fun j sl d e1 e2 => ?_, fun i j a h1 h2 => D.dis i j a (back h1) (back h2)⟩, rfl⟩, fun a ⟨j, h⟩ => ⟨j, back h⟩, fun a ⟨p, h⟩ => ?_⟩
  · obtain ⟨y, h⟩ := upds_bor gs (r := s3.ρ) e
    exact ⟨y, h, rfl⟩
  · show s.σ.length = (upds s.ρ gs s3.ρ).length
    rw [upds_length]
    exact D.len
  · rcases upds_get e with ⟨p, z, d', h1, h2, h3, _⟩ | ⟨h1, _⟩
    · cases h3
    · obtain ⟨v, h2, h3⟩ := D.val j d h1
      exact ⟨v, h2, At.mono n3.sub _ _ h3⟩
  · rcases upds_get e1 with ⟨p, z, d', h1, h2, h3, y, h4, h5, _⟩ | ⟨h1, h2⟩
    · rw [e2] at h3
      cases h3
      obtain ⟨a, o, h6, h7⟩ := D3.own p _ d h2 rfl
      obtain ⟨v, h8, h9, _⟩ := ok.get h1
      rw [e3, List.getElem?_map, h8] at h6
      have h6 : v = .ref a := Option.some.inj (Option.some.inj h6)
      subst h6
      exact ⟨a, o, h9, h7⟩
    · obtain ⟨a, o, h3, h4, h5, h6⟩ := D.own j sl d h1 e2
      have oa : OwnAt s j a := ⟨⟨sl, d, h1, e2⟩, h3⟩
      have nc : ¬ Owns ⟨s.G, gs.map Arg.slot, vs.map some, s.H⟩ a := fun ⟨p, hp⟩ => by
        obtain ⟨i, x, g, o'⟩ := f p a hp
        obtain rfl := D.dis i j a o' oa
        obtain ⟨d', h7, _⟩ := bor3 g
        exact h2 (by rw [e2]; rfl) p x d' g h7
      exact ⟨a, o, h3, n3.gfr a (fun q => by rw [show s.H a = some o from h5] at q; cases q) nc h4, n3.fr a o h5 nc, h6.mono n3.sub⟩
  · obtain ⟨i, d, g, o⟩ := f p a h
    obtain ⟨d', h1, h2⟩ := bor3 g
    obtain ⟨_, h3⟩ := h
    exact ⟨p, ⟨.bor d', d', h1, rfl⟩, h2.trans h3⟩
/-- what a call asks -/
def CallU (R : RU) (avs : List Av) (ρ : Sls) (Q : Av → Sls → Prop) (X : Er → Sls → Prop) : Prop := ∃ gs ρ1, Pas ρ avs gs ρ1 ∧ sep gs = true ∧
  ∀ (Q' : Av → Sls → Prop) (X' : Er → Sls → Prop), (∀ a r, Q a (upds ρ1 gs r) → Q' a r) → (∀ e r, X e (upds ρ1 gs r) → X' e r) → R (gs.map Arg.slot) Q' X'
theorem CallU.run {R : RU} {avs : List Av} {Q : Av → Sls → Prop} {X : Er → Sls → Prop} {s : Sta} {vs : List V} {Q0 : VK} {E : XK} (h : CallU R avs s.ρ Q X) (D : Den K s) (ok : AvsOk K s vs avs) (k : Cnt K s Q Q0)
    (x : ∀ cls dd e s', Stp s s' → Den K s' → s'.σ = s.σ → ErOk K s' cls dd e → X e s'.ρ → E cls dd s'.H) : spU K R vs s.H Q0 E := by
  obtain ⟨gs, ρ1, hp, hs, hR⟩ := h
  obtain ⟨s2, e1, e2, n2, ok2⟩ := hp.run rfl D ok
  subst e1
  rw [← e2]
  obtain ⟨Dc, ar, f⟩ := callee_den n2.den ok2 hs
  refine ⟨s2.G, gs.map Arg.slot, Dc, ar, hR _ _ (fun a r q v s3 h1 h2 D3 n3 na ok3 => ?_) fun e r q cls dd s3 h1 h2 D3 n3 ok3 => ?_⟩
  · subst h2
    obtain ⟨n4, b1, b2⟩ := caller_den n2.den ok2 hs h1 D3 n3
    refine (k.lift n2) v a ⟨s3.G, upds s2.ρ gs s3.ρ, s2.σ, s3.H⟩ n4 ?_ q
    cases a with
    | dt d => exact ok3
    | sl i => exact na.elim
    | own d =>
      obtain ⟨b, o, h3, h4, h5, h6, h7, h8⟩ := ok3
      have h9 : s2.H b = none := by
        rcases h8 with h | h
        · exact h
        · exact absurd (b2 b h) h7
      refine ⟨b, o, h3, h4, h5, h6, fun z => ?_, .inl h9⟩
      exact (n2.den.free h9).2 (b1 b z)
  · subst h2
    obtain ⟨n4, b1, b2⟩ := caller_den n2.den ok2 hs h1 D3 n3
    exact x cls dd e ⟨s3.G, upds s2.ρ gs s3.ρ, s2.σ, s3.H⟩ (n2.trans n4).stp n4.den (n4.slots.trans n2.slots) ok3 q
variable {X : Er → Sls → Prop} {ρ : Sls}
/-- f(..), nothing is raised -/
theorem we_call {R : RU} {t : TA} {Q : Av → Sls → Prop} (h : WA K W t ρ (fun as ρ1 => CallU R as ρ1 Q (fun _ _ => False)) X) : WE K W (tCall (spU K R) [] E0 t) ρ Q X := by
  rintro s Q0 rfl D x k
  refine h s _ rfl D x fun vs as s1 n1 ok q => ?_
  rw [List.append_nil]
  exact q.run n1.den ok (k.lift n1) fun _ _ _ _ _ _ _ _ z => z.elim
/-- f(..), what is raised is wished for at the slots -/
theorem we_callS {R : RU} {t : TA} {Q : Av → Sls → Prop} (h : WA K W t ρ (fun as ρ1 => CallU R as ρ1 Q X) X) : WE K W (tCallS (spU K R) (fun σ cls dd H => W cls dd σ H) t) ρ Q X := by
  rintro s Q0 rfl D x k
  refine h s _ rfl D x fun vs as s1 n1 ok q => ?_
  refine q.run n1.den ok (k.lift n1) fun cls dd e s' n d eσ ok' z => ?_
  have := (x.next n1.stp) cls dd e s' n d ok' z
  rw [eσ, n1.slots] at this
  exact this
end

/-! ### what is walked -/
section
variable {K : PySem.W.Frag} {W : Wx} {X : Er → Sls → Prop} {ρ : Sls} {P : Post}
def UWalk (K : PySem.W.Frag) (s : Sta) (J : It) (ds : List U) : Prop := ∃ (Gd : Hp → Prop) (Y : Nat → Hp → V → Hp → Prop), Walk J ds.length Gd Y ∧
  (∀ s', Stp s s' → Den K s' → Gd s'.H) ∧
  (∀ i x s' H', i < ds.length → Stp s s' → Den K s' → Y i s'.H x H' → ∃ s'' d, s''.ρ = s'.ρ ∧ s''.H = H' ∧ Nxt K s' s'' ∧ ds[i]? = some d ∧ At K s''.G x d)
def WI (K : PySem.W.Frag) (W : Wx) (wi : TI) (ρ : Sls) (Q : List U → Sls → Prop) (X : Er → Sls → Prop) : Prop :=
  ∀ (s : Sta) (R0 : It → Hp → Prop), s.ρ = ρ → Den K s → XOk K s W X → (∀ J ds s', Nxt K s s' → UWalk K s' J ds → Q ds s'.ρ → R0 J s'.H) → wi s.σ s.H R0
theorem uwalk_list {s : Sta} {a : Addr} {xs : List V} {ds : List U} (h : SqL K s.G a xs) (hd : AtAll K s.G xs ds) : UWalk K s (Itl K a) ds := by
  refine ⟨_, _, (hd.length ▸ walk_list (K := K) (a := a) (xs := xs)), fun s' n D => sql_same (n.sub.trans D.sub) h, fun i x s' H' hi n D y => ?_⟩
  obtain ⟨rfl, y⟩ := y
  obtain ⟨d, e, q⟩ := hd.get y
  exact ⟨s', d, rfl, rfl, Nxt.refl D, e, At.mono n.sub _ _ q⟩
theorem uwalk_tup {s : Sta} {a : Addr} {xs : List V} {ds : List U} (h : SqT K s.G a xs) (hd : AtAll K s.G xs ds) : UWalk K s (Itt K a) ds := by
  refine ⟨_, _, (hd.length ▸ walk_tup (K := K) (a := a) (xs := xs)), fun s' n D => sqt_same (n.sub.trans D.sub) h, fun i x s' H' hi n D y => ?_⟩
  obtain ⟨rfl, y⟩ := y
  obtain ⟨d, e, q⟩ := hd.get y
  exact ⟨s', d, rfl, rfl, Nxt.refl D, e, At.mono n.sub _ _ q⟩
theorem frz1 {s : Sta} {a : Av} {d : U} {ρ2 : Sls} {v : V} (f : Frz s.ρ [a] [d] ρ2) (fl : a.flat) (D : Den K s) (ok : AvOk K s s v a) : ∃ s2, s2.ρ = ρ2 ∧ s2.H = s.H ∧ Nxt K s s2 ∧ At K s2.G v d := by
  obtain ⟨s2, e1, e2, n, h⟩ := f.run rfl D (.cons fl ok .nil)
  cases h with
  | cons h _ => exact ⟨s2, e1, e2, n, h⟩
theorem wi_list {te : TE} {Q : List U → Sls → Prop} (h : WE K W te ρ (fun a ρ1 => ∃ ds ρ2, Frz ρ1 [a.fl] [.lst ds] ρ2 ∧ Q ds ρ2) X) : WI K W (iList K te) ρ Q X := by
  rintro s R0 rfl D x k
  refine WE.flat (Q := fun a ρ1 => ∃ ds ρ2, Frz ρ1 [a] [.lst ds] ρ2 ∧ Q ds ρ2) h rfl D x fun v a s1 n f ok ⟨ds, ρ2, hf, q⟩ => ?_
  obtain ⟨s2, e1, e2, n2, hv⟩ := frz1 hf f n.den ok
  cases hv with
  | lst hs ha =>
    rw [← e2]
    exact ⟨_, rfl, ⟨_, SqL.of (n2.den.sub _ _ hs)⟩, k _ ds s2 (n.trans n2) (uwalk_list (SqL.of hs) ha) (by rw [e1]; exact q)⟩
theorem wi_tup {te : TE} {Q : List U → Sls → Prop} (h : WE K W te ρ (fun a ρ1 => ∃ ds ρ2, Frz ρ1 [a.fl] [.tup ds] ρ2 ∧ Q ds ρ2) X) : WI K W (iTup K te) ρ Q X := by
  rintro s R0 rfl D x k
  refine WE.flat (Q := fun a ρ1 => ∃ ds ρ2, Frz ρ1 [a] [.tup ds] ρ2 ∧ Q ds ρ2) h rfl D x fun v a s1 n f ok ⟨ds, ρ2, hf, q⟩ => ?_
  obtain ⟨s2, e1, e2, n2, hv⟩ := frz1 hf f n.den ok
  cases hv with
  | tup hs ha =>
    rw [← e2]
    exact ⟨_, rfl, ⟨_, sqt_same n2.den.sub hs⟩, k _ ds s2 (n.trans n2) (uwalk_tup hs ha) (by rw [e1]; exact q)⟩
def rgU (lo : Int) (n : Nat) : List U := (List.range n).map fun i => U.int (lo + (i : Nat))
theorem rgU_length {lo : Int} {n : Nat} : (rgU lo n).length = n := by unfold rgU; rw [List.length_map, List.length_range]
theorem rgU_get {lo : Int} {n k : Nat} {d : U} (h : (rgU lo n)[k]? = some d) : k < n ∧ d = .int (lo + (k : Nat)) := by
  unfold rgU at h
  rw [List.getElem?_map] at h
  cases e : (List.range n)[k]? with
  | none => rw [e] at h; cases h
  | some i =>
    rw [e] at h
    have l := lt_of_get e
    rw [List.length_range] at l
    rw [List.getElem?_range l] at e
    cases e
    exact ⟨l, (Option.some.inj h).symm⟩
theorem uwalk_range {s : Sta} {lo : Int} {n : Nat} : UWalk K s (Itr lo n) (rgU lo n) := by
  refine ⟨fun _ => True, YFn fun i => .int (lo + i), (by rw [rgU_length]; exact walk_range (lo := lo) (n := n)), fun _ _ _ => trivial, fun i x s' H' hi m D y => ?_⟩
  obtain ⟨rfl, rfl⟩ := y
  rw [rgU_length] at hi
  refine ⟨s', .int (lo + (i : Nat)), rfl, rfl, Nxt.refl D, ?_, .int _⟩
  unfold rgU
  rw [List.getElem?_map, List.getElem?_range hi]
  rfl
theorem avs1 {s : Sta} {vs : List V} {i : Int} (h : AvsOk K s vs [.dt (.int i)]) : vs = [.int i] := by
  cases h with
  | cons _ h t =>
    cases t
    rw [at_int h]
theorem avs2 {s : Sta} {vs : List V} {i j : Int} (h : AvsOk K s vs [.dt (.int i), .dt (.int j)]) : vs = [.int i, .int j] := by
  cases h with
  | cons _ h t =>
    rw [at_int h, avs1 t]
theorem wi_range1 {ta : TA} {Q : List U → Sls → Prop} (h : WA K W ta ρ (fun as ρ1 => ∃ j : Int, as = [.dt (.int j)] ∧ (-4000000000 ≤ j ∧ j ≤ 4000000000) ∧ Q (rgU 0 j.toNat) ρ1) X) : WI K W (iRng1 ta) ρ Q X := by
  rintro s R0 rfl D x k
  refine h s _ rfl D x fun vs as s1 n ok ⟨j, e, hj, q⟩ => ?_
  subst e
  obtain rfl := avs1 ok
  exact ⟨j, rfl, by omega, by omega, k _ _ s1 n uwalk_range q⟩
theorem wi_range2 {ta : TA} {Q : List U → Sls → Prop} (h : WA K W ta ρ (fun as ρ1 => ∃ i j : Int, as = [.dt (.int i), .dt (.int j)] ∧ (-4000000000 ≤ i ∧ i ≤ 4000000000 ∧ -4000000000 ≤ j ∧ j ≤ 4000000000) ∧ Q (rgU i (j - i).toNat) ρ1) X) : WI K W (iRng2 ta) ρ Q X := by
  rintro s R0 rfl D x k
  refine h s _ rfl D x fun vs as s1 n ok ⟨i, j, e, hj, q⟩ => ?_
  subst e
  obtain rfl := avs2 ok
  exact ⟨i, j, rfl, ⟨by omega, by omega, by omega, by omega⟩, k _ _ s1 n uwalk_range q⟩
/-! ### targets -/
def WG (K : PySem.W.Frag) (g : TG) (vs : List Nat) (d : U) (ρ : Sls) (N : Sls → Prop) : Prop :=
  ∀ (s : Sta) (v : V) (Q0 : L2.St → Hp → Prop), s.ρ = ρ → Den K s → At K s.G v d → (∀ s', Stp s s' → Den K s' → (∀ i, i ∉ vs → s'.σ[i]? = s.σ[i]?) → s'.σ.length = s.σ.length → N s'.ρ → Q0 s'.σ s'.H) → g v s.σ s.H Q0
def WGs (K : PySem.W.Frag) (g : TGs) (vs : List Nat) (ds : List U) (ρ : Sls) (N : Sls → Prop) : Prop :=
  ∀ (s : Sta) (us : List V) (Q0 : L2.St → Hp → Prop), s.ρ = ρ → Den K s → AtAll K s.G us ds → (∀ s', Stp s s' → Den K s' → (∀ i, i ∉ vs → s'.σ[i]? = s.σ[i]?) → s'.σ.length = s.σ.length → N s'.ρ → Q0 s'.σ s'.H) → g us s.σ s.H Q0
theorem wg_name {i : Nat} {vs : List Nat} {d : U} {N : Sls → Prop} (h : nb ρ i = true) (hi : i ∈ vs) (q : N (ρ.set i (.val d))) : WG K (gName i) vs d ρ N := by
  rintro s v Q0 rfl D hv k
  obtain ⟨a, b⟩ := put_val D h hv
  refine k _ a b (fun j hj => ?_) ?_ q
  · show (s.σ.set i _)[j]? = _
    rw [List.getElem?_set_ne (fun e => hj (by rw [← e]; exact hi))]
  · show (s.σ.set i _).length = _
    rw [List.length_set]
theorem wgs_nil {vs : List Nat} {N : Sls → Prop} (q : N ρ) : WGs K gNil vs [] ρ N := by
  rintro s us Q0 rfl D hv k
  cases hv
  exact ⟨rfl, k s (Stp.refl s) D (fun _ _ => rfl) rfl q⟩
theorem wgs_cons {t : TG} {u : TGs} {vs : List Nat} {d : U} {ds : List U} {N : Sls → Prop} (h : WG K t vs d ρ (fun ρ1 => WGs K u vs ds ρ1 N)) : WGs K (gCons t u) vs (d :: ds) ρ N := by
  rintro s us Q0 rfl D hv k
  cases hv with
  | cons hv ht =>
    refine ⟨_, _, rfl, h s _ _ rfl D hv fun s1 n1 D1 o1 l1 q1 => ?_⟩
    exact q1 s1 _ _ rfl D1 (AtAll.mono n1.sub _ _ ht) fun s2 n2 D2 o2 l2 q2 => k s2 (n1.trans n2) D2 (fun i hi => (o2 i hi).trans (o1 i hi)) (l2.trans l1) q2
theorem wg_tup {n : Nat} {t : TGs} {vs : List Nat} {d : U} {N : Sls → Prop} (h : ∃ ds, d = .tup ds ∧ ds.length = n ∧ WGs K t vs ds ρ N) : WG K (gTup K n t) vs d ρ N := by
  rintro s v Q0 rfl D hv k
  obtain ⟨ds, rfl, hl, h⟩ := h
  cases hv with
  | tup hs ha => exact ⟨_, _, rfl, sqt_same D.sub hs, by rw [ha.length]; exact hl, h s _ _ rfl D ha k⟩
theorem ws_asg {te : TE} {g : TG} {n : Nat} (h : WE K W te ρ (fun a ρ1 => ∃ d ρ2, Frz ρ1 [a.fl] [d] ρ2 ∧ WG K g (List.range n) d ρ2 P.nx) P.xc) : WS K W (tAsg te g) ρ P := by
  rintro s D rfl d x f
  refine WE.flat (Q := fun a ρ1 => ∃ d ρ2, Frz ρ1 [a] [d] ρ2 ∧ WG K g (List.range n) d ρ2 P.nx) h rfl d x fun v a s1 n1 fa ok ⟨z, ρ2, hf, q⟩ => ?_
  obtain ⟨s2, e1, e2, n2, hv⟩ := frz1 hf fa n1.den ok
  rw [← e2, ← n1.slots, ← n2.slots]
  exact q s2 v _ e1 n2.den hv fun s3 n3 D3 _ _ q3 => f.nx s3 ((n1.trans n2).stp.trans n3) D3 q3
/-! ### for -/
theorem ws_for {wi : TI} {g : TG} {tb : TS} (m : Nat) (h : WI K W wi ρ (fun ds ρ1 => ∃ Iv : Nat → Sls → Prop, Iv 0 ρ1 ∧
    (∀ (k : Nat) (d : U) (ρ2 : Sls), ds[k]? = some d → Iv k ρ2 → WG K g (List.range m) d ρ2 (fun ρ3 => WS K W tb ρ3 { P with nx := Iv (k + 1), ct := Iv (k + 1), bk := P.nx })) ∧ ∀ ρ2, Iv ds.length ρ2 → P.nx ρ2) P.xc) : WS K W (tFor wi g tb) ρ P := by
  rintro s D rfl d x f
  refine h s _ rfl d x fun J ds s1 n1 ⟨Gd, Y, w, hG, hY⟩ ⟨Iv, i0, step, fin⟩ => ?_
  refine for_it w (fun k σ H => ∃ s', s'.σ = σ ∧ s'.H = H ∧ Stp s1 s' ∧ Den K s' ∧ Iv k s'.ρ) ⟨s1, n1.slots, rfl, Stp.refl _, n1.den, i0⟩ ?_ ?_ ?_
  · rintro i σ H _ ⟨s', rfl, rfl, st, d', _⟩
    exact hG s' st d'
  · rintro i x' σ H H' hi ⟨s', rfl, rfl, st, d', inv⟩ y
    obtain ⟨s2, dd, e1, e2, n2, e3, e4⟩ := hY i x' s' H' hi st d' y
    rw [← e2, ← n2.slots]
    have st2 := st.trans n2.stp
    refine step i dd s'.ρ e3 inv s2 x' _ e1 n2.den e4 fun s3 n3 D3 _ _ q3 => ?_
    have st3 := st2.trans n3
    refine q3 s3 _ rfl D3 ((x.next n1.stp).next st3) ⟨fun s4 n4 D4 q4 => ⟨s4, rfl, rfl, st3.trans n4, D4, q4⟩, fun v av s4 n4 D4 ok q4 => (f.next (n1.stp.trans st3)).rt v av s4 n4 D4 ok q4, fun s4 n4 D4 q4 => (f.next (n1.stp.trans st3)).nx s4 n4 D4 q4, fun s4 n4 D4 q4 => ⟨s4, rfl, rfl, st3.trans n4, D4, q4⟩⟩
  · rintro σ H ⟨s', rfl, rfl, st, d', inv⟩
    exact f.nx s' (n1.stp.trans st) d' (fin _ inv)
/-! ### while -/
theorem ws_while {c : TT} {tb : TS} (Iv : Nat → Sls → Prop) (m0 : Nat) (i0 : Iv m0 ρ)
    (step : ∀ m ρ2, Iv m ρ2 → WT K W c ρ2 (fun b ρ3 => if b = true then WS K W tb ρ3 { P with nx := fun ρ4 => ∃ m', m' < m ∧ Iv m' ρ4, ct := fun ρ4 => ∃ m', m' < m ∧ Iv m' ρ4, bk := P.nx } else P.nx ρ3) P.xc) : WS K W (tWhile c tb) ρ P := by
  rintro s D rfl d x f
  refine ⟨fun m σ H => ∃ s', s'.σ = σ ∧ s'.H = H ∧ Stp s s' ∧ Den K s' ∧ Iv m s'.ρ, ⟨m0, s, rfl, rfl, Stp.refl s, d, i0⟩, ?_⟩
  rintro m σ H ⟨s', rfl, rfl, st, d', inv⟩
  refine step m s'.ρ inv s' _ rfl d' (x.next st) fun b s1 n1 q => ?_
  have st1 := st.trans n1.stp
  cases b with
  | true =>
    refine iteT ⟨fun σ H => ∃ m', m' < m ∧ ∃ s', s'.σ = σ ∧ s'.H = H ∧ Stp s s' ∧ Den K s' ∧ Iv m' s'.ρ, fun σ H h => h, ?_⟩
    rw [← n1.slots]
    have q : WS K W tb s1.ρ { P with nx := fun ρ4 => ∃ m', m' < m ∧ Iv m' ρ4, ct := fun ρ4 => ∃ m', m' < m ∧ Iv m' ρ4, bk := P.nx } := by simpa using q
    exact q s1 _ rfl n1.den (x.next st1) ⟨fun s4 n4 D4 ⟨m', l, q4⟩ => ⟨m', l, s4, rfl, rfl, st1.trans n4, D4, q4⟩, fun v av s4 n4 D4 ok q4 => (f.next st1).rt v av s4 n4 D4 ok q4, fun s4 n4 D4 q4 => (f.next st1).nx s4 n4 D4 q4, fun s4 n4 D4 ⟨m', l, q4⟩ => ⟨m', l, s4, rfl, rfl, st1.trans n4, D4, q4⟩⟩
  | false =>
    refine iteF ?_
    rw [← n1.slots]
    exact f.nx s1 st1 n1.den (by simpa using q)
/-! ### comprehensions -/
def wipeE (ρ : Sls) : List Nat → Sls
  | [] => ρ
  | v :: vs => (wipeE ρ vs).set v .un
def keepV : Option Sl → Sl
  | some (.val d) => .val d
  | _ => .un
def mixE (ρ1 ρ2 : Sls) : List Nat → Sls
  | [] => ρ2
  | v :: vs => (mixE ρ1 ρ2 vs).set v (keepV ρ1[v]?)
theorem wipe1 {s : Sta} {i : Nat} (D : Den K s) (h : nb s.ρ i = true) : Stp s { s with ρ := s.ρ.set i .un, σ := s.σ.set i none } ∧ Den K { s with ρ := s.ρ.set i .un, σ := s.σ.set i none } := by
  obtain ⟨hl, hb⟩ := nb_lt h
  have f : ∀ {j b}, OwnAt { s with ρ := s.ρ.set i .un, σ := s.σ.set i none } j b → j ≠ i ∧ OwnAt s j b := fun {j b} h => by
    obtain ⟨⟨sl, x, q1, q2⟩, q3⟩ := h
    rcases get_set q1 with ⟨rfl, h, _⟩ | ⟨n, q⟩
    · subst h
      cases q2
    · refine ⟨n, ⟨sl, x, q, q2⟩, ?_⟩
      rcases get_set q3 with ⟨h, _⟩ | ⟨_, q3⟩
      · exact absurd h n
      · exact q3
  refine ⟨⟨fun _ _ e => e, fun _ _ e _ => e, fun _ e => e, fun b ⟨j, h⟩ => .inl ⟨j, (f h).2⟩, fun _ _ _ e => e, fun j x e => ?_⟩, ⟨D.sub, ?_, fun j x e => ?_, fun j sl x e1 e2 => ?_, fun j k b h1 h2 => D.dis j k b (f h1).2 (f h2).2⟩⟩
  · have n : i ≠ j := fun q => hb x (by rw [q]; exact e)
    exact ⟨x, by show (s.ρ.set i _)[j]? = _; rw [List.getElem?_set_ne n]; exact e, by show (s.σ.set i _)[j]? = _; rw [List.getElem?_set_ne n]⟩
  · show (s.σ.set i none).length = (s.ρ.set i .un).length
    rw [List.length_set, List.length_set]
    exact D.len
  · rcases get_set e with ⟨rfl, h, _⟩ | ⟨n, e⟩
    · cases h
    · obtain ⟨u, h1, h2⟩ := D.val j x e
      exact ⟨u, by show (s.σ.set i _)[j]? = _; rw [List.getElem?_set_ne (Ne.symm n)]; exact h1, h2⟩
  · rcases get_set e1 with ⟨rfl, h, _⟩ | ⟨n, e⟩
    · subst h
      cases e2
    · obtain ⟨b, u, h1, h2, h3, h4⟩ := D.own j sl x e e2
      exact ⟨b, u, by show (s.σ.set i _)[j]? = _; rw [List.getElem?_set_ne (Ne.symm n)]; exact h1, h2, h3, h4⟩
/-- all of these slots can be wiped -/
def nbs (ρ : Sls) : List Nat → Bool
  | [] => true
  | v :: vs => nb (wipeE ρ vs) v && nbs ρ vs
theorem wipe_all {s : Sta} (D : Den K s) : ∀ {vs : List Nat}, nbs s.ρ vs = true → Stp s { s with ρ := wipeE s.ρ vs, σ := wipe s.σ vs } ∧ Den K { s with ρ := wipeE s.ρ vs, σ := wipe s.σ vs }
  | [], _ => ⟨Stp.refl s, D⟩
  | v :: vs, h => by
    have h : (nb (wipeE s.ρ vs) v && nbs s.ρ vs) = true := h
    rw [Bool.and_eq_true] at h
    obtain ⟨a, b⟩ := wipe_all D h.2
    obtain ⟨c, d⟩ := wipe1 (s := { s with ρ := wipeE s.ρ vs, σ := wipe s.σ vs }) b h.1
    exact ⟨a.trans c, d⟩
theorem wipe_ext {σ σ' : L2.St} : ∀ {vs : List Nat}, (∀ i, i ∉ vs → σ'[i]? = σ[i]?) → σ'.length = σ.length → wipe σ' vs = wipe σ vs := by
  intro vs h l
  apply List.ext_getElem?
  intro i
  by_cases hi : i ∈ vs
  · have key : ∀ (σ : L2.St) (vs : List Nat), i ∈ vs → (wipe σ vs)[i]? = if i < σ.length then some none else none := by
      intro σ vs
      induction vs with
      | nil => intro h; cases h
      | cons v vs ih =>
        intro h
        unfold wipe
        by_cases q : v = i
        · subst q
          rw [List.getElem?_set, if_pos rfl, wipe_length]
        · rw [List.getElem?_set_ne q]
          exact ih (by rcases List.mem_cons.mp h with e | e; exact absurd e.symm q; exact e)
    rw [key σ' vs hi, key σ vs hi, l]
  · rw [wipe_out hi, wipe_out hi]
    exact h i hi
theorem wipe_idem {σ : L2.St} {vs : List Nat} : wipe (wipe σ vs) vs = wipe σ vs := wipe_ext (fun i hi => wipe_out hi) (wipe_length σ vs)
theorem mix_get {ρ1 ρ2 : Sls} {i : Nat} {x : Sl} : ∀ {vs : List Nat}, (mixE ρ1 ρ2 vs)[i]? = some x → (i ∈ vs ∧ x = keepV ρ1[i]?) ∨ (i ∉ vs ∧ ρ2[i]? = some x)
  | [], h => .inr ⟨by simp, h⟩
  | v :: vs, h => by
    rcases get_set (show ((mixE ρ1 ρ2 vs).set v (keepV ρ1[v]?))[i]? = some x from h) with ⟨rfl, rfl, _⟩ | ⟨n, h⟩
    · exact .inl ⟨List.mem_cons_self, rfl⟩
    · rcases mix_get h with ⟨m, e⟩ | ⟨m, e⟩
      · exact .inl ⟨List.mem_cons_of_mem _ m, e⟩
      · exact .inr ⟨fun z => by rcases List.mem_cons.mp z with z | z; exact n z; exact m z, e⟩
theorem mix_length {ρ1 ρ2 : Sls} : ∀ {vs : List Nat}, (mixE ρ1 ρ2 vs).length = ρ2.length
  | [] => rfl
  | v :: vs => by unfold mixE; rw [List.length_set]; exact mix_length
/-- a new object that is in no slot is written -/
theorem poke {s0 s : Sta} {p : Addr} {o u : HO} (n0 : Stp s0 s) (D : Den K s) (h0 : s0.H p = none) (h1 : s.H p = some u) (h2 : s.G p = none) (h3 : ¬ Owns s p) : Stp s0 { s with H := upd s.H p o } ∧ Den K { s with H := upd s.H p o } := by
  refine ⟨⟨n0.sub, fun a x e n => ?_, fun a e => ?_, n0.own, n0.gfr, n0.bor⟩, ⟨fun a x e => ?_, D.len, D.val, fun i sl d e1 e2 => ?_, D.dis⟩⟩
  · show upd s.H p o a = some x
    rw [upd_ne (ne_of_none e h0)]
    exact n0.fr a x e n
  · have e : upd s.H p o a = none := e
    by_cases q : a = p
    · rw [q, upd_same] at e
      cases e
    · rw [upd_ne q] at e
      exact n0.dom a e
  · show upd s.H p o a = some x
    rw [upd_ne (ne_of_none e h2)]
    exact D.sub a x e
  · obtain ⟨a, x, e3, e4, e5, e6⟩ := D.own i sl d e1 e2
    refine ⟨a, x, e3, e4, ?_, e6⟩
    show upd s.H p o a = some x
    rw [upd_ne (fun q => h3 (by rw [← q]; exact ⟨i, ⟨sl, d, e1, e2⟩, e3⟩))]
    exact e5
/-- a new object that is in no slot stays -/
theorem Stp.temp {s s' : Sta} {p : Addr} {u : HO} (n : Stp s s') (h1 : s.H p = some u) (h2 : s.G p = none) (h3 : ¬ Owns s p) : s'.H p = some u ∧ s'.G p = none ∧ ¬ Owns s' p :=
  ⟨n.fr p u h1 h3, n.gfr p (by rw [h1]; exact nofun) h3 h2, fun h => by
    rcases n.own p h with h | h
    · exact h3 h
    · rw [h1] at h
      cases h⟩
theorem we_lc {wi : TI} {g : TG} {tt : TT} {te : TE} {vs : List Nat} {Q : Av → Sls → Prop} (h : WI K W wi ρ (fun ds ρ1 => nbs ρ1 vs = true ∧ ∃ Iv : Nat → List U → Sls → Prop, Iv 0 [] (wipeE ρ1 vs) ∧
    (∀ (k : Nat) (d : U) (acc : List U) (ρ2 : Sls), ds[k]? = some d → acc.length ≤ k → Iv k acc ρ2 → WG K g vs d ρ2 (fun ρ3 => WT K W tt ρ3 (fun b ρ4 => if b = true then
        WE K W te ρ4 (fun a ρ5 => ∃ d' ρ6, Frz ρ5 [a.fl] [d'] ρ6 ∧ acc.length < 1000 ∧ nbs ρ6 vs = true ∧ Iv (k + 1) (acc ++ [d']) (wipeE ρ6 vs)) X
      else nbs ρ4 vs = true ∧ Iv (k + 1) acc (wipeE ρ4 vs)) X)) ∧
    ∀ acc ρ2, acc.length ≤ ds.length → Iv ds.length acc ρ2 → Q (.own (.lst acc)) (mixE ρ1 ρ2 vs)) X) : WE K W (tLc wi g tt te vs) ρ Q X := by
  rintro s Q0 rfl D x k
  refine h s _ rfl D x fun J ds s1 n1 ⟨Gd, Y, w, hG, hY⟩ ⟨hnb, Iv, i0, step, fin⟩ => ?_
  intro p hp
  have nL := lay (o := .lst []) n1.den hp
  obtain ⟨sw, dw⟩ := wipe_all (s := { s1 with H := upd s1.H p (.lst []) }) nL.den hnb
  have stw := nL.stp.trans sw
  obtain ⟨g0, o0⟩ := n1.den.free hp
  have ow : ¬ Owns { s1 with H := upd s1.H p (.lst []), ρ := wipeE s1.ρ vs, σ := wipe s1.σ vs } p := fun h => by
    rcases sw.own p h with h | h
    · exact o0 h
    · have h : upd s1.H p (.lst []) p = none := h
      rw [upd_same] at h
      cases h
  rw [← n1.slots]
  refine lc_it w (fun k H => ∃ s' xs acc, s'.H = H ∧ s'.σ = wipe s1.σ vs ∧ Stp s1 s' ∧ Den K s' ∧ s'.H p = some (.lst xs) ∧ AtAll K s'.G xs acc ∧ s'.G p = none ∧ ¬ Owns s' p ∧ acc.length ≤ k ∧ Iv k acc s'.ρ)
    ⟨{ s1 with H := upd s1.H p (.lst []), ρ := wipeE s1.ρ vs, σ := wipe s1.σ vs }, [], [], rfl, rfl, stw, dw, upd_same, .nil, g0, ow, Nat.le_refl _, i0⟩ ?_ ?_ ?_
  · rintro i H _ ⟨s', xs, acc, rfl, _, st, d', _⟩
    exact hG s' st d'
  · rintro i x' H H' hi ⟨s', xs, acc, rfl, eσ, st, d', hD, hx, hg, ho, hl, inv⟩ y
    obtain ⟨s2, dd, e1, e2, n2, e3, e4⟩ := hY i x' s' H' hi st d' y
    have eσ2 : s2.σ = wipe s1.σ vs := n2.slots.trans eσ
    rw [← e2, ← eσ2]
    have st2 := st.trans n2.stp
    obtain ⟨hD2, hg2, ho2⟩ := n2.stp.temp hD hg ho
    refine step i dd acc s'.ρ e3 hl inv s2 x' _ e1 n2.den e4 fun s3 n3 D3 k3 l3 q3 => ?_
    have ew : wipe s3.σ vs = wipe s1.σ vs := (wipe_ext k3 l3).trans (by rw [eσ2]; exact wipe_idem)
    have st3 := st2.trans n3
    obtain ⟨hD3, hg3, ho3⟩ := n3.temp hD2 hg2 ho2
    have hx3 := AtAll.mono (n2.stp.sub.trans n3.sub) _ _ hx
    refine ⟨ew.trans eσ2.symm, q3 s3 _ rfl D3 ((x.next n1.stp).next st3) fun b s4 n4 q4 => ?_⟩
    obtain ⟨hD4, hg4, ho4⟩ := n4.stp.temp hD3 hg3 ho3
    have st4 := st3.trans n4.stp
    have hx4 := AtAll.mono n4.stp.sub _ _ hx3
    cases b with
    | true =>
      refine iteT ?_
      rw [← n4.slots]
      have q4 : WE K W te s4.ρ (fun a ρ5 => ∃ d' ρ6, Frz ρ5 [a.fl] [d'] ρ6 ∧ acc.length < 1000 ∧ nbs ρ6 vs = true ∧ Iv (i + 1) (acc ++ [d']) (wipeE ρ6 vs)) X := by simpa using q4
      refine WE.flat (Q := fun a ρ5 => ∃ d' ρ6, Frz ρ5 [a] [d'] ρ6 ∧ acc.length < 1000 ∧ nbs ρ6 vs = true ∧ Iv (i + 1) (acc ++ [d']) (wipeE ρ6 vs)) q4 rfl n4.den ((x.next n1.stp).next st4) fun u a s5 n5 fa ok5 ⟨d1, ρ6, hf, hlen, hn6, inv6⟩ => ?_
      obtain ⟨s6, e5, e6, n6, hu⟩ := frz1 hf fa n5.den ok5
      have n56 := n5.trans n6
      obtain ⟨hD6, hg6, ho6⟩ := n56.stp.temp hD4 hg4 ho4
      have hx6 := AtAll.mono n56.stp.sub _ _ hx4
      rw [← e6]
      refine ⟨xs, hD6, small1000 (by rw [hx6.length]; omega), ?_⟩
      obtain ⟨st7, d7⟩ := poke (o := .lst (xs ++ [u])) (st4.trans n56.stp) n56.den hp hD6 hg6 ho6
      obtain ⟨sw7, dw7⟩ := wipe_all (s := { s6 with H := upd s6.H p (.lst (xs ++ [u])) }) (vs := vs) d7 (by show nbs s6.ρ vs = true; rw [e5]; exact hn6)
      refine ⟨{ s6 with H := upd s6.H p (.lst (xs ++ [u])), ρ := wipeE s6.ρ vs, σ := wipe s6.σ vs }, _, acc ++ [d1], rfl, ?_, st7.trans sw7, dw7, upd_same, hx6.snoc hu, hg6, fun h => ?_, by rw [List.length_append, List.length_singleton]; omega, by show Iv _ _ (wipeE s6.ρ vs); rw [e5]; exact inv6⟩
      · show wipe s6.σ vs = _
        rw [n56.slots, n4.slots]
        exact ew.trans eσ2.symm
      · rcases sw7.own p h with h | h
        · exact ho6 h
        · have h : upd s6.H p (.lst (xs ++ [u])) p = none := h
          rw [upd_same] at h
          cases h
    | false =>
      refine iteF ?_
      obtain ⟨hn4, inv4⟩ : nbs s4.ρ vs = true ∧ Iv (i + 1) acc (wipeE s4.ρ vs) := by simpa using q4
      obtain ⟨sw4, dw4⟩ := wipe_all n4.den hn4
      refine ⟨{ s4 with ρ := wipeE s4.ρ vs, σ := wipe s4.σ vs }, xs, acc, rfl, ?_, st4.trans sw4, dw4, hD4, hx4, hg4, (sw4.temp hD4 hg4 ho4).2.2, by omega, inv4⟩
      show wipe s4.σ vs = _
      rw [n4.slots]
      exact ew.trans eσ2.symm
  · rintro H ⟨s', xs, acc, rfl, eσ, st, d', hD, hx, hg, ho, hl, inv⟩
    have out : ∀ {i : Nat}, i ∉ vs → s'.σ[i]? = s1.σ[i]? := fun {i} hi => by rw [eσ]; exact wipe_out hi
    have f : ∀ {i a}, OwnAt ⟨s'.G, mixE s1.ρ s'.ρ vs, s1.σ, s'.H⟩ i a → OwnAt s' i a := fun {i a} ⟨⟨sl, z, e1, e2⟩, e3⟩ => by
      rcases mix_get e1 with ⟨m, rfl⟩ | ⟨m, e⟩
      · exfalso
        unfold keepV at e2
        split at e2 <;> cases e2
      · exact ⟨⟨sl, z, e, e2⟩, (out m).trans e3⟩
    refine k (.ref p) (.own (.lst acc)) ⟨s'.G, mixE s1.ρ s'.ρ vs, s1.σ, s'.H⟩ (n1.trans ⟨⟨st.sub, st.fr, st.dom, fun a ⟨i, h⟩ => st.own a ⟨i, f h⟩, st.gfr, fun i z e => ?_⟩, ⟨d'.sub, ?_, fun i z e => ?_, fun i sl z e1 e2 => ?_, fun i j a h1 h2 => d'.dis i j a (f h1) (f h2)⟩, rfl⟩) ⟨p, .lst xs, rfl, hD, hg, .lst hx, fun ⟨i, h⟩ => ho ⟨i, f h⟩, .inl (n1.stp.dom p hp)⟩ (fin acc _ hl inv)
    · obtain ⟨y, h1, h2⟩ := st.bor i z e
      refine ⟨y, ?_, rfl⟩
      cases q : (mixE s1.ρ s'.ρ vs)[i]? with
      | none =>
        rw [List.getElem?_eq_none_iff, mix_length] at q
        have := lt_of_get h1
        omega
      | some w =>
        rcases mix_get q with ⟨m, _⟩ | ⟨m, e'⟩
        · exfalso
          have hw : ∀ vs : List Nat, i ∈ vs → ∀ (ρ : Sls) (w : U), (wipeE ρ vs)[i]? ≠ some (.bor w) := by
            intro vs
            induction vs with
            | nil => intro h; cases h
            | cons v vs ih =>
              intro h ρ w e
              rcases get_set (show ((wipeE ρ vs).set v .un)[i]? = some (.bor w) from e) with ⟨_, e, _⟩ | ⟨n, e⟩
              · cases e
              · rcases List.mem_cons.mp h with h | h
                · exact n h
                · exact ih h ρ w e
          obtain ⟨y2, h3, _⟩ := stw.bor i z e
          exact hw vs m s1.ρ y2 h3
        · rw [h1] at e'
          exact congrArg some (Option.some.inj e').symm
    · show s1.σ.length = (mixE s1.ρ s'.ρ vs).length
      rw [mix_length, ← d'.len, eσ, wipe_length]
    · rcases mix_get e with ⟨m, h⟩ | ⟨m, h⟩
      · have h : keepV s1.ρ[i]? = .val z := h.symm
        cases q : s1.ρ[i]? with
        | none => rw [q] at h; cases h
        | some w =>
          rw [q] at h
          cases w with
          | val y =>
            cases h
            obtain ⟨v, h1, h2⟩ := n1.den.val i _ q
            exact ⟨v, h1, At.mono st.sub _ _ h2⟩
          | _ => cases h
      · obtain ⟨v, h1, h2⟩ := d'.val i z h
        exact ⟨v, (out m).symm.trans h1, h2⟩
    · rcases mix_get e1 with ⟨m, rfl⟩ | ⟨m, h⟩
      · exfalso
        unfold keepV at e2
        split at e2 <;> cases e2
      · obtain ⟨a, o, h1, h2⟩ := d'.own i sl z h e2
        exact ⟨a, o, (out m).symm.trans h1, h2⟩
end

/-! ### own objects written -/
section
variable {K : PySem.W.Frag} {W : Wx} {X : Er → Sls → Prop} {ρ : Sls} {P : Post}
theorem cell_write {s : Sta} {i : Nat} {sl : Sl} {d d' : U} {a : Addr} {o o' : HO} (D : Den K s) (e : s.ρ[i]? = some sl) (c : sl.cell = some d) (ea : s.σ[i]? = some (some (.ref a))) (ho : s.H a = some o) (c' : Cell K s.G o' d') :
    Nxt K s { s with ρ := setC s.ρ i d', H := upd s.H a o' } := by
  have oa : OwnAt s i a := ⟨⟨sl, d, e, c⟩, ea⟩
  obtain ⟨a', o1, e1, g1, e2, e3⟩ := D.own i sl d e c
  rw [ea] at e1
  cases e1
  have back : ∀ {j b}, OwnAt { s with ρ := setC s.ρ i d', H := upd s.H a o' } j b → OwnAt s j b := fun {j b} ⟨⟨sl', x, q1, q2⟩, q3⟩ => by
    rcases setC_get q1 with ⟨h, _⟩ | ⟨rfl, h, y, h2, _⟩
    · exact ⟨⟨sl', x, h, q2⟩, q3⟩
    · rw [h2] at e
      cases e
      exact ⟨⟨sl, d, h2, c⟩, q3⟩
  refine ⟨⟨fun _ _ h => h, fun b u h n => ?_, fun b h => ?_, fun b ⟨j, h⟩ => .inl ⟨j, back h⟩, fun _ _ _ h => h, fun j x h => ?_⟩, ⟨fun b u h => ?_, ?_, fun j x h => ?_, fun j sl' x h1 h2 => ?_, fun j k b h1 h2 => D.dis j k b (back h1) (back h2)⟩, rfl⟩
  · show upd s.H a o' b = some u
    rw [upd_ne (fun q => n (by rw [q]; exact ⟨i, oa⟩))]
    exact h
  · have h : upd s.H a o' b = none := h
    by_cases q : b = a
    · rw [q, upd_same] at h
      cases h
    · rw [upd_ne q] at h
      exact h
  · obtain ⟨y, q⟩ := setC_bor (i := i) (d := d') h
    exact ⟨y, q, rfl⟩
  · show upd s.H a o' b = some u
    rw [upd_ne (ne_of_none h g1)]
    exact D.sub b u h
  · show s.σ.length = (setC s.ρ i d').length
    rw [setC_length]
    exact D.len
  · rcases setC_get h with ⟨h, _⟩ | ⟨rfl, h, _⟩
    · exact D.val j x h
    · cases h
  · rcases setC_get h1 with ⟨h3, h4⟩ | ⟨rfl, h3, _⟩
    · obtain ⟨b, u, q1, q2, q3, q4⟩ := D.own j sl' x h3 h2
      refine ⟨b, u, q1, q2, ?_, q4⟩
      show upd s.H a o' b = some u
      rw [upd_ne ?_]
      · exact q3
      · rintro rfl
        obtain rfl := D.dis j i b ⟨⟨sl', x, h3, h2⟩, q1⟩ oa
        rcases h4 with h4 | h4
        · exact h4 rfl
        · rw [h2] at h4
          cases h4
    · rw [h3] at h2
      cases h2
      exact ⟨a, o', ea, g1, upd_same, c'⟩
/-! ### data that are no objects -/
def scalU : U → Option V
  | .non => some .non
  | .bl b => some (.bl b)
  | .int i => some (.int i)
  | .str z => some (.str z)
  | .ty n => some (.ty n)
  | _ => none
theorem at_scal {G : Hp} {v x : V} {d : U} (h : At K G v d) (e : scalU d = some x) : v = x := by
  cases h <;> first | exact Option.some.inj e | cases e
theorem avs_one {s : Sta} {vs : List V} {a : Av} (h : AvsOk K s vs [a]) : ∃ v, vs = [v] ∧ AvOk K s s v a := by
  cases h with
  | cons _ h t =>
    cases t
    exact ⟨_, rfl, h⟩
theorem avs_two {s : Sta} {vs : List V} {a b : Av} (h : AvsOk K s vs [a, b]) : ∃ v w, vs = [v, w] ∧ AvOk K s s v a ∧ AvOk K s s w b := by
  cases h with
  | cons _ h t =>
    obtain ⟨w, rfl, h2⟩ := avs_one t
    exact ⟨_, w, rfl, h, h2⟩
theorem AtAll.atI {G : Hp} {xs : List V} {ds : List U} {i : Int} {d : U} (h : AtAll K G xs ds) (e : L2.atI ds i = some d) : ∃ z, L2.atI xs i = some z ∧ At K G z d := by
  unfold L2.atI at e ⊢
  rw [h.length]
  cases q : ixN ds.length i with
  | none => rw [q] at e; cases e
  | some j =>
    rw [q] at e
    obtain ⟨v, h1, h2⟩ := h.get2 (show ds[j]? = some d from e)
    exact ⟨v, h1, h2⟩
theorem Cnt.dt {s : Sta} {Q : Av → Sls → Prop} {Q0 : VK} (k : Cnt K s Q Q0) (D : Den K s) {v : V} {d : U} (h : At K s.G v d) (q : Q (.dt d) s.ρ) : Q0 v s.H := k v (.dt d) s (Nxt.refl D) h q
theorem Cnt.new {s : Sta} {Q : Av → Sls → Prop} {Q0 : VK} (k : Cnt K s Q Q0) (D : Den K s) {p : Addr} {o : HO} {d : U} (hp : s.H p = none) (c : Cell K s.G o d) (q : Q (.own d) s.ρ) : Q0 (.ref p) (upd s.H p o) := by
  have n3 := lay (o := o) D hp
  obtain ⟨g, no⟩ := D.free hp
  exact k (.ref p) (.own d) _ n3 ⟨p, o, rfl, upd_same, g, c, no, .inl hp⟩ q
theorem Cnt.tup {s : Sta} {Q : Av → Sls → Prop} {Q0 : VK} (k : Cnt K s Q Q0) (D : Den K s) {p : Addr} {xs : List V} {ds : List U} (hp : s.H p = none) (c : AtAll K s.G xs ds) (q : Q (.dt (.tup ds)) s.ρ) : Q0 (.ref p) (upd s.H p (.tup xs)) := by
  obtain ⟨n3, sub⟩ := layF (o := .tup xs) D hp
  exact k (.ref p) (.dt (.tup ds)) _ n3 (.tup (SqT.of upd_same) (AtAll.mono sub _ _ c)) q
/-! ### operators -/
theorem wr_I {C : Int → Int → Prop} {f : Int → Int → V} {i j : Int} {d : U} {Q : Av → Sls → Prop} (c : C i j) (hd : ∀ G, At K G (f i j) d) (q : Q (.dt d) ρ) : WR K W (rI C f) (.dt (.int i)) (.dt (.int j)) ρ Q X := by
  rintro s v w Q0 rfl D x h1 h2 k
  rw [at_int h1, at_int h2]
  exact ⟨i, j, rfl, rfl, c, k.dt D (hd _) q⟩
theorem wr_I0 {f : Int → Int → V} {i j : Int} {d : U} {Q : Av → Sls → Prop} (hd : ∀ G, At K G (f i j) d) (q : Q (.dt d) ρ) : WR K W (rI0 f) (.dt (.int i)) (.dt (.int j)) ρ Q X := by
  rintro s v w Q0 rfl D x h1 h2 k
  rw [at_int h1, at_int h2]
  exact ⟨i, j, rfl, rfl, k.dt D (hd _) q⟩
theorem wr_ip {f : Int → Int → Int} {i j : Int} {Q : Av → Sls → Prop} (q : Q (.dt (.int (f i j))) ρ) : WR K W (ipI f) (.dt (.int i)) (.dt (.int j)) ρ Q X := by
  rintro s v w Q0 rfl D x h1 h2 k
  rw [at_int h1, at_int h2]
  exact ⟨i, j, rfl, rfl, k.dt D (.int _) q⟩
theorem wr_eq {d e : U} {x y : V} {Q : Av → Sls → Prop} (hx : scalU d = some x) (hy : scalU e = some y) (c : scal x y = true) (q : Q (.dt (.bl (decide (x = y)))) ρ) : WR K W rEq (.dt d) (.dt e) ρ Q X := by
  rintro s v w Q0 rfl D _ h1 h2 k
  rw [at_scal h1 hx, at_scal h2 hy]
  exact ⟨c, k.dt D (.bl _) q⟩
theorem wr_ne {d e : U} {x y : V} {Q : Av → Sls → Prop} (hx : scalU d = some x) (hy : scalU e = some y) (c : scal x y = true) (q : Q (.dt (.bl (!decide (x = y)))) ρ) : WR K W rNe (.dt d) (.dt e) ρ Q X := by
  rintro s v w Q0 rfl D _ h1 h2 k
  rw [at_scal h1 hx, at_scal h2 hy]
  exact ⟨c, k.dt D (.bl _) q⟩
theorem wr_cat_str {i j : Str} {Q : Av → Sls → Prop} (c : i.length + j.length ≤ 100000) (q : Q (.dt (.str (i ++ j))) ρ) : WR K W (fun x y H Q => ∃ i j, x = .str i ∧ y = .str j ∧ i.length + j.length ≤ sizeLine ∧ Q (.str (i ++ j)) H) (.dt (.str i)) (.dt (.str j)) ρ Q X := by
  rintro s v w Q0 rfl D _ h1 h2 k
  rw [at_str h1, at_str h2]
  exact ⟨i, j, rfl, rfl, Nat.le_trans c (by decide), k.dt D (.str _) q⟩
theorem wr_cat {a b : Av} {ds es : List U} {Q : Av → Sls → Prop} (ha : View ρ a (.lst ds)) (hb : View ρ b (.lst es)) (c : ds.length + es.length ≤ 100000) (q : Q (.own (.lst (ds ++ es))) ρ) : WR K W rCat a b ρ Q X := by
  rintro s v w Q0 rfl D _ h1 h2 k
  obtain ⟨l, xs, rfl, e1, q1⟩ := view_list D h1 ha
  obtain ⟨m, ys, rfl, e2, q2⟩ := view_list D h2 hb
  refine ⟨l, m, xs, ys, rfl, rfl, e1, e2, ?_, fun p hp => k.new D hp (.lst (q1.append q2)) q⟩
  rw [q1.length, q2.length]
  exact Nat.le_trans c (by decide)
theorem wr_ixL {a : Av} {ds : List U} {i : Int} {d : U} {Q : Av → Sls → Prop} (ha : View ρ a (.lst ds)) (e : atI ds i = some d) (q : Q (.dt d) ρ) : WR K W (rIxL K) a (.dt (.int i)) ρ Q X := by
  rintro s v w Q0 rfl D _ h1 h2 k
  obtain ⟨l, xs, rfl, e1, q1⟩ := view_list D h1 ha
  rw [at_int h2]
  obtain ⟨z, e2, hz⟩ := q1.atI e
  exact ⟨l, xs, i, z, rfl, rfl, SqL.of e1, e2, k.dt D hz q⟩
theorem wr_ixT {a : Av} {ds : List U} {i : Int} {d : U} {Q : Av → Sls → Prop} (ha : View ρ a (.tup ds)) (e : atI ds i = some d) (q : Q (.dt d) ρ) : WR K W (rIxT K) a (.dt (.int i)) ρ Q X := by
  rintro s v w Q0 rfl D _ h1 h2 k
  obtain ⟨l, xs, rfl, e1, q1⟩ := view_tup D h1 ha
  rw [at_int h2]
  obtain ⟨z, e2, hz⟩ := q1.atI e
  exact ⟨l, xs, i, z, rfl, rfl, e1, e2, k.dt D hz q⟩
theorem wr_ixF {ds : List U} {i : Int} {d : U} {Q : Av → Sls → Prop} (e : atI ds i = some d) (q : Q (.dt d) ρ) : WR K W (rIxL K) (.dt (.fls ds)) (.dt (.int i)) ρ Q X := by
  rintro s v w Q0 rfl D _ h1 h2 k
  have h1 : At K s.G v (.fls ds) := h1
  cases h1 with
  | fls hs q1 =>
    rw [at_int h2]
    obtain ⟨z, e2, hz⟩ := q1.atI e
    exact ⟨_, _, i, z, rfl, rfl, sql_same D.sub hs, e2, k.dt D hz q⟩
theorem wr_ixS {z : Str} {i : Int} {c : Nat} {Q : Av → Sls → Prop} (l : z.length ≤ 100000) (e : atI z.cps.toList i = some c) (q : Q (.dt (.str ⟨#[c]⟩)) ρ) : WR K W rIxS (.dt (.str z)) (.dt (.int i)) ρ Q X := by
  rintro s v w Q0 rfl D _ h1 h2 k
  rw [at_str h1, at_int h2]
  exact ⟨z, i, c, rfl, rfl, Nat.le_trans l (by decide), e, k.dt D (.str _) q⟩
theorem wr_ix {a b : Av} {Q : Av → Sls → Prop} (h : WR K W (rIxL K) a b ρ Q X ∨ WR K W (rIxT K) a b ρ Q X ∨ WR K W rIxS a b ρ Q X) : WR K W (rIx K) a b ρ Q X := by
  rintro s v w Q0 e D x h1 h2 k
  rcases h with h | h | h
  · exact .inl (h s v w Q0 e D x h1 h2 k)
  · exact .inr (.inl (h s v w Q0 e D x h1 h2 k))
  · exact .inr (.inr (h s v w Q0 e D x h1 h2 k))
/-- x in a list or tuple of plain items -/
theorem AtAll.scal {G : Hp} : ∀ {xs : List V} {ds : List U} {ys : List V}, AtAll K G xs ds → ds.map scalU = ys.map some → xs = ys
  | _, _, [], .nil, _ => rfl
  | _, _, _ :: _, .nil, e => nomatch e
  | _, _, [], .cons _ _, e => nomatch e
  | _, _, y :: ys, .cons h t, e => by
    have e1 := List.cons.inj e
    rw [at_scal h e1.1, AtAll.scal t e1.2]
theorem wr_in {a : Av} {d : U} {x : V} {ds : List U} {ys : List V} {neg : Bool} {Q : Av → Sls → Prop} (hx : scalU d = some x) (ha : View ρ a (.lst ds) ∨ View ρ a (.tup ds)) (hd : ds.map scalU = ys.map some) (f1 : flatV x = true) (f2 : ys.all flatV = true)
    (q : Q (.dt (.bl (if neg then !inV x ys else inV x ys))) ρ) : WR K W (rIn K neg) (.dt d) a ρ Q X := by
  rintro s v w Q0 rfl D _ h1 h2 k
  rw [at_scal h1 hx]
  rcases ha with ha | ha
  · obtain ⟨l, xs, rfl, e1, q1⟩ := view_list D h2 ha
    obtain rfl := q1.scal hd
    exact ⟨l, xs, rfl, .inl (SqL.of e1), f1, f2, k.dt D (.bl _) q⟩
  · obtain ⟨l, xs, rfl, e1, q1⟩ := view_tup D h2 ha
    obtain rfl := q1.scal hd
    exact ⟨l, xs, rfl, .inr e1, f1, f2, k.dt D (.bl _) q⟩
theorem wr_in_sign {c : Nat} {z : Str} {Q : Av → Sls → Prop} (q : Q (.dt (.bl (decide (c ∈ z.cps.toList)))) ρ) : WR K W (fun x y H Q => ∃ (c : Nat) (z : Str), x = .str ⟨#[c]⟩ ∧ y = .str z ∧ Q (.bl (decide (c ∈ z.cps.toList))) H) (.dt (.str ⟨#[c]⟩)) (.dt (.str z)) ρ Q X := by
  rintro s v w Q0 rfl D _ h1 h2 k
  rw [at_str h1, at_str h2]
  exact ⟨c, z, rfl, rfl, k.dt D (.bl _) q⟩
def nonU : U → Bool
  | .non => true
  | _ => false
theorem at_nonU {G : Hp} {v : V} {d : U} (h : At K G v d) : decide (v = .non) = nonU d := by
  cases h <;> first | rfl | exact decide_eq_false nofun
/-- what is looked at is None just if the datum is -/
theorem view_non {s : Sta} {v : V} {a : Av} {d : U} (D : Den K s) (ok : AvOk K s s v a) (w : View s.ρ a d) : decide (v = .non) = nonU d := at_nonU (view_at D ok w)
theorem wr_isN {a : Av} {d : U} {Q : Av → Sls → Prop} (ha : View ρ a d) (q : Q (.dt (.bl (nonU d))) ρ) : WR K W (fun x y H Q => y = .non ∧ Q (.bl (decide (x = .non))) H) a (.dt .non) ρ Q X := by
  rintro s v w Q0 rfl D _ h1 h2 k
  rw [at_non h2]
  refine ⟨rfl, ?_⟩
  rw [view_non D h1 ha]
  exact k.dt D (.bl _) q
theorem wr_notN {a : Av} {d : U} {Q : Av → Sls → Prop} (ha : View ρ a d) (q : Q (.dt (.bl (!nonU d))) ρ) : WR K W (fun x y H Q => y = .non ∧ Q (.bl (!decide (x = .non))) H) a (.dt .non) ρ Q X := by
  rintro s v w Q0 rfl D _ h1 h2 k
  rw [at_non h2]
  refine ⟨rfl, ?_⟩
  rw [view_non D h1 ha]
  exact k.dt D (.bl _) q
theorem wr_isB {b c : Bool} {Q : Av → Sls → Prop} (q : Q (.dt (.bl (decide (b = c)))) ρ) : WR K W rIsB (.dt (.bl b)) (.dt (.bl c)) ρ Q X := by
  rintro s v w Q0 rfl D _ h1 h2 k
  rw [at_bl h1, at_bl h2]
  exact ⟨b, c, rfl, rfl, k.dt D (.bl _) q⟩
theorem wr_notB {b c : Bool} {Q : Av → Sls → Prop} (q : Q (.dt (.bl (!decide (b = c)))) ρ) : WR K W rNotB (.dt (.bl b)) (.dt (.bl c)) ρ Q X := by
  rintro s v w Q0 rfl D _ h1 h2 k
  rw [at_bl h1, at_bl h2]
  exact ⟨b, c, rfl, rfl, k.dt D (.bl _) q⟩
theorem we_un {f : Int → V} {ta : TE} {Q : Av → Sls → Prop} (h : WE K W ta ρ (fun a ρ1 => ∃ i d, a = .dt (.int i) ∧ (∀ G, At K G (f i) d) ∧ Q (.dt d) ρ1) X) : WE K W (tUn (rU f) ta) ρ Q X := by
  rintro s Q0 rfl D x k
  refine h s _ rfl D x fun v a s1 n ok ⟨i, d, e, hd, q⟩ => ?_
  subst e
  have ok : At K s1.G v (.int i) := ok
  cases ok
  exact ⟨i, rfl, k _ (.dt d) s1 n (hd _) q⟩
/-! ### built-in functions -/
def WC (K : PySem.W.Frag) (W : Wx) (r : List V → Hp → VK → Prop) (as : List Av) (ρ : Sls) (Q : Av → Sls → Prop) (X : Er → Sls → Prop) : Prop :=
  ∀ (s : Sta) (vs : List V) (Q0 : VK), s.ρ = ρ → Den K s → XOk K s W X → AvsOk K s vs as → Cnt K s Q Q0 → r vs s.H Q0
theorem we_cb {r : List V → Hp → VK → Prop} {t : TA} {Q : Av → Sls → Prop} (h : WA K W t ρ (fun as ρ1 => WC K W r as ρ1 Q X) X) : WE K W (tCB r t) ρ Q X := by
  rintro s Q0 rfl D x k
  exact h s _ rfl D x fun vs as s1 n ok q => q s1 vs Q0 rfl n.den (x.next n.stp) ok (k.lift n)
theorem wc_int {i : Int} {Q : Av → Sls → Prop} (q : Q (.dt (.int i)) ρ) : WC K W (fun xs H Q => (∃ i, xs = [.int i] ∧ Q (.int i) H) ∨ ∃ k, xs = [.bl k] ∧ Q (.int (if k then 1 else 0)) H) [.dt (.int i)] ρ Q X := by
  rintro s vs Q0 rfl D _ h0 k
  obtain ⟨v, rfl, h⟩ := avs_one h0
  rw [at_int h]
  exact .inl ⟨i, rfl, k.dt D (.int _) q⟩
theorem wc_int_bl {b : Bool} {Q : Av → Sls → Prop} (q : Q (.dt (.int (if b then 1 else 0))) ρ) : WC K W (fun xs H Q => (∃ i, xs = [.int i] ∧ Q (.int i) H) ∨ ∃ k, xs = [.bl k] ∧ Q (.int (if k then 1 else 0)) H) [.dt (.bl b)] ρ Q X := by
  rintro s vs Q0 rfl D _ h0 k
  obtain ⟨v, rfl, h⟩ := avs_one h0
  rw [at_bl h]
  exact .inr ⟨b, rfl, k.dt D (.int _) q⟩
theorem wc_abs {i : Int} {Q : Av → Sls → Prop} (q : Q (.dt (.int (if i < 0 then -i else i))) ρ) : WC K W (fun xs H Q => ∃ i, xs = [.int i] ∧ Q (.int (if i < 0 then -i else i)) H) [.dt (.int i)] ρ Q X := by
  rintro s vs Q0 rfl D _ h0 k
  obtain ⟨v, rfl, h⟩ := avs_one h0
  rw [at_int h]
  exact ⟨i, rfl, k.dt D (.int _) q⟩
theorem wc_max {i j : Int} {Q : Av → Sls → Prop} (q : Q (.dt (.int (if j > i then j else i))) ρ) : WC K W (fun xs H Q => ∃ i j, xs = [.int i, .int j] ∧ Q (.int (if j > i then j else i)) H) [.dt (.int i), .dt (.int j)] ρ Q X := by
  rintro s vs Q0 rfl D _ h k
  obtain ⟨v, w, rfl, h1, h2⟩ := avs_two h
  rw [at_int h1, at_int h2]
  exact ⟨i, j, rfl, k.dt D (.int _) q⟩
theorem wc_min {i j : Int} {Q : Av → Sls → Prop} (q : Q (.dt (.int (if j < i then j else i))) ρ) : WC K W (fun xs H Q => ∃ i j, xs = [.int i, .int j] ∧ Q (.int (if j < i then j else i)) H) [.dt (.int i), .dt (.int j)] ρ Q X := by
  rintro s vs Q0 rfl D _ h k
  obtain ⟨v, w, rfl, h1, h2⟩ := avs_two h
  rw [at_int h1, at_int h2]
  exact ⟨i, j, rfl, k.dt D (.int _) q⟩
/-- how long a datum is -/
def ulen : U → Option Nat
  | .lst ds => some ds.length
  | .fls ds => some ds.length
  | .tup ds => some ds.length
  | .str z => if z.length ≤ 100000 then some z.length else none
  | _ => none
theorem wc_len {a : Av} {d : U} {n : Nat} {Q : Av → Sls → Prop} (ha : View ρ a d) (e : ulen d = some n) (q : Q (.dt (.int n)) ρ) : WC K W (fun xs H Q => ∃ x n, xs = [x] ∧ LenV K x H n ∧ Q (.int n) H) [a] ρ Q X := by
  rintro s vs Q0 rfl D _ h0 k
  obtain ⟨v, rfl, h⟩ := avs_one h0
  refine ⟨v, n, rfl, ?_, k.dt D (.int _) q⟩
  have hv := view_at D h ha
  cases hv with
  | lst hs hx =>
    cases (show some _ = some n from e)
    exact .inl ⟨_, SqL.of hs, hx.length.symm⟩
  | fls hs hx =>
    cases (show some _ = some n from e)
    exact .inl ⟨_, hs, hx.length.symm⟩
  | tup hs hx =>
    cases (show some _ = some n from e)
    exact .inr ⟨_, hs, hx.length.symm⟩
  | str z =>
    have e : (if z.length ≤ 100000 then some z.length else none) = some n := e
    by_cases hz : z.length ≤ 100000
    · rw [if_pos hz] at e
      cases e
      exact ⟨Nat.le_trans hz (by decide), rfl⟩
    · rw [if_neg hz] at e
      cases e
  | _ => cases e
theorem wc_lenD {a : Av} {ks : List Key} {ds : List U} {Q : Av → Sls → Prop} (ha : View ρ a (.dic ks ds)) (q : Q (.dt (.int (ks.length : Nat))) ρ) : WC K W (fun xs H Q => ∃ a kvs, xs = [V.ref a] ∧ H a = some (.dK kvs) ∧ Q (.int kvs.length) H) [a] ρ Q X := by
  rintro s vs Q0 rfl D _ h0 k
  obtain ⟨v, rfl, h⟩ := avs_one h0
  have hv := view_at D h ha
  cases hv with
  | dic hs hd =>
    refine ⟨_, _, rfl, hs, ?_⟩
    rw [List.length_map] at q
    exact k.dt D (.int _) q
/-- the class of a datum -/
def tyU : U → Value
  | .non => .type "NoneType"
  | .bl _ => .type "bool"
  | .int _ => .type "int"
  | .str _ => .type "str"
  | .lst _ => .type "list"
  | .fls _ => .type "list"
  | .tup _ => .type "tuple"
  | .dic _ _ => .type "dict"
  | .dct _ _ => .type "dict"
  | .obj C _ _ => .ref C
  | .exo C _ _ => .ref C
  | _ => .none
def plainU : U → Bool
  | .non => true
  | .bl _ => true
  | .int _ => true
  | .str _ => true
  | .lst _ => true
  | .fls _ => true
  | .tup _ => true
  | _ => false
theorem at_ty {H : Hp} {v : V} {d : U} (h : At K H v d) (p : plainU d = true) : TyX K H v (tyU d) := by
  cases h <;> first | cases p; done | exact ty_non | exact ty_bl | exact ty_int | exact ty_str | (rename_i hs _; exact ty_lst hs) | (rename_i hs _; exact ty_sqL hs) | (rename_i hs _; exact ty_sqT hs)
theorem wc_isi {a : Av} {d : U} {n : String} {b : Bool} {Q : Av → Sls → Prop} (ha : View ρ a d) (p : plainU d = true) (e : PySem.W.kitOne K (tyU d) (.type n) = some b) (q : Q (.dt (.bl b)) ρ) : WC K W (rIsi K) [a, .dt (.ty n)] ρ Q X := by
  rintro s vs Q0 rfl D _ h k
  obtain ⟨v, w, rfl, h1, h2⟩ := avs_two h
  have h2 : At K s.G w (.ty n) := h2
  cases h2
  exact ⟨v, .ty n, _, _, b, rfl, .ty n, at_ty (view_at D h1 ha) p, e, k.dt D (.bl _) q⟩
theorem AtAll.cls {G : Hp} : ∀ {xs : List V} {ns : List String}, AtAll K G xs (ns.map U.ty) → Paired ClsV xs (ns.map Value.type)
  | _, [], .nil => .nil
  | _, n :: ns, .cons h t => by
    cases h
    exact .cons (.ty n) (AtAll.cls t)
theorem wc_isiT {a : Av} {d : U} {ns : List String} {b : Bool} {Q : Av → Sls → Prop} (ha : View ρ a d) (p : plainU d = true) (e : PySem.W.kitAny K (tyU d) (ns.map Value.type) = some b) (q : Q (.dt (.bl b)) ρ) (hK : ∀ (G : Hp) (t : Addr) (xs : List V), SqT K G t xs → AtAll K G xs (ns.map U.ty) → G t = some (.tup xs)) : WC K W (rIsiT K) [a, .dt (.tup (ns.map U.ty))] ρ Q X := by
  rintro s vs Q0 rfl D _ h k
  obtain ⟨v, w, rfl, h1, h2⟩ := avs_two h
  have h2 : At K s.G w (.tup (ns.map U.ty)) := h2
  cases h2 with
  | tup hs hd => exact ⟨v, _, _, _, _, b, rfl, D.sub _ _ (hK _ _ _ hs hd), hd.cls, at_ty (view_at D h1 ha) p, e, k.dt D (.bl _) q⟩
theorem wc_all {a : Av} {bs : List Bool} {Q : Av → Sls → Prop} (ha : View ρ a (.lst (bs.map U.bl))) (q : Q (.dt (.bl (bs.all id))) ρ) : WC K W (rAll K) [a] ρ Q X := by
  rintro s vs Q0 rfl D _ h0 k
  obtain ⟨v, rfl, h⟩ := avs_one h0
  obtain ⟨l, xs, rfl, e1, q1⟩ := view_list D h ha
  obtain rfl := q1.scal (ys := bs.map V.bl) (by rw [List.map_map, List.map_map]; rfl)
  exact ⟨l, bs, rfl, SqL.of e1, k.dt D (.bl _) q⟩
theorem wc_any {a : Av} {bs : List Bool} {Q : Av → Sls → Prop} (ha : View ρ a (.lst (bs.map U.bl))) (q : Q (.dt (.bl (bs.any id))) ρ) : WC K W (rAny K) [a] ρ Q X := by
  rintro s vs Q0 rfl D _ h0 k
  obtain ⟨v, rfl, h⟩ := avs_one h0
  obtain ⟨l, xs, rfl, e1, q1⟩ := view_list D h ha
  obtain rfl := q1.scal (ys := bs.map V.bl) (by rw [List.map_map, List.map_map]; rfl)
  exact ⟨l, bs, rfl, SqL.of e1, k.dt D (.bl _) q⟩
theorem wc_sum {a : Av} {ns : List Int} {Q : Av → Sls → Prop} (ha : View ρ a (.lst (ns.map U.int))) (q : Q (.dt (.int ns.sum)) ρ) : WC K W (rSum K) [a] ρ Q X := by
  rintro s vs Q0 rfl D _ h0 k
  obtain ⟨v, rfl, h⟩ := avs_one h0
  obtain ⟨l, xs, rfl, e1, q1⟩ := view_list D h ha
  obtain rfl := q1.scal (ys := ns.map V.int) (by rw [List.map_map, List.map_map]; rfl)
  exact ⟨l, ns, rfl, SqL.of e1, k.dt D (.int _) q⟩
theorem wc_str {i : Int} {Q : Av → Sls → Prop} (l : i.natAbs.log2 < 1920) (q : Q (.dt (.str (toString i))) ρ) : WC K W (fun xs H Q => ∃ i, xs = [.int i] ∧ i.natAbs.log2 < 1920 ∧ Q (.str (toString i)) H) [.dt (.int i)] ρ Q X := by
  rintro s vs Q0 rfl D _ h0 k
  obtain ⟨v, rfl, h⟩ := avs_one h0
  rw [at_int h]
  exact ⟨i, rfl, l, k.dt D (.str _) q⟩
theorem wc_tuple {a : Av} {ds : List U} {Q : Av → Sls → Prop} (ha : View ρ a (.lst ds)) (q : Q (.dt (.tup ds)) ρ) :
    WC K W (fun xs H Q => ∃ p ys, xs = [.ref p] ∧ ((SqL K H p ys ∧ ∀ l, H l = none → Q (.ref l) (upd H l (.tup ys))) ∨ (SqT K H p ys ∧ Q (.ref p) H))) [a] ρ Q X := by
  rintro s vs Q0 rfl D _ h0 k
  obtain ⟨v, rfl, h⟩ := avs_one h0
  obtain ⟨l, xs, rfl, e1, q1⟩ := view_list D h ha
  exact ⟨l, xs, rfl, .inl ⟨SqL.of e1, fun p hp => k.tup D hp q1 q⟩⟩
theorem wc_list {a : Av} {ds : List U} {Q : Av → Sls → Prop} (ha : View ρ a (.lst ds) ∨ View ρ a (.tup ds)) (q : Q (.own (.lst ds)) ρ) :
    WC K W (fun xs H Q => ∃ p ys, xs = [.ref p] ∧ (SqL K H p ys ∨ SqT K H p ys) ∧ ∀ l, H l = none → Q (.ref l) (upd H l (.lst ys))) [a] ρ Q X := by
  rintro s vs Q0 rfl D _ h0 k
  obtain ⟨v, rfl, h⟩ := avs_one h0
  rcases ha with ha | ha
  · obtain ⟨l, xs, rfl, e1, q1⟩ := view_list D h ha
    exact ⟨l, xs, rfl, .inl (SqL.of e1), fun p hp => k.new D hp (.lst q1) q⟩
  · obtain ⟨l, xs, rfl, e1, q1⟩ := view_tup D h ha
    exact ⟨l, xs, rfl, .inr e1, fun p hp => k.new D hp (.lst q1) q⟩
/-- slices -/
def WO (K : PySem.W.Frag) (W : Wx) (t : TO) (ρ : Sls) (Q : Option Int → Sls → Prop) (X : Er → Sls → Prop) : Prop :=
  ∀ (s : Sta) (Q0 : Option Int → Hp → Prop), s.ρ = ρ → Den K s → XOk K s W X → (∀ o s', Nxt K s s' → Q o s'.ρ → Q0 o s'.H) → t s.σ s.H Q0
theorem wo_none {Q : Option Int → Sls → Prop} (q : Q none ρ) : WO K W tNoPart ρ Q X := by
  rintro s Q0 rfl D x k
  exact k none s (Nxt.refl D) q
theorem wo_some {t : TE} {Q : Option Int → Sls → Prop} (h : WE K W t ρ (fun a ρ1 => ∃ i, a = .dt (.int i) ∧ Q (some i) ρ1) X) : WO K W (tPart t) ρ Q X := by
  rintro s Q0 rfl D x k
  refine h s _ rfl D x fun v a s1 n ok ⟨i, e, q⟩ => ?_
  subst e
  have ok : At K s1.G v (.int i) := ok
  cases ok
  exact ⟨i, rfl, k (some i) s1 n q⟩
theorem we_sl {r : V → Option Int → Option Int → Hp → VK → Prop} {te : TE} {tl th : TO} {Q : Av → Sls → Prop}
    (h : WE K W te ρ (fun a ρ1 => WO K W tl ρ1 (fun l ρ2 => WO K W th ρ2 (fun u ρ3 => ∀ (s : Sta) (v : V) (Q0 : VK), s.ρ = ρ3 → Den K s → AvOk K s s v a.fl → Cnt K s Q Q0 → r v l u s.H Q0) X) X) X) : WE K W (tSl r te tl th) ρ Q X := by
  rintro s Q0 rfl D x k
  refine WE.flat (Q := fun a ρ1 => WO K W tl ρ1 (fun l ρ2 => WO K W th ρ2 (fun u ρ3 => ∀ (s : Sta) (v : V) (Q0 : VK), s.ρ = ρ3 → Den K s → AvOk K s s v a → Cnt K s Q Q0 → r v l u s.H Q0) X) X) h rfl D x fun v a s1 n1 f ok q1 => ?_
  show tl s.σ s1.H _
  rw [← n1.slots]
  refine q1 s1 _ rfl n1.den (x.next n1.stp) fun l s2 n2 q2 => ?_
  show th s1.σ s2.H _
  rw [← n2.slots]
  refine q2 s2 _ rfl n2.den (x.next (n1.trans n2).stp) fun u s3 n3 q3 => ?_
  exact q3 s3 v Q0 rfl n3.den ((AvOk.next f (n2.trans n3) ok).self f) (k.lift (n1.trans (n2.trans n3)))
def cutU (xs : List U) (lo hi : Option Int) : List U := (xs.drop (HT.sIx xs.length 0 lo)).take (HT.sIx xs.length xs.length hi - HT.sIx xs.length 0 lo)
theorem sl_L {a : Av} {ds : List U} {l u : Option Int} {Q : Av → Sls → Prop} {ρ3 : Sls} (ha : View ρ3 a (.lst ds)) (q : Q (.own (.lst (cutU ds l u))) ρ3) : ∀ (s : Sta) (v : V) (Q0 : VK), s.ρ = ρ3 → Den K s → AvOk K s s v a → Cnt K s Q Q0 → rSlL K v l u s.H Q0 := by
  rintro s v Q0 rfl D h k
  obtain ⟨p, xs, rfl, e1, q1⟩ := view_list D h ha
  refine ⟨p, xs, rfl, SqL.of e1, fun b hb => k.new D hb (.lst ?_) q⟩
  unfold cutV cutU
  rw [q1.length]
  exact (q1.drop _).take _
theorem sl_S {z : Str} {l u : Option Int} {Q : Av → Sls → Prop} {ρ3 : Sls} (hz : z.length ≤ 100000) (q : Q (.dt (.str (cutS z l u))) ρ3) : ∀ (s : Sta) (v : V) (Q0 : VK), s.ρ = ρ3 → Den K s → AvOk K s s v (.dt (.str z)) → Cnt K s Q Q0 → rSlS v l u s.H Q0 := by
  rintro s v Q0 rfl D h k
  rw [at_str h]
  exact ⟨z, rfl, Nat.le_trans hz (by decide), k.dt D (.str _) q⟩
/-! ### lists written -/
theorem ws_append {i : Nat} {t : TA} (h : WA K W t ρ (fun as ρ1 => ∃ d ρ2 sl ds, Frz ρ1 as [d] ρ2 ∧ ρ2[i]? = some sl ∧ sl.cell = some (.lst ds) ∧ ds.length < 100000 ∧ P.nx (setC ρ2 i (.lst (ds ++ [d])))) P.xc)
    (hc : ∃ sl ds, ρ[i]? = some sl ∧ sl.cell = some (.lst ds)) : WS K W (tDrop (tBM K "list" rAppend (tVar i) t)) ρ P := by
  rintro s D rfl d x f
  obtain ⟨sl, ds, e, c⟩ := hc
  obtain ⟨a, o, e1, e2, e3, e4⟩ := d.own i sl _ e c
  refine ⟨.ref a, e1, ?_, ?_⟩
  · cases e4 with
    | lst _ => exact .inl ⟨rfl, _, SqL.of e3⟩
  · refine h s _ rfl d x fun vs as s1 n1 ok ⟨z, ρ2, sl', ds', hf, q1, q2, q3, q⟩ => ?_
    obtain ⟨s2, e5, e6, n2, hz⟩ := hf.run rfl n1.den ok
    cases hz with
    | cons hz ht =>
      cases ht
      have n12 := n1.trans n2
      subst e5
      obtain ⟨a', o', e7, e8, e9, e10⟩ := n2.den.own i sl' _ q1 q2
      have e7' : s2.σ[i]? = some (some (.ref a)) := by rw [n12.slots]; exact e1
      rw [e7'] at e7
      cases e7
      cases e10 with
      | lst hx =>
        rename_i xs
        rw [← e6]
        refine ⟨a, xs, _, rfl, rfl, e9, Nat.lt_of_lt_of_le (by rw [hx.length]; exact q3) (by decide), ?_⟩
        have nw := cell_write (o' := .lst (xs ++ [_])) (d' := .lst (ds' ++ [z])) n2.den q1 q2 e7' e9 (.lst (hx.snoc hz))
        have := f.nx _ (n12.stp.trans nw.stp) nw.den q
        rw [show ({ s2 with ρ := setC s2.ρ i (.lst (ds' ++ [z])), H := upd s2.H a (.lst (xs ++ [_])) } : Sta).σ = s.σ from n12.slots] at this
        exact this
theorem ws_setL {j : Nat} {te ti : TE} (h : WE K W te ρ (fun a ρ1 => ∃ d ρ2, Frz ρ1 [a.fl] [d] ρ2 ∧ (∃ sl ds, ρ2[j]? = some sl ∧ sl.cell = some (.lst ds)) ∧ WE K W ti ρ2 (fun b ρ3 => ∃ i m sl ds, b = .dt (.int i) ∧ ρ3[j]? = some sl ∧ sl.cell = some (.lst ds) ∧ ixN ds.length i = some m ∧ P.nx (setC ρ3 j (.lst (ds.set m d)))) P.xc) P.xc) :
    WS K W (tAsg te (gSub (tVar j) ti rSetL)) ρ P := by
  rintro s D rfl d x f
  refine WE.flat (Q := fun a ρ1 => ∃ d ρ2, Frz ρ1 [a] [d] ρ2 ∧ (∃ sl ds, ρ2[j]? = some sl ∧ sl.cell = some (.lst ds)) ∧ WE K W ti ρ2 (fun b ρ3 => ∃ i m sl ds, b = .dt (.int i) ∧ ρ3[j]? = some sl ∧ sl.cell = some (.lst ds) ∧ ixN ds.length i = some m ∧ P.nx (setC ρ3 j (.lst (ds.set m d)))) P.xc) h rfl d x fun v a s1 n1 fa ok ⟨z, ρ2, hf, hc, q⟩ => ?_
  obtain ⟨s2, e1, e2, n2, hz⟩ := frz1 hf fa n1.den ok
  subst e1
  obtain ⟨sl, ds, c1, c2⟩ := hc
  obtain ⟨b, o, e3, e4, e5, e6⟩ := n2.den.own j sl _ c1 c2
  have n12 := n1.trans n2
  have eσ : s.σ[j]? = some (some (.ref b)) := by rw [← n12.slots]; exact e3
  refine ⟨.ref b, eσ, ?_⟩
  rw [← e2, ← n12.slots]
  refine q s2 _ rfl n2.den (x.next n12.stp) fun w bv s3 n3 ok3 ⟨i, m, sl', ds', eb, c3, c4, c5, q3⟩ => ?_
  subst eb
  have ok3 : At K s3.G w (.int i) := ok3
  cases ok3
  obtain ⟨b', o', e7, e8, e9, e10⟩ := n3.den.own j sl' _ c3 c4
  have e7' : s3.σ[j]? = some (some (.ref b)) := by rw [n3.slots]; exact e3
  rw [e7'] at e7
  cases e7
  cases e10 with
  | lst hx =>
    rename_i xs
    refine ⟨b, xs, i, m, rfl, rfl, e9, by rw [hx.length]; exact c5, ?_⟩
    have nw := cell_write (o' := .lst (xs.set m v)) (d' := .lst (ds'.set m z)) n3.den c3 c4 e7' e9 (.lst (hx.set m (At.mono n3.stp.sub _ _ hz)))
    have := f.nx _ (n12.stp.trans (n3.stp.trans nw.stp)) nw.den q3
    rw [show ({ s3 with ρ := setC s3.ρ j (.lst (ds'.set m z)), H := upd s3.H b (.lst (xs.set m v)) } : Sta).σ = s2.σ from n3.slots] at this
    exact this
theorem ws_par {i j : Nat} {ta : TA} (h : WA K W ta ρ (fun as ρ1 => ∃ d e ρ2, Frz ρ1 as [d, e] ρ2 ∧ nb ρ2 i = true ∧ nb ρ2 j = true ∧ P.nx ((ρ2.set i (.val d)).set j (.val e))) P.xc) : WS K W (tPar i j ta) ρ P := by
  rintro s D rfl d x f
  refine h s _ rfl d x fun vs as s1 n1 ok ⟨z, w, ρ2, hf, b1, b2, q⟩ => ?_
  obtain ⟨s2, e1, e2, n2, hz⟩ := hf.run rfl n1.den ok
  subst e1
  cases hz with
  | cons hz ht =>
    cases ht with
    | cons hw ht =>
      cases ht
      refine ⟨_, _, rfl, ?_⟩
      obtain ⟨st3, d3⟩ := put_val n2.den b1 hz
      obtain ⟨st4, d4⟩ := put_val (i := j) d3 (nb_set b2) hw
      rw [← e2]
      have := f.nx _ ((n1.trans n2).stp.trans (st3.trans st4)) d4 q
      rw [show ({ s2 with ρ := (s2.ρ.set i (.val z)).set j (.val w), σ := (s2.σ.set i (some _)).set j (some _) } : Sta).σ = (s.σ.set i (some _)).set j (some _) from by rw [← (n1.trans n2).slots]] at this
      exact this
end
theorem put_dt {i : Nat} {d : U} {ρ : Sls} {N : Sls → Prop} (h : nb ρ i = true) (q : N (ρ.set i (.val d))) : Put i (.dt d) ρ N := ⟨h, q⟩
theorem put_new {i : Nat} {d : U} {ρ : Sls} {N : Sls → Prop} (h : nb ρ i = true) (q : N (ρ.set i (.own d))) : Put i (.own d) ρ N := ⟨h, q⟩
theorem put_mv {i j : Nat} {d : U} {ρ : Sls} {N : Sls → Prop} (h : nb ρ i = true) (e : ρ[j]? = some (.own d)) (q : N ((ρ.set j (.val d)).set i (.val d))) : Put i (.sl j) ρ N := ⟨h, .inl ⟨d, e, q⟩⟩
theorem rt_dt {d : U} {ρ : Sls} {N : Av → Sls → Prop} (q : N (.dt d) ρ) : Rt (.dt d) ρ N := q
theorem rt_new {d : U} {ρ : Sls} {N : Av → Sls → Prop} (q : N (.own d) ρ) : Rt (.own d) ρ N := q
theorem rt_own {i : Nat} {d : U} {ρ : Sls} {N : Av → Sls → Prop} (e : ρ[i]? = some (.own d)) (q : N (.own d) (ρ.set i .un)) : Rt (.sl i) ρ N := .inl ⟨d, e, q⟩
/-- a def's promise has as many arguments as slots -/
theorem spU_len {K : PySem.W.Frag} {R : RU} {vs : List V} {H : Hp} {Q : VK} {E : XK} {n : Nat} (h : spU K R vs H Q E) (hn : ∀ ρ Q X, R ρ Q X → ρ.length = n) : vs.length = n := by
  obtain ⟨G, ρ, D, _, h⟩ := h
  have e := D.len
  rw [List.length_map] at e
  exact e.trans (hn _ _ _ h)
/-- THE RULE for a def that lets nothing out, by data -/
theorem Fun_okU {P : Program} {w : World} {K : PySem.W.Frag} {mg : Str → Option Value} {base : Heap} {x qual : Str} {st : Stmt} {f : Addr} {fd : FuncData} {N ps : List Str} {k : Nat} {R : RU} (F : Fun K x qual st f fd) (S : FnScope N ps (defScope st)) (hn : ∀ ρ Q X, R ρ Q X → ρ.length = ps.length)
    (hbody : ∀ (cdv : Value) (A : Around) (outer : List PySem.Env) (s : Shared) (H : Hp) (E : XK), Room k (A.deeper (envOfC qual (defScope st) s.heap.objs.size f cdv)) →
      ∃ t, PSs (cxOf CX0 P w K mg base N qual (defScope st) f cdv A outer s H E).nox (defBody st) t ∧
        ∀ (W : Wx) (ρ : Sls) (Qd : Av → Sls → Prop) (Xd : Er → Sls → Prop), R ρ Qd Xd →
          WS K W t (ρ ++ List.replicate (N.length - ps.length) .un) { nx := fun ρ' => Qd (.dt .non) (out ρ ρ'), rt := fun a ρ' => a.ns ∧ Qd a (out ρ ρ'), xc := fun e ρ' => Xd e (out ρ ρ') }) :
    FnOk P w K mg base CX0 (k + 1) f fd ps (spU K R) := by
  refine F.ok S (fun vs H Q E h => spU_len h hn) (fun cdv A outer s H vs Q E hr h => ?_)
  obtain ⟨t, ht, hw⟩ := hbody cdv A outer s H E hr
  refine ⟨t, ht, body_U h fun ρ Qd Xd hl hR => ?_⟩
  have e : vs.length = ps.length := hl.symm.trans (hn _ _ _ hR)
  rw [e]
  exact hw _ ρ Qd Xd hR
/-- .. for a def that may raise -/
theorem Fun_okUX {P : Program} {w : World} {K : PySem.W.Frag} {mg : Str → Option Value} {base : Heap} {x qual : Str} {st : Stmt} {f : Addr} {fd : FuncData} {N ps : List Str} {k : Nat} {R : RU} (F : Fun K x qual st f fd) (S : FnScope N ps (defScope st)) (hn : ∀ ρ Q X, R ρ Q X → ρ.length = ps.length)
    (hbody : ∀ (cdv : Value) (A : Around) (outer : List PySem.Env) (s : Shared) (H : Hp) (E : XK), Room k (A.deeper (envOfC qual (defScope st) s.heap.objs.size f cdv)) →
      ∃ t, PSs (cxOf (L2.CX P w) P w K mg base N qual (defScope st) f cdv A outer s H E) (defBody st) t ∧
        ∀ (ρ : Sls) (Qd : Av → Sls → Prop) (Xd : Er → Sls → Prop), R ρ Qd Xd →
          WS K (fun cls dd _ H' => E cls dd H') t (ρ ++ List.replicate (N.length - ps.length) .un) { nx := fun ρ' => Qd (.dt .non) (out ρ ρ'), rt := fun a ρ' => a.ns ∧ Qd a (out ρ ρ'), xc := fun e ρ' => Xd e (out ρ ρ') }) :
    FnOk P w K mg base (L2.CX P w) (k + 1) f fd ps (spU K R) := by
  refine F.okX S (fun vs H Q E h => spU_len h hn) (fun cdv A outer s H vs Q E hr h => ?_)
  obtain ⟨t, ht, hw⟩ := hbody cdv A outer s H E hr
  refine ⟨t, ht, body_U h fun ρ Qd Xd hl hR => ?_⟩
  have e : vs.length = ps.length := hl.symm.trans (hn _ _ _ hR)
  rw [e]
  exact hw ρ Qd Xd hR
/-! ### the same, reckoned -/
def frzC : Sls → List Av → Option (List U × Sls)
  | ρ, [] => some ([], ρ)
  | ρ, .dt d :: as => match frzC ρ as with
    | some (ds, ρ') => some (d :: ds, ρ')
    | none => none
  | ρ, .sl i :: as => match ρ[i]? with
    | some (.own d) => (match frzC (ρ.set i (.val d)) as with
      | some (ds, ρ') => some (d :: ds, ρ')
      | none => none)
    | some (.val d) => (match frzC ρ as with
      | some (ds, ρ') => some (d :: ds, ρ')
      | none => none)
    | _ => none
  | _, .own _ :: _ => none
theorem frzC_ok : ∀ {as : List Av} {ρ ρ' : Sls} {ds : List U}, frzC ρ as = some (ds, ρ') → Frz ρ as ds ρ'
  | [], _, _, _, h => by
    cases (show some _ = some _ from h)
    exact .nil
  | .dt d :: as, ρ, ρ', ds, h => by
    unfold frzC at h
    cases e : frzC ρ as with
    | none => rw [e] at h; cases h
    | some p =>
      rw [e] at h
      cases (show some _ = some _ from h)
      exact .dt (frzC_ok (as := as) e)
  | .sl i :: as, ρ, ρ', ds, h => by
    unfold frzC at h
    split at h
    · rename_i d e0
      cases e : frzC (ρ.set i (.val d)) as with
      | none => rw [e] at h; cases h
      | some p =>
        rw [e] at h
        cases (show some _ = some _ from h)
        exact .sl e0 (frzC_ok (as := as) e)
    · rename_i d e0
      cases e : frzC ρ as with
      | none => rw [e] at h; cases h
      | some p =>
        rw [e] at h
        cases (show some _ = some _ from h)
        exact .va e0 (frzC_ok (as := as) e)
    · cases h
  | .own _ :: _, _, _, _, h => nomatch h
/-- operands as arguments; of own objects it is said whether they are lent (true) or frozen -/
def pasC : Sls → List Av → List Bool → Option (List Arg × Sls)
  | ρ, [], _ => some ([], ρ)
  | ρ, .dt d :: as, _ :: ms => match pasC ρ as ms with
    | some (gs, ρ') => some (.va d :: gs, ρ')
    | none => none
  | ρ, .sl i :: as, true :: ms => match pasC ρ as ms with
    | some (gs, ρ') => (match ρ'[i]? with
      | some (.own d) => some (.bo i d :: gs, ρ')
      | some (.bor d) => some (.bo i d :: gs, ρ')
      | _ => none)
    | none => none
  | ρ, .sl i :: as, false :: ms => match ρ[i]? with
    | some (.own d) => (match pasC (ρ.set i (.val d)) as ms with
      | some (gs, ρ') => some (.va d :: gs, ρ')
      | none => none)
    | some (.val d) => (match pasC ρ as ms with
      | some (gs, ρ') => some (.va d :: gs, ρ')
      | none => none)
    | _ => none
  | _, _, _ => none
theorem pasC_ok : ∀ {as : List Av} {ms : List Bool} {ρ ρ' : Sls} {gs : List Arg}, pasC ρ as ms = some (gs, ρ') → Pas ρ as gs ρ'
  | [], ms, ρ, ρ', gs, h => by
    cases ms <;> (cases (show some (([] : List Arg), ρ) = some (gs, ρ') from h); exact .nil)
  | .dt d :: as, [], _, _, _, h => nomatch h
  | .sl i :: as, [], _, _, _, h => nomatch h
  | .own _ :: as, [], _, _, _, h => nomatch h
  | .own _ :: as, _ :: _, _, _, _, h => nomatch h
  | .dt d :: as, m :: ms, ρ, ρ', gs, h => by
    unfold pasC at h
    cases e : pasC ρ as ms with
    | none => rw [e] at h; cases h
    | some p =>
      rw [e] at h
      cases (show some _ = some _ from h)
      exact .dt (pasC_ok (as := as) e)
  | .sl i :: as, true :: ms, ρ, ρ', gs, h => by
    unfold pasC at h
    cases e : pasC ρ as ms with
    | none => rw [e] at h; cases h
    | some p =>
      obtain ⟨gs2, ρ2⟩ := p
      rw [e] at h
      dsimp only at h
      split at h
      · rename_i d e0
        cases (show some _ = some _ from h)
        exact .bo (pasC_ok (as := as) e) e0 rfl
      · rename_i d e0
        cases (show some _ = some _ from h)
        exact .bo (pasC_ok (as := as) e) e0 rfl
      · cases h
  | .sl i :: as, false :: ms, ρ, ρ', gs, h => by
    unfold pasC at h
    split at h
    · rename_i d e0
      cases e : pasC (ρ.set i (.val d)) as ms with
      | none => rw [e] at h; cases h
      | some p =>
        rw [e] at h
        cases (show some _ = some _ from h)
        exact .fz e0 (pasC_ok (as := as) e)
    · rename_i d e0
      cases e : pasC ρ as ms with
      | none => rw [e] at h; cases h
      | some p =>
        rw [e] at h
        cases (show some _ = some _ from h)
        exact .va e0 (pasC_ok (as := as) e)
    · cases h
theorem callU {R : RU} {avs : List Av} {ρ : Sls} {Q : Av → Sls → Prop} {X : Er → Sls → Prop} (ms : List Bool) {gs : List Arg} {ρ1 : Sls} (h : pasC ρ avs ms = some (gs, ρ1)) (s : sep gs = true)
    (k : ∀ (Q' : Av → Sls → Prop) (X' : Er → Sls → Prop), (∀ a r, Q a (upds ρ1 gs r) → Q' a r) → (∀ e r, X e (upds ρ1 gs r) → X' e r) → R (gs.map Arg.slot) Q' X') : CallU R avs ρ Q X := ⟨gs, ρ1, pasC_ok h, s, k⟩
theorem wc_lenS {K : PySem.W.Frag} {W : Wx} {X : Er → Sls → Prop} {ρ : Sls} {z : Str} {Q : Av → Sls → Prop} (h : z.length ≤ 100000) (q : Q (.dt (.int (z.length : Nat))) ρ) : WC K W (fun xs H Q => ∃ x n, xs = [x] ∧ LenV K x H n ∧ Q (.int n) H) [.dt (.str z)] ρ Q X :=
  wc_len (d := .str z) rfl (by show (if z.length ≤ 100000 then some z.length else none) = _; exact if_pos h) q

/-! ### errors that are kept behind their handler -/
theorem exK_ok {P : Program} {w : World} {H : Hp} {g : Heap} {a : Addr} {cls : Value} {dd : Option Addr} {ob : Obj} {fl : Array Value} (e : g.get? a = some ob) (z : Zc cls dd ob) (f : ob.data = .fields fl) : ObjOk P w H g a (ExK cls dd a) :=
  ⟨⟨ob, fl, e, z, f⟩, ⟨ob, e⟩, fun _ _ ⟨o, v, q, r⟩ kp => ⟨o, v, kp o q, r⟩⟩
section
variable {X : Cx} {pins : List (Addr × Obj)} {σ : L2.St} {H : Hp} {s : Shared}
/-- an object that stands untracked is tracked from now on -/
theorem inv_track {a : Addr} {o : HO} (I : L2.Inv X pins σ H s) (hn : H a = none) (h0 : X.s_0.heap.get? a = none) (hL : a ≠ X.env.locals) (hC : ∀ x c, X.env.cells.lookup x = some c → c ≠ a) (hP : ∀ p ∈ X.pn ++ pins, p.1 ≠ a)
    (new : ObjOk X.prog X.w (upd H a o) s.heap a o) : L2.Inv X pins σ (upd H a o) s := by
  have kp : ∀ b u, s.heap.get? b = some u → s.heap.get? b = some u := fun _ _ q => q
  have B := I.base
  refine ⟨I.ok, I.os, I.bare, ⟨fun b u q n => B.keep b u q n, fun b u q n => B.slot b u q n, fun b u q n hx => ?_, B.there, fun b xs q => ?_, fun b u v q => ?_, fun b ps q => ?_⟩, I.loc, I.cell, ?_, fun x c q => ?_, fun p hp => ?_, I.hok.laidN kp hn new, I.len⟩
  · rw [upd_ne (fun z => by rw [z, h0] at q; cases q)]
    exact B.free b u q n hx
  · have r := B.tups b xs q
    rw [upd_ne (ne_of_none r hn)]
    exact r
  · have r := B.frzs b u v q
    rw [upd_ne (ne_of_none r hn)]
    exact r
  · obtain ⟨more, r⟩ := B.tbls b ps q
    exact ⟨more, by rw [upd_ne (ne_of_none r hn)]; exact r⟩
  · rw [upd_ne (Ne.symm hL)]
    exact I.free
  · rw [upd_ne (hC x c q)]
    exact I.freeC x c q
  · obtain ⟨q1, q2, q3⟩ := I.pin p hp
    exact ⟨q1, by rw [upd_ne (hP p hp)]; exact q2, q3⟩
/-- what 'except x as n' wishes of an error, which is kept behind the suite -/
def wKeep (K : PySem.W.Frag) (c : Value) (i : Nat) (ts : Addr → Value → Option Addr → TS) (Wo : WX) (D : Ends) : WX := fun cls dd σ H =>
  ∃ b, PySem.W.exmOne K cls c = some b ∧ (b = false → Wo cls dd σ H) ∧
    (b = true → ∀ a, H a = none → ts a cls dd { nx := fun σ2 H2 => H2 a = none → D.nx (σ2.set i none) (upd H2 a (ExK cls dd a)), rt := fun v H2 => H2 a = none → D.rt v (upd H2 a (ExK cls dd a)), bk := fun σ2 H2 => H2 a = none → D.bk (σ2.set i none) (upd H2 a (ExK cls dd a)), ct := fun σ2 H2 => H2 a = none → D.ct (σ2.set i none) (upd H2 a (ExK cls dd a)) } (σ.set i (some (.ref a))) H)
end
section
variable {X : Cx} {x n : Str} {c : Value} {i : Nat} {body suite : List Stmt} {first : Stmt} {np p1 p2 : Pos} {tb : WX → TS} {ts : Addr → Value → Option Addr → TS} {Wo : WX}
theorem ps_try_keep (hex : X.ex = []) (hst : X.stack = X.env :: X.outer) (hfr : X.env.frame = some X.env.locals) (nd : X.N.Nodup) (hi : X.N[i]? = some n) (hk : X.env.kindOf n = some .local) (hc : Names X x c) (tk : Takes X Wo)
    (hb : ∀ (W : WX) (pn : List (Addr × Obj)) (xe : Value → Shared → Prop), Takes (X.tr pn xe) W → PassesOwn (model X.prog X.w) X.A X.env xe → PSs (X.tr pn xe) body (tb W))
    (hsu : ∀ (a : Addr) (ob : Obj) (cls : Value) (dd : Option Addr) (pn : List (Addr × Obj)), Zc cls dd ob → (∃ fl, ob.data = .fields fl) → PSs (X.suite a ((a, ob) :: pn)) (first :: suite) (ts a cls dd)) :
    PS X (.Try body [.ExceptHandler (some (.Name x np)) (some n) (first :: suite) p1] [] [] p2) (fun D σ H => tb (wKeep X.K c i ts Wo D) D σ H) := by
  refine ⟨fun pins s σ H D I red => ?_⟩
  have okX := I.ok
  have frames : X.A.frames = some (X.env :: X.outer) := okX.frames.trans (congrArg some hst)
  let air : Value → Shared → Prop := fun e s1 => wpAny (model X.prog X.w) X.A (noteFrame e X.env) (fun _ s2 => wpAny (model X.prog X.w) X.A (setFlight e none)
    (fun _ s3 => wpAny (model X.prog X.w) X.A (handleBy e X.env [.ExceptHandler (some (.Name x np)) (some n) (first :: suite) p1]) (SP X pins D) X.xe s3) X.xe s2) X.xe s1
  have caught : Takes (X.tr (X.pn ++ pins) air) (wKeep X.K c i ts Wo D) := by
    rintro u s1 ⟨a, B, sI, pins2, σ1, H1, cls, dd, rfl, J0, nb, up, sky, na, os, ag, b, hb1, hno, hyes⟩
    have J : L2.Inv X pins σ1 H1 sI := J0.ofTry okX
    have sky2 : Sky B (X.env :: X.outer) a (Zc cls dd) X.env.locals s1.heap := hst ▸ sky
    show wpAny (model X.prog X.w) X.A (noteFrame (.ref a) X.env) _ _ _
    refine Sky.land Zc.steady frames hfr sky2 fun h3 fl3 up3 => ?_
    have J3 : L2.Inv X pins σ1 H1 { s1 with heap := h3 } := J.landed nb fl3.1 (up.trans up3) os ag
    obtain ⟨o3, v3, e3, z3, d3⟩ := fl3.there
    have off : a ∉ frs (X.env :: X.outer) := fun hm => by
      obtain ⟨_, o, e, nf⟩ := fl3.2.2.1.mem hm
      rw [e3] at e
      cases e
      exact nf _ d3
    have offL : a ≠ X.env.locals := fun z => off (List.mem_filterMap.mpr ⟨X.env, List.mem_cons_self, hfr.trans (congrArg some z.symm)⟩)
    have offF : a ∉ X.fs := fun hm => by
      obtain ⟨e, h1, h2⟩ := List.mem_filterMap.mp hm
      exact off (List.mem_filterMap.mpr ⟨e, List.mem_cons_of_mem _ h1, h2⟩)
    have gB : B.get? a = none := fl3.2.1
    have new0 : X.s_0.heap.get? a = none := by
      cases q : X.s_0.heap.get? a with
      | none => rfl
      | some o =>
        obtain ⟨o', q2⟩ := J.base.there a o q (by rw [hex]; exact nofun)
        have := nb a o' q2 (by rw [hst]; exact off)
        rw [gB] at this
        cases this
    have offP : ∀ p ∈ X.pn ++ pins, p.1 ≠ a := fun p hp z => by
      obtain ⟨q1, _⟩ := J.pin p hp
      rw [z] at q1
      have := nb a _ q1 (by rw [hst]; exact off)
      rw [gB] at this
      cases this
    have S3 := J3.suite e3 d3 na offL offF
    refine wpAny_handleBy_cons (codeAny_handlers_test ?_) (by intro q; cases q)
    have ofT : PySem.W.Looks (model X.prog X.w) h3 (typeOf (.ref a)) cls := fun A Q E s kk q => wpAny_typeOf_ref (kk _ _ e3) (by rw [z3.1]; exact q)
    have fits := PySem.W.exm_one (M := model X.prog X.w) (J3.kIn) ofT hb1
    have clause : ∀ {Q : Value → Shared → Prop} {E : Value → Shared → Prop}, Q c { s1 with heap := h3 } → wpAny (model X.prog X.w) (X.A.mark (some (.ref a))) (eval (.Name x np) X.env) Q E { s1 with heap := h3 } := by
      intro Q E q
      obtain ⟨hg, hdb, hm⟩ := hc
      rcases hm with hm | ⟨hm, hv, hnn⟩
      · exact ld_glob (X := X.suite a ((a, o3) :: (X.pn ++ pins))) S3 hg hm q hdb
      · exact ld_blt (X := X.suite a ((a, o3) :: (X.pn ++ pins))) S3 hg hm hv q hnn hdb
    refine clause (fits.here ?_)
    cases b with
    | false =>
      show wpAny _ X.A (handleBy (.ref a) X.env []) _ _ _
      refine wpAny_handleBy_nil ?_
      obtain ⟨_, _, _, ob, fl, T, oT, _, g1, g2, g3, g4, _⟩ := id fl3
      unfold PySem.passOn
      refine wpAny_bind (wpAny_field g1 g3 g4 ?_)
      rw [if_neg (show ¬ ((Value.ref T == Value.none) = true) from by simp)]
      have on : wpAny (model X.prog X.w) X.A (setFlight (.ref a) X.env.frame) (fun _ s4 => wpAny (model X.prog X.w) X.A (throw (.ref a) : Sem Flow) (SP X pins D) X.xe s4) X.xe { s1 with heap := h3 } := by
        rw [hfr]
        refine HandSPX.setFlight_upZ fl3 fun h4 held up4 => wpAny_throw (tk _ _ ?_)
        exact ⟨a, B, sI, pins, σ1, H1, cls, dd, rfl, J, nb, (up.trans up3).trans up4, .inr (.inr (hst ▸ held)), na, os, ag, hno rfl⟩
      first
        | exact wpAny_bind (wpAny_pure (wpAny_bind on))
        | exact wpAny_bind on
    | true =>
      refine codeAny_handlers_suite_as ?_
      refine HandSPX.lands_againZ fl3 fun h4 fl4 up4 => ?_
      have J4 : L2.Inv X pins σ1 H1 { s1 with heap := h4 } := J.landed nb fl4.1 ((up.trans up3).trans up4) os ag
      obtain ⟨o4, v4, e4, z4, d4⟩ := fl4.there
      have S4 := J4.suite e4 d4 na offL offF
      refine store_ok (X := X.suite a ((a, o4) :: (X.pn ++ pins))) (v := .ref a) S4 nd hi (.inl hk) rfl (fun s5 S5 => ?_) (.inr hk)
      refine wpAny_mono ((hsu a o4 cls dd (X.pn ++ pins) z4 ⟨_, d4⟩).run [] s5 _ H1 _ S5 (hyes rfl a na)) (fun f s6 got => ?_) (fun _ _ z => False.elim z)
      have keep : ∀ {σ6 : L2.St} {H6 : Hp}, L2.Inv (X.suite a ((a, o4) :: (X.pn ++ pins))) [] σ6 H6 s6 → H6 a = none ∧ L2.Inv X pins σ6 (upd H6 a (ExK cls dd a)) s6 := fun {σ6 H6} S6 => by
        obtain ⟨q1, q2, _⟩ := S6.pin (a, o4) (List.mem_append_left _ List.mem_cons_self)
        refine ⟨q2, inv_track (S6.unsuite okX) q2 new0 offL (fun y cc hy z => ?_) offP (exK_ok q1 z4 d4)⟩
        obtain ⟨v, ob, g1, g2⟩ := S6.cell y cc hy
        rw [z, q1] at g1
        cases g1
        rw [show o4.data = _ from d4] at g2
        cases g2
      have close : ∀ {σ6 : L2.St} {H6 : Hp} {R : Shared → Prop}, L2.Inv X pins σ6 H6 s6 → (∀ s7, L2.Inv X pins (σ6.set i none) H6 s7 → R s7) →
          wpAny (model X.prog X.w) X.A (do bindName X.env n .none; unbindBehindTheSuite X.env n p1) (fun _ s7 => R s7) X.xe s6 := fun {σ6 H6 R} I6 hq => gone_ok I6 nd hi hk hq
      cases f with
      | ret u =>
        obtain ⟨v6, σ6, H6, S6, r6, q6⟩ := got
        obtain ⟨k1, k2⟩ := keep S6
        exact close k2 fun s7 J7 => ⟨_, _, _, J7, r6, q6 k1⟩
      | next =>
        obtain ⟨σ6, H6, S6, q6⟩ := got
        obtain ⟨k1, k2⟩ := keep S6
        exact close k2 fun s7 J7 => ⟨_, _, J7, q6 k1⟩
      | brk =>
        obtain ⟨σ6, H6, S6, q6⟩ := got
        obtain ⟨k1, k2⟩ := keep S6
        exact close k2 fun s7 J7 => ⟨_, _, J7, q6 k1⟩
      | cont =>
        obtain ⟨σ6, H6, S6, q6⟩ := got
        obtain ⟨k1, k2⟩ := keep S6
        exact close k2 fun s7 J7 => ⟨_, _, J7, q6 k1⟩
  refine wpAny_Try_except ?_
  refine wpAny_mono ((hb (wKeep X.K c i ts Wo D) (X.pn ++ pins) air caught PassesOwn.looking).run [] s σ H D (I.toTry _) red) (fun f s1 got => ?_) (fun e s1 he => he)
  cases f with
  | ret u =>
    obtain ⟨v, σ1, H1, J1, r1, q1⟩ := got
    exact ⟨v, σ1, H1, J1.ofTry okX, r1, q1⟩
  | next =>
    obtain ⟨σ1, H1, J1, q1⟩ := got
    exact wpAny_execs_nil ⟨σ1, H1, J1.ofTry okX, q1⟩
  | brk =>
    obtain ⟨σ1, H1, J1, q1⟩ := got
    exact ⟨σ1, H1, J1.ofTry okX, q1⟩
  | cont =>
    obtain ⟨σ1, H1, J1, q1⟩ := got
    exact ⟨σ1, H1, J1.ofTry okX, q1⟩
end
/-! ### a kept error's field -/
def tXfK (C : Addr) (f : Str) (te : TE) : TE := fun σ H Q => te σ H fun y H1 => ∃ (a dd : Addr) (fs : List (Str × V)) (v : V), y = .ref a ∧ H1 a = some (ExK (.ref C) (some dd) a) ∧ H1 dd = some (.xd fs) ∧ fs.lookup f = some v ∧ Q v H1
theorem pe_xfK {X : Cx} {C : Addr} {e : Expr} {te : TE} {pos : Pos} {n : Str} (T : XfC X.K C) (hno : PySem.W.findIn X.K (.ref C) n = some none) (he : PE X e te) (hb : attributeBase e n X.env (eval e X.env) = eval e X.env := by rfl) : PE X (.Attribute e n pos) (tXfK C n te) := by
  refine ⟨fun pins s σ H Q I h => attr_of hb (thn (he.run pins s σ H _ I h) fun u s1 hh => ?_)⟩
  obtain ⟨y, H1, I1, ry, a, dd, fs, v, rfl, ea, ed, l, q⟩ := hh
  obtain rfl : u = Value.ref a := ry
  obtain ⟨⟨ob, fl, g1, g2, g3⟩, _, _⟩ := I1.hok a _ ea
  obtain ⟨mA, ns, rel⟩ := (I1.hok dd _ ed : ObjOk X.prog X.w H1 s1.heap dd (.xd fs))
  obtain ⟨od, ho, hl⟩ := lookIn_ns ns
  obtain ⟨z, hz, rz⟩ := RelO.some_of (v := v) (o := mA n) (by rw [← l]; exact rel n)
  have inst : PySem.W.InstAt s1.heap a ob C (some od) := ⟨g1, g2.1, by unfold PySem.W.notCls; rw [g3] <;> rfl, by rw [g2.2]; exact ho⟩
  exact HandSPX.exc_get I1.kIn inst T.ga T.gg T.exC (PySem.W.findObj_own T.hdC hno rfl (by rw [hl, hz])) (handed_of rz) ⟨v, H1, I1.tok _, rz, q⟩

theorem small200 {j : Int} (h0 : 0 < j) (h : j < 2 ^ 200) : j.natAbs < 2 ^ 200 := by
  have e : ((2 : Int) ^ 200) = ((2 ^ 200 : Nat) : Int) := by decide +kernel
  rw [e] at h
  omega
theorem log_small {i j : Int} (h0 : 0 < j) (h : j < 2 ^ 200) : CDivW i j := wide_div h0 (small200 h0 h) (by decide) (by decide)
/-! ### more rules by data -/
section
variable {K : PySem.W.Frag} {W : Wx} {X : Er → Sls → Prop} {ρ : Sls}
theorem uT {b : Bool} {p q : Prop} (h : b = true) (x : p) : if b = true then p else q := by
  rw [if_pos h]
  exact x
theorem uF {b : Bool} {p q : Prop} (h : b = false) (x : q) : if b = true then p else q := by
  rw [h, if_neg Bool.false_ne_true]
  exact x
def signs (z : Str) : List U := z.cps.toList.map fun c => U.str ⟨#[c]⟩
theorem uwalk_str {s : Sta} {z : Str} : UWalk K s (Its z) (signs z) := by
  have hl : z.cps.size = (signs z).length := by rw [signs, List.length_map, Array.length_toList]
  refine ⟨_, _, (hl ▸ walk_str (z := z)), fun _ _ _ => trivial, fun i x s' H' hi n D y => ?_⟩
  obtain ⟨rfl, c, hc, rfl⟩ := y
  refine ⟨s', .str ⟨#[c]⟩, rfl, rfl, Nxt.refl D, ?_, .str _⟩
  rw [signs, List.getElem?_map, Array.getElem?_toList, hc]
  rfl
theorem wi_str {te : TE} {Q : List U → Sls → Prop} (h : WE K W te ρ (fun a ρ1 => ∃ z, a = .dt (.str z) ∧ Q (signs z) ρ1) X) : WI K W (iStr te) ρ Q X := by
  rintro s R0 rfl D x k
  refine h s _ rfl D x fun v a s1 n ok ⟨z, e, q⟩ => ?_
  subst e
  have ok : At K s1.G v (.str z) := ok
  cases ok
  exact ⟨z, rfl, k _ _ s1 n uwalk_str q⟩
theorem we_and {ta tb : TE} {Q : Av → Sls → Prop} (h : WE K W ta ρ (fun a ρ1 => ∃ b, a = .dt (.bl b) ∧ if b = true then WE K W tb ρ1 Q X else Q (.dt (.bl false)) ρ1) X) : WE K W (tAndV ta tb) ρ Q X := by
  rintro s Q0 rfl D x k
  refine h s _ rfl D x fun v a s1 n ok ⟨b, e, q⟩ => ?_
  subst e
  have ok : At K s1.G v (.bl b) := ok
  cases ok
  refine ⟨b, rfl, ?_⟩
  cases b with
  | true => exact iteT ((show WE K W tb s1.ρ Q X by simpa using q).go n rfl x k)
  | false => exact iteF (k _ (.dt (.bl false)) s1 n (At.bl false) (by simpa using q))
theorem we_or {ta tb : TE} {Q : Av → Sls → Prop} (h : WE K W ta ρ (fun a ρ1 => ∃ b, a = .dt (.bl b) ∧ if b = true then Q (.dt (.bl true)) ρ1 else WE K W tb ρ1 Q X) X) : WE K W (tOrV ta tb) ρ Q X := by
  rintro s Q0 rfl D x k
  refine h s _ rfl D x fun v a s1 n ok ⟨b, e, q⟩ => ?_
  subst e
  have ok : At K s1.G v (.bl b) := ok
  cases ok
  refine ⟨b, rfl, ?_⟩
  cases b with
  | true => exact iteT (k _ (.dt (.bl true)) s1 n (At.bl true) (by simpa using q))
  | false => exact iteF ((show WE K W tb s1.ρ Q X by simpa using q).go n rfl x k)
theorem we_not {ta : TE} {Q : Av → Sls → Prop} (h : WE K W ta ρ (fun a ρ1 => ∃ b, a = .dt (.bl b) ∧ Q (.dt (.bl (!b))) ρ1) X) : WE K W (tNotV ta) ρ Q X := by
  rintro s Q0 rfl D x k
  refine h s _ rfl D x fun v a s1 n ok ⟨b, e, q⟩ => ?_
  subst e
  have ok : At K s1.G v (.bl b) := ok
  cases ok
  exact ⟨b, rfl, k _ (.dt (.bl (!b))) s1 n (At.bl (!b)) q⟩
/-- a slice's part that may be None -/
def tPartN (t : TE) : TO := fun σ H Q => t σ H fun x H1 => (x = .non ∧ Q none H1) ∨ ∃ i, x = .int i ∧ Q (some i) H1
theorem po_any {Y : Cx} {e : Expr} {te : TE} (h : PE Y e te) : PO Y (some e) (tPartN te) := by
  refine ⟨fun pins s σ H Q I hw => ?_⟩
  rw [evalPart_some]
  refine thn (h.run pins s σ H _ I hw) fun u s1 ⟨x, H1, I1, r1, q1⟩ => ?_
  rcases q1 with ⟨rfl, q⟩ | ⟨i, rfl, q⟩
  · cases (show u = Value.none from r1)
    exact ⟨none, H1, I1, .none, q⟩
  · obtain ⟨t, rfl⟩ := r1
    exact ⟨some i, H1, I1, .int i t, q⟩
def partU : U → Option (Option Int)
  | .non => some none
  | .int i => some (some i)
  | _ => none
theorem wo_any {t : TE} {Q : Option Int → Sls → Prop} (h : WE K W t ρ (fun a ρ1 => ∃ d o, a = .dt d ∧ partU d = some o ∧ Q o ρ1) X) : WO K W (tPartN t) ρ Q X := by
  rintro s Q0 rfl D x k
  refine h s _ rfl D x fun v a s1 n ok ⟨d, o, e, p, q⟩ => ?_
  subst e
  have ok : At K s1.G v d := ok
  cases ok with
  | non =>
    cases (show some none = some o from p)
    exact .inl ⟨rfl, k none s1 n q⟩
  | int i =>
    cases (show some (some i) = some o from p)
    exact .inr ⟨i, rfl, k (some i) s1 n q⟩
  | _ => cases p
/-- isinstance(x, c): x plain, or an error that is kept -/
def rIsG (K : PySem.W.Frag) : List V → Hp → VK → Prop := fun xs H Q => ∃ (x c : V) (t u : Value) (b : Bool), xs = [x, c] ∧ ClsV c u ∧
  (TyX K H x t ∨ ∃ (C a e : Addr) (fs : List (Str × V)), x = .ref a ∧ t = .ref C ∧ ExcC K C ∧ H a = some (ExK (.ref C) (some e) a) ∧ H e = some (.xd fs)) ∧ PySem.W.kitOne K t u = some b ∧ Q (.bl b) H
theorem call_isG {Y : Cx} : CallR Y (.builtin "isinstance") (rIsG Y.K) := by
  intro pins s σ H xs us Q I r h
  obtain ⟨x, c, t, u, b, rfl, k, ty, e, q⟩ := h
  rcases ty with ty | ⟨C, a, ed, fs, rfl, rfl, EC, ea, ee⟩
  · exact call_isi pins s σ H _ us Q I r ⟨x, c, t, u, b, rfl, k, ty, e, q⟩
  obtain ⟨u1, u2, rfl, r1, r2⟩ := vals2 r
  have e2 := k.eq r2
  subst e2
  obtain rfl : u1 = Value.ref a := r1
  obtain ⟨⟨ob, fl, g1, g2, g3⟩, _, _⟩ := I.hok a _ ea
  obtain ⟨mA, ns, rel⟩ := (I.hok ed _ ee : ObjOk Y.prog Y.w H s.heap ed (.xd fs))
  obtain ⟨od, ho, _⟩ := lookIn_ns ns
  have inst : PySem.W.InstAt s.heap a ob C (some od) := ⟨g1, g2.1, by unfold PySem.W.notCls; rw [g3] <;> rfl, by rw [g2.2]; exact ho⟩
  have hcl : (PySem.W.clsIn Y.K C).isSome = true := by
    obtain ⟨cd, hc, _⟩ := PySem.W.any_some EC.hd
    rw [hc]
    rfl
  exact PySem.W.kia_one (PySem.W.kitx_exc hcl EC.hg EC.hk EC.hs EC.ha EC.hn EC.ht EC.hm) I.kIn inst e (fun z => nomatch z) fun tk => ⟨.bl b, H, I.tok tk, rfl, q⟩
def clsU : U → Option Value
  | .ty n => some (.type n)
  | .raw a => some (.ref a)
  | _ => none
theorem wc_isG {a c : Av} {d dc : U} {u : Value} {b : Bool} {Q : Av → Sls → Prop} (ha : View ρ a d) (hc : c = .dt dc) (hu : clsU dc = some u) (p : plainU d = true ∨ ∃ C ns xs, d = .exo C ns xs ∧ ExcC K C) (e : PySem.W.kitOne K (tyU d) u = some b) (q : Q (.dt (.bl b)) ρ) : WC K W (rIsG K) [a, c] ρ Q X := by
  rintro s vs Q0 rfl D _ h k
  obtain ⟨v, w, rfl, h1, h2⟩ := avs_two h
  subst hc
  have h2 : At K s.G w dc := h2
  have cv : ClsV w u := by
    cases h2 <;> first | (cases hu; done) | skip
    · cases hu
      exact .ty _
    · cases hu
      exact .own _
  refine ⟨v, w, _, u, b, rfl, cv, ?_, e, k.dt D (.bl _) q⟩
  have hv := view_at D h1 ha
  rcases p with p | ⟨C, ns, xs, rfl, EC⟩
  · exact .inl (at_ty hv p)
  · cases hv with
    | exo hs he _ => exact .inr ⟨_, _, _, _, rfl, rfl, EC, hs, he⟩
/-- the field of a kept error -/
def lookU : List Str → List U → Str → Option U
  | n :: ns, d :: ds, f => if (f == n) = true then some d else lookU ns ds f
  | _, _, _ => none
theorem AtAll.lookU {G : Hp} : ∀ {fs : List (Str × V)} {ds : List U} {f : Str} {d : U}, AtAll K G (fs.map (·.2)) ds → Lw.lookU (fs.map (·.1)) ds f = some d → ∃ v, fs.lookup f = some v ∧ At K G v d
  | [], _, _, _, _, h => by cases h
  | (n, v) :: fs, _, f, d, .cons h t, e => by
    have e : (if (f == n) = true then some _ else Lw.lookU (fs.map (·.1)) _ f) = some d := e
    rw [List.lookup_cons]
    cases q : f == n with
    | true =>
      rw [q, if_pos rfl] at e
      cases e
      exact ⟨v, rfl, h⟩
    | false =>
      rw [q, if_neg Bool.false_ne_true] at e
      exact AtAll.lookU t e
theorem we_xfK {C : Addr} {f : Str} {te : TE} {Q : Av → Sls → Prop} (h : WE K W te ρ (fun a ρ1 => ∃ ns xs d, a = .dt (.exo C ns xs) ∧ lookU ns xs f = some d ∧ Q (.dt d) ρ1) X) : WE K W (tXfK C f te) ρ Q X := by
  rintro s Q0 rfl D x k
  refine h s _ rfl D x fun v a s1 n ok ⟨ns, xs, d, e, l, q⟩ => ?_
  subst e
  have ok : At K s1.G v (.exo C ns xs) := ok
  cases ok with
  | exo hs he ha =>
    obtain ⟨z, e1, e2⟩ := ha.lookU l
    exact ⟨_, _, _, z, rfl, n.den.sub _ _ hs, n.den.sub _ _ he, e1, k z (.dt d) s1 n e2 q⟩
end

local macro_rules | `(tactic| walk_at "lw list") => `(tactic| first | assumption | exact upd_same | (rw [upd_ne (by assumption)]; assumption))
local macro_rules | `(tactic| walk_at "lw c") => `(tactic| first
  | (show (_ : Int) ≠ 0; omega)
  | exact log_small (by omega) (by assumption)
  | exact Or.inl ⟨by omega, by omega⟩
  | exact Or.inr ⟨by omega, by omega⟩
  | exact ⟨by omega, by omega⟩
  | exact ⟨by omega, by omega, by omega⟩)
local macro_rules | `(tactic| walk_at "lw n") => `(tactic| first | exact Nat.zero_le _ | (refine Nat.le_of_lt (small1000 ?_); simp only [List.length_cons, List.length_nil]; decide))
local macro_rules | `(tactic| walk_at "lw v") => `(tactic| first
  | refine ⟨_, rfl, ?_⟩
  | refine ⟨_, _, rfl, rfl, ?_⟩
  | refine ⟨_, _, rfl, ?_⟩
  | refine .inl ⟨_, rfl, ?_⟩
  | refine ⟨⟨_, rfl⟩, ?_⟩
  | refine ⟨rfl, ?_⟩
  | (refine' ⟨_, _, _, _, rfl, rfl, SqL.of ?h, ?r, ?_⟩; (case h => walk_at "lw list"); (case r => rfl))
  | (refine' ⟨_, _, _, _, rfl, rfl, ?h, ?r, ?_⟩; (case h => walk_at "lw list"); (case r => rfl))
  | (refine' ⟨_, _, rfl, .inl ⟨_, SqL.of ?h, rfl⟩, ?_⟩; (case h => walk_at "lw list"))
  | (refine' ⟨_, _, rfl, .inl ⟨_, ?h, rfl⟩, ?_⟩; (case h => assumption))
  | (refine' ⟨_, _, rfl, .inr ⟨_, ?h, rfl⟩, ?_⟩; (case h => assumption))
  | (refine ⟨_, _, rfl, ⟨(by have := PySem.sizeLine_eq; omega), rfl⟩, ?_⟩)
  | (refine ⟨(by walk_at "lw c"), ?_⟩))
local macro_rules | `(tactic| walk_at "lw isi") => `(tactic| (refine' ⟨_, _, _, _, _, rfl, .ty _, ?ty, ?k, ?_⟩; (case ty => first | exact ty_int | exact ty_str | exact ty_non | exact ty_bl | exact ty_lst (by assumption) | exact ty_tup (by assumption) | exact ty_sqL (by assumption) | exact ty_sqT (by assumption)); (case k => first | (refine kit_of2 true ?_; decide +kernel) | (refine kit_of2 false ?_; decide +kernel))))
local macro_rules | `(tactic| walk_at "lw w") => `(tactic| first | walk_at "lw v" | walk_at "lw isi")

/-! ### own errors, defs with a star -/
/-- __init__ of an error with one field -/
def sp_init (f : Str) (C : Addr) : Sp := fun vs H Q _ => ∃ (a : Addr) (v : V), vs = [.ref a, v] ∧ H a = some (exo a C none) ∧ ∀ dx, H dx = none → dx ≠ a → Q .non (upd (upd H dx (exd dx [(f, v)])) a (exo a C (some dx)))
/-- an error is made: what its making asks -/
theorem mk_err {f : Str} {C : Addr} {v : V} {H1 : Hp} {Q : XK} (h : ∀ d, H1 d = none → Q (.ref C) (some d) (upd H1 d (.xd [(f, v)]))) :
    [v].length ≤ 1000 ∧ ∀ a, H1 a = none → sp_init f C (.ref a :: ([v] ++ [])) (upd H1 a (exo a C none))
      (fun u H2 => u = .non ∧ ∃ (d : Addr) (fs : List (Str × V)), H2 a = some (exo a C (some d)) ∧ H2 d = some (exd d fs) ∧ H1 d = none ∧ Q (.ref C) (some d) (upd (del H2 a) d (.xd fs))) (fun _ _ _ => False) := by
  refine ⟨(show 1 ≤ 1000 by decide), fun a na => ⟨a, v, rfl, upd_same, fun dx nd ne => ⟨rfl, dx, [(f, v)], upd_same, ?_, ?_, ?_⟩⟩⟩
  · rw [upd_ne ne]
    exact upd_same
  · rw [upd_ne ne] at nd
    exact nd
  · have e : upd (del (upd (upd (upd H1 a (exo a C none)) dx (exd dx [(f, v)])) a (exo a C (some dx))) a) dx (.xd [(f, v)]) = upd H1 dx (.xd [(f, v)]) := by
      funext q
      by_cases h1 : q = dx
      · rw [h1, upd_same, upd_same]
      · rw [upd_ne h1, upd_ne h1]
        by_cases h2 : q = a
        · rw [h2, del_same, na]
        · rw [del_ne h2, upd_ne h2, upd_ne h1, upd_ne h2]
    rw [e]
    rw [upd_ne ne] at nd
    exact h dx nd

/-! ### the draws -/
/-- the bag of draws at b: its last number is at most n -/
def Bag (H : Hp) (b : Addr) (n : Int) : Prop := ∃ x y z : Int, H b = some (.lst [.int x, .int y, .int z]) ∧ 0 ≤ x ∧ 0 ≤ y ∧ y ≤ 2000000000 ∧ 0 ≤ z ∧ z ≤ n
/-- all that was tracked stands as it stood, but what stands at b -/
def Keep (b : Addr) (H H' : Hp) : Prop := ∀ q o, q ≠ b → H q = some o → H' q = some o
theorem Keep.refl (b : Addr) (H : Hp) : Keep b H H := fun _ _ _ h => h
theorem Keep.trans {b : Addr} {H H1 H2 : Hp} (x : Keep b H H1) (y : Keep b H1 H2) : Keep b H H2 := fun q o n h => y q o n (x q o n h)
theorem Keep.upd (b : Addr) (H : Hp) (o : HO) : Keep b H (upd H b o) := fun q u n h => by rw [upd_ne n]; exact h
theorem Keep.new {b p : Addr} {H : Hp} {o : HO} (hp : H p = none) : Keep b H (L2.upd H p o) := fun q u _ h => by
  rw [upd_ne (ne_of_none h hp)]
  exact h
theorem Bag.new {b p : Addr} {H : Hp} {o : HO} {n : Int} (h : Bag H b n) (hp : H p = none) : Bag (L2.upd H p o) b n := by
  obtain ⟨x, y, z, e, r⟩ := h
  exact ⟨x, y, z, by rw [upd_ne (ne_of_none e hp)]; exact e, r⟩
theorem Bag.mono {b : Addr} {H : Hp} {n m : Int} (h : Bag H b n) (l : n ≤ m) : Bag H b m := by
  obtain ⟨x, y, z, e, r1, r2, r3, r4, r5⟩ := h
  exact ⟨x, y, z, e, r1, r2, r3, r4, by omega⟩
theorem Bag.ne {b p : Addr} {H : Hp} {n : Int} (h : Bag H b n) (hp : H p = none) : b ≠ p := by
  obtain ⟨x, y, z, e, _⟩ := h
  exact ne_of_none e hp
theorem same_new {H : Hp} {p : Addr} {o : HO} (h : H p = none) : Same H (upd H p o) := fun b x e => by
  rw [upd_ne (ne_of_none e h)]
  exact e

/-! ### any values -/
theorem op_mul_str {X : Cx} : OpR X (binaryOp .Mult) (fun x y H Q => ∃ z n, x = .str z ∧ y = .int n ∧ MulOk z n ∧ Q (.str (Txt.mul z n)) H) := by
  intro pins s σ H x y v u Q I rx ry h
  obtain ⟨i, j, rfl, rfl, hz, q⟩ := h
  obtain ⟨t, rfl⟩ := rx
  obtain ⟨t', rfl⟩ := ry
  exact PySem.SB.mul hz fun t' tk => ⟨.str _, H, I.tok _, ⟨_, rfl⟩, q⟩
/-- what was not tracked in H -/
def since (H H' : Hp) : Hp := fun q => match H q with | none => H' q | some _ => none
theorem since_some {H H' : Hp} {q : Addr} {o : HO} (h : since H H' q = some o) : H q = none ∧ H' q = some o := by
  unfold since at h
  cases e : H q with
  | none => rw [e] at h; exact ⟨rfl, h⟩
  | some _ => rw [e] at h; cases h
theorem since_of {H H' : Hp} {q : Addr} {o : HO} (h : H q = none) (h' : H' q = some o) : since H H' q = some o := by
  unfold since
  rw [h]
  exact h'
theorem since_same {H H' : Hp} : Same (since H H') H' := fun _ _ h => (since_some h).2
/-- every place that H tracks is tracked in H' -/
def Dom (H H' : Hp) : Prop := ∀ q o, H q = some o → ∃ o', H' q = some o'
theorem Dom.refl (H : Hp) : Dom H H := fun _ o h => ⟨o, h⟩
theorem Dom.trans {H H1 H2 : Hp} (x : Dom H H1) (y : Dom H1 H2) : Dom H H2 := fun q o h => by
  obtain ⟨o', h'⟩ := x q o h
  exact y q o' h'
theorem Same.dom {H H' : Hp} (s : Same H H') : Dom H H' := fun q o h => ⟨o, s q o h⟩
theorem Keep.dom {b : Addr} {H H' : Hp} (k : Keep b H H') (h : ∃ o, H' b = some o) : Dom H H' := fun q o e => by
  by_cases n : q = b
  · rw [n]; exact h
  · exact ⟨o, k q o n e⟩
theorem Dom.free {H H' : Hp} (d : Dom H H') {q : Addr} (h : H' q = none) : H q = none := by
  cases e : H q with
  | none => rfl
  | some o =>
    obtain ⟨o', e'⟩ := d q o e
    rw [h] at e'
    cases e'
theorem since_mono {H0 H H' H'' : Hp} {b : Addr} (d : Dom H0 H) (hb : ∃ o, H b = some o) (k : Keep b H' H'') : Same (since H H') (since H0 H'') := fun q o h => by
  obtain ⟨h1, h2⟩ := since_some h
  have n : q ≠ b := fun e => by
    obtain ⟨o', e'⟩ := hb
    rw [e, e'] at h1
    cases h1
  exact since_of (d.free h1) (k q o n h2)
theorem since_mono0 {H0 H H' H'' : Hp} (d : Dom H0 H) (k : Same H' H'') : Same (since H H') (since H0 H'') := fun q o h => by
  obtain ⟨h1, h2⟩ := since_some h
  exact since_of (d.free h1) (k q o h2)
theorem SqL.same {K : PySem.W.Frag} {H H' : Hp} {a : Addr} {xs : List V} (s : Same H H') (h : SqL K H a xs) : SqL K H' a xs := s.seq h
theorem SqT.same {K : PySem.W.Frag} {H H' : Hp} {a : Addr} {xs : List V} (s : Same H H') (h : SqT K H a xs) : SqT K H' a xs := by
  rcases h with (h | ⟨o, h⟩) | h
  · exact .inl (.inl (s _ _ h))
  · exact .inl (.inr ⟨o, s _ _ h⟩)
  · exact .inr h
mutual
theorem Dp.same {K : PySem.W.Frag} {H H' : Hp} (s : Same H H') : ∀ (d : PyData) (v : V), Dp K H v d → Dp K H' v d
  | .none, _, h => by cases h; exact .non
  | .bool _, _, h => by cases h; exact .bl _
  | .int _, _, h => by cases h; exact .int _
  | .str _, _, h => by cases h; exact .str _
  | .list ds, _, h => by
    cases h with
    | lst hs ha => exact .lst (SqL.same s hs) (DpAll.same s ds _ ha)
  | .tuple ds, _, h => by
    cases h with
    | tup hs ha => exact .tup (SqT.same s hs) (DpAll.same s ds _ ha)
  | .dict _, _, h => by cases h
theorem DpAll.same {K : PySem.W.Frag} {H H' : Hp} (s : Same H H') : ∀ (ds : List PyData) (vs : List V), DpAll K H vs ds → DpAll K H' vs ds
  | [], _, h => by cases h; exact .nil
  | d :: r, _, h => by
    cases h with
    | cons h1 h2 => exact .cons (Dp.same s d _ h1) (DpAll.same s r _ h2)
end
theorem DpAll.snoc {K : PySem.W.Frag} {H : Hp} : ∀ {vs : List V} {ds : List PyData} {v : V} {d : PyData}, DpAll K H vs ds → Dp K H v d → DpAll K H (vs ++ [v]) (ds ++ [d])
  | _, _, _, _, .nil, h => .cons h .nil
  | _, _, _, _, .cons a b, h => .cons a (DpAll.snoc b h)
theorem DpAll.length {K : PySem.W.Frag} {H : Hp} : ∀ {vs : List V} {ds : List PyData}, DpAll K H vs ds → vs.length = ds.length
  | _, _, .nil => rfl
  | _, _, .cons _ b => by rw [List.length_cons, List.length_cons, DpAll.length b]
theorem DpAll.append {K : PySem.W.Frag} {H : Hp} : ∀ {vs ws : List V} {ds es : List PyData}, DpAll K H vs ds → DpAll K H ws es → DpAll K H (vs ++ ws) (ds ++ es)
  | _, _, _, _, .nil, h => h
  | _, _, _, _, .cons a b, h => .cons a (DpAll.append b h)
theorem DpAll.get {K : PySem.W.Frag} {H : Hp} : ∀ {vs : List V} {ds : List PyData} {i : Nat} {v : V}, DpAll K H vs ds → vs[i]? = some v → ∃ d, ds[i]? = some d ∧ Dp K H v d
  | _, _, _, _, .nil, h => by simp at h
  | _, _, 0, _, .cons a _, h => by
    simp at h
    subst h
    exact ⟨_, rfl, a⟩
  | _, _, i + 1, _, .cons _ b, h => by
    obtain ⟨d, h1, h2⟩ := DpAll.get (i := i) b (by simpa using h)
    exact ⟨d, by simpa using h1, h2⟩
theorem DpAll.mem {K : PySem.W.Frag} {H : Hp} : ∀ {vs : List V} {ds : List PyData} {v : V}, DpAll K H vs ds → v ∈ vs → ∃ d, d ∈ ds ∧ Dp K H v d
  | _, _, _, .nil, h => by cases h
  | _, _, v, .cons a b, h => by
    rcases List.mem_cons.mp h with e | e
    · subst e
      exact ⟨_, List.mem_cons_self, a⟩
    · obtain ⟨d, h1, h2⟩ := DpAll.mem b e
      exact ⟨d, List.mem_cons_of_mem _ h1, h2⟩
mutual
/-- texts of at most a hundred thousand signs, lists of at most a thousand, no dict -/
def fine : PyData → Bool
  | .str z => decide (z.length ≤ 100000) && PyData.strOk z
  | .list ds => decide (ds.length ≤ 1000) && fineAll ds
  | .tuple ds => decide (ds.length ≤ 1000) && fineAll ds
  | .dict _ => false
  | .none => true
  | .bool _ => true
  | .int _ => true
def fineAll : List PyData → Bool
  | [] => true
  | d :: r => fine d && fineAll r
end
theorem fineAll_mem : ∀ {ds : List PyData} {d : PyData}, fineAll ds = true → d ∈ ds → fine d = true
  | [], _, _, h => by cases h
  | e :: r, d, h, m => by
    unfold fineAll at h
    rw [Bool.and_eq_true] at h
    rcases List.mem_cons.mp m with q | q
    · rw [q]; exact h.1
    · exact fineAll_mem h.2 q
theorem fineAll_snoc : ∀ {ds : List PyData} {d : PyData}, fineAll ds = true → fine d = true → fineAll (ds ++ [d]) = true
  | [], d, _, h => by show (fine d && true) = true; rw [h]; rfl
  | e :: r, d, h, m => by
    unfold fineAll at h
    rw [Bool.and_eq_true] at h
    show (fine e && fineAll (r ++ [d])) = true
    rw [h.1, fineAll_snoc h.2 m]
    rfl
theorem depthAll_snoc : ∀ {ds : List PyData} {d : PyData} {n : Nat}, PyData.depthAll ds ≤ n → PyData.depth d ≤ n → PyData.depthAll (ds ++ [d]) ≤ n
  | [], d, n, _, h => by
    show max (PyData.depth d) 0 ≤ n
    omega
  | e :: r, d, n, h, m => by
    have h' : max (PyData.depth e) (PyData.depthAll r) ≤ n := h
    have := depthAll_snoc (ds := r) (n := n) (by omega) m
    show max (PyData.depth e) (PyData.depthAll (r ++ [d])) ≤ n
    omega
mutual
theorem canLay_fine : ∀ (d : PyData), fine d = true → PyData.canLay0 d = true
  | .none, _ => rfl
  | .bool _, _ => rfl
  | .int _, _ => rfl
  | .str z, h => by
    unfold fine at h
    rw [Bool.and_eq_true] at h
    exact h.2
  | .list ds, h => by
    unfold fine at h
    rw [Bool.and_eq_true] at h
    exact canLayAll_fine ds h.2
  | .tuple ds, h => by
    unfold fine at h
    rw [Bool.and_eq_true] at h
    exact canLayAll_fine ds h.2
  | .dict _, h => by cases h
theorem canLayAll_fine : ∀ (ds : List PyData), fineAll ds = true → PyData.canLayAll0 ds = true
  | [], _ => rfl
  | d :: r, h => by
    unfold fineAll at h
    rw [Bool.and_eq_true] at h
    show (PyData.canLay0 d && PyData.canLayAll0 r) = true
    rw [canLay_fine d h.1, canLayAll_fine r h.2]
    rfl
end
theorem shaped_fine {d : PyData} (h : fine d = true) (hd : PyData.depth d ≤ 64) : SeqAt.shaped d = true := by
  unfold SeqAt.shaped
  rw [canLay_fine d h, decide_eq_true hd]
  rfl
theorem since_step {Hd H' H3 H4 : Hp} {D b : Addr} (d : Dom Hd H') (hb : ∃ o, Hd b = some o) (hD : ∃ o, Hd D = some o) (k : Keep b H' H3) (h4 : ∀ q, q ≠ D → H4 q = H3 q) : Same (since Hd H') (since Hd H4) ∧ Same (since H' H3) (since Hd H4) := by
  have nn : ∀ {q : Addr} {p : Addr}, Hd q = none → (∃ o, Hd p = some o) → q ≠ p := fun {q p} h1 h2 e => by
    obtain ⟨o, h2⟩ := h2
    rw [e, h2] at h1
    cases h1
  refine ⟨fun q o h => ?_, fun q o h => ?_⟩
  · obtain ⟨h1, h2⟩ := since_some h
    refine since_of h1 ?_
    rw [h4 q (nn h1 hD)]
    exact k q o (nn h1 hb) h2
  · obtain ⟨h1, h2⟩ := since_some h
    have h0 := d.free h1
    refine since_of h0 ?_
    rw [h4 q (nn h0 hD)]
    exact h2
theorem Dom.upd {H : Hp} {p : Addr} {o : HO} : Dom H (L2.upd H p o) := fun q u h => by
  by_cases n : q = p
  · subst n
    exact ⟨o, upd_same⟩
  · exact ⟨u, by rw [upd_ne n]; exact h⟩
theorem Bag.has {H : Hp} {b : Addr} {n : Int} (h : Bag H b n) : ∃ o, H b = some o := by
  obtain ⟨x, y, z, e, _⟩ := h
  exact ⟨_, e⟩
theorem Bag.upd {b D : Addr} {H : Hp} {o : HO} {n : Int} (h : Bag H b n) (nb : b ≠ D) : Bag (L2.upd H D o) b n := by
  obtain ⟨x, y, z, e, r⟩ := h
  exact ⟨x, y, z, by rw [upd_ne nb]; exact e, r⟩

/-! ### words -/
/-- a word: small letters, at most m -/
def IsWord (z : Str) (m : Nat) : Prop := z.length ≤ m ∧ z.cps.toList.all isLow = true
/-- texts joined, as lists of codes -/
def joinL (sep : List Nat) : List (List Nat) → List Nat
  | [] => []
  | [x] => x
  | x :: y :: r => x ++ sep ++ joinL sep (y :: r)
theorem str_join_list (sep : Str) : ∀ ys : List Str, (Str.join sep ys).cps.toList = joinL sep.cps.toList (ys.map fun y => y.cps.toList)
  | [] => rfl
  | [x] => rfl
  | x :: y :: r => by
    have ih := str_join_list sep (y :: r)
    show ((x.cps ++ sep.cps) ++ (Str.join sep (y :: r)).cps).toList = _
    rw [Array.toList_append, Array.toList_append, ih]
    rfl
theorem join_list (sep : Str) (ys : List Str) : (Txt.join sep ys).cps.toList = joinL sep.cps.toList (ys.map fun y => y.cps.toList) := by
  show (PySem.Builtin.Str.glued sep ys).cps.toList = _
  rw [StrLaws.glued_eq_join]
  exact str_join_list sep ys
theorem joinL_nil : ∀ ls : List (List Nat), joinL [] ls = ls.flatten
  | [] => rfl
  | [x] => by simp [joinL]
  | x :: y :: r => by
    show x ++ [] ++ joinL [] (y :: r) = _
    rw [joinL_nil (y :: r), List.append_nil]
    rfl

/-! ### words, names of classes, items, answers: what is said of a value -/
theorem up_in (c : Nat) : decide (c ∈ (Str.ofString "ABCDEFGHIJKLMNOPQRSTUVWXYZ").cps.toList) = isUp c := by
  have e : (Str.ofString "ABCDEFGHIJKLMNOPQRSTUVWXYZ").cps.toList = [65, 66, 67, 68, 69, 70, 71, 72, 73, 74, 75, 76, 77, 78, 79, 80, 81, 82, 83, 84, 85, 86, 87, 88, 89, 90] := by decide +kernel
  rw [e]
  unfold isUp
  refine decide_eq_decide.mpr ?_
  simp only [List.mem_cons, List.not_mem_nil, or_false]
  omega
theorem low_in (c : Nat) : decide (c ∈ (Str.ofString "abcdefghijklmnopqrstuvwxyz").cps.toList) = isLow c := by
  have e : (Str.ofString "abcdefghijklmnopqrstuvwxyz").cps.toList = [97, 98, 99, 100, 101, 102, 103, 104, 105, 106, 107, 108, 109, 110, 111, 112, 113, 114, 115, 116, 117, 118, 119, 120, 121, 122] := by decide +kernel
  rw [e]
  unfold isLow
  refine decide_eq_decide.mpr ?_
  simp only [List.mem_cons, List.not_mem_nil, or_false]
  omega
theorem lu_in (c : Nat) : decide (c ∈ (Str.ofString "abcdefghijklmnopqrstuvwxyz" ++ Str.ofString "ABCDEFGHIJKLMNOPQRSTUVWXYZ").cps.toList) = (isUp c || isLow c) := by
  have e : (Str.ofString "abcdefghijklmnopqrstuvwxyz" ++ Str.ofString "ABCDEFGHIJKLMNOPQRSTUVWXYZ").cps.toList = (Str.ofString "abcdefghijklmnopqrstuvwxyz").cps.toList ++ (Str.ofString "ABCDEFGHIJKLMNOPQRSTUVWXYZ").cps.toList := Array.toList_append
  rw [e, ← up_in, ← low_in, ← Bool.decide_or]
  refine decide_eq_decide.mpr ?_
  rw [List.mem_append, or_comm]
theorem ul_in (c : Nat) : decide (c ∈ (Str.ofString "ABCDEFGHIJKLMNOPQRSTUVWXYZ" ++ Str.ofString "abcdefghijklmnopqrstuvwxyz").cps.toList) = (isUp c || isLow c) := by
  have e : (Str.ofString "ABCDEFGHIJKLMNOPQRSTUVWXYZ" ++ Str.ofString "abcdefghijklmnopqrstuvwxyz").cps.toList = (Str.ofString "ABCDEFGHIJKLMNOPQRSTUVWXYZ").cps.toList ++ (Str.ofString "abcdefghijklmnopqrstuvwxyz").cps.toList := Array.toList_append
  rw [e, ← up_in, ← low_in, ← Bool.decide_or]
  refine decide_eq_decide.mpr ?_
  rw [List.mem_append]
def isIntD : PyData → Bool
  | .int _ => true
  | _ => false
def isWordZ (z : Str) (m : Nat) : Bool := decide (z.length ≤ m) && z.cps.toList.all isLow
def isWordD (m : Nat) : PyData → Bool
  | .str z => isWordZ z m
  | _ => false
def isItemD : PyData → Bool
  | .none => true
  | .int _ => true
  | .str z => isWordZ z 30
  | _ => false
def isClassL : List Nat → Bool
  | [] => false
  | c :: cs => decide (cs.length + 1 ≤ 12) && (isUp c && (c :: cs).all fun x => isUp x || isLow x)
theorem isClassL_cons (c : Nat) (cs : List Nat) : isClassL (c :: cs) = (decide (cs.length + 1 ≤ 12) && (isUp c && (c :: cs).all fun x => isUp x || isLow x)) := rfl
def isClassD : PyData → Bool
  | .str z => isClassL z.cps.toList
  | _ => false
def isRaisedD : List PyData → Bool
  | [w, k, c] => PyData.eqv w (.str (Str.ofString "raises")) && (isClassD k && (PyData.eqv c .none || isClassD c))
  | _ => false
def isRaisedT : PyData → Bool
  | .tuple ds => isRaisedD ds
  | _ => false
def isAnswerD : PyData → Bool
  | .list ds => ds.all isItemD
  | .tuple ds => isRaisedD ds
  | d => isItemD d
/-- a def that says yes or no of one value and leaves what was there -/
def sp_bool1 (K : PySem.W.Frag) (f : PyData → Bool) : Sp := fun vs H Q _ => ∃ (x : V) (d : PyData), vs = [x] ∧ Dp K H x d ∧ fine d = true ∧ PyData.depth d ≤ 60 ∧
  ∀ (r : Bool) (H' : Hp), r = f d → Same H H' → Q (.bl r) H'
/-- a text of at most a hundred thousand signs, or no text -/
def shortD : PyData → Bool
  | .str z => decide (z.length ≤ 100000)
  | _ => true
theorem short_fine {d : PyData} (h : fine d = true) : shortD d = true := by
  cases d with
  | str z =>
    unfold fine at h
    rw [Bool.and_eq_true] at h
    exact h.1
  | _ => rfl
def sp_word1 (K : PySem.W.Frag) : Sp := fun vs H Q _ => ∃ (x : V) (d : PyData) (m : Nat), vs = [x, .int m] ∧ Dp K H x d ∧ shortD d = true ∧
  ∀ (r : Bool) (H' : Hp), r = isWordD m d → Same H H' → Q (.bl r) H'
def sp_consists : Sp := fun vs H Q _ => ∃ (z cs : Str), vs = [.str z, .str cs] ∧ z.length ≤ 100000 ∧
  ∀ (r : Bool) (H' : Hp), r = (z.cps.toList.all fun c => decide (c ∈ cs.cps.toList)) → Same H H' → Q (.bl r) H'
theorem isItemD_eq (d : PyData) : isItemD d = (PyData.eqv d .none || (isIntD d || isWordD 30 d)) := by
  cases d <;> rfl
theorem non_eq {K : PySem.W.Frag} {H : Hp} {x : V} {d : PyData} (h : Dp K H x d) : decide (x = .non) = PyData.eqv d .none := by
  cases h <;> rfl
theorem fine_tup {ds : List PyData} (h : fine (.tuple ds) = true) : ds.length ≤ 1000 ∧ fineAll ds = true := by
  unfold fine at h
  rw [Bool.and_eq_true] at h
  exact ⟨of_decide_eq_true h.1, h.2⟩
theorem fine_lst {ds : List PyData} (h : fine (.list ds) = true) : ds.length ≤ 1000 ∧ fineAll ds = true := by
  unfold fine at h
  rw [Bool.and_eq_true] at h
  exact ⟨of_decide_eq_true h.1, h.2⟩
theorem depth_mem : ∀ {ds : List PyData} {d : PyData}, d ∈ ds → PyData.depth d ≤ PyData.depthAll ds
  | [], _, h => by cases h
  | e :: r, d, h => by
    show _ ≤ max (PyData.depth e) (PyData.depthAll r)
    rcases List.mem_cons.mp h with q | q
    · rw [q]
      omega
    · have := depth_mem q
      omega
theorem iteNT {c A B : Prop} [Decidable c] (hc : ¬ c) (h : A) : if (!decide c) = true then A else B := by
  rw [decide_eq_false hc]
  exact iteT h
theorem ifF {A B : Prop} {b : Bool} (e : b = false) (h : B) : if b = true then A else B := by
  rw [e]
  exact iteF h
theorem ifT {A B : Prop} {b : Bool} (e : b = true) (h : A) : if b = true then A else B := by
  rw [e]
  exact iteT h
theorem isAnswerD_eq {d : PyData} (h : ¬ ∃ ds, d = .list ds) : isAnswerD d = (isItemD d || isRaisedT d) := by
  cases d with
  | list ds => exact absurd ⟨ds, rfl⟩ h
  | tuple ds => rfl
  | none => rfl
  | bool b => rfl
  | int i => rfl
  | str z => show isWordZ z 30 = (isWordZ z 30 || false); rw [Bool.or_false]
  | dict k => rfl
theorem cut_up (c : Nat) : decide (c ∈ (cutS (Str.ofString "ABCDEFGHIJKLMNOPQRSTUVWXYZ" ++ Str.ofString "abcdefghijklmnopqrstuvwxyz") none (some 26)).cps.toList) = isUp c := by
  rw [show cutS (Str.ofString "ABCDEFGHIJKLMNOPQRSTUVWXYZ" ++ Str.ofString "abcdefghijklmnopqrstuvwxyz") none (some 26) = Str.ofString "ABCDEFGHIJKLMNOPQRSTUVWXYZ" by decide +kernel]
  exact up_in c

theorem len_list (x : Str) : x.cps.toList.length = x.length := Array.length_toList

section
variable {P : Program} {w : World} {K : PySem.W.Frag} {mg : Str → Option Value} {base : Heap}
theorem ok_consists_of (T : Txt K mg) : FnOk P w K mg base CX0 1 T.f_consists_of T.fd_consists_of ["text", "characters"] sp_consists := by
  refine T.F_consists_of.ok sc_consists_of (fun vs H Q E h => ?_) (fun cdv A outer s H vs Q E hr h => ?_)
  · obtain ⟨x, y, rfl, _⟩ := h
    rfl
  · obtain ⟨z, cs, rfl, hz, q⟩ := h
    refine ⟨_, (pss_one (ps_ret (pe_callB (cr_all rfl) (by rfl) T.m_all (by decide +kernel) (pa_cons (pe_lc (own := [("character", 2)]) (g := gName 2) rfl sc_consists_of.nd (pi_str (pv 0)) (blkOk_by (own := [("character", 2)]) (N := ["text", "characters", "character"]) (sc := defScope s_consists_of) (by decide +kernel)) (fun _ _ _ _ _ => pg_name (i := 2) sc_consists_of.nd rfl (.inl rfl)) (fun _ _ _ _ _ => pts_nil) (fun _ _ _ _ _ => (pe_cmpR op_in_sign (pv 2) (pv 1) (by rfl)))) pa_nil)))), ?_⟩
    repeat (walk_at "lw w")
    intro D nD
    refine lc_it (walk_str (z := z)) (fun i H' => H' D = some (.lst ((z.cps.toList.take i).map fun c => V.bl (decide (c ∈ cs.cps.toList)))) ∧ Same H H') ?_ ?_ ?_ ?_
    · exact ⟨upd_same, same_new nD⟩
    · intro i H' _ _
      trivial
    · rintro i x H1 H' hi ⟨eD, S⟩ ⟨rfl, c, hc, rfl⟩
      refine ⟨rfl, ?_⟩
      repeat (walk_at "lw w")
      refine ⟨_, eD, ?_, ?_, ?_⟩
      · rw [List.length_map, List.length_take]
        exact small5 (Nat.le_trans (Nat.min_le_right _ _) (by rw [Array.length_toList]; exact hz))
      · have hc' : z.cps.toList[i]? = some c := by rw [Array.getElem?_toList]; exact hc
        rw [upd_same, List.take_add_one, hc', List.map_append]
        rfl
      · intro q' o e
        rw [upd_ne (ne_of_none e nD)]
        exact S _ _ e
    · rintro H' ⟨eD, S⟩
      have el : z.cps.toList.take z.cps.size = z.cps.toList := List.take_of_length_le (by rw [Array.length_toList]; exact Nat.le_refl _)
      rw [el] at eD
      refine ⟨D, z.cps.toList.map fun c => decide (c ∈ cs.cps.toList), rfl, ?_, ?_⟩
      · rw [List.map_map]
        exact SqL.of eD
      · exact q _ H' (by rw [List.all_map]; rfl) S
end

section
variable {P : Program} {w : World} {K : PySem.W.Frag} {mg : Str → Option Value} {base : Heap}
theorem ok_is_class_name (T : Txt K mg) : FnOk P w K mg base CX0 2 T.f_is_class_name T.fd_is_class_name ["thing"] (sp_bool1 K isClassD) := by
  have G_consists_of := ok_consists_of (P := P) (w := w) (base := base) T
  refine T.F_is_class_name.ok sc_is_class_name (fun vs H Q E h => ?_) (fun cdv A outer s H vs Q E hr h => ?_)
  · obtain ⟨x, d, rfl, _⟩ := h
    rfl
  · obtain ⟨x, d, rfl, hd, hf, hp, q⟩ := h
    clear hp
    refine ⟨_, (pss_cons (ps_if (PW.pt (pw_or (pt_not (pt_val (pe_callB call_isi (by rfl) T.m_isinstance (by decide +kernel) (pa_cons (pv 0) (pa_cons (pe_bltn (v := .ty "str") (by rfl) T.m_str (by decide +kernel) rfl) pa_nil))))) (pw_or (pt_cmpR op_eq (pv 0) pe_str (nomark _)) (pw_or1 (pt_cmpR op_gt (pe_callB call_len (by rfl) T.m_len (by decide +kernel) (pa_cons (pv 0) pa_nil)) (pe_glob (v := .int 12) rfl T.c_MOST_CLASS_LETTERS.choose_spec ⟨_, rfl⟩) (nomark _)))))) (pss_one (ps_ret pe_bl)) pss_nil)
        (pss_one (ps_ret (pe_and (pe_cmpR op_in_sign (pe_ix ix_str (pv 0) pe_int (fun _ _ => rfl)) (pe_glob (v := .str "ABCDEFGHIJKLMNOPQRSTUVWXYZ") rfl T.c_CAPITAL_LETTERS.choose_spec ⟨_, rfl⟩) (by rfl)) (pe_one (pe_call G_consists_of hr (by rfl) T.g_consists_of T.F_consists_of.kp T.b_consists_of .nil pass0 (pa_cons (pv 0) (pa_cons (pe_op op_add_str (pe_glob (v := .str "abcdefghijklmnopqrstuvwxyz") rfl T.c_SMALL_LETTERS.choose_spec ⟨_, rfl⟩) (pe_glob (v := .str "ABCDEFGHIJKLMNOPQRSTUVWXYZ") rfl T.c_CAPITAL_LETTERS.choose_spec ⟨_, rfl⟩)) pa_nil)))))))), ?_⟩
    cases hd
    case str z =>
      have hz : z.length ≤ 100000 := by
        unfold fine at hf
        rw [Bool.and_eq_true] at hf
        exact of_decide_eq_true hf.1
      repeat (walk_at "lw w")
      refine ite2 (fun e => ?_) (fun e => ?_)
      · repeat (walk_at "lw w")
        refine q _ _ ?_ (Same.refl _)
        have e1 : z = Str.ofString "" := V.str.inj (of_decide_eq_true e)
        rw [e1]
        decide +kernel
      · obtain ⟨c, cs, ez⟩ : ∃ c cs, z.cps.toList = c :: cs := by
          cases ez : z.cps.toList with
          | nil =>
            refine absurd (decide_eq_true (congrArg V.str ?_)) e
            have : z.cps = #[] := Array.toList_inj.mp ez
            show z = ⟨#[]⟩
            rw [← this]
          | cons c cs => exact ⟨c, cs, rfl⟩
        have el : z.length = cs.length + 1 := by
          show z.cps.size = _
          rw [← Array.length_toList, ez, List.length_cons]
        repeat (walk_at "lw w")
        refine ite2 (fun e2 => ?_) (fun e2 => ?_)
        · repeat (walk_at "lw w")
          refine q _ _ ?_ (Same.refl _)
          have e3 : (12 : Int) < ((z.length : Nat) : Int) := of_decide_eq_true e2
          show _ = isClassL z.cps.toList
          rw [ez]
          rw [isClassL_cons]
          rw [decide_eq_false (show ¬ cs.length + 1 ≤ 12 by omega)]
          rfl
        · have e3 : ¬ (12 : Int) < ((z.length : Nat) : Int) := fun h => e2 (decide_eq_true h)
          repeat (walk_at "lw w")
          refine ⟨z, 0, c, rfl, rfl, by have := PySem.sizeLine_eq; omega, by rw [ez]; exact atI_nat (j := 0) rfl, ?_⟩
          repeat (walk_at "lw w")
          have fin : ∀ r : Bool, r = (isUp c && (c :: cs).all fun x => isUp x || isLow x) → r = isClassD (.str z) := by
            intro r er
            show _ = isClassL z.cps.toList
            rw [ez]
            rw [isClassL_cons]
            rw [decide_eq_true (show cs.length + 1 ≤ 12 by omega), Bool.true_and]
            exact er
          refine ite2 (fun e4 => ?_) (fun e4 => ?_)
          · rw [up_in] at e4
            repeat (walk_at "lw w")
            refine ⟨by decide +kernel, ?_⟩
            repeat (walk_at "lw w")
            refine ⟨hz, fun r H' er S => q r H' (fin _ ?_) S⟩
            rw [er, e4, Bool.true_and, ez]
            congr 1
            funext x
            exact lu_in x
          · rw [up_in] at e4
            refine q _ _ (fin _ ?_) (Same.refl _)
            rw [show isUp c = false by simpa using e4]
            rfl
    all_goals (repeat (walk_at "lw w")) <;> exact q _ _ rfl (Same.refl _)
end

/-! ### families: the names with what stands above each -/
def S (x : String) : Str := Str.ofString x
def first4 : List (Str × V) := [(Str.ofString "Error", .non), (Str.ofString "Failed", .str (Str.ofString "Error")), (Str.ofString "Misuse", .str (Str.ofString "Error")), (Str.ofString "Beyond", .str (Str.ofString "Misuse"))]
def parV : V → V
  | .non => .str (Str.ofString "Error")
  | v => v
/-- the entries' classes, each with the one above it -/
def famOf (ps : List (Str × V)) : List (Str × V) := first4 ++ ps.map fun q => (q.1, parV q.2)
def kvOf (l : List (Str × V)) : List (Key × V) := l.map fun p => (.inr p.1, p.2)
def namesOf (ps : List (Str × V)) : List Str := (famOf ps).map (·.1)
/-- each entry can stand behind those ahead of it -/
def FamOk (ps : List (Str × V)) : Prop := ps.length ≤ 45 ∧ ∀ (i : Nat) (nm : Str) (v : V), ps[i]? = some (nm, v) → isClassL nm.cps.toList = true ∧ nm.length ≤ 12 ∧ PyData.strOk nm = true ∧ nm ∉ namesOf (ps.take i) ∧ (v = .non ∨ ∃ q, v = .str q ∧ q ∈ namesOf (ps.take i))
/-- the values are new pairs of these entries -/
def PairsAt (K : PySem.W.Frag) (H : Hp) (xs : List V) (ps : List (Str × V)) : Prop := Paired (fun (x : V) (q : Str × V) => ∃ p : Addr, x = .ref p ∧ SqT K H p [.str q.1, q.2]) xs ps
theorem valV_kvOf (nm : Str) : ∀ l : List (Str × V), valV (kvOf l) (.inr nm) = (l.find? fun p => decide (p.1 = nm)).map (·.2)
  | [] => rfl
  | p :: r => by
    show valV ((.inr p.1, p.2) :: kvOf r) (.inr nm) = _
    by_cases h : p.1 = nm
    · rw [valV_pos (show (Sum.inr p.1 : Key) = .inr nm by rw [h]), List.find?_cons, decide_eq_true h]
      rfl
    · rw [valV_neg (fun e => h (Sum.inr.inj e)), List.find?_cons, decide_eq_false h]
      exact valV_kvOf nm r
theorem valV_none {nm : Str} {l : List (Str × V)} (h : nm ∉ l.map (·.1)) : valV (kvOf l) (.inr nm) = none := by
  rw [valV_kvOf]
  have : (l.find? fun p => decide (p.1 = nm)) = none := List.find?_eq_none.mpr fun p hp e => h (List.mem_map.mpr ⟨p, hp, of_decide_eq_true e⟩)
  rw [this]
  rfl
theorem valV_some {nm : Str} {l : List (Str × V)} (h : nm ∈ l.map (·.1)) : ∃ v, valV (kvOf l) (.inr nm) = some v := by
  rw [valV_kvOf]
  cases e : (l.find? fun p => decide (p.1 = nm)) with
  | some p => exact ⟨p.2, rfl⟩
  | none =>
    obtain ⟨p, hp, e2⟩ := List.mem_map.mp h
    exact absurd (decide_eq_true e2) (List.find?_eq_none.mp e p hp)
theorem famOf_take {ps : List (Str × V)} {i : Nat} {q : Str × V} (h : ps[i]? = some q) : famOf (ps.take (i + 1)) = famOf (ps.take i) ++ [(q.1, parV q.2)] := by
  unfold famOf
  rw [List.take_add_one, h, List.map_append, ← List.append_assoc]
  rfl
theorem kvOf_snoc (l : List (Str × V)) (nm : Str) (v : V) : kvOf (l ++ [(nm, v)]) = kvOf l ++ [(.inr nm, v)] := List.map_append ..
theorem famOf_len (ps : List (Str × V)) : (famOf ps).length = 4 + ps.length := by
  unfold famOf
  rw [List.length_append, List.length_map]
  rfl
theorem PairsAt.same {K : PySem.W.Frag} {H H' : Hp} {xs : List V} {ps : List (Str × V)} (h : PairsAt K H xs ps) (s : Same H H') : PairsAt K H' xs ps := by
  unfold PairsAt at *
  induction h with
  | nil => exact .nil
  | cons a _ ih =>
    obtain ⟨p, e, hp⟩ := a
    exact .cons ⟨p, e, SqT.same s hp⟩ ih
theorem PairsAt.get {K : PySem.W.Frag} {H : Hp} : ∀ {xs : List V} {ps : List (Str × V)} {i : Nat} {x : V}, PairsAt K H xs ps → xs[i]? = some x → ∃ q p, ps[i]? = some q ∧ x = .ref p ∧ SqT K H p [.str q.1, q.2]
  | _, _, _, _, .nil, h => by cases h
  | _, _, 0, _, .cons a _, h => by
    obtain ⟨p, e, hp⟩ := a
    have h : _ = _ := Option.some.inj h
    exact ⟨_, p, rfl, h.symm.trans e, hp⟩
  | _, _, i + 1, _, .cons _ b, h => PairsAt.get (i := i) b h
theorem PairsAt.len {K : PySem.W.Frag} {H : Hp} {xs : List V} {ps : List (Str × V)} (h : PairsAt K H xs ps) : xs.length = ps.length := by
  unfold PairsAt at h
  induction h with
  | nil => rfl
  | cons _ _ ih => rw [List.length_cons, List.length_cons, ih]
/-- a family object at a -/
def FamAt (C : Addr) (H : Hp) (a : Addr) (l : List (Str × V)) : Prop := ∃ (dx d t : Addr) (ts : List Addr), H a = some (.ins C dx [(Str.ofString "_above", .ref d), (Str.ofString "declared", .ref t)]) ∧ H d = some (.dK (kvOf l)) ∧ H t = some (.tup (ts.map V.ref)) ∧
  Paired (fun (t : Addr) (q : Str × V) => H t = some (.tup [.str q.1, q.2])) ts (l.drop 4)
theorem pairs_same {H H' : Hp} {ts : List Addr} {l : List (Str × V)} (s : Same H H') (h : Paired (fun (t : Addr) (q : Str × V) => H t = some (.tup [.str q.1, q.2])) ts l) : Paired (fun (t : Addr) (q : Str × V) => H' t = some (.tup [.str q.1, q.2])) ts l := by
  induction h with
  | nil => exact .nil
  | cons a _ ih => exact .cons (s _ _ a) ih
theorem FamAt.same {C : Addr} {H H' : Hp} {a : Addr} {l : List (Str × V)} (h : FamAt C H a l) (s : Same H H') : FamAt C H' a l := by
  obtain ⟨dx, d, t, ts, h1, h2, h3, h4⟩ := h
  exact ⟨dx, d, t, ts, s _ _ h1, s _ _ h2, s _ _ h3, pairs_same s h4⟩
theorem pairs_drop {H : Hp} : ∀ {l : List (Str × V)} {ts : List Addr} (n : Nat), Paired (fun (t : Addr) (q : Key × V) => H t = some (.tup [kV q.1, q.2])) ts (kvOf l) → Paired (fun (t : Addr) (q : Str × V) => H t = some (.tup [.str q.1, q.2])) (ts.drop n) (l.drop n)
  | [], ts, n, h => by
    cases h
    rw [List.drop_nil, List.drop_nil]
    exact .nil
  | p :: r, ts, n, h => by
    have h : Paired (fun (t : Addr) (q : Key × V) => H t = some (.tup [kV q.1, q.2])) ts ((.inr p.1, p.2) :: kvOf r) := h
    cases h with
    | cons a b =>
      cases n with
      | zero => exact .cons a (pairs_drop 0 b)
      | succ n => exact pairs_drop n b
theorem pairs_len {H : Hp} {l : List (Str × V)} {ts : List Addr} (h : Paired (fun (t : Addr) (q : Key × V) => H t = some (.tup [kV q.1, q.2])) ts (kvOf l)) : ts.length = l.length := by
  have e : ts.length = (kvOf l).length := by
    revert h
    generalize kvOf l = m
    intro h
    induction h with
    | nil => rfl
    | cons _ _ ih => rw [List.length_cons, List.length_cons, ih]
  rw [e, kvOf, List.length_map]
theorem cut4 {xs : List V} (h : 4 ≤ xs.length) : cutV xs (some 4) none = xs.drop 4 := by
  have e1 : HT.sIx xs.length 0 (some 4) = 4 := by
    unfold HT.sIx
    simp
    omega
  have e2 : HT.sIx xs.length xs.length none = xs.length := rfl
  unfold cutV
  rw [e1, e2]
  exact List.take_of_length_le (by rw [List.length_drop]; exact Nat.le_refl _)

theorem keep_same {b : Addr} {H H1 H2 : Hp} (s : Same H H1) (nb : H b = none) (k : Keep b H1 H2) : Same H H2 := fun q o e => k q o (ne_of_none e nb) (s q o e)
theorem kit2 {K : PySem.W.Frag} {a c1 c2 : String} {r1 r2 : Bool} (h1 : kitB a c1 = some r1) (h2 : kitB a c2 = some r2) : PySem.W.kitAny K (.type a) [.type c1, .type c2] = some (r1 || r2) := by
  refine kitAny_cons (kit_ty h1) (fun e => ?_) (fun e => by rw [e]; rfl)
  rw [e, Bool.false_or]
  exact kitAny_cons (kit_ty h2) (fun e => by rw [e]; exact kitAny_nil) (fun e => e)
def spLaw (K : PySem.W.Frag) : Sp := fun vs H Q _ => ∃ (a : Addr) (ns : List Int), vs = [.ref a] ∧ SqL K H a (ns.map V.int) ∧ ns.length ≤ 63 ∧ (∀ z ∈ ns, Builtin.Int.intBits z ≤ 1048576) ∧ ∀ H', Q (.bl true) H'

/-- whether a value declares one more class behind these -/
def cbd (d : PyData) (ns : List Str) : Bool := match d with
  | .tuple [.str z, p] => isClassL z.cps.toList && (!decide (z ∈ ns) && (match p with | .none => true | .str q => decide (q ∈ ns) | _ => false))
  | _ => false
theorem valV_isSome (z : Str) (l : List (Str × V)) : (valV (kvOf l) (.inr z)).isSome = decide (z ∈ l.map (·.1)) := by
  by_cases hm : z ∈ l.map (·.1)
  · obtain ⟨y, hy⟩ := valV_some hm
    rw [hy, decide_eq_true hm]
    rfl
  · rw [valV_none hm, decide_eq_false hm]
    rfl
def sp_cbdD (K : PySem.W.Frag) : Sp := fun vs H Q _ => ∃ (x : V) (d : PyData) (dd : Addr) (l : List (Str × V)), vs = [x, .ref dd] ∧ Dp K H x d ∧ fine d = true ∧ PyData.depth d ≤ 60 ∧ H dd = some (.dK (kvOf l)) ∧ ∀ H' : Hp, Same H H' → Q (.bl (cbd d (l.map (·.1)))) H'
section
variable {P : Program} {w : World} {K : PySem.W.Frag} {mg : Str → Option Value} {base : Heap}
theorem ok_cbd (T : Txt K mg) : FnOk P w K mg base CX0 3 T.f_can_be_declared T.fd_can_be_declared ["pair", "above"] (sp_cbdD K) := by
  have G_is_class_name := ok_is_class_name (P := P) (w := w) (base := base) T
  refine T.F_can_be_declared.ok sc_can_be_declared (fun vs H Q E h => ?_) (fun cdv A outer s H vs Q E hr h => ?_)
  · obtain ⟨x, d, dd, l, rfl, _⟩ := h
    rfl
  · obtain ⟨x, d, dd, l, rfl, hx, hf, hdp, hdd, q⟩ := h
    refine ⟨_, (pss_cons (ps_if (PW.pt (pw_or (pt_not (pt_val (pe_callB call_isi (by rfl) T.m_isinstance (by decide +kernel) (pa_cons (pv 0) (pa_cons (pe_bltn (v := .ty "tuple") (by rfl) T.m_tuple (by decide +kernel) rfl) pa_nil))))) (pw_or1 (pt_cmpR op_ne (pe_callB call_len (by rfl) T.m_len (by decide +kernel) (pa_cons (pv 0) pa_nil)) pe_int (nomark _))))) (pss_one (ps_ret pe_bl)) pss_nil)
        (pss_cons (ps_asg (pv 0) (pg_tup rfl (pgs_cons (pg_name (i := 2) sc_can_be_declared.nd rfl (.inl rfl)) (pgs_cons (pg_name (i := 3) sc_can_be_declared.nd rfl (.inl rfl)) pgs_nil))))
        (pss_cons (ps_if (PW.pt (pw_or (pt_not (pt_val (pe_call G_is_class_name hr (by rfl) T.g_is_class_name T.F_is_class_name.kp T.b_is_class_name .nil pass0 (pa_cons (pv 2) pa_nil)))) (pw_or1 (pt_cmp (pc_din (hu_of hr) (pv 2) (pv 1)))))) (pss_one (ps_ret pe_bl)) pss_nil)
        (pss_one (ps_ret (pe_or (pe_cmpR op_isN (pv 3) pe_non (nomark _)) (pe_one (pe_and (pe_callB call_isi (by rfl) T.m_isinstance (by decide +kernel) (pa_cons (pv 3) (pa_cons (pe_bltn (v := .ty "str") (by rfl) T.m_str (by decide +kernel) rfl) pa_nil))) (pe_one (pe_cmp (pc_din (hu_of hr) (pv 3) (pv 1)))))))))))), ?_⟩
    cases hx
    case tup a xs ds hs ha =>
      repeat (walk_at "lw w")
      cases ha with
      | nil =>
        refine ifT rfl ?_
        repeat (walk_at "lw w")
        exact q _ (Same.refl _)
      | @cons x xs d1 ds h1 ha =>
        cases ha with
        | nil =>
          refine ifT rfl ?_
          repeat (walk_at "lw w")
          cases d1 <;> exact q _ (Same.refl _)
        | @cons y xs d2 ds h2 ha =>
          cases ha with
          | @cons y3 xs d3 ds h3 ha =>
            have ne : ¬ (V.int (((x :: y :: y3 :: xs).length : Nat) : Int) = V.int 2) := fun h => by
              have h := V.int.inj h
              simp only [List.length_cons] at h
              omega
            refine ifT (by rw [decide_eq_false ne]; rfl) ?_
            repeat (walk_at "lw w")
            cases d1 <;> exact q _ (Same.refl _)
          | nil =>
            refine ifF rfl ?_
            repeat (walk_at "lw w")
            refine ⟨a, _, rfl, hs, rfl, ?_⟩
            repeat (walk_at "lw w")
            have f1 : fine d1 = true := by
              simp only [fine, fineAll, Bool.and_eq_true] at hf
              exact hf.2.1
            have p1 : PyData.depth d1 ≤ 60 := by
              have e : PyData.depth d1 ≤ PyData.depth (.tuple [d1, d2]) := by
                show PyData.depth d1 ≤ max (PyData.depth d1) (PyData.depthAll [d2]) + 1
                omega
              omega
            refine ⟨x, d1, rfl, h1, f1, p1, fun r1 H1 e1 S1 => ?_⟩
            have hdd := S1 _ _ hdd
            cases r1 with
            | false =>
              refine ⟨_, rfl, ifT rfl ?_⟩
              have e : cbd (.tuple [d1, d2]) (l.map (·.1)) = false := by
                cases d1 <;> first | rfl | (show (isClassL _ && _) = false; rw [show isClassL _ = false from e1.symm]; rfl)
              rw [← e] 
              exact q _ S1
            | true =>
              refine ⟨_, rfl, ifF rfl ?_⟩
              cases h1 with
              | str z =>
                repeat (walk_at "lw w")
                refine ⟨dd, _, rfl, DGet.k (k := .inr z) hdd, ?_⟩
                rw [valV_isSome]
                have e0 : isClassL z.cps.toList = true := e1.symm
                by_cases hm : z ∈ l.map (·.1)
                · rw [decide_eq_true hm]
                  refine ⟨_, rfl, ifT rfl ?_⟩
                  have e : cbd (.tuple [.str z, d2]) (l.map (·.1)) = false := by
                    show (isClassL z.cps.toList && (!decide (z ∈ l.map (·.1)) && _)) = false
                    rw [decide_eq_true hm, e0]
                    rfl
                  rw [← e]
                  exact q _ S1
                · rw [decide_eq_false hm]
                  refine ⟨_, rfl, ifF rfl ?_⟩
                  have e : cbd (.tuple [.str z, d2]) (l.map (·.1)) = (match (generalizing := false) d2 with | .none => true | .str q => decide (q ∈ l.map (·.1)) | _ => false) := by
                    show (isClassL z.cps.toList && (!decide (z ∈ l.map (·.1)) && _)) = _
                    rw [decide_eq_false hm, e0]
                    rfl
                  rw [e] at q
                  cases h2 with
                  | str qz =>
                    repeat (walk_at "lw w")
                    refine ⟨dd, _, rfl, DGet.k (k := .inr qz) hdd, ?_⟩
                    rw [valV_isSome]
                    exact q _ S1
                  | lst hs2 _ =>
                    repeat (walk_at "lw w")
                    refine ⟨_, _, _, _, false, rfl, .ty _, ty_sqL (S1.seq hs2), kit_of2 false (by decide +kernel), ?_⟩
                    first | exact q _ S1 | exact ⟨_, rfl, ifF rfl (q _ S1)⟩
                  | tup hs2 _ =>
                    repeat (walk_at "lw w")
                    refine ⟨_, _, _, _, false, rfl, .ty _, ty_sqT (SqT.same S1 hs2), kit_of2 false (by decide +kernel), ?_⟩
                    first | exact q _ S1 | exact ⟨_, rfl, ifF rfl (q _ S1)⟩
                  | _ =>
                    (repeat (walk_at "lw w")) <;> exact q _ S1
              | _ => cases e1
    all_goals (repeat (walk_at "lw w")) <;> exact q _ (Same.refl _)
end

theorem merge4 : mergeK [] (kvOf first4) = kvOf first4 := by decide +kernel
/-- the entry that a value stands for -/
def entD : PyData → Str × V
  | .tuple [.str z, .str q] => (z, .str q)
  | .tuple [.str z, _] => (z, .non)
  | _ => (⟨#[]⟩, .non)
/-- the first entries can stand, one behind the other -/
def Stand (ds : List PyData) (i : Nat) : Prop := ∀ j < i, ∃ d, ds[j]? = some d ∧ cbd d (namesOf ((ds.take j).map entD)) = true
theorem cbd_shape {d : PyData} {ns : List Str} (h : cbd d ns = true) : ∃ z p, d = .tuple [.str z, p] ∧ isClassL z.cps.toList = true ∧ z ∉ ns ∧ ((p = .none ∧ entD d = (z, .non)) ∨ ∃ q, p = .str q ∧ q ∈ ns ∧ entD d = (z, .str q)) := by
  unfold cbd at h
  split at h
  · rename_i z p
    rw [Bool.and_eq_true, Bool.and_eq_true] at h
    obtain ⟨h1, h2, h3⟩ := h
    refine ⟨z, p, rfl, h1, by simpa using h2, ?_⟩
    cases p with
    | none => exact .inl ⟨rfl, rfl⟩
    | str q => exact .inr ⟨q, rfl, of_decide_eq_true h3, rfl⟩
    | _ => cases h3
  · cases h
theorem famOf_snoc (l : List (Str × V)) (z : Str) (v : V) : famOf (l ++ [(z, v)]) = famOf l ++ [(z, parV v)] := by
  unfold famOf
  rw [List.map_append, ← List.append_assoc]
  rfl
theorem fresh_of {H H' : Hp} {e : Addr} (s : Same H H') (n : H' e = none) : H e = none := by
  cases q : H e with
  | none => rfl
  | some o =>
    rw [s _ _ q] at n
    cases n
/-- the items of a list or tuple -/
def seqD : PyData → Option (List PyData)
  | .list ds => some ds
  | .tuple ds => some ds
  | _ => none
/-- a new family: what it holds is new, too -/
def FamNew (C : Addr) (H H' : Hp) (a : Addr) (l : List (Str × V)) : Prop := ∃ (dx d tp : Addr) (ts : List Addr), H' a = some (.ins C dx [(Str.ofString "_above", .ref d), (Str.ofString "declared", .ref tp)]) ∧ H' d = some (.dK (kvOf l)) ∧ H' tp = some (.tup (ts.map .ref)) ∧
  Paired (fun (t : Addr) (q : Str × V) => H' t = some (.tup [.str q.1, q.2])) ts (l.drop 4) ∧ H d = none ∧ H tp = none ∧ ∀ t ∈ ts, H t = none
def sp_finitD (K : PySem.W.Frag) (C CB : Addr) : Sp := fun vs H Q E => ∃ (a dx : Addr) (v : V) (pd : PyData), vs = [.ref a, v] ∧ H a = some (.ins C dx []) ∧ Dp K H v pd ∧ fine pd = true ∧ PyData.depth pd ≤ 60 ∧
  (∀ ds, seqD pd = some ds → ds.length ≤ 45 ∧
    (∀ (i : Nat) (d : PyData) (e : Addr) (H' : Hp), Stand ds i → ds[i]? = some d → cbd d (namesOf ((ds.take i).map entD)) = false → H e = none → H' e = some (.xd [("at", .int i)]) → Same H H' → E (.ref CB) (some e) H') ∧
    (∀ H' : Hp, Stand ds ds.length → FamNew C H H' a (famOf (ds.map entD)) → Keep a H H' → Q .non H')) ∧
  (seqD pd = none → ∀ (e : Addr) (H' : Hp), H e = none → H' e = some (.xd [("at", .int (-1))]) → Same H H' → E (.ref CB) (some e) H')
set_option hygiene false in
local macro_rules | `(tactic| walk_at "loop02") => `(tactic| (
  refine for_it W (fun i σ H' => Stand ds i ∧ H' d = some (.dK (kvOf (famOf ((ds.take i).map entD)))) ∧ Keep d H2 H' ∧ ∃ t1 t2 t3 t4 : Option V, σ = [some (.ref a), some (.ref pl), some (.ref d), t1, t2, t3, t4]) ?_ ?_ ?_ ?_
  · exact ⟨fun j hj => absurd hj (Nat.not_lt_zero j), ed, Keep.refl _ _, none, none, none, none, rfl⟩
  · rintro i σ H' _ ⟨_, _, hK, _⟩
    exact GD (keep_same S1 nd0 hK)
  · rintro i x σ H3 H4 hi ⟨hst, eD, hK, t1, t2, t3, t4, rfl⟩ ⟨T2, y1, y2, rfl, nT, rfl, ey1, ey2⟩
    have ey1 : V.int (i : Nat) = y1 := by injection ey1
    subst ey1
    have nTd : d ≠ T2 := ne_of_none eD nT
    have hK2 : Keep d H2 (upd H3 T2 (.tup [.int (i : Nat), y2])) := hK.trans (Keep.new nT)
    have eD2 := same_new (o := .tup [.int (i : Nat), y2]) nT _ _ eD
    have eT : upd H3 T2 (.tup [.int (i : Nat), y2]) T2 = some (.tup [.int (i : Nat), y2]) := upd_same
    generalize upd H3 T2 (.tup [.int (i : Nat), y2]) = H4 at *
    have S4 := keep_same S1 nd0 hK2
    obtain ⟨dd, edd, hdd⟩ := DpAll.get hall ey2
    have hm := List.mem_of_getElem? edd
    refine ⟨T2, _, rfl, SqT.of eT, rfl, ?_⟩
    repeat (walk_at "lw w")
    refine ⟨y2, dd, d, famOf ((ds.take i).map entD), rfl, Dp.same S4 _ _ hdd, fineAll_mem hfa hm, Nat.le_trans (depth_mem hm) hdep, eD2, fun H5 S5 => ?_⟩
    have eD5 := S5 _ _ eD2
    have K5 : Keep d H2 H5 := fun q o n e => S5 _ _ (hK2 q o n e)
    cases ec : cbd dd (namesOf ((ds.take i).map entD)) with
    | false =>
      rw [show cbd dd ((famOf ((ds.take i).map entD)).map (·.1)) = false from ec]
      refine ⟨_, rfl, ifT rfl ?_⟩
      repeat (walk_at "lw w")
      refine mk_err fun dx nd => ?_
      exact qe i dd dx _ hst edd ec (fresh_of (keep_same S1 nd0 K5) nd) upd_same fun q o e => same_new nd _ _ (keep_same S1 nd0 K5 _ _ e)
    | true =>
      rw [show cbd dd ((famOf ((ds.take i).map entD)).map (·.1)) = true from ec]
      refine ⟨_, rfl, ifF rfl ?_⟩
      have hst2 : Stand ds (i + 1) := fun j hj => by
        by_cases h : j < i
        · exact hst j h
        · have h : j = i := by omega
          rw [h]
          exact ⟨_, edd, ec⟩
      have hlt : (kvOf (famOf ((ds.take i).map entD))).length < sizeLine := by
        refine small1000 ?_
        rw [kvOf, List.length_map, famOf_len, List.length_map, List.length_take]
        omega
      obtain ⟨z, p, rfl, c1, c2, c3⟩ := cbd_shape ec
      cases hdd with
      | tup hs ht =>
        cases ht with
        | cons h1 ht =>
          cases ht with
          | cons h2 ht =>
            cases ht
            cases h1
            have fin : ∀ v : V, entD (.tuple [.str z, p]) = (z, v) → ∀ y : V, y = parV v → upd H5 d (.dK (putK (kvOf (famOf ((ds.take i).map entD))) (.inr z) y)) d = some (.dK (kvOf (famOf ((ds.take (i + 1)).map entD)))) ∧ Keep d H2 (upd H5 d (.dK (putK (kvOf (famOf ((ds.take i).map entD))) (.inr z) y))) := fun v ev y hy => by
              refine ⟨?_, fun q o n e => by rw [upd_ne n]; exact K5 q o n e⟩
              rw [upd_same, putK_new _ (valV_none c2), List.take_add_one, edd, List.map_append]
              show _ = some (HO.dK (kvOf (famOf ((ds.take i).map entD ++ [entD (.tuple [.str z, p])]))))
              rw [ev, famOf_snoc, kvOf_snoc, hy]
            repeat (walk_at "lw w")
            refine ⟨_, _, rfl, SqT.same (S4.trans S5) hs, rfl, ?_⟩
            repeat (walk_at "lw w")
            rcases c3 with ⟨rfl, ev⟩ | ⟨qn, rfl, hq, ev⟩
            · cases h2
              repeat (walk_at "lw w")
              refine ⟨d, _, rfl, DPut.k (k := .inr z) eD5 hlt, ?_⟩
              obtain ⟨f1, f2⟩ := fin _ ev _ rfl
              exact ⟨hst2, f1, f2, _, _, _, _, rfl⟩
            · cases h2
              repeat (walk_at "lw w")
              refine ⟨d, _, rfl, DPut.k (k := .inr z) eD5 hlt, ?_⟩
              obtain ⟨f1, f2⟩ := fin _ ev _ rfl
              exact ⟨hst2, f1, f2, _, _, _, _, rfl⟩
  · rintro σ H3 ⟨hst, eD, hK, t1, t2, t3, t4, rfl⟩
    rw [hlen, List.take_length] at eD
    rw [hlen] at hst
    repeat (walk_at "lw w")
    have ha3 := keep_same S1 nd0 hK _ _ ha
    refine ⟨a, T.C_Family, dx, [], rfl, ha3, T.cl_Family, T.nA_Family__above, by decide, ?_⟩
    have nad : d ≠ a := fun h => by rw [h, ha] at nd0; cases nd0
    have eD4 : upd H3 a (.ins T.C_Family dx (putF (Str.ofString "_above") (.ref d) [])) d = some (.dK (kvOf (famOf (ds.map entD)))) := by rw [upd_ne nad]; exact eD
    have ha4 : upd H3 a (.ins T.C_Family dx (putF (Str.ofString "_above") (.ref d) [])) a = some (.ins T.C_Family dx [(Str.ofString "_above", .ref d)]) := upd_same
    have K4 : Keep a H (upd H3 a (.ins T.C_Family dx (putF (Str.ofString "_above") (.ref d) []))) := fun q o n e => by
      rw [upd_ne n]
      exact keep_same S1 nd0 hK q o e
    generalize upd H3 a (.ins T.C_Family dx (putF (Str.ofString "_above") (.ref d) [])) = H4 at *
    clear hK eD ha3
    repeat (walk_at "lw w")
    refine ⟨d, _, rfl, eD4, fun H5 lp ts S5 nlp nts hnp elp pts => ?_⟩
    have hF := T.q_FIRST_CLASSES H5
    repeat (walk_at "lw w")
    refine ⟨lp, _, rfl, SqL.of elp, fun sp nsp => ?_⟩
    refine ⟨sp, _, rfl, .inl ⟨SqL.of upd_same, fun tp ntp => ?_⟩⟩
    repeat (walk_at "lw w")
    have el := pairs_len pts
    rw [famOf_len] at el
    have ec : cutV (ts.map V.ref) (some (([V.ref T.a_FIRST_CLASSES_0, .ref T.a_FIRST_CLASSES_1, .ref T.a_FIRST_CLASSES_2, .ref T.a_FIRST_CLASSES_3].length : Nat) : Int)) none = (ts.drop 4).map V.ref := (cut4 (xs := ts.map V.ref) (by rw [List.length_map]; omega)).trans List.map_drop.symm
    generalize cutV (ts.map V.ref) (some (([V.ref T.a_FIRST_CLASSES_0, .ref T.a_FIRST_CLASSES_1, .ref T.a_FIRST_CLASSES_2, .ref T.a_FIRST_CLASSES_3].length : Nat) : Int)) none = cs at *
    subst ec
    have S6 := (same_new (o := .lst ((ts.drop 4).map V.ref)) nsp)
    have S7 := S6.trans (same_new (o := .tup ((ts.drop 4).map V.ref)) ntp)
    have et : upd (upd H5 sp (.lst ((ts.drop 4).map V.ref))) tp (.tup ((ts.drop 4).map V.ref)) tp = some (.tup ((ts.drop 4).map V.ref)) := upd_same
    have ntp0 : H tp = none := ((K4.dom ⟨_, ha4⟩).trans ((Same.dom S5).trans (Same.dom S6))).free ntp
    generalize upd (upd H5 sp (.lst ((ts.drop 4).map V.ref))) tp (.tup ((ts.drop 4).map V.ref)) = H7 at *
    have ha7 := S7 _ _ (S5 _ _ ha4)
    have eD7 := S7 _ _ (S5 _ _ eD4)
    refine ⟨a, T.C_Family, dx, _, rfl, ha7, T.cl_Family, T.nA_Family_declared, (show 1 < 1000 by decide), ?_⟩
    have nat : tp ≠ a := fun h => by rw [h, ha7] at et; cases et
    have nts2 : ∀ t, H4 t = none → t ≠ a := fun t h e => by rw [e, ha4] at h; cases h
    refine q _ hst ⟨dx, d, tp, ts.drop 4, upd_same, ?_, ?_, ?_, nd0, ntp0, fun t ht => (K4.dom ⟨_, ha4⟩).free (nts t (List.mem_of_mem_drop ht))⟩ ?_
    · rw [upd_ne nad]
      exact eD7
    · rw [upd_ne nat]
      exact et
    · have hp4 := pairs_same S7 (pairs_drop 4 pts)
      have key : ∀ {us : List Addr} {l : List (Str × V)}, (∀ t ∈ us, t ≠ a) → Paired (fun (t : Addr) (q : Str × V) => H7 t = some (.tup [.str q.1, q.2])) us l → ∀ o : HO, Paired (fun (t : Addr) (q : Str × V) => upd H7 a o t = some (.tup [.str q.1, q.2])) us l := by
        intro us l hn h o
        induction h with
        | nil => exact .nil
        | cons b _ ih => exact .cons (by rw [upd_ne (hn _ List.mem_cons_self)]; exact b) (ih fun t ht => hn t (List.mem_cons_of_mem _ ht))
      exact key (fun t ht => nts2 t (nts t (List.mem_of_mem_drop ht))) hp4 _
    · intro qq o n e
      rw [upd_ne n]
      exact S7 _ _ (S5 _ _ (K4 qq o n e))))
set_option hygiene false in
local macro_rules | `(tactic| walk_at "begin02") => `(tactic| (
  generalize upd H p0 (.tup [.ty "list", .ty "tuple"]) = H1 at *
  repeat (walk_at "lw w")
  refine ifF rfl ?_
  repeat (walk_at "lw w")
  refine ⟨kvOf first4, rfl, .cons (T.q_FIRST_CLASSES_0 _) (.cons (T.q_FIRST_CLASSES_1 _) (.cons (T.q_FIRST_CLASSES_2 _) (.cons (T.q_FIRST_CLASSES_3 _) .nil))), (show 4 ≤ 1000 by decide), fun d nd => ?_⟩
  rw [merge4]
  have S1 : Same H (upd H1 d (.dK (kvOf first4))) := S0.trans (same_new nd)
  have nd0 : H d = none := (Same.dom S0).free nd
  have ed : upd H1 d (.dK (kvOf first4)) d = some (.dK (kvOf first4)) := upd_same
  generalize upd H1 d (.dK (kvOf first4)) = H2 at *
  clear S0 nd
  have hlen := DpAll.length hall
  repeat (walk_at "lw w")))
set_option hygiene false in
local macro_rules | `(tactic| walk_at "none02") => `(tactic| (
  generalize upd H p0 (.tup [.ty "list", .ty "tuple"]) = H1 at *
  repeat (walk_at "lw w")
  refine mk_err fun e ne => ?_
  exact qn rfl e _ (fresh_of S0 ne) upd_same fun q o h => same_new ne _ _ (S0 _ _ h)))
section
variable {P : Program} {w : World} {K : PySem.W.Frag} {mg : Str → Option Value} {base : Heap}
theorem ok_init_BadFamily (T : Txt K mg) : FnOk P w K mg base CX0 1 T.cI_BadFamily T.cfd_BadFamily ["self", "at"] (sp_init "at" T.cC_BadFamily) := by
  refine T.cF_BadFamily.ok sci_BadFamily (fun vs H Q E h => ?_) (fun cdv A outer s H vs Q E hr h => ?_)
  · obtain ⟨a, v, rfl, _⟩ := h
    rfl
  · obtain ⟨a, v, rfl, ha, q⟩ := h
    refine ⟨_, pss_one (ps_ost (pv 0) (pv 1)), ?_⟩
    exact ⟨v, rfl, .ref a, rfl, a, T.cC_BadFamily, rfl, T.cE_BadFamily.o, T.cE_BadFamily.no, .inl ⟨ha, fun dx nd ne => q dx nd ne⟩⟩
theorem ok_finitD (T : Txt K mg) : FnOk P w K mg base (L2.CX P w) 4 T.f_Family___init__ T.fd_Family___init__ ["self", "pairs"] (sp_finitD K T.C_Family T.cC_BadFamily) := by
  have GI_BadFamily := ok_init_BadFamily (P := P) (w := w) (base := base) T
  have G_can_be_declared := ok_cbd (P := P) (w := w) (base := base) T
  refine T.F_Family___init__.okX sc_Family___init__ (fun vs H Q E h => ?_) (fun cdv A outer s H vs Q E hr h => ?_)
  · obtain ⟨a, dx, v, pd, rfl, _⟩ := h
    rfl
  · obtain ⟨a, dx, pl, pd, rfl, ha, hv, hfi, hdep, qs, qn⟩ := h
    refine ⟨_, (pss_cons (ps_if (pt_not (pt_val (pe_callB call_isiT (by rfl) T.m_isinstance (by decide +kernel) (pa_cons (pv 1) (pa_cons (pe_tup (pa_cons (pe_bltn (v := .ty "list") (by rfl) T.m_list (by decide +kernel) rfl) (pa_cons (pe_bltn (v := .ty "tuple") (by rfl) T.m_tuple (by decide +kernel) rfl) pa_nil))) pa_nil))))) (pss_one (ps_raise rfl (takes_of rfl rfl rfl rfl) (pmk_oex T.cE_BadFamily.o T.cE_BadFamily.i T.cE_BadFamily.t GI_BadFamily (hr.mono (by omega)) T.cb_BadFamily .nil pass0 (by rfl) T.cE_BadFamily.g (pa_cons (pe_un un_neg pe_int) pa_nil)))) pss_nil)
        (pss_cons (ps_set (i := 2) sc_Family___init__.nd rfl (.inl rfl) (pe_callTy (call_dictT rfl T.d_FIRST_CLASSES.choose_spec.choose_spec.choose_spec.1 T.d_FIRST_CLASSES.choose_spec.choose_spec.choose_spec.2.1 T.d_FIRST_CLASSES.choose_spec.choose_spec.choose_spec.2.2.1 T.d_FIRST_CLASSES.choose_spec.choose_spec.choose_spec.2.2.2.1 T.d_FIRST_CLASSES.choose_spec.choose_spec.choose_spec.2.2.2.2) (by rfl) T.m_dict (by decide +kernel) (pa_cons (pe_glob (v := .ref T.a_FIRST_CLASSES) rfl T.c_FIRST_CLASSES rfl) pa_nil)))
        (pss_cons (ps_for (passes_of rfl) rfl (pi_enum2 (by rfl) T.m_enumerate (pa_cons (pv 1) pa_nil)) (pg_tup rfl (pgs_cons (pg_name (i := 3) sc_Family___init__.nd rfl (.inl rfl)) (pgs_cons (pg_name (i := 4) sc_Family___init__.nd rfl (.inl rfl)) pgs_nil))) (pss_cons (ps_if (pt_not (pt_val (pe_call G_can_be_declared hr (by rfl) T.g_can_be_declared T.F_can_be_declared.kp T.b_can_be_declared .nil pass0 (pa_cons (pv 4) (pa_cons (pv 2) pa_nil))))) (pss_one (ps_raise rfl (takes_of rfl rfl rfl rfl) (pmk_oex T.cE_BadFamily.o T.cE_BadFamily.i T.cE_BadFamily.t GI_BadFamily (hr.mono (by omega)) T.cb_BadFamily .nil pass0 (by rfl) T.cE_BadFamily.g (pa_cons (pv 3) pa_nil)))) pss_nil)
        (pss_cons (ps_asg (pv 4) (pg_tup rfl (pgs_cons (pg_name (i := 5) sc_Family___init__.nd rfl (.inl rfl)) (pgs_cons (pg_name (i := 6) sc_Family___init__.nd rfl (.inl rfl)) pgs_nil))))
        (pss_one (ps_dput (hu_of hr) (pv 2) (pv 5) (pe_ifExp (pt_cmpR op_isN (pv 6) pe_non (nomark _)) (pe_glob (v := .str "Error") rfl T.c_ROOT.choose_spec ⟨_, rfl⟩) (pv 6)) rfl)))))
        (pss_cons (ps_fld (pv 0) (pv 2) rfl)
        (pss_one (ps_fld (pv 0) (pe_callTy call_tuple_of (by rfl) T.m_tuple (by decide +kernel) (pa_cons (pe_slice sl_list (LiI.pe_listItems rfl (pv 2) (by rfl) T.m_list (by decide +kernel)) (po_some (pe_callB call_len (by rfl) T.m_len (by decide +kernel) (pa_cons (pe_glob (v := .ref T.a_FIRST_CLASSES) rfl T.c_FIRST_CLASSES rfl) pa_nil))) po_none) pa_nil)) rfl)))))), ?_⟩
    repeat (walk_at "lw w")
    refine ⟨by walk_at "lw n", fun p0 np0 => ?_⟩
    have S0 : Same H (upd H p0 (.tup [.ty "list", .ty "tuple"])) := same_new np0
    cases hv
    case lst pl xs ds hpl hall =>
      obtain ⟨h45, qe, q⟩ := qs ds rfl
      have hfa : fineAll ds = true := by
        unfold fine at hfi
        rw [Bool.and_eq_true] at hfi
        exact hfi.2
      have hdep : PyData.depthAll ds ≤ 60 := by
        have h : PyData.depthAll ds + 1 ≤ 60 := hdep
        omega
      refine ⟨_, p0, _, _, _, true, rfl, upd_same, .cons (.ty _) (.cons (.ty _) .nil), ty_sqL (S0.seq hpl), kit2 (r1 := true) (r2 := false) (by decide +kernel) (by decide +kernel), ?_⟩
      walk_at "begin02"
      refine .inl ⟨pl, xs, rfl, S1.seq hpl, ?_⟩
      have W := walk_enum (K := K) (a := pl) (xs := xs)
      have GD : ∀ {H' : Hp}, Same H H' → SqL K H' pl xs := fun s => s.seq hpl
      walk_at "loop02"
    case tup pl xs ds hpl hall =>
      obtain ⟨h45, qe, q⟩ := qs ds rfl
      have hfa : fineAll ds = true := by
        unfold fine at hfi
        rw [Bool.and_eq_true] at hfi
        exact hfi.2
      have hdep : PyData.depthAll ds ≤ 60 := by
        have h : PyData.depthAll ds + 1 ≤ 60 := hdep
        omega
      refine ⟨_, p0, _, _, _, true, rfl, upd_same, .cons (.ty _) (.cons (.ty _) .nil), ty_sqT (SqT.same S0 hpl), kit2 (r1 := false) (r2 := true) (by decide +kernel) (by decide +kernel), ?_⟩
      walk_at "begin02"
      refine .inr ⟨pl, xs, rfl, SqT.same S1 hpl, ?_⟩
      have W := walk_enumT (K := K) (a := pl) (xs := xs)
      have GD : ∀ {H' : Hp}, Same H H' → SqT K H' pl xs := fun s => SqT.same s hpl
      walk_at "loop02"
    case non =>
      refine ⟨_, p0, _, _, _, false, rfl, upd_same, .cons (.ty _) (.cons (.ty _) .nil), ty_non, kit2 (r1 := false) (r2 := false) (by decide +kernel) (by decide +kernel), ?_⟩
      walk_at "none02"
    case bl b =>
      refine ⟨_, p0, _, _, _, false, rfl, upd_same, .cons (.ty _) (.cons (.ty _) .nil), ty_bl, kit2 (r1 := false) (r2 := false) (by decide +kernel) (by decide +kernel), ?_⟩
      walk_at "none02"
    case int i =>
      refine ⟨_, p0, _, _, _, false, rfl, upd_same, .cons (.ty _) (.cons (.ty _) .nil), ty_int, kit2 (r1 := false) (r2 := false) (by decide +kernel) (by decide +kernel), ?_⟩
      walk_at "none02"
    case str z =>
      refine ⟨_, p0, _, _, _, false, rfl, upd_same, .cons (.ty _) (.cons (.ty _) .nil), ty_str, kit2 (r1 := false) (r2 := false) (by decide +kernel) (by decide +kernel), ?_⟩
      walk_at "none02"
end

local macro_rules | `(tactic| walk_at "unorm") => `(tactic| (dsimp only [upds, setC, Av.fl, Arg.slot, List.map_cons, List.map_nil, List.getElem?_cons_zero, List.getElem?_cons_succ, List.set_cons_zero, List.set_cons_succ, List.cons_append, List.nil_append, wipeE, mixE, keepV]))
local macro_rules | `(tactic| walk_at "uview") => `(tactic| first | exact rfl | exact ⟨_, rfl, .inr rfl⟩ | exact ⟨_, rfl, .inl rfl⟩)
local macro_rules | `(tactic| walk_at "ufrz") => `(tactic| exact frzC_ok rfl)
local macro_rules | `(tactic| walk_at "uc") => `(tactic| first
  | (show (_ : Int) ≠ 0; omega)
  | exact log_small (by omega) (by assumption)
  | exact Or.inl ⟨by omega, by omega⟩
  | exact Or.inr ⟨by omega, by omega⟩
  | exact ⟨by omega, by omega⟩
  | exact ⟨by omega, by omega, by omega⟩)
local macro_rules | `(tactic| walk_at "ul") => `(tactic| first | (simp only [List.length_cons, List.length_nil]; omega) | (simp only [List.length_cons, List.length_nil]; decide))
local macro_rules | `(tactic| walk_at "u") => `(tactic| first
  | with_reducible refine ws_seq ?_
  | with_reducible refine ws_if ?_
  | with_reducible refine ws_ret ?_
  | with_reducible refine ws_set ?_
  | ((with_reducible show WS _ _ (tDrop (tBM _ _ _ _ _)) _ _); (refine' ws_append ?h ?c); (case c => exact ⟨_, _, rfl, rfl⟩))
  | with_reducible refine ws_drop ?_
  | with_reducible refine ws_next ?_
  | with_reducible refine we_op ?_
  | with_reducible refine we_cb ?_
  | with_reducible refine we_call ?_
  | with_reducible refine we_if ?_
  | with_reducible refine we_tup ?_
  | with_reducible refine we_lst ?_
  | ((with_reducible show WR _ _ _ _ _ _ _ _); first
     | (refine' wr_I0 (fun _ => .int _) ?_; done)
     | refine' wr_I0 (fun _ => .int _) ?_
     | refine' wr_I0 (fun _ => .bl _) ?_
     | (refine' wr_I ?c (fun _ => .int _) ?_; (case c => walk_at "uc"))
     | refine' wr_ip ?_
     | (refine' wr_eq rfl rfl ?c ?_; (case c => exact rfl))
     | (refine' wr_ne rfl rfl ?c ?_; (case c => exact rfl))
     | (refine' wr_ixL ?w ?e ?_; (case w => walk_at "uview"); (case e => exact rfl))
     | (refine' wr_ixT ?w ?e ?_; (case w => walk_at "uview"); (case e => exact rfl))
     | (refine' wr_cat ?a ?b ?c ?_; (case a => walk_at "uview"); (case b => walk_at "uview"); (case c => walk_at "ul"))
     | (refine' wr_isN ?w ?_; (case w => walk_at "uview"))
     | (refine' wr_notN ?w ?_; (case w => walk_at "uview"))
     | (refine' wr_cat_str ?c ?_; (case c => walk_at "ul"))
     | refine' wr_isB ?_
     | refine' wr_notB ?_
     | refine' wr_in_sign ?_
     | (refine' wr_ix ?_; first
        | (refine' .inl (wr_ixL ?w ?e ?_); (case w => walk_at "uview"); (case e => exact rfl))
        | (refine' .inr (.inl (wr_ixT ?w ?e ?_)); (case w => walk_at "uview"); (case e => exact rfl))))
  | ((with_reducible show WC _ _ _ _ _ _ _); first
     | refine' wc_int ?_
     | refine' wc_int_bl ?_
     | refine' wc_abs ?_
     | refine' wc_max ?_
     | refine' wc_min ?_
     | (refine' wc_len ?w ?e ?_; (case w => walk_at "uview"); (case e => exact rfl))
     | (refine' wc_lenS ?h ?_; (case h => omega))
     | (refine' wc_isi ?w ?p ?e ?_; (case w => walk_at "uview"); (case p => exact rfl); (case e => first | (refine kit_of2 true ?_; decide +kernel) | (refine kit_of2 false ?_; decide +kernel)))
     | (refine' wc_tuple ?w ?_; (case w => walk_at "uview"))
     | (refine' wc_list ?w ?_; (case w => first | (refine' .inl ?_; walk_at "uview") | (refine' .inr ?_; walk_at "uview"))))
  | (with_reducible refine wt_test ?_)
  | ((with_reducible refine' uT ?h ?_); (case h => exact rfl))
  | ((with_reducible refine' uF ?h ?_); (case h => exact rfl))
  | with_reducible refine wi_str ?_
  | with_reducible refine we_din ?_
  | with_reducible refine we_dnotin ?_
  | with_reducible refine we_dget ?_
  | with_reducible refine we_dget2 ?_
  | with_reducible refine ws_dput ?_
  | ((with_reducible show WE _ _ (tFld _ _ _) _ _ _); refine we_fld ?_)
  | with_reducible refine we_meth ?_
  | with_reducible refine we_make ?_
  | ((with_reducible show WS _ _ (sFld _ _ _ _) _ _); refine ws_fld ?_)
  | with_reducible refine we_and ?_
  | with_reducible refine we_or ?_
  | with_reducible refine we_not ?_
  | with_reducible refine wo_any ?_
  | with_reducible refine we_raw ?_
  | (with_reducible refine ⟨_, rfl, ?_⟩)
  | ((with_reducible refine' put_dt ?h ?_); (case h => first | exact rfl | assumption); walk_at "unorm")
  | ((with_reducible refine' put_new ?h ?_); (case h => first | exact rfl | assumption); walk_at "unorm")
  | ((with_reducible refine' rt_dt ?_); refine ⟨trivial, ?_⟩)
  | ((with_reducible refine' rt_new ?_); refine ⟨trivial, ?_⟩)
  | ((with_reducible refine' rt_own ?h ?_); (case h => exact rfl); refine ⟨trivial, ?_⟩)
  | ((with_reducible refine' ws_setL ?_))
  | refine ⟨_, _, frzC_ok rfl, ⟨_, _, rfl, rfl⟩, ?_⟩
  | refine ⟨_, _, frzC_ok rfl, Nat.le_of_ble_eq_true rfl, ?_⟩
  | (refine ⟨_, _, _, _, rfl, rfl, rfl, rfl, ?_⟩; walk_at "unorm")
  | with_reducible refine wt_b ?_
  | with_reducible refine we_sl ?_
  | with_reducible refine wo_none ?_
  | ((with_reducible refine wo_some ?_); done)
  | with_reducible refine wo_some ?_
  | with_reducible refine ws_for 40 ?_
  | with_reducible refine wi_range1 ?_
  | with_reducible refine wi_range2 ?_
  | ((with_reducible show WI _ _ (iList _ _) _ _ _); refine wi_list ?_)
  | ((with_reducible show WI _ _ (iTup _ _) _ _ _); refine wi_tup ?_)
  | with_reducible refine we_lc ?_
  | with_reducible refine ws_asg (n := 40) ?_
  | with_reducible refine ws_break ?_
  | with_reducible refine ws_cont ?_
  | with_reducible refine ws_retN ?_
  | ((with_reducible refine' wg_name ?h ?m ?_); (case h => first | exact rfl | assumption); (case m => decide); walk_at "unorm")
  | ((with_reducible refine wg_tup ?_); refine ⟨_, rfl, rfl, ?_⟩)
  | with_reducible refine wgs_cons ?_
  | with_reducible refine wgs_nil ?_
  | with_reducible refine wt_and ?_
  | with_reducible refine wt_or ?_
  | with_reducible refine wt_not ?_
  | with_reducible refine wt_yes ?_
  | with_reducible refine wa_cons ?_
  | with_reducible refine wa_nil ?_
  | with_reducible refine we_int ?_
  | with_reducible refine we_str ?_
  | with_reducible refine we_bl ?_
  | with_reducible refine we_non ?_
  | with_reducible refine we_ty ?_
  | with_reducible refine we_un ?_
  | refine ⟨_, _, rfl, fun _ => .int _, ?_⟩
  | ((with_reducible refine' we_val ?h ?_); (case h => exact rfl))
  | ((with_reducible refine' we_own ?h ?_); (case h => exact rfl))
  | ((with_reducible refine' we_bor ?h ?_); (case h => exact rfl)))
set_option hygiene false in
local macro_rules | `(tactic| walk_at "ucl") => `(tactic| (clear qq xx Q' X'; walk_at "unorm"))

def BagU (d : U) (n : Int) : Prop := ∃ x y z : Int, d = .lst [.int x, .int y, .int z] ∧ 0 ≤ x ∧ 0 ≤ y ∧ y ≤ 2000000000 ∧ 0 ≤ z ∧ z ≤ n
def r_take : RU := fun ρ Q _ => ∃ (b : U) (m n : Int), ρ = [.bor b, .val (.int m)] ∧ BagU b n ∧ n ≤ 1000000000 ∧ 0 < m ∧ m < 2 ^ 200 ∧
  ∀ (d : Int) (b' : U), 0 ≤ d → d < m → BagU b' (n + 1) → Q (.dt (.int d)) [.bor b', .val (.int m)]
section
variable {P : Program} {w : World} {K : PySem.W.Frag} {mg : Str → Option Value} {base : Heap}
theorem ok_law_take (T : Txt K mg) : FnOk P w K mg base CX0 1 T.f_law_take T.fd_law_take ["bag", "many"] (spU K r_take) := by
  refine Fun_okU T.F_law_take sc_law_take (fun ρ Q X h => ?_) (fun cdv A outer s H E hr => ⟨_, (pss_cons (ps_if (pt_cmpR op_gt (pe_ix ix_list (pv 0) pe_int (fun _ _ => rfl)) pe_int (nomark _)) (pss_cons (ps_set (i := 2) sc_law_take.nd rfl (.inl rfl) (pe_op op_modN (pe_callTy call_int1 (by rfl) T.m_int (by decide +kernel) (pa_cons (pe_ix ix_list (pv 0) pe_int (fun _ _ => rfl)) pa_nil)) (pv 1)))
        (pss_cons (ps_asg (pe_op op_fdivW (pe_ix ix_list (pv 0) pe_int (fun _ _ => rfl)) (pv 1)) (pg_sub (pv 0) pe_int set_list))
        (pss_one (ps_ret (pv 2))))) pss_nil)
        (pss_cons (ps_asg (pe_op op_add (pe_ix ix_list (pv 0) pe_int (fun _ _ => rfl)) pe_int) (pg_sub (pv 0) pe_int set_list))
        (pss_cons (ps_set (i := 3) sc_law_take.nd rfl (.inl rfl) (pe_op op_modN (pe_callTy call_int1 (by rfl) T.m_int (by decide +kernel) (pa_cons (pe_op op_mul (pe_op op_add (pe_ix ix_list (pv 0) pe_int (fun _ _ => rfl)) (pe_op op_mul pe_int (pe_ix ix_list (pv 0) pe_int (fun _ _ => rfl)))) (pe_op op_add (pe_ix ix_list (pv 0) pe_int (fun _ _ => rfl)) pe_int)) pa_nil)) pe_int))
        (pss_one (ps_ret (pe_op op_modN (pe_callTy call_int1 (by rfl) T.m_int (by decide +kernel) (pa_cons (pe_op op_fdivN (pe_op op_modN (pe_callTy call_int1 (by rfl) T.m_int (by decide +kernel) (pa_cons (pe_op op_pow (pe_op op_add (pv 3) (pe_op op_mul pe_int (pe_ix ix_list (pv 0) pe_int (fun _ _ => rfl)))) pe_int) pa_nil)) pe_int) pe_int) pa_nil)) (pv 1))))))), ?_⟩)
  · obtain ⟨b, m, n, rfl, _⟩ := h
    rfl
  rintro W ρ Qd Xd ⟨b, m, n, rfl, ⟨x, y, z, rfl, x0, y0, y1, z0, z1⟩, hn, m0, m1, q⟩
  show WS K _ _ [.bor _, .val _, .un, .un] _
  repeat (walk_at "u")
  refine ite2 (fun e => ?_) (fun e => ?_)
  · have e0 : 0 < x := of_decide_eq_true e
    repeat (walk_at "u")
    exact q _ _ (Int.fmod_nonneg_of_pos _ m0) (Int.fmod_lt_of_pos _ m0) ⟨x / m, y, z, rfl, Int.ediv_nonneg x0 (by omega), y0, y1, z0, by omega⟩
  · have f1 : 0 ≤ ((y + 40009 * (z + 1)) * (y + 7919)).fmod 2147483647 := Int.fmod_nonneg_of_pos _ (by decide)
    have f2 : ((y + 40009 * (z + 1)) * (y + 7919)).fmod 2147483647 < 2147483647 := Int.fmod_lt_of_pos _ (by decide)
    repeat (walk_at "u")
    exact q _ _ (Int.fmod_nonneg_of_pos _ m0) (Int.fmod_lt_of_pos _ m0) ⟨x, y, z + 1, rfl, x0, y0, y1, by omega, by omega⟩
theorem atI_of {α : Type} {xs : List α} {d : Int} (h0 : 0 ≤ d) (h1 : d < (xs.length : Int)) : ∃ v, v ∈ xs ∧ atI xs d = some v := by
  obtain ⟨k, rfl⟩ := Int.eq_ofNat_of_zero_le h0
  have hk : k < xs.length := by omega
  exact ⟨xs[k], List.getElem_mem hk, atI_nat (List.getElem?_eq_getElem hk)⟩
/-- one of some: of a list, or a letter of a text -/
def r_of : RU := fun ρ Q _ => ∃ (b : U) (sl : Sl) (n : Int), ρ = [.bor b, sl] ∧ BagU b n ∧ n ≤ 1000000000 ∧
  ((∃ ds, (sl = .val (.lst ds) ∨ sl = .bor (.lst ds)) ∧ 0 < ds.length ∧ ds.length ≤ 100000 ∧ ∀ (d b' : U), d ∈ ds → BagU b' (n + 1) → Q (.dt d) [.bor b', sl]) ∨
    (∃ z : Str, sl = .val (.str z) ∧ 0 < z.length ∧ z.length ≤ 1000 ∧ ∀ (c : Nat) (b' : U), c ∈ z.cps.toList → BagU b' (n + 1) → Q (.dt (.str ⟨#[c]⟩)) [.bor b', sl]))
theorem ok_law_of (T : Txt K mg) : FnOk P w K mg base CX0 2 T.f_law_of T.fd_law_of ["bag", "some"] (spU K r_of) := by
  have G_law_take := ok_law_take (P := P) (w := w) (base := base) T
  refine Fun_okU T.F_law_of sc_law_of (fun ρ Q X h => ?_) (fun cdv A outer s H E hr => ⟨_, (pss_one (ps_ret (pe_ix ix_seq (pv 1) (pe_call G_law_take hr (by rfl) T.g_law_take T.F_law_take.kp T.b_law_take .nil pass0 (pa_cons (pv 0) (pa_cons (pe_callB call_len (by rfl) T.m_len (by decide +kernel) (pa_cons (pv 1) pa_nil)) pa_nil))) (fun _ _ => rfl)))), ?_⟩)
  · obtain ⟨b, m, n, rfl, _⟩ := h
    rfl
  rintro W ρ Qd Xd ⟨b, sl, n, rfl, hb, hn, q⟩
  rcases q with ⟨ds, h, l0, l1, q⟩ | ⟨z, rfl, l0, l1, q⟩
  · rcases h with rfl | rfl
    · show WS K _ _ [.bor _, .val _] _
      repeat (walk_at "u")
      refine callU [true, true] rfl rfl fun Q' X' qq xx => ⟨b, _, n, rfl, hb, hn, by omega, by omega, fun d b' d0 d1 hb' => qq _ _ ?_⟩
      walk_at "ucl"
      obtain ⟨v, hv, ha⟩ := atI_of d0 d1
      refine wr_ix (.inl (wr_ixL rfl ha ?_))
      repeat (walk_at "u")
      exact q _ _ hv hb'
    · show WS K _ _ [.bor _, .bor _] _
      repeat (walk_at "u")
      refine callU [true, true] rfl rfl fun Q' X' qq xx => ⟨b, _, n, rfl, hb, hn, by omega, by omega, fun d b' d0 d1 hb' => qq _ _ ?_⟩
      walk_at "ucl"
      obtain ⟨v, hv, ha⟩ := atI_of d0 d1
      refine wr_ix (.inl (wr_ixL ⟨_, rfl, .inr rfl⟩ ha ?_))
      repeat (walk_at "u")
      exact q _ _ hv hb'
  · show WS K _ _ [.bor _, .val _] _
    repeat (walk_at "u")
    refine callU [true, true] rfl rfl fun Q' X' qq xx => ⟨b, _, n, rfl, hb, hn, by omega, by omega, fun d b' d0 d1 hb' => qq _ _ ?_⟩
    walk_at "ucl"
    obtain ⟨v, hv, ha⟩ := atI_of (xs := z.cps.toList) d0 (by rw [Array.length_toList]; exact d1)
    refine wr_ix (.inr (.inr (wr_ixS (by omega) ha ?_)))
    repeat (walk_at "u")
    exact q _ _ hv hb'
/-- names of classes -/
def IsClass (z : Str) : Prop := ∃ c cs, z.cps.toList = c :: cs ∧ cs.length ≤ 11 ∧ isUp c = true ∧ cs.all (fun x => isUp x || isLow x) = true
def r_class : RU := fun ρ Q _ => ∃ (b : U) (n : Int), ρ = [.bor b] ∧ BagU b n ∧ n ≤ 900000000 ∧ ∀ (z : Str) (b' : U), IsClass z → BagU b' (n + 20) → Q (.dt (.str z)) [.bor b']
theorem BagU.mono {b : U} {n m : Int} (h : BagU b n) (l : n ≤ m) : BagU b m := by
  obtain ⟨x, y, z, e, r1, r2, r3, r4, r5⟩ := h
  exact ⟨x, y, z, e, r1, r2, r3, r4, by omega⟩
theorem ok_law_class (T : Txt K mg) : FnOk P w K mg base CX0 3 T.f_law_class T.fd_law_class ["bag"] (spU K r_class) := by
  have G_law_take := ok_law_take (P := P) (w := w) (base := base) T
  have G_law_of := ok_law_of (P := P) (w := w) (base := base) T
  refine Fun_okU T.F_law_class sc_law_class (fun ρ Q X h => ?_) (fun cdv A outer s H E hr => ⟨_, (pss_cons (ps_set (i := 1) sc_law_class.nd rfl (.inl rfl) pe_str)
        (pss_cons (ps_set (i := 2) sc_law_class.nd rfl (.inl rfl) (pe_call G_law_of hr (by rfl) T.g_law_of T.F_law_of.kp T.b_law_of .nil pass0 (pa_cons (pv 0) (pa_cons (pe_slice sl_str (pv 1) (po_some pe_int) po_none) pa_nil))))
        (pss_cons (ps_for PassesOwn.never rfl (pi_range1 (by rfl) T.m_range (pa_cons (pe_call G_law_take (hr.mono (by omega)) (by rfl) T.g_law_take T.F_law_take.kp T.b_law_take .nil pass0 (pa_cons (pv 0) (pa_cons pe_int pa_nil))) pa_nil)) (pg_name (i := 3) sc_law_class.nd rfl (.inl rfl)) (pss_one (ps_set (i := 2) sc_law_class.nd rfl (.inl rfl) (pe_op op_add_str (pv 2) (pe_call G_law_of hr (by rfl) T.g_law_of T.F_law_of.kp T.b_law_of .nil pass0 (pa_cons (pv 0) (pa_cons (pv 1) pa_nil)))))))
        (pss_one (ps_ret (pv 2)))))), ?_⟩)
  · obtain ⟨b, n, rfl, _⟩ := h
    rfl
  rintro W ρ Qd Xd ⟨b, n, rfl, hb, hn, q⟩
  show WS K _ _ [.bor _, .un, .un, .un] _
  repeat (walk_at "u")
  refine sl_S (by decide +kernel) ?_
  repeat (walk_at "u")
  refine callU [true, true] rfl rfl fun Q' X' qq xx => ⟨b, _, n, rfl, hb, by omega, .inr ⟨_, rfl, by decide +kernel, by decide +kernel, fun c b1 hc hb1 => qq _ _ ?_⟩⟩
  have hup : isUp c = true := (by decide +kernel : ∀ c ∈ (cutS (Str.ofString "abcdefghijklmnopqrstuvwxyzABCDEFGHIJKLMNOPQRSTUVWXYZ") (some 26) none).cps.toList, isUp c = true) c hc
  walk_at "ucl"
  repeat (walk_at "u")
  refine callU [true, true] rfl rfl fun Q' X' qq xx => ⟨b1, _, _, rfl, hb1, by omega, by decide, by decide, fun d b2 d0 d1 hb2 => qq _ _ ?_⟩
  walk_at "ucl"
  repeat (walk_at "u")
  refine ⟨by omega, fun i ρ => ∃ (z : Str) (bi : U) (t : Sl) (cs : List Nat), ρ = [.bor bi, .val (.str (Str.ofString "abcdefghijklmnopqrstuvwxyzABCDEFGHIJKLMNOPQRSTUVWXYZ")), .val (.str z), t] ∧ nb [t] 0 = true ∧
    z.cps.toList = c :: cs ∧ cs.length = i ∧ cs.all (fun x => isUp x || isLow x) = true ∧ BagU bi (n + 2 + i), ?_, ?_, ?_⟩
  · exact ⟨_, b2, .un, [], rfl, rfl, rfl, rfl, rfl, hb2.mono (by omega)⟩
  · rintro i x ρ hx ⟨z, bi, t, cs, rfl, ht, ez, el, ec, hB⟩
    obtain ⟨hi, rfl⟩ := rgU_get hx
    repeat (walk_at "u")
    refine callU [true, true] rfl rfl fun Q' X' qq xx => ⟨bi, _, _, rfl, hB, by omega, .inr ⟨_, rfl, by decide +kernel, by decide +kernel, fun c2 b3 hc2 hb3 => qq _ _ ?_⟩⟩
    walk_at "ucl"
    have hl2 : (isUp c2 || isLow c2) = true := (by decide +kernel : ∀ c ∈ (Str.ofString "abcdefghijklmnopqrstuvwxyzABCDEFGHIJKLMNOPQRSTUVWXYZ").cps.toList, (isUp c || isLow c) = true) c2 hc2
    have hz : z.length = i + 1 := by
      show z.cps.size = i + 1
      rw [← Array.length_toList, ez, List.length_cons, el]
    refine wr_cat_str (by show z.length + 1 ≤ _; omega) ?_
    repeat (walk_at "u")
    refine ⟨z ++ ⟨#[c2]⟩, b3, _, cs ++ [c2], rfl, rfl, ?_, ?_, ?_, hb3.mono (by omega)⟩
    · show (z.cps ++ #[c2]).toList = _
      rw [Array.toList_append, ez]
      rfl
    · rw [List.length_append, el]
      rfl
    · rw [List.all_append, ec]
      simp only [List.all_cons, hl2, List.all_nil, Bool.and_true]
  · rintro ρ ⟨z, bi, t, cs, rfl, ht, ez, el, ec, hB⟩
    rw [rgU_length] at el hB
    repeat (walk_at "u")
    exact q z _ ⟨c, cs, ez, by omega, hup, ec⟩ (hB.mono (by omega))
end

/-! ### the law's own judgement -/
def isCU : U → Bool
  | .str z => isClassL z.cps.toList
  | _ => false
/-- plain, a text of at most a thousand signs -/
def plU : U → Bool
  | .str z => decide (z.length ≤ 1000)
  | d => plainU d
def r_is_class : RU := fun ρ Q _ => ∃ d, ρ = [.val d] ∧ plU d = true ∧ Q (.dt (.bl (isCU d))) [.val d]
section
variable {P : Program} {w : World} {K : PySem.W.Frag} {mg : Str → Option Value} {base : Heap}
theorem uk_is_class (T : Txt K mg) : FnOk P w K mg base CX0 1 T.f_law_is_class T.fd_law_is_class ["thing"] (spU K r_is_class) := by
  refine Fun_okU T.F_law_is_class sc_law_is_class (fun ρ Q X h => ?_) (fun cdv A outer s H E hr => ⟨_, (pss_cons (ps_set (i := 1) sc_law_is_class.nd rfl (.inr rfl) (pe_op op_add_str pe_str pe_str))
        (pss_cons (ps_if (PW.pt (pw_or (pt_not (pt_val (pe_callB call_isi (by rfl) T.m_isinstance (by decide +kernel) (pa_cons (pv 0) (pa_cons (pe_bltn (v := .ty "str") (by rfl) T.m_str (by decide +kernel) rfl) pa_nil))))) (pw_or (pt_cmpR op_eq (pe_callB call_len (by rfl) T.m_len (by decide +kernel) (pa_cons (pv 0) pa_nil)) pe_int (nomark _)) (pw_or1 (pt_cmpR op_gt (pe_callB call_len (by rfl) T.m_len (by decide +kernel) (pa_cons (pv 0) pa_nil)) pe_int (nomark _)))))) (pss_one (ps_ret pe_bl)) pss_nil)
        (pss_one (ps_ret (pe_and (pe_cmpR op_in_sign (pe_ix ix_str (pv 0) pe_int (fun _ _ => rfl)) (pe_slice sl_str (pv 1) po_none (po_some pe_int)) (by rfl)) (pe_one (pe_callB (cr_all rfl) (by rfl) T.m_all (by decide +kernel) (pa_cons (pe_lc (own := [("sign", 2)]) (g := gName 2) rfl sc_law_is_class.nd (pi_str (pv 0)) (blkOk_by (own := [("sign", 2)]) (N := ["thing", "letters", "sign"]) (sc := defScope s_law_is_class) (by decide +kernel)) (fun _ _ _ _ _ => pg_name (i := 2) sc_law_is_class.nd rfl (.inl rfl)) (fun _ _ _ _ _ => pts_nil) (fun _ _ _ _ _ => (pe_cmpR op_in_sign (pv 2) (pv 1) (by rfl)))) pa_nil)))))))), ?_⟩)
  · obtain ⟨d, rfl, _⟩ := h
    rfl
  rintro W ρ Qd Xd ⟨d, rfl, hp, q⟩
  show WS K _ _ [.val _, .un, .un] _
  repeat (walk_at "u")
  refine wr_cat_str (by decide +kernel) ?_
  repeat (walk_at "u")
  cases d
  case str z =>
    have hz : z.length ≤ 1000 := of_decide_eq_true hp
    repeat (walk_at "u")
    have len : z.length = z.cps.toList.length := Array.length_toList.symm
    cases ez : z.cps.toList with
    | nil =>
      have l0 : z.length = 0 := by rw [len, ez]; rfl
      refine uT (by rw [l0]; rfl) ?_
      repeat (walk_at "u")
      have e : isCU (.str z) = false := by
        show isClassL z.cps.toList = false
        rw [ez]
        rfl
      rw [e] at q
      exact q
    | cons c cs =>
      have l1 : z.length = cs.length + 1 := by rw [len, ez]; rfl
      have e : isCU (.str z) = (decide (cs.length + 1 ≤ 12) && (isUp c && (c :: cs).all fun x => isUp x || isLow x)) := by
        show isClassL z.cps.toList = _
        rw [ez]
        exact isClassL_cons c cs
      rw [e] at q
      refine uF (decide_eq_false fun h => by injection h with h; omega) ?_
      repeat (walk_at "u")
      refine ite2 (fun e2 => ?_) (fun e2 => ?_)
      · have e3 : (12 : Int) < ((z.length : Nat) : Int) := of_decide_eq_true e2
        rw [decide_eq_false (show ¬ cs.length + 1 ≤ 12 by omega), Bool.false_and] at q
        repeat (walk_at "u")
        exact q
      have e3 : ¬ (12 : Int) < ((z.length : Nat) : Int) := fun h => e2 (decide_eq_true h)
      rw [decide_eq_true (show cs.length + 1 ≤ 12 by omega), Bool.true_and] at q
      repeat (walk_at "u")
      refine wr_ixS (by omega) (by rw [ez]; exact atI_nat (j := 0) rfl) ?_
      repeat (walk_at "u")
      refine sl_S (by decide +kernel) ?_
      repeat (walk_at "u")
      have e4 : decide (c ∈ (cutS (Str.ofString "ABCDEFGHIJKLMNOPQRSTUVWXYZ" ++ Str.ofString "abcdefghijklmnopqrstuvwxyz") none (some 26)).cps.toList) = isUp c := by
        rw [show cutS (Str.ofString "ABCDEFGHIJKLMNOPQRSTUVWXYZ" ++ Str.ofString "abcdefghijklmnopqrstuvwxyz") none (some 26) = Str.ofString "ABCDEFGHIJKLMNOPQRSTUVWXYZ" by decide +kernel]
        exact up_in c
      rw [e4]
      refine ite2 (fun e5 => ?_) (fun e5 => ?_)
      · rw [e5, Bool.true_and] at q
        repeat (walk_at "u")
        refine ⟨rfl, fun k acc ρ => acc = ((c :: cs).take k).map (fun c => U.bl (isUp c || isLow c)) ∧ ρ = [.val (.str z), .val (.str (Str.ofString "ABCDEFGHIJKLMNOPQRSTUVWXYZ" ++ Str.ofString "abcdefghijklmnopqrstuvwxyz")), .un], ⟨rfl, rfl⟩, ?_, ?_⟩
        · rintro k d acc ρ hk hl ⟨ha, rfl⟩
          obtain ⟨c2, hc2, rfl⟩ : ∃ c2, (c :: cs)[k]? = some c2 ∧ d = .str ⟨#[c2]⟩ := by
            rw [signs, List.getElem?_map, ez] at hk
            cases q2 : (c :: cs)[k]? with
            | none => rw [q2] at hk; cases hk
            | some c2 => rw [q2] at hk; cases hk; exact ⟨c2, rfl, rfl⟩
          have hk2 := lt_of_get hc2
          rw [List.length_cons] at hk2
          repeat (walk_at "u")
          rw [ul_in]
          refine ⟨_, _, frzC_ok rfl, by omega, rfl, ?_, rfl⟩
          rw [List.take_add_one, hc2, List.map_append, ha]
          rfl
        · rintro acc ρ hl ⟨ha, rfl⟩
          have el : (signs z).length = (c :: cs).length := by rw [signs, List.length_map, ez]
          rw [el, List.take_length] at ha
          subst ha
          repeat (walk_at "u")
          refine wc_all (bs := (c :: cs).map fun c => isUp c || isLow c) (by show View _ (.dt _) _; rw [List.map_map]; rfl) ?_
          repeat (walk_at "u")
          rw [List.all_map]
          exact q
      · rw [show isUp c = false by simpa using e5, Bool.false_and] at q
        repeat (walk_at "u")
        exact q
  all_goals first | (cases hp; done) | skip
  all_goals (repeat (walk_at "u"))
  all_goals exact q
def parU (ns : List Str) : U → Bool
  | .non => true
  | .str q => decide (q ∈ ns)
  | _ => false
/-- whether an entry can stand behind these names -/
def rightU (ns : List Str) : U → Bool
  | .tup [.str z, p] => isClassL z.cps.toList && (!decide (z ∈ ns) && parU ns p)
  | _ => false
/-- plain items of a tuple -/
def plT : U → Bool
  | .tup ds => ds.all plU
  | d => plainU d
def strsU (ns : List Str) : U := .lst (ns.map .str)
theorem in_strs {z : Str} : ∀ {ns : List Str}, inV (.str z) (ns.map .str) = decide (z ∈ ns)
  | [] => rfl
  | n :: ns => by
    show (eqV (.str n) (.str z) || inV (.str z) (ns.map .str)) = _
    rw [in_strs (ns := ns)]
    by_cases h : n = z
    · rw [h]
      simp [eqV]
    · have h2 : ¬ z = n := fun e => h e.symm
      simp [eqV, h, h2]
theorem strs_scal : ∀ {ns : List Str}, (ns.map U.str).map scalU = (ns.map V.str).map some
  | [] => rfl
  | n :: ns => congrArg (some (V.str n) :: ·) (strs_scal (ns := ns))
theorem strs_flat : ∀ {ns : List Str}, (ns.map V.str).all flatV = true
  | [] => rfl
  | n :: ns => strs_flat (ns := ns)
def r_right : RU := fun ρ Q _ => ∃ (ns : List Str) (d : U), ρ = [.bor (strsU ns), .val d] ∧ plT d = true ∧ Q (.dt (.bl (rightU ns d))) [.bor (strsU ns), .val d]
theorem uk_right (T : Txt K mg) : FnOk P w K mg base CX0 2 T.f_law_right T.fd_law_right ["names", "entry"] (spU K r_right) := by
  have G_law_is_class := uk_is_class (P := P) (w := w) (base := base) T
  refine Fun_okU T.F_law_right sc_law_right (fun ρ Q X h => ?_) (fun cdv A outer s H E hr => ⟨_, (pss_cons (ps_if (PW.pt (pw_or (pt_not (pt_val (pe_callB call_isi (by rfl) T.m_isinstance (by decide +kernel) (pa_cons (pv 1) (pa_cons (pe_bltn (v := .ty "tuple") (by rfl) T.m_tuple (by decide +kernel) rfl) pa_nil))))) (pw_or (pt_cmpR op_ne (pe_callB call_len (by rfl) T.m_len (by decide +kernel) (pa_cons (pv 1) pa_nil)) pe_int (nomark _)) (pw_or (pt_not (pt_val (pe_call G_law_is_class hr (by rfl) T.g_law_is_class T.F_law_is_class.kp T.b_law_is_class .nil pass0 (pa_cons (pe_ix ix_tup (pv 1) pe_int (fun _ _ => rfl)) pa_nil)))) (pw_or1 (pt_cmpR op_in_seq (pe_ix ix_tup (pv 1) pe_int (fun _ _ => rfl)) (pv 0) (by rfl))))))) (pss_one (ps_ret pe_bl)) pss_nil)
        (pss_one (ps_ret (pe_or (pe_cmpR op_isN (pe_ix ix_tup (pv 1) pe_int (fun _ _ => rfl)) pe_non (nomark _)) (pe_one (pe_and (pe_callB call_isi (by rfl) T.m_isinstance (by decide +kernel) (pa_cons (pe_ix ix_tup (pv 1) pe_int (fun _ _ => rfl)) (pa_cons (pe_bltn (v := .ty "str") (by rfl) T.m_str (by decide +kernel) rfl) pa_nil))) (pe_one (pe_cmpR op_in_seq (pe_ix ix_tup (pv 1) pe_int (fun _ _ => rfl)) (pv 0) (by rfl))))))))), ?_⟩)
  · obtain ⟨ns, d, rfl, _⟩ := h
    rfl
  rintro W ρ Qd Xd ⟨ns, d, rfl, hp, q⟩
  show WS K _ _ [.bor _, .val _] _
  cases d
  case tup ds =>
    repeat (walk_at "u")
    by_cases l2 : ds.length = 2
    · obtain ⟨x, y, rfl⟩ : ∃ x y, ds = [x, y] := by
        match ds, l2 with
        | [x, y], _ => exact ⟨x, y, rfl⟩
      have hp2 : plU x = true ∧ plU y = true := by
        have hp : (plU x && (plU y && true)) = true := hp
        rw [Bool.and_true, Bool.and_eq_true] at hp
        exact hp
      repeat (walk_at "u")
      refine callU [true] rfl rfl fun Q' X' qq xx => ⟨x, rfl, hp2.1, qq _ _ ?_⟩
      walk_at "ucl"
      repeat (walk_at "u")
      cases ec : isCU x with
      | false =>
        repeat (walk_at "u")
        have e : rightU ns (.tup [x, y]) = false := by
          cases x <;> first | rfl | (show (isClassL _ && _) = false; rw [show isClassL _ = false from ec]; rfl)
        rw [e] at q
        exact q
      | true =>
        obtain ⟨z, rfl⟩ : ∃ z, x = .str z := by
          cases x with
          | str z => exact ⟨z, rfl⟩
          | _ => cases ec
        have ec : isClassL z.cps.toList = true := ec
        have e : rightU ns (.tup [.str z, y]) = (!decide (z ∈ ns) && parU ns y) := by
          show (isClassL z.cps.toList && _) = _
          rw [ec]
          rfl
        rw [e] at q
        clear e
        repeat (walk_at "u")
        refine wr_in (ys := ns.map .str) rfl (.inl ⟨_, rfl, .inr rfl⟩) strs_scal rfl strs_flat ?_
        rw [if_neg Bool.false_ne_true, in_strs]
        refine ⟨_, rfl, ?_⟩
        cases en : decide (z ∈ ns) with
        | true =>
          rw [en] at q
          repeat (walk_at "u")
          exact q
        | false =>
          rw [en] at q
          have hy := hp2.2
          repeat (walk_at "u")
          cases y
          case str z2 =>
            repeat (walk_at "u")
            refine wr_in (ys := ns.map .str) rfl (.inl ⟨_, rfl, .inr rfl⟩) strs_scal rfl strs_flat ?_
            rw [if_neg Bool.false_ne_true, in_strs]
            repeat (walk_at "u")
            exact q
          all_goals first | (cases hy; done) | skip
          all_goals (repeat (walk_at "u"))
          all_goals exact q
    · have e : rightU ns (.tup ds) = false := by
        match ds, l2 with
        | [], _ => rfl
        | [x], _ => cases x <;> rfl
        | x :: y :: z :: r, _ => cases x <;> rfl
        | [x, y], l2 => exact absurd rfl l2
      rw [e] at q
      refine uT (by rw [decide_eq_false (fun h => l2 (by injection h with h; omega))]; rfl) ?_
      repeat (walk_at "u")
      exact q
  all_goals first | (cases hp; done) | skip
  all_goals (repeat (walk_at "u"))
  all_goals exact q
end

/-! ### the first entry that cannot stand -/
def nameU : U → Str
  | .tup [.str z, _] => z
  | _ => ⟨#[]⟩
def names4 : List Str := [Str.ofString "Error", Str.ofString "Failed", Str.ofString "Misuse", Str.ofString "Beyond"]
def namesU (ds : List U) (i : Nat) : List Str := names4 ++ (ds.take i).map nameU
def StandU (ds : List U) (i : Nat) : Prop := ∀ j < i, ∃ d, ds[j]? = some d ∧ rightU (namesU ds j) d = true
def DueU (ds : List U) (o : U) : Prop := (o = .non ∧ StandU ds ds.length) ∨ ∃ (i : Nat) (d : U), o = .int i ∧ StandU ds i ∧ ds[i]? = some d ∧ rightU (namesU ds i) d = false
/-- the items of a list, of a tuple -/
def seqU : U → Option (List U)
  | .lst ds => some ds
  | .tup ds => some ds
  | _ => none
theorem seqU_or {D : U} {ds : List U} (h : seqU D = some ds) : D = .lst ds ∨ D = .tup ds := by
  cases D <;> first | (cases h; done) | skip
  · cases h
    exact .inl rfl
  · cases h
    exact .inr rfl
theorem seqU_len {D : U} {ds : List U} (h : seqU D = some ds) : ulen D = some ds.length := by
  rcases seqU_or h with rfl | rfl
  · rfl
  · rfl
theorem wr_ixD {K : PySem.W.Frag} {W : Wx} {X : Er → Sls → Prop} {ρ : Sls} {D : U} {ds : List U} {i : Int} {d : U} {Q : Av → Sls → Prop} (h : seqU D = some ds) (e : atI ds i = some d) (q : Q (.dt d) ρ) : WR K W (rIx K) (.dt D) (.dt (.int i)) ρ Q X := by
  rcases seqU_or h with rfl | rfl
  · exact wr_ix (.inl (wr_ixL rfl e q))
  · exact wr_ix (.inr (.inl (wr_ixT rfl e q)))
def r_due : RU := fun ρ Q _ => ∃ (ds : List U) (D : U), ρ = [.val D] ∧ seqU D = some ds ∧ (∀ d ∈ ds, plT d = true) ∧ ds.length ≤ 1000 ∧ ∀ o, DueU ds o → Q (.dt o) [.val D]
theorem right_tup {ns : List Str} {d : U} (h : rightU ns d = true) : ∃ z p, d = .tup [.str z, p] ∧ isClassL z.cps.toList = true ∧ z ∉ ns ∧ parU ns p = true := by
  unfold rightU at h
  split at h
  · rename_i z p
    rw [Bool.and_eq_true, Bool.and_eq_true] at h
    exact ⟨z, p, rfl, h.1, by simpa using h.2.1, h.2.2⟩
  · cases h
theorem names_snoc {ds : List U} {i : Nat} {d : U} (e : ds[i]? = some d) : namesU ds (i + 1) = namesU ds i ++ [nameU d] := by
  unfold namesU
  rw [List.take_add_one, e, List.map_append, List.append_assoc]
  rfl
theorem stand_snoc {ds : List U} {i : Nat} {d : U} (h : StandU ds i) (e : ds[i]? = some d) (r : rightU (namesU ds i) d = true) : StandU ds (i + 1) := fun j hj => by
  by_cases l : j < i
  · exact h j l
  · have l : j = i := by omega
    rw [l]
    exact ⟨d, e, r⟩
section
variable {P : Program} {w : World} {K : PySem.W.Frag} {mg : Str → Option Value} {base : Heap}
theorem uk_due (T : Txt K mg) : FnOk P w K mg base CX0 3 T.f_law_due T.fd_law_due ["entries"] (spU K r_due) := by
  have G_law_right := uk_right (P := P) (w := w) (base := base) T
  refine Fun_okU T.F_law_due sc_law_due (fun ρ Q X h => ?_) (fun cdv A outer s H E hr => ⟨_, (pss_cons (ps_set (i := 1) sc_law_due.nd rfl (.inl rfl) (pe_lst (pa_cons pe_str (pa_cons pe_str (pa_cons pe_str (pa_cons pe_str pa_nil))))))
        (pss_cons (ps_for PassesOwn.never rfl (pi_range1 (by rfl) T.m_range (pa_cons (pe_callB call_len (by rfl) T.m_len (by decide +kernel) (pa_cons (pv 0) pa_nil)) pa_nil)) (pg_name (i := 2) sc_law_due.nd rfl (.inl rfl)) (pss_cons (ps_if (pt_not (pt_val (pe_call G_law_right hr (by rfl) T.g_law_right T.F_law_right.kp T.b_law_right .nil pass0 (pa_cons (pv 1) (pa_cons (pe_ix ix_seq (pv 0) (pv 2) (fun _ _ => rfl)) pa_nil))))) (pss_one (ps_ret (pv 2))) pss_nil)
        (pss_one (ps_expr (pe_bm PySem.F.plainAttrs_list PySem.F.slot_list_append PySem.F.type_list_append mt_append (pv 1) (pa_cons (pe_ix ix_tup (pe_ix ix_seq (pv 0) (pv 2) (fun _ _ => rfl)) pe_int (fun _ _ => rfl)) pa_nil))))))
        (pss_one (ps_ret pe_non)))), ?_⟩)
  · obtain ⟨ds, D, rfl, _⟩ := h
    rfl
  rintro W ρ Qd Xd ⟨ds, D, rfl, hD, hp, hl, q⟩
  show WS K _ _ [.val _, .un, .un] _
  repeat (walk_at "u")
  refine wc_len (show View _ (.dt D) D from rfl) (seqU_len hD) ?_
  repeat (walk_at "u")
  refine ⟨by omega, fun i ρ => ∃ t, ρ = [.val D, .own (strsU (namesU ds i)), t] ∧ nb [t] 0 = true ∧ StandU ds i, ?_, ?_, ?_⟩
  · exact ⟨.un, rfl, rfl, fun j hj => absurd hj (Nat.not_lt_zero j)⟩
  · rintro i x ρ hx ⟨t, rfl, ht, hst⟩
    obtain ⟨hi, hxe⟩ := rgU_get hx
    rw [Int.zero_add] at hxe
    subst hxe
    have hi : i < ds.length := by simpa using hi
    have ed : ds[i]? = some ds[i] := List.getElem?_eq_getElem hi
    generalize ds[i] = d at ed
    have hpd := hp d (List.mem_of_getElem? ed)
    repeat (walk_at "u")
    refine wr_ixD hD (atI_nat ed) ?_
    repeat (walk_at "u")
    refine callU [true, true] rfl rfl fun Q' X' qq xx => ⟨namesU ds i, d, rfl, hpd, qq _ _ ?_⟩
    walk_at "ucl"
    refine ⟨_, rfl, ?_⟩
    cases er : rightU (namesU ds i) d with
    | false =>
      repeat (walk_at "u")
      exact q _ (.inr ⟨i, d, rfl, hst, ed, er⟩)
    | true =>
      repeat (walk_at "u")
      obtain ⟨z, p, rfl, _⟩ := right_tup er
      refine wr_ixD hD (atI_nat ed) ?_
      repeat (walk_at "u")
      refine ⟨_, _, _, _, frzC_ok rfl, rfl, rfl, ?_, ?_⟩
      · rw [List.length_map, namesU, List.length_append, List.length_map, List.length_take]
        show 4 + _ < _
        omega
      · refine ⟨.val (.int i), ?_, rfl, stand_snoc hst ed er⟩
        rw [names_snoc ed]
        show [_, Sl.own (.lst (((namesU ds i).map U.str) ++ [U.str z])), _] = _
        unfold strsU
        rw [List.map_append]
        rfl
  · rintro ρ ⟨t, rfl, ht, hst⟩
    rw [rgU_length] at hst
    repeat (walk_at "u")
    exact q _ (.inl ⟨rfl, by simpa using hst⟩)
end

/-! ### small defs of the law -/
def r_bag : RU := fun ρ Q _ => ∃ (ns : List Int) (i : Int), ρ = [.val (.fls (ns.map .int)), .val (.int i)] ∧ ns.length ≤ 63 ∧ 0 ≤ i ∧ i ≤ 63 ∧ ∀ b, BagU b 0 → Q (.own b) [.val (.fls (ns.map .int)), .val (.int i)]
def intU : U → Bool
  | .int _ => true
  | _ => false
def r_integer : RU := fun ρ Q _ => ∃ d, ρ = [.val d] ∧ plainU d = true ∧ Q (.dt (.bl (intU d))) [.val d]
section
variable {P : Program} {w : World} {K : PySem.W.Frag} {mg : Str → Option Value} {base : Heap}
theorem uk_integer (T : Txt K mg) : FnOk P w K mg base CX0 1 T.f_law_is_integer T.fd_law_is_integer ["thing"] (spU K r_integer) := by
  refine Fun_okU T.F_law_is_integer sc_law_is_integer (fun ρ Q X h => ?_) (fun cdv A outer s H E hr => ⟨_, (pss_one (ps_ret (pe_and (pe_callB call_isi (by rfl) T.m_isinstance (by decide +kernel) (pa_cons (pv 0) (pa_cons (pe_bltn (v := .ty "int") (by rfl) T.m_int (by decide +kernel) rfl) pa_nil))) (pe_one (pe_not (pe_callB call_isi (by rfl) T.m_isinstance (by decide +kernel) (pa_cons (pv 0) (pa_cons (pe_bltn (v := .ty "bool") (by rfl) T.m_bool (by decide +kernel) rfl) pa_nil)))))))), ?_⟩)
  · obtain ⟨d, rfl, _⟩ := h
    rfl
  rintro W ρ Qd Xd ⟨d, rfl, hp, q⟩
  show WS K _ _ [.val _] _
  cases d <;> first | (cases hp; done) | skip
  all_goals (repeat (walk_at "u"))
  all_goals exact q
theorem uk_bag (T : Txt K mg) : FnOk P w K mg base CX0 1 T.f_law_bag T.fd_law_bag ["script", "at"] (spU K r_bag) := by
  refine Fun_okU T.F_law_bag sc_law_bag (fun ρ Q X h => ?_) (fun cdv A outer s H E hr => ⟨_, (pss_cons (ps_set (i := 2) sc_law_bag.nd rfl (.inl rfl) (pe_ifExp (pt_cmpR op_lt (pv 1) (pe_callB call_len (by rfl) T.m_len (by decide +kernel) (pa_cons (pv 0) pa_nil)) (nomark _)) (pe_ix ix_list (pv 0) (pv 1) (fun _ _ => rfl)) pe_int))
        (pss_one (ps_ret (pe_lst (pa_cons (pe_ifExp (pt_cmpR op_ge (pe_callB call_abs (by rfl) T.m_abs (by decide +kernel) (pa_cons (pv 2) pa_nil)) (pe_op op_pow pe_int pe_int) (nomark _)) (pe_callB call_abs (by rfl) T.m_abs (by decide +kernel) (pa_cons (pv 2) pa_nil)) pe_int) (pa_cons (pe_op op_add (pe_op op_modN (pe_callTy call_int1 (by rfl) T.m_int (by decide +kernel) (pa_cons (pv 2) pa_nil)) pe_int) (pe_op op_mul pe_int (pv 1))) (pa_cons pe_int pa_nil))))))), ?_⟩)
  · obtain ⟨ns, i, rfl, _⟩ := h
    rfl
  rintro W ρ Qd Xd ⟨ns, i, rfl, h63, i0, i1, q⟩
  show WS K _ _ [.val _, .val _, .un] _
  repeat (walk_at "u")
  refine ite2 (fun e => ?_) (fun e => ?_)
  · have e := of_decide_eq_true e
    rw [List.length_map] at e
    obtain ⟨k, rfl⟩ := Int.eq_ofNat_of_zero_le i0
    have hk : k < ns.length := by omega
    repeat (walk_at "u")
    refine wr_ixF (atI_nat (v := .int ns[k]) (by rw [List.getElem?_map, List.getElem?_eq_getElem hk]; rfl)) ?_
    generalize ns[k] = c
    repeat (walk_at "u")
    have f1 : 0 ≤ c.fmod 998244353 := Int.fmod_nonneg_of_pos _ (by decide)
    have f2 : c.fmod 998244353 < 998244353 := Int.fmod_lt_of_pos _ (by decide)
    refine ite2 (fun e3 => ?_) (fun e3 => ?_)
    · repeat (walk_at "u")
      refine q _ ⟨_, _, _, rfl, ?_, ?_, ?_, by omega, by omega⟩
      · split <;> omega
      · omega
      · omega
    · repeat (walk_at "u")
      exact q _ ⟨_, _, _, rfl, by omega, by omega, by omega, by omega, by omega⟩
  · repeat (walk_at "u")
    have f0 : (0 : Int).fmod 998244353 = 0 := rfl
    exact q _ ⟨_, _, _, rfl, by omega, by omega, by omega, by omega, by omega⟩
end

theorem strOk_low {z : Str} (h : z.cps.toList.all isLow = true) : PyData.strOk z = true := by
  unfold PyData.strOk
  rw [← Array.all_toList]
  refine List.all_eq_true.mpr fun c hc => ?_
  have h1 := List.all_eq_true.mp h c hc
  unfold isLow at h1
  have h2 := of_decide_eq_true h1
  exact decide_eq_true (by omega)
theorem fine_str {z : Str} {n : Nat} (h : PyData.strOk z = true) (l : z.length ≤ n) (hn : n ≤ 100000 := by decide) : fine (.str z) = true := by
  unfold fine
  rw [h, decide_eq_true (Nat.le_trans l hn)]
  rfl

/-! ### data, drawn entries -/
mutual
def dU : U → PyData
  | .non => .none
  | .bl b => .bool b
  | .int i => .int i
  | .str z => .str z
  | .lst ds => .list (dUs ds)
  | .fls ds => .list (dUs ds)
  | .tup ds => .tuple (dUs ds)
  | _ => .none
def dUs : List U → List PyData
  | [] => []
  | d :: r => dU d :: dUs r
end
mutual
def okU : U → Bool
  | .non => true
  | .bl _ => true
  | .int _ => true
  | .str _ => true
  | .lst ds => okUs ds
  | .tup ds => okUs ds
  | _ => false
def okUs : List U → Bool
  | [] => true
  | d :: r => okU d && okUs r
end
mutual
theorem at_dp {K : PySem.W.Frag} {G : Hp} : ∀ (d : U) (v : V), At K G v d → okU d = true → Dp K G v (dU d)
  | .non, _, h, _ => by cases h; exact .non
  | .bl _, _, h, _ => by cases h; exact .bl _
  | .int _, _, h, _ => by cases h; exact .int _
  | .str _, _, h, _ => by cases h; exact .str _
  | .ty _, _, _, o => nomatch o
  | .raw _, _, _, o => nomatch o
  | .lst ds, _, h, o => by
    cases h with
    | lst hs ha => exact .lst (SqL.of hs) (ats_dp ds _ ha o)
  | .fls _, _, _, o => nomatch o
  | .tup ds, _, h, o => by
    cases h with
    | tup hs ha => exact .tup hs (ats_dp ds _ ha o)
  | .dic _ _, _, _, o => nomatch o
  | .dct _ _, _, _, o => nomatch o
  | .obj _ _ _, _, _, o => nomatch o
  | .exo _ _ _, _, _, o => nomatch o
theorem ats_dp {K : PySem.W.Frag} {G : Hp} : ∀ (ds : List U) (vs : List V), AtAll K G vs ds → okUs ds = true → DpAll K G vs (dUs ds)
  | [], _, h, _ => by cases h; exact .nil
  | d :: r, _, h, o => by
    have o : (okU d && okUs r) = true := o
    rw [Bool.and_eq_true] at o
    cases h with
    | cons h1 h2 => exact .cons (at_dp d _ h1 o.1) (ats_dp r _ h2 o.2)
end
/-- a small value -/
def GoodU (d : U) : Prop := okU d = true ∧ fine (dU d) = true ∧ PyData.depth (dU d) ≤ 3 ∧ plU d = true
/-- a drawn entry -/
def EntU (d : U) : Prop := okU d = true ∧ fine (dU d) = true ∧ PyData.depth (dU d) ≤ 8 ∧ plT d = true
theorem GoodU.ent {d : U} (h : GoodU d) (p : plT d = true) : EntU d := ⟨h.1, h.2.1, Nat.le_trans h.2.2.1 (by decide), p⟩
theorem good_list {x y : U} (hx : GoodU x) (hy : GoodU y) : EntU (.lst [x, y]) := by
  obtain ⟨a1, a2, a3, a4⟩ := hx
  obtain ⟨b1, b2, b3, b4⟩ := hy
  refine ⟨?_, ?_, ?_, rfl⟩
  · show (okU x && (okU y && true)) = true
    rw [a1, b1]
    rfl
  · show (decide (2 ≤ 1000) && (fine (dU x) && (fine (dU y) && true))) = true
    rw [a2, b2]
    rfl
  · show max (PyData.depth (dU x)) (max (PyData.depth (dU y)) 0) + 1 ≤ 8
    omega
theorem good_one {x : U} (hx : GoodU x) : EntU (.tup [x]) := by
  obtain ⟨a1, a2, a3, a4⟩ := hx
  refine ⟨?_, ?_, ?_, ?_⟩
  · show (okU x && true) = true
    rw [a1]
    rfl
  · show (decide (1 ≤ 1000) && (fine (dU x) && true)) = true
    rw [a2]
    rfl
  · show max (PyData.depth (dU x)) 0 + 1 ≤ 8
    omega
  · show (plU x && true) = true
    rw [a4]
    rfl
theorem good_three {x y z : U} (hx : GoodU x) (hy : GoodU y) (hz : GoodU z) : EntU (.tup [x, y, z]) := by
  obtain ⟨a1, a2, a3, a4⟩ := hx
  obtain ⟨b1, b2, b3, b4⟩ := hy
  obtain ⟨c1, c2, c3, c4⟩ := hz
  refine ⟨?_, ?_, ?_, ?_⟩
  · show (okU x && (okU y && (okU z && true))) = true
    rw [a1, b1, c1]
    rfl
  · show (decide (3 ≤ 1000) && (fine (dU x) && (fine (dU y) && (fine (dU z) && true)))) = true
    rw [a2, b2, c2]
    rfl
  · show max (PyData.depth (dU x)) (max (PyData.depth (dU y)) (max (PyData.depth (dU z)) 0)) + 1 ≤ 8
    omega
  · show (plU x && (plU y && (plU z && true))) = true
    rw [a4, b4, c4]
    rfl
def SmallS (z : Str) : Prop := z.length ≤ 40 ∧ PyData.strOk z = true
theorem SmallS.good {z : Str} (h : SmallS z) : GoodU (.str z) := by
  refine ⟨rfl, fine_str h.2 h.1, Nat.le_trans (Nat.le_of_eq (show PyData.depth (.str z) = 0 from rfl)) (by decide), decide_eq_true (by have := h.1; omega)⟩
theorem good_pair {x y : U} (hx : GoodU x) (hy : GoodU y) : EntU (.tup [x, y]) := by
  obtain ⟨a1, a2, a3, a4⟩ := hx
  obtain ⟨b1, b2, b3, b4⟩ := hy
  refine ⟨?_, ?_, ?_, ?_⟩
  · show (okU x && (okU y && true)) = true
    rw [a1, b1]
    rfl
  · show (decide (2 ≤ 1000) && (fine (dU x) && (fine (dU y) && true))) = true
    rw [a2, b2]
    rfl
  · show max (PyData.depth (dU x)) (max (PyData.depth (dU y)) 0) + 1 ≤ 8
    omega
  · show (plU x && (plU y && true)) = true
    rw [a4, b4]
    rfl
theorem isClass_small {z : Str} (h : IsClass z) : SmallS z := by
  obtain ⟨c, cs, ez, hl, hu, hc⟩ := h
  have len : z.length = cs.length + 1 := by
    show z.cps.size = _
    rw [← Array.length_toList, ez, List.length_cons]
  refine ⟨by omega, ?_⟩
  unfold PyData.strOk
  rw [← Array.all_toList, ez]
  have up : ∀ x, isUp x = true → x < 0x110000 := fun x hx => by
    unfold isUp at hx
    have := of_decide_eq_true hx
    omega
  have low : ∀ x, isLow x = true → x < 0x110000 := fun x hx => by
    unfold isLow at hx
    have := of_decide_eq_true hx
    omega
  refine List.all_eq_true.mpr fun x hx => decide_eq_true ?_
  rcases List.mem_cons.mp hx with rfl | hx
  · exact up _ hu
  · have := List.all_eq_true.mp hc x hx
    rw [Bool.or_eq_true] at this
    rcases this with h | h
    · exact up _ h
    · exact low _ h
theorem small_append {z y : Str} (h : SmallS z) (hz : z.length ≤ 20) (e : y.length ≤ 20 ∧ PyData.strOk y = true) : SmallS (z ++ y) := by
  refine ⟨?_, ?_⟩
  · show (z.cps ++ y.cps).size ≤ 40
    rw [Array.size_append]
    have h1 := hz
    have h2 := e.1
    have h1 : z.cps.size ≤ 20 := h1
    have h2 : y.cps.size ≤ 20 := h2
    omega
  · have h1 := h.2
    have h2 := e.2
    unfold PyData.strOk at h1 h2 ⊢
    show (z.cps ++ y.cps).all _ = true
    rw [Array.all_append, h1, h2]
    rfl
theorem isClass_len {z : Str} (h : IsClass z) : z.length ≤ 12 := by
  obtain ⟨c, cs, ez, hl, _⟩ := h
  show z.cps.size ≤ 12
  rw [← Array.length_toList, ez, List.length_cons]
  omega
theorem wr_mulS {K : PySem.W.Frag} {W : Wx} {X : Er → Sls → Prop} {ρ : Sls} {z : Str} {n : Int} {Q : Av → Sls → Prop} (h : MulOk z n) (q : Q (.dt (.str (Txt.mul z n))) ρ) : WR K W (fun x y H Q => ∃ z n, x = .str z ∧ y = .int n ∧ MulOk z n ∧ Q (.str (Txt.mul z n)) H) (.dt (.str z)) (.dt (.int n)) ρ Q X := by
  rintro s v w Q0 rfl D _ h1 h2 k
  rw [at_str h1, at_int h2]
  exact ⟨z, n, rfl, rfl, h, k.dt D (.str _) q⟩
def r_entry : RU := fun ρ Q _ => ∃ (b : U) (n : Int) (ns : List Str), ρ = [.bor b, .bor (strsU ns)] ∧ BagU b n ∧ n ≤ 800000000 ∧ 0 < ns.length ∧ ns.length ≤ 500 ∧ (∀ z ∈ ns, IsClass z) ∧
  ∀ (a : Av) (d b' : U), (a = .dt d ∨ a = .own d) → EntU d → BagU b' (n + 200) → Q a [.bor b', .bor (strsU ns)]
section
variable {P : Program} {w : World} {K : PySem.W.Frag} {mg : Str → Option Value} {base : Heap}
theorem uk_entry (T : Txt K mg) : FnOk P w K mg base CX0 4 T.f_law_entry T.fd_law_entry ["bag", "names"] (spU K r_entry) := by
  have G_law_take := ok_law_take (P := P) (w := w) (base := base) T
  have G_law_of := ok_law_of (P := P) (w := w) (base := base) T
  have G_law_class := ok_law_class (P := P) (w := w) (base := base) T
  refine Fun_okU T.F_law_entry sc_law_entry (fun ρ Q X h => ?_) (fun cdv A outer s H E hr => ⟨_, (pss_cons (ps_set (i := 2) sc_law_entry.nd rfl (.inl rfl) (pe_call G_law_take (hr.mono (by omega)) (by rfl) T.g_law_take T.F_law_take.kp T.b_law_take .nil pass0 (pa_cons (pv 0) (pa_cons pe_int pa_nil))))
        (pss_cons (ps_set (i := 3) sc_law_entry.nd rfl (.inl rfl) (pe_call G_law_of (hr.mono (by omega)) (by rfl) T.g_law_of T.F_law_of.kp T.b_law_of .nil pass0 (pa_cons (pv 0) (pa_cons (pe_lst (pa_cons (pe_call G_law_class hr (by rfl) T.g_law_class T.F_law_class.kp T.b_law_class .nil pass0 (pa_cons (pv 0) pa_nil)) (pa_cons (pe_call G_law_class hr (by rfl) T.g_law_class T.F_law_class.kp T.b_law_class .nil pass0 (pa_cons (pv 0) pa_nil)) (pa_cons (pe_call G_law_of (hr.mono (by omega)) (by rfl) T.g_law_of T.F_law_of.kp T.b_law_of .nil pass0 (pa_cons (pv 0) (pa_cons (pv 1) pa_nil))) pa_nil)))) pa_nil))))
        (pss_cons (ps_set (i := 4) sc_law_entry.nd rfl (.inl rfl) (pe_call G_law_of (hr.mono (by omega)) (by rfl) T.g_law_of T.F_law_of.kp T.b_law_of .nil pass0 (pa_cons (pv 0) (pa_cons (pe_op op_cat (pv 1) (pe_lst (pa_cons pe_non pa_nil))) pa_nil))))
        (pss_cons (ps_if (pt_cmpR op_eq (pv 2) pe_int (nomark _)) (pss_one (ps_ret (pe_lst (pa_cons (pv 3) (pa_cons (pv 4) pa_nil))))) pss_nil)
        (pss_cons (ps_if (pt_cmpR op_eq (pv 2) pe_int (nomark _)) (pss_one (ps_ret (pe_call G_law_of (hr.mono (by omega)) (by rfl) T.g_law_of T.F_law_of.kp T.b_law_of .nil pass0 (pa_cons (pv 0) (pa_cons (pe_lst (pa_cons (pe_tup (pa_cons (pv 3) pa_nil)) (pa_cons (pe_tup (pa_cons (pv 3) (pa_cons (pv 4) (pa_cons (pv 4) pa_nil)))) (pa_cons (pe_tup pa_nil) (pa_cons pe_non (pa_cons (pv 3) (pa_cons pe_bl (pa_cons pe_int pa_nil)))))))) pa_nil))))) pss_nil)
        (pss_cons (ps_if (pt_cmpR op_eq (pv 2) pe_int (nomark _)) (pss_cons (ps_set (i := 5) sc_law_entry.nd rfl (.inl rfl) (pe_lst (pa_cons pe_str (pa_cons pe_str (pa_cons pe_str (pa_cons pe_str (pa_cons (pe_op op_add_str pe_str (pe_op op_mul_str pe_str pe_int)) (pa_cons pe_str (pa_cons (pe_op op_add_str (pv 3) pe_str) (pa_cons pe_bl (pa_cons pe_non (pa_cons pe_int (pa_cons (pe_tup (pa_cons pe_str pa_nil)) (pa_cons (pe_lst (pa_cons pe_str pa_nil)) pa_nil))))))))))))))
        (pss_one (ps_ret (pe_tup (pa_cons (pe_call G_law_of (hr.mono (by omega)) (by rfl) T.g_law_of T.F_law_of.kp T.b_law_of .nil pass0 (pa_cons (pv 0) (pa_cons (pv 5) pa_nil))) (pa_cons (pv 4) pa_nil)))))) pss_nil)
        (pss_cons (ps_if (pt_cmpR op_eq (pv 2) pe_int (nomark _)) (pss_one (ps_ret (pe_tup (pa_cons (pv 3) (pa_cons (pe_call G_law_of (hr.mono (by omega)) (by rfl) T.g_law_of T.F_law_of.kp T.b_law_of .nil pass0 (pa_cons (pv 0) (pa_cons (pe_lst (pa_cons (pv 3) (pa_cons (pe_op op_add_str (pv 3) pe_str) (pa_cons pe_str (pa_cons pe_str (pa_cons pe_bl (pa_cons pe_int (pa_cons pe_int (pa_cons (pe_lst pa_nil) (pa_cons (pe_tup pa_nil) (pa_cons (pe_tup (pa_cons pe_str pa_nil)) (pa_cons (pe_lst (pa_cons pe_str pa_nil)) pa_nil)))))))))))) pa_nil))) pa_nil))))) pss_nil)
        (pss_one (ps_ret (pe_tup (pa_cons (pv 3) (pa_cons (pv 4) pa_nil)))))))))))), ?_⟩)
  · obtain ⟨b, n, ns, rfl, _⟩ := h
    rfl
  rintro W ρ Qd Xd ⟨b, n, ns, rfl, hb, hn, hl, hl2, hns, q⟩
  show WS K _ _ [.bor _, .bor _, .un, .un, .un, .un] _
  repeat (walk_at "u")
  refine callU [true, true] rfl rfl fun Q' X' qq xx => ⟨b, _, _, rfl, hb, by omega, by decide, by decide, fun way b1 d0 d1 hb1 => qq _ _ ?_⟩
  walk_at "ucl"
  repeat (walk_at "u")
  refine callU [true] rfl rfl fun Q' X' qq xx => ⟨b1, _, rfl, hb1, by omega, fun z1 b2 hz1 hb2 => qq _ _ ?_⟩
  walk_at "ucl"
  repeat (walk_at "u")
  refine callU [true] rfl rfl fun Q' X' qq xx => ⟨b2, _, rfl, hb2, by omega, fun z2 b3 hz2 hb3 => qq _ _ ?_⟩
  walk_at "ucl"
  repeat (walk_at "u")
  refine callU [true, true] rfl rfl fun Q' X' qq xx => ⟨b3, _, _, rfl, hb3, by omega, .inl ⟨_, .inr rfl, by rw [List.length_map]; exact hl, by rw [List.length_map]; omega, fun z3 b4 hz3 hb4 => qq _ _ ?_⟩⟩
  walk_at "ucl"
  repeat (walk_at "u")
  obtain ⟨z3, hm3, rfl⟩ := List.mem_map.mp hz3
  have hz3 := hns z3 hm3
  refine callU [true, true] rfl rfl fun Q' X' qq xx => ⟨b4, _, _, rfl, hb4, by omega, .inl ⟨_, .inl rfl, Nat.le_of_ble_eq_true rfl, Nat.le_of_ble_eq_true rfl, fun dn b5 hdn hb5 => qq _ _ ?_⟩⟩
  walk_at "ucl"
  obtain ⟨nm, hnm, rfl⟩ : ∃ z, IsClass z ∧ dn = .str z := by
    simp only [List.mem_cons, List.not_mem_nil, or_false] at hdn
    rcases hdn with rfl | rfl | rfl
    · exact ⟨_, hz1, rfl⟩
    · exact ⟨_, hz2, rfl⟩
    · exact ⟨_, hz3, rfl⟩
  repeat (walk_at "u")
  refine wr_cat (ds := ns.map .str) (es := [.non]) ⟨_, rfl, .inr rfl⟩ rfl (by rw [List.length_map]; show _ + 1 ≤ _; omega) ?_
  repeat (walk_at "u")
  refine callU [true, true] rfl rfl fun Q' X' qq xx => ⟨b5, _, _, rfl, hb5, by omega, .inl ⟨_, .inl rfl, by rw [List.length_append, List.length_map]; show 0 < _ + 1; omega, by rw [List.length_append, List.length_map]; show _ + 1 ≤ _; omega, fun dp b6 hdp hb6 => qq _ _ ?_⟩⟩
  walk_at "ucl"
  have gN : GoodU (.str nm) := (isClass_small hnm).good
  have gP : GoodU dp := by
    rcases List.mem_append.mp hdp with h | h
    · obtain ⟨z, hz, rfl⟩ := List.mem_map.mp h
      exact (isClass_small (hns z hz)).good
    · rw [List.mem_singleton.mp h]
      exact ⟨rfl, rfl, by decide, rfl⟩
  clear hdp
  have lN := isClass_len hnm
  have gL : ∀ y : Str, y.length ≤ 20 ∧ PyData.strOk y = true → GoodU (.str (nm ++ y)) := fun y hy => (small_append (isClass_small hnm) (by omega) hy).good
  repeat (walk_at "u")
  refine ite2 (fun e => ?_) (fun e => ?_)
  · repeat (walk_at "u")
    refine q _ _ _ (.inr rfl) ?_ (hb6.mono (by omega))
    exact good_list gN gP
  repeat (walk_at "u")
  refine ite2 (fun e => ?_) (fun e => ?_)
  · repeat (walk_at "u")
    refine callU [true, true] rfl rfl fun Q' X' qq xx => ⟨b6, _, _, rfl, hb6, by omega, .inl ⟨_, .inl rfl, Nat.le_of_ble_eq_true rfl, Nat.le_of_ble_eq_true rfl, fun d b7 hd hb7 => qq _ _ ?_⟩⟩
    walk_at "ucl"
    repeat (walk_at "u")
    refine q _ _ _ (.inl rfl) ?_ (hb7.mono (by omega))
    simp only [List.mem_cons, List.not_mem_nil, or_false] at hd
    rcases hd with rfl | rfl | rfl | rfl | rfl | rfl | rfl
    · exact good_one gN
    · exact good_three gN gP gP
    · exact ⟨rfl, rfl, by decide, rfl⟩
    · exact ⟨rfl, rfl, by decide, rfl⟩
    · exact gN.ent rfl
    · exact ⟨rfl, rfl, by decide, rfl⟩
    · exact ⟨rfl, rfl, by decide, rfl⟩
  repeat (walk_at "u")
  refine ite2 (fun e => ?_) (fun e => ?_)
  · repeat (walk_at "u")
    refine wr_mulS ⟨by decide +kernel, fun _ _ => by decide +kernel, fun _ _ => by decide +kernel⟩ ?_
    repeat (walk_at "u")
    refine wr_cat_str (by decide +kernel) ?_
    repeat (walk_at "u")
    refine wr_cat_str (by show nm.length + 1 ≤ _; omega) ?_
    repeat (walk_at "u")
    refine callU [true, true] rfl rfl fun Q' X' qq xx => ⟨b6, _, _, rfl, hb6, by omega, .inl ⟨_, .inr rfl, Nat.le_of_ble_eq_true rfl, Nat.le_of_ble_eq_true rfl, fun d b7 hd hb7 => qq _ _ ?_⟩⟩
    walk_at "ucl"
    repeat (walk_at "u")
    refine q _ _ _ (.inl rfl) (good_pair ?_ gP) (hb7.mono (by omega))
    simp only [List.mem_cons, List.not_mem_nil, or_false] at hd
    rcases hd with rfl | rfl | rfl | rfl | rfl | rfl | rfl | rfl | rfl | rfl | rfl | rfl
    · exact SmallS.good ⟨by decide +kernel, by decide +kernel⟩
    · exact SmallS.good ⟨by decide +kernel, by decide +kernel⟩
    · exact SmallS.good ⟨by decide +kernel, by decide +kernel⟩
    · exact SmallS.good ⟨by decide +kernel, by decide +kernel⟩
    · exact SmallS.good ⟨by decide +kernel, by decide +kernel⟩
    · exact SmallS.good ⟨by decide +kernel, by decide +kernel⟩
    · exact gL _ ⟨by decide +kernel, by decide +kernel⟩
    · exact ⟨rfl, rfl, by decide, rfl⟩
    · exact ⟨rfl, rfl, by decide, rfl⟩
    · exact ⟨rfl, rfl, by decide, rfl⟩
    · exact ⟨rfl, by decide +kernel, by decide +kernel, rfl⟩
    · exact ⟨rfl, by decide +kernel, by decide +kernel, rfl⟩
  repeat (walk_at "u")
  refine ite2 (fun e => ?_) (fun e => ?_)
  · repeat (walk_at "u")
    refine wr_cat_str (by show nm.length + 1 ≤ _; omega) ?_
    repeat (walk_at "u")
    refine callU [true, true] rfl rfl fun Q' X' qq xx => ⟨b6, _, _, rfl, hb6, by omega, .inl ⟨_, .inl rfl, Nat.le_of_ble_eq_true rfl, Nat.le_of_ble_eq_true rfl, fun d b7 hd hb7 => qq _ _ ?_⟩⟩
    walk_at "ucl"
    repeat (walk_at "u")
    refine q _ _ _ (.inl rfl) (good_pair gN ?_) (hb7.mono (by omega))
    simp only [List.mem_cons, List.not_mem_nil, or_false] at hd
    rcases hd with rfl | rfl | rfl | rfl | rfl | rfl | rfl | rfl | rfl | rfl | rfl
    · exact gN
    · exact gL _ ⟨by decide +kernel, by decide +kernel⟩
    · exact SmallS.good ⟨by decide +kernel, by decide +kernel⟩
    · exact SmallS.good ⟨by decide +kernel, by decide +kernel⟩
    · exact ⟨rfl, rfl, by decide, rfl⟩
    · exact ⟨rfl, rfl, by decide, rfl⟩
    · exact ⟨rfl, rfl, by decide, rfl⟩
    · exact ⟨rfl, rfl, by decide, rfl⟩
    · exact ⟨rfl, rfl, by decide, rfl⟩
    · exact ⟨rfl, by decide +kernel, by decide +kernel, rfl⟩
    · exact ⟨rfl, by decide +kernel, by decide +kernel, rfl⟩
  repeat (walk_at "u")
  exact q _ _ _ (.inl rfl) (good_pair gN gP) (hb6.mono (by omega))
end

/-! ### making an instance whose __init__ may let an error out, read at the slots -/
def tMkS (C : Addr) (sp : Sp) (E : L2.St → XK) (t : TA) : TE := fun σ H Q =>
  t σ H fun us H' => ∀ o d, H' o = none → H' d = none → d ≠ o → sp (.ref o :: us) (upd (upd H' d (.own o)) o (.ins C d [])) (fun v G => v = .non ∧ Q (.ref o) G) (E σ)
section
variable {X : Cx} {CX : CXT} {m : Nat} {i C : Addr} {fd : FuncData} {qs : List Str} {sp : Sp} {E : L2.St → XK}
theorem run_mkS {pins : List (Addr × Obj)} {σ : L2.St} {H : Hp} {s : Shared} {Q : VK} {us : List Value} {ws : List V}
    (M : Mk X.K C i) (F : FnOk X.prog X.w X.K X.mg X.base CX m i fd qs sp)
    (hr : Room (m + 1) X.A) (hb : Binds X.K fd qs []) (hx : PassesAt CX X σ (E σ)) (I : Inv X pins σ H s) (r : Vals ws us)
    (h : ∀ o d, H o = none → H d = none → d ≠ o → sp (.ref o :: ws) (upd (upd H d (.own o)) o (.ins C d [])) (fun v G => v = .non ∧ Q (.ref o) G) (E σ)) :
    wpAny (model X.prog X.w) X.A (call (.ref C) us) (EP X pins σ Q) X.xe s := by
  obtain ⟨z, hz⟩ : ∃ z, z = s.heap.objs.size := ⟨_, rfl⟩
  have h0 := h (z + 1) z (I.hok.fresh (by omega)) (I.hok.fresh (by omega)) (Nat.ne_of_lt (Nat.lt_succ_self _))
  subst hz
  have J := Inv.made (C := C) I
  have rr : Vals (V.ref (s.heap.objs.size + 1) :: ws) (Value.ref (s.heap.objs.size + 1) :: us) := .cons rfl r
  have len : (Value.ref (s.heap.objs.size + 1) :: us).length = qs.length :=
    rr.length.symm.trans (F.len _ _ _ _ h0)
  have bb := hb _ (Value.ref (s.heap.objs.size + 1) :: us) J.kIn (by rw [List.append_nil]; exact len)
  rw [List.append_nil] at bb
  have go := F.run _ X.stack _ _ ⟨Value.ref (s.heap.objs.size + 1) :: us, []⟩ _ _ _ (E σ) (hr.make C us [])
    (J.env0.make C us []) bb rr h0
  refine wpAny_call (make_map (f := i) I.kIn M.makes M.init (beq_iff_eq.mp M.fn) (codeAny_mono go fun e s1 g => ?_))
  match e, g with
  | .error x, g => exact hx pins _ _ x s1 J g
  | .ok (.ret u), g =>
    obtain ⟨v, G, J2, rv, ev, last⟩ := J.after g
    subst ev
    exact ⟨rv, V.ref (s.heap.objs.size + 1), G, J2, rfl, last⟩
  | .ok .next, g => exact False.elim g
  | .ok .brk, g => exact False.elim g
  | .ok .cont, g => exact False.elim g
theorem pe_mkS {x : Str} {p pos : Pos} {e : Expr} {es : List Expr} {t : TA} (M : Mk X.K C i)
    (F : FnOk X.prog X.w X.K X.mg X.base CX m i fd qs sp) (hr : Room (m + 1) X.A) (hg : Gl X x)
    (hm : X.mg x = some (.ref C)) (hb : Binds X.K fd qs []) (hx : ∀ σ, PassesAt CX X σ (E σ)) (ha : PA X (e :: es) t)
    (hd : (x == ("__debug__" : Str)) = false := by decide)
    (he : starEach (e :: es) X.env = (false, eval e X.env) :: starEach es X.env := by rfl)
    (hp : (backTo pos (starEach es X.env)).any (·.1) = false := by rfl) :
    PE X (.Call (.Name x p) (e :: es) [] pos) (tMkS C sp E t) := by
  refine ⟨fun pins s σ H Q I h => wpAny_Call_Name_kw (ld_glob I hg hm ?_ hd)⟩
  refine PySem.W.callWith_K (h₀ := X.base) I.ok.mod.kin M.kp (thn (ha.run pos pins s σ H _ I h) ?_) he hp
  rintro us s1 ⟨vs, H1, I1, r, q⟩
  exact ⟨I1.kIn, run_mkS M F hr hb (hx σ) I1 r q⟩
end

/-! ### what is got -/
def GotU (CB : Addr) (d o : U) : Prop := (∃ ds, seqU d = some ds ∧ ((o = .non ∧ StandU ds ds.length) ∨ ∃ (i : Nat) (x : U), o = .exo CB ["at"] [.int i] ∧ StandU ds i ∧ ds[i]? = some x ∧ rightU (namesU ds i) x = false)) ∨ (seqU d = none ∧ o = .exo CB ["at"] [.int (-1)])
def r_got (CB : Addr) : RU := fun ρ Q _ => ∃ (d : U), ρ = [.val d] ∧ okU d = true ∧ fine (dU d) = true ∧ PyData.depth (dU d) ≤ 60 ∧ (∀ ds, seqU d = some ds → ds.length ≤ 45) ∧ ∀ o, GotU CB d o → Q (.dt o) [.val d]
theorem dUs_map : ∀ ds : List U, dUs ds = ds.map dU
  | [] => rfl
  | d :: r => congrArg (dU d :: ·) (dUs_map r)
theorem name_ent (x : U) : (entD (dU x)).1 = nameU x := by
  cases x with
  | tup ds =>
    match ds with
    | [] => rfl
    | [a] => cases a <;> rfl
    | [a, p] =>
      cases a with
      | str z => cases p <;> rfl
      | _ => rfl
    | a :: b :: c :: r => cases a <;> first | rfl | (cases b <;> rfl)
  | _ => rfl
theorem names_same (ds : List U) (i : Nat) : namesOf (((dUs ds).take i).map entD) = namesU ds i := by
  rw [dUs_map, ← List.map_take]
  unfold namesOf famOf namesU
  rw [List.map_append, List.map_map, List.map_map, List.map_map]
  show names4 ++ _ = _
  refine congrArg (names4 ++ ·) (List.map_congr_left fun x _ => ?_)
  exact name_ent x
theorem okUs_mem : ∀ {ds : List U} {x : U}, okUs ds = true → x ∈ ds → okU x = true
  | d :: r, x, h, m => by
    have h : (okU d && okUs r) = true := h
    rw [Bool.and_eq_true] at h
    rcases List.mem_cons.mp m with rfl | m
    · exact h.1
    · exact okUs_mem h.2 m
theorem cbd_right {x : U} (ns : List Str) (h : okU x = true) : cbd (dU x) ns = rightU ns x := by
  cases x with
  | tup ds =>
    match ds with
    | [] => rfl
    | [a] => cases a <;> rfl
    | [a, p] =>
      cases a with
      | str z =>
        cases p <;> first | rfl | exact absurd h Bool.false_ne_true
      | _ => rfl
    | a :: b :: c :: r => cases a <;> rfl
  | _ => rfl
theorem stand_same {ds : List U} (h : okUs ds = true) (i : Nat) : Stand (dUs ds) i ↔ StandU ds i := by
  have key : ∀ j, (∃ d, (dUs ds)[j]? = some d ∧ cbd d (namesOf (((dUs ds).take j).map entD)) = true) ↔ ∃ d, ds[j]? = some d ∧ rightU (namesU ds j) d = true := fun j => by
    rw [names_same, dUs_map, List.getElem?_map]
    cases e : ds[j]? with
    | none =>
      constructor
      · rintro ⟨d, h1, _⟩
        cases h1
      · rintro ⟨d, h1, _⟩
        cases h1
    | some x =>
      have hx := cbd_right (namesU ds j) (okUs_mem h (List.mem_of_getElem? e))
      constructor
      · rintro ⟨d, h1, h2⟩
        cases h1
        exact ⟨x, rfl, hx ▸ h2⟩
      · rintro ⟨d, h1, h2⟩
        cases h1
        exact ⟨_, rfl, hx.trans h2⟩
  exact ⟨fun s j hj => (key j).mp (s j hj), fun s j hj => (key j).mpr (s j hj)⟩
theorem seqD_dU {d : U} (h : okU d = true) : seqD (dU d) = (seqU d).map dUs := by
  cases d <;> first | rfl | exact absurd h Bool.false_ne_true
theorem no_own {G H : Hp} {d : U} {σ : L2.St} {a : Addr} : ¬ Owns ⟨G, [.val d], σ, H⟩ a := by
  rintro ⟨i, ⟨sl, x, e1, e2⟩, _⟩
  have := List.mem_of_getElem? e1
  rw [List.mem_singleton.mp this] at e2
  cases e2
theorem val_step {K : PySem.W.Frag} {G H G2 H2 : Hp} {d : U} {v : V} (D : Den K ⟨G, [.val d], [some v], H⟩) (s1 : Same G G2) (s2 : Same H H2) (s3 : Same G2 H2) (n : ∀ q, H q ≠ none → G q = none → G2 q = none) :
    Den K ⟨G2, [.val d], [some v], H2⟩ ∧ Stp ⟨G, [.val d], [some v], H⟩ ⟨G2, [.val d], [some v], H2⟩ := by
  refine ⟨⟨s3, rfl, fun i x e => ?_, fun i sl x e1 e2 => ?_, fun i j a h1 _ => absurd ⟨i, h1⟩ no_own⟩, ⟨s1, fun a o e _ => s2 a o e, fun a e => fresh_of s2 e, fun a h => absurd h no_own, fun a n1 _ e => n a n1 e, fun i x e => ?_⟩⟩
  · obtain ⟨z, h1, h2⟩ := D.val i x e
    exact ⟨z, h1, At.mono s1 _ _ h2⟩
  · have := List.mem_of_getElem? e1
    rw [List.mem_singleton.mp this] at e2
    cases e2
  · have := List.mem_singleton.mp (List.mem_of_getElem? e)
    cases this
section
variable {P : Program} {w : World} {K : PySem.W.Frag} {mg : Str → Option Value} {base : Heap}
theorem uk_got (T : Txt K mg) : FnOk P w K mg base CX0 6 T.f_law_got T.fd_law_got ["pairs"] (spU K (r_got T.cC_BadFamily)) := by
  have G_Family___init__ := ok_finitD (P := P) (w := w) (base := base) T
  refine T.F_law_got.ok sc_law_got (fun vs H Q E h => ?_) (fun cdv A outer s H vs Q E hr h => ?_)
  · exact spU_len (n := 1) h fun ρ Q X h => by
      obtain ⟨d, rfl, _⟩ := h
      rfl
  · obtain ⟨G, ρ, D, ar, d, rfl, ok, fi, dp, hl, q⟩ := h
    obtain ⟨v, e1, hv⟩ := D.val 0 d rfl
    obtain rfl : vs = [v] := by
      have hlen : (vs.map some).length = 1 := D.len
      match vs, hlen, e1 with
      | [x], _, e1 => cases e1; rfl
    refine ⟨_, (pss_cons (ps_set (i := 1) sc_law_got.nd rfl (.inl rfl) pe_non)
        (pss_cons (ps_try_keep (i := 2) (Wo := fun _ _ _ _ => False) rfl rfl rfl sc_law_got.nd rfl rfl ⟨rfl, by decide, .inl T.cE_BadFamily.g⟩ takes0
          (fun W pn xe tk po => (pss_one (ps_expr (pe_mkS T.mk_Family G_Family___init__ (hr.mono (by omega)) (by rfl) T.gC_Family T.b_Family___init__ (fun σ => passAt tk σ) (pa_cons (pv 0) pa_nil)))))
          (fun a ob cls dd pn hz hf => (pss_one (ps_set (i := 1) sc_law_got.nd rfl (.inl rfl) (pv 2)))))
        (pss_one (ps_ret (pv 1))))), ?_⟩
    repeat (walk_at "lw w")
    show ∀ (o d' : Addr), H o = none → H d' = none → d' ≠ o → sp_finitD K T.C_Family T.cC_BadFamily (V.ref o :: [v]) (upd (upd H d' (HO.own o)) o (HO.ins T.C_Family d' [])) _ _
    intro o d' no nd ne
    have Sm : Same H (upd (upd H d' (HO.own o)) o (HO.ins T.C_Family d' [])) := (same_new nd).trans (same_new (by rw [upd_ne (Ne.symm ne)]; exact no))
    have eo : upd (upd H d' (HO.own o)) o (HO.ins T.C_Family d' []) o = some (HO.ins T.C_Family d' []) := upd_same
    generalize upd (upd H d' (HO.own o)) o (HO.ins T.C_Family d' []) = H1 at *
    have hv1 : Dp K H1 v (dU d) := Dp.same (D.sub.trans Sm) _ _ (at_dp d v hv ok)
    have keep : ∀ {H' : Hp}, Keep o H1 H' → Same H H' := fun k q u e => k q u (ne_of_none e no) (Sm _ _ e)
    have good : ∀ (H' : Hp), Keep o H1 H' → GotU T.cC_BadFamily d .non → Q .non H' := fun H' k g => by
      obtain ⟨D2, S2⟩ := val_step D (Same.refl G) (keep k) (D.sub.trans (keep k)) (fun _ _ h => h)
      exact q .non g .non ⟨G, [.val d], [some v], H'⟩ rfl rfl D2 S2 trivial .non
    have bad : ∀ (H' : Hp) (e : Addr) (i : Int), H1 e = none → H' e = some (.xd [("at", .int i)]) → Same H1 H' → GotU T.cC_BadFamily d (.exo T.cC_BadFamily ["at"] [.int i]) →
        ∀ a, H' a = none → Q (.ref a) (upd H' a (ExK (.ref T.cC_BadFamily) (some e) a)) := fun H' e i n1 e1 k0 g a na => by
      have k : Keep o H1 H' := fun q u _ h => k0 q u h
      have ne : H e = none := fresh_of Sm n1
      have na0 : H a = none := fresh_of (keep k) na
      have ge : G e = none := fresh_of D.sub ne
      have ga : G a = none := fresh_of D.sub na0
      have hae : e ≠ a := ne_of_none e1 na
      have s1 : Same G (upd (upd G e (.xd [("at", .int i)])) a (ExK (.ref T.cC_BadFamily) (some e) a)) := (same_new ge).trans (same_new (by rw [upd_ne (Ne.symm hae)]; exact ga))
      have s2 : Same H (upd H' a (ExK (.ref T.cC_BadFamily) (some e) a)) := (keep k).trans (same_new na)
      have s3 : Same (upd (upd G e (.xd [("at", .int i)])) a (ExK (.ref T.cC_BadFamily) (some e) a)) (upd H' a (ExK (.ref T.cC_BadFamily) (some e) a)) := fun p u h => by
        by_cases h1 : p = a
        · subst h1
          rw [upd_same] at h ⊢
          exact h
        · rw [upd_ne h1] at h ⊢
          by_cases h2 : p = e
          · subst h2
            rw [upd_same] at h
            rw [e1]
            exact h
          · rw [upd_ne h2] at h
            exact keep k _ _ (D.sub _ _ h)
      obtain ⟨D2, S2⟩ := val_step D s1 s2 s3 fun p n1 n2 => by
        rw [upd_ne (fun h => n1 (by rw [h]; exact na0)), upd_ne (fun h => n1 (by rw [h]; exact ne))]
        exact n2
      refine q _ g (.ref a) ⟨_, [.val d], [some v], _⟩ rfl rfl D2 S2 trivial ?_
      exact At.exo (fs := [("at", .int i)]) upd_same ((upd_ne hae).trans upd_same) (.cons (.int i) .nil)
    refine ⟨o, d', v, dU d, rfl, eo, hv1, fi, dp, fun ds' hs => ?_, fun hs e H' n1 e1 k => ?_⟩
    · rw [seqD_dU ok] at hs
      cases hq : seqU d with
      | none => rw [hq] at hs; cases hs
      | some ds =>
        rw [hq] at hs
        cases hs
        have oks : okUs ds = true := by
          rcases seqU_or hq with rfl | rfl
          · exact ok
          · exact ok
        have hlen : (dUs ds).length = ds.length := by rw [dUs_map, List.length_map]
        refine ⟨by rw [hlen]; exact hl ds hq, fun i x e H' hst ex hc n1 e1 k => ?_, fun H' hst _ k => ⟨rfl, .non, rfl, good H' k (.inl ⟨ds, hq, .inl ⟨rfl, ?_⟩⟩)⟩⟩
        · refine ⟨true, T.cE_BadFamily.te, nofun, fun _ a na => ?_⟩
          rw [dUs_map, List.getElem?_map] at ex
          cases ey : ds[i]? with
          | none => rw [ey] at ex; cases ex
          | some y =>
            rw [ey] at ex
            cases ex
            rw [names_same, cbd_right _ (okUs_mem oks (List.mem_of_getElem? ey))] at hc
            exact ⟨.ref a, rfl, fun na2 => ⟨.ref a, rfl, bad H' e i n1 e1 k (.inl ⟨ds, hq, .inr ⟨i, y, rfl, (stand_same oks i).mp hst, ey, hc⟩⟩) a na⟩⟩
        · rw [hlen] at hst
          exact (stand_same oks _).mp hst
    · rw [seqD_dU ok] at hs
      have hq : seqU d = none := by
        cases hq : seqU d with
        | none => rfl
        | some ds => rw [hq] at hs; cases hs
      refine ⟨true, T.cE_BadFamily.te, nofun, fun _ a na => ?_⟩
      exact ⟨.ref a, rfl, fun na2 => ⟨.ref a, rfl, bad H' e (-1) n1 e1 k (.inr ⟨hq, rfl⟩) a na⟩⟩
end

/-! ### two new own objects at once -/
section
variable {K : PySem.W.Frag} {W : Wx} {ρ : Sls} {P : Post}
theorem nb_setO {ρ : Sls} {i j : Nat} {d : U} (h : nb ρ i = true) : nb (ρ.set j (.own d)) i = true := by
  obtain ⟨hl, hb⟩ := nb_lt h
  unfold nb
  by_cases e : j = i
  · subst e
    rw [List.getElem?_set_self hl]
  · rw [List.getElem?_set_ne e]
    exact h
theorem ws_par_new {i j : Nat} {te tu : TE} (h : WE K W te ρ (fun a ρ1 => ∃ d1, a = .own d1 ∧ WE K W tu ρ1 (fun b ρ2 => ∃ d2, b = .own d2 ∧ nb ρ2 i = true ∧ nb ρ2 j = true ∧ P.nx ((ρ2.set i (.own d1)).set j (.own d2))) P.xc) P.xc) : WS K W (tPar i j (tCons te (tCons tu tNil))) ρ P := by
  rintro s D rfl d x f
  refine h s _ rfl d x fun v a s1 n1 ok1 ⟨d1, e1, h2⟩ => ?_
  subst e1
  show tu s.σ s1.H _
  rw [← n1.slots]
  refine h2 s1 _ rfl n1.den (x.next n1.stp) fun w b s2 n2 ok2 ⟨d2, e2, b1, b2, q⟩ => ?_
  subst e2
  have n12 := n1.trans n2
  have ok2' := ok2.base n1.stp
  obtain ⟨a1, o1, rfl, p1, p2, p3, p4, p5⟩ := ok1
  obtain ⟨t1, t2, t3⟩ := n2.stp.temp p1 p2 p4
  have okA : AvOk K s s2 (.ref a1) (.own d1) := ⟨a1, o1, rfl, t1, t2, p3.mono n2.stp.sub, t3, p5⟩
  obtain ⟨st3, d3⟩ := put_own n12.stp n2.den b1 okA
  obtain ⟨a2, o2, rfl, r1, r2, r3, r4, r5⟩ := ok2
  have n21 : a2 ≠ a1 := by
    rintro rfl
    rcases r5 with h | h
    · rw [p1] at h
      cases h
    · exact p4 h
  have r6 : s.H a2 = none ∨ Owns s a2 := by
    obtain ⟨a3, o3, e3, _, _, _, _, h⟩ := ok2'
    cases e3
    exact h
  have okB : AvOk K s { s2 with ρ := s2.ρ.set i (.own d1), σ := s2.σ.set i (some (.ref a1)) } (.ref a2) (.own d2) := by
    refine ⟨a2, o2, rfl, r1, r2, r3, ?_, r6⟩
    rintro ⟨k, ⟨sl, x, q1, q2⟩, q3⟩
    rcases get_set q3 with ⟨rfl, h, _⟩ | ⟨n, q3⟩
    · cases h
      exact n21 rfl
    · rcases get_set q1 with ⟨h, _⟩ | ⟨_, q1⟩
      · exact n h
      · exact r4 ⟨k, ⟨sl, x, q1, q2⟩, q3⟩
  obtain ⟨st4, d4⟩ := put_own (i := j) st3 d3 (nb_setO b2) okB
  have := f.nx _ st4 d4 q
  rw [show ({ s2 with ρ := (s2.ρ.set i (.own d1)).set j (.own d2), σ := (s2.σ.set i (some (.ref a1))).set j (some (.ref a2)) } : Sta).σ = (s.σ.set i (some (.ref a1))).set j (some (.ref a2)) from by rw [← n12.slots]] at this
  refine ⟨_, _, rfl, ?_⟩
  rw [n1.slots]
  exact this
end
/-! ### the law -/
theorem law_turns (x : Int) (h0 : 0 ≤ x) (h1 : x ≤ 63) : -4000000000 ≤ (if (if x < 8 then x else 8) > 1 then (if x < 8 then x else 8) else 1) ∧ (if (if x < 8 then x else 8) > 1 then (if x < 8 then x else 8) else 1) ≤ 4000000000 ∧ (if (if x < 8 then x else 8) > 1 then (if x < 8 then x else 8) else 1).toNat ≤ 8 := by
  split <;> split <;> omega
theorem isClass_of {z : Str} (h : isClassL z.cps.toList = true) : IsClass z := by
  cases e : z.cps.toList with
  | nil => rw [e] at h; cases h
  | cons c cs =>
    rw [e, isClassL_cons, Bool.and_eq_true, Bool.and_eq_true] at h
    obtain ⟨h1, h2, h3⟩ := h
    have h1 := of_decide_eq_true h1
    exact ⟨c, cs, e, by omega, h2, List.all_eq_true.mpr fun x hx => List.all_eq_true.mp h3 x (List.mem_cons_of_mem _ hx)⟩
theorem names4_cls : ∀ z ∈ names4, IsClass z := fun z hz => by
  refine isClass_of ?_
  have h : (names4.all fun z => isClassL z.cps.toList) = true := by decide +kernel
  exact List.all_eq_true.mp h z hz
theorem atI_last {α : Type} {xs : List α} {x : α} : atI (xs ++ [x]) (-1) = some x := by
  have e : ixN (xs ++ [x]).length (-1) = some xs.length := by
    rw [List.length_append]
    show (if (0 : Int) ≤ -1 then _ else if -((xs.length + 1 : Nat) : Int) ≤ -1 then some (-1 + ((xs.length + 1 : Nat) : Int)).toNat else none) = _
    rw [if_neg (by decide), if_pos (by omega)]
    exact congrArg some (by omega)
  show (ixN (xs ++ [x]).length (-1)).bind _ = _
  rw [e]
  simp
theorem seq_good : ∀ {ds : List U}, (∀ d ∈ ds, EntU d) → okUs ds = true ∧ fineAll (dUs ds) = true ∧ PyData.depthAll (dUs ds) ≤ 8
  | [], _ => ⟨rfl, rfl, Nat.zero_le _⟩
  | d :: r, h => by
    obtain ⟨a1, a2, a3, _⟩ := h d List.mem_cons_self
    obtain ⟨b1, b2, b3⟩ := seq_good (ds := r) fun x hx => h x (List.mem_cons_of_mem _ hx)
    refine ⟨?_, ?_, ?_⟩
    · show (okU d && okUs r) = true
      rw [a1, b1]
      rfl
    · show (fine (dU d) && fineAll (dUs r)) = true
      rw [a2, b2]
      rfl
    · show max (PyData.depth (dU d)) (PyData.depthAll (dUs r)) ≤ 8
      omega
theorem seq_data {D : U} {ds : List U} (hD : seqU D = some ds) (h : ∀ d ∈ ds, EntU d) (l : ds.length ≤ 10) : okU D = true ∧ fine (dU D) = true ∧ PyData.depth (dU D) ≤ 60 := by
  obtain ⟨h1, h2, h3⟩ := seq_good h
  have hl : (dUs ds).length ≤ 1000 := by rw [dUs_map, List.length_map]; omega
  rcases seqU_or hD with rfl | rfl
  · refine ⟨h1, ?_, ?_⟩
    · show (decide ((dUs ds).length ≤ 1000) && fineAll (dUs ds)) = true
      rw [decide_eq_true hl, h2]
      rfl
    · show PyData.depthAll (dUs ds) + 1 ≤ 60
      omega
  · refine ⟨h1, ?_, ?_⟩
    · show (decide ((dUs ds).length ≤ 1000) && fineAll (dUs ds)) = true
      rw [decide_eq_true hl, h2]
      rfl
    · show PyData.depthAll (dUs ds) + 1 ≤ 60
      omega
theorem stand_not {ds : List U} {i j : Nat} {d : U} (s : StandU ds i) (e : ds[j]? = some d) (w : rightU (namesU ds j) d = false) : ¬ j < i := fun h => by
  obtain ⟨d', e', r⟩ := s j h
  rw [e] at e'
  cases e'
  rw [w] at r
  cases r
theorem got_due {CB : Addr} {D g o : U} {ds : List U} (hD : seqU D = some ds) (hg : GotU CB D g) (ho : DueU ds o) : (g = .non ∧ o = .non) ∨ ∃ i : Int, g = .exo CB ["at"] [.int i] ∧ o = .int i := by
  rcases hg with ⟨ds', e, hg⟩ | ⟨e, _⟩
  · rw [hD] at e
    cases e
    rcases hg with ⟨rfl, s1⟩ | ⟨i, x, rfl, s1, e1, w1⟩
    · rcases ho with ⟨rfl, _⟩ | ⟨j, y, rfl, s2, e2, w2⟩
      · exact .inl ⟨rfl, rfl⟩
      · exact absurd (lt_of_get e2) (stand_not s1 e2 w2)
    · rcases ho with ⟨rfl, s2⟩ | ⟨j, y, rfl, s2, e2, w2⟩
      · exact absurd (lt_of_get e1) (stand_not s2 e1 w1)
      · have h1 := stand_not s1 e2 w2
        have h2 := stand_not s2 e1 w1
        have h : i = j := by omega
        exact .inr ⟨i, rfl, by rw [h]⟩
  · rw [hD] at e
    cases e
def r_law : RU := fun ρ Q _ => ∃ ns : List Int, ρ = [.val (.fls (ns.map .int))] ∧ ns.length ≤ 63 ∧ Q (.dt (.bl true)) [.val (.fls (ns.map .int))]
theorem ats_ints {K : PySem.W.Frag} {G : Hp} : ∀ ns : List Int, AtAll K G (ns.map V.int) (ns.map U.int)
  | [] => .nil
  | n :: ns => .cons (.int n) (ats_ints ns)
theorem law_of_U {K : PySem.W.Frag} {vs : List V} {H : Hp} {Q : VK} {E : XK} (h : spLaw K vs H Q E) : spU K r_law vs H Q E := by
  obtain ⟨a, ns, rfl, hs, hl, _, q⟩ := h
  refine ⟨H, [.val (.fls (ns.map .int))], ⟨Same.refl H, rfl, fun i d e => ?_, fun i sl d e1 e2 => ?_, fun i j a h1 _ => absurd ⟨i, h1⟩ no_own⟩, fun i sl e => ?_, ns, rfl, hl, fun v s' _ _ _ _ _ hv => ?_⟩
  · match i, e with
    | 0, e =>
      cases e
      exact ⟨.ref a, rfl, .fls hs (ats_ints ns)⟩
    | i + 1, e => cases e
  · have := List.mem_of_getElem? e1
    rw [List.mem_singleton.mp this] at e2
    cases e2
  · exact .inl ⟨_, List.mem_singleton.mp (List.mem_of_getElem? e)⟩
  · have hv : At K s'.G v (.bl true) := hv
    cases hv
    exact q _
section
variable {P : Program} {w : World} {K : PySem.W.Frag} {mg : Str → Option Value} {base : Heap}
theorem uk_law (T : Txt K mg) {f : Addr} {fd : FuncData} (F : Fun K "law" "law" s_law f fd) : FnOk P w K mg base CX0 9 f fd ["script"] (spU K r_law) := by
  have G_law_bag := uk_bag (P := P) (w := w) (base := base) T
  have G_law_take := ok_law_take (P := P) (w := w) (base := base) T
  have G_law_entry := uk_entry (P := P) (w := w) (base := base) T
  have G_law_right := uk_right (P := P) (w := w) (base := base) T
  have G_law_due := uk_due (P := P) (w := w) (base := base) T
  have G_law_got := uk_got (P := P) (w := w) (base := base) T
  have G_law_is_integer := uk_integer (P := P) (w := w) (base := base) T
  refine Fun_okU F sc_law (fun ρ Q X h => ?_) (fun cdv A outer s H E hr => ⟨_, (pss_cons (ps_for PassesOwn.never rfl (pi_range1 (by rfl) T.m_range (pa_cons (pe_callB (call_max2 rfl) (by rfl) T.m_max (by decide +kernel) (pa_cons pe_int (pa_cons (pe_callB (call_min2 rfl) (by rfl) T.m_min (by decide +kernel) (pa_cons pe_int (pa_cons (pe_callB call_len (by rfl) T.m_len (by decide +kernel) (pa_cons (pv 0) pa_nil)) pa_nil))) pa_nil))) pa_nil)) (pg_name (i := 1) sc_law.nd rfl (.inl rfl)) (pss_cons (ps_set (i := 2) sc_law.nd rfl (.inl rfl) (pe_call G_law_bag (hr.mono (by omega)) (by rfl) T.g_law_bag T.F_law_bag.kp T.b_law_bag .nil pass0 (pa_cons (pv 0) (pa_cons (pv 1) pa_nil))))
        (pss_cons (ps_par (i := 3) (j := 4) (by rfl) sc_law.nd rfl rfl (by decide) rfl rfl (pa_cons (pe_lst (pa_cons pe_str (pa_cons pe_str (pa_cons pe_str (pa_cons pe_str pa_nil))))) (pa_cons (pe_lst pa_nil) pa_nil)) (by rfl))
        (pss_cons (ps_for PassesOwn.never rfl (pi_range1 (by rfl) T.m_range (pa_cons (pe_call G_law_take (hr.mono (by omega)) (by rfl) T.g_law_take T.F_law_take.kp T.b_law_take .nil pass0 (pa_cons (pv 2) (pa_cons pe_int pa_nil))) pa_nil)) (pg_name (i := 5) sc_law.nd rfl (.inl rfl)) (pss_cons (ps_expr (pe_bm PySem.F.plainAttrs_list PySem.F.slot_list_append PySem.F.type_list_append mt_append (pv 4) (pa_cons (pe_call G_law_entry (hr.mono (by omega)) (by rfl) T.g_law_entry T.F_law_entry.kp T.b_law_entry .nil pass0 (pa_cons (pv 2) (pa_cons (pv 3) pa_nil))) pa_nil)))
        (pss_one (ps_if (pt_val (pe_call G_law_right (hr.mono (by omega)) (by rfl) T.g_law_right T.F_law_right.kp T.b_law_right .nil pass0 (pa_cons (pv 3) (pa_cons (pe_ix ix_list (pv 4) (pe_un un_neg pe_int) (fun _ _ => rfl)) pa_nil)))) (pss_one (ps_expr (pe_bm PySem.F.plainAttrs_list PySem.F.slot_list_append PySem.F.type_list_append mt_append (pv 3) (pa_cons (pe_ix ix_tup (pe_ix ix_list (pv 4) (pe_un un_neg pe_int) (fun _ _ => rfl)) pe_int (fun _ _ => rfl)) pa_nil)))) pss_nil))))
        (pss_cons (ps_set (i := 6) sc_law.nd rfl (.inl rfl) (pe_call G_law_due (hr.mono (by omega)) (by rfl) T.g_law_due T.F_law_due.kp T.b_law_due .nil pass0 (pa_cons (pv 4) pa_nil)))
        (pss_cons (ps_for PassesOwn.never rfl (pi_list (pe_lst (pa_cons (pv 4) (pa_cons (pe_callTy call_tuple_of (by rfl) T.m_tuple (by decide +kernel) (pa_cons (pv 4) pa_nil)) (pa_cons (pe_slice sl_list (pv 4) po_none (po_any (pv 6))) (pa_cons (pv 4) pa_nil)))))) (pg_name (i := 7) sc_law.nd rfl (.inl rfl)) (pss_cons (ps_par (i := 8) (j := 9) (by rfl) sc_law.nd rfl rfl (by decide) rfl rfl (pa_cons (pe_call G_law_got (hr.mono (by omega)) (by rfl) T.g_law_got T.F_law_got.kp T.b_law_got .nil pass0 (pa_cons (pv 7) pa_nil)) (pa_cons (pe_call G_law_due (hr.mono (by omega)) (by rfl) T.g_law_due T.F_law_due.kp T.b_law_due .nil pass0 (pa_cons (pv 7) pa_nil)) pa_nil)) (by rfl))
        (pss_cons (ps_if (pt_cmpR op_ne (pe_cmpR op_isN (pv 8) pe_non (nomark _)) (pe_cmpR op_isN (pv 9) pe_non (nomark _)) (nomark _)) (pss_one (ps_ret pe_bl)) pss_nil)
        (pss_cons (ps_if (PW.pt (pw_and (pt_cmpR op_notN (pv 8) pe_non (nomark _)) (pw_and1 (PW.pt (pw_or (pt_not (pt_val (pe_call G_law_is_integer (hr.mono (by omega)) (by rfl) T.g_law_is_integer T.F_law_is_integer.kp T.b_law_is_integer .nil pass0 (pa_cons (pe_xfK T.cE_BadFamily.xf T.cE_BadFamily.no (pv 8)) pa_nil)))) (pw_or1 (pt_cmpR op_ne (pe_xfK T.cE_BadFamily.xf T.cE_BadFamily.no (pv 8)) (pv 9) (nomark _)))))))) (pss_one (ps_ret pe_bl)) pss_nil)
        (pss_cons (ps_if (PW.pt (pw_and (pt_cmpR op_notN (pv 8) pe_non (nomark _)) (pw_and1 (PW.pt (pw_or (pt_not (pt_val (pe_callB call_isG (by rfl) T.m_isinstance (by decide +kernel) (pa_cons (pv 8) (pa_cons (pe_glob (v := .ref T.w_WhatpassesError) rfl T.gw_WhatpassesError rfl) pa_nil))))) (pw_or1 (pt_not (pt_val (pe_callB call_isG (by rfl) T.m_isinstance (by decide +kernel) (pa_cons (pv 8) (pa_cons (pe_bltn (v := .ty "ValueError") (by rfl) T.m_ValueError (by decide +kernel) rfl) pa_nil))))))))))) (pss_one (ps_ret pe_bl)) pss_nil)
        (pss_one (ps_if (PW.pt (pw_or (pt_val (pe_callB call_isG (by rfl) T.m_isinstance (by decide +kernel) (pa_cons (pv 8) (pa_cons (pe_glob (v := .ref T.w_BadCall) rfl T.gw_BadCall rfl) pa_nil)))) (pw_or1 (pt_val (pe_callB call_isG (by rfl) T.m_isinstance (by decide +kernel) (pa_cons (pv 8) (pa_cons (pe_glob (v := .ref T.w_BadSuite) rfl T.gw_BadSuite rfl) pa_nil))))))) (pss_one (ps_ret pe_bl)) pss_nil)))))))
        (pss_one (ps_for PassesOwn.never rfl (pi_list (pe_lst (pa_cons pe_non (pa_cons pe_int (pa_cons pe_bl (pa_cons pe_str (pa_cons pe_str (pa_cons (pe_op op_pow pe_int pe_int) (pa_cons (pe_un un_neg pe_int) pa_nil))))))))) (pg_name (i := 10) sc_law.nd rfl (.inl rfl)) (pss_cons (ps_set (i := 8) sc_law.nd rfl (.inl rfl) (pe_call G_law_got (hr.mono (by omega)) (by rfl) T.g_law_got T.F_law_got.kp T.b_law_got .nil pass0 (pa_cons (pv 10) pa_nil)))
        (pss_one (ps_if (PW.pt (pw_or (pt_cmpR op_isN (pv 8) pe_non (nomark _)) (pw_or1 (pt_cmpR op_ne (pe_xfK T.cE_BadFamily.xf T.cE_BadFamily.no (pv 8)) (pe_un un_neg pe_int) (nomark _))))) (pss_one (ps_ret pe_bl)) pss_nil)))))))))))
        (pss_one (ps_ret pe_bl))), ?_⟩)
  · obtain ⟨ns, rfl, _⟩ := h
    rfl
  rintro W ρ Qd Xd ⟨ns, rfl, hl, q⟩
  show WS K _ _ [.val _, .un, .un, .un, .un, .un, .un, .un, .un, .un, .un] _
  repeat (walk_at "u")
  have hx : 0 ≤ (((ns.map U.int).length : Nat) : Int) ∧ (((ns.map U.int).length : Nat) : Int) ≤ 63 := by
    rw [List.length_map]
    omega
  obtain ⟨b1, b2, b3⟩ := law_turns _ hx.1 hx.2
  refine ⟨⟨b1, b2⟩, fun i ρ => ∃ t1 t2 t3 t4 t5 t6 t7 t8 t9 t10, ρ = [.val (.fls (ns.map .int)), t1, t2, t3, t4, t5, t6, t7, t8, t9, t10] ∧ nb [t1] 0 = true ∧ nb [t2] 0 = true ∧ nb [t3] 0 = true ∧ nb [t4] 0 = true ∧ nb [t5] 0 = true ∧ nb [t6] 0 = true ∧ nb [t7] 0 = true ∧ nb [t8] 0 = true ∧ nb [t9] 0 = true ∧ nb [t10] 0 = true, ?_, ?_, ?_⟩
  · exact ⟨.un, .un, .un, .un, .un, .un, .un, .un, .un, .un, rfl, rfl, rfl, rfl, rfl, rfl, rfl, rfl, rfl, rfl, rfl⟩
  · rintro i x ρ hxx ⟨t1, t2, t3, t4, t5, t6, t7, t8, t9, t10, rfl, h1, h2, h3, h4, h5, h6, h7, h8, h9, h10⟩
    obtain ⟨hi, hxe⟩ := rgU_get hxx
    rw [Int.zero_add] at hxe
    subst hxe
    repeat (walk_at "u")
    refine callU [true, true] rfl rfl fun Q' X' qq xx => ⟨ns, i, rfl, hl, by omega, by omega, fun b hb => qq _ _ ?_⟩
    walk_at "ucl"
    repeat (walk_at "u")
    refine ws_par_new ?_
    repeat (walk_at "u")
    refine ⟨h3, h4, ?_⟩
    walk_at "unorm"
    repeat (walk_at "u")
    refine callU [true, true] rfl rfl fun Q' X' qq xx => ⟨b, _, 0, rfl, hb, by omega, by decide, by decide, fun n1 b' n0 nl hb' => qq _ _ ?_⟩
    walk_at "ucl"
    repeat (walk_at "u")
    refine ⟨by omega, fun k ρ => ∃ (b : U) (es : List U) (nms : List Str) (t5 : Sl), ρ = [.val (.fls (ns.map .int)), .val (.int i), .own b, .own (strsU nms), .own (.lst es), t5, t6, t7, t8, t9, t10] ∧ nb [t5] 0 = true ∧ BagU b (1 + 200 * k) ∧
      es.length = k ∧ (∀ e ∈ es, EntU e) ∧ 0 < nms.length ∧ nms.length ≤ 4 + k ∧ ∀ z ∈ nms, IsClass z, ?_, ?_, ?_⟩
    · exact ⟨b', [], names4, t5, rfl, h5, hb'.mono (by omega), rfl, nofun, by decide, by decide, names4_cls⟩
    · rintro k x ρ hk ⟨b, es, nms, t5, rfl, h5, hb, hel, hes, hn0, hn1, hnc⟩
      obtain ⟨hk, hxe⟩ := rgU_get hk
      rw [Int.zero_add] at hxe
      subst hxe
      repeat (walk_at "u")
      refine callU [true, true] rfl rfl fun Q' X' qq xx => ⟨b, _, nms, rfl, hb, by omega, hn0, by omega, hnc, fun a d b' ha hd hb' => qq _ _ ?_⟩
      have ea : a.fl = .dt d := by rcases ha with rfl | rfl <;> rfl
      clear qq xx Q' X'
      rw [ea]
      walk_at "unorm"
      refine wa_nil ?_
      refine ⟨_, _, _, _, frzC_ok rfl, rfl, rfl, by omega, ?_⟩
      walk_at "unorm"
      repeat (walk_at "u")
      have el : atI (es ++ [d]) (-1) = some d := atI_last
      (refine' wr_ixL ?w el ?_; (case w => walk_at "uview"))
      repeat (walk_at "u")
      refine callU [true, true] rfl rfl fun Q' X' qq xx => ⟨nms, d, rfl, hd.2.2.2, qq _ _ ?_⟩
      walk_at "ucl"
      refine ⟨_, rfl, ?_⟩
      have fin : ∀ e ∈ es ++ [d], EntU e := fun e he => by
        rcases List.mem_append.mp he with h | h
        · exact hes e h
        · rw [List.mem_singleton.mp h]
          exact hd
      have flen : (es ++ [d]).length = k + 1 := by rw [List.length_append, hel]; rfl
      cases er : rightU nms d with
      | false =>
        repeat (walk_at "u")
        exact ⟨b', es ++ [d], nms, _, rfl, rfl, hb'.mono (by omega), flen, fin, hn0, by omega, hnc⟩
      | true =>
        obtain ⟨z, p, rfl, hz, _⟩ := right_tup er
        repeat (walk_at "u")
        (refine' wr_ixL ?w el ?_; (case w => walk_at "uview"))
        repeat (walk_at "u")
        refine ⟨_, _, _, _, frzC_ok rfl, rfl, rfl, by rw [List.length_map]; omega, ?_⟩
        walk_at "unorm"
        refine ⟨b', es ++ [.tup [.str z, p]], nms ++ [z], .val (.int k), ?_, rfl, hb'.mono (by omega), flen, fin, by rw [List.length_append]; omega, by rw [List.length_append]; show _ + 1 ≤ _; omega, fun y hy => ?_⟩
        · unfold strsU
          rw [List.map_append]
          rfl
        · rcases List.mem_append.mp hy with h | h
          · exact hnc y h
          · rw [List.mem_singleton.mp h]
            exact isClass_of hz
    · rintro ρ ⟨b, es, nms, t5, rfl, h5, hb, hel, hes, -, -, -⟩
      rw [rgU_length] at hel
      have hl10 : es.length ≤ 10 := by omega
      clear hel hb
      repeat (walk_at "u")
      refine callU [false] rfl rfl fun Q' X' qq xx => ⟨es, _, rfl, rfl, fun d hd => (hes d hd).2.2.2, by omega, fun due hdue => qq _ _ ?_⟩
      walk_at "ucl"
      repeat (walk_at "u")
      obtain ⟨po, hpo⟩ : ∃ po, partU due = some po := by
        rcases hdue with ⟨rfl, _⟩ | ⟨j, d, rfl, _⟩
        · exact ⟨_, rfl⟩
        · exact ⟨_, rfl⟩
      refine ⟨due, po, rfl, hpo, sl_L rfl ?_⟩
      have hcut : ∀ d ∈ cutU es none po, EntU d := fun d hd => hes d (List.mem_of_mem_drop (List.mem_of_mem_take hd))
      have hcl : (cutU es none po).length ≤ 10 := by
        unfold cutU
        rw [List.length_take, List.length_drop]
        omega
      generalize cutU es none po = cut at *
      repeat (walk_at "u")
      refine ⟨_, _, frzC_ok rfl, ?_⟩
      refine ⟨fun k ρ => ∃ t7 t8 t9, ρ = [.val (.fls (ns.map .int)), .val (.int i), .own b, .own (strsU nms), .val (.lst es), t5, .val due, t7, t8, t9, t10] ∧ nb [t7] 0 = true ∧ nb [t8] 0 = true ∧ nb [t9] 0 = true, ⟨t7, t8, t9, rfl, h7, h8, h9⟩, ?_, ?_⟩
      · rintro k D ρ hk ⟨t7, t8, t9, rfl, h7, h8, h9⟩
        obtain ⟨ds, hD, hds, hdl⟩ : ∃ ds, seqU D = some ds ∧ (∀ d ∈ ds, EntU d) ∧ ds.length ≤ 10 := by
          have hm := List.mem_of_getElem? hk
          simp only [List.mem_cons, List.not_mem_nil, or_false] at hm
          rcases hm with rfl | rfl | rfl | rfl
          · exact ⟨_, rfl, hes, hl10⟩
          · exact ⟨_, rfl, hes, hl10⟩
          · exact ⟨_, rfl, hcut, hcl⟩
          · exact ⟨_, rfl, hes, hl10⟩
        clear hk
        repeat (walk_at "u")
        refine ws_par ?_
        repeat (walk_at "u")
        obtain ⟨g1, g2, g3⟩ := seq_data hD hds hdl
        refine callU [true] rfl rfl fun Q' X' qq xx => ⟨D, rfl, g1, g2, g3, fun ds' e => by rw [hD] at e; cases e; omega, fun g hg => qq _ _ ?_⟩
        walk_at "ucl"
        repeat (walk_at "u")
        refine callU [true] rfl rfl fun Q' X' qq xx => ⟨ds, D, rfl, hD, fun d hd => (hds d hd).2.2.2, by omega, fun o ho => qq _ _ ?_⟩
        walk_at "ucl"
        repeat (walk_at "u")
        refine ⟨_, _, _, frzC_ok rfl, h8, h9, ?_⟩
        walk_at "unorm"
        rcases got_due hD hg ho with ⟨rfl, rfl⟩ | ⟨j, rfl, rfl⟩
        · repeat (walk_at "u")
          refine wc_isG (show View _ (.dt .non) .non from rfl) rfl rfl (.inl rfl) T.xn_BadFamily_BadCall ?_
          repeat (walk_at "u")
          refine wc_isG (show View _ (.dt .non) .non from rfl) rfl rfl (.inl rfl) T.xn_BadFamily_BadSuite ?_
          repeat (walk_at "u")
          exact ⟨_, _, _, rfl, rfl, rfl, rfl⟩
        · repeat (walk_at "u")
          refine we_xfK ?_
          repeat (walk_at "u")
          refine ⟨_, _, .int j, rfl, rfl, ?_⟩
          repeat (walk_at "u")
          refine callU [true] rfl rfl fun Q' X' qq xx => ⟨.int j, rfl, rfl, qq _ _ ?_⟩
          walk_at "ucl"
          repeat (walk_at "u")
          refine we_xfK ?_
          repeat (walk_at "u")
          refine ⟨_, _, .int j, rfl, rfl, ?_⟩
          repeat (walk_at "u")
          refine uF (by simp) ?_
          repeat (walk_at "u")
          refine wc_isG (show View _ (.dt _) _ from rfl) rfl rfl (.inr ⟨_, _, _, rfl, T.xk_BadFamily⟩) T.xi_BadFamily_WhatpassesError ?_
          repeat (walk_at "u")
          refine wc_isG (show View _ (.dt _) _ from rfl) rfl rfl (.inr ⟨_, _, _, rfl, T.xk_BadFamily⟩) T.xi_BadFamily_ValueError ?_
          repeat (walk_at "u")
          refine wc_isG (show View _ (.dt _) _ from rfl) rfl rfl (.inr ⟨_, _, _, rfl, T.xk_BadFamily⟩) T.xi_BadFamily_BadCall ?_
          repeat (walk_at "u")
          refine wc_isG (show View _ (.dt _) _ from rfl) rfl rfl (.inr ⟨_, _, _, rfl, T.xk_BadFamily⟩) T.xi_BadFamily_BadSuite ?_
          repeat (walk_at "u")
          exact ⟨_, _, _, rfl, rfl, rfl, rfl⟩
      · rintro ρ ⟨t7, t8, t9, rfl, h7, h8, h9⟩
        repeat (walk_at "u")
        refine ⟨_, _, frzC_ok rfl, ?_⟩
        refine ⟨fun k ρ => ∃ t8 t10, ρ = [.val (.fls (ns.map .int)), .val (.int i), .own b, .own (strsU nms), .val (.lst es), t5, .val due, t7, t8, t9, t10] ∧ nb [t8] 0 = true ∧ nb [t10] 0 = true, ⟨t8, t10, rfl, h8, h10⟩, ?_, ?_⟩
        · rintro k D ρ hk ⟨t8, t10, rfl, h8, h10⟩
          obtain ⟨hD, g1, g2, g3⟩ : seqU D = none ∧ okU D = true ∧ fine (dU D) = true ∧ PyData.depth (dU D) ≤ 60 := by
            have hm := List.mem_of_getElem? hk
            simp only [List.mem_cons, List.not_mem_nil, or_false] at hm
            rcases hm with rfl | rfl | rfl | rfl | rfl | rfl | rfl
            · exact ⟨rfl, rfl, rfl, by decide⟩
            · exact ⟨rfl, rfl, rfl, by decide⟩
            · exact ⟨rfl, rfl, rfl, by decide⟩
            · exact ⟨rfl, rfl, by decide +kernel, by decide +kernel⟩
            · exact ⟨rfl, rfl, by decide +kernel, by decide +kernel⟩
            · exact ⟨rfl, rfl, rfl, Nat.le_of_ble_eq_true rfl⟩
            · exact ⟨rfl, rfl, rfl, Nat.le_of_ble_eq_true rfl⟩
          clear hk
          repeat (walk_at "u")
          refine callU [true] rfl rfl fun Q' X' qq xx => ⟨D, rfl, g1, g2, g3, fun ds' e => (by rw [hD] at e; cases e), fun g hg => qq _ _ ?_⟩
          walk_at "ucl"
          rcases hg with ⟨ds', e, _⟩ | ⟨_, rfl⟩
          · rw [hD] at e
            cases e
          repeat (walk_at "u")
          refine we_xfK ?_
          repeat (walk_at "u")
          refine ⟨_, _, .int (-1), rfl, rfl, ?_⟩
          repeat (walk_at "u")
          exact ⟨_, _, rfl, rfl, rfl⟩
        · rintro ρ ⟨t8, t10, rfl, h8, h10⟩
          exact ⟨_, _, _, _, _, _, _, _, _, _, rfl, rfl, rfl, rfl, rfl, h5, rfl, h7, h8, h9, h10⟩
  · rintro ρ ⟨t1, t2, t3, t4, t5, t6, t7, t8, t9, t10, rfl, h1, h2, h3, h4, h5, h6, h7, h8, h9, h10⟩
    repeat (walk_at "u")
    exact q
theorem ok_law (T : Txt K mg) {f : Addr} {fd : FuncData} (F : Fun K "law" "law" s_law f fd) : FnOk P w K mg base CX0 9 f fd ["script"] (spLaw K) := (uk_law T F).imp fun _ _ _ _ h => law_of_U h
end

theorem all_mk {l : PySem.W.OpenLaw} {w : World} {K : PySem.W.Frag} {h : Heap} {mg : Str → Option Value} {fa : Addr} (X : K.In h) (G : h.Ns mainGlobals mg) (hfa : mg "law" = some (.ref fa))
    {f_wall : Addr} {od0 an0 : Option Addr} {sl0 : Array (Option Value)} {oc0 kV0 dc0 pm0 cd0 ct0 : Value}
    {f_consists_of : Addr} {od1 an1 : Option Addr} {sl1 : Array (Option Value)} {oc1 kV1 dc1 pm1 cd1 ct1 : Value}
    {f_is_class_name : Addr} {od2 an2 : Option Addr} {sl2 : Array (Option Value)} {oc2 kV2 dc2 pm2 cd2 ct2 : Value}
    {f_can_be_declared : Addr} {od3 an3 : Option Addr} {sl3 : Array (Option Value)} {oc3 kV3 dc3 pm3 cd3 ct3 : Value}
    {f_law_take : Addr} {od4 an4 : Option Addr} {sl4 : Array (Option Value)} {oc4 kV4 dc4 pm4 cd4 ct4 : Value}
    {f_law_of : Addr} {od5 an5 : Option Addr} {sl5 : Array (Option Value)} {oc5 kV5 dc5 pm5 cd5 ct5 : Value}
    {f_law_class : Addr} {od6 an6 : Option Addr} {sl6 : Array (Option Value)} {oc6 kV6 dc6 pm6 cd6 ct6 : Value}
    {f_law_is_class : Addr} {od7 an7 : Option Addr} {sl7 : Array (Option Value)} {oc7 kV7 dc7 pm7 cd7 ct7 : Value}
    {f_law_bag : Addr} {od8 an8 : Option Addr} {sl8 : Array (Option Value)} {oc8 kV8 dc8 pm8 cd8 ct8 : Value}
    {f_law_is_integer : Addr} {od9 an9 : Option Addr} {sl9 : Array (Option Value)} {oc9 kV9 dc9 pm9 cd9 ct9 : Value}
    {f_law_entry : Addr} {od10 an10 : Option Addr} {sl10 : Array (Option Value)} {oc10 kV10 dc10 pm10 cd10 ct10 : Value}
    {f_law_right : Addr} {od11 an11 : Option Addr} {sl11 : Array (Option Value)} {oc11 kV11 dc11 pm11 cd11 ct11 : Value}
    {f_law_due : Addr} {od12 an12 : Option Addr} {sl12 : Array (Option Value)} {oc12 kV12 dc12 pm12 cd12 ct12 : Value}
    {f_law_got : Addr} {od13 an13 : Option Addr} {sl13 : Array (Option Value)} {oc13 kV13 dc13 pm13 cd13 ct13 : Value}
    {f_law : Addr} {od14 an14 : Option Addr} {sl14 : Array (Option Value)} {oc14 kV14 dc14 pm14 cd14 ct14 : Value}
    {C_Family : Addr}
    {f_Family___init__ : Addr} {od_Family___init__ an_Family___init__ : Option Addr} {sl_Family___init__ : Array (Option Value)} {oc_Family___init__ kV_Family___init__ dc_Family___init__ pm_Family___init__ cd_Family___init__ ct_Family___init__ : Value}
    {C_BadFamily I_BadFamily N_BadFamily B_BadFamily_WhatpassesError : Addr} {nm_BadFamily q_BadFamily : Str} {bs_BadFamily sub_BadFamily : List Value} {sn_BadFamily : List Str} {ab_BadFamily : Bool} {col_BadFamily : Option Bool} {dd_BadFamily oi_BadFamily an_BadFamily : Option Addr} {osl_BadFamily : Array (Option Value)} {m0_BadFamily m1_BadFamily m2_BadFamily m3_BadFamily m5_BadFamily : Option Value} {oc_BadFamily kV_BadFamily dc_BadFamily pm_BadFamily cd_BadFamily ct_BadFamily : Value}
    {W_BadCall : Addr}
    {W_BadSuite : Addr}
    {W_WhatpassesError : Addr}
    {tc_SMALL_LETTERS : Tok}
    {tc_CAPITAL_LETTERS : Tok}
    {tc_ROOT : Tok}
    {a_FIRST_CLASSES : Addr} {nc_FIRST_CLASSES : Nat} {slc_FIRST_CLASSES : Array (Option Value)}
    {a_FIRST_CLASSES_0 : Addr} {odc_FIRST_CLASSES_0 : Option Addr} {nc_FIRST_CLASSES_0 : Nat} {slc_FIRST_CLASSES_0 : Array (Option Value)} {tc_FIRST_CLASSES_0_0 : Tok}
    {a_FIRST_CLASSES_1 : Addr} {odc_FIRST_CLASSES_1 : Option Addr} {nc_FIRST_CLASSES_1 : Nat} {slc_FIRST_CLASSES_1 : Array (Option Value)} {tc_FIRST_CLASSES_1_0 : Tok} {tc_FIRST_CLASSES_1_1 : Tok}
    {a_FIRST_CLASSES_2 : Addr} {odc_FIRST_CLASSES_2 : Option Addr} {nc_FIRST_CLASSES_2 : Nat} {slc_FIRST_CLASSES_2 : Array (Option Value)} {tc_FIRST_CLASSES_2_0 : Tok} {tc_FIRST_CLASSES_2_1 : Tok}
    {a_FIRST_CLASSES_3 : Addr} {odc_FIRST_CLASSES_3 : Option Addr} {nc_FIRST_CLASSES_3 : Nat} {slc_FIRST_CLASSES_3 : Array (Option Value)} {tc_FIRST_CLASSES_3_0 : Tok} {tc_FIRST_CLASSES_3_1 : Tok}
    {tc_MOST_CLASS_LETTERS : Tok}
    (a0 : PySem.W.nsIn K mainGlobals "_wall" = some (some (.ref f_wall)))
    (l0 : K.lookup f_wall = some ⟨oc0, od0, .func (PySem.W.fnOf "_wall" "_wall" (defArgs s_wall) (defBody s_wall) (defScope s_wall) .none kV0 dc0 pm0 an0 cd0 ct0), sl0⟩)
    (c0 : PySem.W.codeIn K cd0 "_wall" = true) (k0 : PySem.W.keepIn K (.ref f_wall) = true)
    (a1 : PySem.W.nsIn K mainGlobals "consists_of" = some (some (.ref f_consists_of)))
    (l1 : K.lookup f_consists_of = some ⟨oc1, od1, .func (PySem.W.fnOf "consists_of" "consists_of" (defArgs s_consists_of) (defBody s_consists_of) (defScope s_consists_of) .none kV1 dc1 pm1 an1 cd1 ct1), sl1⟩)
    (c1 : PySem.W.codeIn K cd1 "consists_of" = true) (k1 : PySem.W.keepIn K (.ref f_consists_of) = true)
    (a2 : PySem.W.nsIn K mainGlobals "is_class_name" = some (some (.ref f_is_class_name)))
    (l2 : K.lookup f_is_class_name = some ⟨oc2, od2, .func (PySem.W.fnOf "is_class_name" "is_class_name" (defArgs s_is_class_name) (defBody s_is_class_name) (defScope s_is_class_name) .none kV2 dc2 pm2 an2 cd2 ct2), sl2⟩)
    (c2 : PySem.W.codeIn K cd2 "is_class_name" = true) (k2 : PySem.W.keepIn K (.ref f_is_class_name) = true)
    (a3 : PySem.W.nsIn K mainGlobals "can_be_declared" = some (some (.ref f_can_be_declared)))
    (l3 : K.lookup f_can_be_declared = some ⟨oc3, od3, .func (PySem.W.fnOf "can_be_declared" "can_be_declared" (defArgs s_can_be_declared) (defBody s_can_be_declared) (defScope s_can_be_declared) .none kV3 dc3 pm3 an3 cd3 ct3), sl3⟩)
    (c3 : PySem.W.codeIn K cd3 "can_be_declared" = true) (k3 : PySem.W.keepIn K (.ref f_can_be_declared) = true)
    (a4 : PySem.W.nsIn K mainGlobals "_law_take" = some (some (.ref f_law_take)))
    (l4 : K.lookup f_law_take = some ⟨oc4, od4, .func (PySem.W.fnOf "_law_take" "_law_take" (defArgs s_law_take) (defBody s_law_take) (defScope s_law_take) .none kV4 dc4 pm4 an4 cd4 ct4), sl4⟩)
    (c4 : PySem.W.codeIn K cd4 "_law_take" = true) (k4 : PySem.W.keepIn K (.ref f_law_take) = true)
    (a5 : PySem.W.nsIn K mainGlobals "_law_of" = some (some (.ref f_law_of)))
    (l5 : K.lookup f_law_of = some ⟨oc5, od5, .func (PySem.W.fnOf "_law_of" "_law_of" (defArgs s_law_of) (defBody s_law_of) (defScope s_law_of) .none kV5 dc5 pm5 an5 cd5 ct5), sl5⟩)
    (c5 : PySem.W.codeIn K cd5 "_law_of" = true) (k5 : PySem.W.keepIn K (.ref f_law_of) = true)
    (a6 : PySem.W.nsIn K mainGlobals "_law_class" = some (some (.ref f_law_class)))
    (l6 : K.lookup f_law_class = some ⟨oc6, od6, .func (PySem.W.fnOf "_law_class" "_law_class" (defArgs s_law_class) (defBody s_law_class) (defScope s_law_class) .none kV6 dc6 pm6 an6 cd6 ct6), sl6⟩)
    (c6 : PySem.W.codeIn K cd6 "_law_class" = true) (k6 : PySem.W.keepIn K (.ref f_law_class) = true)
    (a7 : PySem.W.nsIn K mainGlobals "_law_is_class" = some (some (.ref f_law_is_class)))
    (l7 : K.lookup f_law_is_class = some ⟨oc7, od7, .func (PySem.W.fnOf "_law_is_class" "_law_is_class" (defArgs s_law_is_class) (defBody s_law_is_class) (defScope s_law_is_class) .none kV7 dc7 pm7 an7 cd7 ct7), sl7⟩)
    (c7 : PySem.W.codeIn K cd7 "_law_is_class" = true) (k7 : PySem.W.keepIn K (.ref f_law_is_class) = true)
    (a8 : PySem.W.nsIn K mainGlobals "_law_bag" = some (some (.ref f_law_bag)))
    (l8 : K.lookup f_law_bag = some ⟨oc8, od8, .func (PySem.W.fnOf "_law_bag" "_law_bag" (defArgs s_law_bag) (defBody s_law_bag) (defScope s_law_bag) .none kV8 dc8 pm8 an8 cd8 ct8), sl8⟩)
    (c8 : PySem.W.codeIn K cd8 "_law_bag" = true) (k8 : PySem.W.keepIn K (.ref f_law_bag) = true)
    (a9 : PySem.W.nsIn K mainGlobals "_law_is_integer" = some (some (.ref f_law_is_integer)))
    (l9 : K.lookup f_law_is_integer = some ⟨oc9, od9, .func (PySem.W.fnOf "_law_is_integer" "_law_is_integer" (defArgs s_law_is_integer) (defBody s_law_is_integer) (defScope s_law_is_integer) .none kV9 dc9 pm9 an9 cd9 ct9), sl9⟩)
    (c9 : PySem.W.codeIn K cd9 "_law_is_integer" = true) (k9 : PySem.W.keepIn K (.ref f_law_is_integer) = true)
    (a10 : PySem.W.nsIn K mainGlobals "_law_entry" = some (some (.ref f_law_entry)))
    (l10 : K.lookup f_law_entry = some ⟨oc10, od10, .func (PySem.W.fnOf "_law_entry" "_law_entry" (defArgs s_law_entry) (defBody s_law_entry) (defScope s_law_entry) .none kV10 dc10 pm10 an10 cd10 ct10), sl10⟩)
    (c10 : PySem.W.codeIn K cd10 "_law_entry" = true) (k10 : PySem.W.keepIn K (.ref f_law_entry) = true)
    (a11 : PySem.W.nsIn K mainGlobals "_law_right" = some (some (.ref f_law_right)))
    (l11 : K.lookup f_law_right = some ⟨oc11, od11, .func (PySem.W.fnOf "_law_right" "_law_right" (defArgs s_law_right) (defBody s_law_right) (defScope s_law_right) .none kV11 dc11 pm11 an11 cd11 ct11), sl11⟩)
    (c11 : PySem.W.codeIn K cd11 "_law_right" = true) (k11 : PySem.W.keepIn K (.ref f_law_right) = true)
    (a12 : PySem.W.nsIn K mainGlobals "_law_due" = some (some (.ref f_law_due)))
    (l12 : K.lookup f_law_due = some ⟨oc12, od12, .func (PySem.W.fnOf "_law_due" "_law_due" (defArgs s_law_due) (defBody s_law_due) (defScope s_law_due) .none kV12 dc12 pm12 an12 cd12 ct12), sl12⟩)
    (c12 : PySem.W.codeIn K cd12 "_law_due" = true) (k12 : PySem.W.keepIn K (.ref f_law_due) = true)
    (a13 : PySem.W.nsIn K mainGlobals "_law_got" = some (some (.ref f_law_got)))
    (l13 : K.lookup f_law_got = some ⟨oc13, od13, .func (PySem.W.fnOf "_law_got" "_law_got" (defArgs s_law_got) (defBody s_law_got) (defScope s_law_got) .none kV13 dc13 pm13 an13 cd13 ct13), sl13⟩)
    (c13 : PySem.W.codeIn K cd13 "_law_got" = true) (k13 : PySem.W.keepIn K (.ref f_law_got) = true)
    (a14 : PySem.W.nsIn K mainGlobals "law" = some (some (.ref f_law)))
    (l14 : K.lookup f_law = some ⟨oc14, od14, .func (PySem.W.fnOf "law" "law" (defArgs s_law) (defBody s_law) (defScope s_law) .none kV14 dc14 pm14 an14 cd14 ct14), sl14⟩)
    (c14 : PySem.W.codeIn K cd14 "law" = true) (k14 : PySem.W.keepIn K (.ref f_law) = true)
    (h0_Family : PySem.W.nsIn K mainGlobals "Family" = some (some (.ref C_Family)))
    (h1_Family : PySem.W.plainGet K C_Family Str.empty = true)
    (h2_Family : PySem.W.hasDictIn K C_Family = true)
    (h3_Family : PySem.W.plainOver K C_Family = true)
    (h4_Family : PySem.W.findIn K (.ref C_Family) "__setattr__" = some (some (.builtin "object.__setattr__")))
    (h5_Family : PySem.W.typeIn K (.ref C_Family) = some (.type "type"))
    (h6_Family : PySem.W.readsIn K C_Family (.type "type") = true)
    (h7_Family : PySem.W.specialIn K (.ref C_Family) "__getattribute__" = some (some (.builtin "type.__getattribute__")))
    (h8_Family : PySem.W.findIn K (.ref C_Family) "__ne__" = some (some (.builtin "object.__ne__")))
    (h9_Family : PySem.W.mroIn K C_Family (.type "object") = some true)
    (i0_Family : PySem.W.findIn K (.ref C_Family) "__class__" = some (some (.builtin "object.__class__")))
    (i1_Family : PySem.W.specialIn K (.builtin "object.__class__") "__get__" = some (some (.builtin "getset_descriptor.__get__")))
    (i2_Family : PySem.W.takesIn K (.builtin "object.__class__") = some true)
    (i3_Family : PySem.W.isClsIn K C_Family = true)
    (i6_Family : PySem.W.notFirst K C_Family (.ref C_Family) = true)
    (i7_Family : PySem.W.notFirst K C_Family (.type "list") = true)
    (i8_Family : PySem.W.notFirst K C_Family (.type "tuple") = true)
    (j_Family__above : PySem.W.findIn K (.ref C_Family) "_above" = some none)
    (j_Family_declared : PySem.W.findIn K (.ref C_Family) "declared" = some none)
    (a_Family___init__ : PySem.W.findIn K (.ref C_Family) "__init__" = some (some (.ref f_Family___init__)))
    (l_Family___init__ : K.lookup f_Family___init__ = some ⟨oc_Family___init__, od_Family___init__, .func (PySem.W.fnOf "__init__" "Family.__init__" (defArgs s_Family___init__) (defBody s_Family___init__) (defScope s_Family___init__) .none kV_Family___init__ dc_Family___init__ pm_Family___init__ an_Family___init__ cd_Family___init__ ct_Family___init__), sl_Family___init__⟩)
    (c_Family___init__ : PySem.W.codeIn K cd_Family___init__ "Family.__init__" = true)
    (k_Family___init__ : PySem.W.keepIn K (.ref f_Family___init__) = true)
    (n_Family___init__ : PySem.W.isFn K (.ref f_Family___init__) = true)
    (m1_Family___init__ : PySem.W.makesIn K C_Family = true)
    (m2_Family___init__ : PySem.W.keepIn K (.ref C_Family) = true)
    (e1_BadFamily : PySem.W.nsIn K mainGlobals "BadFamily" = some (some (.ref C_BadFamily)))
    (e2_BadFamily : K.lookup C_BadFamily = some (excClassObj nm_BadFamily q_BadFamily C_BadFamily N_BadFamily bs_BadFamily [.ref B_BadFamily_WhatpassesError, .type "ValueError", .type "Exception", .type "BaseException", .type "object"] true sn_BadFamily sub_BadFamily ab_BadFamily col_BadFamily dd_BadFamily m0_BadFamily m1_BadFamily m2_BadFamily m3_BadFamily m5_BadFamily "ValueError.__new__"))
    (e3_BadFamily : PySem.W.findIn K (.ref C_BadFamily) "__setattr__" = some (some (.builtin "object.__setattr__")))
    (e4_BadFamily : PySem.W.findIn K (.ref C_BadFamily) "__getattribute__" = some (some (.builtin "BaseException.__getattribute__")))
    (e5_BadFamily : PySem.W.findIn K (.ref C_BadFamily) "__getattr__" = some none)
    (e6_BadFamily : PySem.W.findIn K (.ref C_BadFamily) "at" = some none)
    (e7_BadFamily : PySem.W.findIn K (.ref C_BadFamily) "__init__" = some (some (.ref I_BadFamily)))
    (e8_BadFamily : PySem.W.typeIn K (.ref I_BadFamily) = some (.type "function"))
    (e9_BadFamily : K.lookup I_BadFamily = some ⟨oc_BadFamily, oi_BadFamily, .func (PySem.W.fnOf "__init__" "BadFamily.__init__" (defArgs si_BadFamily) (defBody si_BadFamily) (defScope si_BadFamily) .none kV_BadFamily dc_BadFamily pm_BadFamily an_BadFamily cd_BadFamily ct_BadFamily), osl_BadFamily⟩)
    (e10_BadFamily : PySem.W.codeIn K cd_BadFamily "BadFamily.__init__" = true)
    (e11_BadFamily : PySem.W.keepIn K (.ref I_BadFamily) = true)
    (e12_BadFamily : PySem.W.keepIn K (.ref C_BadFamily) = true)
    (e13_BadFamily : PySem.W.subIn K (.ref C_BadFamily) (.type "BaseException") = some true)
    (e14_BadFamily : PySem.W.typeIn K (.ref C_BadFamily) = some (.type "type"))
    (e15_BadFamily : PySem.W.hasDictIn K C_BadFamily = true)
    (e16_BadFamily : PySem.W.isClsIn K C_BadFamily = true)
    (e17_BadFamily : PySem.W.subIn K (.ref C_BadFamily) (.ref C_BadFamily) = some true)
    (v0_BadCall : PySem.W.nsIn K mainGlobals "BadCall" = some (some (.ref W_BadCall)))
    (v1_BadCall : PySem.W.typeIn K (.ref W_BadCall) = some (.type "type"))
    (v2_BadCall : PySem.W.isClsIn K W_BadCall = true)
    (v0_BadSuite : PySem.W.nsIn K mainGlobals "BadSuite" = some (some (.ref W_BadSuite)))
    (v1_BadSuite : PySem.W.typeIn K (.ref W_BadSuite) = some (.type "type"))
    (v2_BadSuite : PySem.W.isClsIn K W_BadSuite = true)
    (v0_WhatpassesError : PySem.W.nsIn K mainGlobals "WhatpassesError" = some (some (.ref W_WhatpassesError)))
    (v1_WhatpassesError : PySem.W.typeIn K (.ref W_WhatpassesError) = some (.type "type"))
    (v2_WhatpassesError : PySem.W.isClsIn K W_WhatpassesError = true)
    (v4_BadFamily : PySem.W.findIn K (.ref C_BadFamily) "__class__" = some (some (.builtin "object.__class__")))
    (v5_BadFamily : PySem.W.specialIn K (.builtin "object.__class__") "__get__" = some (some (.builtin "getset_descriptor.__get__")))
    (v6_BadFamily : PySem.W.takesIn K (.builtin "object.__class__") = some true)
    (v7_BadFamily : PySem.W.mroIn K C_BadFamily (.type "object") = some true)
    (v3_BadFamily_WhatpassesError : PySem.W.subIn K (.ref C_BadFamily) (.ref W_WhatpassesError) = some true)
    (v8_BadFamily_WhatpassesError : PySem.W.notFirst K W_WhatpassesError (.type "NoneType") = true)
    (v3_BadFamily_ValueError : PySem.W.subIn K (.ref C_BadFamily) (.type "ValueError") = some true)
    (v3_BadFamily_BadCall : PySem.W.subIn K (.ref C_BadFamily) (.ref W_BadCall) = some false)
    (v8_BadFamily_BadCall : PySem.W.notFirst K W_BadCall (.type "NoneType") = true)
    (v3_BadFamily_BadSuite : PySem.W.subIn K (.ref C_BadFamily) (.ref W_BadSuite) = some false)
    (v8_BadFamily_BadSuite : PySem.W.notFirst K W_BadSuite (.type "NoneType") = true)
    (z_ValueError : PySem.W.nsIn K mainGlobals "ValueError" = some none)
    (z_abs : PySem.W.nsIn K mainGlobals "abs" = some none)
    (z_all : PySem.W.nsIn K mainGlobals "all" = some none)
    (z_bool : PySem.W.nsIn K mainGlobals "bool" = some none)
    (z_dict : PySem.W.nsIn K mainGlobals "dict" = some none)
    (z_enumerate : PySem.W.nsIn K mainGlobals "enumerate" = some none)
    (z_int : PySem.W.nsIn K mainGlobals "int" = some none)
    (z_isinstance : PySem.W.nsIn K mainGlobals "isinstance" = some none)
    (z_len : PySem.W.nsIn K mainGlobals "len" = some none)
    (z_list : PySem.W.nsIn K mainGlobals "list" = some none)
    (z_max : PySem.W.nsIn K mainGlobals "max" = some none)
    (z_min : PySem.W.nsIn K mainGlobals "min" = some none)
    (z_range : PySem.W.nsIn K mainGlobals "range" = some none)
    (z_str : PySem.W.nsIn K mainGlobals "str" = some none)
    (z_tuple : PySem.W.nsIn K mainGlobals "tuple" = some none)
    (y_SMALL_LETTERS : PySem.W.nsIn K mainGlobals "SMALL_LETTERS" = some (some (.str "abcdefghijklmnopqrstuvwxyz" tc_SMALL_LETTERS)))
    (y_CAPITAL_LETTERS : PySem.W.nsIn K mainGlobals "CAPITAL_LETTERS" = some (some (.str "ABCDEFGHIJKLMNOPQRSTUVWXYZ" tc_CAPITAL_LETTERS)))
    (y_ROOT : PySem.W.nsIn K mainGlobals "ROOT" = some (some (.str "Error" tc_ROOT)))
    (y_FIRST_CLASSES : PySem.W.nsIn K mainGlobals "FIRST_CLASSES" = some (some (.ref a_FIRST_CLASSES)))
    (u_FIRST_CLASSES : K.lookup a_FIRST_CLASSES = some ⟨.type "tuple", none, .seq #[.ref a_FIRST_CLASSES_0, .ref a_FIRST_CLASSES_1, .ref a_FIRST_CLASSES_2, .ref a_FIRST_CLASSES_3] nc_FIRST_CLASSES, slc_FIRST_CLASSES⟩)
    (u_FIRST_CLASSES_0 : K.lookup a_FIRST_CLASSES_0 = some ⟨.type "tuple", odc_FIRST_CLASSES_0, .seq #[.str "Error" tc_FIRST_CLASSES_0_0, .none] nc_FIRST_CLASSES_0, slc_FIRST_CLASSES_0⟩)
    (u_FIRST_CLASSES_1 : K.lookup a_FIRST_CLASSES_1 = some ⟨.type "tuple", odc_FIRST_CLASSES_1, .seq #[.str "Failed" tc_FIRST_CLASSES_1_0, .str "Error" tc_FIRST_CLASSES_1_1] nc_FIRST_CLASSES_1, slc_FIRST_CLASSES_1⟩)
    (u_FIRST_CLASSES_2 : K.lookup a_FIRST_CLASSES_2 = some ⟨.type "tuple", odc_FIRST_CLASSES_2, .seq #[.str "Misuse" tc_FIRST_CLASSES_2_0, .str "Error" tc_FIRST_CLASSES_2_1] nc_FIRST_CLASSES_2, slc_FIRST_CLASSES_2⟩)
    (u_FIRST_CLASSES_3 : K.lookup a_FIRST_CLASSES_3 = some ⟨.type "tuple", odc_FIRST_CLASSES_3, .seq #[.str "Beyond" tc_FIRST_CLASSES_3_0, .str "Misuse" tc_FIRST_CLASSES_3_1] nc_FIRST_CLASSES_3, slc_FIRST_CLASSES_3⟩)
    (y_MOST_CLASS_LETTERS : PySem.W.nsIn K mainGlobals "MOST_CLASS_LETTERS" = some (some (.int 12 tc_MOST_CLASS_LETTERS))) :
    ∃ fd : FuncData, (∀ (s : Shared) (v : Value), BindsTo s fd ⟨[v], []⟩ [("script", v)]) ∧ ∀ base : Heap, K.In base → base.Ns mainGlobals mg → FnOk l.prog w K mg base CX0 9 fa fd ["script"] (spLaw K) := by
  have e := hfa.symm.trans (PySem.W.mg_of X G a14)
  cases e
  have F0 := fun_mk (st := s_wall) l0 c0 k0
  have b0 := F0.binds (ps := ["k"]) fun _ _ _ _ _ _ us hl => match us, hl with | [_], _ => rfl
  have F1 := fun_mk (st := s_consists_of) l1 c1 k1
  have b1 := F1.binds (ps := ["text", "characters"]) fun _ _ _ _ _ _ us hl => match us, hl with | [_, _], _ => rfl
  have F2 := fun_mk (st := s_is_class_name) l2 c2 k2
  have b2 := F2.binds (ps := ["thing"]) fun _ _ _ _ _ _ us hl => match us, hl with | [_], _ => rfl
  have F3 := fun_mk (st := s_can_be_declared) l3 c3 k3
  have b3 := F3.binds (ps := ["pair", "above"]) fun _ _ _ _ _ _ us hl => match us, hl with | [_, _], _ => rfl
  have F4 := fun_mk (st := s_law_take) l4 c4 k4
  have b4 := F4.binds (ps := ["bag", "many"]) fun _ _ _ _ _ _ us hl => match us, hl with | [_, _], _ => rfl
  have F5 := fun_mk (st := s_law_of) l5 c5 k5
  have b5 := F5.binds (ps := ["bag", "some"]) fun _ _ _ _ _ _ us hl => match us, hl with | [_, _], _ => rfl
  have F6 := fun_mk (st := s_law_class) l6 c6 k6
  have b6 := F6.binds (ps := ["bag"]) fun _ _ _ _ _ _ us hl => match us, hl with | [_], _ => rfl
  have F7 := fun_mk (st := s_law_is_class) l7 c7 k7
  have b7 := F7.binds (ps := ["thing"]) fun _ _ _ _ _ _ us hl => match us, hl with | [_], _ => rfl
  have F8 := fun_mk (st := s_law_bag) l8 c8 k8
  have b8 := F8.binds (ps := ["script", "at"]) fun _ _ _ _ _ _ us hl => match us, hl with | [_, _], _ => rfl
  have F9 := fun_mk (st := s_law_is_integer) l9 c9 k9
  have b9 := F9.binds (ps := ["thing"]) fun _ _ _ _ _ _ us hl => match us, hl with | [_], _ => rfl
  have F10 := fun_mk (st := s_law_entry) l10 c10 k10
  have b10 := F10.binds (ps := ["bag", "names"]) fun _ _ _ _ _ _ us hl => match us, hl with | [_, _], _ => rfl
  have F11 := fun_mk (st := s_law_right) l11 c11 k11
  have b11 := F11.binds (ps := ["names", "entry"]) fun _ _ _ _ _ _ us hl => match us, hl with | [_, _], _ => rfl
  have F12 := fun_mk (st := s_law_due) l12 c12 k12
  have b12 := F12.binds (ps := ["entries"]) fun _ _ _ _ _ _ us hl => match us, hl with | [_], _ => rfl
  have F13 := fun_mk (st := s_law_got) l13 c13 k13
  have b13 := F13.binds (ps := ["pairs"]) fun _ _ _ _ _ _ us hl => match us, hl with | [_], _ => rfl
  have F14 := fun_mk (st := s_law) l14 c14 k14
  have b14 := F14.binds (ps := ["script"]) fun _ _ _ _ _ _ us hl => match us, hl with | [_], _ => rfl
  have F_Family___init__ := fun_mk (st := s_Family___init__) l_Family___init__ c_Family___init__ k_Family___init__
  have b_Family___init__ := F_Family___init__.binds (ps := ["self", "pairs"]) fun _ _ _ _ _ _ us hl => match us, hl with | [_, _], _ => rfl
  have EF_BadFamily := fun_mk (st := si_BadFamily) e9_BadFamily e10_BadFamily e11_BadFamily
  have Eb_BadFamily := EF_BadFamily.binds (ps := ["self", "at"]) fun _ _ _ _ _ _ us hl => match us, hl with | [_, _], _ => rfl
  have EE_BadFamily : ErrC K mg "BadFamily" "at" C_BadFamily I_BadFamily := ⟨PySem.W.mg_of X G e1_BadFamily, ⟨⟨_, _, _, _, _, _, _, _, _, _, _, _, _, _, _, e2_BadFamily, by first | rfl | decide +kernel⟩, e3_BadFamily, e13_BadFamily, e14_BadFamily, e12_BadFamily⟩, e7_BadFamily, e8_BadFamily, ⟨e4_BadFamily, e5_BadFamily, e13_BadFamily, e15_BadFamily⟩, e6_BadFamily, PySem.W.exm_ref e13_BadFamily e15_BadFamily e14_BadFamily e17_BadFamily⟩
  have T : Txt K mg := {
    f_wall := f_wall, fd_wall := _, F_wall := F0, b_wall := b0, g_wall := PySem.W.mg_of X G a0,
    f_consists_of := f_consists_of, fd_consists_of := _, F_consists_of := F1, b_consists_of := b1, g_consists_of := PySem.W.mg_of X G a1,
    f_is_class_name := f_is_class_name, fd_is_class_name := _, F_is_class_name := F2, b_is_class_name := b2, g_is_class_name := PySem.W.mg_of X G a2,
    f_can_be_declared := f_can_be_declared, fd_can_be_declared := _, F_can_be_declared := F3, b_can_be_declared := b3, g_can_be_declared := PySem.W.mg_of X G a3,
    f_law_take := f_law_take, fd_law_take := _, F_law_take := F4, b_law_take := b4, g_law_take := PySem.W.mg_of X G a4,
    f_law_of := f_law_of, fd_law_of := _, F_law_of := F5, b_law_of := b5, g_law_of := PySem.W.mg_of X G a5,
    f_law_class := f_law_class, fd_law_class := _, F_law_class := F6, b_law_class := b6, g_law_class := PySem.W.mg_of X G a6,
    f_law_is_class := f_law_is_class, fd_law_is_class := _, F_law_is_class := F7, b_law_is_class := b7, g_law_is_class := PySem.W.mg_of X G a7,
    f_law_bag := f_law_bag, fd_law_bag := _, F_law_bag := F8, b_law_bag := b8, g_law_bag := PySem.W.mg_of X G a8,
    f_law_is_integer := f_law_is_integer, fd_law_is_integer := _, F_law_is_integer := F9, b_law_is_integer := b9, g_law_is_integer := PySem.W.mg_of X G a9,
    f_law_entry := f_law_entry, fd_law_entry := _, F_law_entry := F10, b_law_entry := b10, g_law_entry := PySem.W.mg_of X G a10,
    f_law_right := f_law_right, fd_law_right := _, F_law_right := F11, b_law_right := b11, g_law_right := PySem.W.mg_of X G a11,
    f_law_due := f_law_due, fd_law_due := _, F_law_due := F12, b_law_due := b12, g_law_due := PySem.W.mg_of X G a12,
    f_law_got := f_law_got, fd_law_got := _, F_law_got := F13, b_law_got := b13, g_law_got := PySem.W.mg_of X G a13,
    C_Family := C_Family, gC_Family := PySem.W.mg_of X G h0_Family, cl_Family := ⟨h1_Family, h2_Family, h3_Family, h4_Family⟩, tp_Family := ⟨h5_Family, ⟨h6_Family, h7_Family⟩, h8_Family, h9_Family, i0_Family, i1_Family, i2_Family, kit_self, kit_own i3_Family h5_Family i7_Family, kit_own i3_Family h5_Family i8_Family, i6_Family, i7_Family, i8_Family⟩,
    nA_Family__above := j_Family__above,
    nA_Family_declared := j_Family_declared,
    f_Family___init__ := f_Family___init__, fd_Family___init__ := _, F_Family___init__ := F_Family___init__, b_Family___init__ := b_Family___init__, n_Family___init__ := n_Family___init__,
    mk_Family := ⟨m1_Family___init__, a_Family___init__, n_Family___init__, m2_Family___init__⟩,
    cC_BadFamily := C_BadFamily, cI_BadFamily := I_BadFamily, cfd_BadFamily := _, cF_BadFamily := EF_BadFamily, cb_BadFamily := Eb_BadFamily, cE_BadFamily := EE_BadFamily,
    w_BadCall := W_BadCall, gw_BadCall := PySem.W.mg_of X G v0_BadCall,
    w_BadSuite := W_BadSuite, gw_BadSuite := PySem.W.mg_of X G v0_BadSuite,
    w_WhatpassesError := W_WhatpassesError, gw_WhatpassesError := PySem.W.mg_of X G v0_WhatpassesError,
    xk_BadFamily := ⟨e4_BadFamily, e5_BadFamily, e13_BadFamily, e15_BadFamily, v4_BadFamily, v5_BadFamily, v6_BadFamily, v7_BadFamily⟩,
    xi_BadFamily_WhatpassesError := kit_sub v2_WhatpassesError v1_WhatpassesError v3_BadFamily_WhatpassesError e17_BadFamily, xn_BadFamily_WhatpassesError := kit_own v2_WhatpassesError v1_WhatpassesError v8_BadFamily_WhatpassesError,
    xi_BadFamily_ValueError := kit_subT (by decide +kernel) v3_BadFamily_ValueError,
    xi_BadFamily_BadCall := kit_sub v2_BadCall v1_BadCall v3_BadFamily_BadCall e17_BadFamily, xn_BadFamily_BadCall := kit_own v2_BadCall v1_BadCall v8_BadFamily_BadCall,
    xi_BadFamily_BadSuite := kit_sub v2_BadSuite v1_BadSuite v3_BadFamily_BadSuite e17_BadFamily, xn_BadFamily_BadSuite := kit_own v2_BadSuite v1_BadSuite v8_BadFamily_BadSuite,
    m_ValueError := PySem.W.mg_none_of X G z_ValueError, m_abs := PySem.W.mg_none_of X G z_abs, m_all := PySem.W.mg_none_of X G z_all, m_bool := PySem.W.mg_none_of X G z_bool, m_dict := PySem.W.mg_none_of X G z_dict, m_enumerate := PySem.W.mg_none_of X G z_enumerate, m_int := PySem.W.mg_none_of X G z_int, m_isinstance := PySem.W.mg_none_of X G z_isinstance, m_len := PySem.W.mg_none_of X G z_len, m_list := PySem.W.mg_none_of X G z_list, m_max := PySem.W.mg_none_of X G z_max, m_min := PySem.W.mg_none_of X G z_min, m_range := PySem.W.mg_none_of X G z_range, m_str := PySem.W.mg_none_of X G z_str, m_tuple := PySem.W.mg_none_of X G z_tuple, c_SMALL_LETTERS := ⟨_, PySem.W.mg_of X G y_SMALL_LETTERS⟩, c_CAPITAL_LETTERS := ⟨_, PySem.W.mg_of X G y_CAPITAL_LETTERS⟩, c_ROOT := ⟨_, PySem.W.mg_of X G y_ROOT⟩, c_MOST_CLASS_LETTERS := ⟨_, PySem.W.mg_of X G y_MOST_CLASS_LETTERS⟩, a_FIRST_CLASSES := a_FIRST_CLASSES, c_FIRST_CLASSES := PySem.W.mg_of X G y_FIRST_CLASSES, q_FIRST_CLASSES := fun H => .inr ⟨_, _, _, u_FIRST_CLASSES, rfl, rfl, Nat.le_trans (Nat.le_of_eq (show _ = 4 from rfl)) (by decide), (.cons rfl (.cons rfl (.cons rfl (.cons rfl (.nil)))))⟩, d_FIRST_CLASSES := ⟨_, _, _, u_FIRST_CLASSES, rfl, rfl, rfl, rfl⟩, a_FIRST_CLASSES_0 := a_FIRST_CLASSES_0, q_FIRST_CLASSES_0 := fun H => .inr ⟨_, _, _, u_FIRST_CLASSES_0, rfl, rfl, Nat.le_trans (Nat.le_of_eq (show _ = 2 from rfl)) (by decide), (.cons ⟨_, rfl⟩ (.cons rfl (.nil)))⟩, a_FIRST_CLASSES_1 := a_FIRST_CLASSES_1, q_FIRST_CLASSES_1 := fun H => .inr ⟨_, _, _, u_FIRST_CLASSES_1, rfl, rfl, Nat.le_trans (Nat.le_of_eq (show _ = 2 from rfl)) (by decide), (.cons ⟨_, rfl⟩ (.cons ⟨_, rfl⟩ (.nil)))⟩, a_FIRST_CLASSES_2 := a_FIRST_CLASSES_2, q_FIRST_CLASSES_2 := fun H => .inr ⟨_, _, _, u_FIRST_CLASSES_2, rfl, rfl, Nat.le_trans (Nat.le_of_eq (show _ = 2 from rfl)) (by decide), (.cons ⟨_, rfl⟩ (.cons ⟨_, rfl⟩ (.nil)))⟩, a_FIRST_CLASSES_3 := a_FIRST_CLASSES_3, q_FIRST_CLASSES_3 := fun H => .inr ⟨_, _, _, u_FIRST_CLASSES_3, rfl, rfl, Nat.le_trans (Nat.le_of_eq (show _ = 2 from rfl)) (by decide), (.cons ⟨_, rfl⟩ (.cons ⟨_, rfl⟩ (.nil)))⟩
  }
  exact ⟨PySem.W.fnOf "law" "law" (defArgs s_law) (defBody s_law) (defScope s_law) .none kV14 dc14 pm14 an14 cd14 ct14, fun s v => .of_eq rfl, fun base _ _ => ok_law T F14⟩
end Lw
open PySem PySem.W PyProof.Rows in
set_option maxRecDepth 100000 in
set_option maxHeartbeats 0 in
theorem PySem.Challenge.cw_whatpasses_k02_families_refused_holds : PySem.Challenge.rw_whatpasses_k02_families_refused.Holds := by
  w_on; o_law; k_head; (case hw => w_witness2)
  k_fill
  refine L2.walk_ofB (l := PySem.Challenge.rw_whatpasses_k02_families_refused) (n := 63) (k := 9) (x := "script") (CX := fun _ => L2.CX0) (sp := fun w => Lw.spLaw _) rfl (by decide) rfl ⟨rfl, by decide, by decide⟩ (fun w h Y => PySem.W.kIn_of Y) ?F (fun _ _ a ns hl hb _ hS => ⟨a, ns, rfl, hS, hl, hb, fun _ => rfl⟩) (fun _ _ _ _ _ h => h)
  case F =>
    intro w mg fa h KX G hmg
    refine' Lw.all_mk KX G hmg ?a0 ?l0 ?c0 ?k0 ?a1 ?l1 ?c1 ?k1 ?a2 ?l2 ?c2 ?k2 ?a3 ?l3 ?c3 ?k3 ?a4 ?l4 ?c4 ?k4 ?a5 ?l5 ?c5 ?k5 ?a6 ?l6 ?c6 ?k6 ?a7 ?l7 ?c7 ?k7 ?a8 ?l8 ?c8 ?k8 ?a9 ?l9 ?c9 ?k9 ?a10 ?l10 ?c10 ?k10 ?a11 ?l11 ?c11 ?k11 ?a12 ?l12 ?c12 ?k12 ?a13 ?l13 ?c13 ?k13 ?a14 ?l14 ?c14 ?k14 ?h0_Family ?h1_Family ?h2_Family ?h3_Family ?h4_Family ?h5_Family ?h6_Family ?h7_Family ?h8_Family ?h9_Family ?i0_Family ?i1_Family ?i2_Family ?i3_Family ?i6_Family ?i7_Family ?i8_Family ?j_Family__above ?j_Family_declared ?a_Family___init__ ?l_Family___init__ ?c_Family___init__ ?k_Family___init__ ?n_Family___init__ ?m1_Family___init__ ?m2_Family___init__ ?e1_BadFamily ?e2_BadFamily ?e3_BadFamily ?e4_BadFamily ?e5_BadFamily ?e6_BadFamily ?e7_BadFamily ?e8_BadFamily ?e9_BadFamily ?e10_BadFamily ?e11_BadFamily ?e12_BadFamily ?e13_BadFamily ?e14_BadFamily ?e15_BadFamily ?e16_BadFamily ?e17_BadFamily ?v0_BadCall ?v1_BadCall ?v2_BadCall ?v0_BadSuite ?v1_BadSuite ?v2_BadSuite ?v0_WhatpassesError ?v1_WhatpassesError ?v2_WhatpassesError ?v4_BadFamily ?v5_BadFamily ?v6_BadFamily ?v7_BadFamily ?v3_BadFamily_WhatpassesError ?v8_BadFamily_WhatpassesError ?v3_BadFamily_ValueError ?v3_BadFamily_BadCall ?v8_BadFamily_BadCall ?v3_BadFamily_BadSuite ?v8_BadFamily_BadSuite ?z_ValueError ?z_abs ?z_all ?z_bool ?z_dict ?z_enumerate ?z_int ?z_isinstance ?z_len ?z_list ?z_max ?z_min ?z_range ?z_str ?z_tuple ?y_SMALL_LETTERS ?y_CAPITAL_LETTERS ?y_ROOT ?y_FIRST_CLASSES ?u_FIRST_CLASSES ?u_FIRST_CLASSES_0 ?u_FIRST_CLASSES_1 ?u_FIRST_CLASSES_2 ?u_FIRST_CLASSES_3 ?y_MOST_CLASS_LETTERS
    (case a0 => k_is)
    (case l0 => k_is)
    (case c0 => k_is)
    (case k0 => k_is)
    (case a1 => k_is)
    (case l1 => k_is)
    (case c1 => k_is)
    (case k1 => k_is)
    (case a2 => k_is)
    (case l2 => k_is)
    (case c2 => k_is)
    (case k2 => k_is)
    (case a3 => k_is)
    (case l3 => k_is)
    (case c3 => k_is)
    (case k3 => k_is)
    (case a4 => k_is)
    (case l4 => k_is)
    (case c4 => k_is)
    (case k4 => k_is)
    (case a5 => k_is)
    (case l5 => k_is)
    (case c5 => k_is)
    (case k5 => k_is)
    (case a6 => k_is)
    (case l6 => k_is)
    (case c6 => k_is)
    (case k6 => k_is)
    (case a7 => k_is)
    (case l7 => k_is)
    (case c7 => k_is)
    (case k7 => k_is)
    (case a8 => k_is)
    (case l8 => k_is)
    (case c8 => k_is)
    (case k8 => k_is)
    (case a9 => k_is)
    (case l9 => k_is)
    (case c9 => k_is)
    (case k9 => k_is)
    (case a10 => k_is)
    (case l10 => k_is)
    (case c10 => k_is)
    (case k10 => k_is)
    (case a11 => k_is)
    (case l11 => k_is)
    (case c11 => k_is)
    (case k11 => k_is)
    (case a12 => k_is)
    (case l12 => k_is)
    (case c12 => k_is)
    (case k12 => k_is)
    (case a13 => k_is)
    (case l13 => k_is)
    (case c13 => k_is)
    (case k13 => k_is)
    (case a14 => k_is)
    (case l14 => k_is)
    (case c14 => k_is)
    (case k14 => k_is)
    (case h0_Family => k_is)
    (case h1_Family => k_is)
    (case h2_Family => k_is)
    (case h3_Family => k_is)
    (case h4_Family => k_is)
    (case h5_Family => k_is)
    (case h6_Family => k_is)
    (case h7_Family => k_is)
    (case h8_Family => k_is)
    (case h9_Family => k_is)
    (case i0_Family => k_is)
    (case i1_Family => k_is)
    (case i2_Family => k_is)
    (case i3_Family => k_is)
    (case i6_Family => k_is)
    (case i7_Family => k_is)
    (case i8_Family => k_is)
    (case j_Family__above => k_is)
    (case j_Family_declared => k_is)
    (case a_Family___init__ => k_is)
    (case l_Family___init__ => k_is)
    (case c_Family___init__ => k_is)
    (case k_Family___init__ => k_is)
    (case n_Family___init__ => k_is)
    (case m1_Family___init__ => k_is)
    (case m2_Family___init__ => k_is)
    (case e1_BadFamily => k_is)
    (case e2_BadFamily => k_is)
    (case e3_BadFamily => k_is)
    (case e4_BadFamily => k_is)
    (case e5_BadFamily => k_is)
    (case e6_BadFamily => k_is)
    (case e7_BadFamily => k_is)
    (case e8_BadFamily => k_is)
    (case e9_BadFamily => k_is)
    (case e10_BadFamily => k_is)
    (case e11_BadFamily => k_is)
    (case e12_BadFamily => k_is)
    (case e13_BadFamily => k_is)
    (case e14_BadFamily => k_is)
    (case e15_BadFamily => k_is)
    (case e16_BadFamily => k_is)
    (case e17_BadFamily => k_is)
    (case v0_BadCall => k_is)
    (case v1_BadCall => k_is)
    (case v2_BadCall => k_is)
    (case v0_BadSuite => k_is)
    (case v1_BadSuite => k_is)
    (case v2_BadSuite => k_is)
    (case v0_WhatpassesError => k_is)
    (case v1_WhatpassesError => k_is)
    (case v2_WhatpassesError => k_is)
    (case v4_BadFamily => k_is)
    (case v5_BadFamily => k_is)
    (case v6_BadFamily => k_is)
    (case v7_BadFamily => k_is)
    (case v3_BadFamily_WhatpassesError => k_is)
    (case v8_BadFamily_WhatpassesError => k_is)
    (case v3_BadFamily_ValueError => k_is)
    (case v3_BadFamily_BadCall => k_is)
    (case v8_BadFamily_BadCall => k_is)
    (case v3_BadFamily_BadSuite => k_is)
    (case v8_BadFamily_BadSuite => k_is)
    (case z_ValueError => k_is)
    (case z_abs => k_is)
    (case z_all => k_is)
    (case z_bool => k_is)
    (case z_dict => k_is)
    (case z_enumerate => k_is)
    (case z_int => k_is)
    (case z_isinstance => k_is)
    (case z_len => k_is)
    (case z_list => k_is)
    (case z_max => k_is)
    (case z_min => k_is)
    (case z_range => k_is)
    (case z_str => k_is)
    (case z_tuple => k_is)
    (case y_SMALL_LETTERS => k_is)
    (case y_CAPITAL_LETTERS => k_is)
    (case y_ROOT => k_is)
    (case y_FIRST_CLASSES => k_is)
    (case u_FIRST_CLASSES => k_is)
    (case u_FIRST_CLASSES_0 => k_is)
    (case u_FIRST_CLASSES_1 => k_is)
    (case u_FIRST_CLASSES_2 => k_is)
    (case u_FIRST_CLASSES_3 => k_is)
    (case y_MOST_CLASS_LETTERS => k_is)
