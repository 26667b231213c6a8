

import PyProof.Rows.All
import Wide.All
import OpenK.AllK
import Wide.FinOn
import HandS.ForMost
import HandS.Wide
import HandS.IsInst
import HandS.EndBits
import HandS.Walk
import HandS.Style
import HandS.Defaults
import HandS.ExcInit
import HandS.ExcField
import HandS.ExcIs
import HandS.ForExc
import HandS.SlotsOwn
import HandS.DictComp
import HandS.ListItems
import HandS.ClsMeth
import KE.KDictPairs
import HandS.Star
import KE.GoesEnum
import KE.GoesMore
import KE.DataCmp
import PySem.Challenge.RW_whatpasses_k01_families_made
set_option Elab.async false
set_option linter.all false
set_option maxRecDepth 100000
set_option maxHeartbeats 4000000

namespace Lw
open PySem PySem.Spec PyProof.Rows L2
def topS (i : Nat) : Stmt := PySem.Challenge.pw_whatpasses_k01_families_made.main.body.getD i (.Pass ⟨0, 0, 0, 0⟩)
abbrev s_wall : Stmt := topS 0
theorem sc_wall : FnScope ["k"] ["k"] (defScope s_wall) := ⟨rfl, rfl, rfl, by decide +kernel, rfl, by decide +kernel, by decide +kernel⟩
abbrev s_consists_of : Stmt := topS 8
theorem sc_consists_of : FnScope ["text", "characters", "character"] ["text", "characters"] (defScope s_consists_of) := ⟨rfl, rfl, rfl, by decide +kernel, rfl, by decide +kernel, by decide +kernel⟩
abbrev s_is_class_name : Stmt := topS 13
theorem sc_is_class_name : FnScope ["thing"] ["thing"] (defScope s_is_class_name) := ⟨rfl, rfl, rfl, by decide +kernel, rfl, by decide +kernel, by decide +kernel⟩
abbrev s_can_be_declared : Stmt := topS 14
theorem sc_can_be_declared : FnScope ["pair", "above", "name", "parent"] ["pair", "above"] (defScope s_can_be_declared) := ⟨rfl, rfl, rfl, by decide +kernel, rfl, by decide +kernel, by decide +kernel⟩
abbrev s_law_parents_of : Stmt := topS 17
theorem sc_law_parents_of : FnScope ["pairs", "found", "name", "parent"] ["pairs"] (defScope s_law_parents_of) := ⟨rfl, rfl, rfl, by decide +kernel, rfl, by decide +kernel, by decide +kernel⟩
abbrev s_law_take : Stmt := topS 18
theorem sc_law_take : FnScope ["bag", "many", "digit", "mixed"] ["bag", "many"] (defScope s_law_take) := ⟨rfl, rfl, rfl, by decide +kernel, rfl, by decide +kernel, by decide +kernel⟩
abbrev s_law_of : Stmt := topS 19
theorem sc_law_of : FnScope ["bag", "some"] ["bag", "some"] (defScope s_law_of) := ⟨rfl, rfl, rfl, by decide +kernel, rfl, by decide +kernel, by decide +kernel⟩
abbrev s_law_class : Stmt := topS 20
theorem sc_law_class : FnScope ["bag", "letters", "found", "turn"] ["bag"] (defScope s_law_class) := ⟨rfl, rfl, rfl, by decide +kernel, rfl, by decide +kernel, by decide +kernel⟩
abbrev s_law_bag : Stmt := topS 21
theorem sc_law_bag : FnScope ["script", "at", "cell"] ["script", "at"] (defScope s_law_bag) := ⟨rfl, rfl, rfl, by decide +kernel, rfl, by decide +kernel, by decide +kernel⟩
abbrev s_law_wide_family : Stmt := topS 22
theorem sc_law_wide_family : FnScope ["bag", "most", "names", "pairs", "in_chain", "turn", "name", "at", "parent"] ["bag", "most"] (defScope s_law_wide_family) := ⟨rfl, rfl, rfl, by decide +kernel, rfl, by decide +kernel, by decide +kernel⟩
abbrev s_law_long_family : Stmt := topS 23
theorem sc_law_long_family : FnScope ["bag"] ["bag"] (defScope s_law_long_family) := ⟨rfl, rfl, rfl, by decide +kernel, rfl, by decide +kernel, by decide +kernel⟩
abbrev s_law_told : Stmt := topS 24
theorem sc_law_told : FnScope ["family", "pairs", "parents", "names", "told", "name", "parent"] ["family", "pairs"] (defScope s_law_told) := ⟨rfl, rfl, rfl, by decide +kernel, rfl, by decide +kernel, by decide +kernel⟩
abbrev s_law_inside : Stmt := topS 25
theorem sc_law_inside : FnScope ["bag", "family", "pairs", "names", "others", "strings", "name", "parent", "thing"] ["bag", "family", "pairs"] (defScope s_law_inside) := ⟨rfl, rfl, rfl, by decide +kernel, rfl, by decide +kernel, by decide +kernel⟩
abbrev s_law : Stmt := topS 26
theorem sc_law : FnScope ["script", "at", "bag", "pairs", "rest", "handed", "family", "other", "is_same", "pair"] ["script"] (defScope s_law) := ⟨rfl, rfl, rfl, by decide +kernel, rfl, by decide +kernel, by decide +kernel⟩
def clsNth (j : Nat) : Stmt → Stmt
  | .ClassDef (body := b) .. => b.getD j (.Pass ⟨0, 0, 0, 0⟩)
  | _ => .Pass ⟨0, 0, 0, 0⟩
abbrev s_Family___init__ : Stmt := clsNth 0 (topS 15)
theorem sc_Family___init__ : FnScope ["self", "pairs", "above", "at", "pair", "name", "parent"] ["self", "pairs"] (defScope s_Family___init__) := ⟨rfl, rfl, rfl, by decide +kernel, rfl, by decide +kernel, by decide +kernel⟩
abbrev s_Family_names : Stmt := clsNth 1 (topS 15)
theorem sc_Family_names : FnScope ["self"] ["self"] (defScope s_Family_names) := ⟨rfl, rfl, rfl, by decide +kernel, rfl, by decide +kernel, by decide +kernel⟩
abbrev s_Family_parent : Stmt := clsNth 2 (topS 15)
theorem sc_Family_parent : FnScope ["self", "name"] ["self", "name"] (defScope s_Family_parent) := ⟨rfl, rfl, rfl, by decide +kernel, rfl, by decide +kernel, by decide +kernel⟩
abbrev s_Family___contains__ : Stmt := clsNth 6 (topS 15)
theorem sc_Family___contains__ : FnScope ["self", "x"] ["self", "x"] (defScope s_Family___contains__) := ⟨rfl, rfl, rfl, by decide +kernel, rfl, by decide +kernel, by decide +kernel⟩
abbrev s_Family___len__ : Stmt := clsNth 7 (topS 15)
theorem sc_Family___len__ : FnScope ["self"] ["self"] (defScope s_Family___len__) := ⟨rfl, rfl, rfl, by decide +kernel, rfl, by decide +kernel, by decide +kernel⟩
abbrev s_Family___eq__ : Stmt := clsNth 8 (topS 15)
theorem sc_Family___eq__ : FnScope ["self", "other"] ["self", "other"] (defScope s_Family___eq__) := ⟨rfl, rfl, rfl, by decide +kernel, rfl, by decide +kernel, by decide +kernel⟩
abbrev s_Family_plain : Stmt := clsNth 10 (topS 15)
theorem sc_Family_plain : FnScope [] [] (defScope s_Family_plain) := ⟨rfl, rfl, rfl, by decide +kernel, rfl, by decide +kernel, by decide +kernel⟩
/-- what is asked of an own class for ==, !=, isinstance and its static methods -/
structure OwnFacts (K : PySem.W.Frag) (C : Addr) : Prop where
  ty : PySem.W.typeIn K (.ref C) = some (.type "type")
  cr : ClX.CRead K C (.type "type")
  ne : PySem.W.findIn K (.ref C) "__ne__" = some (some (.builtin "object.__ne__"))
  top : PySem.W.mroIn K C (.type "object") = some true
  ca : PySem.W.findIn K (.ref C) "__class__" = some (some (.builtin "object.__class__"))
  cg : PySem.W.specialIn K (.builtin "object.__class__") "__get__" = some (some (.builtin "getset_descriptor.__get__"))
  ct : PySem.W.takesIn K (.builtin "object.__class__") = some true
  k1 : PySem.W.kitOne K (.ref C) (.ref C) = some true
  k2 : PySem.W.kitOne K (.type "list") (.ref C) = some false
  k3 : PySem.W.kitOne K (.type "tuple") (.ref C) = some false
  f1 : PySem.W.notFirst K C (.ref C) = true
  f2 : PySem.W.notFirst K C (.type "list") = true
  f3 : PySem.W.notFirst K C (.type "tuple") = true
/-- what the top leaves: where the defs stand, which names are built-in -/
structure Txt (K : PySem.W.Frag) (mg : Str → Option Value) where
  f_wall : Addr
  fd_wall : FuncData
  F_wall : Fun K "_wall" "_wall" s_wall f_wall fd_wall
  b_wall : Binds K fd_wall ["k"] []
  g_wall : mg "_wall" = some (.ref f_wall)
  f_consists_of : Addr
  fd_consists_of : FuncData
  F_consists_of : Fun K "consists_of" "consists_of" s_consists_of f_consists_of fd_consists_of
  b_consists_of : Binds K fd_consists_of ["text", "characters"] []
  g_consists_of : mg "consists_of" = some (.ref f_consists_of)
  f_is_class_name : Addr
  fd_is_class_name : FuncData
  F_is_class_name : Fun K "is_class_name" "is_class_name" s_is_class_name f_is_class_name fd_is_class_name
  b_is_class_name : Binds K fd_is_class_name ["thing"] []
  g_is_class_name : mg "is_class_name" = some (.ref f_is_class_name)
  f_can_be_declared : Addr
  fd_can_be_declared : FuncData
  F_can_be_declared : Fun K "can_be_declared" "can_be_declared" s_can_be_declared f_can_be_declared fd_can_be_declared
  b_can_be_declared : Binds K fd_can_be_declared ["pair", "above"] []
  g_can_be_declared : mg "can_be_declared" = some (.ref f_can_be_declared)
  f_law_parents_of : Addr
  fd_law_parents_of : FuncData
  F_law_parents_of : Fun K "_law_parents_of" "_law_parents_of" s_law_parents_of f_law_parents_of fd_law_parents_of
  b_law_parents_of : Binds K fd_law_parents_of ["pairs"] []
  g_law_parents_of : mg "_law_parents_of" = some (.ref f_law_parents_of)
  f_law_take : Addr
  fd_law_take : FuncData
  F_law_take : Fun K "_law_take" "_law_take" s_law_take f_law_take fd_law_take
  b_law_take : Binds K fd_law_take ["bag", "many"] []
  g_law_take : mg "_law_take" = some (.ref f_law_take)
  f_law_of : Addr
  fd_law_of : FuncData
  F_law_of : Fun K "_law_of" "_law_of" s_law_of f_law_of fd_law_of
  b_law_of : Binds K fd_law_of ["bag", "some"] []
  g_law_of : mg "_law_of" = some (.ref f_law_of)
  f_law_class : Addr
  fd_law_class : FuncData
  F_law_class : Fun K "_law_class" "_law_class" s_law_class f_law_class fd_law_class
  b_law_class : Binds K fd_law_class ["bag"] []
  g_law_class : mg "_law_class" = some (.ref f_law_class)
  f_law_bag : Addr
  fd_law_bag : FuncData
  F_law_bag : Fun K "_law_bag" "_law_bag" s_law_bag f_law_bag fd_law_bag
  b_law_bag : Binds K fd_law_bag ["script", "at"] []
  g_law_bag : mg "_law_bag" = some (.ref f_law_bag)
  f_law_wide_family : Addr
  fd_law_wide_family : FuncData
  F_law_wide_family : Fun K "_law_wide_family" "_law_wide_family" s_law_wide_family f_law_wide_family fd_law_wide_family
  b_law_wide_family : Binds K fd_law_wide_family ["bag", "most"] []
  g_law_wide_family : mg "_law_wide_family" = some (.ref f_law_wide_family)
  f_law_long_family : Addr
  fd_law_long_family : FuncData
  F_law_long_family : Fun K "_law_long_family" "_law_long_family" s_law_long_family f_law_long_family fd_law_long_family
  b_law_long_family : Binds K fd_law_long_family ["bag"] []
  g_law_long_family : mg "_law_long_family" = some (.ref f_law_long_family)
  f_law_told : Addr
  fd_law_told : FuncData
  F_law_told : Fun K "_law_told" "_law_told" s_law_told f_law_told fd_law_told
  b_law_told : Binds K fd_law_told ["family", "pairs"] []
  g_law_told : mg "_law_told" = some (.ref f_law_told)
  f_law_inside : Addr
  fd_law_inside : FuncData
  F_law_inside : Fun K "_law_inside" "_law_inside" s_law_inside f_law_inside fd_law_inside
  b_law_inside : Binds K fd_law_inside ["bag", "family", "pairs"] []
  g_law_inside : mg "_law_inside" = some (.ref f_law_inside)
  C_Family : Addr
  gC_Family : mg "Family" = some (.ref C_Family)
  cl_Family : Cls K C_Family
  tp_Family : OwnFacts K C_Family
  nA_Family__above : NoAttr K C_Family "_above"
  nA_Family_declared : NoAttr K C_Family "declared"
  f_Family___init__ : Addr
  fd_Family___init__ : FuncData
  F_Family___init__ : Fun K "__init__" "Family.__init__" s_Family___init__ f_Family___init__ fd_Family___init__
  b_Family___init__ : Binds K fd_Family___init__ ["self", "pairs"] []
  n_Family___init__ : PySem.W.isFn K (.ref f_Family___init__) = true
  mk_Family : Mk K C_Family f_Family___init__
  f_Family_names : Addr
  fd_Family_names : FuncData
  F_Family_names : Fun K "names" "Family.names" s_Family_names f_Family_names fd_Family_names
  b_Family_names : Binds K fd_Family_names ["self"] []
  n_Family_names : PySem.W.isFn K (.ref f_Family_names) = true
  o_Family_names : PySem.W.findIn K (.ref C_Family) "names" = some (some (.ref f_Family_names))
  f_Family_parent : Addr
  fd_Family_parent : FuncData
  F_Family_parent : Fun K "parent" "Family.parent" s_Family_parent f_Family_parent fd_Family_parent
  b_Family_parent : Binds K fd_Family_parent ["self", "name"] []
  n_Family_parent : PySem.W.isFn K (.ref f_Family_parent) = true
  o_Family_parent : PySem.W.findIn K (.ref C_Family) "parent" = some (some (.ref f_Family_parent))
  f_Family___contains__ : Addr
  fd_Family___contains__ : FuncData
  F_Family___contains__ : Fun K "__contains__" "Family.__contains__" s_Family___contains__ f_Family___contains__ fd_Family___contains__
  b_Family___contains__ : Binds K fd_Family___contains__ ["self", "x"] []
  n_Family___contains__ : PySem.W.isFn K (.ref f_Family___contains__) = true
  o_Family___contains__ : PySem.W.findIn K (.ref C_Family) "__contains__" = some (some (.ref f_Family___contains__))
  f_Family___len__ : Addr
  fd_Family___len__ : FuncData
  F_Family___len__ : Fun K "__len__" "Family.__len__" s_Family___len__ f_Family___len__ fd_Family___len__
  b_Family___len__ : Binds K fd_Family___len__ ["self"] []
  n_Family___len__ : PySem.W.isFn K (.ref f_Family___len__) = true
  o_Family___len__ : PySem.W.findIn K (.ref C_Family) "__len__" = some (some (.ref f_Family___len__))
  f_Family___eq__ : Addr
  fd_Family___eq__ : FuncData
  F_Family___eq__ : Fun K "__eq__" "Family.__eq__" s_Family___eq__ f_Family___eq__ fd_Family___eq__
  b_Family___eq__ : Binds K fd_Family___eq__ ["self", "other"] []
  n_Family___eq__ : PySem.W.isFn K (.ref f_Family___eq__) = true
  o_Family___eq__ : PySem.W.findIn K (.ref C_Family) "__eq__" = some (some (.ref f_Family___eq__))
  f_Family_plain : Addr
  fd_Family_plain : FuncData
  F_Family_plain : Fun K "plain" "Family.plain" s_Family_plain f_Family_plain fd_Family_plain
  b_Family_plain : Binds K fd_Family_plain [] []
  n_Family_plain : PySem.W.isFn K (.ref f_Family_plain) = true
  p_Family_plain : Addr
  sm_Family_plain : PySem.W.findCls K (.ref C_Family) (.type "type") "plain" = some (.get (.builtin "staticmethod.__get__") (.ref p_Family_plain) .none (.ref C_Family))
  sr_Family_plain : ∃ rest, PySem.W.recIn K p_Family_plain "staticmethod" = some (.ref f_Family_plain :: rest)
  m_abs : mg "abs" = none
  m_all : mg "all" = none
  m_any : mg "any" = none
  m_dict : mg "dict" = none
  m_enumerate : mg "enumerate" = none
  m_int : mg "int" = none
  m_isinstance : mg "isinstance" = none
  m_len : mg "len" = none
  m_list : mg "list" = none
  m_max : mg "max" = none
  m_min : mg "min" = none
  m_range : mg "range" = none
  m_str : mg "str" = none
  m_tuple : mg "tuple" = none
  c_SMALL_LETTERS : ∃ t, mg "SMALL_LETTERS" = some (.str "abcdefghijklmnopqrstuvwxyz" t)
  c_CAPITAL_LETTERS : ∃ t, mg "CAPITAL_LETTERS" = some (.str "ABCDEFGHIJKLMNOPQRSTUVWXYZ" t)
  c_ROOT : ∃ t, mg "ROOT" = some (.str "Error" t)
  a_FIRST_CLASSES : Addr
  c_FIRST_CLASSES : mg "FIRST_CLASSES" = some (.ref a_FIRST_CLASSES)
  a_FIRST_CLASSES_0 : Addr
  q_FIRST_CLASSES_0 : ∀ H : Hp, SqT K H a_FIRST_CLASSES_0 [.str (Str.ofString "Error"), .non]
  a_FIRST_CLASSES_1 : Addr
  q_FIRST_CLASSES_1 : ∀ H : Hp, SqT K H a_FIRST_CLASSES_1 [.str (Str.ofString "Failed"), .str (Str.ofString "Error")]
  a_FIRST_CLASSES_2 : Addr
  q_FIRST_CLASSES_2 : ∀ H : Hp, SqT K H a_FIRST_CLASSES_2 [.str (Str.ofString "Misuse"), .str (Str.ofString "Error")]
  a_FIRST_CLASSES_3 : Addr
  q_FIRST_CLASSES_3 : ∀ H : Hp, SqT K H a_FIRST_CLASSES_3 [.str (Str.ofString "Beyond"), .str (Str.ofString "Misuse")]
  q_FIRST_CLASSES : ∀ H : Hp, SqT K H a_FIRST_CLASSES [.ref a_FIRST_CLASSES_0, .ref a_FIRST_CLASSES_1, .ref a_FIRST_CLASSES_2, .ref a_FIRST_CLASSES_3]
  d_FIRST_CLASSES : ∃ (o : Obj) (its : Array Value) (n : Nat), K.lookup a_FIRST_CLASSES = some o ∧ o.cls = .type "tuple" ∧ o.dict = none ∧ o.data = .seq its n ∧ its.toList = [a_FIRST_CLASSES_0, a_FIRST_CLASSES_1, a_FIRST_CLASSES_2, a_FIRST_CLASSES_3].map Value.ref
  c_MOST_CLASS_LETTERS : ∃ t, mg "MOST_CLASS_LETTERS" = some (.int 12 t)
/-! ### short steps: where the walk's name is only a name -/

/-! ### isinstance -/
theorem ty_non {K : PySem.W.Frag} {H : Hp} : TyX K H .non (.type "NoneType") := .base .non
theorem ty_bl {K : PySem.W.Frag} {H : Hp} {b : Bool} : TyX K H (.bl b) (.type "bool") := .base (.bl b)
theorem ty_int {K : PySem.W.Frag} {H : Hp} {i : Int} : TyX K H (.int i) (.type "int") := .base (.int i)
theorem ty_str {K : PySem.W.Frag} {H : Hp} {z : Str} : TyX K H (.str z) (.type "str") := .base (.str z)
theorem ty_lst {K : PySem.W.Frag} {H : Hp} {a : Addr} {xs : List V} (e : H a = some (.lst xs)) : TyX K H (.ref a) (.type "list") := .base (.lst e)
theorem ty_tup {K : PySem.W.Frag} {H : Hp} {a : Addr} {xs : List V} (e : H a = some (.tup xs)) : TyX K H (.ref a) (.type "tuple") := .base (.tup e)
theorem kit_of2 {K : PySem.W.Frag} {a c : String} (r : Bool) (h : kitB a c = some r) : PySem.W.kitOne K (.type a) (.type c) = some r := kit_ty h

theorem ty_sqL {K : PySem.W.Frag} {H : Hp} {a : Addr} {xs : List V} (h : SqL K H a xs) : TyX K H (.ref a) (.type "list") := by
  rcases h with (h | ⟨o, h⟩) | ⟨o, its, n, h, c, _⟩
  · exact .base (.lst h)
  · exact .base (.frz h)
  · exact .kList h c
theorem ty_sqT {K : PySem.W.Frag} {H : Hp} {a : Addr} {xs : List V} (h : SqT K H a xs) : TyX K H (.ref a) (.type "tuple") := by
  rcases h with (h | ⟨o, h⟩) | ⟨o, its, n, h, c, _⟩
  · exact .base (.tup h)
  · exact .fTuple h
  · exact .kTuple h c
theorem small5 {n : Nat} (h : n ≤ 100000) : n < sizeLine := Nat.lt_of_le_of_lt h (by decide)
def isUp (c : Nat) : Bool := decide (65 ≤ c ∧ c ≤ 90)
def isLow (c : Nat) : Bool := decide (97 ≤ c ∧ c ≤ 122)

local macro_rules | `(tactic| walk_at "lw list") => `(tactic| first | assumption | exact upd_same | (rw [upd_ne (by assumption)]; assumption))
local macro_rules | `(tactic| walk_at "lw c") => `(tactic| first
  | (show (_ : Int) ≠ 0; omega)
  | exact log_small (by omega) (by assumption)
  | exact Or.inl ⟨by omega, by omega⟩
  | exact Or.inr ⟨by omega, by omega⟩
  | exact ⟨by omega, by omega⟩
  | exact ⟨by omega, by omega, by omega⟩)
local macro_rules | `(tactic| walk_at "lw n") => `(tactic| first | exact Nat.zero_le _ | (refine Nat.le_of_lt (small1000 ?_); simp only [List.length_cons, List.length_nil]; decide))
local macro_rules | `(tactic| walk_at "lw v") => `(tactic| first
  | refine ⟨_, rfl, ?_⟩
  | refine ⟨_, _, rfl, rfl, ?_⟩
  | refine ⟨_, _, rfl, ?_⟩
  | refine .inl ⟨_, rfl, ?_⟩
  | refine ⟨⟨_, rfl⟩, ?_⟩
  | refine ⟨rfl, ?_⟩
  | (refine' ⟨_, _, _, _, rfl, rfl, SqL.of ?h, ?r, ?_⟩; (case h => walk_at "lw list"); (case r => rfl))
  | (refine' ⟨_, _, _, _, rfl, rfl, ?h, ?r, ?_⟩; (case h => walk_at "lw list"); (case r => rfl))
  | (refine' ⟨_, _, rfl, .inl ⟨_, SqL.of ?h, rfl⟩, ?_⟩; (case h => walk_at "lw list"))
  | (refine' ⟨_, _, rfl, .inl ⟨_, ?h, rfl⟩, ?_⟩; (case h => assumption))
  | (refine' ⟨_, _, rfl, .inr ⟨_, ?h, rfl⟩, ?_⟩; (case h => assumption))
  | (refine ⟨_, _, rfl, ⟨(by have := PySem.sizeLine_eq; omega), rfl⟩, ?_⟩)
  | (refine ⟨(by walk_at "lw c"), ?_⟩))
local macro_rules | `(tactic| walk_at "lw isi") => `(tactic| (refine' ⟨_, _, _, _, _, rfl, .ty _, ?ty, ?k, ?_⟩; (case ty => first | exact ty_int | exact ty_str | exact ty_non | exact ty_bl | exact ty_lst (by assumption) | exact ty_tup (by assumption) | exact ty_sqL (by assumption) | exact ty_sqT (by assumption)); (case k => first | (refine kit_of2 true ?_; decide +kernel) | (refine kit_of2 false ?_; decide +kernel))))
local macro_rules | `(tactic| walk_at "lw w") => `(tactic| first | walk_at "lw v" | walk_at "lw isi")

/-! ### an own class's in, len, ==, != -/
section
variable {X : Cx} {CX : CXT} {n : Nat} {C g : Addr} {sp : Sp} {E : XK} {pins : List (Addr × Obj)} {σ : L2.St} {H : Hp} {s : Shared}
theorem ins_inst {a dx : Addr} {fs : List (Str × V)} (I : Inv X pins σ H s) (e : H a = some (.ins C dx fs)) : ∃ od, PySem.W.InstAt s.heap a (PySem.W.instObj C dx) C (some od) := by
  obtain ⟨mA, O, _⟩ := ins_get I.hok e
  obtain ⟨od, ho, _⟩ := lookIn_ns O.ns
  exact ⟨od, O.obj, rfl, rfl, ho⟩
/-- a value and its type, for the other side of == -/
def TyO (K : PySem.W.Frag) (H : Hp) (y : V) (tb : Value) : Prop := TyX K H y tb ∨ ∃ (b C2 dy : Addr) (fs : List (Str × V)), y = .ref b ∧ H b = some (.ins C2 dy fs) ∧ tb = .ref C2
def rInOwn (C : Addr) (sp : Sp) (E : XK) (neg : Bool) : R2 := fun x y H Q => ∃ a dx fs, y = .ref a ∧ H a = some (.ins C dx fs) ∧ sp [.ref a, x] H (fun v H' => ∃ b : Bool, v = .bl b ∧ Q (.bl (if neg then !b else b)) H') E
theorem op_inOwn (hs : PySem.W.findIn X.K (.ref C) "__contains__" = some (some (.ref g))) (hf : PySem.W.isFn X.K (.ref g) = true) (F : FnR X.prog X.w X.K X.mg X.base CX n g sp) (hr : Room n X.A) (hx : Passes CX X E) : OpR X (compareOp .In) (rInOwn C sp E false) := by
  intro pins s σ H x y v u Q I rx ry h
  obtain ⟨a, dx, fs, rfl, ha, q⟩ := h
  cases (show u = Value.ref a from ry)
  obtain ⟨od, J⟩ := ins_inst I ha
  obtain ⟨m, hF⟩ := I.fr
  refine PySem.W.in_K hF I.ok.mod.kin J hs hf (wpAny_mono (wpAny_call (run_fnR (us := [.ref a, v]) (vs := [.ref a, x]) F hr hx I (.cons rfl (.cons rx .nil)) q)) (fun z s' hz => ?_) fun _ _ e => e)
  obtain ⟨z1, H1, I1, rz, b, rfl, q1⟩ := hz
  cases (show z = Value.bool b from rz)
  exact wpAny_truthy_bool ⟨.bl b, H1, I1, rfl, q1⟩
theorem op_notInOwn (hs : PySem.W.findIn X.K (.ref C) "__contains__" = some (some (.ref g))) (hf : PySem.W.isFn X.K (.ref g) = true) (F : FnR X.prog X.w X.K X.mg X.base CX n g sp) (hr : Room n X.A) (hx : Passes CX X E) : OpR X (compareOp .NotIn) (rInOwn C sp E true) := by
  intro pins s σ H x y v u Q I rx ry h
  obtain ⟨a, dx, fs, rfl, ha, q⟩ := h
  cases (show u = Value.ref a from ry)
  obtain ⟨od, J⟩ := ins_inst I ha
  obtain ⟨m, hF⟩ := I.fr
  refine PySem.W.notIn_K hF I.ok.mod.kin J hs hf (wpAny_mono (wpAny_call (run_fnR (us := [.ref a, v]) (vs := [.ref a, x]) F hr hx I (.cons rfl (.cons rx .nil)) q)) (fun z s' hz => ?_) fun _ _ e => e)
  obtain ⟨z1, H1, I1, rz, b, rfl, q1⟩ := hz
  cases (show z = Value.bool b from rz)
  exact wpAny_truthy_bool ⟨.bl (!b), H1, I1, rfl, q1⟩
theorem call_lenOwn (hs : PySem.W.findIn X.K (.ref C) "__len__" = some (some (.ref g))) (hf : PySem.W.isFn X.K (.ref g) = true) (F : FnR X.prog X.w X.K X.mg X.base CX n g sp) (hr : Room (n + 1) X.A) (hx : Passes CX X E) :
    CallR X (.builtin "len") (fun xs H Q => ∃ a dx fs, xs = [.ref a] ∧ H a = some (.ins C dx fs) ∧ sp [.ref a] H (fun v H' => ∃ k : Nat, v = .int k ∧ k < 100000 ∧ Q (.int k) H') E) := by
  intro pins s σ H xs us Q I r h
  obtain ⟨a, dx, fs, rfl, ha, q⟩ := h
  obtain ⟨u, rfl, ru⟩ := r.one
  cases (show u = Value.ref a from ru)
  obtain ⟨od, J⟩ := ins_inst I ha
  obtain ⟨m, hF⟩ := I.fr
  refine PySem.W.len_K hF I.ok.mod.kin J hs hf (wpAny_mono (wpAny_call (SlX.run_at (us := [.ref a]) (ws := [.ref a]) F (Room.in1 hr) I.env0.in1 hx I (.cons rfl .nil) q)) (fun z s' hz => ?_) fun _ _ e => e)
  obtain ⟨z1, H1, I1, rz, k, rfl, hk, q1⟩ := hz
  obtain ⟨t, rfl⟩ := (show ∃ t, z = Value.int k t from rz)
  exact ⟨⟨Int.natCast_nonneg k, by omega⟩, .int k, H1, I1.tok _, ⟨_, rfl⟩, q1⟩
theorem looks_tyO {y : V} {u tb : Value} (I : Inv X pins σ H s) (ry : RelV y u) (ty : TyO X.K H y tb) : PySem.W.Looks (model X.prog X.w) s.heap (typeOf u) tb := by
  rcases ty with ty | ⟨b, C2, dy, fs, rfl, hb, rfl⟩
  · obtain ⟨P, Z, hP, _⟩ := kit_of I ry ty
    exact Z.ty _ _ I.kIn hP
  · cases (show u = Value.ref b from ry)
    obtain ⟨od, J⟩ := ins_inst I hb
    exact J.type
def rEqOwn (K : PySem.W.Frag) (C : Addr) (sp : Sp) (E : XK) : R2 := fun x y H Q => ∃ a dx fs tb, x = .ref a ∧ H a = some (.ins C dx fs) ∧ TyO K H y tb ∧ PySem.W.notFirst K C tb = true ∧ sp [x, y] H Q E
theorem op_eqOwn (hs : PySem.W.findIn X.K (.ref C) "__eq__" = some (some (.ref g))) (hf : PySem.W.isFn X.K (.ref g) = true) (F : FnR X.prog X.w X.K X.mg X.base CX n g sp) (hr : Room n X.A) (hx : Passes CX X E) : OpR X (compareOp .Eq) (rEqOwn X.K C sp E) := by
  intro pins s σ H x y v u Q I rx ry h
  obtain ⟨a, dx, fs, tb, rfl, ha, ty, hn, q⟩ := h
  cases (show v = Value.ref a from rx)
  obtain ⟨od, J⟩ := ins_inst I ha
  obtain ⟨m, hF⟩ := I.fr
  refine PySem.W.cmp_K (op := .Eq) (tb := tb) hr.units0 hF I.ok.mod.kin J (looks_tyO I ry ty) hn hs hf ?_
  refine wpAny_mono (wpAny_call (run_fnR (us := [.ref a, u]) (vs := [.ref a, y]) F hr hx I (.cons rfl (.cons ry .nil)) q)) (fun z s' hz => ?_) fun _ _ e => e
  obtain ⟨z1, H1, I1, rz, q1⟩ := hz
  exact SlX.cmpback rz ⟨z1, H1, I1, rz, q1⟩
theorem ifBound_ne {M : Model} {K : PySem.W.Frag} {ox : Obj} {od : Option Obj} {a : Addr} {args : List Value} {Ex : Value → Shared → Prop} {A : Around} {Qx : Option Value → Shared → Prop} (kin : K.In s.heap) (J : PySem.W.InstAt s.heap a ox C od)
    (hn : PySem.W.findIn K (.ref C) "__ne__" = some (some (.builtin "object.__ne__"))) (h : wpAny M A (call (.builtin "object.__ne__") (.ref a :: args)) (fun v => Qx (some v)) Ex s) : wpAny M A (callSpecialIfBound? (.ref a) "__ne__" args) Qx Ex s := by
  have hb : ∀ self : Value, bindSpecial (.builtin "object.__ne__") self = pure (.builtin "object.__ne__", [self]) := fun self => PySem.F.cmp_object.ne.bind self
  simp only [callSpecialIfBound?, bindSpecialIfBound?]
  refine wpAny_holding (wpAny_bind (wpAny_bind (wpAny_bind (J.type.here ((PySem.W.looks_findIn kin hn).here ?_)))))
  refine wpAny_bind (wpAny_askSetting (wpAny_ite ?_))
  have fin : wpAny M A (call (.builtin "object.__ne__") ([.ref a] ++ args) >>= fun v => pure (some v)) Qx Ex s := wpAny_bind (wpAny_mono h (fun v s1 h1 => wpAny_pure h1) fun _ _ h1 => h1)
  split
  · rw [hb]
    exact wpAny_bind (wpAny_pure (wpAny_pure (by exact fin)))
  · rw [hb]
    exact wpAny_tryCatch (wpAny_bind (wpAny_pure (wpAny_pure (by exact fin))))
theorem ne_entry {P : Program} {w : World} {K : PySem.W.Frag} {ox : Obj} {od : Option Obj} {a : Addr} {u : Value} {Ex : Value → Shared → Prop} {A : Around} {Qx : Fin → Shared → Prop} (hu : A.units < cLine) (kin : K.In s.heap) (J : PySem.W.InstAt s.heap a ox C od)
    (hs : PySem.W.findIn K (.ref C) "__eq__" = some (some (.ref g))) (hf : PySem.W.isFn K (.ref g) = true)
    (h : wpAny (model P w) A (call (.ref g) [.ref a, u]) (fun v s1 => ∃ b, v = .bool b ∧ Qx (.done (.ret (.bool (!b)))) s1) Ex s) : wpAny (model P w) A (Builtin.«object.__ne__» ⟨[.ref a, u], []⟩) Qx Ex s := by
  unfold Builtin.«object.__ne__»
  repeat (first
    | with_reducible refine wpAny_cRoomFor hu ?_
    | (refine wpAny_bind (m := callSpecialIfBound? (.ref a) (Str.ofString "__eq__") [u]) (PySem.W.ifBound_K kin J hs hf (wpAny_mono h (fun r s1 hr => by
          obtain ⟨b, rfl, hq⟩ := hr
          repeat (first | exact hq | exact wpAny_pure hq | exact wpAny_truthy_bool hq | (refine wpAny_bind (m := truthy (.bool _)) (wpAny_truthy_bool ?_)) | wp_step)) fun _ _ e => e)))
    | wp_step)
def rNeOwn (K : PySem.W.Frag) (C : Addr) (sp : Sp) (E : XK) : R2 := fun x y H Q => ∃ a dx fs tb, x = .ref a ∧ H a = some (.ins C dx fs) ∧ TyO K H y tb ∧ PySem.W.notFirst K C tb = true ∧ sp [x, y] H (fun v H' => ∃ b : Bool, v = .bl b ∧ Q (.bl (!b)) H') E
theorem op_neOwn (hs : PySem.W.findIn X.K (.ref C) "__eq__" = some (some (.ref g))) (hf : PySem.W.isFn X.K (.ref g) = true) (hn : PySem.W.findIn X.K (.ref C) "__ne__" = some (some (.builtin "object.__ne__"))) (top : PySem.W.mroIn X.K C (.type "object") = some true)
    (F : FnR X.prog X.w X.K X.mg X.base CX n g sp) (hr : Room (n + 1) X.A) (hx : Passes CX X E) : OpR X (compareOp .NotEq) (rNeOwn X.K C sp E) := by
  intro pins s σ H x y v u Q I rx ry h
  obtain ⟨a, dx, fs, tb, rfl, ha, ty, hnf, q⟩ := h
  cases (show v = Value.ref a from rx)
  obtain ⟨od, J⟩ := ins_inst I ha
  have kin := I.kIn
  have hr1 : Room n X.A.in1 := Room.in1 hr
  have sub : PySem.W.Looks (model X.prog X.w) s.heap (isInstance (.ref a) (.type "object")) true := J.type.andThen (PySem.W.looks_mroIn kin top)
  have one : wpAny (model X.prog X.w) X.A (tryCompare (.ref a) "__ne__" u) (fun r s1 => ∃ z, r = some z ∧ EP X pins σ Q z s1) X.xe s := by
    unfold tryCompare
    refine wpAny_bind (ifBound_ne kin J hn (wpAny_call (codeAny_call_builtin PySem.F.cmp_object.ne.plain PySem.F.cmpEntry_ne (PySem.W.check_slot PySem.F.cmpKind_ne PySem.F.cmpSplit_ne sub (PySem.F.cmpArgs_ne _ _) ?_))))
    refine ne_entry (A := X.A.in1) hr1.units0 kin J hs hf (wpAny_mono (wpAny_call (SlX.run_at (us := [.ref a, u]) (ws := [.ref a, y]) F hr1 I.env0.in1 hx I (.cons rfl (.cons ry .nil)) q)) (fun z s1 hz => ?_) fun _ _ e => e)
    obtain ⟨z1, H1, I1, rz, b, rfl, q1⟩ := hz
    cases (show z = Value.bool b from rz)
    first
      | exact ⟨b, rfl, wpAny_pure ⟨_, rfl, .bl (!b), H1, I1, rfl, q1⟩⟩
      | exact ⟨b, rfl, _, rfl, .bl (!b), H1, I1, rfl, q1⟩
      | exact ⟨b, rfl, wpAny_pure (wpAny_pure ⟨_, rfl, .bl (!b), H1, I1, rfl, q1⟩)⟩
  show wpAny _ _ (richCompare .NotEq (.ref a) u) _ _ _
  unfold richCompare
  simp only [oneThing_ref]
  refine wpAny_holding (wpAny_bind (wpAny_cRoomFor hr.units0 ?_))
  refine wpAny_bind (J.type.here (wpAny_bind ((looks_tyO I ry ty).here ?_)))
  split
  · rename_i qq
    have e : PySem.W.subIn X.K tb (.ref C) = some false := by
      rcases Bool.or_eq_true_iff.mp hnf with e | e
      · rw [beq_iff_eq.mp e] at qq; simp at qq
      · exact beq_iff_eq.mp e
    refine wpAny_bind ((PySem.W.looks_subIn kin e).here ?_)
    simp only [Bool.false_eq_true, if_false]
    refine wpAny_bind (wpAny_mono one (fun r s1 z => ?_) fun _ _ e => e)
    obtain ⟨z1, rfl, hq⟩ := z
    exact wpAny_pure hq
  · refine wpAny_bind (wpAny_pure ?_)
    simp only [Bool.false_eq_true, if_false]
    refine wpAny_bind (wpAny_mono one (fun r s1 z => ?_) fun _ _ e => e)
    obtain ⟨z1, rfl, hq⟩ := z
    exact wpAny_pure hq
end

/-! ### enumerate over a tuple -/
theorem meets_enum1 {v : Value} {o : Obj} {φ : Heap → Prop} (bg : Begins v o φ) :
    Meets (Builtin.«enumerate.__new__» ⟨[.type "enumerate", v], []⟩) (fun _ R s => φ s.heap ∧
      R (.ok (.ret (.ref (s.heap.push o).objs.size))) { s with heap := (s.heap.push o).push { cls := .type "enumerate", data := .fields #[.none, .bool false, .ref s.heap.objs.size, rawInt 0, .none, .none] } }) :=
  .of_wp fun pr wd ar rr sh hh => by
    obtain ⟨hq, gq, dq, tq, oq⟩ := sh; obtain ⟨k1, k2⟩ := hh
    have subE := sub_enumerate
    have it1 : ∀ {A' : Around} {Ex : Value → Shared → Prop} {Qx : Value → Shared → Prop}, Qx (.ref hq.objs.size) ⟨hq.push o, gq, dq, tq, oq⟩ → wpAny (model pr wd) A' (pyIter v) Qx Ex ⟨hq, gq, dq, tq, oq⟩ :=
      fun q => bg.iter pr wd _ _ ⟨hq, gq, dq, tq, oq⟩ _ k1 q
    wp_walk using it1
    refine wpAny_stack_any fun stk => wpAny_pure ?_
    split
    · rename_i cl _ _ _ _ _
      cases (cl == Value.type "enumerate") <;> (wp_walk using it1) <;> exact ⟨_, rfl, k2⟩
    · wp_walk using it1
      exact ⟨_, rfl, k2⟩
theorem call_enum1 {pr : Program} {wd : World} {A : Around} {Ex : Value → Shared → Prop} {s : Shared} {v : Value} {o : Obj} {φ : Heap → Prop} {Qx : Value → Shared → Prop} (bg : Begins v o φ) (k1 : φ s.heap)
    (k2 : ∀ h', IsEnum h' (s.heap.objs.size + 1) s.heap.objs.size 0 .none → h'.get? s.heap.objs.size = some o → (∀ b u, s.heap.get? b = some u → h'.get? b = some u) → Qx (.ref (s.heap.objs.size + 1)) { s with heap := h' }) :
    wpAny (model pr wd) A (call (.type "enumerate") [v]) Qx Ex s := by
  have hz : (s.heap.push o).objs.size = s.heap.objs.size + 1 := Heap.size_push ..
  have he : IsEnum ((s.heap.push o).push { cls := .type "enumerate", data := .fields #[.none, .bool false, .ref s.heap.objs.size, rawInt 0, .none, .none] }) (s.heap.objs.size + 1) s.heap.objs.size 0 .none := by
    have e := Heap.get?_push_size (s.heap.push o) (o := { cls := .type "enumerate", data := .fields #[.none, .bool false, .ref s.heap.objs.size, rawInt 0, .none, .none] }) rfl
    rw [hz] at e
    exact e
  refine callType_new F.called_enumerate (by decide) (F.typeCall_enumerate_1 _) (F.newCall_enumerate_1 _) (fun ob => F.args_object_init_2 ob _) F.entry_enumerate_new (meets_enum1 bg) ⟨k1, ?_⟩
  show _ ∧ _
  rw [hz]
  exact ⟨⟨_, he, rfl⟩, k2 _ he (Heap.get?_push_of_some _ (Heap.get?_push_size _ bg.free)) fun b u e => Heap.get?_push_of_some _ (Heap.get?_push_of_some _ e)⟩
/-- the tuple at a: each item in a new pair -/
def ItE (K : PySem.W.Frag) (a : Addr) : It where
  go := fun i H => ∃ (xs : List V) (x : V), SqT K H a xs ∧ xs[i]? = some x
  yld := fun i H v H' => ∃ T x, v = .ref T ∧ H T = none ∧ H' = upd H T (.tup [.int (i : Nat), x]) ∧ ∀ xs, SqT K H a xs → xs[i]? = some x
  stop := fun i H => ∃ xs : List V, SqT K H a xs ∧ xs.length = i
theorem turn_enumT {P : Program} {w : World} {K : PySem.W.Frag} {el : List Expr} {kk : Nat} {tp : Pos} (a e it : Addr) :
    Turn P w K (.Tuple el kk tp) (ItE K a) [e, it] e (fun i h => (∃ old, IsEnum h e it ((i : Nat) : Int) old) ∧ h.IsTupleIter it a i ∧ e ≠ it) := by
  refine { mem := List.mem_cons_self, obj := ?_, keep := ?_, item := ?_, done := ?_, self := ?_ }
  · rintro i h ⟨⟨old, he⟩, ⟨o, ho, hc, hd⟩, _⟩ b hb
    rcases List.mem_cons.mp hb with z | z
    · subst z
      exact ⟨_, he, fun v q => nomatch q⟩
    · have z := List.mem_singleton.mp z
      subst z
      exact ⟨o, ho, fun v q => by rw [hd] at q; cases q⟩
  · rintro i h h' ⟨⟨old, he⟩, hi, hne⟩ k
    exact ⟨⟨old, k e List.mem_cons_self _ he⟩, hi.at fun o q => k it (List.mem_cons_of_mem _ List.mem_cons_self) o q, hne⟩
  · rintro X rfl rfl rfl hc i pins s σ H E J hf ⟨⟨old, he⟩, hit, hne⟩ ⟨xs, x, hq, hx⟩
    obtain ⟨its, rv, p, hz⟩ := J.tuple hq
    obtain ⟨u, hu, ru⟩ := rv.get hx
    have pT : s.heap.IsTuple a its.toArray := p
    have hea : a ≠ e := fun z => by
      obtain ⟨o, ho, hcl, _⟩ := pT
      rw [z, he] at ho
      cases ho
      have hcl : Value.type "enumerate" = Value.type "tuple" := hcl
      injection hcl with hcl
      exact absurd hcl (by decide)
    have hia : a ≠ it := fun z => by
      obtain ⟨o, ho, hcl, _⟩ := pT
      obtain ⟨o2, ho2, hcl2, _⟩ := hit
      rw [z, ho2] at ho
      cases ho
      rw [hcl2] at hcl
      injection hcl with hcl
      exact absurd hcl (by decide)
    have hel : e < s.heap.objs.size := Heap.lt_size he
    have hil : it < s.heap.objs.size := by
      obtain ⟨_, q, _⟩ := hit
      exact Heap.lt_size q
    have hh : X.A.in1.handled = none := J.ok.hd hc
    have hlt : i < its.toArray.size := by
      rw [List.size_toArray]
      exact (List.getElem?_eq_some_iff.mp hu).1
    refine wpAny_pyNext_enum_itemD (Draws.tuple hh it a hia its.toArray) he ⟨hit, pT⟩ hlt hne (by simp [hne, Ne.symm hea]) fun y h1 tk hy ho hst hT hsz hk => ?_
    have ey : y = u := by
      have h2 : its[i]? = some y := by simpa using hy
      rw [hu] at h2
      exact (Option.some.inj h2).symm
    subst ey
    refine ⟨_, rfl, wpAny_letOwnedTupleGo_enum (s := { s with heap := h1, toks := tk + 1 }) ho fun h2 he2 sb => ?_⟩
    have hT2 : h2.get? s.heap.objs.size = some { cls := .type "tuple", data := .seq #[.int i tk, y] } := (sb.2 _ (Nat.ne_of_gt hel)).trans hT
    have nw : ObjOk X.prog X.w (upd H s.heap.objs.size (.tup [.int (i : Nat), x])) h2 s.heap.objs.size (.tup [.int (i : Nat), x]) :=
      ⟨by show 2 ≤ sizeLine; decide, [.int i tk, y], .cons ⟨_, rfl⟩ (.cons ru .nil), ⟨_, hT2, rfl, _, rfl⟩⟩
    have J1 : Inv X pins σ (upd H s.heap.objs.size (.tup [.int (i : Nat), x])) { s with heap := h2, toks := tk + 1 } :=
      J.turnedNew (ch := [e, it]) (fun b ob hb q => (sb.2 b (fun z => hb (z ▸ List.mem_cons_self))).trans (hk b ob (fun z => hb (z ▸ List.mem_cons_self)) (fun z => hb (z ▸ List.mem_cons_of_mem _ List.mem_cons_self)) q)) hf (Nat.le_refl _) nw
    refine ⟨.ref s.heap.objs.size, _, J1, rfl, ⟨_, x, rfl, J.hok.fresh (Nat.le_refl _), rfl, fun ys hy => ?_⟩, ⟨⟨y, ?_⟩, hst.1.at fun o q => (sb.2 it (Ne.symm hne)).trans q, hne⟩, fun b hb => ?_⟩
    · have : ys = xs := J.tuple_inj hy hq
      rw [this]
      exact hx
    · have e1 : ((i + 1 : Nat) : Int) = (i : Int) + 1 := by omega
      rw [e1]
      exact he2
    · have hb2 : b < s.heap.objs.size := by
        rcases List.mem_cons.mp hb with z | z
        · rw [z]; exact hel
        · rw [List.mem_singleton.mp z]; exact hil
      rw [upd_ne (Nat.ne_of_lt hb2)]
      exact (hf b hb).1
  · rintro X rfl rfl rfl hc i pins s σ H E J hf ⟨⟨old, he⟩, hit, hne⟩ ⟨xs, hq, hx⟩
    obtain ⟨its, rv, p, hz⟩ := J.tuple hq
    have pT : s.heap.IsTuple a its.toArray := p
    obtain ⟨f0, f1, f2, f3, f4, f5⟩ := hf it (List.mem_cons_of_mem _ List.mem_cons_self)
    have hia : a ≠ it := fun z => by
      obtain ⟨o, ho, hcl, _⟩ := pT
      obtain ⟨o2, ho2, hcl2, _⟩ := hit
      rw [z, ho2] at ho
      cases ho
      rw [hcl2] at hcl
      injection hcl with hcl
      exact absurd hcl (by decide)
    have hh : X.A.in1.handled = none := J.ok.hd hc
    have hl : its.toArray.size = i := by
      rw [List.size_toArray, ← rv.length]
      exact hx
    refine wpAny_pyNext_enum_endD (Draws.tuple hh it a hia its.toArray) he (by rw [hl]; exact ⟨hit, pT⟩) fun h1 eb => ⟨rfl, J.turned (t' := s.toks) (fun b o hb q => eb b o hb q) f0 f1 f3 f4 f5⟩
  · rintro A i s Q E ⟨⟨_, he⟩, _⟩ h
    exact wpAny_pyIter_enum he h
def iEnumT (K : PySem.W.Frag) (ta : TA) : TI := fun σ H R => ta σ H fun vs H1 => ∃ a xs, vs = [.ref a] ∧ SqT K H1 a xs ∧ R (ItE K a) H1
theorem pi_enumT {X : Cx} {e : Expr} {ta : TA} {p pos tp : Pos} {el : List Expr} {kk : Nat} (gE : Gl X "enumerate") (mE : X.mg "enumerate" = none) (ha : PA X [e] ta) (hs : starEach [e] X.env = [(false, eval e X.env)] := by rfl) :
    PI X (.Tuple el kk tp) (.Call (.Name "enumerate" p) [e] [] pos) (iEnumT X.K ta) := by
  refine ⟨fun pins s σ H R J h => ?_⟩
  refine Call_ (ld_blt J gE mE boot_enumerate (PyProof.Rows.callWith_type1 (thn (ha.run pos pins s σ H _ J h) fun us s1 hh => ?_) hs rfl))
  obtain ⟨vs, H1, J1, r1, a, xs, ex, hq, q⟩ := hh
  subst ex
  cases r1 with
  | cons r rr =>
    cases rr
    cases r
    obtain ⟨its, rv, p2, hz⟩ := J1.tuple hq
    refine call_enum1 (begins_tuple a its.toArray) (show s1.heap.IsTuple a its.toArray from p2) fun h1 he hit hk => wpAny_pyIter_enum he ?_
    have J2 : Inv X pins σ H1 { s1 with heap := h1 } := J1.kept (t' := s1.toks) hk
    refine ⟨s1.heap.objs.size + 1, [s1.heap.objs.size + 1, s1.heap.objs.size], _, _, H1, rfl, J2, turn_enumT a (s1.heap.objs.size + 1) s1.heap.objs.size, ⟨⟨.none, he⟩, ⟨_, hit, rfl, rfl⟩, Nat.succ_ne_self _⟩, fun b hb => ?_, q⟩
    have hle : s1.heap.objs.size ≤ b := by
      rcases List.mem_cons.mp hb with z | z
      · rw [z]; exact Nat.le_add_right _ _
      · rw [List.mem_singleton.mp z]; exact Nat.le_refl _
    exact J1.fpOk hle (J1.hok.fresh hle)
theorem walk_enumT {K : PySem.W.Frag} {a : Addr} {xs : List V} : Walk (ItE K a) xs.length (fun H => SqT K H a xs) (YPair (fun i => some (.int (i : Nat))) (fun i => xs[i]?)) := by
  refine ⟨fun i _ hi q => ⟨xs, xs[i], q, List.getElem?_eq_getElem hi⟩, fun _ q => ⟨xs, q, rfl⟩, fun i H v H' _ q y => ?_⟩
  obtain ⟨T, x, h1, h2, h3, h4⟩ := y
  exact ⟨T, .int (i : Nat), x, h1, h2, h3, rfl, h4 xs q⟩

/-! ### a static method without arguments; dict of a written tuple of pairs; enumerate over either -/
theorem pe_smeth0 {X : Cx} {CX : CXT} {k : Nat} {C p g : Addr} {mc : Value} {sp : Sp} {E : XK} {o : Expr} {m : Str} {pos apos : Pos} {ta : TE} {pl : Sem Bool} (he : PE X o ta) (ht0 : PySem.W.typeIn X.K (.ref C) = some mc) (r : ClX.CRead X.K C mc)
    (c : PySem.W.findCls X.K (.ref C) mc m = some (.get (.builtin "staticmethod.__get__") (.ref p) .none (.ref C))) (hp : ∃ rest, PySem.W.recIn X.K p "staticmethod" = some (.ref g :: rest)) (hk : PySem.W.keepIn X.K (.ref g) = true)
    (F : FnR X.prog X.w X.K X.mg X.base CX k g sp) (hr : Room k X.A) (hx : Passes CX X E)
    (ht : eval (.Call (.Attribute o m apos) [] [] pos) X.env = (do
      let ov ← eval o X.env
      standAt apos.atName
      let (f, first) ← holding [ov] (getMethod ov m pl)
      callWith pos f first (backTo pos (starEach [] X.env)) (backToKw pos (keywordEach [] X.env))) := by rfl) :
    PE X (.Call (.Attribute o m apos) [] [] pos) (fun σ H Q => ta σ H fun x H1 => x = .ref C ∧ sp [] H1 Q E) := by
  refine ⟨fun pins s σ H Q I h => ?_⟩
  refine PySem.W.methodCall_KW (pl := pl) (thn (he.run pins s σ H _ I h) fun u s1 hh => ?_) ht
  obtain ⟨x, H1, I1, rx, ex, q⟩ := hh
  subst ex
  obtain rfl : u = Value.ref C := rx
  obtain ⟨m1, hF⟩ := I1.fr
  obtain ⟨rest, hrec⟩ := hp
  refine PySem.W.method_of_cls hF I1.ok.mod.kin r.ga (PySem.W.cls_sm hF I1.ok.mod.kin ht0 r.rd c hrec rfl ?_)
  have I2 : Inv X pins σ H1 { s1 with toks := s1.toks + 1 } := I1.tok _
  exact PySem.W.callWith_K0 I2.kIn hk (wpAny_call (run_fnR (us := []) (vs := []) F hr hx I2 .nil q))
section
variable {X : Cx}
theorem pairs2 {pins : List (Addr × Obj)} {σ : L2.St} {H : Hp} {s : Shared} (I : Inv X pins σ H s) : ∀ {ps : List Addr} {kvs : List (Key × V)}, Paired (fun p kv => SqT X.K H p [kV kv.1, kv.2]) ps kvs →
    ∃ (prs : List (Key × Value)) (vps : List (Value × Value)), KV kvs prs ∧ prs.length = ps.length ∧ vps.length = ps.length ∧ ∀ (j : Nat) (k v : Value), vps[j]? = some (k, v) → ∃ (key : Key) (b : Addr), prs[j]? = some (key, v) ∧ (mixKind X.prog X.w).is key k = true ∧ ps[j]? = some b ∧ IsTup s.heap b #[k, v]
  | _, _, .nil => ⟨[], [], .nil, rfl, rfl, fun j k v e => by simp at e⟩
  | _, _, .cons (a := p) (b := kv) h t => by
    obtain ⟨prs, vps, r, hl, hl2, hp⟩ := pairs2 I t
    obtain ⟨its, rv, htp, _⟩ := I.tuple h
    obtain ⟨u, y, ei, ru, ry⟩ := vals2 rv
    subst ei
    refine ⟨(kv.1, y) :: prs, (u, y) :: vps, .cons ⟨rfl, ry⟩ r, by rw [List.length_cons, List.length_cons, hl], by rw [List.length_cons, List.length_cons, hl2], fun j k v e => ?_⟩
    cases j with
    | zero =>
      have e1 : (u, y) = (k, v) := Option.some.inj e
      have e2 : u = k := congrArg Prod.fst e1
      have e3 : y = v := congrArg Prod.snd e1
      subst e2 e3
      exact ⟨kv.1, p, rfl, kV_is (P := X.prog) (w := X.w) ru, rfl, htp⟩
    | succ j =>
      obtain ⟨key, b, e1, e2, e3, e4⟩ := hp j k v (by simpa using e)
      exact ⟨key, b, by simpa using e1, e2, by simpa using e3, e4⟩
/-- dict(T), T a written tuple of pairs -/
theorem call_dictT {a : Addr} {ps : List Addr} {o : Obj} {its : Array Value} {n : Nat} (calm : X.calm = true) (hk : X.K.lookup a = some o) (hc : o.cls = .type "tuple") (hd : o.dict = none) (hdat : o.data = .seq its n) (hits : its.toList = ps.map Value.ref) :
    CallR X (.type "dict") (fun xs H Q => ∃ kvs : List (Key × V), xs = [.ref a] ∧ Paired (fun p kv => SqT X.K H p [kV kv.1, kv.2]) ps kvs ∧ ps.length ≤ 1000 ∧ ∀ p, H p = none → Q (.ref p) (upd H p (.dK (mergeK [] kvs)))) := by
  intro pins s σ H xs us Q I r q
  obtain ⟨kvs, rfl, hp, hsz, q⟩ := q
  obtain ⟨u, eu, rx⟩ := vals1 r
  subst eu
  cases rx
  obtain ⟨prs, vps, rel, hl, hl2, hpr⟩ := pairs2 I hp
  have ho := I.kIn a o hk
  have size : its.size = vps.length := by rw [← Array.length_toList, hits, List.length_map, hl2]
  have line : ps.length ≤ sizeLine := Nat.le_trans hsz (by decide)
  refine PySem.call_dict_pairs (knd := mixKind X.prog X.w) (kvs := prs) (PySem.PairArg.tuple a its (fun j => ps.getD j 0) vps) (I.ok.hd calm) ⟨⟨o, n, ho, hc, hd, hdat⟩, size, fun j k v e => ?_⟩ ⟨by rw [hl, hl2], fun j k v e => ?_⟩ (by rw [hl2]; exact line) fun h1 tk hd1 kp => ?_
  · obtain ⟨key, b, e1, e2, e3, e4⟩ := hpr j k v e
    have eb : ps.getD j 0 = b := by rw [List.getD_eq_getElem?_getD, e3]; rfl
    refine ⟨?_, ?_⟩
    · show its[j]? = some (Value.ref (ps.getD j 0))
      rw [eb, ← Array.getElem?_toList, hits, List.getElem?_map, e3]
      rfl
    · show PySem.PairAt s.heap (ps.getD j 0) k v
      rw [eb]
      exact .inl e4
  · obtain ⟨key, b, e1, e2, _, _⟩ := hpr j k v e
    exact ⟨key, e1, e2⟩
  · have hm : (s.heap.objs.size == sysModules) = false := beq_eq_false_iff_ne.mpr (Nat.ne_of_gt I.big)
    have hlen : (mergeK [] kvs).length ≤ sizeLine := by
      refine Nat.le_trans (length_mergeK kvs []) ?_
      rw [List.length_nil, Nat.zero_add, rel.length, hl]
      exact line
    exact ⟨.ref s.heap.objs.size, upd H s.heap.objs.size (.dK (mergeK [] kvs)), I.laid (t' := tk) (fun b u e => kp b u (fun h => nomatch h) e) (Nat.le_refl _) (show ObjOk X.prog X.w _ _ _ (.dK (mergeK [] kvs)) from ⟨hlen, hm, merged [] prs, KV.merge rel .nil, hd1⟩), rfl, q _ (I.hok.fresh (Nat.le_refl _))⟩
end
/-- enumerate over a list or a tuple -/
def iEnum2 (K : PySem.W.Frag) (ta : TA) : TI := fun σ H R => ta σ H fun vs H1 => (∃ a xs, vs = [.ref a] ∧ SqL K H1 a xs ∧ R (Ite K a) H1) ∨ ∃ a xs, vs = [.ref a] ∧ SqT K H1 a xs ∧ R (ItE K a) H1
theorem pi_enum2 {X : Cx} {e : Expr} {ta : TA} {p pos tp : Pos} {el : List Expr} {kk : Nat} (gE : Gl X "enumerate") (mE : X.mg "enumerate" = none) (ha : PA X [e] ta) (hs : starEach [e] X.env = [(false, eval e X.env)] := by rfl) :
    PI X (.Tuple el kk tp) (.Call (.Name "enumerate" p) [e] [] pos) (iEnum2 X.K ta) := by
  refine ⟨fun pins s σ H R J h => ?_⟩
  refine Call_ (ld_blt J gE mE boot_enumerate (PyProof.Rows.callWith_type1 (thn (ha.run pos pins s σ H _ J h) fun us s1 hh => ?_) hs rfl))
  obtain ⟨vs, H1, J1, r1, hh⟩ := hh
  have fpk : ∀ (h1 : Heap), ∀ b ∈ [s1.heap.objs.size + 1, s1.heap.objs.size], FpOk X pins H1 b := fun _ b hb => by
    have hle : s1.heap.objs.size ≤ b := by
      rcases List.mem_cons.mp hb with z | z
      · rw [z]; exact Nat.le_add_right _ _
      · rw [List.mem_singleton.mp z]; exact Nat.le_refl _
    exact J1.fpOk hle (J1.hok.fresh hle)
  rcases hh with ⟨a, xs, ex, hq, q⟩ | ⟨a, xs, ex, hq, q⟩
  · subst ex
    cases r1 with
    | cons r rr =>
      cases rr
      cases r
      obtain ⟨its, rv, p2, hz⟩ := J1.list hq
      refine call_enum1 (begins_list a its.toArray) p2.isList fun h1 he hit hk => wpAny_pyIter_enum he ?_
      have J2 : Inv X pins σ H1 { s1 with heap := h1 } := J1.kept (t' := s1.toks) hk
      exact ⟨s1.heap.objs.size + 1, [s1.heap.objs.size + 1, s1.heap.objs.size], _, _, H1, rfl, J2, turn_enum a (s1.heap.objs.size + 1) s1.heap.objs.size, ⟨⟨.none, he⟩, ⟨_, hit, rfl, rfl⟩, Nat.succ_ne_self _⟩, fpk h1, q⟩
  · subst ex
    cases r1 with
    | cons r rr =>
      cases rr
      cases r
      obtain ⟨its, rv, p2, hz⟩ := J1.tuple hq
      refine call_enum1 (begins_tuple a its.toArray) (show s1.heap.IsTuple a its.toArray from p2) fun h1 he hit hk => wpAny_pyIter_enum he ?_
      have J2 : Inv X pins σ H1 { s1 with heap := h1 } := J1.kept (t' := s1.toks) hk
      exact ⟨s1.heap.objs.size + 1, [s1.heap.objs.size + 1, s1.heap.objs.size], _, _, H1, rfl, J2, turn_enumT a (s1.heap.objs.size + 1) s1.heap.objs.size, ⟨⟨.none, he⟩, ⟨_, hit, rfl, rfl⟩, Nat.succ_ne_self _⟩, fpk h1, q⟩

theorem kit_self {K : PySem.W.Frag} {C : Addr} : PySem.W.kitOne K (.ref C) (.ref C) = some true := if_pos (beq_self_eq_true _)
theorem kit_own {K : PySem.W.Frag} {C : Addr} {n : String} (ic : PySem.W.isClsIn K C = true) (ty : PySem.W.typeIn K (.ref C) = some (.type "type")) (nf : PySem.W.notFirst K C (.type n) = true) : PySem.W.kitOne K (.type n) (.ref C) = some false := by
  have ne : (Value.type n == Value.ref C) = false := by
    rw [beq_eq_false_iff_ne]
    exact fun h => nomatch h
  have e : PySem.W.subIn K (.type n) (.ref C) = some false := by
    rcases Bool.or_eq_true_iff.mp nf with h | h
    · rw [ne] at h
      cases h
    · exact beq_iff_eq.mp h
  have h1 : (PySem.W.clsIn K C).isSome = true := by
    unfold PySem.W.isClsIn at ic
    first | exact ic | (cases h : PySem.W.clsIn K C <;> simp_all)
  unfold PySem.W.kitOne PySem.W.kitCls
  rw [if_neg (by rw [ne]; exact Bool.false_ne_true)]
  show (if ((PySem.W.clsIn K C).isSome && PySem.W.typeIn K (.ref C) == some (.type "type")) = true then PySem.W.subIn K (.type n) (.ref C) else none) = some false
  rw [if_pos (by rw [h1, ty]; rfl)]
  exact e
theorem kit_sub {K : PySem.W.Frag} {C D : Addr} {b : Bool} (ic : PySem.W.isClsIn K D = true) (ty : PySem.W.typeIn K (.ref D) = some (.type "type")) (h : PySem.W.subIn K (.ref C) (.ref D) = some b) (hs : PySem.W.subIn K (.ref C) (.ref C) = some true) : PySem.W.kitOne K (.ref C) (.ref D) = some b := by
  by_cases e : C = D
  · subst e
    rw [hs] at h
    cases h
    exact kit_self
  · have ne : (Value.ref C == Value.ref D) = false := by
      rw [beq_eq_false_iff_ne]
      exact fun h => e (Value.ref.inj h)
    have h1 : (PySem.W.clsIn K D).isSome = true := by
      unfold PySem.W.isClsIn at ic
      first | exact ic | (cases h : PySem.W.clsIn K D <;> simp_all)
    unfold PySem.W.kitOne PySem.W.kitCls
    rw [if_neg (by rw [ne]; exact Bool.false_ne_true)]
    show (if ((PySem.W.clsIn K D).isSome && PySem.W.typeIn K (.ref D) == some (.type "type")) = true then PySem.W.subIn K (.ref C) (.ref D) else none) = some b
    rw [h1, ty]
    exact h
theorem kit_subT {K : PySem.W.Frag} {C : Addr} {n : String} {b : Bool} (m : PySem.W.kitMeta n = true) (h : PySem.W.subIn K (.ref C) (.type n) = some b) : PySem.W.kitOne K (.ref C) (.type n) = some b := by
  have ne : (Value.ref C == Value.type n) = false := by
    rw [beq_eq_false_iff_ne]
    exact fun h => nomatch h
  unfold PySem.W.kitOne PySem.W.kitCls
  rw [if_neg (by rw [ne]; exact Bool.false_ne_true)]
  show (if PySem.W.kitMeta n = true then PySem.W.subIn K (.ref C) (.type n) else none) = some b
  rw [if_pos m]
  exact h

theorem ps_never {X : Cx} {st : Stmt} : PS X st (fun _ _ _ => False) := ⟨fun pins s σ H D I h => h.elim⟩
/-! ### the draws -/
/-- the bag of draws at b: its last number is at most n -/
def Bag (H : Hp) (b : Addr) (n : Int) : Prop := ∃ x y z : Int, H b = some (.lst [.int x, .int y, .int z]) ∧ 0 ≤ x ∧ 0 ≤ y ∧ y ≤ 2000000000 ∧ 0 ≤ z ∧ z ≤ n
/-- all that was tracked stands as it stood, but what stands at b -/
def Keep (b : Addr) (H H' : Hp) : Prop := ∀ q o, q ≠ b → H q = some o → H' q = some o
theorem Keep.refl (b : Addr) (H : Hp) : Keep b H H := fun _ _ _ h => h
theorem Keep.trans {b : Addr} {H H1 H2 : Hp} (x : Keep b H H1) (y : Keep b H1 H2) : Keep b H H2 := fun q o n h => y q o n (x q o n h)
theorem Keep.upd (b : Addr) (H : Hp) (o : HO) : Keep b H (upd H b o) := fun q u n h => by rw [upd_ne n]; exact h
theorem Keep.new {b p : Addr} {H : Hp} {o : HO} (hp : H p = none) : Keep b H (L2.upd H p o) := fun q u _ h => by
  rw [upd_ne (ne_of_none h hp)]
  exact h
theorem Bag.new {b p : Addr} {H : Hp} {o : HO} {n : Int} (h : Bag H b n) (hp : H p = none) : Bag (L2.upd H p o) b n := by
  obtain ⟨x, y, z, e, r⟩ := h
  exact ⟨x, y, z, by rw [upd_ne (ne_of_none e hp)]; exact e, r⟩
theorem Bag.mono {b : Addr} {H : Hp} {n m : Int} (h : Bag H b n) (l : n ≤ m) : Bag H b m := by
  obtain ⟨x, y, z, e, r1, r2, r3, r4, r5⟩ := h
  exact ⟨x, y, z, e, r1, r2, r3, r4, by omega⟩
theorem Bag.ne {b p : Addr} {H : Hp} {n : Int} (h : Bag H b n) (hp : H p = none) : b ≠ p := by
  obtain ⟨x, y, z, e, _⟩ := h
  exact ne_of_none e hp
theorem same_new {H : Hp} {p : Addr} {o : HO} (h : H p = none) : Same H (upd H p o) := fun b x e => by
  rw [upd_ne (ne_of_none e h)]
  exact e

/-- a draw: an int from 0 to m less one -/
def sp_take : Sp := fun vs H Q _ => ∃ (b : Addr) (m n : Int), vs = [.ref b, .int m] ∧ Bag H b n ∧ n ≤ 1000000000 ∧ 0 < m ∧ m < 2 ^ 200 ∧
  ∀ (d : Int) (H' : Hp), 0 ≤ d → d < m → Bag H' b (n + 1) → Keep b H H' → Q (.int d) H'
theorem small200 {j : Int} (h0 : 0 < j) (h : j < 2 ^ 200) : j.natAbs < 2 ^ 200 := by
  have e : ((2 : Int) ^ 200) = ((2 ^ 200 : Nat) : Int) := by decide +kernel
  rw [e] at h
  omega
theorem log_small {i j : Int} (h0 : 0 < j) (h : j < 2 ^ 200) : CDivW i j := wide_div h0 (small200 h0 h) (by decide) (by decide)
section
variable {P : Program} {w : World} {K : PySem.W.Frag} {mg : Str → Option Value} {base : Heap}
theorem ok_law_take (T : Txt K mg) : FnOk P w K mg base CX0 1 T.f_law_take T.fd_law_take ["bag", "many"] sp_take := by
  refine T.F_law_take.ok sc_law_take (fun vs H Q E h => ?_) (fun cdv A outer s H vs Q E hr h => ?_)
  · obtain ⟨b, m, n, rfl, _⟩ := h
    rfl
  · obtain ⟨b, m, n, rfl, ⟨x, y, z, hb, hx, hy, hy2, hz, hzn⟩, hn, hm0, hm, q⟩ := h
    refine ⟨_, (pss_cons (ps_if (pt_cmpR op_gt (pe_ix ix_list (pv 0) pe_int (fun _ _ => rfl)) pe_int (nomark _)) (pss_cons (ps_set (i := 2) sc_law_take.nd rfl (.inl rfl) (pe_op op_modN (pe_callTy call_int1 (by rfl) T.m_int (by decide +kernel) (pa_cons (pe_ix ix_list (pv 0) pe_int (fun _ _ => rfl)) pa_nil)) (pv 1)))
        (pss_cons (ps_asg (pe_op op_fdivW (pe_ix ix_list (pv 0) pe_int (fun _ _ => rfl)) (pv 1)) (pg_sub (pv 0) pe_int set_list))
        (pss_one (ps_ret (pv 2))))) pss_nil)
        (pss_cons (ps_asg (pe_op op_add (pe_ix ix_list (pv 0) pe_int (fun _ _ => rfl)) pe_int) (pg_sub (pv 0) pe_int set_list))
        (pss_cons (ps_set (i := 3) sc_law_take.nd rfl (.inl rfl) (pe_op op_modN (pe_callTy call_int1 (by rfl) T.m_int (by decide +kernel) (pa_cons (pe_op op_mul (pe_op op_add (pe_ix ix_list (pv 0) pe_int (fun _ _ => rfl)) (pe_op op_mul pe_int (pe_ix ix_list (pv 0) pe_int (fun _ _ => rfl)))) (pe_op op_add (pe_ix ix_list (pv 0) pe_int (fun _ _ => rfl)) pe_int)) pa_nil)) pe_int))
        (pss_one (ps_ret (pe_op op_modN (pe_callTy call_int1 (by rfl) T.m_int (by decide +kernel) (pa_cons (pe_op op_fdivN (pe_op op_modN (pe_callTy call_int1 (by rfl) T.m_int (by decide +kernel) (pa_cons (pe_op op_pow (pe_op op_add (pv 3) (pe_op op_mul pe_int (pe_ix ix_list (pv 0) pe_int (fun _ _ => rfl)))) pe_int) pa_nil)) pe_int) pe_int) pa_nil)) (pv 1))))))), ?_⟩
    repeat (walk_at "lw v")
    refine ite2 (fun e => ?_) (fun e => ?_)
    · have e0 : 0 < x := of_decide_eq_true e
      repeat (walk_at "lw v")
      refine ⟨log_small hm0 hm, ?_⟩
      repeat (walk_at "lw v")
      refine q _ _ (Int.fmod_nonneg_of_pos _ hm0) (Int.fmod_lt_of_pos _ hm0) ⟨x / m, y, z, upd_same, Int.ediv_nonneg hx (by omega), hy, hy2, hz, by omega⟩ (Keep.upd _ _ _)
    · have f1 : 0 ≤ ((y + 40009 * (z + 1)) * (y + 7919)).fmod 2147483647 := Int.fmod_nonneg_of_pos _ (by decide)
      have f2 : ((y + 40009 * (z + 1)) * (y + 7919)).fmod 2147483647 < 2147483647 := Int.fmod_lt_of_pos _ (by decide)
      repeat (walk_at "lw v")
      refine q _ _ (Int.fmod_nonneg_of_pos _ hm0) (Int.fmod_lt_of_pos _ hm0) ⟨x, y, z + 1, upd_same, hx, hy, hy2, by omega, by omega⟩ (Keep.upd _ _ _)
theorem atI_of {α : Type} {xs : List α} {d : Int} (h0 : 0 ≤ d) (h1 : d < (xs.length : Int)) : ∃ v, v ∈ xs ∧ atI xs d = some v := by
  obtain ⟨k, rfl⟩ := Int.eq_ofNat_of_zero_le h0
  have hk : k < xs.length := by omega
  exact ⟨xs[k], List.getElem_mem hk, atI_nat (List.getElem?_eq_getElem hk)⟩
/-- one of some: of a list, or a letter of a text -/
def sp_of : Sp := fun vs H Q _ => ∃ (b : Addr) (s : V) (n : Int), vs = [.ref b, s] ∧ Bag H b n ∧ n ≤ 1000000000 ∧
  ((∃ (l : Addr) (xs : List V), s = .ref l ∧ l ≠ b ∧ H l = some (.lst xs) ∧ 0 < xs.length ∧ xs.length ≤ 100000 ∧ ∀ (v : V) (H' : Hp), v ∈ xs → Bag H' b (n + 1) → Keep b H H' → Q v H') ∨
    (∃ z : Str, s = .str z ∧ 0 < z.length ∧ z.length ≤ 1000 ∧ ∀ (c : Nat) (H' : Hp), c ∈ z.cps.toList → Bag H' b (n + 1) → Keep b H H' → Q (.str ⟨#[c]⟩) H'))
theorem ok_law_of (T : Txt K mg) : FnOk P w K mg base CX0 2 T.f_law_of T.fd_law_of ["bag", "some"] sp_of := by
  have G_law_take := ok_law_take (P := P) (w := w) (base := base) T
  refine T.F_law_of.ok sc_law_of (fun vs H Q E h => ?_) (fun cdv A outer s H vs Q E hr h => ?_)
  · obtain ⟨b, m, n, rfl, _⟩ := h
    rfl
  · obtain ⟨b, sm, n, rfl, hb, hn, q⟩ := h
    refine ⟨_, (pss_one (ps_ret (pe_ix ix_seq (pv 1) (pe_call G_law_take hr (by rfl) T.g_law_take T.F_law_take.kp T.b_law_take .nil pass0 (pa_cons (pv 0) (pa_cons (pe_callB call_len (by rfl) T.m_len (by decide +kernel) (pa_cons (pv 1) pa_nil)) pa_nil))) (fun _ _ => rfl)))), ?_⟩
    rcases q with ⟨l, xs, rfl, nl, hl, l0, l1, q⟩ | ⟨z, rfl, z0, z1, q⟩
    · repeat (walk_at "lw v")
      refine ⟨b, _, n, rfl, hb, hn, by omega, by omega, fun d H' d0 d1 hB hK => ?_⟩
      obtain ⟨v, hv, ha⟩ := atI_of (xs := xs) d0 d1
      exact .inl ⟨l, xs, d, v, rfl, rfl, SqL.of (hK l _ nl hl), ha, q v H' hv hB hK⟩
    · repeat (walk_at "lw v")
      refine ⟨b, _, n, rfl, hb, hn, by omega, by omega, fun d H' d0 d1 hB hK => ?_⟩
      obtain ⟨v, hv, ha⟩ := atI_of (xs := z.cps.toList) d0 (by rw [Array.length_toList]; exact d1)
      exact .inr (.inr ⟨z, d, v, rfl, rfl, by have := PySem.sizeLine_eq; omega, ha, q v H' hv hB hK⟩)
end

theorem of_map {ns : List Int} {v : V} (h : v ∈ ns.map V.int) : ∃ i, v = V.int i := by
  obtain ⟨i, _, e⟩ := List.mem_map.mp h
  exact ⟨i, e.symm⟩
theorem bag_at {H : Hp} {p : Addr} {x c i : Int} (hx : 0 ≤ x) (i0 : 0 ≤ i) (i1 : i ≤ 63) : Bag (upd H p (.lst [.int x, .int (c.fmod 998244353 + 3000017 * i), .int 0])) p 0 := by
  have f1 : 0 ≤ c.fmod 998244353 := Int.fmod_nonneg_of_pos _ (by decide)
  have f2 : c.fmod 998244353 < 998244353 := Int.fmod_lt_of_pos _ (by decide)
  exact ⟨x, _, 0, upd_same, hx, by omega, by omega, by omega, by omega⟩
/-- a bag for a cell of the script -/
def sp_bag (K : PySem.W.Frag) : Sp := fun vs H Q _ => ∃ (a : Addr) (ns : List Int) (i : Int), vs = [.ref a, .int i] ∧ SqL K H a (ns.map V.int) ∧ ns.length ≤ 63 ∧ 0 ≤ i ∧ i ≤ 63 ∧
  ∀ (b : Addr) (H' : Hp), H b = none → Bag H' b 0 → Same H H' → Q (.ref b) H'
section
variable {P : Program} {w : World} {K : PySem.W.Frag} {mg : Str → Option Value} {base : Heap}
theorem ok_law_bag (T : Txt K mg) : FnOk P w K mg base CX0 1 T.f_law_bag T.fd_law_bag ["script", "at"] (sp_bag K) := by
  refine T.F_law_bag.ok sc_law_bag (fun vs H Q E h => ?_) (fun cdv A outer s H vs Q E hr h => ?_)
  · obtain ⟨b, m, n, rfl, _⟩ := h
    rfl
  · obtain ⟨a, ns, i, rfl, hS, hl, i0, i1, q⟩ := h
    refine ⟨_, (pss_cons (ps_set (i := 2) sc_law_bag.nd rfl (.inl rfl) (pe_ifExp (pt_cmpR op_lt (pv 1) (pe_callB call_len (by rfl) T.m_len (by decide +kernel) (pa_cons (pv 0) pa_nil)) (nomark _)) (pe_ix ix_list (pv 0) (pv 1) (fun _ _ => rfl)) pe_int))
        (pss_one (ps_ret (pe_lst (pa_cons (pe_ifExp (pt_cmpR op_ge (pe_callB call_abs (by rfl) T.m_abs (by decide +kernel) (pa_cons (pv 2) pa_nil)) (pe_op op_pow pe_int pe_int) (nomark _)) (pe_callB call_abs (by rfl) T.m_abs (by decide +kernel) (pa_cons (pv 2) pa_nil)) pe_int) (pa_cons (pe_op op_add (pe_op op_modN (pe_callTy call_int1 (by rfl) T.m_int (by decide +kernel) (pa_cons (pv 2) pa_nil)) pe_int) (pe_op op_mul pe_int (pv 1))) (pa_cons pe_int pa_nil))))))), ?_⟩
    repeat (walk_at "lw v")
    refine ite2 (fun e => ?_) (fun e => ?_)
    · have e1 : i < ((ns.map V.int).length : Int) := of_decide_eq_true e
      obtain ⟨v, hv, ha⟩ := atI_of i0 e1
      obtain ⟨c, rfl⟩ := of_map hv
      repeat (walk_at "lw v")
      refine ⟨_, _, _, _, rfl, rfl, hS, ha, ?_⟩
      repeat (walk_at "lw v")
      refine ite2 (fun e => ?_) (fun e => ?_)
      · repeat (walk_at "lw v")
        refine ⟨(by walk_at "lw n"), fun p hp => q p _ hp (bag_at (by split <;> omega) i0 i1) (same_new hp)⟩
      · repeat (walk_at "lw v")
        refine ⟨(by walk_at "lw n"), fun p hp => q p _ hp (bag_at (by decide) i0 i1) (same_new hp)⟩
    · repeat (walk_at "lw v")
      refine ⟨(by walk_at "lw n"), fun p hp => q p _ hp (bag_at (by decide) i0 i1) (same_new hp)⟩
end

/-! ### names of classes -/
/-- a class name: a capital letter and at most eleven letters -/
def IsClass (z : Str) : Prop := ∃ c cs, z.cps.toList = c :: cs ∧ cs.length ≤ 11 ∧ isUp c = true ∧ cs.all (fun x => isUp x || isLow x) = true
def sp_class : Sp := fun vs H Q _ => ∃ (b : Addr) (n : Int), vs = [.ref b] ∧ Bag H b n ∧ n ≤ 900000000 ∧
  ∀ (z : Str) (H' : Hp), IsClass z → Bag H' b (n + 20) → Keep b H H' → Q (.str z) H'
section
variable {P : Program} {w : World} {K : PySem.W.Frag} {mg : Str → Option Value} {base : Heap}
theorem ok_law_class (T : Txt K mg) : FnOk P w K mg base CX0 3 T.f_law_class T.fd_law_class ["bag"] sp_class := by
  have G_law_take := ok_law_take (P := P) (w := w) (base := base) T
  have G_law_of := ok_law_of (P := P) (w := w) (base := base) T
  refine T.F_law_class.ok sc_law_class (fun vs H Q E h => ?_) (fun cdv A outer s H vs Q E hr h => ?_)
  · obtain ⟨b, n, rfl, _⟩ := h
    rfl
  · obtain ⟨b, n, rfl, hb, hn, q⟩ := h
    refine ⟨_, (pss_cons (ps_set (i := 1) sc_law_class.nd rfl (.inl rfl) pe_str)
        (pss_cons (ps_set (i := 2) sc_law_class.nd rfl (.inl rfl) (pe_call G_law_of hr (by rfl) T.g_law_of T.F_law_of.kp T.b_law_of .nil pass0 (pa_cons (pv 0) (pa_cons (pe_slice sl_str (pv 1) (po_some pe_int) po_none) pa_nil))))
        (pss_cons (ps_for PassesOwn.never rfl (pi_range1 (by rfl) T.m_range (pa_cons (pe_call G_law_take (hr.mono (by omega)) (by rfl) T.g_law_take T.F_law_take.kp T.b_law_take .nil pass0 (pa_cons (pv 0) (pa_cons pe_int pa_nil))) pa_nil)) (pg_name (i := 3) sc_law_class.nd rfl (.inl rfl)) (pss_one (ps_set (i := 2) sc_law_class.nd rfl (.inl rfl) (pe_op op_add_str (pv 2) (pe_call G_law_of hr (by rfl) T.g_law_of T.F_law_of.kp T.b_law_of .nil pass0 (pa_cons (pv 0) (pa_cons (pv 1) pa_nil)))))))
        (pss_one (ps_ret (pv 2)))))), ?_⟩
    repeat (walk_at "lw v")
    refine ⟨by decide +kernel, ?_⟩
    repeat (walk_at "lw v")
    refine ⟨b, _, n, rfl, hb, by omega, .inr ⟨_, rfl, by decide +kernel, by decide +kernel, fun c H1 hc hB1 hK1 => ?_⟩⟩
    have hup : isUp c = true := (by decide +kernel : ∀ c ∈ (cutS (Str.ofString "abcdefghijklmnopqrstuvwxyzABCDEFGHIJKLMNOPQRSTUVWXYZ") (some 26) none).cps.toList, isUp c = true) c hc
    repeat (walk_at "lw v")
    refine ⟨b, _, _, rfl, hB1, by omega, by decide, by decide, fun d H2 d0 d1 hB2 hK2 => ?_⟩
    repeat (walk_at "lw v")
    refine ⟨by omega, by omega, ?_⟩
    refine for_range (lo := 0) (n := d.toNat) (fun i σ H' => ∃ (z : Str) (t : Option V) (cs : List Nat), σ = [some (.ref b), some (.str (Str.ofString "abcdefghijklmnopqrstuvwxyzABCDEFGHIJKLMNOPQRSTUVWXYZ")), some (.str z), t] ∧
        z.cps.toList = c :: cs ∧ cs.length = i ∧ cs.all (fun x => isUp x || isLow x) = true ∧ Bag H' b (n + 2 + i) ∧ Keep b H H') ?_ ?_ ?_
    · exact ⟨_, none, [], rfl, rfl, rfl, rfl, hB2.mono (by omega), hK1.trans hK2⟩
    · rintro i σ H' hi ⟨z, t, cs, rfl, ez, el, ec, hB, hK⟩
      repeat (walk_at "lw v")
      refine ⟨b, _, _, rfl, hB, by omega, .inr ⟨_, rfl, by decide +kernel, by decide +kernel, fun c2 H3 hc2 hB3 hK3 => ?_⟩⟩
      have hl2 : (isUp c2 || isLow c2) = true := (by decide +kernel : ∀ c ∈ (Str.ofString "abcdefghijklmnopqrstuvwxyzABCDEFGHIJKLMNOPQRSTUVWXYZ").cps.toList, (isUp c || isLow c) = true) c2 hc2
      have hz : z.length = i + 1 := by
        show z.cps.size = i + 1
        rw [← Array.length_toList, ez, List.length_cons, el]
      refine ⟨z, ⟨#[c2]⟩, rfl, rfl, ?_, ?_⟩
      · show z.length + 1 ≤ _
        have := PySem.sizeLine_eq
        omega
      · refine ⟨z ++ ⟨#[c2]⟩, _, cs ++ [c2], rfl, ?_, ?_, ?_, hB3.mono (by omega), hK.trans hK3⟩
        · show (z.cps ++ #[c2]).toList = _
          rw [Array.toList_append, ez]
          rfl
        · rw [List.length_append, el]
          rfl
        · rw [List.all_append, ec]
          simp only [List.all_cons, hl2, List.all_nil, Bool.and_true]
    · rintro σ H' ⟨z, t, cs, rfl, ez, el, ec, hB, hK⟩
      repeat (walk_at "lw v")
      exact q z H' ⟨c, cs, ez, by omega, hup, ec⟩ (hB.mono (by omega)) hK
end

/-! ### any values -/
theorem op_mul_str {X : Cx} : OpR X (binaryOp .Mult) (fun x y H Q => ∃ z n, x = .str z ∧ y = .int n ∧ MulOk z n ∧ Q (.str (Txt.mul z n)) H) := by
  intro pins s σ H x y v u Q I rx ry h
  obtain ⟨i, j, rfl, rfl, hz, q⟩ := h
  obtain ⟨t, rfl⟩ := rx
  obtain ⟨t', rfl⟩ := ry
  exact PySem.SB.mul hz fun t' tk => ⟨.str _, H, I.tok _, ⟨_, rfl⟩, q⟩
/-- what was not tracked in H -/
def since (H H' : Hp) : Hp := fun q => match H q with | none => H' q | some _ => none
theorem since_some {H H' : Hp} {q : Addr} {o : HO} (h : since H H' q = some o) : H q = none ∧ H' q = some o := by
  unfold since at h
  cases e : H q with
  | none => rw [e] at h; exact ⟨rfl, h⟩
  | some _ => rw [e] at h; cases h
theorem since_of {H H' : Hp} {q : Addr} {o : HO} (h : H q = none) (h' : H' q = some o) : since H H' q = some o := by
  unfold since
  rw [h]
  exact h'
theorem since_same {H H' : Hp} : Same (since H H') H' := fun _ _ h => (since_some h).2
/-- every place that H tracks is tracked in H' -/
def Dom (H H' : Hp) : Prop := ∀ q o, H q = some o → ∃ o', H' q = some o'
theorem Dom.refl (H : Hp) : Dom H H := fun _ o h => ⟨o, h⟩
theorem Dom.trans {H H1 H2 : Hp} (x : Dom H H1) (y : Dom H1 H2) : Dom H H2 := fun q o h => by
  obtain ⟨o', h'⟩ := x q o h
  exact y q o' h'
theorem Same.dom {H H' : Hp} (s : Same H H') : Dom H H' := fun q o h => ⟨o, s q o h⟩
theorem Keep.dom {b : Addr} {H H' : Hp} (k : Keep b H H') (h : ∃ o, H' b = some o) : Dom H H' := fun q o e => by
  by_cases n : q = b
  · rw [n]; exact h
  · exact ⟨o, k q o n e⟩
theorem Dom.free {H H' : Hp} (d : Dom H H') {q : Addr} (h : H' q = none) : H q = none := by
  cases e : H q with
  | none => rfl
  | some o =>
    obtain ⟨o', e'⟩ := d q o e
    rw [h] at e'
    cases e'
theorem since_mono {H0 H H' H'' : Hp} {b : Addr} (d : Dom H0 H) (hb : ∃ o, H b = some o) (k : Keep b H' H'') : Same (since H H') (since H0 H'') := fun q o h => by
  obtain ⟨h1, h2⟩ := since_some h
  have n : q ≠ b := fun e => by
    obtain ⟨o', e'⟩ := hb
    rw [e, e'] at h1
    cases h1
  exact since_of (d.free h1) (k q o n h2)
theorem since_mono0 {H0 H H' H'' : Hp} (d : Dom H0 H) (k : Same H' H'') : Same (since H H') (since H0 H'') := fun q o h => by
  obtain ⟨h1, h2⟩ := since_some h
  exact since_of (d.free h1) (k q o h2)
theorem SqL.same {K : PySem.W.Frag} {H H' : Hp} {a : Addr} {xs : List V} (s : Same H H') (h : SqL K H a xs) : SqL K H' a xs := s.seq h
theorem SqT.same {K : PySem.W.Frag} {H H' : Hp} {a : Addr} {xs : List V} (s : Same H H') (h : SqT K H a xs) : SqT K H' a xs := by
  rcases h with (h | ⟨o, h⟩) | h
  · exact .inl (.inl (s _ _ h))
  · exact .inl (.inr ⟨o, s _ _ h⟩)
  · exact .inr h
mutual
theorem Dp.same {K : PySem.W.Frag} {H H' : Hp} (s : Same H H') : ∀ (d : PyData) (v : V), Dp K H v d → Dp K H' v d
  | .none, _, h => by cases h; exact .non
  | .bool _, _, h => by cases h; exact .bl _
  | .int _, _, h => by cases h; exact .int _
  | .str _, _, h => by cases h; exact .str _
  | .list ds, _, h => by
    cases h with
    | lst hs ha => exact .lst (SqL.same s hs) (DpAll.same s ds _ ha)
  | .tuple ds, _, h => by
    cases h with
    | tup hs ha => exact .tup (SqT.same s hs) (DpAll.same s ds _ ha)
  | .dict _, _, h => by cases h
theorem DpAll.same {K : PySem.W.Frag} {H H' : Hp} (s : Same H H') : ∀ (ds : List PyData) (vs : List V), DpAll K H vs ds → DpAll K H' vs ds
  | [], _, h => by cases h; exact .nil
  | d :: r, _, h => by
    cases h with
    | cons h1 h2 => exact .cons (Dp.same s d _ h1) (DpAll.same s r _ h2)
end
theorem DpAll.snoc {K : PySem.W.Frag} {H : Hp} : ∀ {vs : List V} {ds : List PyData} {v : V} {d : PyData}, DpAll K H vs ds → Dp K H v d → DpAll K H (vs ++ [v]) (ds ++ [d])
  | _, _, _, _, .nil, h => .cons h .nil
  | _, _, _, _, .cons a b, h => .cons a (DpAll.snoc b h)
theorem DpAll.length {K : PySem.W.Frag} {H : Hp} : ∀ {vs : List V} {ds : List PyData}, DpAll K H vs ds → vs.length = ds.length
  | _, _, .nil => rfl
  | _, _, .cons _ b => by rw [List.length_cons, List.length_cons, DpAll.length b]
theorem DpAll.append {K : PySem.W.Frag} {H : Hp} : ∀ {vs ws : List V} {ds es : List PyData}, DpAll K H vs ds → DpAll K H ws es → DpAll K H (vs ++ ws) (ds ++ es)
  | _, _, _, _, .nil, h => h
  | _, _, _, _, .cons a b, h => .cons a (DpAll.append b h)
theorem DpAll.get {K : PySem.W.Frag} {H : Hp} : ∀ {vs : List V} {ds : List PyData} {i : Nat} {v : V}, DpAll K H vs ds → vs[i]? = some v → ∃ d, ds[i]? = some d ∧ Dp K H v d
  | _, _, _, _, .nil, h => by simp at h
  | _, _, 0, _, .cons a _, h => by
    simp at h
    subst h
    exact ⟨_, rfl, a⟩
  | _, _, i + 1, _, .cons _ b, h => by
    obtain ⟨d, h1, h2⟩ := DpAll.get (i := i) b (by simpa using h)
    exact ⟨d, by simpa using h1, h2⟩
theorem DpAll.mem {K : PySem.W.Frag} {H : Hp} : ∀ {vs : List V} {ds : List PyData} {v : V}, DpAll K H vs ds → v ∈ vs → ∃ d, d ∈ ds ∧ Dp K H v d
  | _, _, _, .nil, h => by cases h
  | _, _, v, .cons a b, h => by
    rcases List.mem_cons.mp h with e | e
    · subst e
      exact ⟨_, List.mem_cons_self, a⟩
    · obtain ⟨d, h1, h2⟩ := DpAll.mem b e
      exact ⟨d, List.mem_cons_of_mem _ h1, h2⟩
mutual
/-- texts of at most a hundred thousand signs, lists of at most a thousand, no dict -/
def fine : PyData → Bool
  | .str z => decide (z.length ≤ 100000) && PyData.strOk z
  | .list ds => decide (ds.length ≤ 1000) && fineAll ds
  | .tuple ds => decide (ds.length ≤ 1000) && fineAll ds
  | .dict _ => false
  | .none => true
  | .bool _ => true
  | .int _ => true
def fineAll : List PyData → Bool
  | [] => true
  | d :: r => fine d && fineAll r
end
theorem fineAll_mem : ∀ {ds : List PyData} {d : PyData}, fineAll ds = true → d ∈ ds → fine d = true
  | [], _, _, h => by cases h
  | e :: r, d, h, m => by
    unfold fineAll at h
    rw [Bool.and_eq_true] at h
    rcases List.mem_cons.mp m with q | q
    · rw [q]; exact h.1
    · exact fineAll_mem h.2 q
theorem fineAll_snoc : ∀ {ds : List PyData} {d : PyData}, fineAll ds = true → fine d = true → fineAll (ds ++ [d]) = true
  | [], d, _, h => by show (fine d && true) = true; rw [h]; rfl
  | e :: r, d, h, m => by
    unfold fineAll at h
    rw [Bool.and_eq_true] at h
    show (fine e && fineAll (r ++ [d])) = true
    rw [h.1, fineAll_snoc h.2 m]
    rfl
theorem depthAll_snoc : ∀ {ds : List PyData} {d : PyData} {n : Nat}, PyData.depthAll ds ≤ n → PyData.depth d ≤ n → PyData.depthAll (ds ++ [d]) ≤ n
  | [], d, n, _, h => by
    show max (PyData.depth d) 0 ≤ n
    omega
  | e :: r, d, n, h, m => by
    have h' : max (PyData.depth e) (PyData.depthAll r) ≤ n := h
    have := depthAll_snoc (ds := r) (n := n) (by omega) m
    show max (PyData.depth e) (PyData.depthAll (r ++ [d])) ≤ n
    omega
mutual
theorem canLay_fine : ∀ (d : PyData), fine d = true → PyData.canLay0 d = true
  | .none, _ => rfl
  | .bool _, _ => rfl
  | .int _, _ => rfl
  | .str z, h => by
    unfold fine at h
    rw [Bool.and_eq_true] at h
    exact h.2
  | .list ds, h => by
    unfold fine at h
    rw [Bool.and_eq_true] at h
    exact canLayAll_fine ds h.2
  | .tuple ds, h => by
    unfold fine at h
    rw [Bool.and_eq_true] at h
    exact canLayAll_fine ds h.2
  | .dict _, h => by cases h
theorem canLayAll_fine : ∀ (ds : List PyData), fineAll ds = true → PyData.canLayAll0 ds = true
  | [], _ => rfl
  | d :: r, h => by
    unfold fineAll at h
    rw [Bool.and_eq_true] at h
    show (PyData.canLay0 d && PyData.canLayAll0 r) = true
    rw [canLay_fine d h.1, canLayAll_fine r h.2]
    rfl
end
theorem shaped_fine {d : PyData} (h : fine d = true) (hd : PyData.depth d ≤ 64) : SeqAt.shaped d = true := by
  unfold SeqAt.shaped
  rw [canLay_fine d h, decide_eq_true hd]
  rfl
theorem since_step {Hd H' H3 H4 : Hp} {D b : Addr} (d : Dom Hd H') (hb : ∃ o, Hd b = some o) (hD : ∃ o, Hd D = some o) (k : Keep b H' H3) (h4 : ∀ q, q ≠ D → H4 q = H3 q) : Same (since Hd H') (since Hd H4) ∧ Same (since H' H3) (since Hd H4) := by
  have nn : ∀ {q : Addr} {p : Addr}, Hd q = none → (∃ o, Hd p = some o) → q ≠ p := fun {q p} h1 h2 e => by
    obtain ⟨o, h2⟩ := h2
    rw [e, h2] at h1
    cases h1
  refine ⟨fun q o h => ?_, fun q o h => ?_⟩
  · obtain ⟨h1, h2⟩ := since_some h
    refine since_of h1 ?_
    rw [h4 q (nn h1 hD)]
    exact k q o (nn h1 hb) h2
  · obtain ⟨h1, h2⟩ := since_some h
    have h0 := d.free h1
    refine since_of h0 ?_
    rw [h4 q (nn h0 hD)]
    exact h2
theorem Dom.upd {H : Hp} {p : Addr} {o : HO} : Dom H (L2.upd H p o) := fun q u h => by
  by_cases n : q = p
  · subst n
    exact ⟨o, upd_same⟩
  · exact ⟨u, by rw [upd_ne n]; exact h⟩
theorem Bag.has {H : Hp} {b : Addr} {n : Int} (h : Bag H b n) : ∃ o, H b = some o := by
  obtain ⟨x, y, z, e, _⟩ := h
  exact ⟨_, e⟩
theorem Bag.upd {b D : Addr} {H : Hp} {o : HO} {n : Int} (h : Bag H b n) (nb : b ≠ D) : Bag (L2.upd H D o) b n := by
  obtain ⟨x, y, z, e, r⟩ := h
  exact ⟨x, y, z, by rw [upd_ne nb]; exact e, r⟩

/-! ### words -/
/-- a word: small letters, at most m -/
def IsWord (z : Str) (m : Nat) : Prop := z.length ≤ m ∧ z.cps.toList.all isLow = true
/-- texts joined, as lists of codes -/
def joinL (sep : List Nat) : List (List Nat) → List Nat
  | [] => []
  | [x] => x
  | x :: y :: r => x ++ sep ++ joinL sep (y :: r)
theorem str_join_list (sep : Str) : ∀ ys : List Str, (Str.join sep ys).cps.toList = joinL sep.cps.toList (ys.map fun y => y.cps.toList)
  | [] => rfl
  | [x] => rfl
  | x :: y :: r => by
    have ih := str_join_list sep (y :: r)
    show ((x.cps ++ sep.cps) ++ (Str.join sep (y :: r)).cps).toList = _
    rw [Array.toList_append, Array.toList_append, ih]
    rfl
theorem join_list (sep : Str) (ys : List Str) : (Txt.join sep ys).cps.toList = joinL sep.cps.toList (ys.map fun y => y.cps.toList) := by
  show (PySem.Builtin.Str.glued sep ys).cps.toList = _
  rw [StrLaws.glued_eq_join]
  exact str_join_list sep ys
theorem joinL_nil : ∀ ls : List (List Nat), joinL [] ls = ls.flatten
  | [] => rfl
  | [x] => by simp [joinL]
  | x :: y :: r => by
    show x ++ [] ++ joinL [] (y :: r) = _
    rw [joinL_nil (y :: r), List.append_nil]
    rfl

/-! ### words, names of classes, items, answers: what is said of a value -/
theorem up_in (c : Nat) : decide (c ∈ (Str.ofString "ABCDEFGHIJKLMNOPQRSTUVWXYZ").cps.toList) = isUp c := by
  have e : (Str.ofString "ABCDEFGHIJKLMNOPQRSTUVWXYZ").cps.toList = [65, 66, 67, 68, 69, 70, 71, 72, 73, 74, 75, 76, 77, 78, 79, 80, 81, 82, 83, 84, 85, 86, 87, 88, 89, 90] := by decide +kernel
  rw [e]
  unfold isUp
  refine decide_eq_decide.mpr ?_
  simp only [List.mem_cons, List.not_mem_nil, or_false]
  omega
theorem low_in (c : Nat) : decide (c ∈ (Str.ofString "abcdefghijklmnopqrstuvwxyz").cps.toList) = isLow c := by
  have e : (Str.ofString "abcdefghijklmnopqrstuvwxyz").cps.toList = [97, 98, 99, 100, 101, 102, 103, 104, 105, 106, 107, 108, 109, 110, 111, 112, 113, 114, 115, 116, 117, 118, 119, 120, 121, 122] := by decide +kernel
  rw [e]
  unfold isLow
  refine decide_eq_decide.mpr ?_
  simp only [List.mem_cons, List.not_mem_nil, or_false]
  omega
theorem lu_in (c : Nat) : decide (c ∈ (Str.ofString "abcdefghijklmnopqrstuvwxyz" ++ Str.ofString "ABCDEFGHIJKLMNOPQRSTUVWXYZ").cps.toList) = (isUp c || isLow c) := by
  have e : (Str.ofString "abcdefghijklmnopqrstuvwxyz" ++ Str.ofString "ABCDEFGHIJKLMNOPQRSTUVWXYZ").cps.toList = (Str.ofString "abcdefghijklmnopqrstuvwxyz").cps.toList ++ (Str.ofString "ABCDEFGHIJKLMNOPQRSTUVWXYZ").cps.toList := Array.toList_append
  rw [e, ← up_in, ← low_in, ← Bool.decide_or]
  refine decide_eq_decide.mpr ?_
  rw [List.mem_append, or_comm]
theorem ul_in (c : Nat) : decide (c ∈ (Str.ofString "ABCDEFGHIJKLMNOPQRSTUVWXYZ" ++ Str.ofString "abcdefghijklmnopqrstuvwxyz").cps.toList) = (isUp c || isLow c) := by
  have e : (Str.ofString "ABCDEFGHIJKLMNOPQRSTUVWXYZ" ++ Str.ofString "abcdefghijklmnopqrstuvwxyz").cps.toList = (Str.ofString "ABCDEFGHIJKLMNOPQRSTUVWXYZ").cps.toList ++ (Str.ofString "abcdefghijklmnopqrstuvwxyz").cps.toList := Array.toList_append
  rw [e, ← up_in, ← low_in, ← Bool.decide_or]
  refine decide_eq_decide.mpr ?_
  rw [List.mem_append]
def isIntD : PyData → Bool
  | .int _ => true
  | _ => false
def isWordZ (z : Str) (m : Nat) : Bool := decide (z.length ≤ m) && z.cps.toList.all isLow
def isWordD (m : Nat) : PyData → Bool
  | .str z => isWordZ z m
  | _ => false
def isItemD : PyData → Bool
  | .none => true
  | .int _ => true
  | .str z => isWordZ z 30
  | _ => false
def isClassL : List Nat → Bool
  | [] => false
  | c :: cs => decide (cs.length + 1 ≤ 12) && (isUp c && (c :: cs).all fun x => isUp x || isLow x)
theorem isClassL_cons (c : Nat) (cs : List Nat) : isClassL (c :: cs) = (decide (cs.length + 1 ≤ 12) && (isUp c && (c :: cs).all fun x => isUp x || isLow x)) := rfl
def isClassD : PyData → Bool
  | .str z => isClassL z.cps.toList
  | _ => false
def isRaisedD : List PyData → Bool
  | [w, k, c] => PyData.eqv w (.str (Str.ofString "raises")) && (isClassD k && (PyData.eqv c .none || isClassD c))
  | _ => false
def isRaisedT : PyData → Bool
  | .tuple ds => isRaisedD ds
  | _ => false
def isAnswerD : PyData → Bool
  | .list ds => ds.all isItemD
  | .tuple ds => isRaisedD ds
  | d => isItemD d
/-- a def that says yes or no of one value and leaves what was there -/
def sp_bool1 (K : PySem.W.Frag) (f : PyData → Bool) : Sp := fun vs H Q _ => ∃ (x : V) (d : PyData), vs = [x] ∧ Dp K H x d ∧ fine d = true ∧ PyData.depth d ≤ 60 ∧
  ∀ (r : Bool) (H' : Hp), r = f d → Same H H' → Q (.bl r) H'
/-- a text of at most a hundred thousand signs, or no text -/
def shortD : PyData → Bool
  | .str z => decide (z.length ≤ 100000)
  | _ => true
theorem short_fine {d : PyData} (h : fine d = true) : shortD d = true := by
  cases d with
  | str z =>
    unfold fine at h
    rw [Bool.and_eq_true] at h
    exact h.1
  | _ => rfl
def sp_word1 (K : PySem.W.Frag) : Sp := fun vs H Q _ => ∃ (x : V) (d : PyData) (m : Nat), vs = [x, .int m] ∧ Dp K H x d ∧ shortD d = true ∧
  ∀ (r : Bool) (H' : Hp), r = isWordD m d → Same H H' → Q (.bl r) H'
def sp_consists : Sp := fun vs H Q _ => ∃ (z cs : Str), vs = [.str z, .str cs] ∧ z.length ≤ 100000 ∧
  ∀ (r : Bool) (H' : Hp), r = (z.cps.toList.all fun c => decide (c ∈ cs.cps.toList)) → Same H H' → Q (.bl r) H'
theorem isItemD_eq (d : PyData) : isItemD d = (PyData.eqv d .none || (isIntD d || isWordD 30 d)) := by
  cases d <;> rfl
theorem non_eq {K : PySem.W.Frag} {H : Hp} {x : V} {d : PyData} (h : Dp K H x d) : decide (x = .non) = PyData.eqv d .none := by
  cases h <;> rfl
theorem fine_tup {ds : List PyData} (h : fine (.tuple ds) = true) : ds.length ≤ 1000 ∧ fineAll ds = true := by
  unfold fine at h
  rw [Bool.and_eq_true] at h
  exact ⟨of_decide_eq_true h.1, h.2⟩
theorem fine_lst {ds : List PyData} (h : fine (.list ds) = true) : ds.length ≤ 1000 ∧ fineAll ds = true := by
  unfold fine at h
  rw [Bool.and_eq_true] at h
  exact ⟨of_decide_eq_true h.1, h.2⟩
theorem depth_mem : ∀ {ds : List PyData} {d : PyData}, d ∈ ds → PyData.depth d ≤ PyData.depthAll ds
  | [], _, h => by cases h
  | e :: r, d, h => by
    show _ ≤ max (PyData.depth e) (PyData.depthAll r)
    rcases List.mem_cons.mp h with q | q
    · rw [q]
      omega
    · have := depth_mem q
      omega
theorem iteNT {c A B : Prop} [Decidable c] (hc : ¬ c) (h : A) : if (!decide c) = true then A else B := by
  rw [decide_eq_false hc]
  exact iteT h
theorem ifF {A B : Prop} {b : Bool} (e : b = false) (h : B) : if b = true then A else B := by
  rw [e]
  exact iteF h
theorem ifT {A B : Prop} {b : Bool} (e : b = true) (h : A) : if b = true then A else B := by
  rw [e]
  exact iteT h
theorem isAnswerD_eq {d : PyData} (h : ¬ ∃ ds, d = .list ds) : isAnswerD d = (isItemD d || isRaisedT d) := by
  cases d with
  | list ds => exact absurd ⟨ds, rfl⟩ h
  | tuple ds => rfl
  | none => rfl
  | bool b => rfl
  | int i => rfl
  | str z => show isWordZ z 30 = (isWordZ z 30 || false); rw [Bool.or_false]
  | dict k => rfl
theorem cut_up (c : Nat) : decide (c ∈ (cutS (Str.ofString "ABCDEFGHIJKLMNOPQRSTUVWXYZ" ++ Str.ofString "abcdefghijklmnopqrstuvwxyz") none (some 26)).cps.toList) = isUp c := by
  rw [show cutS (Str.ofString "ABCDEFGHIJKLMNOPQRSTUVWXYZ" ++ Str.ofString "abcdefghijklmnopqrstuvwxyz") none (some 26) = Str.ofString "ABCDEFGHIJKLMNOPQRSTUVWXYZ" by decide +kernel]
  exact up_in c

theorem len_list (x : Str) : x.cps.toList.length = x.length := Array.length_toList

section
variable {P : Program} {w : World} {K : PySem.W.Frag} {mg : Str → Option Value} {base : Heap}
theorem ok_consists_of (T : Txt K mg) : FnOk P w K mg base CX0 1 T.f_consists_of T.fd_consists_of ["text", "characters"] sp_consists := by
  refine T.F_consists_of.ok sc_consists_of (fun vs H Q E h => ?_) (fun cdv A outer s H vs Q E hr h => ?_)
  · obtain ⟨x, y, rfl, _⟩ := h
    rfl
  · obtain ⟨z, cs, rfl, hz, q⟩ := h
    refine ⟨_, (pss_one (ps_ret (pe_callB (cr_all rfl) (by rfl) T.m_all (by decide +kernel) (pa_cons (pe_lc (own := [("character", 2)]) (g := gName 2) rfl sc_consists_of.nd (pi_str (pv 0)) (blkOk_by (own := [("character", 2)]) (N := ["text", "characters", "character"]) (sc := defScope s_consists_of) (by decide +kernel)) (fun _ _ _ _ _ => pg_name (i := 2) sc_consists_of.nd rfl (.inl rfl)) (fun _ _ _ _ _ => pts_nil) (fun _ _ _ _ _ => (pe_cmpR op_in_sign (pv 2) (pv 1) (by rfl)))) pa_nil)))), ?_⟩
    repeat (walk_at "lw w")
    intro D nD
    refine lc_it (walk_str (z := z)) (fun i H' => H' D = some (.lst ((z.cps.toList.take i).map fun c => V.bl (decide (c ∈ cs.cps.toList)))) ∧ Same H H') ?_ ?_ ?_ ?_
    · exact ⟨upd_same, same_new nD⟩
    · intro i H' _ _
      trivial
    · rintro i x H1 H' hi ⟨eD, S⟩ ⟨rfl, c, hc, rfl⟩
      refine ⟨rfl, ?_⟩
      repeat (walk_at "lw w")
      refine ⟨_, eD, ?_, ?_, ?_⟩
      · rw [List.length_map, List.length_take]
        exact small5 (Nat.le_trans (Nat.min_le_right _ _) (by rw [Array.length_toList]; exact hz))
      · have hc' : z.cps.toList[i]? = some c := by rw [Array.getElem?_toList]; exact hc
        rw [upd_same, List.take_add_one, hc', List.map_append]
        rfl
      · intro q' o e
        rw [upd_ne (ne_of_none e nD)]
        exact S _ _ e
    · rintro H' ⟨eD, S⟩
      have el : z.cps.toList.take z.cps.size = z.cps.toList := List.take_of_length_le (by rw [Array.length_toList]; exact Nat.le_refl _)
      rw [el] at eD
      refine ⟨D, z.cps.toList.map fun c => decide (c ∈ cs.cps.toList), rfl, ?_, ?_⟩
      · rw [List.map_map]
        exact SqL.of eD
      · exact q _ H' (by rw [List.all_map]; rfl) S
end

section
variable {P : Program} {w : World} {K : PySem.W.Frag} {mg : Str → Option Value} {base : Heap}
theorem ok_is_class_name (T : Txt K mg) : FnOk P w K mg base CX0 2 T.f_is_class_name T.fd_is_class_name ["thing"] (sp_bool1 K isClassD) := by
  have G_consists_of := ok_consists_of (P := P) (w := w) (base := base) T
  refine T.F_is_class_name.ok sc_is_class_name (fun vs H Q E h => ?_) (fun cdv A outer s H vs Q E hr h => ?_)
  · obtain ⟨x, d, rfl, _⟩ := h
    rfl
  · obtain ⟨x, d, rfl, hd, hf, hp, q⟩ := h
    clear hp
    refine ⟨_, (pss_cons (ps_if (PW.pt (pw_or (pt_not (pt_val (pe_callB call_isi (by rfl) T.m_isinstance (by decide +kernel) (pa_cons (pv 0) (pa_cons (pe_bltn (v := .ty "str") (by rfl) T.m_str (by decide +kernel) rfl) pa_nil))))) (pw_or (pt_cmpR op_eq (pv 0) pe_str (nomark _)) (pw_or1 (pt_cmpR op_gt (pe_callB call_len (by rfl) T.m_len (by decide +kernel) (pa_cons (pv 0) pa_nil)) (pe_glob (v := .int 12) rfl T.c_MOST_CLASS_LETTERS.choose_spec ⟨_, rfl⟩) (nomark _)))))) (pss_one (ps_ret pe_bl)) pss_nil)
        (pss_one (ps_ret (pe_and (pe_cmpR op_in_sign (pe_ix ix_str (pv 0) pe_int (fun _ _ => rfl)) (pe_glob (v := .str "ABCDEFGHIJKLMNOPQRSTUVWXYZ") rfl T.c_CAPITAL_LETTERS.choose_spec ⟨_, rfl⟩) (by rfl)) (pe_one (pe_call G_consists_of hr (by rfl) T.g_consists_of T.F_consists_of.kp T.b_consists_of .nil pass0 (pa_cons (pv 0) (pa_cons (pe_op op_add_str (pe_glob (v := .str "abcdefghijklmnopqrstuvwxyz") rfl T.c_SMALL_LETTERS.choose_spec ⟨_, rfl⟩) (pe_glob (v := .str "ABCDEFGHIJKLMNOPQRSTUVWXYZ") rfl T.c_CAPITAL_LETTERS.choose_spec ⟨_, rfl⟩)) pa_nil)))))))), ?_⟩
    cases hd
    case str z =>
      have hz : z.length ≤ 100000 := by
        unfold fine at hf
        rw [Bool.and_eq_true] at hf
        exact of_decide_eq_true hf.1
      repeat (walk_at "lw w")
      refine ite2 (fun e => ?_) (fun e => ?_)
      · repeat (walk_at "lw w")
        refine q _ _ ?_ (Same.refl _)
        have e1 : z = Str.ofString "" := V.str.inj (of_decide_eq_true e)
        rw [e1]
        decide +kernel
      · obtain ⟨c, cs, ez⟩ : ∃ c cs, z.cps.toList = c :: cs := by
          cases ez : z.cps.toList with
          | nil =>
            refine absurd (decide_eq_true (congrArg V.str ?_)) e
            have : z.cps = #[] := Array.toList_inj.mp ez
            show z = ⟨#[]⟩
            rw [← this]
          | cons c cs => exact ⟨c, cs, rfl⟩
        have el : z.length = cs.length + 1 := by
          show z.cps.size = _
          rw [← Array.length_toList, ez, List.length_cons]
        repeat (walk_at "lw w")
        refine ite2 (fun e2 => ?_) (fun e2 => ?_)
        · repeat (walk_at "lw w")
          refine q _ _ ?_ (Same.refl _)
          have e3 : (12 : Int) < ((z.length : Nat) : Int) := of_decide_eq_true e2
          show _ = isClassL z.cps.toList
          rw [ez]
          rw [isClassL_cons]
          rw [decide_eq_false (show ¬ cs.length + 1 ≤ 12 by omega)]
          rfl
        · have e3 : ¬ (12 : Int) < ((z.length : Nat) : Int) := fun h => e2 (decide_eq_true h)
          repeat (walk_at "lw w")
          refine ⟨z, 0, c, rfl, rfl, by have := PySem.sizeLine_eq; omega, by rw [ez]; exact atI_nat (j := 0) rfl, ?_⟩
          repeat (walk_at "lw w")
          have fin : ∀ r : Bool, r = (isUp c && (c :: cs).all fun x => isUp x || isLow x) → r = isClassD (.str z) := by
            intro r er
            show _ = isClassL z.cps.toList
            rw [ez]
            rw [isClassL_cons]
            rw [decide_eq_true (show cs.length + 1 ≤ 12 by omega), Bool.true_and]
            exact er
          refine ite2 (fun e4 => ?_) (fun e4 => ?_)
          · rw [up_in] at e4
            repeat (walk_at "lw w")
            refine ⟨by decide +kernel, ?_⟩
            repeat (walk_at "lw w")
            refine ⟨hz, fun r H' er S => q r H' (fin _ ?_) S⟩
            rw [er, e4, Bool.true_and, ez]
            congr 1
            funext x
            exact lu_in x
          · rw [up_in] at e4
            refine q _ _ (fin _ ?_) (Same.refl _)
            rw [show isUp c = false by simpa using e4]
            rfl
    all_goals (repeat (walk_at "lw w")) <;> exact q _ _ rfl (Same.refl _)
end

/-! ### families: the names with what stands above each -/
def S (x : String) : Str := Str.ofString x
def first4 : List (Str × V) := [(Str.ofString "Error", .non), (Str.ofString "Failed", .str (Str.ofString "Error")), (Str.ofString "Misuse", .str (Str.ofString "Error")), (Str.ofString "Beyond", .str (Str.ofString "Misuse"))]
def parV : V → V
  | .non => .str (Str.ofString "Error")
  | v => v
/-- the entries' classes, each with the one above it -/
def famOf (ps : List (Str × V)) : List (Str × V) := first4 ++ ps.map fun q => (q.1, parV q.2)
def kvOf (l : List (Str × V)) : List (Key × V) := l.map fun p => (.inr p.1, p.2)
def namesOf (ps : List (Str × V)) : List Str := (famOf ps).map (·.1)
/-- each entry can stand behind those ahead of it -/
def FamOk (ps : List (Str × V)) : Prop := ps.length ≤ 45 ∧ ∀ (i : Nat) (nm : Str) (v : V), ps[i]? = some (nm, v) → isClassL nm.cps.toList = true ∧ nm.length ≤ 12 ∧ PyData.strOk nm = true ∧ nm ∉ namesOf (ps.take i) ∧ (v = .non ∨ ∃ q, v = .str q ∧ q ∈ namesOf (ps.take i))
/-- the values are new pairs of these entries -/
def PairsAt (K : PySem.W.Frag) (H : Hp) (xs : List V) (ps : List (Str × V)) : Prop := Paired (fun (x : V) (q : Str × V) => ∃ p : Addr, x = .ref p ∧ SqT K H p [.str q.1, q.2]) xs ps
theorem valV_kvOf (nm : Str) : ∀ l : List (Str × V), valV (kvOf l) (.inr nm) = (l.find? fun p => decide (p.1 = nm)).map (·.2)
  | [] => rfl
  | p :: r => by
    show valV ((.inr p.1, p.2) :: kvOf r) (.inr nm) = _
    by_cases h : p.1 = nm
    · rw [valV_pos (show (Sum.inr p.1 : Key) = .inr nm by rw [h]), List.find?_cons, decide_eq_true h]
      rfl
    · rw [valV_neg (fun e => h (Sum.inr.inj e)), List.find?_cons, decide_eq_false h]
      exact valV_kvOf nm r
theorem valV_none {nm : Str} {l : List (Str × V)} (h : nm ∉ l.map (·.1)) : valV (kvOf l) (.inr nm) = none := by
  rw [valV_kvOf]
  have : (l.find? fun p => decide (p.1 = nm)) = none := List.find?_eq_none.mpr fun p hp e => h (List.mem_map.mpr ⟨p, hp, of_decide_eq_true e⟩)
  rw [this]
  rfl
theorem valV_some {nm : Str} {l : List (Str × V)} (h : nm ∈ l.map (·.1)) : ∃ v, valV (kvOf l) (.inr nm) = some v := by
  rw [valV_kvOf]
  cases e : (l.find? fun p => decide (p.1 = nm)) with
  | some p => exact ⟨p.2, rfl⟩
  | none =>
    obtain ⟨p, hp, e2⟩ := List.mem_map.mp h
    exact absurd (decide_eq_true e2) (List.find?_eq_none.mp e p hp)
theorem famOf_take {ps : List (Str × V)} {i : Nat} {q : Str × V} (h : ps[i]? = some q) : famOf (ps.take (i + 1)) = famOf (ps.take i) ++ [(q.1, parV q.2)] := by
  unfold famOf
  rw [List.take_add_one, h, List.map_append, ← List.append_assoc]
  rfl
theorem kvOf_snoc (l : List (Str × V)) (nm : Str) (v : V) : kvOf (l ++ [(nm, v)]) = kvOf l ++ [(.inr nm, v)] := List.map_append ..
theorem famOf_len (ps : List (Str × V)) : (famOf ps).length = 4 + ps.length := by
  unfold famOf
  rw [List.length_append, List.length_map]
  rfl
theorem PairsAt.same {K : PySem.W.Frag} {H H' : Hp} {xs : List V} {ps : List (Str × V)} (h : PairsAt K H xs ps) (s : Same H H') : PairsAt K H' xs ps := by
  unfold PairsAt at *
  induction h with
  | nil => exact .nil
  | cons a _ ih =>
    obtain ⟨p, e, hp⟩ := a
    exact .cons ⟨p, e, SqT.same s hp⟩ ih
theorem PairsAt.get {K : PySem.W.Frag} {H : Hp} : ∀ {xs : List V} {ps : List (Str × V)} {i : Nat} {x : V}, PairsAt K H xs ps → xs[i]? = some x → ∃ q p, ps[i]? = some q ∧ x = .ref p ∧ SqT K H p [.str q.1, q.2]
  | _, _, _, _, .nil, h => by cases h
  | _, _, 0, _, .cons a _, h => by
    obtain ⟨p, e, hp⟩ := a
    have h : _ = _ := Option.some.inj h
    exact ⟨_, p, rfl, h.symm.trans e, hp⟩
  | _, _, i + 1, _, .cons _ b, h => PairsAt.get (i := i) b h
theorem PairsAt.len {K : PySem.W.Frag} {H : Hp} {xs : List V} {ps : List (Str × V)} (h : PairsAt K H xs ps) : xs.length = ps.length := by
  unfold PairsAt at h
  induction h with
  | nil => rfl
  | cons _ _ ih => rw [List.length_cons, List.length_cons, ih]
/-- a family object at a -/
def FamAt (C : Addr) (H : Hp) (a : Addr) (l : List (Str × V)) : Prop := ∃ (dx d t : Addr) (ts : List Addr), H a = some (.ins C dx [(Str.ofString "_above", .ref d), (Str.ofString "declared", .ref t)]) ∧ H d = some (.dK (kvOf l)) ∧ H t = some (.tup (ts.map V.ref)) ∧
  Paired (fun (t : Addr) (q : Str × V) => H t = some (.tup [.str q.1, q.2])) ts (l.drop 4)
theorem pairs_same {H H' : Hp} {ts : List Addr} {l : List (Str × V)} (s : Same H H') (h : Paired (fun (t : Addr) (q : Str × V) => H t = some (.tup [.str q.1, q.2])) ts l) : Paired (fun (t : Addr) (q : Str × V) => H' t = some (.tup [.str q.1, q.2])) ts l := by
  induction h with
  | nil => exact .nil
  | cons a _ ih => exact .cons (s _ _ a) ih
theorem FamAt.same {C : Addr} {H H' : Hp} {a : Addr} {l : List (Str × V)} (h : FamAt C H a l) (s : Same H H') : FamAt C H' a l := by
  obtain ⟨dx, d, t, ts, h1, h2, h3, h4⟩ := h
  exact ⟨dx, d, t, ts, s _ _ h1, s _ _ h2, s _ _ h3, pairs_same s h4⟩
theorem pairs_drop {H : Hp} : ∀ {l : List (Str × V)} {ts : List Addr} (n : Nat), Paired (fun (t : Addr) (q : Key × V) => H t = some (.tup [kV q.1, q.2])) ts (kvOf l) → Paired (fun (t : Addr) (q : Str × V) => H t = some (.tup [.str q.1, q.2])) (ts.drop n) (l.drop n)
  | [], ts, n, h => by
    cases h
    rw [List.drop_nil, List.drop_nil]
    exact .nil
  | p :: r, ts, n, h => by
    have h : Paired (fun (t : Addr) (q : Key × V) => H t = some (.tup [kV q.1, q.2])) ts ((.inr p.1, p.2) :: kvOf r) := h
    cases h with
    | cons a b =>
      cases n with
      | zero => exact .cons a (pairs_drop 0 b)
      | succ n => exact pairs_drop n b
theorem pairs_len {H : Hp} {l : List (Str × V)} {ts : List Addr} (h : Paired (fun (t : Addr) (q : Key × V) => H t = some (.tup [kV q.1, q.2])) ts (kvOf l)) : ts.length = l.length := by
  have e : ts.length = (kvOf l).length := by
    revert h
    generalize kvOf l = m
    intro h
    induction h with
    | nil => rfl
    | cons _ _ ih => rw [List.length_cons, List.length_cons, ih]
  rw [e, kvOf, List.length_map]
theorem cut4 {xs : List V} (h : 4 ≤ xs.length) : cutV xs (some 4) none = xs.drop 4 := by
  have e1 : HT.sIx xs.length 0 (some 4) = 4 := by
    unfold HT.sIx
    simp
    omega
  have e2 : HT.sIx xs.length xs.length none = xs.length := rfl
  unfold cutV
  rw [e1, e2]
  exact List.take_of_length_le (by rw [List.length_drop]; exact Nat.le_refl _)

def sp_cbd (K : PySem.W.Frag) : Sp := fun vs H Q _ => ∃ (p d : Addr) (nm : Str) (v : V) (l : List (Str × V)), vs = [.ref p, .ref d] ∧ SqT K H p [.str nm, v] ∧ H d = some (.dK (kvOf l)) ∧ isClassL nm.cps.toList = true ∧ nm.length ≤ 12 ∧ PyData.strOk nm = true ∧
  nm ∉ l.map (·.1) ∧ (v = .non ∨ ∃ q, v = .str q ∧ q ∈ l.map (·.1)) ∧ ∀ H' : Hp, Same H H' → Q (.bl true) H'
section
variable {P : Program} {w : World} {K : PySem.W.Frag} {mg : Str → Option Value} {base : Heap}
theorem ok_can_be_declared (T : Txt K mg) : FnOk P w K mg base CX0 3 T.f_can_be_declared T.fd_can_be_declared ["pair", "above"] (sp_cbd K) := by
  have G_is_class_name := ok_is_class_name (P := P) (w := w) (base := base) T
  refine T.F_can_be_declared.ok sc_can_be_declared (fun vs H Q E h => ?_) (fun cdv A outer s H vs Q E hr h => ?_)
  · obtain ⟨p, d, nm, v, l, rfl, _⟩ := h
    rfl
  · obtain ⟨p, d, nm, v, l, rfl, hp, hd, hc, hl, hs, hn, hv, q⟩ := h
    refine ⟨_, (pss_cons (ps_if (PW.pt (pw_or (pt_not (pt_val (pe_callB call_isi (by rfl) T.m_isinstance (by decide +kernel) (pa_cons (pv 0) (pa_cons (pe_bltn (v := .ty "tuple") (by rfl) T.m_tuple (by decide +kernel) rfl) pa_nil))))) (pw_or1 (pt_cmpR op_ne (pe_callB call_len (by rfl) T.m_len (by decide +kernel) (pa_cons (pv 0) pa_nil)) pe_int (nomark _))))) (pss_one (ps_ret pe_bl)) pss_nil)
        (pss_cons (ps_asg (pv 0) (pg_tup rfl (pgs_cons (pg_name (i := 2) sc_can_be_declared.nd rfl (.inl rfl)) (pgs_cons (pg_name (i := 3) sc_can_be_declared.nd rfl (.inl rfl)) pgs_nil))))
        (pss_cons (ps_if (PW.pt (pw_or (pt_not (pt_val (pe_call G_is_class_name hr (by rfl) T.g_is_class_name T.F_is_class_name.kp T.b_is_class_name .nil pass0 (pa_cons (pv 2) pa_nil)))) (pw_or1 (pt_cmp (pc_din (hu_of hr) (pv 2) (pv 1)))))) (pss_one (ps_ret pe_bl)) pss_nil)
        (pss_one (ps_ret (pe_or (pe_cmpR op_isN (pv 3) pe_non (nomark _)) (pe_one (pe_and (pe_callB call_isi (by rfl) T.m_isinstance (by decide +kernel) (pa_cons (pv 3) (pa_cons (pe_bltn (v := .ty "str") (by rfl) T.m_str (by decide +kernel) rfl) pa_nil))) (pe_one (pe_cmp (pc_din (hu_of hr) (pv 3) (pv 1)))))))))))), ?_⟩
    repeat (walk_at "lw w")
    refine ⟨p, _, rfl, hp, rfl, ?_⟩
    repeat (walk_at "lw w")
    have fz : fine (.str nm) = true := by
      unfold fine
      rw [hs, decide_eq_true (show nm.length ≤ 100000 by omega)]
      rfl
    refine ⟨_, .str nm, rfl, .str _, fz, Nat.zero_le _, fun r1 H1 e1 S1 => ?_⟩
    have e1 : r1 = true := e1.trans hc
    subst e1
    have hd1 := S1 _ _ hd
    repeat (walk_at "lw w")
    refine ⟨d, _, rfl, DGet.k (k := .inr nm) hd1, ?_⟩
    rw [valV_none hn]
    repeat (walk_at "lw w")
    rcases hv with rfl | ⟨qn, rfl, hq⟩
    · repeat (walk_at "lw w")
      exact q _ S1
    · obtain ⟨y, hy⟩ := valV_some hq
      repeat (walk_at "lw w")
      refine ⟨d, _, rfl, DGet.k (k := .inr qn) hd1, ?_⟩
      rw [hy]
      exact q _ S1
theorem ok_Family_names (T : Txt K mg) : FnOk P w K mg base CX0 1 T.f_Family_names T.fd_Family_names ["self"] (fun vs H Q _ => ∃ (a : Addr) (l : List (Str × V)), vs = [.ref a] ∧ FamAt T.C_Family H a l ∧ ∀ p, H p = none → Q (.ref p) (upd H p (.lst ((l.map (·.1)).map V.str)))) := by
  refine T.F_Family_names.ok sc_Family_names (fun vs H Q E h => ?_) (fun cdv A outer s H vs Q E hr h => ?_)
  · obtain ⟨a, l, rfl, _⟩ := h
    rfl
  · obtain ⟨a, l, rfl, ⟨dx, d, t, ts, h1, h2, h3, h4⟩, q⟩ := h
    refine ⟨_, (pss_one (ps_ret (pe_callTy (call_listD rfl) (by rfl) T.m_list (by decide +kernel) (pa_cons (pe_fld (pv 0) rfl) pa_nil)))), ?_⟩
    repeat (walk_at "lw w")
    refine ⟨a, _, dx, _, _, rfl, h1, T.cl_Family, T.nA_Family__above, rfl, ?_⟩
    refine ⟨d, _, rfl, .inl h2, fun p np => ?_⟩
    have e : (kvOf l).map (fun kv => kV kv.1) = (l.map (·.1)).map V.str := by
      unfold kvOf
      rw [List.map_map, List.map_map]
      rfl
    rw [e]
    exact q p np
theorem ok_Family___len__ (T : Txt K mg) : FnOk P w K mg base CX0 1 T.f_Family___len__ T.fd_Family___len__ ["self"] (fun vs H Q _ => ∃ (a : Addr) (l : List (Str × V)), vs = [.ref a] ∧ FamAt T.C_Family H a l ∧ Q (.int l.length) H) := by
  refine T.F_Family___len__.ok sc_Family___len__ (fun vs H Q E h => ?_) (fun cdv A outer s H vs Q E hr h => ?_)
  · obtain ⟨a, l, rfl, _⟩ := h
    rfl
  · obtain ⟨a, l, rfl, ⟨dx, d, t, ts, h1, h2, h3, h4⟩, q⟩ := h
    refine ⟨_, (pss_one (ps_ret (pe_callB call_lenD (by rfl) T.m_len (by decide +kernel) (pa_cons (pe_fld (pv 0) rfl) pa_nil)))), ?_⟩
    refine ⟨_, rfl, a, _, dx, _, _, rfl, h1, T.cl_Family, T.nA_Family__above, rfl, ?_⟩
    refine ⟨d, _, rfl, h2, ?_⟩
    rw [show ((kvOf l).length : Int) = (l.length : Int) by rw [kvOf, List.length_map]]
    exact q
theorem ok_Family___contains__ (T : Txt K mg) : FnOk P w K mg base CX0 1 T.f_Family___contains__ T.fd_Family___contains__ ["self", "x"] (fun vs H Q _ => ∃ (a : Addr) (x : V) (tb : Value) (l : List (Str × V)), vs = [.ref a, x] ∧ FamAt T.C_Family H a l ∧ TyX K H x tb ∧
    PySem.W.kitOne K tb (.type "str") = some (match x with | .str _ => true | _ => false) ∧ Q (.bl (match x with | .str z => decide (z ∈ l.map (·.1)) | _ => false)) H) := by
  refine T.F_Family___contains__.ok sc_Family___contains__ (fun vs H Q E h => ?_) (fun cdv A outer s H vs Q E hr h => ?_)
  · obtain ⟨a, x, tb, l, rfl, _⟩ := h
    rfl
  · obtain ⟨a, x, tb, l, rfl, ⟨dx, d, t, ts, h1, h2, h3, h4⟩, ty, kt, q⟩ := h
    refine ⟨_, (pss_one (ps_ret (pe_and (pe_callB call_isi (by rfl) T.m_isinstance (by decide +kernel) (pa_cons (pv 1) (pa_cons (pe_bltn (v := .ty "str") (by rfl) T.m_str (by decide +kernel) rfl) pa_nil))) (pe_one (pe_cmp (pc_din (hu_of hr) (pv 1) (pe_fld (pv 0) rfl))))))), ?_⟩
    refine ⟨_, rfl, _, _, _, _, _, rfl, .ty _, ty, kt, ?_⟩
    cases x with
    | str z =>
      refine ⟨_, rfl, ifT rfl ?_⟩
      refine ⟨_, rfl, _, rfl, a, _, dx, _, _, rfl, h1, T.cl_Family, T.nA_Family__above, rfl, ?_⟩
      refine ⟨d, _, rfl, DGet.k (k := .inr z) h2, ?_⟩
      have e : (valV (kvOf l) (.inr z)).isSome = decide (z ∈ l.map (·.1)) := by
        by_cases hm : z ∈ l.map (·.1)
        · obtain ⟨y, hy⟩ := valV_some hm
          rw [hy, decide_eq_true hm]
          rfl
        · rw [valV_none hm, decide_eq_false hm]
          rfl
      rw [e]
      exact q
    | _ => exact ⟨_, rfl, ifF rfl q⟩
end

theorem keep_same {b : Addr} {H H1 H2 : Hp} (s : Same H H1) (nb : H b = none) (k : Keep b H1 H2) : Same H H2 := fun q o e => k q o (ne_of_none e nb) (s q o e)
theorem kit2 {K : PySem.W.Frag} {a c1 c2 : String} {r1 r2 : Bool} (h1 : kitB a c1 = some r1) (h2 : kitB a c2 = some r2) : PySem.W.kitAny K (.type a) [.type c1, .type c2] = some (r1 || r2) := by
  refine kitAny_cons (kit_ty h1) (fun e => ?_) (fun e => by rw [e]; rfl)
  rw [e, Bool.false_or]
  exact kitAny_cons (kit_ty h2) (fun e => by rw [e]; exact kitAny_nil) (fun e => e)
def spLaw (K : PySem.W.Frag) : Sp := fun vs H Q _ => ∃ (a : Addr) (ns : List Int), vs = [.ref a] ∧ SqL K H a (ns.map V.int) ∧ ns.length ≤ 63 ∧ (∀ z ∈ ns, Builtin.Int.intBits z ≤ 1048576) ∧ ∀ H', Q (.bl true) H'

theorem FamOk.take_len {ps : List (Str × V)} (h : FamOk ps) : (famOf ps).length ≤ 49 := by
  rw [famOf_len]
  have := h.1
  omega
theorem merge4 : mergeK [] (kvOf first4) = kvOf first4 := by decide +kernel
set_option hygiene false in
local macro_rules | `(tactic| walk_at "loop01") => `(tactic| (
  refine for_it W (fun i σ H' => H' d = some (.dK (kvOf (famOf (ps.take i)))) ∧ Keep d H2 H' ∧ ∃ t1 t2 t3 t4 : Option V, σ = [some (.ref a), some (.ref pl), some (.ref d), t1, t2, t3, t4]) ?_ ?_ ?_ ?_
  · exact ⟨ed, Keep.refl _ _, none, none, none, none, rfl⟩
  · rintro i σ H' _ ⟨_, hK, _⟩
    exact keep_same S1 nd0 hK _ _ hpl
  · rintro i x σ H3 H4 hi ⟨eD, hK, t1, t2, t3, t4, rfl⟩ ⟨T2, y1, y2, rfl, nT, rfl, ey1, ey2⟩
    have ey1 : V.int (i : Nat) = y1 := by injection ey1
    subst ey1
    obtain ⟨qq, pp, eq, rfl, hp⟩ := hpa.get ey2
    obtain ⟨nm, v⟩ := qq
    obtain ⟨o1, o2, o3, o4, o5⟩ := hok.2 i nm v eq
    have nTd : d ≠ T2 := ne_of_none eD nT
    have hK2 : Keep d H2 (upd H3 T2 (.tup [.int (i : Nat), .ref pp])) := hK.trans (Keep.new nT)
    have eD2 := same_new (o := .tup [.int (i : Nat), .ref pp]) nT _ _ eD
    have eT : upd H3 T2 (.tup [.int (i : Nat), .ref pp]) T2 = some (.tup [.int (i : Nat), .ref pp]) := upd_same
    generalize upd H3 T2 (.tup [.int (i : Nat), .ref pp]) = H4 at *
    have S4 := keep_same S1 nd0 hK2
    refine ⟨T2, _, rfl, SqT.of eT, rfl, ?_⟩
    repeat (walk_at "lw w")
    refine ⟨pp, d, nm, v, famOf (ps.take i), rfl, SqT.same S4 hp, eD2, o1, o2, o3, o4, o5, fun H5 S5 => ?_⟩
    have hp5 := SqT.same (S4.trans S5) hp
    have eD5 := S5 _ _ eD2
    repeat (walk_at "lw w")
    refine ⟨pp, _, rfl, hp5, rfl, ?_⟩
    have hlt : (kvOf (famOf (ps.take i))).length < sizeLine := by
      refine small1000 ?_
      rw [kvOf, List.length_map, famOf_len, List.length_take]
      omega
    have hput : ∀ y : V, y = parV v → putK (kvOf (famOf (ps.take i))) (.inr nm) y = kvOf (famOf (ps.take (i + 1))) := fun y hy => by
      rw [putK_new _ (valV_none o4), famOf_take eq, kvOf_snoc, hy]
    have fin : ∀ y : V, y = parV v → upd H5 d (.dK (putK (kvOf (famOf (ps.take i))) (.inr nm) y)) d = some (.dK (kvOf (famOf (ps.take (i + 1))))) ∧ Keep d H2 (upd H5 d (.dK (putK (kvOf (famOf (ps.take i))) (.inr nm) y))) := fun y hy => by
      refine ⟨by rw [upd_same, hput y hy], ?_⟩
      exact (hK2.trans fun q o n e => S5 q o e).trans (Keep.upd _ _ _)
    rcases o5 with rfl | ⟨qn, rfl, hq⟩
    · repeat (walk_at "lw w")
      refine ⟨d, _, rfl, DPut.k (k := .inr nm) eD5 hlt, ?_⟩
      obtain ⟨f1, f2⟩ := fin _ rfl
      exact ⟨f1, f2, _, _, _, _, rfl⟩
    · repeat (walk_at "lw w")
      refine ⟨d, _, rfl, DPut.k (k := .inr nm) eD5 hlt, ?_⟩
      obtain ⟨f1, f2⟩ := fin _ rfl
      exact ⟨f1, f2, _, _, _, _, rfl⟩
  · rintro σ H3 ⟨eD, hK, t1, t2, t3, t4, rfl⟩
    rw [hlen, List.take_length] at eD
    repeat (walk_at "lw w")
    have ha3 := keep_same S1 nd0 hK _ _ ha
    refine ⟨a, T.C_Family, dx, [], rfl, ha3, T.cl_Family, T.nA_Family__above, by decide, ?_⟩
    have nad : d ≠ a := fun h => by rw [h, ha] at nd0; cases nd0
    have eD4 : upd H3 a (.ins T.C_Family dx (putF (Str.ofString "_above") (.ref d) [])) d = some (.dK (kvOf (famOf ps))) := by rw [upd_ne nad]; exact eD
    have ha4 : upd H3 a (.ins T.C_Family dx (putF (Str.ofString "_above") (.ref d) [])) a = some (.ins T.C_Family dx [(Str.ofString "_above", .ref d)]) := upd_same
    have K4 : Keep a H (upd H3 a (.ins T.C_Family dx (putF (Str.ofString "_above") (.ref d) []))) := fun q o n e => by
      rw [upd_ne n]
      exact keep_same S1 nd0 hK q o e
    generalize upd H3 a (.ins T.C_Family dx (putF (Str.ofString "_above") (.ref d) [])) = H4 at *
    clear hK eD ha3
    repeat (walk_at "lw w")
    refine ⟨d, _, rfl, eD4, fun H5 lp ts S5 nlp nts hnp elp pts => ?_⟩
    have hF := T.q_FIRST_CLASSES H5
    repeat (walk_at "lw w")
    refine ⟨lp, _, rfl, SqL.of elp, fun sp nsp => ?_⟩
    refine ⟨sp, _, rfl, .inl ⟨SqL.of upd_same, fun tp ntp => ?_⟩⟩
    repeat (walk_at "lw w")
    have el := pairs_len pts
    rw [famOf_len] at el
    have ec : cutV (ts.map V.ref) (some (([V.ref T.a_FIRST_CLASSES_0, .ref T.a_FIRST_CLASSES_1, .ref T.a_FIRST_CLASSES_2, .ref T.a_FIRST_CLASSES_3].length : Nat) : Int)) none = (ts.drop 4).map V.ref := (cut4 (xs := ts.map V.ref) (by rw [List.length_map]; omega)).trans List.map_drop.symm
    generalize cutV (ts.map V.ref) (some (([V.ref T.a_FIRST_CLASSES_0, .ref T.a_FIRST_CLASSES_1, .ref T.a_FIRST_CLASSES_2, .ref T.a_FIRST_CLASSES_3].length : Nat) : Int)) none = cs at *
    subst ec
    have S6 := (same_new (o := .lst ((ts.drop 4).map V.ref)) nsp)
    have S7 := S6.trans (same_new (o := .tup ((ts.drop 4).map V.ref)) ntp)
    have et : upd (upd H5 sp (.lst ((ts.drop 4).map V.ref))) tp (.tup ((ts.drop 4).map V.ref)) tp = some (.tup ((ts.drop 4).map V.ref)) := upd_same
    generalize upd (upd H5 sp (.lst ((ts.drop 4).map V.ref))) tp (.tup ((ts.drop 4).map V.ref)) = H7 at *
    have ha7 := S7 _ _ (S5 _ _ ha4)
    have eD7 := S7 _ _ (S5 _ _ eD4)
    refine ⟨a, T.C_Family, dx, _, rfl, ha7, T.cl_Family, T.nA_Family_declared, (show 1 < 1000 by decide), ?_⟩
    have nat : tp ≠ a := fun h => by rw [h, ha7] at et; cases et
    have nts2 : ∀ t, H4 t = none → t ≠ a := fun t h e => by rw [e, ha4] at h; cases h
    refine q _ ⟨dx, d, tp, ts.drop 4, upd_same, ?_, ?_, ?_⟩ ?_
    · rw [upd_ne nad]
      exact eD7
    · rw [upd_ne nat]
      exact et
    · have hp4 := pairs_same S7 (pairs_drop 4 pts)
      have key : ∀ {us : List Addr} {l : List (Str × V)}, (∀ t ∈ us, t ≠ a) → Paired (fun (t : Addr) (q : Str × V) => H7 t = some (.tup [.str q.1, q.2])) us l → ∀ o : HO, Paired (fun (t : Addr) (q : Str × V) => upd H7 a o t = some (.tup [.str q.1, q.2])) us l := by
        intro us l hn h o
        induction h with
        | nil => exact .nil
        | cons b _ ih => exact .cons (by rw [upd_ne (hn _ List.mem_cons_self)]; exact b) (ih fun t ht => hn t (List.mem_cons_of_mem _ ht))
      exact key (fun t ht => nts2 t (nts t (List.mem_of_mem_drop ht))) hp4 _
    · intro qq o n e
      rw [upd_ne n]
      exact S7 _ _ (S5 _ _ (K4 qq o n e))))
section
variable {P : Program} {w : World} {K : PySem.W.Frag} {mg : Str → Option Value} {base : Heap}
def sp_finit (K : PySem.W.Frag) (C : Addr) : Sp := fun vs H Q _ => ∃ (a pl dx : Addr) (xs : List V) (ps : List (Str × V)), vs = [.ref a, .ref pl] ∧ H a = some (.ins C dx []) ∧ (∃ o, H pl = some o ∧ (o = .lst xs ∨ o = .tup xs)) ∧ PairsAt K H xs ps ∧ FamOk ps ∧
  ∀ H' : Hp, FamAt C H' a (famOf ps) → Keep a H H' → Q .non H'
theorem ok_Family___init__ (T : Txt K mg) : FnOk P w K mg base CX0 4 T.f_Family___init__ T.fd_Family___init__ ["self", "pairs"] (sp_finit K T.C_Family) := by
  have G_can_be_declared := ok_can_be_declared (P := P) (w := w) (base := base) T
  refine T.F_Family___init__.ok sc_Family___init__ (fun vs H Q E h => ?_) (fun cdv A outer s H vs Q E hr h => ?_)
  · obtain ⟨a, pl, dx, xs, ps, rfl, _⟩ := h
    rfl
  · obtain ⟨a, pl, dx, xs, ps, rfl, ha, ⟨o, hpl, ho⟩, hpa, hok, q⟩ := h
    refine ⟨_, (pss_cons (ps_if (pt_not (pt_val (pe_callB call_isiT (by rfl) T.m_isinstance (by decide +kernel) (pa_cons (pv 1) (pa_cons (pe_tup (pa_cons (pe_bltn (v := .ty "list") (by rfl) T.m_list (by decide +kernel) rfl) (pa_cons (pe_bltn (v := .ty "tuple") (by rfl) T.m_tuple (by decide +kernel) rfl) pa_nil))) pa_nil))))) (pss_one ps_never) pss_nil)
        (pss_cons (ps_set (i := 2) sc_Family___init__.nd rfl (.inl rfl) (pe_callTy (call_dictT rfl T.d_FIRST_CLASSES.choose_spec.choose_spec.choose_spec.1 T.d_FIRST_CLASSES.choose_spec.choose_spec.choose_spec.2.1 T.d_FIRST_CLASSES.choose_spec.choose_spec.choose_spec.2.2.1 T.d_FIRST_CLASSES.choose_spec.choose_spec.choose_spec.2.2.2.1 T.d_FIRST_CLASSES.choose_spec.choose_spec.choose_spec.2.2.2.2) (by rfl) T.m_dict (by decide +kernel) (pa_cons (pe_glob (v := .ref T.a_FIRST_CLASSES) rfl T.c_FIRST_CLASSES rfl) pa_nil)))
        (pss_cons (ps_for PassesOwn.never rfl (pi_enum2 (by rfl) T.m_enumerate (pa_cons (pv 1) pa_nil)) (pg_tup rfl (pgs_cons (pg_name (i := 3) sc_Family___init__.nd rfl (.inl rfl)) (pgs_cons (pg_name (i := 4) sc_Family___init__.nd rfl (.inl rfl)) pgs_nil))) (pss_cons (ps_if (pt_not (pt_val (pe_call G_can_be_declared hr (by rfl) T.g_can_be_declared T.F_can_be_declared.kp T.b_can_be_declared .nil pass0 (pa_cons (pv 4) (pa_cons (pv 2) pa_nil))))) (pss_one ps_never) pss_nil)
        (pss_cons (ps_asg (pv 4) (pg_tup rfl (pgs_cons (pg_name (i := 5) sc_Family___init__.nd rfl (.inl rfl)) (pgs_cons (pg_name (i := 6) sc_Family___init__.nd rfl (.inl rfl)) pgs_nil))))
        (pss_one (ps_dput (hu_of hr) (pv 2) (pv 5) (pe_ifExp (pt_cmpR op_isN (pv 6) pe_non (nomark _)) (pe_glob (v := .str "Error") rfl T.c_ROOT.choose_spec ⟨_, rfl⟩) (pv 6)) rfl)))))
        (pss_cons (ps_fld (pv 0) (pv 2) rfl)
        (pss_one (ps_fld (pv 0) (pe_callTy call_tuple_of (by rfl) T.m_tuple (by decide +kernel) (pa_cons (pe_slice sl_list (LiI.pe_listItems rfl (pv 2) (by rfl) T.m_list (by decide +kernel)) (po_some (pe_callB call_len (by rfl) T.m_len (by decide +kernel) (pa_cons (pe_glob (v := .ref T.a_FIRST_CLASSES) rfl T.c_FIRST_CLASSES rfl) pa_nil))) po_none) pa_nil)) rfl)))))), ?_⟩
    have hlen := hpa.len
    have hl45 := hok.1
    repeat (walk_at "lw w")
    refine ⟨by walk_at "lw n", fun p0 np0 => ?_⟩
    have hk : ∃ t, TyX K (upd H p0 (.tup [.ty "list", .ty "tuple"])) (.ref pl) t ∧ PySem.W.kitAny K t [.type "list", .type "tuple"] = some true := by
      rcases ho with h | h
      · rw [h] at hpl
        exact ⟨_, ty_lst (same_new np0 _ _ hpl), kit2 (r1 := true) (r2 := false) (by decide +kernel) (by decide +kernel)⟩
      · rw [h] at hpl
        exact ⟨_, ty_tup (same_new np0 _ _ hpl), kit2 (r1 := false) (r2 := true) (by decide +kernel) (by decide +kernel)⟩
    obtain ⟨tb, ht, hkit⟩ := hk
    refine ⟨_, p0, _, tb, _, true, rfl, upd_same, .cons (.ty _) (.cons (.ty _) .nil), ht, hkit, ?_⟩
    have S0 : Same H (upd H p0 (.tup [.ty "list", .ty "tuple"])) := same_new np0
    generalize upd H p0 (.tup [.ty "list", .ty "tuple"]) = H1 at *
    repeat (walk_at "lw w")
    refine ifF rfl ?_
    repeat (walk_at "lw w")
    refine ⟨kvOf first4, rfl, .cons (T.q_FIRST_CLASSES_0 _) (.cons (T.q_FIRST_CLASSES_1 _) (.cons (T.q_FIRST_CLASSES_2 _) (.cons (T.q_FIRST_CLASSES_3 _) .nil))), (show 4 ≤ 1000 by decide), fun d nd => ?_⟩
    rw [merge4]
    have S1 : Same H (upd H1 d (.dK (kvOf first4))) := S0.trans (same_new nd)
    have nd0 : H d = none := (Same.dom S0).free nd
    have ed : upd H1 d (.dK (kvOf first4)) d = some (.dK (kvOf first4)) := upd_same
    generalize upd H1 d (.dK (kvOf first4)) = H2 at *
    clear S0 ht hkit nd
    repeat (walk_at "lw w")
    rcases ho with rfl | rfl
    · have W : Walk (Ite K pl) xs.length (fun H => H pl = some (.lst xs)) (YPair (fun i => some (.int (i : Nat))) (fun i => xs[i]?)) := Walk.mono walk_enum (fun _ h => SqL.of h) fun _ _ _ _ _ _ y => y
      refine .inl ⟨pl, xs, rfl, SqL.of (S1 _ _ hpl), ?_⟩
      walk_at "loop01"
    · have W : Walk (ItE K pl) xs.length (fun H => H pl = some (.tup xs)) (YPair (fun i => some (.int (i : Nat))) (fun i => xs[i]?)) := Walk.mono walk_enumT (fun _ h => SqT.of h) fun _ _ _ _ _ _ y => y
      refine .inr ⟨pl, xs, rfl, SqT.of (S1 _ _ hpl), ?_⟩
      walk_at "loop01"
end

/-- the data of a value that is a text or None -/
def vD : V → PyData
  | .str z => .str z
  | _ => .none
def pairD (q : Str × V) : PyData := .tuple [.str q.1, vD q.2]
/-- what a family declares, as data -/
def declD (l : List (Str × V)) : PyData := .tuple ((l.drop 4).map pairD)
def VOk (v : V) : Prop := v = .non ∨ ∃ z, v = .str z ∧ fine (.str z) = true
/-- names and what is above them are texts that may be compared -/
def FineL (l : List (Str × V)) : Prop := l.length ≤ 60 ∧ ∀ q ∈ l, fine (.str q.1) = true ∧ VOk q.2
theorem VOk.dp {K : PySem.W.Frag} {H : Hp} {v : V} (h : VOk v) : Dp K H v (vD v) := by
  rcases h with rfl | ⟨z, rfl, _⟩
  · exact .non
  · exact .str z
theorem VOk.fine {v : V} (h : VOk v) : fine (vD v) = true := by
  rcases h with rfl | ⟨z, rfl, h⟩
  · rfl
  · exact h
theorem FineL.drop {l : List (Str × V)} (h : FineL l) (n : Nat) : FineL (l.drop n) := ⟨by rw [List.length_drop]; have := h.1; omega, fun q m => h.2 q (List.mem_of_mem_drop m)⟩
theorem pair_dp {K : PySem.W.Frag} {H : Hp} {t : Addr} {q : Str × V} (h : H t = some (.tup [.str q.1, q.2])) (ok : VOk q.2) : Dp K H (.ref t) (pairD q) := .tup (SqT.of h) (.cons (.str _) (.cons ok.dp .nil))
theorem pairs_dp0 {K : PySem.W.Frag} {H : Hp} {ts : List Addr} {l : List (Str × V)} (h : Paired (fun (t : Addr) (q : Str × V) => H t = some (.tup [.str q.1, q.2])) ts l) : (∀ q ∈ l, VOk q.2) → DpAll K H (ts.map V.ref) (l.map pairD) := by
  induction h with
  | nil => exact fun _ => .nil
  | cons a b ih => exact fun ok => .cons (pair_dp a (ok _ List.mem_cons_self)) (ih fun q m => ok q (List.mem_cons_of_mem _ m))
theorem pairs_dp {K : PySem.W.Frag} {H : Hp} {ts : List Addr} {l : List (Str × V)} (h : Paired (fun (t : Addr) (q : Str × V) => H t = some (.tup [.str q.1, q.2])) ts l) (ok : FineL l) : DpAll K H (ts.map V.ref) (l.map pairD) := pairs_dp0 h fun q m => (ok.2 q m).2
theorem upd_none {H : Hp} {p a : Addr} {o : HO} (h : upd H p o a = none) : H a = none := by
  by_cases e : a = p
  · rw [e, upd_same] at h; cases h
  · rw [upd_ne e] at h; exact h
theorem pairD_fine {q : Str × V} (h : fine (.str q.1) = true) (h2 : VOk q.2) : fine (pairD q) = true := by
  show (decide ((2 : Nat) ≤ 1000) && (fine (.str q.1) && (fine (vD q.2) && true))) = true
  rw [h, h2.fine]
  rfl
theorem pairD_depth (q : Str × V) (h : VOk q.2) : PyData.depth (pairD q) ≤ 2 := by
  rcases h with e | ⟨z, e, _⟩
  · unfold pairD; rw [e]
    show max 0 (max 0 0) + 1 ≤ 2
    decide
  · unfold pairD; rw [e]
    show max 0 (max 0 0) + 1 ≤ 2
    decide
theorem pairs_fine : ∀ {l : List (Str × V)}, (∀ q ∈ l, fine (.str q.1) = true ∧ VOk q.2) → fineAll (l.map pairD) = true ∧ PyData.depthAll (l.map pairD) ≤ 2
  | [], _ => ⟨rfl, Nat.zero_le _⟩
  | q :: r, h => by
    obtain ⟨h1, h2⟩ := h q List.mem_cons_self
    obtain ⟨a, b⟩ := pairs_fine (l := r) fun x m => h x (List.mem_cons_of_mem _ m)
    refine ⟨?_, ?_⟩
    · show (fine (pairD q) && fineAll (r.map pairD)) = true
      rw [pairD_fine h1 h2, a]
      rfl
    · show max (PyData.depth (pairD q)) (PyData.depthAll (r.map pairD)) ≤ 2
      have := pairD_depth q h2
      omega
theorem decl_shaped {l : List (Str × V)} (h : FineL l) : SeqAt.shaped (declD l) = true := by
  obtain ⟨a, b⟩ := pairs_fine (h.drop 4).2
  refine shaped_fine ?_ ?_
  · show (decide _ && fineAll _) = true
    rw [a, decide_eq_true (by rw [List.length_map]; have := (h.drop 4).1; omega)]
    rfl
  · show PyData.depthAll ((l.drop 4).map pairD) + 1 ≤ 64
    omega
theorem parV_ok {v : V} (h : VOk v) : VOk (parV v) := by
  rcases h with rfl | ⟨z, rfl, h⟩
  · exact .inr ⟨_, rfl, by decide +kernel⟩
  · exact .inr ⟨_, rfl, h⟩
theorem fine_name {nm : Str} (h : nm.length ≤ 12) (s : PyData.strOk nm = true) : fine (.str nm) = true := by
  unfold fine
  rw [s, decide_eq_true (show nm.length ≤ 100000 by omega)]
  rfl
theorem FamOk.fines {ps : List (Str × V)} (h : FamOk ps) : ∀ q ∈ ps, fine (.str q.1) = true ∧ VOk q.2 := by
  have nf : ∀ n ∈ ps.map (·.1), fine (.str n) = true := by
    intro n hn
    obtain ⟨q, hq, rfl⟩ := List.mem_map.mp hn
    obtain ⟨i, hi⟩ := List.mem_iff_getElem?.mp hq
    obtain ⟨_, o2, o3, _⟩ := h.2 i q.1 q.2 hi
    exact fine_name o2 o3
  intro q hq
  refine ⟨nf _ (List.mem_map.mpr ⟨q, hq, rfl⟩), ?_⟩
  obtain ⟨i, hi⟩ := List.mem_iff_getElem?.mp hq
  obtain ⟨_, _, _, _, o5⟩ := h.2 i q.1 q.2 hi
  rcases o5 with e | ⟨z, e, hz⟩
  · exact .inl e
  · refine .inr ⟨z, e, ?_⟩
    unfold namesOf famOf at hz
    rw [List.map_append, List.map_map] at hz
    rcases List.mem_append.mp hz with m | m
    · revert m
      simp only [first4, List.map_cons, List.map_nil, List.mem_cons, List.not_mem_nil, or_false]
      rintro (rfl | rfl | rfl | rfl) <;> decide +kernel
    · obtain ⟨y, hy, rfl⟩ := List.mem_map.mp m
      exact nf _ (List.mem_map.mpr ⟨y, List.mem_of_mem_take hy, rfl⟩)
theorem FamOk.fineL {ps : List (Str × V)} (h : FamOk ps) : FineL (famOf ps) := by
  refine ⟨by rw [famOf_len]; have := h.1; omega, fun q m => ?_⟩
  rcases List.mem_append.mp m with m | m
  · revert m
    simp only [first4, List.mem_cons, List.not_mem_nil, or_false]
    rintro (rfl | rfl | rfl | rfl)
    · exact ⟨by decide +kernel, .inl rfl⟩
    · exact ⟨by decide +kernel, .inr ⟨_, rfl, by decide +kernel⟩⟩
    · exact ⟨by decide +kernel, .inr ⟨_, rfl, by decide +kernel⟩⟩
    · exact ⟨by decide +kernel, .inr ⟨_, rfl, by decide +kernel⟩⟩
  · obtain ⟨y, hy, rfl⟩ := List.mem_map.mp m
    exact ⟨(h.fines y hy).1, parV_ok (h.fines y hy).2⟩
section
variable {P : Program} {w : World} {K : PySem.W.Frag} {mg : Str → Option Value} {base : Heap}
theorem FamAt.tyX {H : Hp} {a : Addr} {l : List (Str × V)} (T : Txt K mg) (h : FamAt T.C_Family H a l) : TyX K H (.ref a) (.ref T.C_Family) := by
  obtain ⟨dx, d, t, ts, h1, _⟩ := h
  exact .base (.ins h1 T.cl_Family T.tp_Family.ca T.tp_Family.cg T.tp_Family.ct T.tp_Family.top)
theorem ok_Family_parent (T : Txt K mg) : FnOk P w K mg base CX0 2 T.f_Family_parent T.fd_Family_parent ["self", "name"] (fun vs H Q _ => ∃ (a : Addr) (nm : Str) (v : V) (l : List (Str × V)), vs = [.ref a, .str nm] ∧ FamAt T.C_Family H a l ∧ valV (kvOf l) (.inr nm) = some v ∧ Q v H) := by
  have G_Family___contains__ := ok_Family___contains__ (P := P) (w := w) (base := base) T
  refine T.F_Family_parent.ok sc_Family_parent (fun vs H Q E h => ?_) (fun cdv A outer s H vs Q E hr h => ?_)
  · obtain ⟨a, nm, v, l, rfl, _⟩ := h
    rfl
  · obtain ⟨a, nm, v, l, rfl, hf, hv, q⟩ := h
    have hm : nm ∈ l.map (·.1) := Classical.byContradiction fun n => by rw [valV_none n] at hv; cases hv
    refine ⟨_, (pss_cons (ps_if (pt_cmpR (op_notInOwn T.o_Family___contains__ T.n_Family___contains__ (G_Family___contains__.raw T.b_Family___contains__ .nil) (hr.mono (by omega)) pass0) (pv 1) (pv 0) (by rfl)) (pss_one ps_never) pss_nil)
        (pss_one (ps_ret (pe_dget (hu_of hr) (pe_fld (pv 0) rfl) (pv 1) (fun _ _ => rfl))))), ?_⟩
    have hf' := hf
    obtain ⟨dx, d, t, ts, h1, h2, h3, h4⟩ := hf
    refine ⟨_, rfl, _, rfl, a, dx, _, rfl, h1, ?_⟩
    refine ⟨a, .str nm, .type "str", l, rfl, hf', ty_str, (show PySem.W.kitOne K (.type "str") (.type "str") = some true from kit_ty (by decide +kernel)), true, (show V.bl (decide (nm ∈ l.map (·.1))) = V.bl true by rw [decide_eq_true hm]), ?_⟩
    refine ⟨false, rfl, ifF rfl ?_⟩
    refine ⟨_, rfl, a, _, dx, _, _, rfl, h1, T.cl_Family, T.nA_Family__above, rfl, ?_⟩
    repeat (walk_at "lw w")
    have g : DGet H d (kV (.inr nm)) (some v) := hv ▸ DGet.k (k := .inr nm) h2
    exact ⟨d, _, rfl, g, q⟩
theorem ok_Family___eq__ (T : Txt K mg) : FnOk P w K mg base CX0 1 T.f_Family___eq__ T.fd_Family___eq__ ["self", "other"] (fun vs H Q _ => ∃ (a : Addr) (y : V) (l : List (Str × V)), vs = [.ref a, y] ∧ FamAt T.C_Family H a l ∧ FineL l ∧
    ((∃ (b : Addr) (l2 : List (Str × V)), y = .ref b ∧ FamAt T.C_Family H b l2 ∧ FineL l2 ∧ Q (.bl (PyData.eqv (declD l) (declD l2))) H) ∨ (∃ tb : Value, TyX K H y tb ∧ PySem.W.kitOne K tb (.ref T.C_Family) = some false ∧ Q (.bl false) H))) := by
  refine T.F_Family___eq__.ok sc_Family___eq__ (fun vs H Q E h => ?_) (fun cdv A outer s H vs Q E hr h => ?_)
  · obtain ⟨a, y, l, rfl, _⟩ := h
    rfl
  · obtain ⟨a, y, l, rfl, hf, hl, q⟩ := h
    refine ⟨_, (pss_one (ps_ret (pe_and (pe_callB call_isi (by rfl) T.m_isinstance (by decide +kernel) (pa_cons (pv 1) (pa_cons (pe_glob (v := .ref T.C_Family) rfl T.gC_Family rfl) pa_nil))) (pe_one (pe_cmpR (op_eqD hr.units) (pe_fld (pv 0) rfl) (pe_fld (pv 1) rfl) (nomark _)))))), ?_⟩
    rcases q with ⟨b, l2, rfl, hf2, hl2, q⟩ | ⟨tb, ty, kt, q⟩
    · refine ⟨_, rfl, _, _, _, _, _, rfl, .own _, FamAt.tyX T hf2, T.tp_Family.k1, ?_⟩
      refine ⟨_, rfl, ifT rfl ?_⟩
      obtain ⟨dx, d, t, ts, h1, h2, h3, h4⟩ := hf
      obtain ⟨dx2, d2, t2, ts2, g1, g2, g3, g4⟩ := hf2
      repeat (walk_at "lw w")
      refine ⟨a, _, dx, _, _, rfl, h1, T.cl_Family, T.nA_Family_declared, rfl, ?_⟩
      repeat (walk_at "lw w")
      refine ⟨b, _, dx2, _, _, rfl, g1, T.cl_Family, T.nA_Family_declared, rfl, ?_⟩
      exact ⟨declD l, declD l2, .tup (SqT.of h3) (pairs_dp h4 (hl.drop 4)), .tup (SqT.of g3) (pairs_dp g4 (hl2.drop 4)), decl_shaped hl, decl_shaped hl2, q⟩
    · refine ⟨_, rfl, _, _, _, _, _, rfl, .own _, ty, kt, ?_⟩
      exact ⟨_, rfl, ifF rfl q⟩
/-- Family(pairs) -/
theorem made_fam {C : Addr} {H : Hp} {pl : Addr} {xs : List V} {ps : List (Str × V)} {Q : VK} {E : XK} (hpl : H pl = some (.lst xs) ∨ H pl = some (.tup xs)) (hp : PairsAt K H xs ps) (ok : FamOk ps) (q : ∀ (a : Addr) (H' : Hp), H a = none → FamAt C H' a (famOf ps) → Same H H' → Q (.ref a) H') :
    ∀ x dx, H x = none → H dx = none → dx ≠ x → sp_finit K C [.ref x, .ref pl] (upd (upd H dx (.own x)) x (.ins C dx [])) (fun v H2 => v = .non ∧ Q (.ref x) H2) E := by
  intro x dx nx ndx ne
  have nx2 : (upd H dx (.own x)) x = none := by rw [upd_ne (Ne.symm ne)]; exact nx
  have S : Same H (upd (upd H dx (.own x)) x (.ins C dx [])) := (same_new ndx).trans (same_new nx2)
  refine ⟨x, pl, dx, xs, ps, rfl, upd_same, ?_, hp.same S, ok, fun H' f k => ⟨rfl, q x H' nx f fun z o e => k z o (fun h => by rw [h, nx] at e; cases e) (S z o e)⟩⟩
  rcases hpl with h | h
  · exact ⟨_, S _ _ h, .inl rfl⟩
  · exact ⟨_, S _ _ h, .inr rfl⟩
theorem famok_nil : FamOk [] := ⟨Nat.zero_le _, fun i nm v h => by simp at h⟩
theorem ok_Family_plain (T : Txt K mg) : FnOk P w K mg base CX0 6 T.f_Family_plain T.fd_Family_plain [] (fun vs H Q _ => vs = [] ∧ ∀ (a : Addr) (H' : Hp), H a = none → FamAt T.C_Family H' a (famOf []) → Same H H' → Q (.ref a) H') := by
  have G_Family___init__ := ok_Family___init__ (P := P) (w := w) (base := base) T
  refine T.F_Family_plain.ok sc_Family_plain (fun vs H Q E h => ?_) (fun cdv A outer s H vs Q E hr h => ?_)
  · obtain ⟨rfl, _⟩ := h
    rfl
  · obtain ⟨rfl, q⟩ := h
    refine ⟨_, (pss_one (ps_ret (pe_make T.mk_Family G_Family___init__ (hr.mono (by omega)) (by rfl) T.gC_Family T.b_Family___init__ .nil pass0 (pa_cons (pe_tup pa_nil) pa_nil)))), ?_⟩
    refine ⟨by walk_at "lw n", fun p np => ?_⟩
    exact made_fam (.inr upd_same) .nil famok_nil fun a H' na f S => q a H' (upd_none na) f ((same_new np).trans S)
end

theorem inV_names (nm : Str) (l : List Str) : inV (.str nm) (l.map V.str) = decide (nm ∈ l) := by
  induction l with
  | nil => rfl
  | cons x r ih =>
    show (eqV (.str x) (.str nm) || inV (.str nm) (r.map V.str)) = _
    rw [ih]
    have e : eqV (.str x) (.str nm) = decide (x = nm) := by
      by_cases h : x = nm
      · rw [h, decide_eq_true rfl]
        exact decide_eq_true rfl
      · rw [decide_eq_false h]
        exact decide_eq_false h
    rw [e]
    by_cases h : x = nm
    · rw [h]
      simp
    · rw [decide_eq_false h, Bool.false_or]
      simp [Ne.symm h]
theorem flat_names (l : List Str) : (l.map V.str).all flatV = true := by
  rw [List.all_map]
  exact List.all_eq_true.mpr fun _ _ => rfl
/-- a list of new pairs -/
def PL (H : Hp) (pl : Addr) (ps : List (Str × V)) : Prop := ∃ ts : List Addr, H pl = some (.lst (ts.map V.ref)) ∧ Paired (fun (t : Addr) (q : Str × V) => H t = some (.tup [.str q.1, q.2])) ts ps
theorem PL.same {H H' : Hp} {pl : Addr} {ps : List (Str × V)} (h : PL H pl ps) (s : Same H H') : PL H' pl ps := by
  obtain ⟨ts, h1, h2⟩ := h
  exact ⟨ts, s _ _ h1, pairs_same s h2⟩
theorem pairs_upd {H H' : Hp} {b : Addr} {xs : List V} (hb : H b = some (.lst xs)) (k : Keep b H H') {ts : List Addr} {l : List (Str × V)} (h : Paired (fun (t : Addr) (q : Str × V) => H t = some (.tup [.str q.1, q.2])) ts l) : Paired (fun (t : Addr) (q : Str × V) => H' t = some (.tup [.str q.1, q.2])) ts l := by
  induction h with
  | nil => exact .nil
  | cons a _ ih => exact .cons (k _ _ (fun e => by rw [e, hb] at a; cases a) a) ih
theorem PL.keep {H H' : Hp} {b pl : Addr} {n : Int} {ps : List (Str × V)} (h : PL H pl ps) (ne : pl ≠ b) (hb : Bag H b n) (k : Keep b H H') : PL H' pl ps := by
  obtain ⟨ts, h1, h2⟩ := h
  obtain ⟨x, y, z, e, _⟩ := hb
  exact ⟨ts, k _ _ ne h1, pairs_upd e k h2⟩
theorem PL.at {K : PySem.W.Frag} {H : Hp} {ts : List Addr} {ps : List (Str × V)} (h : Paired (fun (t : Addr) (q : Str × V) => H t = some (.tup [.str q.1, q.2])) ts ps) : PairsAt K H (ts.map V.ref) ps := by
  unfold PairsAt
  induction h with
  | nil => exact .nil
  | cons a _ ih => exact .cons ⟨_, rfl, SqT.of a⟩ ih
theorem paired_snoc {α β : Type} {R : α → β → Prop} {xs : List α} {ys : List β} {x : α} {y : β} (h : Paired R xs ys) (r : R x y) : Paired R (xs ++ [x]) (ys ++ [y]) := by
  induction h with
  | nil => exact .cons r .nil
  | cons a _ ih => exact .cons a ih
theorem pairs_tup {H H' : Hp} (k : ∀ t l, H t = some (.tup l) → H' t = some (.tup l)) {ts : List Addr} {l : List (Str × V)} (h : Paired (fun (t : Addr) (q : Str × V) => H t = some (.tup [.str q.1, q.2])) ts l) : Paired (fun (t : Addr) (q : Str × V) => H' t = some (.tup [.str q.1, q.2])) ts l := by
  induction h with
  | nil => exact .nil
  | cons a _ ih => exact .cons (k _ _ a) ih
theorem wide_step {H : Hp} {nl pl t : Addr} {ts : List Addr} {ps : List (Str × V)} {z : Str} {pv : V} {xs ys : List V} (hnl : H nl = some (.lst xs)) (ep : H pl = some (.lst (ts.map V.ref))) (pts : Paired (fun (t : Addr) (q : Str × V) => H t = some (.tup [.str q.1, q.2])) ts ps) (nt : H t = none) (ne : nl ≠ pl) :
    PL (upd (upd (upd H t (.tup [.str z, pv])) pl (.lst (ts.map V.ref ++ [.ref t]))) nl (.lst ys)) pl (ps ++ [(z, pv)]) := by
  have tp : t ≠ pl := fun e => by rw [e, ep] at nt; cases nt
  have tn : t ≠ nl := fun e => by rw [e, hnl] at nt; cases nt
  refine ⟨ts ++ [t], ?_, paired_snoc (pairs_tup (fun u l e => ?_) pts) ?_⟩
  · rw [upd_ne (Ne.symm ne), upd_same, List.map_append]
    rfl
  · rw [upd_ne (fun q => by rw [q, hnl] at e; cases e), upd_ne (fun q => by rw [q, ep] at e; cases e), upd_ne (fun q => by rw [q, nt] at e; cases e)]
    exact e
  · show upd _ nl _ t = _
    rw [upd_ne tn, upd_ne tp, upd_same]
theorem FamOk.snoc {ps : List (Str × V)} {nm : Str} {v : V} (h : FamOk ps) (l : ps.length + 1 ≤ 45) (c : isClassL nm.cps.toList = true) (l12 : nm.length ≤ 12) (s : PyData.strOk nm = true) (n : nm ∉ namesOf ps) (hv : v = .non ∨ ∃ q, v = .str q ∧ q ∈ namesOf ps) : FamOk (ps ++ [(nm, v)]) := by
  refine ⟨by rw [List.length_append]; exact l, fun i nm2 v2 e => ?_⟩
  by_cases hi : i < ps.length
  · rw [List.getElem?_append_left hi] at e
    obtain ⟨o1, o2, o3, o4, o5⟩ := h.2 i nm2 v2 e
    rw [List.take_append_of_le_length (Nat.le_of_lt hi)]
    exact ⟨o1, o2, o3, o4, o5⟩
  · rw [List.getElem?_append_right (by omega)] at e
    obtain ⟨j, hj⟩ : ∃ j, i - ps.length = j := ⟨_, rfl⟩
    rw [hj] at e
    cases j with
    | zero =>
      have e : (nm, v) = (nm2, v2) := Option.some.inj e
      cases e
      rw [show i = ps.length by omega, List.take_left' rfl]
      exact ⟨c, l12, s, n, hv⟩
    | succ j => simp at e
theorem namesOf_snoc (ps : List (Str × V)) (nm : Str) (v : V) : namesOf (ps ++ [(nm, v)]) = namesOf ps ++ [nm] := by
  unfold namesOf famOf
  simp only [List.map_append, List.append_assoc, List.map_cons, List.map_nil]
theorem namesOf_len (ps : List (Str × V)) : (namesOf ps).length = 4 + ps.length := by
  unfold namesOf
  rw [List.length_map, famOf_len]
theorem IsClass.facts {z : Str} (h : IsClass z) : isClassL z.cps.toList = true ∧ z.length ≤ 12 ∧ PyData.strOk z = true := by
  obtain ⟨c, cs, e, l, u, a⟩ := h
  have el : z.length = cs.length + 1 := by
    show z.cps.size = _
    rw [← Array.length_toList, e, List.length_cons]
  have al : (c :: cs).all (fun x => isUp x || isLow x) = true := by
    rw [List.all_cons, u, a]
    rfl
  refine ⟨?_, by omega, ?_⟩
  · rw [e, isClassL_cons, u, al, decide_eq_true (show cs.length + 1 ≤ 12 by omega)]
    rfl
  · unfold PyData.strOk
    rw [← Array.all_toList, e]
    refine List.all_eq_true.mpr fun x hx => ?_
    have h1 := List.all_eq_true.mp al x hx
    unfold isLow isUp at h1
    rcases Bool.or_eq_true_iff.mp h1 with h1 | h1
    · have h2 := of_decide_eq_true h1
      exact decide_eq_true (by omega)
    · have h2 := of_decide_eq_true h1
      exact decide_eq_true (by omega)
set_option hygiene false in
local macro_rules | `(tactic| walk_at "tailw") => `(tactic| (
  refine ite2 (fun e2 => ?_) (fun e2 => ?_)
  · have a0 := of_decide_eq_true e2
    obtain ⟨v, hv, ha⟩ := atI_of (xs := (namesOf ps).map V.str) (show 0 ≤ atv - 1 by omega) (show atv - 1 < _ by omega)
    obtain ⟨qn, hq, rfl⟩ := List.mem_map.mp hv
    repeat (walk_at "lw w")
    refine .inl ⟨nl, _, _, _, rfl, rfl, SqL.of hnl, ha, ?_⟩
    have hpv : V.str qn = .non ∨ ∃ q, V.str qn = .str q ∧ q ∈ namesOf ps := .inr ⟨qn, rfl, hq⟩
    walk_at "endw"
  · have hpv : V.non = .non ∨ ∃ q, V.non = .str q ∧ q ∈ namesOf ps := .inl rfl
    walk_at "endw"))
set_option hygiene false in
local macro_rules | `(tactic| walk_at "endw") => `(tactic| (
  repeat (walk_at "lw w")
  refine ⟨nl, _, rfl, .inl (SqL.of hnl), rfl, flat_names _, ?_⟩
  refine ⟨_, rfl, ?_⟩
  rw [inV_names]
  refine ite2 (fun e3 => ?_) (fun e3 => ?_)
  · have hnm : z ∉ namesOf ps := fun m => by rw [decide_eq_true m] at e3; cases e3
    repeat (walk_at "lw w")
    obtain ⟨ts, ep, pts⟩ := hPL
    have hts := PL.at (K := K) pts
    have htl : (ts.map V.ref).length = ps.length := hts.len
    refine ⟨.inl ⟨rfl, _, SqL.of ep⟩, ?_⟩
    repeat (walk_at "lw w")
    refine ⟨by walk_at "lw n", fun t nt => ?_⟩
    have tp : pl ≠ t := fun e => by rw [← e, ep] at nt; cases nt
    have tn : nl ≠ t := fun e => by rw [← e, hnl] at nt; cases nt
    repeat (walk_at "lw w")
    refine ⟨pl, _, _, rfl, rfl, by rw [upd_ne tp]; exact ep, small1000 (by omega), ?_⟩
    repeat (walk_at "lw w")
    have hnl2 : ∀ o1 o2 : HO, upd (upd H4 t o1) pl o2 nl = some (.lst ((namesOf ps).map V.str)) := fun o1 o2 => by rw [upd_ne nlpl, upd_ne tn]; exact hnl
    refine ⟨.inl ⟨rfl, _, SqL.of (hnl2 _ _)⟩, ?_⟩
    repeat (walk_at "lw w")
    refine ⟨nl, _, _, rfl, rfl, hnl2 _ _, small1000 (by omega), ?_⟩
    refine ⟨ps ++ [(z, _)], _, _, _, _, rfl, wide_step hnl ep pts nt nlpl, hok.snoc (by omega) c1 c2 c3 hnm hpv, ?_, ?_, ?_, ?_, ?_⟩
    · intro q hq
      rcases List.mem_append.mp hq with h | h
      · exact hcl q h
      · rw [List.mem_singleton.mp h]
        exact hz
    · rw [List.length_append]
      show ps.length + 1 ≤ i + 1
      omega
    · rw [upd_same, namesOf_snoc, List.map_append]
      rfl
    · exact (((hB4.new nt).upd plb).upd nlb).mono (by omega)
    · exact fun q o n e => by rw [upd_ne (fun h => by rw [h, nnl0] at e; cases e), upd_ne (fun h => by rw [h, npl0] at e; cases e), upd_ne (fun h => by rw [h] at e; rw [hK _ _ (fun g => n (h.trans g)) e] at nt; cases nt)]; exact hK q o n e
  · exact ⟨ps, _, _, _, _, rfl, hPL, hok, hcl, by omega, hnl, hB4.mono (by omega), hK⟩))
def ClassOk (ps : List (Str × V)) : Prop := ∀ q ∈ ps, IsClass q.1
def sp_wide : Sp := fun vs H Q _ => ∃ (b : Addr) (most n : Int), vs = [.ref b, .int most] ∧ Bag H b n ∧ n ≤ 800000000 ∧ 0 ≤ most ∧ most ≤ 40 ∧
  ∀ (pl : Addr) (ps : List (Str × V)) (H' : Hp), H pl = none → PL H' pl ps → FamOk ps → ClassOk ps → (ps.length : Int) ≤ most → Bag H' b (n + 2000) → Keep b H H' → Q (.ref pl) H'
section
variable {P : Program} {w : World} {K : PySem.W.Frag} {mg : Str → Option Value} {base : Heap}
theorem ok_law_parents_of (T : Txt K mg) : FnOk P w K mg base CX0 1 T.f_law_parents_of T.fd_law_parents_of ["pairs"] (fun vs H Q _ => ∃ (pl : Addr) (xs : List V) (ps : List (Str × V)), vs = [.ref pl] ∧ SqL K H pl xs ∧ PairsAt K H xs ps ∧ FamOk ps ∧ ∀ (d : Addr) (H' : Hp), H d = none → H' d = some (.dK (kvOf (famOf ps))) → Same H H' → Q (.ref d) H') := by
  refine T.F_law_parents_of.ok sc_law_parents_of (fun vs H Q E h => ?_) (fun cdv A outer s H vs Q E hr h => ?_)
  · obtain ⟨pl, xs, ps, rfl, _⟩ := h
    rfl
  · obtain ⟨pl, xs, ps, rfl, hpl, hpa, hok, q⟩ := h
    refine ⟨_, (pss_cons (ps_set (i := 1) sc_law_parents_of.nd rfl (.inl rfl) (pe_disp (pps_cons pe_str pe_non (pps_cons pe_str pe_str (pps_cons pe_str pe_str (pps_cons pe_str pe_str pps_nil)))) rfl rfl (by simp) (by decide)))
        (pss_cons (ps_for PassesOwn.never rfl (pi_list (pv 0)) (pg_tup rfl (pgs_cons (pg_name (i := 2) sc_law_parents_of.nd rfl (.inl rfl)) (pgs_cons (pg_name (i := 3) sc_law_parents_of.nd rfl (.inl rfl)) pgs_nil))) (pss_one (ps_dput (hu_of hr) (pv 1) (pv 2) (pe_ifExp (pt_cmpR op_isN (pv 3) pe_non (nomark _)) pe_str (pv 3)) rfl)))
        (pss_one (ps_ret (pv 1))))), ?_⟩
    repeat (walk_at "lw w")
    intro d nd
    have nd0 : H d = none := nd
    repeat (walk_at "lw w")
    refine ⟨upd_same, kvOf first4, rfl, (show 4 ≤ 15 by decide), ?_⟩
    rw [merge4]
    have S1 : Same H (upd (upd H d (.dK [])) d (.dK (kvOf first4))) := fun q o e => by
      have n := ne_of_none e nd
      rw [upd_ne n, upd_ne n]
      exact e
    have ed : upd (upd H d (.dK [])) d (.dK (kvOf first4)) d = some (.dK (kvOf first4)) := upd_same
    generalize upd (upd H d (.dK [])) d (.dK (kvOf first4)) = H2 at *
    repeat (walk_at "lw w")
    have hlen := hpa.len
    have h45 := hok.1
    refine ⟨⟨xs, S1.seq hpl⟩, ?_⟩
    refine for_list (K := K) (a := pl) (xs := xs) (fun i σ H' => H' d = some (.dK (kvOf (famOf (ps.take i)))) ∧ Keep d H2 H' ∧ ∃ t1 t2 : Option V, σ = [some (.ref pl), some (.ref d), t1, t2]) ?_ ?_ ?_ ?_
    · exact ⟨ed, Keep.refl _ _, none, none, rfl⟩
    · rintro i σ H' _ ⟨_, hK, _⟩
      exact (keep_same S1 nd0 hK).seq hpl
    · rintro i x σ H3 ex ⟨eD, hK, t1, t2, rfl⟩
      obtain ⟨qq, pp, eq, rfl, hp⟩ := hpa.get ex
      obtain ⟨nm, v⟩ := qq
      obtain ⟨o1, o2, o3, o4, o5⟩ := hok.2 i nm v eq
      have hp := SqT.same (keep_same S1 nd0 hK) hp
      refine ⟨pp, _, rfl, hp, rfl, ?_⟩
      repeat (walk_at "lw w")
      have hlt : (kvOf (famOf (ps.take i))).length < sizeLine := by
        refine small1000 ?_
        rw [kvOf, List.length_map, famOf_len, List.length_take]
        omega
      have fin : ∀ y : V, y = parV v → upd H3 d (.dK (putK (kvOf (famOf (ps.take i))) (.inr nm) y)) d = some (.dK (kvOf (famOf (ps.take (i + 1))))) ∧ Keep d H2 (upd H3 d (.dK (putK (kvOf (famOf (ps.take i))) (.inr nm) y))) := fun y hy => by
        refine ⟨by rw [upd_same, putK_new _ (valV_none o4), famOf_take eq, kvOf_snoc, hy], ?_⟩
        exact hK.trans (Keep.upd _ _ _)
      rcases o5 with rfl | ⟨qn, rfl, hq⟩
      · repeat (walk_at "lw w")
        refine ⟨d, _, rfl, DPut.k (k := .inr nm) eD hlt, ?_⟩
        obtain ⟨f1, f2⟩ := fin _ rfl
        exact ⟨f1, f2, _, _, rfl⟩
      · repeat (walk_at "lw w")
        refine ⟨d, _, rfl, DPut.k (k := .inr nm) eD hlt, ?_⟩
        obtain ⟨f1, f2⟩ := fin _ rfl
        exact ⟨f1, f2, _, _, rfl⟩
    · rintro σ H3 ⟨eD, hK, t1, t2, rfl⟩
      rw [hlen, List.take_length] at eD
      repeat (walk_at "lw w")
      exact q d H3 nd0 eD (keep_same S1 nd0 hK)
theorem ok_law_wide_family (T : Txt K mg) : FnOk P w K mg base CX0 4 T.f_law_wide_family T.fd_law_wide_family ["bag", "most"] sp_wide := by
  have G_law_take := ok_law_take (P := P) (w := w) (base := base) T
  have G_law_class := ok_law_class (P := P) (w := w) (base := base) T
  refine T.F_law_wide_family.ok sc_law_wide_family (fun vs H Q E h => ?_) (fun cdv A outer s H vs Q E hr h => ?_)
  · obtain ⟨b, most, n, rfl, _⟩ := h
    rfl
  · obtain ⟨b, most, n, rfl, hb, hn, m0, m1, q⟩ := h
    refine ⟨_, (pss_cons (ps_set (i := 2) sc_law_wide_family.nd rfl (.inl rfl) (pe_lst (pa_cons pe_str (pa_cons pe_str (pa_cons pe_str (pa_cons pe_str pa_nil))))))
        (pss_cons (ps_set (i := 3) sc_law_wide_family.nd rfl (.inl rfl) (pe_lst pa_nil))
        (pss_cons (ps_set (i := 4) sc_law_wide_family.nd rfl (.inl rfl) (pe_cmpR op_eq (pe_call G_law_take (hr.mono (by omega)) (by rfl) T.g_law_take T.F_law_take.kp T.b_law_take .nil pass0 (pa_cons (pv 0) (pa_cons pe_int pa_nil))) pe_int (nomark _)))
        (pss_cons (ps_for PassesOwn.never rfl (pi_range1 (by rfl) T.m_range (pa_cons (pe_call G_law_take (hr.mono (by omega)) (by rfl) T.g_law_take T.F_law_take.kp T.b_law_take .nil pass0 (pa_cons (pv 0) (pa_cons (pe_op op_add (pv 1) pe_int) pa_nil))) pa_nil)) (pg_name (i := 5) sc_law_wide_family.nd rfl (.inl rfl)) (pss_cons (ps_set (i := 6) sc_law_wide_family.nd rfl (.inl rfl) (pe_call G_law_class hr (by rfl) T.g_law_class T.F_law_class.kp T.b_law_class .nil pass0 (pa_cons (pv 0) pa_nil)))
        (pss_cons (ps_set (i := 7) sc_law_wide_family.nd rfl (.inl rfl) (pe_ifExp (pt_val (pv 4)) (pe_callB call_len (by rfl) T.m_len (by decide +kernel) (pa_cons (pv 2) pa_nil)) (pe_call G_law_take (hr.mono (by omega)) (by rfl) T.g_law_take T.F_law_take.kp T.b_law_take .nil pass0 (pa_cons (pv 0) (pa_cons (pe_op op_add (pe_callB call_len (by rfl) T.m_len (by decide +kernel) (pa_cons (pv 2) pa_nil)) pe_int) pa_nil)))))
        (pss_cons (ps_set (i := 8) sc_law_wide_family.nd rfl (.inl rfl) (pe_ifExp (pt_cmpR op_gt (pv 7) pe_int (nomark _)) (pe_ix ix_seq (pv 2) (pe_op op_sub (pv 7) pe_int) (fun _ _ => rfl)) pe_non))
        (pss_one (ps_if (pt_cmpR op_notIn_seq (pv 6) (pv 2) (by rfl)) (pss_cons (ps_expr (pe_bm PySem.F.plainAttrs_list PySem.F.slot_list_append PySem.F.type_list_append mt_append (pv 3) (pa_cons (pe_tup (pa_cons (pv 6) (pa_cons (pv 8) pa_nil))) pa_nil)))
        (pss_one (ps_expr (pe_bm PySem.F.plainAttrs_list PySem.F.slot_list_append PySem.F.type_list_append mt_append (pv 2) (pa_cons (pv 6) pa_nil))))) pss_nil))))))
        (pss_one (ps_ret (pv 3))))))), ?_⟩
    repeat (walk_at "lw w")
    refine ⟨by walk_at "lw n", fun nl nnl => ?_⟩
    refine ⟨by walk_at "lw n", fun pl npl => ?_⟩
    have nnl0 : H nl = none := nnl
    have nlb := ne_of_none (Classical.choose_spec hb.has) nnl
    have B0 := (hb.new (o := .lst [.str (Str.ofString "Error"), .str (Str.ofString "Failed"), .str (Str.ofString "Misuse"), .str (Str.ofString "Beyond")]) nnl).new (o := .lst []) npl
    have K0 : Keep b H (upd (upd H nl (.lst [.str (Str.ofString "Error"), .str (Str.ofString "Failed"), .str (Str.ofString "Misuse"), .str (Str.ofString "Beyond")])) pl (.lst [])) := (Keep.new nnl).trans (Keep.new npl)
    have npl0 : H pl = none := upd_none npl
    have plb := ne_of_none (Classical.choose_spec hb.has) npl0
    have nlpl : nl ≠ pl := ne_of_none upd_same npl
    have enl : upd (upd H nl (.lst [.str (Str.ofString "Error"), .str (Str.ofString "Failed"), .str (Str.ofString "Misuse"), .str (Str.ofString "Beyond")])) pl (.lst []) nl = some (.lst ((namesOf []).map V.str)) := by rw [upd_ne nlpl]; exact upd_same
    have epl : PL (upd (upd H nl (.lst [.str (Str.ofString "Error"), .str (Str.ofString "Failed"), .str (Str.ofString "Misuse"), .str (Str.ofString "Beyond")])) pl (.lst [])) pl [] := ⟨[], upd_same, .nil⟩
    generalize upd (upd H nl (.lst [.str (Str.ofString "Error"), .str (Str.ofString "Failed"), .str (Str.ofString "Misuse"), .str (Str.ofString "Beyond")])) pl (.lst []) = H0 at *
    clear npl nnl
    repeat (walk_at "lw w")
    refine ⟨b, 4, n, rfl, B0, by omega, by decide, by decide, fun d1 H1 d10 d11 B1 K1 => ?_⟩
    repeat (walk_at "lw w")
    refine ⟨b, _, _, rfl, B1, by omega, by omega, by omega, fun d2 H2 d20 d21 B2 K2 => ?_⟩
    repeat (walk_at "lw w")
    refine ⟨by omega, by omega, ?_⟩
    refine for_range (lo := 0) (n := d2.toNat) (fun i σ H' => ∃ (ps : List (Str × V)) (t5 t6 t7 t8 : Option V), σ = [some (.ref b), some (.int most), some (.ref nl), some (.ref pl), some (.bl (decide (V.int d1 = V.int 0))), t5, t6, t7, t8] ∧
        PL H' pl ps ∧ FamOk ps ∧ ClassOk ps ∧ ps.length ≤ i ∧ H' nl = some (.lst ((namesOf ps).map V.str)) ∧ Bag H' b (n + 2 + 21 * i) ∧ Keep b H H') ?_ ?_ ?_
    · exact ⟨[], none, none, none, none, rfl, (epl.keep plb.symm B0 K1).keep plb.symm B1 K2, famok_nil, fun q h => by simp at h, Nat.le_refl _, K2 _ _ nlb.symm (K1 _ _ nlb.symm enl), B2.mono (by omega), K0.trans (K1.trans K2)⟩
    · rintro i σ H3 hi ⟨ps, t5, t6, t7, t8, rfl, hPL, hok, hcl, hpl, hnl, hB, hK⟩
      repeat (walk_at "lw w")
      refine ⟨b, _, rfl, hB, by omega, fun z H4 hz hB4 hK4 => ?_⟩
      obtain ⟨c1, c2, c3⟩ := hz.facts
      have hPL := hPL.keep plb.symm hB hK4
      have hnl := hK4 _ _ nlb.symm hnl
      have hK := hK.trans hK4
      clear hK4 hB
      have hnlen := namesOf_len ps
      repeat (walk_at "lw w")
      have hml : ((namesOf ps).map V.str).length = 4 + ps.length := by rw [List.length_map, hnlen]
      refine ite2 (fun e => ?_) (fun e => ?_)
      · repeat (walk_at "lw w")
        obtain ⟨atv, hat⟩ : ∃ atv : Int, atv = (((namesOf ps).map V.str).length : Int) := ⟨_, rfl⟩
        rw [← hat]
        walk_at "tailw"
      · repeat (walk_at "lw w")
        refine ⟨b, _, _, rfl, hB4, by omega, by omega, by omega, fun atv H4 d30 d31 hB5 hK5 => ?_⟩
        have hPL := hPL.keep plb.symm hB4 hK5
        have hnl := hK5 _ _ nlb.symm hnl
        have hK := hK.trans hK5
        have hB4 := hB5
        clear hK5 hB5
        repeat (walk_at "lw w")
        walk_at "tailw"
    · rintro σ H3 ⟨ps, t5, t6, t7, t8, rfl, hPL, hok, hcl, hpl, hnl, hB, hK⟩
      repeat (walk_at "lw w")
      exact q pl ps H3 npl0 hPL hok hcl (by omega) (hB.mono (by omega)) hK
end

section
variable {P : Program} {w : World} {K : PySem.W.Frag} {mg : Str → Option Value} {base : Heap}
theorem ok_law_long_family (T : Txt K mg) : FnOk P w K mg base CX0 5 T.f_law_long_family T.fd_law_long_family ["bag"] (fun vs H Q _ => ∃ (b : Addr) (n : Int), vs = [.ref b] ∧ Bag H b n ∧ n ≤ 800000000 ∧
  ∀ (pl : Addr) (ps : List (Str × V)) (H' : Hp), H pl = none → PL H' pl ps → FamOk ps → ClassOk ps → Bag H' b (n + 2000) → Keep b H H' → Q (.ref pl) H') := by
  have G_law_wide_family := ok_law_wide_family (P := P) (w := w) (base := base) T
  refine T.F_law_long_family.ok sc_law_long_family (fun vs H Q E h => ?_) (fun cdv A outer s H vs Q E hr h => ?_)
  · obtain ⟨b, n, rfl, _⟩ := h
    rfl
  · obtain ⟨b, n, rfl, hb, hn, q⟩ := h
    refine ⟨_, (pss_one (ps_ret (pe_call G_law_wide_family hr (by rfl) T.g_law_wide_family T.F_law_wide_family.kp T.b_law_wide_family .nil pass0 (pa_cons (pv 0) (pa_cons pe_int pa_nil))))), ?_⟩
    repeat (walk_at "lw w")
    exact ⟨b, 12, n, rfl, hb, hn, by decide, by decide, fun pl ps H' n0 hp ok cl _ hB hK => q pl ps H' n0 hp ok cl hB hK⟩
theorem names_cat (ps : List (Str × V)) : ([.str (Str.ofString "Error"), .str (Str.ofString "Failed"), .str (Str.ofString "Misuse"), .str (Str.ofString "Beyond")] ++ ps.map fun q => V.str q.1 : List V) = (namesOf ps).map V.str := by
  unfold namesOf famOf
  rw [List.map_append, List.map_append, List.map_map, List.map_map, List.map_map]
  rfl
def namesD (ps : List (Str × V)) : PyData := .list ((namesOf ps).map PyData.str)
theorem strs_dp {K : PySem.W.Frag} {H : Hp} : ∀ l : List Str, DpAll K H (l.map V.str) (l.map PyData.str)
  | [] => .nil
  | x :: r => .cons (.str x) (strs_dp r)
theorem names_dp {K : PySem.W.Frag} {H : Hp} {l : Addr} {ps : List (Str × V)} (h : H l = some (.lst ((namesOf ps).map V.str))) : Dp K H (.ref l) (namesD ps) := .lst (SqL.of h) (strs_dp _)
theorem strs_fine : ∀ {l : List Str}, (∀ x ∈ l, fine (.str x) = true) → fineAll (l.map PyData.str) = true ∧ PyData.depthAll (l.map PyData.str) = 0
  | [], _ => ⟨rfl, rfl⟩
  | x :: r, h => by
    obtain ⟨a, b⟩ := strs_fine (l := r) fun y m => h y (List.mem_cons_of_mem _ m)
    refine ⟨?_, ?_⟩
    · show (fine (.str x) && fineAll (r.map PyData.str)) = true
      rw [h x List.mem_cons_self, a]
      rfl
    · show max 0 (PyData.depthAll (r.map PyData.str)) = 0
      rw [b]
      rfl
theorem names_fine {ps : List (Str × V)} (h : FamOk ps) : fine (namesD ps) = true ∧ SeqAt.shaped (namesD ps) = true := by
  obtain ⟨a, b⟩ := strs_fine (l := namesOf ps) fun x m => by
    obtain ⟨q, hq, rfl⟩ := List.mem_map.mp m
    exact (h.fineL.2 q hq).1
  have f : fine (namesD ps) = true := by
    show (decide _ && fineAll _) = true
    rw [a, decide_eq_true (by rw [List.length_map, namesOf_len]; have := h.1; omega)]
    rfl
  refine ⟨f, shaped_fine f ?_⟩
  show PyData.depthAll _ + 1 ≤ 64
  rw [b]
  decide
theorem eqv_fine {d : PyData} (h : fine d = true) : PyData.eqv d d = true := PySem.SeqAt.eqv_refl d (canLay_fine d h)
theorem fam_at {ps : List (Str × V)} (h : FamOk ps) {i : Nat} {q : Str × V} (e : ps[i]? = some q) : valV (kvOf (famOf ps)) (.inr q.1) = some (parV q.2) := by
  obtain ⟨nm, v⟩ := q
  have o4 := (h.2 i nm v e).2.2.2.1
  obtain ⟨r, hr⟩ : ∃ r, ps = ps.take i ++ (nm, v) :: r := by
    obtain ⟨hi, ei⟩ := List.getElem?_eq_some_iff.mp e
    exact ⟨ps.drop (i + 1), by rw [← ei, ← List.drop_eq_getElem_cons hi, List.take_append_drop]⟩
  have split : famOf ps = famOf (ps.take i) ++ ((nm, parV v) :: r.map fun q => (q.1, parV q.2)) := by
    have e2 : famOf (ps.take i ++ (nm, v) :: r) = famOf (ps.take i) ++ ((nm, parV v) :: r.map fun q => (q.1, parV q.2)) := by
      unfold famOf
      rw [List.map_append, ← List.append_assoc]
      rfl
    rw [← hr] at e2
    exact e2
  have none1 : ((famOf (ps.take i)).find? fun p => decide (p.1 = nm)) = none := List.find?_eq_none.mpr fun p hp e => o4 (List.mem_map.mpr ⟨p, hp, of_decide_eq_true e⟩)
  rw [valV_kvOf, split, List.find?_append, none1, List.find?_cons]
  rw [show decide ((nm, parV v).1 = nm) = true from decide_eq_true rfl]
  rfl
theorem valV_mem {nm : Str} {v : V} {l : List (Str × V)} (h : valV (kvOf l) (.inr nm) = some v) : ∃ q ∈ l, q.2 = v := by
  rw [valV_kvOf] at h
  cases e : (l.find? fun p => decide (p.1 = nm)) with
  | none => rw [e] at h; cases h
  | some p =>
    rw [e] at h
    exact ⟨p, List.mem_of_find?_eq_some e, Option.some.inj h⟩
theorem VOk.flat {v : V} (h : VOk v) : flatV v = true := by
  rcases h with rfl | ⟨z, rfl, _⟩ <;> rfl
theorem VOk.eqv {v : V} (h : VOk v) : eqV v v = true := by
  rcases h with rfl | ⟨z, rfl, _⟩
  · rfl
  · exact decide_eq_true rfl
theorem drop_fam (ps : List (Str × V)) : (famOf ps).drop 4 = ps.map fun q => (q.1, parV q.2) := rfl
theorem rep_all (n : Nat) : (List.replicate n true).all id = true := List.all_eq_true.mpr fun b hb => (List.eq_of_mem_replicate hb)
theorem ixN_zero {n : Nat} (h : 0 < n) : ixN n 0 = some 0 := by
  unfold ixN
  rw [if_pos (Int.le_refl 0), if_pos (by omega)]
  rfl
theorem decl_fine {l : List (Str × V)} (h : FineL l) : fine (declD l) = true := by
  obtain ⟨a, b⟩ := pairs_fine (h.drop 4).2
  show (decide _ && fineAll _) = true
  rw [a, decide_eq_true (by rw [List.length_map]; have := (h.drop 4).1; omega)]
  rfl
theorem paired_len {α β : Type} {R : α → β → Prop} {xs : List α} {ys : List β} (h : Paired R xs ys) : xs.length = ys.length := by
  induction h with
  | nil => rfl
  | cons _ _ ih => rw [List.length_cons, List.length_cons, ih]
def sp_told (K : PySem.W.Frag) (C : Addr) : Sp := fun vs H Q _ => ∃ (a pl : Addr) (xs : List V) (ps : List (Str × V)), vs = [.ref a, .ref pl] ∧ FamAt C H a (famOf ps) ∧ SqL K H pl xs ∧ PairsAt K H xs ps ∧ FamOk ps ∧ ∀ H', Same H H' → Q (.bl true) H'
theorem ok_law_told (T : Txt K mg) : FnOk P w K mg base CX0 4 T.f_law_told T.fd_law_told ["family", "pairs"] (sp_told K T.C_Family) := by
  have G_law_parents_of := ok_law_parents_of (P := P) (w := w) (base := base) T
  have G_Family_names := ok_Family_names (P := P) (w := w) (base := base) T
  have G_Family___len__ := ok_Family___len__ (P := P) (w := w) (base := base) T
  have G_Family_parent := ok_Family_parent (P := P) (w := w) (base := base) T
  refine T.F_law_told.ok sc_law_told (fun vs H Q E h => ?_) (fun cdv A outer s H vs Q E hr h => ?_)
  · obtain ⟨a, pl, xs, ps, rfl, _⟩ := h
    rfl
  · obtain ⟨a, pl, xs, ps, rfl, hf, hpl, hpa, hok, q⟩ := h
    refine ⟨_, (pss_cons (ps_set (i := 2) sc_law_told.nd rfl (.inr rfl) (pe_call G_law_parents_of (hr.mono (by omega)) (by rfl) T.g_law_parents_of T.F_law_parents_of.kp T.b_law_parents_of .nil pass0 (pa_cons (pv 1) pa_nil)))
        (pss_cons (ps_set (i := 3) sc_law_told.nd rfl (.inl rfl) (pe_op op_cat (pe_lst (pa_cons pe_str (pa_cons pe_str (pa_cons pe_str (pa_cons pe_str pa_nil))))) (pe_lc (own := [("name", 5), ("parent", 6)]) (g := gTup K 2 (gCons (gName 5) (gCons (gName 6) gNil))) rfl sc_law_told.nd (pi_list (pv 1)) (blkOk_by (own := [("name", 5), ("parent", 6)]) (N := ["family", "pairs", "parents", "names", "told", "name", "parent"]) (sc := defScope s_law_told) (by decide +kernel)) (fun _ _ _ _ _ => pg_tup rfl (pgs_cons (pg_name (i := 5) sc_law_told.nd rfl (.inl rfl)) (pgs_cons (pg_name (i := 6) sc_law_told.nd rfl (.inl rfl)) pgs_nil))) (fun _ _ _ _ _ => pts_nil) (fun _ _ _ _ _ => (pv 5)))))
        (pss_cons (ps_set (i := 4) sc_law_told.nd rfl (.inl rfl) (pe_meth0 (pv 0) T.cl_Family ⟨T.o_Family_names, T.n_Family_names, T.F_Family_names.kp⟩ G_Family_names (hr.mono (by omega)) T.b_Family_names .nil pass0))
        (pss_cons (ps_if (PW.pt (pw_or (pt_not (pt_val (pe_callB call_isi (by rfl) T.m_isinstance (by decide +kernel) (pa_cons (pv 4) (pa_cons (pe_bltn (v := .ty "list") (by rfl) T.m_list (by decide +kernel) rfl) pa_nil))))) (pw_or (pt_cmpR (op_neD hr.units) (pv 4) (pv 3) (nomark _)) (pw_or1 (pt_cmpR op_ne (pe_callB (call_lenOwn T.o_Family___len__ T.n_Family___len__ (G_Family___len__.raw T.b_Family___len__ .nil) (hr.mono (by omega)) pass0) (by rfl) T.m_len (by decide +kernel) (pa_cons (pv 0) pa_nil)) (pe_callB call_len (by rfl) T.m_len (by decide +kernel) (pa_cons (pv 3) pa_nil)) (nomark _)))))) (pss_one (ps_ret pe_bl)) pss_nil)
        (pss_cons (ps_expr (pe_bm PySem.F.plainAttrs_list PySem.F.slot_list_append PySem.F.type_list_append mt_append (pv 4) (pa_cons pe_str pa_nil)))
        (pss_cons (ps_asg pe_str (pg_sub (pv 4) pe_int set_list))
        (pss_cons (ps_if (PW.pt (pw_or (pt_cmpR (op_neD hr.units) (pe_meth0 (pv 0) T.cl_Family ⟨T.o_Family_names, T.n_Family_names, T.F_Family_names.kp⟩ G_Family_names (hr.mono (by omega)) T.b_Family_names .nil pass0) (pv 3) (nomark _)) (pw_or1 (pt_not (pt_val (pe_callB call_isi (by rfl) T.m_isinstance (by decide +kernel) (pa_cons (pe_fld (pv 0) rfl) (pa_cons (pe_bltn (v := .ty "tuple") (by rfl) T.m_tuple (by decide +kernel) rfl) pa_nil)))))))) (pss_one (ps_ret pe_bl)) pss_nil)
        (pss_cons (ps_if (pt_cmpR (op_neD hr.units) (pe_fld (pv 0) rfl) (pe_callTy call_tuple_of (by rfl) T.m_tuple (by decide +kernel) (pa_cons (pe_lc (own := [("name", 5), ("parent", 6)]) (g := gTup K 2 (gCons (gName 5) (gCons (gName 6) gNil))) rfl sc_law_told.nd (pi_list (pv 1)) (blkOk_by (own := [("name", 5), ("parent", 6)]) (N := ["family", "pairs", "parents", "names", "told", "name", "parent"]) (sc := defScope s_law_told) (by decide +kernel)) (fun _ _ _ _ _ => pg_tup rfl (pgs_cons (pg_name (i := 5) sc_law_told.nd rfl (.inl rfl)) (pgs_cons (pg_name (i := 6) sc_law_told.nd rfl (.inl rfl)) pgs_nil))) (fun _ _ _ _ _ => pts_nil) (fun _ _ _ _ _ => (pe_tup (pa_cons (pv 5) (pa_cons (pe_dget (hu_of hr) (pv 2) (pv 5) (fun _ _ => rfl)) pa_nil))))) pa_nil)) (nomark _)) (pss_one (ps_ret pe_bl)) pss_nil)
        (pss_one (ps_ret (pe_callB (cr_all rfl) (by rfl) T.m_all (by decide +kernel) (pa_cons (pe_lc (own := [("name", 5)]) (g := gName 5) rfl sc_law_told.nd (pi_list (pv 3)) (blkOk_by (own := [("name", 5)]) (N := ["family", "pairs", "parents", "names", "told", "name", "parent"]) (sc := defScope s_law_told) (by decide +kernel)) (fun _ _ _ _ _ => pg_name (i := 5) sc_law_told.nd rfl (.inl rfl)) (fun _ _ _ _ _ => pts_nil) (fun _ _ _ _ _ => (pe_cmpR op_eq (pe_meth (pv 0) T.cl_Family ⟨T.o_Family_parent, T.n_Family_parent, T.F_Family_parent.kp⟩ G_Family_parent (hr.mono (by omega)) T.b_Family_parent .nil pass0 (pa_cons (pv 5) pa_nil)) (pe_dget (hu_of hr) (pv 2) (pv 5) (fun _ _ => rfl)) (nomark _)))) pa_nil)))))))))))), ?_⟩
    repeat (walk_at "lw w")
    refine ⟨pl, xs, ps, rfl, hpl, hpa, hok, fun d H1 nd ed S1 => ?_⟩
    repeat (walk_at "lw w")
    refine ⟨by walk_at "lw n", fun l1 nl1 => ?_⟩
    have S2 := S1.trans (same_new (o := .lst [.str (Str.ofString "Error"), .str (Str.ofString "Failed"), .str (Str.ofString "Misuse"), .str (Str.ofString "Beyond")]) nl1)
    have e1 : upd H1 l1 (.lst [.str (Str.ofString "Error"), .str (Str.ofString "Failed"), .str (Str.ofString "Misuse"), .str (Str.ofString "Beyond")]) l1 = some (.lst [.str (Str.ofString "Error"), .str (Str.ofString "Failed"), .str (Str.ofString "Misuse"), .str (Str.ofString "Beyond")]) := upd_same
    have ed := same_new (o := .lst [.str (Str.ofString "Error"), .str (Str.ofString "Failed"), .str (Str.ofString "Misuse"), .str (Str.ofString "Beyond")]) nl1 _ _ ed
    generalize upd H1 l1 (.lst [.str (Str.ofString "Error"), .str (Str.ofString "Failed"), .str (Str.ofString "Misuse"), .str (Str.ofString "Beyond")]) = H2 at *
    clear nl1 S1 nd
    have hlen := hpa.len
    have h45 := hok.1
    repeat (walk_at "lw w")
    refine ⟨⟨_, S2.seq hpl⟩, fun D nD => ?_⟩
    refine lc_list (K := K) (a := pl) (xs := xs) (fun i H3 => H3 D = some (.lst ((ps.take i).map fun q => V.str q.1)) ∧ Same H2 H3) ?_ ?_ ?_ ?_
    · exact ⟨upd_same, same_new nD⟩
    · rintro i H3 _ ⟨_, S3⟩
      exact S3.seq (S2.seq hpl)
    · rintro i x H3 ex ⟨eD, S3⟩
      obtain ⟨qq, pp, eq, rfl, hp⟩ := hpa.get ex
      have hp := SqT.same (S2.trans S3) hp
      have hi : i < ps.length := (List.getElem?_eq_some_iff.mp eq).1
      refine ⟨pp, _, rfl, hp, rfl, ?_⟩
      repeat (walk_at "lw w")
      refine ⟨_, eD, ?_, ?_, ?_⟩
      · rw [List.length_map, List.length_take]
        exact small1000 (by omega)
      · rw [upd_same, List.take_add_one, eq, List.map_append]
        rfl
      · intro q' o e
        rw [upd_ne (ne_of_none e nD)]
        exact S3 _ _ e
    · rintro H3 ⟨eD, S3⟩
      rw [hlen, List.take_length] at eD
      have e1 := S3 _ _ e1
      have ed := S3 _ _ ed
      have S3 := S2.trans S3
      clear S2 nD
      refine ⟨l1, D, _, _, rfl, rfl, e1, eD, ?_, fun nl nnl => ?_⟩
      · refine Nat.le_of_lt (small1000 ?_)
        rw [List.length_map]
        show 4 + ps.length ≤ 1000
        omega
      rw [names_cat]
      have en : upd H3 nl (.lst ((namesOf ps).map V.str)) nl = some (.lst ((namesOf ps).map V.str)) := upd_same
      have S4 := S3.trans (same_new (o := .lst ((namesOf ps).map V.str)) nnl)
      have ed := same_new (o := .lst ((namesOf ps).map V.str)) nnl _ _ ed
      generalize upd H3 nl (.lst ((namesOf ps).map V.str)) = H4 at *
      clear eD S3 nnl e1
      obtain ⟨dx, dd, tt, ts, h1, h2, h3, h4⟩ := hf.same S4
      repeat (walk_at "lw w")
      refine ⟨a, dx, _, rfl, h1, by rfl, a, famOf ps, rfl, hf.same S4, fun tl ntl => ?_⟩
      have S5 := S4.trans (same_new (o := .lst ((namesOf ps).map V.str)) ntl)
      have et : upd H4 tl (.lst ((namesOf ps).map V.str)) tl = some (.lst ((namesOf ps).map V.str)) := upd_same
      have en0 := en
      have ed0 := ed
      have ed := same_new (o := .lst ((namesOf ps).map V.str)) ntl _ _ ed
      have en := same_new (o := .lst ((namesOf ps).map V.str)) ntl _ _ en
      have h1 := same_new (o := .lst ((namesOf ps).map V.str)) ntl _ _ h1
      have h3 := same_new (o := .lst ((namesOf ps).map V.str)) ntl _ _ h3
      rw [show (famOf ps).map (·.1) = namesOf ps from rfl]
      generalize eH5 : upd H4 tl (.lst ((namesOf ps).map V.str)) = H5 at *
      clear eH5
      repeat (walk_at "lw w")
      refine ⟨_, _, _, _, true, rfl, .ty _, ty_lst et, kit_of2 true (by decide +kernel), ?_⟩
      have nf := names_fine hok
      refine ⟨_, rfl, ifF rfl ?_⟩
      repeat (walk_at "lw w")
      refine ⟨namesD ps, namesD ps, names_dp et, names_dp en, nf.2, nf.2, ?_⟩
      rw [eqv_fine nf.1]
      refine ⟨_, rfl, ifF rfl ?_⟩
      repeat (walk_at "lw w")
      refine ⟨a, dx, _, rfl, h1, a, famOf ps, rfl, hf.same S5, (famOf ps).length, rfl, by rw [famOf_len]; omega, ?_⟩
      repeat (walk_at "lw w")
      refine ifF (by rw [List.length_map, namesOf_len, famOf_len, decide_eq_true rfl]; rfl) ?_
      repeat (walk_at "lw w")
      refine ⟨.inl ⟨rfl, _, SqL.of et⟩, ?_⟩
      repeat (walk_at "lw w")
      refine ⟨tl, _, _, rfl, rfl, et, small1000 (by rw [List.length_map, namesOf_len]; omega), ?_⟩
      repeat (walk_at "lw w")
      refine ⟨tl, _, 0, 0, rfl, rfl, upd_same, ixN_zero (by rw [List.length_append]; exact Nat.lt_of_lt_of_le (Nat.zero_lt_one) (Nat.le_add_left _ _)), ?_⟩
      have ntl0 : H tl = none := S4.free ntl
      have ntnl : nl ≠ tl := ne_of_none en0 ntl
      have ntd : d ≠ tl := ne_of_none ed0 ntl
      have S6 : ∀ o1 o2 : HO, Same H (upd (upd H5 tl o1) tl o2) := fun o1 o2 q o e => by
        have n := ne_of_none e ntl0
        rw [upd_ne n, upd_ne n]
        exact S5 q o e
      have en6 : ∀ o1 o2 : HO, upd (upd H5 tl o1) tl o2 nl = some (.lst ((namesOf ps).map V.str)) := fun o1 o2 => by rw [upd_ne ntnl, upd_ne ntnl]; exact en
      have ed6 : ∀ o1 o2 : HO, upd (upd H5 tl o1) tl o2 d = some (.dK (kvOf (famOf ps))) := fun o1 o2 => by rw [upd_ne ntd, upd_ne ntd]; exact ed
      have S6 := S6 (.lst ((namesOf ps).map V.str ++ [V.str (Str.ofString "Zz")])) (.lst (((namesOf ps).map V.str ++ [V.str (Str.ofString "Zz")]).set 0 (V.str (Str.ofString "Aa"))))
      have en := en6 (.lst ((namesOf ps).map V.str ++ [V.str (Str.ofString "Zz")])) (.lst (((namesOf ps).map V.str ++ [V.str (Str.ofString "Zz")]).set 0 (V.str (Str.ofString "Aa"))))
      have ed := ed6 (.lst ((namesOf ps).map V.str ++ [V.str (Str.ofString "Zz")])) (.lst (((namesOf ps).map V.str ++ [V.str (Str.ofString "Zz")]).set 0 (V.str (Str.ofString "Aa"))))
      clear en6 ed6
      generalize upd (upd H5 tl (.lst ((namesOf ps).map V.str ++ [V.str (Str.ofString "Zz")]))) tl (.lst (((namesOf ps).map V.str ++ [V.str (Str.ofString "Zz")]).set 0 (V.str (Str.ofString "Aa")))) = H6 at *
      clear h1 h2 h3 h4 et S4 S5 en0 ed0 ntl ntnl ntd ntl0
      obtain ⟨dx, dd, tt, ts, h1, h2, h3, h4⟩ := hf.same S6
      repeat (walk_at "lw w")
      refine ⟨a, dx, _, rfl, h1, by rfl, a, famOf ps, rfl, hf.same S6, fun t2 nt2 => ?_⟩
      rw [show (famOf ps).map (·.1) = namesOf ps from rfl]
      have S7 := S6.trans (same_new (o := .lst ((namesOf ps).map V.str)) nt2)
      have et : upd H6 t2 (.lst ((namesOf ps).map V.str)) t2 = some (.lst ((namesOf ps).map V.str)) := upd_same
      have ed := same_new (o := .lst ((namesOf ps).map V.str)) nt2 _ _ ed
      have en := same_new (o := .lst ((namesOf ps).map V.str)) nt2 _ _ en
      clear h1 h2 h3 h4
      generalize upd H6 t2 (.lst ((namesOf ps).map V.str)) = H7 at *
      obtain ⟨dx, dd, tt, ts, h1, h2, h3, h4⟩ := hf.same S7
      repeat (walk_at "lw w")
      refine ⟨namesD ps, namesD ps, names_dp et, names_dp en, nf.2, nf.2, ?_⟩
      rw [eqv_fine nf.1]
      refine ⟨_, rfl, ifF rfl ?_⟩
      repeat (walk_at "lw w")
      refine ⟨a, _, dx, _, _, rfl, h1, T.cl_Family, T.nA_Family_declared, rfl, ?_⟩
      repeat (walk_at "lw w")
      refine ⟨a, _, dx, _, _, rfl, h1, T.cl_Family, T.nA_Family_declared, rfl, ?_⟩
      repeat (walk_at "lw w")
      refine ⟨⟨_, S7.seq hpl⟩, fun D2 nD2 => ?_⟩
      refine lc_list (K := K) (a := pl) (xs := xs) (fun i H3 => ∃ us : List Addr, H3 D2 = some (.lst (us.map V.ref)) ∧ Paired (fun (t : Addr) (q : Str × V) => H3 t = some (.tup [.str q.1, q.2])) us ((ps.take i).map fun q => (q.1, parV q.2)) ∧ Same H7 H3) ?_ ?_ ?_ ?_
      · exact ⟨[], upd_same, .nil, same_new nD2⟩
      · rintro i H3 _ ⟨us, _, _, S8⟩
        exact S8.seq (S7.seq hpl)
      · rintro i x H8 ex ⟨us, eD, pu, S8⟩
        obtain ⟨qq, pp, eq, rfl, hp⟩ := hpa.get ex
        have hp := SqT.same (S7.trans S8) hp
        have hi : i < ps.length := (List.getElem?_eq_some_iff.mp eq).1
        refine ⟨pp, _, rfl, hp, rfl, ?_⟩
        repeat (walk_at "lw w")
        have g : DGet H8 d (kV (.inr qq.1)) (some (parV qq.2)) := (fam_at hok eq) ▸ DGet.k (k := .inr qq.1) (S8 _ _ ed)
        refine ⟨d, _, rfl, g, ?_⟩
        repeat (walk_at "lw w")
        refine ⟨by walk_at "lw n", fun t nt => ?_⟩
        have nDt : D2 ≠ t := ne_of_none eD nt
        have lu : us.length = i := by
          have := paired_len pu
          rw [List.length_map, List.length_take] at this
          omega
        refine ⟨_, by rw [upd_ne nDt]; exact eD, ?_, us ++ [t], ?_, ?_, ?_⟩
        · rw [List.length_map]
          exact small1000 (by omega)
        · rw [upd_same, List.map_append]
          rfl
        · rw [List.take_add_one, eq, List.map_append]
          refine paired_snoc (pairs_tup (fun u l e => ?_) pu) ?_
          · rw [upd_ne (fun q => by rw [q, eD] at e; cases e), upd_ne (fun q => by rw [q, nt] at e; cases e)]
            exact e
          · show upd _ D2 _ t = _
            rw [upd_ne (Ne.symm nDt), upd_same]
        · intro q' o e
          rw [upd_ne (ne_of_none e nD2), upd_ne (ne_of_none (S8 _ _ e) nt)]
          exact S8 _ _ e
      · rintro H8 ⟨us, eD, pu, S8⟩
        rw [hlen, List.take_length] at pu
        repeat (walk_at "lw w")
        refine ⟨D2, _, rfl, .inl ⟨SqL.of eD, fun tp ntp => ?_⟩⟩
        have Sn := S8.trans (same_new (o := .tup (us.map V.ref)) ntp)
        have pu := pairs_same (same_new (o := .tup (us.map V.ref)) ntp) pu
        have etp : upd H8 tp (.tup (us.map V.ref)) tp = some (.tup (us.map V.ref)) := upd_same
        generalize upd H8 tp (.tup (us.map V.ref)) = H9 at *
        have S9 := S7.trans Sn
        have h3 := Sn _ _ h3
        have h4 := pairs_same Sn h4
        have en := Sn _ _ en
        have ed := Sn _ _ ed
        repeat (walk_at "lw w")
        refine ⟨declD (famOf ps), declD (famOf ps), .tup (SqT.of h3) (pairs_dp h4 (hok.fineL.drop 4)), .tup (SqT.of etp) (pairs_dp pu (hok.fineL.drop 4)), decl_shaped hok.fineL, decl_shaped hok.fineL, ?_⟩
        rw [eqv_fine (decl_fine hok.fineL)]
        refine ⟨_, rfl, ifF rfl ?_⟩
        clear eD pu S8 Sn h1 h2 h3 h4 etp
        repeat (walk_at "lw w")
        refine ⟨⟨_, SqL.of en⟩, fun D3 nD3 => ?_⟩
        refine lc_list (K := K) (a := nl) (xs := (namesOf ps).map V.str) (fun i H3 => H3 D3 = some (.lst ((List.replicate i true).map V.bl)) ∧ Same H9 H3) ?_ ?_ ?_ ?_
        · exact ⟨upd_same, same_new nD3⟩
        · rintro i H3 _ ⟨_, Sa⟩
          exact SqL.of (Sa _ _ en)
        · rintro i x H10 ex ⟨eD, Sa⟩
          obtain ⟨nm, hnm, rfl⟩ := List.mem_map.mp (List.mem_of_getElem? ex)
          have hi := (List.getElem?_eq_some_iff.mp ex).1
          rw [List.length_map, namesOf_len] at hi
          obtain ⟨v, hv⟩ := valV_some hnm
          obtain ⟨qv, hqv, rfl⟩ := valV_mem hv
          have vok := (hok.fineL.2 qv hqv).2
          have hf10 := hf.same (S9.trans Sa)
          obtain ⟨dx, dd, tt, ts, h1, h2, h3, h4⟩ := hf10
          repeat (walk_at "lw w")
          refine ⟨a, dx, _, rfl, h1, by rfl, ?_⟩
          repeat (walk_at "lw w")
          refine ⟨a, nm, qv.2, famOf ps, rfl, hf.same (S9.trans Sa), hv, ?_⟩
          have g : DGet H10 d (kV (.inr nm)) (some qv.2) := hv ▸ DGet.k (k := .inr nm) (Sa _ _ ed)
          repeat (walk_at "lw w")
          refine ⟨d, _, rfl, g, ?_⟩
          have fin : ∃ acc, H10 D3 = some (.lst acc) ∧ acc.length < sizeLine ∧ (upd H10 D3 (.lst (acc ++ [V.bl true])) D3 = some (.lst ((List.replicate (i + 1) true).map V.bl)) ∧ Same H9 (upd H10 D3 (.lst (acc ++ [V.bl true])))) := by
            refine ⟨_, eD, ?_, ?_, ?_⟩
            · rw [List.length_map, List.length_replicate]
              exact small1000 (by omega)
            · rw [upd_same, List.replicate_succ', List.map_append]
              rfl
            · intro q' o e
              rw [upd_ne (ne_of_none e nD3)]
              exact Sa _ _ e
          rcases vok with e | ⟨z, e, _⟩
          · rw [e]
            repeat (walk_at "lw w")
            exact fin
          · rw [e]
            repeat (walk_at "lw w")
            rw [decide_eq_true rfl]
            exact fin
        · rintro H10 ⟨eD, Sa⟩
          refine ⟨D3, List.replicate _ true, rfl, SqL.of eD, ?_⟩
          rw [rep_all]
          exact q _ (S9.trans Sa)
end
def isClsB : List Nat → Bool
  | [] => false
  | c :: cs => decide (cs.length ≤ 11) && (isUp c && cs.all fun x => isUp x || isLow x)
theorem isCls_of {z : Str} (h : isClsB z.cps.toList = true) : IsClass z := by
  cases e : z.cps.toList with
  | nil => rw [e] at h; cases h
  | cons c cs =>
    rw [e] at h
    unfold isClsB at h
    rw [Bool.and_eq_true, Bool.and_eq_true] at h
    exact ⟨c, cs, e, of_decide_eq_true h.1, h.2.1, h.2.2⟩
theorem names_class {ps : List (Str × V)} (h : ClassOk ps) : ∀ n ∈ namesOf ps, IsClass n := by
  intro n hn
  unfold namesOf famOf at hn
  rw [List.map_append, List.map_map] at hn
  rcases List.mem_append.mp hn with m | m
  · revert m
    simp only [first4, List.map_cons, List.map_nil, List.mem_cons, List.not_mem_nil, or_false]
    rintro (rfl | rfl | rfl | rfl) <;> exact isCls_of (by decide +kernel)
  · obtain ⟨y, hy, rfl⟩ := List.mem_map.mp m
    exact h y hy
theorem class_lower {z y : Str} (hz : IsClass z) (hy : IsClass y) : Txt.lower z ≠ y := by
  obtain ⟨c, cs, e, l, u, a⟩ := hz
  obtain ⟨c2, cs2, e2, l2, u2, a2⟩ := hy
  have hA : ∀ x ∈ z.cps.toList, x < 128 := by
    intro x hx
    rw [e] at hx
    have hb : (isUp x || isLow x) = true := by
      rcases List.mem_cons.mp hx with h | h
      · rw [h, u]
        rfl
      · exact List.all_eq_true.mp a x h
    unfold isLow isUp at hb
    rcases Bool.or_eq_true_iff.mp hb with h1 | h1
    · have h2 := of_decide_eq_true h1
      omega
    · have h2 := of_decide_eq_true h1
      omega
  rw [PyProof.Rows.lower_ascii hA]
  intro h
  have h0 : (z.cps.map PyProof.Rows.lo1).toList = y.cps.toList := by rw [← h]
  rw [Array.toList_map, e, e2, List.map_cons] at h0
  have h1 := (List.cons.inj h0).1
  unfold isUp at u u2
  have u := of_decide_eq_true u
  have u2 := of_decide_eq_true u2
  unfold PyProof.Rows.lo1 at h1
  rw [if_pos u] at h1
  omega
/-- a value that is no name -/
def PO (l : List Str) (H : Hp) (x : V) : Prop := (∃ z, x = .str z ∧ z ∉ l) ∨ (∃ a o, x = .ref a ∧ H a = some (.lst o)) ∨ (∃ a o, x = .ref a ∧ H a = some (.tup o)) ∨ x = .non ∨ (∃ i, x = .int i) ∨ ∃ b, x = .bl b
theorem PO.same {l : List Str} {H H' : Hp} {x : V} (h : PO l H x) (s : Same H H') : PO l H' x := by
  rcases h with h | ⟨a, o, e, h⟩ | ⟨a, o, e, h⟩ | h
  · exact .inl h
  · exact .inr (.inl ⟨a, o, e, s _ _ h⟩)
  · exact .inr (.inr (.inl ⟨a, o, e, s _ _ h⟩))
  · exact .inr (.inr (.inr h))
theorem po_put {l : List Str} {H : Hp} {x : V} {D : Addr} {p q : List V} (h : PO l H x) (e : H D = some (.lst p)) : PO l (upd H D (.lst q)) x := by
  rcases h with h | ⟨a, o, ea, h⟩ | ⟨a, o, ea, h⟩ | h
  · exact .inl h
  · by_cases n : a = D
    · exact .inr (.inl ⟨a, q, ea, by rw [n]; exact upd_same⟩)
    · exact .inr (.inl ⟨a, o, ea, by rw [upd_ne n]; exact h⟩)
  · exact .inr (.inr (.inl ⟨a, o, ea, by rw [upd_ne (fun n => by rw [n, e] at h; cases h)]; exact h⟩))
  · exact .inr (.inr (.inr h))
theorem PO.bag {l : List Str} {H H' : Hp} {x : V} {b : Addr} {n m : Int} (h : PO l H x) (hb : Bag H b n) (hb2 : Bag H' b m) (k : Keep b H H') : PO l H' x := by
  obtain ⟨x1, y1, z1, e1, _⟩ := hb
  obtain ⟨x2, y2, z2, e2, _⟩ := hb2
  rcases h with h | ⟨a, o, ea, h⟩ | ⟨a, o, ea, h⟩ | h
  · exact .inl h
  · by_cases n : a = b
    · exact .inr (.inl ⟨a, _, ea, by rw [n]; exact e2⟩)
    · exact .inr (.inl ⟨a, o, ea, k _ _ n h⟩)
  · exact .inr (.inr (.inl ⟨a, o, ea, k _ _ (fun n => by rw [n, e1] at h; cases h) h⟩))
  · exact .inr (.inr (.inr h))
theorem PO.ty {K : PySem.W.Frag} {l : List Str} {H : Hp} {x : V} (h : PO l H x) : ∃ tb, TyX K H x tb ∧ PySem.W.kitOne K tb (.type "str") = some (match (generalizing := false) x with | .str _ => true | _ => false) ∧ (match (generalizing := false) x with | .str z => decide (z ∈ l) | _ => false) = false := by
  rcases h with ⟨z, rfl, h⟩ | ⟨a, o, rfl, h⟩ | ⟨a, o, rfl, h⟩ | rfl | ⟨i, rfl⟩ | ⟨b, rfl⟩
  · exact ⟨_, ty_str, kit_of2 true (by decide +kernel), decide_eq_false h⟩
  · exact ⟨_, ty_lst h, kit_of2 false (by decide +kernel), rfl⟩
  · exact ⟨_, ty_tup h, kit_of2 false (by decide +kernel), rfl⟩
  · exact ⟨_, ty_non, kit_of2 false (by decide +kernel), rfl⟩
  · exact ⟨_, ty_int, kit_of2 false (by decide +kernel), rfl⟩
  · exact ⟨_, ty_bl, kit_of2 false (by decide +kernel), rfl⟩
def POL (l : List Str) (H : Hp) (D : Addr) (n : Nat) : Prop := ∃ acc : List V, H D = some (.lst acc) ∧ acc.length = n ∧ ∀ x ∈ acc, PO l H x
theorem PO.snoc {l : List Str} {H : Hp} {D : Addr} {acc : List V} {x : V} (e : H D = some (.lst acc)) (h : ∀ x ∈ acc, PO l H x) (hx : PO l H x) : POL l (upd H D (.lst (acc ++ [x]))) D (acc.length + 1) := by
  refine ⟨_, upd_same, by rw [List.length_append, List.length_singleton], fun y hy => ?_⟩
  rcases List.mem_append.mp hy with m | m
  · exact po_put (h y m) e
  · rw [List.mem_singleton.mp m]
    exact po_put hx e
theorem pol_same {l : List Str} {H H' : Hp} {D : Addr} {n : Nat} (h : POL l H D n) (s : Same H H') : POL l H' D n := by
  obtain ⟨acc, e, la, h⟩ := h
  exact ⟨acc, s _ _ e, la, fun x m => (h x m).same s⟩
theorem pol_cat {l : List Str} {H : Hp} {o : Addr} {as bs : List V} (no : H o = none) (h1 : ∀ x ∈ as, PO l H x) (h2 : ∀ x ∈ bs, PO l H x) : POL l (upd H o (.lst (as ++ bs))) o (as.length + bs.length) := by
  refine ⟨_, upd_same, List.length_append, fun x m => ?_⟩
  rcases List.mem_append.mp m with m | m
  · exact (h1 x m).same (same_new no)
  · exact (h2 x m).same (same_new no)
def SL (H : Hp) (D : Addr) (n : Nat) : Prop := ∃ zs : List Str, H D = some (.lst (zs.map V.str)) ∧ zs.length = n
theorem SL.same {H H' : Hp} {D : Addr} {n : Nat} (h : SL H D n) (s : Same H H') : SL H' D n := by
  obtain ⟨zs, e, l⟩ := h
  exact ⟨zs, s _ _ e, l⟩
theorem sl_snoc {H : Hp} {D : Addr} {zs : List Str} {z : Str} : SL (upd H D (.lst (zs.map V.str ++ [.str z]))) D (zs.length + 1) := ⟨zs ++ [z], by rw [upd_same, List.map_append]; rfl, by rw [List.length_append, List.length_singleton]⟩
theorem sl_cat {H : Hp} {o : Addr} {as bs : List Str} : SL (upd H o (.lst (as.map V.str ++ bs.map V.str))) o (as.length + bs.length) := ⟨as ++ bs, by rw [upd_same, List.map_append], List.length_append⟩
theorem pol_bag {l : List Str} {H H' : Hp} {D b : Addr} {n m : Int} {k : Nat} (h : POL l H D k) (ne : D ≠ b) (hb : Bag H b n) (hb2 : Bag H' b m) (kp : Keep b H H') : POL l H' D k := by
  obtain ⟨acc, e, la, h⟩ := h
  exact ⟨acc, kp _ _ ne e, la, fun x m => (h x m).bag hb hb2 kp⟩
theorem Bag.same {H H' : Hp} {b : Addr} {n : Int} (h : Bag H b n) (s : Same H H') : Bag H' b n := by
  obtain ⟨x, y, z, e, r⟩ := h
  exact ⟨x, y, z, s _ _ e, r⟩
theorem rep_any (n : Nat) : (List.replicate n false).any id = false := by
  rw [List.any_eq_false]
  intro x hx
  rw [List.eq_of_mem_replicate hx]
  exact Bool.false_ne_true
theorem FamAt.keep {C : Addr} {H H' : Hp} {a b : Addr} {n : Int} {l : List (Str × V)} (h : FamAt C H a l) (hb : Bag H b n) (k : Keep b H H') : FamAt C H' a l := by
  obtain ⟨dx, d, t, ts, h1, h2, h3, h4⟩ := h
  obtain ⟨x1, y1, z1, e1, _⟩ := hb
  exact ⟨dx, d, t, ts, k _ _ (fun n => by rw [n, e1] at h1; cases h1) h1, k _ _ (fun n => by rw [n, e1] at h2; cases h2) h2, k _ _ (fun n => by rw [n, e1] at h3; cases h3) h3, pairs_upd e1 k h4⟩
def sp_inside (K : PySem.W.Frag) (C : Addr) : Sp := fun vs H Q _ => ∃ (b a pl : Addr) (xs : List V) (ps : List (Str × V)) (n : Int), vs = [.ref b, .ref a, .ref pl] ∧ Bag H b n ∧ n ≤ 800000000 ∧ FamAt C H a (famOf ps) ∧ SqL K H pl xs ∧ PairsAt K H xs ps ∧ FamOk ps ∧ ClassOk ps ∧
  ∀ H', Bag H' b (n + 20) → Keep b H H' → Q (.bl true) H'
section
variable {P : Program} {w : World} {K : PySem.W.Frag} {mg : Str → Option Value} {base : Heap}
theorem ok_law_inside (T : Txt K mg) : FnOk P w K mg base CX0 4 T.f_law_inside T.fd_law_inside ["bag", "family", "pairs"] (sp_inside K T.C_Family) := by
  have G_law_class := ok_law_class (P := P) (w := w) (base := base) T
  have G_Family___contains__ := ok_Family___contains__ (P := P) (w := w) (base := base) T
  refine T.F_law_inside.ok sc_law_inside (fun vs H Q E h => ?_) (fun cdv A outer s H vs Q E hr h => ?_)
  · obtain ⟨b, a, pl, xs, ps, n, rfl, _⟩ := h
    rfl
  · obtain ⟨b, a, pl, xs, ps, n, rfl, hb, hn, hf, hpl, hpa, hok, hcl, q⟩ := h
    refine ⟨_, (pss_cons (ps_set (i := 3) sc_law_inside.nd rfl (.inr rfl) (pe_op op_cat (pe_lst (pa_cons pe_str (pa_cons pe_str (pa_cons pe_str (pa_cons pe_str pa_nil))))) (pe_lc (own := [("name", 6), ("parent", 7)]) (g := gTup K 2 (gCons (gName 6) (gCons (gName 7) gNil))) rfl sc_law_inside.nd (pi_list (pv 2)) (blkOk_by (own := [("name", 6), ("parent", 7)]) (N := ["bag", "family", "pairs", "names", "others", "strings", "name", "parent", "thing"]) (sc := defScope s_law_inside) (by decide +kernel)) (fun _ _ _ _ _ => pg_tup rfl (pgs_cons (pg_name (i := 6) sc_law_inside.nd rfl (.inl rfl)) (pgs_cons (pg_name (i := 7) sc_law_inside.nd rfl (.inl rfl)) pgs_nil))) (fun _ _ _ _ _ => pts_nil) (fun _ _ _ _ _ => (pv 6)))))
        (pss_cons (ps_set (i := 4) sc_law_inside.nd rfl (.inl rfl) (pe_op op_cat (pe_op op_cat (pe_lc (own := [("name", 6)]) (g := gName 6) rfl sc_law_inside.nd (pi_list (pv 3)) (blkOk_by (own := [("name", 6)]) (N := ["bag", "family", "pairs", "names", "others", "strings", "name", "parent", "thing"]) (sc := defScope s_law_inside) (by decide +kernel)) (fun _ _ _ _ _ => pg_name (i := 6) sc_law_inside.nd rfl (.inl rfl)) (fun _ _ _ _ _ => pts_nil) (fun _ _ _ _ _ => (pe_lower (pv 6)))) (pe_lc (own := [("name", 6)]) (g := gName 6) rfl sc_law_inside.nd (pi_list (pv 3)) (blkOk_by (own := [("name", 6)]) (N := ["bag", "family", "pairs", "names", "others", "strings", "name", "parent", "thing"]) (sc := defScope s_law_inside) (by decide +kernel)) (fun _ _ _ _ _ => pg_name (i := 6) sc_law_inside.nd rfl (.inl rfl)) (fun _ _ _ _ _ => pts_nil) (fun _ _ _ _ _ => (pe_tup (pa_cons (pv 6) pa_nil))))) (pe_lc (own := [("name", 6)]) (g := gName 6) rfl sc_law_inside.nd (pi_list (pv 3)) (blkOk_by (own := [("name", 6)]) (N := ["bag", "family", "pairs", "names", "others", "strings", "name", "parent", "thing"]) (sc := defScope s_law_inside) (by decide +kernel)) (fun _ _ _ _ _ => pg_name (i := 6) sc_law_inside.nd rfl (.inl rfl)) (fun _ _ _ _ _ => pts_nil) (fun _ _ _ _ _ => (pe_lst (pa_cons (pv 6) pa_nil))))))
        (pss_cons (ps_set (i := 5) sc_law_inside.nd rfl (.inl rfl) (pe_op op_cat (pe_op op_cat (pe_op op_cat (pv 3) (pe_lc (own := [("name", 6)]) (g := gName 6) rfl sc_law_inside.nd (pi_list (pv 3)) (blkOk_by (own := [("name", 6)]) (N := ["bag", "family", "pairs", "names", "others", "strings", "name", "parent", "thing"]) (sc := defScope s_law_inside) (by decide +kernel)) (fun _ _ _ _ _ => pg_name (i := 6) sc_law_inside.nd rfl (.inl rfl)) (fun _ _ _ _ _ => pts_nil) (fun _ _ _ _ _ => (pe_op op_add_str (pv 6) pe_str)))) (pe_lc (own := [("name", 6)]) (g := gName 6) rfl sc_law_inside.nd (pi_list (pv 3)) (blkOk_by (own := [("name", 6)]) (N := ["bag", "family", "pairs", "names", "others", "strings", "name", "parent", "thing"]) (sc := defScope s_law_inside) (by decide +kernel)) (fun _ _ _ _ _ => pg_name (i := 6) sc_law_inside.nd rfl (.inl rfl)) (fun _ _ _ _ _ => pts_nil) (fun _ _ _ _ _ => (pe_slice sl_str (pv 6) po_none (po_some (pe_un un_neg pe_int)))))) (pe_lst (pa_cons (pe_call G_law_class hr (by rfl) T.g_law_class T.F_law_class.kp T.b_law_class .nil pass0 (pa_cons (pv 0) pa_nil)) (pa_cons pe_str (pa_cons pe_str pa_nil))))))
        (pss_cons (ps_if (pt_val (pe_callB (cr_any rfl) (by rfl) T.m_any (by decide +kernel) (pa_cons (pe_lc (own := [("thing", 8)]) (g := gName 8) rfl sc_law_inside.nd (pi_list (pe_op op_cat (pv 4) (pe_lst (pa_cons pe_non (pa_cons pe_int (pa_cons pe_bl (pa_cons (pe_un un_neg pe_int) (pa_cons (pe_lst pa_nil) (pa_cons (pe_tup pa_nil) pa_nil))))))))) (blkOk_by (own := [("thing", 8)]) (N := ["bag", "family", "pairs", "names", "others", "strings", "name", "parent", "thing"]) (sc := defScope s_law_inside) (by decide +kernel)) (fun _ _ _ _ _ => pg_name (i := 8) sc_law_inside.nd rfl (.inl rfl)) (fun _ _ _ _ _ => pts_nil) (fun _ _ _ _ _ => (pe_cmpR op_notBl (pe_cmpR (op_inOwn T.o_Family___contains__ T.n_Family___contains__ (G_Family___contains__.raw T.b_Family___contains__ .nil) (hr.mono (by omega)) pass0) (pv 8) (pv 1) (by rfl)) pe_bl (nomark _)))) pa_nil))) (pss_one (ps_ret pe_bl)) pss_nil)
        (pss_one (ps_ret (pe_callB (cr_all rfl) (by rfl) T.m_all (by decide +kernel) (pa_cons (pe_lc (own := [("thing", 8)]) (g := gName 8) rfl sc_law_inside.nd (pi_list (pv 5)) (blkOk_by (own := [("thing", 8)]) (N := ["bag", "family", "pairs", "names", "others", "strings", "name", "parent", "thing"]) (sc := defScope s_law_inside) (by decide +kernel)) (fun _ _ _ _ _ => pg_name (i := 8) sc_law_inside.nd rfl (.inl rfl)) (fun _ _ _ _ _ => pts_nil) (fun _ _ _ _ _ => (pe_cmpR op_eq (pe_cmpR (op_inOwn T.o_Family___contains__ T.n_Family___contains__ (G_Family___contains__.raw T.b_Family___contains__ .nil) (hr.mono (by omega)) pass0) (pv 8) (pv 1) (by rfl)) (pe_cmpR (show OpR _ (compareOp .In) (rIn K false) from op_in_seq) (pv 8) (pv 3) (by rfl)) (nomark _)))) pa_nil)))))))), ?_⟩
    have hlen := hpa.len
    have h45 := hok.1
    have hnl45 := namesOf_len ps
    have hml : ((namesOf ps).map V.str).length = 4 + ps.length := by rw [List.length_map, hnl45]
    have hcn := names_class hcl
    repeat (walk_at "lw w")
    refine ⟨by walk_at "lw n", fun l1 nl1 => ?_⟩
    have S2 := (same_new (o := .lst [.str (Str.ofString "Error"), .str (Str.ofString "Failed"), .str (Str.ofString "Misuse"), .str (Str.ofString "Beyond")]) nl1)
    have e1 : upd H l1 (.lst [.str (Str.ofString "Error"), .str (Str.ofString "Failed"), .str (Str.ofString "Misuse"), .str (Str.ofString "Beyond")]) l1 = some (.lst [.str (Str.ofString "Error"), .str (Str.ofString "Failed"), .str (Str.ofString "Misuse"), .str (Str.ofString "Beyond")]) := upd_same
    generalize upd H l1 (.lst [.str (Str.ofString "Error"), .str (Str.ofString "Failed"), .str (Str.ofString "Misuse"), .str (Str.ofString "Beyond")]) = H2 at *
    clear nl1
    repeat (walk_at "lw w")
    refine ⟨⟨_, S2.seq hpl⟩, fun D nD => ?_⟩
    refine lc_list (K := K) (a := pl) (xs := xs) (fun i H3 => H3 D = some (.lst ((ps.take i).map fun q => V.str q.1)) ∧ Same H2 H3) ?_ ?_ ?_ ?_
    · exact ⟨upd_same, same_new nD⟩
    · rintro i H3 _ ⟨_, S3⟩
      exact S3.seq (S2.seq hpl)
    · rintro i x H3 ex ⟨eD, S3⟩
      obtain ⟨qq, pp, eq, rfl, hp⟩ := hpa.get ex
      have hp := SqT.same (S2.trans S3) hp
      have hi : i < ps.length := (List.getElem?_eq_some_iff.mp eq).1
      refine ⟨pp, _, rfl, hp, rfl, ?_⟩
      repeat (walk_at "lw w")
      refine ⟨_, eD, ?_, ?_, ?_⟩
      · rw [List.length_map, List.length_take]
        exact small1000 (by omega)
      · rw [upd_same, List.take_add_one, eq, List.map_append]
        rfl
      · intro q' o e
        rw [upd_ne (ne_of_none e nD)]
        exact S3 _ _ e
    · rintro H3 ⟨eD, S3⟩
      rw [hlen, List.take_length] at eD
      have e1 := S3 _ _ e1
      have S3 := S2.trans S3
      clear S2 nD
      refine ⟨l1, D, _, _, rfl, rfl, e1, eD, ?_, fun nl nnl => ?_⟩
      · refine Nat.le_of_lt (small1000 ?_)
        rw [List.length_map]
        show 4 + ps.length ≤ 1000
        omega
      rw [names_cat]
      have en : upd H3 nl (.lst ((namesOf ps).map V.str)) nl = some (.lst ((namesOf ps).map V.str)) := upd_same
      have S4 := S3.trans (same_new (o := .lst ((namesOf ps).map V.str)) nnl)
      have nnl0 : H nl = none := S3.free nnl
      generalize upd H3 nl (.lst ((namesOf ps).map V.str)) = H4 at *
      clear eD S3 nnl e1
      repeat (walk_at "lw w")
      refine ⟨⟨_, SqL.of en⟩, fun D1 nD1 => ?_⟩
      refine lc_list (K := K) (a := nl) (xs := (namesOf ps).map V.str) (fun i H3 => POL (namesOf ps) H3 D1 i ∧ Same H4 H3) ?_ ?_ ?_ ?_
      · exact ⟨⟨[], upd_same, rfl, fun x h => by cases h⟩, same_new nD1⟩
      · rintro i H3 _ ⟨_, Sa⟩
        exact SqL.of (Sa _ _ en)
      · rintro i x H5 ex ⟨⟨acc, eD, la, hacc⟩, Sa⟩
        obtain ⟨nm, hnm, rfl⟩ := List.mem_map.mp (List.mem_of_getElem? ex)
        have hi := (List.getElem?_eq_some_iff.mp ex).1
        have hc := (hcn nm hnm).facts.2.1
        refine ⟨rfl, ?_⟩
        repeat (walk_at "lw w")
        refine ⟨(show nm.length ≤ 5592405 by omega), ?_⟩
        refine ⟨acc, eD, small1000 (by omega), ?_, ?_⟩
        · rw [← la]
          exact PO.snoc eD hacc (.inl ⟨_, rfl, fun m => class_lower (hcn nm hnm) (hcn _ m) rfl⟩)
        · intro q' o e
          rw [upd_ne (ne_of_none e nD1)]
          exact Sa _ _ e
      · rintro H5 ⟨hA, Sa⟩
        have en := Sa _ _ en
        have S5 := S4.trans Sa
        clear S4 Sa nD1
        repeat (walk_at "lw w")
        refine ⟨⟨_, SqL.of en⟩, fun D2 nD2 => ?_⟩
        refine lc_list (K := K) (a := nl) (xs := (namesOf ps).map V.str) (fun i H3 => POL (namesOf ps) H3 D2 i ∧ Same H5 H3) ?_ ?_ ?_ ?_
        · exact ⟨⟨[], upd_same, rfl, fun x h => by cases h⟩, same_new nD2⟩
        · rintro i H3 _ ⟨_, Sa⟩
          exact SqL.of (Sa _ _ en)
        · rintro i x H6 ex ⟨⟨acc, eD, la, hacc⟩, Sa⟩
          obtain ⟨nm, hnm, rfl⟩ := List.mem_map.mp (List.mem_of_getElem? ex)
          have hi := (List.getElem?_eq_some_iff.mp ex).1
          refine ⟨rfl, ?_⟩
          repeat (walk_at "lw w")
          refine ⟨by walk_at "lw n", fun t nt => ?_⟩
          have eD' := same_new (o := .tup [.str nm]) nt _ _ eD
          refine ⟨acc, eD', small1000 (by omega), ?_, ?_⟩
          · rw [← la]
            exact PO.snoc eD' (fun x m => (hacc x m).same (same_new nt)) (.inr (.inr (.inl ⟨t, _, rfl, upd_same⟩)))
          · intro q' o e
            rw [upd_ne (ne_of_none e nD2)]
            exact same_new nt _ _ (Sa _ _ e)
        · rintro H6 ⟨hB, Sb⟩
          have en := Sb _ _ en
          have S6 := S5.trans Sb
          obtain ⟨acA, eA, lA, hA⟩ := pol_same hA Sb
          obtain ⟨acB, eB, lB, hB⟩ := hB
          rw [hml] at lA lB
          clear S5 Sb nD2
          refine ⟨D1, D2, _, _, rfl, rfl, eA, eB, Nat.le_of_lt (small1000 (by omega)), fun o1 no1 => ?_⟩
          have hO := pol_cat no1 hA hB
          rw [lA, lB] at hO
          have S7 := S6.trans (same_new (o := .lst (acA ++ acB)) no1)
          have en := same_new (o := .lst (acA ++ acB)) no1 _ _ en
          generalize upd H6 o1 (.lst (acA ++ acB)) = H7 at *
          clear eA eB hA hB S6 no1 lA lB acA acB
          repeat (walk_at "lw w")
          refine ⟨⟨_, SqL.of en⟩, fun D3 nD3 => ?_⟩
          refine lc_list (K := K) (a := nl) (xs := (namesOf ps).map V.str) (fun i H3 => POL (namesOf ps) H3 D3 i ∧ Same H7 H3) ?_ ?_ ?_ ?_
          · exact ⟨⟨[], upd_same, rfl, fun x h => by cases h⟩, same_new nD3⟩
          · rintro i H3 _ ⟨_, Sa⟩
            exact SqL.of (Sa _ _ en)
          · rintro i x H8 ex ⟨⟨acc, eD, la, hacc⟩, Sa⟩
            obtain ⟨nm, hnm, rfl⟩ := List.mem_map.mp (List.mem_of_getElem? ex)
            have hi := (List.getElem?_eq_some_iff.mp ex).1
            refine ⟨rfl, ?_⟩
            repeat (walk_at "lw w")
            refine ⟨by walk_at "lw n", fun t nt => ?_⟩
            have eD' := same_new (o := .lst [.str nm]) nt _ _ eD
            refine ⟨acc, eD', small1000 (by omega), ?_, ?_⟩
            · rw [← la]
              exact PO.snoc eD' (fun x m => (hacc x m).same (same_new nt)) (.inr (.inl ⟨t, _, rfl, upd_same⟩))
            · intro q' o e
              rw [upd_ne (ne_of_none e nD3)]
              exact same_new nt _ _ (Sa _ _ e)
          · rintro H8 ⟨hC, Sc⟩
            have en := Sc _ _ en
            have S8 := S7.trans Sc
            obtain ⟨acA, eA, lA, hA⟩ := pol_same hO Sc
            obtain ⟨acB, eB, lB, hB⟩ := hC
            rw [hml] at lB
            clear S7 Sc nD3 hO
            refine ⟨o1, D3, _, _, rfl, rfl, eA, eB, Nat.le_of_lt (small1000 (by omega)), fun ol nol => ?_⟩
            have hO := pol_cat nol hA hB
            rw [lA, lB] at hO
            have nol0 : H ol = none := S8.free nol
            have S9 := S8.trans (same_new (o := .lst (acA ++ acB)) nol)
            have en := same_new (o := .lst (acA ++ acB)) nol _ _ en
            generalize upd H8 ol (.lst (acA ++ acB)) = H9 at *
            clear eA eB hA hB S8 nol lA lB acA acB
            repeat (walk_at "lw w")
            refine ⟨⟨_, SqL.of en⟩, fun D4 nD4 => ?_⟩
            refine lc_list (K := K) (a := nl) (xs := (namesOf ps).map V.str) (fun i H3 => SL H3 D4 i ∧ Same H9 H3) ?_ ?_ ?_ ?_
            · exact ⟨⟨[], upd_same, rfl⟩, same_new nD4⟩
            · rintro i H3 _ ⟨_, Sa⟩
              exact SqL.of (Sa _ _ en)
            · rintro i x H10 ex ⟨⟨zs, eD, la⟩, Sa⟩
              obtain ⟨nm, hnm, rfl⟩ := List.mem_map.mp (List.mem_of_getElem? ex)
              have hi := (List.getElem?_eq_some_iff.mp ex).1
              have hc := (hcn nm hnm).facts.2.1
              refine ⟨rfl, ?_⟩
              repeat (walk_at "lw w")
              refine ⟨by have := PySem.sizeLine_eq; have l1 : (Str.ofString "x").length = 1 := by decide +kernel
                         rw [l1]; omega, ?_⟩
              refine ⟨_, eD, small1000 (by rw [List.length_map]; omega), by rw [← la]; exact sl_snoc, ?_⟩
              intro q' o e
              rw [upd_ne (ne_of_none e nD4)]
              exact Sa _ _ e
            · rintro H10 ⟨⟨zs, eD, la⟩, Sa⟩
              rw [hml] at la
              have en := Sa _ _ en
              have hO := pol_same hO Sa
              have S10 := S9.trans Sa
              clear S9 Sa nD4
              refine ⟨nl, D4, _, _, rfl, rfl, en, eD, Nat.le_of_lt (small1000 (by rw [List.length_map, List.length_map]; omega)), fun o5 no5 => ?_⟩
              have hS : SL (upd H10 o5 (.lst ((namesOf ps).map V.str ++ zs.map V.str))) o5 _ := sl_cat
              rw [hnl45, la] at hS
              have S11 := S10.trans (same_new (o := .lst ((namesOf ps).map V.str ++ zs.map V.str)) no5)
              have en := same_new (o := .lst ((namesOf ps).map V.str ++ zs.map V.str)) no5 _ _ en
              have hO := pol_same hO (same_new (o := .lst ((namesOf ps).map V.str ++ zs.map V.str)) no5)
              generalize upd H10 o5 (.lst ((namesOf ps).map V.str ++ zs.map V.str)) = H11 at *
              clear eD S10 no5 la zs
              repeat (walk_at "lw w")
              refine ⟨⟨_, SqL.of en⟩, fun D5 nD5 => ?_⟩
              refine lc_list (K := K) (a := nl) (xs := (namesOf ps).map V.str) (fun i H3 => SL H3 D5 i ∧ Same H11 H3) ?_ ?_ ?_ ?_
              · exact ⟨⟨[], upd_same, rfl⟩, same_new nD5⟩
              · rintro i H3 _ ⟨_, Sa⟩
                exact SqL.of (Sa _ _ en)
              · rintro i x H12 ex ⟨⟨zs, eD, la⟩, Sa⟩
                obtain ⟨nm, hnm, rfl⟩ := List.mem_map.mp (List.mem_of_getElem? ex)
                have hi := (List.getElem?_eq_some_iff.mp ex).1
                have hc := (hcn nm hnm).facts.2.1
                refine ⟨rfl, ?_⟩
                repeat (walk_at "lw w")
                refine ⟨by have := PySem.sizeLine_eq; omega, ?_⟩
                refine ⟨_, eD, small1000 (by rw [List.length_map]; omega), by rw [← la]; exact sl_snoc, ?_⟩
                intro q' o e
                rw [upd_ne (ne_of_none e nD5)]
                exact Sa _ _ e
              · rintro H12 ⟨hE, Sa⟩
                obtain ⟨zs, eD, la⟩ := hE
                rw [hml] at la
                have en := Sa _ _ en
                have hO := pol_same hO Sa
                obtain ⟨ys, eS, ly⟩ := hS.same Sa
                have S12 := S11.trans Sa
                clear S11 Sa nD5 hS
                refine ⟨o5, D5, _, _, rfl, rfl, eS, eD, Nat.le_of_lt (small1000 (by rw [List.length_map, List.length_map]; omega)), fun o6 no6 => ?_⟩
                have hS : SL (upd H12 o6 (.lst (ys.map V.str ++ zs.map V.str))) o6 _ := sl_cat
                rw [ly, la] at hS
                have no60 : H o6 = none := S12.free no6
                have S13 := S12.trans (same_new (o := .lst (ys.map V.str ++ zs.map V.str)) no6)
                have en := same_new (o := .lst (ys.map V.str ++ zs.map V.str)) no6 _ _ en
                have hO := pol_same hO (same_new (o := .lst (ys.map V.str ++ zs.map V.str)) no6)
                generalize upd H12 o6 (.lst (ys.map V.str ++ zs.map V.str)) = H13 at *
                clear eD eS S12 no6 la ly zs ys
                repeat (walk_at "lw w")
                have hb13 := hb.same S13
                refine ⟨b, n, rfl, hb13, by omega, fun z H14 hz hB14 hK14 => ?_⟩
                have nb : ∀ q, H q = none → q ≠ b := fun q h e => by
                  obtain ⟨o, ho⟩ := hb.has
                  rw [← e, h] at ho
                  cases ho
                have en := hK14 _ _ (nb _ nnl0) en
                obtain ⟨ss, eS, lS⟩ := hS
                have eS := hK14 _ _ (nb _ no60) eS
                have hO := pol_bag hO (nb _ nol0) hb13 hB14 hK14
                have hf := (hf.same S13).keep hb13 hK14
                have K14 : Keep b H H14 := fun q o n e => hK14 q o n (S13 q o e)
                clear S13 hb13 hK14 nnl0 nol0 no60 nb hpl hpa
                repeat (walk_at "lw w")
                refine ⟨by walk_at "lw n", fun l6 nl6 => ?_⟩
                have S15 := same_new (o := .lst [.str z, .str (Str.ofString ""), .str (Str.ofString "error")]) nl6
                have e6 : upd H14 l6 (.lst [.str z, .str (Str.ofString ""), .str (Str.ofString "error")]) l6 = some (.lst ([z, Str.ofString "", Str.ofString "error"].map V.str)) := upd_same
                generalize upd H14 l6 (.lst [.str z, .str (Str.ofString ""), .str (Str.ofString "error")]) = H15 at *
                have eS := S15 _ _ eS
                refine ⟨o6, l6, _, _, rfl, rfl, eS, e6, Nat.le_of_lt (small1000 (by rw [List.length_map]; show ss.length + 3 ≤ 1000; omega)), fun sl nsl => ?_⟩
                have hS : SL (upd H15 sl (.lst (ss.map V.str ++ [z, Str.ofString "", Str.ofString "error"].map V.str))) sl _ := sl_cat
                rw [lS] at hS
                have S16 := S15.trans (same_new (o := .lst (ss.map V.str ++ [z, Str.ofString "", Str.ofString "error"].map V.str)) nsl)
                generalize upd H15 sl (.lst (ss.map V.str ++ [z, Str.ofString "", Str.ofString "error"].map V.str)) = H16 at *
                clear eS S15 nsl lS e6 nl6
                repeat (walk_at "lw w")
                refine ⟨by walk_at "lw n", fun q1 nq1 => ?_⟩
                repeat (walk_at "lw w")
                refine ⟨by walk_at "lw n", fun q2 nq2 => ?_⟩
                repeat (walk_at "lw w")
                refine ⟨by walk_at "lw n", fun l7 nl7 => ?_⟩
                repeat (walk_at "lw w")
                have S17 : Same H16 (upd (upd (upd H16 q1 (.lst [])) q2 (.tup [])) l7 (.lst [V.non, V.int 0, V.bl true, V.int (-1), V.ref q1, V.ref q2])) := ((same_new nq1).trans (same_new nq2)).trans (same_new nl7)
                have e7 : (upd (upd (upd H16 q1 (.lst [])) q2 (.tup [])) l7 (.lst [V.non, V.int 0, V.bl true, V.int (-1), V.ref q1, V.ref q2])) l7 = some (.lst [V.non, V.int 0, V.bl true, V.int (-1), V.ref q1, V.ref q2]) := upd_same
                have eq1 : (upd (upd (upd H16 q1 (.lst [])) q2 (.tup [])) l7 (.lst [V.non, V.int 0, V.bl true, V.int (-1), V.ref q1, V.ref q2])) q1 = some (.lst []) := same_new nl7 _ _ (same_new nq2 _ _ upd_same)
                have eq2 : (upd (upd (upd H16 q1 (.lst [])) q2 (.tup [])) l7 (.lst [V.non, V.int 0, V.bl true, V.int (-1), V.ref q1, V.ref q2])) q2 = some (.tup []) := same_new nl7 _ _ upd_same
                generalize upd (upd (upd H16 q1 (.lst [])) q2 (.tup [])) l7 (.lst [V.non, V.int 0, V.bl true, V.int (-1), V.ref q1, V.ref q2]) = H17 at *
                have hB : ∀ x ∈ [V.non, V.int 0, V.bl true, V.int (-1), V.ref q1, V.ref q2], PO (namesOf ps) H17 x := by
                  simp only [List.mem_cons, List.not_mem_nil, or_false]
                  rintro x (rfl | rfl | rfl | rfl | rfl | rfl)
                  · exact .inr (.inr (.inr (.inl rfl)))
                  · exact .inr (.inr (.inr (.inr (.inl ⟨_, rfl⟩))))
                  · exact .inr (.inr (.inr (.inr (.inr ⟨_, rfl⟩))))
                  · exact .inr (.inr (.inr (.inr (.inl ⟨_, rfl⟩))))
                  · exact .inr (.inl ⟨_, _, rfl, eq1⟩)
                  · exact .inr (.inr (.inl ⟨_, _, rfl, eq2⟩))
                obtain ⟨acA, eA, lA, hA⟩ := pol_same hO (S16.trans S17)
                refine ⟨ol, l7, _, _, rfl, rfl, eA, e7, Nat.le_of_lt (small1000 (by show acA.length + 6 ≤ 1000; omega)), fun o9 no9 => ?_⟩
                have hO := pol_cat no9 hA hB
                have S18 := (S16.trans S17).trans (same_new (o := .lst (acA ++ [V.non, V.int 0, V.bl true, V.int (-1), V.ref q1, V.ref q2])) no9)
                have hS := (hS.same S17).same (same_new (o := .lst (acA ++ [V.non, V.int 0, V.bl true, V.int (-1), V.ref q1, V.ref q2])) no9)
                generalize upd H17 o9 (.lst (acA ++ [V.non, V.int 0, V.bl true, V.int (-1), V.ref q1, V.ref q2])) = H18 at *
                have en := S18 _ _ en
                have hf := hf.same S18
                have K18 : Keep b H H18 := fun q o n e => S18 _ _ (K14 q o n e)
                have B18 := hB14.same S18
                clear S16 S17 nq1 nq2 nl7 e7 eq1 eq2 eA hA hB no9 S18
                obtain ⟨acc, eO, lO, hO⟩ := hO
                obtain ⟨ss, eS, lS⟩ := hS
                have hacc : acc.length ≤ 300 := by
                  rw [lO, lA]
                  show _ + 6 ≤ 300
                  omega
                have hss : ss.length ≤ 300 := by
                  rw [lS]
                  show _ + 3 ≤ 300
                  omega
                repeat (walk_at "lw w")
                refine ⟨⟨_, SqL.of eO⟩, fun D8 nD8 => ?_⟩
                refine lc_list (K := K) (a := o9) (xs := acc) (fun i H3 => H3 D8 = some (.lst ((List.replicate i false).map V.bl)) ∧ Same H18 H3) ?_ ?_ ?_ ?_
                · exact ⟨upd_same, same_new nD8⟩
                · rintro i H3 _ ⟨_, Sa⟩
                  exact SqL.of (Sa _ _ eO)
                · rintro i x H19 ex ⟨eD, Sa⟩
                  have hi := (List.getElem?_eq_some_iff.mp ex).1
                  obtain ⟨tb, ty, kt, hm⟩ := ((hO x (List.mem_of_getElem? ex)).same Sa).ty (K := K)
                  have hf19 := hf.same Sa
                  obtain ⟨dx, dd, tt, ts, h1, h2, h3, h4⟩ := hf.same Sa
                  repeat (walk_at "lw w")
                  refine ⟨a, dx, _, rfl, h1, a, x, tb, famOf ps, rfl, hf19, ty, kt, false, congrArg V.bl hm, ?_⟩
                  refine ⟨false, false, rfl, rfl, ?_⟩
                  refine ⟨_, eD, small1000 (by rw [List.length_map, List.length_replicate]; omega), ?_, ?_⟩
                  · rw [upd_same, List.replicate_succ', List.map_append]
                    rfl
                  · intro q' o e
                    rw [upd_ne (ne_of_none e nD8)]
                    exact Sa _ _ e
                · rintro H19 ⟨eD, Sa⟩
                  refine ⟨D8, List.replicate _ false, rfl, SqL.of eD, ?_⟩
                  rw [rep_any]
                  have en := Sa _ _ en
                  have hf := hf.same Sa
                  have K19 : Keep b H H19 := fun q o n e => Sa _ _ (K18 q o n e)
                  have B19 := B18.same Sa
                  have eS := Sa _ _ eS
                  clear eD Sa nD8 eO hO
                  refine ⟨_, rfl, ifF rfl ?_⟩
                  repeat (walk_at "lw w")
                  refine ⟨⟨_, SqL.of eS⟩, fun D9 nD9 => ?_⟩
                  refine lc_list (K := K) (a := sl) (xs := ss.map V.str) (fun i H3 => H3 D9 = some (.lst ((List.replicate i true).map V.bl)) ∧ Same H19 H3) ?_ ?_ ?_ ?_
                  · exact ⟨upd_same, same_new nD9⟩
                  · rintro i H3 _ ⟨_, Sa⟩
                    exact SqL.of (Sa _ _ eS)
                  · rintro i x H20 ex ⟨eD, Sa⟩
                    have hi := (List.getElem?_eq_some_iff.mp ex).1
                    rw [List.length_map] at hi
                    obtain ⟨z1, _, rfl⟩ := List.mem_map.mp (List.mem_of_getElem? ex)
                    have hf19 := hf.same Sa
                    obtain ⟨dx, dd, tt, ts, h1, h2, h3, h4⟩ := hf.same Sa
                    have en := Sa _ _ en
                    repeat (walk_at "lw w")
                    refine ⟨a, dx, _, rfl, h1, a, .str z1, .type "str", famOf ps, rfl, hf19, ty_str, kit_of2 true (by decide +kernel), decide (z1 ∈ namesOf ps), rfl, ?_⟩
                    repeat (walk_at "lw w")
                    refine ⟨nl, _, rfl, .inl (SqL.of en), rfl, flat_names _, ?_⟩
                    rw [inV_names]
                    refine ⟨rfl, ?_⟩
                    rw [decide_eq_true rfl]
                    refine ⟨_, eD, small1000 (by rw [List.length_map, List.length_replicate]; omega), ?_, ?_⟩
                    · rw [upd_same, List.replicate_succ', List.map_append]
                      rfl
                    · intro q' o e
                      rw [upd_ne (ne_of_none e nD9)]
                      exact Sa _ _ e
                  · rintro H20 ⟨eD, Sa⟩
                    refine ⟨D9, List.replicate _ true, rfl, SqL.of eD, ?_⟩
                    rw [rep_all]
                    exact q _ ((B19.same Sa).mono (by omega)) fun q o n e => Sa _ _ (K19 q o n e)
end

theorem seq1 {t1 t2 : TS} {D : Ends} {σ : L2.St} {H : Hp} (Mid : L2.St → Hp → Prop) (h : ∀ σ' H', Mid σ' H' → t2 D σ' H') (k : ∀ nx : L2.St → Hp → Prop, (∀ σ' H', Mid σ' H' → nx σ' H') → t1 { D with nx := nx } σ H) : tSeq t1 t2 D σ H := k (t2 D) h
theorem FamAt.keepL {C : Addr} {H H' : Hp} {a b : Addr} {xs : List V} {l : List (Str × V)} (h : FamAt C H a l) (e : H b = some (.lst xs)) (k : Keep b H H') : FamAt C H' a l := by
  obtain ⟨dx, d, t, ts, h1, h2, h3, h4⟩ := h
  exact ⟨dx, d, t, ts, k _ _ (fun n => by rw [n, e] at h1; cases h1) h1, k _ _ (fun n => by rw [n, e] at h2; cases h2) h2, k _ _ (fun n => by rw [n, e] at h3; cases h3) h3, pairs_upd e k h4⟩
theorem PL.keepL {H H' : Hp} {b pl : Addr} {xs : List V} {ps : List (Str × V)} (h : PL H pl ps) (ne : pl ≠ b) (e : H b = some (.lst xs)) (k : Keep b H H') : PL H' pl ps := by
  obtain ⟨ts, h1, h2⟩ := h
  exact ⟨ts, k _ _ ne h1, pairs_upd e k h2⟩
theorem cut1 {xs : List V} : cutV xs (some 1) none = xs.drop 1 := by
  have e1 : HT.sIx xs.length 0 (some 1) = min 1 xs.length := by
    unfold HT.sIx
    simp
  have e2 : HT.sIx xs.length xs.length none = xs.length := rfl
  unfold cutV
  rw [e1, e2]
  cases xs with
  | nil => rfl
  | cons x r =>
    rw [show min 1 (x :: r).length = 1 by rw [List.length_cons]; omega]
    exact List.take_of_length_le (by rw [List.length_drop]; exact Nat.le_refl _)
theorem famok_head {q0 : Str × V} {ps : List (Str × V)} (h : FamOk (q0 :: ps)) : FamOk ((q0.1, .non) :: ps) := by
  refine ⟨h.1, fun i nm v e => ?_⟩
  cases i with
  | zero =>
    have e : (q0.1, V.non) = (nm, v) := Option.some.inj e
    cases e
    obtain ⟨o1, o2, o3, o4, _⟩ := h.2 0 q0.1 q0.2 rfl
    exact ⟨o1, o2, o3, o4, .inl rfl⟩
  | succ j => exact h.2 (j + 1) nm v e
theorem made2 {K : PySem.W.Frag} {C : Addr} {H : Hp} {pl : Addr} {xs : List V} {ps : List (Str × V)} {E : XK} (hpl : H pl = some (.lst xs) ∨ H pl = some (.tup xs)) (hp : PairsAt K H xs ps) (ok : FamOk ps) (x dx : Addr) (nx : H x = none) (ndx : H dx = none) (ne : dx ≠ x) (R : VK)
    (q : ∀ H' : Hp, FamAt C H' x (famOf ps) → Same H H' → R .non H') : sp_finit K C [.ref x, .ref pl] (upd (upd H dx (.own x)) x (.ins C dx [])) R E := by
  have nx2 : (upd H dx (.own x)) x = none := by rw [upd_ne (Ne.symm ne)]; exact nx
  have S : Same H (upd (upd H dx (.own x)) x (.ins C dx [])) := (same_new ndx).trans (same_new nx2)
  refine ⟨x, pl, dx, xs, ps, rfl, upd_same, ?_, hp.same S, ok, fun H' f k => q H' f fun z o e => k z o (fun h => by rw [h, nx] at e; cases e) (S z o e)⟩
  rcases hpl with h | h
  · exact ⟨_, S _ _ h, .inl rfl⟩
  · exact ⟨_, S _ _ h, .inr rfl⟩
/-- the pairs of the cell -/
def Mid1 (H : Hp) (a b : Addr) (σ : L2.St) (H' : Hp) : Prop := ∃ (pl : Addr) (ps : List (Str × V)) (u1 u4 u5 u6 u7 u8 u9 : Option V), σ = [some (.ref a), u1, some (.ref b), some (.ref pl), u4, u5, u6, u7, u8, u9] ∧
  PL H' pl ps ∧ FamOk ps ∧ ClassOk ps ∧ pl ≠ b ∧ Bag H' b 3000 ∧ Same H H'
def Mid2 (H : Hp) (a b : Addr) (σ : L2.St) (H' : Hp) : Prop := ∃ (pl rl : Addr) (ps rs : List (Str × V)) (u1 u5 u6 u7 u8 u9 : Option V), σ = [some (.ref a), u1, some (.ref b), some (.ref pl), some (.ref rl), u5, u6, u7, u8, u9] ∧
  PL H' pl ps ∧ FamOk ps ∧ ClassOk ps ∧ PL H' rl rs ∧ FamOk rs ∧ pl ≠ b ∧ rl ≠ b ∧ Bag H' b 9000 ∧ Same H H'
section
variable {P : Program} {w : World} {K : PySem.W.Frag} {mg : Str → Option Value} {base : Heap}
theorem ok_law (T : Txt K mg) {f : Addr} {fd : FuncData} (F : Fun K "law" "law" s_law f fd) : FnOk P w K mg base CX0 8 f fd ["script"] (spLaw K) := by
  have G_law_bag := ok_law_bag (P := P) (w := w) (base := base) T
  have G_law_take := ok_law_take (P := P) (w := w) (base := base) T
  have G_law_of := ok_law_of (P := P) (w := w) (base := base) T
  have G_law_wide_family := ok_law_wide_family (P := P) (w := w) (base := base) T
  have G_law_long_family := ok_law_long_family (P := P) (w := w) (base := base) T
  have G_law_told := ok_law_told (P := P) (w := w) (base := base) T
  have G_law_inside := ok_law_inside (P := P) (w := w) (base := base) T
  have G_Family___init__ := ok_Family___init__ (P := P) (w := w) (base := base) T
  have G_Family___eq__ := ok_Family___eq__ (P := P) (w := w) (base := base) T
  have G_Family___len__ := ok_Family___len__ (P := P) (w := w) (base := base) T
  have G_Family_plain := ok_Family_plain (P := P) (w := w) (base := base) T
  refine F.ok sc_law (fun vs H Q E h => ?_) (fun cdv A outer s H vs Q E hr h => ?_)
  · obtain ⟨b, ns, rfl, _⟩ := h
    rfl
  · obtain ⟨a, ns, rfl, hS, hlen, _, q⟩ := h
    refine ⟨_, (pss_cons (ps_for PassesOwn.never rfl (pi_range1 (by rfl) T.m_range (pa_cons (pe_callB (call_max2 rfl) (by rfl) T.m_max (by decide +kernel) (pa_cons pe_int (pa_cons (pe_callB (call_min2 rfl) (by rfl) T.m_min (by decide +kernel) (pa_cons pe_int (pa_cons (pe_callB call_len (by rfl) T.m_len (by decide +kernel) (pa_cons (pv 0) pa_nil)) pa_nil))) pa_nil))) pa_nil)) (pg_name (i := 1) sc_law.nd rfl (.inl rfl)) (pss_cons (ps_set (i := 2) sc_law.nd rfl (.inl rfl) (pe_call G_law_bag (hr.mono (by omega)) (by rfl) T.g_law_bag T.F_law_bag.kp T.b_law_bag .nil pass0 (pa_cons (pv 0) (pa_cons (pv 1) pa_nil))))
        (pss_cons (ps_set (i := 3) sc_law.nd rfl (.inl rfl) (pe_call G_law_wide_family (hr.mono (by omega)) (by rfl) T.g_law_wide_family T.F_law_wide_family.kp T.b_law_wide_family .nil pass0 (pa_cons (pv 2) (pa_cons (pe_ifExp (pt_cmpR op_eq (pv 1) pe_int (nomark _)) (pe_call G_law_of (hr.mono (by omega)) (by rfl) T.g_law_of T.F_law_of.kp T.b_law_of .nil pass0 (pa_cons (pv 2) (pa_cons (pe_lst (pa_cons pe_int (pa_cons pe_int pa_nil))) pa_nil))) pe_int) pa_nil))))
        (pss_cons (ps_set (i := 4) sc_law.nd rfl (.inl rfl) (pe_call G_law_long_family (hr.mono (by omega)) (by rfl) T.g_law_long_family T.F_law_long_family.kp T.b_law_long_family .nil pass0 (pa_cons (pv 2) pa_nil)))
        (pss_cons (ps_if (pt_cmpR op_eq (pe_call G_law_take (hr.mono (by omega)) (by rfl) T.g_law_take T.F_law_take.kp T.b_law_take .nil pass0 (pa_cons (pv 2) (pa_cons pe_int pa_nil))) pe_int (nomark _)) (pss_cons (ps_setLc (i := 4) (own := [("pair", 9)]) (g := gName 9) rfl sc_law.nd rfl rfl (sw_true rfl rfl rfl (by decide +kernel)) (pi_list (pv 3)) (blkOk_by (own := [("pair", 9)]) (N := ["script", "at", "bag", "pairs", "rest", "handed", "family", "other", "is_same", "pair"]) (sc := defScope s_law) (by decide +kernel)) (fun _ _ _ _ _ => pg_name (i := 9) sc_law.nd rfl (.inl rfl)) (fun _ _ _ _ _ => pts_nil) (fun _ _ _ _ _ => (pv 9)))
        (pss_one (ps_if (PW.pt (pw_and (pt_cmpR (op_neD hr.units) (pv 4) (pe_lst pa_nil) (nomark _)) (pw_and1 (pt_cmpR op_eq (pe_call G_law_take (hr.mono (by omega)) (by rfl) T.g_law_take T.F_law_take.kp T.b_law_take .nil pass0 (pa_cons (pv 2) (pa_cons pe_int pa_nil))) pe_int (nomark _))))) (pss_one (ps_set (i := 4) sc_law.nd rfl (.inl rfl) (pe_op op_cat (pe_lst (pa_cons (pe_tup (pa_cons (pe_ix ix_seq (pe_ix ix_seq (pv 4) pe_int (fun _ _ => rfl)) pe_int (fun _ _ => rfl)) (pa_cons pe_non pa_nil))) pa_nil)) (pe_slice sl_list (pv 4) (po_some pe_int) po_none)))) pss_nil))) pss_nil)
        (pss_cons (ps_setLc (i := 5) (own := [("pair", 9)]) (g := gName 9) rfl sc_law.nd rfl rfl (sw_true rfl rfl rfl (by decide +kernel)) (pi_list (pv 3)) (blkOk_by (own := [("pair", 9)]) (N := ["script", "at", "bag", "pairs", "rest", "handed", "family", "other", "is_same", "pair"]) (sc := defScope s_law) (by decide +kernel)) (fun _ _ _ _ _ => pg_name (i := 9) sc_law.nd rfl (.inl rfl)) (fun _ _ _ _ _ => pts_nil) (fun _ _ _ _ _ => (pv 9)))
        (pss_cons (ps_par (i := 6) (j := 7) (by rfl) sc_law.nd rfl rfl (by decide) rfl rfl (pa_cons (pe_make T.mk_Family G_Family___init__ (hr.mono (by omega)) (by rfl) T.gC_Family T.b_Family___init__ .nil pass0 (pa_cons (pv 5) pa_nil)) (pa_cons (pe_make T.mk_Family G_Family___init__ (hr.mono (by omega)) (by rfl) T.gC_Family T.b_Family___init__ .nil pass0 (pa_cons (pe_callTy call_tuple_of (by rfl) T.m_tuple (by decide +kernel) (pa_cons (pv 4) pa_nil)) pa_nil)) pa_nil)) (by rfl))
        (pss_cons (ps_expr (pe_bm PySem.F.plainAttrs_list PySem.F.slot_list_append PySem.F.type_list_append mt_append (pv 5) (pa_cons (pe_tup (pa_cons pe_str (pa_cons pe_non pa_nil))) pa_nil)))
        (pss_cons (ps_if (PW.pt (pw_or (pt_not (pt_val (pe_call G_law_told (hr.mono (by omega)) (by rfl) T.g_law_told T.F_law_told.kp T.b_law_told .nil pass0 (pa_cons (pv 6) (pa_cons (pv 3) pa_nil))))) (pw_or (pt_not (pt_val (pe_call G_law_told (hr.mono (by omega)) (by rfl) T.g_law_told T.F_law_told.kp T.b_law_told .nil pass0 (pa_cons (pv 7) (pa_cons (pv 4) pa_nil))))) (pw_or1 (pt_not (pt_val (pe_call G_law_told (hr.mono (by omega)) (by rfl) T.g_law_told T.F_law_told.kp T.b_law_told .nil pass0 (pa_cons (pv 6) (pa_cons (pv 3) pa_nil))))))))) (pss_one (ps_ret pe_bl)) pss_nil)
        (pss_cons (ps_if (pt_not (pt_val (pe_call G_law_inside (hr.mono (by omega)) (by rfl) T.g_law_inside T.F_law_inside.kp T.b_law_inside .nil pass0 (pa_cons (pv 2) (pa_cons (pv 6) (pa_cons (pv 3) pa_nil)))))) (pss_one (ps_ret pe_bl)) pss_nil)
        (pss_cons (ps_set (i := 8) sc_law.nd rfl (.inl rfl) (pe_cmpR (op_eqD hr.units) (pe_fld (pv 6) rfl) (pe_fld (pv 7) rfl) (nomark _)))
        (pss_cons (ps_if (PW.pt (pw_or (pt_cmpR op_ne (pe_cmpR (op_eqOwn T.o_Family___eq__ T.n_Family___eq__ (G_Family___eq__.raw T.b_Family___eq__ .nil) (hr.mono (by omega)) pass0) (pv 6) (pv 7) (nomark _)) (pv 8) (nomark _)) (pw_or (pt_cmpR op_ne (pe_cmpR (op_eqOwn T.o_Family___eq__ T.n_Family___eq__ (G_Family___eq__.raw T.b_Family___eq__ .nil) (hr.mono (by omega)) pass0) (pv 7) (pv 6) (nomark _)) (pv 8) (nomark _)) (pw_or1 (pt_cmpR (op_neOwn T.o_Family___eq__ T.n_Family___eq__ T.tp_Family.ne T.tp_Family.top (G_Family___eq__.raw T.b_Family___eq__ .nil) (hr.mono (by omega)) pass0) (pv 6) (pe_make T.mk_Family G_Family___init__ (hr.mono (by omega)) (by rfl) T.gC_Family T.b_Family___init__ .nil pass0 (pa_cons (pv 3) pa_nil)) (nomark _)))))) (pss_one (ps_ret pe_bl)) pss_nil)
        (pss_one (ps_if (PW.pt (pw_or (pt_cmpR (op_eqOwn T.o_Family___eq__ T.n_Family___eq__ (G_Family___eq__.raw T.b_Family___eq__ .nil) (hr.mono (by omega)) pass0) (pv 6) (pe_fld (pv 6) rfl) (nomark _)) (pw_or (pt_cmpR (op_eqOwn T.o_Family___eq__ T.n_Family___eq__ (G_Family___eq__.raw T.b_Family___eq__ .nil) (hr.mono (by omega)) pass0) (pv 6) (pv 3) (nomark _)) (pw_or (pt_cmpR (op_neOwn T.o_Family___eq__ T.n_Family___eq__ T.tp_Family.ne T.tp_Family.top (G_Family___eq__.raw T.b_Family___eq__ .nil) (hr.mono (by omega)) pass0) (pe_smeth0 (pe_glob (v := .ref T.C_Family) rfl T.gC_Family rfl) T.tp_Family.ty T.tp_Family.cr T.sm_Family_plain T.sr_Family_plain T.F_Family_plain.kp (G_Family_plain.raw T.b_Family_plain .nil) (hr.mono (by omega)) pass0) (pe_make T.mk_Family G_Family___init__ (hr.mono (by omega)) (by rfl) T.gC_Family T.b_Family___init__ .nil pass0 (pa_cons (pe_tup pa_nil) pa_nil)) (nomark _)) (pw_or1 (pt_cmpR op_ne (pe_callB (call_lenOwn T.o_Family___len__ T.n_Family___len__ (G_Family___len__.raw T.b_Family___len__ .nil) (hr.mono (by omega)) pass0) (by rfl) T.m_len (by decide +kernel) (pa_cons (pe_smeth0 (pe_glob (v := .ref T.C_Family) rfl T.gC_Family rfl) T.tp_Family.ty T.tp_Family.cr T.sm_Family_plain T.sr_Family_plain T.F_Family_plain.kp (G_Family_plain.raw T.b_Family_plain .nil) (hr.mono (by omega)) pass0) pa_nil)) pe_int (nomark _))))))) (pss_one (ps_ret pe_bl)) pss_nil))))))))))))))
        (pss_one (ps_ret pe_bl))), ?_⟩
    repeat (walk_at "lw w")
    refine ⟨by (repeat' split) <;> omega, by (repeat' split) <;> omega, ?_⟩
    refine for_range (lo := 0) (n := _) (fun i σ H' => Same H H' ∧ ∃ t1 t2 t3 t4 t5 t6 t7 t8 t9 : Option V, σ = [some (.ref a), t1, t2, t3, t4, t5, t6, t7, t8, t9]) ?_ ?_ ?_
    · exact ⟨Same.refl _, none, none, none, none, none, none, none, none, none, rfl⟩
    · rintro i σ H0 hi ⟨S0, t1, t2, t3, t4, t5, t6, t7, t8, t9, rfl⟩
      have hi2 : (i : Int) ≤ 8 := by
        revert hi
        (repeat' split) <;> omega
      clear hi
      repeat (walk_at "lw w")
      refine ⟨a, ns, _, rfl, S0.seq hS, hlen, by omega, by omega, fun b H1 nb B1 S1' => ?_⟩
      have S1 : Same H H1 := S0.trans S1'
      have nb0 : H b = none := S0.free nb
      have hbo := B1.has
      clear S0 S1' nb
      refine seq1 (fun σ' H' => H' = H1 ∧ σ' = [some (.ref a), some (.int (0 + i)), some (.ref b), t3, t4, t5, t6, t7, t8, t9]) ?_ (fun nx hnx => hnx _ _ ⟨rfl, rfl⟩)
      rintro σ' H' ⟨rfl, rfl⟩
      have nbx : ∀ q, H' q = none → q ≠ b := fun q h e => by
        obtain ⟨o, ho⟩ := hbo
        rw [← e, h] at ho
        cases ho
      refine seq1 (Mid1 H a b) ?_ ?_
      · rintro σ' G ⟨pl, ps, u1, u4, u5, u6, u7, u8, u9, rfl, hPL, hok, hcl, npb, BG, SG⟩
        clear S1 nbx B1 hbo
        have hbo := BG.has
        repeat (walk_at "lw w")
        refine ⟨b, _, rfl, BG, by omega, fun rl rs G1 nrl rPL rok rcl BG1 KG1 => ?_⟩
        have hPL := hPL.keep npb BG KG1
        have SG := keep_same SG nb0 KG1
        have nrb : rl ≠ b := fun e => by
          obtain ⟨o, ho⟩ := hbo
          rw [← e, nrl] at ho
          cases ho
        clear BG KG1 hbo nrl
        have BG := BG1
        refine seq1 (fun σ' H' => H' = G1 ∧ σ' = [some (.ref a), u1, some (.ref b), some (.ref pl), some (.ref rl), u5, u6, u7, u8, u9]) ?_ (fun nx hnx => hnx _ _ ⟨rfl, rfl⟩)
        rintro σ' G1 ⟨rfl, rfl⟩
        refine seq1 (Mid2 H a b) ?_ ?_
        · rintro σ' G ⟨pl, rl, ps, rs, u1, u5, u6, u7, u8, u9, rfl, hPL, hok, hcl, rPL, rok, npb, nrb, BG, SG⟩
          repeat (walk_at "lw w")
          obtain ⟨ts, ep, pts⟩ := hPL
          have hts := paired_len pts
          have h45 := hok.1
          refine ⟨⟨_, SqL.of ep⟩, fun D nD => ?_⟩
          refine lc_list (K := K) (a := pl) (xs := ts.map V.ref) (fun i H3 => H3 D = some (.lst ((ts.take i).map V.ref)) ∧ Same G H3) ?_ ?_ ?_ ?_
          · exact ⟨upd_same, same_new nD⟩
          · rintro i H3 _ ⟨_, S3⟩
            exact SqL.of (S3 _ _ ep)
          · rintro i x H3 ex ⟨eD, S3⟩
            have hi := (List.getElem?_eq_some_iff.mp ex).1
            rw [List.length_map] at hi
            refine ⟨rfl, ?_⟩
            repeat (walk_at "lw w")
            refine ⟨_, eD, small1000 (by rw [List.length_map, List.length_take]; omega), ?_, ?_⟩
            · rw [upd_same, List.map_take, List.map_take, List.take_add_one, ex]
              rfl
            · intro q' o e
              rw [upd_ne (ne_of_none e nD)]
              exact S3 _ _ e
          · rintro G3 ⟨eD, S3⟩
            rw [List.length_map, List.take_length] at eD
            have nbx : ∀ q, G q = none → q ≠ b := fun q h e => by
              obtain ⟨o, ho⟩ := BG.has
              rw [← e, h] at ho
              cases ho
            have hDb := nbx D nD
            have hDp : pl ≠ D := ne_of_none ep nD
            obtain ⟨tr, er, ptr⟩ := rPL
            have hDr : rl ≠ D := ne_of_none er nD
            have SD0 : H D = none := SG.free nD
            have S3' := SG.trans S3
            have hPL : PL G3 pl ps := ⟨ts, S3 _ _ ep, pairs_same S3 pts⟩
            have rPL : PL G3 rl rs := ⟨tr, S3 _ _ er, pairs_same S3 ptr⟩
            have dPL : PL G3 D ps := ⟨ts, eD, pairs_same S3 pts⟩
            have BG := BG.same S3
            have SG := S3'
            clear S3 S3' ep er pts ptr nbx nD eD
            repeat (walk_at "lw w")
            obtain ⟨td, ed, pd⟩ := dPL
            have htd := paired_len pd
            intro fa dxa nfa ndxa nea
            refine made2 (.inl ed) (PL.at pd) hok fa dxa nfa ndxa nea _ fun G4 ffa S4 => ⟨rfl, ?_⟩
            have nfab : fa ≠ b := fun e => by
              obtain ⟨o, ho⟩ := BG.has
              rw [← e, nfa] at ho
              cases ho
            have ed := S4 _ _ ed
            have hPL := hPL.same S4
            obtain ⟨tr, er, ptr⟩ := rPL.same S4
            have BG4 := BG.same S4
            have SG := SG.trans S4
            clear rPL BG S4 nfa pd
            repeat (walk_at "lw w")
            refine ⟨rl, _, rfl, .inl ⟨SqL.of er, fun tp ntp => ?_⟩⟩
            have Sn := same_new (o := .tup (tr.map V.ref)) ntp
            have etp : upd G4 tp (.tup (tr.map V.ref)) tp = some (.tup (tr.map V.ref)) := upd_same
            generalize upd G4 tp (.tup (tr.map V.ref)) = G5 at *
            repeat (walk_at "lw w")
            intro oa dxo noa ndxo neo
            refine made2 (.inr etp) (PL.at (pairs_same Sn ptr)) rok oa dxo noa ndxo neo _ fun G6 foa S6 => ⟨rfl, ?_⟩
            have Sn := Sn.trans S6
            have ed := Sn _ _ ed
            have hPL := hPL.same Sn
            have rPL : PL G6 rl rs := ⟨tr, Sn _ _ er, pairs_same Sn ptr⟩
            have BG6 := BG4.same Sn
            have ffa := ffa.same Sn
            have SG := SG.trans Sn
            clear BG4 Sn etp ntp S6 noa er ptr
            refine ⟨_, _, rfl, ?_⟩
            repeat (walk_at "lw w")
            refine ⟨.inl ⟨rfl, _, SqL.of ed⟩, ?_⟩
            repeat (walk_at "lw w")
            refine ⟨by walk_at "lw n", fun tz ntz => ?_⟩
            have Dtz : D ≠ tz := ne_of_none ed ntz
            repeat (walk_at "lw w")
            refine ⟨D, _, _, rfl, rfl, by rw [upd_ne Dtz]; exact ed, small1000 (by rw [List.length_map]; omega), ?_⟩
            have K7 : Keep D G6 (upd (upd G6 tz (.tup [.str (Str.ofString "Zz"), .non])) D (.lst (td.map V.ref ++ [.ref tz]))) := (Keep.new ntz).trans (Keep.upd _ _ _)
            generalize upd (upd G6 tz (.tup [.str (Str.ofString "Zz"), .non])) D (.lst (td.map V.ref ++ [.ref tz])) = G7 at *
            have hPL := hPL.keepL hDp ed K7
            have rPL := rPL.keepL hDr ed K7
            have ffa := ffa.keepL ed K7
            have foa := foa.keepL ed K7
            have BG7 : Bag G7 b 9000 := by
              obtain ⟨x, y, z, e, r⟩ := BG6
              exact ⟨x, y, z, K7 _ _ (Ne.symm hDb) e, r⟩
            have SG : Same H G7 := fun q o e => K7 _ _ (ne_of_none e SD0) (SG _ _ e)
            clear K7 BG6 ed Dtz ntz
            have tyf : ∀ {Hx : Hp}, FamAt T.C_Family Hx oa (famOf rs) → True := fun _ => trivial
            clear tyf
            repeat (walk_at "lw w")
            obtain ⟨ts, ep, pts⟩ := hPL
            obtain ⟨tr, er, ptr⟩ := rPL
            refine ⟨fa, pl, _, ps, rfl, ffa, SqL.of ep, PL.at pts, hok, fun G8 S8 => ?_⟩
            refine ⟨_, rfl, ifF rfl ?_⟩
            repeat (walk_at "lw w")
            refine ⟨oa, rl, _, rs, rfl, foa.same S8, SqL.of (S8 _ _ er), PL.at (pairs_same S8 ptr), rok, fun G9 S9 => ?_⟩
            refine ⟨_, rfl, ifF rfl ?_⟩
            repeat (walk_at "lw w")
            have S9 := S8.trans S9
            refine ⟨fa, pl, _, ps, rfl, ffa.same S9, SqL.of (S9 _ _ ep), PL.at (pairs_same S9 pts), hok, fun G10 S10 => ?_⟩
            refine ⟨_, rfl, ifF rfl ?_⟩
            have S10 := S9.trans S10
            have ffa := ffa.same S10
            have foa := foa.same S10
            have hPL : PL G10 pl ps := PL.same ⟨ts, ep, pts⟩ S10
            have rPL : PL G10 rl rs := PL.same ⟨tr, er, ptr⟩ S10
            have BG := BG7.same S10
            have SG := SG.trans S10
            clear ep pts er ptr S8 S9 S10 BG7
            obtain ⟨ts, ep, pts⟩ := hPL
            repeat (walk_at "lw w")
            refine ⟨b, fa, pl, _, ps, _, rfl, BG, by omega, ffa, SqL.of ep, PL.at pts, hok, hcl, fun G11 BG11 K11 => ?_⟩
            have ffa := ffa.keep BG K11
            have foa := foa.keep BG K11
            have hPL := PL.keep ⟨ts, ep, pts⟩ npb BG K11
            have SG := keep_same SG nb0 K11
            clear ep pts rPL BG BG11 K11
            repeat (walk_at "lw w")
            have ffa' := ffa
            have foa' := foa
            obtain ⟨dx, dd, tt, us, h1, h2, h3, h4⟩ := ffa
            obtain ⟨dx2, dd2, tt2, us2, g1, g2, g3, g4⟩ := foa
            refine ⟨fa, _, dx, _, _, rfl, h1, T.cl_Family, T.nA_Family_declared, rfl, ?_⟩
            repeat (walk_at "lw w")
            refine ⟨oa, _, dx2, _, _, rfl, g1, T.cl_Family, T.nA_Family_declared, rfl, ?_⟩
            repeat (walk_at "lw w")
            refine ⟨declD (famOf ps), declD (famOf rs), .tup (SqT.of h3) (pairs_dp h4 (hok.fineL.drop 4)), .tup (SqT.of g3) (pairs_dp g4 (rok.fineL.drop 4)), decl_shaped hok.fineL, decl_shaped rok.fineL, ?_⟩
            repeat (walk_at "lw w")
            refine ⟨fa, dx, _, .ref T.C_Family, rfl, h1, .inl (FamAt.tyX T foa'), T.tp_Family.f1, fa, .ref oa, famOf ps, rfl, ffa', hok.fineL, .inl ⟨oa, famOf rs, rfl, foa', rok.fineL, ?_⟩⟩
            repeat (walk_at "lw w")
            refine ifF (by rw [decide_eq_true rfl]; rfl) ?_
            repeat (walk_at "lw w")
            refine ⟨oa, dx2, _, .ref T.C_Family, rfl, g1, .inl (FamAt.tyX T ffa'), T.tp_Family.f1, oa, .ref fa, famOf rs, rfl, foa', rok.fineL, .inl ⟨fa, famOf ps, rfl, ffa', hok.fineL, ?_⟩⟩
            rw [PySem.W.eqv_comm (declD (famOf rs)) (declD (famOf ps))]
            repeat (walk_at "lw w")
            refine ifF (by rw [decide_eq_true rfl]; rfl) ?_
            clear g1 g2 g3 g4 foa'
            obtain ⟨ts, ep, pts⟩ := hPL
            repeat (walk_at "lw w")
            intro xa dxa nxa ndxa nea
            refine made2 (.inl ep) (PL.at pts) hok xa dxa nxa ndxa nea _ fun G12 fx S12 => ⟨rfl, ?_⟩
            have ffa := ffa'.same S12
            have ep := S12 _ _ ep
            have SG := SG.trans S12
            refine ⟨fa, dx, _, .ref T.C_Family, rfl, S12 _ _ h1, .inl (FamAt.tyX T fx), T.tp_Family.f1, fa, .ref xa, famOf ps, rfl, ffa, hok.fineL, .inl ⟨xa, famOf ps, rfl, fx, hok.fineL, _, rfl, ?_⟩⟩
            rw [eqv_fine (decl_fine hok.fineL)]
            refine ⟨_, rfl, ifF rfl ?_⟩
            clear S12 fx nxa ndxa nea ffa' h1 h2 h3 h4 pts
            have ffa' := ffa
            obtain ⟨dx, dd, tt, us, h1, h2, h3, h4⟩ := ffa
            repeat (walk_at "lw w")
            refine ⟨fa, _, dx, _, _, rfl, h1, T.cl_Family, T.nA_Family_declared, rfl, ?_⟩
            repeat (walk_at "lw w")
            refine ⟨fa, dx, _, .type "tuple", rfl, h1, .inl (ty_tup h3), T.tp_Family.f3, fa, .ref tt, famOf ps, rfl, ffa', hok.fineL, .inr ⟨.type "tuple", ty_tup h3, T.tp_Family.k3, ?_⟩⟩
            refine ⟨_, rfl, ifF rfl ?_⟩
            repeat (walk_at "lw w")
            refine ⟨fa, dx, _, .type "list", rfl, h1, .inl (ty_lst ep), T.tp_Family.f2, fa, .ref pl, famOf ps, rfl, ffa', hok.fineL, .inr ⟨.type "list", ty_lst ep, T.tp_Family.k2, ?_⟩⟩
            refine ⟨_, rfl, ifF rfl ?_⟩
            clear h1 h2 h3 h4 ffa' ep
            repeat (walk_at "lw w")
            intro pa G13 _ fpa S13
            have SG := SG.trans S13
            repeat (walk_at "lw w")
            refine ⟨by walk_at "lw n", fun tq ntq => ?_⟩
            have fpa := fpa.same (same_new (o := .tup []) ntq)
            have SG := SG.trans (same_new (o := .tup []) ntq)
            intro xq dxq nxq ndxq neq
            refine made2 (.inr upd_same) .nil famok_nil xq dxq nxq ndxq neq _ fun G14 fx S14 => ⟨rfl, ?_⟩
            have fpa := fpa.same S14
            have SG := SG.trans S14
            have fpa' := fpa
            obtain ⟨dx, dd, tt, us, h1, h2, h3, h4⟩ := fpa
            refine ⟨pa, dx, _, .ref T.C_Family, rfl, h1, .inl (FamAt.tyX T fx), T.tp_Family.f1, pa, .ref xq, famOf [], rfl, fpa', famok_nil.fineL, .inl ⟨xq, famOf [], rfl, fx, famok_nil.fineL, _, rfl, ?_⟩⟩
            rw [eqv_fine (decl_fine famok_nil.fineL)]
            refine ⟨_, rfl, ifF rfl ?_⟩
            clear h1 h2 h3 h4 fpa' fx
            repeat (walk_at "lw w")
            intro pb G15 _ fpb S15
            have SG := SG.trans S15
            have fpb' := fpb
            obtain ⟨dx, dd, tt, us, h1, h2, h3, h4⟩ := fpb
            repeat (walk_at "lw w")
            refine ⟨pb, dx, _, rfl, h1, pb, famOf [], rfl, fpb', 4, rfl, by decide, ?_⟩
            repeat (walk_at "lw w")
            refine ifF (by first | rfl | decide | decide +kernel) ?_
            exact ⟨SG, _, _, _, _, _, _, _, _, _, rfl⟩
        · intro nx hnx
          repeat (walk_at "lw w")
          refine ⟨b, 3, _, rfl, BG, by omega, by decide, by decide, fun d3 G2 d30 d31 BG2 KG2 => ?_⟩
          have rPL := rPL.keep nrb BG KG2
          have hPL := hPL.keep npb BG KG2
          have SG := keep_same SG nb0 KG2
          clear BG KG2
          repeat (walk_at "lw w")
          refine ite2 (fun e => ?_) (fun e => ?_)
          · repeat (walk_at "lw w")
            obtain ⟨ts, ep, pts⟩ := hPL
            have hts := paired_len pts
            have h45 := hok.1
            refine ⟨⟨_, SqL.of ep⟩, fun D nD => ?_⟩
            refine lc_list (K := K) (a := pl) (xs := ts.map V.ref) (fun i H3 => H3 D = some (.lst ((ts.take i).map V.ref)) ∧ Same G2 H3) ?_ ?_ ?_ ?_
            · exact ⟨upd_same, same_new nD⟩
            · rintro i H3 _ ⟨_, S3⟩
              exact SqL.of (S3 _ _ ep)
            · rintro i x H3 ex ⟨eD, S3⟩
              have ex2 := ex
              rw [List.getElem?_map] at ex2
              have hi := (List.getElem?_eq_some_iff.mp ex).1
              rw [List.length_map] at hi
              refine ⟨rfl, ?_⟩
              repeat (walk_at "lw w")
              refine ⟨_, eD, small1000 (by rw [List.length_map, List.length_take]; omega), ?_, ?_⟩
              · rw [upd_same, List.map_take, List.map_take, List.take_add_one, ex]
                rfl
              · intro q' o e
                rw [upd_ne (ne_of_none e nD)]
                exact S3 _ _ e
            · rintro G3 ⟨eD, S3⟩
              rw [List.length_map, List.take_length] at eD
              have hD0 : H D = none := SG.free nD
              have hDb : D ≠ b := fun e => by
                obtain ⟨o, ho⟩ := BG2.has
                rw [← e, nD] at ho
                cases ho
              have SG := SG.trans S3
              have ep := S3 _ _ ep
              have pts := pairs_same S3 pts
              have BG3 := BG2.same S3
              clear BG2 S3 nD rPL rok e
              repeat (walk_at "lw w")
              refine ⟨by walk_at "lw n", fun l nl => ?_⟩
              have fl := pairs_fine hok.fines
              have shp : SeqAt.shaped (.list (ps.map pairD)) = true := by
                refine shaped_fine ?_ ?_
                · show (decide _ && fineAll _) = true
                  rw [fl.1, decide_eq_true (by rw [List.length_map]; omega)]
                  rfl
                · show PyData.depthAll (ps.map pairD) + 1 ≤ 64
                  have := fl.2
                  omega
              have Sn := same_new (o := .lst []) nl
              have SG := SG.trans Sn
              have eD := Sn _ _ eD
              have ep := Sn _ _ ep
              have pts := pairs_same Sn pts
              have BG4 := BG3.same Sn
              have el : upd G3 l (.lst []) l = some (.lst []) := upd_same
              generalize upd G3 l (.lst []) = G4 at *
              clear BG3 Sn nl
              refine ⟨.list (ps.map pairD), .list [], .lst (SqL.of eD) (pairs_dp0 pts fun q m => (hok.fines q m).2), .lst (SqL.of el) .nil, shp, by decide +kernel, ?_⟩
              have hPL : PL G4 pl ps := ⟨ts, ep, pts⟩
              have rPL : PL G4 D ps := ⟨ts, eD, pts⟩
              clear shp fl el
              cases ps with
              | nil =>
                rw [show PyData.eqv (.list (List.map pairD [])) (.list []) = true from rfl]
                refine ⟨_, rfl, ifF rfl ?_⟩
                refine ifF rfl ?_
                exact hnx _ _ ⟨pl, D, [], [], _, _, _, _, _, _, rfl, hPL, hok, hcl, rPL, hok, npb, hDb, BG4.mono (by omega), SG⟩
              | cons q0 ps =>
                rw [show PyData.eqv (.list (List.map pairD (q0 :: ps))) (.list []) = false from rfl]
                refine ⟨_, rfl, ifT rfl ?_⟩
                repeat (walk_at "lw w")
                refine ⟨b, 2, _, rfl, BG4, by omega, by decide, by decide, fun d4 G5 d40 d41 BG5 KG5 => ?_⟩
                have rPL := rPL.keep hDb BG4 KG5
                have hPL := hPL.keep npb BG4 KG5
                have SG := keep_same SG nb0 KG5
                clear BG4 KG5 eD ep pts hts
                repeat (walk_at "lw w")
                refine ite2 (fun e => ?_) (fun e => ?_)
                · obtain ⟨tr, er, ptr⟩ := rPL
                  cases ptr with
                  | @cons t0 _ tr _ h0 ptr =>
                    repeat (walk_at "lw w")
                    refine .inl ⟨D, _, 0, _, rfl, rfl, SqL.of er, atI_nat (j := 0) rfl, ?_⟩
                    repeat (walk_at "lw w")
                    refine .inr (.inl ⟨t0, _, 0, _, rfl, rfl, SqT.of h0, atI_nat (j := 0) rfl, ?_⟩)
                    repeat (walk_at "lw w")
                    refine ⟨by walk_at "lw n", fun t nt => ?_⟩
                    repeat (walk_at "lw w")
                    refine ⟨by walk_at "lw n", fun l2 nl2 => ?_⟩
                    repeat (walk_at "lw w")
                    have S1 : Same G5 (upd (upd G5 t (.tup [.str q0.1, .non])) l2 (.lst [.ref t])) := (same_new nt).trans (same_new nl2)
                    have e2 : upd (upd G5 t (.tup [.str q0.1, .non])) l2 (.lst [.ref t]) l2 = some (.lst [.ref t]) := upd_same
                    have e3 : upd (upd G5 t (.tup [.str q0.1, .non])) l2 (.lst [.ref t]) t = some (.tup [.str q0.1, .non]) := same_new nl2 _ _ upd_same
                    generalize upd (upd G5 t (.tup [.str q0.1, .non])) l2 (.lst [.ref t]) = G6 at *
                    have er := S1 _ _ er
                    have ptr := pairs_same S1 ptr
                    have hPL := hPL.same S1
                    have SG := SG.trans S1
                    have BG6 := BG5.same S1
                    clear BG5 S1 nt nl2 h0 rPL
                    refine ⟨D, _, rfl, SqL.of er, fun sp nsp => ?_⟩
                    rw [cut1]
                    have S1 := same_new (o := .lst (tr.map V.ref)) nsp
                    have e4 : upd G6 sp (.lst (tr.map V.ref)) sp = some (.lst (tr.map V.ref)) := upd_same
                    rw [show (List.map V.ref (t0 :: tr)).drop 1 = tr.map V.ref from rfl]
                    generalize upd G6 sp (.lst (tr.map V.ref)) = G7 at *
                    have e2 := S1 _ _ e2
                    have e3 := S1 _ _ e3
                    have ptr := pairs_same S1 ptr
                    have hPL := hPL.same S1
                    have SG := SG.trans S1
                    have BG7 := BG6.same S1
                    clear BG6 S1 nsp er
                    have htl := paired_len ptr
                    have h45 := hok.1
                    rw [List.length_cons] at h45
                    refine ⟨l2, sp, _, _, rfl, rfl, e2, e4, Nat.le_of_lt (small1000 (by rw [List.length_map]; show 1 + tr.length ≤ 1000; omega)), fun rl nrl => ?_⟩
                    have nrlb : rl ≠ b := fun e => by
                      obtain ⟨o, ho⟩ := BG7.has
                      rw [← e, nrl] at ho
                      cases ho
                    have Sn := same_new (o := .lst ([.ref t] ++ tr.map V.ref)) nrl
                    exact hnx _ _ ⟨pl, rl, _, (q0.1, .non) :: ps, _, _, _, _, _, _, rfl, hPL.same Sn, hok, hcl, ⟨t :: tr, upd_same, .cons (Sn _ _ e3) (pairs_same Sn ptr)⟩, famok_head hok, npb, nrlb, (BG7.same Sn).mono (by omega), SG.trans Sn⟩
                · exact hnx _ _ ⟨pl, D, _, _, _, _, _, _, _, _, rfl, hPL, hok, hcl, rPL, hok, npb, hDb, BG5.mono (by omega), SG⟩
          · exact hnx _ _ ⟨pl, rl, ps, rs, _, _, _, _, _, _, rfl, hPL, hok, hcl, rPL, rok, npb, nrb, BG2.mono (by omega), SG⟩
      · intro nx hnx
        repeat (walk_at "lw w")
        have fin : ∀ (n : Int) (H2 : Hp), Bag H2 b n → n ≤ 10 → Keep b H' H2 → ∀ (pl : Addr) (ps : List (Str × V)) (H4 : Hp), H2 pl = none → PL H4 pl ps → FamOk ps → ClassOk ps → Bag H4 b (n + 2000) → Keep b H2 H4 →
            Mid1 H a b [some (.ref a), some (.int (0 + i)), some (.ref b), some (.ref pl), t4, t5, t6, t7, t8, t9] H4 := fun n H2 B2 hn K2 pl ps H4 npl hP ho hc B4 K4 =>
          ⟨pl, ps, _, _, _, _, _, _, _, rfl, hP, ho, hc, fun e => by (obtain ⟨o, ho⟩ := B2.has; rw [← e, npl] at ho; cases ho), B4.mono (by omega), keep_same S1 nb0 (K2.trans K4)⟩
        refine ite2 (fun e => ?_) (fun e => ?_)
        · repeat (walk_at "lw w")
          refine ⟨by walk_at "lw n", fun l nl => ?_⟩
          have B2 := B1.new (o := .lst [.int 40, .int 12]) nl
          repeat (walk_at "lw w")
          refine ⟨b, _, _, rfl, B2, by omega, .inl ⟨l, _, rfl, (B1.ne nl).symm, upd_same, by decide, by decide, fun v H3 hv B3 K3 => ?_⟩⟩
          have K3 := (Keep.new (b := b) (o := .lst [.int 40, .int 12]) nl).trans K3
          simp only [List.mem_cons, List.not_mem_nil, or_false] at hv
          rcases hv with rfl | rfl
          · exact ⟨b, 40, _, rfl, B3, by omega, by decide, by decide, fun pl ps H4 npl hP ho hc _ B4 K4 => hnx _ _ (fin _ _ B3 (by omega) K3 pl ps H4 npl hP ho hc B4 K4)⟩
          · exact ⟨b, 12, _, rfl, B3, by omega, by decide, by decide, fun pl ps H4 npl hP ho hc _ B4 K4 => hnx _ _ (fin _ _ B3 (by omega) K3 pl ps H4 npl hP ho hc B4 K4)⟩
        · exact ⟨b, 12, _, rfl, B1, by omega, by decide, by decide, fun pl ps H4 npl hP ho hc _ B4 K4 => hnx _ _ (fin _ _ B1 (by omega) (Keep.refl _ _) pl ps H4 npl hP ho hc B4 K4)⟩
    · rintro σ H' ⟨S0, t1, t2, t3, t4, t5, t6, t7, t8, t9, rfl⟩
      repeat (walk_at "lw w")
      exact q _
end

theorem all_mk {l : PySem.W.OpenLaw} {w : World} {K : PySem.W.Frag} {h : Heap} {mg : Str → Option Value} {fa : Addr} (X : K.In h) (G : h.Ns mainGlobals mg) (hfa : mg "law" = some (.ref fa))
    {f_wall : Addr} {od0 an0 : Option Addr} {sl0 : Array (Option Value)} {oc0 kV0 dc0 pm0 cd0 ct0 : Value}
    {f_consists_of : Addr} {od1 an1 : Option Addr} {sl1 : Array (Option Value)} {oc1 kV1 dc1 pm1 cd1 ct1 : Value}
    {f_is_class_name : Addr} {od2 an2 : Option Addr} {sl2 : Array (Option Value)} {oc2 kV2 dc2 pm2 cd2 ct2 : Value}
    {f_can_be_declared : Addr} {od3 an3 : Option Addr} {sl3 : Array (Option Value)} {oc3 kV3 dc3 pm3 cd3 ct3 : Value}
    {f_law_parents_of : Addr} {od4 an4 : Option Addr} {sl4 : Array (Option Value)} {oc4 kV4 dc4 pm4 cd4 ct4 : Value}
    {f_law_take : Addr} {od5 an5 : Option Addr} {sl5 : Array (Option Value)} {oc5 kV5 dc5 pm5 cd5 ct5 : Value}
    {f_law_of : Addr} {od6 an6 : Option Addr} {sl6 : Array (Option Value)} {oc6 kV6 dc6 pm6 cd6 ct6 : Value}
    {f_law_class : Addr} {od7 an7 : Option Addr} {sl7 : Array (Option Value)} {oc7 kV7 dc7 pm7 cd7 ct7 : Value}
    {f_law_bag : Addr} {od8 an8 : Option Addr} {sl8 : Array (Option Value)} {oc8 kV8 dc8 pm8 cd8 ct8 : Value}
    {f_law_wide_family : Addr} {od9 an9 : Option Addr} {sl9 : Array (Option Value)} {oc9 kV9 dc9 pm9 cd9 ct9 : Value}
    {f_law_long_family : Addr} {od10 an10 : Option Addr} {sl10 : Array (Option Value)} {oc10 kV10 dc10 pm10 cd10 ct10 : Value}
    {f_law_told : Addr} {od11 an11 : Option Addr} {sl11 : Array (Option Value)} {oc11 kV11 dc11 pm11 cd11 ct11 : Value}
    {f_law_inside : Addr} {od12 an12 : Option Addr} {sl12 : Array (Option Value)} {oc12 kV12 dc12 pm12 cd12 ct12 : Value}
    {f_law : Addr} {od13 an13 : Option Addr} {sl13 : Array (Option Value)} {oc13 kV13 dc13 pm13 cd13 ct13 : Value}
    {C_Family : Addr}
    {f_Family___init__ : Addr} {od_Family___init__ an_Family___init__ : Option Addr} {sl_Family___init__ : Array (Option Value)} {oc_Family___init__ kV_Family___init__ dc_Family___init__ pm_Family___init__ cd_Family___init__ ct_Family___init__ : Value}
    {f_Family_names : Addr} {od_Family_names an_Family_names : Option Addr} {sl_Family_names : Array (Option Value)} {oc_Family_names kV_Family_names dc_Family_names pm_Family_names cd_Family_names ct_Family_names : Value}
    {f_Family_parent : Addr} {od_Family_parent an_Family_parent : Option Addr} {sl_Family_parent : Array (Option Value)} {oc_Family_parent kV_Family_parent dc_Family_parent pm_Family_parent cd_Family_parent ct_Family_parent : Value}
    {f_Family___contains__ : Addr} {od_Family___contains__ an_Family___contains__ : Option Addr} {sl_Family___contains__ : Array (Option Value)} {oc_Family___contains__ kV_Family___contains__ dc_Family___contains__ pm_Family___contains__ cd_Family___contains__ ct_Family___contains__ : Value}
    {f_Family___len__ : Addr} {od_Family___len__ an_Family___len__ : Option Addr} {sl_Family___len__ : Array (Option Value)} {oc_Family___len__ kV_Family___len__ dc_Family___len__ pm_Family___len__ cd_Family___len__ ct_Family___len__ : Value}
    {f_Family___eq__ : Addr} {od_Family___eq__ an_Family___eq__ : Option Addr} {sl_Family___eq__ : Array (Option Value)} {oc_Family___eq__ kV_Family___eq__ dc_Family___eq__ pm_Family___eq__ cd_Family___eq__ ct_Family___eq__ : Value}
    {f_Family_plain : Addr} {od_Family_plain an_Family_plain : Option Addr} {sl_Family_plain : Array (Option Value)} {oc_Family_plain kV_Family_plain dc_Family_plain pm_Family_plain cd_Family_plain ct_Family_plain : Value}
    {p_Family_plain : Addr} {rs_Family_plain : List Value}
    {tc_SMALL_LETTERS : Tok}
    {tc_CAPITAL_LETTERS : Tok}
    {tc_ROOT : Tok}
    {a_FIRST_CLASSES : Addr} {nc_FIRST_CLASSES : Nat} {slc_FIRST_CLASSES : Array (Option Value)}
    {a_FIRST_CLASSES_0 : Addr} {odc_FIRST_CLASSES_0 : Option Addr} {nc_FIRST_CLASSES_0 : Nat} {slc_FIRST_CLASSES_0 : Array (Option Value)} {tc_FIRST_CLASSES_0_0 : Tok}
    {a_FIRST_CLASSES_1 : Addr} {odc_FIRST_CLASSES_1 : Option Addr} {nc_FIRST_CLASSES_1 : Nat} {slc_FIRST_CLASSES_1 : Array (Option Value)} {tc_FIRST_CLASSES_1_0 : Tok} {tc_FIRST_CLASSES_1_1 : Tok}
    {a_FIRST_CLASSES_2 : Addr} {odc_FIRST_CLASSES_2 : Option Addr} {nc_FIRST_CLASSES_2 : Nat} {slc_FIRST_CLASSES_2 : Array (Option Value)} {tc_FIRST_CLASSES_2_0 : Tok} {tc_FIRST_CLASSES_2_1 : Tok}
    {a_FIRST_CLASSES_3 : Addr} {odc_FIRST_CLASSES_3 : Option Addr} {nc_FIRST_CLASSES_3 : Nat} {slc_FIRST_CLASSES_3 : Array (Option Value)} {tc_FIRST_CLASSES_3_0 : Tok} {tc_FIRST_CLASSES_3_1 : Tok}
    {tc_MOST_CLASS_LETTERS : Tok}
    (a0 : PySem.W.nsIn K mainGlobals "_wall" = some (some (.ref f_wall)))
    (l0 : K.lookup f_wall = some ⟨oc0, od0, .func (PySem.W.fnOf "_wall" "_wall" (defArgs s_wall) (defBody s_wall) (defScope s_wall) .none kV0 dc0 pm0 an0 cd0 ct0), sl0⟩)
    (c0 : PySem.W.codeIn K cd0 "_wall" = true) (k0 : PySem.W.keepIn K (.ref f_wall) = true)
    (a1 : PySem.W.nsIn K mainGlobals "consists_of" = some (some (.ref f_consists_of)))
    (l1 : K.lookup f_consists_of = some ⟨oc1, od1, .func (PySem.W.fnOf "consists_of" "consists_of" (defArgs s_consists_of) (defBody s_consists_of) (defScope s_consists_of) .none kV1 dc1 pm1 an1 cd1 ct1), sl1⟩)
    (c1 : PySem.W.codeIn K cd1 "consists_of" = true) (k1 : PySem.W.keepIn K (.ref f_consists_of) = true)
    (a2 : PySem.W.nsIn K mainGlobals "is_class_name" = some (some (.ref f_is_class_name)))
    (l2 : K.lookup f_is_class_name = some ⟨oc2, od2, .func (PySem.W.fnOf "is_class_name" "is_class_name" (defArgs s_is_class_name) (defBody s_is_class_name) (defScope s_is_class_name) .none kV2 dc2 pm2 an2 cd2 ct2), sl2⟩)
    (c2 : PySem.W.codeIn K cd2 "is_class_name" = true) (k2 : PySem.W.keepIn K (.ref f_is_class_name) = true)
    (a3 : PySem.W.nsIn K mainGlobals "can_be_declared" = some (some (.ref f_can_be_declared)))
    (l3 : K.lookup f_can_be_declared = some ⟨oc3, od3, .func (PySem.W.fnOf "can_be_declared" "can_be_declared" (defArgs s_can_be_declared) (defBody s_can_be_declared) (defScope s_can_be_declared) .none kV3 dc3 pm3 an3 cd3 ct3), sl3⟩)
    (c3 : PySem.W.codeIn K cd3 "can_be_declared" = true) (k3 : PySem.W.keepIn K (.ref f_can_be_declared) = true)
    (a4 : PySem.W.nsIn K mainGlobals "_law_parents_of" = some (some (.ref f_law_parents_of)))
    (l4 : K.lookup f_law_parents_of = some ⟨oc4, od4, .func (PySem.W.fnOf "_law_parents_of" "_law_parents_of" (defArgs s_law_parents_of) (defBody s_law_parents_of) (defScope s_law_parents_of) .none kV4 dc4 pm4 an4 cd4 ct4), sl4⟩)
    (c4 : PySem.W.codeIn K cd4 "_law_parents_of" = true) (k4 : PySem.W.keepIn K (.ref f_law_parents_of) = true)
    (a5 : PySem.W.nsIn K mainGlobals "_law_take" = some (some (.ref f_law_take)))
    (l5 : K.lookup f_law_take = some ⟨oc5, od5, .func (PySem.W.fnOf "_law_take" "_law_take" (defArgs s_law_take) (defBody s_law_take) (defScope s_law_take) .none kV5 dc5 pm5 an5 cd5 ct5), sl5⟩)
    (c5 : PySem.W.codeIn K cd5 "_law_take" = true) (k5 : PySem.W.keepIn K (.ref f_law_take) = true)
    (a6 : PySem.W.nsIn K mainGlobals "_law_of" = some (some (.ref f_law_of)))
    (l6 : K.lookup f_law_of = some ⟨oc6, od6, .func (PySem.W.fnOf "_law_of" "_law_of" (defArgs s_law_of) (defBody s_law_of) (defScope s_law_of) .none kV6 dc6 pm6 an6 cd6 ct6), sl6⟩)
    (c6 : PySem.W.codeIn K cd6 "_law_of" = true) (k6 : PySem.W.keepIn K (.ref f_law_of) = true)
    (a7 : PySem.W.nsIn K mainGlobals "_law_class" = some (some (.ref f_law_class)))
    (l7 : K.lookup f_law_class = some ⟨oc7, od7, .func (PySem.W.fnOf "_law_class" "_law_class" (defArgs s_law_class) (defBody s_law_class) (defScope s_law_class) .none kV7 dc7 pm7 an7 cd7 ct7), sl7⟩)
    (c7 : PySem.W.codeIn K cd7 "_law_class" = true) (k7 : PySem.W.keepIn K (.ref f_law_class) = true)
    (a8 : PySem.W.nsIn K mainGlobals "_law_bag" = some (some (.ref f_law_bag)))
    (l8 : K.lookup f_law_bag = some ⟨oc8, od8, .func (PySem.W.fnOf "_law_bag" "_law_bag" (defArgs s_law_bag) (defBody s_law_bag) (defScope s_law_bag) .none kV8 dc8 pm8 an8 cd8 ct8), sl8⟩)
    (c8 : PySem.W.codeIn K cd8 "_law_bag" = true) (k8 : PySem.W.keepIn K (.ref f_law_bag) = true)
    (a9 : PySem.W.nsIn K mainGlobals "_law_wide_family" = some (some (.ref f_law_wide_family)))
    (l9 : K.lookup f_law_wide_family = some ⟨oc9, od9, .func (PySem.W.fnOf "_law_wide_family" "_law_wide_family" (defArgs s_law_wide_family) (defBody s_law_wide_family) (defScope s_law_wide_family) .none kV9 dc9 pm9 an9 cd9 ct9), sl9⟩)
    (c9 : PySem.W.codeIn K cd9 "_law_wide_family" = true) (k9 : PySem.W.keepIn K (.ref f_law_wide_family) = true)
    (a10 : PySem.W.nsIn K mainGlobals "_law_long_family" = some (some (.ref f_law_long_family)))
    (l10 : K.lookup f_law_long_family = some ⟨oc10, od10, .func (PySem.W.fnOf "_law_long_family" "_law_long_family" (defArgs s_law_long_family) (defBody s_law_long_family) (defScope s_law_long_family) .none kV10 dc10 pm10 an10 cd10 ct10), sl10⟩)
    (c10 : PySem.W.codeIn K cd10 "_law_long_family" = true) (k10 : PySem.W.keepIn K (.ref f_law_long_family) = true)
    (a11 : PySem.W.nsIn K mainGlobals "_law_told" = some (some (.ref f_law_told)))
    (l11 : K.lookup f_law_told = some ⟨oc11, od11, .func (PySem.W.fnOf "_law_told" "_law_told" (defArgs s_law_told) (defBody s_law_told) (defScope s_law_told) .none kV11 dc11 pm11 an11 cd11 ct11), sl11⟩)
    (c11 : PySem.W.codeIn K cd11 "_law_told" = true) (k11 : PySem.W.keepIn K (.ref f_law_told) = true)
    (a12 : PySem.W.nsIn K mainGlobals "_law_inside" = some (some (.ref f_law_inside)))
    (l12 : K.lookup f_law_inside = some ⟨oc12, od12, .func (PySem.W.fnOf "_law_inside" "_law_inside" (defArgs s_law_inside) (defBody s_law_inside) (defScope s_law_inside) .none kV12 dc12 pm12 an12 cd12 ct12), sl12⟩)
    (c12 : PySem.W.codeIn K cd12 "_law_inside" = true) (k12 : PySem.W.keepIn K (.ref f_law_inside) = true)
    (a13 : PySem.W.nsIn K mainGlobals "law" = some (some (.ref f_law)))
    (l13 : K.lookup f_law = some ⟨oc13, od13, .func (PySem.W.fnOf "law" "law" (defArgs s_law) (defBody s_law) (defScope s_law) .none kV13 dc13 pm13 an13 cd13 ct13), sl13⟩)
    (c13 : PySem.W.codeIn K cd13 "law" = true) (k13 : PySem.W.keepIn K (.ref f_law) = true)
    (h0_Family : PySem.W.nsIn K mainGlobals "Family" = some (some (.ref C_Family)))
    (h1_Family : PySem.W.plainGet K C_Family Str.empty = true)
    (h2_Family : PySem.W.hasDictIn K C_Family = true)
    (h3_Family : PySem.W.plainOver K C_Family = true)
    (h4_Family : PySem.W.findIn K (.ref C_Family) "__setattr__" = some (some (.builtin "object.__setattr__")))
    (h5_Family : PySem.W.typeIn K (.ref C_Family) = some (.type "type"))
    (h6_Family : PySem.W.readsIn K C_Family (.type "type") = true)
    (h7_Family : PySem.W.specialIn K (.ref C_Family) "__getattribute__" = some (some (.builtin "type.__getattribute__")))
    (h8_Family : PySem.W.findIn K (.ref C_Family) "__ne__" = some (some (.builtin "object.__ne__")))
    (h9_Family : PySem.W.mroIn K C_Family (.type "object") = some true)
    (i0_Family : PySem.W.findIn K (.ref C_Family) "__class__" = some (some (.builtin "object.__class__")))
    (i1_Family : PySem.W.specialIn K (.builtin "object.__class__") "__get__" = some (some (.builtin "getset_descriptor.__get__")))
    (i2_Family : PySem.W.takesIn K (.builtin "object.__class__") = some true)
    (i3_Family : PySem.W.isClsIn K C_Family = true)
    (i6_Family : PySem.W.notFirst K C_Family (.ref C_Family) = true)
    (i7_Family : PySem.W.notFirst K C_Family (.type "list") = true)
    (i8_Family : PySem.W.notFirst K C_Family (.type "tuple") = true)
    (j_Family__above : PySem.W.findIn K (.ref C_Family) "_above" = some none)
    (j_Family_declared : PySem.W.findIn K (.ref C_Family) "declared" = some none)
    (a_Family___init__ : PySem.W.findIn K (.ref C_Family) "__init__" = some (some (.ref f_Family___init__)))
    (l_Family___init__ : K.lookup f_Family___init__ = some ⟨oc_Family___init__, od_Family___init__, .func (PySem.W.fnOf "__init__" "Family.__init__" (defArgs s_Family___init__) (defBody s_Family___init__) (defScope s_Family___init__) .none kV_Family___init__ dc_Family___init__ pm_Family___init__ an_Family___init__ cd_Family___init__ ct_Family___init__), sl_Family___init__⟩)
    (c_Family___init__ : PySem.W.codeIn K cd_Family___init__ "Family.__init__" = true)
    (k_Family___init__ : PySem.W.keepIn K (.ref f_Family___init__) = true)
    (n_Family___init__ : PySem.W.isFn K (.ref f_Family___init__) = true)
    (m1_Family___init__ : PySem.W.makesIn K C_Family = true)
    (m2_Family___init__ : PySem.W.keepIn K (.ref C_Family) = true)
    (a_Family_names : PySem.W.findIn K (.ref C_Family) "names" = some (some (.ref f_Family_names)))
    (l_Family_names : K.lookup f_Family_names = some ⟨oc_Family_names, od_Family_names, .func (PySem.W.fnOf "names" "Family.names" (defArgs s_Family_names) (defBody s_Family_names) (defScope s_Family_names) .none kV_Family_names dc_Family_names pm_Family_names an_Family_names cd_Family_names ct_Family_names), sl_Family_names⟩)
    (c_Family_names : PySem.W.codeIn K cd_Family_names "Family.names" = true)
    (k_Family_names : PySem.W.keepIn K (.ref f_Family_names) = true)
    (n_Family_names : PySem.W.isFn K (.ref f_Family_names) = true)
    (a_Family_parent : PySem.W.findIn K (.ref C_Family) "parent" = some (some (.ref f_Family_parent)))
    (l_Family_parent : K.lookup f_Family_parent = some ⟨oc_Family_parent, od_Family_parent, .func (PySem.W.fnOf "parent" "Family.parent" (defArgs s_Family_parent) (defBody s_Family_parent) (defScope s_Family_parent) .none kV_Family_parent dc_Family_parent pm_Family_parent an_Family_parent cd_Family_parent ct_Family_parent), sl_Family_parent⟩)
    (c_Family_parent : PySem.W.codeIn K cd_Family_parent "Family.parent" = true)
    (k_Family_parent : PySem.W.keepIn K (.ref f_Family_parent) = true)
    (n_Family_parent : PySem.W.isFn K (.ref f_Family_parent) = true)
    (a_Family___contains__ : PySem.W.findIn K (.ref C_Family) "__contains__" = some (some (.ref f_Family___contains__)))
    (l_Family___contains__ : K.lookup f_Family___contains__ = some ⟨oc_Family___contains__, od_Family___contains__, .func (PySem.W.fnOf "__contains__" "Family.__contains__" (defArgs s_Family___contains__) (defBody s_Family___contains__) (defScope s_Family___contains__) .none kV_Family___contains__ dc_Family___contains__ pm_Family___contains__ an_Family___contains__ cd_Family___contains__ ct_Family___contains__), sl_Family___contains__⟩)
    (c_Family___contains__ : PySem.W.codeIn K cd_Family___contains__ "Family.__contains__" = true)
    (k_Family___contains__ : PySem.W.keepIn K (.ref f_Family___contains__) = true)
    (n_Family___contains__ : PySem.W.isFn K (.ref f_Family___contains__) = true)
    (a_Family___len__ : PySem.W.findIn K (.ref C_Family) "__len__" = some (some (.ref f_Family___len__)))
    (l_Family___len__ : K.lookup f_Family___len__ = some ⟨oc_Family___len__, od_Family___len__, .func (PySem.W.fnOf "__len__" "Family.__len__" (defArgs s_Family___len__) (defBody s_Family___len__) (defScope s_Family___len__) .none kV_Family___len__ dc_Family___len__ pm_Family___len__ an_Family___len__ cd_Family___len__ ct_Family___len__), sl_Family___len__⟩)
    (c_Family___len__ : PySem.W.codeIn K cd_Family___len__ "Family.__len__" = true)
    (k_Family___len__ : PySem.W.keepIn K (.ref f_Family___len__) = true)
    (n_Family___len__ : PySem.W.isFn K (.ref f_Family___len__) = true)
    (a_Family___eq__ : PySem.W.findIn K (.ref C_Family) "__eq__" = some (some (.ref f_Family___eq__)))
    (l_Family___eq__ : K.lookup f_Family___eq__ = some ⟨oc_Family___eq__, od_Family___eq__, .func (PySem.W.fnOf "__eq__" "Family.__eq__" (defArgs s_Family___eq__) (defBody s_Family___eq__) (defScope s_Family___eq__) .none kV_Family___eq__ dc_Family___eq__ pm_Family___eq__ an_Family___eq__ cd_Family___eq__ ct_Family___eq__), sl_Family___eq__⟩)
    (c_Family___eq__ : PySem.W.codeIn K cd_Family___eq__ "Family.__eq__" = true)
    (k_Family___eq__ : PySem.W.keepIn K (.ref f_Family___eq__) = true)
    (n_Family___eq__ : PySem.W.isFn K (.ref f_Family___eq__) = true)
    (a_Family_plain : PySem.W.findCls K (.ref C_Family) (.type "type") "plain" = some (.get (.builtin "staticmethod.__get__") (.ref p_Family_plain) .none (.ref C_Family)))
    (r_Family_plain : PySem.W.recIn K p_Family_plain "staticmethod" = some (.ref f_Family_plain :: rs_Family_plain))
    (l_Family_plain : K.lookup f_Family_plain = some ⟨oc_Family_plain, od_Family_plain, .func (PySem.W.fnOf "plain" "Family.plain" (defArgs s_Family_plain) (defBody s_Family_plain) (defScope s_Family_plain) .none kV_Family_plain dc_Family_plain pm_Family_plain an_Family_plain cd_Family_plain ct_Family_plain), sl_Family_plain⟩)
    (c_Family_plain : PySem.W.codeIn K cd_Family_plain "Family.plain" = true)
    (k_Family_plain : PySem.W.keepIn K (.ref f_Family_plain) = true)
    (n_Family_plain : PySem.W.isFn K (.ref f_Family_plain) = true)
    (z_abs : PySem.W.nsIn K mainGlobals "abs" = some none)
    (z_all : PySem.W.nsIn K mainGlobals "all" = some none)
    (z_any : PySem.W.nsIn K mainGlobals "any" = some none)
    (z_dict : PySem.W.nsIn K mainGlobals "dict" = some none)
    (z_enumerate : PySem.W.nsIn K mainGlobals "enumerate" = some none)
    (z_int : PySem.W.nsIn K mainGlobals "int" = some none)
    (z_isinstance : PySem.W.nsIn K mainGlobals "isinstance" = some none)
    (z_len : PySem.W.nsIn K mainGlobals "len" = some none)
    (z_list : PySem.W.nsIn K mainGlobals "list" = some none)
    (z_max : PySem.W.nsIn K mainGlobals "max" = some none)
    (z_min : PySem.W.nsIn K mainGlobals "min" = some none)
    (z_range : PySem.W.nsIn K mainGlobals "range" = some none)
    (z_str : PySem.W.nsIn K mainGlobals "str" = some none)
    (z_tuple : PySem.W.nsIn K mainGlobals "tuple" = some none)
    (y_SMALL_LETTERS : PySem.W.nsIn K mainGlobals "SMALL_LETTERS" = some (some (.str "abcdefghijklmnopqrstuvwxyz" tc_SMALL_LETTERS)))
    (y_CAPITAL_LETTERS : PySem.W.nsIn K mainGlobals "CAPITAL_LETTERS" = some (some (.str "ABCDEFGHIJKLMNOPQRSTUVWXYZ" tc_CAPITAL_LETTERS)))
    (y_ROOT : PySem.W.nsIn K mainGlobals "ROOT" = some (some (.str "Error" tc_ROOT)))
    (y_FIRST_CLASSES : PySem.W.nsIn K mainGlobals "FIRST_CLASSES" = some (some (.ref a_FIRST_CLASSES)))
    (u_FIRST_CLASSES : K.lookup a_FIRST_CLASSES = some ⟨.type "tuple", none, .seq #[.ref a_FIRST_CLASSES_0, .ref a_FIRST_CLASSES_1, .ref a_FIRST_CLASSES_2, .ref a_FIRST_CLASSES_3] nc_FIRST_CLASSES, slc_FIRST_CLASSES⟩)
    (u_FIRST_CLASSES_0 : K.lookup a_FIRST_CLASSES_0 = some ⟨.type "tuple", odc_FIRST_CLASSES_0, .seq #[.str "Error" tc_FIRST_CLASSES_0_0, .none] nc_FIRST_CLASSES_0, slc_FIRST_CLASSES_0⟩)
    (u_FIRST_CLASSES_1 : K.lookup a_FIRST_CLASSES_1 = some ⟨.type "tuple", odc_FIRST_CLASSES_1, .seq #[.str "Failed" tc_FIRST_CLASSES_1_0, .str "Error" tc_FIRST_CLASSES_1_1] nc_FIRST_CLASSES_1, slc_FIRST_CLASSES_1⟩)
    (u_FIRST_CLASSES_2 : K.lookup a_FIRST_CLASSES_2 = some ⟨.type "tuple", odc_FIRST_CLASSES_2, .seq #[.str "Misuse" tc_FIRST_CLASSES_2_0, .str "Error" tc_FIRST_CLASSES_2_1] nc_FIRST_CLASSES_2, slc_FIRST_CLASSES_2⟩)
    (u_FIRST_CLASSES_3 : K.lookup a_FIRST_CLASSES_3 = some ⟨.type "tuple", odc_FIRST_CLASSES_3, .seq #[.str "Beyond" tc_FIRST_CLASSES_3_0, .str "Misuse" tc_FIRST_CLASSES_3_1] nc_FIRST_CLASSES_3, slc_FIRST_CLASSES_3⟩)
    (y_MOST_CLASS_LETTERS : PySem.W.nsIn K mainGlobals "MOST_CLASS_LETTERS" = some (some (.int 12 tc_MOST_CLASS_LETTERS))) :
    ∃ fd : FuncData, (∀ (s : Shared) (v : Value), BindsTo s fd ⟨[v], []⟩ [("script", v)]) ∧ ∀ base : Heap, K.In base → base.Ns mainGlobals mg → FnOk l.prog w K mg base CX0 8 fa fd ["script"] (spLaw K) := by
  have e := hfa.symm.trans (PySem.W.mg_of X G a13)
  cases e
  have F0 := fun_mk (st := s_wall) l0 c0 k0
  have b0 := F0.binds (ps := ["k"]) fun _ _ _ _ _ _ us hl => match us, hl with | [_], _ => rfl
  have F1 := fun_mk (st := s_consists_of) l1 c1 k1
  have b1 := F1.binds (ps := ["text", "characters"]) fun _ _ _ _ _ _ us hl => match us, hl with | [_, _], _ => rfl
  have F2 := fun_mk (st := s_is_class_name) l2 c2 k2
  have b2 := F2.binds (ps := ["thing"]) fun _ _ _ _ _ _ us hl => match us, hl with | [_], _ => rfl
  have F3 := fun_mk (st := s_can_be_declared) l3 c3 k3
  have b3 := F3.binds (ps := ["pair", "above"]) fun _ _ _ _ _ _ us hl => match us, hl with | [_, _], _ => rfl
  have F4 := fun_mk (st := s_law_parents_of) l4 c4 k4
  have b4 := F4.binds (ps := ["pairs"]) fun _ _ _ _ _ _ us hl => match us, hl with | [_], _ => rfl
  have F5 := fun_mk (st := s_law_take) l5 c5 k5
  have b5 := F5.binds (ps := ["bag", "many"]) fun _ _ _ _ _ _ us hl => match us, hl with | [_, _], _ => rfl
  have F6 := fun_mk (st := s_law_of) l6 c6 k6
  have b6 := F6.binds (ps := ["bag", "some"]) fun _ _ _ _ _ _ us hl => match us, hl with | [_, _], _ => rfl
  have F7 := fun_mk (st := s_law_class) l7 c7 k7
  have b7 := F7.binds (ps := ["bag"]) fun _ _ _ _ _ _ us hl => match us, hl with | [_], _ => rfl
  have F8 := fun_mk (st := s_law_bag) l8 c8 k8
  have b8 := F8.binds (ps := ["script", "at"]) fun _ _ _ _ _ _ us hl => match us, hl with | [_, _], _ => rfl
  have F9 := fun_mk (st := s_law_wide_family) l9 c9 k9
  have b9 := F9.binds (ps := ["bag", "most"]) fun _ _ _ _ _ _ us hl => match us, hl with | [_, _], _ => rfl
  have F10 := fun_mk (st := s_law_long_family) l10 c10 k10
  have b10 := F10.binds (ps := ["bag"]) fun _ _ _ _ _ _ us hl => match us, hl with | [_], _ => rfl
  have F11 := fun_mk (st := s_law_told) l11 c11 k11
  have b11 := F11.binds (ps := ["family", "pairs"]) fun _ _ _ _ _ _ us hl => match us, hl with | [_, _], _ => rfl
  have F12 := fun_mk (st := s_law_inside) l12 c12 k12
  have b12 := F12.binds (ps := ["bag", "family", "pairs"]) fun _ _ _ _ _ _ us hl => match us, hl with | [_, _, _], _ => rfl
  have F13 := fun_mk (st := s_law) l13 c13 k13
  have b13 := F13.binds (ps := ["script"]) fun _ _ _ _ _ _ us hl => match us, hl with | [_], _ => rfl
  have F_Family___init__ := fun_mk (st := s_Family___init__) l_Family___init__ c_Family___init__ k_Family___init__
  have b_Family___init__ := F_Family___init__.binds (ps := ["self", "pairs"]) fun _ _ _ _ _ _ us hl => match us, hl with | [_, _], _ => rfl
  have F_Family_names := fun_mk (st := s_Family_names) l_Family_names c_Family_names k_Family_names
  have b_Family_names := F_Family_names.binds (ps := ["self"]) fun _ _ _ _ _ _ us hl => match us, hl with | [_], _ => rfl
  have F_Family_parent := fun_mk (st := s_Family_parent) l_Family_parent c_Family_parent k_Family_parent
  have b_Family_parent := F_Family_parent.binds (ps := ["self", "name"]) fun _ _ _ _ _ _ us hl => match us, hl with | [_, _], _ => rfl
  have F_Family___contains__ := fun_mk (st := s_Family___contains__) l_Family___contains__ c_Family___contains__ k_Family___contains__
  have b_Family___contains__ := F_Family___contains__.binds (ps := ["self", "x"]) fun _ _ _ _ _ _ us hl => match us, hl with | [_, _], _ => rfl
  have F_Family___len__ := fun_mk (st := s_Family___len__) l_Family___len__ c_Family___len__ k_Family___len__
  have b_Family___len__ := F_Family___len__.binds (ps := ["self"]) fun _ _ _ _ _ _ us hl => match us, hl with | [_], _ => rfl
  have F_Family___eq__ := fun_mk (st := s_Family___eq__) l_Family___eq__ c_Family___eq__ k_Family___eq__
  have b_Family___eq__ := F_Family___eq__.binds (ps := ["self", "other"]) fun _ _ _ _ _ _ us hl => match us, hl with | [_, _], _ => rfl
  have F_Family_plain := fun_mk (st := s_Family_plain) l_Family_plain c_Family_plain k_Family_plain
  have b_Family_plain := F_Family_plain.binds (ps := []) fun _ _ _ _ _ _ us hl => match us, hl with | [], _ => rfl
  have T : Txt K mg := {
    f_wall := f_wall, fd_wall := _, F_wall := F0, b_wall := b0, g_wall := PySem.W.mg_of X G a0,
    f_consists_of := f_consists_of, fd_consists_of := _, F_consists_of := F1, b_consists_of := b1, g_consists_of := PySem.W.mg_of X G a1,
    f_is_class_name := f_is_class_name, fd_is_class_name := _, F_is_class_name := F2, b_is_class_name := b2, g_is_class_name := PySem.W.mg_of X G a2,
    f_can_be_declared := f_can_be_declared, fd_can_be_declared := _, F_can_be_declared := F3, b_can_be_declared := b3, g_can_be_declared := PySem.W.mg_of X G a3,
    f_law_parents_of := f_law_parents_of, fd_law_parents_of := _, F_law_parents_of := F4, b_law_parents_of := b4, g_law_parents_of := PySem.W.mg_of X G a4,
    f_law_take := f_law_take, fd_law_take := _, F_law_take := F5, b_law_take := b5, g_law_take := PySem.W.mg_of X G a5,
    f_law_of := f_law_of, fd_law_of := _, F_law_of := F6, b_law_of := b6, g_law_of := PySem.W.mg_of X G a6,
    f_law_class := f_law_class, fd_law_class := _, F_law_class := F7, b_law_class := b7, g_law_class := PySem.W.mg_of X G a7,
    f_law_bag := f_law_bag, fd_law_bag := _, F_law_bag := F8, b_law_bag := b8, g_law_bag := PySem.W.mg_of X G a8,
    f_law_wide_family := f_law_wide_family, fd_law_wide_family := _, F_law_wide_family := F9, b_law_wide_family := b9, g_law_wide_family := PySem.W.mg_of X G a9,
    f_law_long_family := f_law_long_family, fd_law_long_family := _, F_law_long_family := F10, b_law_long_family := b10, g_law_long_family := PySem.W.mg_of X G a10,
    f_law_told := f_law_told, fd_law_told := _, F_law_told := F11, b_law_told := b11, g_law_told := PySem.W.mg_of X G a11,
    f_law_inside := f_law_inside, fd_law_inside := _, F_law_inside := F12, b_law_inside := b12, g_law_inside := PySem.W.mg_of X G a12,
    C_Family := C_Family, gC_Family := PySem.W.mg_of X G h0_Family, cl_Family := ⟨h1_Family, h2_Family, h3_Family, h4_Family⟩, tp_Family := ⟨h5_Family, ⟨h6_Family, h7_Family⟩, h8_Family, h9_Family, i0_Family, i1_Family, i2_Family, kit_self, kit_own i3_Family h5_Family i7_Family, kit_own i3_Family h5_Family i8_Family, i6_Family, i7_Family, i8_Family⟩,
    nA_Family__above := j_Family__above,
    nA_Family_declared := j_Family_declared,
    f_Family___init__ := f_Family___init__, fd_Family___init__ := _, F_Family___init__ := F_Family___init__, b_Family___init__ := b_Family___init__, n_Family___init__ := n_Family___init__,
    mk_Family := ⟨m1_Family___init__, a_Family___init__, n_Family___init__, m2_Family___init__⟩,
    f_Family_names := f_Family_names, fd_Family_names := _, F_Family_names := F_Family_names, b_Family_names := b_Family_names, n_Family_names := n_Family_names,
    o_Family_names := a_Family_names,
    f_Family_parent := f_Family_parent, fd_Family_parent := _, F_Family_parent := F_Family_parent, b_Family_parent := b_Family_parent, n_Family_parent := n_Family_parent,
    o_Family_parent := a_Family_parent,
    f_Family___contains__ := f_Family___contains__, fd_Family___contains__ := _, F_Family___contains__ := F_Family___contains__, b_Family___contains__ := b_Family___contains__, n_Family___contains__ := n_Family___contains__,
    o_Family___contains__ := a_Family___contains__,
    f_Family___len__ := f_Family___len__, fd_Family___len__ := _, F_Family___len__ := F_Family___len__, b_Family___len__ := b_Family___len__, n_Family___len__ := n_Family___len__,
    o_Family___len__ := a_Family___len__,
    f_Family___eq__ := f_Family___eq__, fd_Family___eq__ := _, F_Family___eq__ := F_Family___eq__, b_Family___eq__ := b_Family___eq__, n_Family___eq__ := n_Family___eq__,
    o_Family___eq__ := a_Family___eq__,
    f_Family_plain := f_Family_plain, fd_Family_plain := _, F_Family_plain := F_Family_plain, b_Family_plain := b_Family_plain, n_Family_plain := n_Family_plain,
    p_Family_plain := p_Family_plain, sm_Family_plain := a_Family_plain, sr_Family_plain := ⟨_, r_Family_plain⟩,
    m_abs := PySem.W.mg_none_of X G z_abs, m_all := PySem.W.mg_none_of X G z_all, m_any := PySem.W.mg_none_of X G z_any, m_dict := PySem.W.mg_none_of X G z_dict, m_enumerate := PySem.W.mg_none_of X G z_enumerate, m_int := PySem.W.mg_none_of X G z_int, m_isinstance := PySem.W.mg_none_of X G z_isinstance, m_len := PySem.W.mg_none_of X G z_len, m_list := PySem.W.mg_none_of X G z_list, m_max := PySem.W.mg_none_of X G z_max, m_min := PySem.W.mg_none_of X G z_min, m_range := PySem.W.mg_none_of X G z_range, m_str := PySem.W.mg_none_of X G z_str, m_tuple := PySem.W.mg_none_of X G z_tuple, c_SMALL_LETTERS := ⟨_, PySem.W.mg_of X G y_SMALL_LETTERS⟩, c_CAPITAL_LETTERS := ⟨_, PySem.W.mg_of X G y_CAPITAL_LETTERS⟩, c_ROOT := ⟨_, PySem.W.mg_of X G y_ROOT⟩, c_MOST_CLASS_LETTERS := ⟨_, PySem.W.mg_of X G y_MOST_CLASS_LETTERS⟩, a_FIRST_CLASSES := a_FIRST_CLASSES, c_FIRST_CLASSES := PySem.W.mg_of X G y_FIRST_CLASSES, q_FIRST_CLASSES := fun H => .inr ⟨_, _, _, u_FIRST_CLASSES, rfl, rfl, Nat.le_trans (Nat.le_of_eq (show _ = 4 from rfl)) (by decide), (.cons rfl (.cons rfl (.cons rfl (.cons rfl (.nil)))))⟩, d_FIRST_CLASSES := ⟨_, _, _, u_FIRST_CLASSES, rfl, rfl, rfl, rfl⟩, a_FIRST_CLASSES_0 := a_FIRST_CLASSES_0, q_FIRST_CLASSES_0 := fun H => .inr ⟨_, _, _, u_FIRST_CLASSES_0, rfl, rfl, Nat.le_trans (Nat.le_of_eq (show _ = 2 from rfl)) (by decide), (.cons ⟨_, rfl⟩ (.cons rfl (.nil)))⟩, a_FIRST_CLASSES_1 := a_FIRST_CLASSES_1, q_FIRST_CLASSES_1 := fun H => .inr ⟨_, _, _, u_FIRST_CLASSES_1, rfl, rfl, Nat.le_trans (Nat.le_of_eq (show _ = 2 from rfl)) (by decide), (.cons ⟨_, rfl⟩ (.cons ⟨_, rfl⟩ (.nil)))⟩, a_FIRST_CLASSES_2 := a_FIRST_CLASSES_2, q_FIRST_CLASSES_2 := fun H => .inr ⟨_, _, _, u_FIRST_CLASSES_2, rfl, rfl, Nat.le_trans (Nat.le_of_eq (show _ = 2 from rfl)) (by decide), (.cons ⟨_, rfl⟩ (.cons ⟨_, rfl⟩ (.nil)))⟩, a_FIRST_CLASSES_3 := a_FIRST_CLASSES_3, q_FIRST_CLASSES_3 := fun H => .inr ⟨_, _, _, u_FIRST_CLASSES_3, rfl, rfl, Nat.le_trans (Nat.le_of_eq (show _ = 2 from rfl)) (by decide), (.cons ⟨_, rfl⟩ (.cons ⟨_, rfl⟩ (.nil)))⟩
  }
  exact ⟨PySem.W.fnOf "law" "law" (defArgs s_law) (defBody s_law) (defScope s_law) .none kV13 dc13 pm13 an13 cd13 ct13, fun s v => .of_eq rfl, fun base _ _ => ok_law T F13⟩
end Lw
open PySem PySem.W PyProof.Rows in
set_option maxRecDepth 100000 in
set_option maxHeartbeats 0 in
theorem PySem.Challenge.cw_whatpasses_k01_families_made_holds : PySem.Challenge.rw_whatpasses_k01_families_made.Holds := by
  w_on; o_law; k_head; (case hw => w_witness2)
  k_fill
  refine L2.walk_ofB (l := PySem.Challenge.rw_whatpasses_k01_families_made) (n := 63) (k := 8) (x := "script") (CX := fun _ => L2.CX0) (sp := fun w => Lw.spLaw _) rfl (by decide) rfl ⟨rfl, by decide, by decide⟩ (fun w h Y => PySem.W.kIn_of Y) ?F (fun _ _ a ns hl hb _ hS => ⟨a, ns, rfl, hS, hl, hb, fun _ => rfl⟩) (fun _ _ _ _ _ h => h)
  case F =>
    intro w mg fa h KX G hmg
    refine' Lw.all_mk KX G hmg ?a0 ?l0 ?c0 ?k0 ?a1 ?l1 ?c1 ?k1 ?a2 ?l2 ?c2 ?k2 ?a3 ?l3 ?c3 ?k3 ?a4 ?l4 ?c4 ?k4 ?a5 ?l5 ?c5 ?k5 ?a6 ?l6 ?c6 ?k6 ?a7 ?l7 ?c7 ?k7 ?a8 ?l8 ?c8 ?k8 ?a9 ?l9 ?c9 ?k9 ?a10 ?l10 ?c10 ?k10 ?a11 ?l11 ?c11 ?k11 ?a12 ?l12 ?c12 ?k12 ?a13 ?l13 ?c13 ?k13 ?h0_Family ?h1_Family ?h2_Family ?h3_Family ?h4_Family ?h5_Family ?h6_Family ?h7_Family ?h8_Family ?h9_Family ?i0_Family ?i1_Family ?i2_Family ?i3_Family ?i6_Family ?i7_Family ?i8_Family ?j_Family__above ?j_Family_declared ?a_Family___init__ ?l_Family___init__ ?c_Family___init__ ?k_Family___init__ ?n_Family___init__ ?m1_Family___init__ ?m2_Family___init__ ?a_Family_names ?l_Family_names ?c_Family_names ?k_Family_names ?n_Family_names ?a_Family_parent ?l_Family_parent ?c_Family_parent ?k_Family_parent ?n_Family_parent ?a_Family___contains__ ?l_Family___contains__ ?c_Family___contains__ ?k_Family___contains__ ?n_Family___contains__ ?a_Family___len__ ?l_Family___len__ ?c_Family___len__ ?k_Family___len__ ?n_Family___len__ ?a_Family___eq__ ?l_Family___eq__ ?c_Family___eq__ ?k_Family___eq__ ?n_Family___eq__ ?a_Family_plain ?r_Family_plain ?l_Family_plain ?c_Family_plain ?k_Family_plain ?n_Family_plain ?z_abs ?z_all ?z_any ?z_dict ?z_enumerate ?z_int ?z_isinstance ?z_len ?z_list ?z_max ?z_min ?z_range ?z_str ?z_tuple ?y_SMALL_LETTERS ?y_CAPITAL_LETTERS ?y_ROOT ?y_FIRST_CLASSES ?u_FIRST_CLASSES ?u_FIRST_CLASSES_0 ?u_FIRST_CLASSES_1 ?u_FIRST_CLASSES_2 ?u_FIRST_CLASSES_3 ?y_MOST_CLASS_LETTERS
    (case a0 => k_is)
    (case l0 => k_is)
    (case c0 => k_is)
    (case k0 => k_is)
    (case a1 => k_is)
    (case l1 => k_is)
    (case c1 => k_is)
    (case k1 => k_is)
    (case a2 => k_is)
    (case l2 => k_is)
    (case c2 => k_is)
    (case k2 => k_is)
    (case a3 => k_is)
    (case l3 => k_is)
    (case c3 => k_is)
    (case k3 => k_is)
    (case a4 => k_is)
    (case l4 => k_is)
    (case c4 => k_is)
    (case k4 => k_is)
    (case a5 => k_is)
    (case l5 => k_is)
    (case c5 => k_is)
    (case k5 => k_is)
    (case a6 => k_is)
    (case l6 => k_is)
    (case c6 => k_is)
    (case k6 => k_is)
    (case a7 => k_is)
    (case l7 => k_is)
    (case c7 => k_is)
    (case k7 => k_is)
    (case a8 => k_is)
    (case l8 => k_is)
    (case c8 => k_is)
    (case k8 => k_is)
    (case a9 => k_is)
    (case l9 => k_is)
    (case c9 => k_is)
    (case k9 => k_is)
    (case a10 => k_is)
    (case l10 => k_is)
    (case c10 => k_is)
    (case k10 => k_is)
    (case a11 => k_is)
    (case l11 => k_is)
    (case c11 => k_is)
    (case k11 => k_is)
    (case a12 => k_is)
    (case l12 => k_is)
    (case c12 => k_is)
    (case k12 => k_is)
    (case a13 => k_is)
    (case l13 => k_is)
    (case c13 => k_is)
    (case k13 => k_is)
    (case h0_Family => k_is)
    (case h1_Family => k_is)
    (case h2_Family => k_is)
    (case h3_Family => k_is)
    (case h4_Family => k_is)
    (case h5_Family => k_is)
    (case h6_Family => k_is)
    (case h7_Family => k_is)
    (case h8_Family => k_is)
    (case h9_Family => k_is)
    (case i0_Family => k_is)
    (case i1_Family => k_is)
    (case i2_Family => k_is)
    (case i3_Family => k_is)
    (case i6_Family => k_is)
    (case i7_Family => k_is)
    (case i8_Family => k_is)
    (case j_Family__above => k_is)
    (case j_Family_declared => k_is)
    (case a_Family___init__ => k_is)
    (case l_Family___init__ => k_is)
    (case c_Family___init__ => k_is)
    (case k_Family___init__ => k_is)
    (case n_Family___init__ => k_is)
    (case m1_Family___init__ => k_is)
    (case m2_Family___init__ => k_is)
    (case a_Family_names => k_is)
    (case l_Family_names => k_is)
    (case c_Family_names => k_is)
    (case k_Family_names => k_is)
    (case n_Family_names => k_is)
    (case a_Family_parent => k_is)
    (case l_Family_parent => k_is)
    (case c_Family_parent => k_is)
    (case k_Family_parent => k_is)
    (case n_Family_parent => k_is)
    (case a_Family___contains__ => k_is)
    (case l_Family___contains__ => k_is)
    (case c_Family___contains__ => k_is)
    (case k_Family___contains__ => k_is)
    (case n_Family___contains__ => k_is)
    (case a_Family___len__ => k_is)
    (case l_Family___len__ => k_is)
    (case c_Family___len__ => k_is)
    (case k_Family___len__ => k_is)
    (case n_Family___len__ => k_is)
    (case a_Family___eq__ => k_is)
    (case l_Family___eq__ => k_is)
    (case c_Family___eq__ => k_is)
    (case k_Family___eq__ => k_is)
    (case n_Family___eq__ => k_is)
    (case a_Family_plain => k_is)
    (case r_Family_plain => k_is)
    (case l_Family_plain => k_is)
    (case c_Family_plain => k_is)
    (case k_Family_plain => k_is)
    (case n_Family_plain => k_is)
    (case z_abs => k_is)
    (case z_all => k_is)
    (case z_any => k_is)
    (case z_dict => k_is)
    (case z_enumerate => k_is)
    (case z_int => k_is)
    (case z_isinstance => k_is)
    (case z_len => k_is)
    (case z_list => k_is)
    (case z_max => k_is)
    (case z_min => k_is)
    (case z_range => k_is)
    (case z_str => k_is)
    (case z_tuple => k_is)
    (case y_SMALL_LETTERS => k_is)
    (case y_CAPITAL_LETTERS => k_is)
    (case y_ROOT => k_is)
    (case y_FIRST_CLASSES => k_is)
    (case u_FIRST_CLASSES => k_is)
    (case u_FIRST_CLASSES_0 => k_is)
    (case u_FIRST_CLASSES_1 => k_is)
    (case u_FIRST_CLASSES_2 => k_is)
    (case u_FIRST_CLASSES_3 => k_is)
    (case y_MOST_CLASS_LETTERS => k_is)
