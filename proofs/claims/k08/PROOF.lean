
import PyProof.Rows.All
import Wide.All
import OpenK.AllK
import Wide.FinOn
import HandS.ForMost
import HandS.Wide
import HandS.IsInst
import HandS.EndBits
import HandS.Walk
import HandS.Style
import HandS.Defaults
import HandS.ExcInit
import HandS.ExcField
import HandS.ExcIs
import HandS.ForExc
import HandS.Star
import KE.GoesEnum
import KE.GoesMore
import PySem.Challenge.RW_whatpasses_k08_call_texts
set_option Elab.async false
set_option linter.all false
set_option maxRecDepth 100000
set_option maxHeartbeats 4000000

namespace Lw
open PySem PySem.Spec PyProof.Rows L2
def topS (i : Nat) : Stmt := PySem.Challenge.pw_whatpasses_k08_call_texts.main.body.getD i (.Pass ⟨0, 0, 0, 0⟩)
abbrev s_consists_of : Stmt := topS 5
theorem sc_consists_of : FnScope ["text", "characters", "character"] ["text", "characters"] (defScope s_consists_of) := ⟨rfl, rfl, rfl, by decide +kernel, rfl, by decide +kernel, by decide +kernel⟩
abbrev s_is_integer : Stmt := topS 6
theorem sc_is_integer : FnScope ["thing"] ["thing"] (defScope s_is_integer) := ⟨rfl, rfl, rfl, by decide +kernel, rfl, by decide +kernel, by decide +kernel⟩
abbrev s_is_small_word : Stmt := topS 7
theorem sc_is_small_word : FnScope ["thing", "most"] ["thing", "most"] (defScope s_is_small_word) := ⟨rfl, rfl, rfl, by decide +kernel, rfl, by decide +kernel, by decide +kernel⟩
abbrev s_is_name : Stmt := topS 13
theorem sc_is_name : FnScope ["thing"] ["thing"] (defScope s_is_name) := ⟨rfl, rfl, rfl, by decide +kernel, rfl, by decide +kernel, by decide +kernel⟩
abbrev s_can_be_constant : Stmt := topS 14
theorem sc_can_be_constant : FnScope ["thing"] ["thing"] (defScope s_can_be_constant) := ⟨rfl, rfl, rfl, by decide +kernel, rfl, by decide +kernel, by decide +kernel⟩
abbrev s_constant_text : Stmt := topS 15
theorem sc_constant_text : FnScope ["constant"] ["constant"] (defScope s_constant_text) := ⟨rfl, rfl, rfl, by decide +kernel, rfl, by decide +kernel, by decide +kernel⟩
abbrev s_call_text : Stmt := topS 16
theorem sc_call_text : FnScope ["name", "values", "at", "value"] ["name", "values"] (defScope s_call_text) := ⟨rfl, rfl, rfl, by decide +kernel, rfl, by decide +kernel, by decide +kernel⟩
abbrev s_law_take : Stmt := topS 18
theorem sc_law_take : FnScope ["bag", "many", "digit", "mixed"] ["bag", "many"] (defScope s_law_take) := ⟨rfl, rfl, rfl, by decide +kernel, rfl, by decide +kernel, by decide +kernel⟩
abbrev s_law_of : Stmt := topS 19
theorem sc_law_of : FnScope ["bag", "some"] ["bag", "some"] (defScope s_law_of) := ⟨rfl, rfl, rfl, by decide +kernel, rfl, by decide +kernel, by decide +kernel⟩
abbrev s_law_number : Stmt := topS 20
theorem sc_law_number : FnScope ["bag", "near", "way", "top"] ["bag", "near"] (defScope s_law_number) := ⟨rfl, rfl, rfl, by decide +kernel, rfl, by decide +kernel, by decide +kernel⟩
abbrev s_law_word : Stmt := topS 21
theorem sc_law_word : FnScope ["bag", "most", "turn"] ["bag", "most"] (defScope s_law_word) := ⟨rfl, rfl, rfl, by decide +kernel, rfl, by decide +kernel, by decide +kernel⟩
abbrev s_law_any_constant : Stmt := topS 22
theorem sc_law_any_constant : FnScope ["bag", "way"] ["bag"] (defScope s_law_any_constant) := ⟨rfl, rfl, rfl, by decide +kernel, rfl, by decide +kernel, by decide +kernel⟩
abbrev s_law_is_word : Stmt := topS 23
theorem sc_law_is_word : FnScope ["thing", "most", "sign"] ["thing", "most"] (defScope s_law_is_word) := ⟨rfl, rfl, rfl, by decide +kernel, rfl, by decide +kernel, by decide +kernel⟩
abbrev s_law_keywords : Stmt := topS 24
theorem sc_law_keywords : FnScope [] [] (defScope s_law_keywords) := ⟨rfl, rfl, rfl, by decide +kernel, rfl, by decide +kernel, by decide +kernel⟩
abbrev s_law_is_name : Stmt := topS 25
theorem sc_law_is_name : FnScope ["thing"] ["thing"] (defScope s_law_is_name) := ⟨rfl, rfl, rfl, by decide +kernel, rfl, by decide +kernel, by decide +kernel⟩
abbrev s_law_is_integer : Stmt := topS 26
theorem sc_law_is_integer : FnScope ["thing"] ["thing"] (defScope s_law_is_integer) := ⟨rfl, rfl, rfl, by decide +kernel, rfl, by decide +kernel, by decide +kernel⟩
abbrev s_law_is_constant : Stmt := topS 27
theorem sc_law_is_constant : FnScope ["thing"] ["thing"] (defScope s_law_is_constant) := ⟨rfl, rfl, rfl, by decide +kernel, rfl, by decide +kernel, by decide +kernel⟩
abbrev s_law_bag : Stmt := topS 28
theorem sc_law_bag : FnScope ["script", "at", "cell"] ["script", "at"] (defScope s_law_bag) := ⟨rfl, rfl, rfl, by decide +kernel, rfl, by decide +kernel, by decide +kernel⟩
abbrev s_law_any_name : Stmt := topS 29
theorem sc_law_any_name : FnScope ["bag", "letters", "found", "turn"] ["bag"] (defScope s_law_any_name) := ⟨rfl, rfl, rfl, by decide +kernel, rfl, by decide +kernel, by decide +kernel⟩
abbrev s_law_written : Stmt := topS 30
theorem sc_law_written : FnScope ["value", "one"] ["value"] (defScope s_law_written) := ⟨rfl, rfl, rfl, by decide +kernel, rfl, by decide +kernel, by decide +kernel⟩
abbrev s_law_call_text : Stmt := topS 31
theorem sc_law_call_text : FnScope ["name", "values", "value"] ["name", "values"] (defScope s_law_call_text) := ⟨rfl, rfl, rfl, by decide +kernel, rfl, by decide +kernel, by decide +kernel⟩
abbrev s_law_value : Stmt := topS 32
theorem sc_law_value : FnScope ["bag"] ["bag"] (defScope s_law_value) := ⟨rfl, rfl, rfl, by decide +kernel, rfl, by decide +kernel, by decide +kernel⟩
abbrev s_law_asked : Stmt := topS 33
theorem sc_law_asked : FnScope ["name", "some"] ["name", "some"] (defScope s_law_asked) := ⟨rfl, rfl, rfl, by decide +kernel, rfl, by decide +kernel, by decide +kernel⟩
abbrev s_law_due : Stmt := topS 34
theorem sc_law_due : FnScope ["name", "some", "at"] ["name", "some"] (defScope s_law_due) := ⟨rfl, rfl, rfl, by decide +kernel, rfl, by decide +kernel, by decide +kernel⟩
abbrev s_law : Stmt := topS 35
theorem sc_law : FnScope ["script", "at", "bag", "names", "strange", "name", "some", "due", "got", "told", "e", "turn"] ["script"] (defScope s_law) := ⟨rfl, rfl, rfl, by decide +kernel, rfl, by decide +kernel, by decide +kernel⟩
def clsDef : Stmt → Stmt
  | .ClassDef (body := b) .. => b.getD 0 (.Pass ⟨0, 0, 0, 0⟩)
  | _ => .Pass ⟨0, 0, 0, 0⟩
abbrev si_BadCall : Stmt := clsDef (topS 2)
theorem sci_BadCall : FnScope ["self", "at"] ["self", "at"] (defScope si_BadCall) := ⟨rfl, rfl, rfl, by decide +kernel, rfl, by decide +kernel, by decide +kernel⟩
/-- an own error class over ValueError whose __init__ stores its one field -/
structure ErrC (K : PySem.W.Frag) (mg : Str → Option Value) (x f : Str) (C fI : Addr) : Prop where
  g : mg x = some (.ref C)
  o : OexC K C
  i : PySem.W.findIn K (.ref C) "__init__" = some (some (.ref fI))
  t : PySem.W.typeIn K (.ref fI) = some (.type "function")
  xf : XfC K C
  no : PySem.W.findIn K (.ref C) f = some none
  te : PySem.W.exmOne K (.ref C) (.ref C) = some true
/-- a def with a star parameter -/
def StarD (K : PySem.W.Frag) (x : Str) (st : Stmt) (ps : List Str) (pv : Str) (f : Addr) : Prop := ∃ (oc : Value) (od : Option Addr) (kV doc pm : Value) (an : Option Addr) (cdv ct : Value) (osl : Array (Option Value)),
  K.lookup f = some ⟨oc, od, .func (PySem.W.fnOf x x (defArgs st) (defBody st) (defScope st) .none kV doc pm an cdv ct), osl⟩ ∧ PySem.W.codeIn K cdv x = true ∧ PySem.W.keepIn K (.ref f) = true ∧
  ∀ us rest : List Value, us.length = ps.length → bindArgs (PySem.W.fnOf x x (defArgs st) (defBody st) (defScope st) .none kV doc pm an cdv ct) ⟨us ++ rest, []⟩ = (newTuple rest >>= fun t => pure (ps.zip us ++ [(pv, t)]))
def vals_KEYWORDS : List V := [.str (Str.ofString "and"), .str (Str.ofString "assert"), .str (Str.ofString "assume"), .str (Str.ofString "break"), .str (Str.ofString "call"), .str (Str.ofString "clear"), .str (Str.ofString "continue"), .str (Str.ofString "else"), .str (Str.ofString "end"), .str (Str.ofString "error"), .str (Str.ofString "except"), .str (Str.ofString "fail"), .str (Str.ofString "for"), .str (Str.ofString "from"), .str (Str.ofString "if"), .str (Str.ofString "in"), .str (Str.ofString "is"), .str (Str.ofString "len"), .str (Str.ofString "let"), .str (Str.ofString "list"), .str (Str.ofString "none"), .str (Str.ofString "not"), .str (Str.ofString "number"), .str (Str.ofString "on"), .str (Str.ofString "or"), .str (Str.ofString "pass"), .str (Str.ofString "raises"), .str (Str.ofString "return"), .str (Str.ofString "set"), .str (Str.ofString "skip"), .str (Str.ofString "test"), .str (Str.ofString "try"), .str (Str.ofString "under"), .str (Str.ofString "word")]
/-- what the top leaves: where the defs stand, which names are built-in -/
structure Txt (K : PySem.W.Frag) (mg : Str → Option Value) where
  f_consists_of : Addr
  fd_consists_of : FuncData
  F_consists_of : Fun K "consists_of" "consists_of" s_consists_of f_consists_of fd_consists_of
  b_consists_of : Binds K fd_consists_of ["text", "characters"] []
  g_consists_of : mg "consists_of" = some (.ref f_consists_of)
  f_is_integer : Addr
  fd_is_integer : FuncData
  F_is_integer : Fun K "is_integer" "is_integer" s_is_integer f_is_integer fd_is_integer
  b_is_integer : Binds K fd_is_integer ["thing"] []
  g_is_integer : mg "is_integer" = some (.ref f_is_integer)
  f_is_small_word : Addr
  fd_is_small_word : FuncData
  F_is_small_word : Fun K "is_small_word" "is_small_word" s_is_small_word f_is_small_word fd_is_small_word
  b_is_small_word : Binds K fd_is_small_word ["thing", "most"] []
  g_is_small_word : mg "is_small_word" = some (.ref f_is_small_word)
  f_is_name : Addr
  fd_is_name : FuncData
  F_is_name : Fun K "is_name" "is_name" s_is_name f_is_name fd_is_name
  b_is_name : Binds K fd_is_name ["thing"] []
  g_is_name : mg "is_name" = some (.ref f_is_name)
  f_can_be_constant : Addr
  fd_can_be_constant : FuncData
  F_can_be_constant : Fun K "can_be_constant" "can_be_constant" s_can_be_constant f_can_be_constant fd_can_be_constant
  b_can_be_constant : Binds K fd_can_be_constant ["thing"] []
  g_can_be_constant : mg "can_be_constant" = some (.ref f_can_be_constant)
  f_constant_text : Addr
  fd_constant_text : FuncData
  F_constant_text : Fun K "constant_text" "constant_text" s_constant_text f_constant_text fd_constant_text
  b_constant_text : Binds K fd_constant_text ["constant"] []
  g_constant_text : mg "constant_text" = some (.ref f_constant_text)
  f_call_text : Addr
  S_call_text : StarD K "call_text" s_call_text ["name"] "values" f_call_text
  g_call_text : mg "call_text" = some (.ref f_call_text)
  f_law_take : Addr
  fd_law_take : FuncData
  F_law_take : Fun K "_law_take" "_law_take" s_law_take f_law_take fd_law_take
  b_law_take : Binds K fd_law_take ["bag", "many"] []
  g_law_take : mg "_law_take" = some (.ref f_law_take)
  f_law_of : Addr
  fd_law_of : FuncData
  F_law_of : Fun K "_law_of" "_law_of" s_law_of f_law_of fd_law_of
  b_law_of : Binds K fd_law_of ["bag", "some"] []
  g_law_of : mg "_law_of" = some (.ref f_law_of)
  f_law_number : Addr
  fd_law_number : FuncData
  F_law_number : Fun K "_law_number" "_law_number" s_law_number f_law_number fd_law_number
  b_law_number : Binds K fd_law_number ["bag", "near"] []
  g_law_number : mg "_law_number" = some (.ref f_law_number)
  f_law_word : Addr
  fd_law_word : FuncData
  F_law_word : Fun K "_law_word" "_law_word" s_law_word f_law_word fd_law_word
  b_law_word : Binds K fd_law_word ["bag", "most"] []
  g_law_word : mg "_law_word" = some (.ref f_law_word)
  f_law_any_constant : Addr
  fd_law_any_constant : FuncData
  F_law_any_constant : Fun K "_law_any_constant" "_law_any_constant" s_law_any_constant f_law_any_constant fd_law_any_constant
  b_law_any_constant : Binds K fd_law_any_constant ["bag"] []
  g_law_any_constant : mg "_law_any_constant" = some (.ref f_law_any_constant)
  f_law_is_word : Addr
  fd_law_is_word : FuncData
  F_law_is_word : Fun K "_law_is_word" "_law_is_word" s_law_is_word f_law_is_word fd_law_is_word
  b_law_is_word : Binds K fd_law_is_word ["thing", "most"] []
  g_law_is_word : mg "_law_is_word" = some (.ref f_law_is_word)
  f_law_keywords : Addr
  fd_law_keywords : FuncData
  F_law_keywords : Fun K "_law_keywords" "_law_keywords" s_law_keywords f_law_keywords fd_law_keywords
  b_law_keywords : Binds K fd_law_keywords [] []
  g_law_keywords : mg "_law_keywords" = some (.ref f_law_keywords)
  f_law_is_name : Addr
  fd_law_is_name : FuncData
  F_law_is_name : Fun K "_law_is_name" "_law_is_name" s_law_is_name f_law_is_name fd_law_is_name
  b_law_is_name : Binds K fd_law_is_name ["thing"] []
  g_law_is_name : mg "_law_is_name" = some (.ref f_law_is_name)
  f_law_is_integer : Addr
  fd_law_is_integer : FuncData
  F_law_is_integer : Fun K "_law_is_integer" "_law_is_integer" s_law_is_integer f_law_is_integer fd_law_is_integer
  b_law_is_integer : Binds K fd_law_is_integer ["thing"] []
  g_law_is_integer : mg "_law_is_integer" = some (.ref f_law_is_integer)
  f_law_is_constant : Addr
  fd_law_is_constant : FuncData
  F_law_is_constant : Fun K "_law_is_constant" "_law_is_constant" s_law_is_constant f_law_is_constant fd_law_is_constant
  b_law_is_constant : Binds K fd_law_is_constant ["thing"] []
  g_law_is_constant : mg "_law_is_constant" = some (.ref f_law_is_constant)
  f_law_bag : Addr
  fd_law_bag : FuncData
  F_law_bag : Fun K "_law_bag" "_law_bag" s_law_bag f_law_bag fd_law_bag
  b_law_bag : Binds K fd_law_bag ["script", "at"] []
  g_law_bag : mg "_law_bag" = some (.ref f_law_bag)
  f_law_any_name : Addr
  fd_law_any_name : FuncData
  F_law_any_name : Fun K "_law_any_name" "_law_any_name" s_law_any_name f_law_any_name fd_law_any_name
  b_law_any_name : Binds K fd_law_any_name ["bag"] []
  g_law_any_name : mg "_law_any_name" = some (.ref f_law_any_name)
  f_law_written : Addr
  fd_law_written : FuncData
  F_law_written : Fun K "_law_written" "_law_written" s_law_written f_law_written fd_law_written
  b_law_written : Binds K fd_law_written ["value"] []
  g_law_written : mg "_law_written" = some (.ref f_law_written)
  f_law_call_text : Addr
  fd_law_call_text : FuncData
  F_law_call_text : Fun K "_law_call_text" "_law_call_text" s_law_call_text f_law_call_text fd_law_call_text
  b_law_call_text : Binds K fd_law_call_text ["name", "values"] []
  g_law_call_text : mg "_law_call_text" = some (.ref f_law_call_text)
  f_law_value : Addr
  fd_law_value : FuncData
  F_law_value : Fun K "_law_value" "_law_value" s_law_value f_law_value fd_law_value
  b_law_value : Binds K fd_law_value ["bag"] []
  g_law_value : mg "_law_value" = some (.ref f_law_value)
  f_law_asked : Addr
  fd_law_asked : FuncData
  F_law_asked : Fun K "_law_asked" "_law_asked" s_law_asked f_law_asked fd_law_asked
  b_law_asked : Binds K fd_law_asked ["name", "some"] []
  g_law_asked : mg "_law_asked" = some (.ref f_law_asked)
  f_law_due : Addr
  fd_law_due : FuncData
  F_law_due : Fun K "_law_due" "_law_due" s_law_due f_law_due fd_law_due
  b_law_due : Binds K fd_law_due ["name", "some"] []
  g_law_due : mg "_law_due" = some (.ref f_law_due)
  cC_BadCall : Addr
  cI_BadCall : Addr
  cfd_BadCall : FuncData
  cF_BadCall : Fun K "__init__" "BadCall.__init__" si_BadCall cI_BadCall cfd_BadCall
  cb_BadCall : Binds K cfd_BadCall ["self", "at"] []
  cE_BadCall : ErrC K mg "BadCall" "at" cC_BadCall cI_BadCall
  m_abs : mg "abs" = none
  m_all : mg "all" = none
  m_bool : mg "bool" = none
  m_enumerate : mg "enumerate" = none
  m_int : mg "int" = none
  m_isinstance : mg "isinstance" = none
  m_len : mg "len" = none
  m_max : mg "max" = none
  m_min : mg "min" = none
  m_range : mg "range" = none
  m_str : mg "str" = none
  m_tuple : mg "tuple" = none
  c_SMALL_LETTERS : ∃ t, mg "SMALL_LETTERS" = some (.str "abcdefghijklmnopqrstuvwxyz" t)
  a_KEYWORDS : Addr
  c_KEYWORDS : mg "KEYWORDS" = some (.ref a_KEYWORDS)
  q_KEYWORDS : ∀ H : Hp, SqT K H a_KEYWORDS vals_KEYWORDS
  c_MOST_NAME_LETTERS : ∃ t, mg "MOST_NAME_LETTERS" = some (.int 12 t)
  c_MOST_STRING_LETTERS : ∃ t, mg "MOST_STRING_LETTERS" = some (.int 8 t)
  c_MOST_CONSTANTS : ∃ t, mg "MOST_CONSTANTS" = some (.int 3 t)
/-! ### short steps: where the walk's name is only a name -/

/-! ### isinstance -/
theorem ty_non {K : PySem.W.Frag} {H : Hp} : TyX K H .non (.type "NoneType") := .base .non
theorem ty_bl {K : PySem.W.Frag} {H : Hp} {b : Bool} : TyX K H (.bl b) (.type "bool") := .base (.bl b)
theorem ty_int {K : PySem.W.Frag} {H : Hp} {i : Int} : TyX K H (.int i) (.type "int") := .base (.int i)
theorem ty_str {K : PySem.W.Frag} {H : Hp} {z : Str} : TyX K H (.str z) (.type "str") := .base (.str z)
theorem ty_lst {K : PySem.W.Frag} {H : Hp} {a : Addr} {xs : List V} (e : H a = some (.lst xs)) : TyX K H (.ref a) (.type "list") := .base (.lst e)
theorem ty_tup {K : PySem.W.Frag} {H : Hp} {a : Addr} {xs : List V} (e : H a = some (.tup xs)) : TyX K H (.ref a) (.type "tuple") := .base (.tup e)
theorem kit_of2 {K : PySem.W.Frag} {a c : String} (r : Bool) (h : kitB a c = some r) : PySem.W.kitOne K (.type a) (.type c) = some r := kit_ty h

theorem ty_sqL {K : PySem.W.Frag} {H : Hp} {a : Addr} {xs : List V} (h : SqL K H a xs) : TyX K H (.ref a) (.type "list") := by
  rcases h with (h | ⟨o, h⟩) | ⟨o, its, n, h, c, _⟩
  · exact .base (.lst h)
  · exact .base (.frz h)
  · exact .kList h c
theorem ty_sqT {K : PySem.W.Frag} {H : Hp} {a : Addr} {xs : List V} (h : SqT K H a xs) : TyX K H (.ref a) (.type "tuple") := by
  rcases h with (h | ⟨o, h⟩) | ⟨o, its, n, h, c, _⟩
  · exact .base (.tup h)
  · exact .fTuple h
  · exact .kTuple h c
theorem small5 {n : Nat} (h : n ≤ 100000) : n < sizeLine := Nat.lt_of_le_of_lt h (by decide)
def isUp (c : Nat) : Bool := decide (65 ≤ c ∧ c ≤ 90)
def isLow (c : Nat) : Bool := decide (97 ≤ c ∧ c ≤ 122)

local macro_rules | `(tactic| walk_at "lw list") => `(tactic| first | assumption | exact upd_same | (rw [upd_ne (by assumption)]; assumption))
local macro_rules | `(tactic| walk_at "lw c") => `(tactic| first
  | (show (_ : Int) ≠ 0; omega)
  | exact log_small (by omega) (by assumption)
  | exact Or.inl ⟨by omega, by omega⟩
  | exact Or.inr ⟨by omega, by omega⟩
  | exact ⟨by omega, by omega⟩
  | exact ⟨by omega, by omega, by omega⟩)
local macro_rules | `(tactic| walk_at "lw n") => `(tactic| first | exact Nat.zero_le _ | (refine Nat.le_of_lt (small1000 ?_); simp only [List.length_cons, List.length_nil]; decide))
local macro_rules | `(tactic| walk_at "lw v") => `(tactic| first
  | refine ⟨_, rfl, ?_⟩
  | refine ⟨_, _, rfl, rfl, ?_⟩
  | refine ⟨_, _, rfl, ?_⟩
  | refine .inl ⟨_, rfl, ?_⟩
  | refine ⟨⟨_, rfl⟩, ?_⟩
  | refine ⟨rfl, ?_⟩
  | (refine' ⟨_, _, _, _, rfl, rfl, SqL.of ?h, ?r, ?_⟩; (case h => walk_at "lw list"); (case r => rfl))
  | (refine' ⟨_, _, _, _, rfl, rfl, ?h, ?r, ?_⟩; (case h => walk_at "lw list"); (case r => rfl))
  | (refine' ⟨_, _, rfl, .inl ⟨_, SqL.of ?h, rfl⟩, ?_⟩; (case h => walk_at "lw list"))
  | (refine' ⟨_, _, rfl, .inl ⟨_, ?h, rfl⟩, ?_⟩; (case h => assumption))
  | (refine' ⟨_, _, rfl, .inr ⟨_, ?h, rfl⟩, ?_⟩; (case h => assumption))
  | (refine ⟨_, _, rfl, ⟨(by have := PySem.sizeLine_eq; omega), rfl⟩, ?_⟩)
  | (refine ⟨(by walk_at "lw c"), ?_⟩))
local macro_rules | `(tactic| walk_at "lw isi") => `(tactic| (refine' ⟨_, _, _, _, _, rfl, .ty _, ?ty, ?k, ?_⟩; (case ty => first | exact ty_int | exact ty_str | exact ty_non | exact ty_bl | exact ty_lst (by assumption) | exact ty_tup (by assumption) | exact ty_sqL (by assumption) | exact ty_sqT (by assumption)); (case k => first | (refine kit_of2 true ?_; decide +kernel) | (refine kit_of2 false ?_; decide +kernel))))
local macro_rules | `(tactic| walk_at "lw w") => `(tactic| first | walk_at "lw v" | walk_at "lw isi")

/-! ### own errors, defs with a star -/
/-- __init__ of an error with one field -/
def sp_init (f : Str) (C : Addr) : Sp := fun vs H Q _ => ∃ (a : Addr) (v : V), vs = [.ref a, v] ∧ H a = some (exo a C none) ∧ ∀ dx, H dx = none → dx ≠ a → Q .non (upd (upd H dx (exd dx [(f, v)])) a (exo a C (some dx)))
/-- an error is made: what its making asks -/
theorem mk_err {f : Str} {C : Addr} {v : V} {H1 : Hp} {Q : XK} (h : ∀ d, H1 d = none → Q (.ref C) (some d) (upd H1 d (.xd [(f, v)]))) :
    [v].length ≤ 1000 ∧ ∀ a, H1 a = none → sp_init f C (.ref a :: ([v] ++ [])) (upd H1 a (exo a C none))
      (fun u H2 => u = .non ∧ ∃ (d : Addr) (fs : List (Str × V)), H2 a = some (exo a C (some d)) ∧ H2 d = some (exd d fs) ∧ H1 d = none ∧ Q (.ref C) (some d) (upd (del H2 a) d (.xd fs))) (fun _ _ _ => False) := by
  refine ⟨(show 1 ≤ 1000 by decide), fun a na => ⟨a, v, rfl, upd_same, fun dx nd ne => ⟨rfl, dx, [(f, v)], upd_same, ?_, ?_, ?_⟩⟩⟩
  · rw [upd_ne ne]
    exact upd_same
  · rw [upd_ne ne] at nd
    exact nd
  · have e : upd (del (upd (upd (upd H1 a (exo a C none)) dx (exd dx [(f, v)])) a (exo a C (some dx))) a) dx (.xd [(f, v)]) = upd H1 dx (.xd [(f, v)]) := by
      funext q
      by_cases h1 : q = dx
      · rw [h1, upd_same, upd_same]
      · rw [upd_ne h1, upd_ne h1]
        by_cases h2 : q = a
        · rw [h2, del_same, na]
        · rw [del_ne h2, upd_ne h2, upd_ne h1, upd_ne h2]
    rw [e]
    rw [upd_ne ne] at nd
    exact h dx nd

/-- a call of a def that is told by what it is passed -/
theorem pe_callF {X : Cx} {CX : CXT} {k : Nat} {f : Addr} {sp : Sp} {E : XK} {x : Str} {e : Expr} {es : List Expr} {t : TA} {p pos : Pos} (F : FnR X.prog X.w X.K X.mg X.base CX k f sp) (hr : Room k X.A) (hk : PySem.W.keepIn X.K (.ref f) = true)
    (hg : Gl X x) (hm : X.mg x = some (.ref f)) (hx : Passes CX X E) (ha : PA X (e :: es) t) (nd : (x == ("__debug__" : Str)) = false := by decide)
    (hs : starEach (e :: es) X.env = (false, eval e X.env) :: starEach es X.env := by rfl) (hp : (backTo pos (starEach es X.env)).any (·.1) = false := by rfl) :
    PE X (.Call (.Name x p) (e :: es) [] pos) (fun σ H Q => t σ H fun vs H1 => sp vs H1 Q E) :=
  ⟨fun ps s σ H Q J h => wpAny_Call_Name_kw (ld_glob J hg hm (PySem.W.callWith_K (h₀ := X.base) J.ok.mod.kin hk (thn (ha.run pos ps s σ H _ J h) fun us s1 hh => by
      obtain ⟨vs, H1, J1, r, q⟩ := hh
      exact ⟨J1.kIn, wpAny_call (run_fnR F hr hx J1 r q)⟩) hs hp) nd)⟩
theorem StarD.kp {K : PySem.W.Frag} {x : Str} {st : Stmt} {ps : List Str} {pv : Str} {f : Addr} (F : StarD K x st ps pv f) : PySem.W.keepIn K (.ref f) = true := by
  obtain ⟨_, _, _, _, _, _, _, _, _, _, _, h, _⟩ := F
  exact h
/-- what may be passed: as many as there are parameters ahead, then any number -/
def spStar (n : Nat) (sp : Sp) : Sp := fun vs H Q E => ∃ ws rest, vs = ws ++ rest ∧ ws.length = n ∧ rest.length ≤ sizeLine ∧ ∀ p, H p = Option.none → sp (ws ++ [V.ref p]) (upd H p (.tup rest)) Q E
theorem StarD.ok {P : Program} {w : World} {K : PySem.W.Frag} {mg : Str → Option Value} {base : Heap} {CX : CXT} {k : Nat} {x : Str} {st : Stmt} {N ps : List Str} {pv : Str} {f : Addr} {sp : Sp} (F : StarD K x st ps pv f) (S : FnScope N (ps ++ [pv]) (defScope st)) (up : StX.CXUp CX)
    (body : ∀ (cdv : Value) (A : Around) (outer : List Env) (s : Shared) (H : Hp) (vs : List V) (Q : VK) (E : XK), Room k (A.deeper (envOfC x (defScope st) s.heap.objs.size f cdv)) → sp vs H Q E →
      ∃ t, PSs (cxOf CX P w K mg base N x (defScope st) f cdv A outer s H E) (defBody st) t ∧ t { nx := fun _ H' => Q .non H', rt := Q } (start N vs) H) :
    FnR P w K mg base CX (k + 1) f (spStar ps.length sp) := by
  obtain ⟨oc, od, kV, doc, pm, an, cdv, ct, osl, l, c, _, b⟩ := F
  exact StX.fn_star l c S up b fun A outer s H vs Q E hr h => body cdv A outer s H vs Q E hr h

/-! ### enumerate over a tuple -/
theorem meets_enum1 {v : Value} {o : Obj} {φ : Heap → Prop} (bg : Begins v o φ) :
    Meets (Builtin.«enumerate.__new__» ⟨[.type "enumerate", v], []⟩) (fun _ R s => φ s.heap ∧
      R (.ok (.ret (.ref (s.heap.push o).objs.size))) { s with heap := (s.heap.push o).push { cls := .type "enumerate", data := .fields #[.none, .bool false, .ref s.heap.objs.size, rawInt 0, .none, .none] } }) :=
  .of_wp fun pr wd ar rr sh hh => by
    obtain ⟨hq, gq, dq, tq, oq⟩ := sh; obtain ⟨k1, k2⟩ := hh
    have subE := sub_enumerate
    have it1 : ∀ {A' : Around} {Ex : Value → Shared → Prop} {Qx : Value → Shared → Prop}, Qx (.ref hq.objs.size) ⟨hq.push o, gq, dq, tq, oq⟩ → wpAny (model pr wd) A' (pyIter v) Qx Ex ⟨hq, gq, dq, tq, oq⟩ :=
      fun q => bg.iter pr wd _ _ ⟨hq, gq, dq, tq, oq⟩ _ k1 q
    wp_walk using it1
    refine wpAny_stack_any fun stk => wpAny_pure ?_
    split
    · rename_i cl _ _ _ _ _
      cases (cl == Value.type "enumerate") <;> (wp_walk using it1) <;> exact ⟨_, rfl, k2⟩
    · wp_walk using it1
      exact ⟨_, rfl, k2⟩
theorem call_enum1 {pr : Program} {wd : World} {A : Around} {Ex : Value → Shared → Prop} {s : Shared} {v : Value} {o : Obj} {φ : Heap → Prop} {Qx : Value → Shared → Prop} (bg : Begins v o φ) (k1 : φ s.heap)
    (k2 : ∀ h', IsEnum h' (s.heap.objs.size + 1) s.heap.objs.size 0 .none → h'.get? s.heap.objs.size = some o → (∀ b u, s.heap.get? b = some u → h'.get? b = some u) → Qx (.ref (s.heap.objs.size + 1)) { s with heap := h' }) :
    wpAny (model pr wd) A (call (.type "enumerate") [v]) Qx Ex s := by
  have hz : (s.heap.push o).objs.size = s.heap.objs.size + 1 := Heap.size_push ..
  have he : IsEnum ((s.heap.push o).push { cls := .type "enumerate", data := .fields #[.none, .bool false, .ref s.heap.objs.size, rawInt 0, .none, .none] }) (s.heap.objs.size + 1) s.heap.objs.size 0 .none := by
    have e := Heap.get?_push_size (s.heap.push o) (o := { cls := .type "enumerate", data := .fields #[.none, .bool false, .ref s.heap.objs.size, rawInt 0, .none, .none] }) rfl
    rw [hz] at e
    exact e
  refine callType_new F.called_enumerate (by decide) (F.typeCall_enumerate_1 _) (F.newCall_enumerate_1 _) (fun ob => F.args_object_init_2 ob _) F.entry_enumerate_new (meets_enum1 bg) ⟨k1, ?_⟩
  show _ ∧ _
  rw [hz]
  exact ⟨⟨_, he, rfl⟩, k2 _ he (Heap.get?_push_of_some _ (Heap.get?_push_size _ bg.free)) fun b u e => Heap.get?_push_of_some _ (Heap.get?_push_of_some _ e)⟩
/-- the tuple at a: each item in a new pair -/
def ItE (K : PySem.W.Frag) (a : Addr) : It where
  go := fun i H => ∃ (xs : List V) (x : V), SqT K H a xs ∧ xs[i]? = some x
  yld := fun i H v H' => ∃ T x, v = .ref T ∧ H T = none ∧ H' = upd H T (.tup [.int (i : Nat), x]) ∧ ∀ xs, SqT K H a xs → xs[i]? = some x
  stop := fun i H => ∃ xs : List V, SqT K H a xs ∧ xs.length = i
theorem turn_enumT {P : Program} {w : World} {K : PySem.W.Frag} {el : List Expr} {kk : Nat} {tp : Pos} (a e it : Addr) :
    Turn P w K (.Tuple el kk tp) (ItE K a) [e, it] e (fun i h => (∃ old, IsEnum h e it ((i : Nat) : Int) old) ∧ h.IsTupleIter it a i ∧ e ≠ it) := by
  refine { mem := List.mem_cons_self, obj := ?_, keep := ?_, item := ?_, done := ?_, self := ?_ }
  · rintro i h ⟨⟨old, he⟩, ⟨o, ho, hc, hd⟩, _⟩ b hb
    rcases List.mem_cons.mp hb with z | z
    · subst z
      exact ⟨_, he, fun v q => nomatch q⟩
    · have z := List.mem_singleton.mp z
      subst z
      exact ⟨o, ho, fun v q => by rw [hd] at q; cases q⟩
  · rintro i h h' ⟨⟨old, he⟩, hi, hne⟩ k
    exact ⟨⟨old, k e List.mem_cons_self _ he⟩, hi.at fun o q => k it (List.mem_cons_of_mem _ List.mem_cons_self) o q, hne⟩
  · rintro X rfl rfl rfl hc i pins s σ H E J hf ⟨⟨old, he⟩, hit, hne⟩ ⟨xs, x, hq, hx⟩
    obtain ⟨its, rv, p, hz⟩ := J.tuple hq
    obtain ⟨u, hu, ru⟩ := rv.get hx
    have pT : s.heap.IsTuple a its.toArray := p
    have hea : a ≠ e := fun z => by
      obtain ⟨o, ho, hcl, _⟩ := pT
      rw [z, he] at ho
      cases ho
      have hcl : Value.type "enumerate" = Value.type "tuple" := hcl
      injection hcl with hcl
      exact absurd hcl (by decide)
    have hia : a ≠ it := fun z => by
      obtain ⟨o, ho, hcl, _⟩ := pT
      obtain ⟨o2, ho2, hcl2, _⟩ := hit
      rw [z, ho2] at ho
      cases ho
      rw [hcl2] at hcl
      injection hcl with hcl
      exact absurd hcl (by decide)
    have hel : e < s.heap.objs.size := Heap.lt_size he
    have hil : it < s.heap.objs.size := by
      obtain ⟨_, q, _⟩ := hit
      exact Heap.lt_size q
    have hh : X.A.in1.handled = none := J.ok.hd hc
    have hlt : i < its.toArray.size := by
      rw [List.size_toArray]
      exact (List.getElem?_eq_some_iff.mp hu).1
    refine wpAny_pyNext_enum_itemD (Draws.tuple hh it a hia its.toArray) he ⟨hit, pT⟩ hlt hne (by simp [hne, Ne.symm hea]) fun y h1 tk hy ho hst hT hsz hk => ?_
    have ey : y = u := by
      have h2 : its[i]? = some y := by simpa using hy
      rw [hu] at h2
      exact (Option.some.inj h2).symm
    subst ey
    refine ⟨_, rfl, wpAny_letOwnedTupleGo_enum (s := { s with heap := h1, toks := tk + 1 }) ho fun h2 he2 sb => ?_⟩
    have hT2 : h2.get? s.heap.objs.size = some { cls := .type "tuple", data := .seq #[.int i tk, y] } := (sb.2 _ (Nat.ne_of_gt hel)).trans hT
    have nw : ObjOk X.prog X.w (upd H s.heap.objs.size (.tup [.int (i : Nat), x])) h2 s.heap.objs.size (.tup [.int (i : Nat), x]) :=
      ⟨by show 2 ≤ sizeLine; decide, [.int i tk, y], .cons ⟨_, rfl⟩ (.cons ru .nil), ⟨_, hT2, rfl, _, rfl⟩⟩
    have J1 : Inv X pins σ (upd H s.heap.objs.size (.tup [.int (i : Nat), x])) { s with heap := h2, toks := tk + 1 } :=
      J.turnedNew (ch := [e, it]) (fun b ob hb q => (sb.2 b (fun z => hb (z ▸ List.mem_cons_self))).trans (hk b ob (fun z => hb (z ▸ List.mem_cons_self)) (fun z => hb (z ▸ List.mem_cons_of_mem _ List.mem_cons_self)) q)) hf (Nat.le_refl _) nw
    refine ⟨.ref s.heap.objs.size, _, J1, rfl, ⟨_, x, rfl, J.hok.fresh (Nat.le_refl _), rfl, fun ys hy => ?_⟩, ⟨⟨y, ?_⟩, hst.1.at fun o q => (sb.2 it (Ne.symm hne)).trans q, hne⟩, fun b hb => ?_⟩
    · have : ys = xs := J.tuple_inj hy hq
      rw [this]
      exact hx
    · have e1 : ((i + 1 : Nat) : Int) = (i : Int) + 1 := by omega
      rw [e1]
      exact he2
    · have hb2 : b < s.heap.objs.size := by
        rcases List.mem_cons.mp hb with z | z
        · rw [z]; exact hel
        · rw [List.mem_singleton.mp z]; exact hil
      rw [upd_ne (Nat.ne_of_lt hb2)]
      exact (hf b hb).1
  · rintro X rfl rfl rfl hc i pins s σ H E J hf ⟨⟨old, he⟩, hit, hne⟩ ⟨xs, hq, hx⟩
    obtain ⟨its, rv, p, hz⟩ := J.tuple hq
    have pT : s.heap.IsTuple a its.toArray := p
    obtain ⟨f0, f1, f2, f3, f4, f5⟩ := hf it (List.mem_cons_of_mem _ List.mem_cons_self)
    have hia : a ≠ it := fun z => by
      obtain ⟨o, ho, hcl, _⟩ := pT
      obtain ⟨o2, ho2, hcl2, _⟩ := hit
      rw [z, ho2] at ho
      cases ho
      rw [hcl2] at hcl
      injection hcl with hcl
      exact absurd hcl (by decide)
    have hh : X.A.in1.handled = none := J.ok.hd hc
    have hl : its.toArray.size = i := by
      rw [List.size_toArray, ← rv.length]
      exact hx
    refine wpAny_pyNext_enum_endD (Draws.tuple hh it a hia its.toArray) he (by rw [hl]; exact ⟨hit, pT⟩) fun h1 eb => ⟨rfl, J.turned (t' := s.toks) (fun b o hb q => eb b o hb q) f0 f1 f3 f4 f5⟩
  · rintro A i s Q E ⟨⟨_, he⟩, _⟩ h
    exact wpAny_pyIter_enum he h
def iEnumT (K : PySem.W.Frag) (ta : TA) : TI := fun σ H R => ta σ H fun vs H1 => ∃ a xs, vs = [.ref a] ∧ SqT K H1 a xs ∧ R (ItE K a) H1
theorem pi_enumT {X : Cx} {e : Expr} {ta : TA} {p pos tp : Pos} {el : List Expr} {kk : Nat} (gE : Gl X "enumerate") (mE : X.mg "enumerate" = none) (ha : PA X [e] ta) (hs : starEach [e] X.env = [(false, eval e X.env)] := by rfl) :
    PI X (.Tuple el kk tp) (.Call (.Name "enumerate" p) [e] [] pos) (iEnumT X.K ta) := by
  refine ⟨fun pins s σ H R J h => ?_⟩
  refine Call_ (ld_blt J gE mE boot_enumerate (PyProof.Rows.callWith_type1 (thn (ha.run pos pins s σ H _ J h) fun us s1 hh => ?_) hs rfl))
  obtain ⟨vs, H1, J1, r1, a, xs, ex, hq, q⟩ := hh
  subst ex
  cases r1 with
  | cons r rr =>
    cases rr
    cases r
    obtain ⟨its, rv, p2, hz⟩ := J1.tuple hq
    refine call_enum1 (begins_tuple a its.toArray) (show s1.heap.IsTuple a its.toArray from p2) fun h1 he hit hk => wpAny_pyIter_enum he ?_
    have J2 : Inv X pins σ H1 { s1 with heap := h1 } := J1.kept (t' := s1.toks) hk
    refine ⟨s1.heap.objs.size + 1, [s1.heap.objs.size + 1, s1.heap.objs.size], _, _, H1, rfl, J2, turn_enumT a (s1.heap.objs.size + 1) s1.heap.objs.size, ⟨⟨.none, he⟩, ⟨_, hit, rfl, rfl⟩, Nat.succ_ne_self _⟩, fun b hb => ?_, q⟩
    have hle : s1.heap.objs.size ≤ b := by
      rcases List.mem_cons.mp hb with z | z
      · rw [z]; exact Nat.le_add_right _ _
      · rw [List.mem_singleton.mp z]; exact Nat.le_refl _
    exact J1.fpOk hle (J1.hok.fresh hle)
theorem walk_enumT {K : PySem.W.Frag} {a : Addr} {xs : List V} : Walk (ItE K a) xs.length (fun H => SqT K H a xs) (YPair (fun i => some (.int (i : Nat))) (fun i => xs[i]?)) := by
  refine ⟨fun i _ hi q => ⟨xs, xs[i], q, List.getElem?_eq_getElem hi⟩, fun _ q => ⟨xs, q, rfl⟩, fun i H v H' _ q y => ?_⟩
  obtain ⟨T, x, h1, h2, h3, h4⟩ := y
  exact ⟨T, .int (i : Nat), x, h1, h2, h3, rfl, h4 xs q⟩

/-! ### the draws -/
/-- the bag of draws at b: its last number is at most n -/
def Bag (H : Hp) (b : Addr) (n : Int) : Prop := ∃ x y z : Int, H b = some (.lst [.int x, .int y, .int z]) ∧ 0 ≤ x ∧ 0 ≤ y ∧ y ≤ 2000000000 ∧ 0 ≤ z ∧ z ≤ n
/-- all that was tracked stands as it stood, but what stands at b -/
def Keep (b : Addr) (H H' : Hp) : Prop := ∀ q o, q ≠ b → H q = some o → H' q = some o
theorem Keep.refl (b : Addr) (H : Hp) : Keep b H H := fun _ _ _ h => h
theorem Keep.trans {b : Addr} {H H1 H2 : Hp} (x : Keep b H H1) (y : Keep b H1 H2) : Keep b H H2 := fun q o n h => y q o n (x q o n h)
theorem Keep.upd (b : Addr) (H : Hp) (o : HO) : Keep b H (upd H b o) := fun q u n h => by rw [upd_ne n]; exact h
theorem Keep.new {b p : Addr} {H : Hp} {o : HO} (hp : H p = none) : Keep b H (L2.upd H p o) := fun q u _ h => by
  rw [upd_ne (ne_of_none h hp)]
  exact h
theorem Bag.new {b p : Addr} {H : Hp} {o : HO} {n : Int} (h : Bag H b n) (hp : H p = none) : Bag (L2.upd H p o) b n := by
  obtain ⟨x, y, z, e, r⟩ := h
  exact ⟨x, y, z, by rw [upd_ne (ne_of_none e hp)]; exact e, r⟩
theorem Bag.mono {b : Addr} {H : Hp} {n m : Int} (h : Bag H b n) (l : n ≤ m) : Bag H b m := by
  obtain ⟨x, y, z, e, r1, r2, r3, r4, r5⟩ := h
  exact ⟨x, y, z, e, r1, r2, r3, r4, by omega⟩
theorem Bag.ne {b p : Addr} {H : Hp} {n : Int} (h : Bag H b n) (hp : H p = none) : b ≠ p := by
  obtain ⟨x, y, z, e, _⟩ := h
  exact ne_of_none e hp
theorem same_new {H : Hp} {p : Addr} {o : HO} (h : H p = none) : Same H (upd H p o) := fun b x e => by
  rw [upd_ne (ne_of_none e h)]
  exact e

/-- a draw: an int from 0 to m less one -/
def sp_take : Sp := fun vs H Q _ => ∃ (b : Addr) (m n : Int), vs = [.ref b, .int m] ∧ Bag H b n ∧ n ≤ 1000000000 ∧ 0 < m ∧ m < 2 ^ 200 ∧
  ∀ (d : Int) (H' : Hp), 0 ≤ d → d < m → Bag H' b (n + 1) → Keep b H H' → Q (.int d) H'
theorem small200 {j : Int} (h0 : 0 < j) (h : j < 2 ^ 200) : j.natAbs < 2 ^ 200 := by
  have e : ((2 : Int) ^ 200) = ((2 ^ 200 : Nat) : Int) := by decide +kernel
  rw [e] at h
  omega
theorem log_small {i j : Int} (h0 : 0 < j) (h : j < 2 ^ 200) : CDivW i j := wide_div h0 (small200 h0 h) (by decide) (by decide)
section
variable {P : Program} {w : World} {K : PySem.W.Frag} {mg : Str → Option Value} {base : Heap}
theorem ok_law_take (T : Txt K mg) : FnOk P w K mg base CX0 1 T.f_law_take T.fd_law_take ["bag", "many"] sp_take := by
  refine T.F_law_take.ok sc_law_take (fun vs H Q E h => ?_) (fun cdv A outer s H vs Q E hr h => ?_)
  · obtain ⟨b, m, n, rfl, _⟩ := h
    rfl
  · obtain ⟨b, m, n, rfl, ⟨x, y, z, hb, hx, hy, hy2, hz, hzn⟩, hn, hm0, hm, q⟩ := h
    refine ⟨_, (pss_cons (ps_if (pt_cmpR op_gt (pe_ix ix_list (pv 0) pe_int (fun _ _ => rfl)) pe_int (nomark _)) (pss_cons (ps_set (i := 2) sc_law_take.nd rfl (.inl rfl) (pe_op op_modN (pe_callTy call_int1 (by rfl) T.m_int (by decide +kernel) (pa_cons (pe_ix ix_list (pv 0) pe_int (fun _ _ => rfl)) pa_nil)) (pv 1)))
        (pss_cons (ps_asg (pe_op op_fdivW (pe_ix ix_list (pv 0) pe_int (fun _ _ => rfl)) (pv 1)) (pg_sub (pv 0) pe_int set_list))
        (pss_one (ps_ret (pv 2))))) pss_nil)
        (pss_cons (ps_asg (pe_op op_add (pe_ix ix_list (pv 0) pe_int (fun _ _ => rfl)) pe_int) (pg_sub (pv 0) pe_int set_list))
        (pss_cons (ps_set (i := 3) sc_law_take.nd rfl (.inl rfl) (pe_op op_modN (pe_callTy call_int1 (by rfl) T.m_int (by decide +kernel) (pa_cons (pe_op op_mul (pe_op op_add (pe_ix ix_list (pv 0) pe_int (fun _ _ => rfl)) (pe_op op_mul pe_int (pe_ix ix_list (pv 0) pe_int (fun _ _ => rfl)))) (pe_op op_add (pe_ix ix_list (pv 0) pe_int (fun _ _ => rfl)) pe_int)) pa_nil)) pe_int))
        (pss_one (ps_ret (pe_op op_modN (pe_callTy call_int1 (by rfl) T.m_int (by decide +kernel) (pa_cons (pe_op op_fdivN (pe_op op_modN (pe_callTy call_int1 (by rfl) T.m_int (by decide +kernel) (pa_cons (pe_op op_pow (pe_op op_add (pv 3) (pe_op op_mul pe_int (pe_ix ix_list (pv 0) pe_int (fun _ _ => rfl)))) pe_int) pa_nil)) pe_int) pe_int) pa_nil)) (pv 1))))))), ?_⟩
    repeat (walk_at "lw v")
    refine ite2 (fun e => ?_) (fun e => ?_)
    · have e0 : 0 < x := of_decide_eq_true e
      repeat (walk_at "lw v")
      refine ⟨log_small hm0 hm, ?_⟩
      repeat (walk_at "lw v")
      refine q _ _ (Int.fmod_nonneg_of_pos _ hm0) (Int.fmod_lt_of_pos _ hm0) ⟨x / m, y, z, upd_same, Int.ediv_nonneg hx (by omega), hy, hy2, hz, by omega⟩ (Keep.upd _ _ _)
    · have f1 : 0 ≤ ((y + 40009 * (z + 1)) * (y + 7919)).fmod 2147483647 := Int.fmod_nonneg_of_pos _ (by decide)
      have f2 : ((y + 40009 * (z + 1)) * (y + 7919)).fmod 2147483647 < 2147483647 := Int.fmod_lt_of_pos _ (by decide)
      repeat (walk_at "lw v")
      refine q _ _ (Int.fmod_nonneg_of_pos _ hm0) (Int.fmod_lt_of_pos _ hm0) ⟨x, y, z + 1, upd_same, hx, hy, hy2, by omega, by omega⟩ (Keep.upd _ _ _)
theorem atI_of {α : Type} {xs : List α} {d : Int} (h0 : 0 ≤ d) (h1 : d < (xs.length : Int)) : ∃ v, v ∈ xs ∧ atI xs d = some v := by
  obtain ⟨k, rfl⟩ := Int.eq_ofNat_of_zero_le h0
  have hk : k < xs.length := by omega
  exact ⟨xs[k], List.getElem_mem hk, atI_nat (List.getElem?_eq_getElem hk)⟩
/-- one of some: of a list, or a letter of a text -/
def sp_of : Sp := fun vs H Q _ => ∃ (b : Addr) (s : V) (n : Int), vs = [.ref b, s] ∧ Bag H b n ∧ n ≤ 1000000000 ∧
  ((∃ (l : Addr) (xs : List V), s = .ref l ∧ l ≠ b ∧ H l = some (.lst xs) ∧ 0 < xs.length ∧ xs.length ≤ 100000 ∧ ∀ (v : V) (H' : Hp), v ∈ xs → Bag H' b (n + 1) → Keep b H H' → Q v H') ∨
    (∃ z : Str, s = .str z ∧ 0 < z.length ∧ z.length ≤ 1000 ∧ ∀ (c : Nat) (H' : Hp), c ∈ z.cps.toList → Bag H' b (n + 1) → Keep b H H' → Q (.str ⟨#[c]⟩) H'))
theorem ok_law_of (T : Txt K mg) : FnOk P w K mg base CX0 2 T.f_law_of T.fd_law_of ["bag", "some"] sp_of := by
  have G_law_take := ok_law_take (P := P) (w := w) (base := base) T
  refine T.F_law_of.ok sc_law_of (fun vs H Q E h => ?_) (fun cdv A outer s H vs Q E hr h => ?_)
  · obtain ⟨b, m, n, rfl, _⟩ := h
    rfl
  · obtain ⟨b, sm, n, rfl, hb, hn, q⟩ := h
    refine ⟨_, (pss_one (ps_ret (pe_ix ix_seq (pv 1) (pe_call G_law_take hr (by rfl) T.g_law_take T.F_law_take.kp T.b_law_take .nil pass0 (pa_cons (pv 0) (pa_cons (pe_callB call_len (by rfl) T.m_len (by decide +kernel) (pa_cons (pv 1) pa_nil)) pa_nil))) (fun _ _ => rfl)))), ?_⟩
    rcases q with ⟨l, xs, rfl, nl, hl, l0, l1, q⟩ | ⟨z, rfl, z0, z1, q⟩
    · repeat (walk_at "lw v")
      refine ⟨b, _, n, rfl, hb, hn, by omega, by omega, fun d H' d0 d1 hB hK => ?_⟩
      obtain ⟨v, hv, ha⟩ := atI_of (xs := xs) d0 d1
      exact .inl ⟨l, xs, d, v, rfl, rfl, SqL.of (hK l _ nl hl), ha, q v H' hv hB hK⟩
    · repeat (walk_at "lw v")
      refine ⟨b, _, n, rfl, hb, hn, by omega, by omega, fun d H' d0 d1 hB hK => ?_⟩
      obtain ⟨v, hv, ha⟩ := atI_of (xs := z.cps.toList) d0 (by rw [Array.length_toList]; exact d1)
      exact .inr (.inr ⟨z, d, v, rfl, rfl, by have := PySem.sizeLine_eq; omega, ha, q v H' hv hB hK⟩)
end

theorem of_map {ns : List Int} {v : V} (h : v ∈ ns.map V.int) : ∃ i, v = V.int i := by
  obtain ⟨i, _, e⟩ := List.mem_map.mp h
  exact ⟨i, e.symm⟩
theorem bag_at {H : Hp} {p : Addr} {x c i : Int} (hx : 0 ≤ x) (i0 : 0 ≤ i) (i1 : i ≤ 63) : Bag (upd H p (.lst [.int x, .int (c.fmod 998244353 + 3000017 * i), .int 0])) p 0 := by
  have f1 : 0 ≤ c.fmod 998244353 := Int.fmod_nonneg_of_pos _ (by decide)
  have f2 : c.fmod 998244353 < 998244353 := Int.fmod_lt_of_pos _ (by decide)
  exact ⟨x, _, 0, upd_same, hx, by omega, by omega, by omega, by omega⟩
/-- a bag for a cell of the script -/
def sp_bag (K : PySem.W.Frag) : Sp := fun vs H Q _ => ∃ (a : Addr) (ns : List Int) (i : Int), vs = [.ref a, .int i] ∧ SqL K H a (ns.map V.int) ∧ ns.length ≤ 63 ∧ 0 ≤ i ∧ i ≤ 63 ∧
  ∀ (b : Addr) (H' : Hp), H b = none → Bag H' b 0 → Same H H' → Q (.ref b) H'
section
variable {P : Program} {w : World} {K : PySem.W.Frag} {mg : Str → Option Value} {base : Heap}
theorem ok_law_bag (T : Txt K mg) : FnOk P w K mg base CX0 1 T.f_law_bag T.fd_law_bag ["script", "at"] (sp_bag K) := by
  refine T.F_law_bag.ok sc_law_bag (fun vs H Q E h => ?_) (fun cdv A outer s H vs Q E hr h => ?_)
  · obtain ⟨b, m, n, rfl, _⟩ := h
    rfl
  · obtain ⟨a, ns, i, rfl, hS, hl, i0, i1, q⟩ := h
    refine ⟨_, (pss_cons (ps_set (i := 2) sc_law_bag.nd rfl (.inl rfl) (pe_ifExp (pt_cmpR op_lt (pv 1) (pe_callB call_len (by rfl) T.m_len (by decide +kernel) (pa_cons (pv 0) pa_nil)) (nomark _)) (pe_ix ix_list (pv 0) (pv 1) (fun _ _ => rfl)) pe_int))
        (pss_one (ps_ret (pe_lst (pa_cons (pe_ifExp (pt_cmpR op_ge (pe_callB call_abs (by rfl) T.m_abs (by decide +kernel) (pa_cons (pv 2) pa_nil)) (pe_op op_pow pe_int pe_int) (nomark _)) (pe_callB call_abs (by rfl) T.m_abs (by decide +kernel) (pa_cons (pv 2) pa_nil)) pe_int) (pa_cons (pe_op op_add (pe_op op_modN (pe_callTy call_int1 (by rfl) T.m_int (by decide +kernel) (pa_cons (pv 2) pa_nil)) pe_int) (pe_op op_mul pe_int (pv 1))) (pa_cons pe_int pa_nil))))))), ?_⟩
    repeat (walk_at "lw v")
    refine ite2 (fun e => ?_) (fun e => ?_)
    · have e1 : i < ((ns.map V.int).length : Int) := of_decide_eq_true e
      obtain ⟨v, hv, ha⟩ := atI_of i0 e1
      obtain ⟨c, rfl⟩ := of_map hv
      repeat (walk_at "lw v")
      refine ⟨_, _, _, _, rfl, rfl, hS, ha, ?_⟩
      repeat (walk_at "lw v")
      refine ite2 (fun e => ?_) (fun e => ?_)
      · repeat (walk_at "lw v")
        refine ⟨(by walk_at "lw n"), fun p hp => q p _ hp (bag_at (by split <;> omega) i0 i1) (same_new hp)⟩
      · repeat (walk_at "lw v")
        refine ⟨(by walk_at "lw n"), fun p hp => q p _ hp (bag_at (by decide) i0 i1) (same_new hp)⟩
    · repeat (walk_at "lw v")
      refine ⟨(by walk_at "lw n"), fun p hp => q p _ hp (bag_at (by decide) i0 i1) (same_new hp)⟩
end

/-! ### words -/
/-- a word: small letters, at most m -/
def IsWord (z : Str) (m : Nat) : Prop := z.length ≤ m ∧ z.cps.toList.all isLow = true
/-- texts joined, as lists of codes -/
def joinL (sep : List Nat) : List (List Nat) → List Nat
  | [] => []
  | [x] => x
  | x :: y :: r => x ++ sep ++ joinL sep (y :: r)
theorem str_join_list (sep : Str) : ∀ ys : List Str, (Str.join sep ys).cps.toList = joinL sep.cps.toList (ys.map fun y => y.cps.toList)
  | [] => rfl
  | [x] => rfl
  | x :: y :: r => by
    have ih := str_join_list sep (y :: r)
    show ((x.cps ++ sep.cps) ++ (Str.join sep (y :: r)).cps).toList = _
    rw [Array.toList_append, Array.toList_append, ih]
    rfl
theorem join_list (sep : Str) (ys : List Str) : (Txt.join sep ys).cps.toList = joinL sep.cps.toList (ys.map fun y => y.cps.toList) := by
  show (PySem.Builtin.Str.glued sep ys).cps.toList = _
  rw [StrLaws.glued_eq_join]
  exact str_join_list sep ys
theorem joinL_nil : ∀ ls : List (List Nat), joinL [] ls = ls.flatten
  | [] => rfl
  | [x] => by simp [joinL]
  | x :: y :: r => by
    show x ++ [] ++ joinL [] (y :: r) = _
    rw [joinL_nil (y :: r), List.append_nil]
    rfl
theorem joined_word {ys : List Str} {m : Nat} (h : ys.length ≤ m) (h1 : ∀ y ∈ ys, ∃ c, y = ⟨#[c]⟩ ∧ isLow c = true) : IsWord (Txt.join (Str.ofString "") ys) m := by
  have e : (Txt.join (Str.ofString "") ys).cps.toList = (ys.map fun y => y.cps.toList).flatten := by
    rw [join_list, show (Str.ofString "").cps.toList = [] from rfl, joinL_nil]
  have g : ∀ ys : List Str, (∀ y ∈ ys, ∃ c, y = ⟨#[c]⟩ ∧ isLow c = true) → ((ys.map fun y => y.cps.toList).flatten).length = ys.length ∧ ((ys.map fun y => y.cps.toList).flatten).all isLow = true := by
    intro ys
    induction ys with
    | nil => intro _; exact ⟨rfl, rfl⟩
    | cons y r ih =>
      intro h
      obtain ⟨c, rfl, hc⟩ := h y List.mem_cons_self
      obtain ⟨i1, i2⟩ := ih fun z hz => h z (List.mem_cons_of_mem _ hz)
      have e : ((Str.mk #[c] :: r).map fun y => y.cps.toList).flatten = c :: (r.map fun y => y.cps.toList).flatten := rfl
      rw [e]
      refine ⟨?_, ?_⟩
      · rw [List.length_cons, i1, List.length_cons]
      · rw [List.all_cons, hc, i2]
        rfl
  obtain ⟨g1, g2⟩ := g ys h1
  refine ⟨?_, ?_⟩
  · show (Txt.join (Str.ofString "") ys).cps.size ≤ m
    rw [← Array.length_toList, e, g1]
    exact h
  · rw [e]
    exact g2
def sp_word : Sp := fun vs H Q _ => ∃ (b : Addr) (m n : Int), vs = [.ref b, .int m] ∧ Bag H b n ∧ n ≤ 900000000 ∧ 0 ≤ m ∧ m ≤ 100 ∧
  ∀ (z : Str) (H' : Hp), IsWord z m.toNat → Bag H' b (n + 200) → Keep b H H' → Q (.str z) H'
section
variable {P : Program} {w : World} {K : PySem.W.Frag} {mg : Str → Option Value} {base : Heap}
theorem ok_law_word (T : Txt K mg) : FnOk P w K mg base CX0 3 T.f_law_word T.fd_law_word ["bag", "most"] sp_word := by
  have G_law_take := ok_law_take (P := P) (w := w) (base := base) T
  have G_law_of := ok_law_of (P := P) (w := w) (base := base) T
  refine T.F_law_word.ok sc_law_word (fun vs H Q E h => ?_) (fun cdv A outer s H vs Q E hr h => ?_)
  · obtain ⟨b, m, n, rfl, _⟩ := h
    rfl
  · obtain ⟨b, m, n, rfl, hb, hn, m0, m1, q⟩ := h
    refine ⟨_, (pss_one (ps_ret (pe_join pe_str (pe_lc (own := [("turn", 2)]) (g := gName 2) rfl sc_law_word.nd (pi_range1 (by rfl) T.m_range (pa_cons (pe_call G_law_take (hr.mono (by omega)) (by rfl) T.g_law_take T.F_law_take.kp T.b_law_take .nil pass0 (pa_cons (pv 0) (pa_cons (pe_op op_add (pv 1) pe_int) pa_nil))) pa_nil)) (blkOk_by (own := [("turn", 2)]) (N := ["bag", "most", "turn"]) (sc := defScope s_law_word) (by decide +kernel)) (fun _ _ _ _ _ => pg_name (i := 2) sc_law_word.nd rfl (.inl rfl)) (fun _ _ _ _ _ => pts_nil) (fun _ _ _ _ _ => (pe_call G_law_of hr (by rfl) T.g_law_of T.F_law_of.kp T.b_law_of .nil pass0 (pa_cons (pv 0) (pa_cons pe_str pa_nil)))))))), ?_⟩
    repeat (walk_at "lw v")
    refine ⟨b, _, n, rfl, hb, by omega, by omega, by omega, fun d H1 d0 d1 hB1 hK1 => ?_⟩
    refine ⟨d, rfl, by omega, by omega, fun D nD => ?_⟩
    have nbD : b ≠ D := hB1.ne nD
    refine lc_range (lo := 0) (n := d.toNat) (fun i H' => ∃ ys : List Str, H' D = some (.lst (ys.map V.str)) ∧ ys.length = i ∧ (∀ y ∈ ys, ∃ c, y = ⟨#[c]⟩ ∧ isLow c = true) ∧ Bag H' b (n + 1 + i) ∧ Keep b H1 H') ?_ ?_ ?_
    · exact ⟨[], upd_same, rfl, fun _ h => (nomatch h), (hB1.new nD).mono (by omega), Keep.new nD⟩
    · rintro i H' hi ⟨ys, eD, el, hy, hB, hK⟩
      refine ⟨rfl, ?_⟩
      repeat (walk_at "lw v")
      refine ⟨b, _, _, rfl, hB, by omega, .inr ⟨_, rfl, by decide +kernel, by decide +kernel, fun c H3 hc hB3 hK3 => ?_⟩⟩
      have hl2 : isLow c = true := (by decide +kernel : ∀ c ∈ (Str.ofString "abcdefghijklmnopqrstuvwxyz").cps.toList, isLow c = true) c hc
      refine ⟨_, hK3 _ _ nbD.symm eD, ?_, ys ++ [⟨#[c]⟩], ?_, ?_, ?_, ?_, ?_⟩
      · rw [List.length_map, el]
        exact small1000 (by omega)
      · rw [upd_same, List.map_append]
        rfl
      · rw [List.length_append, el]
        rfl
      · intro y hy'
        rcases List.mem_append.mp hy' with h | h
        · exact hy y h
        · rw [List.mem_singleton] at h
          exact ⟨c, h, hl2⟩
      · obtain ⟨x1, x2, x3, ex, rx⟩ := hB3
        exact Bag.mono ⟨x1, x2, x3, by rw [upd_ne nbD]; exact ex, rx⟩ (by omega)
      · intro q' o nq e
        have nqD : q' ≠ D := ne_of_none e nD
        rw [upd_ne nqD]
        exact hK3 _ _ nq (hK _ _ nq e)
    · rintro H' ⟨ys, eD, el, hy, hB, hK⟩
      refine ⟨_, D, ys, rfl, rfl, .inl (SqL.of eD), ?_, ?_⟩
      · have : ∀ ys : List Str, (∀ y ∈ ys, ∃ c, y = (⟨#[c]⟩ : Str) ∧ isLow c = true) → (ys.map (·.length)).sum = ys.length := by
          intro ys
          induction ys with
          | nil => intro _; rfl
          | cons y r ih =>
            intro h
            obtain ⟨c, rfl, hc⟩ := h y List.mem_cons_self
            rw [List.map_cons, List.sum_cons, ih fun z hz => h z (List.mem_cons_of_mem _ hz), List.length_cons, Nat.add_comm]
            rfl
        rw [this ys hy, show (Str.ofString "").length = 0 from rfl]
        omega
      · exact q _ H' (joined_word (by omega) hy) (hB.mono (by omega)) (hK1.trans hK)
end

/-! ### numbers -/
theorem e30 : (10 : Int) ^ (Int.toNat 30) = 1000000000000000000000000000000 := by decide +kernel
def IsNum (i : Int) : Prop := -1000000000000000000000000000000 < i ∧ i < 1000000000000000000000000000000
def sp_number : Sp := fun vs H Q _ => ∃ (b l : Addr) (ns : List Int) (n : Int), vs = [.ref b, .ref l] ∧ Bag H b n ∧ n ≤ 900000000 ∧ H l = some (.lst (ns.map V.int)) ∧ l ≠ b ∧ ns.length ≤ 1000 ∧ 
  ∀ (i : Int) (H' : Hp), IsNum i → Bag H' b (n + 5) → Keep b H H' → Q (.int i) H'
section
variable {P : Program} {w : World} {K : PySem.W.Frag} {mg : Str → Option Value} {base : Heap}
theorem ok_law_number (T : Txt K mg) : FnOk P w K mg base CX0 3 T.f_law_number T.fd_law_number ["bag", "near"] sp_number := by
  have G_law_take := ok_law_take (P := P) (w := w) (base := base) T
  have G_law_of := ok_law_of (P := P) (w := w) (base := base) T
  refine T.F_law_number.ok sc_law_number (fun vs H Q E h => ?_) (fun cdv A outer s H vs Q E hr h => ?_)
  · obtain ⟨b, l, ns, n, rfl, _⟩ := h
    rfl
  · obtain ⟨b, l, ns, n, rfl, hb, hn, hl, nl, hlen, q⟩ := h
    refine ⟨_, (pss_cons (ps_par (i := 2) (j := 3) (by rfl) sc_law_number.nd rfl rfl (by decide) rfl rfl (pa_cons (pe_call G_law_take (hr.mono (by omega)) (by rfl) T.g_law_take T.F_law_take.kp T.b_law_take .nil pass0 (pa_cons (pv 0) (pa_cons pe_int pa_nil))) (pa_cons (pe_op op_sub (pe_op op_pow pe_int pe_int) pe_int) pa_nil)) (by rfl))
        (pss_cons (ps_if (pt_cmpR op_gt (pv 2) pe_int (nomark _)) (pss_one (ps_ret (pe_op op_sub (pe_call G_law_take (hr.mono (by omega)) (by rfl) T.g_law_take T.F_law_take.kp T.b_law_take .nil pass0 (pa_cons (pv 0) (pa_cons pe_int pa_nil))) pe_int))) pss_nil)
        (pss_cons (ps_if (pt_cmpR op_eq (pv 2) pe_int (nomark _)) (pss_one (ps_ret (pe_op op_mul (pe_op op_sub (pv 3) (pe_call G_law_take (hr.mono (by omega)) (by rfl) T.g_law_take T.F_law_take.kp T.b_law_take .nil pass0 (pa_cons (pv 0) (pa_cons (pe_op op_pow pe_int pe_int) pa_nil)))) (pe_op op_sub pe_int (pe_op op_mul pe_int (pe_call G_law_take (hr.mono (by omega)) (by rfl) T.g_law_take T.F_law_take.kp T.b_law_take .nil pass0 (pa_cons (pv 0) (pa_cons pe_int pa_nil)))))))) pss_nil)
        (pss_one (ps_ret (pe_callB (call_max2 rfl) (by rfl) T.m_max (by decide +kernel) (pa_cons (pe_un un_neg (pv 3)) (pa_cons (pe_callB (call_min2 rfl) (by rfl) T.m_min (by decide +kernel) (pa_cons (pv 3) (pa_cons (pe_op op_sub (pe_op op_add (pe_call G_law_of hr (by rfl) T.g_law_of T.F_law_of.kp T.b_law_of .nil pass0 (pa_cons (pv 0) (pa_cons (pe_op op_cat (pv 1) (pe_lst (pa_cons pe_int pa_nil))) pa_nil))) (pe_call G_law_take (hr.mono (by omega)) (by rfl) T.g_law_take T.F_law_take.kp T.b_law_take .nil pass0 (pa_cons (pv 0) (pa_cons pe_int pa_nil)))) pe_int) pa_nil))) pa_nil)))))))), ?_⟩
    repeat (walk_at "lw v")
    refine ⟨b, _, n, rfl, hb, by omega, by omega, by omega, fun d H1 d0 d1 hB1 hK1 => ?_⟩
    repeat (walk_at "lw v")
    rw [e30]
    repeat (walk_at "lw v")
    refine ite2 (fun e => ?_) (fun e => ?_)
    · repeat (walk_at "lw v")
      refine ⟨b, _, _, rfl, hB1, by omega, by omega, by omega, fun d2 H2 d20 d21 hB2 hK2 => ?_⟩
      repeat (walk_at "lw v")
      exact q _ H2 ⟨by omega, by omega⟩ (hB2.mono (by omega)) (hK1.trans hK2)
    · repeat (walk_at "lw v")
      refine ite2 (fun e => ?_) (fun e => ?_)
      · repeat (walk_at "lw v")
        refine ⟨b, _, _, rfl, hB1, by omega, by decide +kernel, by decide +kernel, fun d2 H2 d20 d21 hB2 hK2 => ?_⟩
        rw [e30] at d21
        repeat (walk_at "lw v")
        refine ⟨b, _, _, rfl, hB2, by omega, by omega, by omega, fun d3 H3 d30 d31 hB3 hK3 => ?_⟩
        repeat (walk_at "lw v")
        have hz : d3 = 0 ∨ d3 = 1 := by omega
        refine q _ H3 ?_ (hB3.mono (by omega)) ((hK1.trans hK2).trans hK3)
        rcases hz with rfl | rfl <;> (unfold IsNum; omega)
      · repeat (walk_at "lw v")
        refine ⟨by walk_at "lw n", fun p hp => ?_⟩
        have hl1 := hK1 _ _ nl hl
        refine ⟨l, p, _, _, rfl, rfl, by rw [upd_ne (ne_of_none hl1 hp)]; exact hl1, upd_same, ?_, fun p2 hp2 => ?_⟩
        · have := PySem.sizeLine_eq
          show (ns.map V.int).length + 1 ≤ _
          rw [List.length_map]
          omega
        · repeat (walk_at "lw v")
          have hb2 := (hB1.new (o := .lst [V.int 0]) hp).ne hp2
          have hB2 := (hB1.new (o := .lst [V.int 0]) hp).new (o := .lst (ns.map V.int ++ [V.int 0])) hp2
          refine ⟨b, _, _, rfl, hB2, by omega, .inl ⟨p2, _, rfl, hb2.symm, upd_same, by simp, by simp; omega, fun v H2 hv hB3 hK3 => ?_⟩⟩
          obtain ⟨u, rfl⟩ : ∃ u, v = V.int u := by
            rcases List.mem_append.mp hv with h | h
            · exact of_map h
            · exact ⟨0, List.mem_singleton.mp h⟩
          repeat (walk_at "lw v")
          refine ⟨b, _, _, rfl, hB3, by omega, by omega, by omega, fun d5 H5 d50 d51 hB5 hK5 => ?_⟩
          repeat (walk_at "lw v")
          refine q _ H5 ?_ (hB5.mono (by omega)) ?_
          · unfold IsNum
            constructor <;> (repeat' split) <;> omega
          · have k1 : Keep b H1 (upd H1 p (HO.lst [V.int 0])) := Keep.new hp
            have k2 : Keep b (upd H1 p (HO.lst [V.int 0])) (upd (upd H1 p (HO.lst [V.int 0])) p2 (HO.lst (ns.map V.int ++ [V.int 0]))) := Keep.new hp2
            exact (((hK1.trans k1).trans k2).trans hK3).trans hK5
end

/-! ### any values -/
theorem op_mul_str {X : Cx} : OpR X (binaryOp .Mult) (fun x y H Q => ∃ z n, x = .str z ∧ y = .int n ∧ MulOk z n ∧ Q (.str (Txt.mul z n)) H) := by
  intro pins s σ H x y v u Q I rx ry h
  obtain ⟨i, j, rfl, rfl, hz, q⟩ := h
  obtain ⟨t, rfl⟩ := rx
  obtain ⟨t', rfl⟩ := ry
  exact PySem.SB.mul hz fun t' tk => ⟨.str _, H, I.tok _, ⟨_, rfl⟩, q⟩
/-- what was not tracked in H -/
def since (H H' : Hp) : Hp := fun q => match H q with | none => H' q | some _ => none
theorem since_some {H H' : Hp} {q : Addr} {o : HO} (h : since H H' q = some o) : H q = none ∧ H' q = some o := by
  unfold since at h
  cases e : H q with
  | none => rw [e] at h; exact ⟨rfl, h⟩
  | some _ => rw [e] at h; cases h
theorem since_of {H H' : Hp} {q : Addr} {o : HO} (h : H q = none) (h' : H' q = some o) : since H H' q = some o := by
  unfold since
  rw [h]
  exact h'
theorem since_same {H H' : Hp} : Same (since H H') H' := fun _ _ h => (since_some h).2
/-- every place that H tracks is tracked in H' -/
def Dom (H H' : Hp) : Prop := ∀ q o, H q = some o → ∃ o', H' q = some o'
theorem Dom.refl (H : Hp) : Dom H H := fun _ o h => ⟨o, h⟩
theorem Dom.trans {H H1 H2 : Hp} (x : Dom H H1) (y : Dom H1 H2) : Dom H H2 := fun q o h => by
  obtain ⟨o', h'⟩ := x q o h
  exact y q o' h'
theorem Same.dom {H H' : Hp} (s : Same H H') : Dom H H' := fun q o h => ⟨o, s q o h⟩
theorem Keep.dom {b : Addr} {H H' : Hp} (k : Keep b H H') (h : ∃ o, H' b = some o) : Dom H H' := fun q o e => by
  by_cases n : q = b
  · rw [n]; exact h
  · exact ⟨o, k q o n e⟩
theorem Dom.free {H H' : Hp} (d : Dom H H') {q : Addr} (h : H' q = none) : H q = none := by
  cases e : H q with
  | none => rfl
  | some o =>
    obtain ⟨o', e'⟩ := d q o e
    rw [h] at e'
    cases e'
theorem since_mono {H0 H H' H'' : Hp} {b : Addr} (d : Dom H0 H) (hb : ∃ o, H b = some o) (k : Keep b H' H'') : Same (since H H') (since H0 H'') := fun q o h => by
  obtain ⟨h1, h2⟩ := since_some h
  have n : q ≠ b := fun e => by
    obtain ⟨o', e'⟩ := hb
    rw [e, e'] at h1
    cases h1
  exact since_of (d.free h1) (k q o n h2)
theorem since_mono0 {H0 H H' H'' : Hp} (d : Dom H0 H) (k : Same H' H'') : Same (since H H') (since H0 H'') := fun q o h => by
  obtain ⟨h1, h2⟩ := since_some h
  exact since_of (d.free h1) (k q o h2)
theorem SqL.same {K : PySem.W.Frag} {H H' : Hp} {a : Addr} {xs : List V} (s : Same H H') (h : SqL K H a xs) : SqL K H' a xs := s.seq h
theorem SqT.same {K : PySem.W.Frag} {H H' : Hp} {a : Addr} {xs : List V} (s : Same H H') (h : SqT K H a xs) : SqT K H' a xs := by
  rcases h with (h | ⟨o, h⟩) | h
  · exact .inl (.inl (s _ _ h))
  · exact .inl (.inr ⟨o, s _ _ h⟩)
  · exact .inr h
mutual
theorem Dp.same {K : PySem.W.Frag} {H H' : Hp} (s : Same H H') : ∀ (d : PyData) (v : V), Dp K H v d → Dp K H' v d
  | .none, _, h => by cases h; exact .non
  | .bool _, _, h => by cases h; exact .bl _
  | .int _, _, h => by cases h; exact .int _
  | .str _, _, h => by cases h; exact .str _
  | .list ds, _, h => by
    cases h with
    | lst hs ha => exact .lst (SqL.same s hs) (DpAll.same s ds _ ha)
  | .tuple ds, _, h => by
    cases h with
    | tup hs ha => exact .tup (SqT.same s hs) (DpAll.same s ds _ ha)
  | .dict _, _, h => by cases h
theorem DpAll.same {K : PySem.W.Frag} {H H' : Hp} (s : Same H H') : ∀ (ds : List PyData) (vs : List V), DpAll K H vs ds → DpAll K H' vs ds
  | [], _, h => by cases h; exact .nil
  | d :: r, _, h => by
    cases h with
    | cons h1 h2 => exact .cons (Dp.same s d _ h1) (DpAll.same s r _ h2)
end
theorem DpAll.snoc {K : PySem.W.Frag} {H : Hp} : ∀ {vs : List V} {ds : List PyData} {v : V} {d : PyData}, DpAll K H vs ds → Dp K H v d → DpAll K H (vs ++ [v]) (ds ++ [d])
  | _, _, _, _, .nil, h => .cons h .nil
  | _, _, _, _, .cons a b, h => .cons a (DpAll.snoc b h)
theorem DpAll.length {K : PySem.W.Frag} {H : Hp} : ∀ {vs : List V} {ds : List PyData}, DpAll K H vs ds → vs.length = ds.length
  | _, _, .nil => rfl
  | _, _, .cons _ b => by rw [List.length_cons, List.length_cons, DpAll.length b]
theorem DpAll.append {K : PySem.W.Frag} {H : Hp} : ∀ {vs ws : List V} {ds es : List PyData}, DpAll K H vs ds → DpAll K H ws es → DpAll K H (vs ++ ws) (ds ++ es)
  | _, _, _, _, .nil, h => h
  | _, _, _, _, .cons a b, h => .cons a (DpAll.append b h)
theorem DpAll.get {K : PySem.W.Frag} {H : Hp} : ∀ {vs : List V} {ds : List PyData} {i : Nat} {v : V}, DpAll K H vs ds → vs[i]? = some v → ∃ d, ds[i]? = some d ∧ Dp K H v d
  | _, _, _, _, .nil, h => by simp at h
  | _, _, 0, _, .cons a _, h => by
    simp at h
    subst h
    exact ⟨_, rfl, a⟩
  | _, _, i + 1, _, .cons _ b, h => by
    obtain ⟨d, h1, h2⟩ := DpAll.get (i := i) b (by simpa using h)
    exact ⟨d, by simpa using h1, h2⟩
theorem DpAll.mem {K : PySem.W.Frag} {H : Hp} : ∀ {vs : List V} {ds : List PyData} {v : V}, DpAll K H vs ds → v ∈ vs → ∃ d, d ∈ ds ∧ Dp K H v d
  | _, _, _, .nil, h => by cases h
  | _, _, v, .cons a b, h => by
    rcases List.mem_cons.mp h with e | e
    · subst e
      exact ⟨_, List.mem_cons_self, a⟩
    · obtain ⟨d, h1, h2⟩ := DpAll.mem b e
      exact ⟨d, List.mem_cons_of_mem _ h1, h2⟩
mutual
/-- texts of at most a hundred thousand signs, lists of at most a thousand, no dict -/
def fine : PyData → Bool
  | .str z => decide (z.length ≤ 100000) && PyData.strOk z
  | .list ds => decide (ds.length ≤ 1000) && fineAll ds
  | .tuple ds => decide (ds.length ≤ 1000) && fineAll ds
  | .dict _ => false
  | .none => true
  | .bool _ => true
  | .int _ => true
def fineAll : List PyData → Bool
  | [] => true
  | d :: r => fine d && fineAll r
end
theorem fineAll_mem : ∀ {ds : List PyData} {d : PyData}, fineAll ds = true → d ∈ ds → fine d = true
  | [], _, _, h => by cases h
  | e :: r, d, h, m => by
    unfold fineAll at h
    rw [Bool.and_eq_true] at h
    rcases List.mem_cons.mp m with q | q
    · rw [q]; exact h.1
    · exact fineAll_mem h.2 q
theorem fineAll_snoc : ∀ {ds : List PyData} {d : PyData}, fineAll ds = true → fine d = true → fineAll (ds ++ [d]) = true
  | [], d, _, h => by show (fine d && true) = true; rw [h]; rfl
  | e :: r, d, h, m => by
    unfold fineAll at h
    rw [Bool.and_eq_true] at h
    show (fine e && fineAll (r ++ [d])) = true
    rw [h.1, fineAll_snoc h.2 m]
    rfl
theorem depthAll_snoc : ∀ {ds : List PyData} {d : PyData} {n : Nat}, PyData.depthAll ds ≤ n → PyData.depth d ≤ n → PyData.depthAll (ds ++ [d]) ≤ n
  | [], d, n, _, h => by
    show max (PyData.depth d) 0 ≤ n
    omega
  | e :: r, d, n, h, m => by
    have h' : max (PyData.depth e) (PyData.depthAll r) ≤ n := h
    have := depthAll_snoc (ds := r) (n := n) (by omega) m
    show max (PyData.depth e) (PyData.depthAll (r ++ [d])) ≤ n
    omega
mutual
theorem canLay_fine : ∀ (d : PyData), fine d = true → PyData.canLay0 d = true
  | .none, _ => rfl
  | .bool _, _ => rfl
  | .int _, _ => rfl
  | .str z, h => by
    unfold fine at h
    rw [Bool.and_eq_true] at h
    exact h.2
  | .list ds, h => by
    unfold fine at h
    rw [Bool.and_eq_true] at h
    exact canLayAll_fine ds h.2
  | .tuple ds, h => by
    unfold fine at h
    rw [Bool.and_eq_true] at h
    exact canLayAll_fine ds h.2
  | .dict _, h => by cases h
theorem canLayAll_fine : ∀ (ds : List PyData), fineAll ds = true → PyData.canLayAll0 ds = true
  | [], _ => rfl
  | d :: r, h => by
    unfold fineAll at h
    rw [Bool.and_eq_true] at h
    show (PyData.canLay0 d && PyData.canLayAll0 r) = true
    rw [canLay_fine d h.1, canLayAll_fine r h.2]
    rfl
end
theorem shaped_fine {d : PyData} (h : fine d = true) (hd : PyData.depth d ≤ 64) : SeqAt.shaped d = true := by
  unfold SeqAt.shaped
  rw [canLay_fine d h, decide_eq_true hd]
  rfl
theorem since_step {Hd H' H3 H4 : Hp} {D b : Addr} (d : Dom Hd H') (hb : ∃ o, Hd b = some o) (hD : ∃ o, Hd D = some o) (k : Keep b H' H3) (h4 : ∀ q, q ≠ D → H4 q = H3 q) : Same (since Hd H') (since Hd H4) ∧ Same (since H' H3) (since Hd H4) := by
  have nn : ∀ {q : Addr} {p : Addr}, Hd q = none → (∃ o, Hd p = some o) → q ≠ p := fun {q p} h1 h2 e => by
    obtain ⟨o, h2⟩ := h2
    rw [e, h2] at h1
    cases h1
  refine ⟨fun q o h => ?_, fun q o h => ?_⟩
  · obtain ⟨h1, h2⟩ := since_some h
    refine since_of h1 ?_
    rw [h4 q (nn h1 hD)]
    exact k q o (nn h1 hb) h2
  · obtain ⟨h1, h2⟩ := since_some h
    have h0 := d.free h1
    refine since_of h0 ?_
    rw [h4 q (nn h0 hD)]
    exact h2
theorem Dom.upd {H : Hp} {p : Addr} {o : HO} : Dom H (L2.upd H p o) := fun q u h => by
  by_cases n : q = p
  · subst n
    exact ⟨o, upd_same⟩
  · exact ⟨u, by rw [upd_ne n]; exact h⟩
theorem Bag.has {H : Hp} {b : Addr} {n : Int} (h : Bag H b n) : ∃ o, H b = some o := by
  obtain ⟨x, y, z, e, _⟩ := h
  exact ⟨_, e⟩
theorem Bag.upd {b D : Addr} {H : Hp} {o : HO} {n : Int} (h : Bag H b n) (nb : b ≠ D) : Bag (L2.upd H D o) b n := by
  obtain ⟨x, y, z, e, r⟩ := h
  exact ⟨x, y, z, by rw [upd_ne nb]; exact e, r⟩

/-! ### words, names of classes, items, answers: what is said of a value -/
theorem up_in (c : Nat) : decide (c ∈ (Str.ofString "ABCDEFGHIJKLMNOPQRSTUVWXYZ").cps.toList) = isUp c := by
  have e : (Str.ofString "ABCDEFGHIJKLMNOPQRSTUVWXYZ").cps.toList = [65, 66, 67, 68, 69, 70, 71, 72, 73, 74, 75, 76, 77, 78, 79, 80, 81, 82, 83, 84, 85, 86, 87, 88, 89, 90] := by decide +kernel
  rw [e]
  unfold isUp
  refine decide_eq_decide.mpr ?_
  simp only [List.mem_cons, List.not_mem_nil, or_false]
  omega
theorem low_in (c : Nat) : decide (c ∈ (Str.ofString "abcdefghijklmnopqrstuvwxyz").cps.toList) = isLow c := by
  have e : (Str.ofString "abcdefghijklmnopqrstuvwxyz").cps.toList = [97, 98, 99, 100, 101, 102, 103, 104, 105, 106, 107, 108, 109, 110, 111, 112, 113, 114, 115, 116, 117, 118, 119, 120, 121, 122] := by decide +kernel
  rw [e]
  unfold isLow
  refine decide_eq_decide.mpr ?_
  simp only [List.mem_cons, List.not_mem_nil, or_false]
  omega
theorem lu_in (c : Nat) : decide (c ∈ (Str.ofString "abcdefghijklmnopqrstuvwxyz" ++ Str.ofString "ABCDEFGHIJKLMNOPQRSTUVWXYZ").cps.toList) = (isUp c || isLow c) := by
  have e : (Str.ofString "abcdefghijklmnopqrstuvwxyz" ++ Str.ofString "ABCDEFGHIJKLMNOPQRSTUVWXYZ").cps.toList = (Str.ofString "abcdefghijklmnopqrstuvwxyz").cps.toList ++ (Str.ofString "ABCDEFGHIJKLMNOPQRSTUVWXYZ").cps.toList := Array.toList_append
  rw [e, ← up_in, ← low_in, ← Bool.decide_or]
  refine decide_eq_decide.mpr ?_
  rw [List.mem_append, or_comm]
theorem ul_in (c : Nat) : decide (c ∈ (Str.ofString "ABCDEFGHIJKLMNOPQRSTUVWXYZ" ++ Str.ofString "abcdefghijklmnopqrstuvwxyz").cps.toList) = (isUp c || isLow c) := by
  have e : (Str.ofString "ABCDEFGHIJKLMNOPQRSTUVWXYZ" ++ Str.ofString "abcdefghijklmnopqrstuvwxyz").cps.toList = (Str.ofString "ABCDEFGHIJKLMNOPQRSTUVWXYZ").cps.toList ++ (Str.ofString "abcdefghijklmnopqrstuvwxyz").cps.toList := Array.toList_append
  rw [e, ← up_in, ← low_in, ← Bool.decide_or]
  refine decide_eq_decide.mpr ?_
  rw [List.mem_append]
def isIntD : PyData → Bool
  | .int _ => true
  | _ => false
def isWordZ (z : Str) (m : Nat) : Bool := decide (z.length ≤ m) && z.cps.toList.all isLow
def isWordD (m : Nat) : PyData → Bool
  | .str z => isWordZ z m
  | _ => false
def isItemD : PyData → Bool
  | .none => true
  | .int _ => true
  | .str z => isWordZ z 30
  | _ => false
def isClassL : List Nat → Bool
  | [] => false
  | c :: cs => decide (cs.length + 1 ≤ 12) && (isUp c && (c :: cs).all fun x => isUp x || isLow x)
theorem isClassL_cons (c : Nat) (cs : List Nat) : isClassL (c :: cs) = (decide (cs.length + 1 ≤ 12) && (isUp c && (c :: cs).all fun x => isUp x || isLow x)) := rfl
def isClassD : PyData → Bool
  | .str z => isClassL z.cps.toList
  | _ => false
def isRaisedD : List PyData → Bool
  | [w, k, c] => PyData.eqv w (.str (Str.ofString "raises")) && (isClassD k && (PyData.eqv c .none || isClassD c))
  | _ => false
def isRaisedT : PyData → Bool
  | .tuple ds => isRaisedD ds
  | _ => false
def isAnswerD : PyData → Bool
  | .list ds => ds.all isItemD
  | .tuple ds => isRaisedD ds
  | d => isItemD d
/-- a def that says yes or no of one value and leaves what was there -/
def sp_bool1 (K : PySem.W.Frag) (f : PyData → Bool) : Sp := fun vs H Q _ => ∃ (x : V) (d : PyData), vs = [x] ∧ Dp K H x d ∧ fine d = true ∧ PyData.depth d ≤ 60 ∧
  ∀ (r : Bool) (H' : Hp), r = f d → Same H H' → Q (.bl r) H'
/-- a text of at most a hundred thousand signs, or no text -/
def shortD : PyData → Bool
  | .str z => decide (z.length ≤ 100000)
  | _ => true
theorem short_fine {d : PyData} (h : fine d = true) : shortD d = true := by
  cases d with
  | str z =>
    unfold fine at h
    rw [Bool.and_eq_true] at h
    exact h.1
  | _ => rfl
def sp_word1 (K : PySem.W.Frag) : Sp := fun vs H Q _ => ∃ (x : V) (d : PyData) (m : Nat), vs = [x, .int m] ∧ Dp K H x d ∧ shortD d = true ∧
  ∀ (r : Bool) (H' : Hp), r = isWordD m d → Same H H' → Q (.bl r) H'
def sp_consists : Sp := fun vs H Q _ => ∃ (z cs : Str), vs = [.str z, .str cs] ∧ z.length ≤ 100000 ∧
  ∀ (r : Bool) (H' : Hp), r = (z.cps.toList.all fun c => decide (c ∈ cs.cps.toList)) → Same H H' → Q (.bl r) H'
theorem isItemD_eq (d : PyData) : isItemD d = (PyData.eqv d .none || (isIntD d || isWordD 30 d)) := by
  cases d <;> rfl
theorem non_eq {K : PySem.W.Frag} {H : Hp} {x : V} {d : PyData} (h : Dp K H x d) : decide (x = .non) = PyData.eqv d .none := by
  cases h <;> rfl
theorem fine_tup {ds : List PyData} (h : fine (.tuple ds) = true) : ds.length ≤ 1000 ∧ fineAll ds = true := by
  unfold fine at h
  rw [Bool.and_eq_true] at h
  exact ⟨of_decide_eq_true h.1, h.2⟩
theorem fine_lst {ds : List PyData} (h : fine (.list ds) = true) : ds.length ≤ 1000 ∧ fineAll ds = true := by
  unfold fine at h
  rw [Bool.and_eq_true] at h
  exact ⟨of_decide_eq_true h.1, h.2⟩
theorem depth_mem : ∀ {ds : List PyData} {d : PyData}, d ∈ ds → PyData.depth d ≤ PyData.depthAll ds
  | [], _, h => by cases h
  | e :: r, d, h => by
    show _ ≤ max (PyData.depth e) (PyData.depthAll r)
    rcases List.mem_cons.mp h with q | q
    · rw [q]
      omega
    · have := depth_mem q
      omega
theorem iteNT {c A B : Prop} [Decidable c] (hc : ¬ c) (h : A) : if (!decide c) = true then A else B := by
  rw [decide_eq_false hc]
  exact iteT h
theorem ifF {A B : Prop} {b : Bool} (e : b = false) (h : B) : if b = true then A else B := by
  rw [e]
  exact iteF h
theorem ifT {A B : Prop} {b : Bool} (e : b = true) (h : A) : if b = true then A else B := by
  rw [e]
  exact iteT h
theorem isAnswerD_eq {d : PyData} (h : ¬ ∃ ds, d = .list ds) : isAnswerD d = (isItemD d || isRaisedT d) := by
  cases d with
  | list ds => exact absurd ⟨ds, rfl⟩ h
  | tuple ds => rfl
  | none => rfl
  | bool b => rfl
  | int i => rfl
  | str z => show isWordZ z 30 = (isWordZ z 30 || false); rw [Bool.or_false]
  | dict k => rfl
theorem cut_up (c : Nat) : decide (c ∈ (cutS (Str.ofString "ABCDEFGHIJKLMNOPQRSTUVWXYZ" ++ Str.ofString "abcdefghijklmnopqrstuvwxyz") none (some 26)).cps.toList) = isUp c := by
  rw [show cutS (Str.ofString "ABCDEFGHIJKLMNOPQRSTUVWXYZ" ++ Str.ofString "abcdefghijklmnopqrstuvwxyz") none (some 26) = Str.ofString "ABCDEFGHIJKLMNOPQRSTUVWXYZ" by decide +kernel]
  exact up_in c

theorem len_list (x : Str) : x.cps.toList.length = x.length := Array.length_toList

/-! ### numbers as texts -/
def D10 (m : Nat) : List Nat := (Nat.toDigits 10 m).map Char.toNat
theorem digit_pos : ∀ d : Nat, d < 10 → 0 < d → 49 ≤ (Nat.digitChar d).toNat ∧ (Nat.digitChar d).toNat ≤ 57 := by decide
theorem D10_head : ∀ n : Nat, 0 < n → ∃ c r, D10 n = c :: r ∧ 49 ≤ c ∧ c ≤ 57 := by
  intro n
  induction n using Nat.strongRecOn with
  | _ n ih =>
    intro h0
    by_cases h : n < 10
    · refine ⟨_, [], by unfold D10; rw [Nat.toDigits_of_lt_base h]; rfl, (digit_pos n h h0).1, (digit_pos n h h0).2⟩
    · have t : Nat.toDigits 10 (n / 10) ++ Nat.toDigits 10 (n % 10) = Nat.toDigits 10 (10 * (n / 10) + n % 10) := Nat.toDigits_append_toDigits (by decide) (by omega) (Nat.mod_lt n (by decide))
      rw [Nat.div_add_mod] at t
      obtain ⟨c, r, e, h1, h2⟩ := ih (n / 10) (by omega) (by omega)
      refine ⟨c, r ++ (Nat.toDigits 10 (n % 10)).map Char.toNat, ?_, h1, h2⟩
      unfold D10 at e ⊢
      rw [← t, List.map_append, e]
      rfl
theorem D10_zero : D10 0 = [48] := by decide
def isDig (c : Nat) : Bool := decide (48 ≤ c ∧ c ≤ 57)
theorem D10_digs (m : Nat) : (D10 m).all isDig = true := by
  refine List.all_eq_true.mpr fun x hx => ?_
  obtain ⟨ch, hc, e⟩ := List.mem_map.mp hx
  have h1 : ch.isDigit = true := Nat.isDigit_of_mem_toDigits (by decide) (by decide) hc
  have := PyProof.Rows.digit_range h1
  exact decide_eq_true (by omega)
theorem D10_len {m : Nat} (h : m < 10 ^ 30) : (D10 m).length ≤ 30 := by
  unfold D10
  rw [List.length_map]
  exact (Nat.length_toDigits_le_iff (by decide) (by decide)).mpr h
theorem num_list (i : Int) : (Str.ofString (toString i)).cps.toList = if 0 ≤ i then D10 i.natAbs else 45 :: D10 i.natAbs := by
  rw [signs_ofString]
  cases i with
  | ofNat m =>
    rw [if_pos (show (0 : Int) ≤ Int.ofNat m from Int.natCast_nonneg m)]
    show (Nat.repr m).toList.map Char.toNat = D10 m
    rw [Nat.toList_repr]
    rfl
  | negSucc m =>
    rw [if_neg (show ¬ (0 : Int) ≤ Int.negSucc m by omega)]
    show ("-" ++ Nat.repr (m + 1)).toList.map Char.toNat = 45 :: D10 (m + 1)
    rw [String.toList_append, List.map_append, Nat.toList_repr]
    rfl
/-- what stands behind a sign -/
def digitsOf : List Nat → List Nat
  | [] => []
  | c :: r => if c = 45 then r else c :: r
def isNumD (l : List Nat) : List Nat → Bool
  | [] => false
  | c :: r => decide (r.length + 1 ≤ 30) && ((c :: r).all isDig && (decide (l = [48]) || !decide (c = 48)))
/-- a number, as a list of codes -/
def isNumL (l : List Nat) : Bool := isNumD l (digitsOf l)
theorem isNumL_num {i : Int} (h : IsNum i) : isNumL (Str.ofString (toString i)).cps.toList = true := by
  have hn : i.natAbs < 10 ^ 30 := by
    have e : (10 : Nat) ^ 30 = 1000000000000000000000000000000 := by decide +kernel
    rw [e]
    obtain ⟨h1, h2⟩ := h
    omega
  have hl := D10_len hn
  have hd := D10_digs i.natAbs
  rw [num_list]
  by_cases h0 : i = 0
  · subst h0
    decide +kernel
  · obtain ⟨c, r, e, c1, c2⟩ := D10_head i.natAbs (by omega)
    rw [e] at hl hd
    rw [List.length_cons] at hl
    have key : ∀ l, isNumD l (c :: r) = true := fun l => by
      show (decide (r.length + 1 ≤ 30) && ((c :: r).all isDig && (decide (l = [48]) || !decide (c = 48)))) = true
      rw [decide_eq_true hl, hd, decide_eq_false (show ¬ c = 48 by omega)]
      simp
    by_cases hi : 0 ≤ i
    · rw [if_pos hi, e]
      show isNumD _ (if c = 45 then r else c :: r) = true
      rw [if_neg (by omega)]
      exact key _
    · rw [if_neg hi, e]
      show isNumD _ (if (45 : Nat) = 45 then c :: r else 45 :: c :: r) = true
      rw [if_pos rfl]
      exact key _
theorem num_len {i : Int} (h : IsNum i) : (Str.ofString (toString i)).length ≤ 31 := by
  have hn : i.natAbs < 10 ^ 30 := by
    have e : (10 : Nat) ^ 30 = 1000000000000000000000000000000 := by decide +kernel
    rw [e]
    obtain ⟨h1, h2⟩ := h
    omega
  have hl := D10_len hn
  rw [← len_list, num_list]
  split
  · omega
  · rw [List.length_cons]
    omega
theorem num_free {i : Int} {k : Nat} (hk : k ≠ 45 ∧ (k < 48 ∨ 57 < k)) : k ∉ (Str.ofString (toString i)).cps.toList := PyProof.Rows.int_text_free' k hk i
/-- a string in its quotes, as a list of codes: its inside at most 8 small letters -/
def isStrL (l : List Nat) : Bool := match l with
  | [] => false
  | c :: r => decide (c = 34) && (decide (r.getLast? = some 34) && (decide (r.length - 1 ≤ 8) && r.dropLast.all isLow))
theorem isStrL_word {z : List Nat} (h1 : z.length ≤ 8) (h2 : z.all isLow = true) : isStrL (34 :: (z ++ [34])) = true := by
  show (decide (34 = 34) && (decide ((z ++ [34]).getLast? = some 34) && (decide ((z ++ [34]).length - 1 ≤ 8) && (z ++ [34]).dropLast.all isLow))) = true
  rw [List.dropLast_concat, h2, List.length_append, List.getLast?_append]
  simp
  omega
def isConstL (l : List Nat) : Bool := decide (l = [110, 111, 110, 101]) || (isNumL l || isStrL l)

section
variable {P : Program} {w : World} {K : PySem.W.Frag} {mg : Str → Option Value} {base : Heap}
theorem ok_consists_of (T : Txt K mg) : FnOk P w K mg base CX0 1 T.f_consists_of T.fd_consists_of ["text", "characters"] sp_consists := by
  refine T.F_consists_of.ok sc_consists_of (fun vs H Q E h => ?_) (fun cdv A outer s H vs Q E hr h => ?_)
  · obtain ⟨x, y, rfl, _⟩ := h
    rfl
  · obtain ⟨z, cs, rfl, hz, q⟩ := h
    refine ⟨_, (pss_one (ps_ret (pe_callB (cr_all rfl) (by rfl) T.m_all (by decide +kernel) (pa_cons (pe_lc (own := [("character", 2)]) (g := gName 2) rfl sc_consists_of.nd (pi_str (pv 0)) (blkOk_by (own := [("character", 2)]) (N := ["text", "characters", "character"]) (sc := defScope s_consists_of) (by decide +kernel)) (fun _ _ _ _ _ => pg_name (i := 2) sc_consists_of.nd rfl (.inl rfl)) (fun _ _ _ _ _ => pts_nil) (fun _ _ _ _ _ => (pe_cmpR op_in_sign (pv 2) (pv 1) (by rfl)))) pa_nil)))), ?_⟩
    repeat (walk_at "lw w")
    intro D nD
    refine lc_it (walk_str (z := z)) (fun i H' => H' D = some (.lst ((z.cps.toList.take i).map fun c => V.bl (decide (c ∈ cs.cps.toList)))) ∧ Same H H') ?_ ?_ ?_ ?_
    · exact ⟨upd_same, same_new nD⟩
    · intro i H' _ _
      trivial
    · rintro i x H1 H' hi ⟨eD, S⟩ ⟨rfl, c, hc, rfl⟩
      refine ⟨rfl, ?_⟩
      repeat (walk_at "lw w")
      refine ⟨_, eD, ?_, ?_, ?_⟩
      · rw [List.length_map, List.length_take]
        exact small5 (Nat.le_trans (Nat.min_le_right _ _) (by rw [Array.length_toList]; exact hz))
      · have hc' : z.cps.toList[i]? = some c := by rw [Array.getElem?_toList]; exact hc
        rw [upd_same, List.take_add_one, hc', List.map_append]
        rfl
      · intro q' o e
        rw [upd_ne (ne_of_none e nD)]
        exact S _ _ e
    · rintro H' ⟨eD, S⟩
      have el : z.cps.toList.take z.cps.size = z.cps.toList := List.take_of_length_le (by rw [Array.length_toList]; exact Nat.le_refl _)
      rw [el] at eD
      refine ⟨D, z.cps.toList.map fun c => decide (c ∈ cs.cps.toList), rfl, ?_, ?_⟩
      · rw [List.map_map]
        exact SqL.of eD
      · exact q _ H' (by rw [List.all_map]; rfl) S
end

section
variable {P : Program} {w : World} {K : PySem.W.Frag} {mg : Str → Option Value} {base : Heap}
theorem ok_is_small_word (T : Txt K mg) : FnOk P w K mg base CX0 2 T.f_is_small_word T.fd_is_small_word ["thing", "most"] (sp_word1 K) := by
  have G_consists_of := ok_consists_of (P := P) (w := w) (base := base) T
  refine T.F_is_small_word.ok sc_is_small_word (fun vs H Q E h => ?_) (fun cdv A outer s H vs Q E hr h => ?_)
  · obtain ⟨x, d, m, rfl, _⟩ := h
    rfl
  · obtain ⟨x, d, m, rfl, hd, hf, q⟩ := h
    refine ⟨_, (pss_one (ps_ret (pe_and (pe_callB call_isi (by rfl) T.m_isinstance (by decide +kernel) (pa_cons (pv 0) (pa_cons (pe_bltn (v := .ty "str") (by rfl) T.m_str (by decide +kernel) rfl) pa_nil))) (pe_and (pe_cmpR op_le (pe_callB call_len (by rfl) T.m_len (by decide +kernel) (pa_cons (pv 0) pa_nil)) (pv 1) (nomark _)) (pe_one (pe_call G_consists_of hr (by rfl) T.g_consists_of T.F_consists_of.kp T.b_consists_of .nil pass0 (pa_cons (pv 0) (pa_cons (pe_glob (v := .str "abcdefghijklmnopqrstuvwxyz") rfl T.c_SMALL_LETTERS.choose_spec ⟨_, rfl⟩) pa_nil)))))))), ?_⟩
    cases hd
    case str z =>
      have hz : z.length ≤ 100000 := of_decide_eq_true hf
      repeat (walk_at "lw w")
      refine ite2 (fun e => ?_) (fun e => ?_)
      · repeat (walk_at "lw w")
        refine ⟨hz, fun r H' er S => q r H' ?_ S⟩
        rw [er]
        have e1 : ((z.length : Nat) : Int) ≤ (m : Int) := of_decide_eq_true e
        show _ = (decide (z.length ≤ m) && z.cps.toList.all isLow)
        rw [decide_eq_true (show z.length ≤ m by omega), Bool.true_and]
        congr 1
        funext c
        exact low_in c
      · refine q _ _ ?_ (Same.refl _)
        have e1 : ¬ ((z.length : Nat) : Int) ≤ (m : Int) := fun h => e (decide_eq_true h)
        show _ = (decide (z.length ≤ m) && z.cps.toList.all isLow)
        rw [decide_eq_false (show ¬ z.length ≤ m by omega)]
        rfl
    all_goals (repeat (walk_at "lw w")) <;> exact q _ _ rfl (Same.refl _)
end

section
variable {P : Program} {w : World} {K : PySem.W.Frag} {mg : Str → Option Value} {base : Heap}
theorem ok_is_integer (T : Txt K mg) : FnOk P w K mg base CX0 1 T.f_is_integer T.fd_is_integer ["thing"] (sp_bool1 K isIntD) := by
  refine T.F_is_integer.ok sc_is_integer (fun vs H Q E h => ?_) (fun cdv A outer s H vs Q E hr h => ?_)
  · obtain ⟨x, d, rfl, _⟩ := h
    rfl
  · obtain ⟨x, d, rfl, hd, hf, _, q⟩ := h
    refine ⟨_, (pss_one (ps_ret (pe_and (pe_callB call_isi (by rfl) T.m_isinstance (by decide +kernel) (pa_cons (pv 0) (pa_cons (pe_bltn (v := .ty "int") (by rfl) T.m_int (by decide +kernel) rfl) pa_nil))) (pe_one (pe_not (pe_callB call_isi (by rfl) T.m_isinstance (by decide +kernel) (pa_cons (pv 0) (pa_cons (pe_bltn (v := .ty "bool") (by rfl) T.m_bool (by decide +kernel) rfl) pa_nil)))))))), ?_⟩
    cases hd <;> (repeat (walk_at "lw w")) <;> exact q _ _ rfl (Same.refl _)
end

section
variable {P : Program} {w : World} {K : PySem.W.Frag} {mg : Str → Option Value} {base : Heap}
theorem ok_law_is_integer (T : Txt K mg) : FnOk P w K mg base CX0 1 T.f_law_is_integer T.fd_law_is_integer ["thing"] (sp_bool1 K isIntD) := by
  refine T.F_law_is_integer.ok sc_law_is_integer (fun vs H Q E h => ?_) (fun cdv A outer s H vs Q E hr h => ?_)
  · obtain ⟨x, d, rfl, _⟩ := h
    rfl
  · obtain ⟨x, d, rfl, hd, hf, _, q⟩ := h
    refine ⟨_, (pss_one (ps_ret (pe_and (pe_callB call_isi (by rfl) T.m_isinstance (by decide +kernel) (pa_cons (pv 0) (pa_cons (pe_bltn (v := .ty "int") (by rfl) T.m_int (by decide +kernel) rfl) pa_nil))) (pe_one (pe_not (pe_callB call_isi (by rfl) T.m_isinstance (by decide +kernel) (pa_cons (pv 0) (pa_cons (pe_bltn (v := .ty "bool") (by rfl) T.m_bool (by decide +kernel) rfl) pa_nil)))))))), ?_⟩
    cases hd <;> (repeat (walk_at "lw w")) <;> exact q _ _ rfl (Same.refl _)
theorem ok_law_is_word (T : Txt K mg) : FnOk P w K mg base CX0 1 T.f_law_is_word T.fd_law_is_word ["thing", "most"] (sp_word1 K) := by
  refine T.F_law_is_word.ok sc_law_is_word (fun vs H Q E h => ?_) (fun cdv A outer s H vs Q E hr h => ?_)
  · obtain ⟨x, d, m, rfl, _⟩ := h
    rfl
  · obtain ⟨x, d, m, rfl, hd, hf, q⟩ := h
    refine ⟨_, (pss_cons (ps_if (PW.pt (pw_or (pt_not (pt_val (pe_callB call_isi (by rfl) T.m_isinstance (by decide +kernel) (pa_cons (pv 0) (pa_cons (pe_bltn (v := .ty "str") (by rfl) T.m_str (by decide +kernel) rfl) pa_nil))))) (pw_or1 (pt_cmpR op_gt (pe_callB call_len (by rfl) T.m_len (by decide +kernel) (pa_cons (pv 0) pa_nil)) (pv 1) (nomark _))))) (pss_one (ps_ret pe_bl)) pss_nil)
        (pss_one (ps_ret (pe_callB (cr_all rfl) (by rfl) T.m_all (by decide +kernel) (pa_cons (pe_lc (own := [("sign", 2)]) (g := gName 2) rfl sc_law_is_word.nd (pi_str (pv 0)) (blkOk_by (own := [("sign", 2)]) (N := ["thing", "most", "sign"]) (sc := defScope s_law_is_word) (by decide +kernel)) (fun _ _ _ _ _ => pg_name (i := 2) sc_law_is_word.nd rfl (.inl rfl)) (fun _ _ _ _ _ => pts_nil) (fun _ _ _ _ _ => (pe_cmpR op_in_sign (pv 2) pe_str (by rfl)))) pa_nil))))), ?_⟩
    cases hd
    case str z =>
      have hz : z.length ≤ 100000 := of_decide_eq_true hf
      repeat (walk_at "lw w")
      refine ite2 (fun e => ?_) (fun e => ?_)
      · repeat (walk_at "lw w")
        refine q _ _ ?_ (Same.refl _)
        have e1 : (m : Int) < ((z.length : Nat) : Int) := of_decide_eq_true e
        show _ = (decide (z.length ≤ m) && z.cps.toList.all isLow)
        rw [decide_eq_false (show ¬ z.length ≤ m by omega)]
        rfl
      · have e1 : ¬ (m : Int) < ((z.length : Nat) : Int) := fun h => e (decide_eq_true h)
        repeat (walk_at "lw w")
        intro D nD
        refine lc_it (walk_str (z := z)) (fun i H' => H' D = some (.lst ((z.cps.toList.take i).map fun c => V.bl (isLow c))) ∧ Same H H') ?_ ?_ ?_ ?_
        · exact ⟨upd_same, same_new nD⟩
        · intro i H' _ _
          trivial
        · rintro i x H1 H' hi ⟨eD, S⟩ ⟨rfl, c, hc, rfl⟩
          refine ⟨rfl, ?_⟩
          repeat (walk_at "lw w")
          refine ⟨_, eD, ?_, ?_, ?_⟩
          · rw [List.length_map, List.length_take]
            exact small5 (Nat.le_trans (Nat.min_le_right _ _) (by rw [Array.length_toList]; exact hz))
          · have hc' : z.cps.toList[i]? = some c := by rw [Array.getElem?_toList]; exact hc
            rw [upd_same, List.take_add_one, hc', List.map_append, low_in]
            rfl
          · intro q' o e
            rw [upd_ne (ne_of_none e nD)]
            exact S _ _ e
        · rintro H' ⟨eD, S⟩
          have el : z.cps.toList.take z.cps.size = z.cps.toList := List.take_of_length_le (by rw [Array.length_toList]; exact Nat.le_refl _)
          rw [el] at eD
          refine ⟨D, z.cps.toList.map isLow, rfl, ?_, ?_⟩
          · rw [List.map_map]
            exact SqL.of eD
          · refine q _ H' ?_ S
            show _ = (decide (z.length ≤ m) && z.cps.toList.all isLow)
            rw [decide_eq_true (show z.length ≤ m by omega), Bool.true_and, List.all_map]
            rfl
    all_goals (repeat (walk_at "lw w")) <;> exact q _ _ rfl (Same.refl _)
end

/-! ### names -/
def isNameZ (z : Str) : Bool := isWordZ z 12 && (!decide (z = Str.ofString "") && !inV (.str z) vals_KEYWORDS)
def sp_str1 (f : Str → Bool) : Sp := fun vs H Q _ => ∃ z : Str, vs = [.str z] ∧ z.length ≤ 100000 ∧ ∀ (r : Bool) (H' : Hp), r = f z → Same H H' → Q (.bl r) H'
def sp_any1 (K : PySem.W.Frag) (f : PyData → Bool) : Sp := fun vs H Q _ => ∃ (x : V) (d : PyData), vs = [x] ∧ Dp K H x d ∧ shortD d = true ∧
  ∀ (r : Bool) (H' : Hp), r = f d → Same H H' → Q (.bl r) H'
theorem vals_strs : ∀ y ∈ vals_KEYWORDS, ∃ k, y = .str k := by
  intro y hy
  simp only [vals_KEYWORDS, List.mem_cons, List.not_mem_nil, or_false] at hy
  rcases hy with rfl | rfl | rfl | rfl | rfl | rfl | rfl | rfl | rfl | rfl | rfl | rfl | rfl | rfl | rfl | rfl | rfl | rfl | rfl | rfl | rfl | rfl | rfl | rfl | rfl | rfl | rfl | rfl | rfl | rfl | rfl | rfl | rfl | rfl <;> exact ⟨_, rfl⟩
theorem name_low {n : Str} (h : isNameZ n = true) : n.length ≤ 12 ∧ n.cps.toList.all isLow = true := by
  unfold isNameZ isWordZ at h
  rw [Bool.and_eq_true, Bool.and_eq_true] at h
  exact ⟨of_decide_eq_true h.1.1, h.1.2⟩
theorem q_names : (vals_KEYWORDS.all fun y => match y with | .str k => isNameZ (Str.ofString "q" ++ k) | _ => false) = true := by decide +kernel

theorem joinL_len {m : Nat} : ∀ {ws : List (List Nat)}, (∀ w ∈ ws, w.length ≤ m) → (joinL [44, 32] ws).length ≤ ws.length * (m + 2)
  | [], _ => Nat.zero_le _
  | [w], h => by
    have := h w List.mem_cons_self
    show w.length ≤ 1 * (m + 2)
    omega
  | w :: y :: r, h => by
    have h1 := h w List.mem_cons_self
    have h2 := joinL_len (ws := y :: r) fun v hv => h v (List.mem_cons_of_mem _ hv)
    show (w ++ [44, 32] ++ joinL [44, 32] (y :: r)).length ≤ _
    rw [List.length_append, List.length_append]
    have h3 : (w :: y :: r).length * (m + 2) = (y :: r).length * (m + 2) + (m + 2) := by rw [List.length_cons, Nat.succ_mul]
    rw [h3]
    have h4 : ([44, 32] : List Nat).length = 2 := rfl
    omega

/-! ### constants, as values and as they are written -/
def ConstV (v : V) : Prop := v = .non ∨ (∃ i, v = .int i ∧ IsNum i) ∨ ∃ z, v = .str z ∧ IsWord z 8
def wrZ : V → Str
  | .non => Str.ofString "none"
  | .int i => Str.ofString (toString i)
  | .str z => Str.ofString "\"" ++ z ++ Str.ofString "\""
  | _ => Str.ofString ""
theorem catl (a b : Str) : (a ++ b).length = a.length + b.length := by
  rw [← len_list, ← len_list, ← len_list]
  show (a.cps ++ b.cps).toList.length = _
  rw [Array.toList_append, List.length_append]
theorem quote_len : (Str.ofString "\"").length = 1 := by decide +kernel
theorem wr_len {v : V} (h : ConstV v) : (wrZ v).length ≤ 31 := by
  rcases h with rfl | ⟨i, rfl, hi⟩ | ⟨z, rfl, hz⟩
  · decide +kernel
  · exact num_len hi
  · show (Str.ofString "\"" ++ z ++ Str.ofString "\"").length ≤ 31
    rw [catl, catl, quote_len]
    have := hz.1
    omega
def ctZ (nm : Str) (xs : List V) : Str := nm ++ Str.ofString "(" ++ Txt.join (Str.ofString ", ") (xs.map wrZ) ++ Str.ofString ")"
theorem join_len {xs : List V} (hl : xs.length ≤ 10) (hc : ∀ v ∈ xs, ConstV v) : (Txt.join (Str.ofString ", ") (xs.map wrZ)).length ≤ 400 ∧ ((xs.map wrZ).map (·.length)).sum ≤ 310 := by
  have h2 : ∀ y ∈ (xs.map wrZ).map fun w => w.cps.toList, y.length ≤ 31 := fun y hy => by
    obtain ⟨w, h, e⟩ := List.mem_map.mp hy
    obtain ⟨v, h3, e3⟩ := List.mem_map.mp h
    rw [← e, len_list, ← e3]
    exact wr_len (hc v h3)
  refine ⟨?_, ?_⟩
  · rw [← len_list, join_list, show (Str.ofString ", ").cps.toList = [44, 32] by decide +kernel]
    have := joinL_len h2
    rw [List.length_map, List.length_map] at this
    have h3 : xs.length * (31 + 2) ≤ 10 * 33 := Nat.mul_le_mul hl (by decide)
    omega
  · clear h2
    have key : ∀ ys : List V, (∀ v ∈ ys, ConstV v) → ((ys.map wrZ).map (·.length)).sum ≤ ys.length * 31 := fun ys => by
      induction ys with
      | nil => intro _; exact Nat.zero_le _
      | cons y r ih =>
        intro h
        have h1 := wr_len (h y List.mem_cons_self)
        have h2 := ih fun v hv => h v (List.mem_cons_of_mem _ hv)
        rw [List.map_cons, List.map_cons, List.sum_cons, List.length_cons, Nat.succ_mul]
        omega
    have := key xs hc
    have h3 : xs.length * 31 ≤ 10 * 31 := Nat.mul_le_mul_right _ hl
    omega
def isNameD : PyData → Bool
  | .str z => isNameZ z
  | _ => false
def canD : PyData → Bool
  | .int i => decide (-1000000000000000000000000000000 < i ∧ i < 1000000000000000000000000000000)
  | .none => true
  | .str z => isWordZ z 8
  | _ => false
theorem canD_const {K : PySem.W.Frag} {H : Hp} {v : V} {d : PyData} (h : Dp K H v d) (c : canD d = true) : ConstV v := by
  cases h with
  | non => exact .inl rfl
  | int i =>
    have c : decide (-1000000000000000000000000000000 < i ∧ i < 1000000000000000000000000000000) = true := c
    have c2 := of_decide_eq_true c
    exact .inr (.inl ⟨_, rfl, c2⟩)
  | str z =>
    refine .inr (.inr ⟨_, rfl, ?_⟩)
    have c : (decide _ && _) = true := c
    rw [Bool.and_eq_true] at c
    exact ⟨of_decide_eq_true c.1, c.2⟩
  | _ => cases c
/-- the place k among the values is wrong -/
def badAt (ds : List PyData) (k : Nat) : Prop := k = 3 ∨ ∃ d, ds[k]? = some d ∧ canD d = false
/-- where a call is refused: the place, or nothing -/
def Due (n : PyData) (ds : List PyData) (v : V) : Prop :=
  (isNameD n = false ∧ v = .int (-1)) ∨ (isNameD n = true ∧ ∃ k : Nat, k < ds.length ∧ badAt ds k ∧ (∀ j < k, ¬ badAt ds j) ∧ v = .int k) ∨ (isNameD n = true ∧ (∀ j < ds.length, ¬ badAt ds j) ∧ v = .non)
theorem Due.uniq {n : PyData} {ds : List PyData} {v v2 : V} (h : Due n ds v) (h2 : Due n ds v2) : v = v2 := by
  rcases h with ⟨a, rfl⟩ | ⟨a, k, hk, b, m, rfl⟩ | ⟨a, m, rfl⟩ <;> rcases h2 with ⟨a2, rfl⟩ | ⟨a2, k2, hk2, b2, m2, rfl⟩ | ⟨a2, m2, rfl⟩
  · rfl
  · rw [a] at a2; cases a2
  · rw [a] at a2; cases a2
  · rw [a] at a2; cases a2
  · rcases Nat.lt_trichotomy k k2 with h | h | h
    · exact absurd b (m2 k h)
    · rw [h]
    · exact absurd b2 (m k2 h)
  · exact absurd b (m2 k hk)
  · rw [a] at a2; cases a2
  · exact absurd b2 (m k2 hk2)
  · rfl
theorem Due.kind {n : PyData} {ds : List PyData} {v : V} (h : Due n ds v) : v = .non ∨ ∃ i, v = .int i := by
  rcases h with ⟨_, rfl⟩ | ⟨_, k, _, _, _, rfl⟩ | ⟨_, _, rfl⟩
  · exact .inr ⟨_, rfl⟩
  · exact .inr ⟨_, rfl⟩
  · exact .inl rfl
theorem Due.len {n : PyData} {ds : List PyData} (h : Due n ds .non) : isNameD n = true ∧ ds.length ≤ 3 ∧ ∀ d ∈ ds, canD d = true := by
  rcases h with ⟨_, h⟩ | ⟨_, k, _, _, _, h⟩ | ⟨a, m, _⟩
  · cases h
  · cases h
  · have h3 : ds.length ≤ 3 := by
      by_cases h : 3 < ds.length
      · exact absurd (Or.inl rfl) (m 3 h)
      · omega
    refine ⟨a, h3, fun d hd => ?_⟩
    obtain ⟨j, hj, e⟩ := List.getElem_of_mem hd
    cases hc : canD d with
    | true => rfl
    | false => exact absurd (.inr ⟨d, by rw [List.getElem?_eq_getElem hj, e], hc⟩) (m j hj)

def sp_const : Sp := fun vs H Q _ => ∃ (b : Addr) (n : Int), vs = [.ref b] ∧ Bag H b n ∧ n ≤ 800000000 ∧ ∀ (v : V) (H' : Hp), ConstV v → Bag H' b (n + 210) → Keep b H H' → Q v H'
def sp_keywords : Sp := fun vs H Q _ => vs = [] ∧ ∀ l : Addr, H l = none → Q (.ref l) (upd H l (.lst vals_KEYWORDS))
def sp_anyname : Sp := fun vs H Q _ => ∃ (b : Addr) (n : Int), vs = [.ref b] ∧ Bag H b n ∧ n ≤ 800000000 ∧ ∀ (z : Str) (H' : Hp), isNameZ z = true → Bag H' b (n + 20) → Keep b H H' → Q (.str z) H'
section
variable {P : Program} {w : World} {K : PySem.W.Frag} {mg : Str → Option Value} {base : Heap}
theorem ok_law_any_constant (T : Txt K mg) : FnOk P w K mg base CX0 4 T.f_law_any_constant T.fd_law_any_constant ["bag"] sp_const := by
  have G_law_take := ok_law_take (P := P) (w := w) (base := base) T
  have G_law_of := ok_law_of (P := P) (w := w) (base := base) T
  have G_law_number := ok_law_number (P := P) (w := w) (base := base) T
  have G_law_word := ok_law_word (P := P) (w := w) (base := base) T
  refine T.F_law_any_constant.ok sc_law_any_constant (fun vs H Q E h => ?_) (fun cdv A outer s H vs Q E hr h => ?_)
  · obtain ⟨b, n, rfl, _⟩ := h
    rfl
  · obtain ⟨b, n, rfl, hb, hn, q⟩ := h
    refine ⟨_, (pss_cons (ps_set (i := 1) sc_law_any_constant.nd rfl (.inl rfl) (pe_call G_law_take (hr.mono (by omega)) (by rfl) T.g_law_take T.F_law_take.kp T.b_law_take .nil pass0 (pa_cons (pv 0) (pa_cons pe_int pa_nil))))
        (pss_cons (ps_if (pt_cmpR op_eq (pv 1) pe_int (nomark _)) (pss_one (ps_ret pe_non)) pss_nil)
        (pss_cons (ps_if (pt_cmpR op_eq (pv 1) pe_int (nomark _)) (pss_one (ps_ret (pe_call G_law_of (hr.mono (by omega)) (by rfl) T.g_law_of T.F_law_of.kp T.b_law_of .nil pass0 (pa_cons (pv 0) (pa_cons (pe_lst (pa_cons pe_int (pa_cons pe_int (pa_cons (pe_un un_neg pe_int) (pa_cons pe_int (pa_cons (pe_un un_neg pe_int) (pa_cons pe_int (pa_cons (pe_op op_sub (pe_op op_pow pe_int pe_int) pe_int) (pa_cons (pe_op op_sub pe_int (pe_op op_pow pe_int pe_int)) pa_nil))))))))) pa_nil))))) pss_nil)
        (pss_one (ps_ret (pe_ifExp (pt_cmpR op_lt (pv 1) pe_int (nomark _)) (pe_call G_law_number hr (by rfl) T.g_law_number T.F_law_number.kp T.b_law_number .nil pass0 (pa_cons (pv 0) (pa_cons (pe_lst pa_nil) pa_nil))) (pe_call G_law_word hr (by rfl) T.g_law_word T.F_law_word.kp T.b_law_word .nil pass0 (pa_cons (pv 0) (pa_cons pe_int pa_nil))))))))), ?_⟩
    repeat (walk_at "lw w")
    refine ⟨b, _, _, rfl, hb, by omega, by omega, by omega, fun way H1 w0 w1 B1 K1 => ?_⟩
    repeat (walk_at "lw w")
    refine ite2 (fun z => ?_) (fun z => ?_)
    · exact q _ _ (.inl rfl) (B1.mono (by omega)) K1
    repeat (walk_at "lw w")
    refine ite2 (fun z => ?_) (fun z => ?_)
    · repeat (walk_at "lw w")
      refine ⟨by walk_at "lw n", fun l nl => ?_⟩
      refine ⟨b, _, _, rfl, B1.new nl, by omega, .inl ⟨l, _, rfl, (B1.ne nl).symm, upd_same, by simp, by simp, fun v H2 hv B2 K2 => ?_⟩⟩
      refine q v H2 (.inr (.inl ?_)) (B2.mono (by omega)) (K1.trans ((Keep.new nl).trans K2))
      simp only [List.mem_cons, List.not_mem_nil, or_false] at hv
      rcases hv with rfl | rfl | rfl | rfl | rfl | rfl | rfl | rfl <;> exact ⟨_, rfl, by unfold IsNum; decide +kernel⟩
    repeat (walk_at "lw w")
    refine ite2 (fun z => ?_) (fun z => ?_)
    · repeat (walk_at "lw w")
      refine ⟨by walk_at "lw n", fun l nl => ?_⟩
      refine ⟨b, l, [], _, rfl, B1.new nl, by omega, upd_same, (B1.ne nl).symm, by simp, fun i H2 hi B2 K2 => ?_⟩
      exact q _ H2 (.inr (.inl ⟨i, rfl, hi⟩)) (B2.mono (by omega)) (K1.trans ((Keep.new nl).trans K2))
    · repeat (walk_at "lw w")
      refine ⟨b, 8, _, rfl, B1, by omega, by omega, by omega, fun u H2 hu B2 K2 => ?_⟩
      exact q _ H2 (.inr (.inr ⟨u, rfl, hu⟩)) (B2.mono (by omega)) (K1.trans K2)
theorem ok_law_keywords (T : Txt K mg) : FnOk P w K mg base CX0 1 T.f_law_keywords T.fd_law_keywords [] sp_keywords := by
  refine T.F_law_keywords.ok sc_law_keywords (fun vs H Q E h => ?_) (fun cdv A outer s H vs Q E hr h => ?_)
  · obtain ⟨rfl, _⟩ := h
    rfl
  · obtain ⟨rfl, q⟩ := h
    refine ⟨_, (pss_one (ps_ret (pe_lst (pa_cons pe_str (pa_cons pe_str (pa_cons pe_str (pa_cons pe_str (pa_cons pe_str (pa_cons pe_str (pa_cons pe_str (pa_cons pe_str (pa_cons pe_str (pa_cons pe_str (pa_cons pe_str (pa_cons pe_str (pa_cons pe_str (pa_cons pe_str (pa_cons pe_str (pa_cons pe_str (pa_cons pe_str (pa_cons pe_str (pa_cons pe_str (pa_cons pe_str (pa_cons pe_str (pa_cons pe_str (pa_cons pe_str (pa_cons pe_str (pa_cons pe_str (pa_cons pe_str (pa_cons pe_str (pa_cons pe_str (pa_cons pe_str (pa_cons pe_str (pa_cons pe_str (pa_cons pe_str (pa_cons pe_str (pa_cons pe_str pa_nil))))))))))))))))))))))))))))))))))))), ?_⟩
    refine ⟨by decide, fun l nl => q l nl⟩
theorem ok_law_any_name (T : Txt K mg) : FnOk P w K mg base CX0 3 T.f_law_any_name T.fd_law_any_name ["bag"] sp_anyname := by
  have G_law_take := ok_law_take (P := P) (w := w) (base := base) T
  have G_law_of := ok_law_of (P := P) (w := w) (base := base) T
  have G_law_keywords := ok_law_keywords (P := P) (w := w) (base := base) T
  refine T.F_law_any_name.ok sc_law_any_name (fun vs H Q E h => ?_) (fun cdv A outer s H vs Q E hr h => ?_)
  · obtain ⟨b, n, rfl, _⟩ := h
    rfl
  · obtain ⟨b, n, rfl, hb, hn, q⟩ := h
    refine ⟨_, (pss_cons (ps_set (i := 1) sc_law_any_name.nd rfl (.inl rfl) pe_str)
        (pss_cons (ps_set (i := 2) sc_law_any_name.nd rfl (.inl rfl) (pe_call G_law_of hr (by rfl) T.g_law_of T.F_law_of.kp T.b_law_of .nil pass0 (pa_cons (pv 0) (pa_cons (pv 1) pa_nil))))
        (pss_cons (ps_for PassesOwn.never rfl (pi_range1 (by rfl) T.m_range (pa_cons (pe_call G_law_take (hr.mono (by omega)) (by rfl) T.g_law_take T.F_law_take.kp T.b_law_take .nil pass0 (pa_cons (pv 0) (pa_cons pe_int pa_nil))) pa_nil)) (pg_name (i := 3) sc_law_any_name.nd rfl (.inl rfl)) (pss_one (ps_set (i := 2) sc_law_any_name.nd rfl (.inl rfl) (pe_op op_add_str (pv 2) (pe_call G_law_of hr (by rfl) T.g_law_of T.F_law_of.kp T.b_law_of .nil pass0 (pa_cons (pv 0) (pa_cons (pv 1) pa_nil)))))))
        (pss_cons (ps_if (pt_cmpR op_in_seq (pv 2) (pe_call0 G_law_keywords (hr.mono (by omega)) (by rfl) T.g_law_keywords T.F_law_keywords.kp T.b_law_keywords .nil pass0) (by rfl)) (pss_one (ps_set (i := 2) sc_law_any_name.nd rfl (.inl rfl) (pe_op op_add_str pe_str (pv 2)))) pss_nil)
        (pss_one (ps_ret (pv 2))))))), ?_⟩
    have hs := PySem.sizeLine_eq
    have lows : ∀ c ∈ (Str.ofString "abcdefghijklmnopqrstuvwxyz").cps.toList, isLow c = true := by decide +kernel
    repeat (walk_at "lw w")
    refine ⟨b, _, n, rfl, hb, by omega, .inr ⟨_, rfl, by decide +kernel, by decide +kernel, fun c H1 hc hB1 hK1 => ?_⟩⟩
    repeat (walk_at "lw w")
    refine ⟨b, _, _, rfl, hB1, by omega, by decide, by decide, fun d H2 d0 d1 hB2 hK2 => ?_⟩
    repeat (walk_at "lw w")
    refine ⟨by omega, by omega, ?_⟩
    refine for_range (lo := 0) (n := d.toNat) (fun i σ H' => ∃ (z : Str) (t : Option V), σ = [some (.ref b), some (.str (Str.ofString "abcdefghijklmnopqrstuvwxyz")), some (.str z), t] ∧
        z.length = i + 1 ∧ z.cps.toList.all isLow = true ∧ Bag H' b (n + 2 + i) ∧ Keep b H H') ?_ ?_ ?_
    · refine ⟨_, none, rfl, rfl, ?_, hB2.mono (by omega), hK1.trans hK2⟩
      show [c].all isLow = true
      rw [List.all_cons, lows c hc]
      rfl
    · rintro i σ H' hi ⟨z, t, rfl, el, ec, hB, hK⟩
      repeat (walk_at "lw w")
      refine ⟨b, _, _, rfl, hB, by omega, .inr ⟨_, rfl, by decide +kernel, by decide +kernel, fun c2 H3 hc2 hB3 hK3 => ?_⟩⟩
      refine ⟨z, ⟨#[c2]⟩, rfl, rfl, ?_, ?_⟩
      · show z.length + 1 ≤ _
        omega
      · refine ⟨z ++ ⟨#[c2]⟩, _, rfl, ?_, ?_, hB3.mono (by omega), hK.trans hK3⟩
        · rw [← len_list]
          show (z.cps ++ #[c2]).toList.length = _
          rw [Array.toList_append, List.length_append, len_list, el]
          rfl
        · show (z.cps ++ #[c2]).toList.all isLow = true
          rw [Array.toList_append, List.all_append, ec]
          simp only [List.all_cons, lows c2 hc2, List.all_nil, Bool.and_true]
    · rintro σ H' ⟨z, t, rfl, el, ec, hB, hK⟩
      have hw12 : isWordZ z 12 = true := by
        unfold isWordZ
        rw [ec, decide_eq_true (show z.length ≤ 12 by omega)]
        rfl
      have hne : ¬ z = Str.ofString "" := fun h => by
        rw [h] at el
        have : (Str.ofString "").length = 0 := by decide +kernel
        omega
      repeat (walk_at "lw w")
      intro l nl
      refine ⟨l, vals_KEYWORDS, rfl, .inl (SqL.of upd_same), rfl, ?_, ?_⟩
      · refine List.all_eq_true.mpr fun y hy => ?_
        obtain ⟨k, rfl⟩ := vals_strs y hy
        rfl
      · have hB3 := hB.new (o := .lst vals_KEYWORDS) nl
        have hK3 : Keep b H (upd H' l (.lst vals_KEYWORDS)) := hK.trans (Keep.new nl)
        refine ⟨_, rfl, ?_⟩
        show if inV (.str z) vals_KEYWORDS = true then _ else _
        cases hin : inV (.str z) vals_KEYWORDS with
        | false =>
          repeat (walk_at "lw w")
          refine q z _ ?_ (hB3.mono (by omega)) hK3
          unfold isNameZ
          rw [hw12, hin, decide_eq_false hne]
          rfl
        | true =>
          have hq : isNameZ (Str.ofString "q" ++ z) = true := by
            obtain ⟨y, hy, e⟩ := List.any_eq_true.mp hin
            have h1 := List.all_eq_true.mp q_names y hy
            obtain ⟨k, rfl⟩ := vals_strs y hy
            have e2 : k = z := eq_of_beq e
            rw [← e2]
            exact h1
          have h1 : (Str.ofString "q").length = 1 := by decide +kernel
          repeat (walk_at "lw w")
          refine ⟨by rw [h1]; omega, ?_⟩
          repeat (walk_at "lw w")
          exact q _ _ hq (hB3.mono (by omega)) hK3
end

section
variable {P : Program} {w : World} {K : PySem.W.Frag} {mg : Str → Option Value} {base : Heap}
theorem ok_is_name (T : Txt K mg) : FnOk P w K mg base CX0 3 T.f_is_name T.fd_is_name ["thing"] (sp_any1 K isNameD) := by
  have G_is_small_word := ok_is_small_word (P := P) (w := w) (base := base) T
  refine T.F_is_name.ok sc_is_name (fun vs H Q E h => ?_) (fun cdv A outer s H vs Q E hr h => ?_)
  · obtain ⟨x, d, rfl, _⟩ := h
    rfl
  · obtain ⟨x, d, rfl, hd, hz, q⟩ := h
    refine ⟨_, (pss_one (ps_ret (pe_and (pe_call G_is_small_word hr (by rfl) T.g_is_small_word T.F_is_small_word.kp T.b_is_small_word .nil pass0 (pa_cons (pv 0) (pa_cons (pe_glob (v := .int 12) rfl T.c_MOST_NAME_LETTERS.choose_spec ⟨_, rfl⟩) pa_nil))) (pe_and (pe_cmpR op_ne (pv 0) pe_str (nomark _)) (pe_one (pe_cmpR op_notIn_seq (pv 0) (pe_glob (v := .ref T.a_KEYWORDS) rfl T.c_KEYWORDS rfl) (by rfl))))))), ?_⟩
    repeat (walk_at "lw w")
    refine ⟨_, d, 12, rfl, hd, hz, fun r1 H1 e1 S1 => ?_⟩
    repeat (walk_at "lw w")
    cases hd
    case str z =>
      have e1 : r1 = isWordZ z 12 := e1
      have q : ∀ (r : Bool) (H' : Hp), r = isNameZ z → Same H H' → Q (.bl r) H' := q
      refine ite2 (fun h1 => ?_) (fun h1 => ?_)
      · repeat (walk_at "lw w")
        by_cases h2 : z = Str.ofString ""
        · refine ifF (by rw [decide_eq_true (congrArg V.str h2)]; rfl) ?_
          refine q _ _ ?_ S1
          unfold isNameZ
          rw [← e1, h1, decide_eq_true h2]
          rfl
        · refine ifT (by rw [decide_eq_false (fun h => h2 (V.str.inj h))]; rfl) ?_
          repeat (walk_at "lw w")
          refine ⟨_, vals_KEYWORDS, rfl, .inr (T.q_KEYWORDS _), rfl, ?_, ?_⟩
          · refine List.all_eq_true.mpr fun y hy => ?_
            obtain ⟨k, rfl⟩ := vals_strs y hy
            rfl
          · refine q _ _ ?_ S1
            unfold isNameZ
            rw [← e1, h1, decide_eq_false h2]
            rfl
      · refine q _ _ ?_ S1
        unfold isNameZ
        rw [← e1, show r1 = false by simpa using h1]
        rfl
    all_goals (have e1 : r1 = false := e1; subst e1; exact iteF (q _ _ rfl S1))
theorem ok_law_is_name (T : Txt K mg) : FnOk P w K mg base CX0 2 T.f_law_is_name T.fd_law_is_name ["thing"] (sp_any1 K isNameD) := by
  have G_law_is_word := ok_law_is_word (P := P) (w := w) (base := base) T
  have G_law_keywords := ok_law_keywords (P := P) (w := w) (base := base) T
  refine T.F_law_is_name.ok sc_law_is_name (fun vs H Q E h => ?_) (fun cdv A outer s H vs Q E hr h => ?_)
  · obtain ⟨x, d, rfl, _⟩ := h
    rfl
  · obtain ⟨x, d, rfl, hd, hz, q⟩ := h
    refine ⟨_, (pss_one (ps_ret (pe_and (pe_call G_law_is_word hr (by rfl) T.g_law_is_word T.F_law_is_word.kp T.b_law_is_word .nil pass0 (pa_cons (pv 0) (pa_cons pe_int pa_nil))) (pe_and (pe_cmpR op_ne (pv 0) pe_str (nomark _)) (pe_one (pe_cmpR op_notIn_seq (pv 0) (pe_call0 G_law_keywords hr (by rfl) T.g_law_keywords T.F_law_keywords.kp T.b_law_keywords .nil pass0) (by rfl))))))), ?_⟩
    repeat (walk_at "lw w")
    refine ⟨_, d, 12, rfl, hd, hz, fun r1 H1 e1 S1 => ?_⟩
    repeat (walk_at "lw w")
    cases hd
    case str z =>
      have e1 : r1 = isWordZ z 12 := e1
      have q : ∀ (r : Bool) (H' : Hp), r = isNameZ z → Same H H' → Q (.bl r) H' := q
      refine ite2 (fun h1 => ?_) (fun h1 => ?_)
      · repeat (walk_at "lw w")
        by_cases h2 : z = Str.ofString ""
        · refine ifF (by rw [decide_eq_true (congrArg V.str h2)]; rfl) ?_
          refine q _ _ ?_ S1
          unfold isNameZ
          rw [← e1, h1, decide_eq_true h2]
          rfl
        · refine ifT (by rw [decide_eq_false (fun h => h2 (V.str.inj h))]; rfl) ?_
          repeat (walk_at "lw w")
          intro l nl
          refine ⟨l, vals_KEYWORDS, rfl, .inl (SqL.of upd_same), rfl, ?_, ?_⟩
          · refine List.all_eq_true.mpr fun y hy => ?_
            obtain ⟨k, rfl⟩ := vals_strs y hy
            rfl
          · refine q _ _ ?_ (S1.trans (same_new nl))
            unfold isNameZ
            rw [← e1, h1, decide_eq_false h2]
            rfl
      · refine q _ _ ?_ S1
        unfold isNameZ
        rw [← e1, show r1 = false by simpa using h1]
        rfl
    all_goals (have e1 : r1 = false := e1; subst e1; exact iteF (q _ _ rfl S1))
theorem num_abs (i : Int) : decide ((if i < 0 then -i else i) < 1000000000000000000000000000000) = canD (.int i) := by
  show _ = decide (-1000000000000000000000000000000 < i ∧ i < 1000000000000000000000000000000)
  refine decide_eq_decide.mpr ?_
  split <;> omega
theorem ok_can_be_constant (T : Txt K mg) : FnOk P w K mg base CX0 3 T.f_can_be_constant T.fd_can_be_constant ["thing"] (sp_bool1 K canD) := by
  have G_is_integer := ok_is_integer (P := P) (w := w) (base := base) T
  have G_is_small_word := ok_is_small_word (P := P) (w := w) (base := base) T
  refine T.F_can_be_constant.ok sc_can_be_constant (fun vs H Q E h => ?_) (fun cdv A outer s H vs Q E hr h => ?_)
  · obtain ⟨x, d, rfl, _⟩ := h
    rfl
  · obtain ⟨x, d, rfl, hd, hf, hp, q⟩ := h
    refine ⟨_, (pss_cons (ps_if (pt_val (pe_call G_is_integer (hr.mono (by omega)) (by rfl) T.g_is_integer T.F_is_integer.kp T.b_is_integer .nil pass0 (pa_cons (pv 0) pa_nil))) (pss_one (ps_ret (pe_cmpR op_lt (pe_callB call_abs (by rfl) T.m_abs (by decide +kernel) (pa_cons (pv 0) pa_nil)) (pe_op op_pow pe_int pe_int) (nomark _)))) pss_nil)
        (pss_one (ps_ret (pe_or (pe_cmpR op_isN (pv 0) pe_non (nomark _)) (pe_one (pe_call G_is_small_word hr (by rfl) T.g_is_small_word T.F_is_small_word.kp T.b_is_small_word .nil pass0 (pa_cons (pv 0) (pa_cons (pe_glob (v := .int 8) rfl T.c_MOST_STRING_LETTERS.choose_spec ⟨_, rfl⟩) pa_nil)))))))), ?_⟩
    repeat (walk_at "lw w")
    refine ⟨_, d, rfl, hd, hf, hp, fun r1 H1 e1 S1 => ?_⟩
    have hd1 := Dp.same S1 _ _ hd
    cases hd
    case int i =>
      have e1 : r1 = true := e1
      subst e1
      repeat (walk_at "lw w")
      rw [e30]
      repeat (walk_at "lw w")
      exact q _ _ (num_abs i) S1
    all_goals (have e1 : r1 = false := e1; subst e1; repeat (walk_at "lw w"))
    case non => exact q _ _ rfl S1
    all_goals (refine ⟨_, _, 8, rfl, hd1, short_fine hf, fun r2 H2 e2 S2 => ?_⟩; exact q _ _ e2 (S1.trans S2))
theorem ok_law_is_constant (T : Txt K mg) : FnOk P w K mg base CX0 2 T.f_law_is_constant T.fd_law_is_constant ["thing"] (sp_bool1 K canD) := by
  have G_law_is_integer := ok_law_is_integer (P := P) (w := w) (base := base) T
  have G_law_is_word := ok_law_is_word (P := P) (w := w) (base := base) T
  refine T.F_law_is_constant.ok sc_law_is_constant (fun vs H Q E h => ?_) (fun cdv A outer s H vs Q E hr h => ?_)
  · obtain ⟨x, d, rfl, _⟩ := h
    rfl
  · obtain ⟨x, d, rfl, hd, hf, hp, q⟩ := h
    refine ⟨_, (pss_cons (ps_if (pt_val (pe_call G_law_is_integer hr (by rfl) T.g_law_is_integer T.F_law_is_integer.kp T.b_law_is_integer .nil pass0 (pa_cons (pv 0) pa_nil))) (pss_one (ps_ret (pe_cmpR op_lt (pe_callB call_abs (by rfl) T.m_abs (by decide +kernel) (pa_cons (pv 0) pa_nil)) (pe_op op_pow pe_int pe_int) (nomark _)))) pss_nil)
        (pss_one (ps_ret (pe_or (pe_cmpR op_isN (pv 0) pe_non (nomark _)) (pe_one (pe_call G_law_is_word hr (by rfl) T.g_law_is_word T.F_law_is_word.kp T.b_law_is_word .nil pass0 (pa_cons (pv 0) (pa_cons pe_int pa_nil)))))))), ?_⟩
    repeat (walk_at "lw w")
    refine ⟨_, d, rfl, hd, hf, hp, fun r1 H1 e1 S1 => ?_⟩
    have hd1 := Dp.same S1 _ _ hd
    cases hd
    case int i =>
      have e1 : r1 = true := e1
      subst e1
      repeat (walk_at "lw w")
      rw [e30]
      repeat (walk_at "lw w")
      exact q _ _ (num_abs i) S1
    all_goals (have e1 : r1 = false := e1; subst e1; repeat (walk_at "lw w"))
    case non => exact q _ _ rfl S1
    all_goals (refine ⟨_, _, 8, rfl, hd1, short_fine hf, fun r2 H2 e2 S2 => ?_⟩; exact q _ _ e2 (S1.trans S2))
def sp_wr : Sp := fun vs H Q _ => ∃ v : V, vs = [v] ∧ ConstV v ∧ ∀ (H' : Hp), Same H H' → Q (.str (wrZ v)) H'
theorem num_log {i : Int} (hi : IsNum i) : i.natAbs.log2 < 1920 := by
  have h1 : i.natAbs < 2 ^ 1920 := Nat.lt_of_lt_of_le (show i.natAbs < 1000000000000000000000000000000 by obtain ⟨h1, h2⟩ := hi; omega) (by decide +kernel)
  exact PySem.Flt.log2_lt_of (by decide) h1
theorem ok_constant_text (T : Txt K mg) : FnOk P w K mg base CX0 1 T.f_constant_text T.fd_constant_text ["constant"] sp_wr := by
  refine T.F_constant_text.ok sc_constant_text (fun vs H Q E h => ?_) (fun cdv A outer s H vs Q E hr h => ?_)
  · obtain ⟨b, rfl, _⟩ := h
    rfl
  · obtain ⟨v, rfl, hv, q⟩ := h
    refine ⟨_, (pss_cons (ps_if (pt_cmpR op_isN (pv 0) pe_non (nomark _)) (pss_one (ps_ret pe_str)) pss_nil)
        (pss_cons (ps_if (pt_val (pe_callB call_isi (by rfl) T.m_isinstance (by decide +kernel) (pa_cons (pv 0) (pa_cons (pe_bltn (v := .ty "str") (by rfl) T.m_str (by decide +kernel) rfl) pa_nil)))) (pss_one (ps_ret (pe_op op_add_str (pe_op op_add_str pe_str (pv 0)) pe_str))) pss_nil)
        (pss_one (ps_ret (pe_callTy call_str_int (by rfl) T.m_str (by decide +kernel) (pa_cons (pv 0) pa_nil)))))), ?_⟩
    have hs := PySem.sizeLine_eq
    rcases hv with rfl | ⟨i, rfl, hi⟩ | ⟨z, rfl, hz⟩
    · repeat (walk_at "lw w")
      exact q _ (Same.refl _)
    · repeat (walk_at "lw w")
      exact ⟨num_log hi, q _ (Same.refl _)⟩
    · have hzl := hz.1
      repeat (walk_at "lw w")
      refine ⟨by rw [quote_len]; omega, ?_⟩
      repeat (walk_at "lw w")
      refine ⟨by rw [catl, quote_len]; omega, ?_⟩
      exact q _ (Same.refl _)
theorem ok_law_written (T : Txt K mg) : FnOk P w K mg base CX0 2 T.f_law_written T.fd_law_written ["value"] sp_wr := by
  have G_law_written : FnOk P w K mg base CX0 1 T.f_law_written T.fd_law_written ["value"] (fun _ _ _ _ => False) :=
    T.F_law_written.ok sc_law_written (fun vs H Q E h => h.elim) (fun cdv A outer s H vs Q E hr h => h.elim)
  refine T.F_law_written.ok sc_law_written (fun vs H Q E h => ?_) (fun cdv A outer s H vs Q E hr h => ?_)
  · obtain ⟨b, rfl, _⟩ := h
    rfl
  · obtain ⟨v, rfl, hv, q⟩ := h
    refine ⟨_, (pss_cons (ps_if (pt_val (pe_callB call_isi (by rfl) T.m_isinstance (by decide +kernel) (pa_cons (pv 0) (pa_cons (pe_bltn (v := .ty "tuple") (by rfl) T.m_tuple (by decide +kernel) rfl) pa_nil)))) (pss_one (ps_ret (pe_op op_add_str (pe_op op_add_str pe_str (pe_join pe_str (pe_lc (own := [("one", 1)]) (g := gName 1) rfl sc_law_written.nd (pi_tup (pv 0)) (blkOk_by (own := [("one", 1)]) (N := ["value", "one"]) (sc := defScope s_law_written) (by decide +kernel)) (fun _ _ _ _ _ => pg_name (i := 1) sc_law_written.nd rfl (.inl rfl)) (fun _ _ _ _ _ => pts_nil) (fun _ _ _ _ _ => (pe_call G_law_written hr (by rfl) T.g_law_written T.F_law_written.kp T.b_law_written .nil pass0 (pa_cons (pv 1) pa_nil)))))) pe_str))) pss_nil)
        (pss_cons (ps_if (pt_cmpR op_isN (pv 0) pe_non (nomark _)) (pss_one (ps_ret pe_str)) pss_nil)
        (pss_one (ps_ret (pe_ifExp (pt_val (pe_callB call_isi (by rfl) T.m_isinstance (by decide +kernel) (pa_cons (pv 0) (pa_cons (pe_bltn (v := .ty "str") (by rfl) T.m_str (by decide +kernel) rfl) pa_nil)))) (pe_op op_add_str (pe_op op_add_str pe_str (pv 0)) pe_str) (pe_callTy call_str_int (by rfl) T.m_str (by decide +kernel) (pa_cons (pv 0) pa_nil))))))), ?_⟩
    have hs := PySem.sizeLine_eq
    rcases hv with rfl | ⟨i, rfl, hi⟩ | ⟨z, rfl, hz⟩
    · repeat (walk_at "lw w")
      exact q _ (Same.refl _)
    · repeat (walk_at "lw w")
      exact ⟨num_log hi, q _ (Same.refl _)⟩
    · have hzl := hz.1
      repeat (walk_at "lw w")
      refine ⟨by rw [quote_len]; omega, ?_⟩
      repeat (walk_at "lw w")
      refine ⟨by rw [catl, quote_len]; omega, ?_⟩
      exact q _ (Same.refl _)
end

/-! ### call_text -/
def sp_ct (K : PySem.W.Frag) (C : Addr) : Sp := fun vs H Q E => ∃ (x : V) (n : PyData) (p : Addr) (xs : List V) (ds : List PyData), vs = [x, .ref p] ∧ Dp K H x n ∧ fine n = true ∧ SqT K H p xs ∧ DpAll K H xs ds ∧ fineAll ds = true ∧ PyData.depthAll ds ≤ 60 ∧ xs.length ≤ 10 ∧
  (∀ (v : V) (d : Addr) (H' : Hp), Due n ds v → v ≠ .non → Same H H' → H' d = some (.xd [("at", v)]) → E (.ref C) (some d) H') ∧
  (∀ (nm : Str) (H' : Hp), Due n ds .non → x = .str nm → Same H H' → Q (.str (ctZ nm xs)) H')
section
variable {P : Program} {w : World} {K : PySem.W.Frag} {mg : Str → Option Value} {base : Heap}
theorem ok_init_BadCall (T : Txt K mg) : FnOk P w K mg base CX0 1 T.cI_BadCall T.cfd_BadCall ["self", "at"] (sp_init "at" T.cC_BadCall) := by
  refine T.cF_BadCall.ok sci_BadCall (fun vs H Q E h => ?_) (fun cdv A outer s H vs Q E hr h => ?_)
  · obtain ⟨a, v, rfl, _⟩ := h
    rfl
  · obtain ⟨a, v, rfl, ha, q⟩ := h
    refine ⟨_, pss_one (ps_ost (pv 0) (pv 1)), ?_⟩
    exact ⟨v, rfl, .ref a, rfl, a, T.cC_BadCall, rfl, T.cE_BadCall.o, T.cE_BadCall.no, .inl ⟨ha, fun dx nd ne => q dx nd ne⟩⟩
theorem ok_call_text (T : Txt K mg) : FnR P w K mg base (L2.CX P w) 4 T.f_call_text (spStar 1 (sp_ct K T.cC_BadCall)) := by
  have GI_BadCall := ok_init_BadCall (P := P) (w := w) (base := base) T
  have G_is_name := ok_is_name (P := P) (w := w) (base := base) T
  have G_can_be_constant := ok_can_be_constant (P := P) (w := w) (base := base) T
  have G_constant_text := ok_constant_text (P := P) (w := w) (base := base) T
  refine T.S_call_text.ok sc_call_text StX.cxUp (fun cdv A outer s H vs Q E hr h => ?_)
  obtain ⟨x, n, p, xs, ds, rfl, hd, hf, hp, hall, hfa, hdep, hl, qe, q⟩ := h
  refine ⟨_, (pss_cons (ps_if (pt_not (pt_val (pe_call G_is_name hr (by rfl) T.g_is_name T.F_is_name.kp T.b_is_name .nil pass0 (pa_cons (pv 0) pa_nil)))) (pss_one (ps_raise rfl (takes_of rfl rfl rfl rfl) (pmk_oex T.cE_BadCall.o T.cE_BadCall.i T.cE_BadCall.t GI_BadCall (hr.mono (by omega)) T.cb_BadCall .nil pass0 (by rfl) T.cE_BadCall.g (pa_cons (pe_un un_neg pe_int) pa_nil)))) pss_nil)
        (pss_cons (ps_for (passes_of rfl) rfl (pi_enumT (by rfl) T.m_enumerate (pa_cons (pv 1) pa_nil)) (pg_tup rfl (pgs_cons (pg_name (i := 2) sc_call_text.nd rfl (.inl rfl)) (pgs_cons (pg_name (i := 3) sc_call_text.nd rfl (.inl rfl)) pgs_nil))) (pss_one (ps_if (PW.pt (pw_or (pt_cmpR op_eq (pv 2) (pe_glob (v := .int 3) rfl T.c_MOST_CONSTANTS.choose_spec ⟨_, rfl⟩) (nomark _)) (pw_or1 (pt_not (pt_val (pe_call G_can_be_constant hr (by rfl) T.g_can_be_constant T.F_can_be_constant.kp T.b_can_be_constant .nil pass0 (pa_cons (pv 3) pa_nil))))))) (pss_one (ps_raise rfl (takes_of rfl rfl rfl rfl) (pmk_oex T.cE_BadCall.o T.cE_BadCall.i T.cE_BadCall.t GI_BadCall (hr.mono (by omega)) T.cb_BadCall .nil pass0 (by rfl) T.cE_BadCall.g (pa_cons (pv 2) pa_nil)))) pss_nil)))
        (pss_one (ps_ret (pe_op op_add_str (pe_op op_add_str (pe_op op_add_str (pv 0) pe_str) (pe_join pe_str (pe_lc (own := [("value", 3)]) (g := gName 3) rfl sc_call_text.nd (pi_tup (pv 1)) (blkOk_by (own := [("value", 3)]) (N := ["name", "values", "at", "value"]) (sc := defScope s_call_text) (by decide +kernel)) (fun _ _ _ _ _ => pg_name (i := 3) sc_call_text.nd rfl (.inl rfl)) (fun _ _ _ _ _ => pts_nil) (fun _ _ _ _ _ => (pe_call G_constant_text (hr.mono (by omega)) (by rfl) T.g_constant_text T.F_constant_text.kp T.b_constant_text .nil pass0 (pa_cons (pv 3) pa_nil)))))) pe_str))))), ?_⟩
  repeat (walk_at "lw w")
  refine ⟨_, n, rfl, hd, short_fine hf, fun r1 H1 e1 S1 => ?_⟩
  repeat (walk_at "lw w")
  refine ite2 (fun e => ?_) (fun e => ?_)
  · repeat (walk_at "lw w")
    refine mk_err fun d nd => ?_
    have e2 : isNameD n = false := by rw [← e1]; simpa using e
    exact qe _ d _ (.inl ⟨e2, rfl⟩) (fun h => nomatch h) (S1.trans (same_new nd)) upd_same
  have hn : isNameD n = true := by rw [← e1]; simpa using e
  clear e e1
  have hlen := DpAll.length hall
  repeat (walk_at "lw w")
  refine ⟨p, xs, rfl, SqT.same S1 hp, ?_⟩
  refine for_it (walk_enumT (xs := xs)) (fun i σ H' => Same H H' ∧ (∀ j < i, ¬ badAt ds j) ∧ ∃ t1 t2 : Option V, σ = [some x, some (.ref p), t1, t2]) ?_ ?_ ?_ ?_
  · exact ⟨S1, fun j hj => absurd hj (Nat.not_lt_zero j), none, none, rfl⟩
  · rintro i σ H' _ ⟨S, _⟩
    exact SqT.same S hp
  · rintro i x2 σ H2 H3 hi ⟨S, hb, t1, t2, rfl⟩ ⟨T2, y1, y2, rfl, nT, rfl, ey1, ey2⟩
    have ey1 : V.int (i : Nat) = y1 := by injection ey1
    subst ey1
    have S3 : Same H (upd H2 T2 (.tup [.int (i : Nat), y2])) := S.trans (same_new nT)
    have eT : upd H2 T2 (.tup [.int (i : Nat), y2]) T2 = some (.tup [.int (i : Nat), y2]) := upd_same
    generalize upd H2 T2 (.tup [.int (i : Nat), y2]) = H4 at *
    obtain ⟨d2, ed2, hd2⟩ := DpAll.get hall ey2
    have hm := List.mem_of_getElem? ed2
    refine ⟨T2, _, rfl, SqT.of eT, rfl, ?_⟩
    repeat (walk_at "lw w")
    refine ite2 (fun e => ?_) (fun e => ?_)
    · have e3 : i = 3 := by
        have := V.int.inj (of_decide_eq_true e)
        omega
      repeat (walk_at "lw w")
      refine mk_err fun d nd => ?_
      exact qe _ d _ (.inr (.inl ⟨hn, i, by omega, .inl e3, hb, rfl⟩)) (fun h => nomatch h) (S3.trans (same_new nd)) upd_same
    · have e3 : ¬ i = 3 := fun h => e (decide_eq_true (by rw [h]; rfl))
      clear e
      repeat (walk_at "lw w")
      refine ⟨_, d2, rfl, Dp.same S3 _ _ hd2, fineAll_mem hfa hm, Nat.le_trans (depth_mem hm) hdep, fun r2 H5 e2 S2 => ?_⟩
      repeat (walk_at "lw w")
      refine ite2 (fun e => ?_) (fun e => ?_)
      · have e4 : canD d2 = false := by rw [← e2]; simpa using e
        repeat (walk_at "lw w")
        refine mk_err fun d nd => ?_
        exact qe _ d _ (.inr (.inl ⟨hn, i, by omega, .inr ⟨d2, ed2, e4⟩, hb, rfl⟩)) (fun h => nomatch h) ((S3.trans S2).trans (same_new nd)) upd_same
      · have e4 : canD d2 = true := by rw [← e2]; simpa using e
        refine ⟨S3.trans S2, fun j hj hbad => ?_, _, _, rfl⟩
        by_cases h : j < i
        · exact hb j h hbad
        · have h : j = i := by omega
          subst h
          rcases hbad with h | ⟨d3, h, hc⟩
          · exact e3 h
          · rw [ed2] at h
            have h : d2 = d3 := by injection h
            rw [← h, e4] at hc
            cases hc
  · rintro σ H' ⟨S, hb, t1, t2, rfl⟩
    have hdue : Due n ds .non := .inr (.inr ⟨hn, fun j hj => hb j (by rw [hlen]; exact hj), rfl⟩)
    obtain ⟨_, h3, hcan⟩ := hdue.len
    repeat (walk_at "lw w")
    obtain ⟨nm, rfl, hnm⟩ : ∃ nm, x = .str nm ∧ isNameZ nm = true := by
      cases hd with
      | str z => exact ⟨_, rfl, hn⟩
      | _ => cases hn
    have hs := PySem.sizeLine_eq
    have h1 : (Str.ofString "(").length = 1 := by decide +kernel
    have h2 : (Str.ofString ")").length = 1 := by decide +kernel
    have hl12 := (name_low hnm).1
    have hcv : ∀ v ∈ xs, ConstV v := fun v hv => by
      obtain ⟨d, hd, hdp⟩ := DpAll.mem hall hv
      exact canD_const hdp (hcan d hd)
    obtain ⟨hj1, hj2⟩ := join_len hl hcv
    refine ⟨_, _, rfl, rfl, ?_⟩
    refine ⟨by rw [h1]; omega, ?_⟩
    repeat (walk_at "lw w")
    refine ⟨⟨xs, SqT.same S hp⟩, fun D nD => ?_⟩
    refine lc_tup (K := K) (a := p) (xs := xs) (fun i H3 => H3 D = some (.lst (((xs.take i).map wrZ).map V.str)) ∧ Same H' H3) ?_ ?_ ?_ ?_
    · exact ⟨upd_same, same_new nD⟩
    · rintro i H3 _ ⟨_, S3⟩
      exact SqT.same (S.trans S3) hp
    · rintro i v H3 hv ⟨eD, S3⟩
      refine ⟨rfl, ?_⟩
      repeat (walk_at "lw w")
      refine ⟨hcv v (List.mem_of_getElem? hv), fun H4 S4 => ?_⟩
      have hi : i < xs.length := (List.getElem?_eq_some_iff.mp hv).1
      refine ⟨_, S4 _ _ eD, ?_, ?_, ?_⟩
      · rw [List.length_map, List.length_map, List.length_take]
        exact small1000 (by omega)
      · rw [upd_same, List.take_add_one, hv, List.map_append, List.map_append]
        rfl
      · intro q' o e
        rw [upd_ne (ne_of_none e nD)]
        exact S4 _ _ (S3 _ _ e)
    · rintro H3 ⟨eD, S3⟩
      rw [List.take_length] at eD
      refine ⟨_, D, xs.map wrZ, rfl, rfl, .inl (SqL.of eD), ?_, ?_⟩
      · have h3 : (Str.ofString ", ").length = 2 := by decide +kernel
        rw [h3, List.length_map]
        omega
      · repeat (walk_at "lw w")
        refine ⟨by rw [catl, h1]; omega, ?_⟩
        repeat (walk_at "lw w")
        refine ⟨by rw [catl, catl, h1, h2]; omega, ?_⟩
        exact q nm H3 hdue rfl (S.trans S3)
end

/-! ### the law's own functions -/
def sp_lct : Sp := fun vs H Q _ => ∃ (nm : Str) (l : Addr) (xs : List V), vs = [.str nm, .ref l] ∧ H l = some (.lst xs) ∧ nm.length ≤ 100 ∧ xs.length ≤ 10 ∧ (∀ v ∈ xs, ConstV v) ∧ ∀ H' : Hp, Same H H' → Q (.str (ctZ nm xs)) H'
def sp_due (K : PySem.W.Frag) : Sp := fun vs H Q _ => ∃ (x : V) (n : PyData) (l : Addr) (xs : List V) (ds : List PyData), vs = [x, .ref l] ∧ Dp K H x n ∧ fine n = true ∧ H l = some (.lst xs) ∧ DpAll K H xs ds ∧ fineAll ds = true ∧ PyData.depthAll ds ≤ 60 ∧ xs.length ≤ 10 ∧
  ∀ (v : V) (H' : Hp), Due n ds v → Same H H' → Q v H'
def sp_asked (K : PySem.W.Frag) (C : Addr) : Sp := fun vs H Q E => ∃ (x : V) (n : PyData) (l : Addr) (xs : List V) (ds : List PyData), vs = [x, .ref l] ∧ Dp K H x n ∧ fine n = true ∧ H l = some (.lst xs) ∧ DpAll K H xs ds ∧ fineAll ds = true ∧ PyData.depthAll ds ≤ 60 ∧ xs.length ≤ 5 ∧
  (∀ (v : V) (d : Addr) (H' : Hp), Due n ds v → v ≠ .non → Same H H' → H' d = some (.xd [("at", v)]) → E (.ref C) (some d) H') ∧
  (∀ (nm : Str) (H' : Hp), Due n ds .non → x = .str nm → Same H H' → Q (.str (ctZ nm xs)) H')
section
variable {P : Program} {w : World} {K : PySem.W.Frag} {mg : Str → Option Value} {base : Heap}
theorem ok_law_call_text (T : Txt K mg) : FnOk P w K mg base CX0 3 T.f_law_call_text T.fd_law_call_text ["name", "values"] sp_lct := by
  have G_law_written := ok_law_written (P := P) (w := w) (base := base) T
  refine T.F_law_call_text.ok sc_law_call_text (fun vs H Q E h => ?_) (fun cdv A outer s H vs Q E hr h => ?_)
  · obtain ⟨n, l, xs, rfl, _⟩ := h
    rfl
  · obtain ⟨nm, l, xs, rfl, hl, hn, hx, hcv, q⟩ := h
    refine ⟨_, (pss_one (ps_ret (pe_op op_add_str (pe_op op_add_str (pe_op op_add_str (pv 0) pe_str) (pe_join pe_str (pe_lc (own := [("value", 2)]) (g := gName 2) rfl sc_law_call_text.nd (pi_list (pv 1)) (blkOk_by (own := [("value", 2)]) (N := ["name", "values", "value"]) (sc := defScope s_law_call_text) (by decide +kernel)) (fun _ _ _ _ _ => pg_name (i := 2) sc_law_call_text.nd rfl (.inl rfl)) (fun _ _ _ _ _ => pts_nil) (fun _ _ _ _ _ => (pe_call G_law_written hr (by rfl) T.g_law_written T.F_law_written.kp T.b_law_written .nil pass0 (pa_cons (pv 2) pa_nil)))))) pe_str))), ?_⟩
    have hs := PySem.sizeLine_eq
    have h1 : (Str.ofString "(").length = 1 := by decide +kernel
    have h2 : (Str.ofString ")").length = 1 := by decide +kernel
    obtain ⟨hj1, hj2⟩ := join_len hx hcv
    repeat (walk_at "lw w")
    refine ⟨by rw [h1]; omega, ?_⟩
    repeat (walk_at "lw w")
    refine ⟨⟨_, SqL.of hl⟩, fun D nD => ?_⟩
    refine lc_list (K := K) (a := l) (xs := xs) (fun i H3 => H3 D = some (.lst (((xs.take i).map wrZ).map V.str)) ∧ Same H H3) ?_ ?_ ?_ ?_
    · exact ⟨upd_same, same_new nD⟩
    · rintro i H3 _ ⟨_, S3⟩
      exact SqL.of (S3 _ _ hl)
    · rintro i v H3 hv ⟨eD, S3⟩
      refine ⟨rfl, ?_⟩
      repeat (walk_at "lw w")
      refine ⟨hcv v (List.mem_of_getElem? hv), fun H4 S4 => ?_⟩
      have hi : i < xs.length := (List.getElem?_eq_some_iff.mp hv).1
      refine ⟨_, S4 _ _ eD, ?_, ?_, ?_⟩
      · rw [List.length_map, List.length_map, List.length_take]
        exact small1000 (by omega)
      · rw [upd_same, List.take_add_one, hv, List.map_append, List.map_append]
        rfl
      · intro q' o e
        rw [upd_ne (ne_of_none e nD)]
        exact S4 _ _ (S3 _ _ e)
    · rintro H3 ⟨eD, S3⟩
      rw [List.take_length] at eD
      refine ⟨_, D, xs.map wrZ, rfl, rfl, .inl (SqL.of eD), ?_, ?_⟩
      · have h3 : (Str.ofString ", ").length = 2 := by decide +kernel
        rw [h3, List.length_map]
        omega
      · repeat (walk_at "lw w")
        refine ⟨by rw [catl, h1]; omega, ?_⟩
        repeat (walk_at "lw w")
        refine ⟨by rw [catl, catl, h1, h2]; omega, ?_⟩
        exact q H3 S3
theorem ok_law_due (T : Txt K mg) : FnOk P w K mg base CX0 3 T.f_law_due T.fd_law_due ["name", "some"] (sp_due K) := by
  have G_law_is_name := ok_law_is_name (P := P) (w := w) (base := base) T
  have G_law_is_constant := ok_law_is_constant (P := P) (w := w) (base := base) T
  refine T.F_law_due.ok sc_law_due (fun vs H Q E h => ?_) (fun cdv A outer s H vs Q E hr h => ?_)
  · obtain ⟨x, n, l, xs, ds, rfl, _⟩ := h
    rfl
  · obtain ⟨x, n, l, xs, ds, rfl, hd, hf, hl, hall, hfa, hdep, hx, q⟩ := h
    refine ⟨_, (pss_cons (ps_if (pt_not (pt_val (pe_call G_law_is_name hr (by rfl) T.g_law_is_name T.F_law_is_name.kp T.b_law_is_name .nil pass0 (pa_cons (pv 0) pa_nil)))) (pss_one (ps_ret (pe_un un_neg pe_int))) pss_nil)
        (pss_cons (ps_for PassesOwn.never rfl (pi_range1 (by rfl) T.m_range (pa_cons (pe_callB call_len (by rfl) T.m_len (by decide +kernel) (pa_cons (pv 1) pa_nil)) pa_nil)) (pg_name (i := 2) sc_law_due.nd rfl (.inl rfl)) (pss_one (ps_if (PW.pt (pw_or (pt_cmpR op_eq (pv 2) pe_int (nomark _)) (pw_or1 (pt_not (pt_val (pe_call G_law_is_constant hr (by rfl) T.g_law_is_constant T.F_law_is_constant.kp T.b_law_is_constant .nil pass0 (pa_cons (pe_ix ix_list (pv 1) (pv 2) (fun _ _ => rfl)) pa_nil))))))) (pss_one (ps_ret (pv 2))) pss_nil)))
        (pss_one (ps_ret pe_non)))), ?_⟩
    have hlen := DpAll.length hall
    repeat (walk_at "lw w")
    refine ⟨_, n, rfl, hd, short_fine hf, fun r1 H1 e1 S1 => ?_⟩
    repeat (walk_at "lw w")
    refine ite2 (fun e => ?_) (fun e => ?_)
    · repeat (walk_at "lw w")
      exact q _ _ (.inl ⟨by rw [← e1]; simpa using e, rfl⟩) S1
    have hn : isNameD n = true := by rw [← e1]; simpa using e
    clear e e1
    have hl1 := S1 _ _ hl
    repeat (walk_at "lw w")
    refine ⟨by omega, by omega, ?_⟩
    refine for_range (lo := 0) (n := _) (fun i σ H' => Same H H' ∧ (∀ j < i, ¬ badAt ds j) ∧ ∃ t1 : Option V, σ = [some x, some (.ref l), t1]) ?_ ?_ ?_
    · exact ⟨S1, fun j hj => absurd hj (Nat.not_lt_zero j), none, rfl⟩
    · rintro i σ H2 hi ⟨S, hb, t1, rfl⟩
      have hi : i < xs.length := by omega
      have hl2 := S _ _ hl
      obtain ⟨d2, ed2, hd2⟩ := DpAll.get hall (List.getElem?_eq_getElem hi)
      have hm := List.mem_of_getElem? ed2
      repeat (walk_at "lw w")
      refine ite2 (fun e => ?_) (fun e => ?_)
      · have e3 : i = 3 := by
          have := V.int.inj (of_decide_eq_true e)
          omega
        repeat (walk_at "lw w")
        exact q _ _ (.inr (.inl ⟨hn, i, by omega, .inl e3, hb, by rw [Int.zero_add]⟩)) S
      · have e3 : ¬ i = 3 := fun h => e (decide_eq_true (by rw [h]; rfl))
        clear e
        repeat (walk_at "lw w")
        refine ⟨_, _, _, _, rfl, rfl, SqL.of hl2, by rw [Int.zero_add]; exact atI_nat (List.getElem?_eq_getElem hi), ?_⟩
        repeat (walk_at "lw w")
        refine ⟨_, d2, rfl, Dp.same S _ _ hd2, fineAll_mem hfa hm, Nat.le_trans (depth_mem hm) hdep, fun r2 H5 e2 S2 => ?_⟩
        repeat (walk_at "lw w")
        refine ite2 (fun e => ?_) (fun e => ?_)
        · have e4 : canD d2 = false := by rw [← e2]; simpa using e
          repeat (walk_at "lw w")
          exact q _ _ (.inr (.inl ⟨hn, i, by omega, .inr ⟨d2, ed2, e4⟩, hb, by rw [Int.zero_add]⟩)) (S.trans S2)
        · have e4 : canD d2 = true := by rw [← e2]; simpa using e
          refine ⟨S.trans S2, fun j hj hbad => ?_, _, rfl⟩
          by_cases h : j < i
          · exact hb j h hbad
          · have h : j = i := by omega
            subst h
            rcases hbad with h | ⟨d3, h, hc⟩
            · exact e3 h
            · rw [ed2] at h
              have h : d2 = d3 := by injection h
              rw [← h, e4] at hc
              cases hc
    · rintro σ H' ⟨S, hb, t1, rfl⟩
      repeat (walk_at "lw w")
      exact q _ _ (.inr (.inr ⟨hn, fun j hj => hb j (by omega), rfl⟩)) S
theorem ok_law_asked (T : Txt K mg) : FnOk P w K mg base (L2.CX P w) 5 T.f_law_asked T.fd_law_asked ["name", "some"] (sp_asked K T.cC_BadCall) := by
  have G_call_text := ok_call_text (P := P) (w := w) (base := base) T
  refine T.F_law_asked.okX sc_law_asked (fun vs H Q E h => ?_) (fun cdv A outer s H vs Q E hr h => ?_)
  · obtain ⟨x, n, l, xs, ds, rfl, _⟩ := h
    rfl
  · obtain ⟨x, n, l, xs, ds, rfl, hd, hf, hl, hall, hfa, hdep, hx, qe, q⟩ := h
    refine ⟨_, (pss_cons (ps_if (pt_cmpR op_eq (pe_callB call_len (by rfl) T.m_len (by decide +kernel) (pa_cons (pv 1) pa_nil)) pe_int (nomark _)) (pss_one (ps_ret (pe_callF G_call_text (hr.mono (by omega)) T.S_call_text.kp (by rfl) T.g_call_text (passes_call (takes_of rfl rfl rfl rfl) (fun _ _ _ _ h => h)) (pa_cons (pv 0) pa_nil)))) pss_nil)
        (pss_cons (ps_if (pt_cmpR op_eq (pe_callB call_len (by rfl) T.m_len (by decide +kernel) (pa_cons (pv 1) pa_nil)) pe_int (nomark _)) (pss_one (ps_ret (pe_callF G_call_text (hr.mono (by omega)) T.S_call_text.kp (by rfl) T.g_call_text (passes_call (takes_of rfl rfl rfl rfl) (fun _ _ _ _ h => h)) (pa_cons (pv 0) (pa_cons (pe_ix ix_list (pv 1) pe_int (fun _ _ => rfl)) pa_nil))))) pss_nil)
        (pss_cons (ps_if (pt_cmpR op_eq (pe_callB call_len (by rfl) T.m_len (by decide +kernel) (pa_cons (pv 1) pa_nil)) pe_int (nomark _)) (pss_one (ps_ret (pe_callF G_call_text (hr.mono (by omega)) T.S_call_text.kp (by rfl) T.g_call_text (passes_call (takes_of rfl rfl rfl rfl) (fun _ _ _ _ h => h)) (pa_cons (pv 0) (pa_cons (pe_ix ix_list (pv 1) pe_int (fun _ _ => rfl)) (pa_cons (pe_ix ix_list (pv 1) pe_int (fun _ _ => rfl)) pa_nil)))))) pss_nil)
        (pss_cons (ps_if (pt_cmpR op_eq (pe_callB call_len (by rfl) T.m_len (by decide +kernel) (pa_cons (pv 1) pa_nil)) pe_int (nomark _)) (pss_one (ps_ret (pe_callF G_call_text (hr.mono (by omega)) T.S_call_text.kp (by rfl) T.g_call_text (passes_call (takes_of rfl rfl rfl rfl) (fun _ _ _ _ h => h)) (pa_cons (pv 0) (pa_cons (pe_ix ix_list (pv 1) pe_int (fun _ _ => rfl)) (pa_cons (pe_ix ix_list (pv 1) pe_int (fun _ _ => rfl)) (pa_cons (pe_ix ix_list (pv 1) pe_int (fun _ _ => rfl)) pa_nil))))))) pss_nil)
        (pss_cons (ps_if (pt_cmpR op_eq (pe_callB call_len (by rfl) T.m_len (by decide +kernel) (pa_cons (pv 1) pa_nil)) pe_int (nomark _)) (pss_one (ps_ret (pe_callF G_call_text (hr.mono (by omega)) T.S_call_text.kp (by rfl) T.g_call_text (passes_call (takes_of rfl rfl rfl rfl) (fun _ _ _ _ h => h)) (pa_cons (pv 0) (pa_cons (pe_ix ix_list (pv 1) pe_int (fun _ _ => rfl)) (pa_cons (pe_ix ix_list (pv 1) pe_int (fun _ _ => rfl)) (pa_cons (pe_ix ix_list (pv 1) pe_int (fun _ _ => rfl)) (pa_cons (pe_ix ix_list (pv 1) pe_int (fun _ _ => rfl)) pa_nil)))))))) pss_nil)
        (pss_one (ps_ret (pe_callF G_call_text (hr.mono (by omega)) T.S_call_text.kp (by rfl) T.g_call_text (passes_call (takes_of rfl rfl rfl rfl) (fun _ _ _ _ h => h)) (pa_cons (pv 0) (pa_cons (pe_ix ix_list (pv 1) pe_int (fun _ _ => rfl)) (pa_cons (pe_ix ix_list (pv 1) pe_int (fun _ _ => rfl)) (pa_cons (pe_ix ix_list (pv 1) pe_int (fun _ _ => rfl)) (pa_cons (pe_ix ix_list (pv 1) pe_int (fun _ _ => rfl)) (pa_cons (pe_ix ix_list (pv 1) pe_int (fun _ _ => rfl)) pa_nil)))))))))))))), ?_⟩
    have fin : spStar 1 (sp_ct K T.cC_BadCall) (x :: xs) H Q E := by
      refine ⟨[x], xs, rfl, rfl, by have := PySem.sizeLine_eq; omega, fun p np => ?_⟩
      have S0 : Same H (upd H p (.tup xs)) := same_new np
      exact ⟨x, n, p, xs, ds, rfl, Dp.same S0 _ _ hd, hf, SqT.of upd_same, DpAll.same S0 _ _ hall, hfa, hdep, by omega, fun v d H' h1 h2 h3 h4 => qe v d H' h1 h2 (S0.trans h3) h4, fun nm H' h1 h2 h3 => q nm H' h1 h2 (S0.trans h3)⟩
    repeat (walk_at "lw w")
    rcases xs with _ | ⟨a1, _ | ⟨a2, _ | ⟨a3, _ | ⟨a4, _ | ⟨a5, _ | ⟨a6, r⟩⟩⟩⟩⟩⟩
    · refine ifT (by rfl) ?_
      repeat (walk_at "lw w")
      exact fin
    · refine ifF (by rfl) ?_
      repeat (walk_at "lw w")
      exact fin
    · refine ifF (by rfl) ?_
      repeat (walk_at "lw w")
      exact fin
    · refine ifF (by rfl) ?_
      repeat (walk_at "lw w")
      exact fin
    · refine ifF (by rfl) ?_
      repeat (walk_at "lw w")
      exact fin
    · refine ifF (by rfl) ?_
      repeat (walk_at "lw w")
      exact fin
    · rw [List.length_cons, List.length_cons, List.length_cons, List.length_cons, List.length_cons, List.length_cons] at hx
      omega
end

theorem strOk_low {z : Str} (h : z.cps.toList.all isLow = true) : PyData.strOk z = true := by
  unfold PyData.strOk
  rw [← Array.all_toList]
  refine List.all_eq_true.mpr fun c hc => ?_
  have h1 := List.all_eq_true.mp h c hc
  unfold isLow at h1
  have h2 := of_decide_eq_true h1
  exact decide_eq_true (by omega)
theorem fine_str {z : Str} {n : Nat} (h : PyData.strOk z = true) (l : z.length ≤ n) (hn : n ≤ 100000 := by decide) : fine (.str z) = true := by
  unfold fine
  rw [h, decide_eq_true (Nat.le_trans l hn)]
  rfl

def sp_value (K : PySem.W.Frag) : Sp := fun vs H Q _ => ∃ (b : Addr) (n : Int), vs = [.ref b] ∧ Bag H b n ∧ n ≤ 700000000 ∧
  ∀ (v : V) (d : PyData) (H' : Hp), Dp K (since H H') v d → fine d = true → PyData.depth d ≤ 1 → Bag H' b (n + 300) → Keep b H H' → Q v H'
section
variable {P : Program} {w : World} {K : PySem.W.Frag} {mg : Str → Option Value} {base : Heap}
theorem ok_law_value (T : Txt K mg) : FnOk P w K mg base CX0 5 T.f_law_value T.fd_law_value ["bag"] (sp_value K) := by
  have G_law_take := ok_law_take (P := P) (w := w) (base := base) T
  have G_law_of := ok_law_of (P := P) (w := w) (base := base) T
  have G_law_any_constant := ok_law_any_constant (P := P) (w := w) (base := base) T
  refine T.F_law_value.ok sc_law_value (fun vs H Q E h => ?_) (fun cdv A outer s H vs Q E hr h => ?_)
  · obtain ⟨b, n, rfl, _⟩ := h
    rfl
  · obtain ⟨b, n, rfl, hb, hn, q⟩ := h
    refine ⟨_, (pss_cons (ps_if (pt_cmpR op_gt (pe_call G_law_take (hr.mono (by omega)) (by rfl) T.g_law_take T.F_law_take.kp T.b_law_take .nil pass0 (pa_cons (pv 0) (pa_cons pe_int pa_nil))) pe_int (nomark _)) (pss_one (ps_ret (pe_call G_law_any_constant hr (by rfl) T.g_law_any_constant T.F_law_any_constant.kp T.b_law_any_constant .nil pass0 (pa_cons (pv 0) pa_nil)))) pss_nil)
        (pss_one (ps_ret (pe_call G_law_of (hr.mono (by omega)) (by rfl) T.g_law_of T.F_law_of.kp T.b_law_of .nil pass0 (pa_cons (pv 0) (pa_cons (pe_lst (pa_cons pe_bl (pa_cons pe_bl (pa_cons (pe_op op_pow pe_int pe_int) (pa_cons (pe_un un_neg (pe_op op_pow pe_int pe_int)) (pa_cons (pe_op op_mul_str pe_str pe_int) (pa_cons pe_str (pa_cons pe_str (pa_cons pe_str (pa_cons (pe_tup pa_nil) (pa_cons (pe_lst pa_nil) (pa_cons (pe_lst (pa_cons pe_int pa_nil)) (pa_cons (pe_tup (pa_cons pe_non pa_nil)) pa_nil))))))))))))) pa_nil)))))), ?_⟩
    repeat (walk_at "lw w")
    refine ⟨b, _, _, rfl, hb, by omega, by omega, by omega, fun d H1 d0 d1 B1 K1 => ?_⟩
    repeat (walk_at "lw w")
    refine ite2 (fun e => ?_) (fun e => ?_)
    · repeat (walk_at "lw w")
      refine ⟨b, _, rfl, B1, by omega, fun v H2 hc B2 K2 => ?_⟩
      have KK := K1.trans K2
      rcases hc with rfl | ⟨i, rfl, _⟩ | ⟨z, rfl, hz⟩
      · exact q _ _ _ .non rfl (by decide) (B2.mono (by omega)) KK
      · exact q _ _ _ (.int i) rfl (by show 0 ≤ 1; decide) (B2.mono (by omega)) KK
      · exact q _ _ _ (.str z) (fine_str (strOk_low hz.2) hz.1) (by show 0 ≤ 1; decide) (B2.mono (by omega)) KK
    · clear e
      repeat (walk_at "lw w")
      refine ⟨⟨by decide +kernel, fun _ _ => by decide +kernel, fun _ _ => by decide +kernel⟩, ?_⟩
      repeat (walk_at "lw w")
      refine ⟨by walk_at "lw n", fun p1 np1 => ?_⟩
      repeat (walk_at "lw w")
      refine ⟨by walk_at "lw n", fun p2 np2 => ?_⟩
      repeat (walk_at "lw w")
      refine ⟨by walk_at "lw n", fun p3 np3 => ?_⟩
      repeat (walk_at "lw w")
      refine ⟨by walk_at "lw n", fun p4 np4 => ?_⟩
      repeat (walk_at "lw w")
      refine ⟨by walk_at "lw n", fun l nl => ?_⟩
      have B4 := (((B1.new np1).new np2).new np3).new (o := .tup [.non]) np4
      refine ⟨b, _, _, rfl, B4.new nl, by omega, .inl ⟨l, _, rfl, (B4.ne nl).symm, upd_same, by simp, by simp, fun v H2 hv B2 K2 => ?_⟩⟩
      have k0 : Dom H H1 := K1.dom B1.has
      have s1 := same_new (o := .tup []) np1
      have s2 := same_new (o := .lst []) np2
      have s3 := same_new (o := .lst [.int 1]) np3
      have s4 := same_new (o := .tup [.non]) np4
      have ne1 : p1 ≠ b := (B1.ne np1).symm
      have ne2 : p2 ≠ b := ((B1.new np1).ne np2).symm
      have ne3 : p3 ≠ b := (((B1.new np1).new np2).ne np3).symm
      have ne4 : p4 ≠ b := ((((B1.new np1).new np2).new np3).ne np4).symm
      have h1 : H p1 = none := k0.free np1
      have h2 : H p2 = none := k0.free ((Same.dom s1).free np2)
      have h3 : H p3 = none := k0.free ((Same.dom s1).free ((Same.dom s2).free np3))
      have h4 : H p4 = none := k0.free ((Same.dom s1).free ((Same.dom s2).free ((Same.dom s3).free np4)))
      have snl := fun o => same_new (o := o) nl
      have g1 := K2 _ _ ne1 (snl _ _ _ (s4 _ _ (s3 _ _ (s2 _ _ upd_same))))
      have g2 := K2 _ _ ne2 (snl _ _ _ (s4 _ _ (s3 _ _ upd_same)))
      have g3 := K2 _ _ ne3 (snl _ _ _ (s4 _ _ upd_same))
      have g4 := K2 _ _ ne4 (snl _ _ _ upd_same)
      have KK : Keep b H H2 := K1.trans ((Keep.new np1).trans ((Keep.new np2).trans ((Keep.new np3).trans ((Keep.new np4).trans ((Keep.new nl).trans K2)))))
      have B3 : Bag H2 b (n + 300) := B2.mono (by omega)
      clear K1 K2 k0 s1 s2 s3 s4 ne1 ne2 ne3 ne4 snl B2 B4
      simp only [List.mem_cons, List.not_mem_nil, or_false] at hv
      rcases hv with rfl | rfl | rfl | rfl | rfl | rfl | rfl | rfl | rfl | rfl | rfl | rfl
      · exact q _ _ _ (.bl true) rfl (by show 0 ≤ 1; decide) B3 KK
      · exact q _ _ _ (.bl false) rfl (by show 0 ≤ 1; decide) B3 KK
      · exact q _ _ _ (.int _) rfl (by show 0 ≤ 1; decide) B3 KK
      · exact q _ _ _ (.int _) rfl (by show 0 ≤ 1; decide) B3 KK
      · exact q _ _ _ (.str _) (by decide +kernel) (by show 0 ≤ 1; decide) B3 KK
      · exact q _ _ _ (.str _) (by decide +kernel) (by show 0 ≤ 1; decide) B3 KK
      · exact q _ _ _ (.str _) (by decide +kernel) (by show 0 ≤ 1; decide) B3 KK
      · exact q _ _ _ (.str _) (by decide +kernel) (by show 0 ≤ 1; decide) B3 KK
      · exact q _ _ _ (.tup (SqT.of (since_of h1 g1)) .nil) rfl (by decide) B3 KK
      · exact q _ _ _ (.lst (SqL.of (since_of h2 g2)) .nil) rfl (by decide) B3 KK
      · exact q _ _ _ (.lst (SqL.of (since_of h3 g3)) (.cons (.int 1) .nil)) rfl (by decide) B3 KK
      · exact q _ _ _ (.tup (SqT.of (since_of h4 g4)) (.cons .non .nil)) rfl (by decide) B3 KK
end

theorem keep_same {b : Addr} {H H1 H2 : Hp} (s : Same H H1) (nb : H b = none) (k : Keep b H1 H2) : Same H H2 := fun q o e => k q o (ne_of_none e nb) (s q o e)
theorem kit2 {K : PySem.W.Frag} {a c1 c2 : String} {r1 r2 : Bool} (h1 : kitB a c1 = some r1) (h2 : kitB a c2 = some r2) : PySem.W.kitAny K (.type a) [.type c1, .type c2] = some (r1 || r2) := by
  refine kitAny_cons (kit_ty h1) (fun e => ?_) (fun e => by rw [e]; rfl)
  rw [e, Bool.false_or]
  exact kitAny_cons (kit_ty h2) (fun e => by rw [e]; exact kitAny_nil) (fun e => e)
def spLaw (K : PySem.W.Frag) : Sp := fun vs H Q _ => ∃ (a : Addr) (ns : List Int), vs = [.ref a] ∧ SqL K H a (ns.map V.int) ∧ ns.length ≤ 63 ∧ (∀ z ∈ ns, Builtin.Int.intBits z ≤ 1048576) ∧ ∀ H', Q (.bl true) H'

/-! ### the law -/
def wob (b : Addr) (H : Hp) : Hp := fun q => if q = b then none else H q
theorem wob_keep {b : Addr} {H H' : Hp} (k : Keep b H H') : Same (wob b H) (wob b H') := fun q o e => by
  unfold wob at *
  by_cases h : q = b
  · rw [if_pos h] at e; cases e
  · rw [if_neg h] at e ⊢
    exact k q o h e
theorem wob_same {b : Addr} {H : Hp} : Same (wob b H) H := fun q o e => by
  unfold wob at e
  by_cases h : q = b
  · rw [if_pos h] at e; cases e
  · rw [if_neg h] at e
    exact e
theorem keys_fine : (vals_KEYWORDS.all fun y => match y with | .str k => fine (.str k) | _ => false) = true := by decide +kernel
/-- a value that may be passed as a name: what stands does not rest on the bag -/
def NV (K : PySem.W.Frag) (b : Addr) (H : Hp) (v : V) : Prop := ∃ d, Dp K (wob b H) v d ∧ fine d = true
theorem NV.keep {K : PySem.W.Frag} {b : Addr} {H H' : Hp} {v : V} (h : NV K b H v) (k : Keep b H H') : NV K b H' v := by
  obtain ⟨d, h1, h2⟩ := h
  exact ⟨d, Dp.same (wob_keep k) _ _ h1, h2⟩
theorem wob_of {b q : Addr} {H : Hp} {o : HO} (n : q ≠ b) (e : H q = some o) : wob b H q = some o := by
  unfold wob
  rw [if_neg n]
  exact e
section
variable {P : Program} {w : World} {K : PySem.W.Frag} {mg : Str → Option Value} {base : Heap}
theorem ok_law (T : Txt K mg) {f : Addr} {fd : FuncData} (F : Fun K "law" "law" s_law f fd) : FnOk P w K mg base CX0 6 f fd ["script"] (spLaw K) := by
  have G_law_bag := ok_law_bag (P := P) (w := w) (base := base) T
  have G_law_take := ok_law_take (P := P) (w := w) (base := base) T
  have G_law_of := ok_law_of (P := P) (w := w) (base := base) T
  have G_law_any_name := ok_law_any_name (P := P) (w := w) (base := base) T
  have G_law_word := ok_law_word (P := P) (w := w) (base := base) T
  have G_law_keywords := ok_law_keywords (P := P) (w := w) (base := base) T
  have G_law_value := ok_law_value (P := P) (w := w) (base := base) T
  have G_law_due := ok_law_due (P := P) (w := w) (base := base) T
  have G_law_asked := ok_law_asked (P := P) (w := w) (base := base) T
  have G_law_call_text := ok_law_call_text (P := P) (w := w) (base := base) T
  refine F.ok sc_law (fun vs H Q E h => ?_) (fun cdv A outer s H vs Q E hr h => ?_)
  · obtain ⟨b, ns, rfl, _⟩ := h
    rfl
  · obtain ⟨a, ns, rfl, hS, hlen, _, q⟩ := h
    refine ⟨_, (pss_cons (ps_for PassesOwn.never rfl (pi_range1 (by rfl) T.m_range (pa_cons (pe_callB (call_max2 rfl) (by rfl) T.m_max (by decide +kernel) (pa_cons pe_int (pa_cons (pe_callB (call_min2 rfl) (by rfl) T.m_min (by decide +kernel) (pa_cons pe_int (pa_cons (pe_callB call_len (by rfl) T.m_len (by decide +kernel) (pa_cons (pv 0) pa_nil)) pa_nil))) pa_nil))) pa_nil)) (pg_name (i := 1) sc_law.nd rfl (.inl rfl)) (pss_cons (ps_set (i := 2) sc_law.nd rfl (.inr rfl) (pe_call G_law_bag (hr.mono (by omega)) (by rfl) T.g_law_bag T.F_law_bag.kp T.b_law_bag .nil pass0 (pa_cons (pv 0) (pa_cons (pv 1) pa_nil))))
        (pss_cons (ps_set (i := 3) sc_law.nd rfl (.inl rfl) (pe_lst (pa_cons (pe_call G_law_any_name (hr.mono (by omega)) (by rfl) T.g_law_any_name T.F_law_any_name.kp T.b_law_any_name .nil pass0 (pa_cons (pv 2) pa_nil)) (pa_cons (pe_call G_law_any_name (hr.mono (by omega)) (by rfl) T.g_law_any_name T.F_law_any_name.kp T.b_law_any_name .nil pass0 (pa_cons (pv 2) pa_nil)) (pa_cons (pe_op op_add_str pe_str (pe_call G_law_word (hr.mono (by omega)) (by rfl) T.g_law_word T.F_law_word.kp T.b_law_word .nil pass0 (pa_cons (pv 2) (pa_cons pe_int pa_nil)))) (pa_cons (pe_call G_law_any_name (hr.mono (by omega)) (by rfl) T.g_law_any_name T.F_law_any_name.kp T.b_law_any_name .nil pass0 (pa_cons (pv 2) pa_nil)) pa_nil))))))
        (pss_cons (ps_set (i := 4) sc_law.nd rfl (.inl rfl) (pe_op op_cat (pe_call0 G_law_keywords (hr.mono (by omega)) (by rfl) T.g_law_keywords T.F_law_keywords.kp T.b_law_keywords .nil pass0) (pe_lst (pa_cons pe_str (pa_cons (pe_op op_mul_str pe_str pe_int) (pa_cons (pe_op op_mul_str pe_str pe_int) (pa_cons pe_str (pa_cons pe_str (pa_cons pe_str (pa_cons pe_non (pa_cons pe_bl (pa_cons pe_int (pa_cons (pe_lst (pa_cons pe_str pa_nil)) pa_nil)))))))))))))
        (pss_cons (ps_set (i := 3) sc_law.nd rfl (.inl rfl) (pe_op op_cat (pv 3) (pe_lst (pa_cons (pe_call G_law_of (hr.mono (by omega)) (by rfl) T.g_law_of T.F_law_of.kp T.b_law_of .nil pass0 (pa_cons (pv 2) (pa_cons (pv 4) pa_nil))) pa_nil))))
        (pss_cons (ps_set (i := 5) sc_law.nd rfl (.inl rfl) (pe_call G_law_of (hr.mono (by omega)) (by rfl) T.g_law_of T.F_law_of.kp T.b_law_of .nil pass0 (pa_cons (pv 2) (pa_cons (pv 3) pa_nil))))
        (pss_cons (ps_setLc (i := 6) (own := [("turn", 11)]) (g := gName 11) rfl sc_law.nd rfl rfl (sw_true rfl rfl rfl (by decide +kernel)) (pi_range1 (by rfl) T.m_range (pa_cons (pe_call G_law_take (hr.mono (by omega)) (by rfl) T.g_law_take T.F_law_take.kp T.b_law_take .nil pass0 (pa_cons (pv 2) (pa_cons pe_int pa_nil))) pa_nil)) (blkOk_by (own := [("turn", 11)]) (N := ["script", "at", "bag", "names", "strange", "name", "some", "due", "got", "told", "e", "turn"]) (sc := defScope s_law) (by decide +kernel)) (fun _ _ _ _ _ => pg_name (i := 11) sc_law.nd rfl (.inl rfl)) (fun _ _ _ _ _ => pts_nil) (fun _ _ _ _ _ => (pe_call G_law_value hr (by rfl) T.g_law_value T.F_law_value.kp T.b_law_value .nil pass0 (pa_cons (pv 2) pa_nil))))
        (pss_cons (ps_par3 (i := 7) (j := 8) (l := 9) (by rfl) sc_law.nd rfl rfl rfl (by decide) (by decide) (by decide) rfl rfl rfl (pa_cons (pe_call G_law_due (hr.mono (by omega)) (by rfl) T.g_law_due T.F_law_due.kp T.b_law_due .nil pass0 (pa_cons (pv 5) (pa_cons (pv 6) pa_nil))) (pa_cons pe_non (pa_cons pe_non pa_nil))) (by rfl))
        (pss_cons (ps_try_as (i := 10) (Wout := fun _ _ _ _ => False)  rfl rfl sc_law.nd rfl rfl ⟨rfl, by decide, .inl T.cE_BadCall.g⟩ takes0
          (fun W pn xe tk _ => (pss_one (ps_set (i := 9) sc_law.nd rfl (.inl rfl) (pe_callS G_law_asked (hr.mono (by omega)) (by rfl) T.g_law_asked T.F_law_asked.kp T.b_law_asked (fun σ => passAt tk σ) (pa_cons (pv 5) (pa_cons (pv 6) pa_nil))))))
          (fun a oe cls d pn hz hf => (pss_one (ps_set (i := 8) sc_law.nd rfl (.inl rfl) (pe_xf T.cE_BadCall.xf T.cE_BadCall.no hz hf (pv 10))))))
        (pss_cons (ps_if (PW.pt (pw_or (pt_cmpR op_ne (pv 8) (pv 7) (nomark _)) (pw_or1 (pt_val (pe_callB call_isi (by rfl) T.m_isinstance (by decide +kernel) (pa_cons (pv 8) (pa_cons (pe_bltn (v := .ty "bool") (by rfl) T.m_bool (by decide +kernel) rfl) pa_nil))))))) (pss_one (ps_ret pe_bl)) pss_nil)
        (pss_one (ps_if (PW.pt (pw_and (pt_cmpR op_isN (pv 7) pe_non (nomark _)) (pw_and1 (PW.pt (pw_or (pt_not (pt_val (pe_callB call_isi (by rfl) T.m_isinstance (by decide +kernel) (pa_cons (pv 9) (pa_cons (pe_bltn (v := .ty "str") (by rfl) T.m_str (by decide +kernel) rfl) pa_nil))))) (pw_or1 (pt_cmpR op_ne (pv 9) (pe_call G_law_call_text (hr.mono (by omega)) (by rfl) T.g_law_call_text T.F_law_call_text.kp T.b_law_call_text .nil pass0 (pa_cons (pv 5) (pa_cons (pv 6) pa_nil))) (nomark _)))))))) (pss_one (ps_ret pe_bl)) pss_nil))))))))))))
        (pss_one (ps_ret pe_bl))), ?_⟩
    repeat (walk_at "lw w")
    refine ⟨by (repeat' split) <;> omega, by (repeat' split) <;> omega, ?_⟩
    refine for_range (lo := 0) (n := _) (fun i σ H' => Same H H' ∧ ∃ t1 t2 t3 t4 t5 t6 t7 t8 t9 t10 t11 : Option V, σ = [some (.ref a), t1, t2, t3, t4, t5, t6, t7, t8, t9, t10, t11]) ?_ ?_ ?_
    · exact ⟨Same.refl _, none, none, none, none, none, none, none, none, none, none, none, rfl⟩
    · rintro i σ H0 hi ⟨S0, t1, t2, t3, t4, t5, t6, t7, t8, t9, t10, t11, rfl⟩
      have hi2 : (i : Int) ≤ 16 := by
        revert hi
        (repeat' split) <;> omega
      clear hi
      repeat (walk_at "lw w")
      refine ⟨a, ns, _, rfl, S0.seq hS, hlen, by omega, by omega, fun b H1 nb B1 S1' => ?_⟩
      have S1 : Same H H1 := S0.trans S1'
      have nb0 : H b = none := S0.free nb
      clear S0 S1' nb
      repeat (walk_at "lw w")
      refine ⟨b, _, rfl, B1, by omega, fun z1 H2 hz1 B2 K2 => ?_⟩
      repeat (walk_at "lw w")
      refine ⟨b, _, rfl, B2, by omega, fun z2 H3 hz2 B3 K3 => ?_⟩
      repeat (walk_at "lw w")
      refine ⟨b, 3, _, rfl, B3, by omega, by omega, by omega, fun z3 H4 hz3 B4 K4 => ?_⟩
      have hss := PySem.sizeLine_eq
      have l3 : (Str.ofString "len").length = 3 := by decide +kernel
      have hl3 : z3.length ≤ 3 := hz3.1
      repeat (walk_at "lw w")
      refine ⟨by rw [l3]; omega, ?_⟩
      repeat (walk_at "lw w")
      refine ⟨b, _, rfl, B4, by omega, fun z4 H5 hz4 B5 K5 => ?_⟩
      have S5 : Same H H5 := keep_same S1 nb0 (K2.trans (K3.trans (K4.trans K5)))
      have B5 : Bag H5 b 1000 := B5.mono (by omega)
      have fz : ∀ z, isNameZ z = true → fine (.str z) = true := fun z h => fine_str (strOk_low (name_low h).2) (name_low h).1
      have f3 : fine (.str (Str.ofString "len" ++ z3)) = true := by
        refine fine_str (n := 6) (strOk_low ?_) (by rw [catl, l3]; omega)
        show ((Str.ofString "len").cps ++ z3.cps).toList.all isLow = true
        rw [Array.toList_append, List.all_append, hz3.2, show (Str.ofString "len").cps.toList.all isLow = true by decide +kernel]
        rfl
      have g1 := fz _ hz1
      have g2 := fz _ hz2
      have g4 := fz _ hz4
      clear B1 B2 B3 B4 K2 K3 K4 K5 S1 hz1 hz2 hz3 hz4 hl3 fz
      repeat (walk_at "lw w")
      refine ⟨by walk_at "lw n", fun l1 nl1 => ?_⟩
      have B6 := B5.new (o := .lst [.str z1, .str z2, .str (Str.ofString "len" ++ z3), .str z4]) nl1
      have S6 := S5.trans (same_new (o := .lst [.str z1, .str z2, .str (Str.ofString "len" ++ z3), .str z4]) nl1)
      have e1 : upd H5 l1 (.lst [.str z1, .str z2, .str (Str.ofString "len" ++ z3), .str z4]) l1 = some (.lst [.str z1, .str z2, .str (Str.ofString "len" ++ z3), .str z4]) := upd_same
      have nb1 := B5.ne nl1
      generalize upd H5 l1 (.lst [.str z1, .str z2, .str (Str.ofString "len" ++ z3), .str z4]) = H6 at *
      clear S5 B5 nl1
      repeat (walk_at "lw w")
      intro l2 nl2
      repeat (walk_at "lw w")
      refine ⟨⟨by decide +kernel, fun _ _ => by decide +kernel, fun _ _ => by decide +kernel⟩, ?_⟩
      repeat (walk_at "lw w")
      refine ⟨⟨by decide +kernel, fun _ _ => by decide +kernel, fun _ _ => by decide +kernel⟩, ?_⟩
      repeat (walk_at "lw w")
      refine ⟨by walk_at "lw n", fun p3 np3 => ?_⟩
      repeat (walk_at "lw w")
      refine ⟨by walk_at "lw n", fun p4 np4 => ?_⟩
      refine ⟨l2, p4, _, _, rfl, rfl, same_new np4 _ _ (same_new np3 _ _ upd_same), upd_same, (show 44 ≤ sizeLine by decide), fun l5 nl5 => ?_⟩
      have nb3 := (B6.new (o := .lst vals_KEYWORDS) nl2).ne np3
      have B9 := (((B6.new (o := .lst vals_KEYWORDS) nl2).new (o := .lst [.str (Str.ofString "f")]) np3).new (o := .lst [.str (Str.ofString ""), .str (Txt.mul (Str.ofString "a") 12), .str (Txt.mul (Str.ofString "a") 13), .str (Str.ofString "A"), .str (Str.ofString "f1"), .str (Str.ofString "f "), .non, .bl true, .int 0, .ref p3]) np4)
      have nb5 := B9.ne nl5
      have B10 := B9.new (o := .lst (vals_KEYWORDS ++ [.str (Str.ofString ""), .str (Txt.mul (Str.ofString "a") 12), .str (Txt.mul (Str.ofString "a") 13), .str (Str.ofString "A"), .str (Str.ofString "f1"), .str (Str.ofString "f "), .non, .bl true, .int 0, .ref p3])) nl5
      have S10 := (((same_new (o := .lst vals_KEYWORDS) nl2).trans (same_new (o := .lst [.str (Str.ofString "f")]) np3)).trans (same_new (o := .lst [.str (Str.ofString ""), .str (Txt.mul (Str.ofString "a") 12), .str (Txt.mul (Str.ofString "a") 13), .str (Str.ofString "A"), .str (Str.ofString "f1"), .str (Str.ofString "f "), .non, .bl true, .int 0, .ref p3]) np4)).trans (same_new (o := .lst (vals_KEYWORDS ++ [.str (Str.ofString ""), .str (Txt.mul (Str.ofString "a") 12), .str (Txt.mul (Str.ofString "a") 13), .str (Str.ofString "A"), .str (Str.ofString "f1"), .str (Str.ofString "f "), .non, .bl true, .int 0, .ref p3])) nl5)
      have ef := same_new (o := .lst (vals_KEYWORDS ++ [.str (Str.ofString ""), .str (Txt.mul (Str.ofString "a") 12), .str (Txt.mul (Str.ofString "a") 13), .str (Str.ofString "A"), .str (Str.ofString "f1"), .str (Str.ofString "f "), .non, .bl true, .int 0, .ref p3])) nl5 _ _ (same_new (o := .lst [.str (Str.ofString ""), .str (Txt.mul (Str.ofString "a") 12), .str (Txt.mul (Str.ofString "a") 13), .str (Str.ofString "A"), .str (Str.ofString "f1"), .str (Str.ofString "f "), .non, .bl true, .int 0, .ref p3]) np4 p3 (.lst [.str (Str.ofString "f")]) upd_same)
      have e5 : upd (upd (upd (upd H6 l2 (.lst vals_KEYWORDS)) p3 (.lst [.str (Str.ofString "f")])) p4 (.lst [.str (Str.ofString ""), .str (Txt.mul (Str.ofString "a") 12), .str (Txt.mul (Str.ofString "a") 13), .str (Str.ofString "A"), .str (Str.ofString "f1"), .str (Str.ofString "f "), .non, .bl true, .int 0, .ref p3])) l5 (.lst (vals_KEYWORDS ++ [.str (Str.ofString ""), .str (Txt.mul (Str.ofString "a") 12), .str (Txt.mul (Str.ofString "a") 13), .str (Str.ofString "A"), .str (Str.ofString "f1"), .str (Str.ofString "f "), .non, .bl true, .int 0, .ref p3])) l5 = some (.lst (vals_KEYWORDS ++ [.str (Str.ofString ""), .str (Txt.mul (Str.ofString "a") 12), .str (Txt.mul (Str.ofString "a") 13), .str (Str.ofString "A"), .str (Str.ofString "f1"), .str (Str.ofString "f "), .non, .bl true, .int 0, .ref p3])) := upd_same
      generalize upd (upd (upd (upd H6 l2 (.lst vals_KEYWORDS)) p3 (.lst [.str (Str.ofString "f")])) p4 (.lst [.str (Str.ofString ""), .str (Txt.mul (Str.ofString "a") 12), .str (Txt.mul (Str.ofString "a") 13), .str (Str.ofString "A"), .str (Str.ofString "f1"), .str (Str.ofString "f "), .non, .bl true, .int 0, .ref p3])) l5 (.lst (vals_KEYWORDS ++ [.str (Str.ofString ""), .str (Txt.mul (Str.ofString "a") 12), .str (Txt.mul (Str.ofString "a") 13), .str (Str.ofString "A"), .str (Str.ofString "f1"), .str (Str.ofString "f "), .non, .bl true, .int 0, .ref p3])) = H7 at *
      have e1 := S10 _ _ e1
      have S7 := S6.trans S10
      clear nl2 np3 np4 nl5 B9 B6 S6 S10
      repeat (walk_at "lw w")
      refine ⟨b, _, _, rfl, B10, by omega, .inl ⟨l5, _, rfl, nb5.symm, e5, (show 0 < 44 by decide), (show 44 ≤ 100000 by decide), fun v H8 hv B11 K8 => ?_⟩⟩
      have nv : NV K b H8 v := by
        rcases List.mem_append.mp hv with h | h
        · obtain ⟨k, rfl⟩ := vals_strs v h
          exact ⟨_, .str k, List.all_eq_true.mp keys_fine _ h⟩
        · simp only [List.mem_cons, List.not_mem_nil, or_false] at h
          rcases h with rfl | rfl | rfl | rfl | rfl | rfl | rfl | rfl | rfl | rfl
          · exact ⟨_, .str _, by decide +kernel⟩
          · exact ⟨_, .str _, by decide +kernel⟩
          · exact ⟨_, .str _, by decide +kernel⟩
          · exact ⟨_, .str _, by decide +kernel⟩
          · exact ⟨_, .str _, by decide +kernel⟩
          · exact ⟨_, .str _, by decide +kernel⟩
          · exact ⟨_, .non, rfl⟩
          · exact ⟨_, .bl _, rfl⟩
          · exact ⟨_, .int _, rfl⟩
          · exact ⟨.list [.str (Str.ofString "f")], .lst (SqL.of (wob_of nb3.symm (K8 _ _ nb3.symm ef))) (.cons (.str _) .nil), by decide +kernel⟩
      have e1 := K8 _ _ nb1.symm e1
      have S8 := keep_same S7 nb0 K8
      clear hv ef e5 nb3 nb5 B10 S7 K8
      repeat (walk_at "lw w")
      refine ⟨by walk_at "lw n", fun p6 np6 => ?_⟩
      refine ⟨l1, p6, _, _, rfl, rfl, same_new np6 _ _ e1, upd_same, (show 5 ≤ sizeLine by decide), fun l7 nl7 => ?_⟩
      repeat (walk_at "lw w")
      have B12 := B11.new (o := .lst [v]) np6
      have nv := (nv.keep (Keep.new (o := .lst [v]) np6)).keep (Keep.new (o := .lst ([.str z1, .str z2, .str (Str.ofString "len" ++ z3), .str z4] ++ [v])) nl7)
      have S9 := (S8.trans (same_new (o := .lst [v]) np6)).trans (same_new (o := .lst ([.str z1, .str z2, .str (Str.ofString "len" ++ z3), .str z4] ++ [v])) nl7)
      have nb7 := B12.ne nl7
      refine ⟨b, _, _, rfl, B12.new nl7, by omega, .inl ⟨l7, _, rfl, nb7.symm, upd_same, (show 0 < 5 by decide), (show 5 ≤ 100000 by decide), fun x H9 hx B13 K9 => ?_⟩⟩
      have nx : NV K b H9 x := by
        rcases List.mem_append.mp hx with h | h
        · simp only [List.mem_cons, List.not_mem_nil, or_false] at h
          rcases h with rfl | rfl | rfl | rfl
          · exact ⟨_, .str _, g1⟩
          · exact ⟨_, .str _, g2⟩
          · exact ⟨_, .str _, f3⟩
          · exact ⟨_, .str _, g4⟩
        · rw [List.mem_singleton.mp h]
          exact nv.keep K9
      have S10 := keep_same S9 nb0 K9
      clear hx nv g1 g2 f3 g4 B11 B12 np6 nl7 e1 K9 S8 S9 nb7
      repeat (walk_at "lw w")
      refine ⟨b, _, _, rfl, B13, by omega, by omega, by omega, fun k H11 k0 k1 B14 K14 => ?_⟩
      have nx := nx.keep K14
      have S11 := keep_same S10 nb0 K14
      clear K14 S10 B13
      repeat (walk_at "lw w")
      refine ⟨by omega, by omega, fun D nD => ?_⟩
      have nbD : b ≠ D := B14.ne nD
      have B15 : Bag (upd H11 D (.lst [])) b 2000 := (B14.new nD).mono (by omega)
      refine lc_range (lo := 0) (n := k.toNat) (fun i H' => ∃ (xs : List V) (ds : List PyData), H' D = some (.lst xs) ∧ xs.length = i ∧ DpAll K (since (upd H11 D (.lst [])) H') xs ds ∧ fineAll ds = true ∧ PyData.depthAll ds ≤ 1 ∧ Bag H' b (2000 + 300 * i) ∧ Keep b H11 H' ∧ Dom (upd H11 D (.lst [])) H') ?_ ?_ ?_
      · exact ⟨[], [], upd_same, rfl, .nil, rfl, Nat.zero_le _, B15.mono (by omega), Keep.new nD, Dom.refl _⟩
      · rintro i H' hi ⟨xs, ds, eD, el, hd, hf, hdep, hB, hK, dm⟩
        refine ⟨rfl, ?_⟩
        repeat (walk_at "lw w")
        refine ⟨b, _, rfl, hB, by omega, fun v d H3 hd3 hf3 hdep3 hB3 hK3 => ?_⟩
        obtain ⟨s1, s2⟩ := since_step (H4 := upd H3 D (.lst (xs ++ [v]))) dm B15.has ⟨_, upd_same⟩ hK3 (fun q n => upd_ne n)
        refine ⟨xs, hK3 _ _ nbD.symm eD, small1000 (by omega), xs ++ [v], ds ++ [d], upd_same, ?_, DpAll.snoc (DpAll.same s1 _ _ hd) (Dp.same s2 _ _ hd3), fineAll_snoc hf hf3, depthAll_snoc hdep hdep3, (hB3.upd nbD).mono (by omega), ?_, (dm.trans (hK3.dom hB3.has)).trans Dom.upd⟩
        · rw [List.length_append, el]
          rfl
        · intro q' o nq e
          rw [upd_ne (ne_of_none e nD)]
          exact hK3 _ _ nq (hK _ _ nq e)
      · rintro H12 ⟨xs, ds, eD, el, hd, hf, hdep, hB, hK, dm⟩
        have S12 := keep_same S11 nb0 hK
        obtain ⟨n, hn, hfn⟩ := nx.keep hK
        have hn := Dp.same wob_same _ _ hn
        have hd := DpAll.same since_same _ _ hd
        have hl : xs.length ≤ 5 := by omega
        clear hK dm hB S11 nx B15 B14 nD k0 k1 el
        repeat (walk_at "lw w")
        refine ⟨_, n, D, xs, ds, rfl, hn, hfn, eD, hd, hf, by omega, by omega, fun dv H13 hdue S13 => ?_⟩
        have S14 := S12.trans S13
        have eD := S13 _ _ eD
        have hn := Dp.same S13 _ _ hn
        have hd := DpAll.same S13 _ _ hd
        repeat (walk_at "lw w")
        refine ⟨_, _, _, rfl, ?_⟩
        repeat (walk_at "lw w")
        refine ⟨x, n, D, xs, ds, rfl, hn, hfn, eD, hd, hf, by omega, hl, fun gv d H14 hdue2 hne S15 e14 => ?_, fun nm H14 hdue2 ex S15 => ?_⟩
        · refine ⟨true, T.cE_BadCall.te, fun _ a2 ha2 => ?_, fun q => nomatch q⟩
          have S16 := S14.trans S15
          have eg := hdue.uniq hdue2
          subst eg
          obtain h0 | ⟨gi, rfl⟩ := hdue.kind
          · exact absurd h0 hne
          repeat (walk_at "lw w")
          refine ⟨d, _, _, rfl, e14, by rfl, ?_⟩
          repeat (walk_at "lw w")
          refine ifF (by rw [decide_eq_true (rfl : V.int gi = V.int gi)]; rfl) ?_
          repeat (walk_at "lw w")
          refine ifF (decide_eq_false (fun h => nomatch h)) ?_
          repeat (walk_at "lw w")
          exact ⟨S16, _, _, _, _, _, _, _, _, _, _, _, rfl⟩
        · have S16 := S14.trans S15
          have eg := hdue.uniq hdue2
          subst eg
          subst ex
          obtain ⟨hnz, hl3, hcan⟩ := hdue.len
          have hnm : isNameZ nm = true := by
            cases hn with
            | str z => exact hnz
          have hcv : ∀ v ∈ xs, ConstV v := fun v hv => by
            obtain ⟨d, hd1, hdp⟩ := DpAll.mem hd hv
            exact canD_const hdp (hcan d hd1)
          repeat (walk_at "lw w")
          refine ⟨nm, D, xs, rfl, S15 _ _ eD, Nat.le_trans (name_low hnm).1 (by decide), by omega, hcv, fun H15 S17 => ?_⟩
          repeat (walk_at "lw w")
          refine ifF (by rw [decide_eq_true (rfl : V.str (ctZ nm xs) = V.str (ctZ nm xs))]; rfl) ?_
          repeat (walk_at "lw w")
          exact ⟨S16.trans S17, _, _, _, _, _, _, _, _, _, _, _, rfl⟩
    · rintro σ H' ⟨S0, t1, t2, t3, t4, t5, t6, t7, t8, t9, t10, t11, rfl⟩
      repeat (walk_at "lw w")
      exact q _
end

/-! ### what the top has written; the head -/
theorem all_mk {l : PySem.W.OpenLaw} {w : World} {K : PySem.W.Frag} {h : Heap} {mg : Str → Option Value} {fa : Addr} (X : K.In h) (G : h.Ns mainGlobals mg) (hfa : mg "law" = some (.ref fa))
    {f_consists_of : Addr} {od0 an0 : Option Addr} {sl0 : Array (Option Value)} {oc0 kV0 dc0 pm0 cd0 ct0 : Value}
    {f_is_integer : Addr} {od1 an1 : Option Addr} {sl1 : Array (Option Value)} {oc1 kV1 dc1 pm1 cd1 ct1 : Value}
    {f_is_small_word : Addr} {od2 an2 : Option Addr} {sl2 : Array (Option Value)} {oc2 kV2 dc2 pm2 cd2 ct2 : Value}
    {f_is_name : Addr} {od3 an3 : Option Addr} {sl3 : Array (Option Value)} {oc3 kV3 dc3 pm3 cd3 ct3 : Value}
    {f_can_be_constant : Addr} {od4 an4 : Option Addr} {sl4 : Array (Option Value)} {oc4 kV4 dc4 pm4 cd4 ct4 : Value}
    {f_constant_text : Addr} {od5 an5 : Option Addr} {sl5 : Array (Option Value)} {oc5 kV5 dc5 pm5 cd5 ct5 : Value}
    {f_call_text : Addr} {od6 an6 : Option Addr} {sl6 : Array (Option Value)} {oc6 kV6 dc6 pm6 cd6 ct6 : Value}
    {f_law_take : Addr} {od7 an7 : Option Addr} {sl7 : Array (Option Value)} {oc7 kV7 dc7 pm7 cd7 ct7 : Value}
    {f_law_of : Addr} {od8 an8 : Option Addr} {sl8 : Array (Option Value)} {oc8 kV8 dc8 pm8 cd8 ct8 : Value}
    {f_law_number : Addr} {od9 an9 : Option Addr} {sl9 : Array (Option Value)} {oc9 kV9 dc9 pm9 cd9 ct9 : Value}
    {f_law_word : Addr} {od10 an10 : Option Addr} {sl10 : Array (Option Value)} {oc10 kV10 dc10 pm10 cd10 ct10 : Value}
    {f_law_any_constant : Addr} {od11 an11 : Option Addr} {sl11 : Array (Option Value)} {oc11 kV11 dc11 pm11 cd11 ct11 : Value}
    {f_law_is_word : Addr} {od12 an12 : Option Addr} {sl12 : Array (Option Value)} {oc12 kV12 dc12 pm12 cd12 ct12 : Value}
    {f_law_keywords : Addr} {od13 an13 : Option Addr} {sl13 : Array (Option Value)} {oc13 kV13 dc13 pm13 cd13 ct13 : Value}
    {f_law_is_name : Addr} {od14 an14 : Option Addr} {sl14 : Array (Option Value)} {oc14 kV14 dc14 pm14 cd14 ct14 : Value}
    {f_law_is_integer : Addr} {od15 an15 : Option Addr} {sl15 : Array (Option Value)} {oc15 kV15 dc15 pm15 cd15 ct15 : Value}
    {f_law_is_constant : Addr} {od16 an16 : Option Addr} {sl16 : Array (Option Value)} {oc16 kV16 dc16 pm16 cd16 ct16 : Value}
    {f_law_bag : Addr} {od17 an17 : Option Addr} {sl17 : Array (Option Value)} {oc17 kV17 dc17 pm17 cd17 ct17 : Value}
    {f_law_any_name : Addr} {od18 an18 : Option Addr} {sl18 : Array (Option Value)} {oc18 kV18 dc18 pm18 cd18 ct18 : Value}
    {f_law_written : Addr} {od19 an19 : Option Addr} {sl19 : Array (Option Value)} {oc19 kV19 dc19 pm19 cd19 ct19 : Value}
    {f_law_call_text : Addr} {od20 an20 : Option Addr} {sl20 : Array (Option Value)} {oc20 kV20 dc20 pm20 cd20 ct20 : Value}
    {f_law_value : Addr} {od21 an21 : Option Addr} {sl21 : Array (Option Value)} {oc21 kV21 dc21 pm21 cd21 ct21 : Value}
    {f_law_asked : Addr} {od22 an22 : Option Addr} {sl22 : Array (Option Value)} {oc22 kV22 dc22 pm22 cd22 ct22 : Value}
    {f_law_due : Addr} {od23 an23 : Option Addr} {sl23 : Array (Option Value)} {oc23 kV23 dc23 pm23 cd23 ct23 : Value}
    {f_law : Addr} {od24 an24 : Option Addr} {sl24 : Array (Option Value)} {oc24 kV24 dc24 pm24 cd24 ct24 : Value}
    {C_BadCall I_BadCall N_BadCall B_BadCall_WhatpassesError : Addr} {nm_BadCall q_BadCall : Str} {bs_BadCall sub_BadCall : List Value} {sn_BadCall : List Str} {ab_BadCall : Bool} {col_BadCall : Option Bool} {dd_BadCall oi_BadCall an_BadCall : Option Addr} {osl_BadCall : Array (Option Value)} {m0_BadCall m1_BadCall m2_BadCall m3_BadCall m5_BadCall : Option Value} {oc_BadCall kV_BadCall dc_BadCall pm_BadCall cd_BadCall ct_BadCall : Value}
    {tc_SMALL_LETTERS : Tok}
    {a_KEYWORDS : Addr} {odc_KEYWORDS : Option Addr} {nc_KEYWORDS : Nat} {slc_KEYWORDS : Array (Option Value)} {tc_KEYWORDS_0 tc_KEYWORDS_1 tc_KEYWORDS_2 tc_KEYWORDS_3 tc_KEYWORDS_4 tc_KEYWORDS_5 tc_KEYWORDS_6 tc_KEYWORDS_7 tc_KEYWORDS_8 tc_KEYWORDS_9 tc_KEYWORDS_10 tc_KEYWORDS_11 tc_KEYWORDS_12 tc_KEYWORDS_13 tc_KEYWORDS_14 tc_KEYWORDS_15 tc_KEYWORDS_16 tc_KEYWORDS_17 tc_KEYWORDS_18 tc_KEYWORDS_19 tc_KEYWORDS_20 tc_KEYWORDS_21 tc_KEYWORDS_22 tc_KEYWORDS_23 tc_KEYWORDS_24 tc_KEYWORDS_25 tc_KEYWORDS_26 tc_KEYWORDS_27 tc_KEYWORDS_28 tc_KEYWORDS_29 tc_KEYWORDS_30 tc_KEYWORDS_31 tc_KEYWORDS_32 tc_KEYWORDS_33 : Tok}
    {tc_MOST_NAME_LETTERS : Tok}
    {tc_MOST_STRING_LETTERS : Tok}
    {tc_MOST_CONSTANTS : Tok}
    (a0 : PySem.W.nsIn K mainGlobals "consists_of" = some (some (.ref f_consists_of)))
    (l0 : K.lookup f_consists_of = some ⟨oc0, od0, .func (PySem.W.fnOf "consists_of" "consists_of" (defArgs s_consists_of) (defBody s_consists_of) (defScope s_consists_of) .none kV0 dc0 pm0 an0 cd0 ct0), sl0⟩)
    (c0 : PySem.W.codeIn K cd0 "consists_of" = true) (k0 : PySem.W.keepIn K (.ref f_consists_of) = true)
    (a1 : PySem.W.nsIn K mainGlobals "is_integer" = some (some (.ref f_is_integer)))
    (l1 : K.lookup f_is_integer = some ⟨oc1, od1, .func (PySem.W.fnOf "is_integer" "is_integer" (defArgs s_is_integer) (defBody s_is_integer) (defScope s_is_integer) .none kV1 dc1 pm1 an1 cd1 ct1), sl1⟩)
    (c1 : PySem.W.codeIn K cd1 "is_integer" = true) (k1 : PySem.W.keepIn K (.ref f_is_integer) = true)
    (a2 : PySem.W.nsIn K mainGlobals "is_small_word" = some (some (.ref f_is_small_word)))
    (l2 : K.lookup f_is_small_word = some ⟨oc2, od2, .func (PySem.W.fnOf "is_small_word" "is_small_word" (defArgs s_is_small_word) (defBody s_is_small_word) (defScope s_is_small_word) .none kV2 dc2 pm2 an2 cd2 ct2), sl2⟩)
    (c2 : PySem.W.codeIn K cd2 "is_small_word" = true) (k2 : PySem.W.keepIn K (.ref f_is_small_word) = true)
    (a3 : PySem.W.nsIn K mainGlobals "is_name" = some (some (.ref f_is_name)))
    (l3 : K.lookup f_is_name = some ⟨oc3, od3, .func (PySem.W.fnOf "is_name" "is_name" (defArgs s_is_name) (defBody s_is_name) (defScope s_is_name) .none kV3 dc3 pm3 an3 cd3 ct3), sl3⟩)
    (c3 : PySem.W.codeIn K cd3 "is_name" = true) (k3 : PySem.W.keepIn K (.ref f_is_name) = true)
    (a4 : PySem.W.nsIn K mainGlobals "can_be_constant" = some (some (.ref f_can_be_constant)))
    (l4 : K.lookup f_can_be_constant = some ⟨oc4, od4, .func (PySem.W.fnOf "can_be_constant" "can_be_constant" (defArgs s_can_be_constant) (defBody s_can_be_constant) (defScope s_can_be_constant) .none kV4 dc4 pm4 an4 cd4 ct4), sl4⟩)
    (c4 : PySem.W.codeIn K cd4 "can_be_constant" = true) (k4 : PySem.W.keepIn K (.ref f_can_be_constant) = true)
    (a5 : PySem.W.nsIn K mainGlobals "constant_text" = some (some (.ref f_constant_text)))
    (l5 : K.lookup f_constant_text = some ⟨oc5, od5, .func (PySem.W.fnOf "constant_text" "constant_text" (defArgs s_constant_text) (defBody s_constant_text) (defScope s_constant_text) .none kV5 dc5 pm5 an5 cd5 ct5), sl5⟩)
    (c5 : PySem.W.codeIn K cd5 "constant_text" = true) (k5 : PySem.W.keepIn K (.ref f_constant_text) = true)
    (a6 : PySem.W.nsIn K mainGlobals "call_text" = some (some (.ref f_call_text)))
    (l6 : K.lookup f_call_text = some ⟨oc6, od6, .func (PySem.W.fnOf "call_text" "call_text" (defArgs s_call_text) (defBody s_call_text) (defScope s_call_text) .none kV6 dc6 pm6 an6 cd6 ct6), sl6⟩)
    (c6 : PySem.W.codeIn K cd6 "call_text" = true) (k6 : PySem.W.keepIn K (.ref f_call_text) = true)
    (a7 : PySem.W.nsIn K mainGlobals "_law_take" = some (some (.ref f_law_take)))
    (l7 : K.lookup f_law_take = some ⟨oc7, od7, .func (PySem.W.fnOf "_law_take" "_law_take" (defArgs s_law_take) (defBody s_law_take) (defScope s_law_take) .none kV7 dc7 pm7 an7 cd7 ct7), sl7⟩)
    (c7 : PySem.W.codeIn K cd7 "_law_take" = true) (k7 : PySem.W.keepIn K (.ref f_law_take) = true)
    (a8 : PySem.W.nsIn K mainGlobals "_law_of" = some (some (.ref f_law_of)))
    (l8 : K.lookup f_law_of = some ⟨oc8, od8, .func (PySem.W.fnOf "_law_of" "_law_of" (defArgs s_law_of) (defBody s_law_of) (defScope s_law_of) .none kV8 dc8 pm8 an8 cd8 ct8), sl8⟩)
    (c8 : PySem.W.codeIn K cd8 "_law_of" = true) (k8 : PySem.W.keepIn K (.ref f_law_of) = true)
    (a9 : PySem.W.nsIn K mainGlobals "_law_number" = some (some (.ref f_law_number)))
    (l9 : K.lookup f_law_number = some ⟨oc9, od9, .func (PySem.W.fnOf "_law_number" "_law_number" (defArgs s_law_number) (defBody s_law_number) (defScope s_law_number) .none kV9 dc9 pm9 an9 cd9 ct9), sl9⟩)
    (c9 : PySem.W.codeIn K cd9 "_law_number" = true) (k9 : PySem.W.keepIn K (.ref f_law_number) = true)
    (a10 : PySem.W.nsIn K mainGlobals "_law_word" = some (some (.ref f_law_word)))
    (l10 : K.lookup f_law_word = some ⟨oc10, od10, .func (PySem.W.fnOf "_law_word" "_law_word" (defArgs s_law_word) (defBody s_law_word) (defScope s_law_word) .none kV10 dc10 pm10 an10 cd10 ct10), sl10⟩)
    (c10 : PySem.W.codeIn K cd10 "_law_word" = true) (k10 : PySem.W.keepIn K (.ref f_law_word) = true)
    (a11 : PySem.W.nsIn K mainGlobals "_law_any_constant" = some (some (.ref f_law_any_constant)))
    (l11 : K.lookup f_law_any_constant = some ⟨oc11, od11, .func (PySem.W.fnOf "_law_any_constant" "_law_any_constant" (defArgs s_law_any_constant) (defBody s_law_any_constant) (defScope s_law_any_constant) .none kV11 dc11 pm11 an11 cd11 ct11), sl11⟩)
    (c11 : PySem.W.codeIn K cd11 "_law_any_constant" = true) (k11 : PySem.W.keepIn K (.ref f_law_any_constant) = true)
    (a12 : PySem.W.nsIn K mainGlobals "_law_is_word" = some (some (.ref f_law_is_word)))
    (l12 : K.lookup f_law_is_word = some ⟨oc12, od12, .func (PySem.W.fnOf "_law_is_word" "_law_is_word" (defArgs s_law_is_word) (defBody s_law_is_word) (defScope s_law_is_word) .none kV12 dc12 pm12 an12 cd12 ct12), sl12⟩)
    (c12 : PySem.W.codeIn K cd12 "_law_is_word" = true) (k12 : PySem.W.keepIn K (.ref f_law_is_word) = true)
    (a13 : PySem.W.nsIn K mainGlobals "_law_keywords" = some (some (.ref f_law_keywords)))
    (l13 : K.lookup f_law_keywords = some ⟨oc13, od13, .func (PySem.W.fnOf "_law_keywords" "_law_keywords" (defArgs s_law_keywords) (defBody s_law_keywords) (defScope s_law_keywords) .none kV13 dc13 pm13 an13 cd13 ct13), sl13⟩)
    (c13 : PySem.W.codeIn K cd13 "_law_keywords" = true) (k13 : PySem.W.keepIn K (.ref f_law_keywords) = true)
    (a14 : PySem.W.nsIn K mainGlobals "_law_is_name" = some (some (.ref f_law_is_name)))
    (l14 : K.lookup f_law_is_name = some ⟨oc14, od14, .func (PySem.W.fnOf "_law_is_name" "_law_is_name" (defArgs s_law_is_name) (defBody s_law_is_name) (defScope s_law_is_name) .none kV14 dc14 pm14 an14 cd14 ct14), sl14⟩)
    (c14 : PySem.W.codeIn K cd14 "_law_is_name" = true) (k14 : PySem.W.keepIn K (.ref f_law_is_name) = true)
    (a15 : PySem.W.nsIn K mainGlobals "_law_is_integer" = some (some (.ref f_law_is_integer)))
    (l15 : K.lookup f_law_is_integer = some ⟨oc15, od15, .func (PySem.W.fnOf "_law_is_integer" "_law_is_integer" (defArgs s_law_is_integer) (defBody s_law_is_integer) (defScope s_law_is_integer) .none kV15 dc15 pm15 an15 cd15 ct15), sl15⟩)
    (c15 : PySem.W.codeIn K cd15 "_law_is_integer" = true) (k15 : PySem.W.keepIn K (.ref f_law_is_integer) = true)
    (a16 : PySem.W.nsIn K mainGlobals "_law_is_constant" = some (some (.ref f_law_is_constant)))
    (l16 : K.lookup f_law_is_constant = some ⟨oc16, od16, .func (PySem.W.fnOf "_law_is_constant" "_law_is_constant" (defArgs s_law_is_constant) (defBody s_law_is_constant) (defScope s_law_is_constant) .none kV16 dc16 pm16 an16 cd16 ct16), sl16⟩)
    (c16 : PySem.W.codeIn K cd16 "_law_is_constant" = true) (k16 : PySem.W.keepIn K (.ref f_law_is_constant) = true)
    (a17 : PySem.W.nsIn K mainGlobals "_law_bag" = some (some (.ref f_law_bag)))
    (l17 : K.lookup f_law_bag = some ⟨oc17, od17, .func (PySem.W.fnOf "_law_bag" "_law_bag" (defArgs s_law_bag) (defBody s_law_bag) (defScope s_law_bag) .none kV17 dc17 pm17 an17 cd17 ct17), sl17⟩)
    (c17 : PySem.W.codeIn K cd17 "_law_bag" = true) (k17 : PySem.W.keepIn K (.ref f_law_bag) = true)
    (a18 : PySem.W.nsIn K mainGlobals "_law_any_name" = some (some (.ref f_law_any_name)))
    (l18 : K.lookup f_law_any_name = some ⟨oc18, od18, .func (PySem.W.fnOf "_law_any_name" "_law_any_name" (defArgs s_law_any_name) (defBody s_law_any_name) (defScope s_law_any_name) .none kV18 dc18 pm18 an18 cd18 ct18), sl18⟩)
    (c18 : PySem.W.codeIn K cd18 "_law_any_name" = true) (k18 : PySem.W.keepIn K (.ref f_law_any_name) = true)
    (a19 : PySem.W.nsIn K mainGlobals "_law_written" = some (some (.ref f_law_written)))
    (l19 : K.lookup f_law_written = some ⟨oc19, od19, .func (PySem.W.fnOf "_law_written" "_law_written" (defArgs s_law_written) (defBody s_law_written) (defScope s_law_written) .none kV19 dc19 pm19 an19 cd19 ct19), sl19⟩)
    (c19 : PySem.W.codeIn K cd19 "_law_written" = true) (k19 : PySem.W.keepIn K (.ref f_law_written) = true)
    (a20 : PySem.W.nsIn K mainGlobals "_law_call_text" = some (some (.ref f_law_call_text)))
    (l20 : K.lookup f_law_call_text = some ⟨oc20, od20, .func (PySem.W.fnOf "_law_call_text" "_law_call_text" (defArgs s_law_call_text) (defBody s_law_call_text) (defScope s_law_call_text) .none kV20 dc20 pm20 an20 cd20 ct20), sl20⟩)
    (c20 : PySem.W.codeIn K cd20 "_law_call_text" = true) (k20 : PySem.W.keepIn K (.ref f_law_call_text) = true)
    (a21 : PySem.W.nsIn K mainGlobals "_law_value" = some (some (.ref f_law_value)))
    (l21 : K.lookup f_law_value = some ⟨oc21, od21, .func (PySem.W.fnOf "_law_value" "_law_value" (defArgs s_law_value) (defBody s_law_value) (defScope s_law_value) .none kV21 dc21 pm21 an21 cd21 ct21), sl21⟩)
    (c21 : PySem.W.codeIn K cd21 "_law_value" = true) (k21 : PySem.W.keepIn K (.ref f_law_value) = true)
    (a22 : PySem.W.nsIn K mainGlobals "_law_asked" = some (some (.ref f_law_asked)))
    (l22 : K.lookup f_law_asked = some ⟨oc22, od22, .func (PySem.W.fnOf "_law_asked" "_law_asked" (defArgs s_law_asked) (defBody s_law_asked) (defScope s_law_asked) .none kV22 dc22 pm22 an22 cd22 ct22), sl22⟩)
    (c22 : PySem.W.codeIn K cd22 "_law_asked" = true) (k22 : PySem.W.keepIn K (.ref f_law_asked) = true)
    (a23 : PySem.W.nsIn K mainGlobals "_law_due" = some (some (.ref f_law_due)))
    (l23 : K.lookup f_law_due = some ⟨oc23, od23, .func (PySem.W.fnOf "_law_due" "_law_due" (defArgs s_law_due) (defBody s_law_due) (defScope s_law_due) .none kV23 dc23 pm23 an23 cd23 ct23), sl23⟩)
    (c23 : PySem.W.codeIn K cd23 "_law_due" = true) (k23 : PySem.W.keepIn K (.ref f_law_due) = true)
    (a24 : PySem.W.nsIn K mainGlobals "law" = some (some (.ref f_law)))
    (l24 : K.lookup f_law = some ⟨oc24, od24, .func (PySem.W.fnOf "law" "law" (defArgs s_law) (defBody s_law) (defScope s_law) .none kV24 dc24 pm24 an24 cd24 ct24), sl24⟩)
    (c24 : PySem.W.codeIn K cd24 "law" = true) (k24 : PySem.W.keepIn K (.ref f_law) = true)
    (e1_BadCall : PySem.W.nsIn K mainGlobals "BadCall" = some (some (.ref C_BadCall)))
    (e2_BadCall : K.lookup C_BadCall = some (excClassObj nm_BadCall q_BadCall C_BadCall N_BadCall bs_BadCall [.ref B_BadCall_WhatpassesError, .type "ValueError", .type "Exception", .type "BaseException", .type "object"] true sn_BadCall sub_BadCall ab_BadCall col_BadCall dd_BadCall m0_BadCall m1_BadCall m2_BadCall m3_BadCall m5_BadCall "ValueError.__new__"))
    (e3_BadCall : PySem.W.findIn K (.ref C_BadCall) "__setattr__" = some (some (.builtin "object.__setattr__")))
    (e4_BadCall : PySem.W.findIn K (.ref C_BadCall) "__getattribute__" = some (some (.builtin "BaseException.__getattribute__")))
    (e5_BadCall : PySem.W.findIn K (.ref C_BadCall) "__getattr__" = some none)
    (e6_BadCall : PySem.W.findIn K (.ref C_BadCall) "at" = some none)
    (e7_BadCall : PySem.W.findIn K (.ref C_BadCall) "__init__" = some (some (.ref I_BadCall)))
    (e8_BadCall : PySem.W.typeIn K (.ref I_BadCall) = some (.type "function"))
    (e9_BadCall : K.lookup I_BadCall = some ⟨oc_BadCall, oi_BadCall, .func (PySem.W.fnOf "__init__" "BadCall.__init__" (defArgs si_BadCall) (defBody si_BadCall) (defScope si_BadCall) .none kV_BadCall dc_BadCall pm_BadCall an_BadCall cd_BadCall ct_BadCall), osl_BadCall⟩)
    (e10_BadCall : PySem.W.codeIn K cd_BadCall "BadCall.__init__" = true)
    (e11_BadCall : PySem.W.keepIn K (.ref I_BadCall) = true)
    (e12_BadCall : PySem.W.keepIn K (.ref C_BadCall) = true)
    (e13_BadCall : PySem.W.subIn K (.ref C_BadCall) (.type "BaseException") = some true)
    (e14_BadCall : PySem.W.typeIn K (.ref C_BadCall) = some (.type "type"))
    (e15_BadCall : PySem.W.hasDictIn K C_BadCall = true)
    (e16_BadCall : PySem.W.isClsIn K C_BadCall = true)
    (e17_BadCall : PySem.W.subIn K (.ref C_BadCall) (.ref C_BadCall) = some true)
    (z_abs : PySem.W.nsIn K mainGlobals "abs" = some none)
    (z_all : PySem.W.nsIn K mainGlobals "all" = some none)
    (z_bool : PySem.W.nsIn K mainGlobals "bool" = some none)
    (z_enumerate : PySem.W.nsIn K mainGlobals "enumerate" = some none)
    (z_int : PySem.W.nsIn K mainGlobals "int" = some none)
    (z_isinstance : PySem.W.nsIn K mainGlobals "isinstance" = some none)
    (z_len : PySem.W.nsIn K mainGlobals "len" = some none)
    (z_max : PySem.W.nsIn K mainGlobals "max" = some none)
    (z_min : PySem.W.nsIn K mainGlobals "min" = some none)
    (z_range : PySem.W.nsIn K mainGlobals "range" = some none)
    (z_str : PySem.W.nsIn K mainGlobals "str" = some none)
    (z_tuple : PySem.W.nsIn K mainGlobals "tuple" = some none)
    (y_SMALL_LETTERS : PySem.W.nsIn K mainGlobals "SMALL_LETTERS" = some (some (.str "abcdefghijklmnopqrstuvwxyz" tc_SMALL_LETTERS)))
    (y_KEYWORDS : PySem.W.nsIn K mainGlobals "KEYWORDS" = some (some (.ref a_KEYWORDS)))
    (u_KEYWORDS : K.lookup a_KEYWORDS = some ⟨.type "tuple", odc_KEYWORDS, .seq #[.str "and" tc_KEYWORDS_0, .str "assert" tc_KEYWORDS_1, .str "assume" tc_KEYWORDS_2, .str "break" tc_KEYWORDS_3, .str "call" tc_KEYWORDS_4, .str "clear" tc_KEYWORDS_5, .str "continue" tc_KEYWORDS_6, .str "else" tc_KEYWORDS_7, .str "end" tc_KEYWORDS_8, .str "error" tc_KEYWORDS_9, .str "except" tc_KEYWORDS_10, .str "fail" tc_KEYWORDS_11, .str "for" tc_KEYWORDS_12, .str "from" tc_KEYWORDS_13, .str "if" tc_KEYWORDS_14, .str "in" tc_KEYWORDS_15, .str "is" tc_KEYWORDS_16, .str "len" tc_KEYWORDS_17, .str "let" tc_KEYWORDS_18, .str "list" tc_KEYWORDS_19, .str "none" tc_KEYWORDS_20, .str "not" tc_KEYWORDS_21, .str "number" tc_KEYWORDS_22, .str "on" tc_KEYWORDS_23, .str "or" tc_KEYWORDS_24, .str "pass" tc_KEYWORDS_25, .str "raises" tc_KEYWORDS_26, .str "return" tc_KEYWORDS_27, .str "set" tc_KEYWORDS_28, .str "skip" tc_KEYWORDS_29, .str "test" tc_KEYWORDS_30, .str "try" tc_KEYWORDS_31, .str "under" tc_KEYWORDS_32, .str "word" tc_KEYWORDS_33] nc_KEYWORDS, slc_KEYWORDS⟩)
    (y_MOST_NAME_LETTERS : PySem.W.nsIn K mainGlobals "MOST_NAME_LETTERS" = some (some (.int 12 tc_MOST_NAME_LETTERS)))
    (y_MOST_STRING_LETTERS : PySem.W.nsIn K mainGlobals "MOST_STRING_LETTERS" = some (some (.int 8 tc_MOST_STRING_LETTERS)))
    (y_MOST_CONSTANTS : PySem.W.nsIn K mainGlobals "MOST_CONSTANTS" = some (some (.int 3 tc_MOST_CONSTANTS))) :
    ∃ fd : FuncData, (∀ (s : Shared) (v : Value), BindsTo s fd ⟨[v], []⟩ [("script", v)]) ∧ ∀ base : Heap, K.In base → base.Ns mainGlobals mg → FnOk l.prog w K mg base CX0 6 fa fd ["script"] (spLaw K) := by
  have e := hfa.symm.trans (PySem.W.mg_of X G a24)
  cases e
  have F0 := fun_mk (st := s_consists_of) l0 c0 k0
  have b0 := F0.binds (ps := ["text", "characters"]) fun _ _ _ _ _ _ us hl => match us, hl with | [_, _], _ => rfl
  have F1 := fun_mk (st := s_is_integer) l1 c1 k1
  have b1 := F1.binds (ps := ["thing"]) fun _ _ _ _ _ _ us hl => match us, hl with | [_], _ => rfl
  have F2 := fun_mk (st := s_is_small_word) l2 c2 k2
  have b2 := F2.binds (ps := ["thing", "most"]) fun _ _ _ _ _ _ us hl => match us, hl with | [_, _], _ => rfl
  have F3 := fun_mk (st := s_is_name) l3 c3 k3
  have b3 := F3.binds (ps := ["thing"]) fun _ _ _ _ _ _ us hl => match us, hl with | [_], _ => rfl
  have F4 := fun_mk (st := s_can_be_constant) l4 c4 k4
  have b4 := F4.binds (ps := ["thing"]) fun _ _ _ _ _ _ us hl => match us, hl with | [_], _ => rfl
  have F5 := fun_mk (st := s_constant_text) l5 c5 k5
  have b5 := F5.binds (ps := ["constant"]) fun _ _ _ _ _ _ us hl => match us, hl with | [_], _ => rfl
  have F6 := fun_mk (st := s_call_text) l6 c6 k6
  have S6 : StarD K "call_text" s_call_text ["name"] "values" f_call_text := ⟨_, _, _, _, _, _, _, _, _, l6, c6, k6, StX.bind_star1 (B := fun us => bindArgs (PySem.W.fnOf "call_text" "call_text" (defArgs s_call_text) (defBody s_call_text) (defScope s_call_text) .none kV6 dc6 pm6 an6 cd6 ct6) ⟨us, []⟩) (fun a0 => rfl) (fun a0 r rs => rfl)⟩
  have F7 := fun_mk (st := s_law_take) l7 c7 k7
  have b7 := F7.binds (ps := ["bag", "many"]) fun _ _ _ _ _ _ us hl => match us, hl with | [_, _], _ => rfl
  have F8 := fun_mk (st := s_law_of) l8 c8 k8
  have b8 := F8.binds (ps := ["bag", "some"]) fun _ _ _ _ _ _ us hl => match us, hl with | [_, _], _ => rfl
  have F9 := fun_mk (st := s_law_number) l9 c9 k9
  have b9 := F9.binds (ps := ["bag", "near"]) fun _ _ _ _ _ _ us hl => match us, hl with | [_, _], _ => rfl
  have F10 := fun_mk (st := s_law_word) l10 c10 k10
  have b10 := F10.binds (ps := ["bag", "most"]) fun _ _ _ _ _ _ us hl => match us, hl with | [_, _], _ => rfl
  have F11 := fun_mk (st := s_law_any_constant) l11 c11 k11
  have b11 := F11.binds (ps := ["bag"]) fun _ _ _ _ _ _ us hl => match us, hl with | [_], _ => rfl
  have F12 := fun_mk (st := s_law_is_word) l12 c12 k12
  have b12 := F12.binds (ps := ["thing", "most"]) fun _ _ _ _ _ _ us hl => match us, hl with | [_, _], _ => rfl
  have F13 := fun_mk (st := s_law_keywords) l13 c13 k13
  have b13 := F13.binds (ps := []) fun _ _ _ _ _ _ us hl => match us, hl with | [], _ => rfl
  have F14 := fun_mk (st := s_law_is_name) l14 c14 k14
  have b14 := F14.binds (ps := ["thing"]) fun _ _ _ _ _ _ us hl => match us, hl with | [_], _ => rfl
  have F15 := fun_mk (st := s_law_is_integer) l15 c15 k15
  have b15 := F15.binds (ps := ["thing"]) fun _ _ _ _ _ _ us hl => match us, hl with | [_], _ => rfl
  have F16 := fun_mk (st := s_law_is_constant) l16 c16 k16
  have b16 := F16.binds (ps := ["thing"]) fun _ _ _ _ _ _ us hl => match us, hl with | [_], _ => rfl
  have F17 := fun_mk (st := s_law_bag) l17 c17 k17
  have b17 := F17.binds (ps := ["script", "at"]) fun _ _ _ _ _ _ us hl => match us, hl with | [_, _], _ => rfl
  have F18 := fun_mk (st := s_law_any_name) l18 c18 k18
  have b18 := F18.binds (ps := ["bag"]) fun _ _ _ _ _ _ us hl => match us, hl with | [_], _ => rfl
  have F19 := fun_mk (st := s_law_written) l19 c19 k19
  have b19 := F19.binds (ps := ["value"]) fun _ _ _ _ _ _ us hl => match us, hl with | [_], _ => rfl
  have F20 := fun_mk (st := s_law_call_text) l20 c20 k20
  have b20 := F20.binds (ps := ["name", "values"]) fun _ _ _ _ _ _ us hl => match us, hl with | [_, _], _ => rfl
  have F21 := fun_mk (st := s_law_value) l21 c21 k21
  have b21 := F21.binds (ps := ["bag"]) fun _ _ _ _ _ _ us hl => match us, hl with | [_], _ => rfl
  have F22 := fun_mk (st := s_law_asked) l22 c22 k22
  have b22 := F22.binds (ps := ["name", "some"]) fun _ _ _ _ _ _ us hl => match us, hl with | [_, _], _ => rfl
  have F23 := fun_mk (st := s_law_due) l23 c23 k23
  have b23 := F23.binds (ps := ["name", "some"]) fun _ _ _ _ _ _ us hl => match us, hl with | [_, _], _ => rfl
  have F24 := fun_mk (st := s_law) l24 c24 k24
  have b24 := F24.binds (ps := ["script"]) fun _ _ _ _ _ _ us hl => match us, hl with | [_], _ => rfl
  have EF_BadCall := fun_mk (st := si_BadCall) e9_BadCall e10_BadCall e11_BadCall
  have Eb_BadCall := EF_BadCall.binds (ps := ["self", "at"]) fun _ _ _ _ _ _ us hl => match us, hl with | [_, _], _ => rfl
  have EE_BadCall : ErrC K mg "BadCall" "at" C_BadCall I_BadCall := ⟨PySem.W.mg_of X G e1_BadCall, ⟨⟨_, _, _, _, _, _, _, _, _, _, _, _, _, _, _, e2_BadCall, by first | rfl | decide +kernel⟩, e3_BadCall, e13_BadCall, e14_BadCall, e12_BadCall⟩, e7_BadCall, e8_BadCall, ⟨e4_BadCall, e5_BadCall, e13_BadCall, e15_BadCall⟩, e6_BadCall, PySem.W.exm_ref e13_BadCall e15_BadCall e14_BadCall e17_BadCall⟩
  have T : Txt K mg := {
    f_consists_of := f_consists_of, fd_consists_of := _, F_consists_of := F0, b_consists_of := b0, g_consists_of := PySem.W.mg_of X G a0,
    f_is_integer := f_is_integer, fd_is_integer := _, F_is_integer := F1, b_is_integer := b1, g_is_integer := PySem.W.mg_of X G a1,
    f_is_small_word := f_is_small_word, fd_is_small_word := _, F_is_small_word := F2, b_is_small_word := b2, g_is_small_word := PySem.W.mg_of X G a2,
    f_is_name := f_is_name, fd_is_name := _, F_is_name := F3, b_is_name := b3, g_is_name := PySem.W.mg_of X G a3,
    f_can_be_constant := f_can_be_constant, fd_can_be_constant := _, F_can_be_constant := F4, b_can_be_constant := b4, g_can_be_constant := PySem.W.mg_of X G a4,
    f_constant_text := f_constant_text, fd_constant_text := _, F_constant_text := F5, b_constant_text := b5, g_constant_text := PySem.W.mg_of X G a5,
    f_call_text := f_call_text, S_call_text := S6, g_call_text := PySem.W.mg_of X G a6,
    f_law_take := f_law_take, fd_law_take := _, F_law_take := F7, b_law_take := b7, g_law_take := PySem.W.mg_of X G a7,
    f_law_of := f_law_of, fd_law_of := _, F_law_of := F8, b_law_of := b8, g_law_of := PySem.W.mg_of X G a8,
    f_law_number := f_law_number, fd_law_number := _, F_law_number := F9, b_law_number := b9, g_law_number := PySem.W.mg_of X G a9,
    f_law_word := f_law_word, fd_law_word := _, F_law_word := F10, b_law_word := b10, g_law_word := PySem.W.mg_of X G a10,
    f_law_any_constant := f_law_any_constant, fd_law_any_constant := _, F_law_any_constant := F11, b_law_any_constant := b11, g_law_any_constant := PySem.W.mg_of X G a11,
    f_law_is_word := f_law_is_word, fd_law_is_word := _, F_law_is_word := F12, b_law_is_word := b12, g_law_is_word := PySem.W.mg_of X G a12,
    f_law_keywords := f_law_keywords, fd_law_keywords := _, F_law_keywords := F13, b_law_keywords := b13, g_law_keywords := PySem.W.mg_of X G a13,
    f_law_is_name := f_law_is_name, fd_law_is_name := _, F_law_is_name := F14, b_law_is_name := b14, g_law_is_name := PySem.W.mg_of X G a14,
    f_law_is_integer := f_law_is_integer, fd_law_is_integer := _, F_law_is_integer := F15, b_law_is_integer := b15, g_law_is_integer := PySem.W.mg_of X G a15,
    f_law_is_constant := f_law_is_constant, fd_law_is_constant := _, F_law_is_constant := F16, b_law_is_constant := b16, g_law_is_constant := PySem.W.mg_of X G a16,
    f_law_bag := f_law_bag, fd_law_bag := _, F_law_bag := F17, b_law_bag := b17, g_law_bag := PySem.W.mg_of X G a17,
    f_law_any_name := f_law_any_name, fd_law_any_name := _, F_law_any_name := F18, b_law_any_name := b18, g_law_any_name := PySem.W.mg_of X G a18,
    f_law_written := f_law_written, fd_law_written := _, F_law_written := F19, b_law_written := b19, g_law_written := PySem.W.mg_of X G a19,
    f_law_call_text := f_law_call_text, fd_law_call_text := _, F_law_call_text := F20, b_law_call_text := b20, g_law_call_text := PySem.W.mg_of X G a20,
    f_law_value := f_law_value, fd_law_value := _, F_law_value := F21, b_law_value := b21, g_law_value := PySem.W.mg_of X G a21,
    f_law_asked := f_law_asked, fd_law_asked := _, F_law_asked := F22, b_law_asked := b22, g_law_asked := PySem.W.mg_of X G a22,
    f_law_due := f_law_due, fd_law_due := _, F_law_due := F23, b_law_due := b23, g_law_due := PySem.W.mg_of X G a23,
    cC_BadCall := C_BadCall, cI_BadCall := I_BadCall, cfd_BadCall := _, cF_BadCall := EF_BadCall, cb_BadCall := Eb_BadCall, cE_BadCall := EE_BadCall,
    m_abs := PySem.W.mg_none_of X G z_abs, m_all := PySem.W.mg_none_of X G z_all, m_bool := PySem.W.mg_none_of X G z_bool, m_enumerate := PySem.W.mg_none_of X G z_enumerate, m_int := PySem.W.mg_none_of X G z_int, m_isinstance := PySem.W.mg_none_of X G z_isinstance, m_len := PySem.W.mg_none_of X G z_len, m_max := PySem.W.mg_none_of X G z_max, m_min := PySem.W.mg_none_of X G z_min, m_range := PySem.W.mg_none_of X G z_range, m_str := PySem.W.mg_none_of X G z_str, m_tuple := PySem.W.mg_none_of X G z_tuple, c_SMALL_LETTERS := ⟨_, PySem.W.mg_of X G y_SMALL_LETTERS⟩, c_MOST_NAME_LETTERS := ⟨_, PySem.W.mg_of X G y_MOST_NAME_LETTERS⟩, c_MOST_STRING_LETTERS := ⟨_, PySem.W.mg_of X G y_MOST_STRING_LETTERS⟩, c_MOST_CONSTANTS := ⟨_, PySem.W.mg_of X G y_MOST_CONSTANTS⟩, a_KEYWORDS := a_KEYWORDS, c_KEYWORDS := PySem.W.mg_of X G y_KEYWORDS, q_KEYWORDS := fun H => .inr ⟨_, _, _, u_KEYWORDS, rfl, rfl, Nat.le_trans (Nat.le_of_eq (show _ = 34 from rfl)) (by decide), (.cons ⟨_, rfl⟩ (.cons ⟨_, rfl⟩ (.cons ⟨_, rfl⟩ (.cons ⟨_, rfl⟩ (.cons ⟨_, rfl⟩ (.cons ⟨_, rfl⟩ (.cons ⟨_, rfl⟩ (.cons ⟨_, rfl⟩ (.cons ⟨_, rfl⟩ (.cons ⟨_, rfl⟩ (.cons ⟨_, rfl⟩ (.cons ⟨_, rfl⟩ (.cons ⟨_, rfl⟩ (.cons ⟨_, rfl⟩ (.cons ⟨_, rfl⟩ (.cons ⟨_, rfl⟩ (.cons ⟨_, rfl⟩ (.cons ⟨_, rfl⟩ (.cons ⟨_, rfl⟩ (.cons ⟨_, rfl⟩ (.cons ⟨_, rfl⟩ (.cons ⟨_, rfl⟩ (.cons ⟨_, rfl⟩ (.cons ⟨_, rfl⟩ (.cons ⟨_, rfl⟩ (.cons ⟨_, rfl⟩ (.cons ⟨_, rfl⟩ (.cons ⟨_, rfl⟩ (.cons ⟨_, rfl⟩ (.cons ⟨_, rfl⟩ (.cons ⟨_, rfl⟩ (.cons ⟨_, rfl⟩ (.cons ⟨_, rfl⟩ (.cons ⟨_, rfl⟩ (.nil)))))))))))))))))))))))))))))))))))⟩
  }
  exact ⟨PySem.W.fnOf "law" "law" (defArgs s_law) (defBody s_law) (defScope s_law) .none kV24 dc24 pm24 an24 cd24 ct24, fun s v => .of_eq rfl, fun base _ _ => ok_law T F24⟩
end Lw
open PySem PySem.W PyProof.Rows in
set_option maxRecDepth 100000 in
set_option maxHeartbeats 0 in
theorem PySem.Challenge.cw_whatpasses_k08_call_texts_holds : PySem.Challenge.rw_whatpasses_k08_call_texts.Holds := by
  w_on; o_law; k_head; (case hw => w_witness2)
  k_fill
  refine L2.walk_ofB (l := PySem.Challenge.rw_whatpasses_k08_call_texts) (n := 63) (k := 6) (x := "script") (CX := fun _ => L2.CX0) (sp := fun w => Lw.spLaw _) rfl (by decide) rfl ⟨rfl, by decide, by decide⟩ (fun w h Y => PySem.W.kIn_of Y) ?F (fun _ _ a ns hl hb _ hS => ⟨a, ns, rfl, hS, hl, hb, fun _ => rfl⟩) (fun _ _ _ _ _ h => h)
  case F =>
    intro w mg fa h KX G hmg
    refine' Lw.all_mk KX G hmg ?a0 ?l0 ?c0 ?k0 ?a1 ?l1 ?c1 ?k1 ?a2 ?l2 ?c2 ?k2 ?a3 ?l3 ?c3 ?k3 ?a4 ?l4 ?c4 ?k4 ?a5 ?l5 ?c5 ?k5 ?a6 ?l6 ?c6 ?k6 ?a7 ?l7 ?c7 ?k7 ?a8 ?l8 ?c8 ?k8 ?a9 ?l9 ?c9 ?k9 ?a10 ?l10 ?c10 ?k10 ?a11 ?l11 ?c11 ?k11 ?a12 ?l12 ?c12 ?k12 ?a13 ?l13 ?c13 ?k13 ?a14 ?l14 ?c14 ?k14 ?a15 ?l15 ?c15 ?k15 ?a16 ?l16 ?c16 ?k16 ?a17 ?l17 ?c17 ?k17 ?a18 ?l18 ?c18 ?k18 ?a19 ?l19 ?c19 ?k19 ?a20 ?l20 ?c20 ?k20 ?a21 ?l21 ?c21 ?k21 ?a22 ?l22 ?c22 ?k22 ?a23 ?l23 ?c23 ?k23 ?a24 ?l24 ?c24 ?k24 ?e1_BadCall ?e2_BadCall ?e3_BadCall ?e4_BadCall ?e5_BadCall ?e6_BadCall ?e7_BadCall ?e8_BadCall ?e9_BadCall ?e10_BadCall ?e11_BadCall ?e12_BadCall ?e13_BadCall ?e14_BadCall ?e15_BadCall ?e16_BadCall ?e17_BadCall ?z_abs ?z_all ?z_bool ?z_enumerate ?z_int ?z_isinstance ?z_len ?z_max ?z_min ?z_range ?z_str ?z_tuple ?y_SMALL_LETTERS ?y_KEYWORDS ?u_KEYWORDS ?y_MOST_NAME_LETTERS ?y_MOST_STRING_LETTERS ?y_MOST_CONSTANTS
    (case a0 => k_is)
    (case l0 => k_is)
    (case c0 => k_is)
    (case k0 => k_is)
    (case a1 => k_is)
    (case l1 => k_is)
    (case c1 => k_is)
    (case k1 => k_is)
    (case a2 => k_is)
    (case l2 => k_is)
    (case c2 => k_is)
    (case k2 => k_is)
    (case a3 => k_is)
    (case l3 => k_is)
    (case c3 => k_is)
    (case k3 => k_is)
    (case a4 => k_is)
    (case l4 => k_is)
    (case c4 => k_is)
    (case k4 => k_is)
    (case a5 => k_is)
    (case l5 => k_is)
    (case c5 => k_is)
    (case k5 => k_is)
    (case a6 => k_is)
    (case l6 => k_is)
    (case c6 => k_is)
    (case k6 => k_is)
    (case a7 => k_is)
    (case l7 => k_is)
    (case c7 => k_is)
    (case k7 => k_is)
    (case a8 => k_is)
    (case l8 => k_is)
    (case c8 => k_is)
    (case k8 => k_is)
    (case a9 => k_is)
    (case l9 => k_is)
    (case c9 => k_is)
    (case k9 => k_is)
    (case a10 => k_is)
    (case l10 => k_is)
    (case c10 => k_is)
    (case k10 => k_is)
    (case a11 => k_is)
    (case l11 => k_is)
    (case c11 => k_is)
    (case k11 => k_is)
    (case a12 => k_is)
    (case l12 => k_is)
    (case c12 => k_is)
    (case k12 => k_is)
    (case a13 => k_is)
    (case l13 => k_is)
    (case c13 => k_is)
    (case k13 => k_is)
    (case a14 => k_is)
    (case l14 => k_is)
    (case c14 => k_is)
    (case k14 => k_is)
    (case a15 => k_is)
    (case l15 => k_is)
    (case c15 => k_is)
    (case k15 => k_is)
    (case a16 => k_is)
    (case l16 => k_is)
    (case c16 => k_is)
    (case k16 => k_is)
    (case a17 => k_is)
    (case l17 => k_is)
    (case c17 => k_is)
    (case k17 => k_is)
    (case a18 => k_is)
    (case l18 => k_is)
    (case c18 => k_is)
    (case k18 => k_is)
    (case a19 => k_is)
    (case l19 => k_is)
    (case c19 => k_is)
    (case k19 => k_is)
    (case a20 => k_is)
    (case l20 => k_is)
    (case c20 => k_is)
    (case k20 => k_is)
    (case a21 => k_is)
    (case l21 => k_is)
    (case c21 => k_is)
    (case k21 => k_is)
    (case a22 => k_is)
    (case l22 => k_is)
    (case c22 => k_is)
    (case k22 => k_is)
    (case a23 => k_is)
    (case l23 => k_is)
    (case c23 => k_is)
    (case k23 => k_is)
    (case a24 => k_is)
    (case l24 => k_is)
    (case c24 => k_is)
    (case k24 => k_is)
    (case e1_BadCall => k_is)
    (case e2_BadCall => k_is)
    (case e3_BadCall => k_is)
    (case e4_BadCall => k_is)
    (case e5_BadCall => k_is)
    (case e6_BadCall => k_is)
    (case e7_BadCall => k_is)
    (case e8_BadCall => k_is)
    (case e9_BadCall => k_is)
    (case e10_BadCall => k_is)
    (case e11_BadCall => k_is)
    (case e12_BadCall => k_is)
    (case e13_BadCall => k_is)
    (case e14_BadCall => k_is)
    (case e15_BadCall => k_is)
    (case e16_BadCall => k_is)
    (case e17_BadCall => k_is)
    (case z_abs => k_is)
    (case z_all => k_is)
    (case z_bool => k_is)
    (case z_enumerate => k_is)
    (case z_int => k_is)
    (case z_isinstance => k_is)
    (case z_len => k_is)
    (case z_max => k_is)
    (case z_min => k_is)
    (case z_range => k_is)
    (case z_str => k_is)
    (case z_tuple => k_is)
    (case y_SMALL_LETTERS => k_is)
    (case y_KEYWORDS => k_is)
    (case u_KEYWORDS => k_is)
    (case y_MOST_NAME_LETTERS => k_is)
    (case y_MOST_STRING_LETTERS => k_is)
    (case y_MOST_CONSTANTS => k_is)
