
import PyProof.Rows.All
import Wide.All
import OpenK.AllK
import Wide.FinOn
import HandS.ForMost
import HandS.Wide
import HandS.IsInst
import HandS.EndBits
import HandS.Walk
import HandS.Style
import HandS.Defaults
import PySem.Challenge.RW_whatpasses_k10_paths_known
set_option Elab.async false
set_option linter.all false
set_option maxRecDepth 100000
set_option maxHeartbeats 4000000

namespace Lw
open PySem PySem.Spec PyProof.Rows L2
def topS (i : Nat) : Stmt := PySem.Challenge.pw_whatpasses_k10_paths_known.main.body.getD i (.Pass ⟨0, 0, 0, 0⟩)
abbrev s_consists_of : Stmt := topS 3
theorem sc_consists_of : FnScope ["text", "characters", "character"] ["text", "characters"] (defScope s_consists_of) := ⟨rfl, rfl, rfl, by decide +kernel, rfl, by decide +kernel, by decide +kernel⟩
abbrev s_is_small_word : Stmt := topS 4
theorem sc_is_small_word : FnScope ["thing", "most"] ["thing", "most"] (defScope s_is_small_word) := ⟨rfl, rfl, rfl, by decide +kernel, rfl, by decide +kernel, by decide +kernel⟩
abbrev s_is_name : Stmt := topS 11
theorem sc_is_name : FnScope ["thing"] ["thing"] (defScope s_is_name) := ⟨rfl, rfl, rfl, by decide +kernel, rfl, by decide +kernel, by decide +kernel⟩
abbrev s_is_number_text : Stmt := topS 12
theorem sc_is_number_text : FnScope ["text", "digits"] ["text"] (defScope s_is_number_text) := ⟨rfl, rfl, rfl, by decide +kernel, rfl, by decide +kernel, by decide +kernel⟩
abbrev s_is_string_text : Stmt := topS 13
theorem sc_is_string_text : FnScope ["text"] ["text"] (defScope s_is_string_text) := ⟨rfl, rfl, rfl, by decide +kernel, rfl, by decide +kernel, by decide +kernel⟩
abbrev s_is_constant_text : Stmt := topS 14
theorem sc_is_constant_text : FnScope ["text"] ["text"] (defScope s_is_constant_text) := ⟨rfl, rfl, rfl, by decide +kernel, rfl, by decide +kernel, by decide +kernel⟩
abbrev s_is_call : Stmt := topS 15
theorem sc_is_call : FnScope ["thing", "name", "opening", "inner", "constants", "text"] ["thing"] (defScope s_is_call) := ⟨rfl, rfl, rfl, by decide +kernel, rfl, by decide +kernel, by decide +kernel⟩
abbrev s_is_path : Stmt := topS 16
theorem sc_is_path : FnScope ["thing", "ageing", "text"] ["thing", "ageing"] (defScope s_is_path) := ⟨rfl, rfl, rfl, by decide +kernel, rfl, by decide +kernel, by decide +kernel⟩
abbrev s_law_bag : Stmt := topS 18
theorem sc_law_bag : FnScope ["script", "at", "cell"] ["script", "at"] (defScope s_law_bag) := ⟨rfl, rfl, rfl, by decide +kernel, rfl, by decide +kernel, by decide +kernel⟩
abbrev s_law_take : Stmt := topS 19
theorem sc_law_take : FnScope ["bag", "many", "digit", "mixed"] ["bag", "many"] (defScope s_law_take) := ⟨rfl, rfl, rfl, by decide +kernel, rfl, by decide +kernel, by decide +kernel⟩
abbrev s_law_of : Stmt := topS 20
theorem sc_law_of : FnScope ["bag", "some"] ["bag", "some"] (defScope s_law_of) := ⟨rfl, rfl, rfl, by decide +kernel, rfl, by decide +kernel, by decide +kernel⟩
abbrev s_law_number : Stmt := topS 21
theorem sc_law_number : FnScope ["bag", "near", "way", "top"] ["bag", "near"] (defScope s_law_number) := ⟨rfl, rfl, rfl, by decide +kernel, rfl, by decide +kernel, by decide +kernel⟩
abbrev s_law_word : Stmt := topS 22
theorem sc_law_word : FnScope ["bag", "most", "turn"] ["bag", "most"] (defScope s_law_word) := ⟨rfl, rfl, rfl, by decide +kernel, rfl, by decide +kernel, by decide +kernel⟩
abbrev s_law_any_constant : Stmt := topS 23
theorem sc_law_any_constant : FnScope ["bag", "way"] ["bag"] (defScope s_law_any_constant) := ⟨rfl, rfl, rfl, by decide +kernel, rfl, by decide +kernel, by decide +kernel⟩
abbrev s_law_written : Stmt := topS 24
theorem sc_law_written : FnScope ["value", "one"] ["value"] (defScope s_law_written) := ⟨rfl, rfl, rfl, by decide +kernel, rfl, by decide +kernel, by decide +kernel⟩
abbrev s_law_call_text : Stmt := topS 25
theorem sc_law_call_text : FnScope ["name", "values", "value"] ["name", "values"] (defScope s_law_call_text) := ⟨rfl, rfl, rfl, by decide +kernel, rfl, by decide +kernel, by decide +kernel⟩
abbrev s_law_keywords : Stmt := topS 26
theorem sc_law_keywords : FnScope [] [] (defScope s_law_keywords) := ⟨rfl, rfl, rfl, by decide +kernel, rfl, by decide +kernel, by decide +kernel⟩
abbrev s_law_any_name : Stmt := topS 27
theorem sc_law_any_name : FnScope ["bag", "letters", "found", "turn"] ["bag"] (defScope s_law_any_name) := ⟨rfl, rfl, rfl, by decide +kernel, rfl, by decide +kernel, by decide +kernel⟩
abbrev s_law_any_call : Stmt := topS 28
theorem sc_law_any_call : FnScope ["bag", "some", "turn"] ["bag"] (defScope s_law_any_call) := ⟨rfl, rfl, rfl, by decide +kernel, rfl, by decide +kernel, by decide +kernel⟩
abbrev s_law : Stmt := topS 29
theorem sc_law : FnScope ["script", "at", "bag", "some", "wrong", "is_right", "path", "due", "one", "turn"] ["script"] (defScope s_law) := ⟨rfl, rfl, rfl, by decide +kernel, rfl, by decide +kernel, by decide +kernel⟩
def vals_KEYWORDS : List V := [.str (Str.ofString "and"), .str (Str.ofString "assert"), .str (Str.ofString "assume"), .str (Str.ofString "break"), .str (Str.ofString "call"), .str (Str.ofString "clear"), .str (Str.ofString "continue"), .str (Str.ofString "else"), .str (Str.ofString "end"), .str (Str.ofString "error"), .str (Str.ofString "except"), .str (Str.ofString "fail"), .str (Str.ofString "for"), .str (Str.ofString "from"), .str (Str.ofString "if"), .str (Str.ofString "in"), .str (Str.ofString "is"), .str (Str.ofString "len"), .str (Str.ofString "let"), .str (Str.ofString "list"), .str (Str.ofString "none"), .str (Str.ofString "not"), .str (Str.ofString "number"), .str (Str.ofString "on"), .str (Str.ofString "or"), .str (Str.ofString "pass"), .str (Str.ofString "raises"), .str (Str.ofString "return"), .str (Str.ofString "set"), .str (Str.ofString "skip"), .str (Str.ofString "test"), .str (Str.ofString "try"), .str (Str.ofString "under"), .str (Str.ofString "word")]
/-- what the top leaves: where the defs stand, which names are built-in -/
structure Txt (K : PySem.W.Frag) (mg : Str → Option Value) where
  f_consists_of : Addr
  fd_consists_of : FuncData
  F_consists_of : Fun K "consists_of" "consists_of" s_consists_of f_consists_of fd_consists_of
  b_consists_of : Binds K fd_consists_of ["text", "characters"] []
  g_consists_of : mg "consists_of" = some (.ref f_consists_of)
  f_is_small_word : Addr
  fd_is_small_word : FuncData
  F_is_small_word : Fun K "is_small_word" "is_small_word" s_is_small_word f_is_small_word fd_is_small_word
  b_is_small_word : Binds K fd_is_small_word ["thing", "most"] []
  g_is_small_word : mg "is_small_word" = some (.ref f_is_small_word)
  f_is_name : Addr
  fd_is_name : FuncData
  F_is_name : Fun K "is_name" "is_name" s_is_name f_is_name fd_is_name
  b_is_name : Binds K fd_is_name ["thing"] []
  g_is_name : mg "is_name" = some (.ref f_is_name)
  f_is_number_text : Addr
  fd_is_number_text : FuncData
  F_is_number_text : Fun K "is_number_text" "is_number_text" s_is_number_text f_is_number_text fd_is_number_text
  b_is_number_text : Binds K fd_is_number_text ["text"] []
  g_is_number_text : mg "is_number_text" = some (.ref f_is_number_text)
  f_is_string_text : Addr
  fd_is_string_text : FuncData
  F_is_string_text : Fun K "is_string_text" "is_string_text" s_is_string_text f_is_string_text fd_is_string_text
  b_is_string_text : Binds K fd_is_string_text ["text"] []
  g_is_string_text : mg "is_string_text" = some (.ref f_is_string_text)
  f_is_constant_text : Addr
  fd_is_constant_text : FuncData
  F_is_constant_text : Fun K "is_constant_text" "is_constant_text" s_is_constant_text f_is_constant_text fd_is_constant_text
  b_is_constant_text : Binds K fd_is_constant_text ["text"] []
  g_is_constant_text : mg "is_constant_text" = some (.ref f_is_constant_text)
  f_is_call : Addr
  fd_is_call : FuncData
  F_is_call : Fun K "is_call" "is_call" s_is_call f_is_call fd_is_call
  b_is_call : Binds K fd_is_call ["thing"] []
  g_is_call : mg "is_call" = some (.ref f_is_call)
  f_is_path : Addr
  fd_is_path : FuncData
  F_is_path : Fun K "is_path" "is_path" s_is_path f_is_path fd_is_path
  bd_is_path : ∃ ds, Vals [V.bl false] ds ∧ Binds K fd_is_path ["thing", "ageing"] ds
  bk_is_path : KBn K fd_is_path ["thing", "ageing"] 1 ["ageing"] (fun us ws => us ++ ws) (fun vs zs => vs ++ zs)
  b0_is_path : KBn K fd_is_path ["thing", "ageing"] 0 ["thing", "ageing"] (fun us ws => us ++ ws) (fun vs zs => vs ++ zs)
  g_is_path : mg "is_path" = some (.ref f_is_path)
  f_law_bag : Addr
  fd_law_bag : FuncData
  F_law_bag : Fun K "_law_bag" "_law_bag" s_law_bag f_law_bag fd_law_bag
  b_law_bag : Binds K fd_law_bag ["script", "at"] []
  g_law_bag : mg "_law_bag" = some (.ref f_law_bag)
  f_law_take : Addr
  fd_law_take : FuncData
  F_law_take : Fun K "_law_take" "_law_take" s_law_take f_law_take fd_law_take
  b_law_take : Binds K fd_law_take ["bag", "many"] []
  g_law_take : mg "_law_take" = some (.ref f_law_take)
  f_law_of : Addr
  fd_law_of : FuncData
  F_law_of : Fun K "_law_of" "_law_of" s_law_of f_law_of fd_law_of
  b_law_of : Binds K fd_law_of ["bag", "some"] []
  g_law_of : mg "_law_of" = some (.ref f_law_of)
  f_law_number : Addr
  fd_law_number : FuncData
  F_law_number : Fun K "_law_number" "_law_number" s_law_number f_law_number fd_law_number
  b_law_number : Binds K fd_law_number ["bag", "near"] []
  g_law_number : mg "_law_number" = some (.ref f_law_number)
  f_law_word : Addr
  fd_law_word : FuncData
  F_law_word : Fun K "_law_word" "_law_word" s_law_word f_law_word fd_law_word
  b_law_word : Binds K fd_law_word ["bag", "most"] []
  g_law_word : mg "_law_word" = some (.ref f_law_word)
  f_law_any_constant : Addr
  fd_law_any_constant : FuncData
  F_law_any_constant : Fun K "_law_any_constant" "_law_any_constant" s_law_any_constant f_law_any_constant fd_law_any_constant
  b_law_any_constant : Binds K fd_law_any_constant ["bag"] []
  g_law_any_constant : mg "_law_any_constant" = some (.ref f_law_any_constant)
  f_law_written : Addr
  fd_law_written : FuncData
  F_law_written : Fun K "_law_written" "_law_written" s_law_written f_law_written fd_law_written
  b_law_written : Binds K fd_law_written ["value"] []
  g_law_written : mg "_law_written" = some (.ref f_law_written)
  f_law_call_text : Addr
  fd_law_call_text : FuncData
  F_law_call_text : Fun K "_law_call_text" "_law_call_text" s_law_call_text f_law_call_text fd_law_call_text
  b_law_call_text : Binds K fd_law_call_text ["name", "values"] []
  g_law_call_text : mg "_law_call_text" = some (.ref f_law_call_text)
  f_law_keywords : Addr
  fd_law_keywords : FuncData
  F_law_keywords : Fun K "_law_keywords" "_law_keywords" s_law_keywords f_law_keywords fd_law_keywords
  b_law_keywords : Binds K fd_law_keywords [] []
  g_law_keywords : mg "_law_keywords" = some (.ref f_law_keywords)
  f_law_any_name : Addr
  fd_law_any_name : FuncData
  F_law_any_name : Fun K "_law_any_name" "_law_any_name" s_law_any_name f_law_any_name fd_law_any_name
  b_law_any_name : Binds K fd_law_any_name ["bag"] []
  g_law_any_name : mg "_law_any_name" = some (.ref f_law_any_name)
  f_law_any_call : Addr
  fd_law_any_call : FuncData
  F_law_any_call : Fun K "_law_any_call" "_law_any_call" s_law_any_call f_law_any_call fd_law_any_call
  b_law_any_call : Binds K fd_law_any_call ["bag"] []
  g_law_any_call : mg "_law_any_call" = some (.ref f_law_any_call)
  m_abs : mg "abs" = none
  m_all : mg "all" = none
  m_int : mg "int" = none
  m_isinstance : mg "isinstance" = none
  m_len : mg "len" = none
  m_max : mg "max" = none
  m_min : mg "min" = none
  m_range : mg "range" = none
  m_str : mg "str" = none
  m_tuple : mg "tuple" = none
  c_SMALL_LETTERS : ∃ t, mg "SMALL_LETTERS" = some (.str "abcdefghijklmnopqrstuvwxyz" t)
  c_DIGITS : ∃ t, mg "DIGITS" = some (.str "0123456789" t)
  a_KEYWORDS : Addr
  c_KEYWORDS : mg "KEYWORDS" = some (.ref a_KEYWORDS)
  q_KEYWORDS : ∀ H : Hp, SqT K H a_KEYWORDS vals_KEYWORDS
  c_MOST_NAME_LETTERS : ∃ t, mg "MOST_NAME_LETTERS" = some (.int 12 t)
  c_MOST_STRING_LETTERS : ∃ t, mg "MOST_STRING_LETTERS" = some (.int 8 t)
  c_MOST_DIGITS : ∃ t, mg "MOST_DIGITS" = some (.int 30 t)
  c_MOST_CONSTANTS : ∃ t, mg "MOST_CONSTANTS" = some (.int 3 t)
/-! ### short steps: where the walk's name is only a name -/

/-! ### isinstance -/
theorem ty_non {K : PySem.W.Frag} {H : Hp} : TyX K H .non (.type "NoneType") := .base .non
theorem ty_bl {K : PySem.W.Frag} {H : Hp} {b : Bool} : TyX K H (.bl b) (.type "bool") := .base (.bl b)
theorem ty_int {K : PySem.W.Frag} {H : Hp} {i : Int} : TyX K H (.int i) (.type "int") := .base (.int i)
theorem ty_str {K : PySem.W.Frag} {H : Hp} {z : Str} : TyX K H (.str z) (.type "str") := .base (.str z)
theorem ty_lst {K : PySem.W.Frag} {H : Hp} {a : Addr} {xs : List V} (e : H a = some (.lst xs)) : TyX K H (.ref a) (.type "list") := .base (.lst e)
theorem ty_tup {K : PySem.W.Frag} {H : Hp} {a : Addr} {xs : List V} (e : H a = some (.tup xs)) : TyX K H (.ref a) (.type "tuple") := .base (.tup e)
theorem kit_of2 {K : PySem.W.Frag} {a c : String} (r : Bool) (h : kitB a c = some r) : PySem.W.kitOne K (.type a) (.type c) = some r := kit_ty h

theorem ty_sqL {K : PySem.W.Frag} {H : Hp} {a : Addr} {xs : List V} (h : SqL K H a xs) : TyX K H (.ref a) (.type "list") := by
  rcases h with (h | ⟨o, h⟩) | ⟨o, its, n, h, c, _⟩
  · exact .base (.lst h)
  · exact .base (.frz h)
  · exact .kList h c
theorem ty_sqT {K : PySem.W.Frag} {H : Hp} {a : Addr} {xs : List V} (h : SqT K H a xs) : TyX K H (.ref a) (.type "tuple") := by
  rcases h with (h | ⟨o, h⟩) | ⟨o, its, n, h, c, _⟩
  · exact .base (.tup h)
  · exact .fTuple h
  · exact .kTuple h c
theorem small5 {n : Nat} (h : n ≤ 100000) : n < sizeLine := Nat.lt_of_le_of_lt h (by decide)
def isUp (c : Nat) : Bool := decide (65 ≤ c ∧ c ≤ 90)
def isLow (c : Nat) : Bool := decide (97 ≤ c ∧ c ≤ 122)

local macro_rules | `(tactic| walk_at "lw list") => `(tactic| first | assumption | exact upd_same | (rw [upd_ne (by assumption)]; assumption))
local macro_rules | `(tactic| walk_at "lw c") => `(tactic| first
  | (show (_ : Int) ≠ 0; omega)
  | exact log_small (by omega) (by assumption)
  | exact Or.inl ⟨by omega, by omega⟩
  | exact Or.inr ⟨by omega, by omega⟩
  | exact ⟨by omega, by omega⟩
  | exact ⟨by omega, by omega, by omega⟩)
local macro_rules | `(tactic| walk_at "lw n") => `(tactic| first | exact Nat.zero_le _ | (refine Nat.le_of_lt (small1000 ?_); simp only [List.length_cons, List.length_nil]; decide))
local macro_rules | `(tactic| walk_at "lw v") => `(tactic| first
  | refine ⟨_, rfl, ?_⟩
  | refine ⟨_, _, rfl, rfl, ?_⟩
  | refine ⟨_, _, rfl, ?_⟩
  | refine .inl ⟨_, rfl, ?_⟩
  | refine ⟨⟨_, rfl⟩, ?_⟩
  | refine ⟨rfl, ?_⟩
  | (refine' ⟨_, _, _, _, rfl, rfl, SqL.of ?h, ?r, ?_⟩; (case h => walk_at "lw list"); (case r => rfl))
  | (refine' ⟨_, _, _, _, rfl, rfl, ?h, ?r, ?_⟩; (case h => walk_at "lw list"); (case r => rfl))
  | (refine' ⟨_, _, rfl, .inl ⟨_, SqL.of ?h, rfl⟩, ?_⟩; (case h => walk_at "lw list"))
  | (refine' ⟨_, _, rfl, .inl ⟨_, ?h, rfl⟩, ?_⟩; (case h => assumption))
  | (refine' ⟨_, _, rfl, .inr ⟨_, ?h, rfl⟩, ?_⟩; (case h => assumption))
  | (refine ⟨_, _, rfl, ⟨(by have := PySem.sizeLine_eq; omega), rfl⟩, ?_⟩)
  | (refine ⟨(by walk_at "lw c"), ?_⟩))
local macro_rules | `(tactic| walk_at "lw isi") => `(tactic| (refine' ⟨_, _, _, _, _, rfl, .ty _, ?ty, ?k, ?_⟩; (case ty => first | exact ty_int | exact ty_str | exact ty_non | exact ty_bl | exact ty_lst (by assumption) | exact ty_tup (by assumption) | exact ty_sqL (by assumption) | exact ty_sqT (by assumption)); (case k => first | (refine kit_of2 true ?_; decide +kernel) | (refine kit_of2 false ?_; decide +kernel))))
local macro_rules | `(tactic| walk_at "lw w") => `(tactic| first | walk_at "lw v" | walk_at "lw isi")

/-! ### the draws -/
/-- the bag of draws at b: its last number is at most n -/
def Bag (H : Hp) (b : Addr) (n : Int) : Prop := ∃ x y z : Int, H b = some (.lst [.int x, .int y, .int z]) ∧ 0 ≤ x ∧ 0 ≤ y ∧ y ≤ 2000000000 ∧ 0 ≤ z ∧ z ≤ n
/-- all that was tracked stands as it stood, but what stands at b -/
def Keep (b : Addr) (H H' : Hp) : Prop := ∀ q o, q ≠ b → H q = some o → H' q = some o
theorem Keep.refl (b : Addr) (H : Hp) : Keep b H H := fun _ _ _ h => h
theorem Keep.trans {b : Addr} {H H1 H2 : Hp} (x : Keep b H H1) (y : Keep b H1 H2) : Keep b H H2 := fun q o n h => y q o n (x q o n h)
theorem Keep.upd (b : Addr) (H : Hp) (o : HO) : Keep b H (upd H b o) := fun q u n h => by rw [upd_ne n]; exact h
theorem Keep.new {b p : Addr} {H : Hp} {o : HO} (hp : H p = none) : Keep b H (L2.upd H p o) := fun q u _ h => by
  rw [upd_ne (ne_of_none h hp)]
  exact h
theorem Bag.new {b p : Addr} {H : Hp} {o : HO} {n : Int} (h : Bag H b n) (hp : H p = none) : Bag (L2.upd H p o) b n := by
  obtain ⟨x, y, z, e, r⟩ := h
  exact ⟨x, y, z, by rw [upd_ne (ne_of_none e hp)]; exact e, r⟩
theorem Bag.mono {b : Addr} {H : Hp} {n m : Int} (h : Bag H b n) (l : n ≤ m) : Bag H b m := by
  obtain ⟨x, y, z, e, r1, r2, r3, r4, r5⟩ := h
  exact ⟨x, y, z, e, r1, r2, r3, r4, by omega⟩
theorem Bag.ne {b p : Addr} {H : Hp} {n : Int} (h : Bag H b n) (hp : H p = none) : b ≠ p := by
  obtain ⟨x, y, z, e, _⟩ := h
  exact ne_of_none e hp
theorem same_new {H : Hp} {p : Addr} {o : HO} (h : H p = none) : Same H (upd H p o) := fun b x e => by
  rw [upd_ne (ne_of_none e h)]
  exact e

/-- a draw: an int from 0 to m less one -/
def sp_take : Sp := fun vs H Q _ => ∃ (b : Addr) (m n : Int), vs = [.ref b, .int m] ∧ Bag H b n ∧ n ≤ 1000000000 ∧ 0 < m ∧ m < 2 ^ 200 ∧
  ∀ (d : Int) (H' : Hp), 0 ≤ d → d < m → Bag H' b (n + 1) → Keep b H H' → Q (.int d) H'
theorem small200 {j : Int} (h0 : 0 < j) (h : j < 2 ^ 200) : j.natAbs < 2 ^ 200 := by
  have e : ((2 : Int) ^ 200) = ((2 ^ 200 : Nat) : Int) := by decide +kernel
  rw [e] at h
  omega
theorem log_small {i j : Int} (h0 : 0 < j) (h : j < 2 ^ 200) : CDivW i j := wide_div h0 (small200 h0 h) (by decide) (by decide)
section
variable {P : Program} {w : World} {K : PySem.W.Frag} {mg : Str → Option Value} {base : Heap}
theorem ok_law_take (T : Txt K mg) : FnOk P w K mg base CX0 1 T.f_law_take T.fd_law_take ["bag", "many"] sp_take := by
  refine T.F_law_take.ok sc_law_take (fun vs H Q E h => ?_) (fun cdv A outer s H vs Q E hr h => ?_)
  · obtain ⟨b, m, n, rfl, _⟩ := h
    rfl
  · obtain ⟨b, m, n, rfl, ⟨x, y, z, hb, hx, hy, hy2, hz, hzn⟩, hn, hm0, hm, q⟩ := h
    refine ⟨_, (pss_cons (ps_if (pt_cmpR op_gt (pe_ix ix_list (pv 0) pe_int (fun _ _ => rfl)) pe_int (nomark _)) (pss_cons (ps_set (i := 2) sc_law_take.nd rfl (.inl rfl) (pe_op op_modN (pe_callTy call_int1 (by rfl) T.m_int (by decide +kernel) (pa_cons (pe_ix ix_list (pv 0) pe_int (fun _ _ => rfl)) pa_nil)) (pv 1)))
        (pss_cons (ps_asg (pe_op op_fdivW (pe_ix ix_list (pv 0) pe_int (fun _ _ => rfl)) (pv 1)) (pg_sub (pv 0) pe_int set_list))
        (pss_one (ps_ret (pv 2))))) pss_nil)
        (pss_cons (ps_asg (pe_op op_add (pe_ix ix_list (pv 0) pe_int (fun _ _ => rfl)) pe_int) (pg_sub (pv 0) pe_int set_list))
        (pss_cons (ps_set (i := 3) sc_law_take.nd rfl (.inl rfl) (pe_op op_modN (pe_callTy call_int1 (by rfl) T.m_int (by decide +kernel) (pa_cons (pe_op op_mul (pe_op op_add (pe_ix ix_list (pv 0) pe_int (fun _ _ => rfl)) (pe_op op_mul pe_int (pe_ix ix_list (pv 0) pe_int (fun _ _ => rfl)))) (pe_op op_add (pe_ix ix_list (pv 0) pe_int (fun _ _ => rfl)) pe_int)) pa_nil)) pe_int))
        (pss_one (ps_ret (pe_op op_modN (pe_callTy call_int1 (by rfl) T.m_int (by decide +kernel) (pa_cons (pe_op op_fdivN (pe_op op_modN (pe_callTy call_int1 (by rfl) T.m_int (by decide +kernel) (pa_cons (pe_op op_pow (pe_op op_add (pv 3) (pe_op op_mul pe_int (pe_ix ix_list (pv 0) pe_int (fun _ _ => rfl)))) pe_int) pa_nil)) pe_int) pe_int) pa_nil)) (pv 1))))))), ?_⟩
    repeat (walk_at "lw v")
    refine ite2 (fun e => ?_) (fun e => ?_)
    · have e0 : 0 < x := of_decide_eq_true e
      repeat (walk_at "lw v")
      refine ⟨log_small hm0 hm, ?_⟩
      repeat (walk_at "lw v")
      refine q _ _ (Int.fmod_nonneg_of_pos _ hm0) (Int.fmod_lt_of_pos _ hm0) ⟨x / m, y, z, upd_same, Int.ediv_nonneg hx (by omega), hy, hy2, hz, by omega⟩ (Keep.upd _ _ _)
    · have f1 : 0 ≤ ((y + 40009 * (z + 1)) * (y + 7919)).fmod 2147483647 := Int.fmod_nonneg_of_pos _ (by decide)
      have f2 : ((y + 40009 * (z + 1)) * (y + 7919)).fmod 2147483647 < 2147483647 := Int.fmod_lt_of_pos _ (by decide)
      repeat (walk_at "lw v")
      refine q _ _ (Int.fmod_nonneg_of_pos _ hm0) (Int.fmod_lt_of_pos _ hm0) ⟨x, y, z + 1, upd_same, hx, hy, hy2, by omega, by omega⟩ (Keep.upd _ _ _)
theorem atI_of {α : Type} {xs : List α} {d : Int} (h0 : 0 ≤ d) (h1 : d < (xs.length : Int)) : ∃ v, v ∈ xs ∧ atI xs d = some v := by
  obtain ⟨k, rfl⟩ := Int.eq_ofNat_of_zero_le h0
  have hk : k < xs.length := by omega
  exact ⟨xs[k], List.getElem_mem hk, atI_nat (List.getElem?_eq_getElem hk)⟩
/-- one of some: of a list, or a letter of a text -/
def sp_of : Sp := fun vs H Q _ => ∃ (b : Addr) (s : V) (n : Int), vs = [.ref b, s] ∧ Bag H b n ∧ n ≤ 1000000000 ∧
  ((∃ (l : Addr) (xs : List V), s = .ref l ∧ l ≠ b ∧ H l = some (.lst xs) ∧ 0 < xs.length ∧ xs.length ≤ 100000 ∧ ∀ (v : V) (H' : Hp), v ∈ xs → Bag H' b (n + 1) → Keep b H H' → Q v H') ∨
    (∃ z : Str, s = .str z ∧ 0 < z.length ∧ z.length ≤ 1000 ∧ ∀ (c : Nat) (H' : Hp), c ∈ z.cps.toList → Bag H' b (n + 1) → Keep b H H' → Q (.str ⟨#[c]⟩) H'))
theorem ok_law_of (T : Txt K mg) : FnOk P w K mg base CX0 2 T.f_law_of T.fd_law_of ["bag", "some"] sp_of := by
  have G_law_take := ok_law_take (P := P) (w := w) (base := base) T
  refine T.F_law_of.ok sc_law_of (fun vs H Q E h => ?_) (fun cdv A outer s H vs Q E hr h => ?_)
  · obtain ⟨b, m, n, rfl, _⟩ := h
    rfl
  · obtain ⟨b, sm, n, rfl, hb, hn, q⟩ := h
    refine ⟨_, (pss_one (ps_ret (pe_ix ix_seq (pv 1) (pe_call G_law_take hr (by rfl) T.g_law_take T.F_law_take.kp T.b_law_take .nil pass0 (pa_cons (pv 0) (pa_cons (pe_callB call_len (by rfl) T.m_len (by decide +kernel) (pa_cons (pv 1) pa_nil)) pa_nil))) (fun _ _ => rfl)))), ?_⟩
    rcases q with ⟨l, xs, rfl, nl, hl, l0, l1, q⟩ | ⟨z, rfl, z0, z1, q⟩
    · repeat (walk_at "lw v")
      refine ⟨b, _, n, rfl, hb, hn, by omega, by omega, fun d H' d0 d1 hB hK => ?_⟩
      obtain ⟨v, hv, ha⟩ := atI_of (xs := xs) d0 d1
      exact .inl ⟨l, xs, d, v, rfl, rfl, SqL.of (hK l _ nl hl), ha, q v H' hv hB hK⟩
    · repeat (walk_at "lw v")
      refine ⟨b, _, n, rfl, hb, hn, by omega, by omega, fun d H' d0 d1 hB hK => ?_⟩
      obtain ⟨v, hv, ha⟩ := atI_of (xs := z.cps.toList) d0 (by rw [Array.length_toList]; exact d1)
      exact .inr (.inr ⟨z, d, v, rfl, rfl, by have := PySem.sizeLine_eq; omega, ha, q v H' hv hB hK⟩)
end

theorem of_map {ns : List Int} {v : V} (h : v ∈ ns.map V.int) : ∃ i, v = V.int i := by
  obtain ⟨i, _, e⟩ := List.mem_map.mp h
  exact ⟨i, e.symm⟩
theorem bag_at {H : Hp} {p : Addr} {x c i : Int} (hx : 0 ≤ x) (i0 : 0 ≤ i) (i1 : i ≤ 63) : Bag (upd H p (.lst [.int x, .int (c.fmod 998244353 + 3000017 * i), .int 0])) p 0 := by
  have f1 : 0 ≤ c.fmod 998244353 := Int.fmod_nonneg_of_pos _ (by decide)
  have f2 : c.fmod 998244353 < 998244353 := Int.fmod_lt_of_pos _ (by decide)
  exact ⟨x, _, 0, upd_same, hx, by omega, by omega, by omega, by omega⟩
/-- a bag for a cell of the script -/
def sp_bag (K : PySem.W.Frag) : Sp := fun vs H Q _ => ∃ (a : Addr) (ns : List Int) (i : Int), vs = [.ref a, .int i] ∧ SqL K H a (ns.map V.int) ∧ ns.length ≤ 63 ∧ 0 ≤ i ∧ i ≤ 63 ∧
  ∀ (b : Addr) (H' : Hp), H b = none → Bag H' b 0 → Same H H' → Q (.ref b) H'
section
variable {P : Program} {w : World} {K : PySem.W.Frag} {mg : Str → Option Value} {base : Heap}
theorem ok_law_bag (T : Txt K mg) : FnOk P w K mg base CX0 1 T.f_law_bag T.fd_law_bag ["script", "at"] (sp_bag K) := by
  refine T.F_law_bag.ok sc_law_bag (fun vs H Q E h => ?_) (fun cdv A outer s H vs Q E hr h => ?_)
  · obtain ⟨b, m, n, rfl, _⟩ := h
    rfl
  · obtain ⟨a, ns, i, rfl, hS, hl, i0, i1, q⟩ := h
    refine ⟨_, (pss_cons (ps_set (i := 2) sc_law_bag.nd rfl (.inl rfl) (pe_ifExp (pt_cmpR op_lt (pv 1) (pe_callB call_len (by rfl) T.m_len (by decide +kernel) (pa_cons (pv 0) pa_nil)) (nomark _)) (pe_ix ix_list (pv 0) (pv 1) (fun _ _ => rfl)) pe_int))
        (pss_one (ps_ret (pe_lst (pa_cons (pe_ifExp (pt_cmpR op_ge (pe_callB call_abs (by rfl) T.m_abs (by decide +kernel) (pa_cons (pv 2) pa_nil)) (pe_op op_pow pe_int pe_int) (nomark _)) (pe_callB call_abs (by rfl) T.m_abs (by decide +kernel) (pa_cons (pv 2) pa_nil)) pe_int) (pa_cons (pe_op op_add (pe_op op_modN (pe_callTy call_int1 (by rfl) T.m_int (by decide +kernel) (pa_cons (pv 2) pa_nil)) pe_int) (pe_op op_mul pe_int (pv 1))) (pa_cons pe_int pa_nil))))))), ?_⟩
    repeat (walk_at "lw v")
    refine ite2 (fun e => ?_) (fun e => ?_)
    · have e1 : i < ((ns.map V.int).length : Int) := of_decide_eq_true e
      obtain ⟨v, hv, ha⟩ := atI_of i0 e1
      obtain ⟨c, rfl⟩ := of_map hv
      repeat (walk_at "lw v")
      refine ⟨_, _, _, _, rfl, rfl, hS, ha, ?_⟩
      repeat (walk_at "lw v")
      refine ite2 (fun e => ?_) (fun e => ?_)
      · repeat (walk_at "lw v")
        refine ⟨(by walk_at "lw n"), fun p hp => q p _ hp (bag_at (by split <;> omega) i0 i1) (same_new hp)⟩
      · repeat (walk_at "lw v")
        refine ⟨(by walk_at "lw n"), fun p hp => q p _ hp (bag_at (by decide) i0 i1) (same_new hp)⟩
    · repeat (walk_at "lw v")
      refine ⟨(by walk_at "lw n"), fun p hp => q p _ hp (bag_at (by decide) i0 i1) (same_new hp)⟩
end

/-! ### words -/
/-- a word: small letters, at most m -/
def IsWord (z : Str) (m : Nat) : Prop := z.length ≤ m ∧ z.cps.toList.all isLow = true
/-- texts joined, as lists of codes -/
def joinL (sep : List Nat) : List (List Nat) → List Nat
  | [] => []
  | [x] => x
  | x :: y :: r => x ++ sep ++ joinL sep (y :: r)
theorem str_join_list (sep : Str) : ∀ ys : List Str, (Str.join sep ys).cps.toList = joinL sep.cps.toList (ys.map fun y => y.cps.toList)
  | [] => rfl
  | [x] => rfl
  | x :: y :: r => by
    have ih := str_join_list sep (y :: r)
    show ((x.cps ++ sep.cps) ++ (Str.join sep (y :: r)).cps).toList = _
    rw [Array.toList_append, Array.toList_append, ih]
    rfl
theorem join_list (sep : Str) (ys : List Str) : (Txt.join sep ys).cps.toList = joinL sep.cps.toList (ys.map fun y => y.cps.toList) := by
  show (PySem.Builtin.Str.glued sep ys).cps.toList = _
  rw [StrLaws.glued_eq_join]
  exact str_join_list sep ys
theorem joinL_nil : ∀ ls : List (List Nat), joinL [] ls = ls.flatten
  | [] => rfl
  | [x] => by simp [joinL]
  | x :: y :: r => by
    show x ++ [] ++ joinL [] (y :: r) = _
    rw [joinL_nil (y :: r), List.append_nil]
    rfl
theorem joined_word {ys : List Str} {m : Nat} (h : ys.length ≤ m) (h1 : ∀ y ∈ ys, ∃ c, y = ⟨#[c]⟩ ∧ isLow c = true) : IsWord (Txt.join (Str.ofString "") ys) m := by
  have e : (Txt.join (Str.ofString "") ys).cps.toList = (ys.map fun y => y.cps.toList).flatten := by
    rw [join_list, show (Str.ofString "").cps.toList = [] from rfl, joinL_nil]
  have g : ∀ ys : List Str, (∀ y ∈ ys, ∃ c, y = ⟨#[c]⟩ ∧ isLow c = true) → ((ys.map fun y => y.cps.toList).flatten).length = ys.length ∧ ((ys.map fun y => y.cps.toList).flatten).all isLow = true := by
    intro ys
    induction ys with
    | nil => intro _; exact ⟨rfl, rfl⟩
    | cons y r ih =>
      intro h
      obtain ⟨c, rfl, hc⟩ := h y List.mem_cons_self
      obtain ⟨i1, i2⟩ := ih fun z hz => h z (List.mem_cons_of_mem _ hz)
      have e : ((Str.mk #[c] :: r).map fun y => y.cps.toList).flatten = c :: (r.map fun y => y.cps.toList).flatten := rfl
      rw [e]
      refine ⟨?_, ?_⟩
      · rw [List.length_cons, i1, List.length_cons]
      · rw [List.all_cons, hc, i2]
        rfl
  obtain ⟨g1, g2⟩ := g ys h1
  refine ⟨?_, ?_⟩
  · show (Txt.join (Str.ofString "") ys).cps.size ≤ m
    rw [← Array.length_toList, e, g1]
    exact h
  · rw [e]
    exact g2
def sp_word : Sp := fun vs H Q _ => ∃ (b : Addr) (m n : Int), vs = [.ref b, .int m] ∧ Bag H b n ∧ n ≤ 900000000 ∧ 0 ≤ m ∧ m ≤ 100 ∧
  ∀ (z : Str) (H' : Hp), IsWord z m.toNat → Bag H' b (n + 200) → Keep b H H' → Q (.str z) H'
section
variable {P : Program} {w : World} {K : PySem.W.Frag} {mg : Str → Option Value} {base : Heap}
theorem ok_law_word (T : Txt K mg) : FnOk P w K mg base CX0 3 T.f_law_word T.fd_law_word ["bag", "most"] sp_word := by
  have G_law_take := ok_law_take (P := P) (w := w) (base := base) T
  have G_law_of := ok_law_of (P := P) (w := w) (base := base) T
  refine T.F_law_word.ok sc_law_word (fun vs H Q E h => ?_) (fun cdv A outer s H vs Q E hr h => ?_)
  · obtain ⟨b, m, n, rfl, _⟩ := h
    rfl
  · obtain ⟨b, m, n, rfl, hb, hn, m0, m1, q⟩ := h
    refine ⟨_, (pss_one (ps_ret (pe_join pe_str (pe_lc (own := [("turn", 2)]) (g := gName 2) rfl sc_law_word.nd (pi_range1 (by rfl) T.m_range (pa_cons (pe_call G_law_take (hr.mono (by omega)) (by rfl) T.g_law_take T.F_law_take.kp T.b_law_take .nil pass0 (pa_cons (pv 0) (pa_cons (pe_op op_add (pv 1) pe_int) pa_nil))) pa_nil)) (blkOk_by (own := [("turn", 2)]) (N := ["bag", "most", "turn"]) (sc := defScope s_law_word) (by decide +kernel)) (fun _ _ _ _ _ => pg_name (i := 2) sc_law_word.nd rfl (.inl rfl)) (fun _ _ _ _ _ => pts_nil) (fun _ _ _ _ _ => (pe_call G_law_of hr (by rfl) T.g_law_of T.F_law_of.kp T.b_law_of .nil pass0 (pa_cons (pv 0) (pa_cons pe_str pa_nil)))))))), ?_⟩
    repeat (walk_at "lw v")
    refine ⟨b, _, n, rfl, hb, by omega, by omega, by omega, fun d H1 d0 d1 hB1 hK1 => ?_⟩
    refine ⟨d, rfl, by omega, by omega, fun D nD => ?_⟩
    have nbD : b ≠ D := hB1.ne nD
    refine lc_range (lo := 0) (n := d.toNat) (fun i H' => ∃ ys : List Str, H' D = some (.lst (ys.map V.str)) ∧ ys.length = i ∧ (∀ y ∈ ys, ∃ c, y = ⟨#[c]⟩ ∧ isLow c = true) ∧ Bag H' b (n + 1 + i) ∧ Keep b H1 H') ?_ ?_ ?_
    · exact ⟨[], upd_same, rfl, fun _ h => (nomatch h), (hB1.new nD).mono (by omega), Keep.new nD⟩
    · rintro i H' hi ⟨ys, eD, el, hy, hB, hK⟩
      refine ⟨rfl, ?_⟩
      repeat (walk_at "lw v")
      refine ⟨b, _, _, rfl, hB, by omega, .inr ⟨_, rfl, by decide +kernel, by decide +kernel, fun c H3 hc hB3 hK3 => ?_⟩⟩
      have hl2 : isLow c = true := (by decide +kernel : ∀ c ∈ (Str.ofString "abcdefghijklmnopqrstuvwxyz").cps.toList, isLow c = true) c hc
      refine ⟨_, hK3 _ _ nbD.symm eD, ?_, ys ++ [⟨#[c]⟩], ?_, ?_, ?_, ?_, ?_⟩
      · rw [List.length_map, el]
        exact small1000 (by omega)
      · rw [upd_same, List.map_append]
        rfl
      · rw [List.length_append, el]
        rfl
      · intro y hy'
        rcases List.mem_append.mp hy' with h | h
        · exact hy y h
        · rw [List.mem_singleton] at h
          exact ⟨c, h, hl2⟩
      · obtain ⟨x1, x2, x3, ex, rx⟩ := hB3
        exact Bag.mono ⟨x1, x2, x3, by rw [upd_ne nbD]; exact ex, rx⟩ (by omega)
      · intro q' o nq e
        have nqD : q' ≠ D := ne_of_none e nD
        rw [upd_ne nqD]
        exact hK3 _ _ nq (hK _ _ nq e)
    · rintro H' ⟨ys, eD, el, hy, hB, hK⟩
      refine ⟨_, D, ys, rfl, rfl, .inl (SqL.of eD), ?_, ?_⟩
      · have : ∀ ys : List Str, (∀ y ∈ ys, ∃ c, y = (⟨#[c]⟩ : Str) ∧ isLow c = true) → (ys.map (·.length)).sum = ys.length := by
          intro ys
          induction ys with
          | nil => intro _; rfl
          | cons y r ih =>
            intro h
            obtain ⟨c, rfl, hc⟩ := h y List.mem_cons_self
            rw [List.map_cons, List.sum_cons, ih fun z hz => h z (List.mem_cons_of_mem _ hz), List.length_cons, Nat.add_comm]
            rfl
        rw [this ys hy, show (Str.ofString "").length = 0 from rfl]
        omega
      · exact q _ H' (joined_word (by omega) hy) (hB.mono (by omega)) (hK1.trans hK)
end

/-! ### numbers -/
theorem e30 : (10 : Int) ^ (Int.toNat 30) = 1000000000000000000000000000000 := by decide +kernel
def IsNum (i : Int) : Prop := -1000000000000000000000000000000 < i ∧ i < 1000000000000000000000000000000
def sp_number : Sp := fun vs H Q _ => ∃ (b l : Addr) (ns : List Int) (n : Int), vs = [.ref b, .ref l] ∧ Bag H b n ∧ n ≤ 900000000 ∧ H l = some (.lst (ns.map V.int)) ∧ l ≠ b ∧ ns.length ≤ 1000 ∧ 
  ∀ (i : Int) (H' : Hp), IsNum i → Bag H' b (n + 5) → Keep b H H' → Q (.int i) H'
section
variable {P : Program} {w : World} {K : PySem.W.Frag} {mg : Str → Option Value} {base : Heap}
theorem ok_law_number (T : Txt K mg) : FnOk P w K mg base CX0 3 T.f_law_number T.fd_law_number ["bag", "near"] sp_number := by
  have G_law_take := ok_law_take (P := P) (w := w) (base := base) T
  have G_law_of := ok_law_of (P := P) (w := w) (base := base) T
  refine T.F_law_number.ok sc_law_number (fun vs H Q E h => ?_) (fun cdv A outer s H vs Q E hr h => ?_)
  · obtain ⟨b, l, ns, n, rfl, _⟩ := h
    rfl
  · obtain ⟨b, l, ns, n, rfl, hb, hn, hl, nl, hlen, q⟩ := h
    refine ⟨_, (pss_cons (ps_par (i := 2) (j := 3) (by rfl) sc_law_number.nd rfl rfl (by decide) rfl rfl (pa_cons (pe_call G_law_take (hr.mono (by omega)) (by rfl) T.g_law_take T.F_law_take.kp T.b_law_take .nil pass0 (pa_cons (pv 0) (pa_cons pe_int pa_nil))) (pa_cons (pe_op op_sub (pe_op op_pow pe_int pe_int) pe_int) pa_nil)) (by rfl))
        (pss_cons (ps_if (pt_cmpR op_gt (pv 2) pe_int (nomark _)) (pss_one (ps_ret (pe_op op_sub (pe_call G_law_take (hr.mono (by omega)) (by rfl) T.g_law_take T.F_law_take.kp T.b_law_take .nil pass0 (pa_cons (pv 0) (pa_cons pe_int pa_nil))) pe_int))) pss_nil)
        (pss_cons (ps_if (pt_cmpR op_eq (pv 2) pe_int (nomark _)) (pss_one (ps_ret (pe_op op_mul (pe_op op_sub (pv 3) (pe_call G_law_take (hr.mono (by omega)) (by rfl) T.g_law_take T.F_law_take.kp T.b_law_take .nil pass0 (pa_cons (pv 0) (pa_cons (pe_op op_pow pe_int pe_int) pa_nil)))) (pe_op op_sub pe_int (pe_op op_mul pe_int (pe_call G_law_take (hr.mono (by omega)) (by rfl) T.g_law_take T.F_law_take.kp T.b_law_take .nil pass0 (pa_cons (pv 0) (pa_cons pe_int pa_nil)))))))) pss_nil)
        (pss_one (ps_ret (pe_callB (call_max2 rfl) (by rfl) T.m_max (by decide +kernel) (pa_cons (pe_un un_neg (pv 3)) (pa_cons (pe_callB (call_min2 rfl) (by rfl) T.m_min (by decide +kernel) (pa_cons (pv 3) (pa_cons (pe_op op_sub (pe_op op_add (pe_call G_law_of hr (by rfl) T.g_law_of T.F_law_of.kp T.b_law_of .nil pass0 (pa_cons (pv 0) (pa_cons (pe_op op_cat (pv 1) (pe_lst (pa_cons pe_int pa_nil))) pa_nil))) (pe_call G_law_take (hr.mono (by omega)) (by rfl) T.g_law_take T.F_law_take.kp T.b_law_take .nil pass0 (pa_cons (pv 0) (pa_cons pe_int pa_nil)))) pe_int) pa_nil))) pa_nil)))))))), ?_⟩
    repeat (walk_at "lw v")
    refine ⟨b, _, n, rfl, hb, by omega, by omega, by omega, fun d H1 d0 d1 hB1 hK1 => ?_⟩
    repeat (walk_at "lw v")
    rw [e30]
    repeat (walk_at "lw v")
    refine ite2 (fun e => ?_) (fun e => ?_)
    · repeat (walk_at "lw v")
      refine ⟨b, _, _, rfl, hB1, by omega, by omega, by omega, fun d2 H2 d20 d21 hB2 hK2 => ?_⟩
      repeat (walk_at "lw v")
      exact q _ H2 ⟨by omega, by omega⟩ (hB2.mono (by omega)) (hK1.trans hK2)
    · repeat (walk_at "lw v")
      refine ite2 (fun e => ?_) (fun e => ?_)
      · repeat (walk_at "lw v")
        refine ⟨b, _, _, rfl, hB1, by omega, by decide +kernel, by decide +kernel, fun d2 H2 d20 d21 hB2 hK2 => ?_⟩
        rw [e30] at d21
        repeat (walk_at "lw v")
        refine ⟨b, _, _, rfl, hB2, by omega, by omega, by omega, fun d3 H3 d30 d31 hB3 hK3 => ?_⟩
        repeat (walk_at "lw v")
        have hz : d3 = 0 ∨ d3 = 1 := by omega
        refine q _ H3 ?_ (hB3.mono (by omega)) ((hK1.trans hK2).trans hK3)
        rcases hz with rfl | rfl <;> (unfold IsNum; omega)
      · repeat (walk_at "lw v")
        refine ⟨by walk_at "lw n", fun p hp => ?_⟩
        have hl1 := hK1 _ _ nl hl
        refine ⟨l, p, _, _, rfl, rfl, by rw [upd_ne (ne_of_none hl1 hp)]; exact hl1, upd_same, ?_, fun p2 hp2 => ?_⟩
        · have := PySem.sizeLine_eq
          show (ns.map V.int).length + 1 ≤ _
          rw [List.length_map]
          omega
        · repeat (walk_at "lw v")
          have hb2 := (hB1.new (o := .lst [V.int 0]) hp).ne hp2
          have hB2 := (hB1.new (o := .lst [V.int 0]) hp).new (o := .lst (ns.map V.int ++ [V.int 0])) hp2
          refine ⟨b, _, _, rfl, hB2, by omega, .inl ⟨p2, _, rfl, hb2.symm, upd_same, by simp, by simp; omega, fun v H2 hv hB3 hK3 => ?_⟩⟩
          obtain ⟨u, rfl⟩ : ∃ u, v = V.int u := by
            rcases List.mem_append.mp hv with h | h
            · exact of_map h
            · exact ⟨0, List.mem_singleton.mp h⟩
          repeat (walk_at "lw v")
          refine ⟨b, _, _, rfl, hB3, by omega, by omega, by omega, fun d5 H5 d50 d51 hB5 hK5 => ?_⟩
          repeat (walk_at "lw v")
          refine q _ H5 ?_ (hB5.mono (by omega)) ?_
          · unfold IsNum
            constructor <;> (repeat' split) <;> omega
          · have k1 : Keep b H1 (upd H1 p (HO.lst [V.int 0])) := Keep.new hp
            have k2 : Keep b (upd H1 p (HO.lst [V.int 0])) (upd (upd H1 p (HO.lst [V.int 0])) p2 (HO.lst (ns.map V.int ++ [V.int 0]))) := Keep.new hp2
            exact (((hK1.trans k1).trans k2).trans hK3).trans hK5
end

/-! ### any values -/
theorem op_mul_str {X : Cx} : OpR X (binaryOp .Mult) (fun x y H Q => ∃ z n, x = .str z ∧ y = .int n ∧ MulOk z n ∧ Q (.str (Txt.mul z n)) H) := by
  intro pins s σ H x y v u Q I rx ry h
  obtain ⟨i, j, rfl, rfl, hz, q⟩ := h
  obtain ⟨t, rfl⟩ := rx
  obtain ⟨t', rfl⟩ := ry
  exact PySem.SB.mul hz fun t' tk => ⟨.str _, H, I.tok _, ⟨_, rfl⟩, q⟩
/-- what was not tracked in H -/
def since (H H' : Hp) : Hp := fun q => match H q with | none => H' q | some _ => none
theorem since_some {H H' : Hp} {q : Addr} {o : HO} (h : since H H' q = some o) : H q = none ∧ H' q = some o := by
  unfold since at h
  cases e : H q with
  | none => rw [e] at h; exact ⟨rfl, h⟩
  | some _ => rw [e] at h; cases h
theorem since_of {H H' : Hp} {q : Addr} {o : HO} (h : H q = none) (h' : H' q = some o) : since H H' q = some o := by
  unfold since
  rw [h]
  exact h'
theorem since_same {H H' : Hp} : Same (since H H') H' := fun _ _ h => (since_some h).2
/-- every place that H tracks is tracked in H' -/
def Dom (H H' : Hp) : Prop := ∀ q o, H q = some o → ∃ o', H' q = some o'
theorem Dom.refl (H : Hp) : Dom H H := fun _ o h => ⟨o, h⟩
theorem Dom.trans {H H1 H2 : Hp} (x : Dom H H1) (y : Dom H1 H2) : Dom H H2 := fun q o h => by
  obtain ⟨o', h'⟩ := x q o h
  exact y q o' h'
theorem Same.dom {H H' : Hp} (s : Same H H') : Dom H H' := fun q o h => ⟨o, s q o h⟩
theorem Keep.dom {b : Addr} {H H' : Hp} (k : Keep b H H') (h : ∃ o, H' b = some o) : Dom H H' := fun q o e => by
  by_cases n : q = b
  · rw [n]; exact h
  · exact ⟨o, k q o n e⟩
theorem Dom.free {H H' : Hp} (d : Dom H H') {q : Addr} (h : H' q = none) : H q = none := by
  cases e : H q with
  | none => rfl
  | some o =>
    obtain ⟨o', e'⟩ := d q o e
    rw [h] at e'
    cases e'
theorem since_mono {H0 H H' H'' : Hp} {b : Addr} (d : Dom H0 H) (hb : ∃ o, H b = some o) (k : Keep b H' H'') : Same (since H H') (since H0 H'') := fun q o h => by
  obtain ⟨h1, h2⟩ := since_some h
  have n : q ≠ b := fun e => by
    obtain ⟨o', e'⟩ := hb
    rw [e, e'] at h1
    cases h1
  exact since_of (d.free h1) (k q o n h2)
theorem since_mono0 {H0 H H' H'' : Hp} (d : Dom H0 H) (k : Same H' H'') : Same (since H H') (since H0 H'') := fun q o h => by
  obtain ⟨h1, h2⟩ := since_some h
  exact since_of (d.free h1) (k q o h2)
theorem SqL.same {K : PySem.W.Frag} {H H' : Hp} {a : Addr} {xs : List V} (s : Same H H') (h : SqL K H a xs) : SqL K H' a xs := s.seq h
theorem SqT.same {K : PySem.W.Frag} {H H' : Hp} {a : Addr} {xs : List V} (s : Same H H') (h : SqT K H a xs) : SqT K H' a xs := by
  rcases h with (h | ⟨o, h⟩) | h
  · exact .inl (.inl (s _ _ h))
  · exact .inl (.inr ⟨o, s _ _ h⟩)
  · exact .inr h
mutual
theorem Dp.same {K : PySem.W.Frag} {H H' : Hp} (s : Same H H') : ∀ (d : PyData) (v : V), Dp K H v d → Dp K H' v d
  | .none, _, h => by cases h; exact .non
  | .bool _, _, h => by cases h; exact .bl _
  | .int _, _, h => by cases h; exact .int _
  | .str _, _, h => by cases h; exact .str _
  | .list ds, _, h => by
    cases h with
    | lst hs ha => exact .lst (SqL.same s hs) (DpAll.same s ds _ ha)
  | .tuple ds, _, h => by
    cases h with
    | tup hs ha => exact .tup (SqT.same s hs) (DpAll.same s ds _ ha)
  | .dict _, _, h => by cases h
theorem DpAll.same {K : PySem.W.Frag} {H H' : Hp} (s : Same H H') : ∀ (ds : List PyData) (vs : List V), DpAll K H vs ds → DpAll K H' vs ds
  | [], _, h => by cases h; exact .nil
  | d :: r, _, h => by
    cases h with
    | cons h1 h2 => exact .cons (Dp.same s d _ h1) (DpAll.same s r _ h2)
end
theorem DpAll.snoc {K : PySem.W.Frag} {H : Hp} : ∀ {vs : List V} {ds : List PyData} {v : V} {d : PyData}, DpAll K H vs ds → Dp K H v d → DpAll K H (vs ++ [v]) (ds ++ [d])
  | _, _, _, _, .nil, h => .cons h .nil
  | _, _, _, _, .cons a b, h => .cons a (DpAll.snoc b h)
theorem DpAll.length {K : PySem.W.Frag} {H : Hp} : ∀ {vs : List V} {ds : List PyData}, DpAll K H vs ds → vs.length = ds.length
  | _, _, .nil => rfl
  | _, _, .cons _ b => by rw [List.length_cons, List.length_cons, DpAll.length b]
theorem DpAll.append {K : PySem.W.Frag} {H : Hp} : ∀ {vs ws : List V} {ds es : List PyData}, DpAll K H vs ds → DpAll K H ws es → DpAll K H (vs ++ ws) (ds ++ es)
  | _, _, _, _, .nil, h => h
  | _, _, _, _, .cons a b, h => .cons a (DpAll.append b h)
theorem DpAll.get {K : PySem.W.Frag} {H : Hp} : ∀ {vs : List V} {ds : List PyData} {i : Nat} {v : V}, DpAll K H vs ds → vs[i]? = some v → ∃ d, ds[i]? = some d ∧ Dp K H v d
  | _, _, _, _, .nil, h => by simp at h
  | _, _, 0, _, .cons a _, h => by
    simp at h
    subst h
    exact ⟨_, rfl, a⟩
  | _, _, i + 1, _, .cons _ b, h => by
    obtain ⟨d, h1, h2⟩ := DpAll.get (i := i) b (by simpa using h)
    exact ⟨d, by simpa using h1, h2⟩
theorem DpAll.mem {K : PySem.W.Frag} {H : Hp} : ∀ {vs : List V} {ds : List PyData} {v : V}, DpAll K H vs ds → v ∈ vs → ∃ d, d ∈ ds ∧ Dp K H v d
  | _, _, _, .nil, h => by cases h
  | _, _, v, .cons a b, h => by
    rcases List.mem_cons.mp h with e | e
    · subst e
      exact ⟨_, List.mem_cons_self, a⟩
    · obtain ⟨d, h1, h2⟩ := DpAll.mem b e
      exact ⟨d, List.mem_cons_of_mem _ h1, h2⟩
mutual
/-- texts of at most a hundred thousand signs, lists of at most a thousand, no dict -/
def fine : PyData → Bool
  | .str z => decide (z.length ≤ 100000) && PyData.strOk z
  | .list ds => decide (ds.length ≤ 1000) && fineAll ds
  | .tuple ds => decide (ds.length ≤ 1000) && fineAll ds
  | .dict _ => false
  | .none => true
  | .bool _ => true
  | .int _ => true
def fineAll : List PyData → Bool
  | [] => true
  | d :: r => fine d && fineAll r
end
theorem fineAll_mem : ∀ {ds : List PyData} {d : PyData}, fineAll ds = true → d ∈ ds → fine d = true
  | [], _, _, h => by cases h
  | e :: r, d, h, m => by
    unfold fineAll at h
    rw [Bool.and_eq_true] at h
    rcases List.mem_cons.mp m with q | q
    · rw [q]; exact h.1
    · exact fineAll_mem h.2 q
theorem fineAll_snoc : ∀ {ds : List PyData} {d : PyData}, fineAll ds = true → fine d = true → fineAll (ds ++ [d]) = true
  | [], d, _, h => by show (fine d && true) = true; rw [h]; rfl
  | e :: r, d, h, m => by
    unfold fineAll at h
    rw [Bool.and_eq_true] at h
    show (fine e && fineAll (r ++ [d])) = true
    rw [h.1, fineAll_snoc h.2 m]
    rfl
theorem depthAll_snoc : ∀ {ds : List PyData} {d : PyData} {n : Nat}, PyData.depthAll ds ≤ n → PyData.depth d ≤ n → PyData.depthAll (ds ++ [d]) ≤ n
  | [], d, n, _, h => by
    show max (PyData.depth d) 0 ≤ n
    omega
  | e :: r, d, n, h, m => by
    have h' : max (PyData.depth e) (PyData.depthAll r) ≤ n := h
    have := depthAll_snoc (ds := r) (n := n) (by omega) m
    show max (PyData.depth e) (PyData.depthAll (r ++ [d])) ≤ n
    omega
mutual
theorem canLay_fine : ∀ (d : PyData), fine d = true → PyData.canLay0 d = true
  | .none, _ => rfl
  | .bool _, _ => rfl
  | .int _, _ => rfl
  | .str z, h => by
    unfold fine at h
    rw [Bool.and_eq_true] at h
    exact h.2
  | .list ds, h => by
    unfold fine at h
    rw [Bool.and_eq_true] at h
    exact canLayAll_fine ds h.2
  | .tuple ds, h => by
    unfold fine at h
    rw [Bool.and_eq_true] at h
    exact canLayAll_fine ds h.2
  | .dict _, h => by cases h
theorem canLayAll_fine : ∀ (ds : List PyData), fineAll ds = true → PyData.canLayAll0 ds = true
  | [], _ => rfl
  | d :: r, h => by
    unfold fineAll at h
    rw [Bool.and_eq_true] at h
    show (PyData.canLay0 d && PyData.canLayAll0 r) = true
    rw [canLay_fine d h.1, canLayAll_fine r h.2]
    rfl
end
theorem shaped_fine {d : PyData} (h : fine d = true) (hd : PyData.depth d ≤ 64) : SeqAt.shaped d = true := by
  unfold SeqAt.shaped
  rw [canLay_fine d h, decide_eq_true hd]
  rfl
theorem since_step {Hd H' H3 H4 : Hp} {D b : Addr} (d : Dom Hd H') (hb : ∃ o, Hd b = some o) (hD : ∃ o, Hd D = some o) (k : Keep b H' H3) (h4 : ∀ q, q ≠ D → H4 q = H3 q) : Same (since Hd H') (since Hd H4) ∧ Same (since H' H3) (since Hd H4) := by
  have nn : ∀ {q : Addr} {p : Addr}, Hd q = none → (∃ o, Hd p = some o) → q ≠ p := fun {q p} h1 h2 e => by
    obtain ⟨o, h2⟩ := h2
    rw [e, h2] at h1
    cases h1
  refine ⟨fun q o h => ?_, fun q o h => ?_⟩
  · obtain ⟨h1, h2⟩ := since_some h
    refine since_of h1 ?_
    rw [h4 q (nn h1 hD)]
    exact k q o (nn h1 hb) h2
  · obtain ⟨h1, h2⟩ := since_some h
    have h0 := d.free h1
    refine since_of h0 ?_
    rw [h4 q (nn h0 hD)]
    exact h2
theorem Dom.upd {H : Hp} {p : Addr} {o : HO} : Dom H (L2.upd H p o) := fun q u h => by
  by_cases n : q = p
  · subst n
    exact ⟨o, upd_same⟩
  · exact ⟨u, by rw [upd_ne n]; exact h⟩
theorem Bag.has {H : Hp} {b : Addr} {n : Int} (h : Bag H b n) : ∃ o, H b = some o := by
  obtain ⟨x, y, z, e, _⟩ := h
  exact ⟨_, e⟩
theorem Bag.upd {b D : Addr} {H : Hp} {o : HO} {n : Int} (h : Bag H b n) (nb : b ≠ D) : Bag (L2.upd H D o) b n := by
  obtain ⟨x, y, z, e, r⟩ := h
  exact ⟨x, y, z, by rw [upd_ne nb]; exact e, r⟩

/-! ### words, names of classes, items, answers: what is said of a value -/
theorem up_in (c : Nat) : decide (c ∈ (Str.ofString "ABCDEFGHIJKLMNOPQRSTUVWXYZ").cps.toList) = isUp c := by
  have e : (Str.ofString "ABCDEFGHIJKLMNOPQRSTUVWXYZ").cps.toList = [65, 66, 67, 68, 69, 70, 71, 72, 73, 74, 75, 76, 77, 78, 79, 80, 81, 82, 83, 84, 85, 86, 87, 88, 89, 90] := by decide +kernel
  rw [e]
  unfold isUp
  refine decide_eq_decide.mpr ?_
  simp only [List.mem_cons, List.not_mem_nil, or_false]
  omega
theorem low_in (c : Nat) : decide (c ∈ (Str.ofString "abcdefghijklmnopqrstuvwxyz").cps.toList) = isLow c := by
  have e : (Str.ofString "abcdefghijklmnopqrstuvwxyz").cps.toList = [97, 98, 99, 100, 101, 102, 103, 104, 105, 106, 107, 108, 109, 110, 111, 112, 113, 114, 115, 116, 117, 118, 119, 120, 121, 122] := by decide +kernel
  rw [e]
  unfold isLow
  refine decide_eq_decide.mpr ?_
  simp only [List.mem_cons, List.not_mem_nil, or_false]
  omega
theorem lu_in (c : Nat) : decide (c ∈ (Str.ofString "abcdefghijklmnopqrstuvwxyz" ++ Str.ofString "ABCDEFGHIJKLMNOPQRSTUVWXYZ").cps.toList) = (isUp c || isLow c) := by
  have e : (Str.ofString "abcdefghijklmnopqrstuvwxyz" ++ Str.ofString "ABCDEFGHIJKLMNOPQRSTUVWXYZ").cps.toList = (Str.ofString "abcdefghijklmnopqrstuvwxyz").cps.toList ++ (Str.ofString "ABCDEFGHIJKLMNOPQRSTUVWXYZ").cps.toList := Array.toList_append
  rw [e, ← up_in, ← low_in, ← Bool.decide_or]
  refine decide_eq_decide.mpr ?_
  rw [List.mem_append, or_comm]
theorem ul_in (c : Nat) : decide (c ∈ (Str.ofString "ABCDEFGHIJKLMNOPQRSTUVWXYZ" ++ Str.ofString "abcdefghijklmnopqrstuvwxyz").cps.toList) = (isUp c || isLow c) := by
  have e : (Str.ofString "ABCDEFGHIJKLMNOPQRSTUVWXYZ" ++ Str.ofString "abcdefghijklmnopqrstuvwxyz").cps.toList = (Str.ofString "ABCDEFGHIJKLMNOPQRSTUVWXYZ").cps.toList ++ (Str.ofString "abcdefghijklmnopqrstuvwxyz").cps.toList := Array.toList_append
  rw [e, ← up_in, ← low_in, ← Bool.decide_or]
  refine decide_eq_decide.mpr ?_
  rw [List.mem_append]
def isIntD : PyData → Bool
  | .int _ => true
  | _ => false
def isWordZ (z : Str) (m : Nat) : Bool := decide (z.length ≤ m) && z.cps.toList.all isLow
def isWordD (m : Nat) : PyData → Bool
  | .str z => isWordZ z m
  | _ => false
def isItemD : PyData → Bool
  | .none => true
  | .int _ => true
  | .str z => isWordZ z 30
  | _ => false
def isClassL : List Nat → Bool
  | [] => false
  | c :: cs => decide (cs.length + 1 ≤ 12) && (isUp c && (c :: cs).all fun x => isUp x || isLow x)
theorem isClassL_cons (c : Nat) (cs : List Nat) : isClassL (c :: cs) = (decide (cs.length + 1 ≤ 12) && (isUp c && (c :: cs).all fun x => isUp x || isLow x)) := rfl
def isClassD : PyData → Bool
  | .str z => isClassL z.cps.toList
  | _ => false
def isRaisedD : List PyData → Bool
  | [w, k, c] => PyData.eqv w (.str (Str.ofString "raises")) && (isClassD k && (PyData.eqv c .none || isClassD c))
  | _ => false
def isRaisedT : PyData → Bool
  | .tuple ds => isRaisedD ds
  | _ => false
def isAnswerD : PyData → Bool
  | .list ds => ds.all isItemD
  | .tuple ds => isRaisedD ds
  | d => isItemD d
/-- a def that says yes or no of one value and leaves what was there -/
def sp_bool1 (K : PySem.W.Frag) (f : PyData → Bool) : Sp := fun vs H Q _ => ∃ (x : V) (d : PyData), vs = [x] ∧ Dp K H x d ∧ fine d = true ∧ PyData.depth d ≤ 60 ∧
  ∀ (r : Bool) (H' : Hp), r = f d → Same H H' → Q (.bl r) H'
/-- a text of at most a hundred thousand signs, or no text -/
def shortD : PyData → Bool
  | .str z => decide (z.length ≤ 100000)
  | _ => true
theorem short_fine {d : PyData} (h : fine d = true) : shortD d = true := by
  cases d with
  | str z =>
    unfold fine at h
    rw [Bool.and_eq_true] at h
    exact h.1
  | _ => rfl
def sp_word1 (K : PySem.W.Frag) : Sp := fun vs H Q _ => ∃ (x : V) (d : PyData) (m : Nat), vs = [x, .int m] ∧ Dp K H x d ∧ shortD d = true ∧
  ∀ (r : Bool) (H' : Hp), r = isWordD m d → Same H H' → Q (.bl r) H'
def sp_consists : Sp := fun vs H Q _ => ∃ (z cs : Str), vs = [.str z, .str cs] ∧ z.length ≤ 100000 ∧
  ∀ (r : Bool) (H' : Hp), r = (z.cps.toList.all fun c => decide (c ∈ cs.cps.toList)) → Same H H' → Q (.bl r) H'
theorem isItemD_eq (d : PyData) : isItemD d = (PyData.eqv d .none || (isIntD d || isWordD 30 d)) := by
  cases d <;> rfl
theorem non_eq {K : PySem.W.Frag} {H : Hp} {x : V} {d : PyData} (h : Dp K H x d) : decide (x = .non) = PyData.eqv d .none := by
  cases h <;> rfl
theorem fine_tup {ds : List PyData} (h : fine (.tuple ds) = true) : ds.length ≤ 1000 ∧ fineAll ds = true := by
  unfold fine at h
  rw [Bool.and_eq_true] at h
  exact ⟨of_decide_eq_true h.1, h.2⟩
theorem fine_lst {ds : List PyData} (h : fine (.list ds) = true) : ds.length ≤ 1000 ∧ fineAll ds = true := by
  unfold fine at h
  rw [Bool.and_eq_true] at h
  exact ⟨of_decide_eq_true h.1, h.2⟩
theorem depth_mem : ∀ {ds : List PyData} {d : PyData}, d ∈ ds → PyData.depth d ≤ PyData.depthAll ds
  | [], _, h => by cases h
  | e :: r, d, h => by
    show _ ≤ max (PyData.depth e) (PyData.depthAll r)
    rcases List.mem_cons.mp h with q | q
    · rw [q]
      omega
    · have := depth_mem q
      omega
theorem iteNT {c A B : Prop} [Decidable c] (hc : ¬ c) (h : A) : if (!decide c) = true then A else B := by
  rw [decide_eq_false hc]
  exact iteT h
theorem ifF {A B : Prop} {b : Bool} (e : b = false) (h : B) : if b = true then A else B := by
  rw [e]
  exact iteF h
theorem ifT {A B : Prop} {b : Bool} (e : b = true) (h : A) : if b = true then A else B := by
  rw [e]
  exact iteT h
theorem isAnswerD_eq {d : PyData} (h : ¬ ∃ ds, d = .list ds) : isAnswerD d = (isItemD d || isRaisedT d) := by
  cases d with
  | list ds => exact absurd ⟨ds, rfl⟩ h
  | tuple ds => rfl
  | none => rfl
  | bool b => rfl
  | int i => rfl
  | str z => show isWordZ z 30 = (isWordZ z 30 || false); rw [Bool.or_false]
  | dict k => rfl
theorem cut_up (c : Nat) : decide (c ∈ (cutS (Str.ofString "ABCDEFGHIJKLMNOPQRSTUVWXYZ" ++ Str.ofString "abcdefghijklmnopqrstuvwxyz") none (some 26)).cps.toList) = isUp c := by
  rw [show cutS (Str.ofString "ABCDEFGHIJKLMNOPQRSTUVWXYZ" ++ Str.ofString "abcdefghijklmnopqrstuvwxyz") none (some 26) = Str.ofString "ABCDEFGHIJKLMNOPQRSTUVWXYZ" by decide +kernel]
  exact up_in c

/-! ### texts cut and joined -/
theorem len_list (x : Str) : x.cps.toList.length = x.length := Array.length_toList
theorem at_iff2 {x y : Str} {k : Nat} : StrLaws.At x y x.length k ↔ k + y.length ≤ x.length ∧ (x.cps.toList.drop k).take y.length = y.cps.toList := by
  unfold StrLaws.At
  rw [StrLaws.subAt_eq]
  constructor
  · rintro ⟨h1, h2⟩
    exact ⟨h1, eq_of_beq h2⟩
  · rintro ⟨h1, h2⟩
    exact ⟨h1, by rw [h2]; exact beq_self_eq_true _⟩
/-- the separator ", " stands at k -/
def Sep2 : Str := Str.ofString ", "
theorem sep2_list : Sep2.cps.toList = [44, 32] := by decide +kernel
theorem sep2_len : Sep2.length = 2 := by decide +kernel
theorem take_two {l : List Nat} {a b : Nat} (h : l.take 2 = [a, b]) : ∃ r, l = a :: b :: r := by
  match l, h with
  | [], h => cases h
  | [_], h => cases h
  | x :: y :: r, h =>
    have e1 : x = a := by injection h
    have e2 : y = b := by injection h with _ h; injection h
    exact ⟨r, by rw [e1, e2]⟩
theorem at_sep {x : Str} {k : Nat} (h : StrLaws.At x Sep2 x.length k) : ∃ r, x.cps.toList.drop k = 44 :: 32 :: r := by
  obtain ⟨_, h2⟩ := at_iff2.mp h
  rw [sep2_len, sep2_list] at h2
  exact take_two h2
theorem sep_at {x : Str} {k : Nat} {r : List Nat} (h : x.cps.toList.drop k = 44 :: 32 :: r) : StrLaws.At x Sep2 x.length k := by
  refine at_iff2.mpr ⟨?_, ?_⟩
  · have := congrArg List.length h
    rw [List.length_drop, len_list, List.length_cons, List.length_cons] at this
    rw [sep2_len]
    omega
  · rw [h, sep2_len, sep2_list]
    rfl
theorem drop_get {l p t : List Nat} {a k : Nat} (h : l.drop a = p ++ t) (hk : a ≤ k) (hk2 : k < a + p.length) {c : Nat} {r : List Nat} (hc : l.drop k = c :: r) : c ∈ p := by
  have e : l.drop k = (l.drop a).drop (k - a) := by rw [List.drop_drop]; congr 1; omega
  rw [e, h, List.drop_append_of_le_length (by omega)] at hc
  have : p.drop (k - a) ≠ [] := by
    intro h0
    have := congrArg List.length h0
    rw [List.length_drop, List.length_nil] at this
    omega
  cases hd : p.drop (k - a) with
  | nil => exact absurd hd this
  | cons d q =>
    rw [hd] at hc
    have : d = c := by injection hc
    rw [← this]
    exact List.mem_of_mem_drop (hd ▸ List.mem_cons_self)
/-- the cuts of a joined text are where it was joined -/
theorem cuts_joined (x : Str) : ∀ (ps : List (List Nat)) (p : List Nat) (a : Nat) (cuts : List Nat) (f : Nat), (∀ q ∈ p :: ps, 44 ∉ q) → x.cps.toList.drop a = joinL [44, 32] (p :: ps) → a ≤ x.length →
    StrLaws.ChainG x Sep2 x.length a cuts f → (∀ k, f ≤ k → ¬ StrLaws.At x Sep2 x.length k) → (StrLaws.partsFrom x 2 a cuts).map (fun y => y.cps.toList) = p :: ps
  | [], p, a, cuts, f, hp, hd, ha, hc, hf => by
    have hd : x.cps.toList.drop a = p := hd
    cases cuts with
    | nil =>
      show [(PySem.Builtin.Str.strSub x a x.length).cps.toList] = [p]
      rw [StrLaws.strSub_toList, hd, List.take_of_length_le]
      rw [← hd, List.length_drop, len_list]
      exact Nat.le_refl _
    | cons c r =>
      exfalso
      obtain ⟨h1, h2, _⟩ := hc
      obtain ⟨t, ht⟩ := at_sep h2
      have hl : c < a + p.length := by
        have e1 := congrArg List.length ht
        have e2 := congrArg List.length hd
        rw [List.length_drop, List.length_cons] at e1
        rw [List.length_drop] at e2
        omega
      exact hp p List.mem_cons_self (drop_get (t := []) (by rw [List.append_nil]; exact hd) h1 hl ht)
  | p2 :: ps, p, a, cuts, f, hp, hd, ha, hc, hf => by
    have hd : x.cps.toList.drop a = p ++ [44, 32] ++ joinL [44, 32] (p2 :: ps) := hd
    have hd2 : x.cps.toList.drop (a + p.length) = 44 :: 32 :: joinL [44, 32] (p2 :: ps) := by
      rw [← List.drop_drop, hd, List.append_assoc, List.drop_left]
      rfl
    have hat := sep_at hd2
    cases cuts with
    | nil =>
      have : f = a := hc
      subst this
      exact absurd hat (hf _ (by omega))
    | cons c r =>
      obtain ⟨h1, h2, h3, h4⟩ := hc
      have hcc : c = a + p.length := by
        rcases Nat.lt_trichotomy c (a + p.length) with h | h | h
        · obtain ⟨t, ht⟩ := at_sep h2
          exact absurd (drop_get (t := [44, 32] ++ joinL [44, 32] (p2 :: ps)) (by rw [← List.append_assoc]; exact hd) h1 h ht) (hp p List.mem_cons_self)
        · exact h
        · exact absurd hat (h3 _ (by omega) h)
      subst hcc
      show (PySem.Builtin.Str.strSub x a (a + p.length)).cps.toList :: (StrLaws.partsFrom x 2 (a + p.length + 2) r).map (fun y => y.cps.toList) = _
      have hlen : a + p.length + 2 ≤ x.length := by
        have := (at_iff2.mp hat).1
        rw [sep2_len] at this
        exact this
      rw [cuts_joined x ps p2 (a + p.length + 2) r f (fun q hq => hp q (List.mem_cons_of_mem _ hq)) ?_ hlen (by rw [← sep2_len]; exact h4) hf]
      · rw [StrLaws.strSub_toList, hd, Nat.add_sub_cancel_left, List.append_assoc, List.take_left]
      · rw [← List.drop_drop, hd2]
        rfl
theorem strKind_sep : PySem.Builtin.Str.strKind Sep2 = 1 := by decide +kernel
theorem strKind_pos (x : Str) : 1 ≤ PySem.Builtin.Str.strKind x := by
  unfold PySem.Builtin.Str.strKind
  split
  · exact Nat.le_refl _
  · split <;> decide
/-- a joined text is split into what it was joined of -/
theorem split_joined {x : Str} {p : List Nat} {ps : List (List Nat)} (hx : x.cps.toList = joinL [44, 32] (p :: ps)) (hp : ∀ q ∈ p :: ps, 44 ∉ q) : (Txt.split x Sep2).map (fun y => y.cps.toList) = p :: ps := by
  obtain ⟨f, h1, h2⟩ := StrLaws.occ_tight x Sep2 (by rw [sep2_len]; decide)
  have key := cuts_joined x ps p 0 _ f hp hx (Nat.zero_le _) h1 h2
  unfold Txt.split
  split
  · rename_i hc
    rw [strKind_sep, sep2_len, decide_eq_false (show ¬ PySem.Builtin.Str.strKind x < 1 by have := strKind_pos x; omega), Bool.or_false] at hc
    have hl := of_decide_eq_true hc
    cases ps with
    | nil =>
      show [x.cps.toList] = [p]
      rw [hx]
      rfl
    | cons p2 ps =>
      exfalso
      have := congrArg List.length hx
      rw [len_list] at this
      have e : (joinL [44, 32] (p :: p2 :: ps)).length = p.length + 2 + (joinL [44, 32] (p2 :: ps)).length := by
        show (p ++ [44, 32] ++ joinL [44, 32] (p2 :: ps)).length = _
        rw [List.length_append, List.length_append]
        rfl
      omega
  · split
    · rename_i h0
      have h0 := List.isEmpty_iff.mp h0
      rw [h0] at key
      have e : (PySem.Builtin.Str.strSub x 0 x.length).cps.toList = x.cps.toList := by
        rw [StrLaws.strSub_toList, List.drop_zero, List.take_of_length_le]
        rw [len_list]
        exact Nat.le_refl _
      show [x.cps.toList] = _
      rw [← key, ← e]
      rfl
    · rw [StrLaws.partsBetween_eq, sep2_len]
      exact key
theorem str_ext {a b : Str} (h : a.cps.toList = b.cps.toList) : a = b := by
  obtain ⟨a⟩ := a
  obtain ⟨b⟩ := b
  have : a = b := Array.toList_inj.mp h
  rw [this]
/-- a name, an opening bracket and a rest, parted at the bracket -/
theorem partition_at {x : Str} {n r : List Nat} (hx : x.cps.toList = n ++ 40 :: r) (hn : 40 ∉ n) : Txt.partition x (Str.ofString "(") = (⟨n.toArray⟩, Str.ofString "(", ⟨r.toArray⟩) := by
  have hb : (Str.ofString "(").cps.toList = [40] := by decide +kernel
  have hbl : (Str.ofString "(").length = 1 := by decide +kernel
  have hxl : x.length = n.length + (r.length + 1) := by rw [← len_list, hx, List.length_append, List.length_cons]
  have hat : StrLaws.At x (Str.ofString "(") x.length n.length := by
    refine at_iff2.mpr ⟨by rw [hbl]; omega, ?_⟩
    rw [hx, List.drop_left, hbl, hb]
    rfl
  unfold Txt.partition
  rcases StrLaws.occ_head x (Str.ofString "(") 1 (Nat.le_refl 1) with ⟨h0, hn0⟩ | ⟨i, q, h0, hi, hm⟩
  · exact absurd hat (hn0 _)
  · have hin : i = n.length := by
      rcases Nat.lt_trichotomy i n.length with h | h | h
      · obtain ⟨_, h2⟩ := at_iff2.mp hi
        rw [hbl, hb] at h2
        exfalso
        cases hd : x.cps.toList.drop i with
        | nil => rw [hd] at h2; cases h2
        | cons c t =>
          rw [hd] at h2
          have : c = 40 := by injection h2
          subst this
          exact hn (drop_get (a := 0) (p := n) (t := 40 :: r) (by rw [List.drop_zero]; exact hx) (Nat.zero_le _) (by omega) hd)
      · exact h
      · exact absurd hat (hm _ h)
    rw [h0]
    subst hin
    refine Prod.ext (str_ext ?_) (Prod.ext rfl (str_ext ?_))
    · show (PySem.Builtin.Str.strSub x 0 n.length).cps.toList = n
      rw [StrLaws.strSub_toList, hx, List.drop_zero, Nat.sub_zero, List.take_left]
    · show (PySem.Builtin.Str.strSub x (n.length + (Str.ofString "(").length) x.length).cps.toList = r
      rw [StrLaws.strSub_toList, hx, hbl, ← List.drop_drop, List.drop_left, List.take_of_length_le]
      · rfl
      · show r.length ≤ _
        omega

/-! ### numbers as texts -/
def D10 (m : Nat) : List Nat := (Nat.toDigits 10 m).map Char.toNat
theorem digit_pos : ∀ d : Nat, d < 10 → 0 < d → 49 ≤ (Nat.digitChar d).toNat ∧ (Nat.digitChar d).toNat ≤ 57 := by decide
theorem D10_head : ∀ n : Nat, 0 < n → ∃ c r, D10 n = c :: r ∧ 49 ≤ c ∧ c ≤ 57 := by
  intro n
  induction n using Nat.strongRecOn with
  | _ n ih =>
    intro h0
    by_cases h : n < 10
    · refine ⟨_, [], by unfold D10; rw [Nat.toDigits_of_lt_base h]; rfl, (digit_pos n h h0).1, (digit_pos n h h0).2⟩
    · have t : Nat.toDigits 10 (n / 10) ++ Nat.toDigits 10 (n % 10) = Nat.toDigits 10 (10 * (n / 10) + n % 10) := Nat.toDigits_append_toDigits (by decide) (by omega) (Nat.mod_lt n (by decide))
      rw [Nat.div_add_mod] at t
      obtain ⟨c, r, e, h1, h2⟩ := ih (n / 10) (by omega) (by omega)
      refine ⟨c, r ++ (Nat.toDigits 10 (n % 10)).map Char.toNat, ?_, h1, h2⟩
      unfold D10 at e ⊢
      rw [← t, List.map_append, e]
      rfl
theorem D10_zero : D10 0 = [48] := by decide
def isDig (c : Nat) : Bool := decide (48 ≤ c ∧ c ≤ 57)
theorem D10_digs (m : Nat) : (D10 m).all isDig = true := by
  refine List.all_eq_true.mpr fun x hx => ?_
  obtain ⟨ch, hc, e⟩ := List.mem_map.mp hx
  have h1 : ch.isDigit = true := Nat.isDigit_of_mem_toDigits (by decide) (by decide) hc
  have := PyProof.Rows.digit_range h1
  exact decide_eq_true (by omega)
theorem D10_len {m : Nat} (h : m < 10 ^ 30) : (D10 m).length ≤ 30 := by
  unfold D10
  rw [List.length_map]
  exact (Nat.length_toDigits_le_iff (by decide) (by decide)).mpr h
theorem num_list (i : Int) : (Str.ofString (toString i)).cps.toList = if 0 ≤ i then D10 i.natAbs else 45 :: D10 i.natAbs := by
  rw [signs_ofString]
  cases i with
  | ofNat m =>
    rw [if_pos (show (0 : Int) ≤ Int.ofNat m from Int.natCast_nonneg m)]
    show (Nat.repr m).toList.map Char.toNat = D10 m
    rw [Nat.toList_repr]
    rfl
  | negSucc m =>
    rw [if_neg (show ¬ (0 : Int) ≤ Int.negSucc m by omega)]
    show ("-" ++ Nat.repr (m + 1)).toList.map Char.toNat = 45 :: D10 (m + 1)
    rw [String.toList_append, List.map_append, Nat.toList_repr]
    rfl
/-- what stands behind a sign -/
def digitsOf : List Nat → List Nat
  | [] => []
  | c :: r => if c = 45 then r else c :: r
def isNumD (l : List Nat) : List Nat → Bool
  | [] => false
  | c :: r => decide (r.length + 1 ≤ 30) && ((c :: r).all isDig && (decide (l = [48]) || !decide (c = 48)))
/-- a number, as a list of codes -/
def isNumL (l : List Nat) : Bool := isNumD l (digitsOf l)
theorem isNumL_num {i : Int} (h : IsNum i) : isNumL (Str.ofString (toString i)).cps.toList = true := by
  have hn : i.natAbs < 10 ^ 30 := by
    have e : (10 : Nat) ^ 30 = 1000000000000000000000000000000 := by decide +kernel
    rw [e]
    obtain ⟨h1, h2⟩ := h
    omega
  have hl := D10_len hn
  have hd := D10_digs i.natAbs
  rw [num_list]
  by_cases h0 : i = 0
  · subst h0
    decide +kernel
  · obtain ⟨c, r, e, c1, c2⟩ := D10_head i.natAbs (by omega)
    rw [e] at hl hd
    rw [List.length_cons] at hl
    have key : ∀ l, isNumD l (c :: r) = true := fun l => by
      show (decide (r.length + 1 ≤ 30) && ((c :: r).all isDig && (decide (l = [48]) || !decide (c = 48)))) = true
      rw [decide_eq_true hl, hd, decide_eq_false (show ¬ c = 48 by omega)]
      simp
    by_cases hi : 0 ≤ i
    · rw [if_pos hi, e]
      show isNumD _ (if c = 45 then r else c :: r) = true
      rw [if_neg (by omega)]
      exact key _
    · rw [if_neg hi, e]
      show isNumD _ (if (45 : Nat) = 45 then c :: r else 45 :: c :: r) = true
      rw [if_pos rfl]
      exact key _
theorem num_len {i : Int} (h : IsNum i) : (Str.ofString (toString i)).length ≤ 31 := by
  have hn : i.natAbs < 10 ^ 30 := by
    have e : (10 : Nat) ^ 30 = 1000000000000000000000000000000 := by decide +kernel
    rw [e]
    obtain ⟨h1, h2⟩ := h
    omega
  have hl := D10_len hn
  rw [← len_list, num_list]
  split
  · omega
  · rw [List.length_cons]
    omega
theorem num_free {i : Int} {k : Nat} (hk : k ≠ 45 ∧ (k < 48 ∨ 57 < k)) : k ∉ (Str.ofString (toString i)).cps.toList := PyProof.Rows.int_text_free' k hk i
/-- a string in its quotes, as a list of codes: its inside at most 8 small letters -/
def isStrL (l : List Nat) : Bool := match l with
  | [] => false
  | c :: r => decide (c = 34) && (decide (r.getLast? = some 34) && (decide (r.length - 1 ≤ 8) && r.dropLast.all isLow))
theorem isStrL_word {z : List Nat} (h1 : z.length ≤ 8) (h2 : z.all isLow = true) : isStrL (34 :: (z ++ [34])) = true := by
  show (decide (34 = 34) && (decide ((z ++ [34]).getLast? = some 34) && (decide ((z ++ [34]).length - 1 ≤ 8) && (z ++ [34]).dropLast.all isLow))) = true
  rw [List.dropLast_concat, h2, List.length_append, List.getLast?_append]
  simp
  omega
def isConstL (l : List Nat) : Bool := decide (l = [110, 111, 110, 101]) || (isNumL l || isStrL l)

/-! ### a call by keywords alone -/
theorem pe_callN0 {X : Cx} {CX : CXT} {k : Nat} {f : Addr} {fd : FuncData} {ps ks : List Str} {sp : Sp} {E : XK} {x : Str} {p pos : Pos} {kws : List Keyword} {tk : TA} {g : List Value → List Value → List Value} {gV : List V → List V → List V}
    (F : FnOk X.prog X.w X.K X.mg X.base CX k f fd ps sp) (hr : Room k X.A) (hg : Gl X x) (hm : X.mg x = some (.ref f)) (hk : PySem.W.keepIn X.K (.ref f) = true) (hb : KBn X.K fd ps 0 ks g gV) (hx : Passes CX X E)
    (hkw : PK X kws tk) (hall : (backToKw pos (keywordEach kws X.env)).all (·.1.isSome) = true := by rfl) (hks : (backToKw pos (keywordEach kws X.env)).filterMap (·.1) = ks := by rfl)
    (hdb : (x == ("__debug__" : Str)) = false := by decide)
    (hpl : ((backTo pos (starEach [] X.env)).any (·.1) || (backToKw pos (keywordEach kws X.env)).any (·.1.isNone)) = false := by rfl) :
    PE X (.Call (.Name x p) [] kws pos) (tCallN 0 ks.length sp gV E tNil tk) := by
  refine ⟨fun pins s σ H Q I h => ?_⟩
  refine wpAny_Call_Name_kw (ld_glob I hg hm ?_ hdb)
  refine PySem.W.callWith_KW0 (h₀ := X.base) I.ok.mod.kin hk hall (thn (hkw.run pos pins s σ H _ I h) fun ws s2 ⟨zs, H2, I2, rz, l1, l2, q2⟩ => ⟨I2.kIn, ?_⟩) hpl
  rw [hks]
  exact run_fnN F hr hb hx I2 .nil rz l1 l2 q2

section
variable {P : Program} {w : World} {K : PySem.W.Frag} {mg : Str → Option Value} {base : Heap}
theorem ok_consists_of (T : Txt K mg) : FnOk P w K mg base CX0 1 T.f_consists_of T.fd_consists_of ["text", "characters"] sp_consists := by
  refine T.F_consists_of.ok sc_consists_of (fun vs H Q E h => ?_) (fun cdv A outer s H vs Q E hr h => ?_)
  · obtain ⟨x, y, rfl, _⟩ := h
    rfl
  · obtain ⟨z, cs, rfl, hz, q⟩ := h
    refine ⟨_, (pss_one (ps_ret (pe_callB (cr_all rfl) (by rfl) T.m_all (by decide +kernel) (pa_cons (pe_lc (own := [("character", 2)]) (g := gName 2) rfl sc_consists_of.nd (pi_str (pv 0)) (blkOk_by (own := [("character", 2)]) (N := ["text", "characters", "character"]) (sc := defScope s_consists_of) (by decide +kernel)) (fun _ _ _ _ _ => pg_name (i := 2) sc_consists_of.nd rfl (.inl rfl)) (fun _ _ _ _ _ => pts_nil) (fun _ _ _ _ _ => (pe_cmpR op_in_sign (pv 2) (pv 1) (by rfl)))) pa_nil)))), ?_⟩
    repeat (walk_at "lw w")
    intro D nD
    refine lc_it (walk_str (z := z)) (fun i H' => H' D = some (.lst ((z.cps.toList.take i).map fun c => V.bl (decide (c ∈ cs.cps.toList)))) ∧ Same H H') ?_ ?_ ?_ ?_
    · exact ⟨upd_same, same_new nD⟩
    · intro i H' _ _
      trivial
    · rintro i x H1 H' hi ⟨eD, S⟩ ⟨rfl, c, hc, rfl⟩
      refine ⟨rfl, ?_⟩
      repeat (walk_at "lw w")
      refine ⟨_, eD, ?_, ?_, ?_⟩
      · rw [List.length_map, List.length_take]
        exact small5 (Nat.le_trans (Nat.min_le_right _ _) (by rw [Array.length_toList]; exact hz))
      · have hc' : z.cps.toList[i]? = some c := by rw [Array.getElem?_toList]; exact hc
        rw [upd_same, List.take_add_one, hc', List.map_append]
        rfl
      · intro q' o e
        rw [upd_ne (ne_of_none e nD)]
        exact S _ _ e
    · rintro H' ⟨eD, S⟩
      have el : z.cps.toList.take z.cps.size = z.cps.toList := List.take_of_length_le (by rw [Array.length_toList]; exact Nat.le_refl _)
      rw [el] at eD
      refine ⟨D, z.cps.toList.map fun c => decide (c ∈ cs.cps.toList), rfl, ?_, ?_⟩
      · rw [List.map_map]
        exact SqL.of eD
      · exact q _ H' (by rw [List.all_map]; rfl) S
end

section
variable {P : Program} {w : World} {K : PySem.W.Frag} {mg : Str → Option Value} {base : Heap}
theorem ok_is_small_word (T : Txt K mg) : FnOk P w K mg base CX0 2 T.f_is_small_word T.fd_is_small_word ["thing", "most"] (sp_word1 K) := by
  have G_consists_of := ok_consists_of (P := P) (w := w) (base := base) T
  refine T.F_is_small_word.ok sc_is_small_word (fun vs H Q E h => ?_) (fun cdv A outer s H vs Q E hr h => ?_)
  · obtain ⟨x, d, m, rfl, _⟩ := h
    rfl
  · obtain ⟨x, d, m, rfl, hd, hf, q⟩ := h
    refine ⟨_, (pss_one (ps_ret (pe_and (pe_callB call_isi (by rfl) T.m_isinstance (by decide +kernel) (pa_cons (pv 0) (pa_cons (pe_bltn (v := .ty "str") (by rfl) T.m_str (by decide +kernel) rfl) pa_nil))) (pe_and (pe_cmpR op_le (pe_callB call_len (by rfl) T.m_len (by decide +kernel) (pa_cons (pv 0) pa_nil)) (pv 1) (nomark _)) (pe_one (pe_call G_consists_of hr (by rfl) T.g_consists_of T.F_consists_of.kp T.b_consists_of .nil pass0 (pa_cons (pv 0) (pa_cons (pe_glob (v := .str "abcdefghijklmnopqrstuvwxyz") rfl T.c_SMALL_LETTERS.choose_spec ⟨_, rfl⟩) pa_nil)))))))), ?_⟩
    cases hd
    case str z =>
      have hz : z.length ≤ 100000 := of_decide_eq_true hf
      repeat (walk_at "lw w")
      refine ite2 (fun e => ?_) (fun e => ?_)
      · repeat (walk_at "lw w")
        refine ⟨hz, fun r H' er S => q r H' ?_ S⟩
        rw [er]
        have e1 : ((z.length : Nat) : Int) ≤ (m : Int) := of_decide_eq_true e
        show _ = (decide (z.length ≤ m) && z.cps.toList.all isLow)
        rw [decide_eq_true (show z.length ≤ m by omega), Bool.true_and]
        congr 1
        funext c
        exact low_in c
      · refine q _ _ ?_ (Same.refl _)
        have e1 : ¬ ((z.length : Nat) : Int) ≤ (m : Int) := fun h => e (decide_eq_true h)
        show _ = (decide (z.length ≤ m) && z.cps.toList.all isLow)
        rw [decide_eq_false (show ¬ z.length ≤ m by omega)]
        rfl
    all_goals (repeat (walk_at "lw w")) <;> exact q _ _ rfl (Same.refl _)
end

/-! ### parts of a text -/
theorem starts_minus (z : Str) : Txt.startswith z (Str.ofString "-") = decide (z.cps.toList.head? = some 45) := by
  unfold Txt.startswith
  rw [StrLaws.subAt_eq, show (Str.ofString "-").cps.toList = [45] by decide +kernel, show (Str.ofString "-").length = 1 by decide +kernel, ← len_list]
  cases h : z.cps.toList with
  | nil => rfl
  | cons c r =>
    rw [decide_eq_true (show 0 + 1 ≤ (c :: r).length by rw [List.length_cons]; omega), Bool.true_and]
    show ([c] == [45]) = decide (some c = some 45)
    by_cases e : c = 45
    · rw [e]; rfl
    · rw [decide_eq_false (by simpa using e), beq_false_of_ne (by simpa using e)]
theorem ends_paren (z : Str) : Txt.endswith z (Str.ofString ")") = decide (z.cps.toList.getLast? = some 41) := by
  unfold Txt.endswith
  rw [StrLaws.subAt_eq, show (Str.ofString ")").cps.toList = [41] by decide +kernel, show (Str.ofString ")").length = 1 by decide +kernel, ← len_list]
  rcases List.eq_nil_or_concat z.cps.toList with h | ⟨l, c, h⟩
  · rw [h]; rfl
  · rw [h, List.concat_eq_append]
    have hl : (l ++ [c]).length - 1 = l.length := by rw [List.length_append]; rfl
    rw [hl, List.drop_left, List.getLast?_append, decide_eq_true (show 0 + 1 ≤ (l ++ [c]).length by rw [List.length_append, List.length_singleton]; omega), Bool.true_and]
    show ([c] == [41]) = decide (some c = some 41)
    by_cases e : c = 41
    · rw [e]; rfl
    · rw [decide_eq_false (by simpa using e), beq_false_of_ne (by simpa using e)]
theorem cut_first (z : Str) : (cutS z (some 1) none).cps.toList = z.cps.toList.drop 1 := by
  show ((z.cps.toList.drop (HT.sIx z.length 0 (some ((1 : Nat) : Int)))).take (HT.sIx z.length z.length none - HT.sIx z.length 0 (some ((1 : Nat) : Int)))) = _
  rw [HT.sIx_nat, HT.sIx_none, ← len_list]
  cases z.cps.toList with
  | nil => rfl
  | cons c r =>
    have e : min 1 (c :: r).length = 1 := by rw [List.length_cons]; omega
    rw [e, List.take_of_length_le]
    rw [List.length_drop]
    exact Nat.le_refl _
theorem sIx_m1 (n : Nat) : HT.sIx n n (some (-1)) = n - 1 := by
  show (if (-1 : Int) < 0 then ((-1 : Int) + (n : Int)).toNat else min (-1 : Int).toNat n) = n - 1
  rw [if_pos (by decide)]
  omega
theorem cut_init (z : Str) : (cutS z none (some (-1))).cps.toList = z.cps.toList.dropLast := by
  show ((z.cps.toList.drop (HT.sIx z.length 0 none)).take (HT.sIx z.length z.length (some (-1)) - HT.sIx z.length 0 none)) = _
  rw [HT.sIx_none, sIx_m1, List.drop_zero, Nat.sub_zero, ← len_list, List.dropLast_eq_take]
theorem cut_inner (z : Str) : (cutS z (some 1) (some (-1))).cps.toList = (z.cps.toList.drop 1).dropLast := by
  show ((z.cps.toList.drop (HT.sIx z.length 0 (some ((1 : Nat) : Int)))).take (HT.sIx z.length z.length (some (-1)) - HT.sIx z.length 0 (some ((1 : Nat) : Int)))) = _
  rw [HT.sIx_nat, sIx_m1, ← len_list]
  cases z.cps.toList with
  | nil => rfl
  | cons c r =>
    have e : min 1 (c :: r).length = 1 := by rw [List.length_cons]; omega
    rw [e, List.dropLast_eq_take]
    rfl
theorem cut_short (z : Str) (a b : Option Int) : (cutS z a b).length ≤ z.length := by
  rw [← len_list, ← len_list]
  show ((z.cps.toList.drop _).take _).length ≤ _
  rw [List.length_take, List.length_drop]
  omega
theorem dig_in (c : Nat) : decide (c ∈ (Str.ofString "0123456789").cps.toList) = isDig c := by
  have e : (Str.ofString "0123456789").cps.toList = [48, 49, 50, 51, 52, 53, 54, 55, 56, 57] := by decide +kernel
  rw [e]
  unfold isDig
  refine decide_eq_decide.mpr ?_
  simp only [List.mem_cons, List.not_mem_nil, or_false]
  omega
theorem split_part {x y a : Str} (h : a ∈ Txt.split x y) (hy : 1 ≤ y.length) : a.length ≤ x.length := by
  have h1 := PyProof.Rows.split_weight x y hy
  have h2 : ∀ {l : List Str} {a : Str}, a ∈ l → a.length + 1 ≤ (l.map (·.length)).sum + l.length := by
    intro l
    induction l with
    | nil => intro a h; cases h
    | cons b r ih =>
      intro a h
      rw [List.map_cons, List.sum_cons, List.length_cons]
      rcases List.mem_cons.mp h with e | e
      · rw [e]; omega
      · have := ih e
        omega
  have := h2 h
  omega
def isNameZ (z : Str) : Bool := isWordZ z 12 && (!decide (z = Str.ofString "") && !inV (.str z) vals_KEYWORDS)
def partsOf (z : Str) : List Str := if z = Str.ofString "" then [] else Txt.split z (Str.ofString ", ")
def isCallP (p : Str × Str × Str) : Bool := (!decide (p.2.1 = Str.ofString "") && isNameZ p.1) && (decide ((partsOf p.2.2).length ≤ 3) && (partsOf p.2.2).all fun c => isConstL c.cps.toList)
def isCallZ (z : Str) : Bool := decide (z.cps.toList.getLast? = some 41) && isCallP (Txt.partition (cutS z none (some (-1))) (Str.ofString "("))
def isCallD : PyData → Bool
  | .str z => isCallZ z
  | _ => false
def sp_str1 (f : Str → Bool) : Sp := fun vs H Q _ => ∃ z : Str, vs = [.str z] ∧ z.length ≤ 100000 ∧ ∀ (r : Bool) (H' : Hp), r = f z → Same H H' → Q (.bl r) H'
def sp_any1 (K : PySem.W.Frag) (f : PyData → Bool) : Sp := fun vs H Q _ => ∃ (x : V) (d : PyData), vs = [x] ∧ Dp K H x d ∧ shortD d = true ∧
  ∀ (r : Bool) (H' : Hp), r = f d → Same H H' → Q (.bl r) H'
theorem vals_strs : ∀ y ∈ vals_KEYWORDS, ∃ k, y = .str k := by
  intro y hy
  simp only [vals_KEYWORDS, List.mem_cons, List.not_mem_nil, or_false] at hy
  rcases hy with rfl | rfl | rfl | rfl | rfl | rfl | rfl | rfl | rfl | rfl | rfl | rfl | rfl | rfl | rfl | rfl | rfl | rfl | rfl | rfl | rfl | rfl | rfl | rfl | rfl | rfl | rfl | rfl | rfl | rfl | rfl | rfl | rfl | rfl <;> exact ⟨_, rfl⟩
def isPathD (ag : Bool) : PyData → Bool
  | .tuple ds => !decide (ds.length = 0) && ((ag || decide (ds.length = 1)) && ds.all isCallD)
  | _ => false
def pathOk : PyData → Prop
  | .tuple ds => ds.length ≤ 1000 ∧ ∀ e ∈ ds, shortD e = true
  | _ => True
def sp_path (K : PySem.W.Frag) : Sp := fun vs H Q _ => ∃ (x : V) (ag : Bool) (d : PyData), vs = [x, .bl ag] ∧ Dp K H x d ∧ pathOk d ∧
  ∀ (r : Bool) (H' : Hp), r = isPathD ag d → Same H H' → Q (.bl r) H'

section
variable {P : Program} {w : World} {K : PySem.W.Frag} {mg : Str → Option Value} {base : Heap}
theorem ok_is_name (T : Txt K mg) : FnOk P w K mg base CX0 3 T.f_is_name T.fd_is_name ["thing"] (sp_str1 isNameZ) := by
  have G_is_small_word := ok_is_small_word (P := P) (w := w) (base := base) T
  refine T.F_is_name.ok sc_is_name (fun vs H Q E h => ?_) (fun cdv A outer s H vs Q E hr h => ?_)
  · obtain ⟨z, rfl, _⟩ := h
    rfl
  · obtain ⟨z, rfl, hz, q⟩ := h
    refine ⟨_, (pss_one (ps_ret (pe_and (pe_call G_is_small_word hr (by rfl) T.g_is_small_word T.F_is_small_word.kp T.b_is_small_word .nil pass0 (pa_cons (pv 0) (pa_cons (pe_glob (v := .int 12) rfl T.c_MOST_NAME_LETTERS.choose_spec ⟨_, rfl⟩) pa_nil))) (pe_and (pe_cmpR op_ne (pv 0) pe_str (nomark _)) (pe_one (pe_cmpR op_notIn_seq (pv 0) (pe_glob (v := .ref T.a_KEYWORDS) rfl T.c_KEYWORDS rfl) (by rfl))))))), ?_⟩
    repeat (walk_at "lw w")
    refine ⟨_, .str z, 12, rfl, .str z, decide_eq_true hz, fun r1 H1 e1 S1 => ?_⟩
    have e1 : r1 = isWordZ z 12 := e1
    repeat (walk_at "lw w")
    refine ite2 (fun h1 => ?_) (fun h1 => ?_)
    · repeat (walk_at "lw w")
      by_cases h2 : z = Str.ofString ""
      · refine ifF (by rw [decide_eq_true (congrArg V.str h2)]; rfl) ?_
        refine q _ _ ?_ S1
        unfold isNameZ
        rw [← e1, h1, decide_eq_true h2]
        rfl
      · refine ifT (by rw [decide_eq_false (fun h => h2 (V.str.inj h))]; rfl) ?_
        repeat (walk_at "lw w")
        refine ⟨_, vals_KEYWORDS, rfl, .inr (T.q_KEYWORDS _), rfl, ?_, ?_⟩
        · refine List.all_eq_true.mpr fun y hy => ?_
          obtain ⟨k, rfl⟩ := vals_strs y hy
          rfl
        · refine q _ _ ?_ S1
          unfold isNameZ
          rw [← e1, h1, decide_eq_false h2]
          rfl
    · refine q _ _ ?_ S1
      unfold isNameZ
      rw [← e1, show r1 = false by simpa using h1]
      rfl
theorem ok_is_number_text (T : Txt K mg) : FnOk P w K mg base CX0 2 T.f_is_number_text T.fd_is_number_text ["text"] (sp_str1 fun z => isNumL z.cps.toList) := by
  have G_consists_of := ok_consists_of (P := P) (w := w) (base := base) T
  refine T.F_is_number_text.ok sc_is_number_text (fun vs H Q E h => ?_) (fun cdv A outer s H vs Q E hr h => ?_)
  · obtain ⟨z, rfl, _⟩ := h
    rfl
  · obtain ⟨z, rfl, hz, q⟩ := h
    refine ⟨_, (pss_cons (ps_set (i := 1) sc_is_number_text.nd rfl (.inl rfl) (pe_ifExp (pt_val (pe_m1 PySem.F.slot_str_startswith PySem.F.type_str_startswith mt_startswith (pv 0) pe_str)) (pe_slice sl_str (pv 0) (po_some pe_int) po_none) (pv 0)))
        (pss_cons (ps_if (PW.pt (pw_or (pt_cmpR op_eq (pv 1) pe_str (nomark _)) (pw_or (pt_cmpR op_gt (pe_callB call_len (by rfl) T.m_len (by decide +kernel) (pa_cons (pv 1) pa_nil)) (pe_glob (v := .int 30) rfl T.c_MOST_DIGITS.choose_spec ⟨_, rfl⟩) (nomark _)) (pw_or1 (pt_not (pt_val (pe_call G_consists_of hr (by rfl) T.g_consists_of T.F_consists_of.kp T.b_consists_of .nil pass0 (pa_cons (pv 1) (pa_cons (pe_glob (v := .str "0123456789") rfl T.c_DIGITS.choose_spec ⟨_, rfl⟩) pa_nil))))))))) (pss_one (ps_ret pe_bl)) pss_nil)
        (pss_one (ps_ret (pe_or (pe_cmpR op_eq (pv 0) pe_str (nomark _)) (pe_one (pe_cmpR op_ne (pe_ix ix_str (pv 1) pe_int (fun _ _ => rfl)) pe_str (nomark _)))))))), ?_⟩
    have hsz := PySem.sizeLine_eq
    have q : ∀ (r : Bool) (H' : Hp), r = isNumL z.cps.toList → Same H H' → Q (.bl r) H' := q
    have fin : ∀ g : Str, g.length ≤ 100000 → g.cps.toList = digitsOf z.cps.toList →
        (tSeq (tIfS (tOr (tTest (tOp rEq (tVar 1) (tC (.str (Str.ofString ""))))) (tOr (tTest (tOp (rI0 fun i j => .bl (decide (j < i))) (tCB (fun xs H Q => ∃ x n, xs = [x] ∧ LenV K x H n ∧ Q (.int n) H) (tCons (tVar 1) tNil)) (tC (.int 30))))
          (tNot (tB (tCall sp_consists [] E0 (tCons (tVar 1) (tCons (tC (.str (Str.ofString "0123456789"))) tNil))))))) (tRet (tC (.bl false))) tNext)
          (tRet (tOrV (tOp rEq (tVar 0) (tC (.str (Str.ofString "0")))) (tOp rNe (tOp rIxS (tVar 1) (tC (.int 0))) (tC (.str (Str.ofString "0"))))))) { nx := fun _ H' => Q .non H', rt := Q } [some (.str z), some (.str g)] H := by
      intro g hg eg
      refine ⟨_, rfl, rfl, _, rfl, ite2 (fun e => ?_) (fun e => ?_)⟩
      · refine q _ _ ?_ (Same.refl _)
        have e1 : g = Str.ofString "" := V.str.inj (of_decide_eq_true e)
        unfold isNumL
        rw [← eg, e1]
        rfl
      · obtain ⟨c, r, hc⟩ : ∃ c r, g.cps.toList = c :: r := by
          cases h : g.cps.toList with
          | nil => exact absurd (decide_eq_true (congrArg V.str (str_ext (b := Str.ofString "") h))) e
          | cons c r => exact ⟨c, r, rfl⟩
        have hlen : g.length = r.length + 1 := by rw [← len_list, hc, List.length_cons]
        have hN : isNumL z.cps.toList = (decide (r.length + 1 ≤ 30) && ((c :: r).all isDig && (decide (z.cps.toList = [48]) || !decide (c = 48)))) := by
          unfold isNumL
          rw [← eg, hc]
          rfl
        refine ⟨_, rfl, _, _, rfl, ⟨by omega, rfl⟩, _, _, rfl, rfl, _, rfl, ite2 (fun e2 => ?_) (fun e2 => ?_)⟩
        · refine q _ _ ?_ (Same.refl _)
          have e3 : (30 : Int) < ((g.length : Nat) : Int) := of_decide_eq_true e2
          rw [hN, decide_eq_false (show ¬ r.length + 1 ≤ 30 by omega)]
          rfl
        · have e3 : ¬ (30 : Int) < ((g.length : Nat) : Int) := fun h => e2 (decide_eq_true h)
          refine ⟨_, rfl, g, _, rfl, hg, fun r1 H1 er S1 => ?_⟩
          have er : r1 = (c :: r).all isDig := by
            rw [er, hc]
            congr 1
            funext x
            exact dig_in x
          refine ⟨_, rfl, ?_⟩
          cases hr1 : r1 with
          | false =>
            refine q _ _ ?_ S1
            rw [hN, ← er, hr1, Bool.false_and, Bool.and_false]
          | true =>
            refine ⟨_, rfl, rfl, _, rfl, ite2 (fun e4 => ?_) (fun e4 => ?_)⟩
            · refine q _ _ ?_ S1
              have e5 : z = Str.ofString "0" := V.str.inj (of_decide_eq_true e4)
              have e6 : z.cps.toList = [48] := by rw [e5]; decide +kernel
              rw [hN, ← er, hr1, decide_eq_true (show r.length + 1 ≤ 30 by omega), decide_eq_true e6]
              rfl
            · refine ⟨_, rfl, g, 0, c, rfl, rfl, by omega, by rw [hc]; exact atI_nat (j := 0) rfl, rfl, ?_⟩
              refine q _ _ ?_ S1
              have e6 : ¬ z.cps.toList = [48] := fun h => e4 (decide_eq_true (congrArg V.str (str_ext (b := Str.ofString "0") (by rw [h]; decide +kernel))))
              rw [hN, ← er, hr1, decide_eq_true (show r.length + 1 ≤ 30 by omega), decide_eq_false e6, Bool.true_and, Bool.true_and, Bool.false_or]
              congr 1
              refine decide_eq_decide.mpr ⟨fun h => ?_, fun h => ?_⟩
              · have := congrArg (fun s : Str => s.cps.toList) (V.str.inj h)
                have h2 : [c] = [48] := this.trans (by decide +kernel)
                injection h2
              · rw [h]
                decide +kernel
    repeat (walk_at "lw w")
    rw [starts_minus]
    refine ite2 (fun e => ?_) (fun e => ?_)
    · have e1 := of_decide_eq_true e
      repeat (walk_at "lw w")
      refine ⟨by omega, ?_⟩
      refine fin _ (Nat.le_trans (cut_short _ _ _) hz) ?_
      rw [cut_first]
      cases h : z.cps.toList with
      | nil => rfl
      | cons c r =>
        rw [h] at e1
        have : c = 45 := by injection e1
        show r = if c = 45 then r else c :: r
        rw [if_pos this]
    · have e1 : ¬ z.cps.toList.head? = some 45 := fun h => e (decide_eq_true h)
      refine ⟨_, rfl, ?_⟩
      refine fin _ hz ?_
      cases h : z.cps.toList with
      | nil => rfl
      | cons c r =>
        rw [h] at e1
        show c :: r = if c = 45 then r else c :: r
        rw [if_neg (fun h => e1 (by rw [h]; rfl))]
end

section
variable {P : Program} {w : World} {K : PySem.W.Frag} {mg : Str → Option Value} {base : Heap}
theorem ok_is_string_text (T : Txt K mg) : FnOk P w K mg base CX0 3 T.f_is_string_text T.fd_is_string_text ["text"] (sp_str1 fun z => isStrL z.cps.toList) := by
  have G_is_small_word := ok_is_small_word (P := P) (w := w) (base := base) T
  refine T.F_is_string_text.ok sc_is_string_text (fun vs H Q E h => ?_) (fun cdv A outer s H vs Q E hr h => ?_)
  · obtain ⟨z, rfl, _⟩ := h
    rfl
  · obtain ⟨z, rfl, hz, q⟩ := h
    refine ⟨_, (pss_cons (ps_if (PW.pt (pw_or (pt_cmpR op_lt (pe_callB call_len (by rfl) T.m_len (by decide +kernel) (pa_cons (pv 0) pa_nil)) pe_int (nomark _)) (pw_or (pt_cmpR op_ne (pe_ix ix_str (pv 0) pe_int (fun _ _ => rfl)) pe_str (nomark _)) (pw_or1 (pt_cmpR op_ne (pe_ix ix_str (pv 0) (pe_un un_neg pe_int) (fun _ _ => rfl)) pe_str (nomark _)))))) (pss_one (ps_ret pe_bl)) pss_nil)
        (pss_one (ps_ret (pe_call G_is_small_word hr (by rfl) T.g_is_small_word T.F_is_small_word.kp T.b_is_small_word .nil pass0 (pa_cons (pe_slice sl_str (pv 0) (po_some pe_int) (po_some (pe_un un_neg pe_int))) (pa_cons (pe_glob (v := .int 8) rfl T.c_MOST_STRING_LETTERS.choose_spec ⟨_, rfl⟩) pa_nil)))))), ?_⟩
    have hsz := PySem.sizeLine_eq
    have q : ∀ (r : Bool) (H' : Hp), r = isStrL z.cps.toList → Same H H' → Q (.bl r) H' := q
    have hlz := len_list z
    repeat (walk_at "lw w")
    refine ite2 (fun e => ?_) (fun e => ?_)
    · have e1 : ((z.length : Nat) : Int) < 2 := of_decide_eq_true e
      repeat (walk_at "lw w")
      refine q _ _ ?_ (Same.refl _)
      cases h : z.cps.toList with
      | nil => rfl
      | cons c r =>
        cases r with
        | nil =>
          show false = (decide (c = 34) && (false && _))
          rw [Bool.false_and, Bool.and_false]
        | cons c2 r =>
          rw [h, List.length_cons, List.length_cons] at hlz
          omega
    · have e1 : ¬ ((z.length : Nat) : Int) < 2 := fun h => e (decide_eq_true h)
      obtain ⟨c, r, hc⟩ : ∃ c r, z.cps.toList = c :: r := by
        cases h : z.cps.toList with
        | nil => rw [h, List.length_nil] at hlz; omega
        | cons c r => exact ⟨c, r, rfl⟩
      obtain ⟨m, l, hr2⟩ : ∃ m l, r = m ++ [l] := by
        rcases List.eq_nil_or_concat r with h | ⟨m, l, h⟩
        · rw [hc, h, List.length_singleton] at hlz; omega
        · exact ⟨m, l, by rw [h, List.concat_eq_append]⟩
      subst hr2
      have hS : isStrL z.cps.toList = (decide (c = 34) && (decide (l = 34) && (decide (m.length ≤ 8) && m.all isLow))) := by
        rw [hc]
        show (decide (c = 34) && (decide ((m ++ [l]).getLast? = some 34) && (decide ((m ++ [l]).length - 1 ≤ 8) && (m ++ [l]).dropLast.all isLow))) = _
        rw [List.dropLast_concat, List.getLast?_append, List.length_append]
        congr 2
        exact decide_eq_decide.mpr ⟨fun h => by injection h, fun h => by rw [h]; rfl⟩
      repeat (walk_at "lw w")
      refine ⟨z, 0, c, rfl, rfl, by omega, by rw [hc]; exact atI_nat (j := 0) rfl, ?_⟩
      have q34 : (Str.ofString "\"").cps.toList = [34] := by decide +kernel
      have one : ∀ x : Nat, (V.str ⟨#[x]⟩ = V.str (Str.ofString "\"")) ↔ x = 34 := fun x => by
        constructor
        · intro h
          have := congrArg (fun s : Str => s.cps.toList) (V.str.inj h)
          have h2 : [x] = [34] := this.trans q34
          injection h2
        · intro h
          rw [h]
          exact congrArg V.str (str_ext (by rw [q34]))
      repeat (walk_at "lw w")
      by_cases h1 : c = 34
      · refine iteNS ((one c).mpr h1) ?_
        repeat (walk_at "lw w")
        refine ⟨z, -1, l, rfl, rfl, by omega, by rw [hc, show c :: (m ++ [l]) = (c :: m) ++ [l] from rfl]; exact atI_last _ _, ?_⟩
        repeat (walk_at "lw w")
        by_cases h2 : l = 34
        · refine iteNS ((one l).mpr h2) ?_
          repeat (walk_at "lw w")
          refine ⟨by omega, ?_⟩
          refine ⟨_, .str (cutS z (some 1) (some (-1))), 8, rfl, .str _, decide_eq_true (Nat.le_trans (cut_short _ _ _) hz), fun r1 H1 er S1 => ?_⟩
          refine q _ _ ?_ S1
          have hcut : (cutS z (some 1) (some (-1))).cps.toList = m := by
            rw [cut_inner, hc]
            show (m ++ [l]).dropLast = m
            exact List.dropLast_concat
          rw [er, hS, decide_eq_true h1, decide_eq_true h2, Bool.true_and, Bool.true_and]
          show (decide ((cutS z (some 1) (some (-1))).length ≤ 8) && (cutS z (some 1) (some (-1))).cps.toList.all isLow) = _
          rw [← len_list, hcut]
        · refine iteNT (fun h => h2 ((one l).mp h)) ?_
          refine q _ _ ?_ (Same.refl _)
          rw [hS, decide_eq_false h2, Bool.false_and, Bool.and_false]
      · refine iteNT (fun h => h1 ((one c).mp h)) ?_
        refine q _ _ ?_ (Same.refl _)
        rw [hS, decide_eq_false h1, Bool.false_and]
theorem ok_is_constant_text (T : Txt K mg) : FnOk P w K mg base CX0 4 T.f_is_constant_text T.fd_is_constant_text ["text"] (sp_str1 fun z => isConstL z.cps.toList) := by
  have G_is_number_text := ok_is_number_text (P := P) (w := w) (base := base) T
  have G_is_string_text := ok_is_string_text (P := P) (w := w) (base := base) T
  refine T.F_is_constant_text.ok sc_is_constant_text (fun vs H Q E h => ?_) (fun cdv A outer s H vs Q E hr h => ?_)
  · obtain ⟨z, rfl, _⟩ := h
    rfl
  · obtain ⟨z, rfl, hz, q⟩ := h
    refine ⟨_, (pss_one (ps_ret (pe_or (pe_cmpR op_eq (pv 0) pe_str (nomark _)) (pe_or (pe_call G_is_number_text (hr.mono (by omega)) (by rfl) T.g_is_number_text T.F_is_number_text.kp T.b_is_number_text .nil pass0 (pa_cons (pv 0) pa_nil)) (pe_one (pe_call G_is_string_text hr (by rfl) T.g_is_string_text T.F_is_string_text.kp T.b_is_string_text .nil pass0 (pa_cons (pv 0) pa_nil))))))), ?_⟩
    have q : ∀ (r : Bool) (H' : Hp), r = isConstL z.cps.toList → Same H H' → Q (.bl r) H' := q
    have hn : (Str.ofString "none").cps.toList = [110, 111, 110, 101] := by decide +kernel
    repeat (walk_at "lw w")
    refine ite2 (fun e => ?_) (fun e => ?_)
    · refine q _ _ ?_ (Same.refl _)
      have e1 : z = Str.ofString "none" := V.str.inj (of_decide_eq_true e)
      unfold isConstL
      rw [e1, hn]
      rfl
    · have e1 : ¬ z.cps.toList = [110, 111, 110, 101] := fun h => e (decide_eq_true (congrArg V.str (str_ext (by rw [h, hn]))))
      repeat (walk_at "lw w")
      refine ⟨hz, fun r1 H1 er S1 => ?_⟩
      have er : r1 = isNumL z.cps.toList := er
      repeat (walk_at "lw w")
      refine ite2 (fun e2 => ?_) (fun e2 => ?_)
      · refine q _ _ ?_ S1
        unfold isConstL
        rw [← er, e2, decide_eq_false e1]
        rfl
      · repeat (walk_at "lw w")
        refine ⟨hz, fun r2 H2 er2 S2 => ?_⟩
        refine q _ _ ?_ (S1.trans S2)
        unfold isConstL
        rw [← er, show r1 = false by simpa using e2, decide_eq_false e1, er2]
        rfl
end

section
variable {P : Program} {w : World} {K : PySem.W.Frag} {mg : Str → Option Value} {base : Heap}
theorem ok_is_call (T : Txt K mg) : FnOk P w K mg base CX0 5 T.f_is_call T.fd_is_call ["thing"] (sp_any1 K isCallD) := by
  have G_is_name := ok_is_name (P := P) (w := w) (base := base) T
  have G_is_constant_text := ok_is_constant_text (P := P) (w := w) (base := base) T
  refine T.F_is_call.ok sc_is_call (fun vs H Q E h => ?_) (fun cdv A outer s H vs Q E hr h => ?_)
  · obtain ⟨x, d, rfl, _⟩ := h
    rfl
  · obtain ⟨x, d, rfl, hd, hf, q⟩ := h
    refine ⟨_, (pss_cons (ps_if (PW.pt (pw_or (pt_not (pt_val (pe_callB call_isi (by rfl) T.m_isinstance (by decide +kernel) (pa_cons (pv 0) (pa_cons (pe_bltn (v := .ty "str") (by rfl) T.m_str (by decide +kernel) rfl) pa_nil))))) (pw_or1 (pt_not (pt_val (pe_m1 PySem.F.slot_str_endswith PySem.F.type_str_endswith mt_endswith (pv 0) pe_str)))))) (pss_one (ps_ret pe_bl)) pss_nil)
        (pss_cons (ps_asg (pe_partition (pe_slice sl_str (pv 0) po_none (po_some (pe_un un_neg pe_int))) pe_str) (pg_tup rfl (pgs_cons (pg_name (i := 1) sc_is_call.nd rfl (.inl rfl)) (pgs_cons (pg_name (i := 2) sc_is_call.nd rfl (.inl rfl)) (pgs_cons (pg_name (i := 3) sc_is_call.nd rfl (.inl rfl)) pgs_nil)))))
        (pss_cons (ps_if (PW.pt (pw_or (pt_cmpR op_eq (pv 2) pe_str (nomark _)) (pw_or1 (pt_not (pt_val (pe_call G_is_name (hr.mono (by omega)) (by rfl) T.g_is_name T.F_is_name.kp T.b_is_name .nil pass0 (pa_cons (pv 1) pa_nil))))))) (pss_one (ps_ret pe_bl)) pss_nil)
        (pss_cons (ps_set (i := 4) sc_is_call.nd rfl (.inl rfl) (pe_ifExp (pt_cmpR op_eq (pv 3) pe_str (nomark _)) (pe_lst pa_nil) (pe_split (pv 3) pe_str)))
        (pss_one (ps_ret (pe_and (pe_cmpR op_le (pe_callB call_len (by rfl) T.m_len (by decide +kernel) (pa_cons (pv 4) pa_nil)) (pe_glob (v := .int 3) rfl T.c_MOST_CONSTANTS.choose_spec ⟨_, rfl⟩) (nomark _)) (pe_one (pe_callB (cr_all rfl) (by rfl) T.m_all (by decide +kernel) (pa_cons (pe_lc (own := [("text", 5)]) (g := gName 5) rfl sc_is_call.nd (pi_list (pv 4)) (blkOk_by (own := [("text", 5)]) (N := ["thing", "name", "opening", "inner", "constants", "text"]) (sc := defScope s_is_call) (by decide +kernel)) (fun _ _ _ _ _ => pg_name (i := 5) sc_is_call.nd rfl (.inl rfl)) (fun _ _ _ _ _ => pts_nil) (fun _ _ _ _ _ => (pe_call G_is_constant_text hr (by rfl) T.g_is_constant_text T.F_is_constant_text.kp T.b_is_constant_text .nil pass0 (pa_cons (pv 5) pa_nil)))) pa_nil)))))))))), ?_⟩
    have hsz := PySem.sizeLine_eq
    cases hd
    case str z =>
      have hz : z.length ≤ 100000 := of_decide_eq_true hf
      have q : ∀ (r : Bool) (H' : Hp), r = isCallZ z → Same H H' → Q (.bl r) H' := q
      repeat (walk_at "lw w")
      rw [ends_paren]
      cases he : decide (z.cps.toList.getLast? = some 41) with
      | false =>
        repeat (walk_at "lw w")
        refine q _ _ ?_ (Same.refl _)
        unfold isCallZ
        rw [he]
        rfl
      | true =>
        have hC : isCallZ z = isCallP (Txt.partition (cutS z none (some (-1))) (Str.ofString "(")) := by
          unfold isCallZ
          rw [he, Bool.true_and]
        have hx : (cutS z none (some (-1))).length ≤ 100000 := Nat.le_trans (cut_short _ _ _) hz
        have hfp := PyProof.Rows.fact_partition (cutS z none (some (-1))) (Str.ofString "(")
        repeat (walk_at "lw w")
        refine ⟨by omega, ?_⟩
        refine ⟨⟨_, rfl⟩, ?_⟩
        refine ⟨_, _, rfl, rfl, rfl, by omega, fun p np => ?_⟩
        generalize Txt.partition (cutS z none (some (-1))) (Str.ofString "(") = pp at *
        obtain ⟨n1, n2, n3⟩ := pp
        refine ⟨p, _, rfl, SqT.of upd_same, rfl, ?_⟩
        have S1 : Same H (upd H p (.tup [.str n1, .str n2, .str n3])) := same_new np
        generalize upd H p (.tup [.str n1, .str n2, .str n3]) = H1 at *
        obtain ⟨f1, f2, f3⟩ := hfp
        have f1 : n1.length ≤ 100000 := Nat.le_trans f1 hx
        have f3 : n3.length ≤ 100000 := Nat.le_trans f3 hx
        repeat (walk_at "lw w")
        refine ite2 (fun e => ?_) (fun e => ?_)
        · repeat (walk_at "lw w")
          refine q _ _ ?_ S1
          have e1 : n2 = Str.ofString "" := V.str.inj (of_decide_eq_true e)
          rw [hC]
          unfold isCallP
          rw [decide_eq_true e1]
          rfl
        · have e1 : ¬ n2 = Str.ofString "" := fun h => e (decide_eq_true (congrArg V.str h))
          repeat (walk_at "lw w")
          refine ⟨f1, fun r1 H2 er S2 => ?_⟩
          repeat (walk_at "lw w")
          cases hr1 : r1 with
          | false =>
            refine q _ _ ?_ (S1.trans S2)
            rw [hC]
            unfold isCallP
            rw [decide_eq_false e1, ← er, hr1]
            rfl
          | true =>
            have hC2 : isCallZ z = (decide ((partsOf n3).length ≤ 3) && (partsOf n3).all fun c => isConstL c.cps.toList) := by
              rw [hC]
              unfold isCallP
              rw [decide_eq_false e1, ← er, hr1]
              rfl
            have fin : ∀ (L : Addr) (H3 : Hp) (ys : List Str) (t : Option V), Same H H3 → H3 L = some (.lst (ys.map V.str)) → ys = partsOf n3 →
                (tRet (tAndV (tOp (rI0 fun i j => .bl (decide (i ≤ j))) (tCB (fun xs H Q => ∃ x n, xs = [x] ∧ LenV K x H n ∧ Q (.int n) H) (tCons (tVar 4) tNil)) (tC (.int 3)))
                  (tCB (rAll K) (tCons (tLc (iList K (tVar 4)) (gName 5) tYes (tCall (sp_str1 fun z => isConstL z.cps.toList) [] E0 (tCons (tVar 5) tNil)) [5]) tNil))))
                  { nx := fun _ H' => Q .non H', rt := Q } [some (.str z), some (.str n1), some (.str n2), some (.str n3), some (.ref L), t] H3 := by
              intro L H3 ys t S3 eL ey
              have hys : ∀ y ∈ ys, y.length ≤ 100000 := by
                intro y hy
                rw [ey] at hy
                unfold partsOf at hy
                split at hy
                · cases hy
                · exact Nat.le_trans (split_part hy (by decide +kernel)) f3
              refine ⟨_, rfl, _, _, rfl, .inl ⟨_, SqL.of eL, rfl⟩, _, _, rfl, rfl, _, rfl, ite2 (fun e => ?_) (fun e => ?_)⟩
              · have e2 : ys.length ≤ 3 := by
                  have := of_decide_eq_true e
                  rw [List.length_map] at this
                  omega
                refine ⟨_, rfl, L, rfl, ⟨_, SqL.of eL⟩, fun D nD => ?_⟩
                refine lc_list (K := K) (a := L) (xs := ys.map V.str) (fun i H' => H' D = some (.lst ((ys.take i).map fun c => V.bl (isConstL c.cps.toList))) ∧ Same H3 H') ?_ ?_ ?_ ?_
                · exact ⟨upd_same, same_new nD⟩
                · rintro i H' _ ⟨_, S⟩
                  exact SqL.of (S _ _ eL)
                · rintro i x H' hx ⟨eD, S⟩
                  rw [List.getElem?_map] at hx
                  cases hy : ys[i]? with
                  | none => rw [hy] at hx; cases hx
                  | some y =>
                    rw [hy] at hx
                    have hx : V.str y = x := by injection hx
                    subst hx
                    refine ⟨rfl, _, rfl, y, rfl, hys y (List.mem_of_getElem? hy), fun r H4 er S4 => ?_⟩
                    refine ⟨_, S4 _ _ eD, ?_, ?_, ?_⟩
                    · rw [List.length_map, List.length_take]
                      exact small1000 (by omega)
                    · rw [upd_same, List.take_add_one, hy, List.map_append, er]
                      rfl
                    · intro q' o e
                      rw [upd_ne (ne_of_none e nD)]
                      exact S4 _ _ (S _ _ e)
                · rintro H' ⟨eD, S⟩
                  rw [List.length_map, List.take_length] at eD
                  refine ⟨D, ys.map fun c => isConstL c.cps.toList, rfl, ?_, ?_⟩
                  · rw [List.map_map]
                    exact SqL.of eD
                  · refine q _ H' ?_ (S3.trans S)
                    rw [hC2, ← ey, decide_eq_true e2, List.all_map]
                    rfl
              · refine q _ _ ?_ S3
                have e2 : ¬ ys.length ≤ 3 := fun h => e (decide_eq_true (by rw [List.length_map]; omega))
                rw [hC2, ← ey, decide_eq_false e2]
                rfl
            repeat (walk_at "lw w")
            by_cases h3 : n3 = Str.ofString ""
            · refine ifT (decide_eq_true (congrArg V.str h3)) ?_
              refine ⟨Nat.zero_le _, fun L nL => ?_⟩
              exact fin L _ [] _ ((S1.trans S2).trans (same_new nL)) upd_same (by unfold partsOf; rw [if_pos h3])
            · refine ifF (decide_eq_false (fun h => h3 (V.str.inj h))) ?_
              repeat (walk_at "lw w")
              refine ⟨by show n3.length + 2 ≤ sizeLine; omega, fun L nL => ?_⟩
              exact fin L _ _ _ ((S1.trans S2).trans (same_new nL)) upd_same (by unfold partsOf; rw [if_neg h3])
    all_goals (repeat (walk_at "lw w")) <;> exact q _ _ rfl (Same.refl _)
end

section
variable {P : Program} {w : World} {K : PySem.W.Frag} {mg : Str → Option Value} {base : Heap}
theorem ok_is_path (T : Txt K mg) : FnOk P w K mg base CX0 6 T.f_is_path T.fd_is_path ["thing", "ageing"] (sp_path K) := by
  have G_is_call := ok_is_call (P := P) (w := w) (base := base) T
  refine T.F_is_path.ok sc_is_path (fun vs H Q E h => ?_) (fun cdv A outer s H vs Q E hr h => ?_)
  · obtain ⟨x, ag, d, rfl, _⟩ := h
    rfl
  · obtain ⟨x, ag, d, rfl, hd, hf, q⟩ := h
    refine ⟨_, (pss_cons (ps_if (PW.pt (pw_or (pt_not (pt_val (pe_callB call_isi (by rfl) T.m_isinstance (by decide +kernel) (pa_cons (pv 0) (pa_cons (pe_bltn (v := .ty "tuple") (by rfl) T.m_tuple (by decide +kernel) rfl) pa_nil))))) (pw_or1 (pt_cmpR op_eq (pe_callB call_len (by rfl) T.m_len (by decide +kernel) (pa_cons (pv 0) pa_nil)) pe_int (nomark _))))) (pss_one (ps_ret pe_bl)) pss_nil)
        (pss_one (ps_ret (pe_and (pe_or (pv 1) (pe_one (pe_cmpR op_eq (pe_callB call_len (by rfl) T.m_len (by decide +kernel) (pa_cons (pv 0) pa_nil)) pe_int (nomark _)))) (pe_one (pe_callB (cr_all rfl) (by rfl) T.m_all (by decide +kernel) (pa_cons (pe_lc (own := [("text", 2)]) (g := gName 2) rfl sc_is_path.nd (pi_tup (pv 0)) (blkOk_by (own := [("text", 2)]) (N := ["thing", "ageing", "text"]) (sc := defScope s_is_path) (by decide +kernel)) (fun _ _ _ _ _ => pg_name (i := 2) sc_is_path.nd rfl (.inl rfl)) (fun _ _ _ _ _ => pts_nil) (fun _ _ _ _ _ => (pe_call G_is_call hr (by rfl) T.g_is_call T.F_is_call.kp T.b_is_call .nil pass0 (pa_cons (pv 2) pa_nil)))) pa_nil))))))), ?_⟩
    cases hd
    case tup a xs ds hs ha =>
      obtain ⟨l1, hf⟩ : ds.length ≤ 1000 ∧ ∀ e ∈ ds, shortD e = true := hf
      have hl := DpAll.length ha
      repeat (walk_at "lw w")
      have q : ∀ (r : Bool) (H' : Hp), r = (!decide (ds.length = 0) && ((ag || decide (ds.length = 1)) && ds.all isCallD)) → Same H H' → Q (.bl r) H' := q
      by_cases h0 : ds.length = 0
      · refine ifT (decide_eq_true (congrArg V.int (by omega))) ?_
        repeat (walk_at "lw w")
        exact q _ _ (by rw [decide_eq_true h0]; rfl) (Same.refl _)
      · refine ifF (decide_eq_false (fun h => h0 (by have := V.int.inj h; omega))) ?_
        rw [decide_eq_false h0] at q
        have comp : ∀ b : Bool, b = (ag || decide (ds.length = 1)) → (if b = true then
            (tCB (rAll K) (tCons (tLc (iTup K (tVar 0)) (gName 2) tYes (tCall (sp_any1 K isCallD) [] E0 (tCons (tVar 2) tNil)) [2]) tNil)) [some (.ref a), some (.bl ag), none] H Q else Q (.bl false) H) := by
          intro b hb
          refine ite2 (fun e => ?_) (fun e => ?_)
          · refine ⟨_, rfl, a, rfl, ⟨xs, hs⟩, fun D nD => ?_⟩
            refine lc_tup (K := K) (a := a) (xs := xs) (fun i H' => H' D = some (.lst ((ds.take i).map fun d => V.bl (isCallD d))) ∧ Same H H') ?_ ?_ ?_ ?_
            · exact ⟨upd_same, same_new nD⟩
            · rintro i H' _ ⟨_, S⟩
              exact SqT.same S hs
            · rintro i x H' hx ⟨eD, S⟩
              obtain ⟨d, hd1, hd2⟩ := DpAll.get ha hx
              refine ⟨rfl, _, rfl, _, d, rfl, Dp.same S _ _ hd2, hf d (List.mem_of_getElem? hd1), fun r H4 er S4 => ?_⟩
              refine ⟨_, S4 _ _ eD, ?_, ?_, ?_⟩
              · rw [List.length_map, List.length_take]
                exact small1000 (by omega)
              · rw [upd_same, List.take_add_one, hd1, List.map_append, er]
                rfl
              · intro q' o e
                rw [upd_ne (ne_of_none e nD)]
                exact S4 _ _ (S _ _ e)
            · rintro H' ⟨eD, S⟩
              rw [hl, List.take_length] at eD
              refine ⟨D, ds.map isCallD, rfl, ?_, ?_⟩
              · rw [List.map_map]
                exact SqL.of eD
              · refine q _ H' ?_ S
                rw [← hb, e, List.all_map]
                rfl
          · refine q _ _ ?_ (Same.refl _)
            rw [← hb, show b = false by simpa using e]
            rfl
        repeat (walk_at "lw w")
        refine ite2 (fun e => ?_) (fun e => ?_)
        · exact ⟨_, rfl, comp true (by rw [e]; rfl)⟩
        · repeat (walk_at "lw w")
          refine comp _ ?_
          rw [show ag = false by simpa using e, Bool.false_or]
          exact decide_eq_decide.mpr ⟨fun h => by have := V.int.inj h; omega, fun h => congrArg V.int (by omega)⟩
    all_goals (repeat (walk_at "lw w")) <;> exact q _ _ rfl (Same.refl _)
end

/-! ### a written call is a call text -/
def ConstV (v : V) : Prop := v = .non ∨ (∃ i, v = .int i ∧ IsNum i) ∨ ∃ z, v = .str z ∧ IsWord z 8
/-- a code point -/
def okc (c : Nat) : Bool := decide (c < 1114112)
def ConstT (w : Str) : Prop := isConstL w.cps.toList = true ∧ 44 ∉ w.cps.toList ∧ w.cps.toList ≠ [] ∧ w.length ≤ 31 ∧ w.cps.toList.all okc = true
theorem constT_none : ConstT (Str.ofString "none") := ⟨by decide +kernel, by decide +kernel, by decide +kernel, by decide +kernel, by decide +kernel⟩
theorem constT_num {i : Int} (h : IsNum i) : ConstT (Str.ofString (toString i)) := by
  refine ⟨?_, num_free ⟨by decide, by decide⟩, ?_, num_len h, ?_⟩
  · unfold isConstL
    rw [isNumL_num h]
    simp
  · rw [num_list]
    intro h0
    have h1 : D10 i.natAbs ≠ [] := by
      by_cases e : i.natAbs = 0
      · rw [e, D10_zero]; exact List.cons_ne_nil _ _
      · obtain ⟨c, r, e, _⟩ := D10_head i.natAbs (by omega)
        rw [e]; exact List.cons_ne_nil _ _
    split at h0
    · exact h1 h0
    · cases h0
  · have h1 : (D10 i.natAbs).all okc = true := List.all_eq_true.mpr fun c hc => by
      have := of_decide_eq_true (List.all_eq_true.mp (D10_digs i.natAbs) c hc)
      exact decide_eq_true (by omega)
    rw [num_list]
    split
    · exact h1
    · rw [List.all_cons, h1]
      rfl
theorem constT_str {z w : Str} (h : IsWord z 8) (e : w.cps.toList = 34 :: (z.cps.toList ++ [34])) : ConstT w := by
  obtain ⟨h1, h2⟩ := h
  have hl : z.cps.toList.length ≤ 8 := by rw [len_list]; exact h1
  have hw : w.length = z.cps.toList.length + 2 := by rw [← len_list, e, List.length_cons, List.length_append]; rfl
  refine ⟨?_, ?_, by rw [e]; exact List.cons_ne_nil _ _, by omega, ?_⟩
  · unfold isConstL
    rw [e, isStrL_word hl h2]
    simp
  · rw [e]
    intro hm
    rcases List.mem_cons.mp hm with h | h
    · cases h
    · rcases List.mem_append.mp h with h | h
      · have := List.all_eq_true.mp h2 _ h
        have := of_decide_eq_true this
        omega
      · have := List.mem_singleton.mp h
        omega
  · have h1 : z.cps.toList.all okc = true := List.all_eq_true.mpr fun c hc => by
      have := of_decide_eq_true (List.all_eq_true.mp h2 c hc)
      exact decide_eq_true (by omega)
    rw [e, List.all_cons, List.all_append, h1]
    rfl
theorem joinL_ok : ∀ {ws : List (List Nat)}, (∀ w ∈ ws, w.all okc = true) → (joinL [44, 32] ws).all okc = true
  | [], _ => rfl
  | [w], h => h w List.mem_cons_self
  | w :: y :: r, h => by
    show (w ++ [44, 32] ++ joinL [44, 32] (y :: r)).all okc = true
    rw [List.all_append, List.all_append, h w List.mem_cons_self, joinL_ok fun v hv => h v (List.mem_cons_of_mem _ hv)]
    rfl
theorem strOk_of {z : Str} (h : z.cps.toList.all okc = true) : PyData.strOk z = true := by
  unfold PyData.strOk
  rw [← Array.all_toList]
  exact h
theorem name_low {n : Str} (h : isNameZ n = true) : n.length ≤ 12 ∧ n.cps.toList.all isLow = true := by
  unfold isNameZ isWordZ at h
  rw [Bool.and_eq_true, Bool.and_eq_true] at h
  exact ⟨of_decide_eq_true h.1.1, h.1.2⟩
theorem call_good {n z : Str} {ws : List Str} (hn : isNameZ n = true) (hl : ws.length ≤ 3) (hw : ∀ w ∈ ws, ConstT w)
    (hz : z.cps.toList = n.cps.toList ++ 40 :: (joinL [44, 32] (ws.map fun w => w.cps.toList) ++ [41])) : isCallZ z = true := by
  have e41 : z.cps.toList.getLast? = some 41 := by
    rw [hz, show n.cps.toList ++ 40 :: (joinL [44, 32] (ws.map fun w => w.cps.toList) ++ [41]) = (n.cps.toList ++ 40 :: joinL [44, 32] (ws.map fun w => w.cps.toList)) ++ [41] by simp, List.getLast?_append]
    rfl
  have ecut : (cutS z none (some (-1))).cps.toList = n.cps.toList ++ 40 :: joinL [44, 32] (ws.map fun w => w.cps.toList) := by
    rw [cut_init, hz, show n.cps.toList ++ 40 :: (joinL [44, 32] (ws.map fun w => w.cps.toList) ++ [41]) = (n.cps.toList ++ 40 :: joinL [44, 32] (ws.map fun w => w.cps.toList)) ++ [41] by simp, List.dropLast_concat]
  have h40 : 40 ∉ n.cps.toList := by
    intro hm
    have := List.all_eq_true.mp (name_low hn).2 _ hm
    have := of_decide_eq_true this
    omega
  unfold isCallZ
  rw [decide_eq_true e41, Bool.true_and, partition_at ecut h40]
  unfold isCallP
  have en : (⟨n.cps.toList.toArray⟩ : Str) = n := str_ext rfl
  show ((!decide (Str.ofString "(" = Str.ofString "") && isNameZ ⟨n.cps.toList.toArray⟩) && _) = true
  rw [en, hn, decide_eq_false (by decide +kernel : ¬ Str.ofString "(" = Str.ofString "")]
  show (decide ((partsOf ⟨(joinL [44, 32] (ws.map fun w => w.cps.toList)).toArray⟩).length ≤ 3) && (partsOf ⟨(joinL [44, 32] (ws.map fun w => w.cps.toList)).toArray⟩).all fun c => isConstL c.cps.toList) = true
  cases ws with
  | nil => rfl
  | cons w r =>
    have key := split_joined (x := ⟨(joinL [44, 32] ((w :: r).map fun w => w.cps.toList)).toArray⟩) (p := w.cps.toList) (ps := r.map fun w => w.cps.toList) rfl (by
      intro q hq
      obtain ⟨y, hy, e⟩ := List.mem_map.mp (show q ∈ (w :: r).map fun w => w.cps.toList from hq)
      rw [← e]
      exact (hw y hy).2.1)
    have hne : ¬ (⟨(joinL [44, 32] ((w :: r).map fun w => w.cps.toList)).toArray⟩ : Str) = Str.ofString "" := by
      intro h
      have h1 := congrArg (fun s : Str => s.cps.toList) h
      have h2 : joinL [44, 32] ((w :: r).map fun w => w.cps.toList) = [] := h1
      have hw0 := (hw w List.mem_cons_self).2.2.1
      cases r with
      | nil => exact hw0 h2
      | cons y t =>
        have h3 : w.cps.toList ++ [44, 32] ++ joinL [44, 32] ((y :: t).map fun w => w.cps.toList) = [] := h2
        rw [List.append_assoc] at h3
        exact hw0 (List.append_eq_nil_iff.mp h3).1
    unfold partsOf
    rw [if_neg hne]
    have hlen := congrArg List.length key
    rw [List.length_map, List.length_cons, List.length_map] at hlen
    rw [show Str.ofString ", " = Sep2 from rfl, decide_eq_true (show (Txt.split ⟨(joinL [44, 32] ((w :: r).map fun w => w.cps.toList)).toArray⟩ Sep2).length ≤ 3 by rw [hlen]; exact hl), Bool.true_and]
    have hall := congrArg (fun l : List (List Nat) => l.all isConstL) key
    rw [List.all_map] at hall
    refine Eq.trans hall ?_
    refine List.all_eq_true.mpr fun q hq => ?_
    obtain ⟨y, hy, e⟩ := List.mem_map.mp (show q ∈ (w :: r).map fun w => w.cps.toList from hq)
    rw [← e]
    exact (hw y hy).1
theorem q_names : (vals_KEYWORDS.all fun y => match y with | .str k => isNameZ (Str.ofString "q" ++ k) | _ => false) = true := by decide +kernel

def sp_const : Sp := fun vs H Q _ => ∃ (b : Addr) (n : Int), vs = [.ref b] ∧ Bag H b n ∧ n ≤ 800000000 ∧ ∀ (v : V) (H' : Hp), ConstV v → Bag H' b (n + 210) → Keep b H H' → Q v H'
def sp_written : Sp := fun vs H Q _ => ∃ v : V, vs = [v] ∧ ConstV v ∧ ∀ (w : Str) (H' : Hp), ConstT w → Same H H' → Q (.str w) H'
def sp_calltext : Sp := fun vs H Q _ => ∃ (n : Str) (l : Addr) (xs : List V), vs = [.str n, .ref l] ∧ H l = some (.lst xs) ∧ n.length ≤ 100 ∧ xs.length ≤ 10 ∧ (∀ v ∈ xs, ConstV v) ∧
  ∀ (z : Str) (ws : List Str) (H' : Hp), z.cps.toList = n.cps.toList ++ 40 :: (joinL [44, 32] (ws.map fun w => w.cps.toList) ++ [41]) → ws.length = xs.length → (∀ w ∈ ws, ConstT w) → Same H H' → Q (.str z) H'
def sp_keywords : Sp := fun vs H Q _ => vs = [] ∧ ∀ l : Addr, H l = none → Q (.ref l) (upd H l (.lst vals_KEYWORDS))
def sp_anyname : Sp := fun vs H Q _ => ∃ (b : Addr) (n : Int), vs = [.ref b] ∧ Bag H b n ∧ n ≤ 800000000 ∧ ∀ (z : Str) (H' : Hp), isNameZ z = true → Bag H' b (n + 20) → Keep b H H' → Q (.str z) H'
def sp_anycall : Sp := fun vs H Q _ => ∃ (b : Addr) (n : Int), vs = [.ref b] ∧ Bag H b n ∧ n ≤ 700000000 ∧ ∀ (z : Str) (H' : Hp), isCallZ z = true → z.length ≤ 1000 → PyData.strOk z = true → Bag H' b (n + 1000) → Keep b H H' → Q (.str z) H'
section
variable {P : Program} {w : World} {K : PySem.W.Frag} {mg : Str → Option Value} {base : Heap}
theorem ok_law_any_constant (T : Txt K mg) : FnOk P w K mg base CX0 4 T.f_law_any_constant T.fd_law_any_constant ["bag"] sp_const := by
  have G_law_take := ok_law_take (P := P) (w := w) (base := base) T
  have G_law_of := ok_law_of (P := P) (w := w) (base := base) T
  have G_law_number := ok_law_number (P := P) (w := w) (base := base) T
  have G_law_word := ok_law_word (P := P) (w := w) (base := base) T
  refine T.F_law_any_constant.ok sc_law_any_constant (fun vs H Q E h => ?_) (fun cdv A outer s H vs Q E hr h => ?_)
  · obtain ⟨b, n, rfl, _⟩ := h
    rfl
  · obtain ⟨b, n, rfl, hb, hn, q⟩ := h
    refine ⟨_, (pss_cons (ps_set (i := 1) sc_law_any_constant.nd rfl (.inl rfl) (pe_call G_law_take (hr.mono (by omega)) (by rfl) T.g_law_take T.F_law_take.kp T.b_law_take .nil pass0 (pa_cons (pv 0) (pa_cons pe_int pa_nil))))
        (pss_cons (ps_if (pt_cmpR op_eq (pv 1) pe_int (nomark _)) (pss_one (ps_ret pe_non)) pss_nil)
        (pss_cons (ps_if (pt_cmpR op_eq (pv 1) pe_int (nomark _)) (pss_one (ps_ret (pe_call G_law_of (hr.mono (by omega)) (by rfl) T.g_law_of T.F_law_of.kp T.b_law_of .nil pass0 (pa_cons (pv 0) (pa_cons (pe_lst (pa_cons pe_int (pa_cons pe_int (pa_cons (pe_un un_neg pe_int) (pa_cons pe_int (pa_cons (pe_un un_neg pe_int) (pa_cons pe_int (pa_cons (pe_op op_sub (pe_op op_pow pe_int pe_int) pe_int) (pa_cons (pe_op op_sub pe_int (pe_op op_pow pe_int pe_int)) pa_nil))))))))) pa_nil))))) pss_nil)
        (pss_one (ps_ret (pe_ifExp (pt_cmpR op_lt (pv 1) pe_int (nomark _)) (pe_call G_law_number hr (by rfl) T.g_law_number T.F_law_number.kp T.b_law_number .nil pass0 (pa_cons (pv 0) (pa_cons (pe_lst pa_nil) pa_nil))) (pe_call G_law_word hr (by rfl) T.g_law_word T.F_law_word.kp T.b_law_word .nil pass0 (pa_cons (pv 0) (pa_cons pe_int pa_nil))))))))), ?_⟩
    repeat (walk_at "lw w")
    refine ⟨b, _, _, rfl, hb, by omega, by omega, by omega, fun way H1 w0 w1 B1 K1 => ?_⟩
    repeat (walk_at "lw w")
    refine ite2 (fun z => ?_) (fun z => ?_)
    · exact q _ _ (.inl rfl) (B1.mono (by omega)) K1
    repeat (walk_at "lw w")
    refine ite2 (fun z => ?_) (fun z => ?_)
    · repeat (walk_at "lw w")
      refine ⟨by walk_at "lw n", fun l nl => ?_⟩
      refine ⟨b, _, _, rfl, B1.new nl, by omega, .inl ⟨l, _, rfl, (B1.ne nl).symm, upd_same, by simp, by simp, fun v H2 hv B2 K2 => ?_⟩⟩
      refine q v H2 (.inr (.inl ?_)) (B2.mono (by omega)) (K1.trans ((Keep.new nl).trans K2))
      simp only [List.mem_cons, List.not_mem_nil, or_false] at hv
      rcases hv with rfl | rfl | rfl | rfl | rfl | rfl | rfl | rfl <;> exact ⟨_, rfl, by unfold IsNum; decide +kernel⟩
    repeat (walk_at "lw w")
    refine ite2 (fun z => ?_) (fun z => ?_)
    · repeat (walk_at "lw w")
      refine ⟨by walk_at "lw n", fun l nl => ?_⟩
      refine ⟨b, l, [], _, rfl, B1.new nl, by omega, upd_same, (B1.ne nl).symm, by simp, fun i H2 hi B2 K2 => ?_⟩
      exact q _ H2 (.inr (.inl ⟨i, rfl, hi⟩)) (B2.mono (by omega)) (K1.trans ((Keep.new nl).trans K2))
    · repeat (walk_at "lw w")
      refine ⟨b, 8, _, rfl, B1, by omega, by omega, by omega, fun u H2 hu B2 K2 => ?_⟩
      exact q _ H2 (.inr (.inr ⟨u, rfl, hu⟩)) (B2.mono (by omega)) (K1.trans K2)
theorem ok_law_written (T : Txt K mg) : FnOk P w K mg base CX0 2 T.f_law_written T.fd_law_written ["value"] sp_written := by
  have G_law_written : FnOk P w K mg base CX0 1 T.f_law_written T.fd_law_written ["value"] (fun _ _ _ _ => False) :=
    T.F_law_written.ok sc_law_written (fun vs H Q E h => h.elim) (fun cdv A outer s H vs Q E hr h => h.elim)
  refine T.F_law_written.ok sc_law_written (fun vs H Q E h => ?_) (fun cdv A outer s H vs Q E hr h => ?_)
  · obtain ⟨b, rfl, _⟩ := h
    rfl
  · obtain ⟨v, rfl, hv, q⟩ := h
    refine ⟨_, (pss_cons (ps_if (pt_val (pe_callB call_isi (by rfl) T.m_isinstance (by decide +kernel) (pa_cons (pv 0) (pa_cons (pe_bltn (v := .ty "tuple") (by rfl) T.m_tuple (by decide +kernel) rfl) pa_nil)))) (pss_one (ps_ret (pe_op op_add_str (pe_op op_add_str pe_str (pe_join pe_str (pe_lc (own := [("one", 1)]) (g := gName 1) rfl sc_law_written.nd (pi_tup (pv 0)) (blkOk_by (own := [("one", 1)]) (N := ["value", "one"]) (sc := defScope s_law_written) (by decide +kernel)) (fun _ _ _ _ _ => pg_name (i := 1) sc_law_written.nd rfl (.inl rfl)) (fun _ _ _ _ _ => pts_nil) (fun _ _ _ _ _ => (pe_call G_law_written hr (by rfl) T.g_law_written T.F_law_written.kp T.b_law_written .nil pass0 (pa_cons (pv 1) pa_nil)))))) pe_str))) pss_nil)
        (pss_cons (ps_if (pt_cmpR op_isN (pv 0) pe_non (nomark _)) (pss_one (ps_ret pe_str)) pss_nil)
        (pss_one (ps_ret (pe_ifExp (pt_val (pe_callB call_isi (by rfl) T.m_isinstance (by decide +kernel) (pa_cons (pv 0) (pa_cons (pe_bltn (v := .ty "str") (by rfl) T.m_str (by decide +kernel) rfl) pa_nil)))) (pe_op op_add_str (pe_op op_add_str pe_str (pv 0)) pe_str) (pe_callTy call_str_int (by rfl) T.m_str (by decide +kernel) (pa_cons (pv 0) pa_nil))))))), ?_⟩
    rcases hv with rfl | ⟨i, rfl, hi⟩ | ⟨z, rfl, hz⟩
    · repeat (walk_at "lw w")
      exact q _ _ constT_none (Same.refl _)
    · have hlog : i.natAbs.log2 < 1920 := by
        have h1 : i.natAbs < 2 ^ 1920 := Nat.lt_of_lt_of_le (show i.natAbs < 1000000000000000000000000000000 by obtain ⟨h1, h2⟩ := hi; omega) (by decide +kernel)
        exact PySem.Flt.log2_lt_of (by decide) h1
      repeat (walk_at "lw w")
      exact ⟨hlog, q _ _ (constT_num hi) (Same.refl _)⟩
    · have hs := PySem.sizeLine_eq
      have hzl := hz.1
      have hq1 : (Str.ofString "\"").length = 1 := by decide +kernel
      repeat (walk_at "lw w")
      refine ⟨by rw [hq1]; omega, ?_⟩
      repeat (walk_at "lw w")
      have hcat : (Str.ofString "\"" ++ z).length = z.length + 1 := by
        rw [← len_list]
        show ((Str.ofString "\"").cps ++ z.cps).toList.length = _
        rw [Array.toList_append, List.length_append, len_list, len_list, hq1]
        omega
      refine ⟨by rw [hcat, hq1]; omega, ?_⟩
      refine q _ _ (constT_str hz ?_) (Same.refl _)
      show ((Str.ofString "\"").cps ++ z.cps ++ (Str.ofString "\"").cps).toList = _
      rw [Array.toList_append, Array.toList_append, show (Str.ofString "\"").cps.toList = [34] by decide +kernel]
      rfl
theorem joinL_len {m : Nat} : ∀ {ws : List (List Nat)}, (∀ w ∈ ws, w.length ≤ m) → (joinL [44, 32] ws).length ≤ ws.length * (m + 2)
  | [], _ => Nat.zero_le _
  | [w], h => by
    have := h w List.mem_cons_self
    show w.length ≤ 1 * (m + 2)
    omega
  | w :: y :: r, h => by
    have h1 := h w List.mem_cons_self
    have h2 := joinL_len (ws := y :: r) fun v hv => h v (List.mem_cons_of_mem _ hv)
    show (w ++ [44, 32] ++ joinL [44, 32] (y :: r)).length ≤ _
    rw [List.length_append, List.length_append]
    have h3 : (w :: y :: r).length * (m + 2) = (y :: r).length * (m + 2) + (m + 2) := by rw [List.length_cons, Nat.succ_mul]
    rw [h3]
    have h4 : ([44, 32] : List Nat).length = 2 := rfl
    omega
theorem ok_law_call_text (T : Txt K mg) : FnOk P w K mg base CX0 3 T.f_law_call_text T.fd_law_call_text ["name", "values"] sp_calltext := by
  have G_law_written := ok_law_written (P := P) (w := w) (base := base) T
  refine T.F_law_call_text.ok sc_law_call_text (fun vs H Q E h => ?_) (fun cdv A outer s H vs Q E hr h => ?_)
  · obtain ⟨n, l, xs, rfl, _⟩ := h
    rfl
  · obtain ⟨n, l, xs, rfl, hl, hn, hx, hv, q⟩ := h
    refine ⟨_, (pss_one (ps_ret (pe_op op_add_str (pe_op op_add_str (pe_op op_add_str (pv 0) pe_str) (pe_join pe_str (pe_lc (own := [("value", 2)]) (g := gName 2) rfl sc_law_call_text.nd (pi_list (pv 1)) (blkOk_by (own := [("value", 2)]) (N := ["name", "values", "value"]) (sc := defScope s_law_call_text) (by decide +kernel)) (fun _ _ _ _ _ => pg_name (i := 2) sc_law_call_text.nd rfl (.inl rfl)) (fun _ _ _ _ _ => pts_nil) (fun _ _ _ _ _ => (pe_call G_law_written hr (by rfl) T.g_law_written T.F_law_written.kp T.b_law_written .nil pass0 (pa_cons (pv 2) pa_nil)))))) pe_str))), ?_⟩
    have hs := PySem.sizeLine_eq
    have h1 : (Str.ofString "(").length = 1 := by decide +kernel
    have catl : ∀ a b : Str, (a ++ b).length = a.length + b.length := fun a b => by
      rw [← len_list, ← len_list, ← len_list]
      show (a.cps ++ b.cps).toList.length = _
      rw [Array.toList_append, List.length_append]
    repeat (walk_at "lw w")
    refine ⟨by rw [h1]; omega, ?_⟩
    repeat (walk_at "lw w")
    refine ⟨⟨_, SqL.of hl⟩, fun D nD => ?_⟩
    refine lc_list (K := K) (a := l) (xs := xs) (fun i H' => ∃ ws : List Str, H' D = some (.lst (ws.map V.str)) ∧ ws.length = i ∧ (∀ w ∈ ws, ConstT w) ∧ Same H H') ?_ ?_ ?_ ?_
    · exact ⟨[], upd_same, rfl, fun _ h => (nomatch h), same_new nD⟩
    · rintro i H' _ ⟨_, _, _, _, S⟩
      exact SqL.of (S _ _ hl)
    · rintro i x H' hx2 ⟨ws, eD, el, hw, S⟩
      refine ⟨rfl, _, rfl, x, rfl, hv x (List.mem_of_getElem? hx2), fun w H3 cw S3 => ?_⟩
      have hi : i < xs.length := (List.getElem?_eq_some_iff.mp hx2).1
      refine ⟨_, S3 _ _ eD, ?_, ws ++ [w], ?_, ?_, ?_, ?_⟩
      · rw [List.length_map]
        exact small1000 (by omega)
      · rw [upd_same, List.map_append]
        rfl
      · rw [List.length_append, el]
        rfl
      · intro y hy
        rcases List.mem_append.mp hy with h | h
        · exact hw y h
        · rw [List.mem_singleton.mp h]
          exact cw
      · intro q' o e
        rw [upd_ne (ne_of_none e nD)]
        exact S3 _ _ (S _ _ e)
    · rintro H' ⟨ws, eD, el, hw, S⟩
      have hll : ∀ y ∈ ws.map fun w => w.cps.toList, y.length ≤ 31 := fun y hy => by
        obtain ⟨w, h, e⟩ := List.mem_map.mp hy
        rw [← e, len_list]
        exact (hw w h).2.2.2.1
      have hjl := joinL_len hll
      have hj : (Txt.join (Str.ofString ", ") ws).cps.toList = joinL [44, 32] (ws.map fun w => w.cps.toList) := by
        rw [join_list, show (Str.ofString ", ").cps.toList = [44, 32] by decide +kernel]
      have hjn : (Txt.join (Str.ofString ", ") ws).length ≤ 400 := by
        rw [← len_list, hj]
        rw [List.length_map] at hjl
        have : ws.length * (31 + 2) ≤ 10 * 33 := Nat.mul_le_mul (by omega) (by decide)
        omega
      have hsum : (ws.map (·.length)).sum ≤ ws.length * 31 := by
        clear hjl hj hjn hll eD el
        induction ws with
        | nil => exact Nat.zero_le _
        | cons y r ih =>
          have h1 := (hw y List.mem_cons_self).2.2.2.1
          have h2 := ih fun v hv => hw v (List.mem_cons_of_mem _ hv)
          rw [List.map_cons, List.sum_cons, List.length_cons, Nat.succ_mul]
          omega
      refine ⟨_, D, ws, rfl, rfl, .inl (SqL.of eD), ?_, ?_⟩
      · have h2 : (Str.ofString ", ").length = 2 := by decide +kernel
        have : ws.length * 31 ≤ 10 * 31 := Nat.mul_le_mul (by omega) (by decide)
        rw [h2]
        omega
      · repeat (walk_at "lw w")
        refine ⟨by rw [catl, h1]; omega, ?_⟩
        repeat (walk_at "lw w")
        refine ⟨by rw [catl, catl, h1, show (Str.ofString ")").length = 1 by decide +kernel]; omega, ?_⟩
        refine q _ ws H' ?_ (by omega) hw S
        show (n.cps ++ (Str.ofString "(").cps ++ (Txt.join (Str.ofString ", ") ws).cps ++ (Str.ofString ")").cps).toList = _
        rw [Array.toList_append, Array.toList_append, Array.toList_append, hj, show (Str.ofString "(").cps.toList = [40] by decide +kernel, show (Str.ofString ")").cps.toList = [41] by decide +kernel]
        simp
theorem ok_law_keywords (T : Txt K mg) : FnOk P w K mg base CX0 1 T.f_law_keywords T.fd_law_keywords [] sp_keywords := by
  refine T.F_law_keywords.ok sc_law_keywords (fun vs H Q E h => ?_) (fun cdv A outer s H vs Q E hr h => ?_)
  · obtain ⟨rfl, _⟩ := h
    rfl
  · obtain ⟨rfl, q⟩ := h
    refine ⟨_, (pss_one (ps_ret (pe_lst (pa_cons pe_str (pa_cons pe_str (pa_cons pe_str (pa_cons pe_str (pa_cons pe_str (pa_cons pe_str (pa_cons pe_str (pa_cons pe_str (pa_cons pe_str (pa_cons pe_str (pa_cons pe_str (pa_cons pe_str (pa_cons pe_str (pa_cons pe_str (pa_cons pe_str (pa_cons pe_str (pa_cons pe_str (pa_cons pe_str (pa_cons pe_str (pa_cons pe_str (pa_cons pe_str (pa_cons pe_str (pa_cons pe_str (pa_cons pe_str (pa_cons pe_str (pa_cons pe_str (pa_cons pe_str (pa_cons pe_str (pa_cons pe_str (pa_cons pe_str (pa_cons pe_str (pa_cons pe_str (pa_cons pe_str (pa_cons pe_str pa_nil))))))))))))))))))))))))))))))))))))), ?_⟩
    refine ⟨by decide, fun l nl => q l nl⟩
theorem ok_law_any_name (T : Txt K mg) : FnOk P w K mg base CX0 3 T.f_law_any_name T.fd_law_any_name ["bag"] sp_anyname := by
  have G_law_take := ok_law_take (P := P) (w := w) (base := base) T
  have G_law_of := ok_law_of (P := P) (w := w) (base := base) T
  have G_law_keywords := ok_law_keywords (P := P) (w := w) (base := base) T
  refine T.F_law_any_name.ok sc_law_any_name (fun vs H Q E h => ?_) (fun cdv A outer s H vs Q E hr h => ?_)
  · obtain ⟨b, n, rfl, _⟩ := h
    rfl
  · obtain ⟨b, n, rfl, hb, hn, q⟩ := h
    refine ⟨_, (pss_cons (ps_set (i := 1) sc_law_any_name.nd rfl (.inl rfl) pe_str)
        (pss_cons (ps_set (i := 2) sc_law_any_name.nd rfl (.inl rfl) (pe_call G_law_of hr (by rfl) T.g_law_of T.F_law_of.kp T.b_law_of .nil pass0 (pa_cons (pv 0) (pa_cons (pv 1) pa_nil))))
        (pss_cons (ps_for PassesOwn.never rfl (pi_range1 (by rfl) T.m_range (pa_cons (pe_call G_law_take (hr.mono (by omega)) (by rfl) T.g_law_take T.F_law_take.kp T.b_law_take .nil pass0 (pa_cons (pv 0) (pa_cons pe_int pa_nil))) pa_nil)) (pg_name (i := 3) sc_law_any_name.nd rfl (.inl rfl)) (pss_one (ps_set (i := 2) sc_law_any_name.nd rfl (.inl rfl) (pe_op op_add_str (pv 2) (pe_call G_law_of hr (by rfl) T.g_law_of T.F_law_of.kp T.b_law_of .nil pass0 (pa_cons (pv 0) (pa_cons (pv 1) pa_nil)))))))
        (pss_cons (ps_if (pt_cmpR op_in_seq (pv 2) (pe_call0 G_law_keywords (hr.mono (by omega)) (by rfl) T.g_law_keywords T.F_law_keywords.kp T.b_law_keywords .nil pass0) (by rfl)) (pss_one (ps_set (i := 2) sc_law_any_name.nd rfl (.inl rfl) (pe_op op_add_str pe_str (pv 2)))) pss_nil)
        (pss_one (ps_ret (pv 2))))))), ?_⟩
    have hs := PySem.sizeLine_eq
    have lows : ∀ c ∈ (Str.ofString "abcdefghijklmnopqrstuvwxyz").cps.toList, isLow c = true := by decide +kernel
    repeat (walk_at "lw w")
    refine ⟨b, _, n, rfl, hb, by omega, .inr ⟨_, rfl, by decide +kernel, by decide +kernel, fun c H1 hc hB1 hK1 => ?_⟩⟩
    repeat (walk_at "lw w")
    refine ⟨b, _, _, rfl, hB1, by omega, by decide, by decide, fun d H2 d0 d1 hB2 hK2 => ?_⟩
    repeat (walk_at "lw w")
    refine ⟨by omega, by omega, ?_⟩
    refine for_range (lo := 0) (n := d.toNat) (fun i σ H' => ∃ (z : Str) (t : Option V), σ = [some (.ref b), some (.str (Str.ofString "abcdefghijklmnopqrstuvwxyz")), some (.str z), t] ∧
        z.length = i + 1 ∧ z.cps.toList.all isLow = true ∧ Bag H' b (n + 2 + i) ∧ Keep b H H') ?_ ?_ ?_
    · refine ⟨_, none, rfl, rfl, ?_, hB2.mono (by omega), hK1.trans hK2⟩
      show [c].all isLow = true
      rw [List.all_cons, lows c hc]
      rfl
    · rintro i σ H' hi ⟨z, t, rfl, el, ec, hB, hK⟩
      repeat (walk_at "lw w")
      refine ⟨b, _, _, rfl, hB, by omega, .inr ⟨_, rfl, by decide +kernel, by decide +kernel, fun c2 H3 hc2 hB3 hK3 => ?_⟩⟩
      refine ⟨z, ⟨#[c2]⟩, rfl, rfl, ?_, ?_⟩
      · show z.length + 1 ≤ _
        omega
      · refine ⟨z ++ ⟨#[c2]⟩, _, rfl, ?_, ?_, hB3.mono (by omega), hK.trans hK3⟩
        · rw [← len_list]
          show (z.cps ++ #[c2]).toList.length = _
          rw [Array.toList_append, List.length_append, len_list, el]
          rfl
        · show (z.cps ++ #[c2]).toList.all isLow = true
          rw [Array.toList_append, List.all_append, ec]
          simp only [List.all_cons, lows c2 hc2, List.all_nil, Bool.and_true]
    · rintro σ H' ⟨z, t, rfl, el, ec, hB, hK⟩
      have hw12 : isWordZ z 12 = true := by
        unfold isWordZ
        rw [ec, decide_eq_true (show z.length ≤ 12 by omega)]
        rfl
      have hne : ¬ z = Str.ofString "" := fun h => by
        rw [h] at el
        have : (Str.ofString "").length = 0 := by decide +kernel
        omega
      repeat (walk_at "lw w")
      intro l nl
      refine ⟨l, vals_KEYWORDS, rfl, .inl (SqL.of upd_same), rfl, ?_, ?_⟩
      · refine List.all_eq_true.mpr fun y hy => ?_
        obtain ⟨k, rfl⟩ := vals_strs y hy
        rfl
      · have hB3 := hB.new (o := .lst vals_KEYWORDS) nl
        have hK3 : Keep b H (upd H' l (.lst vals_KEYWORDS)) := hK.trans (Keep.new nl)
        refine ⟨_, rfl, ?_⟩
        show if inV (.str z) vals_KEYWORDS = true then _ else _
        cases hin : inV (.str z) vals_KEYWORDS with
        | false =>
          repeat (walk_at "lw w")
          refine q z _ ?_ (hB3.mono (by omega)) hK3
          unfold isNameZ
          rw [hw12, hin, decide_eq_false hne]
          rfl
        | true =>
          have hq : isNameZ (Str.ofString "q" ++ z) = true := by
            obtain ⟨y, hy, e⟩ := List.any_eq_true.mp hin
            have h1 := List.all_eq_true.mp q_names y hy
            obtain ⟨k, rfl⟩ := vals_strs y hy
            have e2 : k = z := eq_of_beq e
            rw [← e2]
            exact h1
          have h1 : (Str.ofString "q").length = 1 := by decide +kernel
          repeat (walk_at "lw w")
          refine ⟨by rw [h1]; omega, ?_⟩
          repeat (walk_at "lw w")
          exact q _ _ hq (hB3.mono (by omega)) hK3
theorem ok_law_any_call (T : Txt K mg) : FnOk P w K mg base CX0 5 T.f_law_any_call T.fd_law_any_call ["bag"] sp_anycall := by
  have G_law_take := ok_law_take (P := P) (w := w) (base := base) T
  have G_law_any_constant := ok_law_any_constant (P := P) (w := w) (base := base) T
  have G_law_call_text := ok_law_call_text (P := P) (w := w) (base := base) T
  have G_law_any_name := ok_law_any_name (P := P) (w := w) (base := base) T
  refine T.F_law_any_call.ok sc_law_any_call (fun vs H Q E h => ?_) (fun cdv A outer s H vs Q E hr h => ?_)
  · obtain ⟨b, n, rfl, _⟩ := h
    rfl
  · obtain ⟨b, n, rfl, hb, hn, q⟩ := h
    refine ⟨_, (pss_cons (ps_setLc (i := 1) (own := [("turn", 2)]) (g := gName 2) rfl sc_law_any_call.nd rfl rfl (sw_true rfl rfl rfl (by decide +kernel)) (pi_range1 (by rfl) T.m_range (pa_cons (pe_call G_law_take (hr.mono (by omega)) (by rfl) T.g_law_take T.F_law_take.kp T.b_law_take .nil pass0 (pa_cons (pv 0) (pa_cons pe_int pa_nil))) pa_nil)) (blkOk_by (own := [("turn", 2)]) (N := ["bag", "some", "turn"]) (sc := defScope s_law_any_call) (by decide +kernel)) (fun _ _ _ _ _ => pg_name (i := 2) sc_law_any_call.nd rfl (.inl rfl)) (fun _ _ _ _ _ => pts_nil) (fun _ _ _ _ _ => (pe_call G_law_any_constant hr (by rfl) T.g_law_any_constant T.F_law_any_constant.kp T.b_law_any_constant .nil pass0 (pa_cons (pv 0) pa_nil))))
        (pss_one (ps_ret (pe_call G_law_call_text (hr.mono (by omega)) (by rfl) T.g_law_call_text T.F_law_call_text.kp T.b_law_call_text .nil pass0 (pa_cons (pe_call G_law_any_name (hr.mono (by omega)) (by rfl) T.g_law_any_name T.F_law_any_name.kp T.b_law_any_name .nil pass0 (pa_cons (pv 0) pa_nil)) (pa_cons (pv 1) pa_nil)))))), ?_⟩
    repeat (walk_at "lw w")
    refine ⟨b, _, _, rfl, hb, by omega, by omega, by omega, fun d H1 d0 d1 B1 K1 => ?_⟩
    repeat (walk_at "lw w")
    refine ⟨by omega, by omega, fun D nD => ?_⟩
    have nbD : b ≠ D := B1.ne nD
    refine lc_range (lo := 0) (n := d.toNat) (fun i H' => ∃ xs : List V, H' D = some (.lst xs) ∧ xs.length = i ∧ (∀ v ∈ xs, ConstV v) ∧ Bag H' b (n + 1 + 210 * i) ∧ Keep b H1 H') ?_ ?_ ?_
    · exact ⟨[], upd_same, rfl, fun _ h => (nomatch h), (B1.new nD).mono (by omega), Keep.new nD⟩
    · rintro i H' hi ⟨xs, eD, el, hv, hB, hK⟩
      refine ⟨rfl, ?_⟩
      repeat (walk_at "lw w")
      refine ⟨b, _, rfl, hB, by omega, fun v H3 cv B3 K3 => ?_⟩
      refine ⟨_, K3 _ _ nbD.symm eD, small1000 (by omega), xs ++ [v], upd_same, ?_, ?_, (B3.upd nbD).mono (by omega), ?_⟩
      · rw [List.length_append, el]
        rfl
      · intro y hy
        rcases List.mem_append.mp hy with h | h
        · exact hv y h
        · rw [List.mem_singleton.mp h]
          exact cv
      · intro q' o nq e
        rw [upd_ne (ne_of_none e nD)]
        exact K3 _ _ nq (hK _ _ nq e)
    · rintro H' ⟨xs, eD, el, hv, hB, hK⟩
      repeat (walk_at "lw w")
      refine ⟨b, _, rfl, hB, by omega, fun z H3 hz B3 K3 => ?_⟩
      have hzl := (name_low hz).1
      repeat (walk_at "lw w")
      refine ⟨z, D, xs, rfl, K3 _ _ nbD.symm eD, by omega, by omega, hv, fun t ws H4 et ew hw S4 => ?_⟩
      refine q t H4 (call_good hz (by omega) hw et) ?_ ?_ ?_ ?_
      · have hll : ∀ y ∈ ws.map fun w => w.cps.toList, y.length ≤ 31 := fun y hy => by
          obtain ⟨w, h, e⟩ := List.mem_map.mp hy
          rw [← e, len_list]
          exact (hw w h).2.2.2.1
        have hjl := joinL_len hll
        rw [List.length_map] at hjl
        have h3 : ws.length * (31 + 2) ≤ 10 * 33 := Nat.mul_le_mul (by omega) (by decide)
        rw [← len_list, et, List.length_append, List.length_cons, List.length_append, len_list]
        have h4 : ([41] : List Nat).length = 1 := rfl
        omega
      · refine strOk_of ?_
        have h1 : z.cps.toList.all okc = true := List.all_eq_true.mpr fun c hc => by
          have := of_decide_eq_true (List.all_eq_true.mp (name_low hz).2 c hc)
          exact decide_eq_true (by omega)
        rw [et, List.all_append, List.all_cons, List.all_append, h1, joinL_ok]
        · rfl
        · intro y hy
          obtain ⟨w, h, e⟩ := List.mem_map.mp hy
          rw [← e]
          exact (hw w h).2.2.2.2
      · obtain ⟨x1, x2, x3, ex, rx⟩ := B3
        exact Bag.mono ⟨x1, x2, x3, S4 _ _ ex, rx⟩ (by omega)
      · exact fun q' o nq e => S4 _ _ (K3 _ _ nq (hK _ _ nq (K1 _ _ nq e)))
end

theorem keep_same {b : Addr} {H H1 H2 : Hp} (s : Same H H1) (nb : H b = none) (k : Keep b H1 H2) : Same H H2 := fun q o e => k q o (ne_of_none e nb) (s q o e)
theorem kit2 {K : PySem.W.Frag} {a c1 c2 : String} {r1 r2 : Bool} (h1 : kitB a c1 = some r1) (h2 : kitB a c2 = some r2) : PySem.W.kitAny K (.type a) [.type c1, .type c2] = some (r1 || r2) := by
  refine kitAny_cons (kit_ty h1) (fun e => ?_) (fun e => by rw [e]; rfl)
  rw [e, Bool.false_or]
  exact kitAny_cons (kit_ty h2) (fun e => by rw [e]; exact kitAny_nil) (fun e => e)
def spLaw (K : PySem.W.Frag) : Sp := fun vs H Q _ => ∃ (a : Addr) (ns : List Int), vs = [.ref a] ∧ SqL K H a (ns.map V.int) ∧ ns.length ≤ 63 ∧ (∀ z ∈ ns, Builtin.Int.intBits z ≤ 1048576) ∧ ∀ H', Q (.bl true) H'

/-! ### the law -/
/-- a value that is no call text, at its heap -/
def Bad (K : PySem.W.Frag) (G : Hp) (v : V) : Prop := ∃ d, Dp K G v d ∧ isCallD d = false ∧ shortD d = true
def strD (z : Str) : PyData := .str z
theorem dp_strs {K : PySem.W.Frag} {G : Hp} : ∀ zs : List Str, DpAll K G (zs.map V.str) (zs.map strD)
  | [] => .nil
  | z :: r => .cons (.str z) (dp_strs r)
theorem shaped_strs {zs : List Str} (h : ∀ z ∈ zs, PyData.strOk z = true) : SeqAt.shaped (.list (zs.map strD)) = true := by
  have key : PyData.canLayAll0 (zs.map strD) = true ∧ PyData.depthAll (zs.map strD) = 0 := by
    induction zs with
    | nil => exact ⟨rfl, rfl⟩
    | cons z r ih =>
      obtain ⟨i1, i2⟩ := ih fun y hy => h y (List.mem_cons_of_mem _ hy)
      refine ⟨?_, ?_⟩
      · show (PyData.strOk z && PyData.canLayAll0 (r.map strD)) = true
        rw [h z List.mem_cons_self, i1]
        rfl
      · show max 0 (PyData.depthAll (r.map strD)) = 0
        rw [i2]
        rfl
  show (PyData.canLayAll0 (zs.map strD) && decide (PyData.depthAll (zs.map strD) + 1 ≤ 64)) = true
  rw [key.1, key.2]
  rfl
theorem DpAll.set {K : PySem.W.Frag} {H : Hp} {v : V} {d : PyData} (h : Dp K H v d) : ∀ {vs : List V} {ds : List PyData} (j : Nat), DpAll K H vs ds → DpAll K H (vs.set j v) (ds.set j d)
  | _, _, _, .nil => .nil
  | _, _, 0, .cons _ b => .cons h b
  | _, _, j + 1, .cons a b => .cons a (DpAll.set h j b)
theorem ixN_at {n j : Nat} (hj : j < n) : ixN n (j : Int) = some j := by
  unfold ixN
  rw [if_pos (by omega), if_pos (by omega)]
  simp
theorem path_t1 {ds : List PyData} {n : Nat} (h : ds.all isCallD = true) (e : ds.length = n) : isPathD false (.tuple ds) = decide (V.int (n : Int) = V.int 1) := by
  show (!decide (ds.length = 0) && ((false || decide (ds.length = 1)) && ds.all isCallD)) = _
  rw [h, e, Bool.and_true, Bool.false_or]
  by_cases h1 : n = 1
  · rw [h1]; rfl
  · rw [decide_eq_false h1, Bool.and_false]
    exact (decide_eq_false fun h => h1 (by have := V.int.inj h; omega)).symm
theorem path_t2 {ds : List PyData} {n : Nat} (h : ds.all isCallD = true) (e : ds.length = n) : isPathD true (.tuple ds) = decide (0 < (n : Int)) := by
  show (!decide (ds.length = 0) && ((true || decide (ds.length = 1)) && ds.all isCallD)) = _
  rw [h, e, Bool.and_true, Bool.true_or, Bool.and_true]
  cases n with
  | zero => rfl
  | succ n => rw [decide_eq_false (by omega), decide_eq_true (by omega)]; rfl
theorem path_f {ds : List PyData} {ag : Bool} (h : ds.all isCallD = false) : isPathD ag (.tuple ds) = false := by
  show (!decide (ds.length = 0) && ((ag || decide (ds.length = 1)) && ds.all isCallD)) = _
  rw [h, Bool.and_false, Bool.and_false]
theorem gen2 {G p a b} {a' b' : Bool} {φ : Hp → Prop} (np : G p = none) (ha : a' = a) (hb : b' = b) (h : ∀ G', Same G G' → G' p = some (.tup [.bl a', .bl b']) → φ G') : φ (upd G p (.tup [.bl a, .bl b])) := by
  subst ha hb
  exact h _ (same_new np) upd_same
theorem two_bools {r1 r2 : Bool} : PyData.eqv (.tuple [.bool r1, .bool r2]) (.tuple [.bool r1, .bool r2]) = true := by
  show (r1 == r1 && (r2 == r2 && true)) = true
  rw [beq_self_eq_true, beq_self_eq_true]
  rfl
set_option hygiene false in
local macro_rules | `(tactic| walk_at "tail10") => `(tactic| (
  repeat (walk_at "lw w")
  refine ⟨_, _, rfl, .inl ⟨SqL.of eG, fun p np => ?_⟩⟩
  have S9 : Same G (upd G p (.tup vs)) := same_new np
  have eP : upd G p (.tup vs) p = some (.tup vs) := upd_same
  have eG9 := S9 _ _ eG
  have hG9 := hG.trans S9
  have hdp9 := DpAll.same S9 _ _ hdp
  generalize upd G p (.tup vs) = G9 at *
  repeat (walk_at "lw w")
  refine ⟨by walk_at "lw n", fun p2 np2 => ?_⟩
  refine gen2 (a' := isPathD false (.tuple ds)) (b' := isPathD true (.tuple ds)) np2 (by first | exact path_t1 hall hld | exact path_f hall) (by first | exact path_t2 hall hld | exact path_f hall) fun H1 S1 eU => ?_
  have eP1 := S1 _ _ eP
  have eG1 := S1 _ _ eG9
  have hdp1 := DpAll.same S1 _ _ hdp9
  have hd1 : Dp K H1 (.ref p) (.tuple ds) := .tup (SqT.of eP1) hdp1
  have hok : pathOk (.tuple ds) := ⟨by omega, hsh⟩
  have S01 := hG9.trans S1
  clear eP eG9 hdp9 hG9 S1 np2 np hall eG hdp hG S9
  repeat (walk_at "lw w")
  refine ⟨_, _, _, rfl, hd1, hok, fun r1 H2 er1 S2 => ?_⟩
  subst er1
  repeat (walk_at "lw w")
  refine ⟨_, _, _, rfl, Dp.same S2 _ _ hd1, hok, fun r2 H3 er2 S3 => ?_⟩
  subst er2
  repeat (walk_at "lw w")
  refine ⟨by walk_at "lw n", fun p3 np3 => ?_⟩
  have S4 : Same H3 (upd H3 p3 (.tup [.bl (isPathD false (.tuple ds)), .bl (isPathD true (.tuple ds))])) := same_new np3
  have eT : upd H3 p3 (.tup [.bl (isPathD false (.tuple ds)), .bl (isPathD true (.tuple ds))]) p3 = some (.tup [.bl (isPathD false (.tuple ds)), .bl (isPathD true (.tuple ds))]) := upd_same
  generalize upd H3 p3 (.tup [.bl (isPathD false (.tuple ds)), .bl (isPathD true (.tuple ds))]) = H4 at *
  have S14 := (S2.trans S3).trans S4
  have hd4 := Dp.same S14 _ _ hd1
  have hdp4 := DpAll.same S14 _ _ hdp1
  have eU4 := S14 _ _ eU
  have eG4 := S14 _ _ eG1
  have S04 := S01.trans S14
  clear hd1 hdp1 eU eG1 S01 S14 S2 S3 S4 np3 eP1
  repeat (walk_at "lw w")
  refine ⟨.tuple [.bool (isPathD false (.tuple ds)), .bool (isPathD true (.tuple ds))], .tuple [.bool (isPathD false (.tuple ds)), .bool (isPathD true (.tuple ds))], .tup (SqT.of eT) (.cons (.bl _) (.cons (.bl _) .nil)), .tup (SqT.of eU4) (.cons (.bl _) (.cons (.bl _) .nil)), rfl, rfl, ?_⟩
  rw [two_bools]
  repeat (walk_at "lw w")
  refine ⟨_, _, _, rfl, hd4, hok, fun r3 H5 er3 S5 => ?_⟩
  subst er3
  have tU5 : SqT K H5 p2 [.bl (isPathD false (.tuple ds)), .bl (isPathD true (.tuple ds))] := SqT.of (S5 _ _ eU4)
  repeat (walk_at "lw w")
  refine ifF (by rw [decide_eq_true rfl]; rfl) ?_
  repeat (walk_at "lw w")
  refine ⟨_, _, _, rfl, Dp.same S5 _ _ hd4, hok, fun r4 H6 er4 S6 => ?_⟩
  subst er4
  have tU6 := SqT.same S6 tU5
  repeat (walk_at "lw w")
  refine ifF (by rw [decide_eq_true rfl]; rfl) ?_
  have S06 := S04.trans (S5.trans S6)
  have eG6 := S6 _ _ (S5 _ _ eG4)
  have hd6 : Dp K H6 (.ref D) (.list ds) := .lst (SqL.of eG6) (DpAll.same (S5.trans S6) _ _ hdp4)
  clear tU5 tU6 S5 S6 S04 eU4 eT hdp4 hd4 eG6 eG4
  repeat (walk_at "lw w")
  refine ⟨by walk_at "lw n", fun l9 nl9 => ?_⟩
  have S9 : Same H6 (upd H6 l9 (.lst [.str (Str.ofString "f()")])) := same_new nl9
  have e9 : upd H6 l9 (.lst [.str (Str.ofString "f()")]) l9 = some (.lst [.str (Str.ofString "f()")]) := upd_same
  generalize upd H6 l9 (.lst [.str (Str.ofString "f()")]) = H9 at *
  repeat (walk_at "lw w")
  refine ⟨by walk_at "lw n", fun l10 nl10 => ?_⟩
  have S10 : Same H9 (upd H9 l10 (.tup [])) := same_new nl10
  have e10 : upd H9 l10 (.tup []) l10 = some (.tup []) := upd_same
  generalize upd H9 l10 (.tup []) = H10 at *
  repeat (walk_at "lw w")
  refine ⟨by walk_at "lw n", fun M nM => ?_⟩
  have S11 := fun o : HO => same_new (o := o) nM
  have hv : ∀ x ∈ ([.ref D, .non, .int 0, .bl true, .str (Str.ofString "f()"), .ref l9, .ref l10] : List V), ∃ d, Dp K H10 x d ∧ pathOk d ∧ ∀ ag, isPathD ag d = false := by
    intro x hx
    simp only [List.mem_cons, List.not_mem_nil, or_false] at hx
    rcases hx with rfl | rfl | rfl | rfl | rfl | rfl | rfl
    · exact ⟨_, Dp.same (S9.trans S10) _ _ hd6, trivial, fun _ => rfl⟩
    · exact ⟨_, .non, trivial, fun _ => rfl⟩
    · exact ⟨_, .int _, trivial, fun _ => rfl⟩
    · exact ⟨_, .bl _, trivial, fun _ => rfl⟩
    · exact ⟨_, .str _, trivial, fun _ => rfl⟩
    · exact ⟨_, .lst (SqL.of (S10 _ _ e9)) (.cons (.str _) .nil), trivial, fun _ => rfl⟩
    · exact ⟨_, .tup (SqT.of e10) .nil, ⟨Nat.zero_le _, fun e h => nomatch h⟩, fun _ => rfl⟩
  have S010 := S06.trans (S9.trans S10)
  clear S9 S10 e9 e10 nl9 nl10 S06 hd6
  generalize ([.ref D, .non, .int 0, .bl true, .str (Str.ofString "f()"), .ref l9, .ref l10] : List V) = xs at *
  have eM : upd H10 M (.lst xs) M = some (.lst xs) := upd_same
  have hvM : ∀ x ∈ xs, ∃ d, Dp K (upd H10 M (.lst xs)) x d ∧ pathOk d ∧ ∀ ag, isPathD ag d = false := fun x hx => by
    obtain ⟨d, h1, h2⟩ := hv x hx
    exact ⟨d, Dp.same (S11 _) _ _ h1, h2⟩
  have S0M := S010.trans (S11 (.lst xs))
  clear hv S010 S11 nM
  generalize upd H10 M (.lst xs) = HM at *
  refine ⟨M, rfl, ⟨xs, SqL.of eM⟩, ?_⟩
  refine for_list (K := K) (a := M) (xs := xs) (fun j σ H' => Same HM H' ∧ ∃ t1 t2 t3 t4 t5 t6 t7 t8 t9 : Option V, σ = [some (.ref a), t1, t2, t3, t4, t5, t6, t7, t8, t9]) ?_ ?_ ?_ ?_
  · exact ⟨Same.refl _, _, _, _, _, _, _, _, _, _, rfl⟩
  · rintro j σ H' _ ⟨S, _⟩
    exact SqL.of (S _ _ eM)
  · rintro j x σ H' hx ⟨S, t1, t2, t3, t4, t5, t6, t7, t8, t9, rfl⟩
    obtain ⟨d, hd, hf, hp⟩ := hvM x (List.mem_of_getElem? hx)
    have hd := Dp.same S _ _ hd
    repeat (walk_at "lw w")
    refine ⟨_, _, d, rfl, hd, hf, fun r1 H1 er1 S1 => ?_⟩
    rw [hp] at er1
    subst er1
    repeat (walk_at "lw w")
    refine ⟨_, _, d, rfl, Dp.same S1 _ _ hd, hf, fun r2 H2 er2 S2 => ?_⟩
    rw [hp] at er2
    subst er2
    repeat (walk_at "lw w")
    exact ⟨S.trans (S1.trans S2), _, _, _, _, _, _, _, _, _, rfl⟩
  · rintro σ H' ⟨S, t1, t2, t3, t4, t5, t6, t7, t8, t9, rfl⟩
    repeat (walk_at "lw w")
    exact ⟨S0M.trans S, _, _, _, _, _, _, _, _, _, rfl⟩))
section
variable {P : Program} {w : World} {K : PySem.W.Frag} {mg : Str → Option Value} {base : Heap}
theorem ok_law (T : Txt K mg) {f : Addr} {fd : FuncData} (F : Fun K "law" "law" s_law f fd) : FnOk P w K mg base CX0 7 f fd ["script"] (spLaw K) := by
  have G_law_bag := ok_law_bag (P := P) (w := w) (base := base) T
  have G_law_take := ok_law_take (P := P) (w := w) (base := base) T
  have G_law_of := ok_law_of (P := P) (w := w) (base := base) T
  have G_law_any_call := ok_law_any_call (P := P) (w := w) (base := base) T
  have G_is_path := ok_is_path (P := P) (w := w) (base := base) T
  refine F.ok sc_law (fun vs H Q E h => ?_) (fun cdv A outer s H vs Q E hr h => ?_)
  · obtain ⟨b, ns, rfl, _⟩ := h
    rfl
  · obtain ⟨a, ns, rfl, hS, hlen, _, q⟩ := h
    refine ⟨_, (pss_cons (ps_for PassesOwn.never rfl (pi_range1 (by rfl) T.m_range (pa_cons (pe_callB (call_max2 rfl) (by rfl) T.m_max (by decide +kernel) (pa_cons pe_int (pa_cons (pe_callB (call_min2 rfl) (by rfl) T.m_min (by decide +kernel) (pa_cons pe_int (pa_cons (pe_callB call_len (by rfl) T.m_len (by decide +kernel) (pa_cons (pv 0) pa_nil)) pa_nil))) pa_nil))) pa_nil)) (pg_name (i := 1) sc_law.nd rfl (.inl rfl)) (pss_cons (ps_set (i := 2) sc_law.nd rfl (.inr rfl) (pe_call G_law_bag (hr.mono (by omega)) (by rfl) T.g_law_bag T.F_law_bag.kp T.b_law_bag .nil pass0 (pa_cons (pv 0) (pa_cons (pv 1) pa_nil))))
        (pss_cons (ps_setLc (i := 3) (own := [("turn", 9)]) (g := gName 9) rfl sc_law.nd rfl rfl (sw_true rfl rfl rfl (by decide +kernel)) (pi_range1 (by rfl) T.m_range (pa_cons (pe_call G_law_of (hr.mono (by omega)) (by rfl) T.g_law_of T.F_law_of.kp T.b_law_of .nil pass0 (pa_cons (pv 2) (pa_cons (pe_lst (pa_cons pe_int (pa_cons pe_int (pa_cons pe_int (pa_cons pe_int (pa_cons (pe_call G_law_take (hr.mono (by omega)) (by rfl) T.g_law_take T.F_law_take.kp T.b_law_take .nil pass0 (pa_cons (pv 2) (pa_cons pe_int pa_nil))) pa_nil)))))) pa_nil))) pa_nil)) (blkOk_by (own := [("turn", 9)]) (N := ["script", "at", "bag", "some", "wrong", "is_right", "path", "due", "one", "turn"]) (sc := defScope s_law) (by decide +kernel)) (fun _ _ _ _ _ => pg_name (i := 9) sc_law.nd rfl (.inl rfl)) (fun _ _ _ _ _ => pts_nil) (fun _ _ _ _ _ => (pe_call G_law_any_call (hr.mono (by omega)) (by rfl) T.g_law_any_call T.F_law_any_call.kp T.b_law_any_call .nil pass0 (pa_cons (pv 2) pa_nil))))
        (pss_cons (ps_set (i := 4) sc_law.nd rfl (.inl rfl) (pe_call G_law_of (hr.mono (by omega)) (by rfl) T.g_law_of T.F_law_of.kp T.b_law_of .nil pass0 (pa_cons (pv 2) (pa_cons (pe_lst (pa_cons pe_non (pa_cons pe_str (pa_cons pe_str (pa_cons pe_int (pa_cons pe_bl (pa_cons (pe_tup (pa_cons pe_str pa_nil)) (pa_cons (pe_lst (pa_cons pe_str pa_nil)) (pa_cons pe_str (pa_cons pe_str (pa_cons pe_str pa_nil))))))))))) pa_nil))))
        (pss_cons (ps_set (i := 5) sc_law.nd rfl (.inl rfl) (pe_or (pe_cmpR op_eq (pe_call G_law_take (hr.mono (by omega)) (by rfl) T.g_law_take T.F_law_take.kp T.b_law_take .nil pass0 (pa_cons (pv 2) (pa_cons pe_int pa_nil))) pe_int (nomark _)) (pe_one (pe_cmpR (op_eqD hr.units) (pv 3) (pe_lst pa_nil) (nomark _)))))
        (pss_cons (ps_if (pt_not (pt_val (pv 5))) (pss_one (ps_asg (pv 4) (pg_sub (pv 3) (pe_call G_law_take (hr.mono (by omega)) (by rfl) T.g_law_take T.F_law_take.kp T.b_law_take .nil pass0 (pa_cons (pv 2) (pa_cons (pe_callB call_len (by rfl) T.m_len (by decide +kernel) (pa_cons (pv 3) pa_nil)) pa_nil))) set_list))) pss_nil)
        (pss_cons (ps_set (i := 6) sc_law.nd rfl (.inl rfl) (pe_callTy call_tuple_of (by rfl) T.m_tuple (by decide +kernel) (pa_cons (pv 3) pa_nil)))
        (pss_cons (ps_set (i := 7) sc_law.nd rfl (.inl rfl) (pe_tup (pa_cons (pe_and (pv 5) (pe_one (pe_cmpR op_eq (pe_callB call_len (by rfl) T.m_len (by decide +kernel) (pa_cons (pv 3) pa_nil)) pe_int (nomark _)))) (pa_cons (pe_and (pv 5) (pe_one (pe_cmpR op_gt (pe_callB call_len (by rfl) T.m_len (by decide +kernel) (pa_cons (pv 3) pa_nil)) pe_int (nomark _)))) pa_nil))))
        (pss_cons (ps_if (PW.pt (pw_or (pt_cmpR (op_neD hr.units) (pe_tup (pa_cons (pe_call G_is_path (hr.mono (by omega)) (by rfl) T.g_is_path T.F_is_path.kp T.bd_is_path.choose_spec.2 T.bd_is_path.choose_spec.1 pass0 (pa_cons (pv 6) pa_nil)) (pa_cons (pe_callN G_is_path (hr.mono (by omega)) (by rfl) T.g_is_path T.F_is_path.kp T.bk_is_path pass0 (pa_cons (pv 6) pa_nil) (pk_cons pe_bl pk_nil)) pa_nil))) (pv 7) (nomark _)) (pw_or1 (pt_cmpR op_ne (pe_callN G_is_path (hr.mono (by omega)) (by rfl) T.g_is_path T.F_is_path.kp T.bk_is_path pass0 (pa_cons (pv 6) pa_nil) (pk_cons pe_bl pk_nil)) (pe_ix ix_tup (pv 7) pe_int (fun _ _ => rfl)) (nomark _))))) (pss_one (ps_ret pe_bl)) pss_nil)
        (pss_cons (ps_if (pt_cmpR op_ne (pe_callN0 G_is_path (hr.mono (by omega)) (by rfl) T.g_is_path T.F_is_path.kp T.b0_is_path pass0 (pk_cons (pv 6) (pk_cons pe_bl pk_nil))) (pe_ix ix_tup (pv 7) pe_int (fun _ _ => rfl)) (nomark _)) (pss_one (ps_ret pe_bl)) pss_nil)
        (pss_one (ps_for PassesOwn.never rfl (pi_list (pe_lst (pa_cons (pv 3) (pa_cons pe_non (pa_cons pe_int (pa_cons pe_bl (pa_cons pe_str (pa_cons (pe_lst (pa_cons pe_str pa_nil)) (pa_cons (pe_tup pa_nil) pa_nil))))))))) (pg_name (i := 8) sc_law.nd rfl (.inl rfl)) (pss_one (ps_if (PW.pt (pw_or (pt_cmpR op_notBl (pe_call G_is_path (hr.mono (by omega)) (by rfl) T.g_is_path T.F_is_path.kp T.bd_is_path.choose_spec.2 T.bd_is_path.choose_spec.1 pass0 (pa_cons (pv 8) pa_nil)) pe_bl (nomark _)) (pw_or1 (pt_cmpR op_notBl (pe_callN G_is_path (hr.mono (by omega)) (by rfl) T.g_is_path T.F_is_path.kp T.bk_is_path pass0 (pa_cons (pv 8) pa_nil) (pk_cons pe_bl pk_nil)) pe_bl (nomark _))))) (pss_one (ps_ret pe_bl)) pss_nil))))))))))))))
        (pss_one (ps_ret pe_bl))), ?_⟩
    repeat (walk_at "lw w")
    refine ⟨by (repeat' split) <;> omega, by (repeat' split) <;> omega, ?_⟩
    refine for_range (lo := 0) (n := _) (fun i σ H' => Same H H' ∧ ∃ t1 t2 t3 t4 t5 t6 t7 t8 t9 : Option V, σ = [some (.ref a), t1, t2, t3, t4, t5, t6, t7, t8, t9]) ?_ ?_ ?_
    · exact ⟨Same.refl _, none, none, none, none, none, none, none, none, none, rfl⟩
    · rintro i σ H0 hi ⟨S0, t1, t2, t3, t4, t5, t6, t7, t8, t9, rfl⟩
      have hi2 : (i : Int) ≤ 16 := by
        revert hi
        (repeat' split) <;> omega
      clear hi
      repeat (walk_at "lw w")
      refine ⟨a, ns, _, rfl, S0.seq hS, hlen, by omega, by omega, fun b H1 nb B1 S1' => ?_⟩
      have S1 : Same H H1 := S0.trans S1'
      have nb0 : H b = none := S0.free nb
      clear S0 S1' nb
      repeat (walk_at "lw w")
      refine ⟨b, _, _, rfl, B1, by omega, by omega, by omega, fun d H2 d0 d1 B2 K2 => ?_⟩
      repeat (walk_at "lw w")
      refine ⟨by walk_at "lw n", fun l3 nl3 => ?_⟩
      refine ⟨b, _, _, rfl, B2.new nl3, by omega, .inl ⟨l3, _, rfl, (B2.ne nl3).symm, upd_same, by simp, by simp, fun v H3 hv B3 K3 => ?_⟩⟩
      obtain ⟨m, rfl, m0, m1⟩ : ∃ m : Int, v = .int m ∧ 0 ≤ m ∧ m ≤ 9 := by
        simp only [List.mem_cons, List.not_mem_nil, or_false] at hv
        rcases hv with rfl | rfl | rfl | rfl | rfl <;> exact ⟨_, rfl, by omega, by omega⟩
      have S3 : Same H H3 := keep_same S1 nb0 (K2.trans ((Keep.new nl3).trans K3))
      have B3' : Bag H3 b 10 := B3.mono (by omega)
      clear hv B3 K3 nl3 B2 K2 S1 B1
      repeat (walk_at "lw w")
      refine ⟨by omega, by omega, fun D nD => ?_⟩
      have nbD : b ≠ D := B3'.ne nD
      have nD0 : H D = none := (Same.dom S3).free nD
      refine lc_range (lo := 0) (n := m.toNat) (fun i H' => ∃ zs : List Str, H' D = some (.lst (zs.map V.str)) ∧ zs.length = i ∧ (∀ z ∈ zs, isCallZ z = true ∧ z.length ≤ 1000 ∧ PyData.strOk z = true) ∧ Bag H' b (10 + 1000 * i) ∧ Keep b H3 H') ?_ ?_ ?_
      · exact ⟨[], upd_same, rfl, fun _ h => (nomatch h), (B3'.new nD).mono (by omega), Keep.new nD⟩
      · rintro i H' hi ⟨zs, eD, el, hz, hB, hK⟩
        refine ⟨rfl, ?_⟩
        repeat (walk_at "lw w")
        refine ⟨b, _, rfl, hB, by omega, fun z H4 c1 c2 c3 B4 K4 => ?_⟩
        refine ⟨_, K4 _ _ nbD.symm eD, ?_, zs ++ [z], ?_, ?_, ?_, (B4.upd nbD).mono (by omega), ?_⟩
        · rw [List.length_map]
          exact small1000 (by omega)
        · rw [upd_same, List.map_append]
          rfl
        · rw [List.length_append, el]
          rfl
        · intro y hy
          rcases List.mem_append.mp hy with h | h
          · exact hz y h
          · rw [List.mem_singleton.mp h]
            exact ⟨c1, c2, c3⟩
        · intro q' o nq e
          rw [upd_ne (ne_of_none e nD)]
          exact K4 _ _ nq (hK _ _ nq e)
      · rintro H4 ⟨zs, eD, el, hz, B4, K4⟩
        have S4 : Same H H4 := keep_same S3 nb0 K4
        have B4' : Bag H4 b 20000 := B4.mono (by omega)
        have hl9 : zs.length ≤ 9 := by omega
        clear K4 B4 S3 B3' nD el m0 m1
        repeat (walk_at "lw w")
        refine ⟨by walk_at "lw n", fun l1 nl1 => ?_⟩
        have C1 := B4'.new (o := .tup [.str (Str.ofString "f()")]) nl1
        have E1 : Same H4 (upd H4 l1 (.tup [.str (Str.ofString "f()")])) := same_new nl1
        have f1 : upd H4 l1 (.tup [.str (Str.ofString "f()")]) l1 = some (.tup [.str (Str.ofString "f()")]) := upd_same
        have nb1 := B4'.ne nl1
        generalize upd H4 l1 (.tup [.str (Str.ofString "f()")]) = Ha at *
        repeat (walk_at "lw w")
        refine ⟨by walk_at "lw n", fun l2 nl2 => ?_⟩
        have C2 := C1.new (o := .lst [.str (Str.ofString "f()")]) nl2
        have E2 : Same Ha (upd Ha l2 (.lst [.str (Str.ofString "f()")])) := same_new nl2
        have f2 : upd Ha l2 (.lst [.str (Str.ofString "f()")]) l2 = some (.lst [.str (Str.ofString "f()")]) := upd_same
        have nb2 := C1.ne nl2
        generalize upd Ha l2 (.lst [.str (Str.ofString "f()")]) = Hb at *
        repeat (walk_at "lw w")
        refine ⟨by walk_at "lw n", fun L nL => ?_⟩
        refine ⟨b, _, _, rfl, C2.new nL, by omega, .inl ⟨L, _, rfl, (C2.ne nL).symm, upd_same, by simp, by simp, fun v H5 hv C5 K5 => ?_⟩⟩
        have E5 : ∀ o : HO, Same Hb (upd Hb L o) := fun o => same_new nL
        have nl2' : H4 l2 = none := (Same.dom E1).free nl2
        have bad : Bad K (since H4 H5) v := by
          have g1 := since_of nl1 (K5 _ _ nb1.symm (E5 _ _ _ (E2 _ _ f1)))
          have g2 := since_of nl2' (K5 _ _ nb2.symm (E5 _ _ _ f2))
          simp only [List.mem_cons, List.not_mem_nil, or_false] at hv
          rcases hv with rfl | rfl | rfl | rfl | rfl | rfl | rfl | rfl | rfl | rfl
          · exact ⟨_, .non, rfl, rfl⟩
          · exact ⟨_, .str _, by decide +kernel, by decide +kernel⟩
          · exact ⟨_, .str _, by decide +kernel, by decide +kernel⟩
          · exact ⟨_, .int _, rfl, rfl⟩
          · exact ⟨_, .bl _, rfl, rfl⟩
          · exact ⟨_, .tup (SqT.of g1) (.cons (.str _) .nil), rfl, rfl⟩
          · exact ⟨_, .lst (SqL.of g2) (.cons (.str _) .nil), rfl, rfl⟩
          · exact ⟨_, .str _, by decide +kernel, by decide +kernel⟩
          · exact ⟨_, .str _, by decide +kernel, by decide +kernel⟩
          · exact ⟨_, .str _, by decide +kernel, by decide +kernel⟩
        have K45 : Keep b H4 H5 := fun q' o n e => K5 _ _ n (E5 _ _ _ (E2 _ _ (E1 _ _ e)))
        have C5' : Bag H5 b 30000 := C5.mono (by omega)
        have hasb := B4'.has
        clear hv C5 K5 E5 nL C2 C1 E1 E2 f1 f2 nb1 nb2 nl1 nl2 nl2'
        repeat (walk_at "lw w")
        refine ⟨b, _, _, rfl, C5', by omega, by omega, by omega, fun d2 H8 y0 y1 C8 K8 => ?_⟩
        have K48 : Keep b H4 H8 := K45.trans K8
        have S8 : Same H H8 := keep_same S4 nb0 K48
        have eD8 : H8 D = some (.lst (zs.map V.str)) := K48 _ _ nbD.symm eD
        have bad8 : Bad K (since H4 H8) v := by
          obtain ⟨dw, h1, h2, h3⟩ := bad
          exact ⟨dw, Dp.same (since_mono (Dom.refl _) hasb K8) _ _ h1, h2, h3⟩
        have all1 : (zs.map strD).all isCallD = true := by
          rw [List.all_map]
          exact List.all_eq_true.mpr fun z h => (hz z h).1
        have sh1 : ∀ e ∈ zs.map strD, shortD e = true := by
          intro e h
          obtain ⟨z, h1, rfl⟩ := List.mem_map.mp h
          exact decide_eq_true (Nat.le_trans (hz z h1).2.1 (by decide))
        have len1 : (zs.map strD).length = zs.length := List.length_map ..
        clear bad K45 K8 C5'
        repeat (walk_at "lw w")
        refine ite2 (fun e => ?_) (fun e => ?_)
        · repeat (walk_at "lw w")
          have hsh := sh1
          have hdp : DpAll K H8 (zs.map V.str) (zs.map strD) := dp_strs zs
          have hlv : (zs.map V.str).length ≤ 9 := by rw [List.length_map]; exact hl9
          have hall : (zs.map strD).all isCallD = true := all1
          have hld : (zs.map strD).length = (zs.map V.str).length := by rw [List.length_map, List.length_map]
          have hG := S8
          have eG := eD8
          clear K48 C8 bad8 sh1 len1 hz all1 eD8 eD hl9 S8 S4 B4'
          generalize zs.map V.str = vs at *
          generalize zs.map strD = ds at *
          generalize H8 = G at *
          walk_at "tail10"
        · repeat (walk_at "lw w")
          refine ⟨by walk_at "lw n", fun l7 nl7 => ?_⟩
          have S87 : Same H8 (upd H8 l7 (.lst [])) := same_new nl7
          refine ⟨.list (zs.map strD), .list [], .lst (SqL.of (S87 _ _ eD8)) (dp_strs zs), .lst (SqL.of upd_same) .nil, shaped_strs (fun z h => (hz z h).2.2), rfl, ?_⟩
          have C9 := C8.new (o := .lst []) nl7
          have eD9 := S87 _ _ eD8
          have K49 : Keep b H4 (upd H8 l7 (.lst [])) := K48.trans (Keep.new nl7)
          have S9 := S8.trans S87
          have bad9 : Bad K (since H4 (upd H8 l7 (.lst []))) v := by
            obtain ⟨dw, h1, h2, h3⟩ := bad8
            exact ⟨dw, Dp.same (since_mono0 (Dom.refl _) S87) _ _ h1, h2, h3⟩
          clear S87
          generalize upd H8 l7 (.lst []) = H9 at *
          cases zs with
          | nil =>
            rw [show PyData.eqv (.list (([] : List Str).map strD)) (.list []) = true from rfl]
            repeat (walk_at "lw w")
            have hsh := sh1
            have hdp : DpAll K H9 (([] : List Str).map V.str) (([] : List Str).map strD) := .nil
            have hlv : (([] : List Str).map V.str).length ≤ 9 := by decide
            have hall : (([] : List Str).map strD).all isCallD = true := rfl
            have hld : (([] : List Str).map strD).length = (([] : List Str).map V.str).length := rfl
            have hG := S9
            have eG := eD9
            clear K48 C8 bad8 sh1 len1 hz all1 eD8 eD hl9 S8 S4 B4' C9 eD9 K49 S9 bad9
            generalize ([] : List Str).map V.str = vs at *
            generalize ([] : List Str).map strD = ds at *
            generalize H9 = G at *
            walk_at "tail10"
          | cons z0 zr =>
            rw [show PyData.eqv (.list ((z0 :: zr).map strD)) (.list []) = false from rfl]
            repeat (walk_at "lw w")
            refine ⟨b, _, _, rfl, C9, by omega, by simp, ?_, fun j H10 j0 j1 C10 K10 => ?_⟩
            · rw [List.length_map] at *
              omega
            have K410 := K49.trans K10
            have S10 : Same H H10 := keep_same S4 nb0 K410
            have eD10 := K10 _ _ nbD.symm eD9
            repeat (walk_at "lw w")
            obtain ⟨k, rfl⟩ := Int.eq_ofNat_of_zero_le j0
            have hk : k < ((z0 :: zr).map V.str).length := by omega
            refine ⟨D, _, _, k, rfl, rfl, eD10, ixN_at hk, ?_⟩
            have st := (since_step (Hd := H4) (H' := H9) (H3 := H10) (H4 := upd H10 D (.lst (((z0 :: zr).map V.str).set k v))) (D := D) (K49.dom C9.has) hasb ⟨_, eD⟩ K10 (fun q n => upd_ne n)).1
            obtain ⟨dw, h1, h2, h3⟩ := bad9
            have hdp : DpAll K (upd H10 D (.lst (((z0 :: zr).map V.str).set k v))) (((z0 :: zr).map V.str).set k v) (((z0 :: zr).map strD).set k dw) := DpAll.set (Dp.same since_same _ _ (Dp.same st _ _ h1)) k (dp_strs (z0 :: zr))
            have hsh : ∀ e ∈ ((z0 :: zr).map strD).set k dw, shortD e = true := fun e he => (List.mem_or_eq_of_mem_set he).elim (sh1 e) fun h => by rw [h]; exact h3
            have hlv : (((z0 :: zr).map V.str).set k v).length ≤ 9 := by rw [List.length_set, List.length_map]; exact hl9
            have hld : (((z0 :: zr).map strD).set k dw).length = (((z0 :: zr).map V.str).set k v).length := by rw [List.length_set, List.length_set, List.length_map, List.length_map]
            have hall : (((z0 :: zr).map strD).set k dw).all isCallD = false := by
              refine Bool.eq_false_iff.mpr fun h => ?_
              have := List.all_eq_true.mp h dw (List.mem_set (by rw [List.length_map] at *; exact hk) _)
              rw [h2] at this
              cases this
            have hG : Same H (upd H10 D (.lst (((z0 :: zr).map V.str).set k v))) := fun q o e => by
              rw [upd_ne (ne_of_none e nD0)]
              exact S10 q o e
            have eG : upd H10 D (.lst (((z0 :: zr).map V.str).set k v)) D = some (.lst (((z0 :: zr).map V.str).set k v)) := upd_same
            clear st h1 h2 h3 sh1 len1 hz all1 eD8 eD hl9 S8 S4 B4' C9 eD9 K49 S9 C10 K10 K410 S10 eD10 bad8 C8 K48
            generalize upd H10 D (.lst (((z0 :: zr).map V.str).set k v)) = G at *
            generalize ((z0 :: zr).map V.str).set k v = vs at *
            generalize ((z0 :: zr).map strD).set k dw = ds at *
            walk_at "tail10"
    · rintro σ H' ⟨S0, t1, t2, t3, t4, t5, t6, t7, t8, t9, rfl⟩
      repeat (walk_at "lw w")
      exact q _
end

/-! ### what the top has written; the head -/
theorem all_mk {l : PySem.W.OpenLaw} {w : World} {K : PySem.W.Frag} {h : Heap} {mg : Str → Option Value} {fa : Addr} (X : K.In h) (G : h.Ns mainGlobals mg) (hfa : mg "law" = some (.ref fa))
    {f_consists_of : Addr} {od0 an0 : Option Addr} {sl0 : Array (Option Value)} {oc0 kV0 dc0 pm0 cd0 ct0 : Value}
    {f_is_small_word : Addr} {od1 an1 : Option Addr} {sl1 : Array (Option Value)} {oc1 kV1 dc1 pm1 cd1 ct1 : Value}
    {f_is_name : Addr} {od2 an2 : Option Addr} {sl2 : Array (Option Value)} {oc2 kV2 dc2 pm2 cd2 ct2 : Value}
    {f_is_number_text : Addr} {od3 an3 : Option Addr} {sl3 : Array (Option Value)} {oc3 kV3 dc3 pm3 cd3 ct3 : Value}
    {f_is_string_text : Addr} {od4 an4 : Option Addr} {sl4 : Array (Option Value)} {oc4 kV4 dc4 pm4 cd4 ct4 : Value}
    {f_is_constant_text : Addr} {od5 an5 : Option Addr} {sl5 : Array (Option Value)} {oc5 kV5 dc5 pm5 cd5 ct5 : Value}
    {f_is_call : Addr} {od6 an6 : Option Addr} {sl6 : Array (Option Value)} {oc6 kV6 dc6 pm6 cd6 ct6 : Value}
    {f_is_path : Addr} {od7 an7 : Option Addr} {sl7 : Array (Option Value)} {oc7 dc7 pm7 cd7 ct7 : Value}
    {kd7 : Addr}
    {f_law_bag : Addr} {od8 an8 : Option Addr} {sl8 : Array (Option Value)} {oc8 kV8 dc8 pm8 cd8 ct8 : Value}
    {f_law_take : Addr} {od9 an9 : Option Addr} {sl9 : Array (Option Value)} {oc9 kV9 dc9 pm9 cd9 ct9 : Value}
    {f_law_of : Addr} {od10 an10 : Option Addr} {sl10 : Array (Option Value)} {oc10 kV10 dc10 pm10 cd10 ct10 : Value}
    {f_law_number : Addr} {od11 an11 : Option Addr} {sl11 : Array (Option Value)} {oc11 kV11 dc11 pm11 cd11 ct11 : Value}
    {f_law_word : Addr} {od12 an12 : Option Addr} {sl12 : Array (Option Value)} {oc12 kV12 dc12 pm12 cd12 ct12 : Value}
    {f_law_any_constant : Addr} {od13 an13 : Option Addr} {sl13 : Array (Option Value)} {oc13 kV13 dc13 pm13 cd13 ct13 : Value}
    {f_law_written : Addr} {od14 an14 : Option Addr} {sl14 : Array (Option Value)} {oc14 kV14 dc14 pm14 cd14 ct14 : Value}
    {f_law_call_text : Addr} {od15 an15 : Option Addr} {sl15 : Array (Option Value)} {oc15 kV15 dc15 pm15 cd15 ct15 : Value}
    {f_law_keywords : Addr} {od16 an16 : Option Addr} {sl16 : Array (Option Value)} {oc16 kV16 dc16 pm16 cd16 ct16 : Value}
    {f_law_any_name : Addr} {od17 an17 : Option Addr} {sl17 : Array (Option Value)} {oc17 kV17 dc17 pm17 cd17 ct17 : Value}
    {f_law_any_call : Addr} {od18 an18 : Option Addr} {sl18 : Array (Option Value)} {oc18 kV18 dc18 pm18 cd18 ct18 : Value}
    {f_law : Addr} {od19 an19 : Option Addr} {sl19 : Array (Option Value)} {oc19 kV19 dc19 pm19 cd19 ct19 : Value}
    {tc_SMALL_LETTERS : Tok}
    {tc_DIGITS : Tok}
    {a_KEYWORDS : Addr} {odc_KEYWORDS : Option Addr} {nc_KEYWORDS : Nat} {slc_KEYWORDS : Array (Option Value)} {tc_KEYWORDS_0 tc_KEYWORDS_1 tc_KEYWORDS_2 tc_KEYWORDS_3 tc_KEYWORDS_4 tc_KEYWORDS_5 tc_KEYWORDS_6 tc_KEYWORDS_7 tc_KEYWORDS_8 tc_KEYWORDS_9 tc_KEYWORDS_10 tc_KEYWORDS_11 tc_KEYWORDS_12 tc_KEYWORDS_13 tc_KEYWORDS_14 tc_KEYWORDS_15 tc_KEYWORDS_16 tc_KEYWORDS_17 tc_KEYWORDS_18 tc_KEYWORDS_19 tc_KEYWORDS_20 tc_KEYWORDS_21 tc_KEYWORDS_22 tc_KEYWORDS_23 tc_KEYWORDS_24 tc_KEYWORDS_25 tc_KEYWORDS_26 tc_KEYWORDS_27 tc_KEYWORDS_28 tc_KEYWORDS_29 tc_KEYWORDS_30 tc_KEYWORDS_31 tc_KEYWORDS_32 tc_KEYWORDS_33 : Tok}
    {tc_MOST_NAME_LETTERS : Tok}
    {tc_MOST_STRING_LETTERS : Tok}
    {tc_MOST_DIGITS : Tok}
    {tc_MOST_CONSTANTS : Tok}
    (a0 : PySem.W.nsIn K mainGlobals "consists_of" = some (some (.ref f_consists_of)))
    (l0 : K.lookup f_consists_of = some ⟨oc0, od0, .func (PySem.W.fnOf "consists_of" "consists_of" (defArgs s_consists_of) (defBody s_consists_of) (defScope s_consists_of) .none kV0 dc0 pm0 an0 cd0 ct0), sl0⟩)
    (c0 : PySem.W.codeIn K cd0 "consists_of" = true) (k0 : PySem.W.keepIn K (.ref f_consists_of) = true)
    (a1 : PySem.W.nsIn K mainGlobals "is_small_word" = some (some (.ref f_is_small_word)))
    (l1 : K.lookup f_is_small_word = some ⟨oc1, od1, .func (PySem.W.fnOf "is_small_word" "is_small_word" (defArgs s_is_small_word) (defBody s_is_small_word) (defScope s_is_small_word) .none kV1 dc1 pm1 an1 cd1 ct1), sl1⟩)
    (c1 : PySem.W.codeIn K cd1 "is_small_word" = true) (k1 : PySem.W.keepIn K (.ref f_is_small_word) = true)
    (a2 : PySem.W.nsIn K mainGlobals "is_name" = some (some (.ref f_is_name)))
    (l2 : K.lookup f_is_name = some ⟨oc2, od2, .func (PySem.W.fnOf "is_name" "is_name" (defArgs s_is_name) (defBody s_is_name) (defScope s_is_name) .none kV2 dc2 pm2 an2 cd2 ct2), sl2⟩)
    (c2 : PySem.W.codeIn K cd2 "is_name" = true) (k2 : PySem.W.keepIn K (.ref f_is_name) = true)
    (a3 : PySem.W.nsIn K mainGlobals "is_number_text" = some (some (.ref f_is_number_text)))
    (l3 : K.lookup f_is_number_text = some ⟨oc3, od3, .func (PySem.W.fnOf "is_number_text" "is_number_text" (defArgs s_is_number_text) (defBody s_is_number_text) (defScope s_is_number_text) .none kV3 dc3 pm3 an3 cd3 ct3), sl3⟩)
    (c3 : PySem.W.codeIn K cd3 "is_number_text" = true) (k3 : PySem.W.keepIn K (.ref f_is_number_text) = true)
    (a4 : PySem.W.nsIn K mainGlobals "is_string_text" = some (some (.ref f_is_string_text)))
    (l4 : K.lookup f_is_string_text = some ⟨oc4, od4, .func (PySem.W.fnOf "is_string_text" "is_string_text" (defArgs s_is_string_text) (defBody s_is_string_text) (defScope s_is_string_text) .none kV4 dc4 pm4 an4 cd4 ct4), sl4⟩)
    (c4 : PySem.W.codeIn K cd4 "is_string_text" = true) (k4 : PySem.W.keepIn K (.ref f_is_string_text) = true)
    (a5 : PySem.W.nsIn K mainGlobals "is_constant_text" = some (some (.ref f_is_constant_text)))
    (l5 : K.lookup f_is_constant_text = some ⟨oc5, od5, .func (PySem.W.fnOf "is_constant_text" "is_constant_text" (defArgs s_is_constant_text) (defBody s_is_constant_text) (defScope s_is_constant_text) .none kV5 dc5 pm5 an5 cd5 ct5), sl5⟩)
    (c5 : PySem.W.codeIn K cd5 "is_constant_text" = true) (k5 : PySem.W.keepIn K (.ref f_is_constant_text) = true)
    (a6 : PySem.W.nsIn K mainGlobals "is_call" = some (some (.ref f_is_call)))
    (l6 : K.lookup f_is_call = some ⟨oc6, od6, .func (PySem.W.fnOf "is_call" "is_call" (defArgs s_is_call) (defBody s_is_call) (defScope s_is_call) .none kV6 dc6 pm6 an6 cd6 ct6), sl6⟩)
    (c6 : PySem.W.codeIn K cd6 "is_call" = true) (k6 : PySem.W.keepIn K (.ref f_is_call) = true)
    (a7 : PySem.W.nsIn K mainGlobals "is_path" = some (some (.ref f_is_path)))
    (l7 : K.lookup f_is_path = some ⟨oc7, od7, .func (PySem.W.fnOf "is_path" "is_path" (defArgs s_is_path) (defBody s_is_path) (defScope s_is_path) .none (.ref kd7) dc7 pm7 an7 cd7 ct7), sl7⟩)
    (kx7 : PySem.W.nsIn K kd7 "ageing" = some (some (.bool false)))
    (c7 : PySem.W.codeIn K cd7 "is_path" = true) (k7 : PySem.W.keepIn K (.ref f_is_path) = true)
    (a8 : PySem.W.nsIn K mainGlobals "_law_bag" = some (some (.ref f_law_bag)))
    (l8 : K.lookup f_law_bag = some ⟨oc8, od8, .func (PySem.W.fnOf "_law_bag" "_law_bag" (defArgs s_law_bag) (defBody s_law_bag) (defScope s_law_bag) .none kV8 dc8 pm8 an8 cd8 ct8), sl8⟩)
    (c8 : PySem.W.codeIn K cd8 "_law_bag" = true) (k8 : PySem.W.keepIn K (.ref f_law_bag) = true)
    (a9 : PySem.W.nsIn K mainGlobals "_law_take" = some (some (.ref f_law_take)))
    (l9 : K.lookup f_law_take = some ⟨oc9, od9, .func (PySem.W.fnOf "_law_take" "_law_take" (defArgs s_law_take) (defBody s_law_take) (defScope s_law_take) .none kV9 dc9 pm9 an9 cd9 ct9), sl9⟩)
    (c9 : PySem.W.codeIn K cd9 "_law_take" = true) (k9 : PySem.W.keepIn K (.ref f_law_take) = true)
    (a10 : PySem.W.nsIn K mainGlobals "_law_of" = some (some (.ref f_law_of)))
    (l10 : K.lookup f_law_of = some ⟨oc10, od10, .func (PySem.W.fnOf "_law_of" "_law_of" (defArgs s_law_of) (defBody s_law_of) (defScope s_law_of) .none kV10 dc10 pm10 an10 cd10 ct10), sl10⟩)
    (c10 : PySem.W.codeIn K cd10 "_law_of" = true) (k10 : PySem.W.keepIn K (.ref f_law_of) = true)
    (a11 : PySem.W.nsIn K mainGlobals "_law_number" = some (some (.ref f_law_number)))
    (l11 : K.lookup f_law_number = some ⟨oc11, od11, .func (PySem.W.fnOf "_law_number" "_law_number" (defArgs s_law_number) (defBody s_law_number) (defScope s_law_number) .none kV11 dc11 pm11 an11 cd11 ct11), sl11⟩)
    (c11 : PySem.W.codeIn K cd11 "_law_number" = true) (k11 : PySem.W.keepIn K (.ref f_law_number) = true)
    (a12 : PySem.W.nsIn K mainGlobals "_law_word" = some (some (.ref f_law_word)))
    (l12 : K.lookup f_law_word = some ⟨oc12, od12, .func (PySem.W.fnOf "_law_word" "_law_word" (defArgs s_law_word) (defBody s_law_word) (defScope s_law_word) .none kV12 dc12 pm12 an12 cd12 ct12), sl12⟩)
    (c12 : PySem.W.codeIn K cd12 "_law_word" = true) (k12 : PySem.W.keepIn K (.ref f_law_word) = true)
    (a13 : PySem.W.nsIn K mainGlobals "_law_any_constant" = some (some (.ref f_law_any_constant)))
    (l13 : K.lookup f_law_any_constant = some ⟨oc13, od13, .func (PySem.W.fnOf "_law_any_constant" "_law_any_constant" (defArgs s_law_any_constant) (defBody s_law_any_constant) (defScope s_law_any_constant) .none kV13 dc13 pm13 an13 cd13 ct13), sl13⟩)
    (c13 : PySem.W.codeIn K cd13 "_law_any_constant" = true) (k13 : PySem.W.keepIn K (.ref f_law_any_constant) = true)
    (a14 : PySem.W.nsIn K mainGlobals "_law_written" = some (some (.ref f_law_written)))
    (l14 : K.lookup f_law_written = some ⟨oc14, od14, .func (PySem.W.fnOf "_law_written" "_law_written" (defArgs s_law_written) (defBody s_law_written) (defScope s_law_written) .none kV14 dc14 pm14 an14 cd14 ct14), sl14⟩)
    (c14 : PySem.W.codeIn K cd14 "_law_written" = true) (k14 : PySem.W.keepIn K (.ref f_law_written) = true)
    (a15 : PySem.W.nsIn K mainGlobals "_law_call_text" = some (some (.ref f_law_call_text)))
    (l15 : K.lookup f_law_call_text = some ⟨oc15, od15, .func (PySem.W.fnOf "_law_call_text" "_law_call_text" (defArgs s_law_call_text) (defBody s_law_call_text) (defScope s_law_call_text) .none kV15 dc15 pm15 an15 cd15 ct15), sl15⟩)
    (c15 : PySem.W.codeIn K cd15 "_law_call_text" = true) (k15 : PySem.W.keepIn K (.ref f_law_call_text) = true)
    (a16 : PySem.W.nsIn K mainGlobals "_law_keywords" = some (some (.ref f_law_keywords)))
    (l16 : K.lookup f_law_keywords = some ⟨oc16, od16, .func (PySem.W.fnOf "_law_keywords" "_law_keywords" (defArgs s_law_keywords) (defBody s_law_keywords) (defScope s_law_keywords) .none kV16 dc16 pm16 an16 cd16 ct16), sl16⟩)
    (c16 : PySem.W.codeIn K cd16 "_law_keywords" = true) (k16 : PySem.W.keepIn K (.ref f_law_keywords) = true)
    (a17 : PySem.W.nsIn K mainGlobals "_law_any_name" = some (some (.ref f_law_any_name)))
    (l17 : K.lookup f_law_any_name = some ⟨oc17, od17, .func (PySem.W.fnOf "_law_any_name" "_law_any_name" (defArgs s_law_any_name) (defBody s_law_any_name) (defScope s_law_any_name) .none kV17 dc17 pm17 an17 cd17 ct17), sl17⟩)
    (c17 : PySem.W.codeIn K cd17 "_law_any_name" = true) (k17 : PySem.W.keepIn K (.ref f_law_any_name) = true)
    (a18 : PySem.W.nsIn K mainGlobals "_law_any_call" = some (some (.ref f_law_any_call)))
    (l18 : K.lookup f_law_any_call = some ⟨oc18, od18, .func (PySem.W.fnOf "_law_any_call" "_law_any_call" (defArgs s_law_any_call) (defBody s_law_any_call) (defScope s_law_any_call) .none kV18 dc18 pm18 an18 cd18 ct18), sl18⟩)
    (c18 : PySem.W.codeIn K cd18 "_law_any_call" = true) (k18 : PySem.W.keepIn K (.ref f_law_any_call) = true)
    (a19 : PySem.W.nsIn K mainGlobals "law" = some (some (.ref f_law)))
    (l19 : K.lookup f_law = some ⟨oc19, od19, .func (PySem.W.fnOf "law" "law" (defArgs s_law) (defBody s_law) (defScope s_law) .none kV19 dc19 pm19 an19 cd19 ct19), sl19⟩)
    (c19 : PySem.W.codeIn K cd19 "law" = true) (k19 : PySem.W.keepIn K (.ref f_law) = true)
    (z_abs : PySem.W.nsIn K mainGlobals "abs" = some none)
    (z_all : PySem.W.nsIn K mainGlobals "all" = some none)
    (z_int : PySem.W.nsIn K mainGlobals "int" = some none)
    (z_isinstance : PySem.W.nsIn K mainGlobals "isinstance" = some none)
    (z_len : PySem.W.nsIn K mainGlobals "len" = some none)
    (z_max : PySem.W.nsIn K mainGlobals "max" = some none)
    (z_min : PySem.W.nsIn K mainGlobals "min" = some none)
    (z_range : PySem.W.nsIn K mainGlobals "range" = some none)
    (z_str : PySem.W.nsIn K mainGlobals "str" = some none)
    (z_tuple : PySem.W.nsIn K mainGlobals "tuple" = some none)
    (y_SMALL_LETTERS : PySem.W.nsIn K mainGlobals "SMALL_LETTERS" = some (some (.str "abcdefghijklmnopqrstuvwxyz" tc_SMALL_LETTERS)))
    (y_DIGITS : PySem.W.nsIn K mainGlobals "DIGITS" = some (some (.str "0123456789" tc_DIGITS)))
    (y_KEYWORDS : PySem.W.nsIn K mainGlobals "KEYWORDS" = some (some (.ref a_KEYWORDS)))
    (u_KEYWORDS : K.lookup a_KEYWORDS = some ⟨.type "tuple", odc_KEYWORDS, .seq #[.str "and" tc_KEYWORDS_0, .str "assert" tc_KEYWORDS_1, .str "assume" tc_KEYWORDS_2, .str "break" tc_KEYWORDS_3, .str "call" tc_KEYWORDS_4, .str "clear" tc_KEYWORDS_5, .str "continue" tc_KEYWORDS_6, .str "else" tc_KEYWORDS_7, .str "end" tc_KEYWORDS_8, .str "error" tc_KEYWORDS_9, .str "except" tc_KEYWORDS_10, .str "fail" tc_KEYWORDS_11, .str "for" tc_KEYWORDS_12, .str "from" tc_KEYWORDS_13, .str "if" tc_KEYWORDS_14, .str "in" tc_KEYWORDS_15, .str "is" tc_KEYWORDS_16, .str "len" tc_KEYWORDS_17, .str "let" tc_KEYWORDS_18, .str "list" tc_KEYWORDS_19, .str "none" tc_KEYWORDS_20, .str "not" tc_KEYWORDS_21, .str "number" tc_KEYWORDS_22, .str "on" tc_KEYWORDS_23, .str "or" tc_KEYWORDS_24, .str "pass" tc_KEYWORDS_25, .str "raises" tc_KEYWORDS_26, .str "return" tc_KEYWORDS_27, .str "set" tc_KEYWORDS_28, .str "skip" tc_KEYWORDS_29, .str "test" tc_KEYWORDS_30, .str "try" tc_KEYWORDS_31, .str "under" tc_KEYWORDS_32, .str "word" tc_KEYWORDS_33] nc_KEYWORDS, slc_KEYWORDS⟩)
    (y_MOST_NAME_LETTERS : PySem.W.nsIn K mainGlobals "MOST_NAME_LETTERS" = some (some (.int 12 tc_MOST_NAME_LETTERS)))
    (y_MOST_STRING_LETTERS : PySem.W.nsIn K mainGlobals "MOST_STRING_LETTERS" = some (some (.int 8 tc_MOST_STRING_LETTERS)))
    (y_MOST_DIGITS : PySem.W.nsIn K mainGlobals "MOST_DIGITS" = some (some (.int 30 tc_MOST_DIGITS)))
    (y_MOST_CONSTANTS : PySem.W.nsIn K mainGlobals "MOST_CONSTANTS" = some (some (.int 3 tc_MOST_CONSTANTS))) :
    ∃ fd : FuncData, (∀ (s : Shared) (v : Value), BindsTo s fd ⟨[v], []⟩ [("script", v)]) ∧ ∀ base : Heap, K.In base → base.Ns mainGlobals mg → FnOk l.prog w K mg base CX0 7 fa fd ["script"] (spLaw K) := by
  have e := hfa.symm.trans (PySem.W.mg_of X G a19)
  cases e
  have F0 := fun_mk (st := s_consists_of) l0 c0 k0
  have b0 := F0.binds (ps := ["text", "characters"]) fun _ _ _ _ _ _ us hl => match us, hl with | [_, _], _ => rfl
  have F1 := fun_mk (st := s_is_small_word) l1 c1 k1
  have b1 := F1.binds (ps := ["thing", "most"]) fun _ _ _ _ _ _ us hl => match us, hl with | [_, _], _ => rfl
  have F2 := fun_mk (st := s_is_name) l2 c2 k2
  have b2 := F2.binds (ps := ["thing"]) fun _ _ _ _ _ _ us hl => match us, hl with | [_], _ => rfl
  have F3 := fun_mk (st := s_is_number_text) l3 c3 k3
  have b3 := F3.binds (ps := ["text"]) fun _ _ _ _ _ _ us hl => match us, hl with | [_], _ => rfl
  have F4 := fun_mk (st := s_is_string_text) l4 c4 k4
  have b4 := F4.binds (ps := ["text"]) fun _ _ _ _ _ _ us hl => match us, hl with | [_], _ => rfl
  have F5 := fun_mk (st := s_is_constant_text) l5 c5 k5
  have b5 := F5.binds (ps := ["text"]) fun _ _ _ _ _ _ us hl => match us, hl with | [_], _ => rfl
  have F6 := fun_mk (st := s_is_call) l6 c6 k6
  have b6 := F6.binds (ps := ["thing"]) fun _ _ _ _ _ _ us hl => match us, hl with | [_], _ => rfl
  have F7 := fun_mk (st := s_is_path) l7 c7 k7
  have FD7 : FunD K "is_path" "is_path" (defArgs s_is_path) (defBody s_is_path) (defScope s_is_path) [] [("ageing", V.bl false)] _ _ := ⟨⟨_, _, _, _, _, _, _, _, _, _, rfl, l7, c7, .inl ⟨rfl, rfl⟩, .inr ⟨_, rfl, fun q hq => by rw [List.mem_singleton.mp hq]; exact ⟨_, kx7, rfl⟩⟩⟩, k7⟩
  have bd7 := FD7.binds0 (ps := ["thing", "ageing"]) 1 (by simp) rfl fun D doc pm an cdv ct us ks hl hk => match us, ks, hl, hk with | [_], [_], _, _ => ⟨_, _, _, _, _, _, rfl, rfl, rfl⟩
  have bk7 : KBn K _ ["thing", "ageing"] 1 ["ageing"] (fun us ws => us ++ ws) (fun vs zs => vs ++ zs) := ⟨fun s us ws _ hl hw => match us, ws, hl, hw with | [_], [_], _, _ => BindsTo.of_eq (fd := PySem.W.fnOf "is_path" "is_path" (defArgs s_is_path) (defBody s_is_path) (defScope s_is_path) .none (.ref kd7) dc7 pm7 an7 cd7 ct7) rfl, fun r z => r.append z⟩
  have bz7 : KBn K _ ["thing", "ageing"] 0 ["thing", "ageing"] (fun us ws => us ++ ws) (fun vs zs => vs ++ zs) := ⟨fun s us ws _ hl hw => match us, ws, hl, hw with | [], [_, _], _, _ => BindsTo.of_eq (fd := PySem.W.fnOf "is_path" "is_path" (defArgs s_is_path) (defBody s_is_path) (defScope s_is_path) .none (.ref kd7) dc7 pm7 an7 cd7 ct7) rfl, fun r z => r.append z⟩
  have F8 := fun_mk (st := s_law_bag) l8 c8 k8
  have b8 := F8.binds (ps := ["script", "at"]) fun _ _ _ _ _ _ us hl => match us, hl with | [_, _], _ => rfl
  have F9 := fun_mk (st := s_law_take) l9 c9 k9
  have b9 := F9.binds (ps := ["bag", "many"]) fun _ _ _ _ _ _ us hl => match us, hl with | [_, _], _ => rfl
  have F10 := fun_mk (st := s_law_of) l10 c10 k10
  have b10 := F10.binds (ps := ["bag", "some"]) fun _ _ _ _ _ _ us hl => match us, hl with | [_, _], _ => rfl
  have F11 := fun_mk (st := s_law_number) l11 c11 k11
  have b11 := F11.binds (ps := ["bag", "near"]) fun _ _ _ _ _ _ us hl => match us, hl with | [_, _], _ => rfl
  have F12 := fun_mk (st := s_law_word) l12 c12 k12
  have b12 := F12.binds (ps := ["bag", "most"]) fun _ _ _ _ _ _ us hl => match us, hl with | [_, _], _ => rfl
  have F13 := fun_mk (st := s_law_any_constant) l13 c13 k13
  have b13 := F13.binds (ps := ["bag"]) fun _ _ _ _ _ _ us hl => match us, hl with | [_], _ => rfl
  have F14 := fun_mk (st := s_law_written) l14 c14 k14
  have b14 := F14.binds (ps := ["value"]) fun _ _ _ _ _ _ us hl => match us, hl with | [_], _ => rfl
  have F15 := fun_mk (st := s_law_call_text) l15 c15 k15
  have b15 := F15.binds (ps := ["name", "values"]) fun _ _ _ _ _ _ us hl => match us, hl with | [_, _], _ => rfl
  have F16 := fun_mk (st := s_law_keywords) l16 c16 k16
  have b16 := F16.binds (ps := []) fun _ _ _ _ _ _ us hl => match us, hl with | [], _ => rfl
  have F17 := fun_mk (st := s_law_any_name) l17 c17 k17
  have b17 := F17.binds (ps := ["bag"]) fun _ _ _ _ _ _ us hl => match us, hl with | [_], _ => rfl
  have F18 := fun_mk (st := s_law_any_call) l18 c18 k18
  have b18 := F18.binds (ps := ["bag"]) fun _ _ _ _ _ _ us hl => match us, hl with | [_], _ => rfl
  have F19 := fun_mk (st := s_law) l19 c19 k19
  have b19 := F19.binds (ps := ["script"]) fun _ _ _ _ _ _ us hl => match us, hl with | [_], _ => rfl
  have T : Txt K mg := {
    f_consists_of := f_consists_of, fd_consists_of := _, F_consists_of := F0, b_consists_of := b0, g_consists_of := PySem.W.mg_of X G a0,
    f_is_small_word := f_is_small_word, fd_is_small_word := _, F_is_small_word := F1, b_is_small_word := b1, g_is_small_word := PySem.W.mg_of X G a1,
    f_is_name := f_is_name, fd_is_name := _, F_is_name := F2, b_is_name := b2, g_is_name := PySem.W.mg_of X G a2,
    f_is_number_text := f_is_number_text, fd_is_number_text := _, F_is_number_text := F3, b_is_number_text := b3, g_is_number_text := PySem.W.mg_of X G a3,
    f_is_string_text := f_is_string_text, fd_is_string_text := _, F_is_string_text := F4, b_is_string_text := b4, g_is_string_text := PySem.W.mg_of X G a4,
    f_is_constant_text := f_is_constant_text, fd_is_constant_text := _, F_is_constant_text := F5, b_is_constant_text := b5, g_is_constant_text := PySem.W.mg_of X G a5,
    f_is_call := f_is_call, fd_is_call := _, F_is_call := F6, b_is_call := b6, g_is_call := PySem.W.mg_of X G a6,
    f_is_path := f_is_path, fd_is_path := _, F_is_path := F7, bd_is_path := bd7, bk_is_path := bk7, b0_is_path := bz7, g_is_path := PySem.W.mg_of X G a7,
    f_law_bag := f_law_bag, fd_law_bag := _, F_law_bag := F8, b_law_bag := b8, g_law_bag := PySem.W.mg_of X G a8,
    f_law_take := f_law_take, fd_law_take := _, F_law_take := F9, b_law_take := b9, g_law_take := PySem.W.mg_of X G a9,
    f_law_of := f_law_of, fd_law_of := _, F_law_of := F10, b_law_of := b10, g_law_of := PySem.W.mg_of X G a10,
    f_law_number := f_law_number, fd_law_number := _, F_law_number := F11, b_law_number := b11, g_law_number := PySem.W.mg_of X G a11,
    f_law_word := f_law_word, fd_law_word := _, F_law_word := F12, b_law_word := b12, g_law_word := PySem.W.mg_of X G a12,
    f_law_any_constant := f_law_any_constant, fd_law_any_constant := _, F_law_any_constant := F13, b_law_any_constant := b13, g_law_any_constant := PySem.W.mg_of X G a13,
    f_law_written := f_law_written, fd_law_written := _, F_law_written := F14, b_law_written := b14, g_law_written := PySem.W.mg_of X G a14,
    f_law_call_text := f_law_call_text, fd_law_call_text := _, F_law_call_text := F15, b_law_call_text := b15, g_law_call_text := PySem.W.mg_of X G a15,
    f_law_keywords := f_law_keywords, fd_law_keywords := _, F_law_keywords := F16, b_law_keywords := b16, g_law_keywords := PySem.W.mg_of X G a16,
    f_law_any_name := f_law_any_name, fd_law_any_name := _, F_law_any_name := F17, b_law_any_name := b17, g_law_any_name := PySem.W.mg_of X G a17,
    f_law_any_call := f_law_any_call, fd_law_any_call := _, F_law_any_call := F18, b_law_any_call := b18, g_law_any_call := PySem.W.mg_of X G a18,
    m_abs := PySem.W.mg_none_of X G z_abs, m_all := PySem.W.mg_none_of X G z_all, m_int := PySem.W.mg_none_of X G z_int, m_isinstance := PySem.W.mg_none_of X G z_isinstance, m_len := PySem.W.mg_none_of X G z_len, m_max := PySem.W.mg_none_of X G z_max, m_min := PySem.W.mg_none_of X G z_min, m_range := PySem.W.mg_none_of X G z_range, m_str := PySem.W.mg_none_of X G z_str, m_tuple := PySem.W.mg_none_of X G z_tuple, c_SMALL_LETTERS := ⟨_, PySem.W.mg_of X G y_SMALL_LETTERS⟩, c_DIGITS := ⟨_, PySem.W.mg_of X G y_DIGITS⟩, c_MOST_NAME_LETTERS := ⟨_, PySem.W.mg_of X G y_MOST_NAME_LETTERS⟩, c_MOST_STRING_LETTERS := ⟨_, PySem.W.mg_of X G y_MOST_STRING_LETTERS⟩, c_MOST_DIGITS := ⟨_, PySem.W.mg_of X G y_MOST_DIGITS⟩, c_MOST_CONSTANTS := ⟨_, PySem.W.mg_of X G y_MOST_CONSTANTS⟩, a_KEYWORDS := a_KEYWORDS, c_KEYWORDS := PySem.W.mg_of X G y_KEYWORDS, q_KEYWORDS := fun H => .inr ⟨_, _, _, u_KEYWORDS, rfl, rfl, Nat.le_trans (Nat.le_of_eq (show _ = 34 from rfl)) (by decide), (.cons ⟨_, rfl⟩ (.cons ⟨_, rfl⟩ (.cons ⟨_, rfl⟩ (.cons ⟨_, rfl⟩ (.cons ⟨_, rfl⟩ (.cons ⟨_, rfl⟩ (.cons ⟨_, rfl⟩ (.cons ⟨_, rfl⟩ (.cons ⟨_, rfl⟩ (.cons ⟨_, rfl⟩ (.cons ⟨_, rfl⟩ (.cons ⟨_, rfl⟩ (.cons ⟨_, rfl⟩ (.cons ⟨_, rfl⟩ (.cons ⟨_, rfl⟩ (.cons ⟨_, rfl⟩ (.cons ⟨_, rfl⟩ (.cons ⟨_, rfl⟩ (.cons ⟨_, rfl⟩ (.cons ⟨_, rfl⟩ (.cons ⟨_, rfl⟩ (.cons ⟨_, rfl⟩ (.cons ⟨_, rfl⟩ (.cons ⟨_, rfl⟩ (.cons ⟨_, rfl⟩ (.cons ⟨_, rfl⟩ (.cons ⟨_, rfl⟩ (.cons ⟨_, rfl⟩ (.cons ⟨_, rfl⟩ (.cons ⟨_, rfl⟩ (.cons ⟨_, rfl⟩ (.cons ⟨_, rfl⟩ (.cons ⟨_, rfl⟩ (.cons ⟨_, rfl⟩ (.nil)))))))))))))))))))))))))))))))))))⟩
  }
  exact ⟨PySem.W.fnOf "law" "law" (defArgs s_law) (defBody s_law) (defScope s_law) .none kV19 dc19 pm19 an19 cd19 ct19, fun s v => .of_eq rfl, fun base _ _ => ok_law T F19⟩
end Lw
open PySem PySem.W PyProof.Rows in
set_option maxRecDepth 100000 in
set_option maxHeartbeats 0 in
theorem PySem.Challenge.cw_whatpasses_k10_paths_known_holds : PySem.Challenge.rw_whatpasses_k10_paths_known.Holds := by
  w_on; o_law; k_head; (case hw => w_witness2)
  k_fill
  refine L2.walk_ofB (l := PySem.Challenge.rw_whatpasses_k10_paths_known) (n := 63) (k := 7) (x := "script") (CX := fun _ => L2.CX0) (sp := fun w => Lw.spLaw _) rfl (by decide) rfl ⟨rfl, by decide, by decide⟩ (fun w h Y => PySem.W.kIn_of Y) ?F (fun _ _ a ns hl hb _ hS => ⟨a, ns, rfl, hS, hl, hb, fun _ => rfl⟩) (fun _ _ _ _ _ h => h)
  case F =>
    intro w mg fa h KX G hmg
    refine' Lw.all_mk KX G hmg ?a0 ?l0 ?c0 ?k0 ?a1 ?l1 ?c1 ?k1 ?a2 ?l2 ?c2 ?k2 ?a3 ?l3 ?c3 ?k3 ?a4 ?l4 ?c4 ?k4 ?a5 ?l5 ?c5 ?k5 ?a6 ?l6 ?c6 ?k6 ?a7 ?l7 ?kx7 ?c7 ?k7 ?a8 ?l8 ?c8 ?k8 ?a9 ?l9 ?c9 ?k9 ?a10 ?l10 ?c10 ?k10 ?a11 ?l11 ?c11 ?k11 ?a12 ?l12 ?c12 ?k12 ?a13 ?l13 ?c13 ?k13 ?a14 ?l14 ?c14 ?k14 ?a15 ?l15 ?c15 ?k15 ?a16 ?l16 ?c16 ?k16 ?a17 ?l17 ?c17 ?k17 ?a18 ?l18 ?c18 ?k18 ?a19 ?l19 ?c19 ?k19 ?z_abs ?z_all ?z_int ?z_isinstance ?z_len ?z_max ?z_min ?z_range ?z_str ?z_tuple ?y_SMALL_LETTERS ?y_DIGITS ?y_KEYWORDS ?u_KEYWORDS ?y_MOST_NAME_LETTERS ?y_MOST_STRING_LETTERS ?y_MOST_DIGITS ?y_MOST_CONSTANTS
    (case a0 => k_is)
    (case l0 => k_is)
    (case c0 => k_is)
    (case k0 => k_is)
    (case a1 => k_is)
    (case l1 => k_is)
    (case c1 => k_is)
    (case k1 => k_is)
    (case a2 => k_is)
    (case l2 => k_is)
    (case c2 => k_is)
    (case k2 => k_is)
    (case a3 => k_is)
    (case l3 => k_is)
    (case c3 => k_is)
    (case k3 => k_is)
    (case a4 => k_is)
    (case l4 => k_is)
    (case c4 => k_is)
    (case k4 => k_is)
    (case a5 => k_is)
    (case l5 => k_is)
    (case c5 => k_is)
    (case k5 => k_is)
    (case a6 => k_is)
    (case l6 => k_is)
    (case c6 => k_is)
    (case k6 => k_is)
    (case a7 => k_is)
    (case l7 => k_is)
    (case kx7 => k_is)
    (case c7 => k_is)
    (case k7 => k_is)
    (case a8 => k_is)
    (case l8 => k_is)
    (case c8 => k_is)
    (case k8 => k_is)
    (case a9 => k_is)
    (case l9 => k_is)
    (case c9 => k_is)
    (case k9 => k_is)
    (case a10 => k_is)
    (case l10 => k_is)
    (case c10 => k_is)
    (case k10 => k_is)
    (case a11 => k_is)
    (case l11 => k_is)
    (case c11 => k_is)
    (case k11 => k_is)
    (case a12 => k_is)
    (case l12 => k_is)
    (case c12 => k_is)
    (case k12 => k_is)
    (case a13 => k_is)
    (case l13 => k_is)
    (case c13 => k_is)
    (case k13 => k_is)
    (case a14 => k_is)
    (case l14 => k_is)
    (case c14 => k_is)
    (case k14 => k_is)
    (case a15 => k_is)
    (case l15 => k_is)
    (case c15 => k_is)
    (case k15 => k_is)
    (case a16 => k_is)
    (case l16 => k_is)
    (case c16 => k_is)
    (case k16 => k_is)
    (case a17 => k_is)
    (case l17 => k_is)
    (case c17 => k_is)
    (case k17 => k_is)
    (case a18 => k_is)
    (case l18 => k_is)
    (case c18 => k_is)
    (case k18 => k_is)
    (case a19 => k_is)
    (case l19 => k_is)
    (case c19 => k_is)
    (case k19 => k_is)
    (case z_abs => k_is)
    (case z_all => k_is)
    (case z_int => k_is)
    (case z_isinstance => k_is)
    (case z_len => k_is)
    (case z_max => k_is)
    (case z_min => k_is)
    (case z_range => k_is)
    (case z_str => k_is)
    (case z_tuple => k_is)
    (case y_SMALL_LETTERS => k_is)
    (case y_DIGITS => k_is)
    (case y_KEYWORDS => k_is)
    (case u_KEYWORDS => k_is)
    (case y_MOST_NAME_LETTERS => k_is)
    (case y_MOST_STRING_LETTERS => k_is)
    (case y_MOST_DIGITS => k_is)
    (case y_MOST_CONSTANTS => k_is)
