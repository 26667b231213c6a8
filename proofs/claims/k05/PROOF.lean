
import PyProof.Rows.All
import Wide.All
import OpenK.AllK
import Wide.FinOn
import HandS.ForMost
import HandS.Wide
import HandS.IsInst
import HandS.EndBits
import HandS.Walk
import HandS.Style
import HandS.Defaults
import PySem.Challenge.RW_whatpasses_k05_items_and_answers
set_option Elab.async false
set_option linter.all false
set_option maxRecDepth 100000
set_option maxHeartbeats 4000000

namespace Lw
open PySem PySem.Spec PyProof.Rows L2
def topS (i : Nat) : Stmt := PySem.Challenge.pw_whatpasses_k05_items_and_answers.main.body.getD i (.Pass ⟨0, 0, 0, 0⟩)
abbrev s_consists_of : Stmt := topS 3
theorem sc_consists_of : FnScope ["text", "characters", "character"] ["text", "characters"] (defScope s_consists_of) := ⟨rfl, rfl, rfl, by decide +kernel, rfl, by decide +kernel, by decide +kernel⟩
abbrev s_is_integer : Stmt := topS 4
theorem sc_is_integer : FnScope ["thing"] ["thing"] (defScope s_is_integer) := ⟨rfl, rfl, rfl, by decide +kernel, rfl, by decide +kernel, by decide +kernel⟩
abbrev s_is_small_word : Stmt := topS 5
theorem sc_is_small_word : FnScope ["thing", "most"] ["thing", "most"] (defScope s_is_small_word) := ⟨rfl, rfl, rfl, by decide +kernel, rfl, by decide +kernel, by decide +kernel⟩
abbrev s_is_class_name : Stmt := topS 8
theorem sc_is_class_name : FnScope ["thing"] ["thing"] (defScope s_is_class_name) := ⟨rfl, rfl, rfl, by decide +kernel, rfl, by decide +kernel, by decide +kernel⟩
abbrev s_is_item : Stmt := topS 11
theorem sc_is_item : FnScope ["thing"] ["thing"] (defScope s_is_item) := ⟨rfl, rfl, rfl, by decide +kernel, rfl, by decide +kernel, by decide +kernel⟩
abbrev s_is_raised : Stmt := topS 12
theorem sc_is_raised : FnScope ["thing", "word", "kind", "cause"] ["thing"] (defScope s_is_raised) := ⟨rfl, rfl, rfl, by decide +kernel, rfl, by decide +kernel, by decide +kernel⟩
abbrev s_is_answer : Stmt := topS 13
theorem sc_is_answer : FnScope ["thing", "item"] ["thing"] (defScope s_is_answer) := ⟨rfl, rfl, rfl, by decide +kernel, rfl, by decide +kernel, by decide +kernel⟩
abbrev s_law_take : Stmt := topS 15
theorem sc_law_take : FnScope ["bag", "many", "digit", "mixed"] ["bag", "many"] (defScope s_law_take) := ⟨rfl, rfl, rfl, by decide +kernel, rfl, by decide +kernel, by decide +kernel⟩
abbrev s_law_of : Stmt := topS 16
theorem sc_law_of : FnScope ["bag", "some"] ["bag", "some"] (defScope s_law_of) := ⟨rfl, rfl, rfl, by decide +kernel, rfl, by decide +kernel, by decide +kernel⟩
abbrev s_law_class : Stmt := topS 17
theorem sc_law_class : FnScope ["bag", "letters", "found", "turn"] ["bag"] (defScope s_law_class) := ⟨rfl, rfl, rfl, by decide +kernel, rfl, by decide +kernel, by decide +kernel⟩
abbrev s_law_bag : Stmt := topS 18
theorem sc_law_bag : FnScope ["script", "at", "cell"] ["script", "at"] (defScope s_law_bag) := ⟨rfl, rfl, rfl, by decide +kernel, rfl, by decide +kernel, by decide +kernel⟩
abbrev s_law_word : Stmt := topS 19
theorem sc_law_word : FnScope ["bag", "most", "turn"] ["bag", "most"] (defScope s_law_word) := ⟨rfl, rfl, rfl, by decide +kernel, rfl, by decide +kernel, by decide +kernel⟩
abbrev s_law_any : Stmt := topS 20
theorem sc_law_any : FnScope ["bag", "deep", "way", "some", "turn"] ["bag", "deep"] (defScope s_law_any) := ⟨rfl, rfl, rfl, by decide +kernel, rfl, by decide +kernel, by decide +kernel⟩
abbrev s_law_number : Stmt := topS 21
theorem sc_law_number : FnScope ["bag", "near", "way", "top"] ["bag", "near"] (defScope s_law_number) := ⟨rfl, rfl, rfl, by decide +kernel, rfl, by decide +kernel, by decide +kernel⟩
abbrev s_law_is_integer : Stmt := topS 22
theorem sc_law_is_integer : FnScope ["thing"] ["thing"] (defScope s_law_is_integer) := ⟨rfl, rfl, rfl, by decide +kernel, rfl, by decide +kernel, by decide +kernel⟩
abbrev s_law_is_word : Stmt := topS 23
theorem sc_law_is_word : FnScope ["thing", "most", "sign"] ["thing", "most"] (defScope s_law_is_word) := ⟨rfl, rfl, rfl, by decide +kernel, rfl, by decide +kernel, by decide +kernel⟩
abbrev s_law_is_item : Stmt := topS 24
theorem sc_law_is_item : FnScope ["thing"] ["thing"] (defScope s_law_is_item) := ⟨rfl, rfl, rfl, by decide +kernel, rfl, by decide +kernel, by decide +kernel⟩
abbrev s_law_is_class : Stmt := topS 25
theorem sc_law_is_class : FnScope ["thing", "letters", "sign"] ["thing"] (defScope s_law_is_class) := ⟨rfl, rfl, rfl, by decide +kernel, rfl, by decide +kernel, by decide +kernel⟩
abbrev s_law_is_answer : Stmt := topS 26
theorem sc_law_is_answer : FnScope ["thing", "item"] ["thing"] (defScope s_law_is_answer) := ⟨rfl, rfl, rfl, by decide +kernel, rfl, by decide +kernel, by decide +kernel⟩
abbrev s_law_near : Stmt := topS 27
theorem sc_law_near : FnScope ["bag", "found", "wrong", "way", "turn"] ["bag"] (defScope s_law_near) := ⟨rfl, rfl, rfl, by decide +kernel, rfl, by decide +kernel, by decide +kernel⟩
abbrev s_law : Stmt := topS 28
theorem sc_law : FnScope ["script", "at", "bag", "some", "thing", "told", "due"] ["script"] (defScope s_law) := ⟨rfl, rfl, rfl, by decide +kernel, rfl, by decide +kernel, by decide +kernel⟩
/-- what the top leaves: where the defs stand, which names are built-in -/
structure Txt (K : PySem.W.Frag) (mg : Str → Option Value) where
  f_consists_of : Addr
  fd_consists_of : FuncData
  F_consists_of : Fun K "consists_of" "consists_of" s_consists_of f_consists_of fd_consists_of
  b_consists_of : Binds K fd_consists_of ["text", "characters"] []
  g_consists_of : mg "consists_of" = some (.ref f_consists_of)
  f_is_integer : Addr
  fd_is_integer : FuncData
  F_is_integer : Fun K "is_integer" "is_integer" s_is_integer f_is_integer fd_is_integer
  b_is_integer : Binds K fd_is_integer ["thing"] []
  g_is_integer : mg "is_integer" = some (.ref f_is_integer)
  f_is_small_word : Addr
  fd_is_small_word : FuncData
  F_is_small_word : Fun K "is_small_word" "is_small_word" s_is_small_word f_is_small_word fd_is_small_word
  b_is_small_word : Binds K fd_is_small_word ["thing", "most"] []
  g_is_small_word : mg "is_small_word" = some (.ref f_is_small_word)
  f_is_class_name : Addr
  fd_is_class_name : FuncData
  F_is_class_name : Fun K "is_class_name" "is_class_name" s_is_class_name f_is_class_name fd_is_class_name
  b_is_class_name : Binds K fd_is_class_name ["thing"] []
  g_is_class_name : mg "is_class_name" = some (.ref f_is_class_name)
  f_is_item : Addr
  fd_is_item : FuncData
  F_is_item : Fun K "is_item" "is_item" s_is_item f_is_item fd_is_item
  b_is_item : Binds K fd_is_item ["thing"] []
  g_is_item : mg "is_item" = some (.ref f_is_item)
  f_is_raised : Addr
  fd_is_raised : FuncData
  F_is_raised : Fun K "is_raised" "is_raised" s_is_raised f_is_raised fd_is_raised
  b_is_raised : Binds K fd_is_raised ["thing"] []
  g_is_raised : mg "is_raised" = some (.ref f_is_raised)
  f_is_answer : Addr
  fd_is_answer : FuncData
  F_is_answer : Fun K "is_answer" "is_answer" s_is_answer f_is_answer fd_is_answer
  b_is_answer : Binds K fd_is_answer ["thing"] []
  g_is_answer : mg "is_answer" = some (.ref f_is_answer)
  f_law_take : Addr
  fd_law_take : FuncData
  F_law_take : Fun K "_law_take" "_law_take" s_law_take f_law_take fd_law_take
  b_law_take : Binds K fd_law_take ["bag", "many"] []
  g_law_take : mg "_law_take" = some (.ref f_law_take)
  f_law_of : Addr
  fd_law_of : FuncData
  F_law_of : Fun K "_law_of" "_law_of" s_law_of f_law_of fd_law_of
  b_law_of : Binds K fd_law_of ["bag", "some"] []
  g_law_of : mg "_law_of" = some (.ref f_law_of)
  f_law_class : Addr
  fd_law_class : FuncData
  F_law_class : Fun K "_law_class" "_law_class" s_law_class f_law_class fd_law_class
  b_law_class : Binds K fd_law_class ["bag"] []
  g_law_class : mg "_law_class" = some (.ref f_law_class)
  f_law_bag : Addr
  fd_law_bag : FuncData
  F_law_bag : Fun K "_law_bag" "_law_bag" s_law_bag f_law_bag fd_law_bag
  b_law_bag : Binds K fd_law_bag ["script", "at"] []
  g_law_bag : mg "_law_bag" = some (.ref f_law_bag)
  f_law_word : Addr
  fd_law_word : FuncData
  F_law_word : Fun K "_law_word" "_law_word" s_law_word f_law_word fd_law_word
  b_law_word : Binds K fd_law_word ["bag", "most"] []
  g_law_word : mg "_law_word" = some (.ref f_law_word)
  f_law_any : Addr
  fd_law_any : FuncData
  F_law_any : Fun K "_law_any" "_law_any" s_law_any f_law_any fd_law_any
  b_law_any : Binds K fd_law_any ["bag", "deep"] []
  g_law_any : mg "_law_any" = some (.ref f_law_any)
  f_law_number : Addr
  fd_law_number : FuncData
  F_law_number : Fun K "_law_number" "_law_number" s_law_number f_law_number fd_law_number
  b_law_number : Binds K fd_law_number ["bag", "near"] []
  g_law_number : mg "_law_number" = some (.ref f_law_number)
  f_law_is_integer : Addr
  fd_law_is_integer : FuncData
  F_law_is_integer : Fun K "_law_is_integer" "_law_is_integer" s_law_is_integer f_law_is_integer fd_law_is_integer
  b_law_is_integer : Binds K fd_law_is_integer ["thing"] []
  g_law_is_integer : mg "_law_is_integer" = some (.ref f_law_is_integer)
  f_law_is_word : Addr
  fd_law_is_word : FuncData
  F_law_is_word : Fun K "_law_is_word" "_law_is_word" s_law_is_word f_law_is_word fd_law_is_word
  b_law_is_word : Binds K fd_law_is_word ["thing", "most"] []
  g_law_is_word : mg "_law_is_word" = some (.ref f_law_is_word)
  f_law_is_item : Addr
  fd_law_is_item : FuncData
  F_law_is_item : Fun K "_law_is_item" "_law_is_item" s_law_is_item f_law_is_item fd_law_is_item
  b_law_is_item : Binds K fd_law_is_item ["thing"] []
  g_law_is_item : mg "_law_is_item" = some (.ref f_law_is_item)
  f_law_is_class : Addr
  fd_law_is_class : FuncData
  F_law_is_class : Fun K "_law_is_class" "_law_is_class" s_law_is_class f_law_is_class fd_law_is_class
  b_law_is_class : Binds K fd_law_is_class ["thing"] []
  g_law_is_class : mg "_law_is_class" = some (.ref f_law_is_class)
  f_law_is_answer : Addr
  fd_law_is_answer : FuncData
  F_law_is_answer : Fun K "_law_is_answer" "_law_is_answer" s_law_is_answer f_law_is_answer fd_law_is_answer
  b_law_is_answer : Binds K fd_law_is_answer ["thing"] []
  g_law_is_answer : mg "_law_is_answer" = some (.ref f_law_is_answer)
  f_law_near : Addr
  fd_law_near : FuncData
  F_law_near : Fun K "_law_near" "_law_near" s_law_near f_law_near fd_law_near
  b_law_near : Binds K fd_law_near ["bag"] []
  g_law_near : mg "_law_near" = some (.ref f_law_near)
  m_abs : mg "abs" = none
  m_all : mg "all" = none
  m_bool : mg "bool" = none
  m_int : mg "int" = none
  m_isinstance : mg "isinstance" = none
  m_len : mg "len" = none
  m_list : mg "list" = none
  m_max : mg "max" = none
  m_min : mg "min" = none
  m_range : mg "range" = none
  m_str : mg "str" = none
  m_tuple : mg "tuple" = none
  c_SMALL_LETTERS : ∃ t, mg "SMALL_LETTERS" = some (.str "abcdefghijklmnopqrstuvwxyz" t)
  c_CAPITAL_LETTERS : ∃ t, mg "CAPITAL_LETTERS" = some (.str "ABCDEFGHIJKLMNOPQRSTUVWXYZ" t)
  c_MOST_CLASS_LETTERS : ∃ t, mg "MOST_CLASS_LETTERS" = some (.int 12 t)
  c_MOST_WORD_LETTERS : ∃ t, mg "MOST_WORD_LETTERS" = some (.int 30 t)
/-! ### short steps: where the walk's name is only a name -/

/-! ### isinstance -/
theorem ty_non {K : PySem.W.Frag} {H : Hp} : TyX K H .non (.type "NoneType") := .base .non
theorem ty_bl {K : PySem.W.Frag} {H : Hp} {b : Bool} : TyX K H (.bl b) (.type "bool") := .base (.bl b)
theorem ty_int {K : PySem.W.Frag} {H : Hp} {i : Int} : TyX K H (.int i) (.type "int") := .base (.int i)
theorem ty_str {K : PySem.W.Frag} {H : Hp} {z : Str} : TyX K H (.str z) (.type "str") := .base (.str z)
theorem ty_lst {K : PySem.W.Frag} {H : Hp} {a : Addr} {xs : List V} (e : H a = some (.lst xs)) : TyX K H (.ref a) (.type "list") := .base (.lst e)
theorem ty_tup {K : PySem.W.Frag} {H : Hp} {a : Addr} {xs : List V} (e : H a = some (.tup xs)) : TyX K H (.ref a) (.type "tuple") := .base (.tup e)
theorem kit_of2 {K : PySem.W.Frag} {a c : String} (r : Bool) (h : kitB a c = some r) : PySem.W.kitOne K (.type a) (.type c) = some r := kit_ty h

theorem ty_sqL {K : PySem.W.Frag} {H : Hp} {a : Addr} {xs : List V} (h : SqL K H a xs) : TyX K H (.ref a) (.type "list") := by
  rcases h with (h | ⟨o, h⟩) | ⟨o, its, n, h, c, _⟩
  · exact .base (.lst h)
  · exact .base (.frz h)
  · exact .kList h c
theorem ty_sqT {K : PySem.W.Frag} {H : Hp} {a : Addr} {xs : List V} (h : SqT K H a xs) : TyX K H (.ref a) (.type "tuple") := by
  rcases h with (h | ⟨o, h⟩) | ⟨o, its, n, h, c, _⟩
  · exact .base (.tup h)
  · exact .fTuple h
  · exact .kTuple h c
theorem small5 {n : Nat} (h : n ≤ 100000) : n < sizeLine := Nat.lt_of_le_of_lt h (by decide)
def isUp (c : Nat) : Bool := decide (65 ≤ c ∧ c ≤ 90)
def isLow (c : Nat) : Bool := decide (97 ≤ c ∧ c ≤ 122)

local macro_rules | `(tactic| walk_at "lw list") => `(tactic| first | assumption | exact upd_same | (rw [upd_ne (by assumption)]; assumption))
local macro_rules | `(tactic| walk_at "lw c") => `(tactic| first
  | (show (_ : Int) ≠ 0; omega)
  | exact log_small (by omega) (by assumption)
  | exact Or.inl ⟨by omega, by omega⟩
  | exact Or.inr ⟨by omega, by omega⟩
  | exact ⟨by omega, by omega⟩
  | exact ⟨by omega, by omega, by omega⟩)
local macro_rules | `(tactic| walk_at "lw n") => `(tactic| first | exact Nat.zero_le _ | (refine Nat.le_of_lt (small1000 ?_); simp only [List.length_cons, List.length_nil]; decide))
local macro_rules | `(tactic| walk_at "lw v") => `(tactic| first
  | refine ⟨_, rfl, ?_⟩
  | refine ⟨_, _, rfl, rfl, ?_⟩
  | refine ⟨_, _, rfl, ?_⟩
  | refine .inl ⟨_, rfl, ?_⟩
  | refine ⟨⟨_, rfl⟩, ?_⟩
  | refine ⟨rfl, ?_⟩
  | (refine' ⟨_, _, _, _, rfl, rfl, SqL.of ?h, ?r, ?_⟩; (case h => walk_at "lw list"); (case r => rfl))
  | (refine' ⟨_, _, _, _, rfl, rfl, ?h, ?r, ?_⟩; (case h => walk_at "lw list"); (case r => rfl))
  | (refine' ⟨_, _, rfl, .inl ⟨_, SqL.of ?h, rfl⟩, ?_⟩; (case h => walk_at "lw list"))
  | (refine' ⟨_, _, rfl, .inl ⟨_, ?h, rfl⟩, ?_⟩; (case h => assumption))
  | (refine' ⟨_, _, rfl, .inr ⟨_, ?h, rfl⟩, ?_⟩; (case h => assumption))
  | (refine ⟨_, _, rfl, ⟨(by have := PySem.sizeLine_eq; omega), rfl⟩, ?_⟩)
  | (refine ⟨(by walk_at "lw c"), ?_⟩))
local macro_rules | `(tactic| walk_at "lw isi") => `(tactic| (refine' ⟨_, _, _, _, _, rfl, .ty _, ?ty, ?k, ?_⟩; (case ty => first | exact ty_int | exact ty_str | exact ty_non | exact ty_bl | exact ty_lst (by assumption) | exact ty_tup (by assumption) | exact ty_sqL (by assumption) | exact ty_sqT (by assumption)); (case k => first | (refine kit_of2 true ?_; decide +kernel) | (refine kit_of2 false ?_; decide +kernel))))
local macro_rules | `(tactic| walk_at "lw w") => `(tactic| first | walk_at "lw v" | walk_at "lw isi")

/-! ### the draws -/
/-- the bag of draws at b: its last number is at most n -/
def Bag (H : Hp) (b : Addr) (n : Int) : Prop := ∃ x y z : Int, H b = some (.lst [.int x, .int y, .int z]) ∧ 0 ≤ x ∧ 0 ≤ y ∧ y ≤ 2000000000 ∧ 0 ≤ z ∧ z ≤ n
/-- all that was tracked stands as it stood, but what stands at b -/
def Keep (b : Addr) (H H' : Hp) : Prop := ∀ q o, q ≠ b → H q = some o → H' q = some o
theorem Keep.refl (b : Addr) (H : Hp) : Keep b H H := fun _ _ _ h => h
theorem Keep.trans {b : Addr} {H H1 H2 : Hp} (x : Keep b H H1) (y : Keep b H1 H2) : Keep b H H2 := fun q o n h => y q o n (x q o n h)
theorem Keep.upd (b : Addr) (H : Hp) (o : HO) : Keep b H (upd H b o) := fun q u n h => by rw [upd_ne n]; exact h
theorem Keep.new {b p : Addr} {H : Hp} {o : HO} (hp : H p = none) : Keep b H (L2.upd H p o) := fun q u _ h => by
  rw [upd_ne (ne_of_none h hp)]
  exact h
theorem Bag.new {b p : Addr} {H : Hp} {o : HO} {n : Int} (h : Bag H b n) (hp : H p = none) : Bag (L2.upd H p o) b n := by
  obtain ⟨x, y, z, e, r⟩ := h
  exact ⟨x, y, z, by rw [upd_ne (ne_of_none e hp)]; exact e, r⟩
theorem Bag.mono {b : Addr} {H : Hp} {n m : Int} (h : Bag H b n) (l : n ≤ m) : Bag H b m := by
  obtain ⟨x, y, z, e, r1, r2, r3, r4, r5⟩ := h
  exact ⟨x, y, z, e, r1, r2, r3, r4, by omega⟩
theorem Bag.ne {b p : Addr} {H : Hp} {n : Int} (h : Bag H b n) (hp : H p = none) : b ≠ p := by
  obtain ⟨x, y, z, e, _⟩ := h
  exact ne_of_none e hp
theorem same_new {H : Hp} {p : Addr} {o : HO} (h : H p = none) : Same H (upd H p o) := fun b x e => by
  rw [upd_ne (ne_of_none e h)]
  exact e

/-- a draw: an int from 0 to m less one -/
def sp_take : Sp := fun vs H Q _ => ∃ (b : Addr) (m n : Int), vs = [.ref b, .int m] ∧ Bag H b n ∧ n ≤ 1000000000 ∧ 0 < m ∧ m < 2 ^ 200 ∧
  ∀ (d : Int) (H' : Hp), 0 ≤ d → d < m → Bag H' b (n + 1) → Keep b H H' → Q (.int d) H'
theorem small200 {j : Int} (h0 : 0 < j) (h : j < 2 ^ 200) : j.natAbs < 2 ^ 200 := by
  have e : ((2 : Int) ^ 200) = ((2 ^ 200 : Nat) : Int) := by decide +kernel
  rw [e] at h
  omega
theorem log_small {i j : Int} (h0 : 0 < j) (h : j < 2 ^ 200) : CDivW i j := wide_div h0 (small200 h0 h) (by decide) (by decide)
section
variable {P : Program} {w : World} {K : PySem.W.Frag} {mg : Str → Option Value} {base : Heap}
theorem ok_law_take (T : Txt K mg) : FnOk P w K mg base CX0 1 T.f_law_take T.fd_law_take ["bag", "many"] sp_take := by
  refine T.F_law_take.ok sc_law_take (fun vs H Q E h => ?_) (fun cdv A outer s H vs Q E hr h => ?_)
  · obtain ⟨b, m, n, rfl, _⟩ := h
    rfl
  · obtain ⟨b, m, n, rfl, ⟨x, y, z, hb, hx, hy, hy2, hz, hzn⟩, hn, hm0, hm, q⟩ := h
    refine ⟨_, (pss_cons (ps_if (pt_cmpR op_gt (pe_ix ix_list (pv 0) pe_int (fun _ _ => rfl)) pe_int (nomark _)) (pss_cons (ps_set (i := 2) sc_law_take.nd rfl (.inl rfl) (pe_op op_modN (pe_callTy call_int1 (by rfl) T.m_int (by decide +kernel) (pa_cons (pe_ix ix_list (pv 0) pe_int (fun _ _ => rfl)) pa_nil)) (pv 1)))
        (pss_cons (ps_asg (pe_op op_fdivW (pe_ix ix_list (pv 0) pe_int (fun _ _ => rfl)) (pv 1)) (pg_sub (pv 0) pe_int set_list))
        (pss_one (ps_ret (pv 2))))) pss_nil)
        (pss_cons (ps_asg (pe_op op_add (pe_ix ix_list (pv 0) pe_int (fun _ _ => rfl)) pe_int) (pg_sub (pv 0) pe_int set_list))
        (pss_cons (ps_set (i := 3) sc_law_take.nd rfl (.inl rfl) (pe_op op_modN (pe_callTy call_int1 (by rfl) T.m_int (by decide +kernel) (pa_cons (pe_op op_mul (pe_op op_add (pe_ix ix_list (pv 0) pe_int (fun _ _ => rfl)) (pe_op op_mul pe_int (pe_ix ix_list (pv 0) pe_int (fun _ _ => rfl)))) (pe_op op_add (pe_ix ix_list (pv 0) pe_int (fun _ _ => rfl)) pe_int)) pa_nil)) pe_int))
        (pss_one (ps_ret (pe_op op_modN (pe_callTy call_int1 (by rfl) T.m_int (by decide +kernel) (pa_cons (pe_op op_fdivN (pe_op op_modN (pe_callTy call_int1 (by rfl) T.m_int (by decide +kernel) (pa_cons (pe_op op_pow (pe_op op_add (pv 3) (pe_op op_mul pe_int (pe_ix ix_list (pv 0) pe_int (fun _ _ => rfl)))) pe_int) pa_nil)) pe_int) pe_int) pa_nil)) (pv 1))))))), ?_⟩
    repeat (walk_at "lw v")
    refine ite2 (fun e => ?_) (fun e => ?_)
    · have e0 : 0 < x := of_decide_eq_true e
      repeat (walk_at "lw v")
      refine ⟨log_small hm0 hm, ?_⟩
      repeat (walk_at "lw v")
      refine q _ _ (Int.fmod_nonneg_of_pos _ hm0) (Int.fmod_lt_of_pos _ hm0) ⟨x / m, y, z, upd_same, Int.ediv_nonneg hx (by omega), hy, hy2, hz, by omega⟩ (Keep.upd _ _ _)
    · have f1 : 0 ≤ ((y + 40009 * (z + 1)) * (y + 7919)).fmod 2147483647 := Int.fmod_nonneg_of_pos _ (by decide)
      have f2 : ((y + 40009 * (z + 1)) * (y + 7919)).fmod 2147483647 < 2147483647 := Int.fmod_lt_of_pos _ (by decide)
      repeat (walk_at "lw v")
      refine q _ _ (Int.fmod_nonneg_of_pos _ hm0) (Int.fmod_lt_of_pos _ hm0) ⟨x, y, z + 1, upd_same, hx, hy, hy2, by omega, by omega⟩ (Keep.upd _ _ _)
theorem atI_of {α : Type} {xs : List α} {d : Int} (h0 : 0 ≤ d) (h1 : d < (xs.length : Int)) : ∃ v, v ∈ xs ∧ atI xs d = some v := by
  obtain ⟨k, rfl⟩ := Int.eq_ofNat_of_zero_le h0
  have hk : k < xs.length := by omega
  exact ⟨xs[k], List.getElem_mem hk, atI_nat (List.getElem?_eq_getElem hk)⟩
/-- one of some: of a list, or a letter of a text -/
def sp_of : Sp := fun vs H Q _ => ∃ (b : Addr) (s : V) (n : Int), vs = [.ref b, s] ∧ Bag H b n ∧ n ≤ 1000000000 ∧
  ((∃ (l : Addr) (xs : List V), s = .ref l ∧ l ≠ b ∧ H l = some (.lst xs) ∧ 0 < xs.length ∧ xs.length ≤ 100000 ∧ ∀ (v : V) (H' : Hp), v ∈ xs → Bag H' b (n + 1) → Keep b H H' → Q v H') ∨
    (∃ z : Str, s = .str z ∧ 0 < z.length ∧ z.length ≤ 1000 ∧ ∀ (c : Nat) (H' : Hp), c ∈ z.cps.toList → Bag H' b (n + 1) → Keep b H H' → Q (.str ⟨#[c]⟩) H'))
theorem ok_law_of (T : Txt K mg) : FnOk P w K mg base CX0 2 T.f_law_of T.fd_law_of ["bag", "some"] sp_of := by
  have G_law_take := ok_law_take (P := P) (w := w) (base := base) T
  refine T.F_law_of.ok sc_law_of (fun vs H Q E h => ?_) (fun cdv A outer s H vs Q E hr h => ?_)
  · obtain ⟨b, m, n, rfl, _⟩ := h
    rfl
  · obtain ⟨b, sm, n, rfl, hb, hn, q⟩ := h
    refine ⟨_, (pss_one (ps_ret (pe_ix ix_seq (pv 1) (pe_call G_law_take hr (by rfl) T.g_law_take T.F_law_take.kp T.b_law_take .nil pass0 (pa_cons (pv 0) (pa_cons (pe_callB call_len (by rfl) T.m_len (by decide +kernel) (pa_cons (pv 1) pa_nil)) pa_nil))) (fun _ _ => rfl)))), ?_⟩
    rcases q with ⟨l, xs, rfl, nl, hl, l0, l1, q⟩ | ⟨z, rfl, z0, z1, q⟩
    · repeat (walk_at "lw v")
      refine ⟨b, _, n, rfl, hb, hn, by omega, by omega, fun d H' d0 d1 hB hK => ?_⟩
      obtain ⟨v, hv, ha⟩ := atI_of (xs := xs) d0 d1
      exact .inl ⟨l, xs, d, v, rfl, rfl, SqL.of (hK l _ nl hl), ha, q v H' hv hB hK⟩
    · repeat (walk_at "lw v")
      refine ⟨b, _, n, rfl, hb, hn, by omega, by omega, fun d H' d0 d1 hB hK => ?_⟩
      obtain ⟨v, hv, ha⟩ := atI_of (xs := z.cps.toList) d0 (by rw [Array.length_toList]; exact d1)
      exact .inr (.inr ⟨z, d, v, rfl, rfl, by have := PySem.sizeLine_eq; omega, ha, q v H' hv hB hK⟩)
end

theorem of_map {ns : List Int} {v : V} (h : v ∈ ns.map V.int) : ∃ i, v = V.int i := by
  obtain ⟨i, _, e⟩ := List.mem_map.mp h
  exact ⟨i, e.symm⟩
theorem bag_at {H : Hp} {p : Addr} {x c i : Int} (hx : 0 ≤ x) (i0 : 0 ≤ i) (i1 : i ≤ 63) : Bag (upd H p (.lst [.int x, .int (c.fmod 998244353 + 3000017 * i), .int 0])) p 0 := by
  have f1 : 0 ≤ c.fmod 998244353 := Int.fmod_nonneg_of_pos _ (by decide)
  have f2 : c.fmod 998244353 < 998244353 := Int.fmod_lt_of_pos _ (by decide)
  exact ⟨x, _, 0, upd_same, hx, by omega, by omega, by omega, by omega⟩
/-- a bag for a cell of the script -/
def sp_bag (K : PySem.W.Frag) : Sp := fun vs H Q _ => ∃ (a : Addr) (ns : List Int) (i : Int), vs = [.ref a, .int i] ∧ SqL K H a (ns.map V.int) ∧ ns.length ≤ 63 ∧ 0 ≤ i ∧ i ≤ 63 ∧
  ∀ (b : Addr) (H' : Hp), H b = none → Bag H' b 0 → Same H H' → Q (.ref b) H'
section
variable {P : Program} {w : World} {K : PySem.W.Frag} {mg : Str → Option Value} {base : Heap}
theorem ok_law_bag (T : Txt K mg) : FnOk P w K mg base CX0 1 T.f_law_bag T.fd_law_bag ["script", "at"] (sp_bag K) := by
  refine T.F_law_bag.ok sc_law_bag (fun vs H Q E h => ?_) (fun cdv A outer s H vs Q E hr h => ?_)
  · obtain ⟨b, m, n, rfl, _⟩ := h
    rfl
  · obtain ⟨a, ns, i, rfl, hS, hl, i0, i1, q⟩ := h
    refine ⟨_, (pss_cons (ps_set (i := 2) sc_law_bag.nd rfl (.inl rfl) (pe_ifExp (pt_cmpR op_lt (pv 1) (pe_callB call_len (by rfl) T.m_len (by decide +kernel) (pa_cons (pv 0) pa_nil)) (nomark _)) (pe_ix ix_list (pv 0) (pv 1) (fun _ _ => rfl)) pe_int))
        (pss_one (ps_ret (pe_lst (pa_cons (pe_ifExp (pt_cmpR op_ge (pe_callB call_abs (by rfl) T.m_abs (by decide +kernel) (pa_cons (pv 2) pa_nil)) (pe_op op_pow pe_int pe_int) (nomark _)) (pe_callB call_abs (by rfl) T.m_abs (by decide +kernel) (pa_cons (pv 2) pa_nil)) pe_int) (pa_cons (pe_op op_add (pe_op op_modN (pe_callTy call_int1 (by rfl) T.m_int (by decide +kernel) (pa_cons (pv 2) pa_nil)) pe_int) (pe_op op_mul pe_int (pv 1))) (pa_cons pe_int pa_nil))))))), ?_⟩
    repeat (walk_at "lw v")
    refine ite2 (fun e => ?_) (fun e => ?_)
    · have e1 : i < ((ns.map V.int).length : Int) := of_decide_eq_true e
      obtain ⟨v, hv, ha⟩ := atI_of i0 e1
      obtain ⟨c, rfl⟩ := of_map hv
      repeat (walk_at "lw v")
      refine ⟨_, _, _, _, rfl, rfl, hS, ha, ?_⟩
      repeat (walk_at "lw v")
      refine ite2 (fun e => ?_) (fun e => ?_)
      · repeat (walk_at "lw v")
        refine ⟨(by walk_at "lw n"), fun p hp => q p _ hp (bag_at (by split <;> omega) i0 i1) (same_new hp)⟩
      · repeat (walk_at "lw v")
        refine ⟨(by walk_at "lw n"), fun p hp => q p _ hp (bag_at (by decide) i0 i1) (same_new hp)⟩
    · repeat (walk_at "lw v")
      refine ⟨(by walk_at "lw n"), fun p hp => q p _ hp (bag_at (by decide) i0 i1) (same_new hp)⟩
end

/-! ### names of classes -/
/-- a class name: a capital letter and at most eleven letters -/
def IsClass (z : Str) : Prop := ∃ c cs, z.cps.toList = c :: cs ∧ cs.length ≤ 11 ∧ isUp c = true ∧ cs.all (fun x => isUp x || isLow x) = true
def sp_class : Sp := fun vs H Q _ => ∃ (b : Addr) (n : Int), vs = [.ref b] ∧ Bag H b n ∧ n ≤ 900000000 ∧
  ∀ (z : Str) (H' : Hp), IsClass z → Bag H' b (n + 20) → Keep b H H' → Q (.str z) H'
section
variable {P : Program} {w : World} {K : PySem.W.Frag} {mg : Str → Option Value} {base : Heap}
theorem ok_law_class (T : Txt K mg) : FnOk P w K mg base CX0 3 T.f_law_class T.fd_law_class ["bag"] sp_class := by
  have G_law_take := ok_law_take (P := P) (w := w) (base := base) T
  have G_law_of := ok_law_of (P := P) (w := w) (base := base) T
  refine T.F_law_class.ok sc_law_class (fun vs H Q E h => ?_) (fun cdv A outer s H vs Q E hr h => ?_)
  · obtain ⟨b, n, rfl, _⟩ := h
    rfl
  · obtain ⟨b, n, rfl, hb, hn, q⟩ := h
    refine ⟨_, (pss_cons (ps_set (i := 1) sc_law_class.nd rfl (.inl rfl) pe_str)
        (pss_cons (ps_set (i := 2) sc_law_class.nd rfl (.inl rfl) (pe_call G_law_of hr (by rfl) T.g_law_of T.F_law_of.kp T.b_law_of .nil pass0 (pa_cons (pv 0) (pa_cons (pe_slice sl_str (pv 1) (po_some pe_int) po_none) pa_nil))))
        (pss_cons (ps_for PassesOwn.never rfl (pi_range1 (by rfl) T.m_range (pa_cons (pe_call G_law_take (hr.mono (by omega)) (by rfl) T.g_law_take T.F_law_take.kp T.b_law_take .nil pass0 (pa_cons (pv 0) (pa_cons pe_int pa_nil))) pa_nil)) (pg_name (i := 3) sc_law_class.nd rfl (.inl rfl)) (pss_one (ps_set (i := 2) sc_law_class.nd rfl (.inl rfl) (pe_op op_add_str (pv 2) (pe_call G_law_of hr (by rfl) T.g_law_of T.F_law_of.kp T.b_law_of .nil pass0 (pa_cons (pv 0) (pa_cons (pv 1) pa_nil)))))))
        (pss_one (ps_ret (pv 2)))))), ?_⟩
    repeat (walk_at "lw v")
    refine ⟨by decide +kernel, ?_⟩
    repeat (walk_at "lw v")
    refine ⟨b, _, n, rfl, hb, by omega, .inr ⟨_, rfl, by decide +kernel, by decide +kernel, fun c H1 hc hB1 hK1 => ?_⟩⟩
    have hup : isUp c = true := (by decide +kernel : ∀ c ∈ (cutS (Str.ofString "abcdefghijklmnopqrstuvwxyzABCDEFGHIJKLMNOPQRSTUVWXYZ") (some 26) none).cps.toList, isUp c = true) c hc
    repeat (walk_at "lw v")
    refine ⟨b, _, _, rfl, hB1, by omega, by decide, by decide, fun d H2 d0 d1 hB2 hK2 => ?_⟩
    repeat (walk_at "lw v")
    refine ⟨by omega, by omega, ?_⟩
    refine for_range (lo := 0) (n := d.toNat) (fun i σ H' => ∃ (z : Str) (t : Option V) (cs : List Nat), σ = [some (.ref b), some (.str (Str.ofString "abcdefghijklmnopqrstuvwxyzABCDEFGHIJKLMNOPQRSTUVWXYZ")), some (.str z), t] ∧
        z.cps.toList = c :: cs ∧ cs.length = i ∧ cs.all (fun x => isUp x || isLow x) = true ∧ Bag H' b (n + 2 + i) ∧ Keep b H H') ?_ ?_ ?_
    · exact ⟨_, none, [], rfl, rfl, rfl, rfl, hB2.mono (by omega), hK1.trans hK2⟩
    · rintro i σ H' hi ⟨z, t, cs, rfl, ez, el, ec, hB, hK⟩
      repeat (walk_at "lw v")
      refine ⟨b, _, _, rfl, hB, by omega, .inr ⟨_, rfl, by decide +kernel, by decide +kernel, fun c2 H3 hc2 hB3 hK3 => ?_⟩⟩
      have hl2 : (isUp c2 || isLow c2) = true := (by decide +kernel : ∀ c ∈ (Str.ofString "abcdefghijklmnopqrstuvwxyzABCDEFGHIJKLMNOPQRSTUVWXYZ").cps.toList, (isUp c || isLow c) = true) c2 hc2
      have hz : z.length = i + 1 := by
        show z.cps.size = i + 1
        rw [← Array.length_toList, ez, List.length_cons, el]
      refine ⟨z, ⟨#[c2]⟩, rfl, rfl, ?_, ?_⟩
      · show z.length + 1 ≤ _
        have := PySem.sizeLine_eq
        omega
      · refine ⟨z ++ ⟨#[c2]⟩, _, cs ++ [c2], rfl, ?_, ?_, ?_, hB3.mono (by omega), hK.trans hK3⟩
        · show (z.cps ++ #[c2]).toList = _
          rw [Array.toList_append, ez]
          rfl
        · rw [List.length_append, el]
          rfl
        · rw [List.all_append, ec]
          simp only [List.all_cons, hl2, List.all_nil, Bool.and_true]
    · rintro σ H' ⟨z, t, cs, rfl, ez, el, ec, hB, hK⟩
      repeat (walk_at "lw v")
      exact q z H' ⟨c, cs, ez, by omega, hup, ec⟩ (hB.mono (by omega)) hK
end

/-! ### words -/
/-- a word: small letters, at most m -/
def IsWord (z : Str) (m : Nat) : Prop := z.length ≤ m ∧ z.cps.toList.all isLow = true
/-- texts joined, as lists of codes -/
def joinL (sep : List Nat) : List (List Nat) → List Nat
  | [] => []
  | [x] => x
  | x :: y :: r => x ++ sep ++ joinL sep (y :: r)
theorem str_join_list (sep : Str) : ∀ ys : List Str, (Str.join sep ys).cps.toList = joinL sep.cps.toList (ys.map fun y => y.cps.toList)
  | [] => rfl
  | [x] => rfl
  | x :: y :: r => by
    have ih := str_join_list sep (y :: r)
    show ((x.cps ++ sep.cps) ++ (Str.join sep (y :: r)).cps).toList = _
    rw [Array.toList_append, Array.toList_append, ih]
    rfl
theorem join_list (sep : Str) (ys : List Str) : (Txt.join sep ys).cps.toList = joinL sep.cps.toList (ys.map fun y => y.cps.toList) := by
  show (PySem.Builtin.Str.glued sep ys).cps.toList = _
  rw [StrLaws.glued_eq_join]
  exact str_join_list sep ys
theorem joinL_nil : ∀ ls : List (List Nat), joinL [] ls = ls.flatten
  | [] => rfl
  | [x] => by simp [joinL]
  | x :: y :: r => by
    show x ++ [] ++ joinL [] (y :: r) = _
    rw [joinL_nil (y :: r), List.append_nil]
    rfl
theorem joined_word {ys : List Str} {m : Nat} (h : ys.length ≤ m) (h1 : ∀ y ∈ ys, ∃ c, y = ⟨#[c]⟩ ∧ isLow c = true) : IsWord (Txt.join (Str.ofString "") ys) m := by
  have e : (Txt.join (Str.ofString "") ys).cps.toList = (ys.map fun y => y.cps.toList).flatten := by
    rw [join_list, show (Str.ofString "").cps.toList = [] from rfl, joinL_nil]
  have g : ∀ ys : List Str, (∀ y ∈ ys, ∃ c, y = ⟨#[c]⟩ ∧ isLow c = true) → ((ys.map fun y => y.cps.toList).flatten).length = ys.length ∧ ((ys.map fun y => y.cps.toList).flatten).all isLow = true := by
    intro ys
    induction ys with
    | nil => intro _; exact ⟨rfl, rfl⟩
    | cons y r ih =>
      intro h
      obtain ⟨c, rfl, hc⟩ := h y List.mem_cons_self
      obtain ⟨i1, i2⟩ := ih fun z hz => h z (List.mem_cons_of_mem _ hz)
      have e : ((Str.mk #[c] :: r).map fun y => y.cps.toList).flatten = c :: (r.map fun y => y.cps.toList).flatten := rfl
      rw [e]
      refine ⟨?_, ?_⟩
      · rw [List.length_cons, i1, List.length_cons]
      · rw [List.all_cons, hc, i2]
        rfl
  obtain ⟨g1, g2⟩ := g ys h1
  refine ⟨?_, ?_⟩
  · show (Txt.join (Str.ofString "") ys).cps.size ≤ m
    rw [← Array.length_toList, e, g1]
    exact h
  · rw [e]
    exact g2
def sp_word : Sp := fun vs H Q _ => ∃ (b : Addr) (m n : Int), vs = [.ref b, .int m] ∧ Bag H b n ∧ n ≤ 900000000 ∧ 0 ≤ m ∧ m ≤ 100 ∧
  ∀ (z : Str) (H' : Hp), IsWord z m.toNat → Bag H' b (n + 200) → Keep b H H' → Q (.str z) H'
section
variable {P : Program} {w : World} {K : PySem.W.Frag} {mg : Str → Option Value} {base : Heap}
theorem ok_law_word (T : Txt K mg) : FnOk P w K mg base CX0 3 T.f_law_word T.fd_law_word ["bag", "most"] sp_word := by
  have G_law_take := ok_law_take (P := P) (w := w) (base := base) T
  have G_law_of := ok_law_of (P := P) (w := w) (base := base) T
  refine T.F_law_word.ok sc_law_word (fun vs H Q E h => ?_) (fun cdv A outer s H vs Q E hr h => ?_)
  · obtain ⟨b, m, n, rfl, _⟩ := h
    rfl
  · obtain ⟨b, m, n, rfl, hb, hn, m0, m1, q⟩ := h
    refine ⟨_, (pss_one (ps_ret (pe_join pe_str (pe_lc (own := [("turn", 2)]) (g := gName 2) rfl sc_law_word.nd (pi_range1 (by rfl) T.m_range (pa_cons (pe_call G_law_take (hr.mono (by omega)) (by rfl) T.g_law_take T.F_law_take.kp T.b_law_take .nil pass0 (pa_cons (pv 0) (pa_cons (pe_op op_add (pv 1) pe_int) pa_nil))) pa_nil)) (blkOk_by (own := [("turn", 2)]) (N := ["bag", "most", "turn"]) (sc := defScope s_law_word) (by decide +kernel)) (fun _ _ _ _ _ => pg_name (i := 2) sc_law_word.nd rfl (.inl rfl)) (fun _ _ _ _ _ => pts_nil) (fun _ _ _ _ _ => (pe_call G_law_of hr (by rfl) T.g_law_of T.F_law_of.kp T.b_law_of .nil pass0 (pa_cons (pv 0) (pa_cons pe_str pa_nil)))))))), ?_⟩
    repeat (walk_at "lw v")
    refine ⟨b, _, n, rfl, hb, by omega, by omega, by omega, fun d H1 d0 d1 hB1 hK1 => ?_⟩
    refine ⟨d, rfl, by omega, by omega, fun D nD => ?_⟩
    have nbD : b ≠ D := hB1.ne nD
    refine lc_range (lo := 0) (n := d.toNat) (fun i H' => ∃ ys : List Str, H' D = some (.lst (ys.map V.str)) ∧ ys.length = i ∧ (∀ y ∈ ys, ∃ c, y = ⟨#[c]⟩ ∧ isLow c = true) ∧ Bag H' b (n + 1 + i) ∧ Keep b H1 H') ?_ ?_ ?_
    · exact ⟨[], upd_same, rfl, fun _ h => (nomatch h), (hB1.new nD).mono (by omega), Keep.new nD⟩
    · rintro i H' hi ⟨ys, eD, el, hy, hB, hK⟩
      refine ⟨rfl, ?_⟩
      repeat (walk_at "lw v")
      refine ⟨b, _, _, rfl, hB, by omega, .inr ⟨_, rfl, by decide +kernel, by decide +kernel, fun c H3 hc hB3 hK3 => ?_⟩⟩
      have hl2 : isLow c = true := (by decide +kernel : ∀ c ∈ (Str.ofString "abcdefghijklmnopqrstuvwxyz").cps.toList, isLow c = true) c hc
      refine ⟨_, hK3 _ _ nbD.symm eD, ?_, ys ++ [⟨#[c]⟩], ?_, ?_, ?_, ?_, ?_⟩
      · rw [List.length_map, el]
        exact small1000 (by omega)
      · rw [upd_same, List.map_append]
        rfl
      · rw [List.length_append, el]
        rfl
      · intro y hy'
        rcases List.mem_append.mp hy' with h | h
        · exact hy y h
        · rw [List.mem_singleton] at h
          exact ⟨c, h, hl2⟩
      · obtain ⟨x1, x2, x3, ex, rx⟩ := hB3
        exact Bag.mono ⟨x1, x2, x3, by rw [upd_ne nbD]; exact ex, rx⟩ (by omega)
      · intro q' o nq e
        have nqD : q' ≠ D := ne_of_none e nD
        rw [upd_ne nqD]
        exact hK3 _ _ nq (hK _ _ nq e)
    · rintro H' ⟨ys, eD, el, hy, hB, hK⟩
      refine ⟨_, D, ys, rfl, rfl, .inl (SqL.of eD), ?_, ?_⟩
      · have : ∀ ys : List Str, (∀ y ∈ ys, ∃ c, y = (⟨#[c]⟩ : Str) ∧ isLow c = true) → (ys.map (·.length)).sum = ys.length := by
          intro ys
          induction ys with
          | nil => intro _; rfl
          | cons y r ih =>
            intro h
            obtain ⟨c, rfl, hc⟩ := h y List.mem_cons_self
            rw [List.map_cons, List.sum_cons, ih fun z hz => h z (List.mem_cons_of_mem _ hz), List.length_cons, Nat.add_comm]
            rfl
        rw [this ys hy, show (Str.ofString "").length = 0 from rfl]
        omega
      · exact q _ H' (joined_word (by omega) hy) (hB.mono (by omega)) (hK1.trans hK)
end

/-! ### numbers -/
theorem e30 : (10 : Int) ^ (Int.toNat 30) = 1000000000000000000000000000000 := by decide +kernel
def IsNum (i : Int) : Prop := -1000000000000000000000000000000 < i ∧ i < 1000000000000000000000000000000
def sp_number : Sp := fun vs H Q _ => ∃ (b l : Addr) (ns : List Int) (n : Int), vs = [.ref b, .ref l] ∧ Bag H b n ∧ n ≤ 900000000 ∧ H l = some (.lst (ns.map V.int)) ∧ l ≠ b ∧ ns.length ≤ 1000 ∧ 
  ∀ (i : Int) (H' : Hp), IsNum i → Bag H' b (n + 5) → Keep b H H' → Q (.int i) H'
section
variable {P : Program} {w : World} {K : PySem.W.Frag} {mg : Str → Option Value} {base : Heap}
theorem ok_law_number (T : Txt K mg) : FnOk P w K mg base CX0 3 T.f_law_number T.fd_law_number ["bag", "near"] sp_number := by
  have G_law_take := ok_law_take (P := P) (w := w) (base := base) T
  have G_law_of := ok_law_of (P := P) (w := w) (base := base) T
  refine T.F_law_number.ok sc_law_number (fun vs H Q E h => ?_) (fun cdv A outer s H vs Q E hr h => ?_)
  · obtain ⟨b, l, ns, n, rfl, _⟩ := h
    rfl
  · obtain ⟨b, l, ns, n, rfl, hb, hn, hl, nl, hlen, q⟩ := h
    refine ⟨_, (pss_cons (ps_par (i := 2) (j := 3) (by rfl) sc_law_number.nd rfl rfl (by decide) rfl rfl (pa_cons (pe_call G_law_take (hr.mono (by omega)) (by rfl) T.g_law_take T.F_law_take.kp T.b_law_take .nil pass0 (pa_cons (pv 0) (pa_cons pe_int pa_nil))) (pa_cons (pe_op op_sub (pe_op op_pow pe_int pe_int) pe_int) pa_nil)) (by rfl))
        (pss_cons (ps_if (pt_cmpR op_gt (pv 2) pe_int (nomark _)) (pss_one (ps_ret (pe_op op_sub (pe_call G_law_take (hr.mono (by omega)) (by rfl) T.g_law_take T.F_law_take.kp T.b_law_take .nil pass0 (pa_cons (pv 0) (pa_cons pe_int pa_nil))) pe_int))) pss_nil)
        (pss_cons (ps_if (pt_cmpR op_eq (pv 2) pe_int (nomark _)) (pss_one (ps_ret (pe_op op_mul (pe_op op_sub (pv 3) (pe_call G_law_take (hr.mono (by omega)) (by rfl) T.g_law_take T.F_law_take.kp T.b_law_take .nil pass0 (pa_cons (pv 0) (pa_cons (pe_op op_pow pe_int pe_int) pa_nil)))) (pe_op op_sub pe_int (pe_op op_mul pe_int (pe_call G_law_take (hr.mono (by omega)) (by rfl) T.g_law_take T.F_law_take.kp T.b_law_take .nil pass0 (pa_cons (pv 0) (pa_cons pe_int pa_nil)))))))) pss_nil)
        (pss_one (ps_ret (pe_callB (call_max2 rfl) (by rfl) T.m_max (by decide +kernel) (pa_cons (pe_un un_neg (pv 3)) (pa_cons (pe_callB (call_min2 rfl) (by rfl) T.m_min (by decide +kernel) (pa_cons (pv 3) (pa_cons (pe_op op_sub (pe_op op_add (pe_call G_law_of hr (by rfl) T.g_law_of T.F_law_of.kp T.b_law_of .nil pass0 (pa_cons (pv 0) (pa_cons (pe_op op_cat (pv 1) (pe_lst (pa_cons pe_int pa_nil))) pa_nil))) (pe_call G_law_take (hr.mono (by omega)) (by rfl) T.g_law_take T.F_law_take.kp T.b_law_take .nil pass0 (pa_cons (pv 0) (pa_cons pe_int pa_nil)))) pe_int) pa_nil))) pa_nil)))))))), ?_⟩
    repeat (walk_at "lw v")
    refine ⟨b, _, n, rfl, hb, by omega, by omega, by omega, fun d H1 d0 d1 hB1 hK1 => ?_⟩
    repeat (walk_at "lw v")
    rw [e30]
    repeat (walk_at "lw v")
    refine ite2 (fun e => ?_) (fun e => ?_)
    · repeat (walk_at "lw v")
      refine ⟨b, _, _, rfl, hB1, by omega, by omega, by omega, fun d2 H2 d20 d21 hB2 hK2 => ?_⟩
      repeat (walk_at "lw v")
      exact q _ H2 ⟨by omega, by omega⟩ (hB2.mono (by omega)) (hK1.trans hK2)
    · repeat (walk_at "lw v")
      refine ite2 (fun e => ?_) (fun e => ?_)
      · repeat (walk_at "lw v")
        refine ⟨b, _, _, rfl, hB1, by omega, by decide +kernel, by decide +kernel, fun d2 H2 d20 d21 hB2 hK2 => ?_⟩
        rw [e30] at d21
        repeat (walk_at "lw v")
        refine ⟨b, _, _, rfl, hB2, by omega, by omega, by omega, fun d3 H3 d30 d31 hB3 hK3 => ?_⟩
        repeat (walk_at "lw v")
        have hz : d3 = 0 ∨ d3 = 1 := by omega
        refine q _ H3 ?_ (hB3.mono (by omega)) ((hK1.trans hK2).trans hK3)
        rcases hz with rfl | rfl <;> (unfold IsNum; omega)
      · repeat (walk_at "lw v")
        refine ⟨by walk_at "lw n", fun p hp => ?_⟩
        have hl1 := hK1 _ _ nl hl
        refine ⟨l, p, _, _, rfl, rfl, by rw [upd_ne (ne_of_none hl1 hp)]; exact hl1, upd_same, ?_, fun p2 hp2 => ?_⟩
        · have := PySem.sizeLine_eq
          show (ns.map V.int).length + 1 ≤ _
          rw [List.length_map]
          omega
        · repeat (walk_at "lw v")
          have hb2 := (hB1.new (o := .lst [V.int 0]) hp).ne hp2
          have hB2 := (hB1.new (o := .lst [V.int 0]) hp).new (o := .lst (ns.map V.int ++ [V.int 0])) hp2
          refine ⟨b, _, _, rfl, hB2, by omega, .inl ⟨p2, _, rfl, hb2.symm, upd_same, by simp, by simp; omega, fun v H2 hv hB3 hK3 => ?_⟩⟩
          obtain ⟨u, rfl⟩ : ∃ u, v = V.int u := by
            rcases List.mem_append.mp hv with h | h
            · exact of_map h
            · exact ⟨0, List.mem_singleton.mp h⟩
          repeat (walk_at "lw v")
          refine ⟨b, _, _, rfl, hB3, by omega, by omega, by omega, fun d5 H5 d50 d51 hB5 hK5 => ?_⟩
          repeat (walk_at "lw v")
          refine q _ H5 ?_ (hB5.mono (by omega)) ?_
          · unfold IsNum
            constructor <;> (repeat' split) <;> omega
          · have k1 : Keep b H1 (upd H1 p (HO.lst [V.int 0])) := Keep.new hp
            have k2 : Keep b (upd H1 p (HO.lst [V.int 0])) (upd (upd H1 p (HO.lst [V.int 0])) p2 (HO.lst (ns.map V.int ++ [V.int 0]))) := Keep.new hp2
            exact (((hK1.trans k1).trans k2).trans hK3).trans hK5
end

/-! ### any values -/
theorem op_mul_str {X : Cx} : OpR X (binaryOp .Mult) (fun x y H Q => ∃ z n, x = .str z ∧ y = .int n ∧ MulOk z n ∧ Q (.str (Txt.mul z n)) H) := by
  intro pins s σ H x y v u Q I rx ry h
  obtain ⟨i, j, rfl, rfl, hz, q⟩ := h
  obtain ⟨t, rfl⟩ := rx
  obtain ⟨t', rfl⟩ := ry
  exact PySem.SB.mul hz fun t' tk => ⟨.str _, H, I.tok _, ⟨_, rfl⟩, q⟩
/-- what was not tracked in H -/
def since (H H' : Hp) : Hp := fun q => match H q with | none => H' q | some _ => none
theorem since_some {H H' : Hp} {q : Addr} {o : HO} (h : since H H' q = some o) : H q = none ∧ H' q = some o := by
  unfold since at h
  cases e : H q with
  | none => rw [e] at h; exact ⟨rfl, h⟩
  | some _ => rw [e] at h; cases h
theorem since_of {H H' : Hp} {q : Addr} {o : HO} (h : H q = none) (h' : H' q = some o) : since H H' q = some o := by
  unfold since
  rw [h]
  exact h'
theorem since_same {H H' : Hp} : Same (since H H') H' := fun _ _ h => (since_some h).2
/-- every place that H tracks is tracked in H' -/
def Dom (H H' : Hp) : Prop := ∀ q o, H q = some o → ∃ o', H' q = some o'
theorem Dom.refl (H : Hp) : Dom H H := fun _ o h => ⟨o, h⟩
theorem Dom.trans {H H1 H2 : Hp} (x : Dom H H1) (y : Dom H1 H2) : Dom H H2 := fun q o h => by
  obtain ⟨o', h'⟩ := x q o h
  exact y q o' h'
theorem Same.dom {H H' : Hp} (s : Same H H') : Dom H H' := fun q o h => ⟨o, s q o h⟩
theorem Keep.dom {b : Addr} {H H' : Hp} (k : Keep b H H') (h : ∃ o, H' b = some o) : Dom H H' := fun q o e => by
  by_cases n : q = b
  · rw [n]; exact h
  · exact ⟨o, k q o n e⟩
theorem Dom.free {H H' : Hp} (d : Dom H H') {q : Addr} (h : H' q = none) : H q = none := by
  cases e : H q with
  | none => rfl
  | some o =>
    obtain ⟨o', e'⟩ := d q o e
    rw [h] at e'
    cases e'
theorem since_mono {H0 H H' H'' : Hp} {b : Addr} (d : Dom H0 H) (hb : ∃ o, H b = some o) (k : Keep b H' H'') : Same (since H H') (since H0 H'') := fun q o h => by
  obtain ⟨h1, h2⟩ := since_some h
  have n : q ≠ b := fun e => by
    obtain ⟨o', e'⟩ := hb
    rw [e, e'] at h1
    cases h1
  exact since_of (d.free h1) (k q o n h2)
theorem since_mono0 {H0 H H' H'' : Hp} (d : Dom H0 H) (k : Same H' H'') : Same (since H H') (since H0 H'') := fun q o h => by
  obtain ⟨h1, h2⟩ := since_some h
  exact since_of (d.free h1) (k q o h2)
theorem SqL.same {K : PySem.W.Frag} {H H' : Hp} {a : Addr} {xs : List V} (s : Same H H') (h : SqL K H a xs) : SqL K H' a xs := s.seq h
theorem SqT.same {K : PySem.W.Frag} {H H' : Hp} {a : Addr} {xs : List V} (s : Same H H') (h : SqT K H a xs) : SqT K H' a xs := by
  rcases h with (h | ⟨o, h⟩) | h
  · exact .inl (.inl (s _ _ h))
  · exact .inl (.inr ⟨o, s _ _ h⟩)
  · exact .inr h
mutual
theorem Dp.same {K : PySem.W.Frag} {H H' : Hp} (s : Same H H') : ∀ (d : PyData) (v : V), Dp K H v d → Dp K H' v d
  | .none, _, h => by cases h; exact .non
  | .bool _, _, h => by cases h; exact .bl _
  | .int _, _, h => by cases h; exact .int _
  | .str _, _, h => by cases h; exact .str _
  | .list ds, _, h => by
    cases h with
    | lst hs ha => exact .lst (SqL.same s hs) (DpAll.same s ds _ ha)
  | .tuple ds, _, h => by
    cases h with
    | tup hs ha => exact .tup (SqT.same s hs) (DpAll.same s ds _ ha)
  | .dict _, _, h => by cases h
theorem DpAll.same {K : PySem.W.Frag} {H H' : Hp} (s : Same H H') : ∀ (ds : List PyData) (vs : List V), DpAll K H vs ds → DpAll K H' vs ds
  | [], _, h => by cases h; exact .nil
  | d :: r, _, h => by
    cases h with
    | cons h1 h2 => exact .cons (Dp.same s d _ h1) (DpAll.same s r _ h2)
end
theorem DpAll.snoc {K : PySem.W.Frag} {H : Hp} : ∀ {vs : List V} {ds : List PyData} {v : V} {d : PyData}, DpAll K H vs ds → Dp K H v d → DpAll K H (vs ++ [v]) (ds ++ [d])
  | _, _, _, _, .nil, h => .cons h .nil
  | _, _, _, _, .cons a b, h => .cons a (DpAll.snoc b h)
theorem DpAll.length {K : PySem.W.Frag} {H : Hp} : ∀ {vs : List V} {ds : List PyData}, DpAll K H vs ds → vs.length = ds.length
  | _, _, .nil => rfl
  | _, _, .cons _ b => by rw [List.length_cons, List.length_cons, DpAll.length b]
theorem DpAll.append {K : PySem.W.Frag} {H : Hp} : ∀ {vs ws : List V} {ds es : List PyData}, DpAll K H vs ds → DpAll K H ws es → DpAll K H (vs ++ ws) (ds ++ es)
  | _, _, _, _, .nil, h => h
  | _, _, _, _, .cons a b, h => .cons a (DpAll.append b h)
theorem DpAll.get {K : PySem.W.Frag} {H : Hp} : ∀ {vs : List V} {ds : List PyData} {i : Nat} {v : V}, DpAll K H vs ds → vs[i]? = some v → ∃ d, ds[i]? = some d ∧ Dp K H v d
  | _, _, _, _, .nil, h => by simp at h
  | _, _, 0, _, .cons a _, h => by
    simp at h
    subst h
    exact ⟨_, rfl, a⟩
  | _, _, i + 1, _, .cons _ b, h => by
    obtain ⟨d, h1, h2⟩ := DpAll.get (i := i) b (by simpa using h)
    exact ⟨d, by simpa using h1, h2⟩
theorem DpAll.mem {K : PySem.W.Frag} {H : Hp} : ∀ {vs : List V} {ds : List PyData} {v : V}, DpAll K H vs ds → v ∈ vs → ∃ d, d ∈ ds ∧ Dp K H v d
  | _, _, _, .nil, h => by cases h
  | _, _, v, .cons a b, h => by
    rcases List.mem_cons.mp h with e | e
    · subst e
      exact ⟨_, List.mem_cons_self, a⟩
    · obtain ⟨d, h1, h2⟩ := DpAll.mem b e
      exact ⟨d, List.mem_cons_of_mem _ h1, h2⟩
mutual
/-- texts of at most a hundred thousand signs, lists of at most a thousand, no dict -/
def fine : PyData → Bool
  | .str z => decide (z.length ≤ 100000) && PyData.strOk z
  | .list ds => decide (ds.length ≤ 1000) && fineAll ds
  | .tuple ds => decide (ds.length ≤ 1000) && fineAll ds
  | .dict _ => false
  | .none => true
  | .bool _ => true
  | .int _ => true
def fineAll : List PyData → Bool
  | [] => true
  | d :: r => fine d && fineAll r
end
theorem fineAll_mem : ∀ {ds : List PyData} {d : PyData}, fineAll ds = true → d ∈ ds → fine d = true
  | [], _, _, h => by cases h
  | e :: r, d, h, m => by
    unfold fineAll at h
    rw [Bool.and_eq_true] at h
    rcases List.mem_cons.mp m with q | q
    · rw [q]; exact h.1
    · exact fineAll_mem h.2 q
theorem fineAll_snoc : ∀ {ds : List PyData} {d : PyData}, fineAll ds = true → fine d = true → fineAll (ds ++ [d]) = true
  | [], d, _, h => by show (fine d && true) = true; rw [h]; rfl
  | e :: r, d, h, m => by
    unfold fineAll at h
    rw [Bool.and_eq_true] at h
    show (fine e && fineAll (r ++ [d])) = true
    rw [h.1, fineAll_snoc h.2 m]
    rfl
theorem depthAll_snoc : ∀ {ds : List PyData} {d : PyData} {n : Nat}, PyData.depthAll ds ≤ n → PyData.depth d ≤ n → PyData.depthAll (ds ++ [d]) ≤ n
  | [], d, n, _, h => by
    show max (PyData.depth d) 0 ≤ n
    omega
  | e :: r, d, n, h, m => by
    have h' : max (PyData.depth e) (PyData.depthAll r) ≤ n := h
    have := depthAll_snoc (ds := r) (n := n) (by omega) m
    show max (PyData.depth e) (PyData.depthAll (r ++ [d])) ≤ n
    omega
mutual
theorem canLay_fine : ∀ (d : PyData), fine d = true → PyData.canLay0 d = true
  | .none, _ => rfl
  | .bool _, _ => rfl
  | .int _, _ => rfl
  | .str z, h => by
    unfold fine at h
    rw [Bool.and_eq_true] at h
    exact h.2
  | .list ds, h => by
    unfold fine at h
    rw [Bool.and_eq_true] at h
    exact canLayAll_fine ds h.2
  | .tuple ds, h => by
    unfold fine at h
    rw [Bool.and_eq_true] at h
    exact canLayAll_fine ds h.2
  | .dict _, h => by cases h
theorem canLayAll_fine : ∀ (ds : List PyData), fineAll ds = true → PyData.canLayAll0 ds = true
  | [], _ => rfl
  | d :: r, h => by
    unfold fineAll at h
    rw [Bool.and_eq_true] at h
    show (PyData.canLay0 d && PyData.canLayAll0 r) = true
    rw [canLay_fine d h.1, canLayAll_fine r h.2]
    rfl
end
theorem shaped_fine {d : PyData} (h : fine d = true) (hd : PyData.depth d ≤ 64) : SeqAt.shaped d = true := by
  unfold SeqAt.shaped
  rw [canLay_fine d h, decide_eq_true hd]
  rfl
theorem since_step {Hd H' H3 H4 : Hp} {D b : Addr} (d : Dom Hd H') (hb : ∃ o, Hd b = some o) (hD : ∃ o, Hd D = some o) (k : Keep b H' H3) (h4 : ∀ q, q ≠ D → H4 q = H3 q) : Same (since Hd H') (since Hd H4) ∧ Same (since H' H3) (since Hd H4) := by
  have nn : ∀ {q : Addr} {p : Addr}, Hd q = none → (∃ o, Hd p = some o) → q ≠ p := fun {q p} h1 h2 e => by
    obtain ⟨o, h2⟩ := h2
    rw [e, h2] at h1
    cases h1
  refine ⟨fun q o h => ?_, fun q o h => ?_⟩
  · obtain ⟨h1, h2⟩ := since_some h
    refine since_of h1 ?_
    rw [h4 q (nn h1 hD)]
    exact k q o (nn h1 hb) h2
  · obtain ⟨h1, h2⟩ := since_some h
    have h0 := d.free h1
    refine since_of h0 ?_
    rw [h4 q (nn h0 hD)]
    exact h2
theorem Dom.upd {H : Hp} {p : Addr} {o : HO} : Dom H (L2.upd H p o) := fun q u h => by
  by_cases n : q = p
  · subst n
    exact ⟨o, upd_same⟩
  · exact ⟨u, by rw [upd_ne n]; exact h⟩
theorem Bag.has {H : Hp} {b : Addr} {n : Int} (h : Bag H b n) : ∃ o, H b = some o := by
  obtain ⟨x, y, z, e, _⟩ := h
  exact ⟨_, e⟩
theorem Bag.upd {b D : Addr} {H : Hp} {o : HO} {n : Int} (h : Bag H b n) (nb : b ≠ D) : Bag (L2.upd H D o) b n := by
  obtain ⟨x, y, z, e, r⟩ := h
  exact ⟨x, y, z, by rw [upd_ne nb]; exact e, r⟩

theorem e39 : (10 : Int) ^ (Int.toNat 39) = 1000000000000000000000000000000000000000 := by decide +kernel
theorem strOk_class {z : Str} (h : IsClass z) : PyData.strOk z = true ∧ z.length ≤ 12 := by
  obtain ⟨c, cs, e, l, u, a⟩ := h
  refine ⟨?_, ?_⟩
  · unfold PyData.strOk
    rw [← Array.all_toList, e, List.all_cons]
    have hu := of_decide_eq_true u
    rw [decide_eq_true (show c < 1114112 by omega), Bool.true_and]
    refine List.all_eq_true.mpr fun x hx => ?_
    have h1 := List.all_eq_true.mp a x hx
    rw [Bool.or_eq_true] at h1
    rcases h1 with h1 | h1 <;> (have h2 := of_decide_eq_true h1; exact decide_eq_true (by omega))
  · show z.cps.size ≤ 12
    rw [← Array.length_toList, e, List.length_cons]
    omega
theorem strOk_low {z : Str} (h : z.cps.toList.all isLow = true) : PyData.strOk z = true := by
  unfold PyData.strOk
  rw [← Array.all_toList]
  refine List.all_eq_true.mpr fun c hc => ?_
  have h1 := List.all_eq_true.mp h c hc
  unfold isLow at h1
  have h2 := of_decide_eq_true h1
  exact decide_eq_true (by omega)
theorem fine_str {z : Str} {n : Nat} (h : PyData.strOk z = true) (l : z.length ≤ n) (hn : n ≤ 100000 := by decide) : fine (.str z) = true := by
  unfold fine
  rw [h, decide_eq_true (Nat.le_trans l hn)]
  rfl
/-- any value, nested at most e deep -/
def sp_any (K : PySem.W.Frag) (n : Nat) : Sp := fun vs H Q _ => ∃ (b : Addr) (e : Nat) (m : Int), vs = [.ref b, .int e] ∧ e < n ∧ Bag H b m ∧ m + 300 * ((6 ^ e : Nat) : Int) ≤ 500000000 ∧
  ∀ (v : V) (d : PyData) (H' : Hp), Dp K (since H H') v d → fine d = true → PyData.depth d ≤ e → Bag H' b (m + 300 * ((6 ^ e : Nat) : Int)) → Keep b H H' → Q v H'
section
variable {P : Program} {w : World} {K : PySem.W.Frag} {mg : Str → Option Value} {base : Heap}
theorem ok_law_any (T : Txt K mg) : ∀ n : Nat, FnOk P w K mg base CX0 (4 + n) T.f_law_any T.fd_law_any ["bag", "deep"] (sp_any K n)
  | 0 => T.F_law_any.ok sc_law_any (fun vs H Q E h => by obtain ⟨_, _, _, _, h, _⟩ := h; exact absurd h (Nat.not_lt_zero _)) (fun cdv A outer s H vs Q E hr h => by obtain ⟨_, _, _, _, h, _⟩ := h; exact absurd h (Nat.not_lt_zero _))
  | n + 1 => by
    have G_law_any := ok_law_any T n
    have G_law_take := ok_law_take (P := P) (w := w) (base := base) T
    have G_law_of := ok_law_of (P := P) (w := w) (base := base) T
    have G_law_class := ok_law_class (P := P) (w := w) (base := base) T
    have G_law_word := ok_law_word (P := P) (w := w) (base := base) T
    refine T.F_law_any.ok sc_law_any (fun vs H Q E h => ?_) (fun cdv A outer s H vs Q E hr h => ?_)
    · obtain ⟨b, m, n, rfl, _⟩ := h
      rfl
    · obtain ⟨b, e, m, rfl, he, hb, hm, q⟩ := h
      have hr : Room (4 + n) (A.deeper (envOfC (Str.ofString "_law_any") (defScope s_law_any) s.heap.objs.size T.f_law_any cdv)) := hr
      have hX : 1 ≤ 6 ^ e := Nat.one_le_pow _ _ (by decide)
      refine ⟨_, (pss_cons (ps_set (i := 2) sc_law_any.nd rfl (.inl rfl) (pe_call G_law_take (hr.mono (by omega)) (by rfl) T.g_law_take T.F_law_take.kp T.b_law_take .nil pass0 (pa_cons (pv 0) (pa_cons pe_int pa_nil))))
        (pss_cons (ps_if (pt_cmpR op_eq (pv 2) pe_int (nomark _)) (pss_one (ps_ret (pe_call G_law_of (hr.mono (by omega)) (by rfl) T.g_law_of T.F_law_of.kp T.b_law_of .nil pass0 (pa_cons (pv 0) (pa_cons (pe_lst (pa_cons pe_non (pa_cons pe_bl (pa_cons pe_bl (pa_cons pe_int (pa_cons pe_int pa_nil)))))) pa_nil))))) pss_nil)
        (pss_cons (ps_if (pt_cmpR op_eq (pv 2) pe_int (nomark _)) (pss_one (ps_ret (pe_op op_sub (pe_call G_law_take (hr.mono (by omega)) (by rfl) T.g_law_take T.F_law_take.kp T.b_law_take .nil pass0 (pa_cons (pv 0) (pa_cons (pe_op op_mul pe_int (pe_op op_pow pe_int pe_int)) pa_nil))) (pe_op op_pow pe_int pe_int)))) pss_nil)
        (pss_cons (ps_if (pt_cmpR op_eq (pv 2) pe_int (nomark _)) (pss_one (ps_ret (pe_call G_law_word (hr.mono (by omega)) (by rfl) T.g_law_word T.F_law_word.kp T.b_law_word .nil pass0 (pa_cons (pv 0) (pa_cons pe_int pa_nil))))) pss_nil)
        (pss_cons (ps_if (pt_cmpR op_eq (pv 2) pe_int (nomark _)) (pss_one (ps_ret (pe_call G_law_of (hr.mono (by omega)) (by rfl) T.g_law_of T.F_law_of.kp T.b_law_of .nil pass0 (pa_cons (pv 0) (pa_cons (pe_lst (pa_cons pe_str (pa_cons pe_str (pa_cons pe_str (pa_cons pe_str (pa_cons pe_str (pa_cons pe_str (pa_cons pe_str (pa_cons pe_str (pa_cons pe_str (pa_cons pe_str pa_nil))))))))))) pa_nil))))) pss_nil)
        (pss_cons (ps_if (pt_cmpR op_eq (pv 2) pe_int (nomark _)) (pss_one (ps_ret (pe_call G_law_class (hr.mono (by omega)) (by rfl) T.g_law_class T.F_law_class.kp T.b_law_class .nil pass0 (pa_cons (pv 0) pa_nil)))) pss_nil)
        (pss_cons (ps_if (pt_cmpR op_eq (pv 1) pe_int (nomark _)) (pss_one (ps_ret (pe_op op_sub (pe_call G_law_take (hr.mono (by omega)) (by rfl) T.g_law_take T.F_law_take.kp T.b_law_take .nil pass0 (pa_cons (pv 0) (pa_cons pe_int pa_nil))) pe_int))) pss_nil)
        (pss_cons (ps_setLc (i := 3) (own := [("turn", 4)]) (g := gName 4) rfl sc_law_any.nd rfl rfl (sw_true rfl rfl rfl (by decide +kernel)) (pi_range1 (by rfl) T.m_range (pa_cons (pe_call G_law_take (hr.mono (by omega)) (by rfl) T.g_law_take T.F_law_take.kp T.b_law_take .nil pass0 (pa_cons (pv 0) (pa_cons pe_int pa_nil))) pa_nil)) (blkOk_by (own := [("turn", 4)]) (N := ["bag", "deep", "way", "some", "turn"]) (sc := defScope s_law_any) (by decide +kernel)) (fun _ _ _ _ _ => pg_name (i := 4) sc_law_any.nd rfl (.inl rfl)) (fun _ _ _ _ _ => pts_nil) (fun _ _ _ _ _ => (pe_call G_law_any hr (by rfl) T.g_law_any T.F_law_any.kp T.b_law_any .nil pass0 (pa_cons (pv 0) (pa_cons (pe_op op_sub (pv 1) pe_int) pa_nil)))))
        (pss_one (ps_ret (pe_ifExp (pt_cmpR op_lt (pv 2) pe_int (nomark _)) (pe_callTy call_tuple_of (by rfl) T.m_tuple (by decide +kernel) (pa_cons (pv 3) pa_nil)) (pv 3)))))))))))), ?_⟩
      repeat (walk_at "lw w")
      refine ⟨b, _, _, rfl, hb, by omega, by omega, by omega, fun way H1 y0 y1 hB1 hK1 => ?_⟩
      repeat (walk_at "lw w")
      have leaf : ∀ (v : V) (d : PyData) (H' : Hp) (c : Int), (∀ G, Dp K G v d) → fine d = true → PyData.depth d = 0 → Bag H' b (m + c) → c ≤ 300 → Keep b H H' → Q v H' := fun v d H' c h1 h2 h3 h4 h5 h6 =>
        q v d H' (h1 _) h2 (by omega) (h4.mono (by omega)) h6
      refine ite2 (fun z => ?_) (fun z => ?_)
      · clear z
        repeat (walk_at "lw w")
        refine ⟨by walk_at "lw n", fun l nl => ?_⟩
        refine ⟨b, _, _, rfl, hB1.new nl, by omega, .inl ⟨l, _, rfl, (hB1.ne nl).symm, upd_same, by simp, by simp, fun v H2 hv hB2 hK2 => ?_⟩⟩
        have hK := hK1.trans ((Keep.new nl).trans hK2)
        have hB3 : Bag H2 b (m + 2) := hB2.mono (by omega)
        simp only [List.mem_cons, List.not_mem_nil, or_false] at hv
        rcases hv with rfl | rfl | rfl | rfl | rfl
        · exact leaf _ _ H2 2 (fun _ => .non) rfl rfl hB3 (by decide) hK
        · exact leaf _ _ H2 2 (fun _ => .bl _) rfl rfl hB3 (by decide) hK
        · exact leaf _ _ H2 2 (fun _ => .bl _) rfl rfl hB3 (by decide) hK
        · exact leaf _ _ H2 2 (fun _ => .int _) rfl rfl hB3 (by decide) hK
        · exact leaf _ _ H2 2 (fun _ => .int _) rfl rfl hB3 (by decide) hK
      repeat (walk_at "lw w")
      refine ite2 (fun z => ?_) (fun z => ?_)
      · clear z
        repeat (walk_at "lw w")
        refine ⟨b, _, _, rfl, hB1, by omega, by decide +kernel, by decide +kernel, fun u H2 u0 u1 hB2 hK2 => ?_⟩
        repeat (walk_at "lw w")
        exact leaf _ _ H2 2 (fun _ => .int _) rfl rfl (hB2.mono (by omega)) (by decide) (hK1.trans hK2)
      repeat (walk_at "lw w")
      refine ite2 (fun z => ?_) (fun z => ?_)
      · clear z
        repeat (walk_at "lw w")
        refine ⟨b, 31, _, rfl, hB1, by omega, by omega, by omega, fun u H2 hu hB2 hK2 => ?_⟩
        exact leaf _ _ H2 201 (fun _ => .str _) (fine_str (strOk_low hu.2) hu.1) rfl (hB2.mono (by omega)) (by decide) (hK1.trans hK2)
      repeat (walk_at "lw w")
      refine ite2 (fun z => ?_) (fun z => ?_)
      · clear z
        repeat (walk_at "lw w")
        refine ⟨by walk_at "lw n", fun l nl => ?_⟩
        refine ⟨b, _, _, rfl, hB1.new nl, by omega, .inl ⟨l, _, rfl, (hB1.ne nl).symm, upd_same, by simp, by simp, fun v H2 hv hB2 hK2 => ?_⟩⟩
        have hK := hK1.trans ((Keep.new nl).trans hK2)
        have hB3 : Bag H2 b (m + 2) := hB2.mono (by omega)
        simp only [List.mem_cons, List.not_mem_nil, or_false] at hv
        rcases hv with rfl | rfl | rfl | rfl | rfl | rfl | rfl | rfl | rfl | rfl <;> exact leaf _ _ H2 2 (fun _ => .str _) (by decide +kernel) rfl hB3 (by decide) hK
      repeat (walk_at "lw w")
      refine ite2 (fun z => ?_) (fun z => ?_)
      · clear z
        repeat (walk_at "lw w")
        refine ⟨b, _, rfl, hB1, by omega, fun u H2 hu hB2 hK2 => ?_⟩
        have hs := strOk_class hu
        exact leaf _ _ H2 21 (fun _ => .str _) (fine_str hs.1 hs.2) rfl (hB2.mono (by omega)) (by decide) (hK1.trans hK2)
      repeat (walk_at "lw w")
      refine ite2 (fun z => ?_) (fun z => ?_)
      · clear z
        repeat (walk_at "lw w")
        refine ⟨b, _, _, rfl, hB1, by omega, by omega, by omega, fun u H2 u0 u1 hB2 hK2 => ?_⟩
        repeat (walk_at "lw w")
        exact leaf _ _ H2 2 (fun _ => .int _) rfl rfl (hB2.mono (by omega)) (by decide) (hK1.trans hK2)
      have e0 : e ≠ 0 := fun h => z (by rw [h]; rfl)
      obtain ⟨e', rfl⟩ : ∃ e', e = e' + 1 := ⟨e - 1, by omega⟩
      have hX' : 1 ≤ 6 ^ e' := Nat.one_le_pow _ _ (by decide)
      have hXX : 6 ^ (e' + 1) = 6 * 6 ^ e' := by rw [Nat.pow_succ, Nat.mul_comm]
      rw [hXX] at hm q
      clear leaf hX hXX z
      generalize hXe : 6 ^ e' = X at *
      repeat (walk_at "lw w")
      refine ⟨b, _, _, rfl, hB1, by omega, by omega, by omega, fun k H2 k0 k1 hB2 hK2 => ?_⟩
      repeat (walk_at "lw w")
      refine ⟨by omega, by omega, fun D nD => ?_⟩
      have nbD : b ≠ D := hB2.ne nD
      have hB3' : Bag (upd H2 D (.lst [])) b (m + 2) := (hB2.new nD).mono (by omega)
      have domd : Dom H (upd H2 D (.lst [])) := ((hK1.dom hB1.has).trans (hK2.dom hB2.has)).trans Dom.upd
      refine lc_range (lo := 0) (n := k.toNat) (fun i H' => ∃ (xs : List V) (ds : List PyData), H' D = some (.lst xs) ∧ xs.length = i ∧ DpAll K (since (upd H2 D (.lst [])) H') xs ds ∧ fineAll ds = true ∧ PyData.depthAll ds ≤ e' ∧ Bag H' b (m + 2 + 300 * ((i * X : Nat) : Int)) ∧ Keep b H2 H' ∧ Dom (upd H2 D (.lst [])) H') ?_ ?_ ?_
      · exact ⟨[], [], upd_same, rfl, .nil, rfl, Nat.zero_le _, hB3'.mono (by omega), Keep.new nD, Dom.refl _⟩
      · rintro i H' hi ⟨xs, ds, eD, el, hd, hf, hdep, hB, hK, dm⟩
        refine ⟨rfl, ?_⟩
        have hi3 : i ≤ 3 := by omega
        have hiX : i * X ≤ 3 * X := Nat.mul_le_mul_right _ hi3
        have hsX : (i + 1) * X = i * X + X := Nat.succ_mul _ _
        have ee : (((e' + 1 : Nat) : Int) - 1) = (e' : Int) := by omega
        rw [hsX]
        generalize i * X = Y at *
        repeat (walk_at "lw w")
        refine ⟨b, e', _, by show [V.ref b, V.int (((e' + 1 : Nat) : Int) - 1)] = _; rw [ee], by omega, hB, by rw [hXe]; omega, fun v d H3 hd3 hf3 hdep3 hB3 hK3 => ?_⟩
        rw [hXe] at hB3
        obtain ⟨s1, s2⟩ := since_step (H4 := upd H3 D (.lst (xs ++ [v]))) dm hB3'.has ⟨_, upd_same⟩ hK3 (fun q n => upd_ne n)
        refine ⟨xs, hK3 _ _ nbD.symm eD, small1000 (by omega), xs ++ [v], ds ++ [d], upd_same, ?_, DpAll.snoc (DpAll.same s1 _ _ hd) (Dp.same s2 _ _ hd3), fineAll_snoc hf hf3, depthAll_snoc hdep hdep3, (hB3.upd nbD).mono (by omega), ?_, (dm.trans (hK3.dom hB3.has)).trans Dom.upd⟩
        · rw [List.length_append, el]
          rfl
        · intro q' o nq e
          rw [upd_ne (ne_of_none e nD)]
          exact hK3 _ _ nq (hK _ _ nq e)
      · rintro H5 ⟨xs, ds, eD, el, hd, hf, hdep, hB, hK, dm⟩
        have hiX : k.toNat * X ≤ 4 * X := Nat.mul_le_mul_right _ (by omega)
        generalize k.toNat * X = Y at *
        have hl := DpAll.length hd
        have hKK : Keep b H H5 := (hK1.trans hK2).trans hK
        have hDH : H D = none := (hK1.dom hB1.has).free ((hK2.dom hB2.has).free nD)
        repeat (walk_at "lw w")
        refine ite2 (fun z => ?_) (fun z => ?_)
        · repeat (walk_at "lw w")
          refine ⟨_, _, rfl, .inl ⟨SqL.of eD, fun l nl => ?_⟩⟩
          refine q (.ref l) (.tuple ds) _ (.tup (SqT.of (since_of ((domd.trans dm).free nl) upd_same)) (DpAll.same (since_mono0 domd (same_new nl)) _ _ hd)) ?_ ?_ ((hB.new nl).mono (by omega)) (hKK.trans (Keep.new nl))
          · show (decide (ds.length ≤ 1000) && fineAll ds) = true
            rw [hf, decide_eq_true (show ds.length ≤ 1000 by omega)]
            rfl
          · show PyData.depthAll ds + 1 ≤ e' + 1
            omega
        · repeat (walk_at "lw w")
          refine q (.ref D) (.list ds) _ (.lst (SqL.of (since_of hDH eD)) (DpAll.same (since_mono0 domd (Same.refl _)) _ _ hd)) ?_ ?_ (hB.mono (by omega)) hKK
          · show (decide (ds.length ≤ 1000) && fineAll ds) = true
            rw [hf, decide_eq_true (show ds.length ≤ 1000 by omega)]
            rfl
          · show PyData.depthAll ds + 1 ≤ e' + 1
            omega
end

/-! ### words, names of classes, items, answers: what is said of a value -/
theorem up_in (c : Nat) : decide (c ∈ (Str.ofString "ABCDEFGHIJKLMNOPQRSTUVWXYZ").cps.toList) = isUp c := by
  have e : (Str.ofString "ABCDEFGHIJKLMNOPQRSTUVWXYZ").cps.toList = [65, 66, 67, 68, 69, 70, 71, 72, 73, 74, 75, 76, 77, 78, 79, 80, 81, 82, 83, 84, 85, 86, 87, 88, 89, 90] := by decide +kernel
  rw [e]
  unfold isUp
  refine decide_eq_decide.mpr ?_
  simp only [List.mem_cons, List.not_mem_nil, or_false]
  omega
theorem low_in (c : Nat) : decide (c ∈ (Str.ofString "abcdefghijklmnopqrstuvwxyz").cps.toList) = isLow c := by
  have e : (Str.ofString "abcdefghijklmnopqrstuvwxyz").cps.toList = [97, 98, 99, 100, 101, 102, 103, 104, 105, 106, 107, 108, 109, 110, 111, 112, 113, 114, 115, 116, 117, 118, 119, 120, 121, 122] := by decide +kernel
  rw [e]
  unfold isLow
  refine decide_eq_decide.mpr ?_
  simp only [List.mem_cons, List.not_mem_nil, or_false]
  omega
theorem lu_in (c : Nat) : decide (c ∈ (Str.ofString "abcdefghijklmnopqrstuvwxyz" ++ Str.ofString "ABCDEFGHIJKLMNOPQRSTUVWXYZ").cps.toList) = (isUp c || isLow c) := by
  have e : (Str.ofString "abcdefghijklmnopqrstuvwxyz" ++ Str.ofString "ABCDEFGHIJKLMNOPQRSTUVWXYZ").cps.toList = (Str.ofString "abcdefghijklmnopqrstuvwxyz").cps.toList ++ (Str.ofString "ABCDEFGHIJKLMNOPQRSTUVWXYZ").cps.toList := Array.toList_append
  rw [e, ← up_in, ← low_in, ← Bool.decide_or]
  refine decide_eq_decide.mpr ?_
  rw [List.mem_append, or_comm]
theorem ul_in (c : Nat) : decide (c ∈ (Str.ofString "ABCDEFGHIJKLMNOPQRSTUVWXYZ" ++ Str.ofString "abcdefghijklmnopqrstuvwxyz").cps.toList) = (isUp c || isLow c) := by
  have e : (Str.ofString "ABCDEFGHIJKLMNOPQRSTUVWXYZ" ++ Str.ofString "abcdefghijklmnopqrstuvwxyz").cps.toList = (Str.ofString "ABCDEFGHIJKLMNOPQRSTUVWXYZ").cps.toList ++ (Str.ofString "abcdefghijklmnopqrstuvwxyz").cps.toList := Array.toList_append
  rw [e, ← up_in, ← low_in, ← Bool.decide_or]
  refine decide_eq_decide.mpr ?_
  rw [List.mem_append]
def isIntD : PyData → Bool
  | .int _ => true
  | _ => false
def isWordZ (z : Str) (m : Nat) : Bool := decide (z.length ≤ m) && z.cps.toList.all isLow
def isWordD (m : Nat) : PyData → Bool
  | .str z => isWordZ z m
  | _ => false
def isItemD : PyData → Bool
  | .none => true
  | .int _ => true
  | .str z => isWordZ z 30
  | _ => false
def isClassL : List Nat → Bool
  | [] => false
  | c :: cs => decide (cs.length + 1 ≤ 12) && (isUp c && (c :: cs).all fun x => isUp x || isLow x)
theorem isClassL_cons (c : Nat) (cs : List Nat) : isClassL (c :: cs) = (decide (cs.length + 1 ≤ 12) && (isUp c && (c :: cs).all fun x => isUp x || isLow x)) := rfl
def isClassD : PyData → Bool
  | .str z => isClassL z.cps.toList
  | _ => false
def isRaisedD : List PyData → Bool
  | [w, k, c] => PyData.eqv w (.str (Str.ofString "raises")) && (isClassD k && (PyData.eqv c .none || isClassD c))
  | _ => false
def isRaisedT : PyData → Bool
  | .tuple ds => isRaisedD ds
  | _ => false
def isAnswerD : PyData → Bool
  | .list ds => ds.all isItemD
  | .tuple ds => isRaisedD ds
  | d => isItemD d
/-- a def that says yes or no of one value and leaves what was there -/
def sp_bool1 (K : PySem.W.Frag) (f : PyData → Bool) : Sp := fun vs H Q _ => ∃ (x : V) (d : PyData), vs = [x] ∧ Dp K H x d ∧ fine d = true ∧ PyData.depth d ≤ 60 ∧
  ∀ (r : Bool) (H' : Hp), r = f d → Same H H' → Q (.bl r) H'
/-- a text of at most a hundred thousand signs, or no text -/
def shortD : PyData → Bool
  | .str z => decide (z.length ≤ 100000)
  | _ => true
theorem short_fine {d : PyData} (h : fine d = true) : shortD d = true := by
  cases d with
  | str z =>
    unfold fine at h
    rw [Bool.and_eq_true] at h
    exact h.1
  | _ => rfl
def sp_word1 (K : PySem.W.Frag) : Sp := fun vs H Q _ => ∃ (x : V) (d : PyData) (m : Nat), vs = [x, .int m] ∧ Dp K H x d ∧ shortD d = true ∧
  ∀ (r : Bool) (H' : Hp), r = isWordD m d → Same H H' → Q (.bl r) H'
def sp_consists : Sp := fun vs H Q _ => ∃ (z cs : Str), vs = [.str z, .str cs] ∧ z.length ≤ 100000 ∧
  ∀ (r : Bool) (H' : Hp), r = (z.cps.toList.all fun c => decide (c ∈ cs.cps.toList)) → Same H H' → Q (.bl r) H'
theorem isItemD_eq (d : PyData) : isItemD d = (PyData.eqv d .none || (isIntD d || isWordD 30 d)) := by
  cases d <;> rfl
theorem non_eq {K : PySem.W.Frag} {H : Hp} {x : V} {d : PyData} (h : Dp K H x d) : decide (x = .non) = PyData.eqv d .none := by
  cases h <;> rfl
theorem fine_tup {ds : List PyData} (h : fine (.tuple ds) = true) : ds.length ≤ 1000 ∧ fineAll ds = true := by
  unfold fine at h
  rw [Bool.and_eq_true] at h
  exact ⟨of_decide_eq_true h.1, h.2⟩
theorem fine_lst {ds : List PyData} (h : fine (.list ds) = true) : ds.length ≤ 1000 ∧ fineAll ds = true := by
  unfold fine at h
  rw [Bool.and_eq_true] at h
  exact ⟨of_decide_eq_true h.1, h.2⟩
theorem depth_mem : ∀ {ds : List PyData} {d : PyData}, d ∈ ds → PyData.depth d ≤ PyData.depthAll ds
  | [], _, h => by cases h
  | e :: r, d, h => by
    show _ ≤ max (PyData.depth e) (PyData.depthAll r)
    rcases List.mem_cons.mp h with q | q
    · rw [q]
      omega
    · have := depth_mem q
      omega
theorem iteNT {c A B : Prop} [Decidable c] (hc : ¬ c) (h : A) : if (!decide c) = true then A else B := by
  rw [decide_eq_false hc]
  exact iteT h
theorem ifF {A B : Prop} {b : Bool} (e : b = false) (h : B) : if b = true then A else B := by
  rw [e]
  exact iteF h
theorem ifT {A B : Prop} {b : Bool} (e : b = true) (h : A) : if b = true then A else B := by
  rw [e]
  exact iteT h
theorem isAnswerD_eq {d : PyData} (h : ¬ ∃ ds, d = .list ds) : isAnswerD d = (isItemD d || isRaisedT d) := by
  cases d with
  | list ds => exact absurd ⟨ds, rfl⟩ h
  | tuple ds => rfl
  | none => rfl
  | bool b => rfl
  | int i => rfl
  | str z => show isWordZ z 30 = (isWordZ z 30 || false); rw [Bool.or_false]
  | dict k => rfl
theorem cut_up (c : Nat) : decide (c ∈ (cutS (Str.ofString "ABCDEFGHIJKLMNOPQRSTUVWXYZ" ++ Str.ofString "abcdefghijklmnopqrstuvwxyz") none (some 26)).cps.toList) = isUp c := by
  rw [show cutS (Str.ofString "ABCDEFGHIJKLMNOPQRSTUVWXYZ" ++ Str.ofString "abcdefghijklmnopqrstuvwxyz") none (some 26) = Str.ofString "ABCDEFGHIJKLMNOPQRSTUVWXYZ" by decide +kernel]
  exact up_in c

section
variable {P : Program} {w : World} {K : PySem.W.Frag} {mg : Str → Option Value} {base : Heap}
theorem ok_consists_of (T : Txt K mg) : FnOk P w K mg base CX0 1 T.f_consists_of T.fd_consists_of ["text", "characters"] sp_consists := by
  refine T.F_consists_of.ok sc_consists_of (fun vs H Q E h => ?_) (fun cdv A outer s H vs Q E hr h => ?_)
  · obtain ⟨x, y, rfl, _⟩ := h
    rfl
  · obtain ⟨z, cs, rfl, hz, q⟩ := h
    refine ⟨_, (pss_one (ps_ret (pe_callB (cr_all rfl) (by rfl) T.m_all (by decide +kernel) (pa_cons (pe_lc (own := [("character", 2)]) (g := gName 2) rfl sc_consists_of.nd (pi_str (pv 0)) (blkOk_by (own := [("character", 2)]) (N := ["text", "characters", "character"]) (sc := defScope s_consists_of) (by decide +kernel)) (fun _ _ _ _ _ => pg_name (i := 2) sc_consists_of.nd rfl (.inl rfl)) (fun _ _ _ _ _ => pts_nil) (fun _ _ _ _ _ => (pe_cmpR op_in_sign (pv 2) (pv 1) (by rfl)))) pa_nil)))), ?_⟩
    repeat (walk_at "lw w")
    intro D nD
    refine lc_it (walk_str (z := z)) (fun i H' => H' D = some (.lst ((z.cps.toList.take i).map fun c => V.bl (decide (c ∈ cs.cps.toList)))) ∧ Same H H') ?_ ?_ ?_ ?_
    · exact ⟨upd_same, same_new nD⟩
    · intro i H' _ _
      trivial
    · rintro i x H1 H' hi ⟨eD, S⟩ ⟨rfl, c, hc, rfl⟩
      refine ⟨rfl, ?_⟩
      repeat (walk_at "lw w")
      refine ⟨_, eD, ?_, ?_, ?_⟩
      · rw [List.length_map, List.length_take]
        exact small5 (Nat.le_trans (Nat.min_le_right _ _) (by rw [Array.length_toList]; exact hz))
      · have hc' : z.cps.toList[i]? = some c := by rw [Array.getElem?_toList]; exact hc
        rw [upd_same, List.take_add_one, hc', List.map_append]
        rfl
      · intro q' o e
        rw [upd_ne (ne_of_none e nD)]
        exact S _ _ e
    · rintro H' ⟨eD, S⟩
      have el : z.cps.toList.take z.cps.size = z.cps.toList := List.take_of_length_le (by rw [Array.length_toList]; exact Nat.le_refl _)
      rw [el] at eD
      refine ⟨D, z.cps.toList.map fun c => decide (c ∈ cs.cps.toList), rfl, ?_, ?_⟩
      · rw [List.map_map]
        exact SqL.of eD
      · exact q _ H' (by rw [List.all_map]; rfl) S
end

section
variable {P : Program} {w : World} {K : PySem.W.Frag} {mg : Str → Option Value} {base : Heap}
theorem ok_is_integer (T : Txt K mg) : FnOk P w K mg base CX0 1 T.f_is_integer T.fd_is_integer ["thing"] (sp_bool1 K isIntD) := by
  refine T.F_is_integer.ok sc_is_integer (fun vs H Q E h => ?_) (fun cdv A outer s H vs Q E hr h => ?_)
  · obtain ⟨x, d, rfl, _⟩ := h
    rfl
  · obtain ⟨x, d, rfl, hd, hf, _, q⟩ := h
    refine ⟨_, (pss_one (ps_ret (pe_and (pe_callB call_isi (by rfl) T.m_isinstance (by decide +kernel) (pa_cons (pv 0) (pa_cons (pe_bltn (v := .ty "int") (by rfl) T.m_int (by decide +kernel) rfl) pa_nil))) (pe_one (pe_not (pe_callB call_isi (by rfl) T.m_isinstance (by decide +kernel) (pa_cons (pv 0) (pa_cons (pe_bltn (v := .ty "bool") (by rfl) T.m_bool (by decide +kernel) rfl) pa_nil)))))))), ?_⟩
    cases hd <;> (repeat (walk_at "lw w")) <;> exact q _ _ rfl (Same.refl _)
end

section
variable {P : Program} {w : World} {K : PySem.W.Frag} {mg : Str → Option Value} {base : Heap}
theorem ok_is_small_word (T : Txt K mg) : FnOk P w K mg base CX0 2 T.f_is_small_word T.fd_is_small_word ["thing", "most"] (sp_word1 K) := by
  have G_consists_of := ok_consists_of (P := P) (w := w) (base := base) T
  refine T.F_is_small_word.ok sc_is_small_word (fun vs H Q E h => ?_) (fun cdv A outer s H vs Q E hr h => ?_)
  · obtain ⟨x, d, m, rfl, _⟩ := h
    rfl
  · obtain ⟨x, d, m, rfl, hd, hf, q⟩ := h
    refine ⟨_, (pss_one (ps_ret (pe_and (pe_callB call_isi (by rfl) T.m_isinstance (by decide +kernel) (pa_cons (pv 0) (pa_cons (pe_bltn (v := .ty "str") (by rfl) T.m_str (by decide +kernel) rfl) pa_nil))) (pe_and (pe_cmpR op_le (pe_callB call_len (by rfl) T.m_len (by decide +kernel) (pa_cons (pv 0) pa_nil)) (pv 1) (nomark _)) (pe_one (pe_call G_consists_of hr (by rfl) T.g_consists_of T.F_consists_of.kp T.b_consists_of .nil pass0 (pa_cons (pv 0) (pa_cons (pe_glob (v := .str "abcdefghijklmnopqrstuvwxyz") rfl T.c_SMALL_LETTERS.choose_spec ⟨_, rfl⟩) pa_nil)))))))), ?_⟩
    cases hd
    case str z =>
      have hz : z.length ≤ 100000 := of_decide_eq_true hf
      repeat (walk_at "lw w")
      refine ite2 (fun e => ?_) (fun e => ?_)
      · repeat (walk_at "lw w")
        refine ⟨hz, fun r H' er S => q r H' ?_ S⟩
        rw [er]
        have e1 : ((z.length : Nat) : Int) ≤ (m : Int) := of_decide_eq_true e
        show _ = (decide (z.length ≤ m) && z.cps.toList.all isLow)
        rw [decide_eq_true (show z.length ≤ m by omega), Bool.true_and]
        congr 1
        funext c
        exact low_in c
      · refine q _ _ ?_ (Same.refl _)
        have e1 : ¬ ((z.length : Nat) : Int) ≤ (m : Int) := fun h => e (decide_eq_true h)
        show _ = (decide (z.length ≤ m) && z.cps.toList.all isLow)
        rw [decide_eq_false (show ¬ z.length ≤ m by omega)]
        rfl
    all_goals (repeat (walk_at "lw w")) <;> exact q _ _ rfl (Same.refl _)
end

section
variable {P : Program} {w : World} {K : PySem.W.Frag} {mg : Str → Option Value} {base : Heap}
theorem ok_is_class_name (T : Txt K mg) : FnOk P w K mg base CX0 2 T.f_is_class_name T.fd_is_class_name ["thing"] (sp_bool1 K isClassD) := by
  have G_consists_of := ok_consists_of (P := P) (w := w) (base := base) T
  refine T.F_is_class_name.ok sc_is_class_name (fun vs H Q E h => ?_) (fun cdv A outer s H vs Q E hr h => ?_)
  · obtain ⟨x, d, rfl, _⟩ := h
    rfl
  · obtain ⟨x, d, rfl, hd, hf, hp, q⟩ := h
    clear hp
    refine ⟨_, (pss_cons (ps_if (PW.pt (pw_or (pt_not (pt_val (pe_callB call_isi (by rfl) T.m_isinstance (by decide +kernel) (pa_cons (pv 0) (pa_cons (pe_bltn (v := .ty "str") (by rfl) T.m_str (by decide +kernel) rfl) pa_nil))))) (pw_or (pt_cmpR op_eq (pv 0) pe_str (nomark _)) (pw_or1 (pt_cmpR op_gt (pe_callB call_len (by rfl) T.m_len (by decide +kernel) (pa_cons (pv 0) pa_nil)) (pe_glob (v := .int 12) rfl T.c_MOST_CLASS_LETTERS.choose_spec ⟨_, rfl⟩) (nomark _)))))) (pss_one (ps_ret pe_bl)) pss_nil)
        (pss_one (ps_ret (pe_and (pe_cmpR op_in_sign (pe_ix ix_str (pv 0) pe_int (fun _ _ => rfl)) (pe_glob (v := .str "ABCDEFGHIJKLMNOPQRSTUVWXYZ") rfl T.c_CAPITAL_LETTERS.choose_spec ⟨_, rfl⟩) (by rfl)) (pe_one (pe_call G_consists_of hr (by rfl) T.g_consists_of T.F_consists_of.kp T.b_consists_of .nil pass0 (pa_cons (pv 0) (pa_cons (pe_op op_add_str (pe_glob (v := .str "abcdefghijklmnopqrstuvwxyz") rfl T.c_SMALL_LETTERS.choose_spec ⟨_, rfl⟩) (pe_glob (v := .str "ABCDEFGHIJKLMNOPQRSTUVWXYZ") rfl T.c_CAPITAL_LETTERS.choose_spec ⟨_, rfl⟩)) pa_nil)))))))), ?_⟩
    cases hd
    case str z =>
      have hz : z.length ≤ 100000 := by
        unfold fine at hf
        rw [Bool.and_eq_true] at hf
        exact of_decide_eq_true hf.1
      repeat (walk_at "lw w")
      refine ite2 (fun e => ?_) (fun e => ?_)
      · repeat (walk_at "lw w")
        refine q _ _ ?_ (Same.refl _)
        have e1 : z = Str.ofString "" := V.str.inj (of_decide_eq_true e)
        rw [e1]
        decide +kernel
      · obtain ⟨c, cs, ez⟩ : ∃ c cs, z.cps.toList = c :: cs := by
          cases ez : z.cps.toList with
          | nil =>
            refine absurd (decide_eq_true (congrArg V.str ?_)) e
            have : z.cps = #[] := Array.toList_inj.mp ez
            show z = ⟨#[]⟩
            rw [← this]
          | cons c cs => exact ⟨c, cs, rfl⟩
        have el : z.length = cs.length + 1 := by
          show z.cps.size = _
          rw [← Array.length_toList, ez, List.length_cons]
        repeat (walk_at "lw w")
        refine ite2 (fun e2 => ?_) (fun e2 => ?_)
        · repeat (walk_at "lw w")
          refine q _ _ ?_ (Same.refl _)
          have e3 : (12 : Int) < ((z.length : Nat) : Int) := of_decide_eq_true e2
          show _ = isClassL z.cps.toList
          rw [ez]
          rw [isClassL_cons]
          rw [decide_eq_false (show ¬ cs.length + 1 ≤ 12 by omega)]
          rfl
        · have e3 : ¬ (12 : Int) < ((z.length : Nat) : Int) := fun h => e2 (decide_eq_true h)
          repeat (walk_at "lw w")
          refine ⟨z, 0, c, rfl, rfl, by have := PySem.sizeLine_eq; omega, by rw [ez]; exact atI_nat (j := 0) rfl, ?_⟩
          repeat (walk_at "lw w")
          have fin : ∀ r : Bool, r = (isUp c && (c :: cs).all fun x => isUp x || isLow x) → r = isClassD (.str z) := by
            intro r er
            show _ = isClassL z.cps.toList
            rw [ez]
            rw [isClassL_cons]
            rw [decide_eq_true (show cs.length + 1 ≤ 12 by omega), Bool.true_and]
            exact er
          refine ite2 (fun e4 => ?_) (fun e4 => ?_)
          · rw [up_in] at e4
            repeat (walk_at "lw w")
            refine ⟨by decide +kernel, ?_⟩
            repeat (walk_at "lw w")
            refine ⟨hz, fun r H' er S => q r H' (fin _ ?_) S⟩
            rw [er, e4, Bool.true_and, ez]
            congr 1
            funext x
            exact lu_in x
          · rw [up_in] at e4
            refine q _ _ (fin _ ?_) (Same.refl _)
            rw [show isUp c = false by simpa using e4]
            rfl
    all_goals (repeat (walk_at "lw w")) <;> exact q _ _ rfl (Same.refl _)
end

section
variable {P : Program} {w : World} {K : PySem.W.Frag} {mg : Str → Option Value} {base : Heap}
theorem ok_is_item (T : Txt K mg) : FnOk P w K mg base CX0 3 T.f_is_item T.fd_is_item ["thing"] (sp_bool1 K isItemD) := by
  have G_is_integer := ok_is_integer (P := P) (w := w) (base := base) T
  have G_is_small_word := ok_is_small_word (P := P) (w := w) (base := base) T
  refine T.F_is_item.ok sc_is_item (fun vs H Q E h => ?_) (fun cdv A outer s H vs Q E hr h => ?_)
  · obtain ⟨x, d, rfl, _⟩ := h
    rfl
  · obtain ⟨x, d, rfl, hd, hf, hp, q⟩ := h
    refine ⟨_, (pss_one (ps_ret (pe_or (pe_cmpR op_isN (pv 0) pe_non (nomark _)) (pe_or (pe_call G_is_integer (hr.mono (by omega)) (by rfl) T.g_is_integer T.F_is_integer.kp T.b_is_integer .nil pass0 (pa_cons (pv 0) pa_nil)) (pe_one (pe_call G_is_small_word hr (by rfl) T.g_is_small_word T.F_is_small_word.kp T.b_is_small_word .nil pass0 (pa_cons (pv 0) (pa_cons (pe_glob (v := .int 30) rfl T.c_MOST_WORD_LETTERS.choose_spec ⟨_, rfl⟩) pa_nil)))))))), ?_⟩
    repeat (walk_at "lw w")
    rw [non_eq hd]
    refine ite2 (fun e => ?_) (fun e => ?_)
    · exact q _ _ (by rw [isItemD_eq, e]; rfl) (Same.refl _)
    · have e0 : PyData.eqv d .none = false := by simpa using e
      repeat (walk_at "lw w")
      refine ⟨_, d, rfl, hd, hf, hp, fun r H1 er S1 => ?_⟩
      repeat (walk_at "lw w")
      refine ite2 (fun e1 => ?_) (fun e1 => ?_)
      · exact q _ _ (by rw [isItemD_eq, e0, ← er, e1]; rfl) S1
      · have e2 : r = false := by simpa using e1
        repeat (walk_at "lw w")
        refine ⟨_, d, 30, rfl, Dp.same S1 _ _ hd, short_fine hf, fun r2 H2 er2 S2 => ?_⟩
        exact q _ _ (by rw [isItemD_eq, e0, ← er, e2, er2]; rfl) (S1.trans S2)
theorem ok_is_raised (T : Txt K mg) : FnOk P w K mg base CX0 3 T.f_is_raised T.fd_is_raised ["thing"] (sp_bool1 K isRaisedT) := by
  have G_is_class_name := ok_is_class_name (P := P) (w := w) (base := base) T
  refine T.F_is_raised.ok sc_is_raised (fun vs H Q E h => ?_) (fun cdv A outer s H vs Q E hr h => ?_)
  · obtain ⟨x, d, rfl, _⟩ := h
    rfl
  · obtain ⟨x, d, rfl, hd, hf, hp, q⟩ := h
    refine ⟨_, (pss_cons (ps_if (PW.pt (pw_or (pt_not (pt_val (pe_callB call_isi (by rfl) T.m_isinstance (by decide +kernel) (pa_cons (pv 0) (pa_cons (pe_bltn (v := .ty "tuple") (by rfl) T.m_tuple (by decide +kernel) rfl) pa_nil))))) (pw_or1 (pt_cmpR op_ne (pe_callB call_len (by rfl) T.m_len (by decide +kernel) (pa_cons (pv 0) pa_nil)) pe_int (nomark _))))) (pss_one (ps_ret pe_bl)) pss_nil)
        (pss_cons (ps_asg (pv 0) (pg_tup rfl (pgs_cons (pg_name (i := 1) sc_is_raised.nd rfl (.inl rfl)) (pgs_cons (pg_name (i := 2) sc_is_raised.nd rfl (.inl rfl)) (pgs_cons (pg_name (i := 3) sc_is_raised.nd rfl (.inl rfl)) pgs_nil)))))
        (pss_one (ps_ret (pe_and (pe_cmpR (op_eqD hr.units) (pv 1) pe_str (nomark _)) (pe_and (pe_call G_is_class_name hr (by rfl) T.g_is_class_name T.F_is_class_name.kp T.b_is_class_name .nil pass0 (pa_cons (pv 2) pa_nil)) (pe_one (pe_or (pe_cmpR op_isN (pv 3) pe_non (nomark _)) (pe_one (pe_call G_is_class_name hr (by rfl) T.g_is_class_name T.F_is_class_name.kp T.b_is_class_name .nil pass0 (pa_cons (pv 3) pa_nil))))))))))), ?_⟩
    cases hd
    case tup a xs ds hs ha =>
      obtain ⟨f1, f2⟩ := fine_tup hf
      have hl := DpAll.length ha
      repeat (walk_at "lw w")
      by_cases h3 : ds.length = 3
      · obtain ⟨d0, d1, d2, rfl⟩ : ∃ d0 d1 d2, ds = [d0, d1, d2] := by
          match ds, h3 with
          | [a, b, c], _ => exact ⟨a, b, c, rfl⟩
        cases ha with
        | @cons x0 _ _ _ a0 ha =>
        cases ha with
        | @cons x1 _ _ _ a1 ha =>
        cases ha with
        | @cons x2 _ _ _ a2 ha =>
        cases ha
        have g0 : fine d0 = true := fineAll_mem f2 (by simp)
        have g1 : fine d1 = true := fineAll_mem f2 (by simp)
        have g2 : fine d2 = true := fineAll_mem f2 (by simp)
        have hp' : PyData.depthAll [d0, d1, d2] ≤ 59 := by
          have h : PyData.depthAll [d0, d1, d2] + 1 ≤ 60 := hp
          omega
        have p0 : PyData.depth d0 ≤ 60 := Nat.le_trans (depth_mem (by simp)) (Nat.le_trans hp' (by decide))
        have p1 : PyData.depth d1 ≤ 60 := Nat.le_trans (depth_mem (by simp)) (Nat.le_trans hp' (by decide))
        have p2 : PyData.depth d2 ≤ 60 := Nat.le_trans (depth_mem (by simp)) (Nat.le_trans hp' (by decide))
        repeat (walk_at "lw w")
        refine ⟨a, [x0, x1, x2], rfl, hs, rfl, ?_⟩
        repeat (walk_at "lw w")
        refine ⟨d0, .str (Str.ofString "raises"), a0, .str _, shaped_fine g0 (by omega), by decide +kernel, ?_⟩
        repeat (walk_at "lw w")
        refine ite2 (fun e => ?_) (fun e => ?_)
        · repeat (walk_at "lw w")
          refine ⟨_, d1, rfl, a1, g1, p1, fun r H1 er S1 => ?_⟩
          repeat (walk_at "lw w")
          refine ite2 (fun e1 => ?_) (fun e1 => ?_)
          · repeat (walk_at "lw w")
            rw [non_eq a2]
            refine ite2 (fun e2 => ?_) (fun e2 => ?_)
            · refine q _ _ ?_ S1
              show _ = (PyData.eqv d0 (.str (Str.ofString "raises")) && (isClassD d1 && (PyData.eqv d2 .none || isClassD d2)))
              rw [e, ← er, e1, e2]
              rfl
            · have e3 : PyData.eqv d2 .none = false := by simpa using e2
              repeat (walk_at "lw w")
              refine ⟨_, d2, rfl, Dp.same S1 _ _ a2, g2, p2, fun r2 H2 er2 S2 => ?_⟩
              refine q _ _ ?_ (S1.trans S2)
              show _ = (PyData.eqv d0 (.str (Str.ofString "raises")) && (isClassD d1 && (PyData.eqv d2 .none || isClassD d2)))
              rw [e, ← er, e1, e3, er2]
              rfl
          · refine q _ _ ?_ S1
            show _ = (PyData.eqv d0 (.str (Str.ofString "raises")) && (isClassD d1 && (PyData.eqv d2 .none || isClassD d2)))
            rw [e, ← er, show r = false by simpa using e1]
            rfl
        · refine q _ _ ?_ (Same.refl _)
          show _ = (PyData.eqv d0 (.str (Str.ofString "raises")) && (isClassD d1 && (PyData.eqv d2 .none || isClassD d2)))
          rw [show PyData.eqv d0 (.str (Str.ofString "raises")) = false by simpa using e]
          rfl
      · refine iteNT (by intro h; have h' := V.int.inj h; omega) ?_
        refine q _ _ ?_ (Same.refl _)
        match ds, h3 with
        | [], _ => rfl
        | [_], _ => rfl
        | [_, _], _ => rfl
        | [_, _, _], h => exact absurd rfl h
        | _ :: _ :: _ :: _ :: _, _ => rfl
    all_goals (repeat (walk_at "lw w")) <;> exact q _ _ rfl (Same.refl _)
theorem ok_is_answer (T : Txt K mg) : FnOk P w K mg base CX0 4 T.f_is_answer T.fd_is_answer ["thing"] (sp_bool1 K isAnswerD) := by
  have G_is_item := ok_is_item (P := P) (w := w) (base := base) T
  have G_is_raised := ok_is_raised (P := P) (w := w) (base := base) T
  refine T.F_is_answer.ok sc_is_answer (fun vs H Q E h => ?_) (fun cdv A outer s H vs Q E hr h => ?_)
  · obtain ⟨x, d, rfl, _⟩ := h
    rfl
  · obtain ⟨x, d, rfl, hd, hf, hp, q⟩ := h
    refine ⟨_, (pss_cons (ps_if (pt_val (pe_callB call_isi (by rfl) T.m_isinstance (by decide +kernel) (pa_cons (pv 0) (pa_cons (pe_bltn (v := .ty "list") (by rfl) T.m_list (by decide +kernel) rfl) pa_nil)))) (pss_one (ps_ret (pe_callB (cr_all rfl) (by rfl) T.m_all (by decide +kernel) (pa_cons (pe_lc (own := [("item", 1)]) (g := gName 1) rfl sc_is_answer.nd (pi_list (pv 0)) (blkOk_by (own := [("item", 1)]) (N := ["thing", "item"]) (sc := defScope s_is_answer) (by decide +kernel)) (fun _ _ _ _ _ => pg_name (i := 1) sc_is_answer.nd rfl (.inl rfl)) (fun _ _ _ _ _ => pts_nil) (fun _ _ _ _ _ => (pe_call G_is_item hr (by rfl) T.g_is_item T.F_is_item.kp T.b_is_item .nil pass0 (pa_cons (pv 1) pa_nil)))) pa_nil)))) pss_nil)
        (pss_one (ps_ret (pe_or (pe_call G_is_item hr (by rfl) T.g_is_item T.F_is_item.kp T.b_is_item .nil pass0 (pa_cons (pv 0) pa_nil)) (pe_one (pe_call G_is_raised hr (by rfl) T.g_is_raised T.F_is_raised.kp T.b_is_raised .nil pass0 (pa_cons (pv 0) pa_nil))))))), ?_⟩
    by_cases hl : ∃ ds, d = .list ds
    · obtain ⟨ds, rfl⟩ := hl
      cases hd with
      | @lst a xs _ hs ha =>
      obtain ⟨f1, f2⟩ := fine_lst hf
      have hl := DpAll.length ha
      repeat (walk_at "lw w")
      refine ⟨⟨xs, hs⟩, fun D nD => ?_⟩
      refine lc_list (K := K) (a := a) (xs := xs) (fun i H' => H' D = some (.lst ((ds.take i).map fun d => V.bl (isItemD d))) ∧ Same H H') ?_ ?_ ?_ ?_
      · exact ⟨upd_same, same_new nD⟩
      · rintro i H' _ ⟨_, S⟩
        exact S.seq hs
      · rintro i x H' hx ⟨eD, S⟩
        obtain ⟨d, hd1, hd2⟩ := DpAll.get ha hx
        have hm := List.mem_of_getElem? hd1
        have hi : i < ds.length := by
          have := (List.getElem?_eq_some_iff.mp hx).1
          omega
        refine ⟨rfl, ?_⟩
        repeat (walk_at "lw w")
        refine ⟨_, d, rfl, Dp.same S _ _ hd2, fineAll_mem f2 hm, ?_, fun r H1 er S1 => ?_⟩
        · have h1 := depth_mem hm
          have h2 : PyData.depthAll ds + 1 ≤ 60 := hp
          omega
        · refine ⟨_, S1 _ _ eD, ?_, ?_, ?_⟩
          · rw [List.length_map, List.length_take]
            exact small1000 (by omega)
          · rw [upd_same, List.take_add_one, hd1, List.map_append, er]
            rfl
          · intro q' o e
            rw [upd_ne (ne_of_none e nD)]
            exact S1 _ _ (S _ _ e)
      · rintro H' ⟨eD, S⟩
        rw [hl, List.take_length] at eD
        refine ⟨D, ds.map isItemD, rfl, ?_, ?_⟩
        · rw [List.map_map]
          exact SqL.of eD
        · exact q _ H' (by rw [List.all_map]; rfl) S
    · have hA := isAnswerD_eq hl
      have hd0 := hd
      cases hd
      case lst => exact absurd ⟨_, rfl⟩ hl
      all_goals
        (repeat (walk_at "lw w"))
        refine ⟨_, _, rfl, hd0, hf, hp, fun r H1 er S1 => ?_⟩
        (repeat (walk_at "lw w"))
        refine ite2 (fun e => ?_) (fun e => ?_)
        · exact q _ _ (by rw [hA, ← er, e]; rfl) S1
        · (repeat (walk_at "lw w"))
          refine ⟨_, _, rfl, Dp.same S1 _ _ hd0, hf, hp, fun r2 H2 er2 S2 => ?_⟩
          exact q _ _ (by rw [hA, ← er, show r = false by simpa using e, er2]; rfl) (S1.trans S2)
end

section
variable {P : Program} {w : World} {K : PySem.W.Frag} {mg : Str → Option Value} {base : Heap}
theorem ok_law_is_integer (T : Txt K mg) : FnOk P w K mg base CX0 1 T.f_law_is_integer T.fd_law_is_integer ["thing"] (sp_bool1 K isIntD) := by
  refine T.F_law_is_integer.ok sc_law_is_integer (fun vs H Q E h => ?_) (fun cdv A outer s H vs Q E hr h => ?_)
  · obtain ⟨x, d, rfl, _⟩ := h
    rfl
  · obtain ⟨x, d, rfl, hd, hf, _, q⟩ := h
    refine ⟨_, (pss_one (ps_ret (pe_and (pe_callB call_isi (by rfl) T.m_isinstance (by decide +kernel) (pa_cons (pv 0) (pa_cons (pe_bltn (v := .ty "int") (by rfl) T.m_int (by decide +kernel) rfl) pa_nil))) (pe_one (pe_not (pe_callB call_isi (by rfl) T.m_isinstance (by decide +kernel) (pa_cons (pv 0) (pa_cons (pe_bltn (v := .ty "bool") (by rfl) T.m_bool (by decide +kernel) rfl) pa_nil)))))))), ?_⟩
    cases hd <;> (repeat (walk_at "lw w")) <;> exact q _ _ rfl (Same.refl _)
theorem ok_law_is_word (T : Txt K mg) : FnOk P w K mg base CX0 1 T.f_law_is_word T.fd_law_is_word ["thing", "most"] (sp_word1 K) := by
  refine T.F_law_is_word.ok sc_law_is_word (fun vs H Q E h => ?_) (fun cdv A outer s H vs Q E hr h => ?_)
  · obtain ⟨x, d, m, rfl, _⟩ := h
    rfl
  · obtain ⟨x, d, m, rfl, hd, hf, q⟩ := h
    refine ⟨_, (pss_cons (ps_if (PW.pt (pw_or (pt_not (pt_val (pe_callB call_isi (by rfl) T.m_isinstance (by decide +kernel) (pa_cons (pv 0) (pa_cons (pe_bltn (v := .ty "str") (by rfl) T.m_str (by decide +kernel) rfl) pa_nil))))) (pw_or1 (pt_cmpR op_gt (pe_callB call_len (by rfl) T.m_len (by decide +kernel) (pa_cons (pv 0) pa_nil)) (pv 1) (nomark _))))) (pss_one (ps_ret pe_bl)) pss_nil)
        (pss_one (ps_ret (pe_callB (cr_all rfl) (by rfl) T.m_all (by decide +kernel) (pa_cons (pe_lc (own := [("sign", 2)]) (g := gName 2) rfl sc_law_is_word.nd (pi_str (pv 0)) (blkOk_by (own := [("sign", 2)]) (N := ["thing", "most", "sign"]) (sc := defScope s_law_is_word) (by decide +kernel)) (fun _ _ _ _ _ => pg_name (i := 2) sc_law_is_word.nd rfl (.inl rfl)) (fun _ _ _ _ _ => pts_nil) (fun _ _ _ _ _ => (pe_cmpR op_in_sign (pv 2) pe_str (by rfl)))) pa_nil))))), ?_⟩
    cases hd
    case str z =>
      have hz : z.length ≤ 100000 := of_decide_eq_true hf
      repeat (walk_at "lw w")
      refine ite2 (fun e => ?_) (fun e => ?_)
      · repeat (walk_at "lw w")
        refine q _ _ ?_ (Same.refl _)
        have e1 : (m : Int) < ((z.length : Nat) : Int) := of_decide_eq_true e
        show _ = (decide (z.length ≤ m) && z.cps.toList.all isLow)
        rw [decide_eq_false (show ¬ z.length ≤ m by omega)]
        rfl
      · have e1 : ¬ (m : Int) < ((z.length : Nat) : Int) := fun h => e (decide_eq_true h)
        repeat (walk_at "lw w")
        intro D nD
        refine lc_it (walk_str (z := z)) (fun i H' => H' D = some (.lst ((z.cps.toList.take i).map fun c => V.bl (isLow c))) ∧ Same H H') ?_ ?_ ?_ ?_
        · exact ⟨upd_same, same_new nD⟩
        · intro i H' _ _
          trivial
        · rintro i x H1 H' hi ⟨eD, S⟩ ⟨rfl, c, hc, rfl⟩
          refine ⟨rfl, ?_⟩
          repeat (walk_at "lw w")
          refine ⟨_, eD, ?_, ?_, ?_⟩
          · rw [List.length_map, List.length_take]
            exact small5 (Nat.le_trans (Nat.min_le_right _ _) (by rw [Array.length_toList]; exact hz))
          · have hc' : z.cps.toList[i]? = some c := by rw [Array.getElem?_toList]; exact hc
            rw [upd_same, List.take_add_one, hc', List.map_append, low_in]
            rfl
          · intro q' o e
            rw [upd_ne (ne_of_none e nD)]
            exact S _ _ e
        · rintro H' ⟨eD, S⟩
          have el : z.cps.toList.take z.cps.size = z.cps.toList := List.take_of_length_le (by rw [Array.length_toList]; exact Nat.le_refl _)
          rw [el] at eD
          refine ⟨D, z.cps.toList.map isLow, rfl, ?_, ?_⟩
          · rw [List.map_map]
            exact SqL.of eD
          · refine q _ H' ?_ S
            show _ = (decide (z.length ≤ m) && z.cps.toList.all isLow)
            rw [decide_eq_true (show z.length ≤ m by omega), Bool.true_and, List.all_map]
            rfl
    all_goals (repeat (walk_at "lw w")) <;> exact q _ _ rfl (Same.refl _)
theorem ok_law_is_item (T : Txt K mg) : FnOk P w K mg base CX0 2 T.f_law_is_item T.fd_law_is_item ["thing"] (sp_bool1 K isItemD) := by
  have G_law_is_integer := ok_law_is_integer (P := P) (w := w) (base := base) T
  have G_law_is_word := ok_law_is_word (P := P) (w := w) (base := base) T
  refine T.F_law_is_item.ok sc_law_is_item (fun vs H Q E h => ?_) (fun cdv A outer s H vs Q E hr h => ?_)
  · obtain ⟨x, d, rfl, _⟩ := h
    rfl
  · obtain ⟨x, d, rfl, hd, hf, hp, q⟩ := h
    refine ⟨_, (pss_one (ps_ret (pe_or (pe_cmpR op_isN (pv 0) pe_non (nomark _)) (pe_or (pe_call G_law_is_integer hr (by rfl) T.g_law_is_integer T.F_law_is_integer.kp T.b_law_is_integer .nil pass0 (pa_cons (pv 0) pa_nil)) (pe_one (pe_call G_law_is_word hr (by rfl) T.g_law_is_word T.F_law_is_word.kp T.b_law_is_word .nil pass0 (pa_cons (pv 0) (pa_cons pe_int pa_nil)))))))), ?_⟩
    repeat (walk_at "lw w")
    rw [non_eq hd]
    refine ite2 (fun e => ?_) (fun e => ?_)
    · exact q _ _ (by rw [isItemD_eq, e]; rfl) (Same.refl _)
    · have e0 : PyData.eqv d .none = false := by simpa using e
      repeat (walk_at "lw w")
      refine ⟨_, d, rfl, hd, hf, hp, fun r H1 er S1 => ?_⟩
      repeat (walk_at "lw w")
      refine ite2 (fun e1 => ?_) (fun e1 => ?_)
      · exact q _ _ (by rw [isItemD_eq, e0, ← er, e1]; rfl) S1
      · have e2 : r = false := by simpa using e1
        repeat (walk_at "lw w")
        refine ⟨_, d, 30, rfl, Dp.same S1 _ _ hd, short_fine hf, fun r2 H2 er2 S2 => ?_⟩
        exact q _ _ (by rw [isItemD_eq, e0, ← er, e2, er2]; rfl) (S1.trans S2)
theorem ok_law_is_class (T : Txt K mg) : FnOk P w K mg base CX0 1 T.f_law_is_class T.fd_law_is_class ["thing"] (sp_bool1 K isClassD) := by
  refine T.F_law_is_class.ok sc_law_is_class (fun vs H Q E h => ?_) (fun cdv A outer s H vs Q E hr h => ?_)
  · obtain ⟨x, d, rfl, _⟩ := h
    rfl
  · obtain ⟨x, d, rfl, hd, hf, hp, q⟩ := h
    clear hp
    refine ⟨_, (pss_cons (ps_set (i := 1) sc_law_is_class.nd rfl (.inr rfl) (pe_op op_add_str pe_str pe_str))
        (pss_cons (ps_if (PW.pt (pw_or (pt_not (pt_val (pe_callB call_isi (by rfl) T.m_isinstance (by decide +kernel) (pa_cons (pv 0) (pa_cons (pe_bltn (v := .ty "str") (by rfl) T.m_str (by decide +kernel) rfl) pa_nil))))) (pw_or (pt_cmpR op_eq (pe_callB call_len (by rfl) T.m_len (by decide +kernel) (pa_cons (pv 0) pa_nil)) pe_int (nomark _)) (pw_or1 (pt_cmpR op_gt (pe_callB call_len (by rfl) T.m_len (by decide +kernel) (pa_cons (pv 0) pa_nil)) pe_int (nomark _)))))) (pss_one (ps_ret pe_bl)) pss_nil)
        (pss_one (ps_ret (pe_and (pe_cmpR op_in_sign (pe_ix ix_str (pv 0) pe_int (fun _ _ => rfl)) (pe_slice sl_str (pv 1) po_none (po_some pe_int)) (by rfl)) (pe_one (pe_callB (cr_all rfl) (by rfl) T.m_all (by decide +kernel) (pa_cons (pe_lc (own := [("sign", 2)]) (g := gName 2) rfl sc_law_is_class.nd (pi_str (pv 0)) (blkOk_by (own := [("sign", 2)]) (N := ["thing", "letters", "sign"]) (sc := defScope s_law_is_class) (by decide +kernel)) (fun _ _ _ _ _ => pg_name (i := 2) sc_law_is_class.nd rfl (.inl rfl)) (fun _ _ _ _ _ => pts_nil) (fun _ _ _ _ _ => (pe_cmpR op_in_sign (pv 2) (pv 1) (by rfl)))) pa_nil)))))))), ?_⟩
    repeat (walk_at "lw w")
    refine ⟨by decide +kernel, ?_⟩
    cases hd
    case str z =>
      have hz : z.length ≤ 100000 := by
        unfold fine at hf
        rw [Bool.and_eq_true] at hf
        exact of_decide_eq_true hf.1
      repeat (walk_at "lw w")
      refine ite2 (fun e => ?_) (fun e => ?_)
      · repeat (walk_at "lw w")
        refine q _ _ ?_ (Same.refl _)
        have e1 : ((z.length : Nat) : Int) = 0 := V.int.inj (of_decide_eq_true e)
        have e2 : z.cps.toList = [] := List.eq_nil_of_length_eq_zero (by rw [Array.length_toList]; show z.length = 0; omega)
        show _ = isClassL z.cps.toList
        rw [e2]
        rfl
      · have e0 : ¬ ((z.length : Nat) : Int) = 0 := fun h => e (decide_eq_true (congrArg V.int h))
        obtain ⟨c, cs, ez⟩ : ∃ c cs, z.cps.toList = c :: cs := by
          cases ez : z.cps.toList with
          | nil =>
            refine absurd ?_ e0
            have : z.cps.toList.length = 0 := by rw [ez]; rfl
            rw [Array.length_toList] at this
            show ((z.cps.size : Nat) : Int) = 0
            omega
          | cons c cs => exact ⟨c, cs, rfl⟩
        have el : z.length = cs.length + 1 := by
          show z.cps.size = _
          rw [← Array.length_toList, ez, List.length_cons]
        repeat (walk_at "lw w")
        refine ite2 (fun e2 => ?_) (fun e2 => ?_)
        · repeat (walk_at "lw w")
          refine q _ _ ?_ (Same.refl _)
          have e3 : (12 : Int) < ((z.length : Nat) : Int) := of_decide_eq_true e2
          show _ = isClassL z.cps.toList
          rw [ez, isClassL_cons, decide_eq_false (show ¬ cs.length + 1 ≤ 12 by omega)]
          rfl
        · have e3 : ¬ (12 : Int) < ((z.length : Nat) : Int) := fun h => e2 (decide_eq_true h)
          repeat (walk_at "lw w")
          refine ⟨z, 0, c, rfl, rfl, by have := PySem.sizeLine_eq; omega, by rw [ez]; exact atI_nat (j := 0) rfl, ?_⟩
          repeat (walk_at "lw w")
          refine ⟨by decide +kernel, ?_⟩
          repeat (walk_at "lw w")
          have fin : ∀ r : Bool, r = (isUp c && (c :: cs).all fun x => isUp x || isLow x) → r = isClassD (.str z) := by
            intro r er
            show _ = isClassL z.cps.toList
            rw [ez, isClassL_cons, decide_eq_true (show cs.length + 1 ≤ 12 by omega), Bool.true_and]
            exact er
          rw [cut_up]
          refine ite2 (fun e4 => ?_) (fun e4 => ?_)
          · repeat (walk_at "lw w")
            intro D nD
            refine lc_it (walk_str (z := z)) (fun i H' => H' D = some (.lst ((z.cps.toList.take i).map fun c => V.bl (isUp c || isLow c))) ∧ Same H H') ?_ ?_ ?_ ?_
            · exact ⟨upd_same, same_new nD⟩
            · intro i H' _ _
              trivial
            · rintro i x H1 H' hi ⟨eD, S⟩ ⟨rfl, c, hc, rfl⟩
              refine ⟨rfl, ?_⟩
              repeat (walk_at "lw w")
              refine ⟨_, eD, ?_, ?_, ?_⟩
              · rw [List.length_map, List.length_take]
                exact small5 (Nat.le_trans (Nat.min_le_right _ _) (by rw [Array.length_toList]; exact hz))
              · have hc' : z.cps.toList[i]? = some c := by rw [Array.getElem?_toList]; exact hc
                rw [upd_same, List.take_add_one, hc', List.map_append, ul_in]
                rfl
              · intro q' o e
                rw [upd_ne (ne_of_none e nD)]
                exact S _ _ e
            · rintro H' ⟨eD, S⟩
              have el : z.cps.toList.take z.cps.size = z.cps.toList := List.take_of_length_le (by rw [Array.length_toList]; exact Nat.le_refl _)
              rw [el] at eD
              refine ⟨D, z.cps.toList.map fun c => isUp c || isLow c, rfl, ?_, ?_⟩
              · rw [List.map_map]
                exact SqL.of eD
              · refine q _ H' (fin _ ?_) S
                rw [e4, List.all_map, ez]
                rfl
          · refine q _ _ (fin _ ?_) (Same.refl _)
            rw [show isUp c = false by simpa using e4]
            rfl
    all_goals (repeat (walk_at "lw w")) <;> exact q _ _ rfl (Same.refl _)
theorem ok_law_is_answer (T : Txt K mg) : FnOk P w K mg base CX0 3 T.f_law_is_answer T.fd_law_is_answer ["thing"] (sp_bool1 K isAnswerD) := by
  have G_law_is_item := ok_law_is_item (P := P) (w := w) (base := base) T
  have G_law_is_class := ok_law_is_class (P := P) (w := w) (base := base) T
  refine T.F_law_is_answer.ok sc_law_is_answer (fun vs H Q E h => ?_) (fun cdv A outer s H vs Q E hr h => ?_)
  · obtain ⟨x, d, rfl, _⟩ := h
    rfl
  · obtain ⟨x, d, rfl, hd, hf, hp, q⟩ := h
    refine ⟨_, (pss_cons (ps_if (pt_val (pe_callB call_isi (by rfl) T.m_isinstance (by decide +kernel) (pa_cons (pv 0) (pa_cons (pe_bltn (v := .ty "list") (by rfl) T.m_list (by decide +kernel) rfl) pa_nil)))) (pss_one (ps_ret (pe_callB (cr_all rfl) (by rfl) T.m_all (by decide +kernel) (pa_cons (pe_lc (own := [("item", 1)]) (g := gName 1) rfl sc_law_is_answer.nd (pi_list (pv 0)) (blkOk_by (own := [("item", 1)]) (N := ["thing", "item"]) (sc := defScope s_law_is_answer) (by decide +kernel)) (fun _ _ _ _ _ => pg_name (i := 1) sc_law_is_answer.nd rfl (.inl rfl)) (fun _ _ _ _ _ => pts_nil) (fun _ _ _ _ _ => (pe_call G_law_is_item hr (by rfl) T.g_law_is_item T.F_law_is_item.kp T.b_law_is_item .nil pass0 (pa_cons (pv 1) pa_nil)))) pa_nil)))) pss_nil)
        (pss_cons (ps_if (pt_not (pt_val (pe_callB call_isi (by rfl) T.m_isinstance (by decide +kernel) (pa_cons (pv 0) (pa_cons (pe_bltn (v := .ty "tuple") (by rfl) T.m_tuple (by decide +kernel) rfl) pa_nil))))) (pss_one (ps_ret (pe_call G_law_is_item hr (by rfl) T.g_law_is_item T.F_law_is_item.kp T.b_law_is_item .nil pass0 (pa_cons (pv 0) pa_nil)))) pss_nil)
        (pss_cons (ps_if (PW.pt (pw_or (pt_cmpR op_ne (pe_callB call_len (by rfl) T.m_len (by decide +kernel) (pa_cons (pv 0) pa_nil)) pe_int (nomark _)) (pw_or (pt_not (pt_val (pe_callB call_isi (by rfl) T.m_isinstance (by decide +kernel) (pa_cons (pe_ix ix_tup (pv 0) pe_int (fun _ _ => rfl)) (pa_cons (pe_bltn (v := .ty "str") (by rfl) T.m_str (by decide +kernel) rfl) pa_nil))))) (pw_or1 (pt_cmpR op_ne (pe_ix ix_tup (pv 0) pe_int (fun _ _ => rfl)) pe_str (nomark _)))))) (pss_one (ps_ret pe_bl)) pss_nil)
        (pss_one (ps_ret (pe_and (pe_call G_law_is_class (hr.mono (by omega)) (by rfl) T.g_law_is_class T.F_law_is_class.kp T.b_law_is_class .nil pass0 (pa_cons (pe_ix ix_tup (pv 0) pe_int (fun _ _ => rfl)) pa_nil)) (pe_one (pe_or (pe_cmpR op_isN (pe_ix ix_tup (pv 0) pe_int (fun _ _ => rfl)) pe_non (nomark _)) (pe_one (pe_call G_law_is_class (hr.mono (by omega)) (by rfl) T.g_law_is_class T.F_law_is_class.kp T.b_law_is_class .nil pass0 (pa_cons (pe_ix ix_tup (pv 0) pe_int (fun _ _ => rfl)) pa_nil))))))))))), ?_⟩
    have hd0 := hd
    cases hd
    case lst a xs ds hs ha =>
      obtain ⟨f1, f2⟩ := fine_lst hf
      have hl := DpAll.length ha
      repeat (walk_at "lw w")
      refine ⟨⟨xs, hs⟩, fun D nD => ?_⟩
      refine lc_list (K := K) (a := a) (xs := xs) (fun i H' => H' D = some (.lst ((ds.take i).map fun d => V.bl (isItemD d))) ∧ Same H H') ?_ ?_ ?_ ?_
      · exact ⟨upd_same, same_new nD⟩
      · rintro i H' _ ⟨_, S⟩
        exact S.seq hs
      · rintro i x H' hx ⟨eD, S⟩
        obtain ⟨d, hd1, hd2⟩ := DpAll.get ha hx
        have hm := List.mem_of_getElem? hd1
        have hi : i < ds.length := by
          have := (List.getElem?_eq_some_iff.mp hx).1
          omega
        refine ⟨rfl, ?_⟩
        repeat (walk_at "lw w")
        refine ⟨_, d, rfl, Dp.same S _ _ hd2, fineAll_mem f2 hm, ?_, fun r H1 er S1 => ?_⟩
        · have h1 := depth_mem hm
          have h2 : PyData.depthAll ds + 1 ≤ 60 := hp
          omega
        · refine ⟨_, S1 _ _ eD, ?_, ?_, ?_⟩
          · rw [List.length_map, List.length_take]
            exact small1000 (by omega)
          · rw [upd_same, List.take_add_one, hd1, List.map_append, er]
            rfl
          · intro q' o e
            rw [upd_ne (ne_of_none e nD)]
            exact S1 _ _ (S _ _ e)
      · rintro H' ⟨eD, S⟩
        rw [hl, List.take_length] at eD
        refine ⟨D, ds.map isItemD, rfl, ?_, ?_⟩
        · rw [List.map_map]
          exact SqL.of eD
        · exact q _ H' (by rw [List.all_map]; rfl) S
    case tup a xs ds hs ha =>
      obtain ⟨f1, f2⟩ := fine_tup hf
      have hl := DpAll.length ha
      repeat (walk_at "lw w")
      by_cases h3 : ds.length = 3
      · obtain ⟨d0, d1, d2, rfl⟩ : ∃ d0 d1 d2, ds = [d0, d1, d2] := by
          match ds, h3 with
          | [a, b, c], _ => exact ⟨a, b, c, rfl⟩
        cases ha with
        | @cons x0 _ _ _ a0 ha =>
        cases ha with
        | @cons x1 _ _ _ a1 ha =>
        cases ha with
        | @cons x2 _ _ _ a2 ha =>
        cases ha
        have g0 : fine d0 = true := fineAll_mem f2 (by simp)
        have g1 : fine d1 = true := fineAll_mem f2 (by simp)
        have g2 : fine d2 = true := fineAll_mem f2 (by simp)
        have hp' : PyData.depthAll [d0, d1, d2] ≤ 59 := by
          have h : PyData.depthAll [d0, d1, d2] + 1 ≤ 60 := hp
          omega
        have p0 : PyData.depth d0 ≤ 60 := Nat.le_trans (depth_mem (by simp)) (Nat.le_trans hp' (by decide))
        have p1 : PyData.depth d1 ≤ 60 := Nat.le_trans (depth_mem (by simp)) (Nat.le_trans hp' (by decide))
        have p2 : PyData.depth d2 ≤ 60 := Nat.le_trans (depth_mem (by simp)) (Nat.le_trans hp' (by decide))
        cases a0
        case str z =>
          repeat (walk_at "lw w")
          by_cases e : z = Str.ofString "raises"
          · refine iteNS (by rw [e]) ?_
            repeat (walk_at "lw w")
            refine ⟨_, d1, rfl, a1, g1, p1, fun r H1 er S1 => ?_⟩
            have fin : ∀ r : Bool, r = (isClassD d1 && (PyData.eqv d2 .none || isClassD d2)) → r = isAnswerD (.tuple [.str z, d1, d2]) := by
              intro r er
              show _ = ((z == Str.ofString "raises") && (isClassD d1 && (PyData.eqv d2 .none || isClassD d2)))
              rw [e, beq_self_eq_true, Bool.true_and]
              exact er
            have hs1 := SqT.same S1 hs
            repeat (walk_at "lw w")
            refine ite2 (fun e1 => ?_) (fun e1 => ?_)
            · repeat (walk_at "lw w")
              rw [non_eq a2]
              refine ite2 (fun e2 => ?_) (fun e2 => ?_)
              · refine q _ _ (fin _ ?_) S1
                rw [← er, e1, e2]
                rfl
              · have e3 : PyData.eqv d2 .none = false := by simpa using e2
                repeat (walk_at "lw w")
                refine ⟨_, d2, rfl, Dp.same S1 _ _ a2, g2, p2, fun r2 H2 er2 S2 => ?_⟩
                refine q _ _ (fin _ ?_) (S1.trans S2)
                rw [← er, e1, e3, er2]
                rfl
            · refine q _ _ (fin _ ?_) S1
              rw [← er, show r = false by simpa using e1]
              rfl
          · refine iteNT (fun h => e (V.str.inj h)) ?_
            repeat (walk_at "lw w")
            refine q _ _ ?_ (Same.refl _)
            show _ = ((z == Str.ofString "raises") && (isClassD d1 && (PyData.eqv d2 .none || isClassD d2)))
            rw [beq_false_of_ne e]
            rfl
        case tup b ys es hs2 ha2 =>
          repeat (walk_at "lw w")
          refine' ⟨_, _, _, _, _, rfl, .ty _, ty_sqT hs2, ?k, ?_⟩
          case k =>
            refine kit_of2 false ?_
            decide +kernel
          repeat (walk_at "lw w")
          exact q _ _ rfl (Same.refl _)
        all_goals (repeat (walk_at "lw w")) <;> exact q _ _ rfl (Same.refl _)
      · refine iteNT (by intro h; have h' := V.int.inj h; omega) ?_
        repeat (walk_at "lw w")
        refine q _ _ ?_ (Same.refl _)
        match ds, h3 with
        | [], _ => rfl
        | [_], _ => rfl
        | [_, _], _ => rfl
        | [_, _, _], h => exact absurd rfl h
        | _ :: _ :: _ :: _ :: _, _ => rfl
    all_goals
      (repeat (walk_at "lw w"))
      refine ⟨_, _, rfl, hd0, hf, hp, fun r H1 er S1 => ?_⟩
      exact q _ _ er S1
end

/-- a value nested at most n deep, its texts and lists short -/
def Val (K : PySem.W.Frag) (G : Hp) (n : Nat) (x : V) : Prop := ∃ d, Dp K G x d ∧ fine d = true ∧ PyData.depth d ≤ n
theorem Val.same {K : PySem.W.Frag} {G G' : Hp} {n : Nat} {x : V} (h : Val K G n x) (s : Same G G') : Val K G' n x := by
  obtain ⟨d, h1, h2, h3⟩ := h
  exact ⟨d, Dp.same s _ _ h1, h2, h3⟩
theorem Val.mono {K : PySem.W.Frag} {G : Hp} {n m : Nat} {x : V} (h : Val K G n x) (l : n ≤ m) : Val K G m x := by
  obtain ⟨d, h1, h2, h3⟩ := h
  exact ⟨d, h1, h2, Nat.le_trans h3 l⟩
theorem val_non {K : PySem.W.Frag} {G : Hp} {n : Nat} : Val K G n .non := ⟨.none, .non, rfl, Nat.zero_le _⟩
theorem val_bl {K : PySem.W.Frag} {G : Hp} {n : Nat} {b : Bool} : Val K G n (.bl b) := ⟨.bool b, .bl b, rfl, Nat.zero_le _⟩
theorem val_int {K : PySem.W.Frag} {G : Hp} {n : Nat} {i : Int} : Val K G n (.int i) := ⟨.int i, .int i, rfl, Nat.zero_le _⟩
theorem val_str {K : PySem.W.Frag} {G : Hp} {n : Nat} {z : Str} (h : fine (.str z) = true) : Val K G n (.str z) := ⟨.str z, .str z, h, Nat.zero_le _⟩
theorem vals_all {K : PySem.W.Frag} {G : Hp} {n : Nat} : ∀ {xs : List V}, (∀ x ∈ xs, Val K G n x) → ∃ ds, DpAll K G xs ds ∧ fineAll ds = true ∧ PyData.depthAll ds ≤ n
  | [], _ => ⟨[], .nil, rfl, Nat.zero_le _⟩
  | x :: r, h => by
    obtain ⟨ds, h1, h2, h3⟩ := vals_all fun y hy => h y (List.mem_cons_of_mem _ hy)
    obtain ⟨d, g1, g2, g3⟩ := h x List.mem_cons_self
    refine ⟨d :: ds, .cons g1 h1, ?_, ?_⟩
    · show (fine d && fineAll ds) = true
      rw [g2, h2]
      rfl
    · show max (PyData.depth d) (PyData.depthAll ds) ≤ n
      omega
theorem val_lst {K : PySem.W.Frag} {G : Hp} {n : Nat} {a : Addr} {xs : List V} (s : SqL K G a xs) (l : xs.length ≤ 1000) (h : ∀ x ∈ xs, Val K G n x) : Val K G (n + 1) (.ref a) := by
  obtain ⟨ds, h1, h2, h3⟩ := vals_all h
  refine ⟨.list ds, .lst s h1, ?_, ?_⟩
  · show (decide (ds.length ≤ 1000) && fineAll ds) = true
    rw [h2, decide_eq_true (show ds.length ≤ 1000 by rw [← DpAll.length h1]; exact l)]
    rfl
  · show PyData.depthAll ds + 1 ≤ n + 1
    omega
theorem val_tup {K : PySem.W.Frag} {G : Hp} {n : Nat} {a : Addr} {xs : List V} (s : SqT K G a xs) (l : xs.length ≤ 1000) (h : ∀ x ∈ xs, Val K G n x) : Val K G (n + 1) (.ref a) := by
  obtain ⟨ds, h1, h2, h3⟩ := vals_all h
  refine ⟨.tuple ds, .tup s h1, ?_, ?_⟩
  · show (decide (ds.length ≤ 1000) && fineAll ds) = true
    rw [h2, decide_eq_true (show ds.length ≤ 1000 by rw [← DpAll.length h1]; exact l)]
    rfl
  · show PyData.depthAll ds + 1 ≤ n + 1
    omega
theorem mem_cutV {xs : List V} {a b : Option Int} {x : V} (h : x ∈ cutV xs a b) : x ∈ xs := List.mem_of_mem_drop (List.mem_of_mem_take h)
theorem mem_rep {xs : List V} {k : Nat} {x : V} (h : x ∈ (List.replicate k xs).flatten) : x ∈ xs := by
  obtain ⟨ys, h1, h2⟩ := List.mem_flatten.mp h
  rw [List.eq_of_mem_replicate h1] at h2
  exact h2
theorem since_upd {H HF H' : Hp} {F : Addr} {o : HO} (d : Dom H HF) (hF : ∃ o, HF F = some o) : Same (since HF H') (since H (upd H' F o)) := fun q u h => by
  obtain ⟨h1, h2⟩ := since_some h
  have n : q ≠ F := fun e => by
    obtain ⟨o', e'⟩ := hF
    rw [e, e'] at h1
    cases h1
  exact since_of (d.free h1) (by rw [upd_ne n]; exact h2)

/-! ### a value that is nearly an answer -/
def sp_near (K : PySem.W.Frag) : Sp := fun vs H Q _ => ∃ (b : Addr) (m : Int), vs = [.ref b] ∧ Bag H b m ∧ m ≤ 500000000 ∧
  ∀ (v : V) (H' : Hp), Val K (since H H') 3 v → Bag H' b (m + 1000) → Keep b H H' → Q v H'
section
variable {P : Program} {w : World} {K : PySem.W.Frag} {mg : Str → Option Value} {base : Heap}
theorem ok_law_near (T : Txt K mg) : FnOk P w K mg base CX0 4 T.f_law_near T.fd_law_near ["bag"] (sp_near K) := by
  have G_law_take := ok_law_take (P := P) (w := w) (base := base) T
  have G_law_of := ok_law_of (P := P) (w := w) (base := base) T
  have G_law_class := ok_law_class (P := P) (w := w) (base := base) T
  refine T.F_law_near.ok sc_law_near (fun vs H Q E h => ?_) (fun cdv A outer s H vs Q E hr h => ?_)
  · obtain ⟨b, m, rfl, _⟩ := h
    rfl
  · obtain ⟨b, m, rfl, hb, hm, q⟩ := h
    refine ⟨_, (pss_cons (ps_if (pt_cmpR op_eq (pe_call G_law_take (hr.mono (by omega)) (by rfl) T.g_law_take T.F_law_take.kp T.b_law_take .nil pass0 (pa_cons (pv 0) (pa_cons pe_int pa_nil))) pe_int (nomark _)) (pss_cons (ps_setLc (i := 1) (own := [("turn", 4)]) (g := gName 4) rfl sc_law_near.nd rfl rfl (sw_true rfl rfl rfl (by decide +kernel)) (pi_range1 (by rfl) T.m_range (pa_cons (pe_call G_law_take (hr.mono (by omega)) (by rfl) T.g_law_take T.F_law_take.kp T.b_law_take .nil pass0 (pa_cons (pv 0) (pa_cons pe_int pa_nil))) pa_nil)) (blkOk_by (own := [("turn", 4)]) (N := ["bag", "found", "wrong", "way", "turn"]) (sc := defScope s_law_near) (by decide +kernel)) (fun _ _ _ _ _ => pg_name (i := 4) sc_law_near.nd rfl (.inl rfl)) (fun _ _ _ _ _ => pts_nil) (fun _ _ _ _ _ => (pe_call G_law_of (hr.mono (by omega)) (by rfl) T.g_law_of T.F_law_of.kp T.b_law_of .nil pass0 (pa_cons (pv 0) (pa_cons (pe_lst (pa_cons pe_non (pa_cons pe_int (pa_cons (pe_un un_neg pe_int) (pa_cons (pe_op op_pow pe_int pe_int) (pa_cons pe_str (pa_cons pe_str pa_nil))))))) pa_nil)))))
        (pss_cons (ps_set (i := 2) sc_law_near.nd rfl (.inl rfl) (pe_call G_law_of (hr.mono (by omega)) (by rfl) T.g_law_of T.F_law_of.kp T.b_law_of .nil pass0 (pa_cons (pv 0) (pa_cons (pe_lst (pa_cons pe_bl (pa_cons pe_str (pa_cons (pe_lst (pa_cons pe_int pa_nil)) (pa_cons (pe_tup pa_nil) (pa_cons (pe_tup (pa_cons pe_str (pa_cons pe_str (pa_cons pe_non pa_nil)))) (pa_cons (pe_op op_mul_str pe_str pe_int) (pa_cons (pe_op op_mul_str pe_str pe_int) (pa_cons (pe_un un_neg pe_int) (pa_cons pe_str (pa_cons pe_str pa_nil))))))))))) pa_nil))))
        (pss_one (ps_ret (pe_op op_cat (pe_op op_cat (pe_slice sl_list (pv 1) po_none (po_some pe_int)) (pe_op op_rep (pe_lst (pa_cons (pv 2) pa_nil)) (pe_call G_law_take (hr.mono (by omega)) (by rfl) T.g_law_take T.F_law_take.kp T.b_law_take .nil pass0 (pa_cons (pv 0) (pa_cons pe_int pa_nil))))) (pe_slice sl_list (pv 1) (po_some pe_int) po_none)))))) pss_nil)
        (pss_cons (ps_set (i := 1) sc_law_near.nd rfl (.inl rfl) (pe_lst (pa_cons pe_str (pa_cons (pe_call G_law_class hr (by rfl) T.g_law_class T.F_law_class.kp T.b_law_class .nil pass0 (pa_cons (pv 0) pa_nil)) (pa_cons (pe_call G_law_of (hr.mono (by omega)) (by rfl) T.g_law_of T.F_law_of.kp T.b_law_of .nil pass0 (pa_cons (pv 0) (pa_cons (pe_lst (pa_cons pe_non (pa_cons (pe_call G_law_class hr (by rfl) T.g_law_class T.F_law_class.kp T.b_law_class .nil pass0 (pa_cons (pv 0) pa_nil)) (pa_cons pe_str pa_nil)))) pa_nil))) pa_nil)))))
        (pss_cons (ps_set (i := 3) sc_law_near.nd rfl (.inl rfl) (pe_call G_law_take (hr.mono (by omega)) (by rfl) T.g_law_take T.F_law_take.kp T.b_law_take .nil pass0 (pa_cons (pv 0) (pa_cons pe_int pa_nil))))
        (pss_cons (ps_if (pt_cmpR op_eq (pv 3) pe_int (nomark _)) (pss_one (ps_asg (pe_call G_law_of (hr.mono (by omega)) (by rfl) T.g_law_of T.F_law_of.kp T.b_law_of .nil pass0 (pa_cons (pv 0) (pa_cons (pe_lst (pa_cons pe_str (pa_cons pe_str (pa_cons pe_non (pa_cons pe_int (pa_cons pe_str (pa_cons pe_bl pa_nil))))))) pa_nil))) (pg_sub (pv 1) pe_int set_list))) pss_nil)
        (pss_cons (ps_if (pt_cmpR op_eq (pv 3) pe_int (nomark _)) (pss_one (ps_asg (pe_call G_law_of (hr.mono (by omega)) (by rfl) T.g_law_of T.F_law_of.kp T.b_law_of .nil pass0 (pa_cons (pv 0) (pa_cons (pe_lst (pa_cons pe_non (pa_cons pe_str (pa_cons pe_str (pa_cons pe_str (pa_cons pe_bl (pa_cons (pe_op op_add_str pe_str (pe_op op_mul_str pe_str pe_int)) (pa_cons (pe_op op_add_str pe_str (pe_op op_mul_str pe_str pe_int)) (pa_cons (pe_lst (pa_cons pe_str pa_nil)) pa_nil))))))))) pa_nil))) (pg_sub (pv 1) pe_int set_list))) pss_nil)
        (pss_cons (ps_if (pt_cmpR op_eq (pv 3) pe_int (nomark _)) (pss_one (ps_asg (pe_call G_law_of (hr.mono (by omega)) (by rfl) T.g_law_of T.F_law_of.kp T.b_law_of .nil pass0 (pa_cons (pv 0) (pa_cons (pe_lst (pa_cons pe_str (pa_cons pe_str (pa_cons pe_str (pa_cons pe_bl (pa_cons pe_int (pa_cons (pe_op op_add_str pe_str (pe_op op_mul_str pe_str pe_int)) (pa_cons (pe_op op_add_str pe_str (pe_op op_mul_str pe_str pe_int)) (pa_cons (pe_tup (pa_cons pe_str pa_nil)) pa_nil))))))))) pa_nil))) (pg_sub (pv 1) pe_int set_list))) pss_nil)
        (pss_cons (ps_if (pt_cmpR op_eq (pv 3) pe_int (nomark _)) (pss_one (ps_set (i := 1) sc_law_near.nd rfl (.inl rfl) (pe_slice sl_list (pv 1) po_none (po_some (pe_call G_law_take (hr.mono (by omega)) (by rfl) T.g_law_take T.F_law_take.kp T.b_law_take .nil pass0 (pa_cons (pv 0) (pa_cons pe_int pa_nil))))))) pss_nil)
        (pss_cons (ps_if (pt_cmpR op_eq (pv 3) pe_int (nomark _)) (pss_one (ps_expr (pe_bm PySem.F.plainAttrs_list PySem.F.slot_list_append PySem.F.type_list_append mt_append (pv 1) (pa_cons (pe_call G_law_of (hr.mono (by omega)) (by rfl) T.g_law_of T.F_law_of.kp T.b_law_of .nil pass0 (pa_cons (pv 0) (pa_cons (pe_lst (pa_cons pe_non (pa_cons pe_str pa_nil))) pa_nil))) pa_nil)))) pss_nil)
        (pss_one (ps_ret (pe_ifExp (pt_cmpR op_eq (pv 3) pe_int (nomark _)) (pv 1) (pe_callTy call_tuple_of (by rfl) T.m_tuple (by decide +kernel) (pa_cons (pv 1) pa_nil))))))))))))), ?_⟩
    repeat (walk_at "lw w")
    refine ⟨b, _, _, rfl, hb, by omega, by omega, by omega, fun d0 H1 y0 y1 hB1 hK1 => ?_⟩
    have domH1 : Dom H H1 := hK1.dom hB1.has
    repeat (walk_at "lw w")
    refine ite2 (fun z => ?_) (fun z => ?_)
    · clear z
      repeat (walk_at "lw w")
      refine ⟨b, _, _, rfl, hB1, by omega, by omega, by omega, fun k H2 k0 k1 hB2 hK2 => ?_⟩
      repeat (walk_at "lw w")
      refine ⟨by omega, by omega, fun D nD => ?_⟩
      have nbD : b ≠ D := hB2.ne nD
      have domH2 : Dom H H2 := domH1.trans (hK2.dom hB2.has)
      refine lc_range (lo := 0) (n := k.toNat) (fun i H' => ∃ xs : List V, H' D = some (.lst xs) ∧ xs.length = i ∧ (∀ x ∈ xs, ∀ G, Val K G 0 x) ∧ Bag H' b (m + 2 + i) ∧ Keep b H2 H') ?_ ?_ ?_
      · exact ⟨[], upd_same, rfl, fun _ h => (nomatch h), (hB2.new nD).mono (by omega), Keep.new nD⟩
      · rintro i H' hi ⟨xs, eD, el, hv, hB, hK⟩
        refine ⟨rfl, ?_⟩
        repeat (walk_at "lw w")
        refine ⟨by walk_at "lw n", fun l nl => ?_⟩
        refine ⟨b, _, _, rfl, hB.new nl, by omega, .inl ⟨l, _, rfl, (hB.ne nl).symm, upd_same, by simp, by simp, fun v H3 hm3 hB3 hK3 => ?_⟩⟩
        have fv : ∀ G, Val K G 0 v := by
          intro G
          simp only [List.mem_cons, List.not_mem_nil, or_false] at hm3
          rcases hm3 with rfl | rfl | rfl | rfl | rfl | rfl
          · exact val_non
          · exact val_int
          · exact val_int
          · exact val_int
          · exact val_str (by decide +kernel)
          · exact val_str (by decide +kernel)
        refine ⟨_, hK3 _ _ nbD.symm (same_new nl _ _ eD), small1000 (by omega), xs ++ [v], upd_same, ?_, ?_, (hB3.upd nbD).mono (by omega), ?_⟩
        · rw [List.length_append, el]
          rfl
        · intro x hx
          rcases List.mem_append.mp hx with h | h
          · exact hv x h
          · rw [List.mem_singleton.mp h]
            exact fv
        · intro q' o nq e
          rw [upd_ne (ne_of_none e nD)]
          exact hK3 _ _ nq (same_new nl _ _ (hK _ _ nq e))
      · rintro H3 ⟨xs, eD, el, hv, hB3, hK3⟩
        have domH3 : Dom H H3 := domH2.trans (hK3.dom hB3.has)
        have K3 : Keep b H H3 := (hK1.trans hK2).trans hK3
        repeat (walk_at "lw w")
        refine ⟨by walk_at "lw n", fun l1 nl1 => ?_⟩
        have nb1 := hB3.ne nl1
        have e1 : upd H3 l1 (.lst [.int 1]) l1 = some (.lst [.int 1]) := upd_same
        have S1 : Same H3 (upd H3 l1 (.lst [.int 1])) := same_new nl1
        have B1 := hB3.new (o := .lst [.int 1]) nl1
        generalize upd H3 l1 (.lst [.int 1]) = Ha at *
        repeat (walk_at "lw w")
        refine ⟨by walk_at "lw n", fun l2 nl2 => ?_⟩
        have nb2 := B1.ne nl2
        have e2 : upd Ha l2 (.tup []) l2 = some (.tup []) := upd_same
        have S2 : Same Ha (upd Ha l2 (.tup [])) := same_new nl2
        have B2 := B1.new (o := .tup []) nl2
        generalize upd Ha l2 (.tup []) = Hb at *
        repeat (walk_at "lw w")
        refine ⟨by walk_at "lw n", fun l3 nl3 => ?_⟩
        have nb3 := B2.ne nl3
        have e3 : upd Hb l3 (.tup [.str (Str.ofString "raises"), .str (Str.ofString "Error"), .non]) l3 = some (.tup [.str (Str.ofString "raises"), .str (Str.ofString "Error"), .non]) := upd_same
        have S3 : Same Hb (upd Hb l3 (.tup [.str (Str.ofString "raises"), .str (Str.ofString "Error"), .non])) := same_new nl3
        have B3 := B2.new (o := .tup [.str (Str.ofString "raises"), .str (Str.ofString "Error"), .non]) nl3
        generalize upd Hb l3 (.tup [.str (Str.ofString "raises"), .str (Str.ofString "Error"), .non]) = Hc at *
        repeat (walk_at "lw w")
        refine ⟨⟨by decide +kernel, fun _ _ => by decide +kernel, fun _ _ => by decide +kernel⟩, ?_⟩
        repeat (walk_at "lw w")
        refine ⟨⟨by decide +kernel, fun _ _ => by decide +kernel, fun _ _ => by decide +kernel⟩, ?_⟩
        repeat (walk_at "lw w")
        refine ⟨by walk_at "lw n", fun L nL => ?_⟩
        refine ⟨b, _, _, rfl, B3.new nL, by omega, .inl ⟨L, _, rfl, (B3.ne nL).symm, upd_same, by simp, by simp, fun v H4 hv4 B4 K4 => ?_⟩⟩
        have n1 : H l1 = none := domH3.free nl1
        have n2 : H l2 = none := domH3.free ((Same.dom S1).free nl2)
        have n3 : H l3 = none := domH3.free ((Same.dom S1).free ((Same.dom S2).free nl3))
        have S4 : ∀ o : HO, Same Hc (upd Hc L o) := fun o => same_new nL
        have fv : Val K (since H H4) 1 v := by
          have f1 := since_of n1 (K4 _ _ nb1.symm (S4 _ _ _ (S3 _ _ (S2 _ _ e1))))
          have f2 := since_of n2 (K4 _ _ nb2.symm (S4 _ _ _ (S3 _ _ e2)))
          have f3 := since_of n3 (K4 _ _ nb3.symm (S4 _ _ _ e3))
          simp only [List.mem_cons, List.not_mem_nil, or_false] at hv4
          rcases hv4 with rfl | rfl | rfl | rfl | rfl | rfl | rfl | rfl | rfl | rfl
          · exact val_bl
          · exact val_str (by decide +kernel)
          · exact val_lst (SqL.of f1) (by simp) fun x hx => by rw [List.mem_singleton.mp hx]; exact val_int
          · exact val_tup (SqT.of f2) (by simp) fun x hx => nomatch hx
          · refine val_tup (SqT.of f3) (by simp) fun x hx => ?_
            simp only [List.mem_cons, List.not_mem_nil, or_false] at hx
            rcases hx with rfl | rfl | rfl
            · exact val_str (by decide +kernel)
            · exact val_str (by decide +kernel)
            · exact val_non
          · exact val_str (by decide +kernel)
          · exact val_str (by decide +kernel)
          · exact val_int
          · exact val_str (by decide +kernel)
          · exact val_str (by decide +kernel)
        have S03 : Same H3 Hc := (S1.trans S2).trans S3
        have eD4 : H4 D = some (.lst xs) := K4 _ _ nbD.symm (S4 _ _ _ (S03 _ _ eD))
        have KK4 : Keep b H H4 := fun q' o nq e => K4 _ _ nq (S4 _ _ _ (S03 _ _ (K3 _ _ nq e)))
        have dom4 : Dom H H4 := KK4.dom B4.has
        have B4' : Bag H4 b (m + 20) := B4.mono (by omega)
        clear hv4 B1 B2 B3 S1 S2 S3 S4 nL e1 e2 e3 nl1 nl2 nl3 nb1 nb2 nb3 n1 n2 n3 S03 K4 B4
        repeat (walk_at "lw w")
        refine ⟨D, xs, rfl, SqL.of eD4, fun p1 np1 => ?_⟩
        have m1 : ∀ x ∈ cutV xs none (some 1), ∀ G, Val K G 0 x := fun x hx => hv x (mem_cutV hx)
        have l1 : (cutV xs none (some 1)).length ≤ 10 := Nat.le_trans (cutV_length _ _ _) (by omega)
        generalize cutV xs none (some 1) = A1 at *
        have B5 := B4'.new (o := .lst A1) np1
        have e5 : upd H4 p1 (.lst A1) p1 = some (.lst A1) := upd_same
        have S5 : Same H4 (upd H4 p1 (.lst A1)) := same_new np1
        have n5 : H p1 = none := dom4.free np1
        have nb5 := B4'.ne np1
        generalize upd H4 p1 (.lst A1) = H5 at *
        repeat (walk_at "lw w")
        refine ⟨by walk_at "lw n", fun p2 np2 => ?_⟩
        have B6 := B5.new (o := .lst [v]) np2
        have e6 : upd H5 p2 (.lst [v]) p2 = some (.lst [v]) := upd_same
        have S6 : Same H5 (upd H5 p2 (.lst [v])) := same_new np2
        have nb6 := B5.ne np2
        generalize upd H5 p2 (.lst [v]) = H6 at *
        repeat (walk_at "lw w")
        refine ⟨b, _, _, rfl, B6, by omega, by omega, by omega, fun j H7 j0 j1 B7 K7 => ?_⟩
        have e7 := K7 _ _ nb6.symm e6
        repeat (walk_at "lw w")
        refine ⟨p2, j, [v], rfl, rfl, e7, by omega, by omega, ?_, fun p3 np3 => ?_⟩
        · have := PySem.sizeLine_eq
          show 1 * j.toNat ≤ _
          omega
        have m3 : ∀ x ∈ (List.replicate j.toNat [v]).flatten, x = v := fun x hx => List.mem_singleton.mp (mem_rep hx)
        have l3 : (List.replicate j.toNat [v]).flatten.length ≤ 2 := by
          rw [List.length_flatten, List.map_replicate, List.sum_replicate_nat]
          show j.toNat * 1 ≤ 2
          omega
        generalize (List.replicate j.toNat [v]).flatten = A3 at *
        have B8 := B7.new (o := .lst A3) np3
        have e8 : upd H7 p3 (.lst A3) p3 = some (.lst A3) := upd_same
        have S8 : Same H7 (upd H7 p3 (.lst A3)) := same_new np3
        generalize upd H7 p3 (.lst A3) = H8 at *
        have g8 : ∀ q' o, q' ≠ b → H4 q' = some o → H8 q' = some o := fun q' o n e => S8 _ _ (K7 _ _ n (S6 _ _ (S5 _ _ e)))
        have e58 : H8 p1 = some (.lst A1) := S8 _ _ (K7 _ _ nb5.symm (S6 _ _ e5))
        have eD8 := g8 _ _ nbD.symm eD4
        repeat (walk_at "lw w")
        refine ⟨p1, p3, A1, A3, rfl, rfl, e58, e8, ?_, fun p4 np4 => ?_⟩
        · have := PySem.sizeLine_eq
          omega
        have B9 := B8.new (o := .lst (A1 ++ A3)) np4
        have e9 : upd H8 p4 (.lst (A1 ++ A3)) p4 = some (.lst (A1 ++ A3)) := upd_same
        have S9 : Same H8 (upd H8 p4 (.lst (A1 ++ A3))) := same_new np4
        generalize upd H8 p4 (.lst (A1 ++ A3)) = H9 at *
        repeat (walk_at "lw w")
        refine ⟨D, xs, rfl, SqL.of (S9 _ _ eD8), fun p5 np5 => ?_⟩
        have m2 : ∀ x ∈ cutV xs (some 1) none, ∀ G, Val K G 0 x := fun x hx => hv x (mem_cutV hx)
        have l2 : (cutV xs (some 1) none).length ≤ 10 := Nat.le_trans (cutV_length _ _ _) (by omega)
        generalize cutV xs (some 1) none = A2 at *
        have B10 := B9.new (o := .lst A2) np5
        have e10 : upd H9 p5 (.lst A2) p5 = some (.lst A2) := upd_same
        have S10 : Same H9 (upd H9 p5 (.lst A2)) := same_new np5
        generalize upd H9 p5 (.lst A2) = H10 at *
        repeat (walk_at "lw w")
        refine ⟨p4, p5, A1 ++ A3, A2, rfl, rfl, S10 _ _ e9, e10, ?_, fun p6 np6 => ?_⟩
        · have := PySem.sizeLine_eq
          rw [List.length_append]
          omega
        have B11 := B10.new (o := .lst (A1 ++ A3 ++ A2)) np6
        have g11 : ∀ q' o, q' ≠ b → H4 q' = some o → upd H10 p6 (.lst (A1 ++ A3 ++ A2)) q' = some o := fun q' o n e => same_new np6 _ _ (S10 _ _ (S9 _ _ (g8 _ _ n e)))
        have n6 : H p6 = none := by
          cases e : H p6 with
          | none => rfl
          | some o =>
            exfalso
            by_cases n : p6 = b
            · obtain ⟨x1, x2, x3, eb, _⟩ := B10
              rw [n, eb] at np6
              cases np6
            · have := S10 _ _ (S9 _ _ (g8 _ _ n (KK4 _ _ n e)))
              rw [np6] at this
              cases this
        refine q (.ref p6) _ ?_ (B11.mono (by omega)) (fun q' o n e => g11 _ _ n (KK4 _ _ n e))
        refine Val.mono (val_lst (n := 1) (SqL.of (since_of n6 upd_same)) ?_ fun x hx => ?_) (by decide)
        · rw [List.length_append, List.length_append]
          omega
        · rcases List.mem_append.mp hx with h | h
          · rcases List.mem_append.mp h with h | h
            · exact (m1 x h _).mono (by decide)
            · rw [m3 x h]
              exact fv.same (since_mono (Dom.refl _) hb.has fun q' o n e => g11 _ _ n e)
          · exact (m2 x h _).mono (by decide)
    · clear z
      repeat (walk_at "lw w")
      refine ⟨b, _, rfl, hB1, by omega, fun c1 H2 hc1 B2 K2 => ?_⟩
      repeat (walk_at "lw w")
      refine ⟨b, _, rfl, B2, by omega, fun c2 H3 hc2 B3 K3 => ?_⟩
      repeat (walk_at "lw w")
      refine ⟨by walk_at "lw n", fun l nl => ?_⟩
      refine ⟨b, _, _, rfl, B3.new nl, by omega, .inl ⟨l, _, rfl, (B3.ne nl).symm, upd_same, by simp, by simp, fun v3 H4 hv3 B4 K4 => ?_⟩⟩
      have hs1 := strOk_class hc1
      have hs2 := strOk_class hc2
      have v1 : ∀ G, Val K G 0 (.str c1) := fun G => val_str (fine_str hs1.1 hs1.2)
      have v3' : ∀ G, Val K G 0 v3 := fun G => by
        simp only [List.mem_cons, List.not_mem_nil, or_false] at hv3
        rcases hv3 with rfl | rfl | rfl
        · exact val_non
        · exact val_str (fine_str hs2.1 hs2.2)
        · exact val_str (by decide +kernel)
      have KK4 : Keep b H H4 := ((hK1.trans K2).trans K3).trans ((Keep.new nl).trans K4)
      have dom4 : Dom H H4 := KK4.dom B4.has
      have B4' : Bag H4 b (m + 100) := B4.mono (by omega)
      clear hv3 hs1 hs2 hc1 hc2 nl K4 B4 K3 B3 K2 B2
      repeat (walk_at "lw w")
      refine ⟨by walk_at "lw n", fun F nF => ?_⟩
      have nbF := B4'.ne nF
      have hF : H F = none := dom4.free nF
      have BF := B4'.new (o := .lst [.str (Str.ofString "raises"), .str c1, v3]) nF
      have eF : upd H4 F (.lst [.str (Str.ofString "raises"), .str c1, v3]) F = some (.lst [.str (Str.ofString "raises"), .str c1, v3]) := upd_same
      have KF : Keep b H (upd H4 F (.lst [.str (Str.ofString "raises"), .str c1, v3])) := KK4.trans (Keep.new nF)
      have hm3 : ∀ x ∈ [.str (Str.ofString "raises"), .str c1, v3], ∀ G, Val K G 0 x := fun x hx G => by
        simp only [List.mem_cons, List.not_mem_nil, or_false] at hx
        rcases hx with rfl | rfl | rfl
        · exact val_str (by decide +kernel)
        · exact v1 G
        · exact v3' G
      generalize upd H4 F (.lst [.str (Str.ofString "raises"), .str c1, v3]) = HF at *
      have domF : Dom H HF := KF.dom BF.has
      have hasF : ∃ o, HF F = some o := ⟨_, eF⟩
      repeat (walk_at "lw w")
      refine ⟨b, _, _, rfl, BF, by omega, by omega, by omega, fun way H5 w0 w1 B5 K5 => ?_⟩
      have eF5 := K5 _ _ nbF.symm eF
      have KK5 : Keep b H H5 := KF.trans K5
      have dom5 : Dom HF H5 := K5.dom B5.has
      have B5' : Bag H5 b (m + 200) := B5.mono (by omega)
      clear B5 K5 BF KF KK4 dom4 B4' nF eF
      -- how it ends
      have fin : ∀ (F' : Addr) (xs : List V) (H' : Hp), H F' = none → H' F' = some (.lst xs) → xs.length ≤ 4 → (∀ x ∈ xs, Val K (since H H') 1 x) → Bag H' b (m + 500) → Keep b H H' →
          Q (.ref F') H' ∧ ∀ l, H' l = none → Q (.ref l) (upd H' l (.tup xs)) := by
        intro F' xs H' n' e' l' m' B' K'
        have d' : Dom H H' := K'.dom B'.has
        refine ⟨q _ _ ((val_lst (SqL.of (since_of n' e')) (by omega) m').mono (by decide)) (B'.mono (by omega)) K', fun l hl => ?_⟩
        refine q _ _ ((val_tup (SqT.of (since_of (d'.free hl) upd_same)) (by omega) fun x hx => (m' x hx).same (since_mono0 (Dom.refl _) (same_new hl))).mono (by decide)) ((B'.new hl).mono (by omega)) (K'.trans (Keep.new hl))
      have hw : way = 0 ∨ way = 1 ∨ way = 2 ∨ way = 3 ∨ way = 4 ∨ way = 5 ∨ way = 6 ∨ way = 7 ∨ way = 8 := by omega
      rcases hw with rfl | rfl | rfl | rfl | rfl | rfl | rfl | rfl | rfl
      · repeat (walk_at "lw w")
        refine ⟨by walk_at "lw n", fun L nL => ?_⟩
        refine ⟨b, _, _, rfl, B5'.new nL, by omega, .inl ⟨L, _, rfl, (B5'.ne nL).symm, upd_same, by simp, by simp, fun v H7 hv7 B7 K7 => ?_⟩⟩
        have S7 : ∀ o : HO, Same H5 (upd H5 L o) := fun o => same_new nL
        have g7 : ∀ q' o, q' ≠ b → H5 q' = some o → H7 q' = some o := fun q' o n e => K7 _ _ n (S7 _ _ _ e)
        have eF7 := g7 _ _ nbF.symm eF5
        have fv : ∀ G, Val K G 0 v := fun G => by
          simp only [List.mem_cons, List.not_mem_nil, or_false] at hv7
          rcases hv7 with rfl | rfl | rfl | rfl | rfl | rfl
          · exact val_str (by decide +kernel)
          · exact val_str (by decide +kernel)
          · exact val_non
          · exact val_int
          · exact val_str (by decide +kernel)
          · exact val_bl
        repeat (walk_at "lw w")
        refine ⟨_, _, rfl, .inl ⟨SqL.of upd_same, (fin F _ _ hF upd_same (by simp) (fun x hx => ?_) ((B7.upd nbF).mono (by omega)) (fun q' o n e => ?_)).2⟩⟩
        · rcases List.mem_or_eq_of_mem_set hx with h | h
          · exact (hm3 x h _).mono (by decide)
          · rw [h]
            exact (fv _).mono (by decide)
        · rw [upd_ne (ne_of_none e hF)]
          exact g7 _ _ n (KK5 _ _ n e)
      · repeat (walk_at "lw w")
        refine ⟨⟨by decide +kernel, fun _ _ => by decide +kernel, fun _ _ => by decide +kernel⟩, ?_⟩
        repeat (walk_at "lw w")
        refine ⟨by decide +kernel, ?_⟩
        repeat (walk_at "lw w")
        refine ⟨⟨by decide +kernel, fun _ _ => by decide +kernel, fun _ _ => by decide +kernel⟩, ?_⟩
        repeat (walk_at "lw w")
        refine ⟨by decide +kernel, ?_⟩
        repeat (walk_at "lw w")
        refine ⟨by walk_at "lw n", fun l1 nl1 => ?_⟩
        have B6 := B5'.new (o := .lst [.str (Str.ofString "Error")]) nl1
        have S6 : Same H5 (upd H5 l1 (.lst [.str (Str.ofString "Error")])) := same_new nl1
        have e6 : upd H5 l1 (.lst [.str (Str.ofString "Error")]) l1 = some (.lst [.str (Str.ofString "Error")]) := upd_same
        have nb6 := B5'.ne nl1
        generalize upd H5 l1 (.lst [.str (Str.ofString "Error")]) = H6 at *
        repeat (walk_at "lw w")
        refine ⟨by walk_at "lw n", fun L nL => ?_⟩
        refine ⟨b, _, _, rfl, B6.new nL, by omega, .inl ⟨L, _, rfl, (B6.ne nL).symm, upd_same, by simp, by simp, fun v H7 hv7 B7 K7 => ?_⟩⟩
        have S7 : ∀ o : HO, Same H6 (upd H6 L o) := fun o => same_new nL
        have g7 : ∀ q' o, q' ≠ b → H5 q' = some o → H7 q' = some o := fun q' o n e => K7 _ _ n (S7 _ _ _ (S6 _ _ e))
        have eF7 := g7 _ _ nbF.symm eF5
        have fv : Val K (since HF H7) 1 v := by
          simp only [List.mem_cons, List.not_mem_nil, or_false] at hv7
          rcases hv7 with rfl | rfl | rfl | rfl | rfl | rfl | rfl | rfl
          · exact val_non
          · exact val_str (by decide +kernel)
          · exact val_str (by decide +kernel)
          · exact val_str (by decide +kernel)
          · exact val_bl
          · exact val_str (by decide +kernel)
          · exact val_str (by decide +kernel)
          · exact val_lst (SqL.of (since_of (dom5.free nl1) (K7 _ _ nb6.symm (S7 _ _ _ e6)))) (by simp) fun x hx => by rw [List.mem_singleton.mp hx]; exact val_str (by decide +kernel)
        repeat (walk_at "lw w")
        refine ⟨_, _, rfl, .inl ⟨SqL.of upd_same, (fin F _ _ hF upd_same (by simp) (fun x hx => ?_) ((B7.upd nbF).mono (by omega)) (fun q' o n e => ?_)).2⟩⟩
        · rcases List.mem_or_eq_of_mem_set hx with h | h
          · exact (hm3 x h _).mono (by decide)
          · rw [h]
            exact fv.same (since_upd domF hasF)
        · rw [upd_ne (ne_of_none e hF)]
          exact g7 _ _ n (KK5 _ _ n e)
      · repeat (walk_at "lw w")
        refine ⟨⟨by decide +kernel, fun _ _ => by decide +kernel, fun _ _ => by decide +kernel⟩, ?_⟩
        repeat (walk_at "lw w")
        refine ⟨by decide +kernel, ?_⟩
        repeat (walk_at "lw w")
        refine ⟨⟨by decide +kernel, fun _ _ => by decide +kernel, fun _ _ => by decide +kernel⟩, ?_⟩
        repeat (walk_at "lw w")
        refine ⟨by decide +kernel, ?_⟩
        repeat (walk_at "lw w")
        refine ⟨by walk_at "lw n", fun l1 nl1 => ?_⟩
        have B6 := B5'.new (o := .tup [.str (Str.ofString "Error")]) nl1
        have S6 : Same H5 (upd H5 l1 (.tup [.str (Str.ofString "Error")])) := same_new nl1
        have e6 : upd H5 l1 (.tup [.str (Str.ofString "Error")]) l1 = some (.tup [.str (Str.ofString "Error")]) := upd_same
        have nb6 := B5'.ne nl1
        generalize upd H5 l1 (.tup [.str (Str.ofString "Error")]) = H6 at *
        repeat (walk_at "lw w")
        refine ⟨by walk_at "lw n", fun L nL => ?_⟩
        refine ⟨b, _, _, rfl, B6.new nL, by omega, .inl ⟨L, _, rfl, (B6.ne nL).symm, upd_same, by simp, by simp, fun v H7 hv7 B7 K7 => ?_⟩⟩
        have S7 : ∀ o : HO, Same H6 (upd H6 L o) := fun o => same_new nL
        have g7 : ∀ q' o, q' ≠ b → H5 q' = some o → H7 q' = some o := fun q' o n e => K7 _ _ n (S7 _ _ _ (S6 _ _ e))
        have eF7 := g7 _ _ nbF.symm eF5
        have fv : Val K (since HF H7) 1 v := by
          simp only [List.mem_cons, List.not_mem_nil, or_false] at hv7
          rcases hv7 with rfl | rfl | rfl | rfl | rfl | rfl | rfl | rfl
          · exact val_str (by decide +kernel)
          · exact val_str (by decide +kernel)
          · exact val_str (by decide +kernel)
          · exact val_bl
          · exact val_int
          · exact val_str (by decide +kernel)
          · exact val_str (by decide +kernel)
          · exact val_tup (SqT.of (since_of (dom5.free nl1) (K7 _ _ nb6.symm (S7 _ _ _ e6)))) (by simp) fun x hx => by rw [List.mem_singleton.mp hx]; exact val_str (by decide +kernel)
        repeat (walk_at "lw w")
        refine ⟨_, _, rfl, .inl ⟨SqL.of upd_same, (fin F _ _ hF upd_same (by simp) (fun x hx => ?_) ((B7.upd nbF).mono (by omega)) (fun q' o n e => ?_)).2⟩⟩
        · rcases List.mem_or_eq_of_mem_set hx with h | h
          · exact (hm3 x h _).mono (by decide)
          · rw [h]
            exact fv.same (since_upd domF hasF)
        · rw [upd_ne (ne_of_none e hF)]
          exact g7 _ _ n (KK5 _ _ n e)
      · repeat (walk_at "lw w")
        refine ⟨b, _, _, rfl, B5', by omega, by omega, by omega, fun j H7 j0 j1 B7 K7 => ?_⟩
        have eF7 := K7 _ _ nbF.symm eF5
        repeat (walk_at "lw w")
        refine ⟨F, _, rfl, SqL.of eF7, fun p np => ?_⟩
        have KK7 := KK5.trans K7
        repeat (walk_at "lw w")
        refine ⟨_, _, rfl, .inl ⟨SqL.of upd_same, (fin p _ _ ((KK7.dom B7.has).free np) upd_same (Nat.le_trans (cutV_length _ _ _) (by simp)) (fun x hx => (hm3 x (mem_cutV hx) _).mono (by decide)) ((B7.new np).mono (by omega)) (KK7.trans (Keep.new np))).2⟩⟩
      · repeat (walk_at "lw w")
        refine ⟨.inl ⟨rfl, _, SqL.of eF5⟩, ?_⟩
        repeat (walk_at "lw w")
        refine ⟨by walk_at "lw n", fun L nL => ?_⟩
        refine ⟨b, _, _, rfl, B5'.new nL, by omega, .inl ⟨L, _, rfl, (B5'.ne nL).symm, upd_same, by simp, by simp, fun v H7 hv7 B7 K7 => ?_⟩⟩
        have S7 : ∀ o : HO, Same H5 (upd H5 L o) := fun o => same_new nL
        have g7 : ∀ q' o, q' ≠ b → H5 q' = some o → H7 q' = some o := fun q' o n e => K7 _ _ n (S7 _ _ _ e)
        have eF7 := g7 _ _ nbF.symm eF5
        have fv : ∀ G, Val K G 0 v := fun G => by
          simp only [List.mem_cons, List.not_mem_nil, or_false] at hv7
          rcases hv7 with rfl | rfl
          · exact val_non
          · exact val_str (by decide +kernel)
        refine ⟨_, _, _, rfl, rfl, eF7, small1000 (by simp), ?_⟩
        repeat (walk_at "lw w")
        refine ⟨_, _, rfl, .inl ⟨SqL.of upd_same, (fin F _ _ hF upd_same (by simp) (fun x hx => ?_) ((B7.upd nbF).mono (by omega)) (fun q' o n e => ?_)).2⟩⟩
        · rcases List.mem_append.mp hx with h | h
          · exact (hm3 x h _).mono (by decide)
          · rw [List.mem_singleton.mp h]
            exact (fv _).mono (by decide)
        · rw [upd_ne (ne_of_none e hF)]
          exact g7 _ _ n (KK5 _ _ n e)
      · repeat (walk_at "lw w")
        exact (fin F _ H5 hF eF5 (by simp) (fun x hx => (hm3 x hx _).mono (by decide)) (B5'.mono (by omega)) KK5).1
      · repeat (walk_at "lw w")
        exact ⟨_, _, rfl, .inl ⟨SqL.of eF5, (fin F _ H5 hF eF5 (by simp) (fun x hx => (hm3 x hx _).mono (by decide)) (B5'.mono (by omega)) KK5).2⟩⟩
      · repeat (walk_at "lw w")
        exact ⟨_, _, rfl, .inl ⟨SqL.of eF5, (fin F _ H5 hF eF5 (by simp) (fun x hx => (hm3 x hx _).mono (by decide)) (B5'.mono (by omega)) KK5).2⟩⟩
      · repeat (walk_at "lw w")
        exact ⟨_, _, rfl, .inl ⟨SqL.of eF5, (fin F _ H5 hF eF5 (by simp) (fun x hx => (hm3 x hx _).mono (by decide)) (B5'.mono (by omega)) KK5).2⟩⟩
end

theorem keep_same {b : Addr} {H H1 H2 : Hp} (s : Same H H1) (nb : H b = none) (k : Keep b H1 H2) : Same H H2 := fun q o e => k q o (ne_of_none e nb) (s q o e)
theorem kit2 {K : PySem.W.Frag} {a c1 c2 : String} {r1 r2 : Bool} (h1 : kitB a c1 = some r1) (h2 : kitB a c2 = some r2) : PySem.W.kitAny K (.type a) [.type c1, .type c2] = some (r1 || r2) := by
  refine kitAny_cons (kit_ty h1) (fun e => ?_) (fun e => by rw [e]; rfl)
  rw [e, Bool.false_or]
  exact kitAny_cons (kit_ty h2) (fun e => by rw [e]; exact kitAny_nil) (fun e => e)
def spLaw (K : PySem.W.Frag) : Sp := fun vs H Q _ => ∃ (a : Addr) (ns : List Int), vs = [.ref a] ∧ SqL K H a (ns.map V.int) ∧ ns.length ≤ 63 ∧ (∀ z ∈ ns, Builtin.Int.intBits z ≤ 1048576) ∧ ∀ H', Q (.bl true) H'

/-! ### the law -/
theorem two_bools {r1 r2 : Bool} : PyData.eqv (.tuple [.bool r1, .bool r2]) (.tuple [.bool r1, .bool r2]) = true := by
  show (r1 == r1 && (r2 == r2 && true)) = true
  rw [beq_self_eq_true, beq_self_eq_true]
  rfl
def isSeqD : PyData → Bool
  | .list _ => true
  | .tuple _ => true
  | _ => false
theorem seq_item {d : PyData} (h : isSeqD d = true) : isItemD d = false := by
  cases d <;> first | rfl | cases h
theorem Dp.kind {K : PySem.W.Frag} {H : Hp} {x : V} {d : PyData} (h : Dp K H x d) : ∃ t, TyX K H x t ∧ PySem.W.kitAny K t [.type "list", .type "tuple"] = some (isSeqD d) := by
  cases h with
  | non => exact ⟨_, ty_non, kit2 (r1 := false) (r2 := false) (by decide +kernel) (by decide +kernel)⟩
  | bl b => exact ⟨_, ty_bl, kit2 (r1 := false) (r2 := false) (by decide +kernel) (by decide +kernel)⟩
  | int i => exact ⟨_, ty_int, kit2 (r1 := false) (r2 := false) (by decide +kernel) (by decide +kernel)⟩
  | str z => exact ⟨_, ty_str, kit2 (r1 := false) (r2 := false) (by decide +kernel) (by decide +kernel)⟩
  | lst s a => exact ⟨_, ty_sqL s, kit2 (r1 := true) (r2 := false) (by decide +kernel) (by decide +kernel)⟩
  | tup s a => exact ⟨_, ty_sqT s, kit2 (r1 := false) (r2 := true) (by decide +kernel) (by decide +kernel)⟩
section
variable {P : Program} {w : World} {K : PySem.W.Frag} {mg : Str → Option Value} {base : Heap}
theorem ok_law (T : Txt K mg) {f : Addr} {fd : FuncData} (F : Fun K "law" "law" s_law f fd) : FnOk P w K mg base CX0 9 f fd ["script"] (spLaw K) := by
  have G_law_bag := ok_law_bag (P := P) (w := w) (base := base) T
  have G_law_word := ok_law_word (P := P) (w := w) (base := base) T
  have G_law_number := ok_law_number (P := P) (w := w) (base := base) T
  have G_law_any : FnOk P w K mg base CX0 8 _ _ _ (sp_any K 4) := ok_law_any (P := P) (w := w) (base := base) T 4
  have G_law_near := ok_law_near (P := P) (w := w) (base := base) T
  have G_law_is_item := ok_law_is_item (P := P) (w := w) (base := base) T
  have G_law_is_answer := ok_law_is_answer (P := P) (w := w) (base := base) T
  have G_is_item := ok_is_item (P := P) (w := w) (base := base) T
  have G_is_answer := ok_is_answer (P := P) (w := w) (base := base) T
  refine F.ok sc_law (fun vs H Q E h => ?_) (fun cdv A outer s H vs Q E hr h => ?_)
  · obtain ⟨b, ns, rfl, _⟩ := h
    rfl
  · obtain ⟨a, ns, rfl, hS, hlen, _, q⟩ := h
    refine ⟨_, (pss_cons (ps_for PassesOwn.never rfl (pi_range1 (by rfl) T.m_range (pa_cons (pe_callB (call_max2 rfl) (by rfl) T.m_max (by decide +kernel) (pa_cons pe_int (pa_cons (pe_callB (call_min2 rfl) (by rfl) T.m_min (by decide +kernel) (pa_cons pe_int (pa_cons (pe_callB call_len (by rfl) T.m_len (by decide +kernel) (pa_cons (pv 0) pa_nil)) pa_nil))) pa_nil))) pa_nil)) (pg_name (i := 1) sc_law.nd rfl (.inl rfl)) (pss_cons (ps_set (i := 2) sc_law.nd rfl (.inl rfl) (pe_call G_law_bag (hr.mono (by omega)) (by rfl) T.g_law_bag T.F_law_bag.kp T.b_law_bag .nil pass0 (pa_cons (pv 0) (pa_cons (pv 1) pa_nil))))
        (pss_cons (ps_set (i := 3) sc_law.nd rfl (.inl rfl) (pe_lst (pa_cons (pe_call G_law_any hr (by rfl) T.g_law_any T.F_law_any.kp T.b_law_any .nil pass0 (pa_cons (pv 2) (pa_cons pe_int pa_nil))) (pa_cons (pe_call G_law_near (hr.mono (by omega)) (by rfl) T.g_law_near T.F_law_near.kp T.b_law_near .nil pass0 (pa_cons (pv 2) pa_nil)) (pa_cons (pe_call G_law_near (hr.mono (by omega)) (by rfl) T.g_law_near T.F_law_near.kp T.b_law_near .nil pass0 (pa_cons (pv 2) pa_nil)) (pa_cons (pe_call G_law_word (hr.mono (by omega)) (by rfl) T.g_law_word T.F_law_word.kp T.b_law_word .nil pass0 (pa_cons (pv 2) (pa_cons pe_int pa_nil))) (pa_cons (pe_call G_law_number (hr.mono (by omega)) (by rfl) T.g_law_number T.F_law_number.kp T.b_law_number .nil pass0 (pa_cons (pv 2) (pa_cons (pe_lst pa_nil) pa_nil))) pa_nil)))))))
        (pss_one (ps_for PassesOwn.never rfl (pi_list (pe_op op_cat (pv 3) (pe_lst (pa_cons pe_bl (pa_cons pe_bl (pa_cons pe_non (pa_cons pe_int (pa_cons pe_int (pa_cons pe_str (pa_cons (pe_lst pa_nil) (pa_cons (pe_tup pa_nil) pa_nil))))))))))) (pg_name (i := 4) sc_law.nd rfl (.inl rfl)) (pss_cons (ps_set (i := 5) sc_law.nd rfl (.inl rfl) (pe_tup (pa_cons (pe_call G_is_item (hr.mono (by omega)) (by rfl) T.g_is_item T.F_is_item.kp T.b_is_item .nil pass0 (pa_cons (pv 4) pa_nil)) (pa_cons (pe_call G_is_answer (hr.mono (by omega)) (by rfl) T.g_is_answer T.F_is_answer.kp T.b_is_answer .nil pass0 (pa_cons (pv 4) pa_nil)) pa_nil))))
        (pss_cons (ps_if (PW.pt (pw_or (PW.pt (pw_and (pt_cmpR op_notBl (pe_ix ix_tup (pv 5) pe_int (fun _ _ => rfl)) pe_bl (nomark _)) (pw_and1 (pt_cmpR op_notBl (pe_ix ix_tup (pv 5) pe_int (fun _ _ => rfl)) pe_bl (nomark _))))) (pw_or1 (PW.pt (pw_and (pt_cmpR op_notBl (pe_ix ix_tup (pv 5) pe_int (fun _ _ => rfl)) pe_bl (nomark _)) (pw_and1 (pt_cmpR op_notBl (pe_ix ix_tup (pv 5) pe_int (fun _ _ => rfl)) pe_bl (nomark _)))))))) (pss_one (ps_ret pe_bl)) pss_nil)
        (pss_cons (ps_set (i := 6) sc_law.nd rfl (.inl rfl) (pe_and (pe_not (pe_callB call_isiT (by rfl) T.m_isinstance (by decide +kernel) (pa_cons (pv 4) (pa_cons (pe_tup (pa_cons (pe_bltn (v := .ty "list") (by rfl) T.m_list (by decide +kernel) rfl) (pa_cons (pe_bltn (v := .ty "tuple") (by rfl) T.m_tuple (by decide +kernel) rfl) pa_nil))) pa_nil)))) (pe_one (pe_call G_law_is_item (hr.mono (by omega)) (by rfl) T.g_law_is_item T.F_law_is_item.kp T.b_law_is_item .nil pass0 (pa_cons (pv 4) pa_nil)))))
        (pss_one (ps_if (pt_cmpR (op_neD hr.units) (pv 5) (pe_tup (pa_cons (pv 6) (pa_cons (pe_call G_law_is_answer (hr.mono (by omega)) (by rfl) T.g_law_is_answer T.F_law_is_answer.kp T.b_law_is_answer .nil pass0 (pa_cons (pv 4) pa_nil)) pa_nil))) (nomark _)) (pss_one (ps_ret pe_bl)) pss_nil))))))))))
        (pss_one (ps_ret pe_bl))), ?_⟩
    repeat (walk_at "lw w")
    refine ⟨by (repeat' split) <;> omega, by (repeat' split) <;> omega, ?_⟩
    refine for_range (lo := 0) (n := _) (fun i σ H' => Same H H' ∧ ∃ t1 t2 t3 t4 t5 t6 : Option V, σ = [some (.ref a), t1, t2, t3, t4, t5, t6]) ?_ ?_ ?_
    · exact ⟨Same.refl _, none, none, none, none, none, none, rfl⟩
    · rintro i σ H0 hi ⟨S0, t1, t2, t3, t4, t5, t6, rfl⟩
      have hi2 : (i : Int) ≤ 16 := by
        revert hi
        (repeat' split) <;> omega
      clear hi
      repeat (walk_at "lw w")
      refine ⟨a, ns, _, rfl, S0.seq hS, hlen, by omega, by omega, fun b H1 nb B1 S1' => ?_⟩
      have S1 : Same H H1 := S0.trans S1'
      have nb0 : H b = none := S0.free nb
      have hb := B1.has
      clear S0 S1' nb
      repeat (walk_at "lw w")
      refine ⟨b, 3, _, rfl, by decide, B1, by decide, fun v1 d1 H2 hd1 hf1 hp1 B2 K2 => ?_⟩
      have B2' : Bag H2 b 100000 := B2.mono (by decide)
      have V1 : Val K (since H1 H2) 3 v1 := ⟨d1, hd1, hf1, hp1⟩
      clear hd1 hf1 hp1 B2
      repeat (walk_at "lw w")
      refine ⟨b, _, rfl, B2', by omega, fun v2 H3 V2 B3 K3 => ?_⟩
      have dom2 : Dom H1 H2 := K2.dom B2'.has
      have V1' : Val K (since H1 H3) 3 v1 := V1.same (since_mono (Dom.refl _) hb K3)
      have V2' : Val K (since H1 H3) 3 v2 := V2.same (since_mono0 dom2 (Same.refl _))
      have KK3 := K2.trans K3
      clear V1 V2 K2 K3
      repeat (walk_at "lw w")
      refine ⟨b, _, rfl, B3, by omega, fun v3 H4 V3 B4 K4 => ?_⟩
      have V1 : Val K (since H1 H4) 3 v1 := V1'.same (since_mono (Dom.refl _) hb K4)
      have V2 : Val K (since H1 H4) 3 v2 := V2'.same (since_mono (Dom.refl _) hb K4)
      have V3' : Val K (since H1 H4) 3 v3 := V3.same (since_mono0 (KK3.dom B3.has) (Same.refl _))
      have KK4 := KK3.trans K4
      clear V1' V2' V3 K4 KK3
      repeat (walk_at "lw w")
      refine ⟨b, 31, _, rfl, B4, by omega, by omega, by omega, fun z H5 hz B5 K5 => ?_⟩
      repeat (walk_at "lw w")
      refine ⟨by walk_at "lw n", fun l6 nl6 => ?_⟩
      have B6 := B5.new (o := .lst []) nl6
      refine ⟨b, l6, [], _, rfl, B6, by omega, upd_same, (B5.ne nl6).symm, by simp, fun u H7 hu B7 K7 => ?_⟩
      have K57 : Keep b H4 H7 := K5.trans ((Keep.new nl6).trans K7)
      have W1 : Val K (since H1 H7) 3 v1 := V1.same (since_mono (Dom.refl _) hb K57)
      have W2 : Val K (since H1 H7) 3 v2 := V2.same (since_mono (Dom.refl _) hb K57)
      have W3 : Val K (since H1 H7) 3 v3 := V3'.same (since_mono (Dom.refl _) hb K57)
      have hz' : fine (.str z) = true := fine_str (strOk_low hz.2) hz.1
      have KK7 := KK4.trans K57
      have S7 : Same H H7 := keep_same S1 nb0 KK7
      clear V1 V2 V3' K57 K7 K5 KK4 B6 nl6 B5 hz hu B4 B3 B2'
      have X1 := W1.same since_same
      have X2 := W2.same since_same
      have X3 := W3.same since_same
      clear W1 W2 W3 KK7 B7 B1 hb nb0 S1 dom2
      repeat (walk_at "lw w")
      refine ⟨by walk_at "lw n", fun L nL => ?_⟩
      have S8 : Same H7 (upd H7 L (.lst [v1, v2, v3, .str z, .int u])) := same_new nL
      have e8 : upd H7 L (.lst [v1, v2, v3, .str z, .int u]) L = some (.lst [v1, v2, v3, .str z, .int u]) := upd_same
      generalize upd H7 L (.lst [v1, v2, v3, .str z, .int u]) = H8 at *
      repeat (walk_at "lw w")
      refine ⟨by walk_at "lw n", fun l9 nl9 => ?_⟩
      have S9 : Same H8 (upd H8 l9 (.lst [])) := same_new nl9
      have e9 : upd H8 l9 (.lst []) l9 = some (.lst []) := upd_same
      generalize upd H8 l9 (.lst []) = H9 at *
      repeat (walk_at "lw w")
      refine ⟨by walk_at "lw n", fun l10 nl10 => ?_⟩
      have S10 : Same H9 (upd H9 l10 (.tup [])) := same_new nl10
      have e10 : upd H9 l10 (.tup []) l10 = some (.tup []) := upd_same
      generalize upd H9 l10 (.tup []) = H10 at *
      repeat (walk_at "lw w")
      refine ⟨by walk_at "lw n", fun l11 nl11 => ?_⟩
      have S11 : Same H10 (upd H10 l11 (.lst [.bl true, .bl false, .non, .int 1, .int 0, .str (Str.ofString ""), .ref l9, .ref l10])) := same_new nl11
      have e11 : upd H10 l11 (.lst [.bl true, .bl false, .non, .int 1, .int 0, .str (Str.ofString ""), .ref l9, .ref l10]) l11 = some (.lst [.bl true, .bl false, .non, .int 1, .int 0, .str (Str.ofString ""), .ref l9, .ref l10]) := upd_same
      generalize upd H10 l11 (.lst [.bl true, .bl false, .non, .int 1, .int 0, .str (Str.ofString ""), .ref l9, .ref l10]) = H11 at *
      have S811 := (S9.trans S10).trans S11
      refine ⟨L, l11, _, _, rfl, rfl, S811 _ _ e8, e11, (by show 13 ≤ sizeLine; decide), fun M nM => ?_⟩
      have S12 := fun o : HO => same_new (o := o) nM
      have hv : ∀ x ∈ ([v1, v2, v3, .str z, .int u] ++ [.bl true, .bl false, .non, .int 1, .int 0, .str (Str.ofString ""), .ref l9, .ref l10] : List V), Val K H11 3 x := by
        have S711 : Same H7 H11 := S8.trans S811
        intro x hx
        rcases List.mem_append.mp hx with h | h
        · simp only [List.mem_cons, List.not_mem_nil, or_false] at h
          rcases h with rfl | rfl | rfl | rfl | rfl
          · exact X1.same S711
          · exact X2.same S711
          · exact X3.same S711
          · exact val_str hz'
          · exact val_int
        · simp only [List.mem_cons, List.not_mem_nil, or_false] at h
          rcases h with rfl | rfl | rfl | rfl | rfl | rfl | rfl | rfl
          · exact val_bl
          · exact val_bl
          · exact val_non
          · exact val_int
          · exact val_int
          · exact val_str (by decide +kernel)
          · exact (val_lst (n := 0) (SqL.of ((S10.trans S11) _ _ e9)) (by simp) fun x hx => nomatch hx).mono (by decide)
          · exact (val_tup (n := 0) (SqT.of (S11 _ _ e10)) (by simp) fun x hx => nomatch hx).mono (by decide)
      have S011 : Same H H11 := S7.trans (S8.trans S811)
      clear X1 X2 X3 S7 S8 S9 S10 S11 S811 e8 e9 e10 e11 nl9 nl10 nl11 nL hz'
      generalize ([v1, v2, v3, .str z, .int u] ++ [.bl true, .bl false, .non, .int 1, .int 0, .str (Str.ofString ""), .ref l9, .ref l10] : List V) = xs at *
      have eM : upd H11 M (.lst xs) M = some (.lst xs) := upd_same
      have hv12 : ∀ x ∈ xs, Val K (upd H11 M (.lst xs)) 3 x := fun x hx => (hv x hx).same (S12 _)
      have S012 := S011.trans (S12 (.lst xs))
      clear hv S011 S12 nM
      generalize upd H11 M (.lst xs) = HM at *
      refine ⟨M, rfl, ⟨xs, SqL.of eM⟩, ?_⟩
      refine for_list (K := K) (a := M) (xs := xs) (fun j σ H' => Same HM H' ∧ ∃ t1 t2 t3 t4 t5 t6 : Option V, σ = [some (.ref a), t1, t2, t3, t4, t5, t6]) ?_ ?_ ?_ ?_
      · exact ⟨Same.refl _, _, _, _, _, _, _, rfl⟩
      · rintro j σ H' _ ⟨S, _⟩
        exact SqL.of (S _ _ eM)
      · rintro j x σ H' hx ⟨S, t1, t2, t3, t4, t5, t6, rfl⟩
        obtain ⟨d, hd, hf, hp⟩ := (hv12 x (List.mem_of_getElem? hx)).same S
        have hp60 : PyData.depth d ≤ 60 := Nat.le_trans hp (by decide)
        clear hx hp
        repeat (walk_at "lw w")
        refine ⟨_, d, rfl, hd, hf, hp60, fun r1 H1 e1 S1 => ?_⟩
        repeat (walk_at "lw w")
        refine ⟨_, d, rfl, Dp.same S1 _ _ hd, hf, hp60, fun r2 H2 e2 S2 => ?_⟩
        repeat (walk_at "lw w")
        refine ⟨by walk_at "lw n", fun p1 np1 => ?_⟩
        have S3 : Same H2 (upd H2 p1 (.tup [.bl r1, .bl r2])) := same_new np1
        have et : upd H2 p1 (.tup [.bl r1, .bl r2]) p1 = some (.tup [.bl r1, .bl r2]) := upd_same
        generalize upd H2 p1 (.tup [.bl r1, .bl r2]) = H3 at *
        have hd3 := Dp.same ((S1.trans S2).trans S3) _ _ hd
        have St : SqT K H3 p1 [.bl r1, .bl r2] := SqT.of et
        have S03 : Same H' H3 := (S1.trans S2).trans S3
        have fin : ∀ (r3 : Bool) (H4 : Hp) (t3 : Option V), r3 = isItemD d → Same H3 H4 →
            (tIfS (tTest (tOp (rNeD K) (tVar 5) (tTup (tCons (tVar 6) (tCons (tCall (sp_bool1 K isAnswerD) [] E0 (tCons (tVar 4) tNil)) tNil))))) (tRet (tC (.bl false))) tNext)
              { nx := fun σ' H'' => Same HM H'' ∧ ∃ t1 t2 t3 t4 t5 t6 : Option V, σ' = [some (.ref a), t1, t2, t3, t4, t5, t6], rt := Q } [some (.ref a), t1, t2, t3, some x, some (.ref p1), some (.bl r3)] H4 := by
          intro r3 H4 t3 e3 S4
          have St4 := SqT.same S4 St
          refine ⟨_, rfl, _, rfl, _, rfl, _, d, rfl, Dp.same S4 _ _ hd3, hf, hp60, fun r4 H5 e4 S5 => ?_⟩
          refine ⟨by walk_at "lw n", fun p6 np6 => ?_⟩
          refine ⟨.tuple [.bool r1, .bool r2], .tuple [.bool r3, .bool r4], .tup ((SqT.same (same_new np6) (SqT.same S5 St4))) (.cons (.bl _) (.cons (.bl _) .nil)), .tup (SqT.of upd_same) (.cons (.bl _) (.cons (.bl _) .nil)), rfl, rfl, ?_⟩
          refine ⟨_, rfl, ?_⟩
          rw [e1, e2, e3, e4]
          refine ifF (by rw [two_bools]; rfl) ?_
          exact ⟨S.trans (S03.trans (S4.trans (S5.trans (same_new np6)))), _, _, _, _, _, _, rfl⟩
        have hty : ∀ G, Same H3 G → ∃ t, TyX K G x t ∧ PySem.W.kitAny K t [.type "list", .type "tuple"] = some (isSeqD d) := fun G s => Dp.kind (Dp.same s _ _ hd3)
        cases r1 <;> cases r2
        all_goals
          (repeat (walk_at "lw w"))
          refine ⟨by walk_at "lw n", fun p2 np2 => ?_⟩
          have S4 : Same H3 (upd H3 p2 (.tup [.ty "list", .ty "tuple"])) := same_new np2
          obtain ⟨ty, hty', hk⟩ := hty _ S4
          refine ⟨x, p2, _, _, _, _, rfl, upd_same, .cons (.ty _) (.cons (.ty _) .nil), hty', hk, ?_⟩
          (repeat (walk_at "lw w"))
          refine ite2 (fun e => ?_) (fun e => ?_)
          · (repeat (walk_at "lw w"))
            refine ⟨_, d, rfl, Dp.same S4 _ _ hd3, hf, hp60, fun r3 H4 e3 S5 => ?_⟩
            exact fin r3 H4 _ e3 (S4.trans S5)
          · exact fin false _ _ (seq_item (by simpa using e)).symm S4
      · rintro σ H' ⟨S, t1, t2, t3, t4, t5, t6, rfl⟩
        repeat (walk_at "lw w")
        exact ⟨S012.trans S, _, _, _, _, _, _, rfl⟩
    · rintro σ H' ⟨S0, t1, t2, t3, t4, t5, t6, rfl⟩
      repeat (walk_at "lw w")
      exact q _
end

/-! ### what the top has written; the head -/
theorem all_mk {l : PySem.W.OpenLaw} {w : World} {K : PySem.W.Frag} {h : Heap} {mg : Str → Option Value} {fa : Addr} (X : K.In h) (G : h.Ns mainGlobals mg) (hfa : mg "law" = some (.ref fa))
    {f_consists_of : Addr} {od0 an0 : Option Addr} {sl0 : Array (Option Value)} {oc0 kV0 dc0 pm0 cd0 ct0 : Value}
    {f_is_integer : Addr} {od1 an1 : Option Addr} {sl1 : Array (Option Value)} {oc1 kV1 dc1 pm1 cd1 ct1 : Value}
    {f_is_small_word : Addr} {od2 an2 : Option Addr} {sl2 : Array (Option Value)} {oc2 kV2 dc2 pm2 cd2 ct2 : Value}
    {f_is_class_name : Addr} {od3 an3 : Option Addr} {sl3 : Array (Option Value)} {oc3 kV3 dc3 pm3 cd3 ct3 : Value}
    {f_is_item : Addr} {od4 an4 : Option Addr} {sl4 : Array (Option Value)} {oc4 kV4 dc4 pm4 cd4 ct4 : Value}
    {f_is_raised : Addr} {od5 an5 : Option Addr} {sl5 : Array (Option Value)} {oc5 kV5 dc5 pm5 cd5 ct5 : Value}
    {f_is_answer : Addr} {od6 an6 : Option Addr} {sl6 : Array (Option Value)} {oc6 kV6 dc6 pm6 cd6 ct6 : Value}
    {f_law_take : Addr} {od7 an7 : Option Addr} {sl7 : Array (Option Value)} {oc7 kV7 dc7 pm7 cd7 ct7 : Value}
    {f_law_of : Addr} {od8 an8 : Option Addr} {sl8 : Array (Option Value)} {oc8 kV8 dc8 pm8 cd8 ct8 : Value}
    {f_law_class : Addr} {od9 an9 : Option Addr} {sl9 : Array (Option Value)} {oc9 kV9 dc9 pm9 cd9 ct9 : Value}
    {f_law_bag : Addr} {od10 an10 : Option Addr} {sl10 : Array (Option Value)} {oc10 kV10 dc10 pm10 cd10 ct10 : Value}
    {f_law_word : Addr} {od11 an11 : Option Addr} {sl11 : Array (Option Value)} {oc11 kV11 dc11 pm11 cd11 ct11 : Value}
    {f_law_any : Addr} {od12 an12 : Option Addr} {sl12 : Array (Option Value)} {oc12 kV12 dc12 pm12 cd12 ct12 : Value}
    {f_law_number : Addr} {od13 an13 : Option Addr} {sl13 : Array (Option Value)} {oc13 kV13 dc13 pm13 cd13 ct13 : Value}
    {f_law_is_integer : Addr} {od14 an14 : Option Addr} {sl14 : Array (Option Value)} {oc14 kV14 dc14 pm14 cd14 ct14 : Value}
    {f_law_is_word : Addr} {od15 an15 : Option Addr} {sl15 : Array (Option Value)} {oc15 kV15 dc15 pm15 cd15 ct15 : Value}
    {f_law_is_item : Addr} {od16 an16 : Option Addr} {sl16 : Array (Option Value)} {oc16 kV16 dc16 pm16 cd16 ct16 : Value}
    {f_law_is_class : Addr} {od17 an17 : Option Addr} {sl17 : Array (Option Value)} {oc17 kV17 dc17 pm17 cd17 ct17 : Value}
    {f_law_is_answer : Addr} {od18 an18 : Option Addr} {sl18 : Array (Option Value)} {oc18 kV18 dc18 pm18 cd18 ct18 : Value}
    {f_law_near : Addr} {od19 an19 : Option Addr} {sl19 : Array (Option Value)} {oc19 kV19 dc19 pm19 cd19 ct19 : Value}
    {f_law : Addr} {od20 an20 : Option Addr} {sl20 : Array (Option Value)} {oc20 kV20 dc20 pm20 cd20 ct20 : Value}
    {tc_SMALL_LETTERS : Tok}
    {tc_CAPITAL_LETTERS : Tok}
    {tc_MOST_CLASS_LETTERS : Tok}
    {tc_MOST_WORD_LETTERS : Tok}
    (a0 : PySem.W.nsIn K mainGlobals "consists_of" = some (some (.ref f_consists_of)))
    (l0 : K.lookup f_consists_of = some ⟨oc0, od0, .func (PySem.W.fnOf "consists_of" "consists_of" (defArgs s_consists_of) (defBody s_consists_of) (defScope s_consists_of) .none kV0 dc0 pm0 an0 cd0 ct0), sl0⟩)
    (c0 : PySem.W.codeIn K cd0 "consists_of" = true) (k0 : PySem.W.keepIn K (.ref f_consists_of) = true)
    (a1 : PySem.W.nsIn K mainGlobals "is_integer" = some (some (.ref f_is_integer)))
    (l1 : K.lookup f_is_integer = some ⟨oc1, od1, .func (PySem.W.fnOf "is_integer" "is_integer" (defArgs s_is_integer) (defBody s_is_integer) (defScope s_is_integer) .none kV1 dc1 pm1 an1 cd1 ct1), sl1⟩)
    (c1 : PySem.W.codeIn K cd1 "is_integer" = true) (k1 : PySem.W.keepIn K (.ref f_is_integer) = true)
    (a2 : PySem.W.nsIn K mainGlobals "is_small_word" = some (some (.ref f_is_small_word)))
    (l2 : K.lookup f_is_small_word = some ⟨oc2, od2, .func (PySem.W.fnOf "is_small_word" "is_small_word" (defArgs s_is_small_word) (defBody s_is_small_word) (defScope s_is_small_word) .none kV2 dc2 pm2 an2 cd2 ct2), sl2⟩)
    (c2 : PySem.W.codeIn K cd2 "is_small_word" = true) (k2 : PySem.W.keepIn K (.ref f_is_small_word) = true)
    (a3 : PySem.W.nsIn K mainGlobals "is_class_name" = some (some (.ref f_is_class_name)))
    (l3 : K.lookup f_is_class_name = some ⟨oc3, od3, .func (PySem.W.fnOf "is_class_name" "is_class_name" (defArgs s_is_class_name) (defBody s_is_class_name) (defScope s_is_class_name) .none kV3 dc3 pm3 an3 cd3 ct3), sl3⟩)
    (c3 : PySem.W.codeIn K cd3 "is_class_name" = true) (k3 : PySem.W.keepIn K (.ref f_is_class_name) = true)
    (a4 : PySem.W.nsIn K mainGlobals "is_item" = some (some (.ref f_is_item)))
    (l4 : K.lookup f_is_item = some ⟨oc4, od4, .func (PySem.W.fnOf "is_item" "is_item" (defArgs s_is_item) (defBody s_is_item) (defScope s_is_item) .none kV4 dc4 pm4 an4 cd4 ct4), sl4⟩)
    (c4 : PySem.W.codeIn K cd4 "is_item" = true) (k4 : PySem.W.keepIn K (.ref f_is_item) = true)
    (a5 : PySem.W.nsIn K mainGlobals "is_raised" = some (some (.ref f_is_raised)))
    (l5 : K.lookup f_is_raised = some ⟨oc5, od5, .func (PySem.W.fnOf "is_raised" "is_raised" (defArgs s_is_raised) (defBody s_is_raised) (defScope s_is_raised) .none kV5 dc5 pm5 an5 cd5 ct5), sl5⟩)
    (c5 : PySem.W.codeIn K cd5 "is_raised" = true) (k5 : PySem.W.keepIn K (.ref f_is_raised) = true)
    (a6 : PySem.W.nsIn K mainGlobals "is_answer" = some (some (.ref f_is_answer)))
    (l6 : K.lookup f_is_answer = some ⟨oc6, od6, .func (PySem.W.fnOf "is_answer" "is_answer" (defArgs s_is_answer) (defBody s_is_answer) (defScope s_is_answer) .none kV6 dc6 pm6 an6 cd6 ct6), sl6⟩)
    (c6 : PySem.W.codeIn K cd6 "is_answer" = true) (k6 : PySem.W.keepIn K (.ref f_is_answer) = true)
    (a7 : PySem.W.nsIn K mainGlobals "_law_take" = some (some (.ref f_law_take)))
    (l7 : K.lookup f_law_take = some ⟨oc7, od7, .func (PySem.W.fnOf "_law_take" "_law_take" (defArgs s_law_take) (defBody s_law_take) (defScope s_law_take) .none kV7 dc7 pm7 an7 cd7 ct7), sl7⟩)
    (c7 : PySem.W.codeIn K cd7 "_law_take" = true) (k7 : PySem.W.keepIn K (.ref f_law_take) = true)
    (a8 : PySem.W.nsIn K mainGlobals "_law_of" = some (some (.ref f_law_of)))
    (l8 : K.lookup f_law_of = some ⟨oc8, od8, .func (PySem.W.fnOf "_law_of" "_law_of" (defArgs s_law_of) (defBody s_law_of) (defScope s_law_of) .none kV8 dc8 pm8 an8 cd8 ct8), sl8⟩)
    (c8 : PySem.W.codeIn K cd8 "_law_of" = true) (k8 : PySem.W.keepIn K (.ref f_law_of) = true)
    (a9 : PySem.W.nsIn K mainGlobals "_law_class" = some (some (.ref f_law_class)))
    (l9 : K.lookup f_law_class = some ⟨oc9, od9, .func (PySem.W.fnOf "_law_class" "_law_class" (defArgs s_law_class) (defBody s_law_class) (defScope s_law_class) .none kV9 dc9 pm9 an9 cd9 ct9), sl9⟩)
    (c9 : PySem.W.codeIn K cd9 "_law_class" = true) (k9 : PySem.W.keepIn K (.ref f_law_class) = true)
    (a10 : PySem.W.nsIn K mainGlobals "_law_bag" = some (some (.ref f_law_bag)))
    (l10 : K.lookup f_law_bag = some ⟨oc10, od10, .func (PySem.W.fnOf "_law_bag" "_law_bag" (defArgs s_law_bag) (defBody s_law_bag) (defScope s_law_bag) .none kV10 dc10 pm10 an10 cd10 ct10), sl10⟩)
    (c10 : PySem.W.codeIn K cd10 "_law_bag" = true) (k10 : PySem.W.keepIn K (.ref f_law_bag) = true)
    (a11 : PySem.W.nsIn K mainGlobals "_law_word" = some (some (.ref f_law_word)))
    (l11 : K.lookup f_law_word = some ⟨oc11, od11, .func (PySem.W.fnOf "_law_word" "_law_word" (defArgs s_law_word) (defBody s_law_word) (defScope s_law_word) .none kV11 dc11 pm11 an11 cd11 ct11), sl11⟩)
    (c11 : PySem.W.codeIn K cd11 "_law_word" = true) (k11 : PySem.W.keepIn K (.ref f_law_word) = true)
    (a12 : PySem.W.nsIn K mainGlobals "_law_any" = some (some (.ref f_law_any)))
    (l12 : K.lookup f_law_any = some ⟨oc12, od12, .func (PySem.W.fnOf "_law_any" "_law_any" (defArgs s_law_any) (defBody s_law_any) (defScope s_law_any) .none kV12 dc12 pm12 an12 cd12 ct12), sl12⟩)
    (c12 : PySem.W.codeIn K cd12 "_law_any" = true) (k12 : PySem.W.keepIn K (.ref f_law_any) = true)
    (a13 : PySem.W.nsIn K mainGlobals "_law_number" = some (some (.ref f_law_number)))
    (l13 : K.lookup f_law_number = some ⟨oc13, od13, .func (PySem.W.fnOf "_law_number" "_law_number" (defArgs s_law_number) (defBody s_law_number) (defScope s_law_number) .none kV13 dc13 pm13 an13 cd13 ct13), sl13⟩)
    (c13 : PySem.W.codeIn K cd13 "_law_number" = true) (k13 : PySem.W.keepIn K (.ref f_law_number) = true)
    (a14 : PySem.W.nsIn K mainGlobals "_law_is_integer" = some (some (.ref f_law_is_integer)))
    (l14 : K.lookup f_law_is_integer = some ⟨oc14, od14, .func (PySem.W.fnOf "_law_is_integer" "_law_is_integer" (defArgs s_law_is_integer) (defBody s_law_is_integer) (defScope s_law_is_integer) .none kV14 dc14 pm14 an14 cd14 ct14), sl14⟩)
    (c14 : PySem.W.codeIn K cd14 "_law_is_integer" = true) (k14 : PySem.W.keepIn K (.ref f_law_is_integer) = true)
    (a15 : PySem.W.nsIn K mainGlobals "_law_is_word" = some (some (.ref f_law_is_word)))
    (l15 : K.lookup f_law_is_word = some ⟨oc15, od15, .func (PySem.W.fnOf "_law_is_word" "_law_is_word" (defArgs s_law_is_word) (defBody s_law_is_word) (defScope s_law_is_word) .none kV15 dc15 pm15 an15 cd15 ct15), sl15⟩)
    (c15 : PySem.W.codeIn K cd15 "_law_is_word" = true) (k15 : PySem.W.keepIn K (.ref f_law_is_word) = true)
    (a16 : PySem.W.nsIn K mainGlobals "_law_is_item" = some (some (.ref f_law_is_item)))
    (l16 : K.lookup f_law_is_item = some ⟨oc16, od16, .func (PySem.W.fnOf "_law_is_item" "_law_is_item" (defArgs s_law_is_item) (defBody s_law_is_item) (defScope s_law_is_item) .none kV16 dc16 pm16 an16 cd16 ct16), sl16⟩)
    (c16 : PySem.W.codeIn K cd16 "_law_is_item" = true) (k16 : PySem.W.keepIn K (.ref f_law_is_item) = true)
    (a17 : PySem.W.nsIn K mainGlobals "_law_is_class" = some (some (.ref f_law_is_class)))
    (l17 : K.lookup f_law_is_class = some ⟨oc17, od17, .func (PySem.W.fnOf "_law_is_class" "_law_is_class" (defArgs s_law_is_class) (defBody s_law_is_class) (defScope s_law_is_class) .none kV17 dc17 pm17 an17 cd17 ct17), sl17⟩)
    (c17 : PySem.W.codeIn K cd17 "_law_is_class" = true) (k17 : PySem.W.keepIn K (.ref f_law_is_class) = true)
    (a18 : PySem.W.nsIn K mainGlobals "_law_is_answer" = some (some (.ref f_law_is_answer)))
    (l18 : K.lookup f_law_is_answer = some ⟨oc18, od18, .func (PySem.W.fnOf "_law_is_answer" "_law_is_answer" (defArgs s_law_is_answer) (defBody s_law_is_answer) (defScope s_law_is_answer) .none kV18 dc18 pm18 an18 cd18 ct18), sl18⟩)
    (c18 : PySem.W.codeIn K cd18 "_law_is_answer" = true) (k18 : PySem.W.keepIn K (.ref f_law_is_answer) = true)
    (a19 : PySem.W.nsIn K mainGlobals "_law_near" = some (some (.ref f_law_near)))
    (l19 : K.lookup f_law_near = some ⟨oc19, od19, .func (PySem.W.fnOf "_law_near" "_law_near" (defArgs s_law_near) (defBody s_law_near) (defScope s_law_near) .none kV19 dc19 pm19 an19 cd19 ct19), sl19⟩)
    (c19 : PySem.W.codeIn K cd19 "_law_near" = true) (k19 : PySem.W.keepIn K (.ref f_law_near) = true)
    (a20 : PySem.W.nsIn K mainGlobals "law" = some (some (.ref f_law)))
    (l20 : K.lookup f_law = some ⟨oc20, od20, .func (PySem.W.fnOf "law" "law" (defArgs s_law) (defBody s_law) (defScope s_law) .none kV20 dc20 pm20 an20 cd20 ct20), sl20⟩)
    (c20 : PySem.W.codeIn K cd20 "law" = true) (k20 : PySem.W.keepIn K (.ref f_law) = true)
    (z_abs : PySem.W.nsIn K mainGlobals "abs" = some none)
    (z_all : PySem.W.nsIn K mainGlobals "all" = some none)
    (z_bool : PySem.W.nsIn K mainGlobals "bool" = some none)
    (z_int : PySem.W.nsIn K mainGlobals "int" = some none)
    (z_isinstance : PySem.W.nsIn K mainGlobals "isinstance" = some none)
    (z_len : PySem.W.nsIn K mainGlobals "len" = some none)
    (z_list : PySem.W.nsIn K mainGlobals "list" = some none)
    (z_max : PySem.W.nsIn K mainGlobals "max" = some none)
    (z_min : PySem.W.nsIn K mainGlobals "min" = some none)
    (z_range : PySem.W.nsIn K mainGlobals "range" = some none)
    (z_str : PySem.W.nsIn K mainGlobals "str" = some none)
    (z_tuple : PySem.W.nsIn K mainGlobals "tuple" = some none)
    (y_SMALL_LETTERS : PySem.W.nsIn K mainGlobals "SMALL_LETTERS" = some (some (.str "abcdefghijklmnopqrstuvwxyz" tc_SMALL_LETTERS)))
    (y_CAPITAL_LETTERS : PySem.W.nsIn K mainGlobals "CAPITAL_LETTERS" = some (some (.str "ABCDEFGHIJKLMNOPQRSTUVWXYZ" tc_CAPITAL_LETTERS)))
    (y_MOST_CLASS_LETTERS : PySem.W.nsIn K mainGlobals "MOST_CLASS_LETTERS" = some (some (.int 12 tc_MOST_CLASS_LETTERS)))
    (y_MOST_WORD_LETTERS : PySem.W.nsIn K mainGlobals "MOST_WORD_LETTERS" = some (some (.int 30 tc_MOST_WORD_LETTERS))) :
    ∃ fd : FuncData, (∀ (s : Shared) (v : Value), BindsTo s fd ⟨[v], []⟩ [("script", v)]) ∧ ∀ base : Heap, K.In base → base.Ns mainGlobals mg → FnOk l.prog w K mg base CX0 9 fa fd ["script"] (spLaw K) := by
  have e := hfa.symm.trans (PySem.W.mg_of X G a20)
  cases e
  have F0 := fun_mk (st := s_consists_of) l0 c0 k0
  have b0 := F0.binds (ps := ["text", "characters"]) fun _ _ _ _ _ _ us hl => match us, hl with | [_, _], _ => rfl
  have F1 := fun_mk (st := s_is_integer) l1 c1 k1
  have b1 := F1.binds (ps := ["thing"]) fun _ _ _ _ _ _ us hl => match us, hl with | [_], _ => rfl
  have F2 := fun_mk (st := s_is_small_word) l2 c2 k2
  have b2 := F2.binds (ps := ["thing", "most"]) fun _ _ _ _ _ _ us hl => match us, hl with | [_, _], _ => rfl
  have F3 := fun_mk (st := s_is_class_name) l3 c3 k3
  have b3 := F3.binds (ps := ["thing"]) fun _ _ _ _ _ _ us hl => match us, hl with | [_], _ => rfl
  have F4 := fun_mk (st := s_is_item) l4 c4 k4
  have b4 := F4.binds (ps := ["thing"]) fun _ _ _ _ _ _ us hl => match us, hl with | [_], _ => rfl
  have F5 := fun_mk (st := s_is_raised) l5 c5 k5
  have b5 := F5.binds (ps := ["thing"]) fun _ _ _ _ _ _ us hl => match us, hl with | [_], _ => rfl
  have F6 := fun_mk (st := s_is_answer) l6 c6 k6
  have b6 := F6.binds (ps := ["thing"]) fun _ _ _ _ _ _ us hl => match us, hl with | [_], _ => rfl
  have F7 := fun_mk (st := s_law_take) l7 c7 k7
  have b7 := F7.binds (ps := ["bag", "many"]) fun _ _ _ _ _ _ us hl => match us, hl with | [_, _], _ => rfl
  have F8 := fun_mk (st := s_law_of) l8 c8 k8
  have b8 := F8.binds (ps := ["bag", "some"]) fun _ _ _ _ _ _ us hl => match us, hl with | [_, _], _ => rfl
  have F9 := fun_mk (st := s_law_class) l9 c9 k9
  have b9 := F9.binds (ps := ["bag"]) fun _ _ _ _ _ _ us hl => match us, hl with | [_], _ => rfl
  have F10 := fun_mk (st := s_law_bag) l10 c10 k10
  have b10 := F10.binds (ps := ["script", "at"]) fun _ _ _ _ _ _ us hl => match us, hl with | [_, _], _ => rfl
  have F11 := fun_mk (st := s_law_word) l11 c11 k11
  have b11 := F11.binds (ps := ["bag", "most"]) fun _ _ _ _ _ _ us hl => match us, hl with | [_, _], _ => rfl
  have F12 := fun_mk (st := s_law_any) l12 c12 k12
  have b12 := F12.binds (ps := ["bag", "deep"]) fun _ _ _ _ _ _ us hl => match us, hl with | [_, _], _ => rfl
  have F13 := fun_mk (st := s_law_number) l13 c13 k13
  have b13 := F13.binds (ps := ["bag", "near"]) fun _ _ _ _ _ _ us hl => match us, hl with | [_, _], _ => rfl
  have F14 := fun_mk (st := s_law_is_integer) l14 c14 k14
  have b14 := F14.binds (ps := ["thing"]) fun _ _ _ _ _ _ us hl => match us, hl with | [_], _ => rfl
  have F15 := fun_mk (st := s_law_is_word) l15 c15 k15
  have b15 := F15.binds (ps := ["thing", "most"]) fun _ _ _ _ _ _ us hl => match us, hl with | [_, _], _ => rfl
  have F16 := fun_mk (st := s_law_is_item) l16 c16 k16
  have b16 := F16.binds (ps := ["thing"]) fun _ _ _ _ _ _ us hl => match us, hl with | [_], _ => rfl
  have F17 := fun_mk (st := s_law_is_class) l17 c17 k17
  have b17 := F17.binds (ps := ["thing"]) fun _ _ _ _ _ _ us hl => match us, hl with | [_], _ => rfl
  have F18 := fun_mk (st := s_law_is_answer) l18 c18 k18
  have b18 := F18.binds (ps := ["thing"]) fun _ _ _ _ _ _ us hl => match us, hl with | [_], _ => rfl
  have F19 := fun_mk (st := s_law_near) l19 c19 k19
  have b19 := F19.binds (ps := ["bag"]) fun _ _ _ _ _ _ us hl => match us, hl with | [_], _ => rfl
  have F20 := fun_mk (st := s_law) l20 c20 k20
  have b20 := F20.binds (ps := ["script"]) fun _ _ _ _ _ _ us hl => match us, hl with | [_], _ => rfl
  have T : Txt K mg := {
    f_consists_of := f_consists_of, fd_consists_of := _, F_consists_of := F0, b_consists_of := b0, g_consists_of := PySem.W.mg_of X G a0,
    f_is_integer := f_is_integer, fd_is_integer := _, F_is_integer := F1, b_is_integer := b1, g_is_integer := PySem.W.mg_of X G a1,
    f_is_small_word := f_is_small_word, fd_is_small_word := _, F_is_small_word := F2, b_is_small_word := b2, g_is_small_word := PySem.W.mg_of X G a2,
    f_is_class_name := f_is_class_name, fd_is_class_name := _, F_is_class_name := F3, b_is_class_name := b3, g_is_class_name := PySem.W.mg_of X G a3,
    f_is_item := f_is_item, fd_is_item := _, F_is_item := F4, b_is_item := b4, g_is_item := PySem.W.mg_of X G a4,
    f_is_raised := f_is_raised, fd_is_raised := _, F_is_raised := F5, b_is_raised := b5, g_is_raised := PySem.W.mg_of X G a5,
    f_is_answer := f_is_answer, fd_is_answer := _, F_is_answer := F6, b_is_answer := b6, g_is_answer := PySem.W.mg_of X G a6,
    f_law_take := f_law_take, fd_law_take := _, F_law_take := F7, b_law_take := b7, g_law_take := PySem.W.mg_of X G a7,
    f_law_of := f_law_of, fd_law_of := _, F_law_of := F8, b_law_of := b8, g_law_of := PySem.W.mg_of X G a8,
    f_law_class := f_law_class, fd_law_class := _, F_law_class := F9, b_law_class := b9, g_law_class := PySem.W.mg_of X G a9,
    f_law_bag := f_law_bag, fd_law_bag := _, F_law_bag := F10, b_law_bag := b10, g_law_bag := PySem.W.mg_of X G a10,
    f_law_word := f_law_word, fd_law_word := _, F_law_word := F11, b_law_word := b11, g_law_word := PySem.W.mg_of X G a11,
    f_law_any := f_law_any, fd_law_any := _, F_law_any := F12, b_law_any := b12, g_law_any := PySem.W.mg_of X G a12,
    f_law_number := f_law_number, fd_law_number := _, F_law_number := F13, b_law_number := b13, g_law_number := PySem.W.mg_of X G a13,
    f_law_is_integer := f_law_is_integer, fd_law_is_integer := _, F_law_is_integer := F14, b_law_is_integer := b14, g_law_is_integer := PySem.W.mg_of X G a14,
    f_law_is_word := f_law_is_word, fd_law_is_word := _, F_law_is_word := F15, b_law_is_word := b15, g_law_is_word := PySem.W.mg_of X G a15,
    f_law_is_item := f_law_is_item, fd_law_is_item := _, F_law_is_item := F16, b_law_is_item := b16, g_law_is_item := PySem.W.mg_of X G a16,
    f_law_is_class := f_law_is_class, fd_law_is_class := _, F_law_is_class := F17, b_law_is_class := b17, g_law_is_class := PySem.W.mg_of X G a17,
    f_law_is_answer := f_law_is_answer, fd_law_is_answer := _, F_law_is_answer := F18, b_law_is_answer := b18, g_law_is_answer := PySem.W.mg_of X G a18,
    f_law_near := f_law_near, fd_law_near := _, F_law_near := F19, b_law_near := b19, g_law_near := PySem.W.mg_of X G a19,
    m_abs := PySem.W.mg_none_of X G z_abs, m_all := PySem.W.mg_none_of X G z_all, m_bool := PySem.W.mg_none_of X G z_bool, m_int := PySem.W.mg_none_of X G z_int, m_isinstance := PySem.W.mg_none_of X G z_isinstance, m_len := PySem.W.mg_none_of X G z_len, m_list := PySem.W.mg_none_of X G z_list, m_max := PySem.W.mg_none_of X G z_max, m_min := PySem.W.mg_none_of X G z_min, m_range := PySem.W.mg_none_of X G z_range, m_str := PySem.W.mg_none_of X G z_str, m_tuple := PySem.W.mg_none_of X G z_tuple, c_SMALL_LETTERS := ⟨_, PySem.W.mg_of X G y_SMALL_LETTERS⟩, c_CAPITAL_LETTERS := ⟨_, PySem.W.mg_of X G y_CAPITAL_LETTERS⟩, c_MOST_CLASS_LETTERS := ⟨_, PySem.W.mg_of X G y_MOST_CLASS_LETTERS⟩, c_MOST_WORD_LETTERS := ⟨_, PySem.W.mg_of X G y_MOST_WORD_LETTERS⟩
  }
  exact ⟨PySem.W.fnOf "law" "law" (defArgs s_law) (defBody s_law) (defScope s_law) .none kV20 dc20 pm20 an20 cd20 ct20, fun s v => .of_eq rfl, fun base _ _ => ok_law T F20⟩
end Lw
open PySem PySem.W PyProof.Rows in
set_option maxRecDepth 100000 in
set_option maxHeartbeats 0 in
theorem PySem.Challenge.cw_whatpasses_k05_items_and_answers_holds : PySem.Challenge.rw_whatpasses_k05_items_and_answers.Holds := by
  w_on; o_law; k_head; (case hw => w_witness2)
  k_fill
  refine L2.walk_ofB (l := PySem.Challenge.rw_whatpasses_k05_items_and_answers) (n := 63) (k := 9) (x := "script") (CX := fun _ => L2.CX0) (sp := fun w => Lw.spLaw _) rfl (by decide) rfl ⟨rfl, by decide, by decide⟩ (fun w h Y => PySem.W.kIn_of Y) ?F (fun _ _ a ns hl hb _ hS => ⟨a, ns, rfl, hS, hl, hb, fun _ => rfl⟩) (fun _ _ _ _ _ h => h)
  case F =>
    intro w mg fa h KX G hmg
    refine' Lw.all_mk KX G hmg ?a0 ?l0 ?c0 ?k0 ?a1 ?l1 ?c1 ?k1 ?a2 ?l2 ?c2 ?k2 ?a3 ?l3 ?c3 ?k3 ?a4 ?l4 ?c4 ?k4 ?a5 ?l5 ?c5 ?k5 ?a6 ?l6 ?c6 ?k6 ?a7 ?l7 ?c7 ?k7 ?a8 ?l8 ?c8 ?k8 ?a9 ?l9 ?c9 ?k9 ?a10 ?l10 ?c10 ?k10 ?a11 ?l11 ?c11 ?k11 ?a12 ?l12 ?c12 ?k12 ?a13 ?l13 ?c13 ?k13 ?a14 ?l14 ?c14 ?k14 ?a15 ?l15 ?c15 ?k15 ?a16 ?l16 ?c16 ?k16 ?a17 ?l17 ?c17 ?k17 ?a18 ?l18 ?c18 ?k18 ?a19 ?l19 ?c19 ?k19 ?a20 ?l20 ?c20 ?k20 ?z_abs ?z_all ?z_bool ?z_int ?z_isinstance ?z_len ?z_list ?z_max ?z_min ?z_range ?z_str ?z_tuple ?y_SMALL_LETTERS ?y_CAPITAL_LETTERS ?y_MOST_CLASS_LETTERS ?y_MOST_WORD_LETTERS
    (case a0 => k_is)
    (case l0 => k_is)
    (case c0 => k_is)
    (case k0 => k_is)
    (case a1 => k_is)
    (case l1 => k_is)
    (case c1 => k_is)
    (case k1 => k_is)
    (case a2 => k_is)
    (case l2 => k_is)
    (case c2 => k_is)
    (case k2 => k_is)
    (case a3 => k_is)
    (case l3 => k_is)
    (case c3 => k_is)
    (case k3 => k_is)
    (case a4 => k_is)
    (case l4 => k_is)
    (case c4 => k_is)
    (case k4 => k_is)
    (case a5 => k_is)
    (case l5 => k_is)
    (case c5 => k_is)
    (case k5 => k_is)
    (case a6 => k_is)
    (case l6 => k_is)
    (case c6 => k_is)
    (case k6 => k_is)
    (case a7 => k_is)
    (case l7 => k_is)
    (case c7 => k_is)
    (case k7 => k_is)
    (case a8 => k_is)
    (case l8 => k_is)
    (case c8 => k_is)
    (case k8 => k_is)
    (case a9 => k_is)
    (case l9 => k_is)
    (case c9 => k_is)
    (case k9 => k_is)
    (case a10 => k_is)
    (case l10 => k_is)
    (case c10 => k_is)
    (case k10 => k_is)
    (case a11 => k_is)
    (case l11 => k_is)
    (case c11 => k_is)
    (case k11 => k_is)
    (case a12 => k_is)
    (case l12 => k_is)
    (case c12 => k_is)
    (case k12 => k_is)
    (case a13 => k_is)
    (case l13 => k_is)
    (case c13 => k_is)
    (case k13 => k_is)
    (case a14 => k_is)
    (case l14 => k_is)
    (case c14 => k_is)
    (case k14 => k_is)
    (case a15 => k_is)
    (case l15 => k_is)
    (case c15 => k_is)
    (case k15 => k_is)
    (case a16 => k_is)
    (case l16 => k_is)
    (case c16 => k_is)
    (case k16 => k_is)
    (case a17 => k_is)
    (case l17 => k_is)
    (case c17 => k_is)
    (case k17 => k_is)
    (case a18 => k_is)
    (case l18 => k_is)
    (case c18 => k_is)
    (case k18 => k_is)
    (case a19 => k_is)
    (case l19 => k_is)
    (case c19 => k_is)
    (case k19 => k_is)
    (case a20 => k_is)
    (case l20 => k_is)
    (case c20 => k_is)
    (case k20 => k_is)
    (case z_abs => k_is)
    (case z_all => k_is)
    (case z_bool => k_is)
    (case z_int => k_is)
    (case z_isinstance => k_is)
    (case z_len => k_is)
    (case z_list => k_is)
    (case z_max => k_is)
    (case z_min => k_is)
    (case z_range => k_is)
    (case z_str => k_is)
    (case z_tuple => k_is)
    (case y_SMALL_LETTERS => k_is)
    (case y_CAPITAL_LETTERS => k_is)
    (case y_MOST_CLASS_LETTERS => k_is)
    (case y_MOST_WORD_LETTERS => k_is)
