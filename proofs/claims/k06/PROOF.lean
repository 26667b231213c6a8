
import PyProof.Rows.All
import Wide.All
import OpenK.AllK
import Wide.FinOn
import HandS.ForMost
import HandS.Wide
import HandS.IsInst
import HandS.EndBits
import HandS.Walk
import HandS.Style
import HandS.Defaults
import PySem.Challenge.RW_whatpasses_k06_weights
set_option Elab.async false
set_option linter.all false
set_option maxRecDepth 100000
set_option maxHeartbeats 4000000

namespace Lw
open PySem PySem.Spec PyProof.Rows L2
def topS (i : Nat) : Stmt := PySem.Challenge.pw_whatpasses_k06_weights.main.body.getD i (.Pass ⟨0, 0, 0, 0⟩)
abbrev s_weight : Stmt := topS 1
theorem sc_weight : FnScope ["answer"] ["answer"] (defScope s_weight) := ⟨rfl, rfl, rfl, by decide +kernel, rfl, by decide +kernel, by decide +kernel⟩
abbrev s_law_bag : Stmt := topS 3
theorem sc_law_bag : FnScope ["script", "at", "cell"] ["script", "at"] (defScope s_law_bag) := ⟨rfl, rfl, rfl, by decide +kernel, rfl, by decide +kernel, by decide +kernel⟩
abbrev s_law_take : Stmt := topS 4
theorem sc_law_take : FnScope ["bag", "many", "digit", "mixed"] ["bag", "many"] (defScope s_law_take) := ⟨rfl, rfl, rfl, by decide +kernel, rfl, by decide +kernel, by decide +kernel⟩
abbrev s_law_of : Stmt := topS 5
theorem sc_law_of : FnScope ["bag", "some"] ["bag", "some"] (defScope s_law_of) := ⟨rfl, rfl, rfl, by decide +kernel, rfl, by decide +kernel, by decide +kernel⟩
abbrev s_law_number : Stmt := topS 6
theorem sc_law_number : FnScope ["bag", "near", "way", "top"] ["bag", "near"] (defScope s_law_number) := ⟨rfl, rfl, rfl, by decide +kernel, rfl, by decide +kernel, by decide +kernel⟩
abbrev s_law_word : Stmt := topS 7
theorem sc_law_word : FnScope ["bag", "most", "turn"] ["bag", "most"] (defScope s_law_word) := ⟨rfl, rfl, rfl, by decide +kernel, rfl, by decide +kernel, by decide +kernel⟩
abbrev s_law_class : Stmt := topS 8
theorem sc_law_class : FnScope ["bag", "letters", "found", "turn"] ["bag"] (defScope s_law_class) := ⟨rfl, rfl, rfl, by decide +kernel, rfl, by decide +kernel, by decide +kernel⟩
abbrev s_law_is_integer : Stmt := topS 9
theorem sc_law_is_integer : FnScope ["thing"] ["thing"] (defScope s_law_is_integer) := ⟨rfl, rfl, rfl, by decide +kernel, rfl, by decide +kernel, by decide +kernel⟩
abbrev s_law : Stmt := topS 10
theorem sc_law : FnScope ["script", "at", "bag", "many", "some", "copy", "raised", "answer", "turn", "item"] ["script"] (defScope s_law) := ⟨rfl, rfl, rfl, by decide +kernel, rfl, by decide +kernel, by decide +kernel⟩
/-- what the top leaves: where the defs stand, which names are built-in -/
structure Txt (K : PySem.W.Frag) (mg : Str → Option Value) where
  f_weight : Addr
  fd_weight : FuncData
  F_weight : Fun K "weight" "weight" s_weight f_weight fd_weight
  b_weight : Binds K fd_weight ["answer"] []
  g_weight : mg "weight" = some (.ref f_weight)
  f_law_bag : Addr
  fd_law_bag : FuncData
  F_law_bag : Fun K "_law_bag" "_law_bag" s_law_bag f_law_bag fd_law_bag
  b_law_bag : Binds K fd_law_bag ["script", "at"] []
  g_law_bag : mg "_law_bag" = some (.ref f_law_bag)
  f_law_take : Addr
  fd_law_take : FuncData
  F_law_take : Fun K "_law_take" "_law_take" s_law_take f_law_take fd_law_take
  b_law_take : Binds K fd_law_take ["bag", "many"] []
  g_law_take : mg "_law_take" = some (.ref f_law_take)
  f_law_of : Addr
  fd_law_of : FuncData
  F_law_of : Fun K "_law_of" "_law_of" s_law_of f_law_of fd_law_of
  b_law_of : Binds K fd_law_of ["bag", "some"] []
  g_law_of : mg "_law_of" = some (.ref f_law_of)
  f_law_number : Addr
  fd_law_number : FuncData
  F_law_number : Fun K "_law_number" "_law_number" s_law_number f_law_number fd_law_number
  b_law_number : Binds K fd_law_number ["bag", "near"] []
  g_law_number : mg "_law_number" = some (.ref f_law_number)
  f_law_word : Addr
  fd_law_word : FuncData
  F_law_word : Fun K "_law_word" "_law_word" s_law_word f_law_word fd_law_word
  b_law_word : Binds K fd_law_word ["bag", "most"] []
  g_law_word : mg "_law_word" = some (.ref f_law_word)
  f_law_class : Addr
  fd_law_class : FuncData
  F_law_class : Fun K "_law_class" "_law_class" s_law_class f_law_class fd_law_class
  b_law_class : Binds K fd_law_class ["bag"] []
  g_law_class : mg "_law_class" = some (.ref f_law_class)
  f_law_is_integer : Addr
  fd_law_is_integer : FuncData
  F_law_is_integer : Fun K "_law_is_integer" "_law_is_integer" s_law_is_integer f_law_is_integer fd_law_is_integer
  b_law_is_integer : Binds K fd_law_is_integer ["thing"] []
  g_law_is_integer : mg "_law_is_integer" = some (.ref f_law_is_integer)
  m_abs : mg "abs" = none
  m_bool : mg "bool" = none
  m_int : mg "int" = none
  m_isinstance : mg "isinstance" = none
  m_len : mg "len" = none
  m_list : mg "list" = none
  m_max : mg "max" = none
  m_min : mg "min" = none
  m_range : mg "range" = none
/-! ### short steps: where the walk's name is only a name -/

/-! ### isinstance -/
theorem ty_non {K : PySem.W.Frag} {H : Hp} : TyX K H .non (.type "NoneType") := .base .non
theorem ty_bl {K : PySem.W.Frag} {H : Hp} {b : Bool} : TyX K H (.bl b) (.type "bool") := .base (.bl b)
theorem ty_int {K : PySem.W.Frag} {H : Hp} {i : Int} : TyX K H (.int i) (.type "int") := .base (.int i)
theorem ty_str {K : PySem.W.Frag} {H : Hp} {z : Str} : TyX K H (.str z) (.type "str") := .base (.str z)
theorem ty_lst {K : PySem.W.Frag} {H : Hp} {a : Addr} {xs : List V} (e : H a = some (.lst xs)) : TyX K H (.ref a) (.type "list") := .base (.lst e)
theorem ty_tup {K : PySem.W.Frag} {H : Hp} {a : Addr} {xs : List V} (e : H a = some (.tup xs)) : TyX K H (.ref a) (.type "tuple") := .base (.tup e)
theorem kit_of2 {K : PySem.W.Frag} {a c : String} (r : Bool) (h : kitB a c = some r) : PySem.W.kitOne K (.type a) (.type c) = some r := kit_ty h

theorem ty_sqL {K : PySem.W.Frag} {H : Hp} {a : Addr} {xs : List V} (h : SqL K H a xs) : TyX K H (.ref a) (.type "list") := by
  rcases h with (h | ⟨o, h⟩) | ⟨o, its, n, h, c, _⟩
  · exact .base (.lst h)
  · exact .base (.frz h)
  · exact .kList h c
theorem ty_sqT {K : PySem.W.Frag} {H : Hp} {a : Addr} {xs : List V} (h : SqT K H a xs) : TyX K H (.ref a) (.type "tuple") := by
  rcases h with (h | ⟨o, h⟩) | ⟨o, its, n, h, c, _⟩
  · exact .base (.tup h)
  · exact .fTuple h
  · exact .kTuple h c
theorem small5 {n : Nat} (h : n ≤ 100000) : n < sizeLine := Nat.lt_of_le_of_lt h (by decide)
def isUp (c : Nat) : Bool := decide (65 ≤ c ∧ c ≤ 90)
def isLow (c : Nat) : Bool := decide (97 ≤ c ∧ c ≤ 122)

local macro_rules | `(tactic| walk_at "lw list") => `(tactic| first | assumption | exact upd_same | (rw [upd_ne (by assumption)]; assumption))
local macro_rules | `(tactic| walk_at "lw c") => `(tactic| first
  | (show (_ : Int) ≠ 0; omega)
  | exact log_small (by omega) (by assumption)
  | exact Or.inl ⟨by omega, by omega⟩
  | exact Or.inr ⟨by omega, by omega⟩
  | exact ⟨by omega, by omega⟩
  | exact ⟨by omega, by omega, by omega⟩)
local macro_rules | `(tactic| walk_at "lw n") => `(tactic| first | exact Nat.zero_le _ | (refine Nat.le_of_lt (small1000 ?_); simp only [List.length_cons, List.length_nil]; decide))
local macro_rules | `(tactic| walk_at "lw v") => `(tactic| first
  | refine ⟨_, rfl, ?_⟩
  | refine ⟨_, _, rfl, rfl, ?_⟩
  | refine ⟨_, _, rfl, ?_⟩
  | refine .inl ⟨_, rfl, ?_⟩
  | refine ⟨⟨_, rfl⟩, ?_⟩
  | refine ⟨rfl, ?_⟩
  | (refine' ⟨_, _, _, _, rfl, rfl, SqL.of ?h, ?r, ?_⟩; (case h => walk_at "lw list"); (case r => rfl))
  | (refine' ⟨_, _, _, _, rfl, rfl, ?h, ?r, ?_⟩; (case h => walk_at "lw list"); (case r => rfl))
  | (refine' ⟨_, _, rfl, .inl ⟨_, SqL.of ?h, rfl⟩, ?_⟩; (case h => walk_at "lw list"))
  | (refine' ⟨_, _, rfl, .inl ⟨_, ?h, rfl⟩, ?_⟩; (case h => assumption))
  | (refine' ⟨_, _, rfl, .inr ⟨_, ?h, rfl⟩, ?_⟩; (case h => assumption))
  | (refine ⟨_, _, rfl, ⟨(by have := PySem.sizeLine_eq; omega), rfl⟩, ?_⟩)
  | (refine ⟨(by walk_at "lw c"), ?_⟩))
local macro_rules | `(tactic| walk_at "lw isi") => `(tactic| (refine' ⟨_, _, _, _, _, rfl, .ty _, ?ty, ?k, ?_⟩; (case ty => first | exact ty_int | exact ty_str | exact ty_non | exact ty_bl | exact ty_lst (by assumption) | exact ty_tup (by assumption) | exact ty_sqL (by assumption) | exact ty_sqT (by assumption)); (case k => first | (refine kit_of2 true ?_; decide +kernel) | (refine kit_of2 false ?_; decide +kernel))))
local macro_rules | `(tactic| walk_at "lw w") => `(tactic| first | walk_at "lw v" | walk_at "lw isi")

/-! ### the draws -/
/-- the bag of draws at b: its last number is at most n -/
def Bag (H : Hp) (b : Addr) (n : Int) : Prop := ∃ x y z : Int, H b = some (.lst [.int x, .int y, .int z]) ∧ 0 ≤ x ∧ 0 ≤ y ∧ y ≤ 2000000000 ∧ 0 ≤ z ∧ z ≤ n
/-- all that was tracked stands as it stood, but what stands at b -/
def Keep (b : Addr) (H H' : Hp) : Prop := ∀ q o, q ≠ b → H q = some o → H' q = some o
theorem Keep.refl (b : Addr) (H : Hp) : Keep b H H := fun _ _ _ h => h
theorem Keep.trans {b : Addr} {H H1 H2 : Hp} (x : Keep b H H1) (y : Keep b H1 H2) : Keep b H H2 := fun q o n h => y q o n (x q o n h)
theorem Keep.upd (b : Addr) (H : Hp) (o : HO) : Keep b H (upd H b o) := fun q u n h => by rw [upd_ne n]; exact h
theorem Keep.new {b p : Addr} {H : Hp} {o : HO} (hp : H p = none) : Keep b H (L2.upd H p o) := fun q u _ h => by
  rw [upd_ne (ne_of_none h hp)]
  exact h
theorem Bag.new {b p : Addr} {H : Hp} {o : HO} {n : Int} (h : Bag H b n) (hp : H p = none) : Bag (L2.upd H p o) b n := by
  obtain ⟨x, y, z, e, r⟩ := h
  exact ⟨x, y, z, by rw [upd_ne (ne_of_none e hp)]; exact e, r⟩
theorem Bag.mono {b : Addr} {H : Hp} {n m : Int} (h : Bag H b n) (l : n ≤ m) : Bag H b m := by
  obtain ⟨x, y, z, e, r1, r2, r3, r4, r5⟩ := h
  exact ⟨x, y, z, e, r1, r2, r3, r4, by omega⟩
theorem Bag.ne {b p : Addr} {H : Hp} {n : Int} (h : Bag H b n) (hp : H p = none) : b ≠ p := by
  obtain ⟨x, y, z, e, _⟩ := h
  exact ne_of_none e hp
theorem same_new {H : Hp} {p : Addr} {o : HO} (h : H p = none) : Same H (upd H p o) := fun b x e => by
  rw [upd_ne (ne_of_none e h)]
  exact e

/-- a draw: an int from 0 to m less one -/
def sp_take : Sp := fun vs H Q _ => ∃ (b : Addr) (m n : Int), vs = [.ref b, .int m] ∧ Bag H b n ∧ n ≤ 1000000000 ∧ 0 < m ∧ m < 2 ^ 200 ∧
  ∀ (d : Int) (H' : Hp), 0 ≤ d → d < m → Bag H' b (n + 1) → Keep b H H' → Q (.int d) H'
theorem small200 {j : Int} (h0 : 0 < j) (h : j < 2 ^ 200) : j.natAbs < 2 ^ 200 := by
  have e : ((2 : Int) ^ 200) = ((2 ^ 200 : Nat) : Int) := by decide +kernel
  rw [e] at h
  omega
theorem log_small {i j : Int} (h0 : 0 < j) (h : j < 2 ^ 200) : CDivW i j := wide_div h0 (small200 h0 h) (by decide) (by decide)
section
variable {P : Program} {w : World} {K : PySem.W.Frag} {mg : Str → Option Value} {base : Heap}
theorem ok_law_take (T : Txt K mg) : FnOk P w K mg base CX0 1 T.f_law_take T.fd_law_take ["bag", "many"] sp_take := by
  refine T.F_law_take.ok sc_law_take (fun vs H Q E h => ?_) (fun cdv A outer s H vs Q E hr h => ?_)
  · obtain ⟨b, m, n, rfl, _⟩ := h
    rfl
  · obtain ⟨b, m, n, rfl, ⟨x, y, z, hb, hx, hy, hy2, hz, hzn⟩, hn, hm0, hm, q⟩ := h
    refine ⟨_, (pss_cons (ps_if (pt_cmpR op_gt (pe_ix ix_list (pv 0) pe_int (fun _ _ => rfl)) pe_int (nomark _)) (pss_cons (ps_set (i := 2) sc_law_take.nd rfl (.inl rfl) (pe_op op_modN (pe_callTy call_int1 (by rfl) T.m_int (by decide +kernel) (pa_cons (pe_ix ix_list (pv 0) pe_int (fun _ _ => rfl)) pa_nil)) (pv 1)))
        (pss_cons (ps_asg (pe_op op_fdivW (pe_ix ix_list (pv 0) pe_int (fun _ _ => rfl)) (pv 1)) (pg_sub (pv 0) pe_int set_list))
        (pss_one (ps_ret (pv 2))))) pss_nil)
        (pss_cons (ps_asg (pe_op op_add (pe_ix ix_list (pv 0) pe_int (fun _ _ => rfl)) pe_int) (pg_sub (pv 0) pe_int set_list))
        (pss_cons (ps_set (i := 3) sc_law_take.nd rfl (.inl rfl) (pe_op op_modN (pe_callTy call_int1 (by rfl) T.m_int (by decide +kernel) (pa_cons (pe_op op_mul (pe_op op_add (pe_ix ix_list (pv 0) pe_int (fun _ _ => rfl)) (pe_op op_mul pe_int (pe_ix ix_list (pv 0) pe_int (fun _ _ => rfl)))) (pe_op op_add (pe_ix ix_list (pv 0) pe_int (fun _ _ => rfl)) pe_int)) pa_nil)) pe_int))
        (pss_one (ps_ret (pe_op op_modN (pe_callTy call_int1 (by rfl) T.m_int (by decide +kernel) (pa_cons (pe_op op_fdivN (pe_op op_modN (pe_callTy call_int1 (by rfl) T.m_int (by decide +kernel) (pa_cons (pe_op op_pow (pe_op op_add (pv 3) (pe_op op_mul pe_int (pe_ix ix_list (pv 0) pe_int (fun _ _ => rfl)))) pe_int) pa_nil)) pe_int) pe_int) pa_nil)) (pv 1))))))), ?_⟩
    repeat (walk_at "lw v")
    refine ite2 (fun e => ?_) (fun e => ?_)
    · have e0 : 0 < x := of_decide_eq_true e
      repeat (walk_at "lw v")
      refine ⟨log_small hm0 hm, ?_⟩
      repeat (walk_at "lw v")
      refine q _ _ (Int.fmod_nonneg_of_pos _ hm0) (Int.fmod_lt_of_pos _ hm0) ⟨x / m, y, z, upd_same, Int.ediv_nonneg hx (by omega), hy, hy2, hz, by omega⟩ (Keep.upd _ _ _)
    · have f1 : 0 ≤ ((y + 40009 * (z + 1)) * (y + 7919)).fmod 2147483647 := Int.fmod_nonneg_of_pos _ (by decide)
      have f2 : ((y + 40009 * (z + 1)) * (y + 7919)).fmod 2147483647 < 2147483647 := Int.fmod_lt_of_pos _ (by decide)
      repeat (walk_at "lw v")
      refine q _ _ (Int.fmod_nonneg_of_pos _ hm0) (Int.fmod_lt_of_pos _ hm0) ⟨x, y, z + 1, upd_same, hx, hy, hy2, by omega, by omega⟩ (Keep.upd _ _ _)
theorem atI_of {α : Type} {xs : List α} {d : Int} (h0 : 0 ≤ d) (h1 : d < (xs.length : Int)) : ∃ v, v ∈ xs ∧ atI xs d = some v := by
  obtain ⟨k, rfl⟩ := Int.eq_ofNat_of_zero_le h0
  have hk : k < xs.length := by omega
  exact ⟨xs[k], List.getElem_mem hk, atI_nat (List.getElem?_eq_getElem hk)⟩
/-- one of some: of a list, or a letter of a text -/
def sp_of : Sp := fun vs H Q _ => ∃ (b : Addr) (s : V) (n : Int), vs = [.ref b, s] ∧ Bag H b n ∧ n ≤ 1000000000 ∧
  ((∃ (l : Addr) (xs : List V), s = .ref l ∧ l ≠ b ∧ H l = some (.lst xs) ∧ 0 < xs.length ∧ xs.length ≤ 100000 ∧ ∀ (v : V) (H' : Hp), v ∈ xs → Bag H' b (n + 1) → Keep b H H' → Q v H') ∨
    (∃ z : Str, s = .str z ∧ 0 < z.length ∧ z.length ≤ 1000 ∧ ∀ (c : Nat) (H' : Hp), c ∈ z.cps.toList → Bag H' b (n + 1) → Keep b H H' → Q (.str ⟨#[c]⟩) H'))
theorem ok_law_of (T : Txt K mg) : FnOk P w K mg base CX0 2 T.f_law_of T.fd_law_of ["bag", "some"] sp_of := by
  have G_law_take := ok_law_take (P := P) (w := w) (base := base) T
  refine T.F_law_of.ok sc_law_of (fun vs H Q E h => ?_) (fun cdv A outer s H vs Q E hr h => ?_)
  · obtain ⟨b, m, n, rfl, _⟩ := h
    rfl
  · obtain ⟨b, sm, n, rfl, hb, hn, q⟩ := h
    refine ⟨_, (pss_one (ps_ret (pe_ix ix_seq (pv 1) (pe_call G_law_take hr (by rfl) T.g_law_take T.F_law_take.kp T.b_law_take .nil pass0 (pa_cons (pv 0) (pa_cons (pe_callB call_len (by rfl) T.m_len (by decide +kernel) (pa_cons (pv 1) pa_nil)) pa_nil))) (fun _ _ => rfl)))), ?_⟩
    rcases q with ⟨l, xs, rfl, nl, hl, l0, l1, q⟩ | ⟨z, rfl, z0, z1, q⟩
    · repeat (walk_at "lw v")
      refine ⟨b, _, n, rfl, hb, hn, by omega, by omega, fun d H' d0 d1 hB hK => ?_⟩
      obtain ⟨v, hv, ha⟩ := atI_of (xs := xs) d0 d1
      exact .inl ⟨l, xs, d, v, rfl, rfl, SqL.of (hK l _ nl hl), ha, q v H' hv hB hK⟩
    · repeat (walk_at "lw v")
      refine ⟨b, _, n, rfl, hb, hn, by omega, by omega, fun d H' d0 d1 hB hK => ?_⟩
      obtain ⟨v, hv, ha⟩ := atI_of (xs := z.cps.toList) d0 (by rw [Array.length_toList]; exact d1)
      exact .inr (.inr ⟨z, d, v, rfl, rfl, by have := PySem.sizeLine_eq; omega, ha, q v H' hv hB hK⟩)
end

theorem of_map {ns : List Int} {v : V} (h : v ∈ ns.map V.int) : ∃ i, v = V.int i := by
  obtain ⟨i, _, e⟩ := List.mem_map.mp h
  exact ⟨i, e.symm⟩
theorem bag_at {H : Hp} {p : Addr} {x c i : Int} (hx : 0 ≤ x) (i0 : 0 ≤ i) (i1 : i ≤ 63) : Bag (upd H p (.lst [.int x, .int (c.fmod 998244353 + 3000017 * i), .int 0])) p 0 := by
  have f1 : 0 ≤ c.fmod 998244353 := Int.fmod_nonneg_of_pos _ (by decide)
  have f2 : c.fmod 998244353 < 998244353 := Int.fmod_lt_of_pos _ (by decide)
  exact ⟨x, _, 0, upd_same, hx, by omega, by omega, by omega, by omega⟩
/-- a bag for a cell of the script -/
def sp_bag (K : PySem.W.Frag) : Sp := fun vs H Q _ => ∃ (a : Addr) (ns : List Int) (i : Int), vs = [.ref a, .int i] ∧ SqL K H a (ns.map V.int) ∧ ns.length ≤ 63 ∧ 0 ≤ i ∧ i ≤ 63 ∧
  ∀ (b : Addr) (H' : Hp), H b = none → Bag H' b 0 → Same H H' → Q (.ref b) H'
section
variable {P : Program} {w : World} {K : PySem.W.Frag} {mg : Str → Option Value} {base : Heap}
theorem ok_law_bag (T : Txt K mg) : FnOk P w K mg base CX0 1 T.f_law_bag T.fd_law_bag ["script", "at"] (sp_bag K) := by
  refine T.F_law_bag.ok sc_law_bag (fun vs H Q E h => ?_) (fun cdv A outer s H vs Q E hr h => ?_)
  · obtain ⟨b, m, n, rfl, _⟩ := h
    rfl
  · obtain ⟨a, ns, i, rfl, hS, hl, i0, i1, q⟩ := h
    refine ⟨_, (pss_cons (ps_set (i := 2) sc_law_bag.nd rfl (.inl rfl) (pe_ifExp (pt_cmpR op_lt (pv 1) (pe_callB call_len (by rfl) T.m_len (by decide +kernel) (pa_cons (pv 0) pa_nil)) (nomark _)) (pe_ix ix_list (pv 0) (pv 1) (fun _ _ => rfl)) pe_int))
        (pss_one (ps_ret (pe_lst (pa_cons (pe_ifExp (pt_cmpR op_ge (pe_callB call_abs (by rfl) T.m_abs (by decide +kernel) (pa_cons (pv 2) pa_nil)) (pe_op op_pow pe_int pe_int) (nomark _)) (pe_callB call_abs (by rfl) T.m_abs (by decide +kernel) (pa_cons (pv 2) pa_nil)) pe_int) (pa_cons (pe_op op_add (pe_op op_modN (pe_callTy call_int1 (by rfl) T.m_int (by decide +kernel) (pa_cons (pv 2) pa_nil)) pe_int) (pe_op op_mul pe_int (pv 1))) (pa_cons pe_int pa_nil))))))), ?_⟩
    repeat (walk_at "lw v")
    refine ite2 (fun e => ?_) (fun e => ?_)
    · have e1 : i < ((ns.map V.int).length : Int) := of_decide_eq_true e
      obtain ⟨v, hv, ha⟩ := atI_of i0 e1
      obtain ⟨c, rfl⟩ := of_map hv
      repeat (walk_at "lw v")
      refine ⟨_, _, _, _, rfl, rfl, hS, ha, ?_⟩
      repeat (walk_at "lw v")
      refine ite2 (fun e => ?_) (fun e => ?_)
      · repeat (walk_at "lw v")
        refine ⟨(by walk_at "lw n"), fun p hp => q p _ hp (bag_at (by split <;> omega) i0 i1) (same_new hp)⟩
      · repeat (walk_at "lw v")
        refine ⟨(by walk_at "lw n"), fun p hp => q p _ hp (bag_at (by decide) i0 i1) (same_new hp)⟩
    · repeat (walk_at "lw v")
      refine ⟨(by walk_at "lw n"), fun p hp => q p _ hp (bag_at (by decide) i0 i1) (same_new hp)⟩
end

/-! ### names of classes -/
/-- a class name: a capital letter and at most eleven letters -/
def IsClass (z : Str) : Prop := ∃ c cs, z.cps.toList = c :: cs ∧ cs.length ≤ 11 ∧ isUp c = true ∧ cs.all (fun x => isUp x || isLow x) = true
def sp_class : Sp := fun vs H Q _ => ∃ (b : Addr) (n : Int), vs = [.ref b] ∧ Bag H b n ∧ n ≤ 900000000 ∧
  ∀ (z : Str) (H' : Hp), IsClass z → Bag H' b (n + 20) → Keep b H H' → Q (.str z) H'
section
variable {P : Program} {w : World} {K : PySem.W.Frag} {mg : Str → Option Value} {base : Heap}
theorem ok_law_class (T : Txt K mg) : FnOk P w K mg base CX0 3 T.f_law_class T.fd_law_class ["bag"] sp_class := by
  have G_law_take := ok_law_take (P := P) (w := w) (base := base) T
  have G_law_of := ok_law_of (P := P) (w := w) (base := base) T
  refine T.F_law_class.ok sc_law_class (fun vs H Q E h => ?_) (fun cdv A outer s H vs Q E hr h => ?_)
  · obtain ⟨b, n, rfl, _⟩ := h
    rfl
  · obtain ⟨b, n, rfl, hb, hn, q⟩ := h
    refine ⟨_, (pss_cons (ps_set (i := 1) sc_law_class.nd rfl (.inl rfl) pe_str)
        (pss_cons (ps_set (i := 2) sc_law_class.nd rfl (.inl rfl) (pe_call G_law_of hr (by rfl) T.g_law_of T.F_law_of.kp T.b_law_of .nil pass0 (pa_cons (pv 0) (pa_cons (pe_slice sl_str (pv 1) (po_some pe_int) po_none) pa_nil))))
        (pss_cons (ps_for PassesOwn.never rfl (pi_range1 (by rfl) T.m_range (pa_cons (pe_call G_law_take (hr.mono (by omega)) (by rfl) T.g_law_take T.F_law_take.kp T.b_law_take .nil pass0 (pa_cons (pv 0) (pa_cons pe_int pa_nil))) pa_nil)) (pg_name (i := 3) sc_law_class.nd rfl (.inl rfl)) (pss_one (ps_set (i := 2) sc_law_class.nd rfl (.inl rfl) (pe_op op_add_str (pv 2) (pe_call G_law_of hr (by rfl) T.g_law_of T.F_law_of.kp T.b_law_of .nil pass0 (pa_cons (pv 0) (pa_cons (pv 1) pa_nil)))))))
        (pss_one (ps_ret (pv 2)))))), ?_⟩
    repeat (walk_at "lw v")
    refine ⟨by decide +kernel, ?_⟩
    repeat (walk_at "lw v")
    refine ⟨b, _, n, rfl, hb, by omega, .inr ⟨_, rfl, by decide +kernel, by decide +kernel, fun c H1 hc hB1 hK1 => ?_⟩⟩
    have hup : isUp c = true := (by decide +kernel : ∀ c ∈ (cutS (Str.ofString "abcdefghijklmnopqrstuvwxyzABCDEFGHIJKLMNOPQRSTUVWXYZ") (some 26) none).cps.toList, isUp c = true) c hc
    repeat (walk_at "lw v")
    refine ⟨b, _, _, rfl, hB1, by omega, by decide, by decide, fun d H2 d0 d1 hB2 hK2 => ?_⟩
    repeat (walk_at "lw v")
    refine ⟨by omega, by omega, ?_⟩
    refine for_range (lo := 0) (n := d.toNat) (fun i σ H' => ∃ (z : Str) (t : Option V) (cs : List Nat), σ = [some (.ref b), some (.str (Str.ofString "abcdefghijklmnopqrstuvwxyzABCDEFGHIJKLMNOPQRSTUVWXYZ")), some (.str z), t] ∧
        z.cps.toList = c :: cs ∧ cs.length = i ∧ cs.all (fun x => isUp x || isLow x) = true ∧ Bag H' b (n + 2 + i) ∧ Keep b H H') ?_ ?_ ?_
    · exact ⟨_, none, [], rfl, rfl, rfl, rfl, hB2.mono (by omega), hK1.trans hK2⟩
    · rintro i σ H' hi ⟨z, t, cs, rfl, ez, el, ec, hB, hK⟩
      repeat (walk_at "lw v")
      refine ⟨b, _, _, rfl, hB, by omega, .inr ⟨_, rfl, by decide +kernel, by decide +kernel, fun c2 H3 hc2 hB3 hK3 => ?_⟩⟩
      have hl2 : (isUp c2 || isLow c2) = true := (by decide +kernel : ∀ c ∈ (Str.ofString "abcdefghijklmnopqrstuvwxyzABCDEFGHIJKLMNOPQRSTUVWXYZ").cps.toList, (isUp c || isLow c) = true) c2 hc2
      have hz : z.length = i + 1 := by
        show z.cps.size = i + 1
        rw [← Array.length_toList, ez, List.length_cons, el]
      refine ⟨z, ⟨#[c2]⟩, rfl, rfl, ?_, ?_⟩
      · show z.length + 1 ≤ _
        have := PySem.sizeLine_eq
        omega
      · refine ⟨z ++ ⟨#[c2]⟩, _, cs ++ [c2], rfl, ?_, ?_, ?_, hB3.mono (by omega), hK.trans hK3⟩
        · show (z.cps ++ #[c2]).toList = _
          rw [Array.toList_append, ez]
          rfl
        · rw [List.length_append, el]
          rfl
        · rw [List.all_append, ec]
          simp only [List.all_cons, hl2, List.all_nil, Bool.and_true]
    · rintro σ H' ⟨z, t, cs, rfl, ez, el, ec, hB, hK⟩
      repeat (walk_at "lw v")
      exact q z H' ⟨c, cs, ez, by omega, hup, ec⟩ (hB.mono (by omega)) hK
end

/-! ### words -/
/-- a word: small letters, at most m -/
def IsWord (z : Str) (m : Nat) : Prop := z.length ≤ m ∧ z.cps.toList.all isLow = true
/-- texts joined, as lists of codes -/
def joinL (sep : List Nat) : List (List Nat) → List Nat
  | [] => []
  | [x] => x
  | x :: y :: r => x ++ sep ++ joinL sep (y :: r)
theorem str_join_list (sep : Str) : ∀ ys : List Str, (Str.join sep ys).cps.toList = joinL sep.cps.toList (ys.map fun y => y.cps.toList)
  | [] => rfl
  | [x] => rfl
  | x :: y :: r => by
    have ih := str_join_list sep (y :: r)
    show ((x.cps ++ sep.cps) ++ (Str.join sep (y :: r)).cps).toList = _
    rw [Array.toList_append, Array.toList_append, ih]
    rfl
theorem join_list (sep : Str) (ys : List Str) : (Txt.join sep ys).cps.toList = joinL sep.cps.toList (ys.map fun y => y.cps.toList) := by
  show (PySem.Builtin.Str.glued sep ys).cps.toList = _
  rw [StrLaws.glued_eq_join]
  exact str_join_list sep ys
theorem joinL_nil : ∀ ls : List (List Nat), joinL [] ls = ls.flatten
  | [] => rfl
  | [x] => by simp [joinL]
  | x :: y :: r => by
    show x ++ [] ++ joinL [] (y :: r) = _
    rw [joinL_nil (y :: r), List.append_nil]
    rfl
theorem joined_word {ys : List Str} {m : Nat} (h : ys.length ≤ m) (h1 : ∀ y ∈ ys, ∃ c, y = ⟨#[c]⟩ ∧ isLow c = true) : IsWord (Txt.join (Str.ofString "") ys) m := by
  have e : (Txt.join (Str.ofString "") ys).cps.toList = (ys.map fun y => y.cps.toList).flatten := by
    rw [join_list, show (Str.ofString "").cps.toList = [] from rfl, joinL_nil]
  have g : ∀ ys : List Str, (∀ y ∈ ys, ∃ c, y = ⟨#[c]⟩ ∧ isLow c = true) → ((ys.map fun y => y.cps.toList).flatten).length = ys.length ∧ ((ys.map fun y => y.cps.toList).flatten).all isLow = true := by
    intro ys
    induction ys with
    | nil => intro _; exact ⟨rfl, rfl⟩
    | cons y r ih =>
      intro h
      obtain ⟨c, rfl, hc⟩ := h y List.mem_cons_self
      obtain ⟨i1, i2⟩ := ih fun z hz => h z (List.mem_cons_of_mem _ hz)
      have e : ((Str.mk #[c] :: r).map fun y => y.cps.toList).flatten = c :: (r.map fun y => y.cps.toList).flatten := rfl
      rw [e]
      refine ⟨?_, ?_⟩
      · rw [List.length_cons, i1, List.length_cons]
      · rw [List.all_cons, hc, i2]
        rfl
  obtain ⟨g1, g2⟩ := g ys h1
  refine ⟨?_, ?_⟩
  · show (Txt.join (Str.ofString "") ys).cps.size ≤ m
    rw [← Array.length_toList, e, g1]
    exact h
  · rw [e]
    exact g2
def sp_word : Sp := fun vs H Q _ => ∃ (b : Addr) (m n : Int), vs = [.ref b, .int m] ∧ Bag H b n ∧ n ≤ 900000000 ∧ 0 ≤ m ∧ m ≤ 100 ∧
  ∀ (z : Str) (H' : Hp), IsWord z m.toNat → Bag H' b (n + 200) → Keep b H H' → Q (.str z) H'
section
variable {P : Program} {w : World} {K : PySem.W.Frag} {mg : Str → Option Value} {base : Heap}
theorem ok_law_word (T : Txt K mg) : FnOk P w K mg base CX0 3 T.f_law_word T.fd_law_word ["bag", "most"] sp_word := by
  have G_law_take := ok_law_take (P := P) (w := w) (base := base) T
  have G_law_of := ok_law_of (P := P) (w := w) (base := base) T
  refine T.F_law_word.ok sc_law_word (fun vs H Q E h => ?_) (fun cdv A outer s H vs Q E hr h => ?_)
  · obtain ⟨b, m, n, rfl, _⟩ := h
    rfl
  · obtain ⟨b, m, n, rfl, hb, hn, m0, m1, q⟩ := h
    refine ⟨_, (pss_one (ps_ret (pe_join pe_str (pe_lc (own := [("turn", 2)]) (g := gName 2) rfl sc_law_word.nd (pi_range1 (by rfl) T.m_range (pa_cons (pe_call G_law_take (hr.mono (by omega)) (by rfl) T.g_law_take T.F_law_take.kp T.b_law_take .nil pass0 (pa_cons (pv 0) (pa_cons (pe_op op_add (pv 1) pe_int) pa_nil))) pa_nil)) (blkOk_by (own := [("turn", 2)]) (N := ["bag", "most", "turn"]) (sc := defScope s_law_word) (by decide +kernel)) (fun _ _ _ _ _ => pg_name (i := 2) sc_law_word.nd rfl (.inl rfl)) (fun _ _ _ _ _ => pts_nil) (fun _ _ _ _ _ => (pe_call G_law_of hr (by rfl) T.g_law_of T.F_law_of.kp T.b_law_of .nil pass0 (pa_cons (pv 0) (pa_cons pe_str pa_nil)))))))), ?_⟩
    repeat (walk_at "lw v")
    refine ⟨b, _, n, rfl, hb, by omega, by omega, by omega, fun d H1 d0 d1 hB1 hK1 => ?_⟩
    refine ⟨d, rfl, by omega, by omega, fun D nD => ?_⟩
    have nbD : b ≠ D := hB1.ne nD
    refine lc_range (lo := 0) (n := d.toNat) (fun i H' => ∃ ys : List Str, H' D = some (.lst (ys.map V.str)) ∧ ys.length = i ∧ (∀ y ∈ ys, ∃ c, y = ⟨#[c]⟩ ∧ isLow c = true) ∧ Bag H' b (n + 1 + i) ∧ Keep b H1 H') ?_ ?_ ?_
    · exact ⟨[], upd_same, rfl, fun _ h => (nomatch h), (hB1.new nD).mono (by omega), Keep.new nD⟩
    · rintro i H' hi ⟨ys, eD, el, hy, hB, hK⟩
      refine ⟨rfl, ?_⟩
      repeat (walk_at "lw v")
      refine ⟨b, _, _, rfl, hB, by omega, .inr ⟨_, rfl, by decide +kernel, by decide +kernel, fun c H3 hc hB3 hK3 => ?_⟩⟩
      have hl2 : isLow c = true := (by decide +kernel : ∀ c ∈ (Str.ofString "abcdefghijklmnopqrstuvwxyz").cps.toList, isLow c = true) c hc
      refine ⟨_, hK3 _ _ nbD.symm eD, ?_, ys ++ [⟨#[c]⟩], ?_, ?_, ?_, ?_, ?_⟩
      · rw [List.length_map, el]
        exact small1000 (by omega)
      · rw [upd_same, List.map_append]
        rfl
      · rw [List.length_append, el]
        rfl
      · intro y hy'
        rcases List.mem_append.mp hy' with h | h
        · exact hy y h
        · rw [List.mem_singleton] at h
          exact ⟨c, h, hl2⟩
      · obtain ⟨x1, x2, x3, ex, rx⟩ := hB3
        exact Bag.mono ⟨x1, x2, x3, by rw [upd_ne nbD]; exact ex, rx⟩ (by omega)
      · intro q' o nq e
        have nqD : q' ≠ D := ne_of_none e nD
        rw [upd_ne nqD]
        exact hK3 _ _ nq (hK _ _ nq e)
    · rintro H' ⟨ys, eD, el, hy, hB, hK⟩
      refine ⟨_, D, ys, rfl, rfl, .inl (SqL.of eD), ?_, ?_⟩
      · have : ∀ ys : List Str, (∀ y ∈ ys, ∃ c, y = (⟨#[c]⟩ : Str) ∧ isLow c = true) → (ys.map (·.length)).sum = ys.length := by
          intro ys
          induction ys with
          | nil => intro _; rfl
          | cons y r ih =>
            intro h
            obtain ⟨c, rfl, hc⟩ := h y List.mem_cons_self
            rw [List.map_cons, List.sum_cons, ih fun z hz => h z (List.mem_cons_of_mem _ hz), List.length_cons, Nat.add_comm]
            rfl
        rw [this ys hy, show (Str.ofString "").length = 0 from rfl]
        omega
      · exact q _ H' (joined_word (by omega) hy) (hB.mono (by omega)) (hK1.trans hK)
end

/-! ### numbers -/
theorem e30 : (10 : Int) ^ (Int.toNat 30) = 1000000000000000000000000000000 := by decide +kernel
def IsNum (i : Int) : Prop := -1000000000000000000000000000000 < i ∧ i < 1000000000000000000000000000000
def sp_number : Sp := fun vs H Q _ => ∃ (b l : Addr) (ns : List Int) (n : Int), vs = [.ref b, .ref l] ∧ Bag H b n ∧ n ≤ 900000000 ∧ H l = some (.lst (ns.map V.int)) ∧ l ≠ b ∧ ns.length ≤ 1000 ∧ 
  ∀ (i : Int) (H' : Hp), IsNum i → Bag H' b (n + 5) → Keep b H H' → Q (.int i) H'
section
variable {P : Program} {w : World} {K : PySem.W.Frag} {mg : Str → Option Value} {base : Heap}
theorem ok_law_number (T : Txt K mg) : FnOk P w K mg base CX0 3 T.f_law_number T.fd_law_number ["bag", "near"] sp_number := by
  have G_law_take := ok_law_take (P := P) (w := w) (base := base) T
  have G_law_of := ok_law_of (P := P) (w := w) (base := base) T
  refine T.F_law_number.ok sc_law_number (fun vs H Q E h => ?_) (fun cdv A outer s H vs Q E hr h => ?_)
  · obtain ⟨b, l, ns, n, rfl, _⟩ := h
    rfl
  · obtain ⟨b, l, ns, n, rfl, hb, hn, hl, nl, hlen, q⟩ := h
    refine ⟨_, (pss_cons (ps_par (i := 2) (j := 3) (by rfl) sc_law_number.nd rfl rfl (by decide) rfl rfl (pa_cons (pe_call G_law_take (hr.mono (by omega)) (by rfl) T.g_law_take T.F_law_take.kp T.b_law_take .nil pass0 (pa_cons (pv 0) (pa_cons pe_int pa_nil))) (pa_cons (pe_op op_sub (pe_op op_pow pe_int pe_int) pe_int) pa_nil)) (by rfl))
        (pss_cons (ps_if (pt_cmpR op_gt (pv 2) pe_int (nomark _)) (pss_one (ps_ret (pe_op op_sub (pe_call G_law_take (hr.mono (by omega)) (by rfl) T.g_law_take T.F_law_take.kp T.b_law_take .nil pass0 (pa_cons (pv 0) (pa_cons pe_int pa_nil))) pe_int))) pss_nil)
        (pss_cons (ps_if (pt_cmpR op_eq (pv 2) pe_int (nomark _)) (pss_one (ps_ret (pe_op op_mul (pe_op op_sub (pv 3) (pe_call G_law_take (hr.mono (by omega)) (by rfl) T.g_law_take T.F_law_take.kp T.b_law_take .nil pass0 (pa_cons (pv 0) (pa_cons (pe_op op_pow pe_int pe_int) pa_nil)))) (pe_op op_sub pe_int (pe_op op_mul pe_int (pe_call G_law_take (hr.mono (by omega)) (by rfl) T.g_law_take T.F_law_take.kp T.b_law_take .nil pass0 (pa_cons (pv 0) (pa_cons pe_int pa_nil)))))))) pss_nil)
        (pss_one (ps_ret (pe_callB (call_max2 rfl) (by rfl) T.m_max (by decide +kernel) (pa_cons (pe_un un_neg (pv 3)) (pa_cons (pe_callB (call_min2 rfl) (by rfl) T.m_min (by decide +kernel) (pa_cons (pv 3) (pa_cons (pe_op op_sub (pe_op op_add (pe_call G_law_of hr (by rfl) T.g_law_of T.F_law_of.kp T.b_law_of .nil pass0 (pa_cons (pv 0) (pa_cons (pe_op op_cat (pv 1) (pe_lst (pa_cons pe_int pa_nil))) pa_nil))) (pe_call G_law_take (hr.mono (by omega)) (by rfl) T.g_law_take T.F_law_take.kp T.b_law_take .nil pass0 (pa_cons (pv 0) (pa_cons pe_int pa_nil)))) pe_int) pa_nil))) pa_nil)))))))), ?_⟩
    repeat (walk_at "lw v")
    refine ⟨b, _, n, rfl, hb, by omega, by omega, by omega, fun d H1 d0 d1 hB1 hK1 => ?_⟩
    repeat (walk_at "lw v")
    rw [e30]
    repeat (walk_at "lw v")
    refine ite2 (fun e => ?_) (fun e => ?_)
    · repeat (walk_at "lw v")
      refine ⟨b, _, _, rfl, hB1, by omega, by omega, by omega, fun d2 H2 d20 d21 hB2 hK2 => ?_⟩
      repeat (walk_at "lw v")
      exact q _ H2 ⟨by omega, by omega⟩ (hB2.mono (by omega)) (hK1.trans hK2)
    · repeat (walk_at "lw v")
      refine ite2 (fun e => ?_) (fun e => ?_)
      · repeat (walk_at "lw v")
        refine ⟨b, _, _, rfl, hB1, by omega, by decide +kernel, by decide +kernel, fun d2 H2 d20 d21 hB2 hK2 => ?_⟩
        rw [e30] at d21
        repeat (walk_at "lw v")
        refine ⟨b, _, _, rfl, hB2, by omega, by omega, by omega, fun d3 H3 d30 d31 hB3 hK3 => ?_⟩
        repeat (walk_at "lw v")
        have hz : d3 = 0 ∨ d3 = 1 := by omega
        refine q _ H3 ?_ (hB3.mono (by omega)) ((hK1.trans hK2).trans hK3)
        rcases hz with rfl | rfl <;> (unfold IsNum; omega)
      · repeat (walk_at "lw v")
        refine ⟨by walk_at "lw n", fun p hp => ?_⟩
        have hl1 := hK1 _ _ nl hl
        refine ⟨l, p, _, _, rfl, rfl, by rw [upd_ne (ne_of_none hl1 hp)]; exact hl1, upd_same, ?_, fun p2 hp2 => ?_⟩
        · have := PySem.sizeLine_eq
          show (ns.map V.int).length + 1 ≤ _
          rw [List.length_map]
          omega
        · repeat (walk_at "lw v")
          have hb2 := (hB1.new (o := .lst [V.int 0]) hp).ne hp2
          have hB2 := (hB1.new (o := .lst [V.int 0]) hp).new (o := .lst (ns.map V.int ++ [V.int 0])) hp2
          refine ⟨b, _, _, rfl, hB2, by omega, .inl ⟨p2, _, rfl, hb2.symm, upd_same, by simp, by simp; omega, fun v H2 hv hB3 hK3 => ?_⟩⟩
          obtain ⟨u, rfl⟩ : ∃ u, v = V.int u := by
            rcases List.mem_append.mp hv with h | h
            · exact of_map h
            · exact ⟨0, List.mem_singleton.mp h⟩
          repeat (walk_at "lw v")
          refine ⟨b, _, _, rfl, hB3, by omega, by omega, by omega, fun d5 H5 d50 d51 hB5 hK5 => ?_⟩
          repeat (walk_at "lw v")
          refine q _ H5 ?_ (hB5.mono (by omega)) ?_
          · unfold IsNum
            constructor <;> (repeat' split) <;> omega
          · have k1 : Keep b H1 (upd H1 p (HO.lst [V.int 0])) := Keep.new hp
            have k2 : Keep b (upd H1 p (HO.lst [V.int 0])) (upd (upd H1 p (HO.lst [V.int 0])) p2 (HO.lst (ns.map V.int ++ [V.int 0]))) := Keep.new hp2
            exact (((hK1.trans k1).trans k2).trans hK3).trans hK5
end

/-! ### weight -/
def sp_weight : Sp := fun vs H Q _ => ∃ x : V, vs = [x] ∧
  ((x = .non ∧ Q (.int 0) H) ∨ (∃ a xs, x = .ref a ∧ H a = some (.lst xs) ∧ Q (.int (1 + xs.length)) H) ∨ (((∃ i, x = .int i) ∨ (∃ z, x = .str z) ∨ (∃ a xs, x = .ref a ∧ H a = some (.tup xs))) ∧ Q (.int 1) H))
def sp_is_integer : Sp := fun vs H Q _ => ∃ x : V, vs = [x] ∧ ∃ i, x = .int i ∧ Q (.bl true) H
section
variable {P : Program} {w : World} {K : PySem.W.Frag} {mg : Str → Option Value} {base : Heap}
theorem ok_weight (T : Txt K mg) : FnOk P w K mg base CX0 1 T.f_weight T.fd_weight ["answer"] sp_weight := by
  refine T.F_weight.ok sc_weight (fun vs H Q E h => ?_) (fun cdv A outer s H vs Q E hr h => ?_)
  · obtain ⟨x, rfl, _⟩ := h
    rfl
  · obtain ⟨x, rfl, h⟩ := h
    refine ⟨_, (pss_cons (ps_if (pt_cmpR op_isN (pv 0) pe_non (nomark _)) (pss_one (ps_ret pe_int)) pss_nil)
        (pss_cons (ps_if (pt_val (pe_callB call_isi (by rfl) T.m_isinstance (by decide +kernel) (pa_cons (pv 0) (pa_cons (pe_bltn (v := .ty "list") (by rfl) T.m_list (by decide +kernel) rfl) pa_nil)))) (pss_one (ps_ret (pe_op op_add pe_int (pe_callB call_len (by rfl) T.m_len (by decide +kernel) (pa_cons (pv 0) pa_nil))))) pss_nil)
        (pss_one (ps_ret pe_int)))), ?_⟩
    rcases h with ⟨rfl, q⟩ | ⟨a, xs, rfl, ha, q⟩ | ⟨⟨i, rfl⟩ | ⟨z, rfl⟩ | ⟨a, xs, rfl, ha⟩, q⟩
    · repeat (walk_at "lw w")
      exact q
    · repeat (walk_at "lw w")
      exact q
    · repeat (walk_at "lw w")
      exact q
    · repeat (walk_at "lw w")
      exact q
    · repeat (walk_at "lw w")
      exact q
theorem ok_law_is_integer (T : Txt K mg) : FnOk P w K mg base CX0 1 T.f_law_is_integer T.fd_law_is_integer ["thing"] sp_is_integer := by
  refine T.F_law_is_integer.ok sc_law_is_integer (fun vs H Q E h => ?_) (fun cdv A outer s H vs Q E hr h => ?_)
  · obtain ⟨x, rfl, _⟩ := h
    rfl
  · obtain ⟨x, rfl, i, rfl, q⟩ := h
    refine ⟨_, (pss_one (ps_ret (pe_and (pe_callB call_isi (by rfl) T.m_isinstance (by decide +kernel) (pa_cons (pv 0) (pa_cons (pe_bltn (v := .ty "int") (by rfl) T.m_int (by decide +kernel) rfl) pa_nil))) (pe_one (pe_not (pe_callB call_isi (by rfl) T.m_isinstance (by decide +kernel) (pa_cons (pv 0) (pa_cons (pe_bltn (v := .ty "bool") (by rfl) T.m_bool (by decide +kernel) rfl) pa_nil)))))))), ?_⟩
    repeat (walk_at "lw w")
    exact q
end

/-! ### the law -/
def toD : V → PyData
  | .bl b => .bool b
  | .int i => .int i
  | .str z => .str z
  | _ => .none
def Flat : V → Prop
  | .non => True
  | .int _ => True
  | .str z => PyData.strOk z = true
  | _ => False
theorem strOk_low {z : Str} (h : z.cps.toList.all isLow = true) : PyData.strOk z = true := by
  unfold PyData.strOk
  rw [← Array.all_toList]
  refine List.all_eq_true.mpr fun c hc => ?_
  have h1 := List.all_eq_true.mp h c hc
  unfold isLow at h1
  have h2 := of_decide_eq_true h1
  exact decide_eq_true (by omega)
theorem ifF {A B : Prop} {b : Bool} (e : b = false) (h : B) : if b = true then A else B := by
  rw [e]
  exact iteF h
theorem dpAll_flat {K : PySem.W.Frag} {H : Hp} : ∀ {xs : List V}, (∀ x ∈ xs, Flat x) → DpAll K H xs (xs.map toD)
  | [], _ => .nil
  | x :: r, h => by
    refine .cons ?_ (dpAll_flat fun y hy => h y (List.mem_cons_of_mem _ hy))
    have hx := h x List.mem_cons_self
    cases x with
    | non => exact .non
    | int i => exact .int i
    | str z => exact .str z
    | _ => exact hx.elim
theorem canLay_flat : ∀ {xs : List V}, (∀ x ∈ xs, Flat x) → PyData.canLayAll0 (xs.map toD) = true ∧ PyData.depthAll (xs.map toD) = 0
  | [], _ => ⟨rfl, rfl⟩
  | x :: r, h => by
    obtain ⟨i1, i2⟩ := canLay_flat fun y hy => h y (List.mem_cons_of_mem _ hy)
    have hx := h x List.mem_cons_self
    have e : PyData.canLay0 (toD x) = true ∧ PyData.depth (toD x) = 0 := by
      cases x with
      | non => exact ⟨rfl, rfl⟩
      | int i => exact ⟨rfl, rfl⟩
      | str z => exact ⟨hx, rfl⟩
      | _ => exact hx.elim
    refine ⟨?_, ?_⟩
    · show (PyData.canLay0 (toD x) && PyData.canLayAll0 (r.map toD)) = true
      rw [e.1, i1]
      rfl
    · show max (PyData.depth (toD x)) (PyData.depthAll (r.map toD)) = 0
      rw [e.2, i2]
      rfl
theorem shaped_flat {xs : List V} (h : ∀ x ∈ xs, Flat x) : SeqAt.shaped (.list (xs.map toD)) = true := by
  obtain ⟨i1, i2⟩ := canLay_flat h
  show (PyData.canLayAll0 (xs.map toD) && decide (PyData.depthAll (xs.map toD) + 1 ≤ 64)) = true
  rw [i1, i2]
  rfl
theorem eqv_flat {xs : List V} (h : ∀ x ∈ xs, Flat x) : PyData.eqv (.list (xs.map toD)) (.list (xs.map toD)) = true :=
  PySem.SeqAt.eqv_refl _ (canLay_flat h).1
theorem keep_same {b : Addr} {H H1 H2 : Hp} (s : Same H H1) (nb : H b = none) (k : Keep b H1 H2) : Same H H2 := fun q o e => k q o (ne_of_none e nb) (s q o e)
def spLaw (K : PySem.W.Frag) : Sp := fun vs H Q _ => ∃ (a : Addr) (ns : List Int), vs = [.ref a] ∧ SqL K H a (ns.map V.int) ∧ ns.length ≤ 63 ∧ (∀ z ∈ ns, Builtin.Int.intBits z ≤ 1048576) ∧ ∀ H', Q (.bl true) H'
section
variable {P : Program} {w : World} {K : PySem.W.Frag} {mg : Str → Option Value} {base : Heap}
theorem ok_law (T : Txt K mg) {f : Addr} {fd : FuncData} (F : Fun K "law" "law" s_law f fd) : FnOk P w K mg base CX0 4 f fd ["script"] (spLaw K) := by
  have G_law_take := ok_law_take (P := P) (w := w) (base := base) T
  have G_law_of := ok_law_of (P := P) (w := w) (base := base) T
  have G_law_bag := ok_law_bag (P := P) (w := w) (base := base) T
  have G_law_class := ok_law_class (P := P) (w := w) (base := base) T
  have G_law_word := ok_law_word (P := P) (w := w) (base := base) T
  have G_law_number := ok_law_number (P := P) (w := w) (base := base) T
  have G_weight := ok_weight (P := P) (w := w) (base := base) T
  have G_law_is_integer := ok_law_is_integer (P := P) (w := w) (base := base) T
  refine F.ok sc_law (fun vs H Q E h => ?_) (fun cdv A outer s H vs Q E hr h => ?_)
  · obtain ⟨b, ns, rfl, _⟩ := h
    rfl
  · obtain ⟨a, ns, rfl, hS, hlen, _, q⟩ := h
    refine ⟨_, (pss_cons (ps_for PassesOwn.never rfl (pi_range1 (by rfl) T.m_range (pa_cons (pe_callB (call_max2 rfl) (by rfl) T.m_max (by decide +kernel) (pa_cons pe_int (pa_cons (pe_callB (call_min2 rfl) (by rfl) T.m_min (by decide +kernel) (pa_cons pe_int (pa_cons (pe_callB call_len (by rfl) T.m_len (by decide +kernel) (pa_cons (pv 0) pa_nil)) pa_nil))) pa_nil))) pa_nil)) (pg_name (i := 1) sc_law.nd rfl (.inl rfl)) (pss_cons (ps_set (i := 2) sc_law.nd rfl (.inr rfl) (pe_call G_law_bag (hr.mono (by omega)) (by rfl) T.g_law_bag T.F_law_bag.kp T.b_law_bag .nil pass0 (pa_cons (pv 0) (pa_cons (pv 1) pa_nil))))
        (pss_cons (ps_set (i := 3) sc_law.nd rfl (.inl rfl) (pe_call G_law_of (hr.mono (by omega)) (by rfl) T.g_law_of T.F_law_of.kp T.b_law_of .nil pass0 (pa_cons (pv 2) (pa_cons (pe_lst (pa_cons pe_int (pa_cons pe_int (pa_cons pe_int (pa_cons pe_int (pa_cons (pe_call G_law_take (hr.mono (by omega)) (by rfl) T.g_law_take T.F_law_take.kp T.b_law_take .nil pass0 (pa_cons (pv 2) (pa_cons pe_int pa_nil))) (pa_cons pe_int pa_nil))))))) pa_nil))))
        (pss_cons (ps_setLc (i := 4) (own := [("turn", 8)]) (g := gName 8) rfl sc_law.nd rfl rfl (sw_true rfl rfl rfl (by decide +kernel)) (pi_range1 (by rfl) T.m_range (pa_cons (pv 3) pa_nil)) (blkOk_by (own := [("turn", 8)]) (N := ["script", "at", "bag", "many", "some", "copy", "raised", "answer", "turn", "item"]) (sc := defScope s_law) (by decide +kernel)) (fun _ _ _ _ _ => pg_name (i := 8) sc_law.nd rfl (.inl rfl)) (fun _ _ _ _ _ => pts_nil) (fun _ _ _ _ _ => (pe_call G_law_of (hr.mono (by omega)) (by rfl) T.g_law_of T.F_law_of.kp T.b_law_of .nil pass0 (pa_cons (pv 2) (pa_cons (pe_lst (pa_cons pe_non (pa_cons pe_int (pa_cons (pe_call G_law_number hr (by rfl) T.g_law_number T.F_law_number.kp T.b_law_number .nil pass0 (pa_cons (pv 2) (pa_cons (pe_lst pa_nil) pa_nil))) (pa_cons (pe_call G_law_word hr (by rfl) T.g_law_word T.F_law_word.kp T.b_law_word .nil pass0 (pa_cons (pv 2) (pa_cons pe_int pa_nil))) (pa_cons pe_str pa_nil)))))) pa_nil)))))
        (pss_cons (ps_setLc (i := 5) (own := [("item", 9)]) (g := gName 9) rfl sc_law.nd rfl rfl (sw_true rfl rfl rfl (by decide +kernel)) (pi_list (pv 4)) (blkOk_by (own := [("item", 9)]) (N := ["script", "at", "bag", "many", "some", "copy", "raised", "answer", "turn", "item"]) (sc := defScope s_law) (by decide +kernel)) (fun _ _ _ _ _ => pg_name (i := 9) sc_law.nd rfl (.inl rfl)) (fun _ _ _ _ _ => pts_nil) (fun _ _ _ _ _ => (pv 9)))
        (pss_cons (ps_if (PW.pt (pw_or (pt_cmpR op_ne (pe_call G_weight (hr.mono (by omega)) (by rfl) T.g_weight T.F_weight.kp T.b_weight .nil pass0 (pa_cons (pv 4) pa_nil)) (pe_op op_add (pv 3) pe_int) (nomark _)) (pw_or (pt_cmpR (op_neD hr.units) (pv 4) (pv 5) (nomark _)) (pw_or (pt_cmpR op_ne (pe_call G_weight (hr.mono (by omega)) (by rfl) T.g_weight T.F_weight.kp T.b_weight .nil pass0 (pa_cons pe_non pa_nil)) pe_int (nomark _)) (pw_or1 (pt_cmpR op_ne (pe_call G_weight (hr.mono (by omega)) (by rfl) T.g_weight T.F_weight.kp T.b_weight .nil pass0 (pa_cons (pe_lst pa_nil) pa_nil)) pe_int (nomark _))))))) (pss_one (ps_ret pe_bl)) pss_nil)
        (pss_cons (ps_set (i := 6) sc_law.nd rfl (.inl rfl) (pe_tup (pa_cons pe_str (pa_cons (pe_call G_law_class hr (by rfl) T.g_law_class T.F_law_class.kp T.b_law_class .nil pass0 (pa_cons (pv 2) pa_nil)) (pa_cons (pe_call G_law_of (hr.mono (by omega)) (by rfl) T.g_law_of T.F_law_of.kp T.b_law_of .nil pass0 (pa_cons (pv 2) (pa_cons (pe_lst (pa_cons pe_non (pa_cons (pe_call G_law_class hr (by rfl) T.g_law_class T.F_law_class.kp T.b_law_class .nil pass0 (pa_cons (pv 2) pa_nil)) pa_nil))) pa_nil))) pa_nil)))))
        (pss_cons (ps_for PassesOwn.never rfl (pi_list (pe_lst (pa_cons pe_int (pa_cons (pe_un un_neg pe_int) (pa_cons (pe_call G_law_number hr (by rfl) T.g_law_number T.F_law_number.kp T.b_law_number .nil pass0 (pa_cons (pv 2) (pa_cons (pe_lst pa_nil) pa_nil))) (pa_cons pe_str (pa_cons (pe_call G_law_word hr (by rfl) T.g_law_word T.F_law_word.kp T.b_law_word .nil pass0 (pa_cons (pv 2) (pa_cons pe_int pa_nil))) (pa_cons (pv 6) pa_nil)))))))) (pg_name (i := 7) sc_law.nd rfl (.inl rfl)) (pss_one (ps_if (PW.pt (pw_or (pt_cmpR op_ne (pe_call G_weight (hr.mono (by omega)) (by rfl) T.g_weight T.F_weight.kp T.b_weight .nil pass0 (pa_cons (pv 7) pa_nil)) pe_int (nomark _)) (pw_or1 (pt_not (pt_val (pe_call G_law_is_integer (hr.mono (by omega)) (by rfl) T.g_law_is_integer T.F_law_is_integer.kp T.b_law_is_integer .nil pass0 (pa_cons (pe_call G_weight (hr.mono (by omega)) (by rfl) T.g_weight T.F_weight.kp T.b_weight .nil pass0 (pa_cons (pv 7) pa_nil)) pa_nil))))))) (pss_one (ps_ret pe_bl)) pss_nil)))
        (pss_cons (ps_expr (pe_bm PySem.F.plainAttrs_list PySem.F.slot_list_append PySem.F.type_list_append mt_append (pv 4) (pa_cons pe_non pa_nil)))
        (pss_one (ps_if (PW.pt (pw_or (pt_cmpR op_ne (pe_call G_weight (hr.mono (by omega)) (by rfl) T.g_weight T.F_weight.kp T.b_weight .nil pass0 (pa_cons (pv 4) pa_nil)) (pe_op op_add (pv 3) pe_int) (nomark _)) (pw_or (pt_not (pt_val (pe_call G_law_is_integer (hr.mono (by omega)) (by rfl) T.g_law_is_integer T.F_law_is_integer.kp T.b_law_is_integer .nil pass0 (pa_cons (pe_call G_weight (hr.mono (by omega)) (by rfl) T.g_weight T.F_weight.kp T.b_weight .nil pass0 (pa_cons (pv 4) pa_nil)) pa_nil)))) (pw_or1 (pt_cmpR op_ne (pe_call G_weight (hr.mono (by omega)) (by rfl) T.g_weight T.F_weight.kp T.b_weight .nil pass0 (pa_cons (pe_lst (pa_cons pe_non pa_nil)) pa_nil)) pe_int (nomark _)))))) (pss_one (ps_ret pe_bl)) pss_nil)))))))))))
        (pss_one (ps_ret pe_bl))), ?_⟩
    repeat (walk_at "lw w")
    refine ⟨by (repeat' split) <;> omega, by (repeat' split) <;> omega, ?_⟩
    refine for_range (lo := 0) (n := _) (fun i σ H' => Same H H' ∧ ∃ t1 t2 t3 t4 t5 t6 t7 t8 t9 : Option V, σ = [some (.ref a), t1, t2, t3, t4, t5, t6, t7, t8, t9]) ?_ ?_ ?_
    · exact ⟨Same.refl _, none, none, none, none, none, none, none, none, none, rfl⟩
    · rintro i σ H0 hi ⟨S0, t1, t2, t3, t4, t5, t6, t7, t8, t9, rfl⟩
      have hi2 : (i : Int) ≤ 16 := by
        revert hi
        (repeat' split) <;> omega
      clear hi
      repeat (walk_at "lw w")
      refine ⟨a, ns, _, rfl, S0.seq hS, hlen, by omega, by omega, fun b H1 nb hB1 hS1 => ?_⟩
      have S1 : Same H H1 := S0.trans hS1
      have nb0 : H b = none := S0.free nb
      repeat (walk_at "lw w")
      refine ⟨b, _, _, rfl, hB1, by omega, by omega, by omega, fun d H2 d0 d1 hB2 hK2 => ?_⟩
      have S2 := keep_same S1 nb0 hK2
      repeat (walk_at "lw w")
      refine ⟨by walk_at "lw n", fun l3 nl3 => ?_⟩
      have hB3 := hB2.new (o := .lst [.int 0, .int 1, .int 2, .int 3, .int d, .int 60]) nl3
      refine ⟨b, _, _, rfl, hB3, by omega, .inl ⟨l3, _, rfl, (hB2.ne nl3).symm, upd_same, by simp, by simp, fun v H4 hv hB4 hK4 => ?_⟩⟩
      have S4 := keep_same (S2.trans (same_new nl3)) nb0 hK4
      obtain ⟨m, rfl, m0, m1⟩ : ∃ m : Int, v = .int m ∧ 0 ≤ m ∧ m ≤ 60 := by
        simp only [List.mem_cons, List.not_mem_nil, or_false] at hv
        rcases hv with rfl | rfl | rfl | rfl | rfl | rfl <;> exact ⟨_, rfl, by omega, by omega⟩
      repeat (walk_at "lw w")
      refine ⟨by omega, by omega, fun D nD => ?_⟩
      have nbD : b ≠ D := hB4.ne nD
      refine lc_range (lo := 0) (n := m.toNat) (fun j H' => ∃ xs : List V, H' D = some (.lst xs) ∧ xs.length = j ∧ (∀ x ∈ xs, Flat x) ∧ Bag H' b (2 + 300 * j) ∧ Same H H') ?_ ?_ ?_
      · exact ⟨[], upd_same, rfl, fun _ h => (nomatch h), (hB4.new nD).mono (by omega), S4.trans (same_new nD)⟩
      · rintro j H5 hj ⟨xs, eD, el, hf, hB5, S5⟩
        refine ⟨rfl, ?_⟩
        repeat (walk_at "lw w")
        refine ⟨by walk_at "lw n", fun l6 nl6 => ?_⟩
        have hB6 := hB5.new (o := .lst []) nl6
        have eD6 := same_new (o := .lst []) nl6 _ _ eD
        have S6 := S5.trans (same_new (o := .lst []) nl6)
        refine ⟨b, l6, [], _, rfl, hB6, by omega, upd_same, (hB5.ne nl6).symm, by simp, fun u H7 hu hB7 hK7 => ?_⟩
        have eD7 := hK7 _ _ nbD.symm eD6
        have S7 := keep_same S6 nb0 hK7
        repeat (walk_at "lw w")
        refine ⟨b, 30, _, rfl, hB7, by omega, by omega, by omega, fun z H8 hz hB8 hK8 => ?_⟩
        have eD8 := hK8 _ _ nbD.symm eD7
        have S8 := keep_same S7 nb0 hK8
        repeat (walk_at "lw w")
        refine ⟨by walk_at "lw n", fun l9 nl9 => ?_⟩
        have hB9 := hB8.new (o := .lst [.non, .int 0, .int u, .str z, .str (Str.ofString "")]) nl9
        have eD9 := same_new (o := .lst [.non, .int 0, .int u, .str z, .str (Str.ofString "")]) nl9 _ _ eD8
        refine ⟨b, _, _, rfl, hB9, by omega, .inl ⟨l9, _, rfl, (hB8.ne nl9).symm, upd_same, by simp, by simp, fun v H10 hv hB10 hK10 => ?_⟩⟩
        have eD10 := hK10 _ _ nbD.symm eD9
        have S10 := keep_same (S8.trans (same_new nl9)) nb0 hK10
        have fv : Flat v := by
          simp only [List.mem_cons, List.not_mem_nil, or_false] at hv
          rcases hv with rfl | rfl | rfl | rfl | rfl
          · trivial
          · trivial
          · trivial
          · exact strOk_low hz.2
          · exact (by decide +kernel : PyData.strOk (Str.ofString "") = true)
        refine ⟨xs, eD10, ?_, xs ++ [v], upd_same, ?_, ?_, ?_, ?_⟩
        · exact small1000 (by omega)
        · rw [List.length_append, el]
          rfl
        · intro x hx
          rcases List.mem_append.mp hx with h | h
          · exact hf x h
          · rw [List.mem_singleton.mp h]
            exact fv
        · obtain ⟨x1, x2, x3, ex, rx⟩ := hB10
          exact Bag.mono ⟨x1, x2, x3, by rw [upd_ne nbD]; exact ex, rx⟩ (by omega)
        · intro q' o e
          have nqD : q' ≠ D := ne_of_none (S4 _ _ e) nD
          rw [upd_ne nqD]
          exact S10 _ _ e
      · rintro H5 ⟨xs, eD, el, hf, hB5, S5⟩
        repeat (walk_at "lw w")
        refine ⟨⟨xs, SqL.of eD⟩, fun D2 nD2 => ?_⟩
        have nDD2 : D ≠ D2 := ne_of_none eD nD2
        have nbD2 : b ≠ D2 := hB5.ne nD2
        refine lc_list (K := K) (a := D) (xs := xs) (fun j H' => H' D2 = some (.lst (xs.take j)) ∧ ∀ q o, q ≠ D2 → H5 q = some o → H' q = some o) ?_ ?_ ?_ ?_
        · exact ⟨upd_same, fun q o n e => by rw [upd_ne n]; exact e⟩
        · rintro j H6 _ ⟨_, k⟩
          exact SqL.of (k _ _ nDD2 eD)
        · rintro j x H6 hx ⟨e2, k⟩
          refine ⟨rfl, ?_⟩
          repeat (walk_at "lw w")
          refine ⟨_, e2, ?_, ?_, ?_⟩
          · rw [List.length_take]
            exact small1000 (by omega)
          · rw [upd_same, List.take_add_one, hx]
            rfl
          · intro q o n e
            rw [upd_ne n]
            exact k q o n e
        · rintro H6 ⟨e2, k⟩
          rw [List.take_length] at e2
          have eD6 := k _ _ nDD2 eD
          have hB6 : Bag H6 b (2 + 300 * (m.toNat : Int)) := by
            obtain ⟨x1, x2, x3, ex, rx⟩ := hB5
            exact ⟨x1, x2, x3, k _ _ nbD2 ex, rx⟩
          have S6 : Same H H6 := fun q' o e => k _ _ (ne_of_none (S5 _ _ e) nD2) (S5 _ _ e)
          clear k eD S5 hB5
          -- weight(some) != many + 1 or some != copy or ..
          repeat (walk_at "lw w")
          refine .inr (.inl ⟨D, xs, rfl, eD6, ?_⟩)
          repeat (walk_at "lw w")
          refine iteNS (by show V.int (1 + (xs.length : Int)) = V.int (m + 1); rw [el]; congr 1; omega) ?_
          repeat (walk_at "lw w")
          refine ⟨_, _, .lst (SqL.of eD6) (dpAll_flat hf), .lst (SqL.of e2) (dpAll_flat hf), shaped_flat hf, shaped_flat hf, ?_⟩
          repeat (walk_at "lw w")
          refine ifF (by rw [eqv_flat hf]; rfl) ?_
          repeat (walk_at "lw w")
          refine .inl ⟨rfl, ?_⟩
          repeat (walk_at "lw w")
          refine ⟨by walk_at "lw n", fun l7 nl7 => ?_⟩
          have hB7 := hB6.new (o := .lst []) nl7
          have eD7 := same_new (o := .lst []) nl7 _ _ eD6
          have S7 := S6.trans (same_new (o := .lst []) nl7)
          repeat (walk_at "lw w")
          refine .inr (.inl ⟨l7, [], rfl, upd_same, ?_⟩)
          repeat (walk_at "lw w")
          -- raised = ("raises", .., ..)
          refine ⟨b, _, rfl, hB7, by omega, fun c8 H8 hc8 hB8 hK8 => ?_⟩
          have eD8 := hK8 _ _ nbD.symm eD7
          have S8 := keep_same S7 nb0 hK8
          repeat (walk_at "lw w")
          refine ⟨b, _, rfl, hB8, by omega, fun c9 H9 hc9 hB9 hK9 => ?_⟩
          have eD9 := hK9 _ _ nbD.symm eD8
          have S9 := keep_same S8 nb0 hK9
          repeat (walk_at "lw w")
          refine ⟨by walk_at "lw n", fun l10 nl10 => ?_⟩
          have hB10 := hB9.new (o := .lst [.non, .str c9]) nl10
          have eD10 := same_new (o := .lst [.non, .str c9]) nl10 _ _ eD9
          refine ⟨b, _, _, rfl, hB10, by omega, .inl ⟨l10, _, rfl, (hB9.ne nl10).symm, upd_same, by simp, by simp, fun v H11 hv hB11 hK11 => ?_⟩⟩
          have eD11 := hK11 _ _ nbD.symm eD10
          have S11 := keep_same (S9.trans (same_new nl10)) nb0 hK11
          repeat (walk_at "lw w")
          refine ⟨by walk_at "lw n", fun R nR => ?_⟩
          have hB12 := hB11.new (o := .tup [.str (Str.ofString "raises"), .str c8, v]) nR
          have eD12 := same_new (o := .tup [.str (Str.ofString "raises"), .str c8, v]) nR _ _ eD11
          have eR12 : upd H11 R (.tup [.str (Str.ofString "raises"), .str c8, v]) R = some (.tup [.str (Str.ofString "raises"), .str c8, v]) := upd_same
          have S12 := S11.trans (same_new (o := .tup [.str (Str.ofString "raises"), .str c8, v]) nR)
          generalize upd H11 R (.tup [.str (Str.ofString "raises"), .str c8, v]) = H12 at *
          repeat (walk_at "lw w")
          refine ⟨by walk_at "lw n", fun l13 nl13 => ?_⟩
          have hB13 := hB12.new (o := .lst []) nl13
          have eD13 := same_new (o := .lst []) nl13 _ _ eD12
          have eR13 := same_new (o := .lst []) nl13 _ _ eR12
          have S13 := S12.trans (same_new (o := .lst []) nl13)
          refine ⟨b, l13, [], _, rfl, hB13, by omega, upd_same, (hB12.ne nl13).symm, by simp, fun u H14 hu hB14 hK14 => ?_⟩
          have nbR : b ≠ R := hB11.ne nR
          have eD14 := hK14 _ _ nbD.symm eD13
          have eR14 := hK14 _ _ nbR.symm eR13
          have S14 := keep_same S13 nb0 hK14
          repeat (walk_at "lw w")
          refine ⟨b, 30, _, rfl, hB14, by omega, by omega, by omega, fun z H15 hz hB15 hK15 => ?_⟩
          have eD15 := hK15 _ _ nbD.symm eD14
          have eR15 := hK15 _ _ nbR.symm eR14
          have S15 := keep_same S14 nb0 hK15
          repeat (walk_at "lw w")
          refine ⟨by walk_at "lw n", fun L nL => ?_⟩
          have eL : upd H15 L (.lst [.int 0, .int (-1), .int u, .str (Str.ofString ""), .str z, .ref R]) L = some (.lst [.int 0, .int (-1), .int u, .str (Str.ofString ""), .str z, .ref R]) := upd_same
          have eD16 := same_new (o := .lst [.int 0, .int (-1), .int u, .str (Str.ofString ""), .str z, .ref R]) nL _ _ eD15
          have eR16 := same_new (o := .lst [.int 0, .int (-1), .int u, .str (Str.ofString ""), .str z, .ref R]) nL _ _ eR15
          have S16 := S15.trans (same_new (o := .lst [.int 0, .int (-1), .int u, .str (Str.ofString ""), .str z, .ref R]) nL)
          refine ⟨L, rfl, ⟨_, SqL.of eL⟩, ?_⟩
          generalize upd H15 L (.lst [.int 0, .int (-1), .int u, .str (Str.ofString ""), .str z, .ref R]) = H16 at *
          refine for_list (K := K) (a := L) (xs := [.int 0, .int (-1), .int u, .str (Str.ofString ""), .str z, .ref R]) (fun j σ H' => H' = H16 ∧ ∃ t1 t2 t5 t7 t8 t9 : Option V, σ = [some (.ref a), t1, t2, some (.int m), some (.ref D), t5, some (.ref R), t7, t8, t9]) ?_ ?_ ?_ ?_
          · exact ⟨rfl, _, _, _, _, _, _, rfl⟩
          · rintro j σ H' _ ⟨rfl, _⟩
            exact SqL.of eL
          · rintro j x σ H' hx ⟨rfl, t1, t2, t5, t7, t8, t9, rfl⟩
            have kind : (∃ i, x = .int i) ∨ (∃ z, x = .str z) ∨ ∃ a xs, x = .ref a ∧ H' a = some (.tup xs) := by
              have hx2 := List.mem_of_getElem? hx
              simp only [List.mem_cons, List.not_mem_nil, or_false] at hx2
              rcases hx2 with rfl | rfl | rfl | rfl | rfl | rfl
              · exact .inl ⟨_, rfl⟩
              · exact .inl ⟨_, rfl⟩
              · exact .inl ⟨_, rfl⟩
              · exact .inr (.inl ⟨_, rfl⟩)
              · exact .inr (.inl ⟨_, rfl⟩)
              · exact .inr (.inr ⟨_, _, rfl, eR16⟩)
            clear hx
            repeat (walk_at "lw w")
            refine .inr (.inr ⟨kind, ?_⟩)
            repeat (walk_at "lw w")
            refine .inr (.inr ⟨kind, ?_⟩)
            repeat (walk_at "lw w")
            first | exact ⟨_, _, _, _, _, _, rfl⟩ | exact ⟨rfl, _, _, _, _, _, _, rfl⟩
          · rintro σ H' ⟨rfl, t1, t2, t5, t7, t8, t9, rfl⟩
            repeat (walk_at "lw w")
            refine ⟨.inl ⟨rfl, _, SqL.of eD16⟩, ?_⟩
            refine ⟨_, _, _, rfl, rfl, eD16, small1000 (by omega), ?_⟩
            have eD17 : upd H' D (.lst (xs ++ [V.non])) D = some (.lst (xs ++ [V.non])) := upd_same
            have S17 : Same H (upd H' D (.lst (xs ++ [V.non]))) := fun q' o e => by
              rw [upd_ne (ne_of_none (S4 _ _ e) nD)]
              exact S16 _ _ e
            generalize upd H' D (.lst (xs ++ [V.non])) = H17 at *
            repeat (walk_at "lw w")
            refine .inr (.inl ⟨D, _, rfl, eD17, ?_⟩)
            repeat (walk_at "lw w")
            refine iteNS (by show V.int (1 + ((xs ++ [V.non]).length : Int)) = V.int (m + 2); rw [List.length_append, List.length_singleton, el]; congr 1; omega) ?_
            repeat (walk_at "lw w")
            refine .inr (.inl ⟨D, _, rfl, eD17, ?_⟩)
            repeat (walk_at "lw w")
            refine ⟨by walk_at "lw n", fun l18 nl18 => ?_⟩
            repeat (walk_at "lw w")
            refine .inr (.inl ⟨l18, _, rfl, upd_same, ?_⟩)
            repeat (walk_at "lw w")
            exact ⟨S17.trans (same_new nl18), _, _, _, _, _, _, _, _, _, rfl⟩
    · rintro σ H' ⟨S0, t1, t2, t3, t4, t5, t6, t7, t8, t9, rfl⟩
      repeat (walk_at "lw w")
      exact q _
end

/-! ### what the top has written; the head -/
theorem all_mk {l : PySem.W.OpenLaw} {w : World} {K : PySem.W.Frag} {h : Heap} {mg : Str → Option Value} {fa : Addr} (X : K.In h) (G : h.Ns mainGlobals mg) (hfa : mg "law" = some (.ref fa))
    {f_weight : Addr} {od0 an0 : Option Addr} {sl0 : Array (Option Value)} {oc0 kV0 dc0 pm0 cd0 ct0 : Value}
    {f_law_bag : Addr} {od1 an1 : Option Addr} {sl1 : Array (Option Value)} {oc1 kV1 dc1 pm1 cd1 ct1 : Value}
    {f_law_take : Addr} {od2 an2 : Option Addr} {sl2 : Array (Option Value)} {oc2 kV2 dc2 pm2 cd2 ct2 : Value}
    {f_law_of : Addr} {od3 an3 : Option Addr} {sl3 : Array (Option Value)} {oc3 kV3 dc3 pm3 cd3 ct3 : Value}
    {f_law_number : Addr} {od4 an4 : Option Addr} {sl4 : Array (Option Value)} {oc4 kV4 dc4 pm4 cd4 ct4 : Value}
    {f_law_word : Addr} {od5 an5 : Option Addr} {sl5 : Array (Option Value)} {oc5 kV5 dc5 pm5 cd5 ct5 : Value}
    {f_law_class : Addr} {od6 an6 : Option Addr} {sl6 : Array (Option Value)} {oc6 kV6 dc6 pm6 cd6 ct6 : Value}
    {f_law_is_integer : Addr} {od7 an7 : Option Addr} {sl7 : Array (Option Value)} {oc7 kV7 dc7 pm7 cd7 ct7 : Value}
    {f_law : Addr} {od8 an8 : Option Addr} {sl8 : Array (Option Value)} {oc8 kV8 dc8 pm8 cd8 ct8 : Value}
    (a0 : PySem.W.nsIn K mainGlobals "weight" = some (some (.ref f_weight)))
    (l0 : K.lookup f_weight = some ⟨oc0, od0, .func (PySem.W.fnOf "weight" "weight" (defArgs s_weight) (defBody s_weight) (defScope s_weight) .none kV0 dc0 pm0 an0 cd0 ct0), sl0⟩)
    (c0 : PySem.W.codeIn K cd0 "weight" = true) (k0 : PySem.W.keepIn K (.ref f_weight) = true)
    (a1 : PySem.W.nsIn K mainGlobals "_law_bag" = some (some (.ref f_law_bag)))
    (l1 : K.lookup f_law_bag = some ⟨oc1, od1, .func (PySem.W.fnOf "_law_bag" "_law_bag" (defArgs s_law_bag) (defBody s_law_bag) (defScope s_law_bag) .none kV1 dc1 pm1 an1 cd1 ct1), sl1⟩)
    (c1 : PySem.W.codeIn K cd1 "_law_bag" = true) (k1 : PySem.W.keepIn K (.ref f_law_bag) = true)
    (a2 : PySem.W.nsIn K mainGlobals "_law_take" = some (some (.ref f_law_take)))
    (l2 : K.lookup f_law_take = some ⟨oc2, od2, .func (PySem.W.fnOf "_law_take" "_law_take" (defArgs s_law_take) (defBody s_law_take) (defScope s_law_take) .none kV2 dc2 pm2 an2 cd2 ct2), sl2⟩)
    (c2 : PySem.W.codeIn K cd2 "_law_take" = true) (k2 : PySem.W.keepIn K (.ref f_law_take) = true)
    (a3 : PySem.W.nsIn K mainGlobals "_law_of" = some (some (.ref f_law_of)))
    (l3 : K.lookup f_law_of = some ⟨oc3, od3, .func (PySem.W.fnOf "_law_of" "_law_of" (defArgs s_law_of) (defBody s_law_of) (defScope s_law_of) .none kV3 dc3 pm3 an3 cd3 ct3), sl3⟩)
    (c3 : PySem.W.codeIn K cd3 "_law_of" = true) (k3 : PySem.W.keepIn K (.ref f_law_of) = true)
    (a4 : PySem.W.nsIn K mainGlobals "_law_number" = some (some (.ref f_law_number)))
    (l4 : K.lookup f_law_number = some ⟨oc4, od4, .func (PySem.W.fnOf "_law_number" "_law_number" (defArgs s_law_number) (defBody s_law_number) (defScope s_law_number) .none kV4 dc4 pm4 an4 cd4 ct4), sl4⟩)
    (c4 : PySem.W.codeIn K cd4 "_law_number" = true) (k4 : PySem.W.keepIn K (.ref f_law_number) = true)
    (a5 : PySem.W.nsIn K mainGlobals "_law_word" = some (some (.ref f_law_word)))
    (l5 : K.lookup f_law_word = some ⟨oc5, od5, .func (PySem.W.fnOf "_law_word" "_law_word" (defArgs s_law_word) (defBody s_law_word) (defScope s_law_word) .none kV5 dc5 pm5 an5 cd5 ct5), sl5⟩)
    (c5 : PySem.W.codeIn K cd5 "_law_word" = true) (k5 : PySem.W.keepIn K (.ref f_law_word) = true)
    (a6 : PySem.W.nsIn K mainGlobals "_law_class" = some (some (.ref f_law_class)))
    (l6 : K.lookup f_law_class = some ⟨oc6, od6, .func (PySem.W.fnOf "_law_class" "_law_class" (defArgs s_law_class) (defBody s_law_class) (defScope s_law_class) .none kV6 dc6 pm6 an6 cd6 ct6), sl6⟩)
    (c6 : PySem.W.codeIn K cd6 "_law_class" = true) (k6 : PySem.W.keepIn K (.ref f_law_class) = true)
    (a7 : PySem.W.nsIn K mainGlobals "_law_is_integer" = some (some (.ref f_law_is_integer)))
    (l7 : K.lookup f_law_is_integer = some ⟨oc7, od7, .func (PySem.W.fnOf "_law_is_integer" "_law_is_integer" (defArgs s_law_is_integer) (defBody s_law_is_integer) (defScope s_law_is_integer) .none kV7 dc7 pm7 an7 cd7 ct7), sl7⟩)
    (c7 : PySem.W.codeIn K cd7 "_law_is_integer" = true) (k7 : PySem.W.keepIn K (.ref f_law_is_integer) = true)
    (a8 : PySem.W.nsIn K mainGlobals "law" = some (some (.ref f_law)))
    (l8 : K.lookup f_law = some ⟨oc8, od8, .func (PySem.W.fnOf "law" "law" (defArgs s_law) (defBody s_law) (defScope s_law) .none kV8 dc8 pm8 an8 cd8 ct8), sl8⟩)
    (c8 : PySem.W.codeIn K cd8 "law" = true) (k8 : PySem.W.keepIn K (.ref f_law) = true)
    (z_abs : PySem.W.nsIn K mainGlobals "abs" = some none)
    (z_bool : PySem.W.nsIn K mainGlobals "bool" = some none)
    (z_int : PySem.W.nsIn K mainGlobals "int" = some none)
    (z_isinstance : PySem.W.nsIn K mainGlobals "isinstance" = some none)
    (z_len : PySem.W.nsIn K mainGlobals "len" = some none)
    (z_list : PySem.W.nsIn K mainGlobals "list" = some none)
    (z_max : PySem.W.nsIn K mainGlobals "max" = some none)
    (z_min : PySem.W.nsIn K mainGlobals "min" = some none)
    (z_range : PySem.W.nsIn K mainGlobals "range" = some none) :
    ∃ fd : FuncData, (∀ (s : Shared) (v : Value), BindsTo s fd ⟨[v], []⟩ [("script", v)]) ∧ ∀ base : Heap, K.In base → base.Ns mainGlobals mg → FnOk l.prog w K mg base CX0 4 fa fd ["script"] (spLaw K) := by
  have e := hfa.symm.trans (PySem.W.mg_of X G a8)
  cases e
  have F0 := fun_mk (st := s_weight) l0 c0 k0
  have b0 := F0.binds (ps := ["answer"]) fun _ _ _ _ _ _ us hl => match us, hl with | [_], _ => rfl
  have F1 := fun_mk (st := s_law_bag) l1 c1 k1
  have b1 := F1.binds (ps := ["script", "at"]) fun _ _ _ _ _ _ us hl => match us, hl with | [_, _], _ => rfl
  have F2 := fun_mk (st := s_law_take) l2 c2 k2
  have b2 := F2.binds (ps := ["bag", "many"]) fun _ _ _ _ _ _ us hl => match us, hl with | [_, _], _ => rfl
  have F3 := fun_mk (st := s_law_of) l3 c3 k3
  have b3 := F3.binds (ps := ["bag", "some"]) fun _ _ _ _ _ _ us hl => match us, hl with | [_, _], _ => rfl
  have F4 := fun_mk (st := s_law_number) l4 c4 k4
  have b4 := F4.binds (ps := ["bag", "near"]) fun _ _ _ _ _ _ us hl => match us, hl with | [_, _], _ => rfl
  have F5 := fun_mk (st := s_law_word) l5 c5 k5
  have b5 := F5.binds (ps := ["bag", "most"]) fun _ _ _ _ _ _ us hl => match us, hl with | [_, _], _ => rfl
  have F6 := fun_mk (st := s_law_class) l6 c6 k6
  have b6 := F6.binds (ps := ["bag"]) fun _ _ _ _ _ _ us hl => match us, hl with | [_], _ => rfl
  have F7 := fun_mk (st := s_law_is_integer) l7 c7 k7
  have b7 := F7.binds (ps := ["thing"]) fun _ _ _ _ _ _ us hl => match us, hl with | [_], _ => rfl
  have F8 := fun_mk (st := s_law) l8 c8 k8
  have b8 := F8.binds (ps := ["script"]) fun _ _ _ _ _ _ us hl => match us, hl with | [_], _ => rfl
  have T : Txt K mg := {
    f_weight := f_weight, fd_weight := _, F_weight := F0, b_weight := b0, g_weight := PySem.W.mg_of X G a0,
    f_law_bag := f_law_bag, fd_law_bag := _, F_law_bag := F1, b_law_bag := b1, g_law_bag := PySem.W.mg_of X G a1,
    f_law_take := f_law_take, fd_law_take := _, F_law_take := F2, b_law_take := b2, g_law_take := PySem.W.mg_of X G a2,
    f_law_of := f_law_of, fd_law_of := _, F_law_of := F3, b_law_of := b3, g_law_of := PySem.W.mg_of X G a3,
    f_law_number := f_law_number, fd_law_number := _, F_law_number := F4, b_law_number := b4, g_law_number := PySem.W.mg_of X G a4,
    f_law_word := f_law_word, fd_law_word := _, F_law_word := F5, b_law_word := b5, g_law_word := PySem.W.mg_of X G a5,
    f_law_class := f_law_class, fd_law_class := _, F_law_class := F6, b_law_class := b6, g_law_class := PySem.W.mg_of X G a6,
    f_law_is_integer := f_law_is_integer, fd_law_is_integer := _, F_law_is_integer := F7, b_law_is_integer := b7, g_law_is_integer := PySem.W.mg_of X G a7,
    m_abs := PySem.W.mg_none_of X G z_abs, m_bool := PySem.W.mg_none_of X G z_bool, m_int := PySem.W.mg_none_of X G z_int, m_isinstance := PySem.W.mg_none_of X G z_isinstance, m_len := PySem.W.mg_none_of X G z_len, m_list := PySem.W.mg_none_of X G z_list, m_max := PySem.W.mg_none_of X G z_max, m_min := PySem.W.mg_none_of X G z_min, m_range := PySem.W.mg_none_of X G z_range
  }
  exact ⟨PySem.W.fnOf "law" "law" (defArgs s_law) (defBody s_law) (defScope s_law) .none kV8 dc8 pm8 an8 cd8 ct8, fun s v => .of_eq rfl, fun base _ _ => ok_law T F8⟩
end Lw
open PySem PySem.W PyProof.Rows in
set_option maxRecDepth 100000 in
set_option maxHeartbeats 0 in
theorem PySem.Challenge.cw_whatpasses_k06_weights_holds : PySem.Challenge.rw_whatpasses_k06_weights.Holds := by
  w_on; o_law; k_head; (case hw => w_witness2)
  k_fill
  refine L2.walk_ofB (l := PySem.Challenge.rw_whatpasses_k06_weights) (n := 63) (k := 4) (x := "script") (CX := fun _ => L2.CX0) (sp := fun w => Lw.spLaw _) rfl (by decide) rfl ⟨rfl, by decide, by decide⟩ (fun w h Y => PySem.W.kIn_of Y) ?F (fun _ _ a ns hl hb _ hS => ⟨a, ns, rfl, hS, hl, hb, fun _ => rfl⟩) (fun _ _ _ _ _ h => h)
  case F =>
    intro w mg fa h KX G hmg
    refine' Lw.all_mk KX G hmg ?a0 ?l0 ?c0 ?k0 ?a1 ?l1 ?c1 ?k1 ?a2 ?l2 ?c2 ?k2 ?a3 ?l3 ?c3 ?k3 ?a4 ?l4 ?c4 ?k4 ?a5 ?l5 ?c5 ?k5 ?a6 ?l6 ?c6 ?k6 ?a7 ?l7 ?c7 ?k7 ?a8 ?l8 ?c8 ?k8 ?z_abs ?z_bool ?z_int ?z_isinstance ?z_len ?z_list ?z_max ?z_min ?z_range
    (case a0 => k_is)
    (case l0 => k_is)
    (case c0 => k_is)
    (case k0 => k_is)
    (case a1 => k_is)
    (case l1 => k_is)
    (case c1 => k_is)
    (case k1 => k_is)
    (case a2 => k_is)
    (case l2 => k_is)
    (case c2 => k_is)
    (case k2 => k_is)
    (case a3 => k_is)
    (case l3 => k_is)
    (case c3 => k_is)
    (case k3 => k_is)
    (case a4 => k_is)
    (case l4 => k_is)
    (case c4 => k_is)
    (case k4 => k_is)
    (case a5 => k_is)
    (case l5 => k_is)
    (case c5 => k_is)
    (case k5 => k_is)
    (case a6 => k_is)
    (case l6 => k_is)
    (case c6 => k_is)
    (case k6 => k_is)
    (case a7 => k_is)
    (case l7 => k_is)
    (case c7 => k_is)
    (case k7 => k_is)
    (case a8 => k_is)
    (case l8 => k_is)
    (case c8 => k_is)
    (case k8 => k_is)
    (case z_abs => k_is)
    (case z_bool => k_is)
    (case z_int => k_is)
    (case z_isinstance => k_is)
    (case z_len => k_is)
    (case z_list => k_is)
    (case z_max => k_is)
    (case z_min => k_is)
    (case z_range => k_is)
