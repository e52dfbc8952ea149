/-
  Plain mathematics of package val: int's sums and products, powers of ten, order of two numbers. No program is named here.
-/
import Derived.WalkKit
namespace Go.Proofs.Ytjmmfgmmmdbenaa
open Go.RowKit
set_option linter.unusedSimpArgs false
set_option linter.unusedVariables false

def cmpI (x y : Int) : Int := if x < y then -1 else if y < x then 1 else 0
def pw (n : Int) : Int := 10 ^ (min n 6).toNat
def inI (n : Int) : Bool := decide (-9223372036854775808 ≤ n ∧ n ≤ 9223372036854775807)
abbrev Is64 (n : Int) : Prop := -9223372036854775808 ≤ n ∧ n ≤ 9223372036854775807

theorem inI_true {n : Int} (h : Is64 n) : inI n = true := by unfold inI; exact decide_eq_true h
theorem inI_false {n : Int} (h : ¬ Is64 n) : inI n = false := by unfold inI; exact decide_eq_false h
theorem is64_of {n : Int} (h : inI n = true) : Is64 n := by unfold inI at h; exact of_decide_eq_true h

theorem add_ok (a b : Int) (ha : Is64 a) (hb : Is64 b) : (decide (wrap64 (a + b) < a) == decide (b < 0)) = inI (a + b) := by
  unfold wrap64 inI Is64 at *
  rw [Bool.eq_iff_iff]; simp only [beq_iff_eq, decide_eq_decide, decide_eq_true_eq]; omega
theorem sub_ok (a b : Int) (ha : Is64 a) (hb : Is64 b) : (decide (a < wrap64 (a - b)) == decide (b < 0)) = inI (a - b) := by
  unfold wrap64 inI Is64 at *
  rw [Bool.eq_iff_iff]; simp only [beq_iff_eq, decide_eq_decide, decide_eq_true_eq]; omega

theorem wrap64_bd (n : Int) : Is64 (wrap64 n) := by unfold wrap64 Is64; omega
theorem wrap64_dvd (n : Int) : ∃ k : Int, n = wrap64 n + k * 18446744073709551616 := ⟨(n + 9223372036854775808) / 18446744073709551616, by unfold wrap64; omega⟩

/-- where the product does not fit, dividing back does not find the factor again -/
theorem mul_back (a b : Int) (hb : Is64 b) (hb0 : b ≠ 0) (h : (wrap64 (a * b)).tdiv b = a) : Is64 (a * b) := by
  obtain ⟨k, hk⟩ := wrap64_dvd (a * b)
  have hw := wrap64_bd (a * b)
  have hdm := Int.mul_tdiv_add_tmod (wrap64 (a * b)) b
  have hr := Int.natAbs_tmod (wrap64 (a * b)) b
  rw [h, Int.mul_comm b a] at hdm
  have hlt : ((wrap64 (a * b)).tmod b).natAbs < b.natAbs := by rw [hr]; exact Nat.mod_lt _ (by omega)
  generalize (wrap64 (a * b)).tmod b = r at *
  have hk0 : k = 0 := by unfold Is64 at *; omega
  have he : a * b = wrap64 (a * b) := by rw [hk0] at hk; omega
  rw [he]; exact hw

theorem mul_yes (a b : Int) (ha : Is64 a) (hb : Is64 b) (hb0 : b ≠ 0) (h : wrap64 ((wrap64 (a * b)).tdiv b) = a) (hm : ¬ (a = -9223372036854775808 ∧ b = -1)) : Is64 (a * b) := by
  apply mul_back a b hb hb0
  by_cases hb1 : b = -1
  · have ha' : a ≠ -9223372036854775808 := fun e => hm ⟨e, hb1⟩
    have e1 : wrap64 (a * b) = -a := by rw [hb1]; unfold wrap64; unfold Is64 at ha; omega
    rw [e1, hb1]; show (-a).tdiv (-1) = a
    rw [Int.tdiv_neg, Int.tdiv_one]; omega
  · have hw := wrap64_bd (a * b)
    generalize wrap64 (a * b) = q at *
    have hq : Is64 (q.tdiv b) := by
      have h1 : (q.tdiv b).natAbs = q.natAbs / b.natAbs := Int.natAbs_tdiv q b
      have h2 : q.natAbs / b.natAbs ≤ q.natAbs / 2 ∨ b.natAbs = 1 := by
        by_cases h3 : b.natAbs = 1
        · exact Or.inr h3
        · exact Or.inl (Nat.div_le_div_left (by omega) (by omega))
      rcases h2 with h2 | h2
      · unfold Is64 at *; omega
      · have : b = 1 := by omega
        subst this; rw [Int.tdiv_one]; exact hw
    have : wrap64 (q.tdiv b) = q.tdiv b := by unfold wrap64; unfold Is64 at hq; omega
    rw [← this]; exact h

theorem wrap64_is (n : Int) (h : Is64 n) : wrap64 n = n := by unfold wrap64; unfold Is64 at h; omega

theorem mul_no (a b : Int) (ha : Is64 a) (hb0 : b ≠ 0) (h : ¬ wrap64 ((wrap64 (a * b)).tdiv b) = a) : ¬ Is64 (a * b) := by
  intro hi
  apply h
  rw [wrap64_is _ hi, Int.mul_tdiv_cancel _ hb0, wrap64_is _ ha]

theorem tmod_lt (x n : Int) (h : 0 < n) (hx : x.tmod n < 0) : x.tmod n + n = x % n ∧ -n < x.tmod n := by
  rw [Int.tmod_eq_emod] at *
  have h1 := Int.emod_nonneg x (show n ≠ 0 by omega)
  have h2 := Int.emod_lt_of_pos x h
  have hn : (n.natAbs : Int) = n := by omega
  split at hx <;> rename_i hc
  · omega
  · rw [if_neg hc]; omega
theorem tmod_ge (x n : Int) (h : 0 < n) (hx : 0 ≤ x.tmod n) : x.tmod n = x % n := by
  rw [Int.tmod_eq_emod] at *
  have h1 := Int.emod_nonneg x (show n ≠ 0 by omega)
  have h2 := Int.emod_lt_of_pos x h
  have hn : (n.natAbs : Int) = n := by omega
  split at hx <;> rename_i hc
  · rw [if_pos hc]; omega
  · omega

theorem ret_int {k : IntKind} {a b : Int} (h : a = b) : Ending.returned (.int k a) = .returned (.int k b) := by rw [h]
theorem ret_bool {a b : Bool} (h : a = b) : Ending.returned (.bool a) = .returned (.bool b) := by rw [h]
theorem tup_ib {k : IntKind} {a b : Int} {c d : Bool} (h1 : a = b) (h2 : c = d) : Ending.returned (.tuple #[.int k a, .bool c]) = .returned (.tuple #[.int k b, .bool d]) := by rw [h1, h2]

theorem pw_nonpos {n : Int} (h : n ≤ 0) : pw n = 1 := by unfold pw; rw [show (min n 6).toNat = 0 by omega]; rfl
theorem pw0 : pw 0 = 1 := rfl
theorem pw1 : pw 1 = 10 := rfl
theorem pw2 : pw 2 = 100 := rfl
theorem pw3 : pw 3 = 1000 := rfl
theorem pw4 : pw 4 = 10000 := rfl
theorem pw5 : pw 5 = 100000 := rfl
theorem pw6 : pw 6 = 1000000 := rfl
theorem pw_bd (n : Int) : 1 ≤ pw n ∧ pw n ≤ 1000000 := by
  by_cases h0 : n ≤ 0
  · rw [pw_nonpos h0]; omega
  by_cases h6 : 6 ≤ n
  · unfold pw; rw [show (min n 6).toNat = 6 by omega]; decide
  · have : n = 1 ∨ n = 2 ∨ n = 3 ∨ n = 4 ∨ n = 5 := by omega
    rcases this with rfl | rfl | rfl | rfl | rfl <;> decide
theorem ten_bd (k : Nat) (h : k ≤ 6) : (1 : Int) ≤ 10 ^ k ∧ (10 : Int) ^ k ≤ 1000000 := by
  have : k = 0 ∨ k = 1 ∨ k = 2 ∨ k = 3 ∨ k = 4 ∨ k = 5 ∨ k = 6 := by omega
  rcases this with rfl | rfl | rfl | rfl | rfl | rfl | rfl <;> decide
end Go.Proofs.Ytjmmfgmmmdbenaa
