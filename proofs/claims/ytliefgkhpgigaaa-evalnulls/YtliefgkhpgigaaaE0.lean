/-
  Plain mathematics of decimals: a normed decimal is the only one of its number.
-/
import Derived.Test.YtliefgkhpgigaaaD0
namespace Go.Proofs.Ytliefgkhpgigaaa
open Go.RowKit
set_option linter.unusedSimpArgs false
set_option linter.unusedVariables false

theorem pw_ten {k : Int} (h0 : 0 < k) (h6 : k ≤ 6) : pw k = pw (k - 1) * 10 := by
  rw [pw_pow h6, pw_pow (by omega), ← Int.pow_succ]; congr 1; omega
theorem mil_step {n s n' s' : Int} (h0 : 0 ≤ s) (h1 : s ≤ s') (h6 : s' ≤ 6) (h : mil n s = mil n' s') : n * pw (s' - s) = n' := by
  unfold mil at h
  rw [← pw_mul h0 h1 h6, ← Int.mul_assoc] at h
  exact Int.eq_of_mul_eq_mul_right (by have := pw_bd (6 - s'); omega) h
theorem unique_le {n s n' s' : Int} (h0 : 0 ≤ s) (h1 : s ≤ s') (h6 : s' ≤ 6) (hn : Normed n' s') (h : mil n s = mil n' s') : n = n' ∧ s = s' := by
  have e := mil_step h0 h1 h6 h
  by_cases hs : s = s'
  · subst hs; rw [show s - s = 0 by omega, pw0, Int.mul_one] at e; exact ⟨e, rfl⟩
  · exfalso
    rw [pw_ten (by omega) (by omega), ← Int.mul_assoc] at e
    rcases hn with hz | hm
    · omega
    · apply hm; rw [← e, Int.mul_comm]; exact Int.mul_tmod_right _ _
/-- a normed decimal is the only one of its number -/
theorem norm_unique {n s n' s' : Int} (h0 : 0 ≤ s) (h6 : s ≤ 6) (h0' : 0 ≤ s') (h6' : s' ≤ 6) (hn : Normed n s) (hn' : Normed n' s') (h : mil n s = mil n' s') : n = n' ∧ s = s' := by
  by_cases hle : s ≤ s'
  · exact unique_le h0 hle h6' hn' h
  · have := unique_le h0' (by omega) h6 hn h.symm
    exact ⟨this.1.symm, this.2.symm⟩

end Go.Proofs.Ytliefgkhpgigaaa
