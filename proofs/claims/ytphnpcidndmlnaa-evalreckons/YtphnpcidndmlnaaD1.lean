/-
  Plain mathematics of decimals: brought to one scale; small sums.
-/
import Derived.Test.YtphnpcidndmlnaaD0
import Derived.Test.YtphnpcidndmlnaaN
namespace Go.Proofs.Ytphnpcidndmlnaa
open Go.RowKit
set_option linter.unusedSimpArgs false
set_option linter.unusedVariables false

theorem mil_max {n s m : Int} (h0 : 0 ≤ s) (h1 : s ≤ m) (h6 : m ≤ 6) : mil (n * pw (m - s)) m = mil n s := by
  unfold mil; rw [Int.mul_assoc, pw_mul h0 h1 h6]
theorem mul_bd {a p A P : Int} (ha : -A ≤ a) (ha' : a ≤ A) (hp : 0 ≤ p) (hp' : p ≤ P) (hA : 0 ≤ A) : -(A * P) ≤ a * p ∧ a * p ≤ A * P := by
  have h1 : a * p ≤ A * p := Int.mul_le_mul_of_nonneg_right ha' hp
  have h2 : A * p ≤ A * P := Int.mul_le_mul_of_nonneg_left hp' hA
  have h3 : -A * p ≤ a * p := Int.mul_le_mul_of_nonneg_right ha hp
  rw [Int.neg_mul] at h3
  omega
theorem dec_small (k na sa nb sb : Int) (hk : k = 7 ∨ k = 8) (c0 : 0 ≤ sa) (c6 : sa ≤ 6) (d0 : 0 ≤ sb) (d6 : sb ≤ 6)
    (hA : -400000000000000 ≤ na * pw (max sa sb - sa) ∧ na * pw (max sa sb - sa) ≤ 400000000000000) (hB : -400000000000000 ≤ nb * pw (max sa sb - sb) ∧ nb * pw (max sa sb - sb) ≤ 400000000000000) :
    decOk k na sa nb sb = true ∧ wrap64 (decN k na sa nb sb) = opN k (na * pw (max sa sb - sa)) (nb * pw (max sa sb - sb)) ∧ decS k sa sb = max sa sb := by
  have hk6 : k ≠ 6 := by omega
  have e1 : strN k na sa (max sa sb) = na * pw (max sa sb - sa) := by unfold strN; rw [if_neg hk6]; exact wrap64_is _ (by unfold Is64; omega)
  have e2 : strN k nb sb (max sa sb) = nb * pw (max sa sb - sb) := by unfold strN; rw [if_neg hk6]; exact wrap64_is _ (by unfold Is64; omega)
  have e3 : decN k na sa nb sb = opN k (na * pw (max sa sb - sa)) (nb * pw (max sa sb - sb)) := by unfold decN; rw [e1, e2]
  have e4 : decS k sa sb = max sa sb := by unfold decS; rw [if_neg hk6]
  have s1 : strOk k na sa (max sa sb) = true := by unfold strOk; rw [if_neg hk6]; exact inI_true (by unfold Is64; omega)
  have s2 : strOk k nb sb (max sa sb) = true := by unfold strOk; rw [if_neg hk6]; exact inI_true (by unfold Is64; omega)
  generalize na * pw (max sa sb - sa) = x at *
  generalize nb * pw (max sa sb - sb) = y at *
  have hz : -800000000000000 ≤ opN k x y ∧ opN k x y ≤ 800000000000000 := by
    unfold opN; rw [if_neg hk6]; split <;> omega
  have hw : wrap64 (opN k x y) = opN k x y := wrap64_is _ (by unfold Is64; omega)
  refine ⟨?_, by rw [e3, hw], e4⟩
  unfold decOk
  rw [e3, e4, hw]
  rw [s1, s2, inI_true (show Is64 (opN k x y) by unfold Is64; omega)]
  obtain ⟨q1, q2, q3, q4⟩ := norm_normed (opN k x y) (max sa sb) (by omega)
  rw [rd_normed q1 q2 (by omega) (by omega)]; rfl
end Go.Proofs.Ytphnpcidndmlnaa
