/-
  Plain mathematics of decimals: a decimal's number in millionths; norming keeps it; val.Order's answer is the order of these numbers.
-/
import Derived.Test.YtofeecalpofklaaP
import Derived.Test.YtofeecalpofklaaD0
namespace Go.Proofs.Ytofeecalpofklaa
open Go.RowKit
set_option linter.unusedSimpArgs false
set_option linter.unusedVariables false

theorem whole_mil {n s : Int} (h0 : 0 ≤ s) (h6 : s ≤ 6) : wholeN n s = (mil n s).tdiv 1000000 := by
  unfold wholeN mil
  rw [← pw_whole h0 h6, Int.mul_tdiv_mul_of_pos_left _ _ (by have := pw_bd (6 - s); omega)]
theorem mill_mil {n s : Int} (h0 : 0 ≤ s) (h6 : s ≤ 6) : millN n s = (mil n s).tmod 1000000 := by
  have hp := pw_bd (6 - s)
  have e : n.tmod (pw s) * pw (6 - s) = (mil n s).tmod 1000000 := by
    unfold mil; rw [← pw_whole h0 h6, Int.mul_comm (pw s), Int.mul_comm n, Int.mul_tmod_mul_of_pos _ _ (by omega), Int.mul_comm]
  unfold millN
  rw [e]
  refine wrap64_is _ ?_
  have h1 : ((mil n s).tmod 1000000).natAbs = (mil n s).natAbs % 1000000 := Int.natAbs_tmod (mil n s) 1000000
  have h2 : (mil n s).natAbs % 1000000 < 1000000 := Nat.mod_lt _ (by decide)
  unfold Is64; omega
theorem tdiv_mono {x y : Int} (h : x ≤ y) : x.tdiv 1000000 ≤ y.tdiv 1000000 := Int.tdiv_le_tdiv (by decide) h
/-- the order of two decimals is that of their millionths; then their texts' -/
theorem ord_dec {n s n' s' : Int} {t t' : ByteArray} (h0 : 0 ≤ s) (h6 : s ≤ 6) (h0' : 0 ≤ s') (h6' : s' ≤ 6) :
    ordV 3 n s t 3 n' s' t' = if cmpI (mil n s) (mil n' s') ≠ 0 then cmpI (mil n s) (mil n' s') else cmpS t t' := by
  unfold ordV
  rw [whole_mil h0 h6, whole_mil h0' h6', mill_mil h0 h6, mill_mil h0' h6']
  generalize mil n s = x
  generalize mil n' s' = y
  have ex := Int.mul_tdiv_add_tmod x 1000000
  have ey := Int.mul_tdiv_add_tmod y 1000000
  have m1 : x ≤ y → x.tdiv 1000000 ≤ y.tdiv 1000000 := tdiv_mono
  have m2 : y ≤ x → y.tdiv 1000000 ≤ x.tdiv 1000000 := tdiv_mono
  generalize x.tdiv 1000000 = a at *
  generalize y.tdiv 1000000 = c at *
  generalize x.tmod 1000000 = b at *
  generalize y.tmod 1000000 = d at *
  rw [if_neg (by unfold cmpI; simp)]
  unfold cmpI
  by_cases h1 : a < c
  · have : x < y := by omega
    simp [h1, this]
  · by_cases h2 : c < a
    · have g : y < x := by omega
      have g' : ¬ x < y := by omega
      simp [h1, h2, g, g']
    · have hac : a = c := by omega
      subst hac
      by_cases h3 : b < d
      · have : x < y := by omega
        simp [h3, this]
      · by_cases h4 : d < b
        · have g : y < x := by omega
          have g' : ¬ x < y := by omega
          simp [h3, h4, g, g']
        · have : x = y := by omega
          subst this; simp [h3, h4]
theorem cmpS_self (t : ByteArray) : cmpS t t = 0 ∨ Op.bytesLess t.toList t.toList = true := by
  unfold cmpS
  cases h : Op.bytesLess t.toList t.toList
  · left; simp
  · right; rfl
theorem cmpS_E : cmpS E0 E0 = 0 := by decide +kernel
theorem ord_mil {n s n' s' : Int} (h0 : 0 ≤ s) (h6 : s ≤ 6) (h0' : 0 ≤ s') (h6' : s' ≤ 6) : ordV 3 n s E0 3 n' s' E0 = cmpI (mil n s) (mil n' s') := by
  rw [ord_dec h0 h6 h0' h6', cmpS_E]; split
  · rfl
  · rename_i h
    have h' : cmpI (mil n s) (mil n' s') = 0 := by simpa using h
    exact h'.symm

/-- sums, differences of decimals that fit: their millionths -/
theorem mil_max {n s m : Int} (h0 : 0 ≤ s) (h1 : s ≤ m) (h6 : m ≤ 6) : mil (n * pw (m - s)) m = mil n s := by
  unfold mil; rw [Int.mul_assoc, pw_mul h0 h1 h6]
theorem mul_bd {a p A P : Int} (ha : -A ≤ a) (ha' : a ≤ A) (hp : 0 ≤ p) (hp' : p ≤ P) (hA : 0 ≤ A) : -(A * P) ≤ a * p ∧ a * p ≤ A * P := by
  have h1 : a * p ≤ A * p := Int.mul_le_mul_of_nonneg_right ha' hp
  have h2 : A * p ≤ A * P := Int.mul_le_mul_of_nonneg_left hp' hA
  have h3 : -A * p ≤ a * p := Int.mul_le_mul_of_nonneg_right ha hp
  rw [Int.neg_mul] at h3
  omega
theorem dec_small (k na sa nb sb : Int) (hk : k = 7 ∨ k = 8) (c0 : 0 ≤ sa) (c6 : sa ≤ 6) (d0 : 0 ≤ sb) (d6 : sb ≤ 6)
    (hA : -400000000000000 ≤ na * pw (max sa sb - sa) ∧ na * pw (max sa sb - sa) ≤ 400000000000000) (hB : -400000000000000 ≤ nb * pw (max sa sb - sb) ∧ nb * pw (max sa sb - sb) ≤ 400000000000000) :
    decOk k na sa nb sb = true ∧ wrap64 (decN k na sa nb sb) = opN k (na * pw (max sa sb - sa)) (nb * pw (max sa sb - sb)) ∧ decS k sa sb = max sa sb := by
  have hk6 : k ≠ 6 := by omega
  have e1 : strN k na sa (max sa sb) = na * pw (max sa sb - sa) := by unfold strN; rw [if_neg hk6]; exact wrap64_is _ (by unfold Is64; omega)
  have e2 : strN k nb sb (max sa sb) = nb * pw (max sa sb - sb) := by unfold strN; rw [if_neg hk6]; exact wrap64_is _ (by unfold Is64; omega)
  have e3 : decN k na sa nb sb = opN k (na * pw (max sa sb - sa)) (nb * pw (max sa sb - sb)) := by unfold decN; rw [e1, e2]
  have e4 : decS k sa sb = max sa sb := by unfold decS; rw [if_neg hk6]
  have s1 : strOk k na sa (max sa sb) = true := by unfold strOk; rw [if_neg hk6]; exact inI_true (by unfold Is64; omega)
  have s2 : strOk k nb sb (max sa sb) = true := by unfold strOk; rw [if_neg hk6]; exact inI_true (by unfold Is64; omega)
  generalize na * pw (max sa sb - sa) = x at *
  generalize nb * pw (max sa sb - sb) = y at *
  have hz : -800000000000000 ≤ opN k x y ∧ opN k x y ≤ 800000000000000 := by
    unfold opN; rw [if_neg hk6]; split <;> omega
  have hw : wrap64 (opN k x y) = opN k x y := wrap64_is _ (by unfold Is64; omega)
  refine ⟨?_, by rw [e3, hw], e4⟩
  unfold decOk
  rw [e3, e4, hw]
  rw [s1, s2, inI_true (show Is64 (opN k x y) by unfold Is64; omega)]
  obtain ⟨q1, q2, q3, q4⟩ := norm_normed (opN k x y) (max sa sb) (by omega)
  rw [rd_normed q1 q2 (by omega) (by omega)]; rfl
end Go.Proofs.Ytofeecalpofklaa
