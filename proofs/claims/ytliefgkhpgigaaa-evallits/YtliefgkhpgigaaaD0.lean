/-
  Plain mathematics of decimals: norming; a decimal's number in millionths, which norming keeps.
-/
import Derived.Test.YtliefgkhpgigaaaC
namespace Go.Proofs.Ytliefgkhpgigaaa
open Go.RowKit
set_option linter.unusedSimpArgs false
set_option linter.unusedVariables false

/-- a value as the reference norms it: within its bounds, and normed -/
def Normed (n s : Int) : Prop := s = 0 ∨ n.tmod 10 ≠ 0
theorem normS_normed : ∀ (k : Nat) (n : Int), Normed (normS k n).1 (normS k n).2 ∧ 0 ≤ (normS k n).2 ∧ (normS k n).2 ≤ k ∧ (normS k n).1.natAbs ≤ n.natAbs
  | 0, n => ⟨Or.inl rfl, by simp [normS], by simp [normS], by simp [normS]⟩
  | k + 1, n => by
    unfold normS
    split
    · obtain ⟨h1, h2, h3, h4⟩ := normS_normed k (n.tdiv 10)
      refine ⟨h1, h2, by omega, ?_⟩
      have : (n.tdiv 10).natAbs = n.natAbs / 10 := Int.natAbs_tdiv n 10
      omega
    · rename_i h; exact ⟨Or.inr h, by simp; omega, by simp, by simp⟩
theorem norm_normed (n s : Int) (hs : 0 ≤ s) : Normed (normN n s) (normC n s) ∧ 0 ≤ normC n s ∧ normC n s ≤ s ∧ (normN n s).natAbs ≤ n.natAbs := by
  unfold normN normC
  by_cases h : s ≤ 0
  · rw [if_pos h, if_pos h]; exact ⟨Or.inl (by omega), hs, Int.le_refl _, Nat.le_refl _⟩
  · rw [if_neg h, if_neg h]
    obtain ⟨h1, h2, h3, h4⟩ := normS_normed s.toNat n
    exact ⟨h1, h2, by omega, h4⟩
theorem normed_done {n s : Int} (h : Normed n s) : normN n s = n ∧ normC n s = s := norm_done (by rcases h with h | h; exact Or.inl (by omega); exact Or.inr h)
theorem rd_normed {n s : Int} (h : Normed n s) (h0 : 0 ≤ s) (h6 : s ≤ 6) (hn : n.natAbs < 1000000000000000) : rdB n s = true := by
  unfold rdB; rw [decide_eq_true_eq]
  refine ⟨by omega, by omega, h0, h6, ?_⟩
  rcases h with h | h
  · exact Or.inl h
  · exact Or.inr (fun e => h ((tmod_ten n).2 e))

theorem pw_pow {n : Int} (h : n ≤ 6) : pw n = 10 ^ n.toNat := by unfold pw; rw [show min n 6 = n by omega]
theorem pw_mul {s m : Int} (h0 : 0 ≤ s) (h1 : s ≤ m) (h6 : m ≤ 6) : pw (m - s) * pw (6 - m) = pw (6 - s) := by
  rw [pw_pow (by omega), pw_pow (by omega), pw_pow (by omega), ← Int.pow_add]; congr 1; omega
theorem pw_whole {s : Int} (h0 : 0 ≤ s) (h6 : s ≤ 6) : pw s * pw (6 - s) = 1000000 := by
  rw [pw_pow (by omega), pw_pow (by omega), ← Int.pow_add, show s.toNat + (6 - s).toNat = 6 by omega]; rfl

/-- a decimal in millionths -/
def mil (n s : Int) : Int := n * pw (6 - s)
theorem normS_val : ∀ (k : Nat) (n : Int), (normS k n).1 * 10 ^ (k - (normS k n).2.toNat) = n
  | 0, n => by simp [normS]
  | k + 1, n => by
    unfold normS
    split
    · rename_i h
      have ih := normS_val k (n.tdiv 10)
      have hb := normS_normed k (n.tdiv 10)
      rw [show k + 1 - (normS k (n.tdiv 10)).2.toNat = (k - (normS k (n.tdiv 10)).2.toNat) + 1 by omega, Int.pow_succ, ← Int.mul_assoc, ih]
      have := Int.mul_tdiv_add_tmod n 10
      omega
    · rw [show k + 1 - ((k : Int) + 1).toNat = 0 by omega]; simp
theorem mil_norm {n s : Int} (h0 : 0 ≤ s) (h6 : s ≤ 6) : mil (normN n s) (normC n s) = mil n s := by
  unfold mil
  by_cases h : s ≤ 0
  · rw [(norm_done (Or.inl h)).1, (norm_done (Or.inl h)).2]
  · have hb := normS_normed s.toNat n
    have hv := normS_val s.toNat n
    unfold normN normC; rw [if_neg h, if_neg h]
    have e : pw (6 - (normS s.toNat n).2) = 10 ^ (s.toNat - (normS s.toNat n).2.toNat) * pw (6 - s) := by
      rw [pw_pow (by omega), pw_pow (by omega), ← Int.pow_add]; congr 1; omega
    rw [e, ← Int.mul_assoc, hv]

end Go.Proofs.Ytliefgkhpgigaaa
