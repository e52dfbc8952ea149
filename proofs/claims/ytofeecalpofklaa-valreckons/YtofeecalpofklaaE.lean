/-
  Plain mathematics of decimals, more: a normed decimal is the only one of its number; sums, differences, products of small decimals as val.Reckon tells them.
-/
import Derived.Test.YtofeecalpofklaaD
namespace Go.Proofs.Ytofeecalpofklaa
open Go.RowKit
set_option linter.unusedSimpArgs false
set_option linter.unusedVariables false

theorem pw_ten {k : Int} (h0 : 0 < k) (h6 : k ≤ 6) : pw k = pw (k - 1) * 10 := by
  rw [pw_pow h6, pw_pow (by omega), ← Int.pow_succ]; congr 1; omega
theorem mil_step {n s n' s' : Int} (h0 : 0 ≤ s) (h1 : s ≤ s') (h6 : s' ≤ 6) (h : mil n s = mil n' s') : n * pw (s' - s) = n' := by
  unfold mil at h
  rw [← pw_mul h0 h1 h6, ← Int.mul_assoc] at h
  exact Int.eq_of_mul_eq_mul_right (by have := pw_bd (6 - s'); omega) h
theorem unique_le {n s n' s' : Int} (h0 : 0 ≤ s) (h1 : s ≤ s') (h6 : s' ≤ 6) (hn : Normed n' s') (h : mil n s = mil n' s') : n = n' ∧ s = s' := by
  have e := mil_step h0 h1 h6 h
  by_cases hs : s = s'
  · subst hs; rw [show s - s = 0 by omega, pw0, Int.mul_one] at e; exact ⟨e, rfl⟩
  · exfalso
    rw [pw_ten (by omega) (by omega), ← Int.mul_assoc] at e
    rcases hn with hz | hm
    · omega
    · apply hm; rw [← e, Int.mul_comm]; exact Int.mul_tmod_right _ _
/-- a normed decimal is the only one of its number -/
theorem norm_unique {n s n' s' : Int} (h0 : 0 ≤ s) (h6 : s ≤ 6) (h0' : 0 ≤ s') (h6' : s' ≤ 6) (hn : Normed n s) (hn' : Normed n' s') (h : mil n s = mil n' s') : n = n' ∧ s = s' := by
  by_cases hle : s ≤ s'
  · exact unique_le h0 hle h6' hn' h
  · have := unique_le h0' (by omega) h6 hn h.symm
    exact ⟨this.1.symm, this.2.symm⟩

/-- a sum or difference that is told: it is normed, and its millionths are the sum's, the difference's -/
theorem reckon_told (k xn xs yn ys : Int) (W : World) (hk : k = 7 ∨ k = 8) (hx : Is64 xn) (hy : Is64 yn) (c0 : 0 ≤ xs) (c6 : xs ≤ 6) (d0 : 0 ≤ ys) (d6 : ys ≤ 6)
    (hA : -400000000000000 ≤ xn * pw (max xs ys - xs) ∧ xn * pw (max xs ys - xs) ≤ 400000000000000) (hB : -400000000000000 ≤ yn * pw (max xs ys - ys) ∧ yn * pw (max xs ys - ys) ≤ 400000000000000)
    (n s : Int) (s0 : 0 ≤ s) (s6 : s ≤ 6) (hn : Normed n s) (h : mil n s = opN k (mil xn xs) (mil yn ys)) :
    Calls Try.prog 23 #[.int .i64 k, V 3 xn xs EZ, V 3 yn ys EZ] W fun e w' => e = .returned (.tuple #[V 3 n s EZ, .int .i64 0]) ∧ Below W.heap.size W w' := by
  have hk6 : k ≠ 6 := by omega
  have hk4 : k ≠ 4 := by omega
  have hrk : reckB k = true := by rcases hk with rfl | rfl <;> decide
  obtain ⟨h1, h2, h3⟩ := dec_small k xn xs yn ys hk c0 c6 d0 d6 hA hB
  refine (reckon_any k 3 xn xs EZ 3 yn ys EZ W hx hy (fun _ => ⟨⟨c0, c6⟩, rfl⟩) (fun _ => ⟨⟨d0, d6⟩, rfl⟩)).mono (fun _ _ hh => ⟨hh.1.trans (recV_eq ?_), hh.2⟩)
  rw [if_neg hk4, rec_h1 hrk h1, h2, h3]
  have hz : mil (opN k (xn * pw (max xs ys - xs)) (yn * pw (max xs ys - ys))) (max xs ys) = opN k (mil xn xs) (mil yn ys) := by
    rw [← mil_max (n := xn) c0 (show xs ≤ max xs ys by omega) (by omega), ← mil_max (n := yn) d0 (show ys ≤ max xs ys by omega) (by omega)]
    unfold mil opN; rw [if_neg hk6, if_neg hk6]
    split
    · rw [Int.add_mul]
    · rw [Int.sub_mul]
  generalize opN k (xn * pw (max xs ys - xs)) (yn * pw (max xs ys - ys)) = z at *
  obtain ⟨q1, q2, q3, q4⟩ := norm_normed z (max xs ys) (by omega)
  have hm := mil_norm (n := z) (s := max xs ys) (by omega) (by omega)
  obtain ⟨u1, u2⟩ := norm_unique q2 (by omega) s0 s6 q1 hn (by rw [hm, hz, h])
  rw [u1, u2]
end Go.Proofs.Ytofeecalpofklaa
