/-
  What is reckoned, with its error: the fold keeps it.
-/
import Derived.Test.YtliefgkhpgigaaaEY
namespace Go.Proofs.Ytliefgkhpgigaaa
open Go.RowKit
set_option linter.unusedSimpArgs false
set_option linter.unusedVariables false

theorem recR_err (k ka na sa kb nb sb : Int) (h : (recR k ka na sa kb nb sb).2 ≠ 0) : (recR k ka na sa kb nb sb).1 = (0, 0, 0) := by
  revert h
  unfold recR
  split
  · intro _; rfl
  split
  · intro _; rfl
  split
  · intro _; rfl
  split
  · intro h; exact absurd rfl h
  split
  · intro _; rfl
  split
  · split
    · intro h; exact absurd rfl h
    · intro _; rfl
  · split
    · intro h; exact absurd rfl h
    · intro _; rfl
theorem fin_rec (k : Int) (a b : V4) : fin Z4 (recW k a b) = recW k a b := by
  unfold fin
  by_cases h : (recW k a b).2 = 0
  · rw [if_pos h]
  · rw [if_neg h]
    refine Prod.ext ?_ rfl
    by_cases h4 : k = 4
    · have := recR_err 8 a.1 0 0 a.1 a.2.1 a.2.2.1 (by simpa [recW, h4] using h)
      show Z4 = _
      simp only [recW, if_pos h4, this]; rfl
    · have := recR_err k a.1 a.2.1 a.2.2.1 b.1 b.2.1 b.2.2.1 (by simpa [recW, h4] using h)
      show Z4 = _
      simp only [recW, if_neg h4, this]; rfl
end Go.Proofs.Ytliefgkhpgigaaa
