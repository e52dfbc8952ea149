/-
  What Holds tells of two numbers.
-/
import Derived.Test.YtliefgkhpgigaaaEVD
namespace Go.Proofs.Ytliefgkhpgigaaa
open Go.RowKit
set_option linter.unusedSimpArgs false
set_option linter.unusedVariables false

theorem ord_int (a b : Int) : ordV 2 a 0 S0 2 b 0 S0 = cmpI a b := by
  have h0 : cmpI 2 2 = 0 := by decide
  have hp : pw 0 = 1 := by decide
  have hw : wrap64 0 = 0 := by unfold wrap64; omega
  have h1 : wholeN a 0 = a := by unfold wholeN; rw [hp]; exact Int.tdiv_one a
  have h2 : wholeN b 0 = b := by unfold wholeN; rw [hp]; exact Int.tdiv_one b
  have h3 : millN a 0 = 0 := by unfold millN; rw [hp, Int.tmod_one, Int.zero_mul, hw]
  have h4 : millN b 0 = 0 := by unfold millN; rw [hp, Int.tmod_one, Int.zero_mul, hw]
  have h5 : cmpI 0 0 = 0 := by decide
  have h6 : cmpS S0 S0 = 0 := by decide +kernel
  unfold ordV
  rw [h0, h1, h2, h3, h4, h5, h6]
  by_cases h : cmpI a b = 0
  · rw [if_neg (by simp), if_neg (by simp [h]), if_neg (by simp), h]
  · rw [if_neg (by simp), if_pos h]
/-- what a comparison of two numbers tells -/
def cmpB (k a b : Int) : Bool := if k = 9 then decide (a = b) else if k = 10 then decide (a ≠ b) else if k = 11 then decide (a < b) else decide (a ≤ b)
theorem cmpR_int (k a b : Int) : cmpR k (2, a, 0, S0) (2, b, 0, S0) = truI (cmpB k a b) := by
  have ho : oneK 2 2 = true := by decide
  show cmpT k (oneK 2 2) (oneK 2 2 && (ordV 2 a 0 S0 2 b 0 S0 == 0)) (oneK 2 2 && decide (ordV 2 a 0 S0 2 b 0 S0 < 0)) = _
  rw [ho, ord_int, Bool.true_and, Bool.true_and]
  have e1 : (cmpI a b == 0) = decide (a = b) := by
    unfold cmpI
    by_cases h : a < b
    · rw [if_pos h, decide_eq_false (by omega)]; rfl
    · rw [if_neg h]
      by_cases h' : b < a
      · rw [if_pos h', decide_eq_false (by omega)]; rfl
      · rw [if_neg h', decide_eq_true (by omega)]; rfl
  have e2 : decide (cmpI a b < 0) = decide (a < b) := by
    unfold cmpI
    by_cases h : a < b
    · rw [if_pos h, decide_eq_true h]; rfl
    · rw [if_neg h, decide_eq_false h]
      by_cases h' : b < a
      · rw [if_pos h']; rfl
      · rw [if_neg h']; rfl
  rw [e1, e2]
  unfold cmpT cmpB
  rw [if_neg (by simp)]
  by_cases h9 : k = 9
  · rw [if_pos h9, if_pos h9]
  rw [if_neg h9, if_neg h9]
  by_cases h10 : k = 10
  · rw [if_pos h10, if_pos h10]; simp
  rw [if_neg h10, if_neg h10]
  by_cases h11 : k = 11
  · rw [if_pos h11, if_pos h11]
  rw [if_neg h11, if_neg h11]
  congr 1
  by_cases h : a ≤ b
  · rw [decide_eq_true h]
    by_cases h' : a = b
    · rw [decide_eq_true h', Bool.or_true]
    · rw [decide_eq_true (show a < b by omega), Bool.true_or]
  · rw [decide_eq_false h, decide_eq_false (show ¬ a < b by omega), decide_eq_false (show ¬ a = b by omega)]; rfl
theorem tru_valT (p : Bool) : truV (valT (truI p)) = truI p ∧ (valT (truI p)).1 = 1 := by cases p <;> exact ⟨by decide +kernel, by decide +kernel⟩
theorem holds_cmp (k a b : Int) (p q : V4) (hk : k = 9 ∨ k = 10 ∨ k = 11 ∨ k = 12) : holdsR cols4 [(2, a, 0, S0), (2, b, 0, S0), p, q] (twoX k (colX ⟨#[97]⟩) (colX ⟨#[98]⟩)) = (cmpB k a b, true, 0) := by
  have hev : evalR cols4 [(2, a, 0, S0), (2, b, 0, S0), p, q] (twoX k (colX ⟨#[97]⟩) (colX ⟨#[98]⟩)) = (valT (truI (cmpB k a b)), 0) := by
    rw [ev_two k (ev_col (nm_a _ _ _ _)) (ev_col (nm_b _ _ _ _)), ← cmpR_int k a b]
    rcases hk with rfl | rfl | rfl | rfl <;> rfl
  unfold holdsR
  rw [if_neg (by rcases hk with rfl | rfl | rfl | rfl <;> decide), hev]
  unfold holdsV
  rw [(tru_valT _).1, (tru_valT _).2]
  cases cmpB k a b <;> decide +kernel
theorem holds_nul (k : Int) (x y p q : V4) (hk : k = 9 ∨ k = 10 ∨ k = 11 ∨ k = 12) (h0 : x.1 = 0 ∨ y.1 = 0) : holdsR cols4 [x, y, p, q] (twoX k (colX ⟨#[97]⟩) (colX ⟨#[98]⟩)) = (false, false, 0) := by
  have ho : oneK x.1 y.1 = false := by
    unfold oneK
    rcases h0 with h | h
    · rw [h]; rfl
    · rw [h]; cases hx : (x.1 != 0)
      · rfl
      · simp only [bne_iff_ne, ne_eq] at hx; simp [hx]
  have hc : cmpR k x y = 0 := by
    show cmpT k (oneK x.1 y.1) _ _ = 0
    rw [ho]; rfl
  have hev : evalR cols4 [x, y, p, q] (twoX k (colX ⟨#[97]⟩) (colX ⟨#[98]⟩)) = (valT (cmpR k x y), 0) := by
    rw [ev_two k (ev_col (nm_a _ _ _ _)) (ev_col (nm_b _ _ _ _))]
    rcases hk with rfl | rfl | rfl | rfl <;> rfl
  rw [hc] at hev
  unfold holdsR
  rw [if_neg (by rcases hk with rfl | rfl | rfl | rfl <;> decide), hev]
  decide +kernel
theorem holds_nul2 (k : Int) (x y p q : V4) (hk : k = 9 ∨ k = 10 ∨ k = 11 ∨ k = 12) (h0 : x.1 = 0 ∨ y.1 = 0) : holdsR cols4 [x, y, p, q] (twoX k (colX ⟨#[98]⟩) (colX ⟨#[97]⟩)) = (false, false, 0) := by
  have ho : oneK y.1 x.1 = false := by
    unfold oneK
    rcases h0 with h | h
    · rw [h]; cases hx : (y.1 != 0)
      · rfl
      · simp only [bne_iff_ne, ne_eq] at hx; simp [hx]
    · rw [h]; rfl
  have hc : cmpR k y x = 0 := by
    show cmpT k (oneK y.1 x.1) _ _ = 0
    rw [ho]; rfl
  have hev : evalR cols4 [x, y, p, q] (twoX k (colX ⟨#[98]⟩) (colX ⟨#[97]⟩)) = (valT (cmpR k y x), 0) := by
    rw [ev_two k (ev_col (nm_b _ _ _ _)) (ev_col (nm_a _ _ _ _))]
    rcases hk with rfl | rfl | rfl | rfl <;> rfl
  rw [hc] at hev
  unfold holdsR
  rw [if_neg (by rcases hk with rfl | rfl | rfl | rfl <;> decide), hev]
  decide +kernel
theorem holds_cmp2 (k a b : Int) (p q : V4) (hk : k = 9 ∨ k = 10 ∨ k = 11 ∨ k = 12) : holdsR cols4 [(2, a, 0, S0), (2, b, 0, S0), p, q] (twoX k (colX ⟨#[98]⟩) (colX ⟨#[97]⟩)) = (cmpB k b a, true, 0) := by
  have hev : evalR cols4 [(2, a, 0, S0), (2, b, 0, S0), p, q] (twoX k (colX ⟨#[98]⟩) (colX ⟨#[97]⟩)) = (valT (truI (cmpB k b a)), 0) := by
    rw [ev_two k (ev_col (nm_b _ _ _ _)) (ev_col (nm_a _ _ _ _)), ← cmpR_int k b a]
    rcases hk with rfl | rfl | rfl | rfl <;> rfl
  unfold holdsR
  rw [if_neg (by rcases hk with rfl | rfl | rfl | rfl <;> decide), hev]
  unfold holdsV
  rw [(tru_valT _).1, (tru_valT _).2]
  cases cmpB k b a <;> decide +kernel
end Go.Proofs.Ytliefgkhpgigaaa
