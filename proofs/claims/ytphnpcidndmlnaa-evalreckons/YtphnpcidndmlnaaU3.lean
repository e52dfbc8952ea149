/-
  Plain mathematics: what the reference reckons of two right values is what val reckons.
-/
import Derived.Test.YtphnpcidndmlnaaZ3
import Derived.Test.YtphnpcidndmlnaaU0
import Derived.Test.YtphnpcidndmlnaaD1
namespace Go.Proofs.Ytphnpcidndmlnaa
open Go.RowKit
set_option linter.unusedSimpArgs false
set_option linter.unusedVariables false

/-- a sum of decimals, in millionths -/
def sumT (k na sa nb sb : Int) : Int := if k = 7 then mil na sa + mil nb sb else mil na sa - mil nb sb
theorem mil_op {k na sa nb sb : Int} (hk : k = 7 ∨ k = 8) (ha : 0 ≤ sa ∧ sa ≤ 6) (hb : 0 ≤ sb ∧ sb ≤ 6) :
    mil (opN k (na * pw (max sa sb - sa)) (nb * pw (max sa sb - sb))) (max sa sb) = sumT k na sa nb sb := by
  have e1 := mil_max (n := na) ha.1 (show sa ≤ max sa sb by omega) (by omega)
  have e2 := mil_max (n := nb) hb.1 (show sb ≤ max sa sb by omega) (by omega)
  unfold sumT
  rcases hk with rfl | rfl
  · rw [if_pos rfl, ← e1, ← e2]; unfold mil opN; rw [if_neg (by decide), if_pos rfl, Int.add_mul]
  · rw [if_neg (by decide), ← e1, ← e2]; unfold mil opN; rw [if_neg (by decide), if_neg (by decide), Int.sub_mul]
theorem norm_eq {n s t : Int} (h0 : 0 ≤ s) (h6 : s ≤ 6) (h : mil n s = t) : normN n s = normN t 6 ∧ normC n s = normC t 6 := by
  obtain ⟨a1, a2, a3, a4⟩ := norm_normed n s h0
  obtain ⟨b1, b2, b3, b4⟩ := norm_normed t 6 (by decide)
  have e1 := mil_norm (n := n) h0 h6
  have e2 := mil_norm (n := t) (s := 6) (by decide) (by decide)
  have e3 : mil t 6 = t := by unfold mil; rw [show (6 : Int) - 6 = 0 by decide, show pw 0 = 1 from rfl, Int.mul_one]
  exact norm_unique a2 (by omega) b2 (by omega) a1 b1 (by rw [e1, e2, e3, h])
theorem pw_ge {d : Int} (h0 : 0 < d) (h6 : d ≤ 6) : pw d % 10 = 0 := by
  have : d = 1 ∨ d = 2 ∨ d = 3 ∨ d = 4 ∨ d = 5 ∨ d = 6 := by omega
  rcases this with rfl | rfl | rfl | rfl | rfl | rfl <;> decide +kernel
theorem mul_ten (x p : Int) (h : p % 10 = 0) : (x * p) % 10 = 0 := by
  obtain ⟨q, hq⟩ : ∃ q, p = 10 * q := ⟨p / 10, by omega⟩
  rw [hq, ← Int.mul_assoc, Int.mul_comm x 10, Int.mul_assoc]; omega
/-- what does not fit an int, brought to one scale, makes no decimal -/
theorem over_no {k na sa nb sb : Int} (hk : k = 7 ∨ k = 8) (ha : 0 ≤ sa ∧ sa ≤ 6) (hb : 0 ≤ sb ∧ sb ≤ 6) (na' : na.natAbs < 1000000000000000) (nb' : nb.natAbs < 1000000000000000) (hna : Normed na sa) (hnb : Normed nb sb)
    (h : ¬ (Is64 (na * pw (max sa sb - sa)) ∧ Is64 (nb * pw (max sa sb - sb)) ∧ Is64 (opN k (na * pw (max sa sb - sa)) (nb * pw (max sa sb - sb))))) :
    rdB (normN (sumT k na sa nb sb) 6) (normC (sumT k na sa nb sb) 6) = false := by
  have hm := norm_eq (by omega) (by omega) (mil_op (na := na) (nb := nb) hk ha hb)
  rw [← hm.1, ← hm.2]
  have hpa := pw_bd (max sa sb - sa)
  have hpb := pw_bd (max sa sb - sb)
  by_cases hlt : sa < sb
  · have e : max sa sb = sb := by omega
    rw [e] at h ⊢
    have ep : pw (sb - sb) = 1 := by rw [show sb - sb = 0 by omega]; rfl
    rw [ep, Int.mul_one] at h ⊢
    clear hpa hpb hm e
    have h10 := mul_ten na _ (pw_ge (show 0 < sb - sa by omega) (by omega))
    generalize na * pw (sb - sa) = x at *
    have hn10 : nb % 10 ≠ 0 := by rcases hnb with h | h; omega; exact fun e => h ((tmod_ten nb).2 e)
    have hd : (opN k x nb) % 10 ≠ 0 ∧ ¬ ((opN k x nb).natAbs < 1000000000000000) := by
      rcases hk with rfl | rfl
      · rw [show opN 7 x nb = x + nb from rfl] at *; unfold Is64 at h; omega
      · rw [show opN 8 x nb = x - nb from rfl] at *; unfold Is64 at h; omega
    have hnd := norm_done (n := opN k x nb) (s := sb) (Or.inr (fun e => hd.1 ((tmod_ten _).1 e)))
    rw [hnd.1, hnd.2]
    exact (rd_no _ _ (by omega)).symm
  · by_cases hgt : sb < sa
    · have e : max sa sb = sa := by omega
      rw [e] at h ⊢
      have ep : pw (sa - sa) = 1 := by rw [show sa - sa = 0 by omega]; rfl
      rw [ep, Int.mul_one] at h ⊢
      clear hpa hpb hm e
      have h10 := mul_ten nb _ (pw_ge (show 0 < sa - sb by omega) (by omega))
      generalize nb * pw (sa - sb) = x at *
      have hn10 : na % 10 ≠ 0 := by rcases hna with h | h; omega; exact fun e => h ((tmod_ten na).2 e)
      have hd : (opN k na x) % 10 ≠ 0 ∧ ¬ ((opN k na x).natAbs < 1000000000000000) := by
        rcases hk with rfl | rfl
        · rw [show opN 7 na x = na + x from rfl] at *; unfold Is64 at h; omega
        · rw [show opN 8 na x = na - x from rfl] at *; unfold Is64 at h; omega
      have hnd := norm_done (n := opN k na x) (s := sa) (Or.inr (fun e => hd.1 ((tmod_ten _).1 e)))
      rw [hnd.1, hnd.2]
      exact (rd_no _ _ (by omega)).symm
    · exfalso; apply h
      have e1 : sb = sa := by omega
      subst e1
      rw [show max sb sb - sb = 0 by omega, show pw 0 = 1 from rfl, Int.mul_one, Int.mul_one]
      refine ⟨by unfold Is64; omega, by unfold Is64; omega, ?_⟩
      rcases hk with rfl | rfl
      · show Is64 (na + nb); unfold Is64; omega
      · show Is64 (na - nb); unfold Is64; omega
/-- of two right decimals val tells what the reference tells -/
theorem dec_sum {k na sa nb sb : Int} (hk : k = 7 ∨ k = 8) (ha : 0 ≤ sa ∧ sa ≤ 6) (hb : 0 ≤ sb ∧ sb ≤ 6) (na' : na.natAbs < 1000000000000000) (nb' : nb.natAbs < 1000000000000000) (hna : Normed na sa) (hnb : Normed nb sb) :
    fineT (sumT k na sa nb sb) = recV (recR k 3 na sa 3 nb sb) := by
  have h6 : k ≠ 6 := by omega
  have hr : reckB k = true := by rcases hk with rfl | rfl <;> decide
  by_cases h : Is64 (na * pw (max sa sb - sa)) ∧ Is64 (nb * pw (max sa sb - sb)) ∧ Is64 (opN k (na * pw (max sa sb - sa)) (nb * pw (max sa sb - sb)))
  · obtain ⟨h1, h2, h3⟩ := h
    have hm := norm_eq (by omega) (by omega) (mil_op (na := na) (nb := nb) hk ha hb)
    have eN : decN k na sa nb sb = opN k (na * pw (max sa sb - sa)) (nb * pw (max sa sb - sb)) := by
      unfold decN strN; rw [if_neg h6, if_neg h6, wrap64_is _ h1, wrap64_is _ h2]
    have eS : decS k sa sb = max sa sb := by unfold decS; rw [if_neg h6]
    have eO : decOk k na sa nb sb = rdB (normN (sumT k na sa nb sb) 6) (normC (sumT k na sa nb sb) 6) := by
      unfold decOk strOk; rw [if_neg h6, if_neg h6, eN, eS, inI_true h1, inI_true h2, inI_true h3, wrap64_is _ h3, hm.1, hm.2]; rfl
    unfold fineT
    cases hh : decOk k na sa nb sb
    · rw [← eO, hh, if_neg (by decide), rec_h0 hr hh]; rfl
    · rw [← eO, hh, if_pos rfl, rec_h1 hr hh, eN, eS, wrap64_is _ h3, hm.1, hm.2]; rfl
  · have hno := over_no hk ha hb na' nb' hna hnb h
    have eO : decOk k na sa nb sb = false := by
      cases hh : decOk k na sa nb sb
      · rfl
      · exfalso; apply h
        unfold decOk strOk at hh; rw [if_neg h6, if_neg h6] at hh
        simp only [Bool.and_eq_true] at hh
        have h1 := is64_of hh.1.1.1
        have h2 := is64_of hh.1.1.2
        have h3 := is64_of hh.1.2
        unfold decN strN at h3; rw [if_neg h6, if_neg h6, wrap64_is _ h1, wrap64_is _ h2] at h3
        exact ⟨h1, h2, h3⟩
    unfold fineT
    rw [hno, if_neg (by decide), rec_h0 hr eO]; rfl
theorem dec_mul (na sa nb sb : Int) : mulT na sa nb sb = recV (recR 6 3 na sa 3 nb sb) := by
  have eN : decN 6 na sa nb sb = na * nb := by unfold decN strN opN; simp
  have eS : decS 6 sa sb = sa + sb := by unfold decS; rw [if_pos rfl]
  have eO : decOk 6 na sa nb sb = (inI (na * nb) && rdB (normN (wrap64 (na * nb)) (sa + sb)) (normC (wrap64 (na * nb)) (sa + sb))) := by
    unfold decOk strOk; rw [if_pos rfl, if_pos rfl, eN, eS]; simp
  unfold mulT
  cases hh : decOk 6 na sa nb sb
  · rw [rec_h0 (by decide) hh]
    rw [hh] at eO
    rw [if_neg (by intro g; rw [g.1, g.2] at eO; cases eO)]; rfl
  · rw [rec_h1 (by decide) hh, eN, eS]
    rw [hh] at eO
    rw [if_pos (by simpa using eO.symm)]; rfl
theorem int_t (k a sa b sb : Int) (hk : reckB k = true) : intT k a b = recV (recR k 2 a sa 2 b sb) := by
  unfold intT
  cases hh : inI (opN k a b)
  · rw [if_neg (by decide), rec_g0 hk hh]; rfl
  · rw [if_pos rfl, rec_g1 hk hh]; rfl
end Go.Proofs.Ytphnpcidndmlnaa
