/-
  What the reference's function fine returns: the decimal of so many whole numbers and millionths, or that there is none.
-/
import Derived.Test.YtphnpcidndmlnaaX
import Derived.Test.YtphnpcidndmlnaaRR
namespace Go.Proofs.Ytphnpcidndmlnaa
open Go.RowKit
set_option linter.unusedSimpArgs false
set_option linter.unusedVariables false

/-- what is told of t millionths -/
def fineT (t : Int) : Value := if rdB (normN t 6) (normC t 6) = true then .tuple #[V 3 (normN t 6) (normC t 6) ⟨#[]⟩, .int .i64 0] else .tuple #[V 0 0 0 ⟨#[]⟩, .int .i64 10]

theorem pw_pred {s : Int} (h0 : 0 < s) (h6 : s ≤ 6) : pw s = 10 * pw (s - 1) := by
  have : s = 1 ∨ s = 2 ∨ s = 3 ∨ s = 4 ∨ s = 5 ∨ s = 6 := by omega
  rcases this with rfl | rfl | rfl | rfl | rfl | rfl <;> decide +kernel
theorem fine_step {t x y s : Int} (h0 : 0 < s) (h6 : s ≤ 6) (hm : y % 10 = 0) (h : SameNorm t 6 (x * pw s + y) s) : SameNorm t 6 (x * pw (s - 1) + y / 10) (s - 1) := by
  have e : x * pw s + y = (x * pw (s - 1) + y / 10) * 10 := by
    have h1 : x * (10 * pw (s - 1)) = x * pw (s - 1) * 10 := by rw [Int.mul_comm 10, Int.mul_assoc]
    rw [pw_pred h0 h6, Int.add_mul, h1]; omega
  have hd : (x * pw s + y).tmod 10 = 0 := by rw [tmod_ten, e]; omega
  have hq : (x * pw s + y).tdiv 10 = x * pw (s - 1) + y / 10 := by rw [e]; exact Int.mul_tdiv_cancel _ (by decide)
  have := norm_step h0 hd
  rw [hq] at this
  exact same_trans h this
theorem fine_done {t x y s : Int} (hs : s = 0 ∨ (0 < s ∧ s ≤ 6 ∧ y % 10 ≠ 0)) (h : SameNorm t 6 (x * pw s + y) s) : normN t 6 = x * pw s + y ∧ normC t 6 = s := by
  have hd : s ≤ 0 ∨ (x * pw s + y).tmod 10 ≠ 0 := by
    rcases hs with rfl | ⟨h0, h6, hy⟩
    · exact Or.inl (by omega)
    · right; intro hh; rw [tmod_ten, pw_pred h0 h6] at hh
      have : x * (10 * pw (s - 1)) = x * pw (s - 1) * 10 := by rw [Int.mul_comm 10, Int.mul_assoc]
      rw [this] at hh; omega
  have hn := norm_done hd
  exact ⟨h.1.symm.trans hn.1, h.2.symm.trans hn.2⟩
theorem great_div {s : Int} (h0 : 0 ≤ s) (h6 : s ≤ 6) : (1000000000000000 : Int).tdiv (pw s) * pw s = 1000000000000000 ∧ 1 ≤ (1000000000000000 : Int).tdiv (pw s) ∧ (1000000000000000 : Int).tdiv (pw s) ≤ 1000000000000000 := by
  have : s = 0 ∨ s = 1 ∨ s = 2 ∨ s = 3 ∨ s = 4 ∨ s = 5 ∨ s = 6 := by omega
  rcases this with rfl | rfl | rfl | rfl | rfl | rfl | rfl <;> decide +kernel
/-- where the whole number is too great, so is the decimal's number -/
theorem fine_over {x y s : Int} (h0 : 0 ≤ s) (h6 : s ≤ 6) (hy : 0 ≤ y) (hyp : y < pw s)
    (h : x ≤ -1000000000000000 ∨ 1000000000000000 ≤ x ∨ (1000000000000000 : Int).tdiv (pw s) < x ∨ x < -(1000000000000000 : Int).tdiv (pw s) - 1) : rdB (x * pw s + y) s = false := by
  obtain ⟨g1, g2, g3⟩ := great_div h0 h6
  have hp := pw_bd s
  have key : x * pw s + y ≤ -1000000000000000 ∨ 1000000000000000 ≤ x * pw s + y := by
    generalize (1000000000000000 : Int).tdiv (pw s) = g at *
    generalize pw s = p at *
    rcases h with h | h | h | h
    · left
      have : x * p ≤ -1000000000000000 * p := Int.mul_le_mul_of_nonneg_right h (by omega)
      omega
    · right
      have : 1000000000000000 * p ≤ x * p := Int.mul_le_mul_of_nonneg_right h (by omega)
      omega
    · right
      have : (g + 1) * p ≤ x * p := Int.mul_le_mul_of_nonneg_right (by omega) (by omega)
      rw [Int.add_mul] at this; omega
    · left
      have : x * p ≤ (-g - 2) * p := Int.mul_le_mul_of_nonneg_right (by omega) (by omega)
      rw [Int.sub_mul, Int.neg_mul] at this; omega
  exact (rd_no _ _ (by omega)).symm

set_option maxHeartbeats 8000000 in
set_option maxRecDepth 100000 in
theorem fine_any (x0 f0 : Int) (w : World) (hx : -4000000000000000 ≤ x0 ∧ x0 ≤ 4000000000000000) (hf : -3000000 < f0 ∧ f0 < 3000000) :
    Calls Try.prog 76 #[.int .i64 x0, .int .i64 f0] w fun e w' => e = .returned (fineT (x0 * 1000000 + f0)) ∧ Below w.heap.size w w' := by
  have C6 : Hid (∀ W, Calls Try.prog 83 #[.int .i64 6] W fun e w' => e = .returned (.int .i64 1000000) ∧ w' = W) := fun W => ten_any 6 W (by decide)
  obtain ⟨t, ht⟩ : ∃ t, t = x0 * 1000000 + f0 := ⟨_, rfl⟩
  rw [← ht]
  have htb : -4000000000000003000000 ≤ t ∧ t ≤ 4000000000000003000000 := by omega
  have HT := hide ht.symm
  clear ht
  go_enter Try.func76, Try.ntmps76
  go_wp2
  go_loop [0, 1] (fun a b => ∃ x y : Int, a = .int .i64 x ∧ b = .int .i64 y ∧ Hid (x * 1000000 + y = t) ∧ (-3000000 < y ∧ y < 3000000) ∧ (-4000000000000010 ≤ x ∧ x ≤ 4000000000000010)) (fun _ b => (- intOf b).toNat)
  case atStart => exact ⟨x0, f0, rfl, rfl, HT, hf, by omega⟩
  case round =>
    obtain ⟨x, y, rfl, rfl, HR, hy, hxb⟩ := hrel
    by_cases hlt : y < 0
    · go_wp2_with (go_at_call 83; refine (unhide C6 _).mono ?_; rintro e w' ⟨rfl, rfl⟩)
      go_round
      case rel => exact ⟨x - 1, y + 1000000, rfl, rfl, (by show _ = _; have := unhide HR; omega), by omega, (by have := unhide HR; omega)⟩
      case measure => simp [intOf]; omega
    · have hy0 : 0 ≤ y := by omega
      clear hlt
      go_wp2
      go_loop [0, 1] (fun a b => ∃ x y : Int, a = .int .i64 x ∧ b = .int .i64 y ∧ Hid (x * 1000000 + y = t) ∧ (0 ≤ y ∧ y < 3000000) ∧ (-4000000000000010 ≤ x ∧ x ≤ 4000000000000010)) (fun _ b => (intOf b).toNat)
      case atStart => exact ⟨x, y, rfl, rfl, HR, by omega, hxb⟩
      case round =>
        clear HR hy hxb hy0
        obtain ⟨x, y, rfl, rfl, HR, hy, hxb⟩ := hrel
        by_cases hge : 1000000 ≤ y
        · go_wp2_with (go_at_call 83; refine (unhide C6 _).mono ?_; rintro e w' ⟨rfl, rfl⟩)
          go_round
          case rel => exact ⟨x + 1, y - 1000000, rfl, rfl, (by show _ = _; have := unhide HR; omega), by omega, (by have := unhide HR; omega)⟩
          case measure => simp [intOf]; omega
        · have hy6 : y < 1000000 := by omega
          have hy0 : 0 ≤ y := by omega
          have HS : Hid (SameNorm t 6 (x * pw 6 + y) 6) := by show SameNorm _ _ _ _; rw [show pw 6 = 1000000 from rfl, unhide HR]; exact same_refl t 6
          clear hge
          go_wp2_with (go_at_call 83; refine (unhide C6 _).mono ?_; rintro e w' ⟨rfl, rfl⟩)
          go_loop [1, 6] (fun b c => ∃ y s : Int, b = .int .i64 y ∧ c = .int .i64 s ∧ (0 ≤ s ∧ s ≤ 6) ∧ (0 ≤ y ∧ y < 1000000) ∧ Hid (y < pw s ∧ SameNorm t 6 (x * pw s + y) s)) (fun _ c => (intOf c).toNat)
          case atStart => exact ⟨y, 6, rfl, rfl, by decide, ⟨hy0, hy6⟩, ⟨hy6, HS⟩⟩
          case round =>
            clear HS hy6 hy0 HR hy
            obtain ⟨y, s, rfl, rfl, hs, hy, HS⟩ := hrel
            by_cases hgo : 0 < s ∧ y % 10 = 0
            · have HS2 : Hid (y / 10 < pw (s - 1) ∧ SameNorm t 6 (x * pw (s - 1) + y / 10) (s - 1)) := by
                refine ⟨?_, fine_step hgo.1 hs.2 hgo.2 HS.2⟩
                have h1 := HS.1
                rw [pw_pred hgo.1 hs.2] at h1; omega
              have h0 : 0 < s := hgo.1
              have hm : (y % 10 == 0) = true := by simpa using hgo.2
              clear hgo HS
              go_wp2
              go_round
              case rel => exact ⟨y / 10, s - 1, rfl, rfl, by omega, by omega, HS2⟩
              case measure => simp [intOf]; omega
            · have hend : s = 0 ∨ (0 < s ∧ s ≤ 6 ∧ y % 10 ≠ 0) := by omega
              have hfd := fine_done hend HS.2
              have hyp := HS.1
              have hp := pw_bd s
              have hgd := great_div hs.1 hs.2
              have CS := hide (fun W => ten_any s W hs.2)
              have HNO : Hid ((x ≤ -1000000000000000 ∨ 1000000000000000 ≤ x ∨ (1000000000000000 : Int).tdiv (pw s) < x ∨ x < -(1000000000000000 : Int).tdiv (pw s) - 1) → Ending.returned (fineT t) = .returned (.tuple #[V 0 0 0 ⟨#[]⟩, .int .i64 10])) := by
                intro h
                unfold fineT; rw [hfd.1, hfd.2, fine_over hs.1 hs.2 hy.1 hyp h]; rfl
              have HYES : Hid (fineT t = if rdB (x * pw s + y) s = true then .tuple #[V 3 (x * pw s + y) s ⟨#[]⟩, .int .i64 0] else .tuple #[V 0 0 0 ⟨#[]⟩, .int .i64 10]) := by
                show _ = _
                unfold fineT; rw [hfd.1, hfd.2]
              have HN := hide (fun W (hh : Is64 (x * pw s + y)) => rnorm_any 3 (x * pw s + y) s ⟨#[]⟩ W hh (by unfold Is64; omega))
              have hnn : nN 3 (x * pw s + y) s = x * pw s + y ∧ nS 3 (x * pw s + y) s = s := by
                unfold nN nS; rw [if_pos rfl, if_pos rfl]
                rcases hend with h | ⟨h1, h2, h3⟩
                · exact norm_done (Or.inl (by omega))
                · refine norm_done (Or.inr ?_)
                  intro hh; rw [tmod_ten, pw_pred h1 h2] at hh
                  have : x * (10 * pw (s - 1)) = x * pw (s - 1) * 10 := by rw [Int.mul_comm 10, Int.mul_assoc]
                  rw [this] at hh; omega
              rw [hnn.1, hnn.2] at HN
              have HR := hide (fun W => rright_any 3 (x * pw s + y) s ⟨#[]⟩ W (by decide))
              have hrb : rightB 3 (x * pw s + y) s ⟨#[]⟩ = rdB (x * pw s + y) s := by
                unfold rightB; rw [if_neg (by decide), if_neg (by decide), if_neg (by decide), if_pos rfl, show decide ((⟨#[]⟩ : ByteArray).toList = []) = true by decide +kernel, Bool.true_and]
              rw [hrb] at HR
              have hmm : -((1000000000000000 : Int).tdiv (pw s)) - 1 ≤ x → x ≤ (1000000000000000 : Int).tdiv (pw s) → -1000000000000000 - 1000000 ≤ x * pw s ∧ x * pw s ≤ 1000000000000000 := by
                intro h1 h2
                obtain ⟨g1, g2, g3⟩ := hgd
                generalize (1000000000000000 : Int).tdiv (pw s) = g at *
                have a1 : x * pw s ≤ g * pw s := Int.mul_le_mul_of_nonneg_right h2 (by omega)
                have a2 : (-g - 1) * pw s ≤ x * pw s := Int.mul_le_mul_of_nonneg_right h1 (by omega)
                rw [Int.sub_mul, Int.neg_mul] at a2
                omega
              have HMM := hide hmm
              clear hnn hrb hfd hmm HS
              obtain ⟨m, hmx⟩ : ∃ m, m = x * pw s := ⟨_, rfl⟩
              rw [← hmx] at HYES HN HR HMM
              have hpd : (1000000000000000 : Int) / pw s = (1000000000000000 : Int).tdiv (pw s) := (Int.tdiv_eq_ediv_of_nonneg (by decide)).symm
              generalize pw s = P at *
              generalize (1000000000000000 : Int).tdiv P = g at *
              have hP0 : ¬ P = 0 := by omega
              have HX := hide hmx.symm
              clear hmx hyp
              have hgd1 : 1 ≤ g := hgd.2.1
              have hgd2 : g ≤ 1000000000000000 := hgd.2.2
              clear hgd htb
              have hex : (0 < s ∧ (y % 10 == 0) = false) ∨ ¬ 0 < s := by
                rcases hend with h | h
                · right; omega
                · left; exact ⟨h.1, by simpa using h.2.2⟩
              clear hend hgo
              rcases hex with ⟨hs0, hy10⟩ | hs0
              all_goals
                by_cases r1 : x ≤ -1000000000000000
                · go_wp2_with (go_at_call 83; refine (unhide CS _).mono ?_; rintro e w' ⟨rfl, rfl⟩)
                  exact bodyPost_ret (v := .tuple #[V 0 0 0 ⟨#[]⟩, .int .i64 10]) (by simp [results, Try.results76, go_sem]) rfl ⟨(unhide HNO (Or.inl r1)).symm, (Below.refl _ _).alloc (Nat.le_refl _) _⟩
                by_cases r2 : 1000000000000000 ≤ x
                · go_wp2_with (go_at_call 83; refine (unhide CS _).mono ?_; rintro e w' ⟨rfl, rfl⟩)
                  exact bodyPost_ret (v := .tuple #[V 0 0 0 ⟨#[]⟩, .int .i64 10]) (by simp [results, Try.results76, go_sem]) rfl ⟨(unhide HNO (Or.inr (Or.inl r2))).symm, (Below.refl _ _).alloc (Nat.le_refl _) _⟩
                by_cases r3 : g < x
                · go_wp2_with (go_at_call 83; refine (unhide CS _).mono ?_; rintro e w' ⟨rfl, rfl⟩)
                  exact bodyPost_ret (v := .tuple #[V 0 0 0 ⟨#[]⟩, .int .i64 10]) (by simp [results, Try.results76, go_sem]) rfl ⟨(unhide HNO (Or.inr (Or.inr (Or.inl r3)))).symm, (Below.refl _ _).alloc (Nat.le_refl _) _⟩
                by_cases r4 : x < -g - 1
                · go_wp2_with (go_at_call 83; refine (unhide CS _).mono ?_; rintro e w' ⟨rfl, rfl⟩)
                  exact bodyPost_ret (v := .tuple #[V 0 0 0 ⟨#[]⟩, .int .i64 10]) (by simp [results, Try.results76, go_sem]) rfl ⟨(unhide HNO (Or.inr (Or.inr (Or.inr r4)))).symm, (Below.refl _ _).alloc (Nat.le_refl _) _⟩
                obtain ⟨b1, b2⟩ := unhide HMM (by omega) (by omega)
                have e1 : wrap64 (x * P) = m := by rw [unhide HX]; exact wrap64_is _ (by unfold Is64; omega)
                have e2 : IntKind.i64.wrap (x * P) = m := by rw [unhide HX]; exact IntWalk.i64_in _ (by omega)
                clear HMM HNO
                have CN := hide (fun W => unhide HN W (by unfold Is64; omega))
                clear HN
                go_wp2_with (first | (go_at_call 83; refine (unhide CS _).mono ?_; rintro e w' ⟨rfl, rfl⟩) | fail)
                refine (unhide CN _).mono ?_
                rintro e w1 ⟨rfl, hb1⟩
                have hF := hide (four_more (four_call (four_alloc (.int .i64 0) (.int .i64 0) (.int .i64 0) (.string ⟨#[]⟩) 28 w) hb1) (.cells #[.int .i64 3, .int .i64 (m + y), .int .i64 s, .string ⟨#[]⟩] 28))
                have hV := hide (four_alloc (.int .i64 3) (.int .i64 (m + y)) (.int .i64 s) (.string ⟨#[]⟩) 28 w1)
                have hL := (Below.refl _ w).alloc (Nat.le_refl _) (.cells #[.int .i64 0, .int .i64 0, .int .i64 0, .string ⟨#[]⟩] 28)
                replace hL := hide ((hL.trans (hb1.mono hL.size)).alloc (Nat.le_trans hL.size hb1.size) (.cells #[.int .i64 3, .int .i64 (m + y), .int .i64 s, .string ⟨#[]⟩] 28))
                clear hb1
                go_wp2_with fail
                refine (unhide HR _).mono ?_
                rintro e w2 ⟨rfl, hb2⟩
                replace hF := hide (four_call (unhide hF) hb2)
                replace hV := hide (four_call (unhide hV) hb2)
                replace hL := hide ((unhide hL).trans (hb2.mono (unhide hL).size))
                clear hb2 CN HR CS C6
                obtain ⟨f0, f1, f2, f3, f4, f5, f6, f7, f8⟩ := unhide hF
                obtain ⟨v0, v1, v2, v3, v4, v5, v6, v7, v8⟩ := unhide hV
                clear hF hV
                cases hr : rdB (m + y) s
                · have HE : Hid (Ending.returned (.tuple #[V 0 0 0 ⟨#[]⟩, .int .i64 10]) = .returned (fineT t)) := by show _ = _; rw [unhide HYES, hr]; rfl
                  clear HYES
                  go_wp2_with fail
                  exact bodyPost_ret (v := .tuple #[V 0 0 0 ⟨#[]⟩, .int .i64 10]) (by simp [results, Try.results76, go_sem, f1, f2, f3, f4]) rfl ⟨unhide HE, (unhide hL).trans (below_set4 w.heap.size _ _ _ _ _)⟩
                · have HE : Hid (Ending.returned (.tuple #[V 3 (m + y) s ⟨#[]⟩, .int .i64 0]) = .returned (fineT t)) := by show _ = _; rw [unhide HYES, hr]; rfl
                  clear HYES
                  go_wp2_with fail
                  exact bodyPost_ret (v := .tuple #[V 3 (m + y) s ⟨#[]⟩, .int .i64 0]) (by simp [results, Try.results76, go_sem, f1, f2, f3, f4]) rfl ⟨unhide HE, (unhide hL).trans (below_set4 w.heap.size _ _ _ _ _)⟩
end Go.Proofs.Ytphnpcidndmlnaa
