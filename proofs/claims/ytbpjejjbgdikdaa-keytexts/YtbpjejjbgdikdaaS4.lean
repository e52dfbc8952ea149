/-
  A decimal's whole number and its millionths: what package key's power and parts return.
-/
import Derived.Test.YtbpjejjbgdikdaaX
namespace Go.Proofs.Ytbpjejjbgdikdaa
open Go.RowKit
set_option linter.unusedSimpArgs false
set_option linter.unusedVariables false

set_option maxHeartbeats 400000 in
theorem kpower_le (n : Int) (w : World) (h6 : n ≤ 6) :
    Calls Try.prog 58 #[.int .i64 n] w fun e w' => e = .returned (.int .i64 (pw n)) ∧ w' = w := by
  have HM : Hid (pw n = 10 ^ (n : Int).toNat) := by show pw n = _; unfold pw; rw [show min n 6 = n by omega]
  go_enter Try.func58, Try.ntmps58
  go_wp2
  go_loop [3, 6] (fun p i => ∃ k : Nat, (k : Int) ≤ max n 0 ∧ i = .int .i64 k ∧ p = .int .i64 (10 ^ k)) (fun _ i => (n - intOf i).toNat)
  case atStart => exact ⟨0, by omega, rfl, rfl⟩
  case round =>
    obtain ⟨k, hk, rfl, rfl⟩ := hrel
    by_cases hlt : (k : Int) < n
    · have ht := ten_bd k (by omega)
      have H2 : Hid ((10 : Int) ^ (k + 1) = 10 ^ k * 10) := Int.pow_succ 10 k
      generalize hp : (10 : Int) ^ k = p at *
      have HP : Hid ((10 : Int) ^ k = p) := hp
      clear hp
      go_wp2
      go_round
      case rel => exact ⟨k + 1, by omega, by go_num, by rw [H2.out]⟩
      case measure => simp [intOf]; omega
    · have HK : Hid ((10 : Int) ^ k = pw n) := by show _ = _; rw [HM.out, show k = (n : Int).toNat by omega]
      generalize (10 : Int) ^ k = p at *
      go_wp2
      go_ret
      exact ⟨ret_int HK.out, rfl⟩

set_option maxHeartbeats 400000 in
theorem kpower_gt (n : Int) (w : World) (h6 : 6 < n) :
    Calls Try.prog 58 #[.int .i64 n] w fun e w' => e = .returned (.int .i64 (pw n)) ∧ w' = w := by
  have HM : Hid (pw n = 10 ^ (6 : Int).toNat) := by show pw n = _; unfold pw; rw [show min n 6 = 6 by omega]
  go_enter Try.func58, Try.ntmps58
  go_wp2
  go_loop [3, 6] (fun p i => ∃ k : Nat, (k : Int) ≤ max 6 0 ∧ i = .int .i64 k ∧ p = .int .i64 (10 ^ k)) (fun _ i => (6 - intOf i).toNat)
  case atStart => exact ⟨0, by omega, rfl, rfl⟩
  case round =>
    obtain ⟨k, hk, rfl, rfl⟩ := hrel
    by_cases hlt : (k : Int) < 6
    · have ht := ten_bd k (by omega)
      have H2 : Hid ((10 : Int) ^ (k + 1) = 10 ^ k * 10) := Int.pow_succ 10 k
      generalize hp : (10 : Int) ^ k = p at *
      have HP : Hid ((10 : Int) ^ k = p) := hp
      clear hp
      go_wp2
      go_round
      case rel => exact ⟨k + 1, by omega, by go_num, by rw [H2.out]⟩
      case measure => simp [intOf]; omega
    · have HK : Hid ((10 : Int) ^ k = pw n) := by show _ = _; rw [HM.out, show k = (6 : Int).toNat by omega]
      generalize (10 : Int) ^ k = p at *
      go_wp2
      go_ret
      exact ⟨ret_int HK.out, rfl⟩

theorem kpower_any (n : Int) (w : World) :
    Calls Try.prog 58 #[.int .i64 n] w fun e w' => e = .returned (.int .i64 (pw n)) ∧ w' = w := by
  by_cases h6 : n ≤ 6
  · exact kpower_le n w h6
  · exact kpower_gt n w (by omega)


theorem pw_quo {s : Int} (h0 : 0 ≤ s) (h6 : s ≤ 6) : Int.tdiv 1000000 (pw s) = pw (6 - s) := by
  have hw := pw_whole h0 h6
  have hp := pw_bd s
  rw [← hw, Int.mul_comm]
  exact Int.mul_tdiv_cancel _ (by omega)
set_option maxHeartbeats 800000 in
theorem kparts_any (k n s : Int) (t : ByteArray) (w : World) (hn : n.natAbs < 1000000000000000) (h0 : 0 ≤ s) (h6 : s ≤ 6) :
    Calls Try.prog 41 #[V k n s t] w fun e w' => e = .returned (.tuple #[.int .i64 (fl n s), .int .i64 (fr n s)]) ∧ Below w.heap.size w w' := by
  have hp := pw_bd s
  have hq := pw_bd (6 - s)
  have hp0 : ¬ pw s = 0 := by omega
  have C1 := hide (fun W => kpower_any s W)
  have hfb := fl_bd (s := s) hn
  have hff := fr_bd (n := n) h0 h6
  have hmod := Int.mul_ediv_add_emod n (pw s)
  have hm1 := Int.emod_nonneg n (show pw s ≠ 0 by omega)
  have hm2 := Int.emod_lt_of_pos n (show 0 < pw s by omega)
  have hA := tdiv_neg (n := n) (p := pw s) (by omega)
  have hB := tdiv_pos (n := n) (p := pw s) (by omega)
  have hT := Int.mul_tdiv_add_tmod n (pw s)
  have hQ := pw_quo h0 h6
  have HE : Hid (n % pw s * pw (6 - s) = fr n s) := rfl
  have hfl : n / pw s = fl n s := rfl
  rw [hfl] at hA hB hmod
  clear hfl
  generalize fl n s = q at *
  generalize fr n s = f at *
  generalize pw s = p at *
  generalize pw (6 - s) = P at *
  have hqp : p * q = q * p := Int.mul_comm _ _
  rw [hqp] at hmod
  by_cases hr : n.tmod p < 0
  · obtain ⟨g1, g2⟩ := hA hr
    have hd : n.tdiv p = q + 1 := by omega
    have hpq : p * (q + 1) = q * p + p := by rw [Int.mul_add, hqp, Int.mul_one]
    have hm : n.tmod p = n % p - p := by rw [hd, hpq] at hT; omega
    have e1 : IntKind.i64.wrap (n.tmod p + p) = n % p := by rw [IntWalk.i64_in _ (by omega)]; omega
    have e3 : IntKind.i64.wrap (n % p * P) = f := by rw [IntWalk.i64_in _ (by rw [unhide HE]; omega)]; exact unhide HE
    clear hA hB HE g1 g2 hqp hmod hT hm hpq
    go_enter Try.func41, Try.ntmps41
    go_wp2_with (go_at_call 58; refine (unhide C1 _).mono ?_; rintro e w' ⟨rfl, rfl⟩)
    go_quiet (fail)
    go_wp2
    go_quiet (fail)
    go_wp2
    go_ret2
    exact ⟨tup_ii (by go_num) rfl, below_drewN (below_drewN ((Below.refl _ _).alloc (Nat.le_refl _) _) _) _⟩
  · obtain ⟨g1, g2⟩ := hB (by omega)
    have hd : n.tdiv p = q := by omega
    have hm : n.tmod p = n % p := by rw [hd, hqp] at hT; omega
    have e3 : IntKind.i64.wrap (n % p * P) = f := by rw [IntWalk.i64_in _ (by rw [unhide HE]; omega)]; exact unhide HE
    clear hA hB HE g1 g2 hqp hmod hT
    go_enter Try.func41, Try.ntmps41
    go_wp2_with (go_at_call 58; refine (unhide C1 _).mono ?_; rintro e w' ⟨rfl, rfl⟩)
    go_quiet (fail)
    go_wp2
    go_quiet (fail)
    go_wp2
    go_ret2
    exact ⟨rfl, below_drewN (below_drewN ((Below.refl _ _).alloc (Nat.le_refl _) _) _) _⟩
end Go.Proofs.Ytbpjejjbgdikdaa
