/-
  What the small functions of package val that only reckon with numbers return, for every argument (no condition but that integers are int's).
-/
import Derived.Test.YtliefgkhpgigaaaRows
import Derived.Test.YtliefgkhpgigaaaM
import Derived.WalkKit
import Derived.WalkSpells
import Derived.WalkLawsBesides
namespace Go.Proofs.Ytliefgkhpgigaaa
open Go.RowKit
set_option linter.unusedSimpArgs false
set_option linter.unusedVariables false

set_option maxHeartbeats 400000 in
theorem nanInt_any (x : Int) (w : World) :
    Calls Try.prog 106 #[.int .i64 x] w fun e w' => e = .returned (.bool false) ∧ w' = w := by
  go_enter Try.func106, Try.ntmps106
  go_wp2
  go_ret
  exact ⟨rfl, rfl⟩
set_option maxHeartbeats 400000 in
theorem nanStr_any (x : ByteArray) (w : World) :
    Calls Try.prog 107 #[.string x] w fun e w' => e = .returned (.bool false) ∧ w' = w := by
  go_enter Try.func107, Try.ntmps107
  go_wp2
  go_ret
  exact ⟨rfl, rfl⟩
set_option maxHeartbeats 400000 in
theorem cmpInt_any (x y : Int) (w : World) :
    Calls Try.prog 104 #[.int .i64 x, .int .i64 y] w fun e w' => e = .returned (.int .i64 (cmpI x y)) ∧ w' = w := by
  unfold cmpI
  by_cases h1 : x < y
  · go_enter Try.func104, Try.ntmps104
    go_wp2
    go_ret
    exact ⟨by simp [h1], rfl⟩
  · by_cases h2 : y < x
    all_goals
      go_enter Try.func104, Try.ntmps104
      go_wp2
      go_ret
      exact ⟨by simp [h1, h2], rfl⟩
set_option maxHeartbeats 400000 in
theorem within_any (x n : Int) (w : World) (hx : Is64 x) (hn : 0 < n ∧ n ≤ 9223372036854775807) :
    Calls Try.prog 29 #[.int .i64 x, .int .i64 n] w fun e w' => e = .returned (.int .i64 (x % n)) ∧ w' = w := by
  have hb := Int.emod_lt_of_pos x hn.1
  have hb' := Int.emod_nonneg x (show n ≠ 0 by omega)
  have hlt := tmod_lt x n hn.1
  have hge := tmod_ge x n hn.1
  have H1 : Hid (x.tmod n < 0 → x.tmod n + n = x % n ∧ -n < x.tmod n) := hlt
  have H2 : Hid (0 ≤ x.tmod n → x.tmod n = x % n) := hge
  clear hlt hge
  go_enter Try.func29, Try.ntmps29
  go_wp2
  · go_ret
    refine ⟨ret_int ?_, rfl⟩
    have := H1.out ‹_›
    rw [this.1]; exact wrap64_is _ (by unfold Is64; omega)
  · go_ret
    exact ⟨ret_int (H2.out ‹_›), rfl⟩

set_option maxHeartbeats 400000 in
theorem add_any (a b : Int) (w : World) (ha : Is64 a) (hb : Is64 b) :
    Calls Try.prog 91 #[.int .i64 a, .int .i64 b] w fun e w' => e = .returned (.tuple #[.int .i64 (wrap64 (a + b)), .bool (inI (a + b))]) ∧ w' = w := by
  have H : Hid ((decide (wrap64 (a + b) < a) == decide (b < 0)) = inI (a + b)) := add_ok a b ha hb
  clear ha hb
  go_enter Try.func91, Try.ntmps91
  go_wp2
  go_ret2
  exact ⟨tup_ib rfl H.out, rfl⟩

set_option maxHeartbeats 400000 in
theorem sub_any (a b : Int) (w : World) (ha : Is64 a) (hb : Is64 b) :
    Calls Try.prog 92 #[.int .i64 a, .int .i64 b] w fun e w' => e = .returned (.tuple #[.int .i64 (wrap64 (a - b)), .bool (inI (a - b))]) ∧ w' = w := by
  have H : Hid ((decide (a < wrap64 (a - b)) == decide (b < 0)) = inI (a - b)) := sub_ok a b ha hb
  clear ha hb
  go_enter Try.func92, Try.ntmps92
  go_wp2
  go_ret2
  exact ⟨tup_ib rfl H.out, rfl⟩

set_option maxHeartbeats 400000 in
theorem mul_any (a b : Int) (w : World) (ha : Is64 a) (hb : Is64 b) :
    Calls Try.prog 90 #[.int .i64 a, .int .i64 b] w fun e w' => e = .returned (.tuple #[.int .i64 (wrap64 (a * b)), .bool (inI (a * b))]) ∧ w' = w := by
  by_cases hz : b = 0
  · have h0 : (b == 0) = true := by simpa using hz
    have HZ : Hid (b = 0) := hz
    clear hz
    go_enter Try.func90, Try.ntmps90
    go_wp2
    go_ret2
    exact ⟨tup_ib (by rw [HZ.out, Int.mul_zero]; unfold wrap64; omega) (by rw [HZ.out, Int.mul_zero]; rfl), rfl⟩
  · have h0 : (b == 0) = false := by simpa using hz
    have HA : Hid (Is64 a) := ha
    have HB : Hid (Is64 b) := hb
    clear ha hb
    go_enter Try.func90, Try.ntmps90
    go_wp2
    · go_ret2
      refine ⟨tup_ib ?_ ?_, rfl⟩
      · simp_all
      · rename_i h1 h2
        by_cases hm : b = -1
        · subst hm; subst h2; rfl
        · rw [inI_true (mul_yes a b HA.out HB.out hz h1 (fun h => hm h.2))]; simp [hm]
    · go_ret2
      rename_i h1 h2
      exact ⟨tup_ib rfl (inI_true (mul_yes a b HA.out HB.out hz h1 (fun h => h2 h.1))).symm, rfl⟩
    · go_ret2
      rename_i h1
      exact ⟨tup_ib rfl (inI_false (mul_no a b HA.out hz h1)).symm, rfl⟩

def reckB (k : Int) : Bool := k == 6 || k == 7 || k == 8
set_option maxHeartbeats 400000 in
theorem reckons_any (k : Int) (w : World) :
    Calls Try.prog 77 #[.int .i64 k] w fun e w' => e = .returned (.bool (reckB k)) ∧ w' = w := by
  unfold reckB
  go_enter Try.func77, Try.ntmps77
  go_wp2
  all_goals
    go_ret
    exact ⟨ret_bool (by simp_all), rfl⟩

def opN (k a b : Int) : Int := if k = 6 then a * b else if k = 7 then a + b else a - b
set_option maxHeartbeats 400000 in
theorem reckonInts_any (k a b : Int) (w : World) (ha : Is64 a) (hb : Is64 b) :
    Calls Try.prog 84 #[.int .i64 k, .int .i64 a, .int .i64 b] w fun e w' => e = .returned (.tuple #[.int .i64 (wrap64 (opN k a b)), .bool (inI (opN k a b))]) ∧ w' = w := by
  by_cases h6 : k = 6
  · have e1 : opN k a b = a * b := by unfold opN; rw [if_pos h6]
    rw [e1]
    have h6' : (k == 6) = true := by simpa using h6
    clear h6 e1
    go_enter Try.func84, Try.ntmps84
    go_wp2_with (go_at_call 90; refine (mul_any _ _ _ ha hb).mono ?_; rintro e w' ⟨rfl, rfl⟩)
    go_ret2
    exact ⟨rfl, rfl⟩
  · have h6' : (k == 6) = false := by simpa using h6
    by_cases h7 : k = 7
    · have e1 : opN k a b = a + b := by unfold opN; rw [if_neg h6, if_pos h7]
      rw [e1]
      have h7' : (k == 7) = true := by simpa using h7
      clear h6 h7 e1
      go_enter Try.func84, Try.ntmps84
      go_wp2_with (go_at_call 91; refine (add_any _ _ _ ha hb).mono ?_; rintro e w' ⟨rfl, rfl⟩)
      go_ret2
      exact ⟨rfl, rfl⟩
    · have e1 : opN k a b = a - b := by unfold opN; rw [if_neg h6, if_neg h7]
      rw [e1]
      have h7' : (k == 7) = false := by simpa using h7
      clear h6 h7 e1
      go_enter Try.func84, Try.ntmps84
      go_wp2_with (go_at_call 92; refine (sub_any _ _ _ ha hb).mono ?_; rintro e w' ⟨rfl, rfl⟩)
      go_ret2
      exact ⟨rfl, rfl⟩

set_option maxHeartbeats 400000 in
theorem power_le (n : Int) (w : World) (h6 : n ≤ 6) :
    Calls Try.prog 93 #[.int .i64 n] w fun e w' => e = .returned (.int .i64 (pw n)) ∧ w' = w := by
  have HM : Hid (pw n = 10 ^ (n : Int).toNat) := by show pw n = _; unfold pw; rw [show min n 6 = n by omega]
  go_enter Try.func93, Try.ntmps93
  go_wp2
  go_loop [3, 6] (fun p i => ∃ k : Nat, (k : Int) ≤ max n 0 ∧ i = .int .i64 k ∧ p = .int .i64 (10 ^ k)) (fun _ i => (n - intOf i).toNat)
  case atStart => exact ⟨0, by omega, rfl, rfl⟩
  case round =>
    obtain ⟨k, hk, rfl, rfl⟩ := hrel
    by_cases hlt : (k : Int) < n
    · have ht := ten_bd k (by omega)
      have H2 : Hid ((10 : Int) ^ (k + 1) = 10 ^ k * 10) := Int.pow_succ 10 k
      generalize hp : (10 : Int) ^ k = p at *
      have HP : Hid ((10 : Int) ^ k = p) := hp
      clear hp
      go_wp2
      go_round
      case rel => exact ⟨k + 1, by omega, by go_num, by rw [H2.out]⟩
      case measure => simp [intOf]; omega
    · have HK : Hid ((10 : Int) ^ k = pw n) := by show _ = _; rw [HM.out, show k = (n : Int).toNat by omega]
      generalize (10 : Int) ^ k = p at *
      go_wp2
      go_ret
      exact ⟨ret_int HK.out, rfl⟩

set_option maxHeartbeats 400000 in
theorem power_gt (n : Int) (w : World) (h6 : 6 < n) :
    Calls Try.prog 93 #[.int .i64 n] w fun e w' => e = .returned (.int .i64 (pw n)) ∧ w' = w := by
  have HM : Hid (pw n = 10 ^ (6 : Int).toNat) := by show pw n = _; unfold pw; rw [show min n 6 = 6 by omega]
  go_enter Try.func93, Try.ntmps93
  go_wp2
  go_loop [3, 6] (fun p i => ∃ k : Nat, (k : Int) ≤ max 6 0 ∧ i = .int .i64 k ∧ p = .int .i64 (10 ^ k)) (fun _ i => (6 - intOf i).toNat)
  case atStart => exact ⟨0, by omega, rfl, rfl⟩
  case round =>
    obtain ⟨k, hk, rfl, rfl⟩ := hrel
    by_cases hlt : (k : Int) < 6
    · have ht := ten_bd k (by omega)
      have H2 : Hid ((10 : Int) ^ (k + 1) = 10 ^ k * 10) := Int.pow_succ 10 k
      generalize hp : (10 : Int) ^ k = p at *
      have HP : Hid ((10 : Int) ^ k = p) := hp
      clear hp
      go_wp2
      go_round
      case rel => exact ⟨k + 1, by omega, by go_num, by rw [H2.out]⟩
      case measure => simp [intOf]; omega
    · have HK : Hid ((10 : Int) ^ k = pw n) := by show _ = _; rw [HM.out, show k = (6 : Int).toNat by omega]
      generalize (10 : Int) ^ k = p at *
      go_wp2
      go_ret
      exact ⟨ret_int HK.out, rfl⟩

theorem power_any (n : Int) (w : World) :
    Calls Try.prog 93 #[.int .i64 n] w fun e w' => e = .returned (.int .i64 (pw n)) ∧ w' = w := by
  by_cases h6 : n ≤ 6
  · exact power_le n w h6
  · exact power_gt n w (by omega)

def rdB (n s : Int) : Bool := decide (-1000000000000000 < n ∧ n < 1000000000000000 ∧ 0 ≤ s ∧ s ≤ 6 ∧ (s = 0 ∨ n % 10 ≠ 0))
theorem tmod_ten (n : Int) : n.tmod 10 = 0 ↔ n % 10 = 0 := by
  rw [← Int.dvd_iff_tmod_eq_zero, Int.dvd_iff_emod_eq_zero]
theorem rd_last (n s : Int) (h1 : -1000000000000000 < n) (h2 : n < 1000000000000000) (h3 : 0 ≤ s) (h4 : s ≤ 6) : (s == 0 || n.tmod 10 != 0) = rdB n s := by
  have := tmod_ten n
  unfold rdB; rw [Bool.eq_iff_iff]; simp only [Bool.or_eq_true, beq_iff_eq, bne_iff_ne, decide_eq_true_eq, ne_eq, this]; omega
theorem rd_no (n s : Int) (h : n ≤ -1000000000000000 ∨ 1000000000000000 ≤ n ∨ s < 0 ∨ 6 < s) : false = rdB n s := by
  unfold rdB; rw [eq_comm, decide_eq_false_iff_not]; omega
set_option maxHeartbeats 400000 in
theorem rightDec_any (n s : Int) (w : World) :
    Calls Try.prog 98 #[.int .i64 n, .int .i64 s] w fun e w' => e = .returned (.bool (rdB n s)) ∧ w' = w := by
  by_cases hc : n ≤ -1000000000000000 ∨ 1000000000000000 ≤ n ∨ s < 0 ∨ 6 < s
  · have H : Hid (false = rdB n s) := rd_no n s hc
    generalize rdB n s = r at *
    rcases hc with h | h | h | h
    all_goals
      go_enter Try.func98, Try.ntmps98
      go_wp2
      all_goals
        go_ret
        exact ⟨ret_bool H.out, rfl⟩
  · have h1 : -1000000000000000 < n := by omega
    have h2 : n < 1000000000000000 := by omega
    have h3 : 0 ≤ s := by omega
    have h4 : s ≤ 6 := by omega
    have H : Hid ((s == 0 || n.tmod 10 != 0) = rdB n s) := rd_last n s h1 h2 h3 h4
    clear hc
    generalize rdB n s = r at *
    by_cases h0 : s = 0
    · subst h0
      go_enter Try.func98, Try.ntmps98
      go_wp2
      go_ret
      exact ⟨ret_bool H.out, rfl⟩
    · have h0' : (s == 0) = false := by simpa using h0
      go_enter Try.func98, Try.ntmps98
      go_wp2
      go_ret
      exact ⟨ret_bool (by have := H.out; simpa [h0'] using this), rfl⟩
end Go.Proofs.Ytliefgkhpgigaaa
