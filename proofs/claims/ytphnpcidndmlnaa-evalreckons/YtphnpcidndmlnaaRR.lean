/-
  What the reference's functions clean, Right return: for every value.
-/
import Derived.Test.YtphnpcidndmlnaaR
namespace Go.Proofs.Ytphnpcidndmlnaa
open Go.RowKit
set_option linter.unusedSimpArgs false
set_option linter.unusedVariables false

set_option maxHeartbeats 400000 in
theorem rclean_any (t : ByteArray) (w : World) (ht : t.size ≤ maxLen) :
    Calls Try.prog 51 #[.string t] w fun e w' => e = .returned (.bool (cleanB t)) ∧ w' = w := by
  unfold maxLen at ht
  go_enter Try.func51, Try.ntmps51
  go_wp2
  go_loop [3] (fun i => ∃ k : Nat, k ≤ t.size ∧ i = .int .i64 k ∧ Hid ((t.data.toList.take k).all okByte = true)) (fun i => t.size - (intOf i).toNat)
  case atStart => exact ⟨0, Nat.zero_le _, rfl, by show _ = true; simp⟩
  case round =>
    obtain ⟨k, hk, rfl, HA⟩ := hrel
    by_cases hlt : k < t.size
    · have hts := take_snoc t k hlt
      cases hok : okByte t[k]
      · have HN : Hid (cleanB t = false) := clean_no t k hlt hok
        unfold okByte at hok
        have hok2 : ¬ (32 ≤ (t[k].toNat : Int) ∧ (t[k].toNat : Int) ≤ 126) := of_decide_eq_false hok
        clear hok hts
        by_cases h32 : (t[k].toNat : Int) < 32
        · go_wp2
          go_ret
          exact ⟨ret_bool HN.out.symm, rfl⟩
        · have h126 : 126 < (t[k].toNat : Int) := by omega
          go_wp2
          go_ret
          exact ⟨ret_bool HN.out.symm, rfl⟩
      · have HS : Hid ((t.data.toList.take (k + 1)).all okByte = true) := by show _ = true; rw [hts, List.all_append, HA.out]; simp [hok]
        unfold okByte at hok
        obtain ⟨h32, h126⟩ : 32 ≤ (t[k].toNat : Int) ∧ (t[k].toNat : Int) ≤ 126 := of_decide_eq_true hok
        clear hok hts
        go_wp2
        go_round
        case rel => exact ⟨k + 1, by omega, by go_num, HS⟩
        case measure => simp [intOf]; omega
    · have HY : Hid (cleanB t = true) := clean_yes t k hlt HA.out
      go_wp2
      go_ret
      exact ⟨ret_bool HY.out.symm, rfl⟩

set_option maxHeartbeats 800000 in
theorem rright_0 (n s : Int) (t : ByteArray) (w : World) (ht : t.size ≤ maxLen) :
    Calls Try.prog 21 #[V 0 n s t] w fun e w' => e = .returned (.bool (rightB 0 n s t)) ∧ Below w.heap.size w w' := by
  unfold rightB
  rw [if_pos rfl]
  · go_enter Try.func21, Try.ntmps21
    go_wp2
    all_goals
      go_ret
      refine ⟨ret_bool ?_, (Below.refl _ _).alloc (Nat.le_refl _) _⟩
      go_light
      first | (simp [*]; done) | (simp [*]; omega) | (rw [Bool.eq_iff_iff]; simp [*]; done) | (rw [Bool.eq_iff_iff]; simp [*]; omega) | (simp [*, not_le_of_lt40 t (by assumption)])

set_option maxHeartbeats 800000 in
theorem rright_1 (n s : Int) (t : ByteArray) (w : World) (ht : t.size ≤ maxLen) :
    Calls Try.prog 21 #[V 1 n s t] w fun e w' => e = .returned (.bool (rightB 1 n s t)) ∧ Below w.heap.size w w' := by
  unfold rightB
  rw [if_neg (by decide), if_pos rfl]
  · go_enter Try.func21, Try.ntmps21
    go_wp2
    all_goals
      go_ret
      refine ⟨ret_bool ?_, (Below.refl _ _).alloc (Nat.le_refl _) _⟩
      go_light
      first | (simp [*]; done) | (simp [*]; omega) | (rw [Bool.eq_iff_iff]; simp [*]; done) | (rw [Bool.eq_iff_iff]; simp [*]; omega) | (simp [*, not_le_of_lt40 t (by assumption)])

set_option maxHeartbeats 800000 in
theorem rright_2 (n s : Int) (t : ByteArray) (w : World) (ht : t.size ≤ maxLen) :
    Calls Try.prog 21 #[V 2 n s t] w fun e w' => e = .returned (.bool (rightB 2 n s t)) ∧ Below w.heap.size w w' := by
  unfold rightB
  rw [if_neg (by decide), if_neg (by decide), if_pos rfl]
  · go_enter Try.func21, Try.ntmps21
    go_wp2
    all_goals
      go_ret
      refine ⟨ret_bool ?_, (Below.refl _ _).alloc (Nat.le_refl _) _⟩
      go_light
      first | (simp [*]; done) | (simp [*]; omega) | (rw [Bool.eq_iff_iff]; simp [*]; done) | (rw [Bool.eq_iff_iff]; simp [*]; omega) | (simp [*, not_le_of_lt40 t (by assumption)])

set_option maxHeartbeats 800000 in
theorem rright_4 (n s : Int) (t : ByteArray) (w : World) (ht : t.size ≤ maxLen) :
    Calls Try.prog 21 #[V 4 n s t] w fun e w' => e = .returned (.bool (rightB 4 n s t)) ∧ Below w.heap.size w w' := by
  unfold rightB
  rw [if_neg (by decide), if_neg (by decide), if_neg (by decide), if_neg (by decide), if_pos rfl]
  · go_enter Try.func21, Try.ntmps21
    go_wp2_with (go_at_call 51; refine (rclean_any _ _ ht).mono ?_; rintro e w1 ⟨rfl, rfl⟩)
    all_goals
      go_ret
      refine ⟨ret_bool ?_, (Below.refl _ _).alloc (Nat.le_refl _) _⟩
      go_light
      first | (simp [*]; done) | (simp [*]; omega) | (rw [Bool.eq_iff_iff]; simp [*]; done) | (rw [Bool.eq_iff_iff]; simp [*]; omega) | (simp [*, not_le_of_lt40 t (by assumption)])

set_option maxHeartbeats 800000 in
theorem rright_5 (n s : Int) (t : ByteArray) (w : World) (ht : t.size ≤ maxLen) :
    Calls Try.prog 21 #[V 5 n s t] w fun e w' => e = .returned (.bool (rightB 5 n s t)) ∧ Below w.heap.size w w' := by
  unfold rightB
  rw [if_neg (by decide), if_neg (by decide), if_neg (by decide), if_neg (by decide), if_neg (by decide), if_pos rfl]
  · go_enter Try.func21, Try.ntmps21
    go_wp2
    all_goals
      go_ret
      refine ⟨ret_bool ?_, (Below.refl _ _).alloc (Nat.le_refl _) _⟩
      go_light
      first | (simp [*]; done) | (simp [*]; omega) | (rw [Bool.eq_iff_iff]; simp [*]; done) | (rw [Bool.eq_iff_iff]; simp [*]; omega) | (simp [*, not_le_of_lt40 t (by assumption)])

set_option maxHeartbeats 1600000 in
theorem rright_3 (n s : Int) (t : ByteArray) (w : World) :
    Calls Try.prog 21 #[V 3 n s t] w fun e w' => e = .returned (.bool (rightB 3 n s t)) ∧ Below w.heap.size w w' := by
  unfold rightB
  rw [if_neg (by decide), if_neg (by decide), if_neg (by decide), if_pos rfl]
  by_cases hc : n ≤ -1000000000000000 ∨ 1000000000000000 ≤ n ∨ s < 0 ∨ 6 < s
  · have H : Hid (false = rdB n s) := rd_no n s hc
    generalize rdB n s = r at *
    rcases hc with h | h | h | h
    all_goals
      go_enter Try.func21, Try.ntmps21
      go_wp2
      all_goals
        go_ret
        exact ⟨ret_bool (by rw [← H.out, Bool.and_false]), (Below.refl _ _).alloc (Nat.le_refl _) _⟩
  · have h1 : -1000000000000000 < n := by omega
    have h2 : n < 1000000000000000 := by omega
    have h3 : 0 ≤ s := by omega
    have h4 : s ≤ 6 := by omega
    have H : Hid ((s == 0 || n.tmod 10 != 0) = rdB n s) := rd_last n s h1 h2 h3 h4
    clear hc
    generalize rdB n s = r at *
    by_cases h0 : s = 0
    · subst h0
      go_enter Try.func21, Try.ntmps21
      go_wp2
      all_goals
        go_ret
        refine ⟨ret_bool ?_, (Below.refl _ _).alloc (Nat.le_refl _) _⟩
        rw [← H.out]
        go_light
        first | (simp [*]; done) | (rw [Bool.eq_iff_iff]; simp [*]; done)
    · have h0' : (s == 0) = false := by simpa using h0
      cases h10 : (n.tmod 10 != 0)
      all_goals
        go_enter Try.func21, Try.ntmps21
        go_wp2
        all_goals
          go_ret
          refine ⟨ret_bool ?_, (Below.refl _ _).alloc (Nat.le_refl _) _⟩
          rw [← H.out, h0', h10]
          go_light
          first | (simp [*]; done) | (rw [Bool.eq_iff_iff]; simp [*]; done)

set_option maxHeartbeats 800000 in
theorem rright_no (k n s : Int) (t : ByteArray) (w : World) (h0 : k ≠ 0) (h1 : k ≠ 1) (h2 : k ≠ 2) (h3 : k ≠ 3) (h4 : k ≠ 4) (h5 : k ≠ 5) :
    Calls Try.prog 21 #[V k n s t] w fun e w' => e = .returned (.bool (rightB k n s t)) ∧ Below w.heap.size w w' := by
  unfold rightB
  rw [if_neg h0, if_neg h1, if_neg h2, if_neg h3, if_neg h4, if_neg h5]
  have g0 : (k == 0) = false := by simpa using h0
  have g1 : (k == 1) = false := by simpa using h1
  have g2 : (k == 2) = false := by simpa using h2
  have g3 : (k == 3) = false := by simpa using h3
  have g4 : (k == 4) = false := by simpa using h4
  have g5 : (k == 5) = false := by simpa using h5
  clear h0 h1 h2 h3 h4 h5
  go_enter Try.func21, Try.ntmps21
  go_wp2
  go_ret
  exact ⟨rfl, (Below.refl _ _).alloc (Nat.le_refl _) _⟩
theorem rright_any (k n s : Int) (t : ByteArray) (w : World) (ht : t.size ≤ maxLen) :
    Calls Try.prog 21 #[V k n s t] w fun e w' => e = .returned (.bool (rightB k n s t)) ∧ Below w.heap.size w w' := by
  by_cases h0 : k = 0
  · subst h0; exact rright_0 n s t w ht
  by_cases h1 : k = 1
  · subst h1; exact rright_1 n s t w ht
  by_cases h2 : k = 2
  · subst h2; exact rright_2 n s t w ht
  by_cases h3 : k = 3
  · subst h3; exact rright_3 n s t w
  by_cases h4 : k = 4
  · subst h4; exact rright_4 n s t w ht
  by_cases h5 : k = 5
  · subst h5; exact rright_5 n s t w ht
  exact rright_no k n s t w h0 h1 h2 h3 h4 h5
end Go.Proofs.Ytphnpcidndmlnaa
