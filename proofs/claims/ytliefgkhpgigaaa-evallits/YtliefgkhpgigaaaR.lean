/-
  What val.Right, val.printable return: for every value.
-/
import Derived.Test.YtliefgkhpgigaaaC
import Derived.Deep.Light
namespace Go.Proofs.Ytliefgkhpgigaaa
open Go.RowKit
set_option linter.unusedSimpArgs false
set_option linter.unusedVariables false

def okByte (c : UInt8) : Bool := decide (32 ≤ (c.toNat : Int) ∧ (c.toNat : Int) ≤ 126)
def cleanB (t : ByteArray) : Bool := t.data.toList.all okByte
def rightB (k n s : Int) (t : ByteArray) : Bool :=
  if k = 0 then decide (n = 0 ∧ s = 0 ∧ t.toList = [])
  else if k = 1 then decide (s = 0 ∧ t.toList = [] ∧ (n = 0 ∨ n = 1))
  else if k = 2 then decide (s = 0 ∧ t.toList = [])
  else if k = 3 then decide (t.toList = []) && rdB n s
  else if k = 4 then decide (n = 0 ∧ s = 0 ∧ (t.size : Int) ≤ 40) && cleanB t
  else if k = 5 then decide (n = 0 ∧ s = 0 ∧ (t.size : Int) ≤ 40) else false

theorem take_snoc (s : ByteArray) (k : Nat) (h : k < s.size) : s.data.toList.take (k + 1) = s.data.toList.take k ++ [s[k]] := by
  rw [List.take_succ_eq_append_getElem (by simpa using h)]; rfl
theorem clean_no (s : ByteArray) (k : Nat) (h : k < s.size) (hc : okByte s[k] = false) : cleanB s = false := by
  unfold cleanB
  rw [List.all_eq_false]
  exact ⟨s[k], by exact List.getElem_mem (l := s.data.toList) (by simpa using h), by rw [hc]; decide⟩
theorem clean_yes (s : ByteArray) (k : Nat) (hk : ¬ k < s.size) (h : (s.data.toList.take k).all okByte = true) : cleanB s = true := by
  unfold cleanB
  rw [List.take_of_length_le (by simp; omega)] at h; exact h

theorem not_le_of_lt40 (t : ByteArray) (h : (40 : Int) < (t.size : Int)) : ((t.size : Int) ≤ 40) = False := by simp; omega

set_option maxHeartbeats 400000 in
theorem printable_any (t : ByteArray) (w : World) (ht : t.size ≤ maxLen) :
    Calls Try.prog 99 #[.string t] w fun e w' => e = .returned (.bool (cleanB t)) ∧ w' = w := by
  unfold maxLen at ht
  go_enter Try.func99, Try.ntmps99
  go_wp2
  go_loop [6] (fun i => ∃ k : Nat, k ≤ t.size ∧ i = .int .i64 k ∧ Hid ((t.data.toList.take k).all okByte = true)) (fun i => t.size - (intOf i).toNat)
  case atStart => exact ⟨0, Nat.zero_le _, rfl, by show _ = true; simp⟩
  case round =>
    obtain ⟨k, hk, rfl, HA⟩ := hrel
    by_cases hlt : k < t.size
    · have hts := take_snoc t k hlt
      cases hok : okByte t[k]
      · have HN : Hid (cleanB t = false) := clean_no t k hlt hok
        unfold okByte at hok
        have hok2 : ¬ (32 ≤ (t[k].toNat : Int) ∧ (t[k].toNat : Int) ≤ 126) := of_decide_eq_false hok
        clear hok hts
        by_cases h32 : (t[k].toNat : Int) < 32
        · go_wp2
          go_ret
          exact ⟨ret_bool HN.out.symm, rfl⟩
        · have h126 : 126 < (t[k].toNat : Int) := by omega
          go_wp2
          go_ret
          exact ⟨ret_bool HN.out.symm, rfl⟩
      · have HS : Hid ((t.data.toList.take (k + 1)).all okByte = true) := by show _ = true; rw [hts, List.all_append, HA.out]; simp [hok]
        unfold okByte at hok
        obtain ⟨h32, h126⟩ : 32 ≤ (t[k].toNat : Int) ∧ (t[k].toNat : Int) ≤ 126 := of_decide_eq_true hok
        clear hok hts
        go_wp2
        go_round
        case rel => exact ⟨k + 1, by omega, by go_num, HS⟩
        case measure => simp [intOf]; omega
    · have HY : Hid (cleanB t = true) := clean_yes t k hlt HA.out
      go_wp2
      go_ret
      exact ⟨ret_bool HY.out.symm, rfl⟩

set_option maxHeartbeats 800000 in
theorem right_any (k n s : Int) (t : ByteArray) (w : World) (ht : t.size ≤ maxLen) :
    Calls Try.prog 95 #[V k n s t] w fun e w' => e = .returned (.bool (rightB k n s t)) ∧ Below w.heap.size w w' := by
  unfold rightB
  by_cases h0 : k = 0
  · subst h0; rw [if_pos rfl]
    go_enter Try.func95, Try.ntmps95
    go_wp2
    all_goals
      go_ret
      refine ⟨ret_bool ?_, (Below.refl _ _).alloc (Nat.le_refl _) _⟩
      go_light
      first | (simp [*]; done) | (rw [Bool.eq_iff_iff]; simp [*]; done) | (simp [*, not_le_of_lt40 t (by assumption)])
  rw [if_neg h0]
  by_cases h1 : k = 1
  · subst h1; rw [if_pos rfl]
    go_enter Try.func95, Try.ntmps95
    go_wp2
    all_goals
      go_ret
      refine ⟨ret_bool ?_, (Below.refl _ _).alloc (Nat.le_refl _) _⟩
      go_light
      first | (simp [*]; done) | (rw [Bool.eq_iff_iff]; simp [*]; done) | (simp [*, not_le_of_lt40 t (by assumption)])
  rw [if_neg h1]
  by_cases h2 : k = 2
  · subst h2; rw [if_pos rfl]
    go_enter Try.func95, Try.ntmps95
    go_wp2
    all_goals
      go_ret
      refine ⟨ret_bool ?_, (Below.refl _ _).alloc (Nat.le_refl _) _⟩
      go_light
      first | (simp [*]; done) | (rw [Bool.eq_iff_iff]; simp [*]; done) | (simp [*, not_le_of_lt40 t (by assumption)])
  rw [if_neg h2]
  by_cases h3 : k = 3
  · subst h3; rw [if_pos rfl]
    go_enter Try.func95, Try.ntmps95
    go_wp2_with (go_at_call 98; refine (rightDec_any _ _ _).mono ?_; rintro e w' ⟨rfl, rfl⟩)
    all_goals
      go_ret
      refine ⟨ret_bool ?_, (Below.refl _ _).alloc (Nat.le_refl _) _⟩
      go_light
      first | (simp [*]; done) | (rw [Bool.eq_iff_iff]; simp [*]; done) | (simp [*, not_le_of_lt40 t (by assumption)])
  rw [if_neg h3]
  by_cases h4 : k = 4
  · subst h4; rw [if_pos rfl]
    go_enter Try.func95, Try.ntmps95
    go_wp2_with (go_at_call 99; refine (printable_any _ _ ht).mono ?_; rintro e w' ⟨rfl, rfl⟩)
    all_goals
      go_ret
      refine ⟨ret_bool ?_, (Below.refl _ _).alloc (Nat.le_refl _) _⟩
      go_light
      first | (simp [*]; done) | (rw [Bool.eq_iff_iff]; simp [*]; done) | (simp [*, not_le_of_lt40 t (by assumption)])
  rw [if_neg h4]
  by_cases h5 : k = 5
  · subst h5; rw [if_pos rfl]
    go_enter Try.func95, Try.ntmps95
    go_wp2
    all_goals
      go_ret
      refine ⟨ret_bool ?_, (Below.refl _ _).alloc (Nat.le_refl _) _⟩
      go_light
      first | (simp [*]; done) | (rw [Bool.eq_iff_iff]; simp [*]; done) | (simp [*, not_le_of_lt40 t (by assumption)])
  rw [if_neg h5]
  have g0 : (k == 0) = false := by simpa using h0
  have g1 : (k == 1) = false := by simpa using h1
  have g2 : (k == 2) = false := by simpa using h2
  have g3 : (k == 3) = false := by simpa using h3
  have g4 : (k == 4) = false := by simpa using h4
  have g5 : (k == 5) = false := by simpa using h5
  clear h0 h1 h2 h3 h4 h5
  go_enter Try.func95, Try.ntmps95
  go_wp2
  go_ret
  exact ⟨rfl, (Below.refl _ _).alloc (Nat.le_refl _) _⟩
end Go.Proofs.Ytliefgkhpgigaaa
