/-
  What the statements' own function Make returns: some value that is right, for every argument.
-/
import Derived.Test.YtliefgkhpgigaaaR
import Derived.Test.YtliefgkhpgigaaaF
namespace Go.Proofs.Ytliefgkhpgigaaa
open Go.RowKit
set_option linter.unusedSimpArgs false
set_option linter.unusedVariables false

/-- a value that may be -/
def Ok (k n s : Int) (t : ByteArray) : Prop := (0 ≤ k ∧ k ≤ 5) ∧ rightB k n s t = true ∧ Is64 n ∧ (0 ≤ s ∧ s ≤ 6) ∧ t.size ≤ 40 ∧ (k ≤ 3 → t = ⟨#[]⟩)
def Made (e : Ending) (k : Int) : Prop := ∃ n s t, Ok k n s t ∧ e = .returned (V k n s t)

set_option maxHeartbeats 400000 in
theorem within1_any (x n : Int) (w : World) (hx : Is64 x) (hn : 0 < n ∧ n ≤ 9223372036854775807) :
    Calls Try.prog 63 #[.int .i64 x, .int .i64 n] w fun e w' => e = .returned (.int .i64 (x % n)) ∧ w' = w := by
  have hb := Int.emod_lt_of_pos x hn.1
  have hb' := Int.emod_nonneg x (show n ≠ 0 by omega)
  have hlt := tmod_lt x n hn.1
  have hge := tmod_ge x n hn.1
  have H1 : Hid (x.tmod n < 0 → x.tmod n + n = x % n ∧ -n < x.tmod n) := hlt
  have H2 : Hid (0 ≤ x.tmod n → x.tmod n = x % n) := hge
  clear hlt hge
  go_enter Try.func63, Try.ntmps63
  go_wp2
  · go_ret
    refine ⟨ret_int ?_, rfl⟩
    have := H1.out ‹_›
    rw [this.1]; exact wrap64_is _ (by unfold Is64; omega)
  · go_ret
    exact ⟨ret_int (H2.out ‹_›), rfl⟩
theorem within1_at {x n j : Int} (hx : Is64 x) (hn : 0 < n ∧ n ≤ 9223372036854775807) (hj : x % n = j) (w : World) :
    Calls Try.prog 63 #[.int .i64 x, .int .i64 n] w fun e w' => e = .returned (.int .i64 j) ∧ w' = w := hj ▸ within1_any x n w hx hn

theorem ok_null : Ok 0 0 0 ⟨#[]⟩ := ⟨by decide, by decide +kernel, by unfold Is64; omega, by decide, by decide, fun _ => rfl⟩
theorem ok_bool {n : Int} (h : n = 0 ∨ n = 1) : Ok 1 n 0 ⟨#[]⟩ := by
  rcases h with rfl | rfl <;> exact ⟨by decide, by decide +kernel, by unfold Is64; omega, by decide, by decide, fun _ => rfl⟩
theorem ok_int {n : Int} (h : Is64 n) : Ok 2 n 0 ⟨#[]⟩ := by
  refine ⟨by decide, ?_, h, by decide, by decide, fun _ => rfl⟩
  unfold rightB; rw [if_neg (by decide), if_neg (by decide), if_pos rfl]; decide +kernel
theorem ok_bytes {t : ByteArray} (h : t.size ≤ 40) : Ok 5 0 0 t := by
  refine ⟨by decide, ?_, by unfold Is64; omega, by decide, h, fun h => absurd h (by decide)⟩
  unfold rightB; rw [if_neg (by decide), if_neg (by decide), if_neg (by decide), if_neg (by decide), if_neg (by decide), if_pos rfl]
  exact decide_eq_true ⟨rfl, rfl, by omega⟩

set_option maxHeartbeats 800000 in
theorem make0 (kind n : Int) (s : ByteArray) (w : World) (hk : Is64 kind) (hj : kind % 6 = 0) :
    Calls Try.prog 43 #[.int .i64 kind, .int .i64 n, .string s] w fun e w' => Made e 0 ∧ Below w.heap.size w w' := by
  have C := hide (fun W => within1_at hk (by decide) hj W)
  clear hj hk
  go_enter Try.func43, Try.ntmps43
  go_wp2_with (go_at_call 63; refine (unhide C _).mono ?_; rintro e w' ⟨rfl, rfl⟩)
  exact bodyPost_ret (v := V 0 0 0 ⟨#[]⟩) (by simp [results, Try.results43, go_sem]) rfl ⟨⟨_, _, _, ok_null, rfl⟩, ((Below.refl _ _).alloc (Nat.le_refl _) _).alloc (by simp) _⟩

set_option maxHeartbeats 800000 in
theorem make1 (kind n : Int) (s : ByteArray) (w : World) (hk : Is64 kind) (hn : Is64 n) (hj : kind % 6 = 1) :
    Calls Try.prog 43 #[.int .i64 kind, .int .i64 n, .string s] w fun e w' => Made e 1 ∧ Below w.heap.size w w' := by
  have C := hide (fun W => within1_at hk (by decide) hj W)
  obtain ⟨m, hm⟩ : ∃ m, m = n % 2 := ⟨_, rfl⟩
  have D := hide (fun W => within1_at hn (by decide) hm.symm W)
  have HM := hide (show m = 0 ∨ m = 1 by omega)
  clear hj hk hn hm
  go_enter Try.func43, Try.ntmps43
  go_wp2_with (first | (go_at_call_of 63 (Value.int IntKind.i64 kind); refine (unhide C _).mono ?_; rintro e w' ⟨rfl, rfl⟩) | (go_at_call 63; refine (unhide D _).mono ?_; rintro e w' ⟨rfl, rfl⟩))
  exact bodyPost_ret (v := V 1 m 0 ⟨#[]⟩) (by simp [results, Try.results43, go_sem]) rfl ⟨⟨_, _, _, ok_bool (unhide HM), rfl⟩, ((Below.refl _ _).alloc (Nat.le_refl _) _).alloc (by simp) _⟩

set_option maxHeartbeats 800000 in
theorem make5 (kind n : Int) (s : ByteArray) (w : World) (hk : Is64 kind) (hj : kind % 6 = 5) :
    Calls Try.prog 43 #[.int .i64 kind, .int .i64 n, .string s] w fun e w' => Made e 5 ∧ Below w.heap.size w w' := by
  have C := hide (fun W => within1_at hk (by decide) hj W)
  clear hj hk
  by_cases hs : s.size ≤ 40
  · have hm : min (s.size : Int) 40 = s.size := by omega
    go_enter Try.func43, Try.ntmps43
    go_wp2_with (go_at_call 63; refine (unhide C _).mono ?_; rintro e w' ⟨rfl, rfl⟩)
    exact bodyPost_ret (v := V 5 0 0 s) (by simp [results, Try.results43, go_sem]) rfl ⟨⟨_, _, _, ok_bytes hs, rfl⟩, ((Below.refl _ _).alloc (Nat.le_refl _) _).alloc (by simp) _⟩
  · have hm : min (s.size : Int) 40 = 40 := by omega
    go_enter Try.func43, Try.ntmps43
    go_wp2_with (go_at_call 63; refine (unhide C _).mono ?_; rintro e w' ⟨rfl, rfl⟩)
    exact bodyPost_ret (v := V 5 0 0 (s.extract 0 40)) (by simp [results, Try.results43, go_sem]) rfl ⟨⟨_, _, _, ok_bytes (by simp; omega), rfl⟩, ((Below.refl _ _).alloc (Nat.le_refl _) _).alloc (by simp) _⟩
end Go.Proofs.Ytliefgkhpgigaaa
