/-
  What the statements' own function Make returns, of kind 2: a number out of a list of eight.
-/
import Derived.Test.YtliefgkhpgigaaaH
namespace Go.Proofs.Ytliefgkhpgigaaa
open Go.RowKit
set_option linter.unusedSimpArgs false
set_option linter.unusedVariables false

theorem tdiv_bd {x : Int} (h : Is64 x) (q : Int) (hq : 1 < q) : Is64 (x.tdiv q) := by
  have h1 : (x.tdiv q).natAbs = x.natAbs / q.natAbs := Int.natAbs_tdiv x q
  have h2 : x.natAbs / q.natAbs ≤ x.natAbs / 2 := Nat.div_le_div_left (by omega) (by decide)
  unfold Is64 at *; omega

set_option maxHeartbeats 800000 in
theorem make2_0 (kind n : Int) (s : ByteArray) (w : World) (hk : Is64 kind) (hn : Is64 n) (hj : kind % 6 = 2) (hi : (kind.tdiv 6) % 8 = 0) :
    Calls Try.prog 43 #[.int .i64 kind, .int .i64 n, .string s] w fun e w' => Made e 2 ∧ Below w.heap.size w w' := by
  have C := hide (fun W => within1_at hk (by decide) hj W)
  obtain ⟨m, hm⟩ : ∃ m, m = n % 100 := ⟨_, rfl⟩
  have D := hide (fun W => within1_at hn (by decide) hm.symm W)
  have hm0 : 0 ≤ m := by omega
  have hm1 : m < 100 := by omega
  have hq := tdiv_bd hk 6 (by decide)
  have E := hide (fun W => within1_at hq (by decide) hi W)
  have hw : wrap64 (kind.tdiv 6) = kind.tdiv 6 := wrap64_is _ hq
  have HN := hide hn
  clear hj hi hm hq hn
  go_enter Try.func43, Try.ntmps43
  go_wp2_with (first | (go_at_call_of 63 (Value.int IntKind.i64 kind); refine (unhide C _).mono ?_; rintro e w' ⟨rfl, rfl⟩) | (go_at_call_of 63 (Value.int IntKind.i64 n); refine (unhide D _).mono ?_; rintro e w' ⟨rfl, rfl⟩) | (go_at_call 63; refine (unhide E _).mono ?_; rintro e w' ⟨rfl, rfl⟩))
  exact bodyPost_ret (v := V 2 (n) 0 ⟨#[]⟩) (by simp [results, Try.results43, go_sem]) rfl ⟨⟨_, _, _, ok_int (by exact unhide HN), rfl⟩, (((Below.refl _ _).alloc (Nat.le_refl _) _).alloc (by simp) _).alloc (by simp; omega) _⟩

set_option maxHeartbeats 800000 in
theorem make2_1 (kind n : Int) (s : ByteArray) (w : World) (hk : Is64 kind) (hn : Is64 n) (hj : kind % 6 = 2) (hi : (kind.tdiv 6) % 8 = 1) :
    Calls Try.prog 43 #[.int .i64 kind, .int .i64 n, .string s] w fun e w' => Made e 2 ∧ Below w.heap.size w w' := by
  have C := hide (fun W => within1_at hk (by decide) hj W)
  obtain ⟨m, hm⟩ : ∃ m, m = n % 100 := ⟨_, rfl⟩
  have D := hide (fun W => within1_at hn (by decide) hm.symm W)
  have hm0 : 0 ≤ m := by omega
  have hm1 : m < 100 := by omega
  have hq := tdiv_bd hk 6 (by decide)
  have E := hide (fun W => within1_at hq (by decide) hi W)
  have hw : wrap64 (kind.tdiv 6) = kind.tdiv 6 := wrap64_is _ hq
  have HN := hide hn
  clear hj hi hm hq hn
  go_enter Try.func43, Try.ntmps43
  go_wp2_with (first | (go_at_call_of 63 (Value.int IntKind.i64 kind); refine (unhide C _).mono ?_; rintro e w' ⟨rfl, rfl⟩) | (go_at_call_of 63 (Value.int IntKind.i64 n); refine (unhide D _).mono ?_; rintro e w' ⟨rfl, rfl⟩) | (go_at_call 63; refine (unhide E _).mono ?_; rintro e w' ⟨rfl, rfl⟩))
  exact bodyPost_ret (v := V 2 (0) 0 ⟨#[]⟩) (by simp [results, Try.results43, go_sem]) rfl ⟨⟨_, _, _, ok_int (by unfold Is64; omega), rfl⟩, (((Below.refl _ _).alloc (Nat.le_refl _) _).alloc (by simp) _).alloc (by simp; omega) _⟩

set_option maxHeartbeats 800000 in
theorem make2_2 (kind n : Int) (s : ByteArray) (w : World) (hk : Is64 kind) (hn : Is64 n) (hj : kind % 6 = 2) (hi : (kind.tdiv 6) % 8 = 2) :
    Calls Try.prog 43 #[.int .i64 kind, .int .i64 n, .string s] w fun e w' => Made e 2 ∧ Below w.heap.size w w' := by
  have C := hide (fun W => within1_at hk (by decide) hj W)
  obtain ⟨m, hm⟩ : ∃ m, m = n % 100 := ⟨_, rfl⟩
  have D := hide (fun W => within1_at hn (by decide) hm.symm W)
  have hm0 : 0 ≤ m := by omega
  have hm1 : m < 100 := by omega
  have hq := tdiv_bd hk 6 (by decide)
  have E := hide (fun W => within1_at hq (by decide) hi W)
  have hw : wrap64 (kind.tdiv 6) = kind.tdiv 6 := wrap64_is _ hq
  have HN := hide hn
  clear hj hi hm hq hn
  go_enter Try.func43, Try.ntmps43
  go_wp2_with (first | (go_at_call_of 63 (Value.int IntKind.i64 kind); refine (unhide C _).mono ?_; rintro e w' ⟨rfl, rfl⟩) | (go_at_call_of 63 (Value.int IntKind.i64 n); refine (unhide D _).mono ?_; rintro e w' ⟨rfl, rfl⟩) | (go_at_call 63; refine (unhide E _).mono ?_; rintro e w' ⟨rfl, rfl⟩))
  exact bodyPost_ret (v := V 2 (1) 0 ⟨#[]⟩) (by simp [results, Try.results43, go_sem]) rfl ⟨⟨_, _, _, ok_int (by unfold Is64; omega), rfl⟩, (((Below.refl _ _).alloc (Nat.le_refl _) _).alloc (by simp) _).alloc (by simp; omega) _⟩

set_option maxHeartbeats 800000 in
theorem make2_3 (kind n : Int) (s : ByteArray) (w : World) (hk : Is64 kind) (hn : Is64 n) (hj : kind % 6 = 2) (hi : (kind.tdiv 6) % 8 = 3) :
    Calls Try.prog 43 #[.int .i64 kind, .int .i64 n, .string s] w fun e w' => Made e 2 ∧ Below w.heap.size w w' := by
  have C := hide (fun W => within1_at hk (by decide) hj W)
  obtain ⟨m, hm⟩ : ∃ m, m = n % 100 := ⟨_, rfl⟩
  have D := hide (fun W => within1_at hn (by decide) hm.symm W)
  have hm0 : 0 ≤ m := by omega
  have hm1 : m < 100 := by omega
  have hq := tdiv_bd hk 6 (by decide)
  have E := hide (fun W => within1_at hq (by decide) hi W)
  have hw : wrap64 (kind.tdiv 6) = kind.tdiv 6 := wrap64_is _ hq
  have HN := hide hn
  clear hj hi hm hq hn
  go_enter Try.func43, Try.ntmps43
  go_wp2_with (first | (go_at_call_of 63 (Value.int IntKind.i64 kind); refine (unhide C _).mono ?_; rintro e w' ⟨rfl, rfl⟩) | (go_at_call_of 63 (Value.int IntKind.i64 n); refine (unhide D _).mono ?_; rintro e w' ⟨rfl, rfl⟩) | (go_at_call 63; refine (unhide E _).mono ?_; rintro e w' ⟨rfl, rfl⟩))
  exact bodyPost_ret (v := V 2 (-1) 0 ⟨#[]⟩) (by simp [results, Try.results43, go_sem]) rfl ⟨⟨_, _, _, ok_int (by unfold Is64; omega), rfl⟩, (((Below.refl _ _).alloc (Nat.le_refl _) _).alloc (by simp) _).alloc (by simp; omega) _⟩

set_option maxHeartbeats 800000 in
theorem make2_4 (kind n : Int) (s : ByteArray) (w : World) (hk : Is64 kind) (hn : Is64 n) (hj : kind % 6 = 2) (hi : (kind.tdiv 6) % 8 = 4) :
    Calls Try.prog 43 #[.int .i64 kind, .int .i64 n, .string s] w fun e w' => Made e 2 ∧ Below w.heap.size w w' := by
  have C := hide (fun W => within1_at hk (by decide) hj W)
  obtain ⟨m, hm⟩ : ∃ m, m = n % 100 := ⟨_, rfl⟩
  have D := hide (fun W => within1_at hn (by decide) hm.symm W)
  have hm0 : 0 ≤ m := by omega
  have hm1 : m < 100 := by omega
  have hq := tdiv_bd hk 6 (by decide)
  have E := hide (fun W => within1_at hq (by decide) hi W)
  have hw : wrap64 (kind.tdiv 6) = kind.tdiv 6 := wrap64_is _ hq
  have HN := hide hn
  clear hj hi hm hq hn
  go_enter Try.func43, Try.ntmps43
  go_wp2_with (first | (go_at_call_of 63 (Value.int IntKind.i64 kind); refine (unhide C _).mono ?_; rintro e w' ⟨rfl, rfl⟩) | (go_at_call_of 63 (Value.int IntKind.i64 n); refine (unhide D _).mono ?_; rintro e w' ⟨rfl, rfl⟩) | (go_at_call 63; refine (unhide E _).mono ?_; rintro e w' ⟨rfl, rfl⟩))
  exact bodyPost_ret (v := V 2 (9223372036854775807) 0 ⟨#[]⟩) (by simp [results, Try.results43, go_sem]) rfl ⟨⟨_, _, _, ok_int (by unfold Is64; omega), rfl⟩, (((Below.refl _ _).alloc (Nat.le_refl _) _).alloc (by simp) _).alloc (by simp; omega) _⟩

set_option maxHeartbeats 800000 in
theorem make2_5 (kind n : Int) (s : ByteArray) (w : World) (hk : Is64 kind) (hn : Is64 n) (hj : kind % 6 = 2) (hi : (kind.tdiv 6) % 8 = 5) :
    Calls Try.prog 43 #[.int .i64 kind, .int .i64 n, .string s] w fun e w' => Made e 2 ∧ Below w.heap.size w w' := by
  have C := hide (fun W => within1_at hk (by decide) hj W)
  obtain ⟨m, hm⟩ : ∃ m, m = n % 100 := ⟨_, rfl⟩
  have D := hide (fun W => within1_at hn (by decide) hm.symm W)
  have hm0 : 0 ≤ m := by omega
  have hm1 : m < 100 := by omega
  have hq := tdiv_bd hk 6 (by decide)
  have E := hide (fun W => within1_at hq (by decide) hi W)
  have hw : wrap64 (kind.tdiv 6) = kind.tdiv 6 := wrap64_is _ hq
  have HN := hide hn
  clear hj hi hm hq hn
  go_enter Try.func43, Try.ntmps43
  go_wp2_with (first | (go_at_call_of 63 (Value.int IntKind.i64 kind); refine (unhide C _).mono ?_; rintro e w' ⟨rfl, rfl⟩) | (go_at_call_of 63 (Value.int IntKind.i64 n); refine (unhide D _).mono ?_; rintro e w' ⟨rfl, rfl⟩) | (go_at_call 63; refine (unhide E _).mono ?_; rintro e w' ⟨rfl, rfl⟩))
  exact bodyPost_ret (v := V 2 (-9223372036854775808) 0 ⟨#[]⟩) (by simp [results, Try.results43, go_sem]) rfl ⟨⟨_, _, _, ok_int (by unfold Is64; omega), rfl⟩, (((Below.refl _ _).alloc (Nat.le_refl _) _).alloc (by simp) _).alloc (by simp; omega) _⟩

set_option maxHeartbeats 800000 in
theorem make2_6 (kind n : Int) (s : ByteArray) (w : World) (hk : Is64 kind) (hn : Is64 n) (hj : kind % 6 = 2) (hi : (kind.tdiv 6) % 8 = 6) :
    Calls Try.prog 43 #[.int .i64 kind, .int .i64 n, .string s] w fun e w' => Made e 2 ∧ Below w.heap.size w w' := by
  have C := hide (fun W => within1_at hk (by decide) hj W)
  obtain ⟨m, hm⟩ : ∃ m, m = n % 100 := ⟨_, rfl⟩
  have D := hide (fun W => within1_at hn (by decide) hm.symm W)
  have hm0 : 0 ≤ m := by omega
  have hm1 : m < 100 := by omega
  have hq := tdiv_bd hk 6 (by decide)
  have E := hide (fun W => within1_at hq (by decide) hi W)
  have hw : wrap64 (kind.tdiv 6) = kind.tdiv 6 := wrap64_is _ hq
  have HN := hide hn
  clear hj hi hm hq hn
  go_enter Try.func43, Try.ntmps43
  go_wp2_with (first | (go_at_call_of 63 (Value.int IntKind.i64 kind); refine (unhide C _).mono ?_; rintro e w' ⟨rfl, rfl⟩) | (go_at_call_of 63 (Value.int IntKind.i64 n); refine (unhide D _).mono ?_; rintro e w' ⟨rfl, rfl⟩) | (go_at_call 63; refine (unhide E _).mono ?_; rintro e w' ⟨rfl, rfl⟩))
  exact bodyPost_ret (v := V 2 (m - 50) 0 ⟨#[]⟩) (by simp [results, Try.results43, go_sem]) rfl ⟨⟨_, _, _, ok_int (by unfold Is64; omega), rfl⟩, (((Below.refl _ _).alloc (Nat.le_refl _) _).alloc (by simp) _).alloc (by simp; omega) _⟩

set_option maxHeartbeats 800000 in
theorem make2_7 (kind n : Int) (s : ByteArray) (w : World) (hk : Is64 kind) (hn : Is64 n) (hj : kind % 6 = 2) (hi : (kind.tdiv 6) % 8 = 7) :
    Calls Try.prog 43 #[.int .i64 kind, .int .i64 n, .string s] w fun e w' => Made e 2 ∧ Below w.heap.size w w' := by
  have C := hide (fun W => within1_at hk (by decide) hj W)
  obtain ⟨m, hm⟩ : ∃ m, m = n % 100 := ⟨_, rfl⟩
  have D := hide (fun W => within1_at hn (by decide) hm.symm W)
  have hm0 : 0 ≤ m := by omega
  have hm1 : m < 100 := by omega
  have hq := tdiv_bd hk 6 (by decide)
  have E := hide (fun W => within1_at hq (by decide) hi W)
  have hw : wrap64 (kind.tdiv 6) = kind.tdiv 6 := wrap64_is _ hq
  have HN := hide hn
  clear hj hi hm hq hn
  go_enter Try.func43, Try.ntmps43
  go_wp2_with (first | (go_at_call_of 63 (Value.int IntKind.i64 kind); refine (unhide C _).mono ?_; rintro e w' ⟨rfl, rfl⟩) | (go_at_call_of 63 (Value.int IntKind.i64 n); refine (unhide D _).mono ?_; rintro e w' ⟨rfl, rfl⟩) | (go_at_call 63; refine (unhide E _).mono ?_; rintro e w' ⟨rfl, rfl⟩))
  exact bodyPost_ret (v := V 2 (7) 0 ⟨#[]⟩) (by simp [results, Try.results43, go_sem]) rfl ⟨⟨_, _, _, ok_int (by unfold Is64; omega), rfl⟩, (((Below.refl _ _).alloc (Nat.le_refl _) _).alloc (by simp) _).alloc (by simp; omega) _⟩

theorem make2 (kind n : Int) (s : ByteArray) (w : World) (hk : Is64 kind) (hn : Is64 n) (hj : kind % 6 = 2) :
    Calls Try.prog 43 #[.int .i64 kind, .int .i64 n, .string s] w fun e w' => Made e 2 ∧ Below w.heap.size w w' := by
  have h : (kind.tdiv 6) % 8 = 0 ∨ (kind.tdiv 6) % 8 = 1 ∨ (kind.tdiv 6) % 8 = 2 ∨ (kind.tdiv 6) % 8 = 3 ∨ (kind.tdiv 6) % 8 = 4 ∨ (kind.tdiv 6) % 8 = 5 ∨ (kind.tdiv 6) % 8 = 6 ∨ (kind.tdiv 6) % 8 = 7 := by omega
  rcases h with h | h | h | h | h | h | h | h
  · exact make2_0 kind n s w hk hn hj h
  · exact make2_1 kind n s w hk hn hj h
  · exact make2_2 kind n s w hk hn hj h
  · exact make2_3 kind n s w hk hn hj h
  · exact make2_4 kind n s w hk hn hj h
  · exact make2_5 kind n s w hk hn hj h
  · exact make2_6 kind n s w hk hn hj h
  · exact make2_7 kind n s w hk hn hj h
end Go.Proofs.Ytliefgkhpgigaaa
