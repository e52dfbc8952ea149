/-
  Numbers as bytes, the highest first: what package key's appendNumber appends.
-/
import Derived.Test.YtbpjejjbgdikdaaS0
import Derived.RangeFuncNested
import Derived.RangeFuncBox
import Derived.RangeFuncBound
import Derived.RangeFuncCalls
import Derived.RangeFuncLeaves
import Derived.Shelf.Abstract
import Derived.Shelf.RegionOpen
import Derived.WalkKit
import Derived.OwnWalkIn
import Derived.TacticsInMore
import Derived.LoopNIn
import Derived.LoopIn
import Derived.Maps.AppendAt
namespace Go.Proofs.Ytbpjejjbgdikdaa
open Go.RowKit Go.Shelf
set_option linter.unusedSimpArgs false
set_option linter.unusedVariables false
attribute [local go_sem] Oper.semAt_some

/-- the bytes of a number of m + 8 bits, the highest first: k of them -/
def beK (m : Nat) (x : Int) (k : Nat) : List Int := (List.range k).map (fun i => x / 2 ^ (m - 8 * i) % 256)
theorem beK_succ (m : Nat) (x : Int) (k : Nat) : beK m x (k + 1) = beK m x k ++ [x / 2 ^ (m - 8 * k) % 256] := by simp [beK, List.range_succ]
theorem beK_len (m : Nat) (x : Int) (k : Nat) : (beK m x k).length = k := by simp [beK]
theorem beK_bd (m : Nat) (x : Int) (k : Nat) : ∀ y ∈ beK m x k, 0 ≤ y ∧ y < 256 := by
  intro y hy
  simp [beK] at hy
  obtain ⟨i, _, rfl⟩ := hy
  omega

theorem grownBy_mono {W W' : World} {row : Option Nat} (h : W.grownBy W' none) : W.grownBy W' row := ⟨h.os, h.tape, h.output, h.size, fun k hk _ => h.block k hk (by simp)⟩
theorem info_byte : (Try.prog.info? 5).map (fun i => (i.zero, i.size, i.bytes)) = some (some (.int .u8 0), 1, 1) := by kernel_rfl

/-- what a round keeps: the variable's box -/
def Kpb64 (Bn : Nat) (x : Int) (A B : World) : Prop := Boxed A Bn 68 (.int .u64 x) → Boxed B Bn 68 (.int .u64 x)

set_option maxRecDepth 100000 in
set_option maxHeartbeats 1000000 in
theorem hfc64_in (n : Nat) (hn : 1 ≤ n) (l Bn : Nat) (x : Int) (hx : 0 ≤ x ∧ x < 2 ^ 64) (J Jx : List Int → World → Prop)
    (hY : ∀ pre y W, J pre W → pre.length < 8 → YieldAt Fence.wide (n - 1) Try.prog l #[.int .u8 y] W fun e W' =>
      (e = .returned (.bool true) ∧ J (pre ++ [y]) W' ∧ Kpb64 Bn x W W') ∨ (e = .returned (.bool false) ∧ Jx (pre ++ [y]) W'))
    (W : World) (hB : Boxed W Bn 68 (.int .u64 x)) (h0 : J [] W) :
    CallsIn Fence.wide n Try.prog 68 #[.func (.yield l) #[] #[], .pointer (some ⟨Bn, 0, none⟩)] W fun e W' => (∃ v, e = .returned v) ∧
      ((∃ ys, ys = beK 56 x 8 ∧ J ys W') ∨ (∃ pre, True ∧ Jx pre W')) := by
  refine callsIn_of_wp Try.func68 rfl trivial ?_ rfl
  simp only [Try.ntmps68, List.size_toArray, List.length_cons, List.length_nil, Nat.reduceAdd, Nat.reduceSub, Array.replicate_succ, Array.replicate_zero, List.push_toArray, List.append_toArray, List.nil_append, List.cons_append]
  gi_wp2_with (refine ⟨trivial, ?_⟩; gi_at_call 62; refine (callsIn_wide.2 (wid64_any _)).mono ?_; rintro e w' ⟨rfl, rfl⟩)
  gi_loopw [3] (fun p wr => ∃ k : Nat, k ≤ 8 ∧ p = .int .i64 (56 - 8 * (k : Int)) ∧ (k < 8 → Boxed wr Bn 68 (.int .u64 x)) ∧ J (beK 56 x k) wr)
    (fun p wr => (intOf p + 8).toNat)
  case atStart =>
    exact ⟨0, by omega, rfl, fun _ => hB, h0⟩
  case round =>
    obtain ⟨k, hk, rfl, hbx, hJs⟩ := hrel
    by_cases h8 : k < 8
    · have hb := hbx h8
      have hc := hb.cell
      have h1 : 0 ≤ 56 - 8 * (k : Int) := by omega
      skip
      obtain ⟨fn, tmps, assign, body, hy, hR⟩ := hY (beK 56 x k) (x / 2 ^ (56 - 8 * k) % 256) wr hJs (by rw [beK_len]; exact h8)
      gi_wp2
      refine hR.mono ?_
      rintro e W3 (⟨rfl, hJ3, hk3⟩ | ⟨rfl, hJx3⟩)
      · gi_wp2
        go_roundw
        case rel => exact ⟨k + 1, by omega, by go_num, fun _ => hk3 hb, by rw [beK_succ]; exact hJ3⟩
        case measure => simp [intOf]; omega
      · gi_wp2
        refine bodyPost_ret (results_none rfl _ _ _) rfl ?_
        exact ⟨⟨_, rfl⟩, .inr ⟨_, trivial, hJx3⟩⟩
    · obtain rfl : k = 8 := by omega
      gi_wp2
      go_end0
      exact ⟨⟨_, rfl⟩, .inl ⟨_, rfl, hJs⟩⟩

set_option maxHeartbeats 1000000 in
theorem hf64_in (n : Nat) (x : Int) (w : World) :
    CallsIn Fence.wide n Try.prog 57 #[.int .u64 x] w fun e w' => e = .returned (.func (.func 68) #[] #[.pointer (some ⟨w.heap.size, 0, none⟩)]) ∧ w' = w.alloc (.cells #[.int .u64 x] 68) := by
  refine callsIn_of_wp Try.func57 rfl trivial ?_ rfl
  simp only [Try.ntmps57, List.size_toArray, List.length_cons, List.length_nil, Nat.reduceAdd, Nat.reduceSub, Array.replicate_succ, Array.replicate_zero, List.push_toArray, List.append_toArray, List.nil_append, List.cons_append]
  gi_wp2
  go_ret
  exact ⟨rfl, rfl⟩

theorem hf64_stops (n : Nat) (hn : 1 ≤ n) (Bn : Nat) (x : Int) (hx : 0 ≤ x ∧ x < 2 ^ 64) (w : World) (hB : Boxed w Bn 68 (.int .u64 x)) :
    SeqStopsK Fence.wide n Try.prog 68 #[.pointer (some ⟨Bn, 0, none⟩)] (fun y : Int => #[Value.int .u8 y]) (Kpb64 Bn x) (fun ys => ys = beK 56 x 8) (fun _ => True) 8 w := fun l J Jx W hW _ _ hY h0 =>
  hfc64_in n hn l Bn x hx J Jx hY W ((hW.block Bn hB.lt).trans hB) h0

/-- what a round keeps: the variable's box -/
def Kpb32 (Bn : Nat) (x : Int) (A B : World) : Prop := Boxed A Bn 70 (.int .u32 x) → Boxed B Bn 70 (.int .u32 x)

set_option maxRecDepth 100000 in
set_option maxHeartbeats 1000000 in
theorem hfc32_in (n : Nat) (hn : 1 ≤ n) (l Bn : Nat) (x : Int) (hx : 0 ≤ x ∧ x < 2 ^ 32) (J Jx : List Int → World → Prop)
    (hY : ∀ pre y W, J pre W → pre.length < 4 → YieldAt Fence.wide (n - 1) Try.prog l #[.int .u8 y] W fun e W' =>
      (e = .returned (.bool true) ∧ J (pre ++ [y]) W' ∧ Kpb32 Bn x W W') ∨ (e = .returned (.bool false) ∧ Jx (pre ++ [y]) W'))
    (W : World) (hB : Boxed W Bn 70 (.int .u32 x)) (h0 : J [] W) :
    CallsIn Fence.wide n Try.prog 69 #[.func (.yield l) #[] #[], .pointer (some ⟨Bn, 0, none⟩)] W fun e W' => (∃ v, e = .returned v) ∧
      ((∃ ys, ys = beK 24 x 4 ∧ J ys W') ∨ (∃ pre, True ∧ Jx pre W')) := by
  refine callsIn_of_wp Try.func69 rfl trivial ?_ rfl
  simp only [Try.ntmps69, List.size_toArray, List.length_cons, List.length_nil, Nat.reduceAdd, Nat.reduceSub, Array.replicate_succ, Array.replicate_zero, List.push_toArray, List.append_toArray, List.nil_append, List.cons_append]
  gi_wp2_with (refine ⟨trivial, ?_⟩; gi_at_call 70; refine (callsIn_wide.2 (wid32_any _)).mono ?_; rintro e w' ⟨rfl, rfl⟩)
  gi_loopw [3] (fun p wr => ∃ k : Nat, k ≤ 4 ∧ p = .int .i64 (24 - 8 * (k : Int)) ∧ (k < 4 → Boxed wr Bn 70 (.int .u32 x)) ∧ J (beK 24 x k) wr)
    (fun p wr => (intOf p + 8).toNat)
  case atStart =>
    exact ⟨0, by omega, rfl, fun _ => hB, h0⟩
  case round =>
    obtain ⟨k, hk, rfl, hbx, hJs⟩ := hrel
    by_cases h8 : k < 4
    · have hb := hbx h8
      have hc := hb.cell
      have h1 : 0 ≤ 24 - 8 * (k : Int) := by omega
      skip
      obtain ⟨fn, tmps, assign, body, hy, hR⟩ := hY (beK 24 x k) (x / 2 ^ (24 - 8 * k) % 256) wr hJs (by rw [beK_len]; exact h8)
      gi_wp2
      refine hR.mono ?_
      rintro e W3 (⟨rfl, hJ3, hk3⟩ | ⟨rfl, hJx3⟩)
      · gi_wp2
        go_roundw
        case rel => exact ⟨k + 1, by omega, by go_num, fun _ => hk3 hb, by rw [beK_succ]; exact hJ3⟩
        case measure => simp [intOf]; omega
      · gi_wp2
        refine bodyPost_ret (results_none rfl _ _ _) rfl ?_
        exact ⟨⟨_, rfl⟩, .inr ⟨_, trivial, hJx3⟩⟩
    · obtain rfl : k = 4 := by omega
      gi_wp2
      go_end0
      exact ⟨⟨_, rfl⟩, .inl ⟨_, rfl, hJs⟩⟩

set_option maxHeartbeats 1000000 in
theorem hf32_in (n : Nat) (x : Int) (w : World) :
    CallsIn Fence.wide n Try.prog 59 #[.int .u32 x] w fun e w' => e = .returned (.func (.func 69) #[] #[.pointer (some ⟨w.heap.size, 0, none⟩)]) ∧ w' = w.alloc (.cells #[.int .u32 x] 70) := by
  refine callsIn_of_wp Try.func59 rfl trivial ?_ rfl
  simp only [Try.ntmps59, List.size_toArray, List.length_cons, List.length_nil, Nat.reduceAdd, Nat.reduceSub, Array.replicate_succ, Array.replicate_zero, List.push_toArray, List.append_toArray, List.nil_append, List.cons_append]
  gi_wp2
  go_ret
  exact ⟨rfl, rfl⟩

theorem hf32_stops (n : Nat) (hn : 1 ≤ n) (Bn : Nat) (x : Int) (hx : 0 ≤ x ∧ x < 2 ^ 32) (w : World) (hB : Boxed w Bn 70 (.int .u32 x)) :
    SeqStopsK Fence.wide n Try.prog 69 #[.pointer (some ⟨Bn, 0, none⟩)] (fun y : Int => #[Value.int .u8 y]) (Kpb32 Bn x) (fun ys => ys = beK 24 x 4) (fun _ => True) 4 w := fun l J Jx W hW _ _ hY h0 =>
  hfc32_in n hn l Bn x hx J Jx hY W ((hW.block Bn hB.lt).trans hB) h0

/-- what a round keeps: the variable's box -/
def Kpb8 (Bn : Nat) (x : Int) (A B : World) : Prop := True

set_option maxRecDepth 100000 in
set_option maxHeartbeats 1000000 in
theorem hfc8_in (n : Nat) (hn : 1 ≤ n) (l Bn : Nat) (x : Int) (hx : 0 ≤ x ∧ x < 2 ^ 8) (J Jx : List Int → World → Prop)
    (hY : ∀ pre y W, J pre W → pre.length < 1 → YieldAt Fence.wide (n - 1) Try.prog l #[.int .u8 y] W fun e W' =>
      (e = .returned (.bool true) ∧ J (pre ++ [y]) W' ∧ Kpb8 Bn x W W') ∨ (e = .returned (.bool false) ∧ Jx (pre ++ [y]) W'))
    (W : World) (hB : Boxed W Bn 5 (.int .u8 x)) (h0 : J [] W) :
    CallsIn Fence.wide n Try.prog 67 #[.func (.yield l) #[] #[], .pointer (some ⟨Bn, 0, none⟩)] W fun e W' => (∃ v, e = .returned v) ∧
      ((∃ ys, ys = beK 0 x 1 ∧ J ys W') ∨ (∃ pre, True ∧ Jx pre W')) := by
  refine callsIn_of_wp Try.func67 rfl trivial ?_ rfl
  simp only [Try.ntmps67, List.size_toArray, List.length_cons, List.length_nil, Nat.reduceAdd, Nat.reduceSub, Array.replicate_succ, Array.replicate_zero, List.push_toArray, List.append_toArray, List.nil_append, List.cons_append]
  gi_wp2_with (refine ⟨trivial, ?_⟩; gi_at_call 61; refine (callsIn_wide.2 (wid8_any _)).mono ?_; rintro e w' ⟨rfl, rfl⟩)
  gi_loopw [3] (fun p wr => ∃ k : Nat, k ≤ 1 ∧ p = .int .i64 (0 - 8 * (k : Int)) ∧ (k < 1 → Boxed wr Bn 5 (.int .u8 x)) ∧ J (beK 0 x k) wr)
    (fun p wr => (intOf p + 8).toNat)
  case atStart =>
    exact ⟨0, by omega, rfl, fun _ => hB, h0⟩
  case round =>
    obtain ⟨k, hk, rfl, hbx, hJs⟩ := hrel
    by_cases h8 : k < 1
    · have hb := hbx h8
      have hc := hb.cell
      have h1 : 0 ≤ 0 - 8 * (k : Int) := by omega
      obtain rfl : k = 0 := by omega
      have e0 : Hid (x / 2 ^ (0 - 8 * 0) % 256 = x) := by show _ = _; simp; omega
      obtain ⟨fn, tmps, assign, body, hy, hR⟩ := hY (beK 0 x 0) (x) wr hJs (by rw [beK_len]; exact h8)
      gi_wp2
      refine hR.mono ?_
      rintro e W3 (⟨rfl, hJ3, hk3⟩ | ⟨rfl, hJx3⟩)
      · gi_wp2
        go_roundw
        case rel => exact ⟨0 + 1, by omega, by go_num, fun h => absurd h (by omega), by rw [beK_succ, e0.out]; exact hJ3⟩
        case measure => simp [intOf]
      · gi_wp2
        refine bodyPost_ret (results_none rfl _ _ _) rfl ?_
        exact ⟨⟨_, rfl⟩, .inr ⟨_, trivial, hJx3⟩⟩
    · obtain rfl : k = 1 := by omega
      gi_wp2
      go_end0
      exact ⟨⟨_, rfl⟩, .inl ⟨_, rfl, hJs⟩⟩

set_option maxHeartbeats 1000000 in
theorem hf8_in (n : Nat) (x : Int) (w : World) :
    CallsIn Fence.wide n Try.prog 56 #[.int .u8 x] w fun e w' => e = .returned (.func (.func 67) #[] #[.pointer (some ⟨w.heap.size, 0, none⟩)]) ∧ w' = w.alloc (.cells #[.int .u8 x] 5) := by
  refine callsIn_of_wp Try.func56 rfl trivial ?_ rfl
  simp only [Try.ntmps56, List.size_toArray, List.length_cons, List.length_nil, Nat.reduceAdd, Nat.reduceSub, Array.replicate_succ, Array.replicate_zero, List.push_toArray, List.append_toArray, List.nil_append, List.cons_append]
  gi_wp2
  go_ret
  exact ⟨rfl, rfl⟩

theorem hf8_stops (n : Nat) (hn : 1 ≤ n) (Bn : Nat) (x : Int) (hx : 0 ≤ x ∧ x < 2 ^ 8) (w : World) (hB : Boxed w Bn 5 (.int .u8 x)) :
    SeqStopsK Fence.wide n Try.prog 67 #[.pointer (some ⟨Bn, 0, none⟩)] (fun y : Int => #[Value.int .u8 y]) (Kpb8 Bn x) (fun ys => ys = beK 0 x 1) (fun _ => True) 1 w := fun l J Jx W hW _ _ hY h0 =>
  hfc8_in n hn l Bn x hx J Jx hY W ((hW.block Bn hB.lt).trans hB) h0
end Go.Proofs.Ytbpjejjbgdikdaa
