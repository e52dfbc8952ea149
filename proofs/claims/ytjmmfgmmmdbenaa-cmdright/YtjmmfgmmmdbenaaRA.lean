/-
  The reference's fixed, free, bit, Right.
-/
import Derived.Test.YtjmmfgmmmdbenaaCN3
namespace Go.Proofs.Ytjmmfgmmmdbenaa
open Go.RowKit
set_option linter.unusedSimpArgs false
set_option linter.unusedVariables false

set_option maxRecDepth 100000 in
set_option maxHeartbeats 2000000 in
theorem rfixed_any (s : Nat) (n : Int) (W : World) (base : Nat) (v : Value) (xs : List UInt8) (hs : s ≤ 8) (hn : Is64 n)
    (hown : OwnB W base v xs) (hbase : base ≤ W.heap.size) (hlen : xs.length ≤ 1099511627776) :
    Calls Try.prog 40 #[v, .int .i64 n, .int .i64 (s : Int)] W fun e W' => ∃ v', e = .returned v' ∧ OwnB W' base v' (xs ++ fx s n) ∧ KeepB W W' v v' := by
  have e1 : IntKind.i64.wrap ((s : Int) - 1) = (s : Int) - 1 := IntWalk.i64_in _ (by omega)
  go_enter Try.func40, Try.ntmps40
  go_wp2
  go_loopw [0, 7] (fun u i wr => ∃ k : Nat, k ≤ s ∧ i = .int .i64 ((k : Int) - 1) ∧ ∃ ys, OwnB wr base u ys ∧ Hid (ys ++ fx k n = xs ++ fx s n) ∧ KeepB W wr v u ∧ ys.length ≤ xs.length + (s - k))
    (fun u i wr => (intOf i + 1).toNat)
  case atStart => exact ⟨s, Nat.le_refl _, rfl, xs, hown, rfl, KeepB.refl _ _, by omega⟩
  case round =>
    obtain ⟨k, hk, rfl, ys, hrow, hys, hK, hyl⟩ := hrel
    have hszz := hK.grown.size
    by_cases h0 : k = 0
    · subst h0
      go_wp2
      go_ret
      refine ⟨_, rfl, ?_, hK⟩
      have := hys.out
      simp [fx] at this
      rw [← this]; exact hrow
    · obtain ⟨j, rfl⟩ : ∃ j, k = j + 1 := ⟨k - 1, by omega⟩
      have hw8 : IntKind.i64.wrap (8 * (j : Int)) = ((8 * j : Nat) : Int) := (IntWalk.i64_in _ (by omega)).trans (by omega)
      go_wp2_with (at_builtin; refine wpList_app1 rfl _ _ rfl wr (bt (n / 2 ^ (8 * j))) _ (bt_nat _).symm base _ ys hrow rfl rfl (by omega) (by omega) ?_; intro g cap w1 hown1 hK1)
      go_roundw
      case rel => exact ⟨j, by omega, by go_num, _, hown1, by show _ = _; rw [← hys.out]; simp [fx], hK.trans hK1, by simp; omega⟩
      case measure => simp [intOf] <;> omega
set_option maxRecDepth 100000 in
set_option maxHeartbeats 2000000 in
theorem rfree_any (n0 : Nat) (W : World) (base : Nat) (v : Value) (xs : List UInt8) (hn0 : n0 ≤ 9223372036854775807)
    (hown : OwnB W base v xs) (hbase : base ≤ W.heap.size) (hlen : xs.length ≤ 1099511627776) :
    Calls Try.prog 42 #[v, .int .i64 (n0 : Int)] W fun e W' => ∃ v', e = .returned v' ∧ OwnB W' base v' (xs ++ sh n0) ∧ KeepB W W' v v' := by
  have hl0 := sh_len9 n0 hn0
  have HN0 := hide hn0
  clear hn0
  go_enter Try.func42, Try.ntmps42
  go_wp2
  go_loopw [0, 1] (fun u i wr => ∃ n : Nat, i = .int .i64 (n : Int) ∧ Hid (n ≤ 9223372036854775807) ∧ ∃ ys, OwnB wr base u ys ∧ Hid (ys ++ sh n = xs ++ sh n0) ∧ KeepB W wr v u ∧ ys.length + (sh n).length = xs.length + (sh n0).length)
    (fun u i wr => (intOf i).toNat)
  case atStart => exact ⟨n0, rfl, HN0, xs, hown, rfl, KeepB.refl _ _, rfl⟩
  case round =>
    obtain ⟨n, rfl, HN, ys, hrow, hys, hK, hyl⟩ := hrel
    have hszz := hK.grown.size
    by_cases h : n < 128
    · have hni : (n : Int) < 128 := by omega
      have hb : Hid ((n : Int) = ((UInt8.ofNat n).toNat : Int)) := by show _ = _; rw [u8_ofNat (by omega)]
      have hu8 : IntKind.u8.wrap (n : Int) = (n : Int) := by show (n : Int) % 256 = _; omega
      go_wp2_with (at_builtin; refine wpList_app1 rfl _ _ rfl wr (UInt8.ofNat n) _ hb.out base _ ys hrow rfl rfl (by omega) (by omega) ?_; intro g cap w1 hown1 hK1)
      go_ret
      refine ⟨_, rfl, ?_, hK.trans hK1⟩
      have hh := hys.out
      rw [sh_lt h] at hh
      rw [← hh]
      simpa using hown1
    · have hni : 128 ≤ (n : Int) := by omega
      have hn := unhide HN
      have h1 : (sh n).length = 1 + (sh (n / 128)).length := by rw [sh_ge (by omega)]; simp; omega
      have hge := hide (sh_ge (n := n) (by omega))
      have h4 := hide (show n / 128 ≤ 9223372036854775807 by omega)
      have hor : Hid (((n % 128 : Nat) : Int) + 128 = ((UInt8.ofNat (n % 128 + 128)).toNat : Int)) := by
        show _ = _
        rw [u8_ofNat (by omega)]; omega
      have hd : IntKind.i64.wrap ((n : Int) / 128) = ((n / 128 : Nat) : Int) := (IntWalk.i64_in _ (by omega)).trans (by omega)
      clear hn
      go_wp2_with (at_builtin; refine wpList_app1 rfl _ _ rfl wr (UInt8.ofNat (n % 128 + 128)) _ (by first | exact hor.out | (have := hor.out; omega)) base _ ys hrow rfl rfl (by omega) (by omega) ?_; intro g cap w1 hown1 hK1)
      go_roundw
      case rel => exact ⟨n / 128, by go_num, h4, ys ++ [UInt8.ofNat (n % 128 + 128)], by simpa using hown1, by show _ = _; rw [← hys.out, unhide hge]; simp, hK.trans hK1, by simp; omega⟩
      case measure => simp [intOf] <;> omega
set_option maxHeartbeats 400000 in
theorem rbit_any (b : Bool) (w : World) : Calls Try.prog 41 #[.bool b] w fun e w' => e = .returned (.int .u8 (if b then 1 else 0)) ∧ w' = w := by
  cases b
  all_goals
    go_enter Try.func41, Try.ntmps41
    go_wp2
    go_ret
    exact ⟨rfl, rfl⟩
end Go.Proofs.Ytjmmfgmmmdbenaa
