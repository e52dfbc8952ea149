/-
  The law CmdSizes' own free; how many bytes commands have.
-/
import Derived.Test.YtjmmfgmmmdbenaaCN3
namespace Go.Proofs.Ytjmmfgmmmdbenaa
open Go.RowKit
set_option linter.unusedSimpArgs false
set_option linter.unusedVariables false

set_option maxRecDepth 100000 in
set_option maxHeartbeats 1000000 in
theorem free7_any (n0 : Nat) (h0 : n0 ≤ 9223372036854775807) (w : World) : Calls Try.prog 23 #[.int .i64 (n0 : Int)] w fun e w' => e = .returned (.int .i64 ((sh n0).length : Int)) ∧ w' = w := by
  have hl0 := sh_len9 n0 h0
  have H0 := hide h0
  clear h0
  go_enter Try.func23, Try.ntmps23
  go_wp2
  go_loopw [0, 3] (fun x k wr => ∃ n j : Nat, x = .int .i64 (n : Int) ∧ k = .int .i64 (j : Int) ∧ Hid (n ≤ 9223372036854775807) ∧ j + (sh n).length = 1 + (sh n0).length ∧ wr = w) (fun x k wr => (intOf x).toNat)
  case atStart => exact ⟨n0, 1, rfl, rfl, H0, rfl, by first | trivial | rfl⟩
  case round =>
    obtain ⟨n, j, rfl, rfl, HN, hj, rfl⟩ := hrel
    by_cases h : n < 128
    · have hni : (n : Int) < 128 := by omega
      have h1 : (sh n).length = 1 := by rw [sh_lt h]; rfl
      go_wp2
      go_ret
      exact ⟨ret_int (by omega), rfl⟩
    · have hn := unhide HN
      have hni : 128 ≤ (n : Int) := by omega
      have h1 : (sh n).length = 1 + (sh (n / 128)).length := by rw [sh_ge (by omega)]; simp; omega
      have h2 := sh_len9 n hn
      have h3 := sh_pos (n / 128)
      have hd : IntKind.i64.wrap ((n : Int) / 128) = ((n / 128 : Nat) : Int) := (IntWalk.i64_in _ (by omega)).trans (by omega)
      have h4 := hide (show n / 128 ≤ 9223372036854775807 by omega)
      have hj9 : (j : Int) ≤ 20 := by omega
      clear hn
      go_wp2
      go_roundw
      case rel => exact ⟨n / 128, j + 1, by go_num, by go_num, h4, by omega, by first | trivial | rfl⟩
      case measure => simp [intOf] <;> omega
theorem wr1_is (x : Wt) : (wr1 x).length = 5 + x.k.size + x.v.size := by
  unfold wr1 tx fx2
  simp only [List.length_append, fx_len, by8_len, fl, List.length_cons, List.length_nil]; omega
theorem wr2_is (x : Wt) : (wr2 x).length = 1 + (sh x.k.size).length + x.k.size + (if x.g then 0 else (sh x.v.size).length + x.v.size) := by
  unfold wr2 tx
  cases x.g <;> simp [by8_len, fl] <;> omega
theorem enc1_long (c : Cm) : (enc 1 c).length = 21 + (c.ws.flatMap wr1).length := by
  unfold enc enc1 ls fx2
  simp only [if_true, List.length_cons, List.length_append, fx_len, fl, List.length_nil]; omega
theorem enc2_long (c : Cm) (h : c.text.size ≤ 40) : (enc 2 c).length = 4 + (sh c.id.toNat).length + (sh c.txn.toNat).length + (sh c.ws.length).length + c.text.size + (c.ws.flatMap wr2).length := by
  unfold enc enc2 ls tx shI
  simp only [show ((2 : Int) = 1) = False by simp, if_false, List.length_cons, List.length_append, fx_len, fl, List.length_nil, by8_len]
  have : (sh c.text.size).length = 1 := by rw [sh_lt (by omega)]; rfl
  omega
end Go.Proofs.Ytjmmfgmmmdbenaa
