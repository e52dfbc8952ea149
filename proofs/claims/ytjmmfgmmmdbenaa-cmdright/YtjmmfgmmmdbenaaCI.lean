/-
  The statements' within, known; the reference's Same of commands without writes.
-/
import Derived.Test.YtjmmfgmmmdbenaaCG
namespace Go.Proofs.Ytjmmfgmmmdbenaa
open Go.RowKit
set_option linter.unusedSimpArgs false
set_option linter.unusedVariables false

theorem tmod_lt7 (a n : Int) (hn : 0 < n) (h : a.tmod n < 0) : a.tmod n + n = a % n ∧ -n < a.tmod n := by
  have h1 := Int.tmod_eq_emod (a := a) (b := n)
  have h2 := Int.emod_nonneg a (show n ≠ 0 by omega)
  have h3 := Int.emod_lt_of_pos a hn
  rw [h1] at h ⊢
  split at h <;> rename_i hc
  · omega
  · rw [if_neg hc]; constructor <;> omega
theorem tmod_ge7 (a n : Int) (hn : 0 < n) (h : 0 ≤ a.tmod n) : a.tmod n = a % n := by
  have h1 := Int.tmod_eq_emod (a := a) (b := n)
  have h2 := Int.emod_nonneg a (show n ≠ 0 by omega)
  have h3 := Int.emod_lt_of_pos a hn
  rw [h1] at h ⊢
  split at h <;> rename_i hc
  · rw [if_pos hc]; omega
  · exfalso; omega
theorem within7_any (x n : Int) (w : World) (hx : Is64 x) (hn : 0 < n ∧ n ≤ 9223372036854775807) :
    Calls Try.prog 15 #[.int .i64 x, .int .i64 n] w fun e w' => e = .returned (.int .i64 (x % n)) ∧ w' = w := by
  have hb := Int.emod_lt_of_pos x hn.1
  have hb' := Int.emod_nonneg x (show n ≠ 0 by omega)
  have hlt := tmod_lt7 x n hn.1
  have hge := tmod_ge7 x n hn.1
  have H1 : Hid (x.tmod n < 0 → x.tmod n + n = x % n ∧ -n < x.tmod n) := hlt
  have H2 : Hid (0 ≤ x.tmod n → x.tmod n = x % n) := hge
  clear hlt hge
  go_enter Try.func15, Try.ntmps15
  go_wp2
  · go_ret
    refine ⟨ret_int ?_, rfl⟩
    have := H1.out ‹_›
    rw [this.1]; exact wrap64_is _ (by unfold Is64; omega)
  · go_ret
    exact ⟨ret_int (H2.out ‹_›), rfl⟩
set_option maxRecDepth 100000 in
set_option maxHeartbeats 2000000 in
theorem writes0_any (w : World) (p q : Option Addr) (m n : Nat) : Calls Try.prog 32 #[.slice p 0 m, .slice q 0 n] w fun e w' => e = .returned (.bool true) ∧ w' = w := by
  go_enter Try.func32, Try.ntmps32
  go_wp2
  go_loopw [5] (fun i wr => i = .int .i64 0 ∧ wr = w) (fun i wr => 0)
  case atStart => exact ⟨rfl, rfl⟩
  case round =>
    obtain ⟨rfl, rfl⟩ := hrel
    go_wp2
    go_ret
    exact ⟨rfl, rfl⟩
set_option maxRecDepth 100000 in
set_option maxHeartbeats 4000000 in
theorem same0_any (w : World) (k i t : Int) (b : Bool) (x : ByteArray) (p q : Option Addr) (m n : Nat) : Calls Try.prog 19 #[.agg #[.int .i64 k, .int .i64 i, .int .i64 t, .bool b, .slice p 0 m, .string x], .agg #[.int .i64 k, .int .i64 i, .int .i64 t, .bool b, .slice q 0 n, .string x]] w fun e w' => e = .returned (.bool true) ∧ Below w.heap.size w w' := by
  go_enter Try.func19, Try.ntmps19
  go_wp2_with (go_at_call 32; refine (writes0_any _ p q m n).mono ?_; rintro e W1 ⟨rfl, rfl⟩)
  go_ret
  exact ⟨rfl, (below_new w _).alloc (by simp) _⟩
theorem decode_of (s : ByteArray) (hs : s.size ≤ 1099511627776) (w : World) (f : Int) (d : Cm) (h1 : f = 1 ∨ f = 2) (h2 : okC f d = true) (h3 : d.id ≤ 9223372036854775807) (h4 : d.txn ≤ 9223372036854775807) (h5 : by8 s = enc f d) :
    Calls Try.prog 18 #[.string s] w fun e w' => ∃ p cap, e = .returned (.tuple #[.agg (cmA d (.slice p d.ws.length cap)), .int .i64 f, .bool true]) ∧ w'.ownsRow w.heap.size 40 3 (.slice p d.ws.length cap) d.ws.length (wcells d.ws) ∧ Below w.heap.size w w' := by
  refine (decode_any s hs w (some (f, d)) (fun g e h => by injection h with h; injection h with e1 e2; subst e1; subst e2; exact ⟨h1, h2, h3, h4, h5⟩)).mono ?_
  rintro e W' ⟨c, v, g, is, rfl, hrow, _, _, hq, hb⟩
  obtain ⟨rfl, rfl, rfl⟩ := hq _ _ rfl
  obtain ⟨p, cap, rfl⟩ := row_slice hrow
  exact ⟨p, cap, rfl, hrow, hb⟩
theorem decode_none (s : ByteArray) (hs : s.size ≤ 1099511627776) (w : World) (h : ∀ f c, (f = 1 ∨ f = 2) → okC f c = true → CQf f c → by8 s = enc f c → False) :
    Calls Try.prog 18 #[.string s] w fun e w' => e = .returned (.tuple #[.agg (cmA zC (.slice none 0 0)), .int .i64 0, .bool false]) ∧ Below w.heap.size w w' := by
  refine (decode_any s hs w none (fun g e h => by cases h)).mono ?_
  rintro e W' ⟨c, v, g, is, rfl, hrow, hno, hyes, _, hb⟩
  cases is
  · obtain ⟨rfl, rfl, rfl⟩ := hno rfl
    exact ⟨rfl, hb⟩
  · obtain ⟨a1, a2, a3, a4⟩ := hyes rfl
    exact (h g c a1 a3 a2 a4).elim
theorem up_of (s : ByteArray) (hs : s.size ≤ 1099511627776) (w : World) (f : Int) (d : Cm) (h1 : f = 1 ∨ f = 2) (h2 : okC f d = true) (h3 : d.id ≤ 9223372036854775807) (h4 : d.txn ≤ 9223372036854775807) (h5 : by8 s = enc f d) :
    Calls Try.prog 21 #[.string s] w fun e w' => e = .returned (.tuple #[.string (encS 2 d), .bool true]) ∧ Below w.heap.size w w' := by
  refine (up_any s hs w (some (f, d)) (fun g e h => by injection h with h; injection h with e1 e2; subst e1; subst e2; exact ⟨h1, h2, h3, h4, h5⟩)).mono ?_
  rintro e W' ⟨c, g, is, rfl, _, hq, hb⟩
  obtain ⟨rfl, rfl, rfl⟩ := hq _ _ rfl
  exact ⟨rfl, hb⟩
theorem encS_by8 {f : Int} {c : Cm} (h : okC f c = true) : by8 (encS f c) = enc f c := by
  unfold encS; rw [if_pos h]
theorem encS_no {f : Int} {c : Cm} (h : okC f c = false) : encS f c = ⟨#[]⟩ := by
  unfold encS; rw [h]; rfl
theorem wsv_nil (W : World) : WsV none [] W := ⟨0, 0, fun h => absurd rfl h, fun i hi => absurd hi (by simp)⟩
theorem enc_cons (f : Int) (c : Cm) : ∃ a l, enc f c = a :: l := by
  unfold enc enc1 enc2
  split
  · exact ⟨_, _, rfl⟩
  · exact ⟨_, _, rfl⟩
abbrev c1 : Cm := ⟨1, 300, 3, false, [], E0⟩
abbrev c5 : Cm := ⟨5, 0, 0, false, [], E0⟩
theorem fine_of {k i t : Int} {b : Bool} (hk : Is64 k) (hi : Is64 i) (ht : Is64 t) : Fine ⟨k, i, t, b, [], E0⟩ :=
  ⟨hk, hi, ht, by simp, by simp, (by decide : (0 : Nat) ≤ 1073741824)⟩
end Go.Proofs.Ytjmmfgmmmdbenaa
