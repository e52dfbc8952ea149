/-
  The statements' within; six cells that are set.
-/
import Derived.Test.YtjmmfgmmmdbenaaCX0
namespace Go.Proofs.Ytjmmfgmmmdbenaa
open Go.RowKit
set_option linter.unusedSimpArgs false
set_option linter.unusedVariables false

theorem tmod_lt7 (a n : Int) (hn : 0 < n) (h : a.tmod n < 0) : a.tmod n + n = a % n ∧ -n < a.tmod n := by
  have h1 := Int.tmod_eq_emod (a := a) (b := n)
  have h2 := Int.emod_nonneg a (show n ≠ 0 by omega)
  have h3 := Int.emod_lt_of_pos a hn
  rw [h1] at h ⊢
  split at h <;> rename_i hc
  · omega
  · rw [if_neg hc]; constructor <;> omega
theorem tmod_ge7 (a n : Int) (hn : 0 < n) (h : 0 ≤ a.tmod n) : a.tmod n = a % n := by
  have h1 := Int.tmod_eq_emod (a := a) (b := n)
  have h2 := Int.emod_nonneg a (show n ≠ 0 by omega)
  have h3 := Int.emod_lt_of_pos a hn
  rw [h1] at h ⊢
  split at h <;> rename_i hc
  · rw [if_pos hc]; omega
  · exfalso; omega
theorem within7_any (x n : Int) (w : World) (hx : Is64 x) (hn : 0 < n ∧ n ≤ 9223372036854775807) :
    Calls Try.prog 15 #[.int .i64 x, .int .i64 n] w fun e w' => e = .returned (.int .i64 (x % n)) ∧ w' = w := by
  have hb := Int.emod_lt_of_pos x hn.1
  have hb' := Int.emod_nonneg x (show n ≠ 0 by omega)
  have hlt := tmod_lt7 x n hn.1
  have hge := tmod_ge7 x n hn.1
  have H1 : Hid (x.tmod n < 0 → x.tmod n + n = x % n ∧ -n < x.tmod n) := hlt
  have H2 : Hid (0 ≤ x.tmod n → x.tmod n = x % n) := hge
  clear hlt hge
  go_enter Try.func15, Try.ntmps15
  go_wp2
  · go_ret
    refine ⟨ret_int ?_, rfl⟩
    have := H1.out ‹_›
    rw [this.1]; exact wrap64_is _ (by unfold Is64; omega)
  · go_ret
    exact ⟨ret_int (H2.out ‹_›), rfl⟩
theorem Blk.six {b : Nat} {a0 a1 a2 a3 a4 a5 x0 x1 x2 x3 x4 x5 : Value} {T : TypeId} {W : World} (h : Blk b #[a0, a1, a2, a3, a4, a5] T W) : Blk b #[x0, x1, x2, x3, x4, x5] T ((((((W.setCell ⟨b, 0, none⟩ x0).setCell ⟨b, 1, none⟩ x1).setCell ⟨b, 2, none⟩ x2).setCell ⟨b, 3, none⟩ x3).setCell ⟨b, 4, none⟩ x4).setCell ⟨b, 5, none⟩ x5) := by
  have := (((((h.set 0 x0).set 1 x1).set 2 x2).set 3 x3).set 4 x4).set 5 x5
  exact this
theorem Below.six {n b : Nat} {x0 x1 x2 x3 x4 x5 : Value} {w W : World} (h : Below n w W) (hb : n ≤ b) : Below n w ((((((W.setCell ⟨b, 0, none⟩ x0).setCell ⟨b, 1, none⟩ x1).setCell ⟨b, 2, none⟩ x2).setCell ⟨b, 3, none⟩ x3).setCell ⟨b, 4, none⟩ x4).setCell ⟨b, 5, none⟩ x5) :=
  (((((h.setCell (p := ⟨b, 0, none⟩) hb _).setCell (p := ⟨b, 1, none⟩) hb _).setCell (p := ⟨b, 2, none⟩) hb _).setCell (p := ⟨b, 3, none⟩) hb _).setCell (p := ⟨b, 4, none⟩) hb _).setCell (p := ⟨b, 5, none⟩) hb _
end Go.Proofs.Ytjmmfgmmmdbenaa
