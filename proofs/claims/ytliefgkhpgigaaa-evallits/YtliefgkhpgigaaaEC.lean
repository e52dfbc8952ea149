/-
  The passes through package eval's fold of ints, from its labels.
-/
import Derived.Test.YtliefgkhpgigaaaEB
namespace Go.Proofs.Ytliefgkhpgigaaa
open Go.RowKit
set_option linter.unusedSimpArgs false
set_option linter.unusedVariables false

set_option maxHeartbeats 400000 in
set_option maxRecDepth 100000 in
theorem pass0 (f : Ex → Int → Int → Int × Int) (Pd : Ex → Prop) (bt : Nat) (e0 : Ex) (lv0 : Value) (w : World) (n : Nat) (a : Act) (W : World) (r0 c : Code) (hc : Try.f36.body = some (.seq r0 (.scope c)))
    (fall : Hid (∀ l' n' a' w', n' < n → J36 w bt e0 lv0 Pd f l' n' a' w' → ∀ rest, findLabel c l' = some (.seq .skip rest) → rest.wp Try.prog (Exit.jumps (fun l' a' w' => ∃ n', n' < n ∧ J36 w bt e0 lv0 Pd f l' n' a' w') (PQ f e0 w)) a' w'))
    (hJ : J36 w bt e0 lv0 Pd f 0 n a W) : ∃ rest, findLabel c 0 = some (.seq .skip rest) ∧ rest.wp Try.prog (Exit.jumps (fun l' a' w' => ∃ n', n' < n ∧ J36 w bt e0 lv0 Pd f l' n' a' w') (PQ f e0 w)) a W := by
  obtain ⟨i0, hi, hz0, hz1, hz2⟩ := infoParts info_stepI
  obtain ⟨st, v, xc, u, rfl, hS, (⟨-, hK, e, lv, rfl, hRe, hPe, hDe, hU, hn⟩ | ⟨h, _⟩)⟩ := hJ
  · unfold Try.f36 at hc
    cases hc
    refine ⟨_, rfl, ?_⟩
    obtain ⟨lp, lm, lc, rfl⟩ := rep_slice hRe
    have x0 := hS.cellx 0
    have x1 := hS.cellx 1
    have x2 := hS.cellx 2
    have x3 := hS.cellx 3
    have x4 := hS.cellx 4
    have x5 := hS.cellx 5
    have x6 := hS.cellx 6
    simp at x0 x1 x2 x3 x4 x5 x6
    have hsz := hS.size
    have hrow := hS.row
    have HS := hide hS
    clear hS
    go_wp2_with (at_builtin; refine wpList_append_lies _ rfl _ _ 98 rfl (w.heap.size + 1) 101 i0 _ 10 112 Try.underlying98 hi hz0 hz1 hz2 rfl (by decide) v _ _ rfl (hrow.alloc _) ⟨W.heap.size, 0, none⟩ 1 1 (frC ⟨e, .slice lp lm lc, 0, 0, 0⟩) rfl rfl (cells_new10 W _ _ _ _ _ _ _ _ _ _ _) (by simp [Value.oneCell']) (by decide) (by unfold maxLen; omega) (by omega) (by simp; omega) _ rfl ?_; intro g cap w1 hown hgrow hat hg9)
    rename_i hrest
    go_step3
    refine hrest _ _ ?_
    clear hrest
    have hrs := rem_start (T := Int) 0 e (.slice lp lm lc)
    refine unhide fall 1 (Fr.remTop (⟨e, .slice lp lm lc, 0, 0, 0⟩ : Fr Int) + (st.map Fr.rem).sum) _ _ (by omega) ?_ _ (by kernel_rfl)
    refine J36.intro _ (st ++ [⟨e, .slice lp lm lc, 0, 0, 0⟩]) _ _ rfl ((unhide HS).push hown hgrow hRe hPe hDe) (.inr ⟨rfl, st, _, rfl, hK, ?_, rfl⟩)
    rw [cont_start]; exact hU
  · cases h
end Go.Proofs.Ytliefgkhpgigaaa
