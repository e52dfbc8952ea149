/-
  Small facts on worlds: one cell of a block of four is written; another block's four cells.
-/
import Derived.Test.YtofeecalpofklaaF
namespace Go.Proofs.Ytofeecalpofklaa
open Go.RowKit
set_option linter.unusedSimpArgs false
set_option linter.unusedVariables false

theorem addr_ne {b c i j : Nat} (h : c ≠ b) : (⟨c, i, none⟩ : Addr) ≠ ⟨b, j, none⟩ := by intro e; exact h (by injection e)
theorem four_set0 {b : Nat} {x0 x1 x2 x3 : Value} {W : World} (h : Four b x0 x1 x2 x3 W) (y0 : Value) : Four b y0 x1 x2 x3 (W.setCell ⟨b, 0, none⟩ y0) := by
  obtain ⟨h0, h1, h2, h3, h4, h5, h6, h7, h8⟩ := h
  refine ⟨by simpa using h0, ?_, ?_, ?_, ?_, ?_, ?_, ?_, ?_⟩ <;> go_simp
theorem four_other0 {b c i : Nat} (hne : c ≠ b) {x0 x1 x2 x3 : Value} {W : World} (h : Four b x0 x1 x2 x3 W) (y : Value) : Four b x0 x1 x2 x3 (W.setCell ⟨c, i, none⟩ y) := by
  obtain ⟨h0, h1, h2, h3, h4, h5, h6, h7, h8⟩ := h
  refine ⟨by simpa using h0, ?_, ?_, ?_, ?_, ?_, ?_, ?_, ?_⟩
  · rw [World.cell?_setCell_other _ _ _ _ (addr_ne hne)]; exact h1
  · rw [World.cell?_setCell_other _ _ _ _ (addr_ne hne)]; exact h2
  · rw [World.cell?_setCell_other _ _ _ _ (addr_ne hne)]; exact h3
  · rw [World.cell?_setCell_other _ _ _ _ (addr_ne hne)]; exact h4
  · go_simp
  · go_simp
  · go_simp
  · go_simp
theorem below_set0 {w W : World} {c i : Nat} (h : Below w.heap.size w W) (hc : w.heap.size ≤ c) (y : Value) : Below w.heap.size w (W.setCell ⟨c, i, none⟩ y) := h.setCell (p := ⟨c, i, none⟩) hc y
theorem below_set4' {w W : World} {c : Nat} (h : Below w.heap.size w W) (hc : w.heap.size ≤ c) (y0 y1 y2 y3 : Value) :
    Below w.heap.size w ((((W.setCell ⟨c, 0, none⟩ y0).setCell ⟨c, 1, none⟩ y1).setCell ⟨c, 2, none⟩ y2).setCell ⟨c, 3, none⟩ y3) := h.trans ((below_set4 c W y0 y1 y2 y3).mono hc)
end Go.Proofs.Ytofeecalpofklaa
