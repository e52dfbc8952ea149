/-
  Small facts on worlds: a block of four cells that may be written; what a call that only makes new memory leaves of it.
-/
import Derived.WalkKit
import Derived.WalkSpells
namespace Go.Proofs.Ytliefgkhpgigaaa
open Go.RowKit
set_option linter.unusedSimpArgs false
set_option linter.unusedVariables false

theorem hide {p : Prop} (h : p) : Hid p := h
theorem unhide {p : Prop} (h : Hid p) : p := h
theorem bcell {W w1 : World} (hb : Below W.heap.size W w1) : (∀ b o, b < W.heap.size → w1.cell? ⟨b, o, none⟩ = W.cell? ⟨b, o, none⟩) ∧ (∀ b o, b < W.heap.size → w1.frozen? ⟨b, o, none⟩ = W.frozen? ⟨b, o, none⟩) :=
  ⟨fun b o h => hb.cell (p := ⟨b, o, none⟩) h, fun b o h => hb.frozen (p := ⟨b, o, none⟩) h⟩
/-- a block: four cells, which may be written -/
def Four (b : Nat) (x0 x1 x2 x3 : Value) (W : World) : Prop := b < W.heap.size ∧
  W.cell? ⟨b, 0, none⟩ = some x0 ∧ W.cell? ⟨b, 1, none⟩ = some x1 ∧ W.cell? ⟨b, 2, none⟩ = some x2 ∧ W.cell? ⟨b, 3, none⟩ = some x3 ∧
  W.frozen? ⟨b, 0, none⟩ = false ∧ W.frozen? ⟨b, 1, none⟩ = false ∧ W.frozen? ⟨b, 2, none⟩ = false ∧ W.frozen? ⟨b, 3, none⟩ = false
theorem four_below {b B : Nat} {x0 x1 x2 x3 : Value} {W w1 : World} (h : Four b x0 x1 x2 x3 W) (hB : b < B) (hb : Below B W w1) : Four b x0 x1 x2 x3 w1 := by
  obtain ⟨h0, h1, h2, h3, h4, h5, h6, h7, h8⟩ := h
  refine ⟨by have := hb.size; omega, ?_, ?_, ?_, ?_, ?_, ?_, ?_, ?_⟩
  · rw [hb.cell (show b < _ from hB)]; exact h1
  · rw [hb.cell (show b < _ from hB)]; exact h2
  · rw [hb.cell (show b < _ from hB)]; exact h3
  · rw [hb.cell (show b < _ from hB)]; exact h4
  · rw [hb.frozen (show b < _ from hB)]; exact h5
  · rw [hb.frozen (show b < _ from hB)]; exact h6
  · rw [hb.frozen (show b < _ from hB)]; exact h7
  · rw [hb.frozen (show b < _ from hB)]; exact h8
theorem four_call {b : Nat} {x0 x1 x2 x3 : Value} {W w1 : World} (h : Four b x0 x1 x2 x3 W) (hb : Below W.heap.size W w1) : Four b x0 x1 x2 x3 w1 := four_below h h.1 hb
theorem four_alloc (x0 x1 x2 x3 : Value) (T : TypeId) (W : World) : Four W.heap.size x0 x1 x2 x3 (W.alloc (.cells #[x0, x1, x2, x3] T)) := by
  refine ⟨by simp, ?_, ?_, ?_, ?_, ?_, ?_, ?_, ?_⟩ <;> go_simp
theorem four_more {b : Nat} {x0 x1 x2 x3 : Value} {W : World} (h : Four b x0 x1 x2 x3 W) (o : Obj) : Four b x0 x1 x2 x3 (W.alloc o) := four_call h ((Below.refl _ _).alloc (Nat.le_refl _) _)
theorem four_drew {b : Nat} {x0 x1 x2 x3 : Value} {W : World} (h : Four b x0 x1 x2 x3 W) : Four b x0 x1 x2 x3 W.drew := four_call h (Below.refl _ _).drew
theorem four_set {b : Nat} {x0 x1 x2 x3 : Value} {W : World} (h : Four b x0 x1 x2 x3 W) (y0 y1 y2 y3 : Value) :
    Four b y0 y1 y2 y3 ((((W.setCell ⟨b, 0, none⟩ y0).setCell ⟨b, 1, none⟩ y1).setCell ⟨b, 2, none⟩ y2).setCell ⟨b, 3, none⟩ y3) := by
  obtain ⟨h0, h1, h2, h3, h4, h5, h6, h7, h8⟩ := h
  refine ⟨by simpa using h0, ?_, ?_, ?_, ?_, ?_, ?_, ?_, ?_⟩ <;> go_simp
theorem below_set4 (b : Nat) (W : World) (y0 y1 y2 y3 : Value) : Below b W ((((W.setCell ⟨b, 0, none⟩ y0).setCell ⟨b, 1, none⟩ y1).setCell ⟨b, 2, none⟩ y2).setCell ⟨b, 3, none⟩ y3) :=
  ((((Below.refl b W).setCell (p := ⟨b, 0, none⟩) (Nat.le_refl b) y0).setCell (p := ⟨b, 1, none⟩) (Nat.le_refl b) y1).setCell (p := ⟨b, 2, none⟩) (Nat.le_refl b) y2).setCell (p := ⟨b, 3, none⟩) (Nat.le_refl b) y3
theorem below_alloc_alloc (W : World) (o1 o2 : Obj) : Below W.heap.size (W.alloc o1) (W.alloc o2) :=
  ⟨rfl, rfl, rfl, by simp, fun k hk => by rw [Below.heap_alloc W o2 k hk, Below.heap_alloc W o1 k hk]⟩
/-- four cells of a block that is another one than block c are as they were behind stores into c -/
theorem four_other {b c : Nat} (hne : c ≠ b) {x0 x1 x2 x3 : Value} {W : World} (h : Four b x0 x1 x2 x3 W) (y0 y1 y2 y3 : Value) :
    Four b x0 x1 x2 x3 ((((W.setCell ⟨c, 0, none⟩ y0).setCell ⟨c, 1, none⟩ y1).setCell ⟨c, 2, none⟩ y2).setCell ⟨c, 3, none⟩ y3) := by
  obtain ⟨h0, h1, h2, h3, h4, h5, h6, h7, h8⟩ := h
  refine ⟨by simpa using h0, ?_, ?_, ?_, ?_, ?_, ?_, ?_, ?_⟩
  · rw [World.cell?_setCell_other _ _ _ _ (by intro e; exact hne (by injection e)), World.cell?_setCell_other _ _ _ _ (by intro e; exact hne (by injection e)), World.cell?_setCell_other _ _ _ _ (by intro e; exact hne (by injection e)), World.cell?_setCell_other _ _ _ _ (by intro e; exact hne (by injection e))]; exact h1
  · rw [World.cell?_setCell_other _ _ _ _ (by intro e; exact hne (by injection e)), World.cell?_setCell_other _ _ _ _ (by intro e; exact hne (by injection e)), World.cell?_setCell_other _ _ _ _ (by intro e; exact hne (by injection e)), World.cell?_setCell_other _ _ _ _ (by intro e; exact hne (by injection e))]; exact h2
  · rw [World.cell?_setCell_other _ _ _ _ (by intro e; exact hne (by injection e)), World.cell?_setCell_other _ _ _ _ (by intro e; exact hne (by injection e)), World.cell?_setCell_other _ _ _ _ (by intro e; exact hne (by injection e)), World.cell?_setCell_other _ _ _ _ (by intro e; exact hne (by injection e))]; exact h3
  · rw [World.cell?_setCell_other _ _ _ _ (by intro e; exact hne (by injection e)), World.cell?_setCell_other _ _ _ _ (by intro e; exact hne (by injection e)), World.cell?_setCell_other _ _ _ _ (by intro e; exact hne (by injection e)), World.cell?_setCell_other _ _ _ _ (by intro e; exact hne (by injection e))]; exact h4
  · go_simp
  · go_simp
  · go_simp
  · go_simp
end Go.Proofs.Ytliefgkhpgigaaa
