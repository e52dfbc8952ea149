/-
  A predicate on worlds that what only grows keeps.
-/
import Derived.Test.YtliefgkhpgigaaaEVD
namespace Go.Proofs.Ytliefgkhpgigaaa
open Go.RowKit

/-- P holds, and goes on to hold where nothing that was there is turned -/
def GrP (P : World → Prop) (X : World) : Prop := ∀ W, Below X.heap.size X W → P W
theorem GrP.call {P : World → Prop} {W W' : World} (h : GrP P W) (hb : Below W.heap.size W W') : GrP P W' := fun X hX => h X (hb.trans (hX.mono hb.size))
theorem GrP.out {P : World → Prop} {W : World} (h : GrP P W) : P W := h W (Below.refl _ _)
theorem GrP.of {P : World → Prop} {W : World} (hc : ∀ X Y, P X → Below X.heap.size X Y → P Y) (h : P W) : GrP P W := fun X hX => hc W X h hX
end Go.Proofs.Ytliefgkhpgigaaa
