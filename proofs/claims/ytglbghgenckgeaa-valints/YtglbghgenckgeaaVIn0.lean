/-
  ValInts: a block.
-/
import Derived.Test.YtglbghgenckgeaaWI0
import Derived.RangeFuncBox
namespace Go.Proofs.Ytglbghgenckgeaa
open Go.RowKit
set_option linter.unusedSimpArgs false
set_option linter.unusedVariables false

def BkI (b : Nat) (cs : Array Value) (W : World) : Prop := W.heap[b]? = some (.cells cs 23 (0, 0))
theorem BkI.call {b : Nat} {cs : Array Value} {W W' : World} (h : BkI b cs W) (hb : Below W.heap.size W W') : BkI b cs W' := (hb.block _ (Array.getElem?_eq_some_iff.1 h).1).trans h
theorem BkI.lt {b : Nat} {cs : Array Value} {W : World} (h : BkI b cs W) : b < W.heap.size := (Array.getElem?_eq_some_iff.1 h).1
theorem BkI.cell {b : Nat} {cs : Array Value} {W : World} (h : BkI b cs W) (j : Nat) : W.cell? ⟨b, j, none⟩ = cs[j]? := cell_of_row W _ j cs _ _ h
theorem BkI.new (W : World) (cs : Array Value) : BkI W.heap.size cs (W.alloc (.cells cs 23)) := World.alloc_heap_new W _
theorem bel_new (W : World) (o : Obj) : Below W.heap.size W (W.alloc o) := (Below.refl _ W).alloc (Nat.le_refl _) _
end Go.Proofs.Ytglbghgenckgeaa
