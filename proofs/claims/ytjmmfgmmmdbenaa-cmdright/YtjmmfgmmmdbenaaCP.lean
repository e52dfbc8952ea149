/-
  What the laws of commands want: what Make makes.
-/
import Derived.Test.YtjmmfgmmmdbenaaCM
import Derived.Test.YtjmmfgmmmdbenaaCN2
namespace Go.Proofs.Ytjmmfgmmmdbenaa
open Go.RowKit
set_option linter.unusedSimpArgs false
set_option linter.unusedVariables false

theorem ints_below {v : Value} {zs : List Int} {W W' : World} (h : Ints v zs W) (hb : Below W.heap.size W W') : Ints v zs W' := by
  rcases h with h | ⟨a, cap, rfl, h1, h2⟩
  · exact .inl h
  · exact .inr ⟨a, cap, rfl, h1, fun i hi => ⟨(hb.cell (h2 i hi).2.1).trans (h2 i hi).1, Nat.lt_of_lt_of_le (h2 i hi).2.1 hb.size, (h2 i hi).2.2⟩⟩
theorem mk7_of (kind id txn : Int) (v : Value) (zs : List Int) (s : ByteArray) (w : World) (hk : Is64 kind) (hi : Is64 id) (ht : Is64 txn) (hz : Ints v zs w) (hs : s.size ≤ 200) : Mk7 kind id txn v s w (mkC kind id txn zs s) := by
  intro W hW
  refine (make7_any kind id txn v zs s W hk hi ht (ints_below hz hW) hs).mono ?_
  rintro e W' ⟨q, cap, rfl, h1, h2⟩
  exact ⟨q, cap, rfl, row_wsv h1, h2⟩
theorem mkC_good (kind id txn : Int) (zs : List Int) (s : ByteArray) (hs : s.size ≤ 200) : GoodC (mkC kind id txn zs s) := ⟨mkC_ok2 _ _ _ _ _ hs, (mkC_bd _ _ _ _ _).1, (mkC_bd _ _ _ _ _).2⟩
end Go.Proofs.Ytjmmfgmmmdbenaa
