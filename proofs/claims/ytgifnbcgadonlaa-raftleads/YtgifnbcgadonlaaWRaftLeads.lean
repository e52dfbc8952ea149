/-
  RaftLeads: the walk's theorem, as the frame takes it.
-/
import Derived.Test.YtgifnbcgadonlaaRLb
import Derived.OpenShut
import Derived.ProofKit
import Derived.Carry
namespace Go.Proofs.Ytgifnbcgadonlaa
open Go.RowKit

theorem raftLeads_walk (size : Int) (v : Value) (zs : List Int) (h0 : Is64 size) (w : World) (hzs : Ints v zs w) : Calls Try.prog 8 #[.int .i64 size, v] w fun e w' => e = .returned (.bool true) ∧ Below w.heap.size w w' := raftLeads_any size v zs w h0 hzs
end Go.Proofs.Ytgifnbcgadonlaa
