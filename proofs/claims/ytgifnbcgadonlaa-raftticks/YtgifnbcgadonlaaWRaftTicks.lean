/-
  RaftTicks: the walk's theorem, as the frame takes it.
-/
import Derived.Test.YtgifnbcgadonlaaRTc
import Derived.OpenShut
import Derived.ProofKit
import Derived.Carry
namespace Go.Proofs.Ytgifnbcgadonlaa
open Go.RowKit

theorem raftTicks_walk (id size ticks : Int) (h0 : Is64 id) (h1 : Is64 size) (h2 : Is64 ticks) (w : World) : Calls Try.prog 7 #[.int .i64 id, .int .i64 size, .int .i64 ticks] w fun e w' => e = .returned (.bool true) ∧ Below w.heap.size w w' := raftTicks_any id size ticks w h0 h1 h2
end Go.Proofs.Ytgifnbcgadonlaa
