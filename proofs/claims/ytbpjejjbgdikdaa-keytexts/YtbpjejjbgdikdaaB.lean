/-
  What the functions of package val that take values return and leave: methods of sides, whole, millionths, ofOneKind, numeric. For every argument (integers are int's).
-/
import Derived.Test.YtbpjejjbgdikdaaA
import Derived.Deep.QuietTactic
import Derived.BigQuiet
import Derived.Deep.RegionWith
namespace Go.Proofs.Ytbpjejjbgdikdaa
open Go.RowKit
set_option linter.unusedSimpArgs false
set_option linter.unusedVariables false

abbrev V (k n s : Int) (t : ByteArray) : Value := .agg #[.int .i64 k, .int .i64 n, .int .i64 s, .string t]

set_option maxHeartbeats 400000 in
theorem numeric_any (k n s : Int) (t : ByteArray) (w : World) :
    Calls Try.prog 73 #[V k n s t] w fun e w' => e = .returned (.bool (k == 0 || k == 2 || k == 3)) ∧ Below w.heap.size w w' := by
  go_enter Try.func73, Try.ntmps73
  go_wp2
  all_goals
    go_ret
    exact ⟨ret_bool (by simp_all), (Below.refl _ _).alloc (Nat.le_refl _) _⟩

def cmpS (x y : ByteArray) : Int := if Op.bytesLess x.toList y.toList then -1 else if x.toList == y.toList then 0 else 1
end Go.Proofs.Ytbpjejjbgdikdaa
