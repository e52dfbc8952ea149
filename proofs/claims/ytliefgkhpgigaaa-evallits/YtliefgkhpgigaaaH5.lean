/-
  What the statements' own function Make returns, for every argument: some value that is right, of the kind that it was asked for.
-/
import Derived.Test.YtliefgkhpgigaaaH3
import Derived.Test.YtliefgkhpgigaaaH4
namespace Go.Proofs.Ytliefgkhpgigaaa
open Go.RowKit

theorem made_of {e : Ending} {k : Int} (h : Made e k) {k' : Int} (hk : k' = k) : ∃ n s t, Ok k' n s t ∧ e = .returned (V k' n s t) := hk ▸ h
theorem make_any (kind n : Int) (s : ByteArray) (w : World) (hk : Is64 kind) (hn : Is64 n) (hs : s.size ≤ 9223372036854775807) :
    Calls Try.prog 43 #[.int .i64 kind, .int .i64 n, .string s] w fun e w' => Made e (kind % 6) ∧ Below w.heap.size w w' := by
  have h : kind % 6 = 0 ∨ kind % 6 = 1 ∨ kind % 6 = 2 ∨ kind % 6 = 3 ∨ kind % 6 = 4 ∨ kind % 6 = 5 := by omega
  rcases h with h | h | h | h | h | h
  · rw [h]; exact make0 kind n s w hk h
  · rw [h]; exact make1 kind n s w hk hn h
  · rw [h]; exact make2 kind n s w hk hn h
  · rw [h]; exact make3 kind n s w hk hn h
  · rw [h]; exact make4 kind n s w hk h hs
  · rw [h]; exact make5 kind n s w hk h
end Go.Proofs.Ytliefgkhpgigaaa
