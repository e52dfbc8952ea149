/-
  How many bytes a command's are at most.
-/
import Derived.Test.YtjmmfgmmmdbenaaCP
namespace Go.Proofs.Ytjmmfgmmmdbenaa
open Go.RowKit
set_option linter.unusedSimpArgs false
set_option linter.unusedVariables false

theorem GoodC.small {c : Cm} (h : GoodC c) (f : Int) : (encS f c).size ≤ 10000000 := by
  obtain ⟨⟨a1, a2, a3, a4⟩, a5, a6, a7, a8, a9⟩ := rightC_of h.right
  have hw : ∀ x ∈ c.ws, x.k.size ≤ 4000 ∧ x.v.size ≤ 4000 := fun x hx => by have := rightW_of (a9 x hx); omega
  have h1 := enc_len f c h.2.1 h.2.2 a8 hw (by omega)
  unfold encS
  split
  · rw [← by8_len]; simpa [by8] using h1
  · exact Nat.zero_le _
end Go.Proofs.Ytjmmfgmmmdbenaa
