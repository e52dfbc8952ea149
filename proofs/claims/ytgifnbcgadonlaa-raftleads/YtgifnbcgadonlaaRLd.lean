/-
  Handle of an MVoted, with its cells written out; a cell set, far from all else.
-/
import Derived.Test.YtgifnbcgadonlaaRLa
namespace Go.Proofs.Ytgifnbcgadonlaa
open Go.RowKit
set_option linter.unusedSimpArgs false
set_option linter.unusedVariables false

theorem hear_any (k : Nat) (n : Nd) (q : Q5) (fr : Nat) (ok : Bool) (W : World) (n' : Nd) (ms : List Ms) (h : SeesN q n W) (el : Elect k n) (hl : n.log = [] ∨ n.log = [⟨1, noBytes⟩]) (hk : 2 ≤ k ∧ k ≤ 5) (hf : 1 ≤ fr ∧ fr < k) (e : votedM n (vm fr ok) = (n', ms)) :
    Calls Try.prog 16 #[.agg (ndA n q), .agg #[.int .i64 2, .int .i64 (fr : Int), .int .i64 0, .int .i64 1, .int .i64 0, .int .i64 0, .bool ok, .slice none 0 0, .int .i64 0, .int .i64 0]] W fun e W' => ∃ q sv es, e = .returned (.tuple #[.agg (ndA n' q), sv]) ∧ Out n' ms q sv es W W' := by
  have hfit := el.fit (by omega) hk.2 hl
  have hlg : n.log.length < 500000 := by rcases hl with e | e <;> rw [e] <;> simp
  have hfv : fr < n.votes.length := by rw [el.size]; exact hf.2
  refine handleC_any q n (vm fr ok) none 0 W n' ms h hfit (fun b q1 W1 h1 => takes_any b q1 _ n [] (vm fr ok) none 0 W1 h1 ⟨⟨by show 1 ≤ 2; omega, by show 2 ≤ 4; omega⟩, el.id.symm, by show fr ≠ n.id; rw [el.id]; omega, hfv, fun _ => rfl, fun e => by cases e⟩ (by show 2 ≠ 4; omega)) (fun b q1 W1 h1 _ _ => ?_)
  have := handleV_any b q1 (.slice none 0 0) n [] (vm fr ok) none 0 W1 h1 hfit hfv rfl (by rw [el.term]; exact Nat.le_refl _) hlg (by simp)
  rw [e] at this
  exact this
theorem one_keeps (b o : Nat) (v : Value) (W : World) : W.grownBy (W.setCell ⟨b, o, none⟩ v) (some b) ∧ (W.setCell ⟨b, o, none⟩ v).heap.size = W.heap.size := setCells_keeps b [v] o W
theorem boC_set1 (l : List Bool) (i : Nat) (v : Bool) : (boC l).toArray.setIfInBounds i (.bool v) = (boC (l.set i v)).toArray := by
  simp [boC, List.map_set]
theorem Voting.set {k fr : Nat} {n n' : Nd} {Hs : List Bool} (h : ∀ j, j < k → Hs[j]? = n.votes[j]?) (hl : k ≤ Hs.length) (hs : n.votes.length = k) (hn : n'.votes = n.votes.set fr true) : ∀ j, j < k → (Hs.set fr true)[j]? = n'.votes[j]? := by
  intro j hj
  rw [hn, List.getElem?_set, List.getElem?_set]
  split
  · rename_i e; subst e
    rw [if_pos (by omega), if_pos (by omega)]
  · exact h j hj
end Go.Proofs.Ytgifnbcgadonlaa
