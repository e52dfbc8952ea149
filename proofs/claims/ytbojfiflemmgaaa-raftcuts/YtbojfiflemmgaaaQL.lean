/-
  A list of numbers that came in, opened.
-/
import Derived.Test.YtbojfiflemmgaaaRLa
import Derived.OpenShut
import Derived.ProofKit
import Derived.Carry
namespace Go.Proofs.Ytbojfiflemmgaaa
open Go.ChangeShapes Go.WideShapes Go.ChangeAt Go.RowKit
set_option linter.unusedVariables false

theorem is64_litQ {n : Int} (h : (Lit.int .i64 n).wf = true) : Is64 n := bounds_i64 h
theorem laidOut : laidOutB Try.prog = true := by kernel_rfl
theorem cellsInt : Try.prog.cellsOf 3 = 1 := by kernel_rfl
set_option maxRecDepth 100000 in
theorem ints_of {H : Type} {enc : TypeId × Value → H} {W : World} {base : Nat} {v : Value} {d : DataW H} {p : List MemPlace} (hval : Value.okWide Try.prog W .any base 22 v) (h : DataW.Trod enc Try.prog W 0 (fun _ => true) true 22 v d p) : ∃ zs, Ints v zs W := by
  obtain ⟨a0, len, cap, rfl⟩ := okWide_slice Try.underlying22 hval
  obtain ⟨fuel, hf⟩ := h
  rcases open_ints Try.underlying22 Try.underlying3 cellsInt hf with ⟨hcs, hx⟩ | ⟨a, len', cap', zs, hcs, _, hl, hm, hz, hx, hcell, hwz⟩
  · simp [Value.cells] at hcs
    obtain ⟨rfl, rfl, rfl⟩ := hcs
    exact ⟨[], .inl ⟨rfl, rfl⟩⟩
  · simp [Value.cells] at hcs
    obtain ⟨rfl, rfl, rfl⟩ := hcs
    simp only [if_true] at hz
    have hl2 : (zs.take len).length = len := by rw [List.length_take]; omega
    refine ⟨zs.take len, .inr ⟨a, cap, by rw [hl2], by rw [hl2]; exact Nat.le_trans hl hm, fun i hi => ?_⟩⟩
    rw [hl2] at hi
    have hi' : i < zs.length := by omega
    have hc := hcell i hi'
    have e : zs.getD i 0 = (zs.take len)[i]'(by rw [hl2]; exact hi) := by simp [List.getD, hi']
    rw [e] at hc
    refine ⟨hc, World.block_lt_of_cell? W _ hc, ?_⟩
    have hw := hwz (zs[i]) (List.getElem_mem hi')
    have e2 : (zs.take len)[i]'(by rw [hl2]; exact hi) = zs[i] := by simp
    rw [e2]
    exact is64_litQ hw
end Go.Proofs.Ytbojfiflemmgaaa
