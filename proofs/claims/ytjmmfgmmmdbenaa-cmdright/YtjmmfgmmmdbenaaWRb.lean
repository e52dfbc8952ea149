/-
  CmdRight's switch: a list of bytes, made.
-/
import Derived.Test.YtjmmfgmmmdbenaaWRa
namespace Go.Proofs.Ytjmmfgmmmdbenaa
open Go.RowKit
set_option linter.unusedSimpArgs false
set_option linter.unusedVariables false

theorem run_makeB (N : Nat) (hN : N ≤ 100000) (W : World) : (Instr.makeSlice 35 (.int .i64 (N : Int)) (.int .i64 (N : Int))).run Try.prog W = .ok (.slice (some ⟨W.heap.size, 0, none⟩) N N) (W.alloc (.cells (madeCells #[.int .u8 0] N) 5)) := by
  obtain ⟨i0, hi, hz0, hz1, hz2⟩ := info_parts info_byte
  have h := run_makeSlice (P := Try.prog) W 35 5 i0 _ Try.underlying35 hi hz0 .i64 .i64 (N : Int) (N : Int) (by omega) (Int.le_refl _) (by rw [hz1]; omega) (by rw [hz2]; omega) (by omega)
  rw [hz1, Nat.mul_one] at h
  simp only [Int.toNat_natCast, Value.cells] at h
  exact h
theorem run_convB {N g : Nat} {W : World} (h : Blk g (madeCells #[.int .u8 0] N) 5 W) : (convert 35 9 (.slice (some ⟨g, 0, none⟩) N N)).run Try.prog W = .ok (.string ⟨(List.replicate N (0 : UInt8)).toArray⟩) W := by
  have e := run_convert_bytes_back (P := Try.prog) W 35 9 5 ⟨g, 0, none⟩ N (List.replicate N (0 : UInt8)) Try.underlying35 Try.underlying5 Try.underlying9 (fun j hj => by
    have hj2 : j < N := by simpa using hj
    have e1 : Addr.add ⟨g, 0, none⟩ j = ⟨g, j, none⟩ := by simp [Addr.add]; exact fun h => h.symm
    rw [e1, h.cell j, ← Array.getElem?_toList, toList_madeCells_one]
    simp [hj2])
  rw [List.length_replicate] at e
  exact e
theorem bytes_made (N : Nat) (hN : N ≤ 100000) : ∃ (BY : Array Value) (zz : ByteArray), zz.size = N ∧ (∀ W : World, (Instr.makeSlice 35 (.int .i64 (N : Int)) (.int .i64 (N : Int))).run Try.prog W = .ok (.slice (some ⟨W.heap.size, 0, none⟩) N N) (W.alloc (.cells BY 5))) ∧ ∀ (g : Nat) (W : World), Blk g BY 5 W → (convert 35 9 (.slice (some ⟨g, 0, none⟩) N N)).run Try.prog W = .ok (.string zz) W :=
  ⟨madeCells #[.int .u8 0] N, ⟨(List.replicate N (0 : UInt8)).toArray⟩, by simp [ByteArray.size], fun W => run_makeB N hN W, fun _ _ h => run_convB h⟩
end Go.Proofs.Ytjmmfgmmmdbenaa
