/-
  The reference's Entries of two rows that are the same.
-/
import Derived.Test.YtbojfiflemmgaaaHG
namespace Go.Proofs.Ytbojfiflemmgaaa
open Go.RowKit
set_option linter.unusedSimpArgs false
set_option linter.unusedVariables false

set_option maxRecDepth 100000 in
set_option maxHeartbeats 4000000 in
theorem rentries_same (u v : Value) (l : List En) (W : World) (h1 : Sees 2 u l.length (enC l) W) (h2 : Sees 2 v l.length (enC l) W) (hl : l.length ≤ 1000000) :
    Calls Try.prog 15 #[u, v] W fun e W' => e = .returned (.bool true) ∧ Below W.heap.size W W' := by
  have A1 := hide (fun (k : Nat) (h : k < l.length) (wr : World) (hb : Below W.heap.size W wr) => sees_en (h1.below hb) k h)
  have A2 := hide (fun (k : Nat) (h : k < l.length) (wr : World) (hb : Below W.heap.size W wr) => sees_en (h2.below hb) k h)
  obtain ⟨p1, c1, rfl, _⟩ := h1
  obtain ⟨p2, c2, rfl, _⟩ := h2
  have hc1 : ((l.length : Nat) : Int) = l.length := rfl
  go_enter Try.func15, Try.ntmps15
  go_wp2
  go_loopw [5] (fun ix wr => ∃ k : Nat, k ≤ l.length ∧ ix = .int .i64 (k : Int) ∧ Hid (Below W.heap.size W wr)) (fun ix wr => l.length - (intOf ix).toNat)
  case atStart => exact ⟨0, Nat.zero_le _, rfl, hide (Below.refl _ _)⟩
  case round =>
    obtain ⟨k, hk, rfl, hb⟩ := hrel
    by_cases hlt : k < l.length
    · obtain ⟨g1, o1, x1, e1, a0, a1⟩ := unhide A1 k hlt wr (unhide hb)
      obtain ⟨g2, o2, x2, e2, b0, b1⟩ := unhide A2 k hlt wr (unhide hb)
      injection e1 with e1 _ e3
      injection e2 with e2 _ e4
      subst e1 e2 e3 e4
      obtain ⟨t, ht⟩ : ∃ t, l[k].term = t := ⟨_, rfl⟩
      obtain ⟨d, hd⟩ : ∃ d, l[k].data = d := ⟨_, rfl⟩
      rw [ht] at a0 b0
      rw [hd] at a1 b1
      have i0 : (0 : Int) ≤ (k : Int) := by omega
      have i1 : (k : Int) < (l.length : Int) := by omega
      have hnx : IntKind.i64.wrap ((k : Int) + 1) = ((k + 1 : Nat) : Int) := (IntWalk.i64_in _ (by omega)).trans (by omega)
      clear ht hd
      go_wp2
      go_region_held3 (fun w' => (w'.cell? ⟨g1, o1 + k * 2, none⟩ = some (.int .i64 (t : Int)) ∧ w'.cell? ⟨g1, o1 + k * 2 + 1, none⟩ = some (.string d)) ∧ (w'.cell? ⟨g2, o2 + k * 2, none⟩ = some (.int .i64 (t : Int)) ∧ w'.cell? ⟨g2, o2 + k * 2 + 1, none⟩ = some (.string d))) (first | exact ⟨⟨a0, a1⟩, b0, b1⟩ | go_keep) (fail)
      go_wp2
      go_roundw
      case rel => exact ⟨k + 1, by omega, by go_num, hide ((unhide hb).drew)⟩
      case measure => simp [intOf] <;> omega
    · obtain rfl : k = l.length := by omega
      go_wp2
      go_ret
      exact ⟨rfl, unhide hb⟩
end Go.Proofs.Ytbojfiflemmgaaa
