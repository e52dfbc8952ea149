/-
  What the reference's functions num and text return: a number's bytes, a text's.
-/
import Derived.Test.YtbpjejjbgdikdaaS8
import Derived.Test.YtbpjejjbgdikdaaS6
import Derived.Test.YtbpjejjbgdikdaaT1
import Derived.Deep.AppendLies
namespace Go.Proofs.Ytbpjejjbgdikdaa
open Go.RowKit Go.Shelf
set_option linter.unusedSimpArgs false
set_option linter.unusedVariables false

/-- a row's growth, held from below -/
theorem below_row {w wr w1 : World} {v : Value} {k : Nat} {xs : List Value} {T : TypeId} {o : Obj} (hB : Below w.heap.size w wr) (hrow : wr.ownsRow w.heap.size T 1 v k xs) (hg : (wr.alloc o).grownBy w1 v.ownBlock) : Below w.heap.size w w1 := by
  refine (hB.alloc hB.size o).grown hg (Nat.le_trans hB.size (by simp)) ?_
  intro j e
  rcases hrow.2 with ⟨rfl, _⟩ | ⟨g, cap, cur, rfl, hge, _⟩
  · cases e
  · simp [Value.ownBlock] at e; omega

theorem heap_set_row {W : World} {g : Nat} {cur : Array Value} {T : TypeId} (h : W.heap[g]? = some (.cells cur T (0, 0))) (j : Nat) (y : Value) : (W.setCell ⟨g, j, none⟩ y).heap[g]? = some (.cells (cur.setIfInBounds j y) T (0, 0)) := by
  obtain ⟨hlt, hk⟩ := Array.getElem?_eq_some_iff.1 h
  show (W.heap.modify g _)[g]? = _
  rw [Array.getElem?_eq_getElem (by rw [Array.size_modify]; exact hlt), Array.getElem_modify_self, hk]
  rfl
theorem frozen_row {W : World} {g : Nat} {cur : Array Value} {T : TypeId} (h : W.heap[g]? = some (.cells cur T (0, 0))) (j : Nat) : W.frozen? ⟨g, j, none⟩ = false := by simp [World.frozen?, h]
theorem row_first {W : World} {B n g cap : Nat} {x y : Value} {xs : List Value} {T : TypeId} (h : W.ownsRow B T 1 (.slice (some ⟨g, 0, none⟩) n cap) n (x :: xs)) :
    (W.setCell ⟨g, 0, none⟩ y).ownsRow B T 1 (.slice (some ⟨g, 0, none⟩) n cap) n (y :: xs) ∧ W.cell? ⟨g, 0, none⟩ = some x ∧ W.frozen? ⟨g, 0, none⟩ = false ∧ B ≤ g := by
  obtain ⟨hl, (⟨hv, _⟩ | ⟨g', cap', cur, hv, hB, hgb, h1, h2, h3, ht⟩)⟩ := h
  · cases hv
  · cases hv
    have hc : cur.toList = x :: cur.toList.tail := by
      have h0 : (cur.toList.take (n * 1))[0]? = some x := by rw [ht]; rfl
      have hn : 0 < n * 1 := by simp at hl; omega
      rw [List.getElem?_take_of_lt hn] at h0
      cases hcl : cur.toList with
      | nil => rw [hcl] at h0; cases h0
      | cons z zs => rw [hcl] at h0; simp at h0; rw [h0]; rfl
    have hsz : 0 < cur.size := by
      have := congrArg List.length hc
      simp at this; omega
    refine ⟨⟨by simpa using hl, .inr ⟨g, cap, cur.setIfInBounds 0 y, rfl, hB, ?_, h1, h2, by simpa using h3, ?_⟩⟩, ?_, ?_, hB⟩
    · exact heap_set_row hgb 0 y
    · have : (cur.setIfInBounds 0 y).toList = y :: cur.toList.tail := by
        rw [Array.toList_setIfInBounds, hc]; rfl
      rw [this]
      rw [hc] at ht
      have hn : n * 1 = (n * 1 - 1) + 1 := by simp at hl; omega
      rw [hn, List.take_succ_cons] at ht ⊢
      simp at ht ⊢
      exact ht
    · rw [cell_of_row W g 0 cur _ _ hgb]
      have := congrArg (fun l => l[0]?) hc
      simpa using this
    · exact frozen_row hgb 0

theorem top_byte (x : Int) (hx : Is64 x) : bits BinOp.xor IntKind.u8 (x / 72057594037927936 % 256) 128 = (x + 9223372036854775808) / 72057594037927936 % 256 := by
  have h0 : 0 ≤ x / 72057594037927936 % 256 := by omega
  have h1 : x / 72057594037927936 % 256 < 256 := by omega
  have h2 : (x + 9223372036854775808) / 72057594037927936 % 256 = (x / 72057594037927936 % 256 + 128) % 256 := by omega
  rw [h2]
  generalize x / 72057594037927936 % 256 = a at *
  obtain ⟨m, rfl⟩ : ∃ m : Nat, a = m := ⟨a.toNat, by omega⟩
  have hm : m < 256 := by omega
  clear h0 h1 h2 hx x
  revert m
  decide +kernel
theorem be_top (x : Int) : beK 56 (x + 9223372036854775808) 8 = ((x + 9223372036854775808) / 72057594037927936 % 256) :: (beK 56 x 8).tail := by
  simp [beK, List.range_succ]
  omega

set_option maxRecDepth 100000 in
set_option maxHeartbeats 2000000 in
theorem rnum_any (x : Int) (hx : Is64 x) (w : World) :
    Calls Try.prog 30 #[.int .i64 x] w fun e w' => e = .returned (.string (strOfNums (beK 56 (x + 9223372036854775808) 8))) ∧ Below w.heap.size w w' := by
  obtain ⟨i0, hi, hz0, hz1, hz2⟩ := info_parts info_byte
  go_enter Try.func30, Try.ntmps30
  go_wp2
  go_loopw [3, 4] (fun v i wr => ∃ k : Nat, k ≤ 8 ∧ i = .int .i64 (k : Int) ∧ wr.ownsRow w.heap.size 5 1 v k (I8 (beK 56 x k)) ∧ Below w.heap.size w wr)
    (fun v i wr => 8 - (intOf i).toNat)
  case atStart => exact ⟨0, by omega, rfl, World.ownsRow_nil _ _ _ _, Below.refl _ _⟩
  case round =>
    obtain ⟨k, hk, rfl, hrow, hB⟩ := hrel
    have hsz := hB.size
    by_cases h8 : k < 8
    · have h8i : (k : Int) < 8 := by omega
      go_wp2_with (at_builtin; refine wpList_append_lies _ rfl _ _ 49 rfl w.heap.size 5 i0 (.int .u8 0) 1 1 Try.underlying49 hi hz0 hz1 hz2 rfl (by decide) u3 _ _ rfl (hrow.alloc _) ⟨wr.heap.size, 0, none⟩ 1 1 [.int .u8 (x / 2 ^ (56 - 8 * k) % 256)] rfl rfl (by simpa using cell_one_new wr _ _) (by simp [Value.oneCell']) (by decide) (by unfold maxLen; omega) (by omega) (by simp; omega) _ rfl ?_; intro g cap w1 hown' hgrow hat _)
      exact ⟨⟨k + 1, by omega, by go_num, by rw [beK_succ]; simpa using hown', below_row hB hrow hgrow⟩, by simp [intOf]; omega⟩
    · obtain rfl : k = 8 := by omega
      have hbe : I8 (beK 56 x 8) = .int .u8 (x / 72057594037927936 % 256) :: I8 (beK 56 x 8).tail := by simp [beK, List.range_succ]
      rw [hbe] at hrow
      obtain ⟨g, cap, rfl, _, _⟩ := hrow.form (by omega)
      obtain ⟨hset, hc, hf, hge⟩ := row_first (y := .int .u8 (bits BinOp.xor IntKind.u8 (x / 72057594037927936 % 256) 128)) hrow
      have hx1 := top_byte x hx
      have hrun : (convert 49 9 (.slice (some ⟨g, 0, none⟩) 8 cap)).run Try.prog (wr.setCell ⟨g, 0, none⟩ (.int .u8 (bits BinOp.xor IntKind.u8 (x / 72057594037927936 % 256) 128))) = .ok (.string (strOfNums (beK 56 (x + 9223372036854775808) 8))) (wr.setCell ⟨g, 0, none⟩ (.int .u8 (bits BinOp.xor IntKind.u8 (x / 72057594037927936 % 256) 128))) := by
        have hl : (beK 56 (x + 9223372036854775808) 8).length = 8 := beK_len _ _ _
        have h1 : (wr.setCell ⟨g, 0, none⟩ (.int .u8 (bits BinOp.xor IntKind.u8 (x / 72057594037927936 % 256) 128))).ownsRow w.heap.size 5 1 (.slice (some ⟨g, 0, none⟩) (beK 56 (x + 9223372036854775808) 8).length cap) (beK 56 (x + 9223372036854775808) 8).length (I8 (beK 56 (x + 9223372036854775808) 8)) := by
          rw [hl, be_top, ← hx1]; exact hset
        have h2 := run_string_row h1
        rw [hl] at h2
        exact h2
      clear hset hbe hx1
      go_wp2
      go_ret
      exact ⟨rfl, hB.trans ((Below.refl _ _).setCell (p := ⟨g, 0, none⟩) hge _)⟩
end Go.Proofs.Ytbpjejjbgdikdaa
