/-
  The chapter's example: what the statements' function known returns: true.
-/
import Derived.Test.YtbpjejjbgdikdaaS16
namespace Go.Proofs.Ytbpjejjbgdikdaa
open Go.RowKit
set_option linter.unusedSimpArgs false
set_option linter.unusedVariables false

theorem key5 : keyB 2 5 0 ⟨#[]⟩ = ⟨#[2, 128, 0, 0, 0, 0, 0, 0, 5]⟩ := by kernel_rfl
theorem key0 : keyB 0 0 0 ⟨#[]⟩ = ⟨#[0]⟩ := by kernel_rfl
theorem rkey5 : rkey [2, 128, 0, 0, 0, 0, 0, 0, 5, 120] = some ((2, 5, 0, []), [120]) := by kernel_rfl
theorem row2 : strOfNums (rowN [(0, 0, 0, ⟨#[]⟩), (4, 0, 0, ⟨#[97]⟩)]) = ⟨#[2, 0, 4, 97, 0, 1]⟩ := by kernel_rfl
theorem rtxt_a : rtxt [] [97, 0, 1] = some ([97], []) := by
  rw [rtxt_plain _ _ _ (by decide), rtxt_zero, if_pos rfl]; rfl
theorem rkey_a : rkey [4, 97, 0, 1] = some ((4, 0, 0, [97]), []) := by
  have h : rval [4, 97, 0, 1] = some ((4, 0, 0, [97]), []) := by
    rw [rval_cons, if_neg (by decide), if_neg (by decide), if_neg (by decide), if_neg (by decide), if_pos (by decide), rtxt_a]; rfl
  unfold rkey
  rw [h]
  exact if_pos (by kernel_rfl)
theorem rks2 : rks 5 [0, 4, 97, 0, 1] = [((0, 0, 0, []), 1), ((4, 0, 0, [97]), 4)] := by
  have h0 : rkey [0, 4, 97, 0, 1] = some ((0, 0, 0, []), [4, 97, 0, 1]) := by kernel_rfl
  have h2 : rkey [] = none := by kernel_rfl
  rw [rks, h0]
  dsimp only
  rw [rks, rkey_a]
  dsimp only
  rw [rks, h2]
  rfl
theorem ok_a : Ok 4 0 0 ⟨#[97]⟩ := ⟨by decide, by decide +kernel, by unfold Is64; omega, by decide, by decide, fun h => absurd h (by decide)⟩

theorem readRow_known (w : World) : Calls Try.prog 21 #[.string ⟨#[2, 0, 4, 97, 0, 1]⟩] w fun e W => ∃ g cap, e = .returned (.tuple #[.slice (some ⟨g, 0, none⟩) 2 cap, .bool true]) ∧ W.cell? ⟨g, 7, none⟩ = some (.string ⟨#[97]⟩) ∧ g < W.heap.size ∧ Below w.heap.size w W := by
  refine (callsIn_wide.1 (readRow_in 2 [0, 4, 97, 0, 1] (by decide) (by decide) w)).mono ?_
  rintro e W ⟨hB, (⟨h, _⟩ | ⟨_, v, rfl, hrow⟩)⟩
  · exfalso
    unfold rowIs at h
    rw [show ([0, 4, 97, 0, 1] : List UInt8).length = 5 from rfl, rks2] at h
    exact absurd h (by decide +kernel)
  · rw [show ([0, 4, 97, 0, 1] : List UInt8).length = 5 from rfl, rks2] at hrow
    rcases hrow.2 with ⟨_, h0⟩ | ⟨g, cap, cur, rfl, _, hgb, _, _, _, ht⟩
    · cases h0
    · refine ⟨g, cap, rfl, ?_, (Array.getElem?_eq_some_iff.1 hgb).1, hB⟩
      rw [cell_of_row W g 7 cur _ _ hgb]
      have h1 : (cur.toList.take 8)[7]? = some (.string (Str [97])) := by
        have : cur.toList.take 8 = cellsR [((0, 0, 0, []), 1), ((4, 0, 0, [97]), 4)] := ht
        rw [this]; rfl
      rw [List.getElem?_take_of_lt (by decide)] at h1
      simpa using h1
theorem readKey_known (w : World) : Calls Try.prog 15 #[.string ⟨#[2, 128, 0, 0, 0, 0, 0, 0, 5, 120]⟩] w fun e W => e = .returned (.tuple #[V 2 5 0 ⟨#[]⟩, .int .i64 9, .bool true]) ∧ Below w.heap.size w W :=
  readKey_yes [2, 128, 0, 0, 0, 0, 0, 0, 5, 120] (by decide) rkey5 w
theorem row_known (w : World) : Calls Try.prog 20 #[.slice (some ⟨w.heap.size, 0, none⟩) 2 2] (w.alloc (.cells #[.int .i64 0, .int .i64 0, .int .i64 0, .string ⟨#[]⟩, .int .i64 4, .int .i64 0, .int .i64 0, .string ⟨#[97]⟩] 24)) fun e W => e = .returned (.string ⟨#[2, 0, 4, 97, 0, 1]⟩) ∧ Below (w.alloc (.cells #[.int .i64 0, .int .i64 0, .int .i64 0, .string ⟨#[]⟩, .int .i64 4, .int .i64 0, .int .i64 0, .string ⟨#[97]⟩] 24)).heap.size (w.alloc (.cells #[.int .i64 0, .int .i64 0, .int .i64 0, .string ⟨#[]⟩, .int .i64 4, .int .i64 0, .int .i64 0, .string ⟨#[97]⟩] 24)) W := by
  have hb := World.alloc_heap_new w (.cells #[.int .i64 0, .int .i64 0, .int .i64 0, .string ⟨#[]⟩, .int .i64 4, .int .i64 0, .int .i64 0, .string ⟨#[97]⟩] 24)
  have h := row_some [(0, 0, 0, ⟨#[]⟩), (4, 0, 0, ⟨#[97]⟩)] (by decide) (by
    intro x hx
    simp only [List.mem_cons, List.not_mem_nil, or_false] at hx
    rcases hx with rfl | rfl
    · exact ok_null
    · exact ok_a) w.heap.size 2 (w.alloc (.cells #[.int .i64 0, .int .i64 0, .int .i64 0, .string ⟨#[]⟩, .int .i64 4, .int .i64 0, .int .i64 0, .string ⟨#[97]⟩] 24)) (by simp) (by
    intro i hi
    have hc := fun j => cell_of_row _ w.heap.size j _ _ _ hb
    match i, hi with
    | 0, _ => exact ⟨hc 0, hc 1, hc 2, hc 3⟩
    | 1, _ => exact ⟨hc 4, hc 5, hc 6, hc 7⟩)
  rw [row2] at h
  exact h

theorem readKey_known2 (w : World) : Calls Try.prog 15 #[.string ((⟨#[2, 128, 0, 0, 0, 0, 0, 0, 5]⟩ : ByteArray) ++ ⟨#[120]⟩)] w fun e W => e = .returned (.tuple #[V 2 5 0 ⟨#[]⟩, .int .i64 9, .bool true]) ∧ Below w.heap.size w W := by
  have e1 : (⟨#[2, 128, 0, 0, 0, 0, 0, 0, 5]⟩ : ByteArray) ++ ⟨#[120]⟩ = ⟨#[2, 128, 0, 0, 0, 0, 0, 0, 5, 120]⟩ := by kernel_rfl
  rw [e1]
  exact readKey_known w

theorem row_known2 (w : World) (g : Nat) (hg : g = w.heap.size) : Calls Try.prog 20 #[.slice (some ⟨g, 0, none⟩) 2 2] (w.alloc (.cells #[.int .i64 0, .int .i64 0, .int .i64 0, .string ⟨#[]⟩, .int .i64 4, .int .i64 0, .int .i64 0, .string ⟨#[97]⟩] 24)) fun e W => e = .returned (.string ⟨#[2, 0, 4, 97, 0, 1]⟩) ∧ Below (w.alloc (.cells #[.int .i64 0, .int .i64 0, .int .i64 0, .string ⟨#[]⟩, .int .i64 4, .int .i64 0, .int .i64 0, .string ⟨#[97]⟩] 24)).heap.size (w.alloc (.cells #[.int .i64 0, .int .i64 0, .int .i64 0, .string ⟨#[]⟩, .int .i64 4, .int .i64 0, .int .i64 0, .string ⟨#[97]⟩] 24)) W := by
  subst hg
  exact row_known w
set_option maxRecDepth 100000 in
set_option maxHeartbeats 1000000 in
theorem known_any (w : World) :
    Calls Try.prog 12 #[] w fun e w' => e = .returned (.bool true) ∧ Below w.heap.size w w' := by
  have C5 := hide (fun W => key_any 2 5 0 ⟨#[]⟩ W (ok_int (by unfold Is64; omega)))
  rw [key5] at C5
  have C0 := hide (fun W => key_any 0 0 0 ⟨#[]⟩ W ok_null)
  rw [key0] at C0
  have CR := hide (fun W => readKey_known2 W)
  go_enter Try.func12, Try.ntmps12
  go_wp2_with (first
    | (go_at_call 14; refine (unhide C5 _).mono ?_; clear C5; rintro e W1 ⟨rfl, hb1⟩)
    | (go_at_call 15; refine (unhide CR _).mono ?_; clear CR; rintro e W2 ⟨rfl, hb2⟩; have A2 := four_alloc (.int .i64 2) (.int .i64 5) (.int .i64 0) (.string ⟨#[]⟩) 24 W2)
    | (go_at_call 20; refine (row_known2 (W2.alloc (.cells #[.int .i64 2, .int .i64 5, .int .i64 0, .string ⟨#[]⟩] 24)) (W2.heap.size + 1) (by simp)).mono ?_; rintro e W3 ⟨rfl, hb3⟩; have A3 := four_call (four_more A2 (.cells #[.int .i64 0, .int .i64 0, .int .i64 0, .string ⟨#[]⟩, .int .i64 4, .int .i64 0, .int .i64 0, .string ⟨#[97]⟩] 24)) hb3)
    | (go_at_call 21; refine (readRow_known W3).mono ?_; rintro e W4 ⟨g4, c4, rfl, hr4, hg4, hb4⟩; have A4 := four_call A3 hb4)
    | (go_at_call 14; refine (unhide C0 _).mono ?_; rintro e W5 ⟨rfl, hb5⟩; have A5 := four_call A4 hb5; obtain ⟨_, a0, a1, a2, a3, _⟩ := id A5; have r5 := (hb5.cell (p := ⟨g4, 7, none⟩) hg4).trans hr4))
  go_ret
  refine ⟨rfl, ?_⟩
  have s1 := hb1.size
  have s2 := hb2.size
  have s3 := hb3.size
  have s4 := hb4.size
  have q2 : Below w.heap.size w W2 := hb1.trans (hb2.mono s1)
  have q3 : Below w.heap.size w ((W2.alloc (.cells #[.int .i64 2, .int .i64 5, .int .i64 0, .string ⟨#[]⟩] 24)).alloc (.cells #[.int .i64 0, .int .i64 0, .int .i64 0, .string ⟨#[]⟩, .int .i64 4, .int .i64 0, .int .i64 0, .string ⟨#[97]⟩] 24)) := (q2.alloc (by omega) _).alloc (by simp; omega) _
  have q4 := q3.trans (hb3.mono (by simp; omega))
  have q5 := q4.trans (hb4.mono (by simp at s3; omega))
  exact q5.trans (hb5.mono (by simp at s3; omega))
end Go.Proofs.Ytbpjejjbgdikdaa
