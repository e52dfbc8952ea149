/-
  That the statements' own function known returns true (chapter 4).
-/
import Derived.Test.YtliefgkhpgigaaaEZ
namespace Go.Proofs.Ytliefgkhpgigaaa
open Go.RowKit
set_option linter.unusedSimpArgs false
set_option linter.unusedVariables false

abbrev knC : List C3 := [(⟨#[97]⟩, 2, false)]
abbrev knX : Ex := twoX 7 (colX ⟨#[97]⟩) (.leaf 1 S0 (2, 2, 0, S0))
theorem knX_ok : ExOk knX := ⟨okZ, okZ, ⟨is64_n _ (by decide), by decide, fun h => by simp at h, by decide⟩⟩
set_option maxHeartbeats 4000000 in
set_option maxRecDepth 100000 in
theorem known4_any (w : World) :
    Calls Try.prog 12 #[] w fun e w' => e = .returned (.bool true) ∧ Below w.heap.size w w' := by
  have b0 := Blk.new w (colC knC).toArray 63
  replace b0 := b0.call (below_new (w.alloc (.cells (colC knC).toArray 63)) (.cells #[.string S0, .slice (some ⟨w.heap.size, 0, none⟩) 1 1, .int .i64 0, N0, .int .i64 0, .string S0, .int .i64 0, .int .i64 0, .int .i64 0, .string S0, N0, N0] 34))
  replace b0 := b0.call (below_new ((w.alloc (.cells (colC knC).toArray 63)).alloc (.cells #[.string S0, .slice (some ⟨w.heap.size, 0, none⟩) 1 1, .int .i64 0, N0, .int .i64 0, .string S0, .int .i64 0, .int .i64 0, .int .i64 0, .string S0, N0, N0] 34)) (.cells #[.int .i64 1, .string S0, .int .i64 0, .int .i64 0, .int .i64 0, .string S0, N0] 31))
  replace b0 := b0.call (below_new (((w.alloc (.cells (colC knC).toArray 63)).alloc (.cells #[.string S0, .slice (some ⟨w.heap.size, 0, none⟩) 1 1, .int .i64 0, N0, .int .i64 0, .string S0, .int .i64 0, .int .i64 0, .int .i64 0, .string S0, N0, N0] 34)).alloc (.cells #[.int .i64 1, .string S0, .int .i64 0, .int .i64 0, .int .i64 0, .string S0, N0] 31)) (.cells #[.int .i64 2, .string ⟨#[97]⟩, .int .i64 0, .int .i64 0, .int .i64 0, .string S0, N0, .int .i64 1, .string S0, .int .i64 2, .int .i64 2, .int .i64 0, .string S0, N0] 31))
  replace b0 := b0.call (below_new ((((w.alloc (.cells (colC knC).toArray 63)).alloc (.cells #[.string S0, .slice (some ⟨w.heap.size, 0, none⟩) 1 1, .int .i64 0, N0, .int .i64 0, .string S0, .int .i64 0, .int .i64 0, .int .i64 0, .string S0, N0, N0] 34)).alloc (.cells #[.int .i64 1, .string S0, .int .i64 0, .int .i64 0, .int .i64 0, .string S0, N0] 31)).alloc (.cells #[.int .i64 2, .string ⟨#[97]⟩, .int .i64 0, .int .i64 0, .int .i64 0, .string S0, N0, .int .i64 1, .string S0, .int .i64 2, .int .i64 2, .int .i64 0, .string S0, N0] 31)) (.cells #[.int .i64 7, .string S0, .int .i64 0, .int .i64 0, .int .i64 0, .string S0, .slice (some ⟨w.heap.size + 1 + 1 + 1, 0, none⟩) 2 2] 31))
  have b1 := Blk.new (w.alloc (.cells (colC knC).toArray 63)) #[.string S0, .slice (some ⟨w.heap.size, 0, none⟩) 1 1, .int .i64 0, N0, .int .i64 0, .string S0, .int .i64 0, .int .i64 0, .int .i64 0, .string S0, N0, N0] 34
  rw [World.size_alloc] at b1
  replace b1 := b1.call (below_new ((w.alloc (.cells (colC knC).toArray 63)).alloc (.cells #[.string S0, .slice (some ⟨w.heap.size, 0, none⟩) 1 1, .int .i64 0, N0, .int .i64 0, .string S0, .int .i64 0, .int .i64 0, .int .i64 0, .string S0, N0, N0] 34)) (.cells #[.int .i64 1, .string S0, .int .i64 0, .int .i64 0, .int .i64 0, .string S0, N0] 31))
  replace b1 := b1.call (below_new (((w.alloc (.cells (colC knC).toArray 63)).alloc (.cells #[.string S0, .slice (some ⟨w.heap.size, 0, none⟩) 1 1, .int .i64 0, N0, .int .i64 0, .string S0, .int .i64 0, .int .i64 0, .int .i64 0, .string S0, N0, N0] 34)).alloc (.cells #[.int .i64 1, .string S0, .int .i64 0, .int .i64 0, .int .i64 0, .string S0, N0] 31)) (.cells #[.int .i64 2, .string ⟨#[97]⟩, .int .i64 0, .int .i64 0, .int .i64 0, .string S0, N0, .int .i64 1, .string S0, .int .i64 2, .int .i64 2, .int .i64 0, .string S0, N0] 31))
  replace b1 := b1.call (below_new ((((w.alloc (.cells (colC knC).toArray 63)).alloc (.cells #[.string S0, .slice (some ⟨w.heap.size, 0, none⟩) 1 1, .int .i64 0, N0, .int .i64 0, .string S0, .int .i64 0, .int .i64 0, .int .i64 0, .string S0, N0, N0] 34)).alloc (.cells #[.int .i64 1, .string S0, .int .i64 0, .int .i64 0, .int .i64 0, .string S0, N0] 31)).alloc (.cells #[.int .i64 2, .string ⟨#[97]⟩, .int .i64 0, .int .i64 0, .int .i64 0, .string S0, N0, .int .i64 1, .string S0, .int .i64 2, .int .i64 2, .int .i64 0, .string S0, N0] 31)) (.cells #[.int .i64 7, .string S0, .int .i64 0, .int .i64 0, .int .i64 0, .string S0, .slice (some ⟨w.heap.size + 1 + 1 + 1, 0, none⟩) 2 2] 31))
  have b2 := Blk.new ((w.alloc (.cells (colC knC).toArray 63)).alloc (.cells #[.string S0, .slice (some ⟨w.heap.size, 0, none⟩) 1 1, .int .i64 0, N0, .int .i64 0, .string S0, .int .i64 0, .int .i64 0, .int .i64 0, .string S0, N0, N0] 34)) #[.int .i64 1, .string S0, .int .i64 0, .int .i64 0, .int .i64 0, .string S0, N0] 31
  rw [World.size_alloc, World.size_alloc] at b2
  replace b2 := b2.call (below_new (((w.alloc (.cells (colC knC).toArray 63)).alloc (.cells #[.string S0, .slice (some ⟨w.heap.size, 0, none⟩) 1 1, .int .i64 0, N0, .int .i64 0, .string S0, .int .i64 0, .int .i64 0, .int .i64 0, .string S0, N0, N0] 34)).alloc (.cells #[.int .i64 1, .string S0, .int .i64 0, .int .i64 0, .int .i64 0, .string S0, N0] 31)) (.cells #[.int .i64 2, .string ⟨#[97]⟩, .int .i64 0, .int .i64 0, .int .i64 0, .string S0, N0, .int .i64 1, .string S0, .int .i64 2, .int .i64 2, .int .i64 0, .string S0, N0] 31))
  replace b2 := b2.call (below_new ((((w.alloc (.cells (colC knC).toArray 63)).alloc (.cells #[.string S0, .slice (some ⟨w.heap.size, 0, none⟩) 1 1, .int .i64 0, N0, .int .i64 0, .string S0, .int .i64 0, .int .i64 0, .int .i64 0, .string S0, N0, N0] 34)).alloc (.cells #[.int .i64 1, .string S0, .int .i64 0, .int .i64 0, .int .i64 0, .string S0, N0] 31)).alloc (.cells #[.int .i64 2, .string ⟨#[97]⟩, .int .i64 0, .int .i64 0, .int .i64 0, .string S0, N0, .int .i64 1, .string S0, .int .i64 2, .int .i64 2, .int .i64 0, .string S0, N0] 31)) (.cells #[.int .i64 7, .string S0, .int .i64 0, .int .i64 0, .int .i64 0, .string S0, .slice (some ⟨w.heap.size + 1 + 1 + 1, 0, none⟩) 2 2] 31))
  have b3 := Blk.new (((w.alloc (.cells (colC knC).toArray 63)).alloc (.cells #[.string S0, .slice (some ⟨w.heap.size, 0, none⟩) 1 1, .int .i64 0, N0, .int .i64 0, .string S0, .int .i64 0, .int .i64 0, .int .i64 0, .string S0, N0, N0] 34)).alloc (.cells #[.int .i64 1, .string S0, .int .i64 0, .int .i64 0, .int .i64 0, .string S0, N0] 31)) #[.int .i64 2, .string ⟨#[97]⟩, .int .i64 0, .int .i64 0, .int .i64 0, .string S0, N0, .int .i64 1, .string S0, .int .i64 2, .int .i64 2, .int .i64 0, .string S0, N0] 31
  rw [World.size_alloc, World.size_alloc, World.size_alloc] at b3
  replace b3 := b3.call (below_new ((((w.alloc (.cells (colC knC).toArray 63)).alloc (.cells #[.string S0, .slice (some ⟨w.heap.size, 0, none⟩) 1 1, .int .i64 0, N0, .int .i64 0, .string S0, .int .i64 0, .int .i64 0, .int .i64 0, .string S0, N0, N0] 34)).alloc (.cells #[.int .i64 1, .string S0, .int .i64 0, .int .i64 0, .int .i64 0, .string S0, N0] 31)).alloc (.cells #[.int .i64 2, .string ⟨#[97]⟩, .int .i64 0, .int .i64 0, .int .i64 0, .string S0, N0, .int .i64 1, .string S0, .int .i64 2, .int .i64 2, .int .i64 0, .string S0, N0] 31)) (.cells #[.int .i64 7, .string S0, .int .i64 0, .int .i64 0, .int .i64 0, .string S0, .slice (some ⟨w.heap.size + 1 + 1 + 1, 0, none⟩) 2 2] 31))
  have b4 := Blk.new ((((w.alloc (.cells (colC knC).toArray 63)).alloc (.cells #[.string S0, .slice (some ⟨w.heap.size, 0, none⟩) 1 1, .int .i64 0, N0, .int .i64 0, .string S0, .int .i64 0, .int .i64 0, .int .i64 0, .string S0, N0, N0] 34)).alloc (.cells #[.int .i64 1, .string S0, .int .i64 0, .int .i64 0, .int .i64 0, .string S0, N0] 31)).alloc (.cells #[.int .i64 2, .string ⟨#[97]⟩, .int .i64 0, .int .i64 0, .int .i64 0, .string S0, N0, .int .i64 1, .string S0, .int .i64 2, .int .i64 2, .int .i64 0, .string S0, N0] 31)) #[.int .i64 7, .string S0, .int .i64 0, .int .i64 0, .int .i64 0, .string S0, .slice (some ⟨w.heap.size + 1 + 1 + 1, 0, none⟩) 2 2] 31
  rw [World.size_alloc, World.size_alloc, World.size_alloc, World.size_alloc] at b4
  have G : Grown w (((((w.alloc (.cells (colC knC).toArray 63)).alloc (.cells #[.string S0, .slice (some ⟨w.heap.size, 0, none⟩) 1 1, .int .i64 0, N0, .int .i64 0, .string S0, .int .i64 0, .int .i64 0, .int .i64 0, .string S0, N0, N0] 34)).alloc (.cells #[.int .i64 1, .string S0, .int .i64 0, .int .i64 0, .int .i64 0, .string S0, N0] 31)).alloc (.cells #[.int .i64 2, .string ⟨#[97]⟩, .int .i64 0, .int .i64 0, .int .i64 0, .string S0, N0, .int .i64 1, .string S0, .int .i64 2, .int .i64 2, .int .i64 0, .string S0, N0] 31)).alloc (.cells #[.int .i64 7, .string S0, .int .i64 0, .int .i64 0, .int .i64 0, .string S0, .slice (some ⟨w.heap.size + 1 + 1 + 1, 0, none⟩) 2 2] 31)) := ((((below_new w _).alloc (by simp) _).alloc (by simp; omega) _).alloc (by simp; omega) _).alloc (by simp; omega) _
  replace G := hide G
  replace b0 := hide b0
  replace b1 := hide b1
  replace b3 := hide b3
  replace b4 := hide b4
  have hC := hide (cols_of (cap := 1) (cs := knC) (unhide b0) rfl (by decide))
  have C1 := hide (type_any (.string S0) (.int .i64 0) N0 (.int .i64 0) (.string S0) (.int .i64 0) (.int .i64 0) (.int .i64 0) (.string S0) N0 N0 (.slice (some ⟨w.heap.size, 0, none⟩) 1 1) N0 knC (.leaf 1 S0 Z4) _ (unhide hC) (by decide) rfl)
  have r1 : foldF 0 (typeF knC) (.leaf 1 S0 Z4) = (0, 0) := by decide +kernel
  rw [r1] at C1
  have r2 : evalR knC [(2, 5, 0, S0)] knX = ((2, 7, 0, E0), 0) := by decide +kernel
  clear r1 b2
  go_enter Try.func12, Try.ntmps12
  go_wp2_with fail
  refine (unhide C1).mono ?_
  rintro e W1 ⟨rfl, hb1⟩
  clear C1
  replace hC := hide ((unhide hC).call hb1)
  replace G := hide ((unhide G).call hb1)
  replace b1 := hide ((unhide b1).call hb1)
  replace b3 := hide ((unhide b3).call hb1)
  replace b4 := hide ((unhide b4).call hb1)
  have lt1 := (unhide b1).lt
  have lt4 := (unhide b4).lt
  have c0 := (unhide b1).cell 0
  have c1 := (unhide b1).cell 1
  have c2 := (unhide b1).cell 2
  have c3 := (unhide b1).cell 3
  have c4 := (unhide b1).cell 4
  have c5 := (unhide b1).cell 5
  have c6 := (unhide b1).cell 6
  have c7 := (unhide b1).cell 7
  have c8 := (unhide b1).cell 8
  have c9 := (unhide b1).cell 9
  have c10 := (unhide b1).cell 10
  have c11 := (unhide b1).cell 11
  have d0 := (unhide b4).cell 0
  have d1 := (unhide b4).cell 1
  have d2 := (unhide b4).cell 2
  have d3 := (unhide b4).cell 3
  have d4 := (unhide b4).cell 4
  have d5 := (unhide b4).cell 5
  have d6 := (unhide b4).cell 6
  simp at c0 c1 c2 c3 c4 c5 c6 c7 c8 c9 c10 c11 d0 d1 d2 d3 d4 d5 d6
  clear hb1
  go_wp2_with fail
  have g1 := below_new W1 (.cells (rowC [(2, 5, 0, S0)]).toArray 28)
  have hR := row_of (vs := [(2, 5, 0, S0)]) (Blk.new W1 (rowC [(2, 5, 0, S0)]).toArray 28) rfl (by decide)
  have C2 := eval_any (.string S0) (.int .i64 0) N0 (.int .i64 0) (.string S0) (.int .i64 0) (.int .i64 0) (.int .i64 0) (.string S0) N0 N0 (.slice (some ⟨w.heap.size, 0, none⟩) 1 1) knC (some ⟨W1.heap.size, 0, none⟩) [(2, 5, 0, S0)] 1 knX (.slice (some ⟨w.heap.size + 1 + 1 + 1, 0, none⟩) 2 2) _ ((unhide hC).call g1) hR (by intro v hv; simp at hv; subst hv; exact ⟨is64_n _ (by decide), by decide, fun h => by simp at h, by decide⟩) (by decide) ⟨_, _, _, _, rfl, cells_of ((unhide b3).call g1) rfl, cells_of ((unhide b3).call g1) rfl, rfl, rfl⟩ knX_ok
  rw [r2] at C2
  refine C2.mono ?_
  rintro e W2 ⟨rfl, hb2⟩
  clear C2 hR
  have hb2 := g1.trans (hb2.mono g1.size)
  clear c0 c1 c2 c3 c4 c5 c6 c7 c8 c9 c10 c11 d0 d1 d2 d3 d4 d5 d6 lt1 lt4
  replace hC := hide ((unhide hC).call hb2)
  replace G := hide ((unhide G).call hb2)
  replace b1 := hide ((unhide b1).call hb2)
  have lt1 := (unhide b1).lt
  have c0 := (unhide b1).cell 0
  have c1 := (unhide b1).cell 1
  have c2 := (unhide b1).cell 2
  have c3 := (unhide b1).cell 3
  have c4 := (unhide b1).cell 4
  have c5 := (unhide b1).cell 5
  have c6 := (unhide b1).cell 6
  have c7 := (unhide b1).cell 7
  have c8 := (unhide b1).cell 8
  have c9 := (unhide b1).cell 9
  have c10 := (unhide b1).cell 10
  have c11 := (unhide b1).cell 11
  simp at c0 c1 c2 c3 c4 c5 c6 c7 c8 c9 c10 c11
  clear hb2 g1 b3 b4 r2
  go_wp2_with fail
  refine (holds_0 _ _ _ _ _ _ _ _ _ _ _ _ _ (.leaf 0 S0 Z4) N0 _ rfl).mono ?_
  rintro e W3 ⟨rfl, hb3⟩
  have g2 := (below_new W2 (.cells #[.int .i64 2, .int .i64 7, .int .i64 0, .string E0] 28)).alloc (by simp) (.cells (vC Z4).toArray 28)
  have v6 := ((Blk.new W2 #[.int .i64 2, .int .i64 7, .int .i64 0, .string E0] 28).call (below_new _ (.cells (vC Z4).toArray 28))).call hb3
  have GF := hide ((unhide G).call (g2.trans (hb3.mono g2.size)))
  have lt6 := v6.lt
  have v61 := v6.cell 1
  simp at v61
  clear v6 hb3 g2 c0 c1 c2 c3 c4 c5 c6 c7 c8 c9 c10 c11 lt1 G hC b1
  go_wp2_with fail
  go_ret
  exact ⟨rfl, unhide GF⟩
end Go.Proofs.Ytliefgkhpgigaaa
