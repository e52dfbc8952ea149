/-
  That the statements' own function known returns true.
-/
import Derived.Test.YtglbghgenckgeaaP0
namespace Go.Proofs.Ytglbghgenckgeaa
open Go.RowKit
set_option linter.unusedSimpArgs false
set_option linter.unusedVariables false

theorem is64_lit {n : Int} (h : inI n = true) : Is64 n := is64_of h
abbrev EZ : ByteArray := ⟨#[]⟩
theorem less_a (w : World) : Calls Try.prog 21 #[V 2 1 0 EZ, V 2 2 0 EZ] w fun e w' => e = .returned (.tuple #[.bool true, .bool true]) ∧ Below w.heap.size w w' :=
  (less_any 2 1 0 EZ 2 2 0 EZ w (is64_lit (by decide +kernel)) (is64_lit (by decide +kernel)) (by decide) (by decide)).mono (fun _ _ h => ⟨h.1.trans (tup_bb (by decide +kernel) (by decide +kernel)), h.2⟩)
theorem less_b (w : World) : Calls Try.prog 21 #[V 2 1 0 EZ, V 0 0 0 EZ] w fun e w' => e = .returned (.tuple #[.bool false, .bool false]) ∧ Below w.heap.size w w' :=
  (less_any 2 1 0 EZ 0 0 0 EZ w (is64_lit (by decide +kernel)) (is64_lit (by decide +kernel)) (by decide) (by decide)).mono (fun _ _ h => ⟨h.1.trans (tup_bb (by decide +kernel) (by decide +kernel)), h.2⟩)
theorem order_a (w : World) : Calls Try.prog 20 #[V 2 1 0 EZ, V 2 2 0 EZ] w fun e w' => e = .returned (.int .i64 (-1)) ∧ Below w.heap.size w w' :=
  (order_any 2 1 0 EZ 2 2 0 EZ w (is64_lit (by decide +kernel)) (is64_lit (by decide +kernel)) (by decide) (by decide)).mono (fun _ _ h => ⟨h.1.trans (ret_int (by decide +kernel)), h.2⟩)
theorem right_a (w : World) : Calls Try.prog 15 #[V 2 1 0 EZ] w fun e w' => e = .returned (.bool true) ∧ Below w.heap.size w w' :=
  (right_any 2 1 0 EZ w (by decide)).mono (fun _ _ h => ⟨h.1.trans (ret_bool (by decide +kernel)), h.2⟩)
theorem recV_eq {r : (Int × Int × Int) × Int} {a b c d : Int} (h : r = ((a, b, c), d)) : Ending.returned (recV r) = .returned (.tuple #[V a b c E0, .int .i64 d]) := (retR h).symm
theorem reckon_a (w : World) : Calls Try.prog 26 #[.int .i64 7, V 2 1 0 EZ, V 2 2 0 EZ] w fun e w' => e = .returned (.tuple #[V 2 3 0 E0, .int .i64 0]) ∧ Below w.heap.size w w' :=
  (reckon_any 7 2 1 0 EZ 2 2 0 EZ w (is64_lit (by decide +kernel)) (is64_lit (by decide +kernel)) (by decide) (by decide)).mono (fun _ _ h => ⟨h.1.trans (recV_eq (by decide +kernel)), h.2⟩)
theorem norm_a (w : World) : Calls Try.prog 16 #[V 3 150 2 EZ] w fun e w' => e = .returned (V 3 15 1 EZ) ∧ Below w.heap.size w w' :=
  (norm_any 3 150 2 EZ w (is64_lit (by decide +kernel)) (is64_lit (by decide +kernel))).mono (fun _ _ h => ⟨h.1.trans (retV (by decide +kernel) (by decide +kernel)), h.2⟩)

set_option maxHeartbeats 2000000 in
set_option maxRecDepth 100000 in
theorem known_any (w : World) :
    Calls Try.prog 13 #[] w fun e w' => e = .returned (.bool true) ∧ Below w.heap.size w w' := by
  have hfld : ∀ wx : World, (Instr.field 23 (V 3 15 1 EZ) 1).run Try.prog wx = .ok (.int .i64 15) wx := fun _ => by kernel_rfl
  go_enter Try.func13, Try.ntmps13
  go_wp2_with fail
  refine (less_a _).mono ?_
  rintro e w1 ⟨rfl, hb1⟩
  have hA := four_more (four_alloc (.int .i64 2) (.int .i64 1) (.int .i64 0) (.string EZ) 23 w) (.cells #[.int .i64 2, .int .i64 2, .int .i64 0, .string EZ] 23)
  have hB := four_alloc (.int .i64 2) (.int .i64 2) (.int .i64 0) (.string EZ) 23 (w.alloc (.cells #[.int .i64 2, .int .i64 1, .int .i64 0, .string EZ] 23))
  rw [World.size_alloc] at hB
  have hL := ((((Below.refl _ w).alloc (Nat.le_refl _) (.cells #[.int .i64 2, .int .i64 1, .int .i64 0, .string EZ] 23)).alloc (by simp) (.cells #[.int .i64 2, .int .i64 2, .int .i64 0, .string EZ] 23)).trans (hb1.mono (by simp; omega)))
  replace hA := hide (four_call hA hb1)
  replace hB := hide (four_call hB hb1)
  replace hL := hide hL
  clear hb1
  obtain ⟨-, a0, a1, a2, a3, -⟩ := unhide hA
  obtain ⟨-, b0, b1, b2, b3, -⟩ := unhide hB
  go_wp2_with fail
  refine (less_b _).mono ?_
  rintro e w2 ⟨rfl, hb2⟩
  clear a0 a1 a2 a3 b0 b1 b2 b3
  replace hA := hide (four_call (unhide hA) hb2)
  replace hB := hide (four_call (unhide hB) hb2)
  replace hL := hide ((unhide hL).trans (hb2.mono (unhide hL).size))
  clear hb2
  obtain ⟨-, a0, a1, a2, a3, -⟩ := unhide hA
  obtain ⟨-, b0, b1, b2, b3, -⟩ := unhide hB
  go_wp2_with fail
  refine (reckon_a _).mono ?_
  rintro e w3 ⟨rfl, hb3⟩
  clear a0 a1 a2 a3 b0 b1 b2 b3
  replace hA := hide (four_more (four_call (unhide hA) hb3) (.cells #[.int .i64 2, .int .i64 3, .int .i64 0, .string E0] 23))
  replace hB := hide (four_more (four_call (unhide hB) hb3) (.cells #[.int .i64 2, .int .i64 3, .int .i64 0, .string E0] 23))
  have hC := hide (four_alloc (.int .i64 2) (.int .i64 3) (.int .i64 0) (.string E0) 23 w3)
  replace hL := hide (((unhide hL).trans (hb3.mono (unhide hL).size)).alloc (Nat.le_trans (unhide hL).size hb3.size) (.cells #[.int .i64 2, .int .i64 3, .int .i64 0, .string E0] 23))
  clear hb3
  obtain ⟨-, a0, a1, a2, a3, -⟩ := unhide hA
  obtain ⟨-, b0, b1, b2, b3, -⟩ := unhide hB
  obtain ⟨-, c0, c1, c2, c3, -⟩ := unhide hC
  go_wp2_with fail
  refine (right_a _).mono ?_
  rintro e w4 ⟨rfl, hb4⟩
  clear a0 a1 a2 a3 b0 b1 b2 b3 c0 c1 c2 c3
  replace hA := hide (four_call (unhide hA) hb4)
  replace hB := hide (four_call (unhide hB) hb4)
  replace hC := hide (four_call (unhide hC) hb4)
  replace hL := hide ((unhide hL).trans (hb4.mono (unhide hL).size))
  clear hb4
  obtain ⟨-, a0, a1, a2, a3, -⟩ := unhide hA
  obtain ⟨-, b0, b1, b2, b3, -⟩ := unhide hB
  obtain ⟨-, c0, c1, c2, c3, -⟩ := unhide hC
  go_wp2_with fail
  refine (order_a _).mono ?_
  rintro e w5 ⟨rfl, hb5⟩
  clear a0 a1 a2 a3 b0 b1 b2 b3 c0 c1 c2 c3
  replace hA := hide (four_call (unhide hA) hb5)
  replace hB := hide (four_call (unhide hB) hb5)
  replace hC := hide (four_call (unhide hC) hb5)
  replace hL := hide ((unhide hL).trans (hb5.mono (unhide hL).size))
  clear hb5
  obtain ⟨-, a0, a1, a2, a3, -⟩ := unhide hA
  obtain ⟨-, b0, b1, b2, b3, -⟩ := unhide hB
  obtain ⟨-, c0, c1, c2, c3, -⟩ := unhide hC
  go_wp2_with fail
  refine (norm_a _).mono ?_
  rintro e w6 ⟨rfl, hb6⟩
  clear a0 a1 a2 a3 b0 b1 b2 b3 c0 c1 c2 c3
  replace hA := hide (four_call (unhide hA) hb6)
  replace hB := hide (four_call (unhide hB) hb6)
  replace hC := hide (four_call (unhide hC) hb6)
  replace hL := hide ((unhide hL).trans (hb6.mono (unhide hL).size))
  clear hb6
  obtain ⟨-, a0, a1, a2, a3, -⟩ := unhide hA
  obtain ⟨-, b0, b1, b2, b3, -⟩ := unhide hB
  obtain ⟨-, c0, c1, c2, c3, -⟩ := unhide hC
  go_wp2_with fail
  go_ret
  exact ⟨rfl, unhide hL⟩
end Go.Proofs.Ytglbghgenckgeaa
