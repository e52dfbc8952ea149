/-
  Walks of the law ValInts, by its cases.
-/
import Derived.Test.YtglbghgenckgeaaWI0
import Derived.Test.YtglbghgenckgeaaJ
import Derived.Deep.CutRange
namespace Go.Proofs.Ytglbghgenckgeaa
open Go.RowKit
set_option linter.unusedSimpArgs false
set_option linter.unusedVariables false
attribute [local go_sem] undef

set_option maxHeartbeats 4000000 in
set_option maxRecDepth 100000 in
theorem ints_small (a b : Int) (w : World) (ha : Is64 a) (hb : Is64 b) :
    Calls Try.prog 11 #[.int .i64 a, .int .i64 b, .bool true] w fun e w' => e = .returned (.bool true) ∧ Below w.heap.size w w' := by
  have WA := hide (fun W => within_any a 2147483648 W ha (by decide))
  have WB := hide (fun W => within_any b 2147483648 W hb (by decide))
  have ba0 := Int.emod_nonneg a (show (2147483648 : Int) ≠ 0 by decide)
  have ba1 := Int.emod_lt_of_pos a (show (0 : Int) < 2147483648 by decide)
  have bb0 := Int.emod_nonneg b (show (2147483648 : Int) ≠ 0 by decide)
  have bb1 := Int.emod_lt_of_pos b (show (0 : Int) < 2147483648 by decide)
  clear ha hb
  generalize a % 2147483648 = ra at *
  generalize b % 2147483648 = rb at *
  have iA : Is64 (ra - 1073741824) := by unfold Is64; omega
  have iB : Is64 (rb - 1073741824) := by unfold Is64; omega
  have iS : Is64 ((ra - 1073741824) + (rb - 1073741824)) := by unfold Is64; omega
  have iD : Is64 ((ra - 1073741824) - (rb - 1073741824)) := by unfold Is64; omega
  have iP : Is64 ((ra - 1073741824) * (rb - 1073741824)) := mul_small (by omega) (by omega)
  have CS := hide (fun W => reckon_ok 7 (ra - 1073741824) (rb - 1073741824) EZ EZ W iA iB (by decide) (inI_true iS))
  have CD := hide (fun W => reckon_ok 8 (ra - 1073741824) (rb - 1073741824) EZ EZ W iA iB (by decide) (inI_true iD))
  have CP := hide (fun W => reckon_ok 6 (ra - 1073741824) (rb - 1073741824) EZ EZ W iA iB (by decide) (inI_true iP))
  rw [show wrap64 (opN 7 (ra - 1073741824) (rb - 1073741824)) = (ra - 1073741824) + (rb - 1073741824) from wrap64_is _ iS] at CS
  rw [show wrap64 (opN 8 (ra - 1073741824) (rb - 1073741824)) = (ra - 1073741824) - (rb - 1073741824) from wrap64_is _ iD] at CD
  rw [show wrap64 (opN 6 (ra - 1073741824) (rb - 1073741824)) = wrap64 ((ra - 1073741824) * (rb - 1073741824)) from rfl] at CP
  clear iA iB iS iD iP
  have hL := hide (Below.refl w.heap.size w)
  go_enter Try.func11, Try.ntmps11
  go_wp2_with fail
  refine (known_any _).mono ?_
  rintro e w1 ⟨rfl, hb1⟩
  replace hL := hide ((unhide hL).trans (hb1.mono (unhide hL).size))
  clear hb1
  go_wp2_with fail
  refine (unhide WA _).mono ?_
  rintro e wq2 ⟨rfl, rfl⟩
  go_wp2_with fail
  refine (unhide WB _).mono ?_
  rintro e wq3 ⟨rfl, rfl⟩
  go_wp2_with fail
  have hx := hide (four_alloc (.int .i64 2) (.int .i64 (ra - 1073741824)) (.int .i64 0) (.string EZ) 23 wq3)
  replace hL := hide ((unhide hL).alloc (unhide hL).size (.cells #[.int .i64 2, .int .i64 (ra - 1073741824), .int .i64 0, .string EZ] 23))
  replace hx := hide (four_more (unhide hx) (.cells #[.int .i64 2, .int .i64 (rb - 1073741824), .int .i64 0, .string EZ] 23))
  have hy := hide (four_alloc (.int .i64 2) (.int .i64 (rb - 1073741824)) (.int .i64 0) (.string EZ) 23 (wq3.alloc (.cells #[.int .i64 2, .int .i64 (ra - 1073741824), .int .i64 0, .string EZ] 23)))
  replace hL := hide ((unhide hL).alloc (unhide hL).size (.cells #[.int .i64 2, .int .i64 (rb - 1073741824), .int .i64 0, .string EZ] 23))
  simp only [World.size_alloc] at hy
  refine (unhide CS _).mono ?_
  rintro e w4 ⟨rfl, hb4⟩
  replace hx := hide (four_call (unhide hx) hb4)
  replace hy := hide (four_call (unhide hy) hb4)
  replace hL := hide ((unhide hL).trans (hb4.mono (unhide hL).size))
  clear hb4
  replace hx := hide (four_more (unhide hx) (.cells #[.int .i64 2, .int .i64 ((ra - 1073741824) + (rb - 1073741824)), .int .i64 0, .string E0] 23))
  replace hy := hide (four_more (unhide hy) (.cells #[.int .i64 2, .int .i64 ((ra - 1073741824) + (rb - 1073741824)), .int .i64 0, .string E0] 23))
  have hs := hide (four_alloc (.int .i64 2) (.int .i64 ((ra - 1073741824) + (rb - 1073741824))) (.int .i64 0) (.string E0) 23 w4)
  replace hL := hide ((unhide hL).alloc (unhide hL).size (.cells #[.int .i64 2, .int .i64 ((ra - 1073741824) + (rb - 1073741824)), .int .i64 0, .string E0] 23))
  obtain ⟨-, x0, x1, x2, x3, -⟩ := unhide hx
  obtain ⟨-, y0, y1, y2, y3, -⟩ := unhide hy
  go_wp2_with fail
  refine (unhide CD _).mono ?_
  rintro e w5 ⟨rfl, hb5⟩
  clear x0 x1 x2 x3 y0 y1 y2 y3
  replace hx := hide (four_call (unhide hx) hb5)
  replace hy := hide (four_call (unhide hy) hb5)
  replace hs := hide (four_call (unhide hs) hb5)
  replace hL := hide ((unhide hL).trans (hb5.mono (unhide hL).size))
  clear hb5
  replace hx := hide (four_more (unhide hx) (.cells #[.int .i64 2, .int .i64 ((ra - 1073741824) - (rb - 1073741824)), .int .i64 0, .string E0] 23))
  replace hy := hide (four_more (unhide hy) (.cells #[.int .i64 2, .int .i64 ((ra - 1073741824) - (rb - 1073741824)), .int .i64 0, .string E0] 23))
  replace hs := hide (four_more (unhide hs) (.cells #[.int .i64 2, .int .i64 ((ra - 1073741824) - (rb - 1073741824)), .int .i64 0, .string E0] 23))
  have hd := hide (four_alloc (.int .i64 2) (.int .i64 ((ra - 1073741824) - (rb - 1073741824))) (.int .i64 0) (.string E0) 23 w5)
  replace hL := hide ((unhide hL).alloc (unhide hL).size (.cells #[.int .i64 2, .int .i64 ((ra - 1073741824) - (rb - 1073741824)), .int .i64 0, .string E0] 23))
  obtain ⟨-, x0, x1, x2, x3, -⟩ := unhide hx
  obtain ⟨-, y0, y1, y2, y3, -⟩ := unhide hy
  go_wp2_with fail
  refine (unhide CP _).mono ?_
  rintro e w6 ⟨rfl, hb6⟩
  clear x0 x1 x2 x3 y0 y1 y2 y3
  replace hx := hide (four_call (unhide hx) hb6)
  replace hy := hide (four_call (unhide hy) hb6)
  replace hs := hide (four_call (unhide hs) hb6)
  replace hd := hide (four_call (unhide hd) hb6)
  replace hL := hide ((unhide hL).trans (hb6.mono (unhide hL).size))
  clear hb6
  replace hx := hide (four_more (unhide hx) (.cells #[.int .i64 2, .int .i64 (wrap64 ((ra - 1073741824) * (rb - 1073741824))), .int .i64 0, .string E0] 23))
  replace hy := hide (four_more (unhide hy) (.cells #[.int .i64 2, .int .i64 (wrap64 ((ra - 1073741824) * (rb - 1073741824))), .int .i64 0, .string E0] 23))
  replace hs := hide (four_more (unhide hs) (.cells #[.int .i64 2, .int .i64 (wrap64 ((ra - 1073741824) * (rb - 1073741824))), .int .i64 0, .string E0] 23))
  replace hd := hide (four_more (unhide hd) (.cells #[.int .i64 2, .int .i64 (wrap64 ((ra - 1073741824) * (rb - 1073741824))), .int .i64 0, .string E0] 23))
  have hp := hide (four_alloc (.int .i64 2) (.int .i64 (wrap64 ((ra - 1073741824) * (rb - 1073741824)))) (.int .i64 0) (.string E0) 23 w6)
  replace hL := hide ((unhide hL).alloc (unhide hL).size (.cells #[.int .i64 2, .int .i64 (wrap64 ((ra - 1073741824) * (rb - 1073741824))), .int .i64 0, .string E0] 23))
  obtain ⟨-, -, s1, -, -, -⟩ := unhide hs
  obtain ⟨-, -, d1, -, -, -⟩ := unhide hd
  obtain ⟨-, -, p1, -, -, -⟩ := unhide hp
  clear CS CD CP WA WB hx hy hs hd hp
  go_wp2_with fail
  go_ret
  exact ⟨rfl, unhide hL⟩
end Go.Proofs.Ytglbghgenckgeaa
