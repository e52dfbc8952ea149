/-
  The walk of the law ValLaws.
-/
import Derived.Test.YtdifkecpcnakoaaWI0
import Derived.Test.YtdifkecpcnakoaaD
import Derived.Test.YtdifkecpcnakoaaE
import Derived.Test.YtdifkecpcnakoaaG
import Derived.Deep.CutRange
namespace Go.Proofs.Ytdifkecpcnakoaa
open Go.RowKit
set_option linter.unusedSimpArgs false
set_option linter.unusedVariables false
attribute [local go_sem ↓] Go.wp_at_zero Go.wp_at_succ

/-- the world has but grown; four values lie in blocks of their own, one behind the other -/
def S4 (w : World) (b : Nat) (k0 x0 x1 k1 y0 y1 k2 k3 : Int) (W : World) : Prop :=
  Below w.heap.size w W ∧ w.heap.size ≤ b ∧ Four b (.int .i64 k0) (.int .i64 x0) (.int .i64 x1) (.string EZ) W ∧ Four (b + 1) (.int .i64 k1) (.int .i64 y0) (.int .i64 y1) (.string EZ) W ∧
  Four (b + 1 + 1) (.int .i64 k2) (.int .i64 1) (.int .i64 0) (.string EZ) W ∧ Four (b + 1 + 1 + 1) (.int .i64 k3) (.int .i64 0) (.int .i64 0) (.string EZ) W
theorem s4_call {w : World} {b : Nat} {k0 x0 x1 k1 y0 y1 k2 k3 : Int} {W w1 : World} (h : S4 w b k0 x0 x1 k1 y0 y1 k2 k3 W) (hb : Below W.heap.size W w1) : S4 w b k0 x0 x1 k1 y0 y1 k2 k3 w1 :=
  ⟨h.1.trans (hb.mono h.1.size), h.2.1, four_call h.2.2.1 hb, four_call h.2.2.2.1 hb, four_call h.2.2.2.2.1 hb, four_call h.2.2.2.2.2 hb⟩
theorem s4_setx {w : World} {b : Nat} {k0 x0 x1 k1 y0 y1 k2 k3 : Int} {W : World} (h : S4 w b k0 x0 x1 k1 y0 y1 k2 k3 W) (n s : Int) :
    S4 w b 3 n s k1 y0 y1 k2 k3 ((((W.setCell ⟨b, 0, none⟩ (.int .i64 3)).setCell ⟨b, 1, none⟩ (.int .i64 n)).setCell ⟨b, 2, none⟩ (.int .i64 s)).setCell ⟨b, 3, none⟩ (.string EZ)) :=
  ⟨below_set4' h.1 h.2.1 _ _ _ _, h.2.1, four_set h.2.2.1 _ _ _ _, four_other (by omega) h.2.2.2.1 _ _ _ _, four_other (by omega) h.2.2.2.2.1 _ _ _ _, four_other (by omega) h.2.2.2.2.2 _ _ _ _⟩
theorem s4_sety {w : World} {b : Nat} {k0 x0 x1 k1 y0 y1 k2 k3 : Int} {W : World} (h : S4 w b k0 x0 x1 k1 y0 y1 k2 k3 W) (n s : Int) :
    S4 w b k0 x0 x1 3 n s k2 k3 ((((W.setCell ⟨b + 1, 0, none⟩ (.int .i64 3)).setCell ⟨b + 1, 1, none⟩ (.int .i64 n)).setCell ⟨b + 1, 2, none⟩ (.int .i64 s)).setCell ⟨b + 1, 3, none⟩ (.string EZ)) :=
  ⟨below_set4' h.1 (by have := h.2.1; omega) _ _ _ _, h.2.1, four_other (by omega) h.2.2.1 _ _ _ _, four_set h.2.2.2.1 _ _ _ _, four_other (by omega) h.2.2.2.2.1 _ _ _ _, four_other (by omega) h.2.2.2.2.2 _ _ _ _⟩
theorem s4_setk {w : World} {b : Nat} {k0 x0 x1 k1 y0 y1 k2 k3 : Int} {W : World} (h : S4 w b k0 x0 x1 k1 y0 y1 k2 k3 W) :
    S4 w b k0 x0 x1 k1 y0 y1 3 3 ((W.setCell ⟨b + 1 + 1, 0, none⟩ (.int .i64 3)).setCell ⟨b + 1 + 1 + 1, 0, none⟩ (.int .i64 3)) :=
  ⟨below_set0 (below_set0 h.1 (by have := h.2.1; omega) _) (by have := h.2.1; omega) _, h.2.1, four_other0 (by omega) (four_other0 (by omega) h.2.2.1 _) _, four_other0 (by omega) (four_other0 (by omega) h.2.2.2.1 _) _,
    four_other0 (by omega) (four_set0 h.2.2.2.2.1 _) _, four_set0 (four_other0 (by omega) h.2.2.2.2.2 _) _⟩

set_option maxHeartbeats 8000000 in
set_option maxRecDepth 100000 in
theorem laws_int (a b scale other ra rb sn ss nn ns uk un us ue : Int) (w : World)
    (WA : Hid (∀ W, Calls Try.prog 13 #[.int .i64 a, .int .i64 1073741824] W fun e w' => e = .returned (.int .i64 ra) ∧ w' = W))
    (WB : Hid (∀ W, Calls Try.prog 13 #[.int .i64 b, .int .i64 1073741824] W fun e w' => e = .returned (.int .i64 rb) ∧ w' = W))
    (a1 : 0 ≤ ra) (a2 : ra < 1073741824) (b1 : 0 ≤ rb) (b2 : rb < 1073741824)
    (C1 : Hid (∀ W, Calls Try.prog 22 #[.int .i64 7, V 2 (ra - 536870912) 0 EZ, V 2 (rb - 536870912) 0 EZ] W fun e w' => e = .returned (.tuple #[V 2 sn ss EZ, .int .i64 0]) ∧ Below W.heap.size W w'))
    (C2 : Hid (∀ W, Calls Try.prog 22 #[.int .i64 7, V 2 (rb - 536870912) 0 EZ, V 2 (ra - 536870912) 0 EZ] W fun e w' => e = .returned (.tuple #[V 2 sn ss EZ, .int .i64 0]) ∧ Below W.heap.size W w'))
    (C3 : Hid (∀ W, Calls Try.prog 22 #[.int .i64 8, V 2 sn ss EZ, V 2 (rb - 536870912) 0 EZ] W fun e w' => e = .returned (.tuple #[V 2 (ra - 536870912) 0 EZ, .int .i64 0]) ∧ Below W.heap.size W w'))
    (C4 : Hid (∀ W, Calls Try.prog 22 #[.int .i64 6, V 2 (ra - 536870912) 0 EZ, V 2 1 0 EZ] W fun e w' => e = .returned (.tuple #[V 2 (ra - 536870912) 0 EZ, .int .i64 0]) ∧ Below W.heap.size W w'))
    (C5 : Hid (∀ W, Calls Try.prog 22 #[.int .i64 7, V 2 (ra - 536870912) 0 EZ, V 2 0 0 EZ] W fun e w' => e = .returned (.tuple #[V 2 (ra - 536870912) 0 EZ, .int .i64 0]) ∧ Below W.heap.size W w'))
    (C6 : Hid (∀ W, Calls Try.prog 22 #[.int .i64 4, V 2 (ra - 536870912) 0 EZ, V 2 0 0 EZ] W fun e w' => e = .returned (.tuple #[V 2 nn ns EZ, .int .i64 0]) ∧ Below W.heap.size W w'))
    (C7 : Hid (∀ W, Calls Try.prog 22 #[.int .i64 8, V 2 0 0 EZ, V 2 (ra - 536870912) 0 EZ] W fun e w' => e = .returned (.tuple #[V 2 nn ns EZ, .int .i64 0]) ∧ Below W.heap.size W w'))
    (C8 : Hid (∀ W, Calls Try.prog 22 #[.int .i64 6, V 2 (ra - 536870912) 0 EZ, V 2 (rb - 536870912) 0 EZ] W fun e w' => e = .returned (.tuple #[V uk un us EZ, .int .i64 ue]) ∧ Below W.heap.size W w'))
    (C9 : Hid (∀ W, Calls Try.prog 22 #[.int .i64 6, V 2 (rb - 536870912) 0 EZ, V 2 (ra - 536870912) 0 EZ] W fun e w' => e = .returned (.tuple #[V uk un us EZ, .int .i64 ue]) ∧ Below W.heap.size W w'))
    : Calls Try.prog 6 #[.int .i64 a, .int .i64 b, .int .i64 scale, .int .i64 other, .bool false] w fun e w' => e = .returned (.bool true) ∧ Below w.heap.size w w' := by
  have hL := hide (Below.refl w.heap.size w)
  go_enter Try.func6, Try.ntmps6
  go_wp2_with fail
  refine (known_any _).mono ?_
  rintro e w1 ⟨rfl, hb1⟩
  replace hL := hide ((unhide hL).trans (hb1.mono (unhide hL).size))
  clear hb1
  go_wp2_with fail
  refine (unhide WA _).mono ?_
  rintro e wq2 ⟨rfl, rfl⟩
  go_wp2_with fail
  refine (unhide WB _).mono ?_
  rintro e wq3 ⟨rfl, rfl⟩
  go_wp2_with fail
  clear WA WB
  have hx := hide (four_alloc (.int .i64 2) (.int .i64 (ra - 536870912)) (.int .i64 0) (.string EZ) 23 wq3)
  replace hL := hide ((unhide hL).alloc (unhide hL).size (.cells #[.int .i64 2, .int .i64 (ra - 536870912), .int .i64 0, .string EZ] 23))
  replace hx := hide (four_more (unhide hx) (.cells #[.int .i64 2, .int .i64 (rb - 536870912), .int .i64 0, .string EZ] 23))
  have hy := hide (four_alloc (.int .i64 2) (.int .i64 (rb - 536870912)) (.int .i64 0) (.string EZ) 23 (wq3.alloc (.cells #[.int .i64 2, .int .i64 (ra - 536870912), .int .i64 0, .string EZ] 23)))
  replace hL := hide ((unhide hL).alloc (unhide hL).size (.cells #[.int .i64 2, .int .i64 (rb - 536870912), .int .i64 0, .string EZ] 23))
  simp only [World.size_alloc] at hy
  replace hx := hide (four_more (unhide hx) (.cells #[.int .i64 2, .int .i64 1, .int .i64 0, .string EZ] 23))
  replace hy := hide (four_more (unhide hy) (.cells #[.int .i64 2, .int .i64 1, .int .i64 0, .string EZ] 23))
  have ho := hide (four_alloc (.int .i64 2) (.int .i64 1) (.int .i64 0) (.string EZ) 23 ((wq3.alloc (.cells #[.int .i64 2, .int .i64 (ra - 536870912), .int .i64 0, .string EZ] 23)).alloc (.cells #[.int .i64 2, .int .i64 (rb - 536870912), .int .i64 0, .string EZ] 23)))
  replace hL := hide ((unhide hL).alloc (unhide hL).size (.cells #[.int .i64 2, .int .i64 1, .int .i64 0, .string EZ] 23))
  simp only [World.size_alloc] at ho
  replace hx := hide (four_more (unhide hx) (.cells #[.int .i64 2, .int .i64 0, .int .i64 0, .string EZ] 23))
  replace hy := hide (four_more (unhide hy) (.cells #[.int .i64 2, .int .i64 0, .int .i64 0, .string EZ] 23))
  replace ho := hide (four_more (unhide ho) (.cells #[.int .i64 2, .int .i64 0, .int .i64 0, .string EZ] 23))
  have hz := hide (four_alloc (.int .i64 2) (.int .i64 0) (.int .i64 0) (.string EZ) 23 (((wq3.alloc (.cells #[.int .i64 2, .int .i64 (ra - 536870912), .int .i64 0, .string EZ] 23)).alloc (.cells #[.int .i64 2, .int .i64 (rb - 536870912), .int .i64 0, .string EZ] 23)).alloc (.cells #[.int .i64 2, .int .i64 1, .int .i64 0, .string EZ] 23)))
  replace hL := hide ((unhide hL).alloc (unhide hL).size (.cells #[.int .i64 2, .int .i64 0, .int .i64 0, .string EZ] 23))
  simp only [World.size_alloc] at hz
  obtain ⟨-, x0, x1, x2, x3, -⟩ := unhide hx
  obtain ⟨-, y0, y1, y2, y3, -⟩ := unhide hy
  refine (unhide C1 _).mono ?_
  rintro e w4 ⟨rfl, hb4⟩
  clear x0 x1 x2 x3 y0 y1 y2 y3
  replace hx := hide (four_call (unhide hx) hb4)
  replace hy := hide (four_call (unhide hy) hb4)
  replace ho := hide (four_call (unhide ho) hb4)
  replace hz := hide (four_call (unhide hz) hb4)
  replace hL := hide ((unhide hL).trans (hb4.mono (unhide hL).size))
  clear hb4
  replace hx := hide (four_more (unhide hx) (.cells #[.int .i64 2, .int .i64 sn, .int .i64 ss, .string EZ] 23))
  replace hy := hide (four_more (unhide hy) (.cells #[.int .i64 2, .int .i64 sn, .int .i64 ss, .string EZ] 23))
  replace ho := hide (four_more (unhide ho) (.cells #[.int .i64 2, .int .i64 sn, .int .i64 ss, .string EZ] 23))
  replace hz := hide (four_more (unhide hz) (.cells #[.int .i64 2, .int .i64 sn, .int .i64 ss, .string EZ] 23))
  have hs := hide (four_alloc (.int .i64 2) (.int .i64 sn) (.int .i64 ss) (.string EZ) 23 w4)
  replace hL := hide ((unhide hL).alloc (unhide hL).size (.cells #[.int .i64 2, .int .i64 sn, .int .i64 ss, .string EZ] 23))
  obtain ⟨-, x0, x1, x2, x3, -⟩ := unhide hx
  obtain ⟨-, y0, y1, y2, y3, -⟩ := unhide hy
  go_wp2_with fail
  refine (unhide C2 _).mono ?_
  rintro e w5 ⟨rfl, hb5⟩
  clear x0 x1 x2 x3 y0 y1 y2 y3
  replace hx := hide (four_call (unhide hx) hb5)
  replace hy := hide (four_call (unhide hy) hb5)
  replace ho := hide (four_call (unhide ho) hb5)
  replace hz := hide (four_call (unhide hz) hb5)
  replace hs := hide (four_call (unhide hs) hb5)
  replace hL := hide ((unhide hL).trans (hb5.mono (unhide hL).size))
  clear hb5
  replace hx := hide (four_more (unhide hx) (.cells #[.int .i64 2, .int .i64 sn, .int .i64 ss, .string EZ] 23))
  replace hy := hide (four_more (unhide hy) (.cells #[.int .i64 2, .int .i64 sn, .int .i64 ss, .string EZ] 23))
  replace ho := hide (four_more (unhide ho) (.cells #[.int .i64 2, .int .i64 sn, .int .i64 ss, .string EZ] 23))
  replace hz := hide (four_more (unhide hz) (.cells #[.int .i64 2, .int .i64 sn, .int .i64 ss, .string EZ] 23))
  replace hs := hide (four_more (unhide hs) (.cells #[.int .i64 2, .int .i64 sn, .int .i64 ss, .string EZ] 23))
  have ht := hide (four_alloc (.int .i64 2) (.int .i64 sn) (.int .i64 ss) (.string EZ) 23 w5)
  replace hL := hide ((unhide hL).alloc (unhide hL).size (.cells #[.int .i64 2, .int .i64 sn, .int .i64 ss, .string EZ] 23))
  obtain ⟨-, s0, s1, s2, s3, -⟩ := unhide hs
  obtain ⟨-, y0, y1, y2, y3, -⟩ := unhide hy
  go_wp2_with fail
  refine (unhide C3 _).mono ?_
  rintro e w6 ⟨rfl, hb6⟩
  clear s0 s1 s2 s3 y0 y1 y2 y3
  replace hx := hide (four_call (unhide hx) hb6)
  replace hy := hide (four_call (unhide hy) hb6)
  replace ho := hide (four_call (unhide ho) hb6)
  replace hz := hide (four_call (unhide hz) hb6)
  replace hs := hide (four_call (unhide hs) hb6)
  replace ht := hide (four_call (unhide ht) hb6)
  replace hL := hide ((unhide hL).trans (hb6.mono (unhide hL).size))
  clear hb6
  replace hx := hide (four_more (unhide hx) (.cells #[.int .i64 2, .int .i64 (ra - 536870912), .int .i64 0, .string EZ] 23))
  replace hy := hide (four_more (unhide hy) (.cells #[.int .i64 2, .int .i64 (ra - 536870912), .int .i64 0, .string EZ] 23))
  replace ho := hide (four_more (unhide ho) (.cells #[.int .i64 2, .int .i64 (ra - 536870912), .int .i64 0, .string EZ] 23))
  replace hz := hide (four_more (unhide hz) (.cells #[.int .i64 2, .int .i64 (ra - 536870912), .int .i64 0, .string EZ] 23))
  replace hs := hide (four_more (unhide hs) (.cells #[.int .i64 2, .int .i64 (ra - 536870912), .int .i64 0, .string EZ] 23))
  replace ht := hide (four_more (unhide ht) (.cells #[.int .i64 2, .int .i64 (ra - 536870912), .int .i64 0, .string EZ] 23))
  have hd := hide (four_alloc (.int .i64 2) (.int .i64 (ra - 536870912)) (.int .i64 0) (.string EZ) 23 w6)
  replace hL := hide ((unhide hL).alloc (unhide hL).size (.cells #[.int .i64 2, .int .i64 (ra - 536870912), .int .i64 0, .string EZ] 23))
  obtain ⟨-, x0, x1, x2, x3, -⟩ := unhide hx
  obtain ⟨-, o0, o1, o2, o3, -⟩ := unhide ho
  go_wp2_with fail
  refine (unhide C4 _).mono ?_
  rintro e w7 ⟨rfl, hb7⟩
  clear x0 x1 x2 x3 o0 o1 o2 o3
  replace hx := hide (four_call (unhide hx) hb7)
  replace hy := hide (four_call (unhide hy) hb7)
  replace ho := hide (four_call (unhide ho) hb7)
  replace hz := hide (four_call (unhide hz) hb7)
  replace hs := hide (four_call (unhide hs) hb7)
  replace ht := hide (four_call (unhide ht) hb7)
  replace hd := hide (four_call (unhide hd) hb7)
  replace hL := hide ((unhide hL).trans (hb7.mono (unhide hL).size))
  clear hb7
  replace hx := hide (four_more (unhide hx) (.cells #[.int .i64 2, .int .i64 (ra - 536870912), .int .i64 0, .string EZ] 23))
  replace hy := hide (four_more (unhide hy) (.cells #[.int .i64 2, .int .i64 (ra - 536870912), .int .i64 0, .string EZ] 23))
  replace ho := hide (four_more (unhide ho) (.cells #[.int .i64 2, .int .i64 (ra - 536870912), .int .i64 0, .string EZ] 23))
  replace hz := hide (four_more (unhide hz) (.cells #[.int .i64 2, .int .i64 (ra - 536870912), .int .i64 0, .string EZ] 23))
  replace hs := hide (four_more (unhide hs) (.cells #[.int .i64 2, .int .i64 (ra - 536870912), .int .i64 0, .string EZ] 23))
  replace ht := hide (four_more (unhide ht) (.cells #[.int .i64 2, .int .i64 (ra - 536870912), .int .i64 0, .string EZ] 23))
  replace hd := hide (four_more (unhide hd) (.cells #[.int .i64 2, .int .i64 (ra - 536870912), .int .i64 0, .string EZ] 23))
  have hp := hide (four_alloc (.int .i64 2) (.int .i64 (ra - 536870912)) (.int .i64 0) (.string EZ) 23 w7)
  replace hL := hide ((unhide hL).alloc (unhide hL).size (.cells #[.int .i64 2, .int .i64 (ra - 536870912), .int .i64 0, .string EZ] 23))
  obtain ⟨-, x0, x1, x2, x3, -⟩ := unhide hx
  obtain ⟨-, z0, z1, z2, z3, -⟩ := unhide hz
  go_wp2_with fail
  refine (unhide C5 _).mono ?_
  rintro e w8 ⟨rfl, hb8⟩
  clear x0 x1 x2 x3 z0 z1 z2 z3
  replace hx := hide (four_call (unhide hx) hb8)
  replace hy := hide (four_call (unhide hy) hb8)
  replace ho := hide (four_call (unhide ho) hb8)
  replace hz := hide (four_call (unhide hz) hb8)
  replace hs := hide (four_call (unhide hs) hb8)
  replace ht := hide (four_call (unhide ht) hb8)
  replace hd := hide (four_call (unhide hd) hb8)
  replace hp := hide (four_call (unhide hp) hb8)
  replace hL := hide ((unhide hL).trans (hb8.mono (unhide hL).size))
  clear hb8
  replace hx := hide (four_more (unhide hx) (.cells #[.int .i64 2, .int .i64 (ra - 536870912), .int .i64 0, .string EZ] 23))
  replace hy := hide (four_more (unhide hy) (.cells #[.int .i64 2, .int .i64 (ra - 536870912), .int .i64 0, .string EZ] 23))
  replace ho := hide (four_more (unhide ho) (.cells #[.int .i64 2, .int .i64 (ra - 536870912), .int .i64 0, .string EZ] 23))
  replace hz := hide (four_more (unhide hz) (.cells #[.int .i64 2, .int .i64 (ra - 536870912), .int .i64 0, .string EZ] 23))
  replace hs := hide (four_more (unhide hs) (.cells #[.int .i64 2, .int .i64 (ra - 536870912), .int .i64 0, .string EZ] 23))
  replace ht := hide (four_more (unhide ht) (.cells #[.int .i64 2, .int .i64 (ra - 536870912), .int .i64 0, .string EZ] 23))
  replace hd := hide (four_more (unhide hd) (.cells #[.int .i64 2, .int .i64 (ra - 536870912), .int .i64 0, .string EZ] 23))
  replace hp := hide (four_more (unhide hp) (.cells #[.int .i64 2, .int .i64 (ra - 536870912), .int .i64 0, .string EZ] 23))
  have hq := hide (four_alloc (.int .i64 2) (.int .i64 (ra - 536870912)) (.int .i64 0) (.string EZ) 23 w8)
  replace hL := hide ((unhide hL).alloc (unhide hL).size (.cells #[.int .i64 2, .int .i64 (ra - 536870912), .int .i64 0, .string EZ] 23))
  obtain ⟨-, x0, x1, x2, x3, -⟩ := unhide hx
  obtain ⟨-, z0, z1, z2, z3, -⟩ := unhide hz
  go_wp2_with fail
  refine (unhide C6 _).mono ?_
  rintro e w9 ⟨rfl, hb9⟩
  clear x0 x1 x2 x3 z0 z1 z2 z3
  replace hx := hide (four_call (unhide hx) hb9)
  replace hy := hide (four_call (unhide hy) hb9)
  replace ho := hide (four_call (unhide ho) hb9)
  replace hz := hide (four_call (unhide hz) hb9)
  replace hs := hide (four_call (unhide hs) hb9)
  replace ht := hide (four_call (unhide ht) hb9)
  replace hd := hide (four_call (unhide hd) hb9)
  replace hp := hide (four_call (unhide hp) hb9)
  replace hq := hide (four_call (unhide hq) hb9)
  replace hL := hide ((unhide hL).trans (hb9.mono (unhide hL).size))
  clear hb9
  replace hx := hide (four_more (unhide hx) (.cells #[.int .i64 2, .int .i64 nn, .int .i64 ns, .string EZ] 23))
  replace hy := hide (four_more (unhide hy) (.cells #[.int .i64 2, .int .i64 nn, .int .i64 ns, .string EZ] 23))
  replace ho := hide (four_more (unhide ho) (.cells #[.int .i64 2, .int .i64 nn, .int .i64 ns, .string EZ] 23))
  replace hz := hide (four_more (unhide hz) (.cells #[.int .i64 2, .int .i64 nn, .int .i64 ns, .string EZ] 23))
  replace hs := hide (four_more (unhide hs) (.cells #[.int .i64 2, .int .i64 nn, .int .i64 ns, .string EZ] 23))
  replace ht := hide (four_more (unhide ht) (.cells #[.int .i64 2, .int .i64 nn, .int .i64 ns, .string EZ] 23))
  replace hd := hide (four_more (unhide hd) (.cells #[.int .i64 2, .int .i64 nn, .int .i64 ns, .string EZ] 23))
  replace hp := hide (four_more (unhide hp) (.cells #[.int .i64 2, .int .i64 nn, .int .i64 ns, .string EZ] 23))
  replace hq := hide (four_more (unhide hq) (.cells #[.int .i64 2, .int .i64 nn, .int .i64 ns, .string EZ] 23))
  have hn := hide (four_alloc (.int .i64 2) (.int .i64 nn) (.int .i64 ns) (.string EZ) 23 w9)
  replace hL := hide ((unhide hL).alloc (unhide hL).size (.cells #[.int .i64 2, .int .i64 nn, .int .i64 ns, .string EZ] 23))
  obtain ⟨-, z0, z1, z2, z3, -⟩ := unhide hz
  obtain ⟨-, x0, x1, x2, x3, -⟩ := unhide hx
  go_wp2_with fail
  refine (unhide C7 _).mono ?_
  rintro e w10 ⟨rfl, hb10⟩
  clear z0 z1 z2 z3 x0 x1 x2 x3
  replace hx := hide (four_call (unhide hx) hb10)
  replace hy := hide (four_call (unhide hy) hb10)
  replace ho := hide (four_call (unhide ho) hb10)
  replace hz := hide (four_call (unhide hz) hb10)
  replace hs := hide (four_call (unhide hs) hb10)
  replace ht := hide (four_call (unhide ht) hb10)
  replace hd := hide (four_call (unhide hd) hb10)
  replace hp := hide (four_call (unhide hp) hb10)
  replace hq := hide (four_call (unhide hq) hb10)
  replace hn := hide (four_call (unhide hn) hb10)
  replace hL := hide ((unhide hL).trans (hb10.mono (unhide hL).size))
  clear hb10
  replace hx := hide (four_more (unhide hx) (.cells #[.int .i64 2, .int .i64 nn, .int .i64 ns, .string EZ] 23))
  replace hy := hide (four_more (unhide hy) (.cells #[.int .i64 2, .int .i64 nn, .int .i64 ns, .string EZ] 23))
  replace ho := hide (four_more (unhide ho) (.cells #[.int .i64 2, .int .i64 nn, .int .i64 ns, .string EZ] 23))
  replace hz := hide (four_more (unhide hz) (.cells #[.int .i64 2, .int .i64 nn, .int .i64 ns, .string EZ] 23))
  replace hs := hide (four_more (unhide hs) (.cells #[.int .i64 2, .int .i64 nn, .int .i64 ns, .string EZ] 23))
  replace ht := hide (four_more (unhide ht) (.cells #[.int .i64 2, .int .i64 nn, .int .i64 ns, .string EZ] 23))
  replace hd := hide (four_more (unhide hd) (.cells #[.int .i64 2, .int .i64 nn, .int .i64 ns, .string EZ] 23))
  replace hp := hide (four_more (unhide hp) (.cells #[.int .i64 2, .int .i64 nn, .int .i64 ns, .string EZ] 23))
  replace hq := hide (four_more (unhide hq) (.cells #[.int .i64 2, .int .i64 nn, .int .i64 ns, .string EZ] 23))
  replace hn := hide (four_more (unhide hn) (.cells #[.int .i64 2, .int .i64 nn, .int .i64 ns, .string EZ] 23))
  have hm := hide (four_alloc (.int .i64 2) (.int .i64 nn) (.int .i64 ns) (.string EZ) 23 w10)
  replace hL := hide ((unhide hL).alloc (unhide hL).size (.cells #[.int .i64 2, .int .i64 nn, .int .i64 ns, .string EZ] 23))
  obtain ⟨-, x0, x1, x2, x3, -⟩ := unhide hx
  obtain ⟨-, y0, y1, y2, y3, -⟩ := unhide hy
  go_wp2_with fail
  refine (unhide C8 _).mono ?_
  rintro e w11 ⟨rfl, hb11⟩
  clear x0 x1 x2 x3 y0 y1 y2 y3
  replace hx := hide (four_call (unhide hx) hb11)
  replace hy := hide (four_call (unhide hy) hb11)
  replace ho := hide (four_call (unhide ho) hb11)
  replace hz := hide (four_call (unhide hz) hb11)
  replace hs := hide (four_call (unhide hs) hb11)
  replace ht := hide (four_call (unhide ht) hb11)
  replace hd := hide (four_call (unhide hd) hb11)
  replace hp := hide (four_call (unhide hp) hb11)
  replace hq := hide (four_call (unhide hq) hb11)
  replace hn := hide (four_call (unhide hn) hb11)
  replace hm := hide (four_call (unhide hm) hb11)
  replace hL := hide ((unhide hL).trans (hb11.mono (unhide hL).size))
  clear hb11
  replace hx := hide (four_more (unhide hx) (.cells #[.int .i64 uk, .int .i64 un, .int .i64 us, .string EZ] 23))
  replace hy := hide (four_more (unhide hy) (.cells #[.int .i64 uk, .int .i64 un, .int .i64 us, .string EZ] 23))
  replace ho := hide (four_more (unhide ho) (.cells #[.int .i64 uk, .int .i64 un, .int .i64 us, .string EZ] 23))
  replace hz := hide (four_more (unhide hz) (.cells #[.int .i64 uk, .int .i64 un, .int .i64 us, .string EZ] 23))
  replace hs := hide (four_more (unhide hs) (.cells #[.int .i64 uk, .int .i64 un, .int .i64 us, .string EZ] 23))
  replace ht := hide (four_more (unhide ht) (.cells #[.int .i64 uk, .int .i64 un, .int .i64 us, .string EZ] 23))
  replace hd := hide (four_more (unhide hd) (.cells #[.int .i64 uk, .int .i64 un, .int .i64 us, .string EZ] 23))
  replace hp := hide (four_more (unhide hp) (.cells #[.int .i64 uk, .int .i64 un, .int .i64 us, .string EZ] 23))
  replace hq := hide (four_more (unhide hq) (.cells #[.int .i64 uk, .int .i64 un, .int .i64 us, .string EZ] 23))
  replace hn := hide (four_more (unhide hn) (.cells #[.int .i64 uk, .int .i64 un, .int .i64 us, .string EZ] 23))
  replace hm := hide (four_more (unhide hm) (.cells #[.int .i64 uk, .int .i64 un, .int .i64 us, .string EZ] 23))
  have hu := hide (four_alloc (.int .i64 uk) (.int .i64 un) (.int .i64 us) (.string EZ) 23 w11)
  replace hL := hide ((unhide hL).alloc (unhide hL).size (.cells #[.int .i64 uk, .int .i64 un, .int .i64 us, .string EZ] 23))
  obtain ⟨-, x0, x1, x2, x3, -⟩ := unhide hx
  obtain ⟨-, y0, y1, y2, y3, -⟩ := unhide hy
  go_wp2_with fail
  refine (unhide C9 _).mono ?_
  rintro e w12 ⟨rfl, hb12⟩
  clear x0 x1 x2 x3 y0 y1 y2 y3
  replace hx := hide (four_call (unhide hx) hb12)
  replace hy := hide (four_call (unhide hy) hb12)
  replace ho := hide (four_call (unhide ho) hb12)
  replace hz := hide (four_call (unhide hz) hb12)
  replace hs := hide (four_call (unhide hs) hb12)
  replace ht := hide (four_call (unhide ht) hb12)
  replace hd := hide (four_call (unhide hd) hb12)
  replace hp := hide (four_call (unhide hp) hb12)
  replace hq := hide (four_call (unhide hq) hb12)
  replace hn := hide (four_call (unhide hn) hb12)
  replace hm := hide (four_call (unhide hm) hb12)
  replace hu := hide (four_call (unhide hu) hb12)
  replace hL := hide ((unhide hL).trans (hb12.mono (unhide hL).size))
  clear hb12
  replace hx := hide (four_more (unhide hx) (.cells #[.int .i64 uk, .int .i64 un, .int .i64 us, .string EZ] 23))
  replace hy := hide (four_more (unhide hy) (.cells #[.int .i64 uk, .int .i64 un, .int .i64 us, .string EZ] 23))
  replace ho := hide (four_more (unhide ho) (.cells #[.int .i64 uk, .int .i64 un, .int .i64 us, .string EZ] 23))
  replace hz := hide (four_more (unhide hz) (.cells #[.int .i64 uk, .int .i64 un, .int .i64 us, .string EZ] 23))
  replace hs := hide (four_more (unhide hs) (.cells #[.int .i64 uk, .int .i64 un, .int .i64 us, .string EZ] 23))
  replace ht := hide (four_more (unhide ht) (.cells #[.int .i64 uk, .int .i64 un, .int .i64 us, .string EZ] 23))
  replace hd := hide (four_more (unhide hd) (.cells #[.int .i64 uk, .int .i64 un, .int .i64 us, .string EZ] 23))
  replace hp := hide (four_more (unhide hp) (.cells #[.int .i64 uk, .int .i64 un, .int .i64 us, .string EZ] 23))
  replace hq := hide (four_more (unhide hq) (.cells #[.int .i64 uk, .int .i64 un, .int .i64 us, .string EZ] 23))
  replace hn := hide (four_more (unhide hn) (.cells #[.int .i64 uk, .int .i64 un, .int .i64 us, .string EZ] 23))
  replace hm := hide (four_more (unhide hm) (.cells #[.int .i64 uk, .int .i64 un, .int .i64 us, .string EZ] 23))
  replace hu := hide (four_more (unhide hu) (.cells #[.int .i64 uk, .int .i64 un, .int .i64 us, .string EZ] 23))
  have hv := hide (four_alloc (.int .i64 uk) (.int .i64 un) (.int .i64 us) (.string EZ) 23 w12)
  replace hL := hide ((unhide hL).alloc (unhide hL).size (.cells #[.int .i64 uk, .int .i64 un, .int .i64 us, .string EZ] 23))
  obtain ⟨-, s0, s1, s2, s3, -⟩ := unhide hs
  obtain ⟨-, t0, t1, t2, t3, -⟩ := unhide ht
  obtain ⟨-, d0, d1, d2, d3, -⟩ := unhide hd
  obtain ⟨-, x0, x1, x2, x3, -⟩ := unhide hx
  obtain ⟨-, p0, p1, p2, p3, -⟩ := unhide hp
  obtain ⟨-, q0, q1, q2, q3, -⟩ := unhide hq
  obtain ⟨-, n0, n1, n2, n3, -⟩ := unhide hn
  obtain ⟨-, m0, m1, m2, m3, -⟩ := unhide hm
  obtain ⟨-, u0, u1, u2, u3, -⟩ := unhide hu
  obtain ⟨-, v0, v1, v2, v3, -⟩ := unhide hv
  clear C1 C2 C3 C4 C5 C6 C7 C8 C9 hs ht hd hx hp hq hn hm hu hv hy ho hz
  go_wp2_with fail
  go_ret
  exact ⟨rfl, unhide hL⟩

set_option maxHeartbeats 8000000 in
set_option maxRecDepth 100000 in
theorem laws_dec (a b scale other ra rb rs ro xn xs yn ys sn ss nn ns uk un us ue : Int) (w : World)
    (WA : Hid (∀ W, Calls Try.prog 13 #[.int .i64 a, .int .i64 1073741824] W fun e w' => e = .returned (.int .i64 ra) ∧ w' = W))
    (WB : Hid (∀ W, Calls Try.prog 13 #[.int .i64 b, .int .i64 1073741824] W fun e w' => e = .returned (.int .i64 rb) ∧ w' = W))
    (WS : Hid (∀ W, Calls Try.prog 13 #[.int .i64 scale, .int .i64 4] W fun e w' => e = .returned (.int .i64 rs) ∧ w' = W))
    (WO : Hid (∀ W, Calls Try.prog 13 #[.int .i64 other, .int .i64 3] W fun e w' => e = .returned (.int .i64 ro) ∧ w' = W))
    (a1 : 0 ≤ ra) (a2 : ra < 1073741824) (b1 : 0 ≤ rb) (b2 : rb < 1073741824)
    (CX : Hid (∀ W, Calls Try.prog 15 #[V 3 (ra - 536870912) rs EZ] W fun e w' => e = .returned (V 3 xn xs EZ) ∧ Below W.heap.size W w'))
    (CY : Hid (∀ W, Calls Try.prog 15 #[V 3 (rb - 536870912) ro EZ] W fun e w' => e = .returned (V 3 yn ys EZ) ∧ Below W.heap.size W w'))
    (C1 : Hid (∀ W, Calls Try.prog 22 #[.int .i64 7, V 3 xn xs EZ, V 3 yn ys EZ] W fun e w' => e = .returned (.tuple #[V 3 sn ss EZ, .int .i64 0]) ∧ Below W.heap.size W w'))
    (C2 : Hid (∀ W, Calls Try.prog 22 #[.int .i64 7, V 3 yn ys EZ, V 3 xn xs EZ] W fun e w' => e = .returned (.tuple #[V 3 sn ss EZ, .int .i64 0]) ∧ Below W.heap.size W w'))
    (C3 : Hid (∀ W, Calls Try.prog 22 #[.int .i64 8, V 3 sn ss EZ, V 3 yn ys EZ] W fun e w' => e = .returned (.tuple #[V 3 xn xs EZ, .int .i64 0]) ∧ Below W.heap.size W w'))
    (C4 : Hid (∀ W, Calls Try.prog 22 #[.int .i64 6, V 3 xn xs EZ, V 3 1 0 EZ] W fun e w' => e = .returned (.tuple #[V 3 xn xs EZ, .int .i64 0]) ∧ Below W.heap.size W w'))
    (C5 : Hid (∀ W, Calls Try.prog 22 #[.int .i64 7, V 3 xn xs EZ, V 3 0 0 EZ] W fun e w' => e = .returned (.tuple #[V 3 xn xs EZ, .int .i64 0]) ∧ Below W.heap.size W w'))
    (C6 : Hid (∀ W, Calls Try.prog 22 #[.int .i64 4, V 3 xn xs EZ, V 3 0 0 EZ] W fun e w' => e = .returned (.tuple #[V 3 nn ns EZ, .int .i64 0]) ∧ Below W.heap.size W w'))
    (C7 : Hid (∀ W, Calls Try.prog 22 #[.int .i64 8, V 3 0 0 EZ, V 3 xn xs EZ] W fun e w' => e = .returned (.tuple #[V 3 nn ns EZ, .int .i64 0]) ∧ Below W.heap.size W w'))
    (C8 : Hid (∀ W, Calls Try.prog 22 #[.int .i64 6, V 3 xn xs EZ, V 3 yn ys EZ] W fun e w' => e = .returned (.tuple #[V uk un us EZ, .int .i64 ue]) ∧ Below W.heap.size W w'))
    (C9 : Hid (∀ W, Calls Try.prog 22 #[.int .i64 6, V 3 yn ys EZ, V 3 xn xs EZ] W fun e w' => e = .returned (.tuple #[V uk un us EZ, .int .i64 ue]) ∧ Below W.heap.size W w'))
    : Calls Try.prog 6 #[.int .i64 a, .int .i64 b, .int .i64 scale, .int .i64 other, .bool true] w fun e w' => e = .returned (.bool true) ∧ Below w.heap.size w w' := by
  have hL := hide (Below.refl w.heap.size w)
  go_enter Try.func6, Try.ntmps6
  go_wp2_with fail
  refine (known_any _).mono ?_
  rintro e w1 ⟨rfl, hb1⟩
  replace hL := hide ((unhide hL).trans (hb1.mono (unhide hL).size))
  clear hb1
  go_wp2_with fail
  refine (unhide WA _).mono ?_
  rintro e wq2 ⟨rfl, rfl⟩
  go_wp2_with fail
  refine (unhide WB _).mono ?_
  rintro e wq3 ⟨rfl, rfl⟩
  go_wp2_with fail
  clear WA WB
  have hle0 := (unhide hL).size
  have hx := hide (four_alloc (.int .i64 2) (.int .i64 (ra - 536870912)) (.int .i64 0) (.string EZ) 23 wq3)
  replace hL := hide ((unhide hL).alloc (unhide hL).size (.cells #[.int .i64 2, .int .i64 (ra - 536870912), .int .i64 0, .string EZ] 23))
  replace hx := hide (four_more (unhide hx) (.cells #[.int .i64 2, .int .i64 (rb - 536870912), .int .i64 0, .string EZ] 23))
  have hy := hide (four_alloc (.int .i64 2) (.int .i64 (rb - 536870912)) (.int .i64 0) (.string EZ) 23 (wq3.alloc (.cells #[.int .i64 2, .int .i64 (ra - 536870912), .int .i64 0, .string EZ] 23)))
  replace hL := hide ((unhide hL).alloc (unhide hL).size (.cells #[.int .i64 2, .int .i64 (rb - 536870912), .int .i64 0, .string EZ] 23))
  simp only [World.size_alloc] at hy
  replace hx := hide (four_more (unhide hx) (.cells #[.int .i64 2, .int .i64 1, .int .i64 0, .string EZ] 23))
  replace hy := hide (four_more (unhide hy) (.cells #[.int .i64 2, .int .i64 1, .int .i64 0, .string EZ] 23))
  have ho := hide (four_alloc (.int .i64 2) (.int .i64 1) (.int .i64 0) (.string EZ) 23 ((wq3.alloc (.cells #[.int .i64 2, .int .i64 (ra - 536870912), .int .i64 0, .string EZ] 23)).alloc (.cells #[.int .i64 2, .int .i64 (rb - 536870912), .int .i64 0, .string EZ] 23)))
  replace hL := hide ((unhide hL).alloc (unhide hL).size (.cells #[.int .i64 2, .int .i64 1, .int .i64 0, .string EZ] 23))
  simp only [World.size_alloc] at ho
  replace hx := hide (four_more (unhide hx) (.cells #[.int .i64 2, .int .i64 0, .int .i64 0, .string EZ] 23))
  replace hy := hide (four_more (unhide hy) (.cells #[.int .i64 2, .int .i64 0, .int .i64 0, .string EZ] 23))
  replace ho := hide (four_more (unhide ho) (.cells #[.int .i64 2, .int .i64 0, .int .i64 0, .string EZ] 23))
  have hz := hide (four_alloc (.int .i64 2) (.int .i64 0) (.int .i64 0) (.string EZ) 23 (((wq3.alloc (.cells #[.int .i64 2, .int .i64 (ra - 536870912), .int .i64 0, .string EZ] 23)).alloc (.cells #[.int .i64 2, .int .i64 (rb - 536870912), .int .i64 0, .string EZ] 23)).alloc (.cells #[.int .i64 2, .int .i64 1, .int .i64 0, .string EZ] 23)))
  replace hL := hide ((unhide hL).alloc (unhide hL).size (.cells #[.int .i64 2, .int .i64 0, .int .i64 0, .string EZ] 23))
  simp only [World.size_alloc] at hz
  have hle : w.heap.size ≤ wq3.heap.size := hle0
  have HS : Hid (S4 w wq3.heap.size 2 (ra - 536870912) 0 2 (rb - 536870912) 0 2 2 _) := hide ⟨unhide hL, hle, unhide hx, unhide hy, unhide ho, unhide hz⟩
  generalize wq3.heap.size = bb at *
  clear hle hle0 hL hx hy ho hz
  go_cut [] from 46 to 51 (fun W => S4 w bb 3 xn xs 2 (rb - 536870912) 0 2 2 W)
  case first =>
    refine wp_region_noPanic ?_
    refine wp_region_held_drew (S := fun W => Below w.heap.size w W) (by kernel_rfl) (unhide HS).1.drew (fun hHeld => ?_)
    have hS := s4_call (unhide HS) (Below.refl _ _).drew
    revert hHeld hS
    generalize World.drew _ = Wd
    intro hHeld hS
    refine wpAnyH_take (i := 0) (oi := ?oi1001) (v := ?v1001) ?hi1001 (by kernel_rfl) (by kernel_rfl) (by kernel_rfl) (fun _ _ _ h => h) (Or.inl ⟨?hw1001, ?hy1001⟩) (by assumption) ?rest1001
    case hi1001 => (simp only [List.getElem?_toArray, List.getElem?_cons_zero]; rfl)
    case hw1001 => rfl
    case hy1001 => first | (intro wx hSw; go_simp; done) | (intro wx hSw; go_simp; with_reducible rfl)
    simp only [Act.put, List.setIfInBounds_toArray, List.set_cons_zero, List.set_cons_succ]
    refine wpAnyH_take (i := 2) (oi := ?oi1002) (v := ?v1002) ?hi1002 (by kernel_rfl) (by kernel_rfl) (by kernel_rfl) (fun _ _ _ h => h) (Or.inl ⟨?hw1002, ?hy1002⟩) (by assumption) ?rest1002
    case hi1002 => (simp only [List.getElem?_toArray, List.getElem?_cons_zero, List.getElem?_cons_succ]; rfl)
    case hw1002 => rfl
    case hy1002 => first | (intro wx hSw; go_simp; done) | (intro wx hSw; go_simp; with_reducible rfl)
    simp only [Act.put, List.setIfInBounds_toArray, List.set_cons_zero, List.set_cons_succ]
    refine wpAnyH_ready (rs := [1, 3]) (by kernel_rfl) (by simp) ?_
    refine AllReadyH.cons rfl (fun K1003 hK1003 => ?_) (AllReadyH.cons rfl (fun K1003 hK1003 => ?_) AllReadyH.nil)
    · skip
      obtain ⟨-, g0, g1, g2, g3, -⟩ := hS.2.2.1
      go_simp
      clear g0 g1 g2 g3
      refine hK1003.out _ _ hHeld (fun hHeld1003 => ?_)
      clear hK1003 K1003 hHeld1003
      refine wpAnyH_ready (rs := [3]) (by kernel_rfl) (by simp) ?_
      refine AllReadyH.cons rfl (fun K1004 hK1004 => ?_) AllReadyH.nil
      go_simp
      go_wp2_with (go_at_call 13; refine (unhide WS _).mono ?_; rintro e wq1004 ⟨rfl, rfl⟩)
      refine hK1004.out _ _ hHeld (fun hHeld1004 => ?_)
      clear hK1004 K1004 hHeld1004
      refine wpAnyH_take (i := 4) (oi := ?oi1005) (v := ?v1005) ?hi1005 (by kernel_rfl) (by kernel_rfl) (by kernel_rfl) (fun _ _ _ h => h) (Or.inl ⟨?hw1005, ?hy1005⟩) (by assumption) ?rest1005
      case hi1005 => (simp only [List.getElem?_toArray, List.getElem?_cons_zero, List.getElem?_cons_succ]; rfl)
      case hw1005 => rfl
      case hy1005 => first | (intro wx hSw; go_simp; done) | (intro wx hSw; go_simp; with_reducible rfl)
      simp only [Act.put, List.setIfInBounds_toArray, List.set_cons_zero, List.set_cons_succ]
      refine wpAnyH_ready (rs := [5]) (by kernel_rfl) (by simp) ?_
      refine AllReadyH.cons rfl (fun K1006 hK1006 => ?_) AllReadyH.nil
      go_simp
      go_wp2_with (go_at_call 15; refine (unhide CX _).mono ?_; rintro e wc1006 ⟨rfl, hb1006⟩)
      have hS2 := s4_call hS hb1006
      refine hK1006.out _ _ hS2.1 (fun hHeld1006 => ?_)
      clear hK1006 K1006 hHeld1006 hb1006 hHeld hS
      refine wpAnyH_ready (rs := [6]) (by kernel_rfl) (by simp) ?_
      refine AllReadyH.cons rfl (fun K1007 hK1007 => ?_) AllReadyH.nil
      obtain ⟨-, g0, g1, g2, g3, g4, g5, g6, g7⟩ := hS2.2.2.1
      go_simp
      clear g0 g1 g2 g3 g4 g5 g6 g7
      have hS3 := s4_setx hS2 xn xs
      refine hK1007.out _ _ hS3.1 (fun hHeld1007 => ?_)
      refine wpAnyH_done (by kernel_rfl) ?_ _
      refine NoPanic.normal ?_
      go_wp2_with fail
      go_meet
      exact hS3
    · skip
      go_simp
      go_wp2_with (go_at_call 13; refine (unhide WS _).mono ?_; rintro e wq1003 ⟨rfl, rfl⟩)
      refine hK1003.out _ _ hHeld (fun hHeld1003 => ?_)
      clear hK1003 K1003 hHeld1003
      refine wpAnyH_ready (rs := [1]) (by kernel_rfl) (by simp) ?_
      refine AllReadyH.cons rfl (fun K1008 hK1008 => ?_) AllReadyH.nil
      obtain ⟨-, g0, g1, g2, g3, -⟩ := hS.2.2.1
      go_simp
      clear g0 g1 g2 g3
      refine hK1008.out _ _ hHeld (fun hHeld1008 => ?_)
      clear hK1008 K1008 hHeld1008
      refine wpAnyH_take (i := 4) (oi := ?oi1009) (v := ?v1009) ?hi1009 (by kernel_rfl) (by kernel_rfl) (by kernel_rfl) (fun _ _ _ h => h) (Or.inl ⟨?hw1009, ?hy1009⟩) (by assumption) ?rest1009
      case hi1009 => (simp only [List.getElem?_toArray, List.getElem?_cons_zero, List.getElem?_cons_succ]; rfl)
      case hw1009 => rfl
      case hy1009 => first | (intro wx hSw; go_simp; done) | (intro wx hSw; go_simp; with_reducible rfl)
      simp only [Act.put, List.setIfInBounds_toArray, List.set_cons_zero, List.set_cons_succ]
      refine wpAnyH_ready (rs := [5]) (by kernel_rfl) (by simp) ?_
      refine AllReadyH.cons rfl (fun K1010 hK1010 => ?_) AllReadyH.nil
      go_simp
      go_wp2_with (go_at_call 15; refine (unhide CX _).mono ?_; rintro e wc1010 ⟨rfl, hb1010⟩)
      have hS2 := s4_call hS hb1010
      refine hK1010.out _ _ hS2.1 (fun hHeld1010 => ?_)
      clear hK1010 K1010 hHeld1010 hb1010 hHeld hS
      refine wpAnyH_ready (rs := [6]) (by kernel_rfl) (by simp) ?_
      refine AllReadyH.cons rfl (fun K1011 hK1011 => ?_) AllReadyH.nil
      obtain ⟨-, g0, g1, g2, g3, g4, g5, g6, g7⟩ := hS2.2.2.1
      go_simp
      clear g0 g1 g2 g3 g4 g5 g6 g7
      have hS3 := s4_setx hS2 xn xs
      refine hK1011.out _ _ hS3.1 (fun hHeld1011 => ?_)
      refine wpAnyH_done (by kernel_rfl) ?_ _
      refine NoPanic.normal ?_
      go_wp2_with fail
      go_meet
      exact hS3
  case rest =>
  clear HS
  have HS := hide hcut
  clear hcut
  go_wp2_with fail
  go_cut [] from 52 to 57 (fun W => S4 w bb 3 xn xs 3 yn ys 2 2 W)
  case first =>
    refine wp_region_noPanic ?_
    refine wp_region_held_drew (S := fun W => Below w.heap.size w W) (by kernel_rfl) (unhide HS).1.drew (fun hHeld => ?_)
    have hS := s4_call (unhide HS) (Below.refl _ _).drew
    revert hHeld hS
    generalize World.drew _ = Wd
    intro hHeld hS
    refine wpAnyH_take (i := 0) (oi := ?oi1012) (v := ?v1012) ?hi1012 (by kernel_rfl) (by kernel_rfl) (by kernel_rfl) (fun _ _ _ h => h) (Or.inl ⟨?hw1012, ?hy1012⟩) (by assumption) ?rest1012
    case hi1012 => (simp only [List.getElem?_toArray, List.getElem?_cons_zero]; rfl)
    case hw1012 => rfl
    case hy1012 => first | (intro wx hSw; go_simp; done) | (intro wx hSw; go_simp; with_reducible rfl)
    simp only [Act.put, List.setIfInBounds_toArray, List.set_cons_zero, List.set_cons_succ]
    refine wpAnyH_take (i := 2) (oi := ?oi1013) (v := ?v1013) ?hi1013 (by kernel_rfl) (by kernel_rfl) (by kernel_rfl) (fun _ _ _ h => h) (Or.inl ⟨?hw1013, ?hy1013⟩) (by assumption) ?rest1013
    case hi1013 => (simp only [List.getElem?_toArray, List.getElem?_cons_zero, List.getElem?_cons_succ]; rfl)
    case hw1013 => rfl
    case hy1013 => first | (intro wx hSw; go_simp; done) | (intro wx hSw; go_simp; with_reducible rfl)
    simp only [Act.put, List.setIfInBounds_toArray, List.set_cons_zero, List.set_cons_succ]
    refine wpAnyH_ready (rs := [1, 3]) (by kernel_rfl) (by simp) ?_
    refine AllReadyH.cons rfl (fun K1014 hK1014 => ?_) (AllReadyH.cons rfl (fun K1014 hK1014 => ?_) AllReadyH.nil)
    · skip
      obtain ⟨-, g0, g1, g2, g3, -⟩ := hS.2.2.2.1
      go_simp
      clear g0 g1 g2 g3
      refine hK1014.out _ _ hHeld (fun hHeld1014 => ?_)
      clear hK1014 K1014 hHeld1014
      refine wpAnyH_ready (rs := [3]) (by kernel_rfl) (by simp) ?_
      refine AllReadyH.cons rfl (fun K1015 hK1015 => ?_) AllReadyH.nil
      go_simp
      go_wp2_with (go_at_call 13; refine (unhide WO _).mono ?_; rintro e wq1015 ⟨rfl, rfl⟩)
      refine hK1015.out _ _ hHeld (fun hHeld1015 => ?_)
      clear hK1015 K1015 hHeld1015
      refine wpAnyH_take (i := 4) (oi := ?oi1016) (v := ?v1016) ?hi1016 (by kernel_rfl) (by kernel_rfl) (by kernel_rfl) (fun _ _ _ h => h) (Or.inl ⟨?hw1016, ?hy1016⟩) (by assumption) ?rest1016
      case hi1016 => (simp only [List.getElem?_toArray, List.getElem?_cons_zero, List.getElem?_cons_succ]; rfl)
      case hw1016 => rfl
      case hy1016 => first | (intro wx hSw; go_simp; done) | (intro wx hSw; go_simp; with_reducible rfl)
      simp only [Act.put, List.setIfInBounds_toArray, List.set_cons_zero, List.set_cons_succ]
      refine wpAnyH_ready (rs := [5]) (by kernel_rfl) (by simp) ?_
      refine AllReadyH.cons rfl (fun K1017 hK1017 => ?_) AllReadyH.nil
      go_simp
      go_wp2_with (go_at_call 15; refine (unhide CY _).mono ?_; rintro e wc1017 ⟨rfl, hb1017⟩)
      have hS2 := s4_call hS hb1017
      refine hK1017.out _ _ hS2.1 (fun hHeld1017 => ?_)
      clear hK1017 K1017 hHeld1017 hb1017 hHeld hS
      refine wpAnyH_ready (rs := [6]) (by kernel_rfl) (by simp) ?_
      refine AllReadyH.cons rfl (fun K1018 hK1018 => ?_) AllReadyH.nil
      obtain ⟨-, g0, g1, g2, g3, g4, g5, g6, g7⟩ := hS2.2.2.2.1
      go_simp
      clear g0 g1 g2 g3 g4 g5 g6 g7
      have hS3 := s4_sety hS2 yn ys
      refine hK1018.out _ _ hS3.1 (fun hHeld1018 => ?_)
      refine wpAnyH_done (by kernel_rfl) ?_ _
      refine NoPanic.normal ?_
      go_wp2_with fail
      go_meet
      exact hS3
    · skip
      go_simp
      go_wp2_with (go_at_call 13; refine (unhide WO _).mono ?_; rintro e wq1014 ⟨rfl, rfl⟩)
      refine hK1014.out _ _ hHeld (fun hHeld1014 => ?_)
      clear hK1014 K1014 hHeld1014
      refine wpAnyH_ready (rs := [1]) (by kernel_rfl) (by simp) ?_
      refine AllReadyH.cons rfl (fun K1019 hK1019 => ?_) AllReadyH.nil
      obtain ⟨-, g0, g1, g2, g3, -⟩ := hS.2.2.2.1
      go_simp
      clear g0 g1 g2 g3
      refine hK1019.out _ _ hHeld (fun hHeld1019 => ?_)
      clear hK1019 K1019 hHeld1019
      refine wpAnyH_take (i := 4) (oi := ?oi1020) (v := ?v1020) ?hi1020 (by kernel_rfl) (by kernel_rfl) (by kernel_rfl) (fun _ _ _ h => h) (Or.inl ⟨?hw1020, ?hy1020⟩) (by assumption) ?rest1020
      case hi1020 => (simp only [List.getElem?_toArray, List.getElem?_cons_zero, List.getElem?_cons_succ]; rfl)
      case hw1020 => rfl
      case hy1020 => first | (intro wx hSw; go_simp; done) | (intro wx hSw; go_simp; with_reducible rfl)
      simp only [Act.put, List.setIfInBounds_toArray, List.set_cons_zero, List.set_cons_succ]
      refine wpAnyH_ready (rs := [5]) (by kernel_rfl) (by simp) ?_
      refine AllReadyH.cons rfl (fun K1021 hK1021 => ?_) AllReadyH.nil
      go_simp
      go_wp2_with (go_at_call 15; refine (unhide CY _).mono ?_; rintro e wc1021 ⟨rfl, hb1021⟩)
      have hS2 := s4_call hS hb1021
      refine hK1021.out _ _ hS2.1 (fun hHeld1021 => ?_)
      clear hK1021 K1021 hHeld1021 hb1021 hHeld hS
      refine wpAnyH_ready (rs := [6]) (by kernel_rfl) (by simp) ?_
      refine AllReadyH.cons rfl (fun K1022 hK1022 => ?_) AllReadyH.nil
      obtain ⟨-, g0, g1, g2, g3, g4, g5, g6, g7⟩ := hS2.2.2.2.1
      go_simp
      clear g0 g1 g2 g3 g4 g5 g6 g7
      have hS3 := s4_sety hS2 yn ys
      refine hK1022.out _ _ hS3.1 (fun hHeld1022 => ?_)
      refine wpAnyH_done (by kernel_rfl) ?_ _
      refine NoPanic.normal ?_
      go_wp2_with fail
      go_meet
      exact hS3
  case rest =>
  clear HS
  have HS := hide (s4_setk hcut)
  obtain ⟨-, -, -, -, ⟨-, o0, -, -, -, o4, -, -, -⟩, ⟨-, z0, -, -, -, z4, -, -, -⟩⟩ := hcut
  have hL := hide (unhide HS).1
  have hx := hide (unhide HS).2.2.1
  have hy := hide (unhide HS).2.2.2.1
  have ho := hide (unhide HS).2.2.2.2.1
  have hz := hide (unhide HS).2.2.2.2.2
  clear HS WS WO CX CY
  obtain ⟨-, x0, x1, x2, x3, -⟩ := unhide hx
  obtain ⟨-, y0, y1, y2, y3, -⟩ := unhide hy
  go_wp2_with fail
  clear o0 o4 z0 z4
  refine (unhide C1 _).mono ?_
  rintro e w4 ⟨rfl, hb4⟩
  clear x0 x1 x2 x3 y0 y1 y2 y3
  replace hx := hide (four_call (unhide hx) hb4)
  replace hy := hide (four_call (unhide hy) hb4)
  replace ho := hide (four_call (unhide ho) hb4)
  replace hz := hide (four_call (unhide hz) hb4)
  replace hL := hide ((unhide hL).trans (hb4.mono (unhide hL).size))
  clear hb4
  replace hx := hide (four_more (unhide hx) (.cells #[.int .i64 3, .int .i64 sn, .int .i64 ss, .string EZ] 23))
  replace hy := hide (four_more (unhide hy) (.cells #[.int .i64 3, .int .i64 sn, .int .i64 ss, .string EZ] 23))
  replace ho := hide (four_more (unhide ho) (.cells #[.int .i64 3, .int .i64 sn, .int .i64 ss, .string EZ] 23))
  replace hz := hide (four_more (unhide hz) (.cells #[.int .i64 3, .int .i64 sn, .int .i64 ss, .string EZ] 23))
  have hs := hide (four_alloc (.int .i64 3) (.int .i64 sn) (.int .i64 ss) (.string EZ) 23 w4)
  replace hL := hide ((unhide hL).alloc (unhide hL).size (.cells #[.int .i64 3, .int .i64 sn, .int .i64 ss, .string EZ] 23))
  obtain ⟨-, x0, x1, x2, x3, -⟩ := unhide hx
  obtain ⟨-, y0, y1, y2, y3, -⟩ := unhide hy
  go_wp2_with fail
  refine (unhide C2 _).mono ?_
  rintro e w5 ⟨rfl, hb5⟩
  clear x0 x1 x2 x3 y0 y1 y2 y3
  replace hx := hide (four_call (unhide hx) hb5)
  replace hy := hide (four_call (unhide hy) hb5)
  replace ho := hide (four_call (unhide ho) hb5)
  replace hz := hide (four_call (unhide hz) hb5)
  replace hs := hide (four_call (unhide hs) hb5)
  replace hL := hide ((unhide hL).trans (hb5.mono (unhide hL).size))
  clear hb5
  replace hx := hide (four_more (unhide hx) (.cells #[.int .i64 3, .int .i64 sn, .int .i64 ss, .string EZ] 23))
  replace hy := hide (four_more (unhide hy) (.cells #[.int .i64 3, .int .i64 sn, .int .i64 ss, .string EZ] 23))
  replace ho := hide (four_more (unhide ho) (.cells #[.int .i64 3, .int .i64 sn, .int .i64 ss, .string EZ] 23))
  replace hz := hide (four_more (unhide hz) (.cells #[.int .i64 3, .int .i64 sn, .int .i64 ss, .string EZ] 23))
  replace hs := hide (four_more (unhide hs) (.cells #[.int .i64 3, .int .i64 sn, .int .i64 ss, .string EZ] 23))
  have ht := hide (four_alloc (.int .i64 3) (.int .i64 sn) (.int .i64 ss) (.string EZ) 23 w5)
  replace hL := hide ((unhide hL).alloc (unhide hL).size (.cells #[.int .i64 3, .int .i64 sn, .int .i64 ss, .string EZ] 23))
  obtain ⟨-, s0, s1, s2, s3, -⟩ := unhide hs
  obtain ⟨-, y0, y1, y2, y3, -⟩ := unhide hy
  go_wp2_with fail
  refine (unhide C3 _).mono ?_
  rintro e w6 ⟨rfl, hb6⟩
  clear s0 s1 s2 s3 y0 y1 y2 y3
  replace hx := hide (four_call (unhide hx) hb6)
  replace hy := hide (four_call (unhide hy) hb6)
  replace ho := hide (four_call (unhide ho) hb6)
  replace hz := hide (four_call (unhide hz) hb6)
  replace hs := hide (four_call (unhide hs) hb6)
  replace ht := hide (four_call (unhide ht) hb6)
  replace hL := hide ((unhide hL).trans (hb6.mono (unhide hL).size))
  clear hb6
  replace hx := hide (four_more (unhide hx) (.cells #[.int .i64 3, .int .i64 xn, .int .i64 xs, .string EZ] 23))
  replace hy := hide (four_more (unhide hy) (.cells #[.int .i64 3, .int .i64 xn, .int .i64 xs, .string EZ] 23))
  replace ho := hide (four_more (unhide ho) (.cells #[.int .i64 3, .int .i64 xn, .int .i64 xs, .string EZ] 23))
  replace hz := hide (four_more (unhide hz) (.cells #[.int .i64 3, .int .i64 xn, .int .i64 xs, .string EZ] 23))
  replace hs := hide (four_more (unhide hs) (.cells #[.int .i64 3, .int .i64 xn, .int .i64 xs, .string EZ] 23))
  replace ht := hide (four_more (unhide ht) (.cells #[.int .i64 3, .int .i64 xn, .int .i64 xs, .string EZ] 23))
  have hd := hide (four_alloc (.int .i64 3) (.int .i64 xn) (.int .i64 xs) (.string EZ) 23 w6)
  replace hL := hide ((unhide hL).alloc (unhide hL).size (.cells #[.int .i64 3, .int .i64 xn, .int .i64 xs, .string EZ] 23))
  obtain ⟨-, x0, x1, x2, x3, -⟩ := unhide hx
  obtain ⟨-, o0, o1, o2, o3, -⟩ := unhide ho
  go_wp2_with fail
  refine (unhide C4 _).mono ?_
  rintro e w7 ⟨rfl, hb7⟩
  clear x0 x1 x2 x3 o0 o1 o2 o3
  replace hx := hide (four_call (unhide hx) hb7)
  replace hy := hide (four_call (unhide hy) hb7)
  replace ho := hide (four_call (unhide ho) hb7)
  replace hz := hide (four_call (unhide hz) hb7)
  replace hs := hide (four_call (unhide hs) hb7)
  replace ht := hide (four_call (unhide ht) hb7)
  replace hd := hide (four_call (unhide hd) hb7)
  replace hL := hide ((unhide hL).trans (hb7.mono (unhide hL).size))
  clear hb7
  replace hx := hide (four_more (unhide hx) (.cells #[.int .i64 3, .int .i64 xn, .int .i64 xs, .string EZ] 23))
  replace hy := hide (four_more (unhide hy) (.cells #[.int .i64 3, .int .i64 xn, .int .i64 xs, .string EZ] 23))
  replace ho := hide (four_more (unhide ho) (.cells #[.int .i64 3, .int .i64 xn, .int .i64 xs, .string EZ] 23))
  replace hz := hide (four_more (unhide hz) (.cells #[.int .i64 3, .int .i64 xn, .int .i64 xs, .string EZ] 23))
  replace hs := hide (four_more (unhide hs) (.cells #[.int .i64 3, .int .i64 xn, .int .i64 xs, .string EZ] 23))
  replace ht := hide (four_more (unhide ht) (.cells #[.int .i64 3, .int .i64 xn, .int .i64 xs, .string EZ] 23))
  replace hd := hide (four_more (unhide hd) (.cells #[.int .i64 3, .int .i64 xn, .int .i64 xs, .string EZ] 23))
  have hp := hide (four_alloc (.int .i64 3) (.int .i64 xn) (.int .i64 xs) (.string EZ) 23 w7)
  replace hL := hide ((unhide hL).alloc (unhide hL).size (.cells #[.int .i64 3, .int .i64 xn, .int .i64 xs, .string EZ] 23))
  obtain ⟨-, x0, x1, x2, x3, -⟩ := unhide hx
  obtain ⟨-, z0, z1, z2, z3, -⟩ := unhide hz
  go_wp2_with fail
  refine (unhide C5 _).mono ?_
  rintro e w8 ⟨rfl, hb8⟩
  clear x0 x1 x2 x3 z0 z1 z2 z3
  replace hx := hide (four_call (unhide hx) hb8)
  replace hy := hide (four_call (unhide hy) hb8)
  replace ho := hide (four_call (unhide ho) hb8)
  replace hz := hide (four_call (unhide hz) hb8)
  replace hs := hide (four_call (unhide hs) hb8)
  replace ht := hide (four_call (unhide ht) hb8)
  replace hd := hide (four_call (unhide hd) hb8)
  replace hp := hide (four_call (unhide hp) hb8)
  replace hL := hide ((unhide hL).trans (hb8.mono (unhide hL).size))
  clear hb8
  replace hx := hide (four_more (unhide hx) (.cells #[.int .i64 3, .int .i64 xn, .int .i64 xs, .string EZ] 23))
  replace hy := hide (four_more (unhide hy) (.cells #[.int .i64 3, .int .i64 xn, .int .i64 xs, .string EZ] 23))
  replace ho := hide (four_more (unhide ho) (.cells #[.int .i64 3, .int .i64 xn, .int .i64 xs, .string EZ] 23))
  replace hz := hide (four_more (unhide hz) (.cells #[.int .i64 3, .int .i64 xn, .int .i64 xs, .string EZ] 23))
  replace hs := hide (four_more (unhide hs) (.cells #[.int .i64 3, .int .i64 xn, .int .i64 xs, .string EZ] 23))
  replace ht := hide (four_more (unhide ht) (.cells #[.int .i64 3, .int .i64 xn, .int .i64 xs, .string EZ] 23))
  replace hd := hide (four_more (unhide hd) (.cells #[.int .i64 3, .int .i64 xn, .int .i64 xs, .string EZ] 23))
  replace hp := hide (four_more (unhide hp) (.cells #[.int .i64 3, .int .i64 xn, .int .i64 xs, .string EZ] 23))
  have hq := hide (four_alloc (.int .i64 3) (.int .i64 xn) (.int .i64 xs) (.string EZ) 23 w8)
  replace hL := hide ((unhide hL).alloc (unhide hL).size (.cells #[.int .i64 3, .int .i64 xn, .int .i64 xs, .string EZ] 23))
  obtain ⟨-, x0, x1, x2, x3, -⟩ := unhide hx
  obtain ⟨-, z0, z1, z2, z3, -⟩ := unhide hz
  go_wp2_with fail
  refine (unhide C6 _).mono ?_
  rintro e w9 ⟨rfl, hb9⟩
  clear x0 x1 x2 x3 z0 z1 z2 z3
  replace hx := hide (four_call (unhide hx) hb9)
  replace hy := hide (four_call (unhide hy) hb9)
  replace ho := hide (four_call (unhide ho) hb9)
  replace hz := hide (four_call (unhide hz) hb9)
  replace hs := hide (four_call (unhide hs) hb9)
  replace ht := hide (four_call (unhide ht) hb9)
  replace hd := hide (four_call (unhide hd) hb9)
  replace hp := hide (four_call (unhide hp) hb9)
  replace hq := hide (four_call (unhide hq) hb9)
  replace hL := hide ((unhide hL).trans (hb9.mono (unhide hL).size))
  clear hb9
  replace hx := hide (four_more (unhide hx) (.cells #[.int .i64 3, .int .i64 nn, .int .i64 ns, .string EZ] 23))
  replace hy := hide (four_more (unhide hy) (.cells #[.int .i64 3, .int .i64 nn, .int .i64 ns, .string EZ] 23))
  replace ho := hide (four_more (unhide ho) (.cells #[.int .i64 3, .int .i64 nn, .int .i64 ns, .string EZ] 23))
  replace hz := hide (four_more (unhide hz) (.cells #[.int .i64 3, .int .i64 nn, .int .i64 ns, .string EZ] 23))
  replace hs := hide (four_more (unhide hs) (.cells #[.int .i64 3, .int .i64 nn, .int .i64 ns, .string EZ] 23))
  replace ht := hide (four_more (unhide ht) (.cells #[.int .i64 3, .int .i64 nn, .int .i64 ns, .string EZ] 23))
  replace hd := hide (four_more (unhide hd) (.cells #[.int .i64 3, .int .i64 nn, .int .i64 ns, .string EZ] 23))
  replace hp := hide (four_more (unhide hp) (.cells #[.int .i64 3, .int .i64 nn, .int .i64 ns, .string EZ] 23))
  replace hq := hide (four_more (unhide hq) (.cells #[.int .i64 3, .int .i64 nn, .int .i64 ns, .string EZ] 23))
  have hn := hide (four_alloc (.int .i64 3) (.int .i64 nn) (.int .i64 ns) (.string EZ) 23 w9)
  replace hL := hide ((unhide hL).alloc (unhide hL).size (.cells #[.int .i64 3, .int .i64 nn, .int .i64 ns, .string EZ] 23))
  obtain ⟨-, z0, z1, z2, z3, -⟩ := unhide hz
  obtain ⟨-, x0, x1, x2, x3, -⟩ := unhide hx
  go_wp2_with fail
  refine (unhide C7 _).mono ?_
  rintro e w10 ⟨rfl, hb10⟩
  clear z0 z1 z2 z3 x0 x1 x2 x3
  replace hx := hide (four_call (unhide hx) hb10)
  replace hy := hide (four_call (unhide hy) hb10)
  replace ho := hide (four_call (unhide ho) hb10)
  replace hz := hide (four_call (unhide hz) hb10)
  replace hs := hide (four_call (unhide hs) hb10)
  replace ht := hide (four_call (unhide ht) hb10)
  replace hd := hide (four_call (unhide hd) hb10)
  replace hp := hide (four_call (unhide hp) hb10)
  replace hq := hide (four_call (unhide hq) hb10)
  replace hn := hide (four_call (unhide hn) hb10)
  replace hL := hide ((unhide hL).trans (hb10.mono (unhide hL).size))
  clear hb10
  replace hx := hide (four_more (unhide hx) (.cells #[.int .i64 3, .int .i64 nn, .int .i64 ns, .string EZ] 23))
  replace hy := hide (four_more (unhide hy) (.cells #[.int .i64 3, .int .i64 nn, .int .i64 ns, .string EZ] 23))
  replace ho := hide (four_more (unhide ho) (.cells #[.int .i64 3, .int .i64 nn, .int .i64 ns, .string EZ] 23))
  replace hz := hide (four_more (unhide hz) (.cells #[.int .i64 3, .int .i64 nn, .int .i64 ns, .string EZ] 23))
  replace hs := hide (four_more (unhide hs) (.cells #[.int .i64 3, .int .i64 nn, .int .i64 ns, .string EZ] 23))
  replace ht := hide (four_more (unhide ht) (.cells #[.int .i64 3, .int .i64 nn, .int .i64 ns, .string EZ] 23))
  replace hd := hide (four_more (unhide hd) (.cells #[.int .i64 3, .int .i64 nn, .int .i64 ns, .string EZ] 23))
  replace hp := hide (four_more (unhide hp) (.cells #[.int .i64 3, .int .i64 nn, .int .i64 ns, .string EZ] 23))
  replace hq := hide (four_more (unhide hq) (.cells #[.int .i64 3, .int .i64 nn, .int .i64 ns, .string EZ] 23))
  replace hn := hide (four_more (unhide hn) (.cells #[.int .i64 3, .int .i64 nn, .int .i64 ns, .string EZ] 23))
  have hm := hide (four_alloc (.int .i64 3) (.int .i64 nn) (.int .i64 ns) (.string EZ) 23 w10)
  replace hL := hide ((unhide hL).alloc (unhide hL).size (.cells #[.int .i64 3, .int .i64 nn, .int .i64 ns, .string EZ] 23))
  obtain ⟨-, x0, x1, x2, x3, -⟩ := unhide hx
  obtain ⟨-, y0, y1, y2, y3, -⟩ := unhide hy
  go_wp2_with fail
  refine (unhide C8 _).mono ?_
  rintro e w11 ⟨rfl, hb11⟩
  clear x0 x1 x2 x3 y0 y1 y2 y3
  replace hx := hide (four_call (unhide hx) hb11)
  replace hy := hide (four_call (unhide hy) hb11)
  replace ho := hide (four_call (unhide ho) hb11)
  replace hz := hide (four_call (unhide hz) hb11)
  replace hs := hide (four_call (unhide hs) hb11)
  replace ht := hide (four_call (unhide ht) hb11)
  replace hd := hide (four_call (unhide hd) hb11)
  replace hp := hide (four_call (unhide hp) hb11)
  replace hq := hide (four_call (unhide hq) hb11)
  replace hn := hide (four_call (unhide hn) hb11)
  replace hm := hide (four_call (unhide hm) hb11)
  replace hL := hide ((unhide hL).trans (hb11.mono (unhide hL).size))
  clear hb11
  replace hx := hide (four_more (unhide hx) (.cells #[.int .i64 uk, .int .i64 un, .int .i64 us, .string EZ] 23))
  replace hy := hide (four_more (unhide hy) (.cells #[.int .i64 uk, .int .i64 un, .int .i64 us, .string EZ] 23))
  replace ho := hide (four_more (unhide ho) (.cells #[.int .i64 uk, .int .i64 un, .int .i64 us, .string EZ] 23))
  replace hz := hide (four_more (unhide hz) (.cells #[.int .i64 uk, .int .i64 un, .int .i64 us, .string EZ] 23))
  replace hs := hide (four_more (unhide hs) (.cells #[.int .i64 uk, .int .i64 un, .int .i64 us, .string EZ] 23))
  replace ht := hide (four_more (unhide ht) (.cells #[.int .i64 uk, .int .i64 un, .int .i64 us, .string EZ] 23))
  replace hd := hide (four_more (unhide hd) (.cells #[.int .i64 uk, .int .i64 un, .int .i64 us, .string EZ] 23))
  replace hp := hide (four_more (unhide hp) (.cells #[.int .i64 uk, .int .i64 un, .int .i64 us, .string EZ] 23))
  replace hq := hide (four_more (unhide hq) (.cells #[.int .i64 uk, .int .i64 un, .int .i64 us, .string EZ] 23))
  replace hn := hide (four_more (unhide hn) (.cells #[.int .i64 uk, .int .i64 un, .int .i64 us, .string EZ] 23))
  replace hm := hide (four_more (unhide hm) (.cells #[.int .i64 uk, .int .i64 un, .int .i64 us, .string EZ] 23))
  have hu := hide (four_alloc (.int .i64 uk) (.int .i64 un) (.int .i64 us) (.string EZ) 23 w11)
  replace hL := hide ((unhide hL).alloc (unhide hL).size (.cells #[.int .i64 uk, .int .i64 un, .int .i64 us, .string EZ] 23))
  obtain ⟨-, x0, x1, x2, x3, -⟩ := unhide hx
  obtain ⟨-, y0, y1, y2, y3, -⟩ := unhide hy
  go_wp2_with fail
  refine (unhide C9 _).mono ?_
  rintro e w12 ⟨rfl, hb12⟩
  clear x0 x1 x2 x3 y0 y1 y2 y3
  replace hx := hide (four_call (unhide hx) hb12)
  replace hy := hide (four_call (unhide hy) hb12)
  replace ho := hide (four_call (unhide ho) hb12)
  replace hz := hide (four_call (unhide hz) hb12)
  replace hs := hide (four_call (unhide hs) hb12)
  replace ht := hide (four_call (unhide ht) hb12)
  replace hd := hide (four_call (unhide hd) hb12)
  replace hp := hide (four_call (unhide hp) hb12)
  replace hq := hide (four_call (unhide hq) hb12)
  replace hn := hide (four_call (unhide hn) hb12)
  replace hm := hide (four_call (unhide hm) hb12)
  replace hu := hide (four_call (unhide hu) hb12)
  replace hL := hide ((unhide hL).trans (hb12.mono (unhide hL).size))
  clear hb12
  replace hx := hide (four_more (unhide hx) (.cells #[.int .i64 uk, .int .i64 un, .int .i64 us, .string EZ] 23))
  replace hy := hide (four_more (unhide hy) (.cells #[.int .i64 uk, .int .i64 un, .int .i64 us, .string EZ] 23))
  replace ho := hide (four_more (unhide ho) (.cells #[.int .i64 uk, .int .i64 un, .int .i64 us, .string EZ] 23))
  replace hz := hide (four_more (unhide hz) (.cells #[.int .i64 uk, .int .i64 un, .int .i64 us, .string EZ] 23))
  replace hs := hide (four_more (unhide hs) (.cells #[.int .i64 uk, .int .i64 un, .int .i64 us, .string EZ] 23))
  replace ht := hide (four_more (unhide ht) (.cells #[.int .i64 uk, .int .i64 un, .int .i64 us, .string EZ] 23))
  replace hd := hide (four_more (unhide hd) (.cells #[.int .i64 uk, .int .i64 un, .int .i64 us, .string EZ] 23))
  replace hp := hide (four_more (unhide hp) (.cells #[.int .i64 uk, .int .i64 un, .int .i64 us, .string EZ] 23))
  replace hq := hide (four_more (unhide hq) (.cells #[.int .i64 uk, .int .i64 un, .int .i64 us, .string EZ] 23))
  replace hn := hide (four_more (unhide hn) (.cells #[.int .i64 uk, .int .i64 un, .int .i64 us, .string EZ] 23))
  replace hm := hide (four_more (unhide hm) (.cells #[.int .i64 uk, .int .i64 un, .int .i64 us, .string EZ] 23))
  replace hu := hide (four_more (unhide hu) (.cells #[.int .i64 uk, .int .i64 un, .int .i64 us, .string EZ] 23))
  have hv := hide (four_alloc (.int .i64 uk) (.int .i64 un) (.int .i64 us) (.string EZ) 23 w12)
  replace hL := hide ((unhide hL).alloc (unhide hL).size (.cells #[.int .i64 uk, .int .i64 un, .int .i64 us, .string EZ] 23))
  obtain ⟨-, s0, s1, s2, s3, -⟩ := unhide hs
  obtain ⟨-, t0, t1, t2, t3, -⟩ := unhide ht
  obtain ⟨-, d0, d1, d2, d3, -⟩ := unhide hd
  obtain ⟨-, x0, x1, x2, x3, -⟩ := unhide hx
  obtain ⟨-, p0, p1, p2, p3, -⟩ := unhide hp
  obtain ⟨-, q0, q1, q2, q3, -⟩ := unhide hq
  obtain ⟨-, n0, n1, n2, n3, -⟩ := unhide hn
  obtain ⟨-, m0, m1, m2, m3, -⟩ := unhide hm
  obtain ⟨-, u0, u1, u2, u3, -⟩ := unhide hu
  obtain ⟨-, v0, v1, v2, v3, -⟩ := unhide hv
  clear C1 C2 C3 C4 C5 C6 C7 C8 C9 hs ht hd hx hp hq hn hm hu hv hy ho hz
  go_wp2_with fail
  go_ret
  exact ⟨rfl, unhide hL⟩

theorem mil_zero' : mil 0 0 = 0 := by decide +kernel
theorem rec_mul_comm (xn xs yn ys : Int) : recR 6 3 xn xs 3 yn ys = recR 6 3 yn ys 3 xn xs := by
  have e1 : decN 6 xn xs yn ys = decN 6 yn ys xn xs := by
    show xn * yn = yn * xn; exact Int.mul_comm _ _
  have e2 : decS 6 xs ys = decS 6 ys xs := by
    show xs + ys = ys + xs; omega
  have e3 : decOk 6 xn xs yn ys = decOk 6 yn ys xn xs := by
    unfold decOk; rw [e1, e2]; rfl
  unfold recR; rw [e1, e2, e3, show opN 6 xn yn = opN 6 yn xn from Int.mul_comm _ _]
theorem reckon_tell (k kx xn xs yn ys : Int) (W : World) (hk4 : k ≠ 4) (hx : Is64 xn) (hy : Is64 yn) (c0 : 0 ≤ xs) (c6 : xs ≤ 6) (d0 : 0 ≤ ys) (d6 : ys ≤ 6) (r : (Int × Int × Int) × Int) (h : recR k kx xn xs kx yn ys = r) :
    Calls Try.prog 22 #[.int .i64 k, V kx xn xs EZ, V kx yn ys EZ] W fun e w' => e = .returned (.tuple #[V r.1.1 r.1.2.1 r.1.2.2 EZ, .int .i64 r.2]) ∧ Below W.heap.size W w' := by
  refine (reckon_any k kx xn xs EZ kx yn ys EZ W hx hy (fun _ => ⟨⟨c0, c6⟩, rfl⟩) (fun _ => ⟨⟨d0, d6⟩, rfl⟩)).mono (fun _ _ hh => ⟨hh.1.trans ?_, hh.2⟩)
  rw [if_neg hk4, h]; rfl
theorem reckon_neg (kx xn xs yn ys : Int) (W : World) (hx : Is64 xn) (hy : Is64 yn) (c0 : 0 ≤ xs) (c6 : xs ≤ 6) (d0 : 0 ≤ ys) (d6 : ys ≤ 6) (r : (Int × Int × Int) × Int) (h : recR 8 kx 0 0 kx xn xs = r) :
    Calls Try.prog 22 #[.int .i64 4, V kx xn xs EZ, V kx yn ys EZ] W fun e w' => e = .returned (.tuple #[V r.1.1 r.1.2.1 r.1.2.2 EZ, .int .i64 r.2]) ∧ Below W.heap.size W w' := by
  refine (reckon_any 4 kx xn xs EZ kx yn ys EZ W hx hy (fun _ => ⟨⟨c0, c6⟩, rfl⟩) (fun _ => ⟨⟨d0, d6⟩, rfl⟩)).mono (fun _ _ hh => ⟨hh.1.trans ?_, hh.2⟩)
  rw [if_pos rfl, h]; rfl
theorem rec_int (k x y : Int) (hk : reckB k = true) (z : Int) (hz : opN k x y = z) (h : Is64 z) : recR k 2 x 0 2 y 0 = ((2, z, 0), 0) := by
  subst hz; rw [rec_g1 hk (inI_true h), wrap64_is _ h]
theorem laws_int_all (a b scale other : Int) (w : World) (ha : Is64 a) (hb : Is64 b) :
    Calls Try.prog 6 #[.int .i64 a, .int .i64 b, .int .i64 scale, .int .i64 other, .bool false] w fun e w' => e = .returned (.bool true) ∧ Below w.heap.size w w' := by
  have WA := hide (fun W => within_any a 1073741824 W ha (by decide))
  have WB := hide (fun W => within_any b 1073741824 W hb (by decide))
  have a1 := Int.emod_nonneg a (show (1073741824 : Int) ≠ 0 by decide)
  have a2 := Int.emod_lt_of_pos a (show (0 : Int) < 1073741824 by decide)
  have b1 := Int.emod_nonneg b (show (1073741824 : Int) ≠ 0 by decide)
  have b2 := Int.emod_lt_of_pos b (show (0 : Int) < 1073741824 by decide)
  generalize a % 1073741824 = ra at *
  generalize b % 1073741824 = rb at *
  have iX : Is64 (ra - 536870912) := by unfold Is64; omega
  have iY : Is64 (rb - 536870912) := by unfold Is64; omega
  have iP : Is64 ((ra - 536870912) * (rb - 536870912)) := mul_small (by omega) (by omega)
  have i0 : Is64 0 := by decide
  have i1 : Is64 1 := by decide
  have iS : Is64 (ra - 536870912 + (rb - 536870912)) := by unfold Is64; omega
  have C (k x y : Int) (hk : reckB k = true) (hk4 : k ≠ 4) (hx : Is64 x) (hy : Is64 y) (z : Int) (hz : opN k x y = z) (h : Is64 z) := hide (fun W => reckon_tell k 2 x 0 y 0 W hk4 hx hy (by decide) (by decide) (by decide) (by decide) _ (rec_int k x y hk z hz h))
  exact laws_int a b scale other ra rb (ra - 536870912 + (rb - 536870912)) 0 (0 - (ra - 536870912)) 0 2 ((ra - 536870912) * (rb - 536870912)) 0 0 w WA WB a1 a2 b1 b2
    (C 7 _ _ (by decide) (by decide) iX iY _ rfl iS)
    (C 7 _ _ (by decide) (by decide) iY iX _ (by show (rb - 536870912) + (ra - 536870912) = _; omega) iS)
    (C 8 _ _ (by decide) (by decide) iS iY _ (by show (ra - 536870912 + (rb - 536870912)) - (rb - 536870912) = _; omega) iX)
    (C 6 _ _ (by decide) (by decide) iX i1 _ (by show (ra - 536870912) * 1 = _; omega) iX)
    (C 7 _ _ (by decide) (by decide) iX i0 _ (by show (ra - 536870912) + 0 = _; omega) iX)
    (hide (fun W => reckon_neg 2 (ra - 536870912) 0 0 0 W iX i0 (by decide) (by decide) (by decide) (by decide) _ (rec_int 8 0 (ra - 536870912) (by decide) _ rfl (by show Is64 (0 - (ra - 536870912)); unfold Is64; omega))))
    (C 8 _ _ (by decide) (by decide) i0 iX _ rfl (by show Is64 (0 - (ra - 536870912)); unfold Is64; omega))
    (C 6 _ _ (by decide) (by decide) iX iY _ rfl iP)
    (C 6 _ _ (by decide) (by decide) iY iX _ (by show (rb - 536870912) * (ra - 536870912) = _; exact Int.mul_comm _ _) iP)
theorem stretch_bd {n s m : Int} (h0 : 0 ≤ s) (h1 : s ≤ m) (h3 : m ≤ 3) (hm : -1100000000000000 ≤ mil n s ∧ mil n s ≤ 1100000000000000) : -400000000000000 ≤ n * pw (m - s) ∧ n * pw (m - s) ≤ 400000000000000 := by
  have e := mil_max (n := n) h0 h1 (show m ≤ 6 by omega)
  have hp : 1000 ≤ pw (6 - m) := by
    have : m = 0 ∨ m = 1 ∨ m = 2 ∨ m = 3 := by omega
    rcases this with rfl | rfl | rfl | rfl <;> decide
  rw [← e] at hm
  unfold mil at hm
  generalize n * pw (m - s) = q at *
  generalize pw (6 - m) = p at *
  have h2 : (q * p).natAbs = q.natAbs * p.natAbs := Int.natAbs_mul q p
  have h4 : q.natAbs * 1000 ≤ q.natAbs * p.natAbs := Nat.mul_le_mul_left _ (by omega)
  omega
theorem mil_bd {n s : Int} (h1 : -536870912 ≤ n) (h2 : n ≤ 536870912) : -536870912000000 ≤ mil n s ∧ mil n s ≤ 536870912000000 := by
  have := mul_bd h1 h2 (show 0 ≤ pw (6 - s) by have := pw_bd (6 - s); omega) (pw_bd (6 - s)).2 (by decide)
  unfold mil; omega
theorem laws_dec_all (a b scale other : Int) (w : World) (ha : Is64 a) (hb : Is64 b) (hsc : Is64 scale) (hot : Is64 other) :
    Calls Try.prog 6 #[.int .i64 a, .int .i64 b, .int .i64 scale, .int .i64 other, .bool true] w fun e w' => e = .returned (.bool true) ∧ Below w.heap.size w w' := by
  have WA := hide (fun W => within_any a 1073741824 W ha (by decide))
  have WB := hide (fun W => within_any b 1073741824 W hb (by decide))
  have WS := hide (fun W => within_any scale 4 W hsc (by decide))
  have WO := hide (fun W => within_any other 3 W hot (by decide))
  have a1 := Int.emod_nonneg a (show (1073741824 : Int) ≠ 0 by decide)
  have a2 := Int.emod_lt_of_pos a (show (0 : Int) < 1073741824 by decide)
  have b1 := Int.emod_nonneg b (show (1073741824 : Int) ≠ 0 by decide)
  have b2 := Int.emod_lt_of_pos b (show (0 : Int) < 1073741824 by decide)
  have s1 := Int.emod_nonneg scale (show (4 : Int) ≠ 0 by decide)
  have s2 := Int.emod_lt_of_pos scale (show (0 : Int) < 4 by decide)
  have t1 := Int.emod_nonneg other (show (3 : Int) ≠ 0 by decide)
  have t2 := Int.emod_lt_of_pos other (show (0 : Int) < 3 by decide)
  generalize a % 1073741824 = ra at *
  generalize b % 1073741824 = rb at *
  generalize scale % 4 = rs at *
  generalize other % 3 = ro at *
  have CX := hide (fun W => rnorm_dec (ra - 536870912) rs EZ W (by unfold Is64; omega) (by unfold Is64; omega))
  have CY := hide (fun W => rnorm_dec (rb - 536870912) ro EZ W (by unfold Is64; omega) (by unfold Is64; omega))
  obtain ⟨hX, x3, x4, x5⟩ := norm_normed (ra - 536870912) rs s1
  obtain ⟨hY, y3, y4, y5⟩ := norm_normed (rb - 536870912) ro t1
  generalize normN (ra - 536870912) rs = xn at *
  generalize normC (ra - 536870912) rs = xs at *
  generalize normN (rb - 536870912) ro = yn at *
  generalize normC (rb - 536870912) ro = ys at *
  have iX : Is64 xn := by unfold Is64; omega
  have iY : Is64 yn := by unfold Is64; omega
  have i0 : Is64 0 := by decide
  have i1 : Is64 1 := by decide
  have mX := mil_bd (n := xn) (s := xs) (by omega) (by omega)
  have mY := mil_bd (n := yn) (s := ys) (by omega) (by omega)
  have m0 : mil 0 0 = 0 := mil_zero'
  -- the sum
  obtain ⟨sn, ss, hS, u0, u3, hsm⟩ : ∃ sn ss, Normed sn ss ∧ 0 ≤ ss ∧ ss ≤ 3 ∧ mil sn ss = mil xn xs + mil yn ys := by
    refine ⟨normN (xn * pw (max xs ys - xs) + yn * pw (max xs ys - ys)) (max xs ys), normC (xn * pw (max xs ys - xs) + yn * pw (max xs ys - ys)) (max xs ys), ?_⟩
    obtain ⟨q1, q2, q3, q4⟩ := norm_normed (xn * pw (max xs ys - xs) + yn * pw (max xs ys - ys)) (max xs ys) (by omega)
    refine ⟨q1, q2, by omega, ?_⟩
    rw [mil_norm (by omega) (by omega), ← mil_max (n := xn) x3 (show xs ≤ max xs ys by omega) (by omega), ← mil_max (n := yn) y3 (show ys ≤ max xs ys by omega) (by omega)]
    unfold mil; rw [Int.add_mul]
  obtain ⟨nn, ns, hN, v0, v3, hnm⟩ : ∃ nn ns, Normed nn ns ∧ 0 ≤ ns ∧ ns ≤ 3 ∧ mil nn ns = 0 - mil xn xs := by
    refine ⟨normN (0 - xn) xs, normC (0 - xn) xs, ?_⟩
    obtain ⟨q1, q2, q3, q4⟩ := norm_normed (0 - xn) xs (by omega)
    refine ⟨q1, q2, by omega, ?_⟩
    rw [mil_norm (by omega) (by omega)]; unfold mil; rw [Int.sub_mul, Int.zero_mul]
  have iS : Is64 sn := by
    have hp := pw_bd (6 - ss)
    have h2 : (mil sn ss).natAbs = sn.natAbs * (pw (6 - ss)).natAbs := Int.natAbs_mul _ _
    have h4 : sn.natAbs * 1 ≤ sn.natAbs * (pw (6 - ss)).natAbs := Nat.mul_le_mul_left _ (by omega)
    unfold Is64; omega
  have T (k p q r t : Int) (hk : k = 7 ∨ k = 8) (hp : Is64 p) (hr : Is64 r) (q0 : 0 ≤ q) (q3 : q ≤ 3) (t0 : 0 ≤ t) (t3 : t ≤ 3) (mp : -1100000000000000 ≤ mil p q ∧ mil p q ≤ 1100000000000000) (mr : -1100000000000000 ≤ mil r t ∧ mil r t ≤ 1100000000000000)
      (n s : Int) (g0 : 0 ≤ s) (g3 : s ≤ 3) (hn : Normed n s) (h : mil n s = opN k (mil p q) (mil r t)) :=
    hide (fun W => reckon_told k p q r t W hk hp hr q0 (by omega) t0 (by omega) (stretch_bd q0 (show q ≤ max q t by omega) (by omega) mp) (stretch_bd t0 (show t ≤ max q t by omega) (by omega) mr) n s g0 (by omega) hn h)
  have b0 : -1100000000000000 ≤ mil 0 0 ∧ mil 0 0 ≤ 1100000000000000 := by rw [m0]; decide
  have hR4 : recR 6 3 xn xs 3 1 0 = ((3, xn, xs), 0) := by
    have e1 : decN 6 xn xs 1 0 = xn := by show xn * 1 = xn; omega
    have e2 : decS 6 xs 0 = xs := by show xs + 0 = xs; omega
    have hd := normed_done hX
    have e3 : decOk 6 xn xs 1 0 = true := by
      unfold decOk; rw [e1, e2, wrap64_is _ iX, hd.1, hd.2, inI_true iX, rd_normed hX x3 (by omega) (by omega)]; rfl
    rw [rec_h1 (by decide) e3, e1, e2, wrap64_is _ iX, hd.1, hd.2]
  have hR6 : ∃ r, recR 8 3 0 0 3 xn xs = r ∧ r = ((3, nn, ns), 0) := by
    have hA := stretch_bd (n := 0) (s := 0) (m := max 0 xs) (by decide) (by omega) (by omega) b0
    have hB := stretch_bd (n := xn) (s := xs) (m := max 0 xs) x3 (by omega) (by omega) (by omega)
    obtain ⟨h1, h2, h3⟩ := dec_small 8 0 0 xn xs (Or.inr rfl) (by decide) (by decide) x3 (by omega) hA hB
    refine ⟨_, rfl, ?_⟩
    rw [rec_h1 (by decide) h1, h2, h3]
    have hz : mil (opN 8 (0 * pw (max 0 xs - 0)) (xn * pw (max 0 xs - xs))) (max 0 xs) = 0 - mil xn xs := by
      rw [← mil_max (n := xn) x3 (show xs ≤ max 0 xs by omega) (by omega)]
      show mil (0 * pw (max 0 xs - 0) - xn * pw (max 0 xs - xs)) (max 0 xs) = _
      unfold mil; rw [Int.sub_mul, Int.zero_mul, Int.zero_mul]
    generalize opN 8 (0 * pw (max 0 xs - 0)) (xn * pw (max 0 xs - xs)) = z at *
    obtain ⟨q1, q2, q3, q4⟩ := norm_normed z (max 0 xs) (by omega)
    have hm := mil_norm (n := z) (s := max 0 xs) (by omega) (by omega)
    obtain ⟨u1, u2⟩ := norm_unique q2 (by omega) v0 (by omega) q1 hN (by rw [hm, hz, hnm])
    rw [u1, u2]
  obtain ⟨r6, h6, e6⟩ := hR6
  rw [e6] at h6
  obtain ⟨⟨⟨uk, un, us⟩, ue⟩, hu⟩ : ∃ r, recR 6 3 xn xs 3 yn ys = r := ⟨_, rfl⟩
  exact laws_dec a b scale other ra rb rs ro xn xs yn ys sn ss nn ns uk un us ue w WA WB WS WO a1 a2 b1 b2 CX CY
    (T 7 xn xs yn ys (Or.inl rfl) iX iY x3 (by omega) y3 (by omega) (by omega) (by omega) sn ss u0 u3 hS hsm)
    (T 7 yn ys xn xs (Or.inl rfl) iY iX y3 (by omega) x3 (by omega) (by omega) (by omega) sn ss u0 u3 hS (by show mil sn ss = mil yn ys + mil xn xs; omega))
    (T 8 sn ss yn ys (Or.inr rfl) iS iY u0 u3 y3 (by omega) (by omega) (by omega) xn xs x3 (by omega) hX (by show mil xn xs = mil sn ss - mil yn ys; omega))
    (hide (fun W => reckon_tell 6 3 xn xs 1 0 W (by decide) iX i1 x3 (by omega) (by decide) (by decide) _ hR4))
    (T 7 xn xs 0 0 (Or.inl rfl) iX i0 x3 (by omega) (by decide) (by decide) (by omega) b0 xn xs x3 (by omega) hX (by show mil xn xs = mil xn xs + mil 0 0; omega))
    (hide (fun W => reckon_neg 3 xn xs 0 0 W iX i0 x3 (by omega) (by decide) (by decide) _ h6))
    (hide (fun W => reckon_tell 8 3 0 0 xn xs W (by decide) i0 iX (by decide) (by decide) x3 (by omega) _ h6))
    (hide (fun W => reckon_tell 6 3 xn xs yn ys W (by decide) iX iY x3 (by omega) y3 (by omega) _ hu))
    (hide (fun W => reckon_tell 6 3 yn ys xn xs W (by decide) iY iX y3 (by omega) x3 (by omega) _ ((rec_mul_comm yn ys xn xs).trans hu)))
theorem valLaws_walk (a b scale other : Int) (dec : Bool) (wa : (Lit.int .i64 a).wf = true) (wb : (Lit.int .i64 b).wf = true) (ws : (Lit.int .i64 scale).wf = true) (wo : (Lit.int .i64 other).wf = true) (w : World) :
    Calls Try.prog 6 #[.int .i64 a, .int .i64 b, .int .i64 scale, .int .i64 other, .bool dec] w fun e w' => e = .returned (.bool true) ∧ Below w.heap.size w w' := by
  cases dec
  · exact laws_int_all a b scale other w (is64_wf wa) (is64_wf wb)
  · exact laws_dec_all a b scale other w (is64_wf wa) (is64_wf wb) (is64_wf ws) (is64_wf wo)
end Go.Proofs.Ytdifkecpcnakoaa
