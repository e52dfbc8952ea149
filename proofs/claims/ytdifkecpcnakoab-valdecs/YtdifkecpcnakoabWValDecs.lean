/-
  The walk of the law ValDecs.
-/
import Derived.Test.YtdifkecpcnakoabWI0
import Derived.Test.YtdifkecpcnakoabD
namespace Go.Proofs.Ytdifkecpcnakoab
open Go.RowKit
set_option linter.unusedSimpArgs false
set_option linter.unusedVariables false
attribute [local go_sem ↓] Go.wp_at_zero Go.wp_at_succ

/-- the world has but grown; five values lie in blocks of their own -/
def S5 (w : World) (a b c d e : Nat) (x0 x1 y0 y1 z0 z1 u0 u1 v0 v1 : Int) (W : World) : Prop :=
  Below w.heap.size w W ∧ Four a (.int .i64 3) (.int .i64 x0) (.int .i64 x1) (.string EZ) W ∧ Four b (.int .i64 3) (.int .i64 y0) (.int .i64 y1) (.string EZ) W ∧
  Four c (.int .i64 3) (.int .i64 z0) (.int .i64 z1) (.string EZ) W ∧ Four d (.int .i64 3) (.int .i64 u0) (.int .i64 u1) (.string EZ) W ∧ Four e (.int .i64 3) (.int .i64 v0) (.int .i64 v1) (.string EZ) W
theorem s5_call {w : World} {a b c d e : Nat} {x0 x1 y0 y1 z0 z1 u0 u1 v0 v1 : Int} {W w1 : World} (h : S5 w a b c d e x0 x1 y0 y1 z0 z1 u0 u1 v0 v1 W) (hb : Below W.heap.size W w1) : S5 w a b c d e x0 x1 y0 y1 z0 z1 u0 u1 v0 v1 w1 :=
  ⟨h.1.trans (hb.mono h.1.size), four_call h.2.1 hb, four_call h.2.2.1 hb, four_call h.2.2.2.1 hb, four_call h.2.2.2.2.1 hb, four_call h.2.2.2.2.2 hb⟩

set_option maxHeartbeats 4000000 in
set_option maxRecDepth 100000 in
theorem decs_walk (a s b t ra rs rb rt xn xs yn ys dn ds o : Int) (w : World)
    (WA : Hid (∀ W, Calls Try.prog 9 #[.int .i64 a, .int .i64 2000000] W fun e w' => e = .returned (.int .i64 ra) ∧ w' = W))
    (WS : Hid (∀ W, Calls Try.prog 9 #[.int .i64 s, .int .i64 7] W fun e w' => e = .returned (.int .i64 rs) ∧ w' = W))
    (WB : Hid (∀ W, Calls Try.prog 9 #[.int .i64 b, .int .i64 2000000] W fun e w' => e = .returned (.int .i64 rb) ∧ w' = W))
    (WT : Hid (∀ W, Calls Try.prog 9 #[.int .i64 t, .int .i64 7] W fun e w' => e = .returned (.int .i64 rt) ∧ w' = W))
    (a1 : 0 ≤ ra) (a2 : ra < 2000000) (b1 : 0 ≤ rb) (b2 : rb < 2000000)
    (CX : Hid (∀ W, Calls Try.prog 8 #[V 3 (ra - 1000000) rs EZ] W fun e w' => e = .returned (V 3 xn xs EZ) ∧ Below W.heap.size W w'))
    (CY : Hid (∀ W, Calls Try.prog 8 #[V 3 (rb - 1000000) rt EZ] W fun e w' => e = .returned (V 3 yn ys EZ) ∧ Below W.heap.size W w'))
    (CD : Hid (∀ W, Calls Try.prog 10 #[.int .i64 8, V 3 xn xs EZ, V 3 yn ys EZ] W fun e w' => e = .returned (.tuple #[V 3 dn ds EZ, .int .i64 0]) ∧ Below W.heap.size W w'))
    (CZ : Hid (∀ W, Calls Try.prog 10 #[.int .i64 8, V 3 xn xs EZ, V 3 xn xs EZ] W fun e w' => e = .returned (.tuple #[V 3 0 0 EZ, .int .i64 0]) ∧ Below W.heap.size W w'))
    (CO : Hid (∀ W, Calls Try.prog 11 #[V 3 xn xs EZ, V 3 yn ys EZ] W fun e w' => e = .returned (.int .i64 o) ∧ Below W.heap.size W w'))
    (CQ : Hid (∀ W, Calls Try.prog 11 #[V 3 dn ds EZ, V 3 0 0 EZ] W fun e w' => e = .returned (.int .i64 o) ∧ Below W.heap.size W w')) :
    Calls Try.prog 3 #[.int .i64 a, .int .i64 s, .int .i64 b, .int .i64 t] w fun e w' => e = .returned (.bool true) ∧ Below w.heap.size w w' := by
  have hL := hide (Below.refl w.heap.size w)
  go_enter Try.func3, Try.ntmps3
  go_wp2_with fail
  refine (known_any _).mono ?_
  rintro e w1 ⟨rfl, hb1⟩
  replace hL := hide ((unhide hL).trans (hb1.mono (unhide hL).size))
  clear hb1
  go_wp2_with fail
  refine (unhide WA _).mono ?_
  rintro e wq2 ⟨rfl, rfl⟩
  go_wp2_with fail
  refine (unhide WS _).mono ?_
  rintro e wq3 ⟨rfl, rfl⟩
  go_wp2_with fail
  refine (unhide CX _).mono ?_
  rintro e w4 ⟨rfl, hb4⟩
  replace hL := hide ((unhide hL).trans (hb4.mono (unhide hL).size))
  clear hb4
  have hx := hide (four_alloc (.int .i64 3) (.int .i64 xn) (.int .i64 xs) (.string EZ) 24 w4)
  replace hL := hide ((unhide hL).alloc (unhide hL).size (.cells #[.int .i64 3, .int .i64 xn, .int .i64 xs, .string EZ] 24))
  go_wp2_with fail
  refine (unhide WB _).mono ?_
  rintro e wq5 ⟨rfl, rfl⟩
  go_wp2_with fail
  refine (unhide WT _).mono ?_
  rintro e wq6 ⟨rfl, rfl⟩
  go_wp2_with fail
  refine (unhide CY _).mono ?_
  rintro e w7 ⟨rfl, hb7⟩
  replace hx := hide (four_call (unhide hx) hb7)
  replace hL := hide ((unhide hL).trans (hb7.mono (unhide hL).size))
  clear hb7
  replace hx := hide (four_more (unhide hx) (.cells #[.int .i64 3, .int .i64 yn, .int .i64 ys, .string EZ] 24))
  have hy := hide (four_alloc (.int .i64 3) (.int .i64 yn) (.int .i64 ys) (.string EZ) 24 w7)
  replace hL := hide ((unhide hL).alloc (unhide hL).size (.cells #[.int .i64 3, .int .i64 yn, .int .i64 ys, .string EZ] 24))
  obtain ⟨-, x0, x1, x2, x3, -⟩ := unhide hx
  obtain ⟨-, y0, y1, y2, y3, -⟩ := unhide hy
  go_wp2_with fail
  refine (unhide CD _).mono ?_
  rintro e w8 ⟨rfl, hb8⟩
  clear x0 x1 x2 x3 y0 y1 y2 y3
  replace hx := hide (four_call (unhide hx) hb8)
  replace hy := hide (four_call (unhide hy) hb8)
  replace hL := hide ((unhide hL).trans (hb8.mono (unhide hL).size))
  clear hb8
  replace hx := hide (four_more (unhide hx) (.cells #[.int .i64 3, .int .i64 dn, .int .i64 ds, .string EZ] 24))
  replace hy := hide (four_more (unhide hy) (.cells #[.int .i64 3, .int .i64 dn, .int .i64 ds, .string EZ] 24))
  have hd := hide (four_alloc (.int .i64 3) (.int .i64 dn) (.int .i64 ds) (.string EZ) 24 w8)
  replace hL := hide ((unhide hL).alloc (unhide hL).size (.cells #[.int .i64 3, .int .i64 dn, .int .i64 ds, .string EZ] 24))
  obtain ⟨-, x0, x1, x2, x3, -⟩ := unhide hx
  go_wp2_with fail
  refine (unhide CZ _).mono ?_
  rintro e w9 ⟨rfl, hb9⟩
  clear x0 x1 x2 x3
  replace hx := hide (four_call (unhide hx) hb9)
  replace hy := hide (four_call (unhide hy) hb9)
  replace hd := hide (four_call (unhide hd) hb9)
  replace hL := hide ((unhide hL).trans (hb9.mono (unhide hL).size))
  clear hb9
  replace hx := hide (four_more (unhide hx) (.cells #[.int .i64 3, .int .i64 0, .int .i64 0, .string EZ] 24))
  replace hy := hide (four_more (unhide hy) (.cells #[.int .i64 3, .int .i64 0, .int .i64 0, .string EZ] 24))
  replace hd := hide (four_more (unhide hd) (.cells #[.int .i64 3, .int .i64 0, .int .i64 0, .string EZ] 24))
  have hz := hide (four_alloc (.int .i64 3) (.int .i64 0) (.int .i64 0) (.string EZ) 24 w9)
  replace hL := hide ((unhide hL).alloc (unhide hL).size (.cells #[.int .i64 3, .int .i64 0, .int .i64 0, .string EZ] 24))
  replace hx := hide (four_more (unhide hx) (.cells #[.int .i64 3, .int .i64 0, .int .i64 0, .string EZ] 24))
  replace hy := hide (four_more (unhide hy) (.cells #[.int .i64 3, .int .i64 0, .int .i64 0, .string EZ] 24))
  replace hd := hide (four_more (unhide hd) (.cells #[.int .i64 3, .int .i64 0, .int .i64 0, .string EZ] 24))
  replace hz := hide (four_more (unhide hz) (.cells #[.int .i64 3, .int .i64 0, .int .i64 0, .string EZ] 24))
  have ho := hide (four_alloc (.int .i64 3) (.int .i64 0) (.int .i64 0) (.string EZ) 24 (w9.alloc (.cells #[.int .i64 3, .int .i64 0, .int .i64 0, .string EZ] 24)))
  replace hL := hide ((unhide hL).alloc (unhide hL).size (.cells #[.int .i64 3, .int .i64 0, .int .i64 0, .string EZ] 24))
  simp only [World.size_alloc] at ho
  go_wp2_with fail
  rename_i Q1 K1 hrest
  clear WA WS WB WT CX CY CD CZ
  refine wp_region_noPanic ?_
  refine wp_region_held_drew (S := S5 w _ _ _ _ _ xn xs yn ys dn ds 0 0 0 0) (by kernel_rfl) ⟨(unhide hL).drew, four_drew (unhide hx), four_drew (unhide hy), four_drew (unhide hd), four_drew (unhide hz), four_drew (unhide ho)⟩ (fun hHeld => ?_)
  revert hHeld
  generalize World.drew _ = Wd
  intro hHeld
  refine wpAnyH_take (i := 0) (oi := ?oi1001) (v := ?v1001) ?hi1001 (by kernel_rfl) (by kernel_rfl) (by kernel_rfl) (fun _ _ _ h => h) (Or.inl ⟨?hw1001, ?hy1001⟩) (by assumption) ?rest1001
  case hi1001 => (simp only [List.getElem?_toArray, List.getElem?_cons_zero]; rfl)
  case hw1001 => rfl
  case hy1001 => first | (intro wx hSw; obtain ⟨_, ⟨_, e0, e1, e2, e3, _⟩, ⟨_, e4, e5, e6, e7, _⟩, ⟨_, f0, f1, f2, f3, _⟩, ⟨_, f4, f5, f6, f7, _⟩, ⟨_, g0, g1, g2, g3, _⟩⟩ := hSw; go_simp; done) | (intro wx hSw; obtain ⟨_, ⟨_, e0, e1, e2, e3, _⟩, ⟨_, e4, e5, e6, e7, _⟩, ⟨_, f0, f1, f2, f3, _⟩, ⟨_, f4, f5, f6, f7, _⟩, ⟨_, g0, g1, g2, g3, _⟩⟩ := hSw; go_simp; with_reducible rfl)
  simp only [Act.put, List.setIfInBounds_toArray, List.set_cons_zero, List.set_cons_succ]
  refine wpAnyH_take (i := 1) (oi := ?oi1002) (v := ?v1002) ?hi1002 (by kernel_rfl) (by kernel_rfl) (by kernel_rfl) (fun _ _ _ h => h) (Or.inl ⟨?hw1002, ?hy1002⟩) (by assumption) ?rest1002
  case hi1002 => (simp only [List.getElem?_toArray, List.getElem?_cons_zero, List.getElem?_cons_succ]; rfl)
  case hw1002 => rfl
  case hy1002 => first | (intro wx hSw; obtain ⟨_, ⟨_, e0, e1, e2, e3, _⟩, ⟨_, e4, e5, e6, e7, _⟩, ⟨_, f0, f1, f2, f3, _⟩, ⟨_, f4, f5, f6, f7, _⟩, ⟨_, g0, g1, g2, g3, _⟩⟩ := hSw; go_simp; done) | (intro wx hSw; obtain ⟨_, ⟨_, e0, e1, e2, e3, _⟩, ⟨_, e4, e5, e6, e7, _⟩, ⟨_, f0, f1, f2, f3, _⟩, ⟨_, f4, f5, f6, f7, _⟩, ⟨_, g0, g1, g2, g3, _⟩⟩ := hSw; go_simp; with_reducible rfl)
  simp only [Act.put, List.setIfInBounds_toArray, List.set_cons_zero, List.set_cons_succ]
  refine wpAnyH_take (i := 2) (oi := ?oi1003) (v := ?v1003) ?hi1003 (by kernel_rfl) (by kernel_rfl) (by kernel_rfl) (fun _ _ _ h => h) (Or.inl ⟨?hw1003, ?hy1003⟩) (by assumption) ?rest1003
  case hi1003 => (simp only [List.getElem?_toArray, List.getElem?_cons_zero, List.getElem?_cons_succ]; rfl)
  case hw1003 => rfl
  case hy1003 => first | (intro wx hSw; obtain ⟨_, ⟨_, e0, e1, e2, e3, _⟩, ⟨_, e4, e5, e6, e7, _⟩, ⟨_, f0, f1, f2, f3, _⟩, ⟨_, f4, f5, f6, f7, _⟩, ⟨_, g0, g1, g2, g3, _⟩⟩ := hSw; go_simp; done) | (intro wx hSw; obtain ⟨_, ⟨_, e0, e1, e2, e3, _⟩, ⟨_, e4, e5, e6, e7, _⟩, ⟨_, f0, f1, f2, f3, _⟩, ⟨_, f4, f5, f6, f7, _⟩, ⟨_, g0, g1, g2, g3, _⟩⟩ := hSw; go_simp; with_reducible rfl)
  simp only [Act.put, List.setIfInBounds_toArray, List.set_cons_zero, List.set_cons_succ]
  refine wpAnyH_take (i := 3) (oi := ?oi1004) (v := ?v1004) ?hi1004 (by kernel_rfl) (by kernel_rfl) (by kernel_rfl) (fun _ _ _ h => h) (Or.inl ⟨?hw1004, ?hy1004⟩) (by assumption) ?rest1004
  case hi1004 => (simp only [List.getElem?_toArray, List.getElem?_cons_zero, List.getElem?_cons_succ]; rfl)
  case hw1004 => rfl
  case hy1004 => first | (intro wx hSw; obtain ⟨_, ⟨_, e0, e1, e2, e3, _⟩, ⟨_, e4, e5, e6, e7, _⟩, ⟨_, f0, f1, f2, f3, _⟩, ⟨_, f4, f5, f6, f7, _⟩, ⟨_, g0, g1, g2, g3, _⟩⟩ := hSw; go_simp; done) | (intro wx hSw; obtain ⟨_, ⟨_, e0, e1, e2, e3, _⟩, ⟨_, e4, e5, e6, e7, _⟩, ⟨_, f0, f1, f2, f3, _⟩, ⟨_, f4, f5, f6, f7, _⟩, ⟨_, g0, g1, g2, g3, _⟩⟩ := hSw; go_simp; with_reducible rfl)
  simp only [Act.put, List.setIfInBounds_toArray, List.set_cons_zero, List.set_cons_succ]
  refine wpAnyH_take (i := 4) (oi := ?oi1005) (v := ?v1005) ?hi1005 (by kernel_rfl) (by kernel_rfl) (by kernel_rfl) (fun _ _ _ h => h) (Or.inl ⟨?hw1005, ?hy1005⟩) (by assumption) ?rest1005
  case hi1005 => (simp only [List.getElem?_toArray, List.getElem?_cons_zero, List.getElem?_cons_succ]; rfl)
  case hw1005 => rfl
  case hy1005 => first | (intro wx hSw; obtain ⟨_, ⟨_, e0, e1, e2, e3, _⟩, ⟨_, e4, e5, e6, e7, _⟩, ⟨_, f0, f1, f2, f3, _⟩, ⟨_, f4, f5, f6, f7, _⟩, ⟨_, g0, g1, g2, g3, _⟩⟩ := hSw; go_simp; done) | (intro wx hSw; obtain ⟨_, ⟨_, e0, e1, e2, e3, _⟩, ⟨_, e4, e5, e6, e7, _⟩, ⟨_, f0, f1, f2, f3, _⟩, ⟨_, f4, f5, f6, f7, _⟩, ⟨_, g0, g1, g2, g3, _⟩⟩ := hSw; go_simp; with_reducible rfl)
  simp only [Act.put, List.setIfInBounds_toArray, List.set_cons_zero, List.set_cons_succ]
  refine wpAnyH_take (i := 5) (oi := ?oi1006) (v := ?v1006) ?hi1006 (by kernel_rfl) (by kernel_rfl) (by kernel_rfl) (fun _ _ _ h => h) (Or.inl ⟨?hw1006, ?hy1006⟩) (by assumption) ?rest1006
  case hi1006 => (simp only [List.getElem?_toArray, List.getElem?_cons_zero, List.getElem?_cons_succ]; rfl)
  case hw1006 => rfl
  case hy1006 => first | (intro wx hSw; obtain ⟨_, ⟨_, e0, e1, e2, e3, _⟩, ⟨_, e4, e5, e6, e7, _⟩, ⟨_, f0, f1, f2, f3, _⟩, ⟨_, f4, f5, f6, f7, _⟩, ⟨_, g0, g1, g2, g3, _⟩⟩ := hSw; go_simp; done) | (intro wx hSw; obtain ⟨_, ⟨_, e0, e1, e2, e3, _⟩, ⟨_, e4, e5, e6, e7, _⟩, ⟨_, f0, f1, f2, f3, _⟩, ⟨_, f4, f5, f6, f7, _⟩, ⟨_, g0, g1, g2, g3, _⟩⟩ := hSw; go_simp; with_reducible rfl)
  simp only [Act.put, List.setIfInBounds_toArray, List.set_cons_zero, List.set_cons_succ]
  refine wpAnyH_take (i := 6) (oi := ?oi1007) (v := ?v1007) ?hi1007 (by kernel_rfl) (by kernel_rfl) (by kernel_rfl) (fun _ _ _ h => h) (Or.inl ⟨?hw1007, ?hy1007⟩) (by assumption) ?rest1007
  case hi1007 => (simp only [List.getElem?_toArray, List.getElem?_cons_zero, List.getElem?_cons_succ]; rfl)
  case hw1007 => rfl
  case hy1007 => first | (intro wx hSw; obtain ⟨_, ⟨_, e0, e1, e2, e3, _⟩, ⟨_, e4, e5, e6, e7, _⟩, ⟨_, f0, f1, f2, f3, _⟩, ⟨_, f4, f5, f6, f7, _⟩, ⟨_, g0, g1, g2, g3, _⟩⟩ := hSw; go_simp; done) | (intro wx hSw; obtain ⟨_, ⟨_, e0, e1, e2, e3, _⟩, ⟨_, e4, e5, e6, e7, _⟩, ⟨_, f0, f1, f2, f3, _⟩, ⟨_, f4, f5, f6, f7, _⟩, ⟨_, g0, g1, g2, g3, _⟩⟩ := hSw; go_simp; with_reducible rfl)
  simp only [Act.put, List.setIfInBounds_toArray, List.set_cons_zero, List.set_cons_succ]
  refine wpAnyH_take (i := 7) (oi := ?oi1008) (v := ?v1008) ?hi1008 (by kernel_rfl) (by kernel_rfl) (by kernel_rfl) (fun _ _ _ h => h) (Or.inl ⟨?hw1008, ?hy1008⟩) (by assumption) ?rest1008
  case hi1008 => (simp only [List.getElem?_toArray, List.getElem?_cons_zero, List.getElem?_cons_succ]; rfl)
  case hw1008 => rfl
  case hy1008 => first | (intro wx hSw; obtain ⟨_, ⟨_, e0, e1, e2, e3, _⟩, ⟨_, e4, e5, e6, e7, _⟩, ⟨_, f0, f1, f2, f3, _⟩, ⟨_, f4, f5, f6, f7, _⟩, ⟨_, g0, g1, g2, g3, _⟩⟩ := hSw; go_simp; done) | (intro wx hSw; obtain ⟨_, ⟨_, e0, e1, e2, e3, _⟩, ⟨_, e4, e5, e6, e7, _⟩, ⟨_, f0, f1, f2, f3, _⟩, ⟨_, f4, f5, f6, f7, _⟩, ⟨_, g0, g1, g2, g3, _⟩⟩ := hSw; go_simp; with_reducible rfl)
  simp only [Act.put, List.setIfInBounds_toArray, List.set_cons_zero, List.set_cons_succ]
  refine wpAnyH_take (i := 8) (oi := ?oi1009) (v := ?v1009) ?hi1009 (by kernel_rfl) (by kernel_rfl) (by kernel_rfl) (fun _ _ _ h => h) (Or.inl ⟨?hw1009, ?hy1009⟩) (by assumption) ?rest1009
  case hi1009 => (simp only [List.getElem?_toArray, List.getElem?_cons_zero, List.getElem?_cons_succ]; rfl)
  case hw1009 => rfl
  case hy1009 => first | (intro wx hSw; obtain ⟨_, ⟨_, e0, e1, e2, e3, _⟩, ⟨_, e4, e5, e6, e7, _⟩, ⟨_, f0, f1, f2, f3, _⟩, ⟨_, f4, f5, f6, f7, _⟩, ⟨_, g0, g1, g2, g3, _⟩⟩ := hSw; go_simp; done) | (intro wx hSw; obtain ⟨_, ⟨_, e0, e1, e2, e3, _⟩, ⟨_, e4, e5, e6, e7, _⟩, ⟨_, f0, f1, f2, f3, _⟩, ⟨_, f4, f5, f6, f7, _⟩, ⟨_, g0, g1, g2, g3, _⟩⟩ := hSw; go_simp; with_reducible rfl)
  simp only [Act.put, List.setIfInBounds_toArray, List.set_cons_zero, List.set_cons_succ]
  refine wpAnyH_take (i := 9) (oi := ?oi1010) (v := ?v1010) ?hi1010 (by kernel_rfl) (by kernel_rfl) (by kernel_rfl) (fun _ _ _ h => h) (Or.inl ⟨?hw1010, ?hy1010⟩) (by assumption) ?rest1010
  case hi1010 => (simp only [List.getElem?_toArray, List.getElem?_cons_zero, List.getElem?_cons_succ]; rfl)
  case hw1010 => rfl
  case hy1010 => first | (intro wx hSw; obtain ⟨_, ⟨_, e0, e1, e2, e3, _⟩, ⟨_, e4, e5, e6, e7, _⟩, ⟨_, f0, f1, f2, f3, _⟩, ⟨_, f4, f5, f6, f7, _⟩, ⟨_, g0, g1, g2, g3, _⟩⟩ := hSw; go_simp; done) | (intro wx hSw; obtain ⟨_, ⟨_, e0, e1, e2, e3, _⟩, ⟨_, e4, e5, e6, e7, _⟩, ⟨_, f0, f1, f2, f3, _⟩, ⟨_, f4, f5, f6, f7, _⟩, ⟨_, g0, g1, g2, g3, _⟩⟩ := hSw; go_simp; with_reducible rfl)
  simp only [Act.put, List.setIfInBounds_toArray, List.set_cons_zero, List.set_cons_succ]
  refine wpAnyH_take (i := 10) (oi := ?oi1011) (v := ?v1011) ?hi1011 (by kernel_rfl) (by kernel_rfl) (by kernel_rfl) (fun _ _ _ h => h) (Or.inl ⟨?hw1011, ?hy1011⟩) (by assumption) ?rest1011
  case hi1011 => (simp only [List.getElem?_toArray, List.getElem?_cons_zero, List.getElem?_cons_succ]; rfl)
  case hw1011 => rfl
  case hy1011 => first | (intro wx hSw; obtain ⟨_, ⟨_, e0, e1, e2, e3, _⟩, ⟨_, e4, e5, e6, e7, _⟩, ⟨_, f0, f1, f2, f3, _⟩, ⟨_, f4, f5, f6, f7, _⟩, ⟨_, g0, g1, g2, g3, _⟩⟩ := hSw; go_simp; done) | (intro wx hSw; obtain ⟨_, ⟨_, e0, e1, e2, e3, _⟩, ⟨_, e4, e5, e6, e7, _⟩, ⟨_, f0, f1, f2, f3, _⟩, ⟨_, f4, f5, f6, f7, _⟩, ⟨_, g0, g1, g2, g3, _⟩⟩ := hSw; go_simp; with_reducible rfl)
  simp only [Act.put, List.setIfInBounds_toArray, List.set_cons_zero, List.set_cons_succ]
  refine wpAnyH_take (i := 11) (oi := ?oi1012) (v := ?v1012) ?hi1012 (by kernel_rfl) (by kernel_rfl) (by kernel_rfl) (fun _ _ _ h => h) (Or.inl ⟨?hw1012, ?hy1012⟩) (by assumption) ?rest1012
  case hi1012 => (simp only [List.getElem?_toArray, List.getElem?_cons_zero, List.getElem?_cons_succ]; rfl)
  case hw1012 => rfl
  case hy1012 => first | (intro wx hSw; obtain ⟨_, ⟨_, e0, e1, e2, e3, _⟩, ⟨_, e4, e5, e6, e7, _⟩, ⟨_, f0, f1, f2, f3, _⟩, ⟨_, f4, f5, f6, f7, _⟩, ⟨_, g0, g1, g2, g3, _⟩⟩ := hSw; go_simp; done) | (intro wx hSw; obtain ⟨_, ⟨_, e0, e1, e2, e3, _⟩, ⟨_, e4, e5, e6, e7, _⟩, ⟨_, f0, f1, f2, f3, _⟩, ⟨_, f4, f5, f6, f7, _⟩, ⟨_, g0, g1, g2, g3, _⟩⟩ := hSw; go_simp; with_reducible rfl)
  simp only [Act.put, List.setIfInBounds_toArray, List.set_cons_zero, List.set_cons_succ]
  refine wpAnyH_take (i := 12) (oi := ?oi1013) (v := ?v1013) ?hi1013 (by kernel_rfl) (by kernel_rfl) (by kernel_rfl) (fun _ _ _ h => h) (Or.inl ⟨?hw1013, ?hy1013⟩) (by assumption) ?rest1013
  case hi1013 => (simp only [List.getElem?_toArray, List.getElem?_cons_zero, List.getElem?_cons_succ]; rfl)
  case hw1013 => rfl
  case hy1013 => first | (intro wx hSw; obtain ⟨_, ⟨_, e0, e1, e2, e3, _⟩, ⟨_, e4, e5, e6, e7, _⟩, ⟨_, f0, f1, f2, f3, _⟩, ⟨_, f4, f5, f6, f7, _⟩, ⟨_, g0, g1, g2, g3, _⟩⟩ := hSw; go_simp; done) | (intro wx hSw; obtain ⟨_, ⟨_, e0, e1, e2, e3, _⟩, ⟨_, e4, e5, e6, e7, _⟩, ⟨_, f0, f1, f2, f3, _⟩, ⟨_, f4, f5, f6, f7, _⟩, ⟨_, g0, g1, g2, g3, _⟩⟩ := hSw; go_simp; with_reducible rfl)
  simp only [Act.put, List.setIfInBounds_toArray, List.set_cons_zero, List.set_cons_succ]
  refine wpAnyH_take (i := 13) (oi := ?oi1014) (v := ?v1014) ?hi1014 (by kernel_rfl) (by kernel_rfl) (by kernel_rfl) (fun _ _ _ h => h) (Or.inl ⟨?hw1014, ?hy1014⟩) (by assumption) ?rest1014
  case hi1014 => (simp only [List.getElem?_toArray, List.getElem?_cons_zero, List.getElem?_cons_succ]; rfl)
  case hw1014 => rfl
  case hy1014 => first | (intro wx hSw; obtain ⟨_, ⟨_, e0, e1, e2, e3, _⟩, ⟨_, e4, e5, e6, e7, _⟩, ⟨_, f0, f1, f2, f3, _⟩, ⟨_, f4, f5, f6, f7, _⟩, ⟨_, g0, g1, g2, g3, _⟩⟩ := hSw; go_simp; done) | (intro wx hSw; obtain ⟨_, ⟨_, e0, e1, e2, e3, _⟩, ⟨_, e4, e5, e6, e7, _⟩, ⟨_, f0, f1, f2, f3, _⟩, ⟨_, f4, f5, f6, f7, _⟩, ⟨_, g0, g1, g2, g3, _⟩⟩ := hSw; go_simp; with_reducible rfl)
  simp only [Act.put, List.setIfInBounds_toArray, List.set_cons_zero, List.set_cons_succ]
  refine wpAnyH_take (i := 15) (oi := ?oi1015) (v := ?v1015) ?hi1015 (by kernel_rfl) (by kernel_rfl) (by kernel_rfl) (fun _ _ _ h => h) (Or.inl ⟨?hw1015, ?hy1015⟩) (by assumption) ?rest1015
  case hi1015 => (simp only [List.getElem?_toArray, List.getElem?_cons_zero, List.getElem?_cons_succ]; rfl)
  case hw1015 => rfl
  case hy1015 => first | (intro wx hSw; obtain ⟨_, ⟨_, e0, e1, e2, e3, _⟩, ⟨_, e4, e5, e6, e7, _⟩, ⟨_, f0, f1, f2, f3, _⟩, ⟨_, f4, f5, f6, f7, _⟩, ⟨_, g0, g1, g2, g3, _⟩⟩ := hSw; go_simp; done) | (intro wx hSw; obtain ⟨_, ⟨_, e0, e1, e2, e3, _⟩, ⟨_, e4, e5, e6, e7, _⟩, ⟨_, f0, f1, f2, f3, _⟩, ⟨_, f4, f5, f6, f7, _⟩, ⟨_, g0, g1, g2, g3, _⟩⟩ := hSw; go_simp; with_reducible rfl)
  simp only [Act.put, List.setIfInBounds_toArray, List.set_cons_zero, List.set_cons_succ]
  refine wpAnyH_take (i := 16) (oi := ?oi1016) (v := ?v1016) ?hi1016 (by kernel_rfl) (by kernel_rfl) (by kernel_rfl) (fun _ _ _ h => h) (Or.inl ⟨?hw1016, ?hy1016⟩) (by assumption) ?rest1016
  case hi1016 => (simp only [List.getElem?_toArray, List.getElem?_cons_zero, List.getElem?_cons_succ]; rfl)
  case hw1016 => rfl
  case hy1016 => first | (intro wx hSw; obtain ⟨_, ⟨_, e0, e1, e2, e3, _⟩, ⟨_, e4, e5, e6, e7, _⟩, ⟨_, f0, f1, f2, f3, _⟩, ⟨_, f4, f5, f6, f7, _⟩, ⟨_, g0, g1, g2, g3, _⟩⟩ := hSw; go_simp; done) | (intro wx hSw; obtain ⟨_, ⟨_, e0, e1, e2, e3, _⟩, ⟨_, e4, e5, e6, e7, _⟩, ⟨_, f0, f1, f2, f3, _⟩, ⟨_, f4, f5, f6, f7, _⟩, ⟨_, g0, g1, g2, g3, _⟩⟩ := hSw; go_simp; with_reducible rfl)
  simp only [Act.put, List.setIfInBounds_toArray, List.set_cons_zero, List.set_cons_succ]
  refine wpAnyH_ready (rs := [14]) (by kernel_rfl) (by simp) ?_
  refine AllReadyH.cons rfl (fun K1017 hK1017 => ?_) AllReadyH.nil
  go_simp
  go_wp2_with (go_at_call 11; refine (unhide CO _).mono ?_; rintro e wc1017 ⟨rfl, hb1017⟩)
  refine hK1017.out _ _ ?hs1017 (fun hHeld1017 => ?_)
  case hs1017 => exact s5_call hHeld hb1017
  clear hHeld
  have hHeld := hHeld1017; clear hHeld1017 hK1017 K1017 hb1017
  refine wpAnyH_ready (rs := [17]) (by kernel_rfl) (by simp) ?_
  refine AllReadyH.cons rfl (fun K1018 hK1018 => ?_) AllReadyH.nil
  go_simp
  go_wp2_with (go_at_call 11; refine (unhide CQ _).mono ?_; rintro e wc1018 ⟨rfl, hb1018⟩)
  refine hK1018.out _ _ ?hs1018 (fun hHeld1018 => ?_)
  case hs1018 => exact s5_call hHeld hb1018
  clear hHeld
  have hHeld := hHeld1018; clear hHeld1018 hK1018 K1018 hb1018
  refine wpAnyH_take (i := 18) (oi := ?oi1019) (v := ?v1019) ?hi1019 (by kernel_rfl) (by kernel_rfl) (by kernel_rfl) (fun _ _ _ h => h) (Or.inl ⟨?hw1019, ?hy1019⟩) (by assumption) ?rest1019
  case hi1019 => (simp only [List.getElem?_toArray, List.getElem?_cons_zero, List.getElem?_cons_succ]; rfl)
  case hw1019 => rfl
  case hy1019 => first | (intro wx hSw; obtain ⟨_, ⟨_, e0, e1, e2, e3, _⟩, ⟨_, e4, e5, e6, e7, _⟩, ⟨_, f0, f1, f2, f3, _⟩, ⟨_, f4, f5, f6, f7, _⟩, ⟨_, g0, g1, g2, g3, _⟩⟩ := hSw; go_simp; done) | (intro wx hSw; obtain ⟨_, ⟨_, e0, e1, e2, e3, _⟩, ⟨_, e4, e5, e6, e7, _⟩, ⟨_, f0, f1, f2, f3, _⟩, ⟨_, f4, f5, f6, f7, _⟩, ⟨_, g0, g1, g2, g3, _⟩⟩ := hSw; go_simp; with_reducible rfl)
  simp only [Act.put, List.setIfInBounds_toArray, List.set_cons_zero, List.set_cons_succ]
  refine wpAnyH_take (i := 19) (oi := ?oi1020) (v := ?v1020) ?hi1020 (by kernel_rfl) (by kernel_rfl) (by kernel_rfl) (fun _ _ _ h => h) (Or.inl ⟨?hw1020, ?hy1020⟩) (by assumption) ?rest1020
  case hi1020 => (simp only [List.getElem?_toArray, List.getElem?_cons_zero, List.getElem?_cons_succ]; rfl)
  case hw1020 => rfl
  case hy1020 => first | (intro wx hSw; obtain ⟨_, ⟨_, e0, e1, e2, e3, _⟩, ⟨_, e4, e5, e6, e7, _⟩, ⟨_, f0, f1, f2, f3, _⟩, ⟨_, f4, f5, f6, f7, _⟩, ⟨_, g0, g1, g2, g3, _⟩⟩ := hSw; go_simp; done) | (intro wx hSw; obtain ⟨_, ⟨_, e0, e1, e2, e3, _⟩, ⟨_, e4, e5, e6, e7, _⟩, ⟨_, f0, f1, f2, f3, _⟩, ⟨_, f4, f5, f6, f7, _⟩, ⟨_, g0, g1, g2, g3, _⟩⟩ := hSw; go_simp; with_reducible rfl)
  simp only [Act.put, List.setIfInBounds_toArray, List.set_cons_zero, List.set_cons_succ]
  refine wpAnyH_take (i := 20) (oi := ?oi1021) (v := ?v1021) ?hi1021 (by kernel_rfl) (by kernel_rfl) (by kernel_rfl) (fun _ _ _ h => h) (Or.inl ⟨?hw1021, ?hy1021⟩) (by assumption) ?rest1021
  case hi1021 => (simp only [List.getElem?_toArray, List.getElem?_cons_zero, List.getElem?_cons_succ]; rfl)
  case hw1021 => rfl
  case hy1021 => first | (intro wx hSw; obtain ⟨_, ⟨_, e0, e1, e2, e3, _⟩, ⟨_, e4, e5, e6, e7, _⟩, ⟨_, f0, f1, f2, f3, _⟩, ⟨_, f4, f5, f6, f7, _⟩, ⟨_, g0, g1, g2, g3, _⟩⟩ := hSw; go_simp; done) | (intro wx hSw; obtain ⟨_, ⟨_, e0, e1, e2, e3, _⟩, ⟨_, e4, e5, e6, e7, _⟩, ⟨_, f0, f1, f2, f3, _⟩, ⟨_, f4, f5, f6, f7, _⟩, ⟨_, g0, g1, g2, g3, _⟩⟩ := hSw; go_simp; with_reducible rfl)
  simp only [Act.put, List.setIfInBounds_toArray, List.set_cons_zero, List.set_cons_succ]
  refine wpAnyH_done (by kernel_rfl) ?_ _
  refine NoPanic.normal ?_
  refine hrest _ _ ?_
  go_wp2
  go_ret
  exact ⟨rfl, hHeld.1⟩

theorem cmpI_sub (x y : Int) : cmpI x y = cmpI (x - y) 0 := by unfold cmpI; split <;> split <;> (try split) <;> (try split) <;> omega
theorem mil_zero : mil 0 0 = 0 := by decide +kernel
theorem dec_bd {n p : Int} (h1 : -1000000 ≤ n) (h2 : n ≤ 1000000) (hp : 1 ≤ p ∧ p ≤ 1000000) : -400000000000000 ≤ n * p ∧ n * p ≤ 400000000000000 := by
  have := mul_bd h1 h2 (show 0 ≤ p by omega) hp.2 (by decide)
  omega
theorem reckon_sub (xn xs yn ys : Int) (W : World) (x1 : -1000000 ≤ xn) (x2 : xn ≤ 1000000) (y1 : -1000000 ≤ yn) (y2 : yn ≤ 1000000) (c0 : 0 ≤ xs) (c6 : xs ≤ 6) (d0 : 0 ≤ ys) (d6 : ys ≤ 6) (z m : Int)
    (hm : m = max xs ys) (hz : z = xn * pw (m - xs) - yn * pw (m - ys)) :
    Calls Try.prog 10 #[.int .i64 8, V 3 xn xs EZ, V 3 yn ys EZ] W fun e w' => e = .returned (.tuple #[V 3 (normN z m) (normC z m) EZ, .int .i64 0]) ∧ Below W.heap.size W w' := by
  subst hm
  obtain ⟨h1, h2, h3⟩ := dec_small 8 xn xs yn ys (Or.inr rfl) c0 c6 d0 d6 (dec_bd x1 x2 (pw_bd _)) (dec_bd y1 y2 (pw_bd _))
  refine (reckon_any 8 3 xn xs EZ 3 yn ys EZ W (by unfold Is64; omega) (by unfold Is64; omega) (fun _ => ⟨⟨c0, c6⟩, rfl⟩) (fun _ => ⟨⟨d0, d6⟩, rfl⟩)).mono (fun _ _ hh => ⟨hh.1.trans (recV_eq ?_), hh.2⟩)
  rw [if_neg (by decide), rec_h1 (by decide) h1, h2, h3, hz]
  rfl
theorem valDecs_walk (a s b t : Int) (wa : (Lit.int .i64 a).wf = true) (ws : (Lit.int .i64 s).wf = true) (wb : (Lit.int .i64 b).wf = true) (wt : (Lit.int .i64 t).wf = true) (w : World) :
    Calls Try.prog 3 #[.int .i64 a, .int .i64 s, .int .i64 b, .int .i64 t] w fun e w' => e = .returned (.bool true) ∧ Below w.heap.size w w' := by
  have WA := hide (fun W => within_any a 2000000 W (is64_wf wa) (by decide))
  have WS := hide (fun W => within_any s 7 W (is64_wf ws) (by decide))
  have WB := hide (fun W => within_any b 2000000 W (is64_wf wb) (by decide))
  have WT := hide (fun W => within_any t 7 W (is64_wf wt) (by decide))
  have a1 := Int.emod_nonneg a (show (2000000 : Int) ≠ 0 by decide)
  have a2 := Int.emod_lt_of_pos a (show (0 : Int) < 2000000 by decide)
  have b1 := Int.emod_nonneg b (show (2000000 : Int) ≠ 0 by decide)
  have b2 := Int.emod_lt_of_pos b (show (0 : Int) < 2000000 by decide)
  have s1 := Int.emod_nonneg s (show (7 : Int) ≠ 0 by decide)
  have s2 := Int.emod_lt_of_pos s (show (0 : Int) < 7 by decide)
  have t1 := Int.emod_nonneg t (show (7 : Int) ≠ 0 by decide)
  have t2 := Int.emod_lt_of_pos t (show (0 : Int) < 7 by decide)
  generalize a % 2000000 = ra at *
  generalize s % 7 = rs at *
  generalize b % 2000000 = rb at *
  generalize t % 7 = rt at *
  have CX := hide (fun W => rnorm_dec (ra - 1000000) rs EZ W (by unfold Is64; omega) (by unfold Is64; omega))
  have CY := hide (fun W => rnorm_dec (rb - 1000000) rt EZ W (by unfold Is64; omega) (by unfold Is64; omega))
  obtain ⟨hX, x3, x4, x5⟩ := norm_normed (ra - 1000000) rs s1
  obtain ⟨hY, y3, y4, y5⟩ := norm_normed (rb - 1000000) rt t1
  generalize normN (ra - 1000000) rs = xn at *
  generalize normC (ra - 1000000) rs = xs at *
  generalize normN (rb - 1000000) rt = yn at *
  generalize normC (rb - 1000000) rt = ys at *
  have CD := hide (fun W => reckon_sub xn xs yn ys W (by omega) (by omega) (by omega) (by omega) x3 (by omega) y3 (by omega) _ _ rfl rfl)
  have CZ := hide (fun W => reckon_sub xn xs xn xs W (by omega) (by omega) (by omega) (by omega) x3 (by omega) x3 (by omega) 0 xs (by omega) (by omega))
  have hz0 : normN 0 xs = 0 ∧ normC 0 xs = 0 := by
    by_cases h : 0 < xs
    · exact norm_zero h
    · have h0 : xs = 0 := by omega
      rw [h0]; decide
  rw [hz0.1, hz0.2] at CZ
  obtain ⟨hD, d3, d4, d5⟩ := norm_normed (xn * pw (max xs ys - xs) - yn * pw (max xs ys - ys)) (max xs ys) (by omega)
  have e1 : mil (normN (xn * pw (max xs ys - xs) - yn * pw (max xs ys - ys)) (max xs ys)) (normC (xn * pw (max xs ys - xs) - yn * pw (max xs ys - ys)) (max xs ys)) = mil xn xs - mil yn ys := by
    rw [mil_norm (by omega) (by omega), ← mil_max (n := xn) x3 (show xs ≤ max xs ys by omega) (by omega), ← mil_max (n := yn) y3 (show ys ≤ max xs ys by omega) (by omega)]
    unfold mil; rw [Int.sub_mul]
  have hxp := dec_bd (n := xn) (by omega) (by omega) (pw_bd (max xs ys - xs))
  have hyp := dec_bd (n := yn) (by omega) (by omega) (pw_bd (max xs ys - ys))
  have hdb : Is64 (normN (xn * pw (max xs ys - xs) - yn * pw (max xs ys - ys)) (max xs ys)) := by unfold Is64; omega
  generalize normN (xn * pw (max xs ys - xs) - yn * pw (max xs ys - ys)) (max xs ys) = dn at *
  generalize normC (xn * pw (max xs ys - xs) - yn * pw (max xs ys - ys)) (max xs ys) = ds at *
  have o1 : ordV 3 xn xs EZ 3 yn ys EZ = cmpI (mil xn xs) (mil yn ys) := ord_mil x3 (by omega) y3 (by omega)
  have o2 : ordV 3 dn ds EZ 3 0 0 EZ = cmpI (mil dn ds) (mil 0 0) := ord_mil d3 (by omega) (by decide) (by decide)
  have o3 : ordV 3 dn ds EZ 3 0 0 EZ = ordV 3 xn xs EZ 3 yn ys EZ := by rw [o1, o2, e1, mil_zero, ← cmpI_sub]
  have CO := hide (fun W => order_any 3 xn xs EZ 3 yn ys EZ W (by unfold Is64; omega) (by unfold Is64; omega) ⟨x3, by omega⟩ ⟨y3, by omega⟩)
  have CQ := hide (fun W => order_any 3 dn ds EZ 3 0 0 EZ W hdb (by decide) ⟨d3, by omega⟩ (by decide))
  rw [o3] at CQ
  exact decs_walk a s b t ra rs rb rt xn xs yn ys dn ds _ w WA WS WB WT a1 a2 b1 b2 CX CY CD CZ CO CQ
end Go.Proofs.Ytdifkecpcnakoab
