/-
  The walk of the law KeyNumbers.
-/
import Derived.Test.YtbpjejjbgdikdaaT3
import Derived.Test.YtbpjejjbgdikdaaT6
import Derived.Test.YtbpjejjbgdikdaaZ5
import Derived.Deep.RegionHeld3
namespace Go.Proofs.Ytbpjejjbgdikdaa
open Go.RowKit
set_option linter.unusedSimpArgs false
set_option linter.unusedVariables false

def SN (w : World) (b1 b2 : Nat) (xn xs : Int) (W : World) : Prop := Below w.heap.size w W ∧
  Four b1 (.int .i64 3) (.int .i64 xn) (.int .i64 xs) (.string ⟨#[]⟩) W ∧ Four b2 (.int .i64 3) (.int .i64 xn) (.int .i64 xs) (.string ⟨#[]⟩) W
theorem sn_call {w : World} {b1 b2 : Nat} {xn xs : Int} {W W' : World} (h : SN w b1 b2 xn xs W) (hb : Below W.heap.size W W') : SN w b1 b2 xn xs W' :=
  ⟨h.1.trans (hb.mono h.1.size), four_call h.2.1 hb, four_call h.2.2 hb⟩

set_option maxHeartbeats 2000000 in
set_option maxRecDepth 100000 in
theorem numbers_walk (a b scale p q r u xn xs yn ys sn ss : Int) (kx : ByteArray) (w : World)
    (hp : 0 ≤ p ∧ p < 200000) (hr : 0 ≤ r ∧ r < 200000)
    (WA : Hid (∀ W, Calls Try.prog 17 #[.int .i64 a, .int .i64 200000] W fun e w' => e = .returned (.int .i64 p) ∧ w' = W))
    (WS : Hid (∀ W, Calls Try.prog 17 #[.int .i64 scale, .int .i64 5] W fun e w' => e = .returned (.int .i64 q) ∧ w' = W))
    (WB : Hid (∀ W, Calls Try.prog 17 #[.int .i64 b, .int .i64 200000] W fun e w' => e = .returned (.int .i64 r) ∧ w' = W))
    (WT : Hid (∀ W, Calls Try.prog 17 #[.int .i64 (scale.tdiv 5), .int .i64 5] W fun e w' => e = .returned (.int .i64 u) ∧ w' = W))
    (hq : IntKind.i64.wrap (scale.tdiv 5) = scale.tdiv 5)
    (NX : Hid (∀ W, Calls Try.prog 24 #[V 3 (p - 100000) q ⟨#[]⟩] W fun e w' => e = .returned (V 3 xn xs ⟨#[]⟩) ∧ Below W.heap.size W w'))
    (NY : Hid (∀ W, Calls Try.prog 24 #[V 3 (r - 100000) u ⟨#[]⟩] W fun e w' => e = .returned (V 3 yn ys ⟨#[]⟩) ∧ Below W.heap.size W w'))
    (RA : Hid (∀ W, Calls Try.prog 25 #[.int .i64 7, V 3 xn xs ⟨#[]⟩, V 3 yn ys ⟨#[]⟩] W fun e w' => e = .returned (.tuple #[V 3 sn ss ⟨#[]⟩, .int .i64 0]) ∧ Below W.heap.size W w'))
    (RB : Hid (∀ W, Calls Try.prog 25 #[.int .i64 8, V 3 sn ss ⟨#[]⟩, V 3 yn ys ⟨#[]⟩] W fun e w' => e = .returned (.tuple #[V 3 xn xs ⟨#[]⟩, .int .i64 0]) ∧ Below W.heap.size W w'))
    (KX : Hid (∀ W, Calls Try.prog 14 #[V 3 xn xs ⟨#[]⟩] W fun e w' => e = .returned (.string kx) ∧ Below W.heap.size W w'))
    (RX : Hid (∀ W, Calls Try.prog 16 #[V 3 xn xs ⟨#[]⟩] W fun e w' => e = .returned (.string kx) ∧ Below W.heap.size W w')) :
    Calls Try.prog 11 #[.int .i64 a, .int .i64 b, .int .i64 scale] w fun e w' => e = .returned (.bool true) ∧ Below w.heap.size w w' := by
  have e1 : IntKind.i64.wrap (p - 100000) = p - 100000 := IntWalk.i64_in _ (by omega)
  have e2 : IntKind.i64.wrap (r - 100000) = r - 100000 := IntWalk.i64_in _ (by omega)
  have hL := hide (Below.refl w.heap.size w)
  go_enter Try.func11, Try.ntmps11
  go_wp2_with fail
  refine (known_any _).mono ?_
  rintro e w1 ⟨rfl, hb1⟩
  replace hL := hide ((unhide hL).trans (hb1.mono (unhide hL).size))
  clear hb1
  go_wp2_with fail
  refine (unhide WA _).mono ?_
  rintro e wq2 ⟨rfl, rfl⟩
  go_wp2_with fail
  refine (unhide WS _).mono ?_
  rintro e wq3 ⟨rfl, rfl⟩
  go_wp2_with fail
  refine (unhide NX _).mono ?_
  rintro e w4 ⟨rfl, hb4⟩
  replace hL := hide ((unhide hL).trans (hb4.mono (unhide hL).size))
  clear hb4
  have hx := hide (four_alloc (.int .i64 3) (.int .i64 xn) (.int .i64 xs) (.string ⟨#[]⟩) 24 w4)
  replace hL := hide ((unhide hL).alloc (unhide hL).size (.cells #[.int .i64 3, .int .i64 xn, .int .i64 xs, .string ⟨#[]⟩] 24))
  go_wp2_with fail
  refine (unhide WB _).mono ?_
  rintro e wq5 ⟨rfl, rfl⟩
  go_wp2_with fail
  refine (unhide WT _).mono ?_
  rintro e wq6 ⟨rfl, rfl⟩
  go_wp2_with fail
  refine (unhide NY _).mono ?_
  rintro e w7 ⟨rfl, hb7⟩
  replace hx := hide (four_call (unhide hx) hb7)
  replace hL := hide ((unhide hL).trans (hb7.mono (unhide hL).size))
  clear hb7
  replace hx := hide (four_more (unhide hx) (.cells #[.int .i64 3, .int .i64 yn, .int .i64 ys, .string ⟨#[]⟩] 24))
  have hy := hide (four_alloc (.int .i64 3) (.int .i64 yn) (.int .i64 ys) (.string ⟨#[]⟩) 24 w7)
  replace hL := hide ((unhide hL).alloc (unhide hL).size (.cells #[.int .i64 3, .int .i64 yn, .int .i64 ys, .string ⟨#[]⟩] 24))
  obtain ⟨-, x0, x1, x2, x3, -⟩ := unhide hx
  obtain ⟨-, y0, y1, y2, y3, -⟩ := unhide hy
  go_wp2_with fail
  refine (unhide RA _).mono ?_
  rintro e w8 ⟨rfl, hb8⟩
  clear x0 x1 x2 x3 y0 y1 y2 y3
  replace hx := hide (four_call (unhide hx) hb8)
  replace hy := hide (four_call (unhide hy) hb8)
  replace hL := hide ((unhide hL).trans (hb8.mono (unhide hL).size))
  clear hb8
  replace hx := hide (four_more (unhide hx) (.cells #[.int .i64 3, .int .i64 sn, .int .i64 ss, .string ⟨#[]⟩] 24))
  replace hy := hide (four_more (unhide hy) (.cells #[.int .i64 3, .int .i64 sn, .int .i64 ss, .string ⟨#[]⟩] 24))
  have hs := hide (four_alloc (.int .i64 3) (.int .i64 sn) (.int .i64 ss) (.string ⟨#[]⟩) 24 w8)
  replace hL := hide ((unhide hL).alloc (unhide hL).size (.cells #[.int .i64 3, .int .i64 sn, .int .i64 ss, .string ⟨#[]⟩] 24))
  obtain ⟨-, s0, s1, s2, s3, -⟩ := unhide hs
  obtain ⟨-, y0, y1, y2, y3, -⟩ := unhide hy
  go_wp2_with fail
  refine (unhide RB _).mono ?_
  rintro e w9 ⟨rfl, hb9⟩
  clear s0 s1 s2 s3 y0 y1 y2 y3
  replace hx := hide (four_call (unhide hx) hb9)
  replace hy := hide (four_call (unhide hy) hb9)
  replace hs := hide (four_call (unhide hs) hb9)
  replace hL := hide ((unhide hL).trans (hb9.mono (unhide hL).size))
  clear hb9
  replace hx := hide (four_more (unhide hx) (.cells #[.int .i64 3, .int .i64 xn, .int .i64 xs, .string ⟨#[]⟩] 24))
  replace hy := hide (four_more (unhide hy) (.cells #[.int .i64 3, .int .i64 xn, .int .i64 xs, .string ⟨#[]⟩] 24))
  replace hs := hide (four_more (unhide hs) (.cells #[.int .i64 3, .int .i64 xn, .int .i64 xs, .string ⟨#[]⟩] 24))
  have hd := hide (four_alloc (.int .i64 3) (.int .i64 xn) (.int .i64 xs) (.string ⟨#[]⟩) 24 w9)
  replace hL := hide ((unhide hL).alloc (unhide hL).size (.cells #[.int .i64 3, .int .i64 xn, .int .i64 xs, .string ⟨#[]⟩] 24))
  go_wp2_with fail
  rename_i Q1 K1 hrest
  clear WA WS WB WT NX NY RA RB e1 e2 hq hp hr hy hs
  refine wp_region_noPanic ?_
  refine wp_region_held_drew (S := SN w _ _ xn xs) (by kernel_rfl) ⟨(unhide hL).drew, four_drew (unhide hx), four_drew (unhide hd)⟩ (fun hHeld => ?_)
  revert hHeld
  generalize World.drew _ = Wd
  intro hHeld
  refine wpAnyH_take (i := 0) (oi := ?oi1001) (v := ?v1001) ?hi1001 (by kernel_rfl) (by kernel_rfl) (by kernel_rfl) (fun _ _ _ h => h) (Or.inl ⟨?hw1001, ?hy1001⟩) (by assumption) ?rest1001
  case hi1001 => (simp only [List.getElem?_toArray, List.getElem?_cons_zero]; rfl)
  case hw1001 => rfl
  case hy1001 => first | (intro wx hSw; obtain ⟨-, ⟨-, a0, a1, a2, a3, -⟩, ⟨-, b0, b1, b2, b3, -⟩⟩ := hSw; go_simp; done) | (intro wx hSw; obtain ⟨-, ⟨-, a0, a1, a2, a3, -⟩, ⟨-, b0, b1, b2, b3, -⟩⟩ := hSw; go_simp; with_reducible rfl)
  simp only [Act.put, List.setIfInBounds_toArray, List.set_cons_zero, List.set_cons_succ]
  refine wpAnyH_take (i := 1) (oi := ?oi1002) (v := ?v1002) ?hi1002 (by kernel_rfl) (by kernel_rfl) (by kernel_rfl) (fun _ _ _ h => h) (Or.inl ⟨?hw1002, ?hy1002⟩) (by assumption) ?rest1002
  case hi1002 => (simp only [List.getElem?_toArray, List.getElem?_cons_zero, List.getElem?_cons_succ]; rfl)
  case hw1002 => rfl
  case hy1002 => first | (intro wx hSw; obtain ⟨-, ⟨-, a0, a1, a2, a3, -⟩, ⟨-, b0, b1, b2, b3, -⟩⟩ := hSw; go_simp; done) | (intro wx hSw; obtain ⟨-, ⟨-, a0, a1, a2, a3, -⟩, ⟨-, b0, b1, b2, b3, -⟩⟩ := hSw; go_simp; with_reducible rfl)
  simp only [Act.put, List.setIfInBounds_toArray, List.set_cons_zero, List.set_cons_succ]
  refine wpAnyH_take (i := 2) (oi := ?oi1003) (v := ?v1003) ?hi1003 (by kernel_rfl) (by kernel_rfl) (by kernel_rfl) (fun _ _ _ h => h) (Or.inl ⟨?hw1003, ?hy1003⟩) (by assumption) ?rest1003
  case hi1003 => (simp only [List.getElem?_toArray, List.getElem?_cons_zero, List.getElem?_cons_succ]; rfl)
  case hw1003 => rfl
  case hy1003 => first | (intro wx hSw; obtain ⟨-, ⟨-, a0, a1, a2, a3, -⟩, ⟨-, b0, b1, b2, b3, -⟩⟩ := hSw; go_simp; done) | (intro wx hSw; obtain ⟨-, ⟨-, a0, a1, a2, a3, -⟩, ⟨-, b0, b1, b2, b3, -⟩⟩ := hSw; go_simp; with_reducible rfl)
  simp only [Act.put, List.setIfInBounds_toArray, List.set_cons_zero, List.set_cons_succ]
  refine wpAnyH_take (i := 3) (oi := ?oi1004) (v := ?v1004) ?hi1004 (by kernel_rfl) (by kernel_rfl) (by kernel_rfl) (fun _ _ _ h => h) (Or.inl ⟨?hw1004, ?hy1004⟩) (by assumption) ?rest1004
  case hi1004 => (simp only [List.getElem?_toArray, List.getElem?_cons_zero, List.getElem?_cons_succ]; rfl)
  case hw1004 => rfl
  case hy1004 => first | (intro wx hSw; obtain ⟨-, ⟨-, a0, a1, a2, a3, -⟩, ⟨-, b0, b1, b2, b3, -⟩⟩ := hSw; go_simp; done) | (intro wx hSw; obtain ⟨-, ⟨-, a0, a1, a2, a3, -⟩, ⟨-, b0, b1, b2, b3, -⟩⟩ := hSw; go_simp; with_reducible rfl)
  simp only [Act.put, List.setIfInBounds_toArray, List.set_cons_zero, List.set_cons_succ]
  refine wpAnyH_take (i := 4) (oi := ?oi1005) (v := ?v1005) ?hi1005 (by kernel_rfl) (by kernel_rfl) (by kernel_rfl) (fun _ _ _ h => h) (Or.inl ⟨?hw1005, ?hy1005⟩) (by assumption) ?rest1005
  case hi1005 => (simp only [List.getElem?_toArray, List.getElem?_cons_zero, List.getElem?_cons_succ]; rfl)
  case hw1005 => rfl
  case hy1005 => first | (intro wx hSw; obtain ⟨-, ⟨-, a0, a1, a2, a3, -⟩, ⟨-, b0, b1, b2, b3, -⟩⟩ := hSw; go_simp; done) | (intro wx hSw; obtain ⟨-, ⟨-, a0, a1, a2, a3, -⟩, ⟨-, b0, b1, b2, b3, -⟩⟩ := hSw; go_simp; with_reducible rfl)
  simp only [Act.put, List.setIfInBounds_toArray, List.set_cons_zero, List.set_cons_succ]
  refine wpAnyH_take (i := 5) (oi := ?oi1006) (v := ?v1006) ?hi1006 (by kernel_rfl) (by kernel_rfl) (by kernel_rfl) (fun _ _ _ h => h) (Or.inl ⟨?hw1006, ?hy1006⟩) (by assumption) ?rest1006
  case hi1006 => (simp only [List.getElem?_toArray, List.getElem?_cons_zero, List.getElem?_cons_succ]; rfl)
  case hw1006 => rfl
  case hy1006 => first | (intro wx hSw; obtain ⟨-, ⟨-, a0, a1, a2, a3, -⟩, ⟨-, b0, b1, b2, b3, -⟩⟩ := hSw; go_simp; done) | (intro wx hSw; obtain ⟨-, ⟨-, a0, a1, a2, a3, -⟩, ⟨-, b0, b1, b2, b3, -⟩⟩ := hSw; go_simp; with_reducible rfl)
  simp only [Act.put, List.setIfInBounds_toArray, List.set_cons_zero, List.set_cons_succ]
  refine wpAnyH_take (i := 6) (oi := ?oi1007) (v := ?v1007) ?hi1007 (by kernel_rfl) (by kernel_rfl) (by kernel_rfl) (fun _ _ _ h => h) (Or.inl ⟨?hw1007, ?hy1007⟩) (by assumption) ?rest1007
  case hi1007 => (simp only [List.getElem?_toArray, List.getElem?_cons_zero, List.getElem?_cons_succ]; rfl)
  case hw1007 => rfl
  case hy1007 => first | (intro wx hSw; obtain ⟨-, ⟨-, a0, a1, a2, a3, -⟩, ⟨-, b0, b1, b2, b3, -⟩⟩ := hSw; go_simp; done) | (intro wx hSw; obtain ⟨-, ⟨-, a0, a1, a2, a3, -⟩, ⟨-, b0, b1, b2, b3, -⟩⟩ := hSw; go_simp; with_reducible rfl)
  simp only [Act.put, List.setIfInBounds_toArray, List.set_cons_zero, List.set_cons_succ]
  refine wpAnyH_take (i := 7) (oi := ?oi1008) (v := ?v1008) ?hi1008 (by kernel_rfl) (by kernel_rfl) (by kernel_rfl) (fun _ _ _ h => h) (Or.inl ⟨?hw1008, ?hy1008⟩) (by assumption) ?rest1008
  case hi1008 => (simp only [List.getElem?_toArray, List.getElem?_cons_zero, List.getElem?_cons_succ]; rfl)
  case hw1008 => rfl
  case hy1008 => first | (intro wx hSw; obtain ⟨-, ⟨-, a0, a1, a2, a3, -⟩, ⟨-, b0, b1, b2, b3, -⟩⟩ := hSw; go_simp; done) | (intro wx hSw; obtain ⟨-, ⟨-, a0, a1, a2, a3, -⟩, ⟨-, b0, b1, b2, b3, -⟩⟩ := hSw; go_simp; with_reducible rfl)
  simp only [Act.put, List.setIfInBounds_toArray, List.set_cons_zero, List.set_cons_succ]
  refine wpAnyH_take (i := 9) (oi := ?oi1009) (v := ?v1009) ?hi1009 (by kernel_rfl) (by kernel_rfl) (by kernel_rfl) (fun _ _ _ h => h) (Or.inl ⟨?hw1009, ?hy1009⟩) (by assumption) ?rest1009
  case hi1009 => (simp only [List.getElem?_toArray, List.getElem?_cons_zero, List.getElem?_cons_succ]; rfl)
  case hw1009 => rfl
  case hy1009 => first | (intro wx hSw; obtain ⟨-, ⟨-, a0, a1, a2, a3, -⟩, ⟨-, b0, b1, b2, b3, -⟩⟩ := hSw; go_simp; done) | (intro wx hSw; obtain ⟨-, ⟨-, a0, a1, a2, a3, -⟩, ⟨-, b0, b1, b2, b3, -⟩⟩ := hSw; go_simp; with_reducible rfl)
  simp only [Act.put, List.setIfInBounds_toArray, List.set_cons_zero, List.set_cons_succ]
  refine wpAnyH_ready (rs := [8]) (by kernel_rfl) (by simp) ?_
  refine AllReadyH.cons rfl (fun K1010 hK1010 => ?_) AllReadyH.nil
  go_simp
  go_wp2_with (go_at_call 14; refine (unhide KX _).mono ?_; rintro e wc1010 ⟨rfl, hb1010⟩)
  refine hK1010.out _ _ ?hs1010 (fun hHeld1010 => ?_)
  case hs1010 => exact sn_call hHeld hb1010
  clear hHeld
  have hHeld := hHeld1010; clear hHeld1010 hK1010 K1010 hb1010
  refine wpAnyH_ready (rs := [10]) (by kernel_rfl) (by simp) ?_
  refine AllReadyH.cons rfl (fun K1011 hK1011 => ?_) AllReadyH.nil
  go_simp
  go_wp2_with (go_at_call 14; refine (unhide KX _).mono ?_; rintro e wc1011 ⟨rfl, hb1011⟩)
  refine hK1011.out _ _ ?hs1011 (fun hHeld1011 => ?_)
  case hs1011 => exact sn_call hHeld hb1011
  clear hHeld
  have hHeld := hHeld1011; clear hHeld1011 hK1011 K1011 hb1011
  refine wpAnyH_take (i := 11) (oi := ?oi1012) (v := ?v1012) ?hi1012 (by kernel_rfl) (by kernel_rfl) (by kernel_rfl) (fun _ _ _ h => h) (Or.inl ⟨?hw1012, ?hy1012⟩) (by assumption) ?rest1012
  case hi1012 => (simp only [List.getElem?_toArray, List.getElem?_cons_zero, List.getElem?_cons_succ]; rfl)
  case hw1012 => rfl
  case hy1012 => first | (intro wx hSw; obtain ⟨-, ⟨-, a0, a1, a2, a3, -⟩, ⟨-, b0, b1, b2, b3, -⟩⟩ := hSw; go_simp; done) | (intro wx hSw; obtain ⟨-, ⟨-, a0, a1, a2, a3, -⟩, ⟨-, b0, b1, b2, b3, -⟩⟩ := hSw; go_simp; with_reducible rfl)
  simp only [Act.put, List.setIfInBounds_toArray, List.set_cons_zero, List.set_cons_succ]
  refine wpAnyH_take (i := 12) (oi := ?oi1013) (v := ?v1013) ?hi1013 (by kernel_rfl) (by kernel_rfl) (by kernel_rfl) (fun _ _ _ h => h) (Or.inl ⟨?hw1013, ?hy1013⟩) (by assumption) ?rest1013
  case hi1013 => (simp only [List.getElem?_toArray, List.getElem?_cons_zero, List.getElem?_cons_succ]; rfl)
  case hw1013 => rfl
  case hy1013 => first | (intro wx hSw; obtain ⟨-, ⟨-, a0, a1, a2, a3, -⟩, ⟨-, b0, b1, b2, b3, -⟩⟩ := hSw; go_simp; done) | (intro wx hSw; obtain ⟨-, ⟨-, a0, a1, a2, a3, -⟩, ⟨-, b0, b1, b2, b3, -⟩⟩ := hSw; go_simp; with_reducible rfl)
  simp only [Act.put, List.setIfInBounds_toArray, List.set_cons_zero, List.set_cons_succ]
  refine wpAnyH_take (i := 13) (oi := ?oi1014) (v := ?v1014) ?hi1014 (by kernel_rfl) (by kernel_rfl) (by kernel_rfl) (fun _ _ _ h => h) (Or.inl ⟨?hw1014, ?hy1014⟩) (by assumption) ?rest1014
  case hi1014 => (simp only [List.getElem?_toArray, List.getElem?_cons_zero, List.getElem?_cons_succ]; rfl)
  case hw1014 => rfl
  case hy1014 => first | (intro wx hSw; obtain ⟨-, ⟨-, a0, a1, a2, a3, -⟩, ⟨-, b0, b1, b2, b3, -⟩⟩ := hSw; go_simp; done) | (intro wx hSw; obtain ⟨-, ⟨-, a0, a1, a2, a3, -⟩, ⟨-, b0, b1, b2, b3, -⟩⟩ := hSw; go_simp; with_reducible rfl)
  simp only [Act.put, List.setIfInBounds_toArray, List.set_cons_zero, List.set_cons_succ]
  refine wpAnyH_take (i := 14) (oi := ?oi1015) (v := ?v1015) ?hi1015 (by kernel_rfl) (by kernel_rfl) (by kernel_rfl) (fun _ _ _ h => h) (Or.inl ⟨?hw1015, ?hy1015⟩) (by assumption) ?rest1015
  case hi1015 => (simp only [List.getElem?_toArray, List.getElem?_cons_zero, List.getElem?_cons_succ]; rfl)
  case hw1015 => rfl
  case hy1015 => first | (intro wx hSw; obtain ⟨-, ⟨-, a0, a1, a2, a3, -⟩, ⟨-, b0, b1, b2, b3, -⟩⟩ := hSw; go_simp; done) | (intro wx hSw; obtain ⟨-, ⟨-, a0, a1, a2, a3, -⟩, ⟨-, b0, b1, b2, b3, -⟩⟩ := hSw; go_simp; with_reducible rfl)
  simp only [Act.put, List.setIfInBounds_toArray, List.set_cons_zero, List.set_cons_succ]
  refine wpAnyH_take (i := 16) (oi := ?oi1016) (v := ?v1016) ?hi1016 (by kernel_rfl) (by kernel_rfl) (by kernel_rfl) (fun _ _ _ h => h) (Or.inl ⟨?hw1016, ?hy1016⟩) (by assumption) ?rest1016
  case hi1016 => (simp only [List.getElem?_toArray, List.getElem?_cons_zero, List.getElem?_cons_succ]; rfl)
  case hw1016 => rfl
  case hy1016 => first | (intro wx hSw; obtain ⟨-, ⟨-, a0, a1, a2, a3, -⟩, ⟨-, b0, b1, b2, b3, -⟩⟩ := hSw; go_simp; done) | (intro wx hSw; obtain ⟨-, ⟨-, a0, a1, a2, a3, -⟩, ⟨-, b0, b1, b2, b3, -⟩⟩ := hSw; go_simp; with_reducible rfl)
  simp only [Act.put, List.setIfInBounds_toArray, List.set_cons_zero, List.set_cons_succ]
  refine wpAnyH_ready (rs := [15]) (by kernel_rfl) (by simp) ?_
  refine AllReadyH.cons rfl (fun K1017 hK1017 => ?_) AllReadyH.nil
  go_simp
  go_wp2_with (go_at_call 14; refine (unhide KX _).mono ?_; rintro e wc1017 ⟨rfl, hb1017⟩)
  refine hK1017.out _ _ ?hs1017 (fun hHeld1017 => ?_)
  case hs1017 => exact sn_call hHeld hb1017
  clear hHeld
  have hHeld := hHeld1017; clear hHeld1017 hK1017 K1017 hb1017
  refine wpAnyH_ready (rs := [17]) (by kernel_rfl) (by simp) ?_
  refine AllReadyH.cons rfl (fun K1018 hK1018 => ?_) AllReadyH.nil
  go_simp
  go_wp2_with (go_at_call 16; refine (unhide RX _).mono ?_; rintro e wc1018 ⟨rfl, hb1018⟩)
  refine hK1018.out _ _ ?hs1018 (fun hHeld1018 => ?_)
  case hs1018 => exact sn_call hHeld hb1018
  clear hHeld
  have hHeld := hHeld1018; clear hHeld1018 hK1018 K1018 hb1018
  refine wpAnyH_take (i := 18) (oi := ?oi1019) (v := ?v1019) ?hi1019 (by kernel_rfl) (by kernel_rfl) (by kernel_rfl) (fun _ _ _ h => h) (Or.inl ⟨?hw1019, ?hy1019⟩) (by assumption) ?rest1019
  case hi1019 => (simp only [List.getElem?_toArray, List.getElem?_cons_zero, List.getElem?_cons_succ]; rfl)
  case hw1019 => rfl
  case hy1019 => first | (intro wx hSw; obtain ⟨-, ⟨-, a0, a1, a2, a3, -⟩, ⟨-, b0, b1, b2, b3, -⟩⟩ := hSw; go_simp; done) | (intro wx hSw; obtain ⟨-, ⟨-, a0, a1, a2, a3, -⟩, ⟨-, b0, b1, b2, b3, -⟩⟩ := hSw; go_simp; with_reducible rfl)
  simp only [Act.put, List.setIfInBounds_toArray, List.set_cons_zero, List.set_cons_succ]
  refine wpAnyH_take (i := 19) (oi := ?oi1020) (v := ?v1020) ?hi1020 (by kernel_rfl) (by kernel_rfl) (by kernel_rfl) (fun _ _ _ h => h) (Or.inl ⟨?hw1020, ?hy1020⟩) (by assumption) ?rest1020
  case hi1020 => (simp only [List.getElem?_toArray, List.getElem?_cons_zero, List.getElem?_cons_succ]; rfl)
  case hw1020 => rfl
  case hy1020 => first | (intro wx hSw; obtain ⟨-, ⟨-, a0, a1, a2, a3, -⟩, ⟨-, b0, b1, b2, b3, -⟩⟩ := hSw; go_simp; done) | (intro wx hSw; obtain ⟨-, ⟨-, a0, a1, a2, a3, -⟩, ⟨-, b0, b1, b2, b3, -⟩⟩ := hSw; go_simp; with_reducible rfl)
  simp only [Act.put, List.setIfInBounds_toArray, List.set_cons_zero, List.set_cons_succ]
  refine wpAnyH_take (i := 20) (oi := ?oi1021) (v := ?v1021) ?hi1021 (by kernel_rfl) (by kernel_rfl) (by kernel_rfl) (fun _ _ _ h => h) (Or.inl ⟨?hw1021, ?hy1021⟩) (by assumption) ?rest1021
  case hi1021 => (simp only [List.getElem?_toArray, List.getElem?_cons_zero, List.getElem?_cons_succ]; rfl)
  case hw1021 => rfl
  case hy1021 => first | (intro wx hSw; obtain ⟨-, ⟨-, a0, a1, a2, a3, -⟩, ⟨-, b0, b1, b2, b3, -⟩⟩ := hSw; go_simp; done) | (intro wx hSw; obtain ⟨-, ⟨-, a0, a1, a2, a3, -⟩, ⟨-, b0, b1, b2, b3, -⟩⟩ := hSw; go_simp; with_reducible rfl)
  simp only [Act.put, List.setIfInBounds_toArray, List.set_cons_zero, List.set_cons_succ]
  refine wpAnyH_done (by kernel_rfl) ?_ _
  refine NoPanic.normal ?_
  refine hrest _ _ ?_
  go_wp2_with fail
  go_ret
  exact ⟨rfl, hHeld.1⟩

theorem pw_small {d : Int} (h0 : 0 ≤ d) (h4 : d ≤ 4) : 1 ≤ pw d ∧ pw d ≤ 10000 := by
  have : d = 0 ∨ d = 1 ∨ d = 2 ∨ d = 3 ∨ d = 4 := by omega
  rcases this with rfl | rfl | rfl | rfl | rfl <;> decide +kernel
theorem rec_told (k xn xs yn ys : Int) (hk : k = 7 ∨ k = 8) (c0 : 0 ≤ xs) (c6 : xs ≤ 6) (d0 : 0 ≤ ys) (d6 : ys ≤ 6)
    (hA : -400000000000000 ≤ xn * pw (max xs ys - xs) ∧ xn * pw (max xs ys - xs) ≤ 400000000000000) (hB : -400000000000000 ≤ yn * pw (max xs ys - ys) ∧ yn * pw (max xs ys - ys) ≤ 400000000000000)
    (n s : Int) (s0 : 0 ≤ s) (s6 : s ≤ 6) (hn : Normed n s) (h : mil n s = opN k (mil xn xs) (mil yn ys)) : recR k 3 xn xs 3 yn ys = ((3, n, s), 0) := by
  have hk6 : k ≠ 6 := by omega
  have hrk : reckB k = true := by rcases hk with rfl | rfl <;> decide
  obtain ⟨h1, h2, h3⟩ := dec_small k xn xs yn ys hk c0 c6 d0 d6 hA hB
  rw [rec_h1 hrk h1, h2, h3]
  have hz : mil (opN k (xn * pw (max xs ys - xs)) (yn * pw (max xs ys - ys))) (max xs ys) = opN k (mil xn xs) (mil yn ys) := by
    rw [← mil_max (n := xn) c0 (show xs ≤ max xs ys by omega) (by omega), ← mil_max (n := yn) d0 (show ys ≤ max xs ys by omega) (by omega)]
    unfold mil opN; rw [if_neg hk6, if_neg hk6]
    split
    · rw [Int.add_mul]
    · rw [Int.sub_mul]
  generalize opN k (xn * pw (max xs ys - xs)) (yn * pw (max xs ys - ys)) = z at *
  obtain ⟨q1, q2, q3, q4⟩ := norm_normed z (max xs ys) (by omega)
  have hm := mil_norm (n := z) (s := max xs ys) (by omega) (by omega)
  obtain ⟨u1, u2⟩ := norm_unique q2 (by omega) s0 s6 q1 hn (by rw [hm, hz, h])
  rw [u1, u2]
theorem small_mul {n d B : Int} (h1 : -B ≤ n) (h2 : n ≤ B) (h0 : 0 ≤ d) (h4 : d ≤ 4) (hB : 0 ≤ B) (hB2 : B ≤ 10000000000) : -400000000000000 ≤ n * pw d ∧ n * pw d ≤ 400000000000000 := by
  have hp := pw_small h0 h4
  have := mul_bd (P := 10000) h1 h2 (show 0 ≤ pw d by omega) hp.2 hB
  omega
theorem keyNumbers_walk (a b scale : Int) (wa : (Lit.int .i64 a).wf = true) (wb : (Lit.int .i64 b).wf = true) (ws : (Lit.int .i64 scale).wf = true) (w : World) :
    Calls Try.prog 11 #[.int .i64 a, .int .i64 b, .int .i64 scale] w fun e w' => e = .returned (.bool true) ∧ Below w.heap.size w w' := by
  have ha := is64_lit wa
  have hb := is64_lit wb
  have hs := is64_lit ws
  have hq := tdiv_bd hs 5 (by decide)
  have OX : Ok 3 (normN (a % 200000 - 100000) (scale % 5)) (normC (a % 200000 - 100000) (scale % 5)) ⟨#[]⟩ := ok_dec (by omega) (by omega) (by omega)
  have OY : Ok 3 (normN (b % 200000 - 100000) (scale.tdiv 5 % 5)) (normC (b % 200000 - 100000) (scale.tdiv 5 % 5)) ⟨#[]⟩ := ok_dec (by omega) (by omega) (by omega)
  have nn : ∀ n s, nN 3 n s = normN n s ∧ nS 3 n s = normC n s := fun n s => ⟨if_pos rfl, if_pos rfl⟩
  obtain ⟨x1, x2, x3, x4⟩ := norm_normed (a % 200000 - 100000) (scale % 5) (by omega)
  obtain ⟨y1, y2, y3, y4⟩ := norm_normed (b % 200000 - 100000) (scale.tdiv 5 % 5) (by omega)
  have NX := fun W => by have := rnorm_any 3 (a % 200000 - 100000) (scale % 5) ⟨#[]⟩ W (by unfold Is64; omega) (by unfold Is64; omega); rw [(nn _ _).1, (nn _ _).2] at this; exact this
  have NY := fun W => by have := rnorm_any 3 (b % 200000 - 100000) (scale.tdiv 5 % 5) ⟨#[]⟩ W (by unfold Is64; omega) (by unfold Is64; omega); rw [(nn _ _).1, (nn _ _).2] at this; exact this
  have bx : -100000 ≤ normN (a % 200000 - 100000) (scale % 5) ∧ normN (a % 200000 - 100000) (scale % 5) ≤ 100000 := by omega
  have by' : -100000 ≤ normN (b % 200000 - 100000) (scale.tdiv 5 % 5) ∧ normN (b % 200000 - 100000) (scale.tdiv 5 % 5) ≤ 100000 := by omega
  have cx : normC (a % 200000 - 100000) (scale % 5) ≤ 4 := by omega
  have cy : normC (b % 200000 - 100000) (scale.tdiv 5 % 5) ≤ 4 := by omega
  generalize normN (a % 200000 - 100000) (scale % 5) = xn at *
  generalize normC (a % 200000 - 100000) (scale % 5) = xs at *
  generalize normN (b % 200000 - 100000) (scale.tdiv 5 % 5) = yn at *
  generalize normC (b % 200000 - 100000) (scale.tdiv 5 % 5) = ys at *
  have A1 := small_mul (d := max xs ys - xs) bx.1 bx.2 (by omega) (by omega) (by decide) (by decide)
  have A2 := small_mul (d := max xs ys - ys) by'.1 by'.2 (by omega) (by omega) (by decide) (by decide)
  -- the sum, normed
  obtain ⟨z1, z2, z3, z4⟩ := norm_normed (xn * pw (max xs ys - xs) + yn * pw (max xs ys - ys)) (max xs ys) (by omega)
  have zm := mil_norm (n := xn * pw (max xs ys - xs) + yn * pw (max xs ys - ys)) (s := max xs ys) (by omega) (by omega)
  have zs : mil (xn * pw (max xs ys - xs) + yn * pw (max xs ys - ys)) (max xs ys) = mil xn xs + mil yn ys := by
    rw [← mil_max (n := xn) x2 (show xs ≤ max xs ys by omega) (by omega), ← mil_max (n := yn) y2 (show ys ≤ max xs ys by omega) (by omega)]
    unfold mil; rw [Int.add_mul]
  rw [zs] at zm
  have B1 := mul_bd (P := 10000) bx.1 bx.2 (show 0 ≤ pw (max xs ys - xs) by have := pw_small (d := max xs ys - xs) (by omega) (by omega); omega) (pw_small (by omega) (by omega)).2 (by decide)
  have B2 := mul_bd (P := 10000) by'.1 by'.2 (show 0 ≤ pw (max xs ys - ys) by have := pw_small (d := max xs ys - ys) (by omega) (by omega); omega) (pw_small (by omega) (by omega)).2 (by decide)
  have zb : -2000000000 ≤ normN (xn * pw (max xs ys - xs) + yn * pw (max xs ys - ys)) (max xs ys) ∧ normN (xn * pw (max xs ys - xs) + yn * pw (max xs ys - ys)) (max xs ys) ≤ 2000000000 := by omega
  have hm4 : max xs ys ≤ 4 := by omega
  generalize normN (xn * pw (max xs ys - xs) + yn * pw (max xs ys - ys)) (max xs ys) = sn at *
  generalize normC (xn * pw (max xs ys - xs) + yn * pw (max xs ys - ys)) (max xs ys) = ss at *
  clear B1 B2 z4 zs
  have OS : Ok 3 sn ss ⟨#[]⟩ := by
    refine ⟨by decide, ?_, by unfold Is64; omega, by omega, by decide, fun _ => rfl⟩
    unfold rightB; rw [if_neg (by decide), if_neg (by decide), if_neg (by decide), if_pos rfl, rd_normed z1 z2 (by omega) (by omega)]; decide +kernel
  have t1 := rec_told 7 xn xs yn ys (Or.inl rfl) x2 (by omega) y2 (by omega) A1 A2 sn ss z2 (by omega) z1 (by rw [zm]; unfold opN; rw [if_neg (by decide), if_pos rfl])
  have C1 := small_mul (d := max ss ys - ss) zb.1 zb.2 (by omega) (by omega) (by decide) (by decide)
  have C2 := small_mul (d := max ss ys - ys) by'.1 by'.2 (by omega) (by omega) (by decide) (by decide)
  have t2 := rec_told 8 sn ss yn ys (Or.inr rfl) z2 (by omega) y2 (by omega) C1 C2 xn xs x2 (by omega) x1 (by rw [zm]; unfold opN; rw [if_neg (by decide), if_neg (by decide)]; omega)
  refine numbers_walk a b scale (a % 200000) (scale % 5) (b % 200000) (scale.tdiv 5 % 5) xn xs yn ys sn ss _ w (by omega) (by omega)
    (fun W => within2_any a 200000 W ha (by decide)) (fun W => within2_any scale 5 W hs (by decide)) (fun W => within2_any b 200000 W hb (by decide)) (fun W => within2_any _ 5 W hq (by decide)) (IntWalk.i64_in _ (by unfold Is64 at hq; omega))
    NX NY ?_ ?_ (fun W => key_any _ _ _ _ W OX) (fun W => rKey_any _ _ _ _ W OX)
  · intro W
    have := rreckon_ok 7 3 xn xs ⟨#[]⟩ 3 yn ys ⟨#[]⟩ W OX OY
    rw [if_neg (by decide), t1] at this
    exact this
  · intro W
    have := rreckon_ok 8 3 sn ss ⟨#[]⟩ 3 yn ys ⟨#[]⟩ W OS OY
    rw [if_neg (by decide), t2] at this
    exact this
end Go.Proofs.Ytbpjejjbgdikdaa
