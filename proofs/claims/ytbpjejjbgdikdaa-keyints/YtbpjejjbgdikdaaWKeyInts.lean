/-
  The walk of the law KeyInts.
-/
import Derived.Test.YtbpjejjbgdikdaaT3
import Derived.Deep.RegionHeld3
namespace Go.Proofs.Ytbpjejjbgdikdaa
open Go.RowKit
set_option linter.unusedSimpArgs false
set_option linter.unusedVariables false

def S4 (w : World) (b1 b2 b3 b4 : Nat) (a b dn ds en es : Int) (W : World) : Prop := Below w.heap.size w W ∧
  Four b1 (.int .i64 2) (.int .i64 a) (.int .i64 0) (.string ⟨#[]⟩) W ∧ Four b2 (.int .i64 2) (.int .i64 b) (.int .i64 0) (.string ⟨#[]⟩) W ∧
  Four b3 (.int .i64 3) (.int .i64 dn) (.int .i64 ds) (.string ⟨#[]⟩) W ∧ Four b4 (.int .i64 3) (.int .i64 en) (.int .i64 es) (.string ⟨#[]⟩) W
theorem s4_call {w : World} {b1 b2 b3 b4 : Nat} {a b dn ds en es : Int} {W W' : World} (h : S4 w b1 b2 b3 b4 a b dn ds en es W) (hb : Below W.heap.size W W') : S4 w b1 b2 b3 b4 a b dn ds en es W' :=
  ⟨h.1.trans (hb.mono h.1.size), four_call h.2.1 hb, four_call h.2.2.1 hb, four_call h.2.2.2.1 hb, four_call h.2.2.2.2 hb⟩

set_option maxHeartbeats 2000000 in
set_option maxRecDepth 100000 in
theorem ints_walk (a b c scale p q r u dn ds en es o : Int) (kx ky kd ke : ByteArray) (w : World)
    (hp : 0 ≤ p ∧ p < 2000001) (hr : 0 ≤ r ∧ r < 2001)
    (WC : Hid (∀ W, Calls Try.prog 17 #[.int .i64 c, .int .i64 2000001] W fun e w' => e = .returned (.int .i64 p) ∧ w' = W))
    (WS : Hid (∀ W, Calls Try.prog 17 #[.int .i64 scale, .int .i64 7] W fun e w' => e = .returned (.int .i64 q) ∧ w' = W))
    (WA : Hid (∀ W, Calls Try.prog 17 #[.int .i64 a, .int .i64 2001] W fun e w' => e = .returned (.int .i64 r) ∧ w' = W))
    (WT : Hid (∀ W, Calls Try.prog 17 #[.int .i64 (scale.tdiv 7), .int .i64 4] W fun e w' => e = .returned (.int .i64 u) ∧ w' = W))
    (hq : IntKind.i64.wrap (scale.tdiv 7) = scale.tdiv 7)
    (ND : Hid (∀ W, Calls Try.prog 24 #[V 3 (p - 1000000) q ⟨#[]⟩] W fun e w' => e = .returned (V 3 dn ds ⟨#[]⟩) ∧ Below W.heap.size W w'))
    (NE : Hid (∀ W, Calls Try.prog 24 #[V 3 (r - 1000) u ⟨#[]⟩] W fun e w' => e = .returned (V 3 en es ⟨#[]⟩) ∧ Below W.heap.size W w'))
    (KX : Hid (∀ W, Calls Try.prog 14 #[V 2 a 0 ⟨#[]⟩] W fun e w' => e = .returned (.string kx) ∧ Below W.heap.size W w'))
    (KY : Hid (∀ W, Calls Try.prog 14 #[V 2 b 0 ⟨#[]⟩] W fun e w' => e = .returned (.string ky) ∧ Below W.heap.size W w'))
    (KD : Hid (∀ W, Calls Try.prog 14 #[V 3 dn ds ⟨#[]⟩] W fun e w' => e = .returned (.string kd) ∧ Below W.heap.size W w'))
    (KE : Hid (∀ W, Calls Try.prog 14 #[V 3 en es ⟨#[]⟩] W fun e w' => e = .returned (.string ke) ∧ Below W.heap.size W w'))
    (RO : Hid (∀ W, Calls Try.prog 18 #[V 3 dn ds ⟨#[]⟩, V 3 en es ⟨#[]⟩] W fun e w' => e = .returned (.int .i64 o) ∧ Below W.heap.size W w'))
    (h1 : Op.bytesLess kx.toList ky.toList = decide (a < b)) (h2 : kx.size = 9) (h3 : kd.size = 13) (h4 : Op.bytesLess kd.toList ke.toList = decide (o < 0)) :
    Calls Try.prog 6 #[.int .i64 a, .int .i64 b, .int .i64 c, .int .i64 scale] w fun e w' => e = .returned (.bool true) ∧ Below w.heap.size w w' := by
  have e1 : IntKind.i64.wrap (p - 1000000) = p - 1000000 := IntWalk.i64_in _ (by omega)
  have e2 : IntKind.i64.wrap (r - 1000) = r - 1000 := IntWalk.i64_in _ (by omega)
  have hL := hide (Below.refl w.heap.size w)
  go_enter Try.func6, Try.ntmps6
  go_wp2_with fail
  refine (known_any _).mono ?_
  rintro e w1 ⟨rfl, hb1⟩
  replace hL := hide ((unhide hL).trans (hb1.mono (unhide hL).size))
  clear hb1
  have hx := hide (four_alloc (.int .i64 2) (.int .i64 a) (.int .i64 0) (.string ⟨#[]⟩) 24 w1)
  replace hL := hide ((unhide hL).alloc (unhide hL).size (.cells #[.int .i64 2, .int .i64 a, .int .i64 0, .string ⟨#[]⟩] 24))
  replace hx := hide (four_more (unhide hx) (.cells #[.int .i64 2, .int .i64 b, .int .i64 0, .string ⟨#[]⟩] 24))
  have hy := hide (four_alloc (.int .i64 2) (.int .i64 b) (.int .i64 0) (.string ⟨#[]⟩) 24 (w1.alloc (.cells #[.int .i64 2, .int .i64 a, .int .i64 0, .string ⟨#[]⟩] 24)))
  replace hL := hide ((unhide hL).alloc (unhide hL).size (.cells #[.int .i64 2, .int .i64 b, .int .i64 0, .string ⟨#[]⟩] 24))
  simp only [World.size_alloc] at hy
  go_wp2_with fail
  refine (unhide WC _).mono ?_
  rintro e wq2 ⟨rfl, rfl⟩
  go_wp2_with fail
  refine (unhide WS _).mono ?_
  rintro e wq3 ⟨rfl, rfl⟩
  go_wp2_with fail
  refine (unhide ND _).mono ?_
  rintro e w4 ⟨rfl, hb4⟩
  replace hx := hide (four_call (unhide hx) hb4)
  replace hy := hide (four_call (unhide hy) hb4)
  replace hL := hide ((unhide hL).trans (hb4.mono (unhide hL).size))
  clear hb4
  replace hx := hide (four_more (unhide hx) (.cells #[.int .i64 3, .int .i64 dn, .int .i64 ds, .string ⟨#[]⟩] 24))
  replace hy := hide (four_more (unhide hy) (.cells #[.int .i64 3, .int .i64 dn, .int .i64 ds, .string ⟨#[]⟩] 24))
  have hd := hide (four_alloc (.int .i64 3) (.int .i64 dn) (.int .i64 ds) (.string ⟨#[]⟩) 24 w4)
  replace hL := hide ((unhide hL).alloc (unhide hL).size (.cells #[.int .i64 3, .int .i64 dn, .int .i64 ds, .string ⟨#[]⟩] 24))
  go_wp2_with fail
  refine (unhide WA _).mono ?_
  rintro e wq5 ⟨rfl, rfl⟩
  go_wp2_with fail
  refine (unhide WT _).mono ?_
  rintro e wq6 ⟨rfl, rfl⟩
  go_wp2_with fail
  refine (unhide NE _).mono ?_
  rintro e w7 ⟨rfl, hb7⟩
  replace hx := hide (four_call (unhide hx) hb7)
  replace hy := hide (four_call (unhide hy) hb7)
  replace hd := hide (four_call (unhide hd) hb7)
  replace hL := hide ((unhide hL).trans (hb7.mono (unhide hL).size))
  clear hb7
  replace hx := hide (four_more (unhide hx) (.cells #[.int .i64 3, .int .i64 en, .int .i64 es, .string ⟨#[]⟩] 24))
  replace hy := hide (four_more (unhide hy) (.cells #[.int .i64 3, .int .i64 en, .int .i64 es, .string ⟨#[]⟩] 24))
  replace hd := hide (four_more (unhide hd) (.cells #[.int .i64 3, .int .i64 en, .int .i64 es, .string ⟨#[]⟩] 24))
  have he := hide (four_alloc (.int .i64 3) (.int .i64 en) (.int .i64 es) (.string ⟨#[]⟩) 24 w7)
  replace hL := hide ((unhide hL).alloc (unhide hL).size (.cells #[.int .i64 3, .int .i64 en, .int .i64 es, .string ⟨#[]⟩] 24))
  go_wp2_with fail
  rename_i Q1 K1 hrest
  clear WC WS WA WT ND NE e1 e2 hq hp hr
  refine wp_region_noPanic ?_
  refine wp_region_held_drew (S := S4 w _ _ _ _ a b dn ds en es) (by kernel_rfl) ⟨(unhide hL).drew, four_drew (unhide hx), four_drew (unhide hy), four_drew (unhide hd), four_drew (unhide he)⟩ (fun hHeld => ?_)
  revert hHeld
  generalize World.drew _ = Wd
  intro hHeld
  refine wpAnyH_take (i := 0) (oi := ?oi1001) (v := ?v1001) ?hi1001 (by kernel_rfl) (by kernel_rfl) (by kernel_rfl) (fun _ _ _ h => h) (Or.inl ⟨?hw1001, ?hy1001⟩) (by assumption) ?rest1001
  case hi1001 => (simp only [List.getElem?_toArray, List.getElem?_cons_zero]; rfl)
  case hw1001 => rfl
  case hy1001 => first | (intro wx hSw; obtain ⟨-, ⟨-, a0, a1, a2, a3, -⟩, ⟨-, b0, b1, b2, b3, -⟩, ⟨-, c0, c1, c2, c3, -⟩, ⟨-, d0, d1, d2, d3, -⟩⟩ := hSw; go_simp; done) | (intro wx hSw; obtain ⟨-, ⟨-, a0, a1, a2, a3, -⟩, ⟨-, b0, b1, b2, b3, -⟩, ⟨-, c0, c1, c2, c3, -⟩, ⟨-, d0, d1, d2, d3, -⟩⟩ := hSw; go_simp; with_reducible rfl)
  simp only [Act.put, List.setIfInBounds_toArray, List.set_cons_zero, List.set_cons_succ]
  refine wpAnyH_take (i := 2) (oi := ?oi1002) (v := ?v1002) ?hi1002 (by kernel_rfl) (by kernel_rfl) (by kernel_rfl) (fun _ _ _ h => h) (Or.inl ⟨?hw1002, ?hy1002⟩) (by assumption) ?rest1002
  case hi1002 => (simp only [List.getElem?_toArray, List.getElem?_cons_zero, List.getElem?_cons_succ]; rfl)
  case hw1002 => rfl
  case hy1002 => first | (intro wx hSw; obtain ⟨-, ⟨-, a0, a1, a2, a3, -⟩, ⟨-, b0, b1, b2, b3, -⟩, ⟨-, c0, c1, c2, c3, -⟩, ⟨-, d0, d1, d2, d3, -⟩⟩ := hSw; go_simp; done) | (intro wx hSw; obtain ⟨-, ⟨-, a0, a1, a2, a3, -⟩, ⟨-, b0, b1, b2, b3, -⟩, ⟨-, c0, c1, c2, c3, -⟩, ⟨-, d0, d1, d2, d3, -⟩⟩ := hSw; go_simp; with_reducible rfl)
  simp only [Act.put, List.setIfInBounds_toArray, List.set_cons_zero, List.set_cons_succ]
  refine wpAnyH_take (i := 5) (oi := ?oi1003) (v := ?v1003) ?hi1003 (by kernel_rfl) (by kernel_rfl) (by kernel_rfl) (fun _ _ _ h => h) (Or.inl ⟨?hw1003, ?hy1003⟩) (by assumption) ?rest1003
  case hi1003 => (simp only [List.getElem?_toArray, List.getElem?_cons_zero, List.getElem?_cons_succ]; rfl)
  case hw1003 => rfl
  case hy1003 => first | (intro wx hSw; obtain ⟨-, ⟨-, a0, a1, a2, a3, -⟩, ⟨-, b0, b1, b2, b3, -⟩, ⟨-, c0, c1, c2, c3, -⟩, ⟨-, d0, d1, d2, d3, -⟩⟩ := hSw; go_simp; done) | (intro wx hSw; obtain ⟨-, ⟨-, a0, a1, a2, a3, -⟩, ⟨-, b0, b1, b2, b3, -⟩, ⟨-, c0, c1, c2, c3, -⟩, ⟨-, d0, d1, d2, d3, -⟩⟩ := hSw; go_simp; with_reducible rfl)
  simp only [Act.put, List.setIfInBounds_toArray, List.set_cons_zero, List.set_cons_succ]
  refine wpAnyH_take (i := 6) (oi := ?oi1004) (v := ?v1004) ?hi1004 (by kernel_rfl) (by kernel_rfl) (by kernel_rfl) (fun _ _ _ h => h) (Or.inl ⟨?hw1004, ?hy1004⟩) (by assumption) ?rest1004
  case hi1004 => (simp only [List.getElem?_toArray, List.getElem?_cons_zero, List.getElem?_cons_succ]; rfl)
  case hw1004 => rfl
  case hy1004 => first | (intro wx hSw; obtain ⟨-, ⟨-, a0, a1, a2, a3, -⟩, ⟨-, b0, b1, b2, b3, -⟩, ⟨-, c0, c1, c2, c3, -⟩, ⟨-, d0, d1, d2, d3, -⟩⟩ := hSw; go_simp; done) | (intro wx hSw; obtain ⟨-, ⟨-, a0, a1, a2, a3, -⟩, ⟨-, b0, b1, b2, b3, -⟩, ⟨-, c0, c1, c2, c3, -⟩, ⟨-, d0, d1, d2, d3, -⟩⟩ := hSw; go_simp; with_reducible rfl)
  simp only [Act.put, List.setIfInBounds_toArray, List.set_cons_zero, List.set_cons_succ]
  refine wpAnyH_take (i := 7) (oi := ?oi1005) (v := ?v1005) ?hi1005 (by kernel_rfl) (by kernel_rfl) (by kernel_rfl) (fun _ _ _ h => h) (Or.inl ⟨?hw1005, ?hy1005⟩) (by assumption) ?rest1005
  case hi1005 => (simp only [List.getElem?_toArray, List.getElem?_cons_zero, List.getElem?_cons_succ]; rfl)
  case hw1005 => rfl
  case hy1005 => first | (intro wx hSw; obtain ⟨-, ⟨-, a0, a1, a2, a3, -⟩, ⟨-, b0, b1, b2, b3, -⟩, ⟨-, c0, c1, c2, c3, -⟩, ⟨-, d0, d1, d2, d3, -⟩⟩ := hSw; go_simp; done) | (intro wx hSw; obtain ⟨-, ⟨-, a0, a1, a2, a3, -⟩, ⟨-, b0, b1, b2, b3, -⟩, ⟨-, c0, c1, c2, c3, -⟩, ⟨-, d0, d1, d2, d3, -⟩⟩ := hSw; go_simp; with_reducible rfl)
  simp only [Act.put, List.setIfInBounds_toArray, List.set_cons_zero, List.set_cons_succ]
  refine wpAnyH_ready (rs := [1]) (by kernel_rfl) (by simp) ?_
  refine AllReadyH.cons rfl (fun K1006 hK1006 => ?_) AllReadyH.nil
  go_simp
  go_wp2_with (go_at_call 14; refine (unhide KX _).mono ?_; rintro e wc1006 ⟨rfl, hb1006⟩)
  refine hK1006.out _ _ ?hs1006 (fun hHeld1006 => ?_)
  case hs1006 => exact s4_call hHeld hb1006
  clear hHeld
  have hHeld := hHeld1006; clear hHeld1006 hK1006 K1006 hb1006
  refine wpAnyH_ready (rs := [3]) (by kernel_rfl) (by simp) ?_
  refine AllReadyH.cons rfl (fun K1007 hK1007 => ?_) AllReadyH.nil
  go_simp
  go_wp2_with (go_at_call 14; refine (unhide KY _).mono ?_; rintro e wc1007 ⟨rfl, hb1007⟩)
  refine hK1007.out _ _ ?hs1007 (fun hHeld1007 => ?_)
  case hs1007 => exact s4_call hHeld hb1007
  clear hHeld
  have hHeld := hHeld1007; clear hHeld1007 hK1007 K1007 hb1007
  refine wpAnyH_take (i := 4) (oi := ?oi1008) (v := ?v1008) ?hi1008 (by kernel_rfl) (by kernel_rfl) (by kernel_rfl) (fun _ _ _ h => h) (Or.inl ⟨?hw1008, ?hy1008⟩) (by assumption) ?rest1008
  case hi1008 => (simp only [List.getElem?_toArray, List.getElem?_cons_zero, List.getElem?_cons_succ]; rfl)
  case hw1008 => rfl
  case hy1008 => first | (intro wx hSw; obtain ⟨-, ⟨-, a0, a1, a2, a3, -⟩, ⟨-, b0, b1, b2, b3, -⟩, ⟨-, c0, c1, c2, c3, -⟩, ⟨-, d0, d1, d2, d3, -⟩⟩ := hSw; go_simp; done) | (intro wx hSw; obtain ⟨-, ⟨-, a0, a1, a2, a3, -⟩, ⟨-, b0, b1, b2, b3, -⟩, ⟨-, c0, c1, c2, c3, -⟩, ⟨-, d0, d1, d2, d3, -⟩⟩ := hSw; go_simp; with_reducible rfl)
  simp only [Act.put, List.setIfInBounds_toArray, List.set_cons_zero, List.set_cons_succ]
  refine wpAnyH_take (i := 8) (oi := ?oi1009) (v := ?v1009) ?hi1009 (by kernel_rfl) (by kernel_rfl) (by kernel_rfl) (fun _ _ _ h => h) (Or.inl ⟨?hw1009, ?hy1009⟩) (by assumption) ?rest1009
  case hi1009 => (simp only [List.getElem?_toArray, List.getElem?_cons_zero, List.getElem?_cons_succ]; rfl)
  case hw1009 => rfl
  case hy1009 => first | (intro wx hSw; obtain ⟨-, ⟨-, a0, a1, a2, a3, -⟩, ⟨-, b0, b1, b2, b3, -⟩, ⟨-, c0, c1, c2, c3, -⟩, ⟨-, d0, d1, d2, d3, -⟩⟩ := hSw; go_simp; done) | (intro wx hSw; obtain ⟨-, ⟨-, a0, a1, a2, a3, -⟩, ⟨-, b0, b1, b2, b3, -⟩, ⟨-, c0, c1, c2, c3, -⟩, ⟨-, d0, d1, d2, d3, -⟩⟩ := hSw; go_simp; with_reducible rfl)
  simp only [Act.put, List.setIfInBounds_toArray, List.set_cons_zero, List.set_cons_succ]
  refine wpAnyH_take (i := 9) (oi := ?oi1010) (v := ?v1010) ?hi1010 (by kernel_rfl) (by kernel_rfl) (by kernel_rfl) (fun _ _ _ h => h) (Or.inl ⟨?hw1010, ?hy1010⟩) (by assumption) ?rest1010
  case hi1010 => (simp only [List.getElem?_toArray, List.getElem?_cons_zero, List.getElem?_cons_succ]; rfl)
  case hw1010 => rfl
  case hy1010 => first | (intro wx hSw; obtain ⟨-, ⟨-, a0, a1, a2, a3, -⟩, ⟨-, b0, b1, b2, b3, -⟩, ⟨-, c0, c1, c2, c3, -⟩, ⟨-, d0, d1, d2, d3, -⟩⟩ := hSw; go_simp; done) | (intro wx hSw; obtain ⟨-, ⟨-, a0, a1, a2, a3, -⟩, ⟨-, b0, b1, b2, b3, -⟩, ⟨-, c0, c1, c2, c3, -⟩, ⟨-, d0, d1, d2, d3, -⟩⟩ := hSw; go_simp; with_reducible rfl)
  simp only [Act.put, List.setIfInBounds_toArray, List.set_cons_zero, List.set_cons_succ]
  refine wpAnyH_take (i := 10) (oi := ?oi1011) (v := ?v1011) ?hi1011 (by kernel_rfl) (by kernel_rfl) (by kernel_rfl) (fun _ _ _ h => h) (Or.inl ⟨?hw1011, ?hy1011⟩) (by assumption) ?rest1011
  case hi1011 => (simp only [List.getElem?_toArray, List.getElem?_cons_zero, List.getElem?_cons_succ]; rfl)
  case hw1011 => rfl
  case hy1011 => first | (intro wx hSw; obtain ⟨-, ⟨-, a0, a1, a2, a3, -⟩, ⟨-, b0, b1, b2, b3, -⟩, ⟨-, c0, c1, c2, c3, -⟩, ⟨-, d0, d1, d2, d3, -⟩⟩ := hSw; go_simp; done) | (intro wx hSw; obtain ⟨-, ⟨-, a0, a1, a2, a3, -⟩, ⟨-, b0, b1, b2, b3, -⟩, ⟨-, c0, c1, c2, c3, -⟩, ⟨-, d0, d1, d2, d3, -⟩⟩ := hSw; go_simp; with_reducible rfl)
  simp only [Act.put, List.setIfInBounds_toArray, List.set_cons_zero, List.set_cons_succ]
  refine wpAnyH_ready (rs := [11]) (by kernel_rfl) (by simp) ?_
  refine AllReadyH.cons rfl (fun K1012 hK1012 => ?_) AllReadyH.nil
  go_simp
  go_wp2_with (go_at_call 14; refine (unhide KX _).mono ?_; rintro e wc1012 ⟨rfl, hb1012⟩)
  refine hK1012.out _ _ ?hs1012 (fun hHeld1012 => ?_)
  case hs1012 => exact s4_call hHeld hb1012
  clear hHeld
  have hHeld := hHeld1012; clear hHeld1012 hK1012 K1012 hb1012
  refine wpAnyH_take (i := 12) (oi := ?oi1013) (v := ?v1013) ?hi1013 (by kernel_rfl) (by kernel_rfl) (by kernel_rfl) (fun _ _ _ h => h) (Or.inl ⟨?hw1013, ?hy1013⟩) (by assumption) ?rest1013
  case hi1013 => (simp only [List.getElem?_toArray, List.getElem?_cons_zero, List.getElem?_cons_succ]; rfl)
  case hw1013 => rfl
  case hy1013 => first | (intro wx hSw; obtain ⟨-, ⟨-, a0, a1, a2, a3, -⟩, ⟨-, b0, b1, b2, b3, -⟩, ⟨-, c0, c1, c2, c3, -⟩, ⟨-, d0, d1, d2, d3, -⟩⟩ := hSw; go_simp; done) | (intro wx hSw; obtain ⟨-, ⟨-, a0, a1, a2, a3, -⟩, ⟨-, b0, b1, b2, b3, -⟩, ⟨-, c0, c1, c2, c3, -⟩, ⟨-, d0, d1, d2, d3, -⟩⟩ := hSw; go_simp; with_reducible rfl)
  simp only [Act.put, List.setIfInBounds_toArray, List.set_cons_zero, List.set_cons_succ]
  refine wpAnyH_take (i := 13) (oi := ?oi1014) (v := ?v1014) ?hi1014 (by kernel_rfl) (by kernel_rfl) (by kernel_rfl) (fun _ _ _ h => h) (Or.inl ⟨?hw1014, ?hy1014⟩) (by assumption) ?rest1014
  case hi1014 => (simp only [List.getElem?_toArray, List.getElem?_cons_zero, List.getElem?_cons_succ]; rfl)
  case hw1014 => rfl
  case hy1014 => first | (intro wx hSw; obtain ⟨-, ⟨-, a0, a1, a2, a3, -⟩, ⟨-, b0, b1, b2, b3, -⟩, ⟨-, c0, c1, c2, c3, -⟩, ⟨-, d0, d1, d2, d3, -⟩⟩ := hSw; go_simp; done) | (intro wx hSw; obtain ⟨-, ⟨-, a0, a1, a2, a3, -⟩, ⟨-, b0, b1, b2, b3, -⟩, ⟨-, c0, c1, c2, c3, -⟩, ⟨-, d0, d1, d2, d3, -⟩⟩ := hSw; go_simp; with_reducible rfl)
  simp only [Act.put, List.setIfInBounds_toArray, List.set_cons_zero, List.set_cons_succ]
  refine wpAnyH_take (i := 14) (oi := ?oi1015) (v := ?v1015) ?hi1015 (by kernel_rfl) (by kernel_rfl) (by kernel_rfl) (fun _ _ _ h => h) (Or.inl ⟨?hw1015, ?hy1015⟩) (by assumption) ?rest1015
  case hi1015 => (simp only [List.getElem?_toArray, List.getElem?_cons_zero, List.getElem?_cons_succ]; rfl)
  case hw1015 => rfl
  case hy1015 => first | (intro wx hSw; obtain ⟨-, ⟨-, a0, a1, a2, a3, -⟩, ⟨-, b0, b1, b2, b3, -⟩, ⟨-, c0, c1, c2, c3, -⟩, ⟨-, d0, d1, d2, d3, -⟩⟩ := hSw; go_simp; done) | (intro wx hSw; obtain ⟨-, ⟨-, a0, a1, a2, a3, -⟩, ⟨-, b0, b1, b2, b3, -⟩, ⟨-, c0, c1, c2, c3, -⟩, ⟨-, d0, d1, d2, d3, -⟩⟩ := hSw; go_simp; with_reducible rfl)
  simp only [Act.put, List.setIfInBounds_toArray, List.set_cons_zero, List.set_cons_succ]
  refine wpAnyH_take (i := 15) (oi := ?oi1016) (v := ?v1016) ?hi1016 (by kernel_rfl) (by kernel_rfl) (by kernel_rfl) (fun _ _ _ h => h) (Or.inl ⟨?hw1016, ?hy1016⟩) (by assumption) ?rest1016
  case hi1016 => (simp only [List.getElem?_toArray, List.getElem?_cons_zero, List.getElem?_cons_succ]; rfl)
  case hw1016 => rfl
  case hy1016 => first | (intro wx hSw; obtain ⟨-, ⟨-, a0, a1, a2, a3, -⟩, ⟨-, b0, b1, b2, b3, -⟩, ⟨-, c0, c1, c2, c3, -⟩, ⟨-, d0, d1, d2, d3, -⟩⟩ := hSw; go_simp; done) | (intro wx hSw; obtain ⟨-, ⟨-, a0, a1, a2, a3, -⟩, ⟨-, b0, b1, b2, b3, -⟩, ⟨-, c0, c1, c2, c3, -⟩, ⟨-, d0, d1, d2, d3, -⟩⟩ := hSw; go_simp; with_reducible rfl)
  simp only [Act.put, List.setIfInBounds_toArray, List.set_cons_zero, List.set_cons_succ]
  refine wpAnyH_take (i := 16) (oi := ?oi1017) (v := ?v1017) ?hi1017 (by kernel_rfl) (by kernel_rfl) (by kernel_rfl) (fun _ _ _ h => h) (Or.inl ⟨?hw1017, ?hy1017⟩) (by assumption) ?rest1017
  case hi1017 => (simp only [List.getElem?_toArray, List.getElem?_cons_zero, List.getElem?_cons_succ]; rfl)
  case hw1017 => rfl
  case hy1017 => first | (intro wx hSw; obtain ⟨-, ⟨-, a0, a1, a2, a3, -⟩, ⟨-, b0, b1, b2, b3, -⟩, ⟨-, c0, c1, c2, c3, -⟩, ⟨-, d0, d1, d2, d3, -⟩⟩ := hSw; go_simp; done) | (intro wx hSw; obtain ⟨-, ⟨-, a0, a1, a2, a3, -⟩, ⟨-, b0, b1, b2, b3, -⟩, ⟨-, c0, c1, c2, c3, -⟩, ⟨-, d0, d1, d2, d3, -⟩⟩ := hSw; go_simp; with_reducible rfl)
  simp only [Act.put, List.setIfInBounds_toArray, List.set_cons_zero, List.set_cons_succ]
  refine wpAnyH_ready (rs := [17]) (by kernel_rfl) (by simp) ?_
  refine AllReadyH.cons rfl (fun K1018 hK1018 => ?_) AllReadyH.nil
  go_simp
  go_wp2_with (go_at_call 14; refine (unhide KD _).mono ?_; rintro e wc1018 ⟨rfl, hb1018⟩)
  refine hK1018.out _ _ ?hs1018 (fun hHeld1018 => ?_)
  case hs1018 => exact s4_call hHeld hb1018
  clear hHeld
  have hHeld := hHeld1018; clear hHeld1018 hK1018 K1018 hb1018
  refine wpAnyH_take (i := 18) (oi := ?oi1019) (v := ?v1019) ?hi1019 (by kernel_rfl) (by kernel_rfl) (by kernel_rfl) (fun _ _ _ h => h) (Or.inl ⟨?hw1019, ?hy1019⟩) (by assumption) ?rest1019
  case hi1019 => (simp only [List.getElem?_toArray, List.getElem?_cons_zero, List.getElem?_cons_succ]; rfl)
  case hw1019 => rfl
  case hy1019 => first | (intro wx hSw; obtain ⟨-, ⟨-, a0, a1, a2, a3, -⟩, ⟨-, b0, b1, b2, b3, -⟩, ⟨-, c0, c1, c2, c3, -⟩, ⟨-, d0, d1, d2, d3, -⟩⟩ := hSw; go_simp; done) | (intro wx hSw; obtain ⟨-, ⟨-, a0, a1, a2, a3, -⟩, ⟨-, b0, b1, b2, b3, -⟩, ⟨-, c0, c1, c2, c3, -⟩, ⟨-, d0, d1, d2, d3, -⟩⟩ := hSw; go_simp; with_reducible rfl)
  simp only [Act.put, List.setIfInBounds_toArray, List.set_cons_zero, List.set_cons_succ]
  refine wpAnyH_take (i := 19) (oi := ?oi1020) (v := ?v1020) ?hi1020 (by kernel_rfl) (by kernel_rfl) (by kernel_rfl) (fun _ _ _ h => h) (Or.inl ⟨?hw1020, ?hy1020⟩) (by assumption) ?rest1020
  case hi1020 => (simp only [List.getElem?_toArray, List.getElem?_cons_zero, List.getElem?_cons_succ]; rfl)
  case hw1020 => rfl
  case hy1020 => first | (intro wx hSw; obtain ⟨-, ⟨-, a0, a1, a2, a3, -⟩, ⟨-, b0, b1, b2, b3, -⟩, ⟨-, c0, c1, c2, c3, -⟩, ⟨-, d0, d1, d2, d3, -⟩⟩ := hSw; go_simp; done) | (intro wx hSw; obtain ⟨-, ⟨-, a0, a1, a2, a3, -⟩, ⟨-, b0, b1, b2, b3, -⟩, ⟨-, c0, c1, c2, c3, -⟩, ⟨-, d0, d1, d2, d3, -⟩⟩ := hSw; go_simp; with_reducible rfl)
  simp only [Act.put, List.setIfInBounds_toArray, List.set_cons_zero, List.set_cons_succ]
  refine wpAnyH_take (i := 20) (oi := ?oi1021) (v := ?v1021) ?hi1021 (by kernel_rfl) (by kernel_rfl) (by kernel_rfl) (fun _ _ _ h => h) (Or.inl ⟨?hw1021, ?hy1021⟩) (by assumption) ?rest1021
  case hi1021 => (simp only [List.getElem?_toArray, List.getElem?_cons_zero, List.getElem?_cons_succ]; rfl)
  case hw1021 => rfl
  case hy1021 => first | (intro wx hSw; obtain ⟨-, ⟨-, a0, a1, a2, a3, -⟩, ⟨-, b0, b1, b2, b3, -⟩, ⟨-, c0, c1, c2, c3, -⟩, ⟨-, d0, d1, d2, d3, -⟩⟩ := hSw; go_simp; done) | (intro wx hSw; obtain ⟨-, ⟨-, a0, a1, a2, a3, -⟩, ⟨-, b0, b1, b2, b3, -⟩, ⟨-, c0, c1, c2, c3, -⟩, ⟨-, d0, d1, d2, d3, -⟩⟩ := hSw; go_simp; with_reducible rfl)
  simp only [Act.put, List.setIfInBounds_toArray, List.set_cons_zero, List.set_cons_succ]
  refine wpAnyH_take (i := 21) (oi := ?oi1022) (v := ?v1022) ?hi1022 (by kernel_rfl) (by kernel_rfl) (by kernel_rfl) (fun _ _ _ h => h) (Or.inl ⟨?hw1022, ?hy1022⟩) (by assumption) ?rest1022
  case hi1022 => (simp only [List.getElem?_toArray, List.getElem?_cons_zero, List.getElem?_cons_succ]; rfl)
  case hw1022 => rfl
  case hy1022 => first | (intro wx hSw; obtain ⟨-, ⟨-, a0, a1, a2, a3, -⟩, ⟨-, b0, b1, b2, b3, -⟩, ⟨-, c0, c1, c2, c3, -⟩, ⟨-, d0, d1, d2, d3, -⟩⟩ := hSw; go_simp; done) | (intro wx hSw; obtain ⟨-, ⟨-, a0, a1, a2, a3, -⟩, ⟨-, b0, b1, b2, b3, -⟩, ⟨-, c0, c1, c2, c3, -⟩, ⟨-, d0, d1, d2, d3, -⟩⟩ := hSw; go_simp; with_reducible rfl)
  simp only [Act.put, List.setIfInBounds_toArray, List.set_cons_zero, List.set_cons_succ]
  refine wpAnyH_take (i := 22) (oi := ?oi1023) (v := ?v1023) ?hi1023 (by kernel_rfl) (by kernel_rfl) (by kernel_rfl) (fun _ _ _ h => h) (Or.inl ⟨?hw1023, ?hy1023⟩) (by assumption) ?rest1023
  case hi1023 => (simp only [List.getElem?_toArray, List.getElem?_cons_zero, List.getElem?_cons_succ]; rfl)
  case hw1023 => rfl
  case hy1023 => first | (intro wx hSw; obtain ⟨-, ⟨-, a0, a1, a2, a3, -⟩, ⟨-, b0, b1, b2, b3, -⟩, ⟨-, c0, c1, c2, c3, -⟩, ⟨-, d0, d1, d2, d3, -⟩⟩ := hSw; go_simp; done) | (intro wx hSw; obtain ⟨-, ⟨-, a0, a1, a2, a3, -⟩, ⟨-, b0, b1, b2, b3, -⟩, ⟨-, c0, c1, c2, c3, -⟩, ⟨-, d0, d1, d2, d3, -⟩⟩ := hSw; go_simp; with_reducible rfl)
  simp only [Act.put, List.setIfInBounds_toArray, List.set_cons_zero, List.set_cons_succ]
  refine wpAnyH_take (i := 24) (oi := ?oi1024) (v := ?v1024) ?hi1024 (by kernel_rfl) (by kernel_rfl) (by kernel_rfl) (fun _ _ _ h => h) (Or.inl ⟨?hw1024, ?hy1024⟩) (by assumption) ?rest1024
  case hi1024 => (simp only [List.getElem?_toArray, List.getElem?_cons_zero, List.getElem?_cons_succ]; rfl)
  case hw1024 => rfl
  case hy1024 => first | (intro wx hSw; obtain ⟨-, ⟨-, a0, a1, a2, a3, -⟩, ⟨-, b0, b1, b2, b3, -⟩, ⟨-, c0, c1, c2, c3, -⟩, ⟨-, d0, d1, d2, d3, -⟩⟩ := hSw; go_simp; done) | (intro wx hSw; obtain ⟨-, ⟨-, a0, a1, a2, a3, -⟩, ⟨-, b0, b1, b2, b3, -⟩, ⟨-, c0, c1, c2, c3, -⟩, ⟨-, d0, d1, d2, d3, -⟩⟩ := hSw; go_simp; with_reducible rfl)
  simp only [Act.put, List.setIfInBounds_toArray, List.set_cons_zero, List.set_cons_succ]
  refine wpAnyH_take (i := 27) (oi := ?oi1025) (v := ?v1025) ?hi1025 (by kernel_rfl) (by kernel_rfl) (by kernel_rfl) (fun _ _ _ h => h) (Or.inl ⟨?hw1025, ?hy1025⟩) (by assumption) ?rest1025
  case hi1025 => (simp only [List.getElem?_toArray, List.getElem?_cons_zero, List.getElem?_cons_succ]; rfl)
  case hw1025 => rfl
  case hy1025 => first | (intro wx hSw; obtain ⟨-, ⟨-, a0, a1, a2, a3, -⟩, ⟨-, b0, b1, b2, b3, -⟩, ⟨-, c0, c1, c2, c3, -⟩, ⟨-, d0, d1, d2, d3, -⟩⟩ := hSw; go_simp; done) | (intro wx hSw; obtain ⟨-, ⟨-, a0, a1, a2, a3, -⟩, ⟨-, b0, b1, b2, b3, -⟩, ⟨-, c0, c1, c2, c3, -⟩, ⟨-, d0, d1, d2, d3, -⟩⟩ := hSw; go_simp; with_reducible rfl)
  simp only [Act.put, List.setIfInBounds_toArray, List.set_cons_zero, List.set_cons_succ]
  refine wpAnyH_take (i := 28) (oi := ?oi1026) (v := ?v1026) ?hi1026 (by kernel_rfl) (by kernel_rfl) (by kernel_rfl) (fun _ _ _ h => h) (Or.inl ⟨?hw1026, ?hy1026⟩) (by assumption) ?rest1026
  case hi1026 => (simp only [List.getElem?_toArray, List.getElem?_cons_zero, List.getElem?_cons_succ]; rfl)
  case hw1026 => rfl
  case hy1026 => first | (intro wx hSw; obtain ⟨-, ⟨-, a0, a1, a2, a3, -⟩, ⟨-, b0, b1, b2, b3, -⟩, ⟨-, c0, c1, c2, c3, -⟩, ⟨-, d0, d1, d2, d3, -⟩⟩ := hSw; go_simp; done) | (intro wx hSw; obtain ⟨-, ⟨-, a0, a1, a2, a3, -⟩, ⟨-, b0, b1, b2, b3, -⟩, ⟨-, c0, c1, c2, c3, -⟩, ⟨-, d0, d1, d2, d3, -⟩⟩ := hSw; go_simp; with_reducible rfl)
  simp only [Act.put, List.setIfInBounds_toArray, List.set_cons_zero, List.set_cons_succ]
  refine wpAnyH_ready (rs := [23]) (by kernel_rfl) (by simp) ?_
  refine AllReadyH.cons rfl (fun K1027 hK1027 => ?_) AllReadyH.nil
  go_simp
  go_wp2_with (go_at_call 14; refine (unhide KD _).mono ?_; rintro e wc1027 ⟨rfl, hb1027⟩)
  refine hK1027.out _ _ ?hs1027 (fun hHeld1027 => ?_)
  case hs1027 => exact s4_call hHeld hb1027
  clear hHeld
  have hHeld := hHeld1027; clear hHeld1027 hK1027 K1027 hb1027
  refine wpAnyH_ready (rs := [25]) (by kernel_rfl) (by simp) ?_
  refine AllReadyH.cons rfl (fun K1028 hK1028 => ?_) AllReadyH.nil
  go_simp
  go_wp2_with (go_at_call 14; refine (unhide KE _).mono ?_; rintro e wc1028 ⟨rfl, hb1028⟩)
  refine hK1028.out _ _ ?hs1028 (fun hHeld1028 => ?_)
  case hs1028 => exact s4_call hHeld hb1028
  clear hHeld
  have hHeld := hHeld1028; clear hHeld1028 hK1028 K1028 hb1028
  refine wpAnyH_take (i := 26) (oi := ?oi1029) (v := ?v1029) ?hi1029 (by kernel_rfl) (by kernel_rfl) (by kernel_rfl) (fun _ _ _ h => h) (Or.inl ⟨?hw1029, ?hy1029⟩) (by assumption) ?rest1029
  case hi1029 => (simp only [List.getElem?_toArray, List.getElem?_cons_zero, List.getElem?_cons_succ]; rfl)
  case hw1029 => rfl
  case hy1029 => first | (intro wx hSw; obtain ⟨-, ⟨-, a0, a1, a2, a3, -⟩, ⟨-, b0, b1, b2, b3, -⟩, ⟨-, c0, c1, c2, c3, -⟩, ⟨-, d0, d1, d2, d3, -⟩⟩ := hSw; go_simp; done) | (intro wx hSw; obtain ⟨-, ⟨-, a0, a1, a2, a3, -⟩, ⟨-, b0, b1, b2, b3, -⟩, ⟨-, c0, c1, c2, c3, -⟩, ⟨-, d0, d1, d2, d3, -⟩⟩ := hSw; go_simp; with_reducible rfl)
  simp only [Act.put, List.setIfInBounds_toArray, List.set_cons_zero, List.set_cons_succ]
  refine wpAnyH_ready (rs := [29]) (by kernel_rfl) (by simp) ?_
  refine AllReadyH.cons rfl (fun K1030 hK1030 => ?_) AllReadyH.nil
  go_simp
  go_wp2_with (go_at_call 18; refine (unhide RO _).mono ?_; rintro e wc1030 ⟨rfl, hb1030⟩)
  refine hK1030.out _ _ ?hs1030 (fun hHeld1030 => ?_)
  case hs1030 => exact s4_call hHeld hb1030
  clear hHeld
  have hHeld := hHeld1030; clear hHeld1030 hK1030 K1030 hb1030
  refine wpAnyH_take (i := 30) (oi := ?oi1031) (v := ?v1031) ?hi1031 (by kernel_rfl) (by kernel_rfl) (by kernel_rfl) (fun _ _ _ h => h) (Or.inl ⟨?hw1031, ?hy1031⟩) (by assumption) ?rest1031
  case hi1031 => (simp only [List.getElem?_toArray, List.getElem?_cons_zero, List.getElem?_cons_succ]; rfl)
  case hw1031 => rfl
  case hy1031 => first | (intro wx hSw; obtain ⟨-, ⟨-, a0, a1, a2, a3, -⟩, ⟨-, b0, b1, b2, b3, -⟩, ⟨-, c0, c1, c2, c3, -⟩, ⟨-, d0, d1, d2, d3, -⟩⟩ := hSw; go_simp; done) | (intro wx hSw; obtain ⟨-, ⟨-, a0, a1, a2, a3, -⟩, ⟨-, b0, b1, b2, b3, -⟩, ⟨-, c0, c1, c2, c3, -⟩, ⟨-, d0, d1, d2, d3, -⟩⟩ := hSw; go_simp; with_reducible rfl)
  simp only [Act.put, List.setIfInBounds_toArray, List.set_cons_zero, List.set_cons_succ]
  refine wpAnyH_take (i := 31) (oi := ?oi1032) (v := ?v1032) ?hi1032 (by kernel_rfl) (by kernel_rfl) (by kernel_rfl) (fun _ _ _ h => h) (Or.inl ⟨?hw1032, ?hy1032⟩) (by assumption) ?rest1032
  case hi1032 => (simp only [List.getElem?_toArray, List.getElem?_cons_zero, List.getElem?_cons_succ]; rfl)
  case hw1032 => rfl
  case hy1032 => first | (intro wx hSw; obtain ⟨-, ⟨-, a0, a1, a2, a3, -⟩, ⟨-, b0, b1, b2, b3, -⟩, ⟨-, c0, c1, c2, c3, -⟩, ⟨-, d0, d1, d2, d3, -⟩⟩ := hSw; go_simp; done) | (intro wx hSw; obtain ⟨-, ⟨-, a0, a1, a2, a3, -⟩, ⟨-, b0, b1, b2, b3, -⟩, ⟨-, c0, c1, c2, c3, -⟩, ⟨-, d0, d1, d2, d3, -⟩⟩ := hSw; go_simp; with_reducible rfl)
  simp only [Act.put, List.setIfInBounds_toArray, List.set_cons_zero, List.set_cons_succ]
  refine wpAnyH_take (i := 32) (oi := ?oi1033) (v := ?v1033) ?hi1033 (by kernel_rfl) (by kernel_rfl) (by kernel_rfl) (fun _ _ _ h => h) (Or.inl ⟨?hw1033, ?hy1033⟩) (by assumption) ?rest1033
  case hi1033 => (simp only [List.getElem?_toArray, List.getElem?_cons_zero, List.getElem?_cons_succ]; rfl)
  case hw1033 => rfl
  case hy1033 => first | (intro wx hSw; obtain ⟨-, ⟨-, a0, a1, a2, a3, -⟩, ⟨-, b0, b1, b2, b3, -⟩, ⟨-, c0, c1, c2, c3, -⟩, ⟨-, d0, d1, d2, d3, -⟩⟩ := hSw; go_simp; done) | (intro wx hSw; obtain ⟨-, ⟨-, a0, a1, a2, a3, -⟩, ⟨-, b0, b1, b2, b3, -⟩, ⟨-, c0, c1, c2, c3, -⟩, ⟨-, d0, d1, d2, d3, -⟩⟩ := hSw; go_simp; with_reducible rfl)
  simp only [Act.put, List.setIfInBounds_toArray, List.set_cons_zero, List.set_cons_succ]
  refine wpAnyH_take (i := 33) (oi := ?oi1034) (v := ?v1034) ?hi1034 (by kernel_rfl) (by kernel_rfl) (by kernel_rfl) (fun _ _ _ h => h) (Or.inl ⟨?hw1034, ?hy1034⟩) (by assumption) ?rest1034
  case hi1034 => (simp only [List.getElem?_toArray, List.getElem?_cons_zero, List.getElem?_cons_succ]; rfl)
  case hw1034 => rfl
  case hy1034 => first | (intro wx hSw; obtain ⟨-, ⟨-, a0, a1, a2, a3, -⟩, ⟨-, b0, b1, b2, b3, -⟩, ⟨-, c0, c1, c2, c3, -⟩, ⟨-, d0, d1, d2, d3, -⟩⟩ := hSw; go_simp; done) | (intro wx hSw; obtain ⟨-, ⟨-, a0, a1, a2, a3, -⟩, ⟨-, b0, b1, b2, b3, -⟩, ⟨-, c0, c1, c2, c3, -⟩, ⟨-, d0, d1, d2, d3, -⟩⟩ := hSw; go_simp; with_reducible rfl)
  simp only [Act.put, List.setIfInBounds_toArray, List.set_cons_zero, List.set_cons_succ]
  refine wpAnyH_done (by kernel_rfl) ?_ _
  refine NoPanic.normal ?_
  refine hrest _ _ ?_
  go_wp2_with fail
  go_ret
  exact ⟨rfl, hHeld.1⟩

theorem keyInts_walk (a b c scale : Int) (wa : (Lit.int .i64 a).wf = true) (wb : (Lit.int .i64 b).wf = true) (wc : (Lit.int .i64 c).wf = true) (ws : (Lit.int .i64 scale).wf = true) (w : World) :
    Calls Try.prog 6 #[.int .i64 a, .int .i64 b, .int .i64 c, .int .i64 scale] w fun e w' => e = .returned (.bool true) ∧ Below w.heap.size w w' := by
  have ha := is64_lit wa
  have hb := is64_lit wb
  have hc := is64_lit wc
  have hs := is64_lit ws
  have hq := tdiv_bd hs 7 (by decide)
  have OD : Ok 3 (normN (c % 2000001 - 1000000) (scale % 7)) (normC (c % 2000001 - 1000000) (scale % 7)) ⟨#[]⟩ := ok_dec (by omega) (by omega) (by omega)
  have OE : Ok 3 (normN (a % 2001 - 1000) (scale.tdiv 7 % 4)) (normC (a % 2001 - 1000) (scale.tdiv 7 % 4)) ⟨#[]⟩ := ok_dec (by omega) (by omega) (by omega)
  have OX := ok_int ha
  have OY := ok_int hb
  have nn : ∀ n s, nN 3 n s = normN n s ∧ nS 3 n s = normC n s := fun n s => ⟨if_pos rfl, if_pos rfl⟩
  refine ints_walk a b c scale (c % 2000001) (scale % 7) (a % 2001) (scale.tdiv 7 % 4) _ _ _ _ _ _ _ _ _ w (by omega) (by omega)
    (fun W => within2_any c 2000001 W hc (by decide)) (fun W => within2_any scale 7 W hs (by decide)) (fun W => within2_any a 2001 W ha (by decide)) (fun W => within2_any _ 4 W hq (by decide)) (IntWalk.i64_in _ (by unfold Is64 at hq; omega))
    (fun W => by have := rnorm_any 3 (c % 2000001 - 1000000) (scale % 7) ⟨#[]⟩ W (by unfold Is64; omega) (by unfold Is64; omega); rw [(nn _ _).1, (nn _ _).2] at this; exact this)
    (fun W => by have := rnorm_any 3 (a % 2001 - 1000) (scale.tdiv 7 % 4) ⟨#[]⟩ W (by unfold Is64; omega) (by unfold Is64; omega); rw [(nn _ _).1, (nn _ _).2] at this; exact this)
    (fun W => key_any 2 a 0 ⟨#[]⟩ W OX) (fun W => key_any 2 b 0 ⟨#[]⟩ W OY) (fun W => key_any _ _ _ _ W OD) (fun W => key_any _ _ _ _ W OE)
    (fun W => rorder_any _ _ _ _ _ _ _ _ W (ok_dec_in OD) (ok_dec_in OE)) ?_ ?_ ?_ (keyB_less OD OE)
  · rw [keyB_less OX OY]
    have e : rordV 2 a 0 ⟨#[]⟩ 2 b 0 ⟨#[]⟩ = cmpI a b := by unfold rordV; rw [cmpI_same, if_neg (by simp), if_pos (by simp)]
    rw [e]
    exact decide_eq_decide.2 (by rcases cmpI_cases a b with ⟨g1, g2⟩ | ⟨g1, g2⟩ | ⟨g1, g2⟩ <;> omega)
  · rw [keyB_len]; simp [keyN, beK_len]
  · rw [keyB_len]; simp [keyN, beK_len]
end Go.Proofs.Ytbpjejjbgdikdaa
