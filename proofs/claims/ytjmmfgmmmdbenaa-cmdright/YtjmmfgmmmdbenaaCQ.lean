/-
  Package cmd's layout of form 1: what it returns.
-/
import Derived.Test.YtjmmfgmmmdbenaaCQ0
namespace Go.Proofs.Ytjmmfgmmmdbenaa
open Go.RowKit
set_option linter.unusedSimpArgs false
set_option linter.unusedVariables false

set_option maxRecDepth 100000 in
set_option maxHeartbeats 40000000 in
theorem layoutOne_any (w : World) : Calls Try.prog 38 #[] w fun e w' => ∃ K1 p1 K2 p2, e = .returned (Cv (Fv K1 p1) (Fv K2 p2)) ∧ PutsR (Fv K1 p1) (w.heap.size + 1) w' layCm DP enc1 ∧ TakesR (Fv K2 p2) (w.heap.size + 1) w' layTCm (fun c => c = zC) C1Q DT1 enc1 (fun _ _ => True) C1M ∧ Below w.heap.size w w' := by
  go_enter Try.func38, Try.ntmps38
  go_wp2_with (go_at_call 47; refine (fixedC_any _ _).mono ?_; rintro e X0 ⟨szb, rfl, ⟨hsz, lsz⟩, hb0⟩; have hrb := (Blk.new w #[.nilFunc, .nilFunc] 52).below hb0)
  rename_i KK hrest
  have z0 := hb0.size
  simp only [World.size_alloc] at z0 lsz
  have hbX : Below X0.heap.size X0 (X0.alloc (.cells #[Fv 65 #[ptr szb 0], Fv 66 #[ptr szb 0]] 77)).drew := (below_new _ _).drew
  have HS : Blk X0.heap.size #[Fv 65 #[ptr szb 0], Fv 66 #[ptr szb 0]] 77 (X0.alloc (.cells #[Fv 65 #[ptr szb 0], Fv 66 #[ptr szb 0]] 77)).drew := Blk.new X0 _ _
  have hsvl := HS.lt
  refine wp_region_noPanic ?_
  refine wp_region_held_drew (S := (fun X => Blk X0.heap.size #[Fv 65 #[ptr szb 0], Fv 66 #[ptr szb 0]] 77 X)) (by kernel_rfl) (HS) (fun hHeld => ?_)
  generalize (X0.alloc (.cells #[Fv 65 #[ptr szb 0], Fv 66 #[ptr szb 0]] 77)).drew = Xs at *
  have HW0 : Hid (Below w.heap.size w Xs) := ((below_new w _).trans (hb0.mono (by simp))).trans (hbX.mono (by omega))
  replace hsz := hsz.below hbX
  replace hrb := hrb.below hbX
  have HRB0 := hide hrb
  clear HS hb0 hbX hrb
  have hsv0 : w.heap.size + 1 ≤ X0.heap.size := z0
  generalize X0.heap.size = sv at *
  have REST : Hid (∀ (ac : Act) (X : World) (vb bk k0 k1 bv v0 v1 g0 g1 gp a0 : Nat), ac = ⟨#[ptr w.heap.size 0, ptr sv 0, ptr vb 0, ac.tmps.getD 3 undef, ac.tmps.getD 4 undef, ac.tmps.getD 5 undef, ac.tmps.getD 6 undef, ac.tmps.getD 7 undef, ac.tmps.getD 8 undef, ac.tmps.getD 9 undef, ac.tmps.getD 10 undef, ac.tmps.getD 11 undef, ac.tmps.getD 12 undef, ac.tmps.getD 13 undef, ac.tmps.getD 14 undef, ac.tmps.getD 15 undef, ac.tmps.getD 16 undef, ac.tmps.getD 17 undef, ac.tmps.getD 18 undef, ac.tmps.getD 19 undef, ac.tmps.getD 20 undef, ac.tmps.getD 21 undef], []⟩ → Below Xs.heap.size Xs X → Blk sv #[Fv 65 #[ptr szb 0], Fv 66 #[ptr szb 0]] 77 X → W1B szb bk k0 k1 bv v0 v1 g0 g1 gp a0 X → Blk vb #[.nilFunc, .nilFunc] 82 X → (w.heap.size + 1 ≤ szb ∧ w.heap.size + 1 ≤ bk ∧ w.heap.size + 1 ≤ k0 ∧ w.heap.size + 1 ≤ k1 ∧ w.heap.size + 1 ≤ bv ∧ w.heap.size + 1 ≤ v0 ∧ w.heap.size + 1 ≤ v1 ∧ w.heap.size + 1 ≤ g0 ∧ w.heap.size + 1 ≤ g1 ∧ w.heap.size + 1 ≤ gp ∧ w.heap.size + 1 ≤ a0 ∧ w.heap.size + 1 ≤ vb) →
      KK ac ((X.setCell ⟨vb, 0, none⟩ (Fv 67 #[ptr a0 0])).setCell ⟨vb, 1, none⟩ (Fv 68 #[ptr a0 0]))) := by
    intro ac X vb bk k0 k1 bv v0 v1 g0 g1 gp a0 ha hbl hsvX HWX hvb hl
    obtain ⟨u, rfl⟩ : ∃ u : Nat → Value, ac = ⟨#[ptr w.heap.size 0, ptr sv 0, ptr vb 0, u 3, u 4, u 5, u 6, u 7, u 8, u 9, u 10, u 11, u 12, u 13, u 14, u 15, u 16, u 17, u 18, u 19, u 20, u 21], []⟩ := ⟨fun i => ac.tmps.getD i undef, ha⟩
    clear ha
    refine hrest _ _ ?_
    clear hrest
    have HW1 := HWX.set2 (x := Fv 67 #[ptr a0 0]) (y := Fv 68 #[ptr a0 0]) hvb
    have HSV := hide (hsvX.set2 (x := Fv 67 #[ptr a0 0]) (y := Fv 68 #[ptr a0 0]) (hsvX.ne hvb (by simp)))
    have HVB := hide (hvb.two (x := Fv 67 #[ptr a0 0]) (y := Fv 68 #[ptr a0 0]))
    have hrbX : Blk w.heap.size #[.nilFunc, .nilFunc] 52 X := (unhide HRB0).below hbl
    have HRB := hide (hrbX.set2 (x := Fv 67 #[ptr a0 0]) (y := Fv 68 #[ptr a0 0]) (by omega : w.heap.size ≠ vb))
    have HBW : Hid (Below w.heap.size w ((X.setCell ⟨vb, 0, none⟩ (Fv 67 #[ptr a0 0])).setCell ⟨vb, 1, none⟩ (Fv 68 #[ptr a0 0]))) := Below.set2 (Below.onto (unhide HW0) hbl) (by omega)
    have hszF := set2_size X vb (Fv 67 #[ptr a0 0]) (Fv 68 #[ptr a0 0])
    have hvl := hvb.lt
    generalize (X.setCell ⟨vb, 0, none⟩ (Fv 67 #[ptr a0 0])).setCell ⟨vb, 1, none⟩ (Fv 68 #[ptr a0 0]) = Y at *
    have HWY := hide HW1
    clear HWX hvb hsvX HW1 hrbX hbl
    go_wp2
    rename_i hrest
    have hYd : Below Y.heap.size Y Y.drew := (Below.refl _ _).drew
    refine wp_region_noPanic ?_
    refine wp_region_held_drew (S := (fun X => Blk sv #[Fv 65 #[ptr szb 0], Fv 66 #[ptr szb 0]] 77 X ∧ Blk vb #[Fv 67 #[ptr a0 0], Fv 68 #[ptr a0 0]] 82 X)) (by kernel_rfl) (⟨(unhide HSV).below (Below.refl _ _).drew, (unhide HVB).below (Below.refl _ _).drew⟩) (fun hHeld => ?_)
    generalize Y.drew = Yd at *
    have yd := hYd.size
    have HRBd := hide ((unhide HRB).below hYd)
    refine wpAnyH_take (i := 2) (oi := ?oi20065) (v := ?v20065) ?hi20065 (by kernel_rfl) (by kernel_rfl) (by kernel_rfl) (fun _ _ _ h => h) (Or.inl ⟨?hw20065, ?hy20065⟩) (by assumption) ?rest20065
    case hi20065 => (simp only [List.getElem?_toArray, List.getElem?_cons_zero, List.getElem?_cons_succ]; rfl)
    case hw20065 => rfl
    case hy20065 => first | (intro wx hSw; obtain ⟨hw1, hw2⟩ := hSw; have hs0 := hw1.cell 0; have hs1 := hw1.cell 1; have hs2 := hw2.cell 0; have hs3 := hw2.cell 1; simp at hs0 hs1 hs2 hs3; go_simp; done) | (intro wx hSw; obtain ⟨hw1, hw2⟩ := hSw; have hs0 := hw1.cell 0; have hs1 := hw1.cell 1; have hs2 := hw2.cell 0; have hs3 := hw2.cell 1; simp at hs0 hs1 hs2 hs3; go_simp; with_reducible rfl)
    simp only [Act.put, List.setIfInBounds_toArray, List.set_cons_zero, List.set_cons_succ]
    refine wpAnyH_take (i := 3) (oi := ?oi20066) (v := ?v20066) ?hi20066 (by kernel_rfl) (by kernel_rfl) (by kernel_rfl) (fun _ _ _ h => h) (Or.inl ⟨?hw20066, ?hy20066⟩) (by assumption) ?rest20066
    case hi20066 => (simp only [List.getElem?_toArray, List.getElem?_cons_zero, List.getElem?_cons_succ]; rfl)
    case hw20066 => rfl
    case hy20066 => first | (intro wx hSw; obtain ⟨hw1, hw2⟩ := hSw; have hs0 := hw1.cell 0; have hs1 := hw1.cell 1; have hs2 := hw2.cell 0; have hs3 := hw2.cell 1; simp at hs0 hs1 hs2 hs3; go_simp; done) | (intro wx hSw; obtain ⟨hw1, hw2⟩ := hSw; have hs0 := hw1.cell 0; have hs1 := hw1.cell 1; have hs2 := hw2.cell 0; have hs3 := hw2.cell 1; simp at hs0 hs1 hs2 hs3; go_simp; with_reducible rfl)
    simp only [Act.put, List.setIfInBounds_toArray, List.set_cons_zero, List.set_cons_succ]
    refine wpAnyH_ready (rs := [0]) (by kernel_rfl) (by simp) ?_
    refine AllReadyH.cons rfl (fun K20067 hK20067 => ?_) AllReadyH.nil
    go_simp
    go_wp2_with (go_at_call 47; refine (fixedC_any _ _).mono ?_; rintro e Y1 ⟨f8, rfl, ⟨hf8, lf8⟩, hc1⟩)
    refine hK20067.out _ _ ?hs20067 (fun hHeld20067 => ?_)
    case hs20067 => exact ⟨hHeld.1.below hc1, hHeld.2.below hc1⟩
    clear hHeld
    have hHeld := hHeld20067; clear hHeld20067 hK20067 K20067
    have y1 := hc1.size
    have HN1 := hide (fun V (hV : SameFrom (w.heap.size + 1) Y1 V) => fixPuts 8 f8 V (by omega) ((hf8.sf (by omega) hV).cell 0))
    have HN2 := hide (fun V (hV : SameFrom (w.heap.size + 1) Y1 V) => fixTakes 8 f8 V (by omega) ((hf8.sf (by omega) hV).cell 0))
    refine wpAnyH_ready (rs := [1]) (by kernel_rfl) (by simp) ?_
    refine AllReadyH.cons rfl (fun K20068 hK20068 => ?_) AllReadyH.nil
    go_simp
    go_wp2_with (go_at_call 57; refine (head_any 49 _ _ _ _ (w.heap.size + 1) Y1 (by omega) _ _ _ _ (unhide HN1) (unhide HN2)).mono ?_; rintro e Y2 ⟨Kh, ph, Kg, pg, rfl, hHP, hHT, hc2⟩)
    refine hK20068.out _ _ ?hs20068 (fun hHeld20068 => ?_)
    case hs20068 => exact ⟨hHeld.1.below hc2, hHeld.2.below hc2⟩
    clear hHeld
    have hHeld := hHeld20068; clear hHeld20068 hK20068 K20068
    refine wpAnyH_ready (rs := [4]) (by kernel_rfl) (by simp) ?_
    refine AllReadyH.cons rfl (fun K20069 hK20069 => ?_) AllReadyH.nil
    go_simp
    go_wp2_with (go_at_call 59; refine (listC_any _ _ _ _ _ _ _ _ _).mono ?_; rintro e Y3 ⟨l0, l1, rfl, ⟨hl0, ll0⟩, ⟨hl1, ll1⟩, hc3⟩)
    refine hK20069.out _ _ ?hs20069 (fun hHeld20069 => ?_)
    case hs20069 => exact ⟨hHeld.1.below hc3, hHeld.2.below hc3⟩
    clear hHeld
    have hHeld := hHeld20069; clear hHeld20069 hK20069 K20069
    refine wpAnyH_ready (rs := [5]) (by kernel_rfl) (by simp) ?_
    refine AllReadyH.cons rfl (fun K20070 hK20070 => ?_) AllReadyH.nil
    go_simp
    go_wp2_with (go_at_call 58; refine (partCmdWritesC_any _ _ _ _ _ _).mono ?_; rintro e Y4 ⟨w0_, w1_, rfl, ⟨hw0, lw0⟩, ⟨⟨Tw, hw1⟩, lw1⟩, hc4⟩)
    refine hK20070.out _ _ ?hs20070 (fun hHeld20070 => ?_)
    case hs20070 => exact ⟨hHeld.1.below hc4, hHeld.2.below hc4⟩
    clear hHeld
    have hHeld := hHeld20070; clear hHeld20070 hK20070 K20070
    refine wpAnyH_ready (rs := [6]) (by kernel_rfl) (by simp) ?_
    refine AllReadyH.cons rfl (fun K20071 hK20071 => ?_) AllReadyH.nil
    go_simp
    refine hK20071.out _ _ ?hs20071 (fun hHeld20071 => ?_)
    case hs20071 => exact ⟨hHeld.1.below (below_new Y4 (.cells #[Fv Kh ph, Fv Kg pg, Fv 87 #[ptr w0_ 0, ptr w1_ 0], Fv 88 #[ptr w0_ 0, ptr w1_ 0]] 52)), hHeld.2.below (below_new Y4 (.cells #[Fv Kh ph, Fv Kg pg, Fv 87 #[ptr w0_ 0, ptr w1_ 0], Fv 88 #[ptr w0_ 0, ptr w1_ 0]] 52))⟩
    clear hHeld
    have hHeld := hHeld20071; clear hHeld20071 hK20071 K20071
    have hgp2 := Blk.new Y4 #[Fv Kh ph, Fv Kg pg, Fv 87 #[ptr w0_ 0, ptr w1_ 0], Fv 88 #[ptr w0_ 0, ptr w1_ 0]] 52
    have hc5 := below_new Y4 (.cells #[Fv Kh ph, Fv Kg pg, Fv 87 #[ptr w0_ 0, ptr w1_ 0], Fv 88 #[ptr w0_ 0, ptr w1_ 0]] 52)
    generalize hX : Y4.alloc (.cells #[Fv Kh ph, Fv Kg pg, Fv 87 #[ptr w0_ 0, ptr w1_ 0], Fv 88 #[ptr w0_ 0, ptr w1_ 0]] 52) = Y5 at *
    clear hX
    refine wpAnyH_ready (rs := [7]) (by kernel_rfl) (by simp) ?_
    refine AllReadyH.cons rfl (fun K20072 hK20072 => ?_) AllReadyH.nil
    go_simp
    go_wp2_with (go_at_call 56; refine (allCmdC_any _ _ _ _).mono ?_; rintro e Y6 ⟨a1, rfl, ⟨ha1, la1⟩, hc6⟩)
    refine hK20072.out _ _ ?hs20072 (fun hHeld20072 => ?_)
    case hs20072 => exact ⟨hHeld.1.below hc6, hHeld.2.below hc6⟩
    clear hHeld
    have hHeld := hHeld20072; clear hHeld20072 hK20072 K20072
    have d6 := hc6
    have d5 := Below.onto hc5 d6
    have d4 := Below.onto hc4 d5
    have d3 := Below.onto hc3 d4
    have d2 := Below.onto hc2 d3
    have d1 := Below.onto hc1 d2
    have hr9 : Blk w.heap.size #[.nilFunc, .nilFunc] 52 Y6 := (unhide HRBd).below d1
    have hq0 := hr9.cell 0
    have hq1 := hr9.cell 1
    have hz0 := hr9.froz 0
    have hz1 := hr9.froz 1
    simp at hq0 hq1
    refine wpAnyH_ready (rs := [8]) (by kernel_rfl) (by simp) ?_
    refine AllReadyH.cons rfl (fun K20073 hK20073 => ?_) AllReadyH.nil
    go_simp
    refine hK20073.out _ _ ?hs20073 (fun hHeld20073 => ?_)
    case hs20073 => exact ⟨hHeld.1.set2 (by omega), hHeld.2.set2 (by omega)⟩
    clear hHeld
    have hHeld := hHeld20073; clear hHeld20073 hK20073 K20073
    refine wpAnyH_done (by kernel_rfl) ?_ _
    refine NoPanic.normal ?_
    refine hrest _ _ ?_
    clear hHeld
    have hfin := hr9.two (x := Fv 78 #[ptr a1 0]) (y := Fv 79 #[ptr a1 0])
    have hn0 := hfin.cell 0
    have hn1 := hfin.cell 1
    simp at hn0 hn1
    have y2 := hc2.size
    have y3 := hc3.size
    have y4 := hc4.size
    have y5 := hc5.size
    have y6 := hc6.size
    have hset : SameFrom (w.heap.size + 1) Y6 ((Y6.setCell ⟨w.heap.size, 0, none⟩ (Fv 78 #[ptr a1 0])).setCell ⟨w.heap.size, 1, none⟩ (Fv 79 #[ptr a1 0])) := (SameFrom.set (by omega)).trans (SameFrom.set (by omega))
    have hsfY : SameFrom (w.heap.size + 1) Y ((Y6.setCell ⟨w.heap.size, 0, none⟩ (Fv 78 #[ptr a1 0])).setCell ⟨w.heap.size, 1, none⟩ (Fv 79 #[ptr a1 0])) := (SameFrom.of_below (Below.onto hYd d1)).trans hset
    have hsf2 : SameFrom (w.heap.size + 1) Y2 ((Y6.setCell ⟨w.heap.size, 0, none⟩ (Fv 78 #[ptr a1 0])).setCell ⟨w.heap.size, 1, none⟩ (Fv 79 #[ptr a1 0])) := (SameFrom.of_below d3).trans hset
    have HWF := hide ((unhide HWY).sf (n := w.heap.size + 1) (by omega) hsfY)
    have HL : Hid (L1B (w.heap.size + 1) Kh Kg ph pg szb a0 l0 l1 w0_ w1_ Y4.heap.size a1 ((Y6.setCell ⟨w.heap.size, 0, none⟩ (Fv 78 #[ptr a1 0])).setCell ⟨w.heap.size, 1, none⟩ (Fv 79 #[ptr a1 0]))) :=
      ⟨(unhide HWF).hsz, (hl0.below d4).set2 (by omega), (hl1.below d4).set2 (by omega), (hw0.below d5).set2 (by omega), ⟨_, (hw1.below d5).set2 (by omega)⟩, (hgp2.below d6).set2 (by omega), ha1.set2 (by omega)⟩
    have HHP := hide (hHP.on hsf2)
    have HHT := hide (hHT.on hsf2)
    have HBF : Hid (Below w.heap.size w ((Y6.setCell ⟨w.heap.size, 0, none⟩ (Fv 78 #[ptr a1 0])).setCell ⟨w.heap.size, 1, none⟩ (Fv 79 #[ptr a1 0]))) := Below.set2 (Below.onto (Below.onto (unhide HBW) hYd) d1) (Nat.le_refl _)
    clear hHP hHT
    go_wp2_with fail
    refine bodyPost_ret (v := Cv (Fv 78 #[ptr a1 0]) (Fv 79 #[ptr a1 0])) (by simp [results, Try.results38, go_sem, hn0, hn1]) rfl ?_
    exact ⟨_, _, _, _, rfl, fun V hV => ((unhide HL).sf (by omega) hV).puts (unhide HHP V hV) (unhide HHT V hV).fn ((unhide HWF).sf (n := w.heap.size + 1) (by omega) hV).puts, fun V hV => ((unhide HL).sf (by omega) hV).takes (unhide HHP V hV).fn (unhide HHT V hV) ((unhide HWF).sf (n := w.heap.size + 1) (by omega) hV).takes, unhide HBF⟩
  clear hrest
  refine wpAnyH_take (i := 0) (oi := ?oi20001) (v := ?v20001) ?hi20001 (by kernel_rfl) (by kernel_rfl) (by kernel_rfl) (fun _ _ _ h => h) (Or.inl ⟨?hw20001, ?hy20001⟩) (by assumption) ?rest20001
  case hi20001 => (simp only [List.getElem?_toArray, List.getElem?_cons_zero]; rfl)
  case hw20001 => rfl
  case hy20001 => first | (intro wx hSw; have hs0 := hSw.cell 0; have hs1 := hSw.cell 1; simp at hs0 hs1; go_simp; done) | (intro wx hSw; have hs0 := hSw.cell 0; have hs1 := hSw.cell 1; simp at hs0 hs1; go_simp; with_reducible rfl)
  simp only [Act.put, List.setIfInBounds_toArray, List.set_cons_zero, List.set_cons_succ]
  refine wpAnyH_take (i := 3) (oi := ?oi20002) (v := ?v20002) ?hi20002 (by kernel_rfl) (by kernel_rfl) (by kernel_rfl) (fun _ _ _ h => h) (Or.inl ⟨?hw20002, ?hy20002⟩) (by assumption) ?rest20002
  case hi20002 => (simp only [List.getElem?_toArray, List.getElem?_cons_zero, List.getElem?_cons_succ]; rfl)
  case hw20002 => rfl
  case hy20002 => first | (intro wx hSw; have hs0 := hSw.cell 0; have hs1 := hSw.cell 1; simp at hs0 hs1; go_simp; done) | (intro wx hSw; have hs0 := hSw.cell 0; have hs1 := hSw.cell 1; simp at hs0 hs1; go_simp; with_reducible rfl)
  simp only [Act.put, List.setIfInBounds_toArray, List.set_cons_zero, List.set_cons_succ]
  refine wpAnyH_ready (rs := [1, 10]) (by kernel_rfl) (by simp) ?_
  refine AllReadyH.cons rfl (fun K20003 hK20003 => ?_) ?_
  · go_simp
    go_wp2_with (go_at_call 50; refine (textC_any _ _ _ _ _).mono ?_; rintro e X1_ ⟨bk, rfl, ⟨hbk, lbk⟩, hb1_⟩)
    refine hK20003.out _ _ ?hs20003 (fun hHeld20003 => ?_)
    case hs20003 => exact hHeld.below hb1_
    clear hHeld
    have hHeld := hHeld20003; clear hHeld20003 hK20003 K20003
    refine wpAnyH_ready (rs := [2, 10]) (by kernel_rfl) (by simp) ?_
    refine AllReadyH.cons rfl (fun K20004 hK20004 => ?_) ?_
    · go_simp
      go_wp2_with (go_at_call 49; refine (partWritestringC_any _ _ _ _ _ _).mono ?_; rintro e X2_ ⟨k0, k1, rfl, ⟨hk0, lk0⟩, ⟨⟨Tk, hk1⟩, lk1⟩, hb2_⟩)
      refine hK20004.out _ _ ?hs20004 (fun hHeld20004 => ?_)
      case hs20004 => exact hHeld.below hb2_
      clear hHeld
      have hHeld := hHeld20004; clear hHeld20004 hK20004 K20004
      refine wpAnyH_ready (rs := [4, 10]) (by kernel_rfl) (by simp) ?_
      refine AllReadyH.cons rfl (fun K20005 hK20005 => ?_) ?_
      · go_simp
        go_wp2_with (go_at_call 50; refine (textC_any _ _ _ _ _).mono ?_; rintro e X3_ ⟨bv, rfl, ⟨hbv, lbv⟩, hb3_⟩)
        refine hK20005.out _ _ ?hs20005 (fun hHeld20005 => ?_)
        case hs20005 => exact hHeld.below hb3_
        clear hHeld
        have hHeld := hHeld20005; clear hHeld20005 hK20005 K20005
        refine wpAnyH_ready (rs := [5, 10]) (by kernel_rfl) (by simp) ?_
        refine AllReadyH.cons rfl (fun K20006 hK20006 => ?_) ?_
        · go_simp
          go_wp2_with (go_at_call 49; refine (partWritestringC_any _ _ _ _ _ _).mono ?_; rintro e X4_ ⟨v0, v1, rfl, ⟨hv0, lv0⟩, ⟨⟨Tv, hv1⟩, lv1⟩, hb4_⟩)
          refine hK20006.out _ _ ?hs20006 (fun hHeld20006 => ?_)
          case hs20006 => exact hHeld.below hb4_
          clear hHeld
          have hHeld := hHeld20006; clear hHeld20006 hK20006 K20006
          refine wpAnyH_ready (rs := [6, 10]) (by kernel_rfl) (by simp) ?_
          refine AllReadyH.cons rfl (fun K20007 hK20007 => ?_) ?_
          · go_simp
            go_wp2_with (go_at_call 54; refine (flagC_any _).mono ?_; rintro e X5_ ⟨rfl, hb5_⟩)
            refine hK20007.out _ _ ?hs20007 (fun hHeld20007 => ?_)
            case hs20007 => exact hHeld.below hb5_
            clear hHeld
            have hHeld := hHeld20007; clear hHeld20007 hK20007 K20007
            refine wpAnyH_ready (rs := [7, 10]) (by kernel_rfl) (by simp) ?_
            refine AllReadyH.cons rfl (fun K20008 hK20008 => ?_) ?_
            · go_simp
              go_wp2_with (go_at_call 53; refine (partWriteboolC_any _ _ _ _ _ _).mono ?_; rintro e X6_ ⟨g0, g1, rfl, ⟨hg0, lg0⟩, ⟨⟨Tg, hg1⟩, lg1⟩, hb6_⟩)
              refine hK20008.out _ _ ?hs20008 (fun hHeld20008 => ?_)
              case hs20008 => exact hHeld.below hb6_
              clear hHeld
              have hHeld := hHeld20008; clear hHeld20008 hK20008 K20008
              refine wpAnyH_ready (rs := [8, 10]) (by kernel_rfl) (by simp) ?_
              refine AllReadyH.cons rfl (fun K20009 hK20009 => ?_) ?_
              · go_simp
                refine hK20009.out _ _ ?hs20009 (fun hHeld20009 => ?_)
                case hs20009 => exact hHeld.below (below_new X6_ (.cells #[Fv 69 #[ptr k0 0, ptr k1 0], Fv 70 #[ptr k0 0, ptr k1 0], Fv 69 #[ptr v0 0, ptr v1 0], Fv 70 #[ptr v0 0, ptr v1 0], Fv 74 #[ptr g0 0, ptr g1 0], Fv 75 #[ptr g0 0, ptr g1 0]] 82))
                clear hHeld
                have hHeld := hHeld20009; clear hHeld20009 hK20009 K20009
                have hgp := Blk.new X6_ #[Fv 69 #[ptr k0 0, ptr k1 0], Fv 70 #[ptr k0 0, ptr k1 0], Fv 69 #[ptr v0 0, ptr v1 0], Fv 70 #[ptr v0 0, ptr v1 0], Fv 74 #[ptr g0 0, ptr g1 0], Fv 75 #[ptr g0 0, ptr g1 0]] 82
                have hb7_ := below_new X6_ (.cells #[Fv 69 #[ptr k0 0, ptr k1 0], Fv 70 #[ptr k0 0, ptr k1 0], Fv 69 #[ptr v0 0, ptr v1 0], Fv 70 #[ptr v0 0, ptr v1 0], Fv 74 #[ptr g0 0, ptr g1 0], Fv 75 #[ptr g0 0, ptr g1 0]] 82)
                obtain ⟨gp, egp⟩ : ∃ g, g = X6_.heap.size := ⟨_, rfl⟩
                rw [← egp] at hgp
                have lgp : X6_.heap.size ≤ gp := Nat.le_of_eq egp.symm
                generalize hX : X6_.alloc (.cells #[Fv 69 #[ptr k0 0, ptr k1 0], Fv 70 #[ptr k0 0, ptr k1 0], Fv 69 #[ptr v0 0, ptr v1 0], Fv 70 #[ptr v0 0, ptr v1 0], Fv 74 #[ptr g0 0, ptr g1 0], Fv 75 #[ptr g0 0, ptr g1 0]] 82) = X7_ at *
                clear hX
                try rw [← egp]
                clear egp
                refine wpAnyH_ready (rs := [9, 10]) (by kernel_rfl) (by simp) ?_
                refine AllReadyH.cons rfl (fun K20010 hK20010 => ?_) ?_
                · go_simp
                  go_wp2_with (go_at_call 48; refine (allWriteC_any _ _ _ _).mono ?_; rintro e X8_ ⟨a0, rfl, ⟨ha0, la0⟩, hb8_⟩)
                  refine hK20010.out _ _ ?hs20010 (fun hHeld20010 => ?_)
                  case hs20010 => exact hHeld.below hb8_
                  clear hHeld
                  have hHeld := hHeld20010; clear hHeld20010 hK20010 K20010
                  refine wpAnyH_ready (rs := [10]) (by kernel_rfl) (by simp) ?_
                  refine AllReadyH.cons rfl (fun K20011 hK20011 => ?_) AllReadyH.nil
                  go_simp
                  refine hK20011.out _ _ ?hs20011 (fun hHeld20011 => ?_)
                  case hs20011 => exact hHeld.below (below_new X8_ (.cells #[.nilFunc, .nilFunc] 82))
                  clear hHeld
                  have hHeld := hHeld20011; clear hHeld20011 hK20011 K20011
                  have hvb := Blk.new X8_ #[.nilFunc, .nilFunc] 82
                  have hb9_ := below_new X8_ (.cells #[.nilFunc, .nilFunc] 82)
                  generalize hX : X8_.alloc (.cells #[.nilFunc, .nilFunc] 82) = X9_ at *
                  clear hX
                  have lvb : X8_.heap.size < X9_.heap.size := hvb.lt
                  have z0_ := hb1_.size
                  have z1_ := hb2_.size
                  have z2_ := hb3_.size
                  have z3_ := hb4_.size
                  have z4_ := hb5_.size
                  have z5_ := hb6_.size
                  have z6_ := hb7_.size
                  have z7_ := hb8_.size
                  have z8_ := hb9_.size
                  have hvbX : Blk (X8_.heap.size) #[.nilFunc, .nilFunc] 82 X9_ := hvb
                  have hq0 := hvbX.cell 0
                  have hq1 := hvbX.cell 1
                  have hz0 := hvbX.froz 0
                  have hz1 := hvbX.froz 1
                  simp at hq0 hq1
                  have htot : Below Xs.heap.size Xs X9_ := (Below.onto hb1_ (Below.onto hb2_ (Below.onto hb3_ (Below.onto hb4_ (Below.onto hb5_ (Below.onto hb6_ (Below.onto hb7_ (Below.onto hb8_ hb9_))))))))
                  have HW : W1B szb bk k0 k1 bv v0 v1 g0 g1 gp a0 X9_ := ⟨hsz.below htot, (hbk.below (Below.onto hb2_ (Below.onto hb3_ (Below.onto hb4_ (Below.onto hb5_ (Below.onto hb6_ (Below.onto hb7_ (Below.onto hb8_ hb9_)))))))), (hk0.below (Below.onto hb3_ (Below.onto hb4_ (Below.onto hb5_ (Below.onto hb6_ (Below.onto hb7_ (Below.onto hb8_ hb9_))))))), ⟨_, (hk1.below (Below.onto hb3_ (Below.onto hb4_ (Below.onto hb5_ (Below.onto hb6_ (Below.onto hb7_ (Below.onto hb8_ hb9_)))))))⟩, (hbv.below (Below.onto hb4_ (Below.onto hb5_ (Below.onto hb6_ (Below.onto hb7_ (Below.onto hb8_ hb9_)))))), (hv0.below (Below.onto hb5_ (Below.onto hb6_ (Below.onto hb7_ (Below.onto hb8_ hb9_))))), ⟨_, (hv1.below (Below.onto hb5_ (Below.onto hb6_ (Below.onto hb7_ (Below.onto hb8_ hb9_)))))⟩, (hg0.below (Below.onto hb7_ (Below.onto hb8_ hb9_))), ⟨_, (hg1.below (Below.onto hb7_ (Below.onto hb8_ hb9_)))⟩, (hgp.below (Below.onto hb8_ hb9_)), (ha0.below hb9_)⟩
                  have HSS := hide hHeld
                  refine wpAnyH_ready (rs := [11]) (by kernel_rfl) (by simp) ?_
                  refine AllReadyH.cons rfl (fun K20012 hK20012 => ?_) AllReadyH.nil
                  go_simp
                  refine hK20012.out _ _ ?hs20012 (fun hHeld20012 => ?_)
                  case hs20012 => exact hHeld.set2 (hHeld.ne hvbX (by simp))
                  clear hHeld
                  have hHeld := hHeld20012; clear hHeld20012 hK20012 K20012
                  refine wpAnyH_done (by kernel_rfl) ?_ _
                  refine NoPanic.normal ?_
                  skip
                  exact unhide REST _ X9_ (X8_.heap.size) bk k0 k1 bv v0 v1 g0 g1 gp a0 (by rfl) htot (unhide HSS) HW hvbX (by omega)
                refine AllReadyH.cons rfl (fun K20013 hK20013 => ?_) AllReadyH.nil
                · go_simp
                  refine hK20013.out _ _ ?hs20013 (fun hHeld20013 => ?_)
                  case hs20013 => exact hHeld.below (below_new X7_ (.cells #[.nilFunc, .nilFunc] 82))
                  clear hHeld
                  have hHeld := hHeld20013; clear hHeld20013 hK20013 K20013
                  have hvb := Blk.new X7_ #[.nilFunc, .nilFunc] 82
                  have hb10_ := below_new X7_ (.cells #[.nilFunc, .nilFunc] 82)
                  generalize hX : X7_.alloc (.cells #[.nilFunc, .nilFunc] 82) = X10_ at *
                  clear hX
                  have lvb : X7_.heap.size < X10_.heap.size := hvb.lt
                  refine wpAnyH_ready (rs := [9]) (by kernel_rfl) (by simp) ?_
                  refine AllReadyH.cons rfl (fun K20014 hK20014 => ?_) AllReadyH.nil
                  go_simp
                  go_wp2_with (go_at_call 48; refine (allWriteC_any _ _ _ _).mono ?_; rintro e X11_ ⟨a0, rfl, ⟨ha0, la0⟩, hb11_⟩)
                  refine hK20014.out _ _ ?hs20014 (fun hHeld20014 => ?_)
                  case hs20014 => exact hHeld.below hb11_
                  clear hHeld
                  have hHeld := hHeld20014; clear hHeld20014 hK20014 K20014
                  have z0_ := hb1_.size
                  have z1_ := hb2_.size
                  have z2_ := hb3_.size
                  have z3_ := hb4_.size
                  have z4_ := hb5_.size
                  have z5_ := hb6_.size
                  have z6_ := hb7_.size
                  have z7_ := hb10_.size
                  have z8_ := hb11_.size
                  have hvbX : Blk (X7_.heap.size) #[.nilFunc, .nilFunc] 82 X11_ := (hvb.below hb11_)
                  have hq0 := hvbX.cell 0
                  have hq1 := hvbX.cell 1
                  have hz0 := hvbX.froz 0
                  have hz1 := hvbX.froz 1
                  simp at hq0 hq1
                  have htot : Below Xs.heap.size Xs X11_ := (Below.onto hb1_ (Below.onto hb2_ (Below.onto hb3_ (Below.onto hb4_ (Below.onto hb5_ (Below.onto hb6_ (Below.onto hb7_ (Below.onto hb10_ hb11_))))))))
                  have HW : W1B szb bk k0 k1 bv v0 v1 g0 g1 gp a0 X11_ := ⟨hsz.below htot, (hbk.below (Below.onto hb2_ (Below.onto hb3_ (Below.onto hb4_ (Below.onto hb5_ (Below.onto hb6_ (Below.onto hb7_ (Below.onto hb10_ hb11_)))))))), (hk0.below (Below.onto hb3_ (Below.onto hb4_ (Below.onto hb5_ (Below.onto hb6_ (Below.onto hb7_ (Below.onto hb10_ hb11_))))))), ⟨_, (hk1.below (Below.onto hb3_ (Below.onto hb4_ (Below.onto hb5_ (Below.onto hb6_ (Below.onto hb7_ (Below.onto hb10_ hb11_)))))))⟩, (hbv.below (Below.onto hb4_ (Below.onto hb5_ (Below.onto hb6_ (Below.onto hb7_ (Below.onto hb10_ hb11_)))))), (hv0.below (Below.onto hb5_ (Below.onto hb6_ (Below.onto hb7_ (Below.onto hb10_ hb11_))))), ⟨_, (hv1.below (Below.onto hb5_ (Below.onto hb6_ (Below.onto hb7_ (Below.onto hb10_ hb11_)))))⟩, (hg0.below (Below.onto hb7_ (Below.onto hb10_ hb11_))), ⟨_, (hg1.below (Below.onto hb7_ (Below.onto hb10_ hb11_)))⟩, (hgp.below (Below.onto hb10_ hb11_)), ha0⟩
                  have HSS := hide hHeld
                  refine wpAnyH_ready (rs := [11]) (by kernel_rfl) (by simp) ?_
                  refine AllReadyH.cons rfl (fun K20015 hK20015 => ?_) AllReadyH.nil
                  go_simp
                  refine hK20015.out _ _ ?hs20015 (fun hHeld20015 => ?_)
                  case hs20015 => exact hHeld.set2 (hHeld.ne hvbX (by simp))
                  clear hHeld
                  have hHeld := hHeld20015; clear hHeld20015 hK20015 K20015
                  refine wpAnyH_done (by kernel_rfl) ?_ _
                  refine NoPanic.normal ?_
                  skip
                  exact unhide REST _ X11_ (X7_.heap.size) bk k0 k1 bv v0 v1 g0 g1 gp a0 (by rfl) htot (unhide HSS) HW hvbX (by omega)
              refine AllReadyH.cons rfl (fun K20016 hK20016 => ?_) AllReadyH.nil
              · go_simp
                refine hK20016.out _ _ ?hs20016 (fun hHeld20016 => ?_)
                case hs20016 => exact hHeld.below (below_new X6_ (.cells #[.nilFunc, .nilFunc] 82))
                clear hHeld
                have hHeld := hHeld20016; clear hHeld20016 hK20016 K20016
                have hvb := Blk.new X6_ #[.nilFunc, .nilFunc] 82
                have hb12_ := below_new X6_ (.cells #[.nilFunc, .nilFunc] 82)
                generalize hX : X6_.alloc (.cells #[.nilFunc, .nilFunc] 82) = X12_ at *
                clear hX
                have lvb : X6_.heap.size < X12_.heap.size := hvb.lt
                refine wpAnyH_ready (rs := [8]) (by kernel_rfl) (by simp) ?_
                refine AllReadyH.cons rfl (fun K20017 hK20017 => ?_) AllReadyH.nil
                go_simp
                refine hK20017.out _ _ ?hs20017 (fun hHeld20017 => ?_)
                case hs20017 => exact hHeld.below (below_new X12_ (.cells #[Fv 69 #[ptr k0 0, ptr k1 0], Fv 70 #[ptr k0 0, ptr k1 0], Fv 69 #[ptr v0 0, ptr v1 0], Fv 70 #[ptr v0 0, ptr v1 0], Fv 74 #[ptr g0 0, ptr g1 0], Fv 75 #[ptr g0 0, ptr g1 0]] 82))
                clear hHeld
                have hHeld := hHeld20017; clear hHeld20017 hK20017 K20017
                have hgp := Blk.new X12_ #[Fv 69 #[ptr k0 0, ptr k1 0], Fv 70 #[ptr k0 0, ptr k1 0], Fv 69 #[ptr v0 0, ptr v1 0], Fv 70 #[ptr v0 0, ptr v1 0], Fv 74 #[ptr g0 0, ptr g1 0], Fv 75 #[ptr g0 0, ptr g1 0]] 82
                have hb13_ := below_new X12_ (.cells #[Fv 69 #[ptr k0 0, ptr k1 0], Fv 70 #[ptr k0 0, ptr k1 0], Fv 69 #[ptr v0 0, ptr v1 0], Fv 70 #[ptr v0 0, ptr v1 0], Fv 74 #[ptr g0 0, ptr g1 0], Fv 75 #[ptr g0 0, ptr g1 0]] 82)
                obtain ⟨gp, egp⟩ : ∃ g, g = X12_.heap.size := ⟨_, rfl⟩
                rw [← egp] at hgp
                have lgp : X12_.heap.size ≤ gp := Nat.le_of_eq egp.symm
                generalize hX : X12_.alloc (.cells #[Fv 69 #[ptr k0 0, ptr k1 0], Fv 70 #[ptr k0 0, ptr k1 0], Fv 69 #[ptr v0 0, ptr v1 0], Fv 70 #[ptr v0 0, ptr v1 0], Fv 74 #[ptr g0 0, ptr g1 0], Fv 75 #[ptr g0 0, ptr g1 0]] 82) = X13_ at *
                clear hX
                try rw [← egp]
                clear egp
                refine wpAnyH_ready (rs := [9]) (by kernel_rfl) (by simp) ?_
                refine AllReadyH.cons rfl (fun K20018 hK20018 => ?_) AllReadyH.nil
                go_simp
                go_wp2_with (go_at_call 48; refine (allWriteC_any _ _ _ _).mono ?_; rintro e X14_ ⟨a0, rfl, ⟨ha0, la0⟩, hb14_⟩)
                refine hK20018.out _ _ ?hs20018 (fun hHeld20018 => ?_)
                case hs20018 => exact hHeld.below hb14_
                clear hHeld
                have hHeld := hHeld20018; clear hHeld20018 hK20018 K20018
                have z0_ := hb1_.size
                have z1_ := hb2_.size
                have z2_ := hb3_.size
                have z3_ := hb4_.size
                have z4_ := hb5_.size
                have z5_ := hb6_.size
                have z6_ := hb12_.size
                have z7_ := hb13_.size
                have z8_ := hb14_.size
                have hvbX : Blk (X6_.heap.size) #[.nilFunc, .nilFunc] 82 X14_ := (hvb.below (Below.onto hb13_ hb14_))
                have hq0 := hvbX.cell 0
                have hq1 := hvbX.cell 1
                have hz0 := hvbX.froz 0
                have hz1 := hvbX.froz 1
                simp at hq0 hq1
                have htot : Below Xs.heap.size Xs X14_ := (Below.onto hb1_ (Below.onto hb2_ (Below.onto hb3_ (Below.onto hb4_ (Below.onto hb5_ (Below.onto hb6_ (Below.onto hb12_ (Below.onto hb13_ hb14_))))))))
                have HW : W1B szb bk k0 k1 bv v0 v1 g0 g1 gp a0 X14_ := ⟨hsz.below htot, (hbk.below (Below.onto hb2_ (Below.onto hb3_ (Below.onto hb4_ (Below.onto hb5_ (Below.onto hb6_ (Below.onto hb12_ (Below.onto hb13_ hb14_)))))))), (hk0.below (Below.onto hb3_ (Below.onto hb4_ (Below.onto hb5_ (Below.onto hb6_ (Below.onto hb12_ (Below.onto hb13_ hb14_))))))), ⟨_, (hk1.below (Below.onto hb3_ (Below.onto hb4_ (Below.onto hb5_ (Below.onto hb6_ (Below.onto hb12_ (Below.onto hb13_ hb14_)))))))⟩, (hbv.below (Below.onto hb4_ (Below.onto hb5_ (Below.onto hb6_ (Below.onto hb12_ (Below.onto hb13_ hb14_)))))), (hv0.below (Below.onto hb5_ (Below.onto hb6_ (Below.onto hb12_ (Below.onto hb13_ hb14_))))), ⟨_, (hv1.below (Below.onto hb5_ (Below.onto hb6_ (Below.onto hb12_ (Below.onto hb13_ hb14_)))))⟩, (hg0.below (Below.onto hb12_ (Below.onto hb13_ hb14_))), ⟨_, (hg1.below (Below.onto hb12_ (Below.onto hb13_ hb14_)))⟩, (hgp.below hb14_), ha0⟩
                have HSS := hide hHeld
                refine wpAnyH_ready (rs := [11]) (by kernel_rfl) (by simp) ?_
                refine AllReadyH.cons rfl (fun K20019 hK20019 => ?_) AllReadyH.nil
                go_simp
                refine hK20019.out _ _ ?hs20019 (fun hHeld20019 => ?_)
                case hs20019 => exact hHeld.set2 (hHeld.ne hvbX (by simp))
                clear hHeld
                have hHeld := hHeld20019; clear hHeld20019 hK20019 K20019
                refine wpAnyH_done (by kernel_rfl) ?_ _
                refine NoPanic.normal ?_
                skip
                exact unhide REST _ X14_ (X6_.heap.size) bk k0 k1 bv v0 v1 g0 g1 gp a0 (by rfl) htot (unhide HSS) HW hvbX (by omega)
            refine AllReadyH.cons rfl (fun K20020 hK20020 => ?_) AllReadyH.nil
            · go_simp
              refine hK20020.out _ _ ?hs20020 (fun hHeld20020 => ?_)
              case hs20020 => exact hHeld.below (below_new X5_ (.cells #[.nilFunc, .nilFunc] 82))
              clear hHeld
              have hHeld := hHeld20020; clear hHeld20020 hK20020 K20020
              have hvb := Blk.new X5_ #[.nilFunc, .nilFunc] 82
              have hb15_ := below_new X5_ (.cells #[.nilFunc, .nilFunc] 82)
              generalize hX : X5_.alloc (.cells #[.nilFunc, .nilFunc] 82) = X15_ at *
              clear hX
              have lvb : X5_.heap.size < X15_.heap.size := hvb.lt
              refine wpAnyH_ready (rs := [7]) (by kernel_rfl) (by simp) ?_
              refine AllReadyH.cons rfl (fun K20021 hK20021 => ?_) AllReadyH.nil
              go_simp
              go_wp2_with (go_at_call 53; refine (partWriteboolC_any _ _ _ _ _ _).mono ?_; rintro e X16_ ⟨g0, g1, rfl, ⟨hg0, lg0⟩, ⟨⟨Tg, hg1⟩, lg1⟩, hb16_⟩)
              refine hK20021.out _ _ ?hs20021 (fun hHeld20021 => ?_)
              case hs20021 => exact hHeld.below hb16_
              clear hHeld
              have hHeld := hHeld20021; clear hHeld20021 hK20021 K20021
              refine wpAnyH_ready (rs := [8]) (by kernel_rfl) (by simp) ?_
              refine AllReadyH.cons rfl (fun K20022 hK20022 => ?_) AllReadyH.nil
              go_simp
              refine hK20022.out _ _ ?hs20022 (fun hHeld20022 => ?_)
              case hs20022 => exact hHeld.below (below_new X16_ (.cells #[Fv 69 #[ptr k0 0, ptr k1 0], Fv 70 #[ptr k0 0, ptr k1 0], Fv 69 #[ptr v0 0, ptr v1 0], Fv 70 #[ptr v0 0, ptr v1 0], Fv 74 #[ptr g0 0, ptr g1 0], Fv 75 #[ptr g0 0, ptr g1 0]] 82))
              clear hHeld
              have hHeld := hHeld20022; clear hHeld20022 hK20022 K20022
              have hgp := Blk.new X16_ #[Fv 69 #[ptr k0 0, ptr k1 0], Fv 70 #[ptr k0 0, ptr k1 0], Fv 69 #[ptr v0 0, ptr v1 0], Fv 70 #[ptr v0 0, ptr v1 0], Fv 74 #[ptr g0 0, ptr g1 0], Fv 75 #[ptr g0 0, ptr g1 0]] 82
              have hb17_ := below_new X16_ (.cells #[Fv 69 #[ptr k0 0, ptr k1 0], Fv 70 #[ptr k0 0, ptr k1 0], Fv 69 #[ptr v0 0, ptr v1 0], Fv 70 #[ptr v0 0, ptr v1 0], Fv 74 #[ptr g0 0, ptr g1 0], Fv 75 #[ptr g0 0, ptr g1 0]] 82)
              obtain ⟨gp, egp⟩ : ∃ g, g = X16_.heap.size := ⟨_, rfl⟩
              rw [← egp] at hgp
              have lgp : X16_.heap.size ≤ gp := Nat.le_of_eq egp.symm
              generalize hX : X16_.alloc (.cells #[Fv 69 #[ptr k0 0, ptr k1 0], Fv 70 #[ptr k0 0, ptr k1 0], Fv 69 #[ptr v0 0, ptr v1 0], Fv 70 #[ptr v0 0, ptr v1 0], Fv 74 #[ptr g0 0, ptr g1 0], Fv 75 #[ptr g0 0, ptr g1 0]] 82) = X17_ at *
              clear hX
              try rw [← egp]
              clear egp
              refine wpAnyH_ready (rs := [9]) (by kernel_rfl) (by simp) ?_
              refine AllReadyH.cons rfl (fun K20023 hK20023 => ?_) AllReadyH.nil
              go_simp
              go_wp2_with (go_at_call 48; refine (allWriteC_any _ _ _ _).mono ?_; rintro e X18_ ⟨a0, rfl, ⟨ha0, la0⟩, hb18_⟩)
              refine hK20023.out _ _ ?hs20023 (fun hHeld20023 => ?_)
              case hs20023 => exact hHeld.below hb18_
              clear hHeld
              have hHeld := hHeld20023; clear hHeld20023 hK20023 K20023
              have z0_ := hb1_.size
              have z1_ := hb2_.size
              have z2_ := hb3_.size
              have z3_ := hb4_.size
              have z4_ := hb5_.size
              have z5_ := hb15_.size
              have z6_ := hb16_.size
              have z7_ := hb17_.size
              have z8_ := hb18_.size
              have hvbX : Blk (X5_.heap.size) #[.nilFunc, .nilFunc] 82 X18_ := (hvb.below (Below.onto hb16_ (Below.onto hb17_ hb18_)))
              have hq0 := hvbX.cell 0
              have hq1 := hvbX.cell 1
              have hz0 := hvbX.froz 0
              have hz1 := hvbX.froz 1
              simp at hq0 hq1
              have htot : Below Xs.heap.size Xs X18_ := (Below.onto hb1_ (Below.onto hb2_ (Below.onto hb3_ (Below.onto hb4_ (Below.onto hb5_ (Below.onto hb15_ (Below.onto hb16_ (Below.onto hb17_ hb18_))))))))
              have HW : W1B szb bk k0 k1 bv v0 v1 g0 g1 gp a0 X18_ := ⟨hsz.below htot, (hbk.below (Below.onto hb2_ (Below.onto hb3_ (Below.onto hb4_ (Below.onto hb5_ (Below.onto hb15_ (Below.onto hb16_ (Below.onto hb17_ hb18_)))))))), (hk0.below (Below.onto hb3_ (Below.onto hb4_ (Below.onto hb5_ (Below.onto hb15_ (Below.onto hb16_ (Below.onto hb17_ hb18_))))))), ⟨_, (hk1.below (Below.onto hb3_ (Below.onto hb4_ (Below.onto hb5_ (Below.onto hb15_ (Below.onto hb16_ (Below.onto hb17_ hb18_)))))))⟩, (hbv.below (Below.onto hb4_ (Below.onto hb5_ (Below.onto hb15_ (Below.onto hb16_ (Below.onto hb17_ hb18_)))))), (hv0.below (Below.onto hb5_ (Below.onto hb15_ (Below.onto hb16_ (Below.onto hb17_ hb18_))))), ⟨_, (hv1.below (Below.onto hb5_ (Below.onto hb15_ (Below.onto hb16_ (Below.onto hb17_ hb18_)))))⟩, (hg0.below (Below.onto hb17_ hb18_)), ⟨_, (hg1.below (Below.onto hb17_ hb18_))⟩, (hgp.below hb18_), ha0⟩
              have HSS := hide hHeld
              refine wpAnyH_ready (rs := [11]) (by kernel_rfl) (by simp) ?_
              refine AllReadyH.cons rfl (fun K20024 hK20024 => ?_) AllReadyH.nil
              go_simp
              refine hK20024.out _ _ ?hs20024 (fun hHeld20024 => ?_)
              case hs20024 => exact hHeld.set2 (hHeld.ne hvbX (by simp))
              clear hHeld
              have hHeld := hHeld20024; clear hHeld20024 hK20024 K20024
              refine wpAnyH_done (by kernel_rfl) ?_ _
              refine NoPanic.normal ?_
              skip
              exact unhide REST _ X18_ (X5_.heap.size) bk k0 k1 bv v0 v1 g0 g1 gp a0 (by rfl) htot (unhide HSS) HW hvbX (by omega)
          refine AllReadyH.cons rfl (fun K20025 hK20025 => ?_) AllReadyH.nil
          · go_simp
            refine hK20025.out _ _ ?hs20025 (fun hHeld20025 => ?_)
            case hs20025 => exact hHeld.below (below_new X4_ (.cells #[.nilFunc, .nilFunc] 82))
            clear hHeld
            have hHeld := hHeld20025; clear hHeld20025 hK20025 K20025
            have hvb := Blk.new X4_ #[.nilFunc, .nilFunc] 82
            have hb19_ := below_new X4_ (.cells #[.nilFunc, .nilFunc] 82)
            generalize hX : X4_.alloc (.cells #[.nilFunc, .nilFunc] 82) = X19_ at *
            clear hX
            have lvb : X4_.heap.size < X19_.heap.size := hvb.lt
            refine wpAnyH_ready (rs := [6]) (by kernel_rfl) (by simp) ?_
            refine AllReadyH.cons rfl (fun K20026 hK20026 => ?_) AllReadyH.nil
            go_simp
            go_wp2_with (go_at_call 54; refine (flagC_any _).mono ?_; rintro e X20_ ⟨rfl, hb20_⟩)
            refine hK20026.out _ _ ?hs20026 (fun hHeld20026 => ?_)
            case hs20026 => exact hHeld.below hb20_
            clear hHeld
            have hHeld := hHeld20026; clear hHeld20026 hK20026 K20026
            refine wpAnyH_ready (rs := [7]) (by kernel_rfl) (by simp) ?_
            refine AllReadyH.cons rfl (fun K20027 hK20027 => ?_) AllReadyH.nil
            go_simp
            go_wp2_with (go_at_call 53; refine (partWriteboolC_any _ _ _ _ _ _).mono ?_; rintro e X21_ ⟨g0, g1, rfl, ⟨hg0, lg0⟩, ⟨⟨Tg, hg1⟩, lg1⟩, hb21_⟩)
            refine hK20027.out _ _ ?hs20027 (fun hHeld20027 => ?_)
            case hs20027 => exact hHeld.below hb21_
            clear hHeld
            have hHeld := hHeld20027; clear hHeld20027 hK20027 K20027
            refine wpAnyH_ready (rs := [8]) (by kernel_rfl) (by simp) ?_
            refine AllReadyH.cons rfl (fun K20028 hK20028 => ?_) AllReadyH.nil
            go_simp
            refine hK20028.out _ _ ?hs20028 (fun hHeld20028 => ?_)
            case hs20028 => exact hHeld.below (below_new X21_ (.cells #[Fv 69 #[ptr k0 0, ptr k1 0], Fv 70 #[ptr k0 0, ptr k1 0], Fv 69 #[ptr v0 0, ptr v1 0], Fv 70 #[ptr v0 0, ptr v1 0], Fv 74 #[ptr g0 0, ptr g1 0], Fv 75 #[ptr g0 0, ptr g1 0]] 82))
            clear hHeld
            have hHeld := hHeld20028; clear hHeld20028 hK20028 K20028
            have hgp := Blk.new X21_ #[Fv 69 #[ptr k0 0, ptr k1 0], Fv 70 #[ptr k0 0, ptr k1 0], Fv 69 #[ptr v0 0, ptr v1 0], Fv 70 #[ptr v0 0, ptr v1 0], Fv 74 #[ptr g0 0, ptr g1 0], Fv 75 #[ptr g0 0, ptr g1 0]] 82
            have hb22_ := below_new X21_ (.cells #[Fv 69 #[ptr k0 0, ptr k1 0], Fv 70 #[ptr k0 0, ptr k1 0], Fv 69 #[ptr v0 0, ptr v1 0], Fv 70 #[ptr v0 0, ptr v1 0], Fv 74 #[ptr g0 0, ptr g1 0], Fv 75 #[ptr g0 0, ptr g1 0]] 82)
            obtain ⟨gp, egp⟩ : ∃ g, g = X21_.heap.size := ⟨_, rfl⟩
            rw [← egp] at hgp
            have lgp : X21_.heap.size ≤ gp := Nat.le_of_eq egp.symm
            generalize hX : X21_.alloc (.cells #[Fv 69 #[ptr k0 0, ptr k1 0], Fv 70 #[ptr k0 0, ptr k1 0], Fv 69 #[ptr v0 0, ptr v1 0], Fv 70 #[ptr v0 0, ptr v1 0], Fv 74 #[ptr g0 0, ptr g1 0], Fv 75 #[ptr g0 0, ptr g1 0]] 82) = X22_ at *
            clear hX
            try rw [← egp]
            clear egp
            refine wpAnyH_ready (rs := [9]) (by kernel_rfl) (by simp) ?_
            refine AllReadyH.cons rfl (fun K20029 hK20029 => ?_) AllReadyH.nil
            go_simp
            go_wp2_with (go_at_call 48; refine (allWriteC_any _ _ _ _).mono ?_; rintro e X23_ ⟨a0, rfl, ⟨ha0, la0⟩, hb23_⟩)
            refine hK20029.out _ _ ?hs20029 (fun hHeld20029 => ?_)
            case hs20029 => exact hHeld.below hb23_
            clear hHeld
            have hHeld := hHeld20029; clear hHeld20029 hK20029 K20029
            have z0_ := hb1_.size
            have z1_ := hb2_.size
            have z2_ := hb3_.size
            have z3_ := hb4_.size
            have z4_ := hb19_.size
            have z5_ := hb20_.size
            have z6_ := hb21_.size
            have z7_ := hb22_.size
            have z8_ := hb23_.size
            have hvbX : Blk (X4_.heap.size) #[.nilFunc, .nilFunc] 82 X23_ := (hvb.below (Below.onto hb20_ (Below.onto hb21_ (Below.onto hb22_ hb23_))))
            have hq0 := hvbX.cell 0
            have hq1 := hvbX.cell 1
            have hz0 := hvbX.froz 0
            have hz1 := hvbX.froz 1
            simp at hq0 hq1
            have htot : Below Xs.heap.size Xs X23_ := (Below.onto hb1_ (Below.onto hb2_ (Below.onto hb3_ (Below.onto hb4_ (Below.onto hb19_ (Below.onto hb20_ (Below.onto hb21_ (Below.onto hb22_ hb23_))))))))
            have HW : W1B szb bk k0 k1 bv v0 v1 g0 g1 gp a0 X23_ := ⟨hsz.below htot, (hbk.below (Below.onto hb2_ (Below.onto hb3_ (Below.onto hb4_ (Below.onto hb19_ (Below.onto hb20_ (Below.onto hb21_ (Below.onto hb22_ hb23_)))))))), (hk0.below (Below.onto hb3_ (Below.onto hb4_ (Below.onto hb19_ (Below.onto hb20_ (Below.onto hb21_ (Below.onto hb22_ hb23_))))))), ⟨_, (hk1.below (Below.onto hb3_ (Below.onto hb4_ (Below.onto hb19_ (Below.onto hb20_ (Below.onto hb21_ (Below.onto hb22_ hb23_)))))))⟩, (hbv.below (Below.onto hb4_ (Below.onto hb19_ (Below.onto hb20_ (Below.onto hb21_ (Below.onto hb22_ hb23_)))))), (hv0.below (Below.onto hb19_ (Below.onto hb20_ (Below.onto hb21_ (Below.onto hb22_ hb23_))))), ⟨_, (hv1.below (Below.onto hb19_ (Below.onto hb20_ (Below.onto hb21_ (Below.onto hb22_ hb23_)))))⟩, (hg0.below (Below.onto hb22_ hb23_)), ⟨_, (hg1.below (Below.onto hb22_ hb23_))⟩, (hgp.below hb23_), ha0⟩
            have HSS := hide hHeld
            refine wpAnyH_ready (rs := [11]) (by kernel_rfl) (by simp) ?_
            refine AllReadyH.cons rfl (fun K20030 hK20030 => ?_) AllReadyH.nil
            go_simp
            refine hK20030.out _ _ ?hs20030 (fun hHeld20030 => ?_)
            case hs20030 => exact hHeld.set2 (hHeld.ne hvbX (by simp))
            clear hHeld
            have hHeld := hHeld20030; clear hHeld20030 hK20030 K20030
            refine wpAnyH_done (by kernel_rfl) ?_ _
            refine NoPanic.normal ?_
            skip
            exact unhide REST _ X23_ (X4_.heap.size) bk k0 k1 bv v0 v1 g0 g1 gp a0 (by rfl) htot (unhide HSS) HW hvbX (by omega)
        refine AllReadyH.cons rfl (fun K20031 hK20031 => ?_) AllReadyH.nil
        · go_simp
          refine hK20031.out _ _ ?hs20031 (fun hHeld20031 => ?_)
          case hs20031 => exact hHeld.below (below_new X3_ (.cells #[.nilFunc, .nilFunc] 82))
          clear hHeld
          have hHeld := hHeld20031; clear hHeld20031 hK20031 K20031
          have hvb := Blk.new X3_ #[.nilFunc, .nilFunc] 82
          have hb24_ := below_new X3_ (.cells #[.nilFunc, .nilFunc] 82)
          generalize hX : X3_.alloc (.cells #[.nilFunc, .nilFunc] 82) = X24_ at *
          clear hX
          have lvb : X3_.heap.size < X24_.heap.size := hvb.lt
          refine wpAnyH_ready (rs := [5]) (by kernel_rfl) (by simp) ?_
          refine AllReadyH.cons rfl (fun K20032 hK20032 => ?_) AllReadyH.nil
          go_simp
          go_wp2_with (go_at_call 49; refine (partWritestringC_any _ _ _ _ _ _).mono ?_; rintro e X25_ ⟨v0, v1, rfl, ⟨hv0, lv0⟩, ⟨⟨Tv, hv1⟩, lv1⟩, hb25_⟩)
          refine hK20032.out _ _ ?hs20032 (fun hHeld20032 => ?_)
          case hs20032 => exact hHeld.below hb25_
          clear hHeld
          have hHeld := hHeld20032; clear hHeld20032 hK20032 K20032
          refine wpAnyH_ready (rs := [6]) (by kernel_rfl) (by simp) ?_
          refine AllReadyH.cons rfl (fun K20033 hK20033 => ?_) AllReadyH.nil
          go_simp
          go_wp2_with (go_at_call 54; refine (flagC_any _).mono ?_; rintro e X26_ ⟨rfl, hb26_⟩)
          refine hK20033.out _ _ ?hs20033 (fun hHeld20033 => ?_)
          case hs20033 => exact hHeld.below hb26_
          clear hHeld
          have hHeld := hHeld20033; clear hHeld20033 hK20033 K20033
          refine wpAnyH_ready (rs := [7]) (by kernel_rfl) (by simp) ?_
          refine AllReadyH.cons rfl (fun K20034 hK20034 => ?_) AllReadyH.nil
          go_simp
          go_wp2_with (go_at_call 53; refine (partWriteboolC_any _ _ _ _ _ _).mono ?_; rintro e X27_ ⟨g0, g1, rfl, ⟨hg0, lg0⟩, ⟨⟨Tg, hg1⟩, lg1⟩, hb27_⟩)
          refine hK20034.out _ _ ?hs20034 (fun hHeld20034 => ?_)
          case hs20034 => exact hHeld.below hb27_
          clear hHeld
          have hHeld := hHeld20034; clear hHeld20034 hK20034 K20034
          refine wpAnyH_ready (rs := [8]) (by kernel_rfl) (by simp) ?_
          refine AllReadyH.cons rfl (fun K20035 hK20035 => ?_) AllReadyH.nil
          go_simp
          refine hK20035.out _ _ ?hs20035 (fun hHeld20035 => ?_)
          case hs20035 => exact hHeld.below (below_new X27_ (.cells #[Fv 69 #[ptr k0 0, ptr k1 0], Fv 70 #[ptr k0 0, ptr k1 0], Fv 69 #[ptr v0 0, ptr v1 0], Fv 70 #[ptr v0 0, ptr v1 0], Fv 74 #[ptr g0 0, ptr g1 0], Fv 75 #[ptr g0 0, ptr g1 0]] 82))
          clear hHeld
          have hHeld := hHeld20035; clear hHeld20035 hK20035 K20035
          have hgp := Blk.new X27_ #[Fv 69 #[ptr k0 0, ptr k1 0], Fv 70 #[ptr k0 0, ptr k1 0], Fv 69 #[ptr v0 0, ptr v1 0], Fv 70 #[ptr v0 0, ptr v1 0], Fv 74 #[ptr g0 0, ptr g1 0], Fv 75 #[ptr g0 0, ptr g1 0]] 82
          have hb28_ := below_new X27_ (.cells #[Fv 69 #[ptr k0 0, ptr k1 0], Fv 70 #[ptr k0 0, ptr k1 0], Fv 69 #[ptr v0 0, ptr v1 0], Fv 70 #[ptr v0 0, ptr v1 0], Fv 74 #[ptr g0 0, ptr g1 0], Fv 75 #[ptr g0 0, ptr g1 0]] 82)
          obtain ⟨gp, egp⟩ : ∃ g, g = X27_.heap.size := ⟨_, rfl⟩
          rw [← egp] at hgp
          have lgp : X27_.heap.size ≤ gp := Nat.le_of_eq egp.symm
          generalize hX : X27_.alloc (.cells #[Fv 69 #[ptr k0 0, ptr k1 0], Fv 70 #[ptr k0 0, ptr k1 0], Fv 69 #[ptr v0 0, ptr v1 0], Fv 70 #[ptr v0 0, ptr v1 0], Fv 74 #[ptr g0 0, ptr g1 0], Fv 75 #[ptr g0 0, ptr g1 0]] 82) = X28_ at *
          clear hX
          try rw [← egp]
          clear egp
          refine wpAnyH_ready (rs := [9]) (by kernel_rfl) (by simp) ?_
          refine AllReadyH.cons rfl (fun K20036 hK20036 => ?_) AllReadyH.nil
          go_simp
          go_wp2_with (go_at_call 48; refine (allWriteC_any _ _ _ _).mono ?_; rintro e X29_ ⟨a0, rfl, ⟨ha0, la0⟩, hb29_⟩)
          refine hK20036.out _ _ ?hs20036 (fun hHeld20036 => ?_)
          case hs20036 => exact hHeld.below hb29_
          clear hHeld
          have hHeld := hHeld20036; clear hHeld20036 hK20036 K20036
          have z0_ := hb1_.size
          have z1_ := hb2_.size
          have z2_ := hb3_.size
          have z3_ := hb24_.size
          have z4_ := hb25_.size
          have z5_ := hb26_.size
          have z6_ := hb27_.size
          have z7_ := hb28_.size
          have z8_ := hb29_.size
          have hvbX : Blk (X3_.heap.size) #[.nilFunc, .nilFunc] 82 X29_ := (hvb.below (Below.onto hb25_ (Below.onto hb26_ (Below.onto hb27_ (Below.onto hb28_ hb29_)))))
          have hq0 := hvbX.cell 0
          have hq1 := hvbX.cell 1
          have hz0 := hvbX.froz 0
          have hz1 := hvbX.froz 1
          simp at hq0 hq1
          have htot : Below Xs.heap.size Xs X29_ := (Below.onto hb1_ (Below.onto hb2_ (Below.onto hb3_ (Below.onto hb24_ (Below.onto hb25_ (Below.onto hb26_ (Below.onto hb27_ (Below.onto hb28_ hb29_))))))))
          have HW : W1B szb bk k0 k1 bv v0 v1 g0 g1 gp a0 X29_ := ⟨hsz.below htot, (hbk.below (Below.onto hb2_ (Below.onto hb3_ (Below.onto hb24_ (Below.onto hb25_ (Below.onto hb26_ (Below.onto hb27_ (Below.onto hb28_ hb29_)))))))), (hk0.below (Below.onto hb3_ (Below.onto hb24_ (Below.onto hb25_ (Below.onto hb26_ (Below.onto hb27_ (Below.onto hb28_ hb29_))))))), ⟨_, (hk1.below (Below.onto hb3_ (Below.onto hb24_ (Below.onto hb25_ (Below.onto hb26_ (Below.onto hb27_ (Below.onto hb28_ hb29_)))))))⟩, (hbv.below (Below.onto hb24_ (Below.onto hb25_ (Below.onto hb26_ (Below.onto hb27_ (Below.onto hb28_ hb29_)))))), (hv0.below (Below.onto hb26_ (Below.onto hb27_ (Below.onto hb28_ hb29_)))), ⟨_, (hv1.below (Below.onto hb26_ (Below.onto hb27_ (Below.onto hb28_ hb29_))))⟩, (hg0.below (Below.onto hb28_ hb29_)), ⟨_, (hg1.below (Below.onto hb28_ hb29_))⟩, (hgp.below hb29_), ha0⟩
          have HSS := hide hHeld
          refine wpAnyH_ready (rs := [11]) (by kernel_rfl) (by simp) ?_
          refine AllReadyH.cons rfl (fun K20037 hK20037 => ?_) AllReadyH.nil
          go_simp
          refine hK20037.out _ _ ?hs20037 (fun hHeld20037 => ?_)
          case hs20037 => exact hHeld.set2 (hHeld.ne hvbX (by simp))
          clear hHeld
          have hHeld := hHeld20037; clear hHeld20037 hK20037 K20037
          refine wpAnyH_done (by kernel_rfl) ?_ _
          refine NoPanic.normal ?_
          skip
          exact unhide REST _ X29_ (X3_.heap.size) bk k0 k1 bv v0 v1 g0 g1 gp a0 (by rfl) htot (unhide HSS) HW hvbX (by omega)
      refine AllReadyH.cons rfl (fun K20038 hK20038 => ?_) AllReadyH.nil
      · go_simp
        refine hK20038.out _ _ ?hs20038 (fun hHeld20038 => ?_)
        case hs20038 => exact hHeld.below (below_new X2_ (.cells #[.nilFunc, .nilFunc] 82))
        clear hHeld
        have hHeld := hHeld20038; clear hHeld20038 hK20038 K20038
        have hvb := Blk.new X2_ #[.nilFunc, .nilFunc] 82
        have hb30_ := below_new X2_ (.cells #[.nilFunc, .nilFunc] 82)
        generalize hX : X2_.alloc (.cells #[.nilFunc, .nilFunc] 82) = X30_ at *
        clear hX
        have lvb : X2_.heap.size < X30_.heap.size := hvb.lt
        refine wpAnyH_ready (rs := [4]) (by kernel_rfl) (by simp) ?_
        refine AllReadyH.cons rfl (fun K20039 hK20039 => ?_) AllReadyH.nil
        go_simp
        go_wp2_with (go_at_call 50; refine (textC_any _ _ _ _ _).mono ?_; rintro e X31_ ⟨bv, rfl, ⟨hbv, lbv⟩, hb31_⟩)
        refine hK20039.out _ _ ?hs20039 (fun hHeld20039 => ?_)
        case hs20039 => exact hHeld.below hb31_
        clear hHeld
        have hHeld := hHeld20039; clear hHeld20039 hK20039 K20039
        refine wpAnyH_ready (rs := [5]) (by kernel_rfl) (by simp) ?_
        refine AllReadyH.cons rfl (fun K20040 hK20040 => ?_) AllReadyH.nil
        go_simp
        go_wp2_with (go_at_call 49; refine (partWritestringC_any _ _ _ _ _ _).mono ?_; rintro e X32_ ⟨v0, v1, rfl, ⟨hv0, lv0⟩, ⟨⟨Tv, hv1⟩, lv1⟩, hb32_⟩)
        refine hK20040.out _ _ ?hs20040 (fun hHeld20040 => ?_)
        case hs20040 => exact hHeld.below hb32_
        clear hHeld
        have hHeld := hHeld20040; clear hHeld20040 hK20040 K20040
        refine wpAnyH_ready (rs := [6]) (by kernel_rfl) (by simp) ?_
        refine AllReadyH.cons rfl (fun K20041 hK20041 => ?_) AllReadyH.nil
        go_simp
        go_wp2_with (go_at_call 54; refine (flagC_any _).mono ?_; rintro e X33_ ⟨rfl, hb33_⟩)
        refine hK20041.out _ _ ?hs20041 (fun hHeld20041 => ?_)
        case hs20041 => exact hHeld.below hb33_
        clear hHeld
        have hHeld := hHeld20041; clear hHeld20041 hK20041 K20041
        refine wpAnyH_ready (rs := [7]) (by kernel_rfl) (by simp) ?_
        refine AllReadyH.cons rfl (fun K20042 hK20042 => ?_) AllReadyH.nil
        go_simp
        go_wp2_with (go_at_call 53; refine (partWriteboolC_any _ _ _ _ _ _).mono ?_; rintro e X34_ ⟨g0, g1, rfl, ⟨hg0, lg0⟩, ⟨⟨Tg, hg1⟩, lg1⟩, hb34_⟩)
        refine hK20042.out _ _ ?hs20042 (fun hHeld20042 => ?_)
        case hs20042 => exact hHeld.below hb34_
        clear hHeld
        have hHeld := hHeld20042; clear hHeld20042 hK20042 K20042
        refine wpAnyH_ready (rs := [8]) (by kernel_rfl) (by simp) ?_
        refine AllReadyH.cons rfl (fun K20043 hK20043 => ?_) AllReadyH.nil
        go_simp
        refine hK20043.out _ _ ?hs20043 (fun hHeld20043 => ?_)
        case hs20043 => exact hHeld.below (below_new X34_ (.cells #[Fv 69 #[ptr k0 0, ptr k1 0], Fv 70 #[ptr k0 0, ptr k1 0], Fv 69 #[ptr v0 0, ptr v1 0], Fv 70 #[ptr v0 0, ptr v1 0], Fv 74 #[ptr g0 0, ptr g1 0], Fv 75 #[ptr g0 0, ptr g1 0]] 82))
        clear hHeld
        have hHeld := hHeld20043; clear hHeld20043 hK20043 K20043
        have hgp := Blk.new X34_ #[Fv 69 #[ptr k0 0, ptr k1 0], Fv 70 #[ptr k0 0, ptr k1 0], Fv 69 #[ptr v0 0, ptr v1 0], Fv 70 #[ptr v0 0, ptr v1 0], Fv 74 #[ptr g0 0, ptr g1 0], Fv 75 #[ptr g0 0, ptr g1 0]] 82
        have hb35_ := below_new X34_ (.cells #[Fv 69 #[ptr k0 0, ptr k1 0], Fv 70 #[ptr k0 0, ptr k1 0], Fv 69 #[ptr v0 0, ptr v1 0], Fv 70 #[ptr v0 0, ptr v1 0], Fv 74 #[ptr g0 0, ptr g1 0], Fv 75 #[ptr g0 0, ptr g1 0]] 82)
        obtain ⟨gp, egp⟩ : ∃ g, g = X34_.heap.size := ⟨_, rfl⟩
        rw [← egp] at hgp
        have lgp : X34_.heap.size ≤ gp := Nat.le_of_eq egp.symm
        generalize hX : X34_.alloc (.cells #[Fv 69 #[ptr k0 0, ptr k1 0], Fv 70 #[ptr k0 0, ptr k1 0], Fv 69 #[ptr v0 0, ptr v1 0], Fv 70 #[ptr v0 0, ptr v1 0], Fv 74 #[ptr g0 0, ptr g1 0], Fv 75 #[ptr g0 0, ptr g1 0]] 82) = X35_ at *
        clear hX
        try rw [← egp]
        clear egp
        refine wpAnyH_ready (rs := [9]) (by kernel_rfl) (by simp) ?_
        refine AllReadyH.cons rfl (fun K20044 hK20044 => ?_) AllReadyH.nil
        go_simp
        go_wp2_with (go_at_call 48; refine (allWriteC_any _ _ _ _).mono ?_; rintro e X36_ ⟨a0, rfl, ⟨ha0, la0⟩, hb36_⟩)
        refine hK20044.out _ _ ?hs20044 (fun hHeld20044 => ?_)
        case hs20044 => exact hHeld.below hb36_
        clear hHeld
        have hHeld := hHeld20044; clear hHeld20044 hK20044 K20044
        have z0_ := hb1_.size
        have z1_ := hb2_.size
        have z2_ := hb30_.size
        have z3_ := hb31_.size
        have z4_ := hb32_.size
        have z5_ := hb33_.size
        have z6_ := hb34_.size
        have z7_ := hb35_.size
        have z8_ := hb36_.size
        have hvbX : Blk (X2_.heap.size) #[.nilFunc, .nilFunc] 82 X36_ := (hvb.below (Below.onto hb31_ (Below.onto hb32_ (Below.onto hb33_ (Below.onto hb34_ (Below.onto hb35_ hb36_))))))
        have hq0 := hvbX.cell 0
        have hq1 := hvbX.cell 1
        have hz0 := hvbX.froz 0
        have hz1 := hvbX.froz 1
        simp at hq0 hq1
        have htot : Below Xs.heap.size Xs X36_ := (Below.onto hb1_ (Below.onto hb2_ (Below.onto hb30_ (Below.onto hb31_ (Below.onto hb32_ (Below.onto hb33_ (Below.onto hb34_ (Below.onto hb35_ hb36_))))))))
        have HW : W1B szb bk k0 k1 bv v0 v1 g0 g1 gp a0 X36_ := ⟨hsz.below htot, (hbk.below (Below.onto hb2_ (Below.onto hb30_ (Below.onto hb31_ (Below.onto hb32_ (Below.onto hb33_ (Below.onto hb34_ (Below.onto hb35_ hb36_)))))))), (hk0.below (Below.onto hb30_ (Below.onto hb31_ (Below.onto hb32_ (Below.onto hb33_ (Below.onto hb34_ (Below.onto hb35_ hb36_))))))), ⟨_, (hk1.below (Below.onto hb30_ (Below.onto hb31_ (Below.onto hb32_ (Below.onto hb33_ (Below.onto hb34_ (Below.onto hb35_ hb36_)))))))⟩, (hbv.below (Below.onto hb32_ (Below.onto hb33_ (Below.onto hb34_ (Below.onto hb35_ hb36_))))), (hv0.below (Below.onto hb33_ (Below.onto hb34_ (Below.onto hb35_ hb36_)))), ⟨_, (hv1.below (Below.onto hb33_ (Below.onto hb34_ (Below.onto hb35_ hb36_))))⟩, (hg0.below (Below.onto hb35_ hb36_)), ⟨_, (hg1.below (Below.onto hb35_ hb36_))⟩, (hgp.below hb36_), ha0⟩
        have HSS := hide hHeld
        refine wpAnyH_ready (rs := [11]) (by kernel_rfl) (by simp) ?_
        refine AllReadyH.cons rfl (fun K20045 hK20045 => ?_) AllReadyH.nil
        go_simp
        refine hK20045.out _ _ ?hs20045 (fun hHeld20045 => ?_)
        case hs20045 => exact hHeld.set2 (hHeld.ne hvbX (by simp))
        clear hHeld
        have hHeld := hHeld20045; clear hHeld20045 hK20045 K20045
        refine wpAnyH_done (by kernel_rfl) ?_ _
        refine NoPanic.normal ?_
        skip
        exact unhide REST _ X36_ (X2_.heap.size) bk k0 k1 bv v0 v1 g0 g1 gp a0 (by rfl) htot (unhide HSS) HW hvbX (by omega)
    refine AllReadyH.cons rfl (fun K20046 hK20046 => ?_) AllReadyH.nil
    · go_simp
      refine hK20046.out _ _ ?hs20046 (fun hHeld20046 => ?_)
      case hs20046 => exact hHeld.below (below_new X1_ (.cells #[.nilFunc, .nilFunc] 82))
      clear hHeld
      have hHeld := hHeld20046; clear hHeld20046 hK20046 K20046
      have hvb := Blk.new X1_ #[.nilFunc, .nilFunc] 82
      have hb37_ := below_new X1_ (.cells #[.nilFunc, .nilFunc] 82)
      generalize hX : X1_.alloc (.cells #[.nilFunc, .nilFunc] 82) = X37_ at *
      clear hX
      have lvb : X1_.heap.size < X37_.heap.size := hvb.lt
      refine wpAnyH_ready (rs := [2]) (by kernel_rfl) (by simp) ?_
      refine AllReadyH.cons rfl (fun K20047 hK20047 => ?_) AllReadyH.nil
      go_simp
      go_wp2_with (go_at_call 49; refine (partWritestringC_any _ _ _ _ _ _).mono ?_; rintro e X38_ ⟨k0, k1, rfl, ⟨hk0, lk0⟩, ⟨⟨Tk, hk1⟩, lk1⟩, hb38_⟩)
      refine hK20047.out _ _ ?hs20047 (fun hHeld20047 => ?_)
      case hs20047 => exact hHeld.below hb38_
      clear hHeld
      have hHeld := hHeld20047; clear hHeld20047 hK20047 K20047
      refine wpAnyH_ready (rs := [4]) (by kernel_rfl) (by simp) ?_
      refine AllReadyH.cons rfl (fun K20048 hK20048 => ?_) AllReadyH.nil
      go_simp
      go_wp2_with (go_at_call 50; refine (textC_any _ _ _ _ _).mono ?_; rintro e X39_ ⟨bv, rfl, ⟨hbv, lbv⟩, hb39_⟩)
      refine hK20048.out _ _ ?hs20048 (fun hHeld20048 => ?_)
      case hs20048 => exact hHeld.below hb39_
      clear hHeld
      have hHeld := hHeld20048; clear hHeld20048 hK20048 K20048
      refine wpAnyH_ready (rs := [5]) (by kernel_rfl) (by simp) ?_
      refine AllReadyH.cons rfl (fun K20049 hK20049 => ?_) AllReadyH.nil
      go_simp
      go_wp2_with (go_at_call 49; refine (partWritestringC_any _ _ _ _ _ _).mono ?_; rintro e X40_ ⟨v0, v1, rfl, ⟨hv0, lv0⟩, ⟨⟨Tv, hv1⟩, lv1⟩, hb40_⟩)
      refine hK20049.out _ _ ?hs20049 (fun hHeld20049 => ?_)
      case hs20049 => exact hHeld.below hb40_
      clear hHeld
      have hHeld := hHeld20049; clear hHeld20049 hK20049 K20049
      refine wpAnyH_ready (rs := [6]) (by kernel_rfl) (by simp) ?_
      refine AllReadyH.cons rfl (fun K20050 hK20050 => ?_) AllReadyH.nil
      go_simp
      go_wp2_with (go_at_call 54; refine (flagC_any _).mono ?_; rintro e X41_ ⟨rfl, hb41_⟩)
      refine hK20050.out _ _ ?hs20050 (fun hHeld20050 => ?_)
      case hs20050 => exact hHeld.below hb41_
      clear hHeld
      have hHeld := hHeld20050; clear hHeld20050 hK20050 K20050
      refine wpAnyH_ready (rs := [7]) (by kernel_rfl) (by simp) ?_
      refine AllReadyH.cons rfl (fun K20051 hK20051 => ?_) AllReadyH.nil
      go_simp
      go_wp2_with (go_at_call 53; refine (partWriteboolC_any _ _ _ _ _ _).mono ?_; rintro e X42_ ⟨g0, g1, rfl, ⟨hg0, lg0⟩, ⟨⟨Tg, hg1⟩, lg1⟩, hb42_⟩)
      refine hK20051.out _ _ ?hs20051 (fun hHeld20051 => ?_)
      case hs20051 => exact hHeld.below hb42_
      clear hHeld
      have hHeld := hHeld20051; clear hHeld20051 hK20051 K20051
      refine wpAnyH_ready (rs := [8]) (by kernel_rfl) (by simp) ?_
      refine AllReadyH.cons rfl (fun K20052 hK20052 => ?_) AllReadyH.nil
      go_simp
      refine hK20052.out _ _ ?hs20052 (fun hHeld20052 => ?_)
      case hs20052 => exact hHeld.below (below_new X42_ (.cells #[Fv 69 #[ptr k0 0, ptr k1 0], Fv 70 #[ptr k0 0, ptr k1 0], Fv 69 #[ptr v0 0, ptr v1 0], Fv 70 #[ptr v0 0, ptr v1 0], Fv 74 #[ptr g0 0, ptr g1 0], Fv 75 #[ptr g0 0, ptr g1 0]] 82))
      clear hHeld
      have hHeld := hHeld20052; clear hHeld20052 hK20052 K20052
      have hgp := Blk.new X42_ #[Fv 69 #[ptr k0 0, ptr k1 0], Fv 70 #[ptr k0 0, ptr k1 0], Fv 69 #[ptr v0 0, ptr v1 0], Fv 70 #[ptr v0 0, ptr v1 0], Fv 74 #[ptr g0 0, ptr g1 0], Fv 75 #[ptr g0 0, ptr g1 0]] 82
      have hb43_ := below_new X42_ (.cells #[Fv 69 #[ptr k0 0, ptr k1 0], Fv 70 #[ptr k0 0, ptr k1 0], Fv 69 #[ptr v0 0, ptr v1 0], Fv 70 #[ptr v0 0, ptr v1 0], Fv 74 #[ptr g0 0, ptr g1 0], Fv 75 #[ptr g0 0, ptr g1 0]] 82)
      obtain ⟨gp, egp⟩ : ∃ g, g = X42_.heap.size := ⟨_, rfl⟩
      rw [← egp] at hgp
      have lgp : X42_.heap.size ≤ gp := Nat.le_of_eq egp.symm
      generalize hX : X42_.alloc (.cells #[Fv 69 #[ptr k0 0, ptr k1 0], Fv 70 #[ptr k0 0, ptr k1 0], Fv 69 #[ptr v0 0, ptr v1 0], Fv 70 #[ptr v0 0, ptr v1 0], Fv 74 #[ptr g0 0, ptr g1 0], Fv 75 #[ptr g0 0, ptr g1 0]] 82) = X43_ at *
      clear hX
      try rw [← egp]
      clear egp
      refine wpAnyH_ready (rs := [9]) (by kernel_rfl) (by simp) ?_
      refine AllReadyH.cons rfl (fun K20053 hK20053 => ?_) AllReadyH.nil
      go_simp
      go_wp2_with (go_at_call 48; refine (allWriteC_any _ _ _ _).mono ?_; rintro e X44_ ⟨a0, rfl, ⟨ha0, la0⟩, hb44_⟩)
      refine hK20053.out _ _ ?hs20053 (fun hHeld20053 => ?_)
      case hs20053 => exact hHeld.below hb44_
      clear hHeld
      have hHeld := hHeld20053; clear hHeld20053 hK20053 K20053
      have z0_ := hb1_.size
      have z1_ := hb37_.size
      have z2_ := hb38_.size
      have z3_ := hb39_.size
      have z4_ := hb40_.size
      have z5_ := hb41_.size
      have z6_ := hb42_.size
      have z7_ := hb43_.size
      have z8_ := hb44_.size
      have hvbX : Blk (X1_.heap.size) #[.nilFunc, .nilFunc] 82 X44_ := (hvb.below (Below.onto hb38_ (Below.onto hb39_ (Below.onto hb40_ (Below.onto hb41_ (Below.onto hb42_ (Below.onto hb43_ hb44_)))))))
      have hq0 := hvbX.cell 0
      have hq1 := hvbX.cell 1
      have hz0 := hvbX.froz 0
      have hz1 := hvbX.froz 1
      simp at hq0 hq1
      have htot : Below Xs.heap.size Xs X44_ := (Below.onto hb1_ (Below.onto hb37_ (Below.onto hb38_ (Below.onto hb39_ (Below.onto hb40_ (Below.onto hb41_ (Below.onto hb42_ (Below.onto hb43_ hb44_))))))))
      have HW : W1B szb bk k0 k1 bv v0 v1 g0 g1 gp a0 X44_ := ⟨hsz.below htot, (hbk.below (Below.onto hb37_ (Below.onto hb38_ (Below.onto hb39_ (Below.onto hb40_ (Below.onto hb41_ (Below.onto hb42_ (Below.onto hb43_ hb44_)))))))), (hk0.below (Below.onto hb39_ (Below.onto hb40_ (Below.onto hb41_ (Below.onto hb42_ (Below.onto hb43_ hb44_)))))), ⟨_, (hk1.below (Below.onto hb39_ (Below.onto hb40_ (Below.onto hb41_ (Below.onto hb42_ (Below.onto hb43_ hb44_))))))⟩, (hbv.below (Below.onto hb40_ (Below.onto hb41_ (Below.onto hb42_ (Below.onto hb43_ hb44_))))), (hv0.below (Below.onto hb41_ (Below.onto hb42_ (Below.onto hb43_ hb44_)))), ⟨_, (hv1.below (Below.onto hb41_ (Below.onto hb42_ (Below.onto hb43_ hb44_))))⟩, (hg0.below (Below.onto hb43_ hb44_)), ⟨_, (hg1.below (Below.onto hb43_ hb44_))⟩, (hgp.below hb44_), ha0⟩
      have HSS := hide hHeld
      refine wpAnyH_ready (rs := [11]) (by kernel_rfl) (by simp) ?_
      refine AllReadyH.cons rfl (fun K20054 hK20054 => ?_) AllReadyH.nil
      go_simp
      refine hK20054.out _ _ ?hs20054 (fun hHeld20054 => ?_)
      case hs20054 => exact hHeld.set2 (hHeld.ne hvbX (by simp))
      clear hHeld
      have hHeld := hHeld20054; clear hHeld20054 hK20054 K20054
      refine wpAnyH_done (by kernel_rfl) ?_ _
      refine NoPanic.normal ?_
      skip
      exact unhide REST _ X44_ (X1_.heap.size) bk k0 k1 bv v0 v1 g0 g1 gp a0 (by rfl) htot (unhide HSS) HW hvbX (by omega)
  refine AllReadyH.cons rfl (fun K20055 hK20055 => ?_) AllReadyH.nil
  · go_simp
    refine hK20055.out _ _ ?hs20055 (fun hHeld20055 => ?_)
    case hs20055 => exact hHeld.below (below_new Xs (.cells #[.nilFunc, .nilFunc] 82))
    clear hHeld
    have hHeld := hHeld20055; clear hHeld20055 hK20055 K20055
    have hvb := Blk.new Xs #[.nilFunc, .nilFunc] 82
    have hb45_ := below_new Xs (.cells #[.nilFunc, .nilFunc] 82)
    generalize hX : Xs.alloc (.cells #[.nilFunc, .nilFunc] 82) = X45_ at *
    clear hX
    have lvb : Xs.heap.size < X45_.heap.size := hvb.lt
    refine wpAnyH_ready (rs := [1]) (by kernel_rfl) (by simp) ?_
    refine AllReadyH.cons rfl (fun K20056 hK20056 => ?_) AllReadyH.nil
    go_simp
    go_wp2_with (go_at_call 50; refine (textC_any _ _ _ _ _).mono ?_; rintro e X46_ ⟨bk, rfl, ⟨hbk, lbk⟩, hb46_⟩)
    refine hK20056.out _ _ ?hs20056 (fun hHeld20056 => ?_)
    case hs20056 => exact hHeld.below hb46_
    clear hHeld
    have hHeld := hHeld20056; clear hHeld20056 hK20056 K20056
    refine wpAnyH_ready (rs := [2]) (by kernel_rfl) (by simp) ?_
    refine AllReadyH.cons rfl (fun K20057 hK20057 => ?_) AllReadyH.nil
    go_simp
    go_wp2_with (go_at_call 49; refine (partWritestringC_any _ _ _ _ _ _).mono ?_; rintro e X47_ ⟨k0, k1, rfl, ⟨hk0, lk0⟩, ⟨⟨Tk, hk1⟩, lk1⟩, hb47_⟩)
    refine hK20057.out _ _ ?hs20057 (fun hHeld20057 => ?_)
    case hs20057 => exact hHeld.below hb47_
    clear hHeld
    have hHeld := hHeld20057; clear hHeld20057 hK20057 K20057
    refine wpAnyH_ready (rs := [4]) (by kernel_rfl) (by simp) ?_
    refine AllReadyH.cons rfl (fun K20058 hK20058 => ?_) AllReadyH.nil
    go_simp
    go_wp2_with (go_at_call 50; refine (textC_any _ _ _ _ _).mono ?_; rintro e X48_ ⟨bv, rfl, ⟨hbv, lbv⟩, hb48_⟩)
    refine hK20058.out _ _ ?hs20058 (fun hHeld20058 => ?_)
    case hs20058 => exact hHeld.below hb48_
    clear hHeld
    have hHeld := hHeld20058; clear hHeld20058 hK20058 K20058
    refine wpAnyH_ready (rs := [5]) (by kernel_rfl) (by simp) ?_
    refine AllReadyH.cons rfl (fun K20059 hK20059 => ?_) AllReadyH.nil
    go_simp
    go_wp2_with (go_at_call 49; refine (partWritestringC_any _ _ _ _ _ _).mono ?_; rintro e X49_ ⟨v0, v1, rfl, ⟨hv0, lv0⟩, ⟨⟨Tv, hv1⟩, lv1⟩, hb49_⟩)
    refine hK20059.out _ _ ?hs20059 (fun hHeld20059 => ?_)
    case hs20059 => exact hHeld.below hb49_
    clear hHeld
    have hHeld := hHeld20059; clear hHeld20059 hK20059 K20059
    refine wpAnyH_ready (rs := [6]) (by kernel_rfl) (by simp) ?_
    refine AllReadyH.cons rfl (fun K20060 hK20060 => ?_) AllReadyH.nil
    go_simp
    go_wp2_with (go_at_call 54; refine (flagC_any _).mono ?_; rintro e X50_ ⟨rfl, hb50_⟩)
    refine hK20060.out _ _ ?hs20060 (fun hHeld20060 => ?_)
    case hs20060 => exact hHeld.below hb50_
    clear hHeld
    have hHeld := hHeld20060; clear hHeld20060 hK20060 K20060
    refine wpAnyH_ready (rs := [7]) (by kernel_rfl) (by simp) ?_
    refine AllReadyH.cons rfl (fun K20061 hK20061 => ?_) AllReadyH.nil
    go_simp
    go_wp2_with (go_at_call 53; refine (partWriteboolC_any _ _ _ _ _ _).mono ?_; rintro e X51_ ⟨g0, g1, rfl, ⟨hg0, lg0⟩, ⟨⟨Tg, hg1⟩, lg1⟩, hb51_⟩)
    refine hK20061.out _ _ ?hs20061 (fun hHeld20061 => ?_)
    case hs20061 => exact hHeld.below hb51_
    clear hHeld
    have hHeld := hHeld20061; clear hHeld20061 hK20061 K20061
    refine wpAnyH_ready (rs := [8]) (by kernel_rfl) (by simp) ?_
    refine AllReadyH.cons rfl (fun K20062 hK20062 => ?_) AllReadyH.nil
    go_simp
    refine hK20062.out _ _ ?hs20062 (fun hHeld20062 => ?_)
    case hs20062 => exact hHeld.below (below_new X51_ (.cells #[Fv 69 #[ptr k0 0, ptr k1 0], Fv 70 #[ptr k0 0, ptr k1 0], Fv 69 #[ptr v0 0, ptr v1 0], Fv 70 #[ptr v0 0, ptr v1 0], Fv 74 #[ptr g0 0, ptr g1 0], Fv 75 #[ptr g0 0, ptr g1 0]] 82))
    clear hHeld
    have hHeld := hHeld20062; clear hHeld20062 hK20062 K20062
    have hgp := Blk.new X51_ #[Fv 69 #[ptr k0 0, ptr k1 0], Fv 70 #[ptr k0 0, ptr k1 0], Fv 69 #[ptr v0 0, ptr v1 0], Fv 70 #[ptr v0 0, ptr v1 0], Fv 74 #[ptr g0 0, ptr g1 0], Fv 75 #[ptr g0 0, ptr g1 0]] 82
    have hb52_ := below_new X51_ (.cells #[Fv 69 #[ptr k0 0, ptr k1 0], Fv 70 #[ptr k0 0, ptr k1 0], Fv 69 #[ptr v0 0, ptr v1 0], Fv 70 #[ptr v0 0, ptr v1 0], Fv 74 #[ptr g0 0, ptr g1 0], Fv 75 #[ptr g0 0, ptr g1 0]] 82)
    obtain ⟨gp, egp⟩ : ∃ g, g = X51_.heap.size := ⟨_, rfl⟩
    rw [← egp] at hgp
    have lgp : X51_.heap.size ≤ gp := Nat.le_of_eq egp.symm
    generalize hX : X51_.alloc (.cells #[Fv 69 #[ptr k0 0, ptr k1 0], Fv 70 #[ptr k0 0, ptr k1 0], Fv 69 #[ptr v0 0, ptr v1 0], Fv 70 #[ptr v0 0, ptr v1 0], Fv 74 #[ptr g0 0, ptr g1 0], Fv 75 #[ptr g0 0, ptr g1 0]] 82) = X52_ at *
    clear hX
    try rw [← egp]
    clear egp
    refine wpAnyH_ready (rs := [9]) (by kernel_rfl) (by simp) ?_
    refine AllReadyH.cons rfl (fun K20063 hK20063 => ?_) AllReadyH.nil
    go_simp
    go_wp2_with (go_at_call 48; refine (allWriteC_any _ _ _ _).mono ?_; rintro e X53_ ⟨a0, rfl, ⟨ha0, la0⟩, hb53_⟩)
    refine hK20063.out _ _ ?hs20063 (fun hHeld20063 => ?_)
    case hs20063 => exact hHeld.below hb53_
    clear hHeld
    have hHeld := hHeld20063; clear hHeld20063 hK20063 K20063
    have z0_ := hb45_.size
    have z1_ := hb46_.size
    have z2_ := hb47_.size
    have z3_ := hb48_.size
    have z4_ := hb49_.size
    have z5_ := hb50_.size
    have z6_ := hb51_.size
    have z7_ := hb52_.size
    have z8_ := hb53_.size
    have hvbX : Blk (Xs.heap.size) #[.nilFunc, .nilFunc] 82 X53_ := (hvb.below (Below.onto hb46_ (Below.onto hb47_ (Below.onto hb48_ (Below.onto hb49_ (Below.onto hb50_ (Below.onto hb51_ (Below.onto hb52_ hb53_))))))))
    have hq0 := hvbX.cell 0
    have hq1 := hvbX.cell 1
    have hz0 := hvbX.froz 0
    have hz1 := hvbX.froz 1
    simp at hq0 hq1
    have htot : Below Xs.heap.size Xs X53_ := (Below.onto hb45_ (Below.onto hb46_ (Below.onto hb47_ (Below.onto hb48_ (Below.onto hb49_ (Below.onto hb50_ (Below.onto hb51_ (Below.onto hb52_ hb53_))))))))
    have HW : W1B szb bk k0 k1 bv v0 v1 g0 g1 gp a0 X53_ := ⟨hsz.below htot, (hbk.below (Below.onto hb47_ (Below.onto hb48_ (Below.onto hb49_ (Below.onto hb50_ (Below.onto hb51_ (Below.onto hb52_ hb53_))))))), (hk0.below (Below.onto hb48_ (Below.onto hb49_ (Below.onto hb50_ (Below.onto hb51_ (Below.onto hb52_ hb53_)))))), ⟨_, (hk1.below (Below.onto hb48_ (Below.onto hb49_ (Below.onto hb50_ (Below.onto hb51_ (Below.onto hb52_ hb53_))))))⟩, (hbv.below (Below.onto hb49_ (Below.onto hb50_ (Below.onto hb51_ (Below.onto hb52_ hb53_))))), (hv0.below (Below.onto hb50_ (Below.onto hb51_ (Below.onto hb52_ hb53_)))), ⟨_, (hv1.below (Below.onto hb50_ (Below.onto hb51_ (Below.onto hb52_ hb53_))))⟩, (hg0.below (Below.onto hb52_ hb53_)), ⟨_, (hg1.below (Below.onto hb52_ hb53_))⟩, (hgp.below hb53_), ha0⟩
    have HSS := hide hHeld
    refine wpAnyH_ready (rs := [11]) (by kernel_rfl) (by simp) ?_
    refine AllReadyH.cons rfl (fun K20064 hK20064 => ?_) AllReadyH.nil
    go_simp
    refine hK20064.out _ _ ?hs20064 (fun hHeld20064 => ?_)
    case hs20064 => exact hHeld.set2 (hHeld.ne hvbX (by simp))
    clear hHeld
    have hHeld := hHeld20064; clear hHeld20064 hK20064 K20064
    refine wpAnyH_done (by kernel_rfl) ?_ _
    refine NoPanic.normal ?_
    skip
    exact unhide REST _ X53_ (Xs.heap.size) bk k0 k1 bv v0 v1 g0 g1 gp a0 (by rfl) htot (unhide HSS) HW hvbX (by omega)
end Go.Proofs.Ytjmmfgmmmdbenaa
