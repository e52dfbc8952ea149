/-
  The reference's first: a command's bytes.
-/
import Derived.Test.YtjmmfgmmmdbenaaRC7
namespace Go.Proofs.Ytjmmfgmmmdbenaa
open Go.RowKit
set_option linter.unusedSimpArgs false
set_option linter.unusedVariables false

set_option maxRecDepth 100000 in
set_option maxHeartbeats 32000000 in
theorem rfirst_any (c : Cm) (v : Value) (w : World) (hv : CmV v c w) (hr : rightC c = true) (hid : c.id ≤ 9223372036854775807) (htx : c.txn ≤ 9223372036854775807) :
    Calls Try.prog 29 #[v] w fun e W' => ∃ v', e = .returned v' ∧ OwnB W' w.heap.size v' (enc1 c) ∧ Below w.heap.size w W' := by
  obtain ⟨p, cap, rfl, hw⟩ := hv
  obtain ⟨⟨r1, r2, r3, r4⟩, r5, r6, r7, r8, r9⟩ := rightC_of hr
  obtain ⟨k, i, t, m, ws, x⟩ := c
  simp only at *
  have HWS := hide (fun x (hx : x ∈ ws) => rightW_of (r9 x hx))
  have hb1 : (ws.flatMap wr1).length ≤ 8005000 := Nat.le_trans (flat_le wr1 ws 8005 (fun x hx => by have := unhide HWS x hx; have := wr1_len x (by omega) (by omega); omega)) (by have := Nat.mul_le_mul_right 8005 r8; omega)
  have hb2 : (ws.flatMap wr2).length ≤ 8019000 := Nat.le_trans (flat_le wr2 ws 8019 (fun x hx => by have := unhide HWS x hx; have := wr2_len x (by omega) (by omega); omega)) (by have := Nat.mul_le_mul_right 8019 r8; omega)
  have hI : Is64 i := by unfold Is64; omega
  have hT : Is64 t := by unfold Is64; omega
  have hL : Is64 (ws.length : Int) := by unfold Is64; omega
  obtain ⟨ym, hym, hyv⟩ := fl_byte m
  have CB := hide (fun W => rbit_y m ym hyv W)
  have hu : IntKind.u8.wrap k = ((bt k).toNat : Int) := by show k % 256 = _; rw [bt_nat]
  have hk3 : Hid (fx 1 k = [bt k]) := by show _ = _; simp [fx]
  have HYM := hide hym
  have HW0 := hide hw
  have HC := hide (Blk.new w #[.int .i64 k, .int .i64 i, .int .i64 t, .bool m, .slice p ws.length cap, .string x] 26)
  have HB := hide (below_new w (.cells #[.int .i64 k, .int .i64 i, .int .i64 t, .bool m, .slice p ws.length cap, .string x] 26))
  have HS : Hid (w.heap.size + 1 ≤ (w.alloc (.cells #[.int .i64 k, .int .i64 i, .int .i64 t, .bool m, .slice p ws.length cap, .string x] 26)).heap.size) := hide (by simp)
  clear hr r5 r6 r9 hw hym hyv
  go_enter Try.func29, Try.ntmps29
  go_wp2
  rename_i hrest
  have hbd : Below (w.alloc (.cells #[.int .i64 k, .int .i64 i, .int .i64 t, .bool m, .slice p ws.length cap, .string x] 26)).heap.size (w.alloc (.cells #[.int .i64 k, .int .i64 i, .int .i64 t, .bool m, .slice p ws.length cap, .string x] 26)) (w.alloc (.cells #[.int .i64 k, .int .i64 i, .int .i64 t, .bool m, .slice p ws.length cap, .string x] 26)).drew := (Below.refl _ _).drew
  replace HC := hide ((unhide HC).below hbd)
  replace HB := hide (Below.onto (unhide HB) hbd)
  replace HS := hide (Nat.le_trans (unhide HS) hbd.size)
  refine wp_region_noPanic ?_
  refine wp_region_held_drew (S := (fun X => Blk w.heap.size #[.int .i64 k, .int .i64 i, .int .i64 t, .bool m, .slice p ws.length cap, .string x] 26 X)) (by kernel_rfl) (unhide HC) (fun hHeld => ?_)
  clear hbd
  generalize (w.alloc (.cells #[.int .i64 k, .int .i64 i, .int .i64 t, .bool m, .slice p ws.length cap, .string x] 26)).drew = Wd at *
  refine wpAnyH_take (i := 0) (oi := ?oi20001) (v := ?v20001) ?hi20001 (by kernel_rfl) (by kernel_rfl) (by kernel_rfl) (fun _ _ _ h => h) (Or.inl ⟨?hw20001, ?hy20001⟩) (by assumption) ?rest20001
  case hi20001 => (simp only [List.getElem?_toArray, List.getElem?_cons_zero]; rfl)
  case hw20001 => rfl
  case hy20001 => first | (intro wx hSw; go_simp; done) | (intro wx hSw; go_simp; with_reducible rfl)
  simp only [Act.put, List.setIfInBounds_toArray, List.set_cons_zero, List.set_cons_succ]
  refine wpAnyH_take (i := 1) (oi := ?oi20002) (v := ?v20002) ?hi20002 (by kernel_rfl) (by kernel_rfl) (by kernel_rfl) (fun _ _ _ h => h) (Or.inl ⟨?hw20002, ?hy20002⟩) (by assumption) ?rest20002
  case hi20002 => (simp only [List.getElem?_toArray, List.getElem?_cons_zero, List.getElem?_cons_succ]; rfl)
  case hw20002 => rfl
  case hy20002 => first | (intro wx hSw; have q_ := Blk.cell hSw 0; simp at q_; go_simp; done) | (intro wx hSw; have q_ := Blk.cell hSw 0; simp at q_; go_simp; with_reducible rfl)
  simp only [Act.put, List.setIfInBounds_toArray, List.set_cons_zero, List.set_cons_succ]
  refine wpAnyH_take (i := 2) (oi := ?oi20003) (v := ?v20003) ?hi20003 (by kernel_rfl) (by kernel_rfl) (by kernel_rfl) (fun _ _ _ h => h) (Or.inl ⟨?hw20003, ?hy20003⟩) (by assumption) ?rest20003
  case hi20003 => (simp only [List.getElem?_toArray, List.getElem?_cons_zero, List.getElem?_cons_succ]; rfl)
  case hw20003 => rfl
  case hy20003 => first | (intro wx hSw; go_simp; done) | (intro wx hSw; go_simp; with_reducible rfl)
  simp only [Act.put, List.setIfInBounds_toArray, List.set_cons_zero, List.set_cons_succ]
  refine wpAnyH_take (i := 4) (oi := ?oi20004) (v := ?v20004) ?hi20004 (by kernel_rfl) (by kernel_rfl) (by kernel_rfl) (fun _ _ _ h => h) (Or.inl ⟨?hw20004, ?hy20004⟩) (by assumption) ?rest20004
  case hi20004 => (simp only [List.getElem?_toArray, List.getElem?_cons_zero, List.getElem?_cons_succ]; rfl)
  case hw20004 => rfl
  case hy20004 => first | (intro wx hSw; go_simp; done) | (intro wx hSw; go_simp; with_reducible rfl)
  simp only [Act.put, List.setIfInBounds_toArray, List.set_cons_zero, List.set_cons_succ]
  refine wpAnyH_take (i := 5) (oi := ?oi20005) (v := ?v20005) ?hi20005 (by kernel_rfl) (by kernel_rfl) (by kernel_rfl) (fun _ _ _ h => h) (Or.inl ⟨?hw20005, ?hy20005⟩) (by assumption) ?rest20005
  case hi20005 => (simp only [List.getElem?_toArray, List.getElem?_cons_zero, List.getElem?_cons_succ]; rfl)
  case hw20005 => rfl
  case hy20005 => first | (intro wx hSw; have q_ := Blk.cell hSw 1; simp at q_; go_simp; done) | (intro wx hSw; have q_ := Blk.cell hSw 1; simp at q_; go_simp; with_reducible rfl)
  simp only [Act.put, List.setIfInBounds_toArray, List.set_cons_zero, List.set_cons_succ]
  refine wpAnyH_take (i := 7) (oi := ?oi20006) (v := ?v20006) ?hi20006 (by kernel_rfl) (by kernel_rfl) (by kernel_rfl) (fun _ _ _ h => h) (Or.inl ⟨?hw20006, ?hy20006⟩) (by assumption) ?rest20006
  case hi20006 => (simp only [List.getElem?_toArray, List.getElem?_cons_zero, List.getElem?_cons_succ]; rfl)
  case hw20006 => rfl
  case hy20006 => first | (intro wx hSw; go_simp; done) | (intro wx hSw; go_simp; with_reducible rfl)
  simp only [Act.put, List.setIfInBounds_toArray, List.set_cons_zero, List.set_cons_succ]
  refine wpAnyH_take (i := 8) (oi := ?oi20007) (v := ?v20007) ?hi20007 (by kernel_rfl) (by kernel_rfl) (by kernel_rfl) (fun _ _ _ h => h) (Or.inl ⟨?hw20007, ?hy20007⟩) (by assumption) ?rest20007
  case hi20007 => (simp only [List.getElem?_toArray, List.getElem?_cons_zero, List.getElem?_cons_succ]; rfl)
  case hw20007 => rfl
  case hy20007 => first | (intro wx hSw; have q_ := Blk.cell hSw 2; simp at q_; go_simp; done) | (intro wx hSw; have q_ := Blk.cell hSw 2; simp at q_; go_simp; with_reducible rfl)
  simp only [Act.put, List.setIfInBounds_toArray, List.set_cons_zero, List.set_cons_succ]
  refine wpAnyH_ready (rs := [3]) (by kernel_rfl) (by simp) ?_
  refine AllReadyH.cons rfl (fun K20008 hK20008 => ?_) AllReadyH.nil
  go_simp
  have HO : Hid (OwnB (Wd.alloc (.cells #[.int .u8 49, .int .u8 ((bt k).toNat : Int)] 5)) (w.heap.size + 1) (.slice (some ⟨Wd.heap.size, 0, none⟩) 2 2) [49, bt k]) := hide (ownB_new2 Wd (w.heap.size + 1) (unhide HS) 49 (bt k))
  have hbn := below_new Wd (.cells #[.int .u8 49, .int .u8 ((bt k).toNat : Int)] 5)
  replace HC := hide ((unhide HC).below hbn); replace HB := hide (Below.onto (unhide HB) hbn); replace HS := hide (Nat.le_trans (unhide HS) hbn.size)
  generalize Wd.alloc (.cells #[.int .u8 49, .int .u8 ((bt k).toNat : Int)] 5) = Y0 at *
  clear hbn
  refine hK20008.out _ _ ?hs20008 (fun hHeld20008 => ?_)
  case hs20008 => exact unhide HC
  clear hHeld
  have hHeld := hHeld20008; clear hHeld20008 hK20008 K20008
  refine wpAnyH_ready (rs := [6]) (by kernel_rfl) (by simp) ?_
  refine AllReadyH.cons rfl (fun K20009 hK20009 => ?_) AllReadyH.nil
  go_simp
  go_wp2_with (go_at_call 40; refine (rfix8 i _ (w.heap.size + 1) _ _ hI (unhide HO) (unhide HS) (by simp only [List.length_append, fx_len, List.length_cons, List.length_nil, by8_len]; omega)).mono ?_; rintro e W2 ⟨v2, rfl, ow2, hk2⟩)
  have gr2 := hk2.grown; clear hk2
  replace HC := hide ((unhide HC).gr gr2 (ob_ne (unhide HO) (unhide HC) (by decide)))
  replace HB := hide (below_gr (unhide HB) (unhide HO) (by omega) (unhide HS) gr2)
  replace HS := hide (Nat.le_trans (unhide HS) gr2.size)
  replace HO := hide ow2
  clear gr2 ow2
  refine hK20009.out _ _ ?hs20009 (fun hHeld20009 => ?_)
  case hs20009 => exact unhide HC
  clear hHeld
  have hHeld := hHeld20009; clear hHeld20009 hK20009 K20009
  refine wpAnyH_ready (rs := [9]) (by kernel_rfl) (by simp) ?_
  refine AllReadyH.cons rfl (fun K20010 hK20010 => ?_) AllReadyH.nil
  go_simp
  go_wp2_with (go_at_call 40; refine (rfix8 t _ (w.heap.size + 1) _ _ hT (unhide HO) (unhide HS) (by simp only [List.length_append, fx_len, List.length_cons, List.length_nil, by8_len]; omega)).mono ?_; rintro e W4 ⟨v4, rfl, ow4, hk4⟩)
  have gr4 := hk4.grown; clear hk4
  replace HC := hide ((unhide HC).gr gr4 (ob_ne (unhide HO) (unhide HC) (by decide)))
  replace HB := hide (below_gr (unhide HB) (unhide HO) (by omega) (unhide HS) gr4)
  replace HS := hide (Nat.le_trans (unhide HS) gr4.size)
  replace HO := hide ow4
  clear gr4 ow4
  refine hK20010.out _ _ ?hs20010 (fun hHeld20010 => ?_)
  case hs20010 => exact unhide HC
  clear hHeld
  have hHeld := hHeld20010; clear hHeld20010 hK20010 K20010
  refine wpAnyH_ready (rs := [10]) (by kernel_rfl) (by simp) ?_
  refine AllReadyH.cons rfl (fun K20011 hK20011 => ?_) AllReadyH.nil
  go_simp
  refine hK20011.out _ _ ?hs20011 (fun hHeld20011 => ?_)
  case hs20011 => exact unhide HC
  clear hHeld
  have hHeld := hHeld20011; clear hHeld20011 hK20011 K20011
  refine wpAnyH_done (by kernel_rfl) ?_ _
  refine NoPanic.normal ?_
  refine hrest _ _ ?_
  clear hHeld
  go_wp2
  rename_i hrest
  have hbd : Below W4.heap.size W4 W4.drew := (Below.refl _ _).drew
  replace HC := hide ((unhide HC).below hbd)
  replace HB := hide (Below.onto (unhide HB) hbd)
  replace HS := hide (Nat.le_trans (unhide HS) hbd.size)
  replace HO := hide (OwnB.below (unhide HO) hbd)
  refine wp_region_noPanic ?_
  refine wp_region_held_drew (S := (fun X => Blk w.heap.size #[.int .i64 k, .int .i64 i, .int .i64 t, .bool m, .slice p ws.length cap, .string x] 26 X)) (by kernel_rfl) (unhide HC) (fun hHeld => ?_)
  clear hbd
  generalize W4.drew = Z5 at *
  refine wpAnyH_take (i := 0) (oi := ?oi20012) (v := ?v20012) ?hi20012 (by kernel_rfl) (by kernel_rfl) (by kernel_rfl) (fun _ _ _ h => h) (Or.inl ⟨?hw20012, ?hy20012⟩) (by assumption) ?rest20012
  case hi20012 => (simp only [List.getElem?_toArray, List.getElem?_cons_zero]; rfl)
  case hw20012 => rfl
  case hy20012 => first | (intro wx hSw; go_simp; done) | (intro wx hSw; go_simp; with_reducible rfl)
  simp only [Act.put, List.setIfInBounds_toArray, List.set_cons_zero, List.set_cons_succ]
  refine wpAnyH_take (i := 1) (oi := ?oi20013) (v := ?v20013) ?hi20013 (by kernel_rfl) (by kernel_rfl) (by kernel_rfl) (fun _ _ _ h => h) (Or.inl ⟨?hw20013, ?hy20013⟩) (by assumption) ?rest20013
  case hi20013 => (simp only [List.getElem?_toArray, List.getElem?_cons_zero, List.getElem?_cons_succ]; rfl)
  case hw20013 => rfl
  case hy20013 => first | (intro wx hSw; go_simp; done) | (intro wx hSw; go_simp; with_reducible rfl)
  simp only [Act.put, List.setIfInBounds_toArray, List.set_cons_zero, List.set_cons_succ]
  refine wpAnyH_take (i := 2) (oi := ?oi20014) (v := ?v20014) ?hi20014 (by kernel_rfl) (by kernel_rfl) (by kernel_rfl) (fun _ _ _ h => h) (Or.inl ⟨?hw20014, ?hy20014⟩) (by assumption) ?rest20014
  case hi20014 => (simp only [List.getElem?_toArray, List.getElem?_cons_zero, List.getElem?_cons_succ]; rfl)
  case hw20014 => rfl
  case hy20014 => first | (intro wx hSw; have q_ := Blk.cell hSw 3; simp at q_; go_simp; done) | (intro wx hSw; have q_ := Blk.cell hSw 3; simp at q_; go_simp; with_reducible rfl)
  simp only [Act.put, List.setIfInBounds_toArray, List.set_cons_zero, List.set_cons_succ]
  refine wpAnyH_take (i := 6) (oi := ?oi20015) (v := ?v20015) ?hi20015 (by kernel_rfl) (by kernel_rfl) (by kernel_rfl) (fun _ _ _ h => h) (Or.inl ⟨?hw20015, ?hy20015⟩) (by assumption) ?rest20015
  case hi20015 => (simp only [List.getElem?_toArray, List.getElem?_cons_zero, List.getElem?_cons_succ]; rfl)
  case hw20015 => rfl
  case hy20015 => first | (intro wx hSw; go_simp; done) | (intro wx hSw; go_simp; with_reducible rfl)
  simp only [Act.put, List.setIfInBounds_toArray, List.set_cons_zero, List.set_cons_succ]
  refine wpAnyH_take (i := 7) (oi := ?oi20016) (v := ?v20016) ?hi20016 (by kernel_rfl) (by kernel_rfl) (by kernel_rfl) (fun _ _ _ h => h) (Or.inl ⟨?hw20016, ?hy20016⟩) (by assumption) ?rest20016
  case hi20016 => (simp only [List.getElem?_toArray, List.getElem?_cons_zero, List.getElem?_cons_succ]; rfl)
  case hw20016 => rfl
  case hy20016 => first | (intro wx hSw; have q_ := Blk.cell hSw 4; simp at q_; go_simp; done) | (intro wx hSw; have q_ := Blk.cell hSw 4; simp at q_; go_simp; with_reducible rfl)
  simp only [Act.put, List.setIfInBounds_toArray, List.set_cons_zero, List.set_cons_succ]
  refine wpAnyH_take (i := 8) (oi := ?oi20017) (v := ?v20017) ?hi20017 (by kernel_rfl) (by kernel_rfl) (by kernel_rfl) (fun _ _ _ h => h) (Or.inl ⟨?hw20017, ?hy20017⟩) (by assumption) ?rest20017
  case hi20017 => (simp only [List.getElem?_toArray, List.getElem?_cons_zero, List.getElem?_cons_succ]; rfl)
  case hw20017 => rfl
  case hy20017 => first | (intro wx hSw; go_simp; done) | (intro wx hSw; go_simp; with_reducible rfl)
  simp only [Act.put, List.setIfInBounds_toArray, List.set_cons_zero, List.set_cons_succ]
  refine wpAnyH_ready (rs := [3]) (by kernel_rfl) (by simp) ?_
  refine AllReadyH.cons rfl (fun K20018 hK20018 => ?_) AllReadyH.nil
  go_simp
  go_wp2_with (go_at_call 41; refine (unhide CB _).mono ?_; rintro e X2 ⟨rfl, hX2⟩; replace hX2 := hX2.symm; subst hX2)
  refine hK20018.out _ _ ?hs20018 (fun hHeld20018 => ?_)
  case hs20018 => exact unhide HC
  clear hHeld
  have hHeld := hHeld20018; clear hHeld20018 hK20018 K20018
  refine wpAnyH_ready (rs := [4]) (by kernel_rfl) (by simp) ?_
  refine AllReadyH.cons rfl (fun K20019 hK20019 => ?_) AllReadyH.nil
  go_simp
  have hbn := below_new Z5 (.cells #[.int .u8 (ym.toNat : Int)] 5)
  have HO1 := HO
  have HS1 := HS
  replace HC := hide ((unhide HC).below hbn)
  replace HB := hide (Below.onto (unhide HB) hbn)
  replace HS := hide (Nat.le_trans (unhide HS) hbn.size)
  replace HO := hide (OwnB.below (unhide HO) hbn)
  clear hbn
  refine hK20019.out _ _ ?hs20019 (fun hHeld20019 => ?_)
  case hs20019 => exact unhide HC
  clear hHeld
  have hHeld := hHeld20019; clear hHeld20019 hK20019 K20019
  refine wpAnyH_ready (rs := [5]) (by kernel_rfl) (by simp) ?_
  refine AllReadyH.cons rfl (fun K20020 hK20020 => ?_) AllReadyH.nil
  refine step_app1 rfl _ _ rfl Z5 ym (w.heap.size + 1) v4 _ (unhide HO1) rfl rfl (by simp only [List.length_append, fx_len, List.length_cons, List.length_nil, by8_len]; omega) (unhide HS1) ?_
  intro v6 W6 ow6 gr6
  change K20020 (Act.put _ (some 21) _) _
  simp only [Act.put, List.setIfInBounds_toArray, List.set_cons_zero, List.set_cons_succ]
  clear HO1 HS1
  replace HC := hide ((unhide HC).gr gr6 (ob_ne (unhide HO) (unhide HC) (by decide)))
  replace HB := hide (below_gr (unhide HB) (unhide HO) (by omega) (unhide HS) gr6)
  replace HS := hide (Nat.le_trans (unhide HS) gr6.size)
  replace HO := hide ow6
  clear gr6 ow6
  refine hK20020.out _ _ ?hs20020 (fun hHeld20020 => ?_)
  case hs20020 => exact unhide HC
  clear hHeld
  have hHeld := hHeld20020; clear hHeld20020 hK20020 K20020
  refine wpAnyH_ready (rs := [9]) (by kernel_rfl) (by simp) ?_
  refine AllReadyH.cons rfl (fun K20021 hK20021 => ?_) AllReadyH.nil
  go_simp
  go_wp2_with (go_at_call 40; refine (rfix2 (ws.length : Int) _ (w.heap.size + 1) _ _ hL (unhide HO) (unhide HS) (by simp only [List.length_append, fx_len, List.length_cons, List.length_nil, by8_len]; omega)).mono ?_; rintro e W8 ⟨v8, rfl, ow8, hk8⟩)
  have gr8 := hk8.grown; clear hk8
  replace HC := hide ((unhide HC).gr gr8 (ob_ne (unhide HO) (unhide HC) (by decide)))
  replace HB := hide (below_gr (unhide HB) (unhide HO) (by omega) (unhide HS) gr8)
  replace HS := hide (Nat.le_trans (unhide HS) gr8.size)
  replace HO := hide ow8
  clear gr8 ow8
  refine hK20021.out _ _ ?hs20021 (fun hHeld20021 => ?_)
  case hs20021 => exact unhide HC
  clear hHeld
  have hHeld := hHeld20021; clear hHeld20021 hK20021 K20021
  refine wpAnyH_ready (rs := [10]) (by kernel_rfl) (by simp) ?_
  refine AllReadyH.cons rfl (fun K20022 hK20022 => ?_) AllReadyH.nil
  go_simp
  refine hK20022.out _ _ ?hs20022 (fun hHeld20022 => ?_)
  case hs20022 => exact unhide HC
  clear hHeld
  have hHeld := hHeld20022; clear hHeld20022 hK20022 K20022
  refine wpAnyH_done (by kernel_rfl) ?_ _
  refine NoPanic.normal ?_
  refine hrest _ _ ?_
  clear hHeld
  go_wp2
  have HE : Hid (enc1 ⟨k, i, t, m, ws, x⟩ = ([49, bt k] ++ fx 8 i ++ fx 8 t ++ [ym] ++ fx 2 (ws.length : Int)) ++ ws.flatMap wr1) := by
    show _ = _
    simp only [enc1, ls, fx2]
    rw [unhide hk3, unhide HYM]
    simp
  have hdl : ([49, bt k] ++ fx 8 i ++ fx 8 t ++ [ym] ++ fx 2 (ws.length : Int)).length = 21 := by simp [fx_len]
  generalize [49, bt k] ++ fx 8 i ++ fx 8 t ++ [ym] ++ fx 2 (ws.length : Int) = HD at *
  generalize W8 = Wl at *
  go_loopw [3, 4] (fun b j wr => ∃ n : Nat, n ≤ ws.length ∧ j = .int .i64 (n : Int) ∧ Hid (OwnB wr (w.heap.size + 1) b (HD ++ (ws.take n).flatMap wr1)) ∧ Hid (Blk w.heap.size #[.int .i64 k, .int .i64 i, .int .i64 t, .bool m, .slice p ws.length cap, .string x] 26 wr) ∧ Hid (Below w.heap.size w wr) ∧ Hid (w.heap.size + 1 ≤ wr.heap.size)) (fun b j wr => ws.length - (intOf j).toNat)
  case atStart => exact ⟨0, Nat.zero_le _, rfl, by simpa using HO, HC, HB, HS⟩
  case round =>
    clear HO HC HB HS
    obtain ⟨n, hn, rfl, HO, HC, HB, HS⟩ := hrel
    have y4_ := (unhide HC).cell 4
    have yl_ := (unhide HC).lt
    simp at y4_
    by_cases hlt : n < ws.length
    · obtain ⟨gw, o2, hp, hat⟩ := (unhide HW0).below (unhide HB)
      obtain rfl := hp (by omega)
      obtain ⟨⟨e0_, e1_, e2_⟩, _⟩ := hat n hlt
      have hwk : IntKind.i64.wrap ((n : Int) * 3) = (n : Int) * 3 := IntWalk.i64_in _ (by omega)
      have HF := hide (flat_take wr1 ws n hlt)
      have t1 := flat_len wr1 ws n hlt
      have hw := unhide HWS ws[n] (List.getElem_mem hlt)
      rw [show (wr1 ws[n]).length = 5 + ws[n].k.size + ws[n].v.size by unfold wr1 tx fx2; simp only [List.length_append, fx_len, by8_len, fl, List.length_cons, List.length_nil]; omega] at t1
      clear hp hat
      generalize ws[n] = y at *
      obtain ⟨kk, vv, gg⟩ := y
      simp only at hw e0_ e1_ e2_ t1
      obtain ⟨yg, hyg, hygv⟩ := fl_byte gg
      have CG := hide (fun W => rbit_y gg yg hygv W)
      have HYG := hide hyg
      have hkk : Is64 (kk.size : Int) := by unfold Is64; omega
      have hvv : Is64 (vv.size : Int) := by unfold Is64; omega
      obtain ⟨FT, hFT⟩ : ∃ l, (ws.take n).flatMap wr1 = l := ⟨_, rfl⟩
      rw [hFT] at t1 HO HF
      clear hyg hygv hFT
      have hw1 : kk.size ≤ 300 := by omega
      have hw2 : vv.size ≤ 4000 := by omega
      clear hw
      have HV := hide (Blk.new wr #[.string kk, .string vv, .bool gg] 40)
      have hbn := below_new wr (.cells #[.string kk, .string vv, .bool gg] 40)
      replace HC := hide ((unhide HC).below hbn)
      replace HB := hide (Below.onto (unhide HB) hbn)
      replace HS := hide (Nat.le_trans (unhide HS) hbn.size)
      replace HO := hide (OwnB.below (unhide HO) hbn)
      clear hbn
      go_wp2
      rename_i hrest
      have hbd : Below (wr.alloc (.cells #[.string kk, .string vv, .bool gg] 40)).heap.size (wr.alloc (.cells #[.string kk, .string vv, .bool gg] 40)) (wr.alloc (.cells #[.string kk, .string vv, .bool gg] 40)).drew := (Below.refl _ _).drew
      replace HV := hide ((unhide HV).below hbd)
      replace HC := hide ((unhide HC).below hbd)
      replace HB := hide (Below.onto (unhide HB) hbd)
      replace HS := hide (Nat.le_trans (unhide HS) hbd.size)
      replace HO := hide (OwnB.below (unhide HO) hbd)
      refine wp_region_noPanic ?_
      refine wp_region_held_drew (S := (fun X => Blk wr.heap.size #[.string kk, .string vv, .bool gg] 40 X)) (by kernel_rfl) (unhide HV) (fun hHeld => ?_)
      clear hbd y4_ yl_ e0_ e1_ e2_
      generalize (wr.alloc (.cells #[.string kk, .string vv, .bool gg] 40)).drew = Z7 at *
      have hlw : wr.heap.size = wr.heap.size := rfl
      refine wpAnyH_take (i := 0) (oi := ?oi20023) (v := ?v20023) ?hi20023 (by kernel_rfl) (by kernel_rfl) (by kernel_rfl) (fun _ _ _ h => h) (Or.inl ⟨?hw20023, ?hy20023⟩) (by assumption) ?rest20023
      case hi20023 => (simp only [List.getElem?_toArray, List.getElem?_cons_zero]; rfl)
      case hw20023 => rfl
      case hy20023 => first | (intro wx hSw; go_simp; done) | (intro wx hSw; go_simp; with_reducible rfl)
      simp only [Act.put, List.setIfInBounds_toArray, List.set_cons_zero, List.set_cons_succ]
      refine wpAnyH_take (i := 1) (oi := ?oi20024) (v := ?v20024) ?hi20024 (by kernel_rfl) (by kernel_rfl) (by kernel_rfl) (fun _ _ _ h => h) (Or.inl ⟨?hw20024, ?hy20024⟩) (by assumption) ?rest20024
      case hi20024 => (simp only [List.getElem?_toArray, List.getElem?_cons_zero, List.getElem?_cons_succ]; rfl)
      case hw20024 => rfl
      case hy20024 => first | (intro wx hSw; go_simp; done) | (intro wx hSw; go_simp; with_reducible rfl)
      simp only [Act.put, List.setIfInBounds_toArray, List.set_cons_zero, List.set_cons_succ]
      refine wpAnyH_take (i := 2) (oi := ?oi20025) (v := ?v20025) ?hi20025 (by kernel_rfl) (by kernel_rfl) (by kernel_rfl) (fun _ _ _ h => h) (Or.inl ⟨?hw20025, ?hy20025⟩) (by assumption) ?rest20025
      case hi20025 => (simp only [List.getElem?_toArray, List.getElem?_cons_zero, List.getElem?_cons_succ]; rfl)
      case hw20025 => rfl
      case hy20025 => first | (intro wx hSw; have q_ := Blk.cell hSw 0; simp at q_; go_simp; done) | (intro wx hSw; have q_ := Blk.cell hSw 0; simp at q_; go_simp; with_reducible rfl)
      simp only [Act.put, List.setIfInBounds_toArray, List.set_cons_zero, List.set_cons_succ]
      refine wpAnyH_take (i := 3) (oi := ?oi20026) (v := ?v20026) ?hi20026 (by kernel_rfl) (by kernel_rfl) (by kernel_rfl) (fun _ _ _ h => h) (Or.inl ⟨?hw20026, ?hy20026⟩) (by assumption) ?rest20026
      case hi20026 => (simp only [List.getElem?_toArray, List.getElem?_cons_zero, List.getElem?_cons_succ]; rfl)
      case hw20026 => rfl
      case hy20026 => first | (intro wx hSw; go_simp; done) | (intro wx hSw; go_simp; with_reducible rfl)
      simp only [Act.put, List.setIfInBounds_toArray, List.set_cons_zero, List.set_cons_succ]
      refine wpAnyH_take (i := 5) (oi := ?oi20027) (v := ?v20027) ?hi20027 (by kernel_rfl) (by kernel_rfl) (by kernel_rfl) (fun _ _ _ h => h) (Or.inl ⟨?hw20027, ?hy20027⟩) (by assumption) ?rest20027
      case hi20027 => (simp only [List.getElem?_toArray, List.getElem?_cons_zero, List.getElem?_cons_succ]; rfl)
      case hw20027 => rfl
      case hy20027 => first | (intro wx hSw; go_simp; done) | (intro wx hSw; go_simp; with_reducible rfl)
      simp only [Act.put, List.setIfInBounds_toArray, List.set_cons_zero, List.set_cons_succ]
      refine wpAnyH_take (i := 6) (oi := ?oi20028) (v := ?v20028) ?hi20028 (by kernel_rfl) (by kernel_rfl) (by kernel_rfl) (fun _ _ _ h => h) (Or.inl ⟨?hw20028, ?hy20028⟩) (by assumption) ?rest20028
      case hi20028 => (simp only [List.getElem?_toArray, List.getElem?_cons_zero, List.getElem?_cons_succ]; rfl)
      case hw20028 => rfl
      case hy20028 => first | (intro wx hSw; have q_ := Blk.cell hSw 0; simp at q_; go_simp; done) | (intro wx hSw; have q_ := Blk.cell hSw 0; simp at q_; go_simp; with_reducible rfl)
      simp only [Act.put, List.setIfInBounds_toArray, List.set_cons_zero, List.set_cons_succ]
      refine wpAnyH_ready (rs := [4, 7]) (by kernel_rfl) (by simp) ?_
      refine AllReadyH.cons rfl (fun K20029 hK20029 => ?_) ?_
      · go_simp
        go_wp2_with (go_at_call 40; refine (rfix2 (kk.size : Int) _ (w.heap.size + 1) _ _ hkk (unhide HO) (unhide HS) (by simp only [List.length_append, fx_len, List.length_cons, List.length_nil, by8_len]; omega)).mono ?_; rintro e W9 ⟨v9, rfl, ow9, hk9⟩)
        have gr9 := hk9.grown; clear hk9
        replace HV := hide ((unhide HV).gr gr9 (ob_ne (unhide HO) (unhide HV) (by decide)))
        replace HC := hide ((unhide HC).gr gr9 (ob_ne (unhide HO) (unhide HC) (by decide)))
        replace HB := hide (below_gr (unhide HB) (unhide HO) (by omega) (unhide HS) gr9)
        replace HS := hide (Nat.le_trans (unhide HS) gr9.size)
        replace HO := hide ow9
        clear gr9 ow9
        refine hK20029.out _ _ ?hs20029 (fun hHeld20029 => ?_)
        case hs20029 => exact unhide HV
        clear hHeld
        have hHeld := hHeld20029; clear hHeld20029 hK20029 K20029
        refine wpAnyH_ready (rs := [7]) (by kernel_rfl) (by simp) ?_
        refine AllReadyH.cons rfl (fun K20030 hK20030 => ?_) AllReadyH.nil
        obtain ⟨cv10, Wc10, hrun10, hcv10⟩ := conv_run kk W9
        go_simp
        obtain ⟨cb10, cc10, rfl, hc1, hc2, hcb, hmk, hcells⟩ := hcv10
        replace HV := hide ((unhide HV).below hcb)
        replace HC := hide ((unhide HC).below hcb)
        replace HB := hide (Below.onto (unhide HB) hcb)
        replace HS := hide (Nat.le_trans (unhide HS) hcb.size)
        replace HO := hide (OwnB.below (unhide HO) hcb)
        have HCV := hide hcells; have HMK := hide hmk; clear hcells hmk hc2 hc1 hcb hrun10
        refine hK20030.out _ _ ?hs20030 (fun hHeld20030 => ?_)
        case hs20030 => exact unhide HV
        clear hHeld
        have hHeld := hHeld20030; clear hHeld20030 hK20030 K20030
        refine wpAnyH_ready (rs := [8]) (by kernel_rfl) (by simp) ?_
        refine AllReadyH.cons rfl (fun K20031 hK20031 => ?_) AllReadyH.nil
        refine step_appT rfl _ _ rfl Wc10 (w.heap.size + 1) v9 _ kk ⟨cb10, 0, none⟩ cc10 (unhide HO) rfl rfl (fun j u hj => by rw [addr0]; exact unhide HCV j u hj) (by simp only [List.length_append, fx_len, List.length_cons, List.length_nil, by8_len]; omega) (unhide HS) ?_
        intro v11 W11 ow11 gr11
        change K20031 (Act.put _ (some 46) _) _
        simp only [Act.put, List.setIfInBounds_toArray, List.set_cons_zero, List.set_cons_succ]
        clear HCV HMK
        replace HV := hide ((unhide HV).gr gr11 (ob_ne (unhide HO) (unhide HV) (by decide)))
        replace HC := hide ((unhide HC).gr gr11 (ob_ne (unhide HO) (unhide HC) (by decide)))
        replace HB := hide (below_gr (unhide HB) (unhide HO) (by omega) (unhide HS) gr11)
        replace HS := hide (Nat.le_trans (unhide HS) gr11.size)
        replace HO := hide ow11
        clear gr11 ow11
        refine hK20031.out _ _ ?hs20031 (fun hHeld20031 => ?_)
        case hs20031 => exact unhide HV
        clear hHeld
        have hHeld := hHeld20031; clear hHeld20031 hK20031 K20031
        refine wpAnyH_ready (rs := [9]) (by kernel_rfl) (by simp) ?_
        refine AllReadyH.cons rfl (fun K20032 hK20032 => ?_) AllReadyH.nil
        go_simp
        refine hK20032.out _ _ ?hs20032 (fun hHeld20032 => ?_)
        case hs20032 => exact unhide HV
        clear hHeld
        have hHeld := hHeld20032; clear hHeld20032 hK20032 K20032
        refine wpAnyH_done (by kernel_rfl) ?_ _
        refine NoPanic.normal ?_
        refine hrest _ _ ?_
        clear hHeld
        have v1_ := (unhide HV).cell 1
        simp at v1_
        go_wp2
        rename_i hrest
        have hbd : Below W11.heap.size W11 W11.drew := (Below.refl _ _).drew
        replace HV := hide ((unhide HV).below hbd)
        replace HC := hide ((unhide HC).below hbd)
        replace HB := hide (Below.onto (unhide HB) hbd)
        replace HS := hide (Nat.le_trans (unhide HS) hbd.size)
        replace HO := hide (OwnB.below (unhide HO) hbd)
        refine wp_region_noPanic ?_
        refine wp_region_held_drew (S := (fun X => Blk wr.heap.size #[.string kk, .string vv, .bool gg] 40 X)) (by kernel_rfl) (unhide HV) (fun hHeld => ?_)
        clear hbd v1_
        generalize W11.drew = Z12 at *
        refine wpAnyH_take (i := 0) (oi := ?oi20033) (v := ?v20033) ?hi20033 (by kernel_rfl) (by kernel_rfl) (by kernel_rfl) (fun _ _ _ h => h) (Or.inl ⟨?hw20033, ?hy20033⟩) (by assumption) ?rest20033
        case hi20033 => (simp only [List.getElem?_toArray, List.getElem?_cons_zero]; rfl)
        case hw20033 => rfl
        case hy20033 => first | (intro wx hSw; go_simp; done) | (intro wx hSw; go_simp; with_reducible rfl)
        simp only [Act.put, List.setIfInBounds_toArray, List.set_cons_zero, List.set_cons_succ]
        refine wpAnyH_take (i := 1) (oi := ?oi20034) (v := ?v20034) ?hi20034 (by kernel_rfl) (by kernel_rfl) (by kernel_rfl) (fun _ _ _ h => h) (Or.inl ⟨?hw20034, ?hy20034⟩) (by assumption) ?rest20034
        case hi20034 => (simp only [List.getElem?_toArray, List.getElem?_cons_zero, List.getElem?_cons_succ]; rfl)
        case hw20034 => rfl
        case hy20034 => first | (intro wx hSw; go_simp; done) | (intro wx hSw; go_simp; with_reducible rfl)
        simp only [Act.put, List.setIfInBounds_toArray, List.set_cons_zero, List.set_cons_succ]
        refine wpAnyH_take (i := 2) (oi := ?oi20035) (v := ?v20035) ?hi20035 (by kernel_rfl) (by kernel_rfl) (by kernel_rfl) (fun _ _ _ h => h) (Or.inl ⟨?hw20035, ?hy20035⟩) (by assumption) ?rest20035
        case hi20035 => (simp only [List.getElem?_toArray, List.getElem?_cons_zero, List.getElem?_cons_succ]; rfl)
        case hw20035 => rfl
        case hy20035 => first | (intro wx hSw; have q_ := Blk.cell hSw 1; simp at q_; go_simp; done) | (intro wx hSw; have q_ := Blk.cell hSw 1; simp at q_; go_simp; with_reducible rfl)
        simp only [Act.put, List.setIfInBounds_toArray, List.set_cons_zero, List.set_cons_succ]
        refine wpAnyH_take (i := 3) (oi := ?oi20036) (v := ?v20036) ?hi20036 (by kernel_rfl) (by kernel_rfl) (by kernel_rfl) (fun _ _ _ h => h) (Or.inl ⟨?hw20036, ?hy20036⟩) (by assumption) ?rest20036
        case hi20036 => (simp only [List.getElem?_toArray, List.getElem?_cons_zero, List.getElem?_cons_succ]; rfl)
        case hw20036 => rfl
        case hy20036 => first | (intro wx hSw; go_simp; done) | (intro wx hSw; go_simp; with_reducible rfl)
        simp only [Act.put, List.setIfInBounds_toArray, List.set_cons_zero, List.set_cons_succ]
        refine wpAnyH_take (i := 5) (oi := ?oi20037) (v := ?v20037) ?hi20037 (by kernel_rfl) (by kernel_rfl) (by kernel_rfl) (fun _ _ _ h => h) (Or.inl ⟨?hw20037, ?hy20037⟩) (by assumption) ?rest20037
        case hi20037 => (simp only [List.getElem?_toArray, List.getElem?_cons_zero, List.getElem?_cons_succ]; rfl)
        case hw20037 => rfl
        case hy20037 => first | (intro wx hSw; go_simp; done) | (intro wx hSw; go_simp; with_reducible rfl)
        simp only [Act.put, List.setIfInBounds_toArray, List.set_cons_zero, List.set_cons_succ]
        refine wpAnyH_take (i := 6) (oi := ?oi20038) (v := ?v20038) ?hi20038 (by kernel_rfl) (by kernel_rfl) (by kernel_rfl) (fun _ _ _ h => h) (Or.inl ⟨?hw20038, ?hy20038⟩) (by assumption) ?rest20038
        case hi20038 => (simp only [List.getElem?_toArray, List.getElem?_cons_zero, List.getElem?_cons_succ]; rfl)
        case hw20038 => rfl
        case hy20038 => first | (intro wx hSw; have q_ := Blk.cell hSw 1; simp at q_; go_simp; done) | (intro wx hSw; have q_ := Blk.cell hSw 1; simp at q_; go_simp; with_reducible rfl)
        simp only [Act.put, List.setIfInBounds_toArray, List.set_cons_zero, List.set_cons_succ]
        refine wpAnyH_ready (rs := [4, 7]) (by kernel_rfl) (by simp) ?_
        refine AllReadyH.cons rfl (fun K20039 hK20039 => ?_) ?_
        · go_simp
          go_wp2_with (go_at_call 40; refine (rfix2 (vv.size : Int) _ (w.heap.size + 1) _ _ hvv (unhide HO) (unhide HS) (by simp only [List.length_append, fx_len, List.length_cons, List.length_nil, by8_len]; omega)).mono ?_; rintro e W13 ⟨v13, rfl, ow13, hk13⟩)
          have gr13 := hk13.grown; clear hk13
          replace HV := hide ((unhide HV).gr gr13 (ob_ne (unhide HO) (unhide HV) (by decide)))
          replace HC := hide ((unhide HC).gr gr13 (ob_ne (unhide HO) (unhide HC) (by decide)))
          replace HB := hide (below_gr (unhide HB) (unhide HO) (by omega) (unhide HS) gr13)
          replace HS := hide (Nat.le_trans (unhide HS) gr13.size)
          replace HO := hide ow13
          clear gr13 ow13
          refine hK20039.out _ _ ?hs20039 (fun hHeld20039 => ?_)
          case hs20039 => exact unhide HV
          clear hHeld
          have hHeld := hHeld20039; clear hHeld20039 hK20039 K20039
          refine wpAnyH_ready (rs := [7]) (by kernel_rfl) (by simp) ?_
          refine AllReadyH.cons rfl (fun K20040 hK20040 => ?_) AllReadyH.nil
          obtain ⟨cv14, Wc14, hrun14, hcv14⟩ := conv_run vv W13
          go_simp
          obtain ⟨cb14, cc14, rfl, hc1, hc2, hcb, hmk, hcells⟩ := hcv14
          replace HV := hide ((unhide HV).below hcb)
          replace HC := hide ((unhide HC).below hcb)
          replace HB := hide (Below.onto (unhide HB) hcb)
          replace HS := hide (Nat.le_trans (unhide HS) hcb.size)
          replace HO := hide (OwnB.below (unhide HO) hcb)
          have HCV := hide hcells; have HMK := hide hmk; clear hcells hmk hc2 hc1 hcb hrun14
          refine hK20040.out _ _ ?hs20040 (fun hHeld20040 => ?_)
          case hs20040 => exact unhide HV
          clear hHeld
          have hHeld := hHeld20040; clear hHeld20040 hK20040 K20040
          refine wpAnyH_ready (rs := [8]) (by kernel_rfl) (by simp) ?_
          refine AllReadyH.cons rfl (fun K20041 hK20041 => ?_) AllReadyH.nil
          refine step_appT rfl _ _ rfl Wc14 (w.heap.size + 1) v13 _ vv ⟨cb14, 0, none⟩ cc14 (unhide HO) rfl rfl (fun j u hj => by rw [addr0]; exact unhide HCV j u hj) (by simp only [List.length_append, fx_len, List.length_cons, List.length_nil, by8_len]; omega) (unhide HS) ?_
          intro v15 W15 ow15 gr15
          change K20041 (Act.put _ (some 55) _) _
          simp only [Act.put, List.setIfInBounds_toArray, List.set_cons_zero, List.set_cons_succ]
          clear HCV HMK
          replace HV := hide ((unhide HV).gr gr15 (ob_ne (unhide HO) (unhide HV) (by decide)))
          replace HC := hide ((unhide HC).gr gr15 (ob_ne (unhide HO) (unhide HC) (by decide)))
          replace HB := hide (below_gr (unhide HB) (unhide HO) (by omega) (unhide HS) gr15)
          replace HS := hide (Nat.le_trans (unhide HS) gr15.size)
          replace HO := hide ow15
          clear gr15 ow15
          refine hK20041.out _ _ ?hs20041 (fun hHeld20041 => ?_)
          case hs20041 => exact unhide HV
          clear hHeld
          have hHeld := hHeld20041; clear hHeld20041 hK20041 K20041
          refine wpAnyH_ready (rs := [9]) (by kernel_rfl) (by simp) ?_
          refine AllReadyH.cons rfl (fun K20042 hK20042 => ?_) AllReadyH.nil
          go_simp
          refine hK20042.out _ _ ?hs20042 (fun hHeld20042 => ?_)
          case hs20042 => exact unhide HV
          clear hHeld
          have hHeld := hHeld20042; clear hHeld20042 hK20042 K20042
          refine wpAnyH_done (by kernel_rfl) ?_ _
          refine NoPanic.normal ?_
          refine hrest _ _ ?_
          clear hHeld
          have v2_ := (unhide HV).cell 2
          simp at v2_
          have hs9 := unhide HS
          go_wp2_with (first | (go_at_call 41; refine (unhide CG _).mono ?_; rintro e X2 ⟨rfl, hX2⟩; replace hX2 := hX2.symm; subst hX2) | (at_builtin; refine wpList_app1 rfl _ _ rfl W15 yg _ rfl (w.heap.size + 1) _ _ (unhide HO) rfl rfl (by simp only [List.length_append, fx_len, List.length_cons, List.length_nil, by8_len]; omega) hs9 ?_; intro g9 cap9 W9 ow9 hk9))
          have gr9 := hk9.grown
          have HC9 := hide ((unhide HC).gr gr9 (ob_ne (unhide HO) (unhide HC) (by decide)))
          have HB9 := hide (below_gr (unhide HB) (unhide HO) (by omega) hs9 gr9)
          go_roundw
          case rel =>
            refine ⟨n + 1, by omega, by go_num, ?_, HC9, HB9, hide (Nat.le_trans hs9 gr9.size)⟩
            show OwnB _ _ _ _
            rw [unhide HF]
            have e9 : wr1 ⟨kk, vv, gg⟩ = fx 2 (kk.size : Int) ++ (by8 kk ++ (fx 2 (vv.size : Int) ++ (by8 vv ++ [yg]))) := by
              unfold wr1 tx fx2; rw [unhide HYG]; simp
            rw [e9]
            simpa [hdl] using ow9
          case measure => simp [intOf] <;> omega
        refine AllReadyH.cons rfl (fun K20043 hK20043 => ?_) AllReadyH.nil
        · obtain ⟨cv17, Wc17, hrun17, hcv17⟩ := conv_run vv Z12
          go_simp
          obtain ⟨cb17, cc17, rfl, hc1, hc2, hcb, hmk, hcells⟩ := hcv17
          replace HV := hide ((unhide HV).below hcb)
          replace HC := hide ((unhide HC).below hcb)
          replace HB := hide (Below.onto (unhide HB) hcb)
          replace HS := hide (Nat.le_trans (unhide HS) hcb.size)
          replace HO := hide (OwnB.below (unhide HO) hcb)
          have HCV := hide hcells; have HMK := hide hmk; clear hcells hmk hc2 hc1 hcb hrun17
          refine hK20043.out _ _ ?hs20043 (fun hHeld20043 => ?_)
          case hs20043 => exact unhide HV
          clear hHeld
          have hHeld := hHeld20043; clear hHeld20043 hK20043 K20043
          refine wpAnyH_ready (rs := [4]) (by kernel_rfl) (by simp) ?_
          refine AllReadyH.cons rfl (fun K20044 hK20044 => ?_) AllReadyH.nil
          go_simp
          go_wp2_with (go_at_call 40; refine (rfix2 (vv.size : Int) _ (w.heap.size + 1) _ _ hvv (unhide HO) (unhide HS) (by simp only [List.length_append, fx_len, List.length_cons, List.length_nil, by8_len]; omega)).mono ?_; rintro e W18 ⟨v18, rfl, ow18, hk18⟩)
          have gr18 := hk18.grown; clear hk18
          replace HV := hide ((unhide HV).gr gr18 (ob_ne (unhide HO) (unhide HV) (by decide)))
          replace HC := hide ((unhide HC).gr gr18 (ob_ne (unhide HO) (unhide HC) (by decide)))
          replace HB := hide (below_gr (unhide HB) (unhide HO) (by omega) (unhide HS) gr18)
          replace HS := hide (Nat.le_trans (unhide HS) gr18.size)
          replace HCV := hide (conv_keep (unhide HCV) (unhide HMK).lt gr18 (ob_mark (unhide HO) (unhide HMK)))
          replace HMK := hide ((unhide HMK).gr gr18 (ob_mark (unhide HO) (unhide HMK)))
          replace HO := hide ow18
          clear gr18 ow18
          refine hK20044.out _ _ ?hs20044 (fun hHeld20044 => ?_)
          case hs20044 => exact unhide HV
          clear hHeld
          have hHeld := hHeld20044; clear hHeld20044 hK20044 K20044
          refine wpAnyH_ready (rs := [8]) (by kernel_rfl) (by simp) ?_
          refine AllReadyH.cons rfl (fun K20045 hK20045 => ?_) AllReadyH.nil
          refine step_appT rfl _ _ rfl W18 (w.heap.size + 1) v18 _ vv ⟨cb17, 0, none⟩ cc17 (unhide HO) rfl rfl (fun j u hj => by rw [addr0]; exact unhide HCV j u hj) (by simp only [List.length_append, fx_len, List.length_cons, List.length_nil, by8_len]; omega) (unhide HS) ?_
          intro v19 W19 ow19 gr19
          change K20045 (Act.put _ (some 55) _) _
          simp only [Act.put, List.setIfInBounds_toArray, List.set_cons_zero, List.set_cons_succ]
          clear HCV HMK
          replace HV := hide ((unhide HV).gr gr19 (ob_ne (unhide HO) (unhide HV) (by decide)))
          replace HC := hide ((unhide HC).gr gr19 (ob_ne (unhide HO) (unhide HC) (by decide)))
          replace HB := hide (below_gr (unhide HB) (unhide HO) (by omega) (unhide HS) gr19)
          replace HS := hide (Nat.le_trans (unhide HS) gr19.size)
          replace HO := hide ow19
          clear gr19 ow19
          refine hK20045.out _ _ ?hs20045 (fun hHeld20045 => ?_)
          case hs20045 => exact unhide HV
          clear hHeld
          have hHeld := hHeld20045; clear hHeld20045 hK20045 K20045
          refine wpAnyH_ready (rs := [9]) (by kernel_rfl) (by simp) ?_
          refine AllReadyH.cons rfl (fun K20046 hK20046 => ?_) AllReadyH.nil
          go_simp
          refine hK20046.out _ _ ?hs20046 (fun hHeld20046 => ?_)
          case hs20046 => exact unhide HV
          clear hHeld
          have hHeld := hHeld20046; clear hHeld20046 hK20046 K20046
          refine wpAnyH_done (by kernel_rfl) ?_ _
          refine NoPanic.normal ?_
          refine hrest _ _ ?_
          clear hHeld
          have v2_ := (unhide HV).cell 2
          simp at v2_
          have hs9 := unhide HS
          go_wp2_with (first | (go_at_call 41; refine (unhide CG _).mono ?_; rintro e X2 ⟨rfl, hX2⟩; replace hX2 := hX2.symm; subst hX2) | (at_builtin; refine wpList_app1 rfl _ _ rfl W19 yg _ rfl (w.heap.size + 1) _ _ (unhide HO) rfl rfl (by simp only [List.length_append, fx_len, List.length_cons, List.length_nil, by8_len]; omega) hs9 ?_; intro g9 cap9 W9 ow9 hk9))
          have gr9 := hk9.grown
          have HC9 := hide ((unhide HC).gr gr9 (ob_ne (unhide HO) (unhide HC) (by decide)))
          have HB9 := hide (below_gr (unhide HB) (unhide HO) (by omega) hs9 gr9)
          go_roundw
          case rel =>
            refine ⟨n + 1, by omega, by go_num, ?_, HC9, HB9, hide (Nat.le_trans hs9 gr9.size)⟩
            show OwnB _ _ _ _
            rw [unhide HF]
            have e9 : wr1 ⟨kk, vv, gg⟩ = fx 2 (kk.size : Int) ++ (by8 kk ++ (fx 2 (vv.size : Int) ++ (by8 vv ++ [yg]))) := by
              unfold wr1 tx fx2; rw [unhide HYG]; simp
            rw [e9]
            simpa [hdl] using ow9
          case measure => simp [intOf] <;> omega
      refine AllReadyH.cons rfl (fun K20047 hK20047 => ?_) AllReadyH.nil
      · obtain ⟨cv21, Wc21, hrun21, hcv21⟩ := conv_run kk Z7
        go_simp
        obtain ⟨cb21, cc21, rfl, hc1, hc2, hcb, hmk, hcells⟩ := hcv21
        replace HV := hide ((unhide HV).below hcb)
        replace HC := hide ((unhide HC).below hcb)
        replace HB := hide (Below.onto (unhide HB) hcb)
        replace HS := hide (Nat.le_trans (unhide HS) hcb.size)
        replace HO := hide (OwnB.below (unhide HO) hcb)
        have HCV := hide hcells; have HMK := hide hmk; clear hcells hmk hc2 hc1 hcb hrun21
        refine hK20047.out _ _ ?hs20047 (fun hHeld20047 => ?_)
        case hs20047 => exact unhide HV
        clear hHeld
        have hHeld := hHeld20047; clear hHeld20047 hK20047 K20047
        refine wpAnyH_ready (rs := [4]) (by kernel_rfl) (by simp) ?_
        refine AllReadyH.cons rfl (fun K20048 hK20048 => ?_) AllReadyH.nil
        go_simp
        go_wp2_with (go_at_call 40; refine (rfix2 (kk.size : Int) _ (w.heap.size + 1) _ _ hkk (unhide HO) (unhide HS) (by simp only [List.length_append, fx_len, List.length_cons, List.length_nil, by8_len]; omega)).mono ?_; rintro e W22 ⟨v22, rfl, ow22, hk22⟩)
        have gr22 := hk22.grown; clear hk22
        replace HV := hide ((unhide HV).gr gr22 (ob_ne (unhide HO) (unhide HV) (by decide)))
        replace HC := hide ((unhide HC).gr gr22 (ob_ne (unhide HO) (unhide HC) (by decide)))
        replace HB := hide (below_gr (unhide HB) (unhide HO) (by omega) (unhide HS) gr22)
        replace HS := hide (Nat.le_trans (unhide HS) gr22.size)
        replace HCV := hide (conv_keep (unhide HCV) (unhide HMK).lt gr22 (ob_mark (unhide HO) (unhide HMK)))
        replace HMK := hide ((unhide HMK).gr gr22 (ob_mark (unhide HO) (unhide HMK)))
        replace HO := hide ow22
        clear gr22 ow22
        refine hK20048.out _ _ ?hs20048 (fun hHeld20048 => ?_)
        case hs20048 => exact unhide HV
        clear hHeld
        have hHeld := hHeld20048; clear hHeld20048 hK20048 K20048
        refine wpAnyH_ready (rs := [8]) (by kernel_rfl) (by simp) ?_
        refine AllReadyH.cons rfl (fun K20049 hK20049 => ?_) AllReadyH.nil
        refine step_appT rfl _ _ rfl W22 (w.heap.size + 1) v22 _ kk ⟨cb21, 0, none⟩ cc21 (unhide HO) rfl rfl (fun j u hj => by rw [addr0]; exact unhide HCV j u hj) (by simp only [List.length_append, fx_len, List.length_cons, List.length_nil, by8_len]; omega) (unhide HS) ?_
        intro v23 W23 ow23 gr23
        change K20049 (Act.put _ (some 46) _) _
        simp only [Act.put, List.setIfInBounds_toArray, List.set_cons_zero, List.set_cons_succ]
        clear HCV HMK
        replace HV := hide ((unhide HV).gr gr23 (ob_ne (unhide HO) (unhide HV) (by decide)))
        replace HC := hide ((unhide HC).gr gr23 (ob_ne (unhide HO) (unhide HC) (by decide)))
        replace HB := hide (below_gr (unhide HB) (unhide HO) (by omega) (unhide HS) gr23)
        replace HS := hide (Nat.le_trans (unhide HS) gr23.size)
        replace HO := hide ow23
        clear gr23 ow23
        refine hK20049.out _ _ ?hs20049 (fun hHeld20049 => ?_)
        case hs20049 => exact unhide HV
        clear hHeld
        have hHeld := hHeld20049; clear hHeld20049 hK20049 K20049
        refine wpAnyH_ready (rs := [9]) (by kernel_rfl) (by simp) ?_
        refine AllReadyH.cons rfl (fun K20050 hK20050 => ?_) AllReadyH.nil
        go_simp
        refine hK20050.out _ _ ?hs20050 (fun hHeld20050 => ?_)
        case hs20050 => exact unhide HV
        clear hHeld
        have hHeld := hHeld20050; clear hHeld20050 hK20050 K20050
        refine wpAnyH_done (by kernel_rfl) ?_ _
        refine NoPanic.normal ?_
        refine hrest _ _ ?_
        clear hHeld
        have v1_ := (unhide HV).cell 1
        simp at v1_
        go_wp2
        rename_i hrest
        have hbd : Below W23.heap.size W23 W23.drew := (Below.refl _ _).drew
        replace HV := hide ((unhide HV).below hbd)
        replace HC := hide ((unhide HC).below hbd)
        replace HB := hide (Below.onto (unhide HB) hbd)
        replace HS := hide (Nat.le_trans (unhide HS) hbd.size)
        replace HO := hide (OwnB.below (unhide HO) hbd)
        refine wp_region_noPanic ?_
        refine wp_region_held_drew (S := (fun X => Blk wr.heap.size #[.string kk, .string vv, .bool gg] 40 X)) (by kernel_rfl) (unhide HV) (fun hHeld => ?_)
        clear hbd v1_
        generalize W23.drew = Z24 at *
        refine wpAnyH_take (i := 0) (oi := ?oi20051) (v := ?v20051) ?hi20051 (by kernel_rfl) (by kernel_rfl) (by kernel_rfl) (fun _ _ _ h => h) (Or.inl ⟨?hw20051, ?hy20051⟩) (by assumption) ?rest20051
        case hi20051 => (simp only [List.getElem?_toArray, List.getElem?_cons_zero]; rfl)
        case hw20051 => rfl
        case hy20051 => first | (intro wx hSw; go_simp; done) | (intro wx hSw; go_simp; with_reducible rfl)
        simp only [Act.put, List.setIfInBounds_toArray, List.set_cons_zero, List.set_cons_succ]
        refine wpAnyH_take (i := 1) (oi := ?oi20052) (v := ?v20052) ?hi20052 (by kernel_rfl) (by kernel_rfl) (by kernel_rfl) (fun _ _ _ h => h) (Or.inl ⟨?hw20052, ?hy20052⟩) (by assumption) ?rest20052
        case hi20052 => (simp only [List.getElem?_toArray, List.getElem?_cons_zero, List.getElem?_cons_succ]; rfl)
        case hw20052 => rfl
        case hy20052 => first | (intro wx hSw; go_simp; done) | (intro wx hSw; go_simp; with_reducible rfl)
        simp only [Act.put, List.setIfInBounds_toArray, List.set_cons_zero, List.set_cons_succ]
        refine wpAnyH_take (i := 2) (oi := ?oi20053) (v := ?v20053) ?hi20053 (by kernel_rfl) (by kernel_rfl) (by kernel_rfl) (fun _ _ _ h => h) (Or.inl ⟨?hw20053, ?hy20053⟩) (by assumption) ?rest20053
        case hi20053 => (simp only [List.getElem?_toArray, List.getElem?_cons_zero, List.getElem?_cons_succ]; rfl)
        case hw20053 => rfl
        case hy20053 => first | (intro wx hSw; have q_ := Blk.cell hSw 1; simp at q_; go_simp; done) | (intro wx hSw; have q_ := Blk.cell hSw 1; simp at q_; go_simp; with_reducible rfl)
        simp only [Act.put, List.setIfInBounds_toArray, List.set_cons_zero, List.set_cons_succ]
        refine wpAnyH_take (i := 3) (oi := ?oi20054) (v := ?v20054) ?hi20054 (by kernel_rfl) (by kernel_rfl) (by kernel_rfl) (fun _ _ _ h => h) (Or.inl ⟨?hw20054, ?hy20054⟩) (by assumption) ?rest20054
        case hi20054 => (simp only [List.getElem?_toArray, List.getElem?_cons_zero, List.getElem?_cons_succ]; rfl)
        case hw20054 => rfl
        case hy20054 => first | (intro wx hSw; go_simp; done) | (intro wx hSw; go_simp; with_reducible rfl)
        simp only [Act.put, List.setIfInBounds_toArray, List.set_cons_zero, List.set_cons_succ]
        refine wpAnyH_take (i := 5) (oi := ?oi20055) (v := ?v20055) ?hi20055 (by kernel_rfl) (by kernel_rfl) (by kernel_rfl) (fun _ _ _ h => h) (Or.inl ⟨?hw20055, ?hy20055⟩) (by assumption) ?rest20055
        case hi20055 => (simp only [List.getElem?_toArray, List.getElem?_cons_zero, List.getElem?_cons_succ]; rfl)
        case hw20055 => rfl
        case hy20055 => first | (intro wx hSw; go_simp; done) | (intro wx hSw; go_simp; with_reducible rfl)
        simp only [Act.put, List.setIfInBounds_toArray, List.set_cons_zero, List.set_cons_succ]
        refine wpAnyH_take (i := 6) (oi := ?oi20056) (v := ?v20056) ?hi20056 (by kernel_rfl) (by kernel_rfl) (by kernel_rfl) (fun _ _ _ h => h) (Or.inl ⟨?hw20056, ?hy20056⟩) (by assumption) ?rest20056
        case hi20056 => (simp only [List.getElem?_toArray, List.getElem?_cons_zero, List.getElem?_cons_succ]; rfl)
        case hw20056 => rfl
        case hy20056 => first | (intro wx hSw; have q_ := Blk.cell hSw 1; simp at q_; go_simp; done) | (intro wx hSw; have q_ := Blk.cell hSw 1; simp at q_; go_simp; with_reducible rfl)
        simp only [Act.put, List.setIfInBounds_toArray, List.set_cons_zero, List.set_cons_succ]
        refine wpAnyH_ready (rs := [4, 7]) (by kernel_rfl) (by simp) ?_
        refine AllReadyH.cons rfl (fun K20057 hK20057 => ?_) ?_
        · go_simp
          go_wp2_with (go_at_call 40; refine (rfix2 (vv.size : Int) _ (w.heap.size + 1) _ _ hvv (unhide HO) (unhide HS) (by simp only [List.length_append, fx_len, List.length_cons, List.length_nil, by8_len]; omega)).mono ?_; rintro e W25 ⟨v25, rfl, ow25, hk25⟩)
          have gr25 := hk25.grown; clear hk25
          replace HV := hide ((unhide HV).gr gr25 (ob_ne (unhide HO) (unhide HV) (by decide)))
          replace HC := hide ((unhide HC).gr gr25 (ob_ne (unhide HO) (unhide HC) (by decide)))
          replace HB := hide (below_gr (unhide HB) (unhide HO) (by omega) (unhide HS) gr25)
          replace HS := hide (Nat.le_trans (unhide HS) gr25.size)
          replace HO := hide ow25
          clear gr25 ow25
          refine hK20057.out _ _ ?hs20057 (fun hHeld20057 => ?_)
          case hs20057 => exact unhide HV
          clear hHeld
          have hHeld := hHeld20057; clear hHeld20057 hK20057 K20057
          refine wpAnyH_ready (rs := [7]) (by kernel_rfl) (by simp) ?_
          refine AllReadyH.cons rfl (fun K20058 hK20058 => ?_) AllReadyH.nil
          obtain ⟨cv26, Wc26, hrun26, hcv26⟩ := conv_run vv W25
          go_simp
          obtain ⟨cb26, cc26, rfl, hc1, hc2, hcb, hmk, hcells⟩ := hcv26
          replace HV := hide ((unhide HV).below hcb)
          replace HC := hide ((unhide HC).below hcb)
          replace HB := hide (Below.onto (unhide HB) hcb)
          replace HS := hide (Nat.le_trans (unhide HS) hcb.size)
          replace HO := hide (OwnB.below (unhide HO) hcb)
          have HCV := hide hcells; have HMK := hide hmk; clear hcells hmk hc2 hc1 hcb hrun26
          refine hK20058.out _ _ ?hs20058 (fun hHeld20058 => ?_)
          case hs20058 => exact unhide HV
          clear hHeld
          have hHeld := hHeld20058; clear hHeld20058 hK20058 K20058
          refine wpAnyH_ready (rs := [8]) (by kernel_rfl) (by simp) ?_
          refine AllReadyH.cons rfl (fun K20059 hK20059 => ?_) AllReadyH.nil
          refine step_appT rfl _ _ rfl Wc26 (w.heap.size + 1) v25 _ vv ⟨cb26, 0, none⟩ cc26 (unhide HO) rfl rfl (fun j u hj => by rw [addr0]; exact unhide HCV j u hj) (by simp only [List.length_append, fx_len, List.length_cons, List.length_nil, by8_len]; omega) (unhide HS) ?_
          intro v27 W27 ow27 gr27
          change K20059 (Act.put _ (some 55) _) _
          simp only [Act.put, List.setIfInBounds_toArray, List.set_cons_zero, List.set_cons_succ]
          clear HCV HMK
          replace HV := hide ((unhide HV).gr gr27 (ob_ne (unhide HO) (unhide HV) (by decide)))
          replace HC := hide ((unhide HC).gr gr27 (ob_ne (unhide HO) (unhide HC) (by decide)))
          replace HB := hide (below_gr (unhide HB) (unhide HO) (by omega) (unhide HS) gr27)
          replace HS := hide (Nat.le_trans (unhide HS) gr27.size)
          replace HO := hide ow27
          clear gr27 ow27
          refine hK20059.out _ _ ?hs20059 (fun hHeld20059 => ?_)
          case hs20059 => exact unhide HV
          clear hHeld
          have hHeld := hHeld20059; clear hHeld20059 hK20059 K20059
          refine wpAnyH_ready (rs := [9]) (by kernel_rfl) (by simp) ?_
          refine AllReadyH.cons rfl (fun K20060 hK20060 => ?_) AllReadyH.nil
          go_simp
          refine hK20060.out _ _ ?hs20060 (fun hHeld20060 => ?_)
          case hs20060 => exact unhide HV
          clear hHeld
          have hHeld := hHeld20060; clear hHeld20060 hK20060 K20060
          refine wpAnyH_done (by kernel_rfl) ?_ _
          refine NoPanic.normal ?_
          refine hrest _ _ ?_
          clear hHeld
          have v2_ := (unhide HV).cell 2
          simp at v2_
          have hs9 := unhide HS
          go_wp2_with (first | (go_at_call 41; refine (unhide CG _).mono ?_; rintro e X2 ⟨rfl, hX2⟩; replace hX2 := hX2.symm; subst hX2) | (at_builtin; refine wpList_app1 rfl _ _ rfl W27 yg _ rfl (w.heap.size + 1) _ _ (unhide HO) rfl rfl (by simp only [List.length_append, fx_len, List.length_cons, List.length_nil, by8_len]; omega) hs9 ?_; intro g9 cap9 W9 ow9 hk9))
          have gr9 := hk9.grown
          have HC9 := hide ((unhide HC).gr gr9 (ob_ne (unhide HO) (unhide HC) (by decide)))
          have HB9 := hide (below_gr (unhide HB) (unhide HO) (by omega) hs9 gr9)
          go_roundw
          case rel =>
            refine ⟨n + 1, by omega, by go_num, ?_, HC9, HB9, hide (Nat.le_trans hs9 gr9.size)⟩
            show OwnB _ _ _ _
            rw [unhide HF]
            have e9 : wr1 ⟨kk, vv, gg⟩ = fx 2 (kk.size : Int) ++ (by8 kk ++ (fx 2 (vv.size : Int) ++ (by8 vv ++ [yg]))) := by
              unfold wr1 tx fx2; rw [unhide HYG]; simp
            rw [e9]
            simpa [hdl] using ow9
          case measure => simp [intOf] <;> omega
        refine AllReadyH.cons rfl (fun K20061 hK20061 => ?_) AllReadyH.nil
        · obtain ⟨cv29, Wc29, hrun29, hcv29⟩ := conv_run vv Z24
          go_simp
          obtain ⟨cb29, cc29, rfl, hc1, hc2, hcb, hmk, hcells⟩ := hcv29
          replace HV := hide ((unhide HV).below hcb)
          replace HC := hide ((unhide HC).below hcb)
          replace HB := hide (Below.onto (unhide HB) hcb)
          replace HS := hide (Nat.le_trans (unhide HS) hcb.size)
          replace HO := hide (OwnB.below (unhide HO) hcb)
          have HCV := hide hcells; have HMK := hide hmk; clear hcells hmk hc2 hc1 hcb hrun29
          refine hK20061.out _ _ ?hs20061 (fun hHeld20061 => ?_)
          case hs20061 => exact unhide HV
          clear hHeld
          have hHeld := hHeld20061; clear hHeld20061 hK20061 K20061
          refine wpAnyH_ready (rs := [4]) (by kernel_rfl) (by simp) ?_
          refine AllReadyH.cons rfl (fun K20062 hK20062 => ?_) AllReadyH.nil
          go_simp
          go_wp2_with (go_at_call 40; refine (rfix2 (vv.size : Int) _ (w.heap.size + 1) _ _ hvv (unhide HO) (unhide HS) (by simp only [List.length_append, fx_len, List.length_cons, List.length_nil, by8_len]; omega)).mono ?_; rintro e W30 ⟨v30, rfl, ow30, hk30⟩)
          have gr30 := hk30.grown; clear hk30
          replace HV := hide ((unhide HV).gr gr30 (ob_ne (unhide HO) (unhide HV) (by decide)))
          replace HC := hide ((unhide HC).gr gr30 (ob_ne (unhide HO) (unhide HC) (by decide)))
          replace HB := hide (below_gr (unhide HB) (unhide HO) (by omega) (unhide HS) gr30)
          replace HS := hide (Nat.le_trans (unhide HS) gr30.size)
          replace HCV := hide (conv_keep (unhide HCV) (unhide HMK).lt gr30 (ob_mark (unhide HO) (unhide HMK)))
          replace HMK := hide ((unhide HMK).gr gr30 (ob_mark (unhide HO) (unhide HMK)))
          replace HO := hide ow30
          clear gr30 ow30
          refine hK20062.out _ _ ?hs20062 (fun hHeld20062 => ?_)
          case hs20062 => exact unhide HV
          clear hHeld
          have hHeld := hHeld20062; clear hHeld20062 hK20062 K20062
          refine wpAnyH_ready (rs := [8]) (by kernel_rfl) (by simp) ?_
          refine AllReadyH.cons rfl (fun K20063 hK20063 => ?_) AllReadyH.nil
          refine step_appT rfl _ _ rfl W30 (w.heap.size + 1) v30 _ vv ⟨cb29, 0, none⟩ cc29 (unhide HO) rfl rfl (fun j u hj => by rw [addr0]; exact unhide HCV j u hj) (by simp only [List.length_append, fx_len, List.length_cons, List.length_nil, by8_len]; omega) (unhide HS) ?_
          intro v31 W31 ow31 gr31
          change K20063 (Act.put _ (some 55) _) _
          simp only [Act.put, List.setIfInBounds_toArray, List.set_cons_zero, List.set_cons_succ]
          clear HCV HMK
          replace HV := hide ((unhide HV).gr gr31 (ob_ne (unhide HO) (unhide HV) (by decide)))
          replace HC := hide ((unhide HC).gr gr31 (ob_ne (unhide HO) (unhide HC) (by decide)))
          replace HB := hide (below_gr (unhide HB) (unhide HO) (by omega) (unhide HS) gr31)
          replace HS := hide (Nat.le_trans (unhide HS) gr31.size)
          replace HO := hide ow31
          clear gr31 ow31
          refine hK20063.out _ _ ?hs20063 (fun hHeld20063 => ?_)
          case hs20063 => exact unhide HV
          clear hHeld
          have hHeld := hHeld20063; clear hHeld20063 hK20063 K20063
          refine wpAnyH_ready (rs := [9]) (by kernel_rfl) (by simp) ?_
          refine AllReadyH.cons rfl (fun K20064 hK20064 => ?_) AllReadyH.nil
          go_simp
          refine hK20064.out _ _ ?hs20064 (fun hHeld20064 => ?_)
          case hs20064 => exact unhide HV
          clear hHeld
          have hHeld := hHeld20064; clear hHeld20064 hK20064 K20064
          refine wpAnyH_done (by kernel_rfl) ?_ _
          refine NoPanic.normal ?_
          refine hrest _ _ ?_
          clear hHeld
          have v2_ := (unhide HV).cell 2
          simp at v2_
          have hs9 := unhide HS
          go_wp2_with (first | (go_at_call 41; refine (unhide CG _).mono ?_; rintro e X2 ⟨rfl, hX2⟩; replace hX2 := hX2.symm; subst hX2) | (at_builtin; refine wpList_app1 rfl _ _ rfl W31 yg _ rfl (w.heap.size + 1) _ _ (unhide HO) rfl rfl (by simp only [List.length_append, fx_len, List.length_cons, List.length_nil, by8_len]; omega) hs9 ?_; intro g9 cap9 W9 ow9 hk9))
          have gr9 := hk9.grown
          have HC9 := hide ((unhide HC).gr gr9 (ob_ne (unhide HO) (unhide HC) (by decide)))
          have HB9 := hide (below_gr (unhide HB) (unhide HO) (by omega) hs9 gr9)
          go_roundw
          case rel =>
            refine ⟨n + 1, by omega, by go_num, ?_, HC9, HB9, hide (Nat.le_trans hs9 gr9.size)⟩
            show OwnB _ _ _ _
            rw [unhide HF]
            have e9 : wr1 ⟨kk, vv, gg⟩ = fx 2 (kk.size : Int) ++ (by8 kk ++ (fx 2 (vv.size : Int) ++ (by8 vv ++ [yg]))) := by
              unfold wr1 tx fx2; rw [unhide HYG]; simp
            rw [e9]
            simpa [hdl] using ow9
          case measure => simp [intOf] <;> omega
    · obtain rfl : n = ws.length := by omega
      rw [List.take_length] at HO
      go_wp2
      go_ret
      refine ⟨_, rfl, ?_, unhide HB⟩
      rw [unhide HE]
      exact ownsRow_lower (unhide HO) (by omega)
end Go.Proofs.Ytjmmfgmmmdbenaa
