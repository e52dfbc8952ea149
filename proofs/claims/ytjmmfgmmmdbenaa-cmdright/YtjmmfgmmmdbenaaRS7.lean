/-
  The reference's second: a command's bytes.
-/
import Derived.Test.YtjmmfgmmmdbenaaRC7
namespace Go.Proofs.Ytjmmfgmmmdbenaa
open Go.RowKit
set_option linter.unusedSimpArgs false
set_option linter.unusedVariables false

set_option maxRecDepth 100000 in
set_option maxHeartbeats 32000000 in
theorem rsecond_any (c : Cm) (v : Value) (w : World) (hv : CmV v c w) (hr : rightC c = true) (hid : c.id ≤ 9223372036854775807) (htx : c.txn ≤ 9223372036854775807) :
    Calls Try.prog 30 #[v] w fun e W' => ∃ v', e = .returned v' ∧ OwnB W' w.heap.size v' (enc2 c) ∧ Below w.heap.size w W' := by
  obtain ⟨p, cap, rfl, hw⟩ := hv
  obtain ⟨⟨r1, r2, r3, r4⟩, r5, r6, r7, r8, r9⟩ := rightC_of hr
  obtain ⟨k, i, t, m, ws, x⟩ := c
  simp only at *
  have HWS := hide (fun x (hx : x ∈ ws) => rightW_of (r9 x hx))
  have hb1 : (ws.flatMap wr1).length ≤ 8005000 := Nat.le_trans (flat_le wr1 ws 8005 (fun x hx => by have := unhide HWS x hx; have := wr1_len x (by omega) (by omega); omega)) (by have := Nat.mul_le_mul_right 8005 r8; omega)
  have hb2 : (ws.flatMap wr2).length ≤ 8019000 := Nat.le_trans (flat_le wr2 ws 8019 (fun x hx => by have := unhide HWS x hx; have := wr2_len x (by omega) (by omega); omega)) (by have := Nat.mul_le_mul_right 8019 r8; omega)
  have hI : Is64 i := by unfold Is64; omega
  have hT : Is64 t := by unfold Is64; omega
  have hi9 := sh_len9 i.toNat (by omega)
  have ht9 := sh_len9 t.toNat (by omega)
  have hl9 := sh_len9 ws.length (by omega)
  have hx9 := sh_len9 x.size (by omega)
  have hL : Is64 (ws.length : Int) := by unfold Is64; omega
  obtain ⟨ym, hym, hyv⟩ := fl_byte m
  have CB := hide (fun W => rbit_y m ym hyv W)
  have hu : IntKind.u8.wrap k = ((bt k).toNat : Int) := by show k % 256 = _; rw [bt_nat]
  have hk3 : Hid (fx 1 k = [bt k]) := by show _ = _; simp [fx]
  have HYM := hide hym
  have HW0 := hide hw
  have HC := hide (Blk.new w #[.int .i64 k, .int .i64 i, .int .i64 t, .bool m, .slice p ws.length cap, .string x] 26)
  have HB := hide (below_new w (.cells #[.int .i64 k, .int .i64 i, .int .i64 t, .bool m, .slice p ws.length cap, .string x] 26))
  have HS : Hid (w.heap.size + 1 ≤ (w.alloc (.cells #[.int .i64 k, .int .i64 i, .int .i64 t, .bool m, .slice p ws.length cap, .string x] 26)).heap.size) := hide (by simp)
  clear hr r5 r6 r9 hw hym hyv
  go_enter Try.func30, Try.ntmps30
  go_wp2
  rename_i hrest
  have hbd : Below (w.alloc (.cells #[.int .i64 k, .int .i64 i, .int .i64 t, .bool m, .slice p ws.length cap, .string x] 26)).heap.size (w.alloc (.cells #[.int .i64 k, .int .i64 i, .int .i64 t, .bool m, .slice p ws.length cap, .string x] 26)) (w.alloc (.cells #[.int .i64 k, .int .i64 i, .int .i64 t, .bool m, .slice p ws.length cap, .string x] 26)).drew := (Below.refl _ _).drew
  replace HC := hide ((unhide HC).below hbd)
  replace HB := hide (Below.onto (unhide HB) hbd)
  replace HS := hide (Nat.le_trans (unhide HS) hbd.size)
  refine wp_region_noPanic ?_
  refine wp_region_held_drew (S := (fun X => Blk w.heap.size #[.int .i64 k, .int .i64 i, .int .i64 t, .bool m, .slice p ws.length cap, .string x] 26 X)) (by kernel_rfl) (unhide HC) (fun hHeld => ?_)
  clear hbd
  generalize (w.alloc (.cells #[.int .i64 k, .int .i64 i, .int .i64 t, .bool m, .slice p ws.length cap, .string x] 26)).drew = Wd at *
  refine wpAnyH_take (i := 0) (oi := ?oi20065) (v := ?v20065) ?hi20065 (by kernel_rfl) (by kernel_rfl) (by kernel_rfl) (fun _ _ _ h => h) (Or.inl ⟨?hw20065, ?hy20065⟩) (by assumption) ?rest20065
  case hi20065 => (simp only [List.getElem?_toArray, List.getElem?_cons_zero]; rfl)
  case hw20065 => rfl
  case hy20065 => first | (intro wx hSw; go_simp; done) | (intro wx hSw; go_simp; with_reducible rfl)
  simp only [Act.put, List.setIfInBounds_toArray, List.set_cons_zero, List.set_cons_succ]
  refine wpAnyH_take (i := 1) (oi := ?oi20066) (v := ?v20066) ?hi20066 (by kernel_rfl) (by kernel_rfl) (by kernel_rfl) (fun _ _ _ h => h) (Or.inl ⟨?hw20066, ?hy20066⟩) (by assumption) ?rest20066
  case hi20066 => (simp only [List.getElem?_toArray, List.getElem?_cons_zero, List.getElem?_cons_succ]; rfl)
  case hw20066 => rfl
  case hy20066 => first | (intro wx hSw; have q_ := Blk.cell hSw 0; simp at q_; go_simp; done) | (intro wx hSw; have q_ := Blk.cell hSw 0; simp at q_; go_simp; with_reducible rfl)
  simp only [Act.put, List.setIfInBounds_toArray, List.set_cons_zero, List.set_cons_succ]
  refine wpAnyH_take (i := 2) (oi := ?oi20067) (v := ?v20067) ?hi20067 (by kernel_rfl) (by kernel_rfl) (by kernel_rfl) (fun _ _ _ h => h) (Or.inl ⟨?hw20067, ?hy20067⟩) (by assumption) ?rest20067
  case hi20067 => (simp only [List.getElem?_toArray, List.getElem?_cons_zero, List.getElem?_cons_succ]; rfl)
  case hw20067 => rfl
  case hy20067 => first | (intro wx hSw; go_simp; done) | (intro wx hSw; go_simp; with_reducible rfl)
  simp only [Act.put, List.setIfInBounds_toArray, List.set_cons_zero, List.set_cons_succ]
  refine wpAnyH_take (i := 4) (oi := ?oi20068) (v := ?v20068) ?hi20068 (by kernel_rfl) (by kernel_rfl) (by kernel_rfl) (fun _ _ _ h => h) (Or.inl ⟨?hw20068, ?hy20068⟩) (by assumption) ?rest20068
  case hi20068 => (simp only [List.getElem?_toArray, List.getElem?_cons_zero, List.getElem?_cons_succ]; rfl)
  case hw20068 => rfl
  case hy20068 => first | (intro wx hSw; go_simp; done) | (intro wx hSw; go_simp; with_reducible rfl)
  simp only [Act.put, List.setIfInBounds_toArray, List.set_cons_zero, List.set_cons_succ]
  refine wpAnyH_take (i := 5) (oi := ?oi20069) (v := ?v20069) ?hi20069 (by kernel_rfl) (by kernel_rfl) (by kernel_rfl) (fun _ _ _ h => h) (Or.inl ⟨?hw20069, ?hy20069⟩) (by assumption) ?rest20069
  case hi20069 => (simp only [List.getElem?_toArray, List.getElem?_cons_zero, List.getElem?_cons_succ]; rfl)
  case hw20069 => rfl
  case hy20069 => first | (intro wx hSw; have q_ := Blk.cell hSw 1; simp at q_; go_simp; done) | (intro wx hSw; have q_ := Blk.cell hSw 1; simp at q_; go_simp; with_reducible rfl)
  simp only [Act.put, List.setIfInBounds_toArray, List.set_cons_zero, List.set_cons_succ]
  refine wpAnyH_take (i := 7) (oi := ?oi20070) (v := ?v20070) ?hi20070 (by kernel_rfl) (by kernel_rfl) (by kernel_rfl) (fun _ _ _ h => h) (Or.inl ⟨?hw20070, ?hy20070⟩) (by assumption) ?rest20070
  case hi20070 => (simp only [List.getElem?_toArray, List.getElem?_cons_zero, List.getElem?_cons_succ]; rfl)
  case hw20070 => rfl
  case hy20070 => first | (intro wx hSw; go_simp; done) | (intro wx hSw; go_simp; with_reducible rfl)
  simp only [Act.put, List.setIfInBounds_toArray, List.set_cons_zero, List.set_cons_succ]
  refine wpAnyH_take (i := 8) (oi := ?oi20071) (v := ?v20071) ?hi20071 (by kernel_rfl) (by kernel_rfl) (by kernel_rfl) (fun _ _ _ h => h) (Or.inl ⟨?hw20071, ?hy20071⟩) (by assumption) ?rest20071
  case hi20071 => (simp only [List.getElem?_toArray, List.getElem?_cons_zero, List.getElem?_cons_succ]; rfl)
  case hw20071 => rfl
  case hy20071 => first | (intro wx hSw; have q_ := Blk.cell hSw 2; simp at q_; go_simp; done) | (intro wx hSw; have q_ := Blk.cell hSw 2; simp at q_; go_simp; with_reducible rfl)
  simp only [Act.put, List.setIfInBounds_toArray, List.set_cons_zero, List.set_cons_succ]
  refine wpAnyH_ready (rs := [3]) (by kernel_rfl) (by simp) ?_
  refine AllReadyH.cons rfl (fun K20072 hK20072 => ?_) AllReadyH.nil
  go_simp
  have HO : Hid (OwnB (Wd.alloc (.cells #[.int .u8 50, .int .u8 ((bt k).toNat : Int)] 5)) (w.heap.size + 1) (.slice (some ⟨Wd.heap.size, 0, none⟩) 2 2) [50, bt k]) := hide (ownB_new2 Wd (w.heap.size + 1) (unhide HS) 50 (bt k))
  have hbn := below_new Wd (.cells #[.int .u8 50, .int .u8 ((bt k).toNat : Int)] 5)
  replace HC := hide ((unhide HC).below hbn); replace HB := hide (Below.onto (unhide HB) hbn); replace HS := hide (Nat.le_trans (unhide HS) hbn.size)
  generalize Wd.alloc (.cells #[.int .u8 50, .int .u8 ((bt k).toNat : Int)] 5) = Y0 at *
  clear hbn
  refine hK20072.out _ _ ?hs20072 (fun hHeld20072 => ?_)
  case hs20072 => exact unhide HC
  clear hHeld
  have hHeld := hHeld20072; clear hHeld20072 hK20072 K20072
  refine wpAnyH_ready (rs := [6]) (by kernel_rfl) (by simp) ?_
  refine AllReadyH.cons rfl (fun K20073 hK20073 => ?_) AllReadyH.nil
  go_simp
  go_wp2_with (go_at_call 42; refine (rsh i r3 _ (w.heap.size + 1) _ _ hid (unhide HO) (unhide HS) (by simp only [List.length_append, fx_len, List.length_cons, List.length_nil, by8_len]; omega)).mono ?_; rintro e W2 ⟨v2, rfl, ow2, hk2⟩)
  have gr2 := hk2.grown; clear hk2
  replace HC := hide ((unhide HC).gr gr2 (ob_ne (unhide HO) (unhide HC) (by decide)))
  replace HB := hide (below_gr (unhide HB) (unhide HO) (by omega) (unhide HS) gr2)
  replace HS := hide (Nat.le_trans (unhide HS) gr2.size)
  replace HO := hide ow2
  clear gr2 ow2
  refine hK20073.out _ _ ?hs20073 (fun hHeld20073 => ?_)
  case hs20073 => exact unhide HC
  clear hHeld
  have hHeld := hHeld20073; clear hHeld20073 hK20073 K20073
  refine wpAnyH_ready (rs := [9]) (by kernel_rfl) (by simp) ?_
  refine AllReadyH.cons rfl (fun K20074 hK20074 => ?_) AllReadyH.nil
  go_simp
  go_wp2_with (go_at_call 42; refine (rsh t r4 _ (w.heap.size + 1) _ _ htx (unhide HO) (unhide HS) (by simp only [List.length_append, fx_len, List.length_cons, List.length_nil, by8_len]; omega)).mono ?_; rintro e W4 ⟨v4, rfl, ow4, hk4⟩)
  have gr4 := hk4.grown; clear hk4
  replace HC := hide ((unhide HC).gr gr4 (ob_ne (unhide HO) (unhide HC) (by decide)))
  replace HB := hide (below_gr (unhide HB) (unhide HO) (by omega) (unhide HS) gr4)
  replace HS := hide (Nat.le_trans (unhide HS) gr4.size)
  replace HO := hide ow4
  clear gr4 ow4
  refine hK20074.out _ _ ?hs20074 (fun hHeld20074 => ?_)
  case hs20074 => exact unhide HC
  clear hHeld
  have hHeld := hHeld20074; clear hHeld20074 hK20074 K20074
  refine wpAnyH_ready (rs := [10]) (by kernel_rfl) (by simp) ?_
  refine AllReadyH.cons rfl (fun K20075 hK20075 => ?_) AllReadyH.nil
  go_simp
  refine hK20075.out _ _ ?hs20075 (fun hHeld20075 => ?_)
  case hs20075 => exact unhide HC
  clear hHeld
  have hHeld := hHeld20075; clear hHeld20075 hK20075 K20075
  refine wpAnyH_done (by kernel_rfl) ?_ _
  refine NoPanic.normal ?_
  refine hrest _ _ ?_
  clear hHeld
  go_wp2
  rename_i hrest
  have hbd : Below W4.heap.size W4 W4.drew := (Below.refl _ _).drew
  replace HC := hide ((unhide HC).below hbd)
  replace HB := hide (Below.onto (unhide HB) hbd)
  replace HS := hide (Nat.le_trans (unhide HS) hbd.size)
  replace HO := hide (OwnB.below (unhide HO) hbd)
  refine wp_region_noPanic ?_
  refine wp_region_held_drew (S := (fun X => Blk w.heap.size #[.int .i64 k, .int .i64 i, .int .i64 t, .bool m, .slice p ws.length cap, .string x] 26 X)) (by kernel_rfl) (unhide HC) (fun hHeld => ?_)
  clear hbd
  generalize W4.drew = Z5 at *
  refine wpAnyH_take (i := 0) (oi := ?oi20076) (v := ?v20076) ?hi20076 (by kernel_rfl) (by kernel_rfl) (by kernel_rfl) (fun _ _ _ h => h) (Or.inl ⟨?hw20076, ?hy20076⟩) (by assumption) ?rest20076
  case hi20076 => (simp only [List.getElem?_toArray, List.getElem?_cons_zero]; rfl)
  case hw20076 => rfl
  case hy20076 => first | (intro wx hSw; go_simp; done) | (intro wx hSw; go_simp; with_reducible rfl)
  simp only [Act.put, List.setIfInBounds_toArray, List.set_cons_zero, List.set_cons_succ]
  refine wpAnyH_take (i := 1) (oi := ?oi20077) (v := ?v20077) ?hi20077 (by kernel_rfl) (by kernel_rfl) (by kernel_rfl) (fun _ _ _ h => h) (Or.inl ⟨?hw20077, ?hy20077⟩) (by assumption) ?rest20077
  case hi20077 => (simp only [List.getElem?_toArray, List.getElem?_cons_zero, List.getElem?_cons_succ]; rfl)
  case hw20077 => rfl
  case hy20077 => first | (intro wx hSw; go_simp; done) | (intro wx hSw; go_simp; with_reducible rfl)
  simp only [Act.put, List.setIfInBounds_toArray, List.set_cons_zero, List.set_cons_succ]
  refine wpAnyH_take (i := 2) (oi := ?oi20078) (v := ?v20078) ?hi20078 (by kernel_rfl) (by kernel_rfl) (by kernel_rfl) (fun _ _ _ h => h) (Or.inl ⟨?hw20078, ?hy20078⟩) (by assumption) ?rest20078
  case hi20078 => (simp only [List.getElem?_toArray, List.getElem?_cons_zero, List.getElem?_cons_succ]; rfl)
  case hw20078 => rfl
  case hy20078 => first | (intro wx hSw; have q_ := Blk.cell hSw 3; simp at q_; go_simp; done) | (intro wx hSw; have q_ := Blk.cell hSw 3; simp at q_; go_simp; with_reducible rfl)
  simp only [Act.put, List.setIfInBounds_toArray, List.set_cons_zero, List.set_cons_succ]
  refine wpAnyH_take (i := 6) (oi := ?oi20079) (v := ?v20079) ?hi20079 (by kernel_rfl) (by kernel_rfl) (by kernel_rfl) (fun _ _ _ h => h) (Or.inl ⟨?hw20079, ?hy20079⟩) (by assumption) ?rest20079
  case hi20079 => (simp only [List.getElem?_toArray, List.getElem?_cons_zero, List.getElem?_cons_succ]; rfl)
  case hw20079 => rfl
  case hy20079 => first | (intro wx hSw; go_simp; done) | (intro wx hSw; go_simp; with_reducible rfl)
  simp only [Act.put, List.setIfInBounds_toArray, List.set_cons_zero, List.set_cons_succ]
  refine wpAnyH_take (i := 7) (oi := ?oi20080) (v := ?v20080) ?hi20080 (by kernel_rfl) (by kernel_rfl) (by kernel_rfl) (fun _ _ _ h => h) (Or.inl ⟨?hw20080, ?hy20080⟩) (by assumption) ?rest20080
  case hi20080 => (simp only [List.getElem?_toArray, List.getElem?_cons_zero, List.getElem?_cons_succ]; rfl)
  case hw20080 => rfl
  case hy20080 => first | (intro wx hSw; have q_ := Blk.cell hSw 4; simp at q_; go_simp; done) | (intro wx hSw; have q_ := Blk.cell hSw 4; simp at q_; go_simp; with_reducible rfl)
  simp only [Act.put, List.setIfInBounds_toArray, List.set_cons_zero, List.set_cons_succ]
  refine wpAnyH_take (i := 8) (oi := ?oi20081) (v := ?v20081) ?hi20081 (by kernel_rfl) (by kernel_rfl) (by kernel_rfl) (fun _ _ _ h => h) (Or.inl ⟨?hw20081, ?hy20081⟩) (by assumption) ?rest20081
  case hi20081 => (simp only [List.getElem?_toArray, List.getElem?_cons_zero, List.getElem?_cons_succ]; rfl)
  case hw20081 => rfl
  case hy20081 => first | (intro wx hSw; go_simp; done) | (intro wx hSw; go_simp; with_reducible rfl)
  simp only [Act.put, List.setIfInBounds_toArray, List.set_cons_zero, List.set_cons_succ]
  refine wpAnyH_ready (rs := [3]) (by kernel_rfl) (by simp) ?_
  refine AllReadyH.cons rfl (fun K20082 hK20082 => ?_) AllReadyH.nil
  go_simp
  go_wp2_with (go_at_call 41; refine (unhide CB _).mono ?_; rintro e X2 ⟨rfl, hX2⟩; replace hX2 := hX2.symm; subst hX2)
  refine hK20082.out _ _ ?hs20082 (fun hHeld20082 => ?_)
  case hs20082 => exact unhide HC
  clear hHeld
  have hHeld := hHeld20082; clear hHeld20082 hK20082 K20082
  refine wpAnyH_ready (rs := [4]) (by kernel_rfl) (by simp) ?_
  refine AllReadyH.cons rfl (fun K20083 hK20083 => ?_) AllReadyH.nil
  go_simp
  have hbn := below_new Z5 (.cells #[.int .u8 (ym.toNat : Int)] 5)
  have HO1 := HO
  have HS1 := HS
  replace HC := hide ((unhide HC).below hbn)
  replace HB := hide (Below.onto (unhide HB) hbn)
  replace HS := hide (Nat.le_trans (unhide HS) hbn.size)
  replace HO := hide (OwnB.below (unhide HO) hbn)
  clear hbn
  refine hK20083.out _ _ ?hs20083 (fun hHeld20083 => ?_)
  case hs20083 => exact unhide HC
  clear hHeld
  have hHeld := hHeld20083; clear hHeld20083 hK20083 K20083
  refine wpAnyH_ready (rs := [5]) (by kernel_rfl) (by simp) ?_
  refine AllReadyH.cons rfl (fun K20084 hK20084 => ?_) AllReadyH.nil
  refine step_app1 rfl _ _ rfl Z5 ym (w.heap.size + 1) v4 _ (unhide HO1) rfl rfl (by simp only [List.length_append, fx_len, List.length_cons, List.length_nil, by8_len]; omega) (unhide HS1) ?_
  intro v6 W6 ow6 gr6
  change K20084 (Act.put _ (some 21) _) _
  simp only [Act.put, List.setIfInBounds_toArray, List.set_cons_zero, List.set_cons_succ]
  clear HO1 HS1
  replace HC := hide ((unhide HC).gr gr6 (ob_ne (unhide HO) (unhide HC) (by decide)))
  replace HB := hide (below_gr (unhide HB) (unhide HO) (by omega) (unhide HS) gr6)
  replace HS := hide (Nat.le_trans (unhide HS) gr6.size)
  replace HO := hide ow6
  clear gr6 ow6
  refine hK20084.out _ _ ?hs20084 (fun hHeld20084 => ?_)
  case hs20084 => exact unhide HC
  clear hHeld
  have hHeld := hHeld20084; clear hHeld20084 hK20084 K20084
  refine wpAnyH_ready (rs := [9]) (by kernel_rfl) (by simp) ?_
  refine AllReadyH.cons rfl (fun K20085 hK20085 => ?_) AllReadyH.nil
  go_simp
  go_wp2_with (go_at_call 42; refine (rfree_any ws.length _ (w.heap.size + 1) _ _ (by omega) (unhide HO) (unhide HS) (by simp only [List.length_append, fx_len, List.length_cons, List.length_nil, by8_len]; omega)).mono ?_; rintro e W8 ⟨v8, rfl, ow8, hk8⟩)
  have gr8 := hk8.grown; clear hk8
  replace HC := hide ((unhide HC).gr gr8 (ob_ne (unhide HO) (unhide HC) (by decide)))
  replace HB := hide (below_gr (unhide HB) (unhide HO) (by omega) (unhide HS) gr8)
  replace HS := hide (Nat.le_trans (unhide HS) gr8.size)
  replace HO := hide ow8
  clear gr8 ow8
  refine hK20085.out _ _ ?hs20085 (fun hHeld20085 => ?_)
  case hs20085 => exact unhide HC
  clear hHeld
  have hHeld := hHeld20085; clear hHeld20085 hK20085 K20085
  refine wpAnyH_ready (rs := [10]) (by kernel_rfl) (by simp) ?_
  refine AllReadyH.cons rfl (fun K20086 hK20086 => ?_) AllReadyH.nil
  go_simp
  refine hK20086.out _ _ ?hs20086 (fun hHeld20086 => ?_)
  case hs20086 => exact unhide HC
  clear hHeld
  have hHeld := hHeld20086; clear hHeld20086 hK20086 K20086
  refine wpAnyH_done (by kernel_rfl) ?_ _
  refine NoPanic.normal ?_
  refine hrest _ _ ?_
  clear hHeld
  go_wp2
  have HE : Hid (enc2 ⟨k, i, t, m, ws, x⟩ = ([50, bt k] ++ sh i.toNat ++ sh t.toNat ++ [ym] ++ sh ws.length) ++ ws.flatMap wr2 ++ sh x.size ++ by8 x) := by
    show _ = _
    simp only [enc2, ls, shI, tx]
    rw [unhide hk3, unhide HYM]
    simp
  have hdl : ([50, bt k] ++ sh i.toNat ++ sh t.toNat ++ [ym] ++ sh ws.length).length ≤ 40 := by simp only [List.length_append, List.length_cons, List.length_nil]; omega
  generalize [50, bt k] ++ sh i.toNat ++ sh t.toNat ++ [ym] ++ sh ws.length = HD at *
  generalize W8 = Wl at *
  go_loopw [3, 4] (fun b j wr => ∃ n : Nat, n ≤ ws.length ∧ j = .int .i64 (n : Int) ∧ Hid (OwnB wr (w.heap.size + 1) b (HD ++ (ws.take n).flatMap wr2)) ∧ Hid (Blk w.heap.size #[.int .i64 k, .int .i64 i, .int .i64 t, .bool m, .slice p ws.length cap, .string x] 26 wr) ∧ Hid (Below w.heap.size w wr) ∧ Hid (w.heap.size + 1 ≤ wr.heap.size)) (fun b j wr => ws.length - (intOf j).toNat)
  case atStart => exact ⟨0, Nat.zero_le _, rfl, by simpa using HO, HC, HB, HS⟩
  case round =>
    clear HO HC HB HS
    obtain ⟨n, hn, rfl, HO, HC, HB, HS⟩ := hrel
    have y4_ := (unhide HC).cell 4
    have yl_ := (unhide HC).lt
    simp at y4_
    by_cases hlt : n < ws.length
    · obtain ⟨gw, o2, hp, hat⟩ := (unhide HW0).below (unhide HB)
      obtain rfl := hp (by omega)
      obtain ⟨⟨e0_, e1_, e2_⟩, _⟩ := hat n hlt
      have hwk : IntKind.i64.wrap ((n : Int) * 3) = (n : Int) * 3 := IntWalk.i64_in _ (by omega)
      have HF := hide (flat_take wr2 ws n hlt)
      have t1 := flat_len wr2 ws n hlt
      have hw := unhide HWS ws[n] (List.getElem_mem hlt)
      have t2 : ((ws.take n).flatMap wr2).length ≤ 8019000 := by omega
      clear hp hat t1
      generalize ws[n] = y at *
      obtain ⟨kk, vv, gg⟩ := y
      simp only at hw e0_ e1_ e2_
      obtain ⟨yg, hyg, hygv⟩ := fl_byte gg
      have CG := hide (fun W => rbit_y gg yg hygv W)
      have HYG := hide hyg
      have hk9 := sh_len9 kk.size (by omega)
      have hv9 := sh_len9 vv.size (by omega)
      obtain ⟨FT, hFT⟩ : ∃ l, (ws.take n).flatMap wr2 = l := ⟨_, rfl⟩
      rw [hFT] at t2 HO HF
      clear hyg hygv hFT
      have hw1 : kk.size ≤ 300 := by omega
      have hw2 : vv.size ≤ 4000 := by omega
      clear hw
      have HV := hide (Blk.new wr #[.string kk, .string vv, .bool gg] 40)
      have hbn := below_new wr (.cells #[.string kk, .string vv, .bool gg] 40)
      replace HC := hide ((unhide HC).below hbn)
      replace HB := hide (Below.onto (unhide HB) hbn)
      replace HS := hide (Nat.le_trans (unhide HS) hbn.size)
      replace HO := hide (OwnB.below (unhide HO) hbn)
      clear hbn
      go_wp2
      rename_i Kl hloop Kn hrest
      have hbd : Below (wr.alloc (.cells #[.string kk, .string vv, .bool gg] 40)).heap.size (wr.alloc (.cells #[.string kk, .string vv, .bool gg] 40)) (wr.alloc (.cells #[.string kk, .string vv, .bool gg] 40)).drew := (Below.refl _ _).drew
      replace HV := hide ((unhide HV).below hbd)
      replace HC := hide ((unhide HC).below hbd)
      replace HB := hide (Below.onto (unhide HB) hbd)
      replace HS := hide (Nat.le_trans (unhide HS) hbd.size)
      replace HO := hide (OwnB.below (unhide HO) hbd)
      refine wp_region_noPanic ?_
      refine wp_region_held_drew (S := (fun X => Blk wr.heap.size #[.string kk, .string vv, .bool gg] 40 X)) (by kernel_rfl) (unhide HV) (fun hHeld => ?_)
      clear hbd y4_ yl_ e0_ e1_ e2_
      generalize (wr.alloc (.cells #[.string kk, .string vv, .bool gg] 40)).drew = Z7 at *
      refine wpAnyH_take (i := 0) (oi := ?oi20087) (v := ?v20087) ?hi20087 (by kernel_rfl) (by kernel_rfl) (by kernel_rfl) (fun _ _ _ h => h) (Or.inl ⟨?hw20087, ?hy20087⟩) (by assumption) ?rest20087
      case hi20087 => (simp only [List.getElem?_toArray, List.getElem?_cons_zero]; rfl)
      case hw20087 => rfl
      case hy20087 => first | (intro wx hSw; go_simp; done) | (intro wx hSw; go_simp; with_reducible rfl)
      simp only [Act.put, List.setIfInBounds_toArray, List.set_cons_zero, List.set_cons_succ]
      refine wpAnyH_take (i := 1) (oi := ?oi20088) (v := ?v20088) ?hi20088 (by kernel_rfl) (by kernel_rfl) (by kernel_rfl) (fun _ _ _ h => h) (Or.inl ⟨?hw20088, ?hy20088⟩) (by assumption) ?rest20088
      case hi20088 => (simp only [List.getElem?_toArray, List.getElem?_cons_zero, List.getElem?_cons_succ]; rfl)
      case hw20088 => rfl
      case hy20088 => first | (intro wx hSw; go_simp; done) | (intro wx hSw; go_simp; with_reducible rfl)
      simp only [Act.put, List.setIfInBounds_toArray, List.set_cons_zero, List.set_cons_succ]
      refine wpAnyH_take (i := 2) (oi := ?oi20089) (v := ?v20089) ?hi20089 (by kernel_rfl) (by kernel_rfl) (by kernel_rfl) (fun _ _ _ h => h) (Or.inl ⟨?hw20089, ?hy20089⟩) (by assumption) ?rest20089
      case hi20089 => (simp only [List.getElem?_toArray, List.getElem?_cons_zero, List.getElem?_cons_succ]; rfl)
      case hw20089 => rfl
      case hy20089 => first | (intro wx hSw; have q_ := Blk.cell hSw 2; simp at q_; go_simp; done) | (intro wx hSw; have q_ := Blk.cell hSw 2; simp at q_; go_simp; with_reducible rfl)
      simp only [Act.put, List.setIfInBounds_toArray, List.set_cons_zero, List.set_cons_succ]
      refine wpAnyH_take (i := 6) (oi := ?oi20090) (v := ?v20090) ?hi20090 (by kernel_rfl) (by kernel_rfl) (by kernel_rfl) (fun _ _ _ h => h) (Or.inl ⟨?hw20090, ?hy20090⟩) (by assumption) ?rest20090
      case hi20090 => (simp only [List.getElem?_toArray, List.getElem?_cons_zero, List.getElem?_cons_succ]; rfl)
      case hw20090 => rfl
      case hy20090 => first | (intro wx hSw; go_simp; done) | (intro wx hSw; go_simp; with_reducible rfl)
      simp only [Act.put, List.setIfInBounds_toArray, List.set_cons_zero, List.set_cons_succ]
      refine wpAnyH_take (i := 7) (oi := ?oi20091) (v := ?v20091) ?hi20091 (by kernel_rfl) (by kernel_rfl) (by kernel_rfl) (fun _ _ _ h => h) (Or.inl ⟨?hw20091, ?hy20091⟩) (by assumption) ?rest20091
      case hi20091 => (simp only [List.getElem?_toArray, List.getElem?_cons_zero, List.getElem?_cons_succ]; rfl)
      case hw20091 => rfl
      case hy20091 => first | (intro wx hSw; have q_ := Blk.cell hSw 0; simp at q_; go_simp; done) | (intro wx hSw; have q_ := Blk.cell hSw 0; simp at q_; go_simp; with_reducible rfl)
      simp only [Act.put, List.setIfInBounds_toArray, List.set_cons_zero, List.set_cons_succ]
      refine wpAnyH_take (i := 8) (oi := ?oi20092) (v := ?v20092) ?hi20092 (by kernel_rfl) (by kernel_rfl) (by kernel_rfl) (fun _ _ _ h => h) (Or.inl ⟨?hw20092, ?hy20092⟩) (by assumption) ?rest20092
      case hi20092 => (simp only [List.getElem?_toArray, List.getElem?_cons_zero, List.getElem?_cons_succ]; rfl)
      case hw20092 => rfl
      case hy20092 => first | (intro wx hSw; go_simp; done) | (intro wx hSw; go_simp; with_reducible rfl)
      simp only [Act.put, List.setIfInBounds_toArray, List.set_cons_zero, List.set_cons_succ]
      refine wpAnyH_take (i := 10) (oi := ?oi20093) (v := ?v20093) ?hi20093 (by kernel_rfl) (by kernel_rfl) (by kernel_rfl) (fun _ _ _ h => h) (Or.inl ⟨?hw20093, ?hy20093⟩) (by assumption) ?rest20093
      case hi20093 => (simp only [List.getElem?_toArray, List.getElem?_cons_zero, List.getElem?_cons_succ]; rfl)
      case hw20093 => rfl
      case hy20093 => first | (intro wx hSw; go_simp; done) | (intro wx hSw; go_simp; with_reducible rfl)
      simp only [Act.put, List.setIfInBounds_toArray, List.set_cons_zero, List.set_cons_succ]
      refine wpAnyH_take (i := 11) (oi := ?oi20094) (v := ?v20094) ?hi20094 (by kernel_rfl) (by kernel_rfl) (by kernel_rfl) (fun _ _ _ h => h) (Or.inl ⟨?hw20094, ?hy20094⟩) (by assumption) ?rest20094
      case hi20094 => (simp only [List.getElem?_toArray, List.getElem?_cons_zero, List.getElem?_cons_succ]; rfl)
      case hw20094 => rfl
      case hy20094 => first | (intro wx hSw; have q_ := Blk.cell hSw 0; simp at q_; go_simp; done) | (intro wx hSw; have q_ := Blk.cell hSw 0; simp at q_; go_simp; with_reducible rfl)
      simp only [Act.put, List.setIfInBounds_toArray, List.set_cons_zero, List.set_cons_succ]
      refine wpAnyH_ready (rs := [3, 12]) (by kernel_rfl) (by simp) ?_
      refine AllReadyH.cons rfl (fun K20095 hK20095 => ?_) ?_
      · go_simp
        go_wp2_with (go_at_call 41; refine (unhide CG _).mono ?_; rintro e X2 ⟨rfl, hX2⟩; replace hX2 := hX2.symm; subst hX2)
        refine hK20095.out _ _ ?hs20095 (fun hHeld20095 => ?_)
        case hs20095 => exact unhide HV
        clear hHeld
        have hHeld := hHeld20095; clear hHeld20095 hK20095 K20095
        refine wpAnyH_ready (rs := [4, 12]) (by kernel_rfl) (by simp) ?_
        refine AllReadyH.cons rfl (fun K20096 hK20096 => ?_) ?_
        · go_simp
          have HN1 := hide (Blk.new Z7 #[.int .u8 (yg.toNat : Int)] 5)
          have hbn := below_new Z7 (.cells #[.int .u8 (yg.toNat : Int)] 5)
          obtain ⟨gb, hgb⟩ : ∃ b, b = Z7.heap.size := ⟨_, rfl⟩
          have HNB := hide (own_ne_new (unhide HO) (Nat.le_of_eq hgb.symm))
          rw [← hgb] at HN1
          simp only [← hgb]
          replace HV := hide ((unhide HV).below hbn)
          replace HC := hide ((unhide HC).below hbn)
          replace HB := hide (Below.onto (unhide HB) hbn)
          replace HS := hide (Nat.le_trans (unhide HS) hbn.size)
          replace HO := hide (OwnB.below (unhide HO) hbn)
          generalize (Z7.alloc (.cells #[.int .u8 (yg.toNat : Int)] 5)) = Y9 at *
          clear hbn hgb
          refine hK20096.out _ _ ?hs20096 (fun hHeld20096 => ?_)
          case hs20096 => exact unhide HV
          clear hHeld
          have hHeld := hHeld20096; clear hHeld20096 hK20096 K20096
          refine wpAnyH_ready (rs := [5, 12]) (by kernel_rfl) (by simp) ?_
          refine AllReadyH.cons rfl (fun K20097 hK20097 => ?_) ?_
          · refine step_app1b rfl _ _ rfl Y9 gb yg (w.heap.size + 1) u3 _ (unhide HO) (unhide HN1) rfl rfl (by simp only [List.length_append, fx_len, List.length_cons, List.length_nil, by8_len]; omega) (unhide HS) ?_
            intro v10 W10 ow10 gr10
            change K20097 (Act.put _ (some 43) _) _
            simp only [Act.put, List.setIfInBounds_toArray, List.set_cons_zero, List.set_cons_succ]
            clear HN1 HNB
            replace HV := hide ((unhide HV).gr gr10 (ob_ne (unhide HO) (unhide HV) (by decide)))
            replace HC := hide ((unhide HC).gr gr10 (ob_ne (unhide HO) (unhide HC) (by decide)))
            replace HB := hide (below_gr (unhide HB) (unhide HO) (by omega) (unhide HS) gr10)
            replace HS := hide (Nat.le_trans (unhide HS) gr10.size)
            replace HO := hide ow10
            clear gr10 ow10
            refine hK20097.out _ _ ?hs20097 (fun hHeld20097 => ?_)
            case hs20097 => exact unhide HV
            clear hHeld
            have hHeld := hHeld20097; clear hHeld20097 hK20097 K20097
            refine wpAnyH_ready (rs := [9, 12]) (by kernel_rfl) (by simp) ?_
            refine AllReadyH.cons rfl (fun K20098 hK20098 => ?_) ?_
            · go_simp
              go_wp2_with (go_at_call 42; refine (rfree_any kk.size _ (w.heap.size + 1) _ _ (by omega) (unhide HO) (unhide HS) (by simp only [List.length_append, fx_len, List.length_cons, List.length_nil, by8_len]; omega)).mono ?_; rintro e W11 ⟨v11, rfl, ow11, hk11⟩)
              have gr11 := hk11.grown; clear hk11
              replace HV := hide ((unhide HV).gr gr11 (ob_ne (unhide HO) (unhide HV) (by decide)))
              replace HC := hide ((unhide HC).gr gr11 (ob_ne (unhide HO) (unhide HC) (by decide)))
              replace HB := hide (below_gr (unhide HB) (unhide HO) (by omega) (unhide HS) gr11)
              replace HS := hide (Nat.le_trans (unhide HS) gr11.size)
              replace HO := hide ow11
              clear gr11 ow11
              refine hK20098.out _ _ ?hs20098 (fun hHeld20098 => ?_)
              case hs20098 => exact unhide HV
              clear hHeld
              have hHeld := hHeld20098; clear hHeld20098 hK20098 K20098
              refine wpAnyH_ready (rs := [12]) (by kernel_rfl) (by simp) ?_
              refine AllReadyH.cons rfl (fun K20099 hK20099 => ?_) AllReadyH.nil
              obtain ⟨cv12, Wc12, hrun12, hcv12⟩ := conv_run kk W11
              go_simp
              obtain ⟨cb12, cc12, rfl, hc1, hc2, hcb, hmk, hcells⟩ := hcv12
              replace HV := hide ((unhide HV).below hcb)
              replace HC := hide ((unhide HC).below hcb)
              replace HB := hide (Below.onto (unhide HB) hcb)
              replace HS := hide (Nat.le_trans (unhide HS) hcb.size)
              replace HO := hide (OwnB.below (unhide HO) hcb)
              have HCV := hide hcells; have HMK := hide hmk; clear hcells hmk hc2 hc1 hcb hrun12
              refine hK20099.out _ _ ?hs20099 (fun hHeld20099 => ?_)
              case hs20099 => exact unhide HV
              clear hHeld
              have hHeld := hHeld20099; clear hHeld20099 hK20099 K20099
              refine wpAnyH_ready (rs := [13]) (by kernel_rfl) (by simp) ?_
              refine AllReadyH.cons rfl (fun K20100 hK20100 => ?_) AllReadyH.nil
              refine step_appT rfl _ _ rfl Wc12 (w.heap.size + 1) v11 _ kk ⟨cb12, 0, none⟩ cc12 (unhide HO) rfl rfl (fun j u hj => by rw [addr0]; exact unhide HCV j u hj) (by simp only [List.length_append, fx_len, List.length_cons, List.length_nil, by8_len]; omega) (unhide HS) ?_
              intro v13 W13 ow13 gr13
              change K20100 (Act.put _ (some 51) _) _
              simp only [Act.put, List.setIfInBounds_toArray, List.set_cons_zero, List.set_cons_succ]
              clear HCV HMK
              replace HV := hide ((unhide HV).gr gr13 (ob_ne (unhide HO) (unhide HV) (by decide)))
              replace HC := hide ((unhide HC).gr gr13 (ob_ne (unhide HO) (unhide HC) (by decide)))
              replace HB := hide (below_gr (unhide HB) (unhide HO) (by omega) (unhide HS) gr13)
              replace HS := hide (Nat.le_trans (unhide HS) gr13.size)
              replace HO := hide ow13
              clear gr13 ow13
              refine hK20100.out _ _ ?hs20100 (fun hHeld20100 => ?_)
              case hs20100 => exact unhide HV
              clear hHeld
              have hHeld := hHeld20100; clear hHeld20100 hK20100 K20100
              refine wpAnyH_ready (rs := [14]) (by kernel_rfl) (by simp) ?_
              refine AllReadyH.cons rfl (fun K20101 hK20101 => ?_) AllReadyH.nil
              go_simp
              refine hK20101.out _ _ ?hs20101 (fun hHeld20101 => ?_)
              case hs20101 => exact unhide HV
              clear hHeld
              have hHeld := hHeld20101; clear hHeld20101 hK20101 K20101
              refine wpAnyH_done (by kernel_rfl) ?_ _
              refine NoPanic.normal ?_
              refine hrest _ _ ?_
              clear hHeld
              have v2_ := (unhide HV).cell 2
              simp at v2_
              cases gg
              · have v1_ := (unhide HV).cell 1
                simp at v1_
                go_wp2
                have hbd : Below W13.heap.size W13 W13.drew := (Below.refl _ _).drew
                replace HV := hide ((unhide HV).below hbd)
                replace HC := hide ((unhide HC).below hbd)
                replace HB := hide (Below.onto (unhide HB) hbd)
                replace HS := hide (Nat.le_trans (unhide HS) hbd.size)
                replace HO := hide (OwnB.below (unhide HO) hbd)
                refine wp_region_noPanic ?_
                refine wp_region_held_drew (S := (fun X => Blk wr.heap.size #[.string kk, .string vv, .bool false] 40 X)) (by kernel_rfl) (unhide HV) (fun hHeld => ?_)
                clear hbd v1_ v2_
                generalize W13.drew = Z14 at *
                refine wpAnyH_take (i := 0) (oi := ?oi20102) (v := ?v20102) ?hi20102 (by kernel_rfl) (by kernel_rfl) (by kernel_rfl) (fun _ _ _ h => h) (Or.inl ⟨?hw20102, ?hy20102⟩) (by assumption) ?rest20102
                case hi20102 => (simp only [List.getElem?_toArray, List.getElem?_cons_zero]; rfl)
                case hw20102 => rfl
                case hy20102 => first | (intro wx hSw; go_simp; done) | (intro wx hSw; go_simp; with_reducible rfl)
                simp only [Act.put, List.setIfInBounds_toArray, List.set_cons_zero, List.set_cons_succ]
                refine wpAnyH_take (i := 1) (oi := ?oi20103) (v := ?v20103) ?hi20103 (by kernel_rfl) (by kernel_rfl) (by kernel_rfl) (fun _ _ _ h => h) (Or.inl ⟨?hw20103, ?hy20103⟩) (by assumption) ?rest20103
                case hi20103 => (simp only [List.getElem?_toArray, List.getElem?_cons_zero, List.getElem?_cons_succ]; rfl)
                case hw20103 => rfl
                case hy20103 => first | (intro wx hSw; go_simp; done) | (intro wx hSw; go_simp; with_reducible rfl)
                simp only [Act.put, List.setIfInBounds_toArray, List.set_cons_zero, List.set_cons_succ]
                refine wpAnyH_take (i := 2) (oi := ?oi20104) (v := ?v20104) ?hi20104 (by kernel_rfl) (by kernel_rfl) (by kernel_rfl) (fun _ _ _ h => h) (Or.inl ⟨?hw20104, ?hy20104⟩) (by assumption) ?rest20104
                case hi20104 => (simp only [List.getElem?_toArray, List.getElem?_cons_zero, List.getElem?_cons_succ]; rfl)
                case hw20104 => rfl
                case hy20104 => first | (intro wx hSw; have q_ := Blk.cell hSw 1; simp at q_; go_simp; done) | (intro wx hSw; have q_ := Blk.cell hSw 1; simp at q_; go_simp; with_reducible rfl)
                simp only [Act.put, List.setIfInBounds_toArray, List.set_cons_zero, List.set_cons_succ]
                refine wpAnyH_take (i := 3) (oi := ?oi20105) (v := ?v20105) ?hi20105 (by kernel_rfl) (by kernel_rfl) (by kernel_rfl) (fun _ _ _ h => h) (Or.inl ⟨?hw20105, ?hy20105⟩) (by assumption) ?rest20105
                case hi20105 => (simp only [List.getElem?_toArray, List.getElem?_cons_zero, List.getElem?_cons_succ]; rfl)
                case hw20105 => rfl
                case hy20105 => first | (intro wx hSw; go_simp; done) | (intro wx hSw; go_simp; with_reducible rfl)
                simp only [Act.put, List.setIfInBounds_toArray, List.set_cons_zero, List.set_cons_succ]
                refine wpAnyH_take (i := 5) (oi := ?oi20106) (v := ?v20106) ?hi20106 (by kernel_rfl) (by kernel_rfl) (by kernel_rfl) (fun _ _ _ h => h) (Or.inl ⟨?hw20106, ?hy20106⟩) (by assumption) ?rest20106
                case hi20106 => (simp only [List.getElem?_toArray, List.getElem?_cons_zero, List.getElem?_cons_succ]; rfl)
                case hw20106 => rfl
                case hy20106 => first | (intro wx hSw; go_simp; done) | (intro wx hSw; go_simp; with_reducible rfl)
                simp only [Act.put, List.setIfInBounds_toArray, List.set_cons_zero, List.set_cons_succ]
                refine wpAnyH_take (i := 6) (oi := ?oi20107) (v := ?v20107) ?hi20107 (by kernel_rfl) (by kernel_rfl) (by kernel_rfl) (fun _ _ _ h => h) (Or.inl ⟨?hw20107, ?hy20107⟩) (by assumption) ?rest20107
                case hi20107 => (simp only [List.getElem?_toArray, List.getElem?_cons_zero, List.getElem?_cons_succ]; rfl)
                case hw20107 => rfl
                case hy20107 => first | (intro wx hSw; have q_ := Blk.cell hSw 1; simp at q_; go_simp; done) | (intro wx hSw; have q_ := Blk.cell hSw 1; simp at q_; go_simp; with_reducible rfl)
                simp only [Act.put, List.setIfInBounds_toArray, List.set_cons_zero, List.set_cons_succ]
                refine wpAnyH_ready (rs := [4, 7]) (by kernel_rfl) (by simp) ?_
                refine AllReadyH.cons rfl (fun K20108 hK20108 => ?_) ?_
                · go_simp
                  go_wp2_with (go_at_call 42; refine (rfree_any vv.size _ (w.heap.size + 1) _ _ (by omega) (unhide HO) (unhide HS) (by simp only [List.length_append, fx_len, List.length_cons, List.length_nil, by8_len]; omega)).mono ?_; rintro e W15 ⟨v15, rfl, ow15, hk15⟩)
                  have gr15 := hk15.grown; clear hk15
                  replace HV := hide ((unhide HV).gr gr15 (ob_ne (unhide HO) (unhide HV) (by decide)))
                  replace HC := hide ((unhide HC).gr gr15 (ob_ne (unhide HO) (unhide HC) (by decide)))
                  replace HB := hide (below_gr (unhide HB) (unhide HO) (by omega) (unhide HS) gr15)
                  replace HS := hide (Nat.le_trans (unhide HS) gr15.size)
                  replace HO := hide ow15
                  clear gr15 ow15
                  refine hK20108.out _ _ ?hs20108 (fun hHeld20108 => ?_)
                  case hs20108 => exact unhide HV
                  clear hHeld
                  have hHeld := hHeld20108; clear hHeld20108 hK20108 K20108
                  refine wpAnyH_ready (rs := [7]) (by kernel_rfl) (by simp) ?_
                  refine AllReadyH.cons rfl (fun K20109 hK20109 => ?_) AllReadyH.nil
                  obtain ⟨cv16, Wc16, hrun16, hcv16⟩ := conv_run vv W15
                  go_simp
                  obtain ⟨cb16, cc16, rfl, hc1, hc2, hcb, hmk, hcells⟩ := hcv16
                  replace HV := hide ((unhide HV).below hcb)
                  replace HC := hide ((unhide HC).below hcb)
                  replace HB := hide (Below.onto (unhide HB) hcb)
                  replace HS := hide (Nat.le_trans (unhide HS) hcb.size)
                  replace HO := hide (OwnB.below (unhide HO) hcb)
                  have HCV := hide hcells; have HMK := hide hmk; clear hcells hmk hc2 hc1 hcb hrun16
                  refine hK20109.out _ _ ?hs20109 (fun hHeld20109 => ?_)
                  case hs20109 => exact unhide HV
                  clear hHeld
                  have hHeld := hHeld20109; clear hHeld20109 hK20109 K20109
                  refine wpAnyH_ready (rs := [8]) (by kernel_rfl) (by simp) ?_
                  refine AllReadyH.cons rfl (fun K20110 hK20110 => ?_) AllReadyH.nil
                  refine step_appT rfl _ _ rfl Wc16 (w.heap.size + 1) v15 _ vv ⟨cb16, 0, none⟩ cc16 (unhide HO) rfl rfl (fun j u hj => by rw [addr0]; exact unhide HCV j u hj) (by simp only [List.length_append, fx_len, List.length_cons, List.length_nil, by8_len]; omega) (unhide HS) ?_
                  intro v17 W17 ow17 gr17
                  change K20110 (Act.put _ (some 63) _) _
                  simp only [Act.put, List.setIfInBounds_toArray, List.set_cons_zero, List.set_cons_succ]
                  clear HCV HMK
                  replace HV := hide ((unhide HV).gr gr17 (ob_ne (unhide HO) (unhide HV) (by decide)))
                  replace HC := hide ((unhide HC).gr gr17 (ob_ne (unhide HO) (unhide HC) (by decide)))
                  replace HB := hide (below_gr (unhide HB) (unhide HO) (by omega) (unhide HS) gr17)
                  replace HS := hide (Nat.le_trans (unhide HS) gr17.size)
                  replace HO := hide ow17
                  clear gr17 ow17
                  refine hK20110.out _ _ ?hs20110 (fun hHeld20110 => ?_)
                  case hs20110 => exact unhide HV
                  clear hHeld
                  have hHeld := hHeld20110; clear hHeld20110 hK20110 K20110
                  refine wpAnyH_ready (rs := [9]) (by kernel_rfl) (by simp) ?_
                  refine AllReadyH.cons rfl (fun K20111 hK20111 => ?_) AllReadyH.nil
                  go_simp
                  refine hK20111.out _ _ ?hs20111 (fun hHeld20111 => ?_)
                  case hs20111 => exact unhide HV
                  clear hHeld
                  have hHeld := hHeld20111; clear hHeld20111 hK20111 K20111
                  refine wpAnyH_done (by kernel_rfl) ?_ _
                  refine NoPanic.normal ?_
                  simp only [Exit.inBlock, Exit.then]
                  refine hloop _ _ ?_
                  clear hHeld
                  have HOO := unhide HO
                  go_wp2
                  go_roundw
                  case rel =>
                    refine ⟨n + 1, by omega, by go_num, ?_, HC, HB, HS⟩
                    show OwnB _ _ _ _
                    rw [unhide HF]
                    have e9 : wr2 ⟨kk, vv, false⟩ = [yg] ++ sh kk.size ++ by8 kk ++ sh vv.size ++ by8 vv := by
                      unfold wr2 tx; rw [unhide HYG]; simp
                    rw [e9]
                    simpa using HOO
                  case measure => simp [intOf] <;> omega
                refine AllReadyH.cons rfl (fun K20112 hK20112 => ?_) AllReadyH.nil
                · obtain ⟨cv18, Wc18, hrun18, hcv18⟩ := conv_run vv Z14
                  go_simp
                  obtain ⟨cb18, cc18, rfl, hc1, hc2, hcb, hmk, hcells⟩ := hcv18
                  replace HV := hide ((unhide HV).below hcb)
                  replace HC := hide ((unhide HC).below hcb)
                  replace HB := hide (Below.onto (unhide HB) hcb)
                  replace HS := hide (Nat.le_trans (unhide HS) hcb.size)
                  replace HO := hide (OwnB.below (unhide HO) hcb)
                  have HCV := hide hcells; have HMK := hide hmk; clear hcells hmk hc2 hc1 hcb hrun18
                  refine hK20112.out _ _ ?hs20112 (fun hHeld20112 => ?_)
                  case hs20112 => exact unhide HV
                  clear hHeld
                  have hHeld := hHeld20112; clear hHeld20112 hK20112 K20112
                  refine wpAnyH_ready (rs := [4]) (by kernel_rfl) (by simp) ?_
                  refine AllReadyH.cons rfl (fun K20113 hK20113 => ?_) AllReadyH.nil
                  go_simp
                  go_wp2_with (go_at_call 42; refine (rfree_any vv.size _ (w.heap.size + 1) _ _ (by omega) (unhide HO) (unhide HS) (by simp only [List.length_append, fx_len, List.length_cons, List.length_nil, by8_len]; omega)).mono ?_; rintro e W19 ⟨v19, rfl, ow19, hk19⟩)
                  have gr19 := hk19.grown; clear hk19
                  replace HV := hide ((unhide HV).gr gr19 (ob_ne (unhide HO) (unhide HV) (by decide)))
                  replace HC := hide ((unhide HC).gr gr19 (ob_ne (unhide HO) (unhide HC) (by decide)))
                  replace HB := hide (below_gr (unhide HB) (unhide HO) (by omega) (unhide HS) gr19)
                  replace HS := hide (Nat.le_trans (unhide HS) gr19.size)
                  replace HCV := hide (conv_keep (unhide HCV) (unhide HMK).lt gr19 (ob_mark (unhide HO) (unhide HMK)))
                  replace HMK := hide ((unhide HMK).gr gr19 (ob_mark (unhide HO) (unhide HMK)))
                  replace HO := hide ow19
                  clear gr19 ow19
                  refine hK20113.out _ _ ?hs20113 (fun hHeld20113 => ?_)
                  case hs20113 => exact unhide HV
                  clear hHeld
                  have hHeld := hHeld20113; clear hHeld20113 hK20113 K20113
                  refine wpAnyH_ready (rs := [8]) (by kernel_rfl) (by simp) ?_
                  refine AllReadyH.cons rfl (fun K20114 hK20114 => ?_) AllReadyH.nil
                  refine step_appT rfl _ _ rfl W19 (w.heap.size + 1) v19 _ vv ⟨cb18, 0, none⟩ cc18 (unhide HO) rfl rfl (fun j u hj => by rw [addr0]; exact unhide HCV j u hj) (by simp only [List.length_append, fx_len, List.length_cons, List.length_nil, by8_len]; omega) (unhide HS) ?_
                  intro v20 W20 ow20 gr20
                  change K20114 (Act.put _ (some 63) _) _
                  simp only [Act.put, List.setIfInBounds_toArray, List.set_cons_zero, List.set_cons_succ]
                  clear HCV HMK
                  replace HV := hide ((unhide HV).gr gr20 (ob_ne (unhide HO) (unhide HV) (by decide)))
                  replace HC := hide ((unhide HC).gr gr20 (ob_ne (unhide HO) (unhide HC) (by decide)))
                  replace HB := hide (below_gr (unhide HB) (unhide HO) (by omega) (unhide HS) gr20)
                  replace HS := hide (Nat.le_trans (unhide HS) gr20.size)
                  replace HO := hide ow20
                  clear gr20 ow20
                  refine hK20114.out _ _ ?hs20114 (fun hHeld20114 => ?_)
                  case hs20114 => exact unhide HV
                  clear hHeld
                  have hHeld := hHeld20114; clear hHeld20114 hK20114 K20114
                  refine wpAnyH_ready (rs := [9]) (by kernel_rfl) (by simp) ?_
                  refine AllReadyH.cons rfl (fun K20115 hK20115 => ?_) AllReadyH.nil
                  go_simp
                  refine hK20115.out _ _ ?hs20115 (fun hHeld20115 => ?_)
                  case hs20115 => exact unhide HV
                  clear hHeld
                  have hHeld := hHeld20115; clear hHeld20115 hK20115 K20115
                  refine wpAnyH_done (by kernel_rfl) ?_ _
                  refine NoPanic.normal ?_
                  simp only [Exit.inBlock, Exit.then]
                  refine hloop _ _ ?_
                  clear hHeld
                  have HOO := unhide HO
                  go_wp2
                  go_roundw
                  case rel =>
                    refine ⟨n + 1, by omega, by go_num, ?_, HC, HB, HS⟩
                    show OwnB _ _ _ _
                    rw [unhide HF]
                    have e9 : wr2 ⟨kk, vv, false⟩ = [yg] ++ sh kk.size ++ by8 kk ++ sh vv.size ++ by8 vv := by
                      unfold wr2 tx; rw [unhide HYG]; simp
                    rw [e9]
                    simpa using HOO
                  case measure => simp [intOf] <;> omega
              · go_wp2
                have HOO := unhide HO
                go_roundw
                case rel =>
                  refine ⟨n + 1, by omega, by go_num, ?_, HC, HB, HS⟩
                  show OwnB _ _ _ _
                  rw [unhide HF]
                  have e9 : wr2 ⟨kk, vv, true⟩ = [yg] ++ sh kk.size ++ by8 kk := by
                    unfold wr2 tx; rw [unhide HYG]; simp
                  rw [e9]
                  simpa using HOO
                case measure => simp [intOf] <;> omega
            refine AllReadyH.cons rfl (fun K20116 hK20116 => ?_) AllReadyH.nil
            · obtain ⟨cv21, Wc21, hrun21, hcv21⟩ := conv_run kk W10
              go_simp
              obtain ⟨cb21, cc21, rfl, hc1, hc2, hcb, hmk, hcells⟩ := hcv21
              replace HV := hide ((unhide HV).below hcb)
              replace HC := hide ((unhide HC).below hcb)
              replace HB := hide (Below.onto (unhide HB) hcb)
              replace HS := hide (Nat.le_trans (unhide HS) hcb.size)
              replace HO := hide (OwnB.below (unhide HO) hcb)
              have HCV := hide hcells; have HMK := hide hmk; clear hcells hmk hc2 hc1 hcb hrun21
              refine hK20116.out _ _ ?hs20116 (fun hHeld20116 => ?_)
              case hs20116 => exact unhide HV
              clear hHeld
              have hHeld := hHeld20116; clear hHeld20116 hK20116 K20116
              refine wpAnyH_ready (rs := [9]) (by kernel_rfl) (by simp) ?_
              refine AllReadyH.cons rfl (fun K20117 hK20117 => ?_) AllReadyH.nil
              go_simp
              go_wp2_with (go_at_call 42; refine (rfree_any kk.size _ (w.heap.size + 1) _ _ (by omega) (unhide HO) (unhide HS) (by simp only [List.length_append, fx_len, List.length_cons, List.length_nil, by8_len]; omega)).mono ?_; rintro e W22 ⟨v22, rfl, ow22, hk22⟩)
              have gr22 := hk22.grown; clear hk22
              replace HV := hide ((unhide HV).gr gr22 (ob_ne (unhide HO) (unhide HV) (by decide)))
              replace HC := hide ((unhide HC).gr gr22 (ob_ne (unhide HO) (unhide HC) (by decide)))
              replace HB := hide (below_gr (unhide HB) (unhide HO) (by omega) (unhide HS) gr22)
              replace HS := hide (Nat.le_trans (unhide HS) gr22.size)
              replace HCV := hide (conv_keep (unhide HCV) (unhide HMK).lt gr22 (ob_mark (unhide HO) (unhide HMK)))
              replace HMK := hide ((unhide HMK).gr gr22 (ob_mark (unhide HO) (unhide HMK)))
              replace HO := hide ow22
              clear gr22 ow22
              refine hK20117.out _ _ ?hs20117 (fun hHeld20117 => ?_)
              case hs20117 => exact unhide HV
              clear hHeld
              have hHeld := hHeld20117; clear hHeld20117 hK20117 K20117
              refine wpAnyH_ready (rs := [13]) (by kernel_rfl) (by simp) ?_
              refine AllReadyH.cons rfl (fun K20118 hK20118 => ?_) AllReadyH.nil
              refine step_appT rfl _ _ rfl W22 (w.heap.size + 1) v22 _ kk ⟨cb21, 0, none⟩ cc21 (unhide HO) rfl rfl (fun j u hj => by rw [addr0]; exact unhide HCV j u hj) (by simp only [List.length_append, fx_len, List.length_cons, List.length_nil, by8_len]; omega) (unhide HS) ?_
              intro v23 W23 ow23 gr23
              change K20118 (Act.put _ (some 51) _) _
              simp only [Act.put, List.setIfInBounds_toArray, List.set_cons_zero, List.set_cons_succ]
              clear HCV HMK
              replace HV := hide ((unhide HV).gr gr23 (ob_ne (unhide HO) (unhide HV) (by decide)))
              replace HC := hide ((unhide HC).gr gr23 (ob_ne (unhide HO) (unhide HC) (by decide)))
              replace HB := hide (below_gr (unhide HB) (unhide HO) (by omega) (unhide HS) gr23)
              replace HS := hide (Nat.le_trans (unhide HS) gr23.size)
              replace HO := hide ow23
              clear gr23 ow23
              refine hK20118.out _ _ ?hs20118 (fun hHeld20118 => ?_)
              case hs20118 => exact unhide HV
              clear hHeld
              have hHeld := hHeld20118; clear hHeld20118 hK20118 K20118
              refine wpAnyH_ready (rs := [14]) (by kernel_rfl) (by simp) ?_
              refine AllReadyH.cons rfl (fun K20119 hK20119 => ?_) AllReadyH.nil
              go_simp
              refine hK20119.out _ _ ?hs20119 (fun hHeld20119 => ?_)
              case hs20119 => exact unhide HV
              clear hHeld
              have hHeld := hHeld20119; clear hHeld20119 hK20119 K20119
              refine wpAnyH_done (by kernel_rfl) ?_ _
              refine NoPanic.normal ?_
              refine hrest _ _ ?_
              clear hHeld
              have v2_ := (unhide HV).cell 2
              simp at v2_
              cases gg
              · have v1_ := (unhide HV).cell 1
                simp at v1_
                go_wp2
                have hbd : Below W23.heap.size W23 W23.drew := (Below.refl _ _).drew
                replace HV := hide ((unhide HV).below hbd)
                replace HC := hide ((unhide HC).below hbd)
                replace HB := hide (Below.onto (unhide HB) hbd)
                replace HS := hide (Nat.le_trans (unhide HS) hbd.size)
                replace HO := hide (OwnB.below (unhide HO) hbd)
                refine wp_region_noPanic ?_
                refine wp_region_held_drew (S := (fun X => Blk wr.heap.size #[.string kk, .string vv, .bool false] 40 X)) (by kernel_rfl) (unhide HV) (fun hHeld => ?_)
                clear hbd v1_ v2_
                generalize W23.drew = Z24 at *
                refine wpAnyH_take (i := 0) (oi := ?oi20120) (v := ?v20120) ?hi20120 (by kernel_rfl) (by kernel_rfl) (by kernel_rfl) (fun _ _ _ h => h) (Or.inl ⟨?hw20120, ?hy20120⟩) (by assumption) ?rest20120
                case hi20120 => (simp only [List.getElem?_toArray, List.getElem?_cons_zero]; rfl)
                case hw20120 => rfl
                case hy20120 => first | (intro wx hSw; go_simp; done) | (intro wx hSw; go_simp; with_reducible rfl)
                simp only [Act.put, List.setIfInBounds_toArray, List.set_cons_zero, List.set_cons_succ]
                refine wpAnyH_take (i := 1) (oi := ?oi20121) (v := ?v20121) ?hi20121 (by kernel_rfl) (by kernel_rfl) (by kernel_rfl) (fun _ _ _ h => h) (Or.inl ⟨?hw20121, ?hy20121⟩) (by assumption) ?rest20121
                case hi20121 => (simp only [List.getElem?_toArray, List.getElem?_cons_zero, List.getElem?_cons_succ]; rfl)
                case hw20121 => rfl
                case hy20121 => first | (intro wx hSw; go_simp; done) | (intro wx hSw; go_simp; with_reducible rfl)
                simp only [Act.put, List.setIfInBounds_toArray, List.set_cons_zero, List.set_cons_succ]
                refine wpAnyH_take (i := 2) (oi := ?oi20122) (v := ?v20122) ?hi20122 (by kernel_rfl) (by kernel_rfl) (by kernel_rfl) (fun _ _ _ h => h) (Or.inl ⟨?hw20122, ?hy20122⟩) (by assumption) ?rest20122
                case hi20122 => (simp only [List.getElem?_toArray, List.getElem?_cons_zero, List.getElem?_cons_succ]; rfl)
                case hw20122 => rfl
                case hy20122 => first | (intro wx hSw; have q_ := Blk.cell hSw 1; simp at q_; go_simp; done) | (intro wx hSw; have q_ := Blk.cell hSw 1; simp at q_; go_simp; with_reducible rfl)
                simp only [Act.put, List.setIfInBounds_toArray, List.set_cons_zero, List.set_cons_succ]
                refine wpAnyH_take (i := 3) (oi := ?oi20123) (v := ?v20123) ?hi20123 (by kernel_rfl) (by kernel_rfl) (by kernel_rfl) (fun _ _ _ h => h) (Or.inl ⟨?hw20123, ?hy20123⟩) (by assumption) ?rest20123
                case hi20123 => (simp only [List.getElem?_toArray, List.getElem?_cons_zero, List.getElem?_cons_succ]; rfl)
                case hw20123 => rfl
                case hy20123 => first | (intro wx hSw; go_simp; done) | (intro wx hSw; go_simp; with_reducible rfl)
                simp only [Act.put, List.setIfInBounds_toArray, List.set_cons_zero, List.set_cons_succ]
                refine wpAnyH_take (i := 5) (oi := ?oi20124) (v := ?v20124) ?hi20124 (by kernel_rfl) (by kernel_rfl) (by kernel_rfl) (fun _ _ _ h => h) (Or.inl ⟨?hw20124, ?hy20124⟩) (by assumption) ?rest20124
                case hi20124 => (simp only [List.getElem?_toArray, List.getElem?_cons_zero, List.getElem?_cons_succ]; rfl)
                case hw20124 => rfl
                case hy20124 => first | (intro wx hSw; go_simp; done) | (intro wx hSw; go_simp; with_reducible rfl)
                simp only [Act.put, List.setIfInBounds_toArray, List.set_cons_zero, List.set_cons_succ]
                refine wpAnyH_take (i := 6) (oi := ?oi20125) (v := ?v20125) ?hi20125 (by kernel_rfl) (by kernel_rfl) (by kernel_rfl) (fun _ _ _ h => h) (Or.inl ⟨?hw20125, ?hy20125⟩) (by assumption) ?rest20125
                case hi20125 => (simp only [List.getElem?_toArray, List.getElem?_cons_zero, List.getElem?_cons_succ]; rfl)
                case hw20125 => rfl
                case hy20125 => first | (intro wx hSw; have q_ := Blk.cell hSw 1; simp at q_; go_simp; done) | (intro wx hSw; have q_ := Blk.cell hSw 1; simp at q_; go_simp; with_reducible rfl)
                simp only [Act.put, List.setIfInBounds_toArray, List.set_cons_zero, List.set_cons_succ]
                refine wpAnyH_ready (rs := [4, 7]) (by kernel_rfl) (by simp) ?_
                refine AllReadyH.cons rfl (fun K20126 hK20126 => ?_) ?_
                · go_simp
                  go_wp2_with (go_at_call 42; refine (rfree_any vv.size _ (w.heap.size + 1) _ _ (by omega) (unhide HO) (unhide HS) (by simp only [List.length_append, fx_len, List.length_cons, List.length_nil, by8_len]; omega)).mono ?_; rintro e W25 ⟨v25, rfl, ow25, hk25⟩)
                  have gr25 := hk25.grown; clear hk25
                  replace HV := hide ((unhide HV).gr gr25 (ob_ne (unhide HO) (unhide HV) (by decide)))
                  replace HC := hide ((unhide HC).gr gr25 (ob_ne (unhide HO) (unhide HC) (by decide)))
                  replace HB := hide (below_gr (unhide HB) (unhide HO) (by omega) (unhide HS) gr25)
                  replace HS := hide (Nat.le_trans (unhide HS) gr25.size)
                  replace HO := hide ow25
                  clear gr25 ow25
                  refine hK20126.out _ _ ?hs20126 (fun hHeld20126 => ?_)
                  case hs20126 => exact unhide HV
                  clear hHeld
                  have hHeld := hHeld20126; clear hHeld20126 hK20126 K20126
                  refine wpAnyH_ready (rs := [7]) (by kernel_rfl) (by simp) ?_
                  refine AllReadyH.cons rfl (fun K20127 hK20127 => ?_) AllReadyH.nil
                  obtain ⟨cv26, Wc26, hrun26, hcv26⟩ := conv_run vv W25
                  go_simp
                  obtain ⟨cb26, cc26, rfl, hc1, hc2, hcb, hmk, hcells⟩ := hcv26
                  replace HV := hide ((unhide HV).below hcb)
                  replace HC := hide ((unhide HC).below hcb)
                  replace HB := hide (Below.onto (unhide HB) hcb)
                  replace HS := hide (Nat.le_trans (unhide HS) hcb.size)
                  replace HO := hide (OwnB.below (unhide HO) hcb)
                  have HCV := hide hcells; have HMK := hide hmk; clear hcells hmk hc2 hc1 hcb hrun26
                  refine hK20127.out _ _ ?hs20127 (fun hHeld20127 => ?_)
                  case hs20127 => exact unhide HV
                  clear hHeld
                  have hHeld := hHeld20127; clear hHeld20127 hK20127 K20127
                  refine wpAnyH_ready (rs := [8]) (by kernel_rfl) (by simp) ?_
                  refine AllReadyH.cons rfl (fun K20128 hK20128 => ?_) AllReadyH.nil
                  refine step_appT rfl _ _ rfl Wc26 (w.heap.size + 1) v25 _ vv ⟨cb26, 0, none⟩ cc26 (unhide HO) rfl rfl (fun j u hj => by rw [addr0]; exact unhide HCV j u hj) (by simp only [List.length_append, fx_len, List.length_cons, List.length_nil, by8_len]; omega) (unhide HS) ?_
                  intro v27 W27 ow27 gr27
                  change K20128 (Act.put _ (some 63) _) _
                  simp only [Act.put, List.setIfInBounds_toArray, List.set_cons_zero, List.set_cons_succ]
                  clear HCV HMK
                  replace HV := hide ((unhide HV).gr gr27 (ob_ne (unhide HO) (unhide HV) (by decide)))
                  replace HC := hide ((unhide HC).gr gr27 (ob_ne (unhide HO) (unhide HC) (by decide)))
                  replace HB := hide (below_gr (unhide HB) (unhide HO) (by omega) (unhide HS) gr27)
                  replace HS := hide (Nat.le_trans (unhide HS) gr27.size)
                  replace HO := hide ow27
                  clear gr27 ow27
                  refine hK20128.out _ _ ?hs20128 (fun hHeld20128 => ?_)
                  case hs20128 => exact unhide HV
                  clear hHeld
                  have hHeld := hHeld20128; clear hHeld20128 hK20128 K20128
                  refine wpAnyH_ready (rs := [9]) (by kernel_rfl) (by simp) ?_
                  refine AllReadyH.cons rfl (fun K20129 hK20129 => ?_) AllReadyH.nil
                  go_simp
                  refine hK20129.out _ _ ?hs20129 (fun hHeld20129 => ?_)
                  case hs20129 => exact unhide HV
                  clear hHeld
                  have hHeld := hHeld20129; clear hHeld20129 hK20129 K20129
                  refine wpAnyH_done (by kernel_rfl) ?_ _
                  refine NoPanic.normal ?_
                  simp only [Exit.inBlock, Exit.then]
                  refine hloop _ _ ?_
                  clear hHeld
                  have HOO := unhide HO
                  go_wp2
                  go_roundw
                  case rel =>
                    refine ⟨n + 1, by omega, by go_num, ?_, HC, HB, HS⟩
                    show OwnB _ _ _ _
                    rw [unhide HF]
                    have e9 : wr2 ⟨kk, vv, false⟩ = [yg] ++ sh kk.size ++ by8 kk ++ sh vv.size ++ by8 vv := by
                      unfold wr2 tx; rw [unhide HYG]; simp
                    rw [e9]
                    simpa using HOO
                  case measure => simp [intOf] <;> omega
                refine AllReadyH.cons rfl (fun K20130 hK20130 => ?_) AllReadyH.nil
                · obtain ⟨cv28, Wc28, hrun28, hcv28⟩ := conv_run vv Z24
                  go_simp
                  obtain ⟨cb28, cc28, rfl, hc1, hc2, hcb, hmk, hcells⟩ := hcv28
                  replace HV := hide ((unhide HV).below hcb)
                  replace HC := hide ((unhide HC).below hcb)
                  replace HB := hide (Below.onto (unhide HB) hcb)
                  replace HS := hide (Nat.le_trans (unhide HS) hcb.size)
                  replace HO := hide (OwnB.below (unhide HO) hcb)
                  have HCV := hide hcells; have HMK := hide hmk; clear hcells hmk hc2 hc1 hcb hrun28
                  refine hK20130.out _ _ ?hs20130 (fun hHeld20130 => ?_)
                  case hs20130 => exact unhide HV
                  clear hHeld
                  have hHeld := hHeld20130; clear hHeld20130 hK20130 K20130
                  refine wpAnyH_ready (rs := [4]) (by kernel_rfl) (by simp) ?_
                  refine AllReadyH.cons rfl (fun K20131 hK20131 => ?_) AllReadyH.nil
                  go_simp
                  go_wp2_with (go_at_call 42; refine (rfree_any vv.size _ (w.heap.size + 1) _ _ (by omega) (unhide HO) (unhide HS) (by simp only [List.length_append, fx_len, List.length_cons, List.length_nil, by8_len]; omega)).mono ?_; rintro e W29 ⟨v29, rfl, ow29, hk29⟩)
                  have gr29 := hk29.grown; clear hk29
                  replace HV := hide ((unhide HV).gr gr29 (ob_ne (unhide HO) (unhide HV) (by decide)))
                  replace HC := hide ((unhide HC).gr gr29 (ob_ne (unhide HO) (unhide HC) (by decide)))
                  replace HB := hide (below_gr (unhide HB) (unhide HO) (by omega) (unhide HS) gr29)
                  replace HS := hide (Nat.le_trans (unhide HS) gr29.size)
                  replace HCV := hide (conv_keep (unhide HCV) (unhide HMK).lt gr29 (ob_mark (unhide HO) (unhide HMK)))
                  replace HMK := hide ((unhide HMK).gr gr29 (ob_mark (unhide HO) (unhide HMK)))
                  replace HO := hide ow29
                  clear gr29 ow29
                  refine hK20131.out _ _ ?hs20131 (fun hHeld20131 => ?_)
                  case hs20131 => exact unhide HV
                  clear hHeld
                  have hHeld := hHeld20131; clear hHeld20131 hK20131 K20131
                  refine wpAnyH_ready (rs := [8]) (by kernel_rfl) (by simp) ?_
                  refine AllReadyH.cons rfl (fun K20132 hK20132 => ?_) AllReadyH.nil
                  refine step_appT rfl _ _ rfl W29 (w.heap.size + 1) v29 _ vv ⟨cb28, 0, none⟩ cc28 (unhide HO) rfl rfl (fun j u hj => by rw [addr0]; exact unhide HCV j u hj) (by simp only [List.length_append, fx_len, List.length_cons, List.length_nil, by8_len]; omega) (unhide HS) ?_
                  intro v30 W30 ow30 gr30
                  change K20132 (Act.put _ (some 63) _) _
                  simp only [Act.put, List.setIfInBounds_toArray, List.set_cons_zero, List.set_cons_succ]
                  clear HCV HMK
                  replace HV := hide ((unhide HV).gr gr30 (ob_ne (unhide HO) (unhide HV) (by decide)))
                  replace HC := hide ((unhide HC).gr gr30 (ob_ne (unhide HO) (unhide HC) (by decide)))
                  replace HB := hide (below_gr (unhide HB) (unhide HO) (by omega) (unhide HS) gr30)
                  replace HS := hide (Nat.le_trans (unhide HS) gr30.size)
                  replace HO := hide ow30
                  clear gr30 ow30
                  refine hK20132.out _ _ ?hs20132 (fun hHeld20132 => ?_)
                  case hs20132 => exact unhide HV
                  clear hHeld
                  have hHeld := hHeld20132; clear hHeld20132 hK20132 K20132
                  refine wpAnyH_ready (rs := [9]) (by kernel_rfl) (by simp) ?_
                  refine AllReadyH.cons rfl (fun K20133 hK20133 => ?_) AllReadyH.nil
                  go_simp
                  refine hK20133.out _ _ ?hs20133 (fun hHeld20133 => ?_)
                  case hs20133 => exact unhide HV
                  clear hHeld
                  have hHeld := hHeld20133; clear hHeld20133 hK20133 K20133
                  refine wpAnyH_done (by kernel_rfl) ?_ _
                  refine NoPanic.normal ?_
                  simp only [Exit.inBlock, Exit.then]
                  refine hloop _ _ ?_
                  clear hHeld
                  have HOO := unhide HO
                  go_wp2
                  go_roundw
                  case rel =>
                    refine ⟨n + 1, by omega, by go_num, ?_, HC, HB, HS⟩
                    show OwnB _ _ _ _
                    rw [unhide HF]
                    have e9 : wr2 ⟨kk, vv, false⟩ = [yg] ++ sh kk.size ++ by8 kk ++ sh vv.size ++ by8 vv := by
                      unfold wr2 tx; rw [unhide HYG]; simp
                    rw [e9]
                    simpa using HOO
                  case measure => simp [intOf] <;> omega
              · go_wp2
                have HOO := unhide HO
                go_roundw
                case rel =>
                  refine ⟨n + 1, by omega, by go_num, ?_, HC, HB, HS⟩
                  show OwnB _ _ _ _
                  rw [unhide HF]
                  have e9 : wr2 ⟨kk, vv, true⟩ = [yg] ++ sh kk.size ++ by8 kk := by
                    unfold wr2 tx; rw [unhide HYG]; simp
                  rw [e9]
                  simpa using HOO
                case measure => simp [intOf] <;> omega
          refine AllReadyH.cons rfl (fun K20134 hK20134 => ?_) AllReadyH.nil
          · obtain ⟨cv31, Wc31, hrun31, hcv31⟩ := conv_run kk Y9
            go_simp
            obtain ⟨cb31, cc31, rfl, hc1, hc2, hcb, hmk, hcells⟩ := hcv31
            replace HV := hide ((unhide HV).below hcb)
            replace HC := hide ((unhide HC).below hcb)
            replace HB := hide (Below.onto (unhide HB) hcb)
            replace HS := hide (Nat.le_trans (unhide HS) hcb.size)
            replace HO := hide (OwnB.below (unhide HO) hcb)
            replace HN1 := hide ((unhide HN1).below hcb)
            have HCV := hide hcells; have HMK := hide hmk; clear hcells hmk hc2 hc1 hcb hrun31
            refine hK20134.out _ _ ?hs20134 (fun hHeld20134 => ?_)
            case hs20134 => exact unhide HV
            clear hHeld
            have hHeld := hHeld20134; clear hHeld20134 hK20134 K20134
            refine wpAnyH_ready (rs := [5]) (by kernel_rfl) (by simp) ?_
            refine AllReadyH.cons rfl (fun K20135 hK20135 => ?_) AllReadyH.nil
            refine step_app1b rfl _ _ rfl Wc31 gb yg (w.heap.size + 1) u3 _ (unhide HO) (unhide HN1) rfl rfl (by simp only [List.length_append, fx_len, List.length_cons, List.length_nil, by8_len]; omega) (unhide HS) ?_
            intro v32 W32 ow32 gr32
            change K20135 (Act.put _ (some 43) _) _
            simp only [Act.put, List.setIfInBounds_toArray, List.set_cons_zero, List.set_cons_succ]
            clear HN1 HNB
            replace HV := hide ((unhide HV).gr gr32 (ob_ne (unhide HO) (unhide HV) (by decide)))
            replace HC := hide ((unhide HC).gr gr32 (ob_ne (unhide HO) (unhide HC) (by decide)))
            replace HB := hide (below_gr (unhide HB) (unhide HO) (by omega) (unhide HS) gr32)
            replace HS := hide (Nat.le_trans (unhide HS) gr32.size)
            replace HCV := hide (conv_keep (unhide HCV) (unhide HMK).lt gr32 (ob_mark (unhide HO) (unhide HMK)))
            replace HMK := hide ((unhide HMK).gr gr32 (ob_mark (unhide HO) (unhide HMK)))
            replace HO := hide ow32
            clear gr32 ow32
            refine hK20135.out _ _ ?hs20135 (fun hHeld20135 => ?_)
            case hs20135 => exact unhide HV
            clear hHeld
            have hHeld := hHeld20135; clear hHeld20135 hK20135 K20135
            refine wpAnyH_ready (rs := [9]) (by kernel_rfl) (by simp) ?_
            refine AllReadyH.cons rfl (fun K20136 hK20136 => ?_) AllReadyH.nil
            go_simp
            go_wp2_with (go_at_call 42; refine (rfree_any kk.size _ (w.heap.size + 1) _ _ (by omega) (unhide HO) (unhide HS) (by simp only [List.length_append, fx_len, List.length_cons, List.length_nil, by8_len]; omega)).mono ?_; rintro e W33 ⟨v33, rfl, ow33, hk33⟩)
            have gr33 := hk33.grown; clear hk33
            replace HV := hide ((unhide HV).gr gr33 (ob_ne (unhide HO) (unhide HV) (by decide)))
            replace HC := hide ((unhide HC).gr gr33 (ob_ne (unhide HO) (unhide HC) (by decide)))
            replace HB := hide (below_gr (unhide HB) (unhide HO) (by omega) (unhide HS) gr33)
            replace HS := hide (Nat.le_trans (unhide HS) gr33.size)
            replace HCV := hide (conv_keep (unhide HCV) (unhide HMK).lt gr33 (ob_mark (unhide HO) (unhide HMK)))
            replace HMK := hide ((unhide HMK).gr gr33 (ob_mark (unhide HO) (unhide HMK)))
            replace HO := hide ow33
            clear gr33 ow33
            refine hK20136.out _ _ ?hs20136 (fun hHeld20136 => ?_)
            case hs20136 => exact unhide HV
            clear hHeld
            have hHeld := hHeld20136; clear hHeld20136 hK20136 K20136
            refine wpAnyH_ready (rs := [13]) (by kernel_rfl) (by simp) ?_
            refine AllReadyH.cons rfl (fun K20137 hK20137 => ?_) AllReadyH.nil
            refine step_appT rfl _ _ rfl W33 (w.heap.size + 1) v33 _ kk ⟨cb31, 0, none⟩ cc31 (unhide HO) rfl rfl (fun j u hj => by rw [addr0]; exact unhide HCV j u hj) (by simp only [List.length_append, fx_len, List.length_cons, List.length_nil, by8_len]; omega) (unhide HS) ?_
            intro v34 W34 ow34 gr34
            change K20137 (Act.put _ (some 51) _) _
            simp only [Act.put, List.setIfInBounds_toArray, List.set_cons_zero, List.set_cons_succ]
            clear HCV HMK
            replace HV := hide ((unhide HV).gr gr34 (ob_ne (unhide HO) (unhide HV) (by decide)))
            replace HC := hide ((unhide HC).gr gr34 (ob_ne (unhide HO) (unhide HC) (by decide)))
            replace HB := hide (below_gr (unhide HB) (unhide HO) (by omega) (unhide HS) gr34)
            replace HS := hide (Nat.le_trans (unhide HS) gr34.size)
            replace HO := hide ow34
            clear gr34 ow34
            refine hK20137.out _ _ ?hs20137 (fun hHeld20137 => ?_)
            case hs20137 => exact unhide HV
            clear hHeld
            have hHeld := hHeld20137; clear hHeld20137 hK20137 K20137
            refine wpAnyH_ready (rs := [14]) (by kernel_rfl) (by simp) ?_
            refine AllReadyH.cons rfl (fun K20138 hK20138 => ?_) AllReadyH.nil
            go_simp
            refine hK20138.out _ _ ?hs20138 (fun hHeld20138 => ?_)
            case hs20138 => exact unhide HV
            clear hHeld
            have hHeld := hHeld20138; clear hHeld20138 hK20138 K20138
            refine wpAnyH_done (by kernel_rfl) ?_ _
            refine NoPanic.normal ?_
            refine hrest _ _ ?_
            clear hHeld
            have v2_ := (unhide HV).cell 2
            simp at v2_
            cases gg
            · have v1_ := (unhide HV).cell 1
              simp at v1_
              go_wp2
              have hbd : Below W34.heap.size W34 W34.drew := (Below.refl _ _).drew
              replace HV := hide ((unhide HV).below hbd)
              replace HC := hide ((unhide HC).below hbd)
              replace HB := hide (Below.onto (unhide HB) hbd)
              replace HS := hide (Nat.le_trans (unhide HS) hbd.size)
              replace HO := hide (OwnB.below (unhide HO) hbd)
              refine wp_region_noPanic ?_
              refine wp_region_held_drew (S := (fun X => Blk wr.heap.size #[.string kk, .string vv, .bool false] 40 X)) (by kernel_rfl) (unhide HV) (fun hHeld => ?_)
              clear hbd v1_ v2_
              generalize W34.drew = Z35 at *
              refine wpAnyH_take (i := 0) (oi := ?oi20139) (v := ?v20139) ?hi20139 (by kernel_rfl) (by kernel_rfl) (by kernel_rfl) (fun _ _ _ h => h) (Or.inl ⟨?hw20139, ?hy20139⟩) (by assumption) ?rest20139
              case hi20139 => (simp only [List.getElem?_toArray, List.getElem?_cons_zero]; rfl)
              case hw20139 => rfl
              case hy20139 => first | (intro wx hSw; go_simp; done) | (intro wx hSw; go_simp; with_reducible rfl)
              simp only [Act.put, List.setIfInBounds_toArray, List.set_cons_zero, List.set_cons_succ]
              refine wpAnyH_take (i := 1) (oi := ?oi20140) (v := ?v20140) ?hi20140 (by kernel_rfl) (by kernel_rfl) (by kernel_rfl) (fun _ _ _ h => h) (Or.inl ⟨?hw20140, ?hy20140⟩) (by assumption) ?rest20140
              case hi20140 => (simp only [List.getElem?_toArray, List.getElem?_cons_zero, List.getElem?_cons_succ]; rfl)
              case hw20140 => rfl
              case hy20140 => first | (intro wx hSw; go_simp; done) | (intro wx hSw; go_simp; with_reducible rfl)
              simp only [Act.put, List.setIfInBounds_toArray, List.set_cons_zero, List.set_cons_succ]
              refine wpAnyH_take (i := 2) (oi := ?oi20141) (v := ?v20141) ?hi20141 (by kernel_rfl) (by kernel_rfl) (by kernel_rfl) (fun _ _ _ h => h) (Or.inl ⟨?hw20141, ?hy20141⟩) (by assumption) ?rest20141
              case hi20141 => (simp only [List.getElem?_toArray, List.getElem?_cons_zero, List.getElem?_cons_succ]; rfl)
              case hw20141 => rfl
              case hy20141 => first | (intro wx hSw; have q_ := Blk.cell hSw 1; simp at q_; go_simp; done) | (intro wx hSw; have q_ := Blk.cell hSw 1; simp at q_; go_simp; with_reducible rfl)
              simp only [Act.put, List.setIfInBounds_toArray, List.set_cons_zero, List.set_cons_succ]
              refine wpAnyH_take (i := 3) (oi := ?oi20142) (v := ?v20142) ?hi20142 (by kernel_rfl) (by kernel_rfl) (by kernel_rfl) (fun _ _ _ h => h) (Or.inl ⟨?hw20142, ?hy20142⟩) (by assumption) ?rest20142
              case hi20142 => (simp only [List.getElem?_toArray, List.getElem?_cons_zero, List.getElem?_cons_succ]; rfl)
              case hw20142 => rfl
              case hy20142 => first | (intro wx hSw; go_simp; done) | (intro wx hSw; go_simp; with_reducible rfl)
              simp only [Act.put, List.setIfInBounds_toArray, List.set_cons_zero, List.set_cons_succ]
              refine wpAnyH_take (i := 5) (oi := ?oi20143) (v := ?v20143) ?hi20143 (by kernel_rfl) (by kernel_rfl) (by kernel_rfl) (fun _ _ _ h => h) (Or.inl ⟨?hw20143, ?hy20143⟩) (by assumption) ?rest20143
              case hi20143 => (simp only [List.getElem?_toArray, List.getElem?_cons_zero, List.getElem?_cons_succ]; rfl)
              case hw20143 => rfl
              case hy20143 => first | (intro wx hSw; go_simp; done) | (intro wx hSw; go_simp; with_reducible rfl)
              simp only [Act.put, List.setIfInBounds_toArray, List.set_cons_zero, List.set_cons_succ]
              refine wpAnyH_take (i := 6) (oi := ?oi20144) (v := ?v20144) ?hi20144 (by kernel_rfl) (by kernel_rfl) (by kernel_rfl) (fun _ _ _ h => h) (Or.inl ⟨?hw20144, ?hy20144⟩) (by assumption) ?rest20144
              case hi20144 => (simp only [List.getElem?_toArray, List.getElem?_cons_zero, List.getElem?_cons_succ]; rfl)
              case hw20144 => rfl
              case hy20144 => first | (intro wx hSw; have q_ := Blk.cell hSw 1; simp at q_; go_simp; done) | (intro wx hSw; have q_ := Blk.cell hSw 1; simp at q_; go_simp; with_reducible rfl)
              simp only [Act.put, List.setIfInBounds_toArray, List.set_cons_zero, List.set_cons_succ]
              refine wpAnyH_ready (rs := [4, 7]) (by kernel_rfl) (by simp) ?_
              refine AllReadyH.cons rfl (fun K20145 hK20145 => ?_) ?_
              · go_simp
                go_wp2_with (go_at_call 42; refine (rfree_any vv.size _ (w.heap.size + 1) _ _ (by omega) (unhide HO) (unhide HS) (by simp only [List.length_append, fx_len, List.length_cons, List.length_nil, by8_len]; omega)).mono ?_; rintro e W36 ⟨v36, rfl, ow36, hk36⟩)
                have gr36 := hk36.grown; clear hk36
                replace HV := hide ((unhide HV).gr gr36 (ob_ne (unhide HO) (unhide HV) (by decide)))
                replace HC := hide ((unhide HC).gr gr36 (ob_ne (unhide HO) (unhide HC) (by decide)))
                replace HB := hide (below_gr (unhide HB) (unhide HO) (by omega) (unhide HS) gr36)
                replace HS := hide (Nat.le_trans (unhide HS) gr36.size)
                replace HO := hide ow36
                clear gr36 ow36
                refine hK20145.out _ _ ?hs20145 (fun hHeld20145 => ?_)
                case hs20145 => exact unhide HV
                clear hHeld
                have hHeld := hHeld20145; clear hHeld20145 hK20145 K20145
                refine wpAnyH_ready (rs := [7]) (by kernel_rfl) (by simp) ?_
                refine AllReadyH.cons rfl (fun K20146 hK20146 => ?_) AllReadyH.nil
                obtain ⟨cv37, Wc37, hrun37, hcv37⟩ := conv_run vv W36
                go_simp
                obtain ⟨cb37, cc37, rfl, hc1, hc2, hcb, hmk, hcells⟩ := hcv37
                replace HV := hide ((unhide HV).below hcb)
                replace HC := hide ((unhide HC).below hcb)
                replace HB := hide (Below.onto (unhide HB) hcb)
                replace HS := hide (Nat.le_trans (unhide HS) hcb.size)
                replace HO := hide (OwnB.below (unhide HO) hcb)
                have HCV := hide hcells; have HMK := hide hmk; clear hcells hmk hc2 hc1 hcb hrun37
                refine hK20146.out _ _ ?hs20146 (fun hHeld20146 => ?_)
                case hs20146 => exact unhide HV
                clear hHeld
                have hHeld := hHeld20146; clear hHeld20146 hK20146 K20146
                refine wpAnyH_ready (rs := [8]) (by kernel_rfl) (by simp) ?_
                refine AllReadyH.cons rfl (fun K20147 hK20147 => ?_) AllReadyH.nil
                refine step_appT rfl _ _ rfl Wc37 (w.heap.size + 1) v36 _ vv ⟨cb37, 0, none⟩ cc37 (unhide HO) rfl rfl (fun j u hj => by rw [addr0]; exact unhide HCV j u hj) (by simp only [List.length_append, fx_len, List.length_cons, List.length_nil, by8_len]; omega) (unhide HS) ?_
                intro v38 W38 ow38 gr38
                change K20147 (Act.put _ (some 63) _) _
                simp only [Act.put, List.setIfInBounds_toArray, List.set_cons_zero, List.set_cons_succ]
                clear HCV HMK
                replace HV := hide ((unhide HV).gr gr38 (ob_ne (unhide HO) (unhide HV) (by decide)))
                replace HC := hide ((unhide HC).gr gr38 (ob_ne (unhide HO) (unhide HC) (by decide)))
                replace HB := hide (below_gr (unhide HB) (unhide HO) (by omega) (unhide HS) gr38)
                replace HS := hide (Nat.le_trans (unhide HS) gr38.size)
                replace HO := hide ow38
                clear gr38 ow38
                refine hK20147.out _ _ ?hs20147 (fun hHeld20147 => ?_)
                case hs20147 => exact unhide HV
                clear hHeld
                have hHeld := hHeld20147; clear hHeld20147 hK20147 K20147
                refine wpAnyH_ready (rs := [9]) (by kernel_rfl) (by simp) ?_
                refine AllReadyH.cons rfl (fun K20148 hK20148 => ?_) AllReadyH.nil
                go_simp
                refine hK20148.out _ _ ?hs20148 (fun hHeld20148 => ?_)
                case hs20148 => exact unhide HV
                clear hHeld
                have hHeld := hHeld20148; clear hHeld20148 hK20148 K20148
                refine wpAnyH_done (by kernel_rfl) ?_ _
                refine NoPanic.normal ?_
                simp only [Exit.inBlock, Exit.then]
                refine hloop _ _ ?_
                clear hHeld
                have HOO := unhide HO
                go_wp2
                go_roundw
                case rel =>
                  refine ⟨n + 1, by omega, by go_num, ?_, HC, HB, HS⟩
                  show OwnB _ _ _ _
                  rw [unhide HF]
                  have e9 : wr2 ⟨kk, vv, false⟩ = [yg] ++ sh kk.size ++ by8 kk ++ sh vv.size ++ by8 vv := by
                    unfold wr2 tx; rw [unhide HYG]; simp
                  rw [e9]
                  simpa using HOO
                case measure => simp [intOf] <;> omega
              refine AllReadyH.cons rfl (fun K20149 hK20149 => ?_) AllReadyH.nil
              · obtain ⟨cv39, Wc39, hrun39, hcv39⟩ := conv_run vv Z35
                go_simp
                obtain ⟨cb39, cc39, rfl, hc1, hc2, hcb, hmk, hcells⟩ := hcv39
                replace HV := hide ((unhide HV).below hcb)
                replace HC := hide ((unhide HC).below hcb)
                replace HB := hide (Below.onto (unhide HB) hcb)
                replace HS := hide (Nat.le_trans (unhide HS) hcb.size)
                replace HO := hide (OwnB.below (unhide HO) hcb)
                have HCV := hide hcells; have HMK := hide hmk; clear hcells hmk hc2 hc1 hcb hrun39
                refine hK20149.out _ _ ?hs20149 (fun hHeld20149 => ?_)
                case hs20149 => exact unhide HV
                clear hHeld
                have hHeld := hHeld20149; clear hHeld20149 hK20149 K20149
                refine wpAnyH_ready (rs := [4]) (by kernel_rfl) (by simp) ?_
                refine AllReadyH.cons rfl (fun K20150 hK20150 => ?_) AllReadyH.nil
                go_simp
                go_wp2_with (go_at_call 42; refine (rfree_any vv.size _ (w.heap.size + 1) _ _ (by omega) (unhide HO) (unhide HS) (by simp only [List.length_append, fx_len, List.length_cons, List.length_nil, by8_len]; omega)).mono ?_; rintro e W40 ⟨v40, rfl, ow40, hk40⟩)
                have gr40 := hk40.grown; clear hk40
                replace HV := hide ((unhide HV).gr gr40 (ob_ne (unhide HO) (unhide HV) (by decide)))
                replace HC := hide ((unhide HC).gr gr40 (ob_ne (unhide HO) (unhide HC) (by decide)))
                replace HB := hide (below_gr (unhide HB) (unhide HO) (by omega) (unhide HS) gr40)
                replace HS := hide (Nat.le_trans (unhide HS) gr40.size)
                replace HCV := hide (conv_keep (unhide HCV) (unhide HMK).lt gr40 (ob_mark (unhide HO) (unhide HMK)))
                replace HMK := hide ((unhide HMK).gr gr40 (ob_mark (unhide HO) (unhide HMK)))
                replace HO := hide ow40
                clear gr40 ow40
                refine hK20150.out _ _ ?hs20150 (fun hHeld20150 => ?_)
                case hs20150 => exact unhide HV
                clear hHeld
                have hHeld := hHeld20150; clear hHeld20150 hK20150 K20150
                refine wpAnyH_ready (rs := [8]) (by kernel_rfl) (by simp) ?_
                refine AllReadyH.cons rfl (fun K20151 hK20151 => ?_) AllReadyH.nil
                refine step_appT rfl _ _ rfl W40 (w.heap.size + 1) v40 _ vv ⟨cb39, 0, none⟩ cc39 (unhide HO) rfl rfl (fun j u hj => by rw [addr0]; exact unhide HCV j u hj) (by simp only [List.length_append, fx_len, List.length_cons, List.length_nil, by8_len]; omega) (unhide HS) ?_
                intro v41 W41 ow41 gr41
                change K20151 (Act.put _ (some 63) _) _
                simp only [Act.put, List.setIfInBounds_toArray, List.set_cons_zero, List.set_cons_succ]
                clear HCV HMK
                replace HV := hide ((unhide HV).gr gr41 (ob_ne (unhide HO) (unhide HV) (by decide)))
                replace HC := hide ((unhide HC).gr gr41 (ob_ne (unhide HO) (unhide HC) (by decide)))
                replace HB := hide (below_gr (unhide HB) (unhide HO) (by omega) (unhide HS) gr41)
                replace HS := hide (Nat.le_trans (unhide HS) gr41.size)
                replace HO := hide ow41
                clear gr41 ow41
                refine hK20151.out _ _ ?hs20151 (fun hHeld20151 => ?_)
                case hs20151 => exact unhide HV
                clear hHeld
                have hHeld := hHeld20151; clear hHeld20151 hK20151 K20151
                refine wpAnyH_ready (rs := [9]) (by kernel_rfl) (by simp) ?_
                refine AllReadyH.cons rfl (fun K20152 hK20152 => ?_) AllReadyH.nil
                go_simp
                refine hK20152.out _ _ ?hs20152 (fun hHeld20152 => ?_)
                case hs20152 => exact unhide HV
                clear hHeld
                have hHeld := hHeld20152; clear hHeld20152 hK20152 K20152
                refine wpAnyH_done (by kernel_rfl) ?_ _
                refine NoPanic.normal ?_
                simp only [Exit.inBlock, Exit.then]
                refine hloop _ _ ?_
                clear hHeld
                have HOO := unhide HO
                go_wp2
                go_roundw
                case rel =>
                  refine ⟨n + 1, by omega, by go_num, ?_, HC, HB, HS⟩
                  show OwnB _ _ _ _
                  rw [unhide HF]
                  have e9 : wr2 ⟨kk, vv, false⟩ = [yg] ++ sh kk.size ++ by8 kk ++ sh vv.size ++ by8 vv := by
                    unfold wr2 tx; rw [unhide HYG]; simp
                  rw [e9]
                  simpa using HOO
                case measure => simp [intOf] <;> omega
            · go_wp2
              have HOO := unhide HO
              go_roundw
              case rel =>
                refine ⟨n + 1, by omega, by go_num, ?_, HC, HB, HS⟩
                show OwnB _ _ _ _
                rw [unhide HF]
                have e9 : wr2 ⟨kk, vv, true⟩ = [yg] ++ sh kk.size ++ by8 kk := by
                  unfold wr2 tx; rw [unhide HYG]; simp
                rw [e9]
                simpa using HOO
              case measure => simp [intOf] <;> omega
        refine AllReadyH.cons rfl (fun K20153 hK20153 => ?_) AllReadyH.nil
        · obtain ⟨cv42, Wc42, hrun42, hcv42⟩ := conv_run kk Z7
          go_simp
          obtain ⟨cb42, cc42, rfl, hc1, hc2, hcb, hmk, hcells⟩ := hcv42
          replace HV := hide ((unhide HV).below hcb)
          replace HC := hide ((unhide HC).below hcb)
          replace HB := hide (Below.onto (unhide HB) hcb)
          replace HS := hide (Nat.le_trans (unhide HS) hcb.size)
          replace HO := hide (OwnB.below (unhide HO) hcb)
          have HCV := hide hcells; have HMK := hide hmk; clear hcells hmk hc2 hc1 hcb hrun42
          refine hK20153.out _ _ ?hs20153 (fun hHeld20153 => ?_)
          case hs20153 => exact unhide HV
          clear hHeld
          have hHeld := hHeld20153; clear hHeld20153 hK20153 K20153
          refine wpAnyH_ready (rs := [4]) (by kernel_rfl) (by simp) ?_
          refine AllReadyH.cons rfl (fun K20154 hK20154 => ?_) AllReadyH.nil
          go_simp
          have HN1 := hide (Blk.new Wc42 #[.int .u8 (yg.toNat : Int)] 5)
          have hbn := below_new Wc42 (.cells #[.int .u8 (yg.toNat : Int)] 5)
          obtain ⟨gb, hgb⟩ : ∃ b, b = Wc42.heap.size := ⟨_, rfl⟩
          have HNB := hide (own_ne_new (unhide HO) (Nat.le_of_eq hgb.symm))
          rw [← hgb] at HN1
          simp only [← hgb]
          replace HV := hide ((unhide HV).below hbn)
          replace HC := hide ((unhide HC).below hbn)
          replace HB := hide (Below.onto (unhide HB) hbn)
          replace HS := hide (Nat.le_trans (unhide HS) hbn.size)
          replace HO := hide (OwnB.below (unhide HO) hbn)
          replace HCV := hide (conv_below (unhide HCV) (unhide HMK).lt hbn)
          replace HMK := hide ((unhide HMK).below hbn)
          generalize (Wc42.alloc (.cells #[.int .u8 (yg.toNat : Int)] 5)) = Y43 at *
          clear hbn hgb
          refine hK20154.out _ _ ?hs20154 (fun hHeld20154 => ?_)
          case hs20154 => exact unhide HV
          clear hHeld
          have hHeld := hHeld20154; clear hHeld20154 hK20154 K20154
          refine wpAnyH_ready (rs := [5]) (by kernel_rfl) (by simp) ?_
          refine AllReadyH.cons rfl (fun K20155 hK20155 => ?_) AllReadyH.nil
          refine step_app1b rfl _ _ rfl Y43 gb yg (w.heap.size + 1) u3 _ (unhide HO) (unhide HN1) rfl rfl (by simp only [List.length_append, fx_len, List.length_cons, List.length_nil, by8_len]; omega) (unhide HS) ?_
          intro v44 W44 ow44 gr44
          change K20155 (Act.put _ (some 43) _) _
          simp only [Act.put, List.setIfInBounds_toArray, List.set_cons_zero, List.set_cons_succ]
          clear HN1 HNB
          replace HV := hide ((unhide HV).gr gr44 (ob_ne (unhide HO) (unhide HV) (by decide)))
          replace HC := hide ((unhide HC).gr gr44 (ob_ne (unhide HO) (unhide HC) (by decide)))
          replace HB := hide (below_gr (unhide HB) (unhide HO) (by omega) (unhide HS) gr44)
          replace HS := hide (Nat.le_trans (unhide HS) gr44.size)
          replace HCV := hide (conv_keep (unhide HCV) (unhide HMK).lt gr44 (ob_mark (unhide HO) (unhide HMK)))
          replace HMK := hide ((unhide HMK).gr gr44 (ob_mark (unhide HO) (unhide HMK)))
          replace HO := hide ow44
          clear gr44 ow44
          refine hK20155.out _ _ ?hs20155 (fun hHeld20155 => ?_)
          case hs20155 => exact unhide HV
          clear hHeld
          have hHeld := hHeld20155; clear hHeld20155 hK20155 K20155
          refine wpAnyH_ready (rs := [9]) (by kernel_rfl) (by simp) ?_
          refine AllReadyH.cons rfl (fun K20156 hK20156 => ?_) AllReadyH.nil
          go_simp
          go_wp2_with (go_at_call 42; refine (rfree_any kk.size _ (w.heap.size + 1) _ _ (by omega) (unhide HO) (unhide HS) (by simp only [List.length_append, fx_len, List.length_cons, List.length_nil, by8_len]; omega)).mono ?_; rintro e W45 ⟨v45, rfl, ow45, hk45⟩)
          have gr45 := hk45.grown; clear hk45
          replace HV := hide ((unhide HV).gr gr45 (ob_ne (unhide HO) (unhide HV) (by decide)))
          replace HC := hide ((unhide HC).gr gr45 (ob_ne (unhide HO) (unhide HC) (by decide)))
          replace HB := hide (below_gr (unhide HB) (unhide HO) (by omega) (unhide HS) gr45)
          replace HS := hide (Nat.le_trans (unhide HS) gr45.size)
          replace HCV := hide (conv_keep (unhide HCV) (unhide HMK).lt gr45 (ob_mark (unhide HO) (unhide HMK)))
          replace HMK := hide ((unhide HMK).gr gr45 (ob_mark (unhide HO) (unhide HMK)))
          replace HO := hide ow45
          clear gr45 ow45
          refine hK20156.out _ _ ?hs20156 (fun hHeld20156 => ?_)
          case hs20156 => exact unhide HV
          clear hHeld
          have hHeld := hHeld20156; clear hHeld20156 hK20156 K20156
          refine wpAnyH_ready (rs := [13]) (by kernel_rfl) (by simp) ?_
          refine AllReadyH.cons rfl (fun K20157 hK20157 => ?_) AllReadyH.nil
          refine step_appT rfl _ _ rfl W45 (w.heap.size + 1) v45 _ kk ⟨cb42, 0, none⟩ cc42 (unhide HO) rfl rfl (fun j u hj => by rw [addr0]; exact unhide HCV j u hj) (by simp only [List.length_append, fx_len, List.length_cons, List.length_nil, by8_len]; omega) (unhide HS) ?_
          intro v46 W46 ow46 gr46
          change K20157 (Act.put _ (some 51) _) _
          simp only [Act.put, List.setIfInBounds_toArray, List.set_cons_zero, List.set_cons_succ]
          clear HCV HMK
          replace HV := hide ((unhide HV).gr gr46 (ob_ne (unhide HO) (unhide HV) (by decide)))
          replace HC := hide ((unhide HC).gr gr46 (ob_ne (unhide HO) (unhide HC) (by decide)))
          replace HB := hide (below_gr (unhide HB) (unhide HO) (by omega) (unhide HS) gr46)
          replace HS := hide (Nat.le_trans (unhide HS) gr46.size)
          replace HO := hide ow46
          clear gr46 ow46
          refine hK20157.out _ _ ?hs20157 (fun hHeld20157 => ?_)
          case hs20157 => exact unhide HV
          clear hHeld
          have hHeld := hHeld20157; clear hHeld20157 hK20157 K20157
          refine wpAnyH_ready (rs := [14]) (by kernel_rfl) (by simp) ?_
          refine AllReadyH.cons rfl (fun K20158 hK20158 => ?_) AllReadyH.nil
          go_simp
          refine hK20158.out _ _ ?hs20158 (fun hHeld20158 => ?_)
          case hs20158 => exact unhide HV
          clear hHeld
          have hHeld := hHeld20158; clear hHeld20158 hK20158 K20158
          refine wpAnyH_done (by kernel_rfl) ?_ _
          refine NoPanic.normal ?_
          refine hrest _ _ ?_
          clear hHeld
          have v2_ := (unhide HV).cell 2
          simp at v2_
          cases gg
          · have v1_ := (unhide HV).cell 1
            simp at v1_
            go_wp2
            have hbd : Below W46.heap.size W46 W46.drew := (Below.refl _ _).drew
            replace HV := hide ((unhide HV).below hbd)
            replace HC := hide ((unhide HC).below hbd)
            replace HB := hide (Below.onto (unhide HB) hbd)
            replace HS := hide (Nat.le_trans (unhide HS) hbd.size)
            replace HO := hide (OwnB.below (unhide HO) hbd)
            refine wp_region_noPanic ?_
            refine wp_region_held_drew (S := (fun X => Blk wr.heap.size #[.string kk, .string vv, .bool false] 40 X)) (by kernel_rfl) (unhide HV) (fun hHeld => ?_)
            clear hbd v1_ v2_
            generalize W46.drew = Z47 at *
            refine wpAnyH_take (i := 0) (oi := ?oi20159) (v := ?v20159) ?hi20159 (by kernel_rfl) (by kernel_rfl) (by kernel_rfl) (fun _ _ _ h => h) (Or.inl ⟨?hw20159, ?hy20159⟩) (by assumption) ?rest20159
            case hi20159 => (simp only [List.getElem?_toArray, List.getElem?_cons_zero]; rfl)
            case hw20159 => rfl
            case hy20159 => first | (intro wx hSw; go_simp; done) | (intro wx hSw; go_simp; with_reducible rfl)
            simp only [Act.put, List.setIfInBounds_toArray, List.set_cons_zero, List.set_cons_succ]
            refine wpAnyH_take (i := 1) (oi := ?oi20160) (v := ?v20160) ?hi20160 (by kernel_rfl) (by kernel_rfl) (by kernel_rfl) (fun _ _ _ h => h) (Or.inl ⟨?hw20160, ?hy20160⟩) (by assumption) ?rest20160
            case hi20160 => (simp only [List.getElem?_toArray, List.getElem?_cons_zero, List.getElem?_cons_succ]; rfl)
            case hw20160 => rfl
            case hy20160 => first | (intro wx hSw; go_simp; done) | (intro wx hSw; go_simp; with_reducible rfl)
            simp only [Act.put, List.setIfInBounds_toArray, List.set_cons_zero, List.set_cons_succ]
            refine wpAnyH_take (i := 2) (oi := ?oi20161) (v := ?v20161) ?hi20161 (by kernel_rfl) (by kernel_rfl) (by kernel_rfl) (fun _ _ _ h => h) (Or.inl ⟨?hw20161, ?hy20161⟩) (by assumption) ?rest20161
            case hi20161 => (simp only [List.getElem?_toArray, List.getElem?_cons_zero, List.getElem?_cons_succ]; rfl)
            case hw20161 => rfl
            case hy20161 => first | (intro wx hSw; have q_ := Blk.cell hSw 1; simp at q_; go_simp; done) | (intro wx hSw; have q_ := Blk.cell hSw 1; simp at q_; go_simp; with_reducible rfl)
            simp only [Act.put, List.setIfInBounds_toArray, List.set_cons_zero, List.set_cons_succ]
            refine wpAnyH_take (i := 3) (oi := ?oi20162) (v := ?v20162) ?hi20162 (by kernel_rfl) (by kernel_rfl) (by kernel_rfl) (fun _ _ _ h => h) (Or.inl ⟨?hw20162, ?hy20162⟩) (by assumption) ?rest20162
            case hi20162 => (simp only [List.getElem?_toArray, List.getElem?_cons_zero, List.getElem?_cons_succ]; rfl)
            case hw20162 => rfl
            case hy20162 => first | (intro wx hSw; go_simp; done) | (intro wx hSw; go_simp; with_reducible rfl)
            simp only [Act.put, List.setIfInBounds_toArray, List.set_cons_zero, List.set_cons_succ]
            refine wpAnyH_take (i := 5) (oi := ?oi20163) (v := ?v20163) ?hi20163 (by kernel_rfl) (by kernel_rfl) (by kernel_rfl) (fun _ _ _ h => h) (Or.inl ⟨?hw20163, ?hy20163⟩) (by assumption) ?rest20163
            case hi20163 => (simp only [List.getElem?_toArray, List.getElem?_cons_zero, List.getElem?_cons_succ]; rfl)
            case hw20163 => rfl
            case hy20163 => first | (intro wx hSw; go_simp; done) | (intro wx hSw; go_simp; with_reducible rfl)
            simp only [Act.put, List.setIfInBounds_toArray, List.set_cons_zero, List.set_cons_succ]
            refine wpAnyH_take (i := 6) (oi := ?oi20164) (v := ?v20164) ?hi20164 (by kernel_rfl) (by kernel_rfl) (by kernel_rfl) (fun _ _ _ h => h) (Or.inl ⟨?hw20164, ?hy20164⟩) (by assumption) ?rest20164
            case hi20164 => (simp only [List.getElem?_toArray, List.getElem?_cons_zero, List.getElem?_cons_succ]; rfl)
            case hw20164 => rfl
            case hy20164 => first | (intro wx hSw; have q_ := Blk.cell hSw 1; simp at q_; go_simp; done) | (intro wx hSw; have q_ := Blk.cell hSw 1; simp at q_; go_simp; with_reducible rfl)
            simp only [Act.put, List.setIfInBounds_toArray, List.set_cons_zero, List.set_cons_succ]
            refine wpAnyH_ready (rs := [4, 7]) (by kernel_rfl) (by simp) ?_
            refine AllReadyH.cons rfl (fun K20165 hK20165 => ?_) ?_
            · go_simp
              go_wp2_with (go_at_call 42; refine (rfree_any vv.size _ (w.heap.size + 1) _ _ (by omega) (unhide HO) (unhide HS) (by simp only [List.length_append, fx_len, List.length_cons, List.length_nil, by8_len]; omega)).mono ?_; rintro e W48 ⟨v48, rfl, ow48, hk48⟩)
              have gr48 := hk48.grown; clear hk48
              replace HV := hide ((unhide HV).gr gr48 (ob_ne (unhide HO) (unhide HV) (by decide)))
              replace HC := hide ((unhide HC).gr gr48 (ob_ne (unhide HO) (unhide HC) (by decide)))
              replace HB := hide (below_gr (unhide HB) (unhide HO) (by omega) (unhide HS) gr48)
              replace HS := hide (Nat.le_trans (unhide HS) gr48.size)
              replace HO := hide ow48
              clear gr48 ow48
              refine hK20165.out _ _ ?hs20165 (fun hHeld20165 => ?_)
              case hs20165 => exact unhide HV
              clear hHeld
              have hHeld := hHeld20165; clear hHeld20165 hK20165 K20165
              refine wpAnyH_ready (rs := [7]) (by kernel_rfl) (by simp) ?_
              refine AllReadyH.cons rfl (fun K20166 hK20166 => ?_) AllReadyH.nil
              obtain ⟨cv49, Wc49, hrun49, hcv49⟩ := conv_run vv W48
              go_simp
              obtain ⟨cb49, cc49, rfl, hc1, hc2, hcb, hmk, hcells⟩ := hcv49
              replace HV := hide ((unhide HV).below hcb)
              replace HC := hide ((unhide HC).below hcb)
              replace HB := hide (Below.onto (unhide HB) hcb)
              replace HS := hide (Nat.le_trans (unhide HS) hcb.size)
              replace HO := hide (OwnB.below (unhide HO) hcb)
              have HCV := hide hcells; have HMK := hide hmk; clear hcells hmk hc2 hc1 hcb hrun49
              refine hK20166.out _ _ ?hs20166 (fun hHeld20166 => ?_)
              case hs20166 => exact unhide HV
              clear hHeld
              have hHeld := hHeld20166; clear hHeld20166 hK20166 K20166
              refine wpAnyH_ready (rs := [8]) (by kernel_rfl) (by simp) ?_
              refine AllReadyH.cons rfl (fun K20167 hK20167 => ?_) AllReadyH.nil
              refine step_appT rfl _ _ rfl Wc49 (w.heap.size + 1) v48 _ vv ⟨cb49, 0, none⟩ cc49 (unhide HO) rfl rfl (fun j u hj => by rw [addr0]; exact unhide HCV j u hj) (by simp only [List.length_append, fx_len, List.length_cons, List.length_nil, by8_len]; omega) (unhide HS) ?_
              intro v50 W50 ow50 gr50
              change K20167 (Act.put _ (some 63) _) _
              simp only [Act.put, List.setIfInBounds_toArray, List.set_cons_zero, List.set_cons_succ]
              clear HCV HMK
              replace HV := hide ((unhide HV).gr gr50 (ob_ne (unhide HO) (unhide HV) (by decide)))
              replace HC := hide ((unhide HC).gr gr50 (ob_ne (unhide HO) (unhide HC) (by decide)))
              replace HB := hide (below_gr (unhide HB) (unhide HO) (by omega) (unhide HS) gr50)
              replace HS := hide (Nat.le_trans (unhide HS) gr50.size)
              replace HO := hide ow50
              clear gr50 ow50
              refine hK20167.out _ _ ?hs20167 (fun hHeld20167 => ?_)
              case hs20167 => exact unhide HV
              clear hHeld
              have hHeld := hHeld20167; clear hHeld20167 hK20167 K20167
              refine wpAnyH_ready (rs := [9]) (by kernel_rfl) (by simp) ?_
              refine AllReadyH.cons rfl (fun K20168 hK20168 => ?_) AllReadyH.nil
              go_simp
              refine hK20168.out _ _ ?hs20168 (fun hHeld20168 => ?_)
              case hs20168 => exact unhide HV
              clear hHeld
              have hHeld := hHeld20168; clear hHeld20168 hK20168 K20168
              refine wpAnyH_done (by kernel_rfl) ?_ _
              refine NoPanic.normal ?_
              simp only [Exit.inBlock, Exit.then]
              refine hloop _ _ ?_
              clear hHeld
              have HOO := unhide HO
              go_wp2
              go_roundw
              case rel =>
                refine ⟨n + 1, by omega, by go_num, ?_, HC, HB, HS⟩
                show OwnB _ _ _ _
                rw [unhide HF]
                have e9 : wr2 ⟨kk, vv, false⟩ = [yg] ++ sh kk.size ++ by8 kk ++ sh vv.size ++ by8 vv := by
                  unfold wr2 tx; rw [unhide HYG]; simp
                rw [e9]
                simpa using HOO
              case measure => simp [intOf] <;> omega
            refine AllReadyH.cons rfl (fun K20169 hK20169 => ?_) AllReadyH.nil
            · obtain ⟨cv51, Wc51, hrun51, hcv51⟩ := conv_run vv Z47
              go_simp
              obtain ⟨cb51, cc51, rfl, hc1, hc2, hcb, hmk, hcells⟩ := hcv51
              replace HV := hide ((unhide HV).below hcb)
              replace HC := hide ((unhide HC).below hcb)
              replace HB := hide (Below.onto (unhide HB) hcb)
              replace HS := hide (Nat.le_trans (unhide HS) hcb.size)
              replace HO := hide (OwnB.below (unhide HO) hcb)
              have HCV := hide hcells; have HMK := hide hmk; clear hcells hmk hc2 hc1 hcb hrun51
              refine hK20169.out _ _ ?hs20169 (fun hHeld20169 => ?_)
              case hs20169 => exact unhide HV
              clear hHeld
              have hHeld := hHeld20169; clear hHeld20169 hK20169 K20169
              refine wpAnyH_ready (rs := [4]) (by kernel_rfl) (by simp) ?_
              refine AllReadyH.cons rfl (fun K20170 hK20170 => ?_) AllReadyH.nil
              go_simp
              go_wp2_with (go_at_call 42; refine (rfree_any vv.size _ (w.heap.size + 1) _ _ (by omega) (unhide HO) (unhide HS) (by simp only [List.length_append, fx_len, List.length_cons, List.length_nil, by8_len]; omega)).mono ?_; rintro e W52 ⟨v52, rfl, ow52, hk52⟩)
              have gr52 := hk52.grown; clear hk52
              replace HV := hide ((unhide HV).gr gr52 (ob_ne (unhide HO) (unhide HV) (by decide)))
              replace HC := hide ((unhide HC).gr gr52 (ob_ne (unhide HO) (unhide HC) (by decide)))
              replace HB := hide (below_gr (unhide HB) (unhide HO) (by omega) (unhide HS) gr52)
              replace HS := hide (Nat.le_trans (unhide HS) gr52.size)
              replace HCV := hide (conv_keep (unhide HCV) (unhide HMK).lt gr52 (ob_mark (unhide HO) (unhide HMK)))
              replace HMK := hide ((unhide HMK).gr gr52 (ob_mark (unhide HO) (unhide HMK)))
              replace HO := hide ow52
              clear gr52 ow52
              refine hK20170.out _ _ ?hs20170 (fun hHeld20170 => ?_)
              case hs20170 => exact unhide HV
              clear hHeld
              have hHeld := hHeld20170; clear hHeld20170 hK20170 K20170
              refine wpAnyH_ready (rs := [8]) (by kernel_rfl) (by simp) ?_
              refine AllReadyH.cons rfl (fun K20171 hK20171 => ?_) AllReadyH.nil
              refine step_appT rfl _ _ rfl W52 (w.heap.size + 1) v52 _ vv ⟨cb51, 0, none⟩ cc51 (unhide HO) rfl rfl (fun j u hj => by rw [addr0]; exact unhide HCV j u hj) (by simp only [List.length_append, fx_len, List.length_cons, List.length_nil, by8_len]; omega) (unhide HS) ?_
              intro v53 W53 ow53 gr53
              change K20171 (Act.put _ (some 63) _) _
              simp only [Act.put, List.setIfInBounds_toArray, List.set_cons_zero, List.set_cons_succ]
              clear HCV HMK
              replace HV := hide ((unhide HV).gr gr53 (ob_ne (unhide HO) (unhide HV) (by decide)))
              replace HC := hide ((unhide HC).gr gr53 (ob_ne (unhide HO) (unhide HC) (by decide)))
              replace HB := hide (below_gr (unhide HB) (unhide HO) (by omega) (unhide HS) gr53)
              replace HS := hide (Nat.le_trans (unhide HS) gr53.size)
              replace HO := hide ow53
              clear gr53 ow53
              refine hK20171.out _ _ ?hs20171 (fun hHeld20171 => ?_)
              case hs20171 => exact unhide HV
              clear hHeld
              have hHeld := hHeld20171; clear hHeld20171 hK20171 K20171
              refine wpAnyH_ready (rs := [9]) (by kernel_rfl) (by simp) ?_
              refine AllReadyH.cons rfl (fun K20172 hK20172 => ?_) AllReadyH.nil
              go_simp
              refine hK20172.out _ _ ?hs20172 (fun hHeld20172 => ?_)
              case hs20172 => exact unhide HV
              clear hHeld
              have hHeld := hHeld20172; clear hHeld20172 hK20172 K20172
              refine wpAnyH_done (by kernel_rfl) ?_ _
              refine NoPanic.normal ?_
              simp only [Exit.inBlock, Exit.then]
              refine hloop _ _ ?_
              clear hHeld
              have HOO := unhide HO
              go_wp2
              go_roundw
              case rel =>
                refine ⟨n + 1, by omega, by go_num, ?_, HC, HB, HS⟩
                show OwnB _ _ _ _
                rw [unhide HF]
                have e9 : wr2 ⟨kk, vv, false⟩ = [yg] ++ sh kk.size ++ by8 kk ++ sh vv.size ++ by8 vv := by
                  unfold wr2 tx; rw [unhide HYG]; simp
                rw [e9]
                simpa using HOO
              case measure => simp [intOf] <;> omega
          · go_wp2
            have HOO := unhide HO
            go_roundw
            case rel =>
              refine ⟨n + 1, by omega, by go_num, ?_, HC, HB, HS⟩
              show OwnB _ _ _ _
              rw [unhide HF]
              have e9 : wr2 ⟨kk, vv, true⟩ = [yg] ++ sh kk.size ++ by8 kk := by
                unfold wr2 tx; rw [unhide HYG]; simp
              rw [e9]
              simpa using HOO
            case measure => simp [intOf] <;> omega
      refine AllReadyH.cons rfl (fun K20173 hK20173 => ?_) AllReadyH.nil
      · obtain ⟨cv54, Wc54, hrun54, hcv54⟩ := conv_run kk Z7
        go_simp
        obtain ⟨cb54, cc54, rfl, hc1, hc2, hcb, hmk, hcells⟩ := hcv54
        replace HV := hide ((unhide HV).below hcb)
        replace HC := hide ((unhide HC).below hcb)
        replace HB := hide (Below.onto (unhide HB) hcb)
        replace HS := hide (Nat.le_trans (unhide HS) hcb.size)
        replace HO := hide (OwnB.below (unhide HO) hcb)
        have HCV := hide hcells; have HMK := hide hmk; clear hcells hmk hc2 hc1 hcb hrun54
        refine hK20173.out _ _ ?hs20173 (fun hHeld20173 => ?_)
        case hs20173 => exact unhide HV
        clear hHeld
        have hHeld := hHeld20173; clear hHeld20173 hK20173 K20173
        refine wpAnyH_ready (rs := [3]) (by kernel_rfl) (by simp) ?_
        refine AllReadyH.cons rfl (fun K20174 hK20174 => ?_) AllReadyH.nil
        go_simp
        go_wp2_with (go_at_call 41; refine (unhide CG _).mono ?_; rintro e X2 ⟨rfl, hX2⟩; replace hX2 := hX2.symm; subst hX2)
        refine hK20174.out _ _ ?hs20174 (fun hHeld20174 => ?_)
        case hs20174 => exact unhide HV
        clear hHeld
        have hHeld := hHeld20174; clear hHeld20174 hK20174 K20174
        refine wpAnyH_ready (rs := [4]) (by kernel_rfl) (by simp) ?_
        refine AllReadyH.cons rfl (fun K20175 hK20175 => ?_) AllReadyH.nil
        go_simp
        have HN1 := hide (Blk.new Wc54 #[.int .u8 (yg.toNat : Int)] 5)
        have hbn := below_new Wc54 (.cells #[.int .u8 (yg.toNat : Int)] 5)
        obtain ⟨gb, hgb⟩ : ∃ b, b = Wc54.heap.size := ⟨_, rfl⟩
        have HNB := hide (own_ne_new (unhide HO) (Nat.le_of_eq hgb.symm))
        rw [← hgb] at HN1
        simp only [← hgb]
        replace HV := hide ((unhide HV).below hbn)
        replace HC := hide ((unhide HC).below hbn)
        replace HB := hide (Below.onto (unhide HB) hbn)
        replace HS := hide (Nat.le_trans (unhide HS) hbn.size)
        replace HO := hide (OwnB.below (unhide HO) hbn)
        replace HCV := hide (conv_below (unhide HCV) (unhide HMK).lt hbn)
        replace HMK := hide ((unhide HMK).below hbn)
        generalize (Wc54.alloc (.cells #[.int .u8 (yg.toNat : Int)] 5)) = Y55 at *
        clear hbn hgb
        refine hK20175.out _ _ ?hs20175 (fun hHeld20175 => ?_)
        case hs20175 => exact unhide HV
        clear hHeld
        have hHeld := hHeld20175; clear hHeld20175 hK20175 K20175
        refine wpAnyH_ready (rs := [5]) (by kernel_rfl) (by simp) ?_
        refine AllReadyH.cons rfl (fun K20176 hK20176 => ?_) AllReadyH.nil
        refine step_app1b rfl _ _ rfl Y55 gb yg (w.heap.size + 1) u3 _ (unhide HO) (unhide HN1) rfl rfl (by simp only [List.length_append, fx_len, List.length_cons, List.length_nil, by8_len]; omega) (unhide HS) ?_
        intro v56 W56 ow56 gr56
        change K20176 (Act.put _ (some 43) _) _
        simp only [Act.put, List.setIfInBounds_toArray, List.set_cons_zero, List.set_cons_succ]
        clear HN1 HNB
        replace HV := hide ((unhide HV).gr gr56 (ob_ne (unhide HO) (unhide HV) (by decide)))
        replace HC := hide ((unhide HC).gr gr56 (ob_ne (unhide HO) (unhide HC) (by decide)))
        replace HB := hide (below_gr (unhide HB) (unhide HO) (by omega) (unhide HS) gr56)
        replace HS := hide (Nat.le_trans (unhide HS) gr56.size)
        replace HCV := hide (conv_keep (unhide HCV) (unhide HMK).lt gr56 (ob_mark (unhide HO) (unhide HMK)))
        replace HMK := hide ((unhide HMK).gr gr56 (ob_mark (unhide HO) (unhide HMK)))
        replace HO := hide ow56
        clear gr56 ow56
        refine hK20176.out _ _ ?hs20176 (fun hHeld20176 => ?_)
        case hs20176 => exact unhide HV
        clear hHeld
        have hHeld := hHeld20176; clear hHeld20176 hK20176 K20176
        refine wpAnyH_ready (rs := [9]) (by kernel_rfl) (by simp) ?_
        refine AllReadyH.cons rfl (fun K20177 hK20177 => ?_) AllReadyH.nil
        go_simp
        go_wp2_with (go_at_call 42; refine (rfree_any kk.size _ (w.heap.size + 1) _ _ (by omega) (unhide HO) (unhide HS) (by simp only [List.length_append, fx_len, List.length_cons, List.length_nil, by8_len]; omega)).mono ?_; rintro e W57 ⟨v57, rfl, ow57, hk57⟩)
        have gr57 := hk57.grown; clear hk57
        replace HV := hide ((unhide HV).gr gr57 (ob_ne (unhide HO) (unhide HV) (by decide)))
        replace HC := hide ((unhide HC).gr gr57 (ob_ne (unhide HO) (unhide HC) (by decide)))
        replace HB := hide (below_gr (unhide HB) (unhide HO) (by omega) (unhide HS) gr57)
        replace HS := hide (Nat.le_trans (unhide HS) gr57.size)
        replace HCV := hide (conv_keep (unhide HCV) (unhide HMK).lt gr57 (ob_mark (unhide HO) (unhide HMK)))
        replace HMK := hide ((unhide HMK).gr gr57 (ob_mark (unhide HO) (unhide HMK)))
        replace HO := hide ow57
        clear gr57 ow57
        refine hK20177.out _ _ ?hs20177 (fun hHeld20177 => ?_)
        case hs20177 => exact unhide HV
        clear hHeld
        have hHeld := hHeld20177; clear hHeld20177 hK20177 K20177
        refine wpAnyH_ready (rs := [13]) (by kernel_rfl) (by simp) ?_
        refine AllReadyH.cons rfl (fun K20178 hK20178 => ?_) AllReadyH.nil
        refine step_appT rfl _ _ rfl W57 (w.heap.size + 1) v57 _ kk ⟨cb54, 0, none⟩ cc54 (unhide HO) rfl rfl (fun j u hj => by rw [addr0]; exact unhide HCV j u hj) (by simp only [List.length_append, fx_len, List.length_cons, List.length_nil, by8_len]; omega) (unhide HS) ?_
        intro v58 W58 ow58 gr58
        change K20178 (Act.put _ (some 51) _) _
        simp only [Act.put, List.setIfInBounds_toArray, List.set_cons_zero, List.set_cons_succ]
        clear HCV HMK
        replace HV := hide ((unhide HV).gr gr58 (ob_ne (unhide HO) (unhide HV) (by decide)))
        replace HC := hide ((unhide HC).gr gr58 (ob_ne (unhide HO) (unhide HC) (by decide)))
        replace HB := hide (below_gr (unhide HB) (unhide HO) (by omega) (unhide HS) gr58)
        replace HS := hide (Nat.le_trans (unhide HS) gr58.size)
        replace HO := hide ow58
        clear gr58 ow58
        refine hK20178.out _ _ ?hs20178 (fun hHeld20178 => ?_)
        case hs20178 => exact unhide HV
        clear hHeld
        have hHeld := hHeld20178; clear hHeld20178 hK20178 K20178
        refine wpAnyH_ready (rs := [14]) (by kernel_rfl) (by simp) ?_
        refine AllReadyH.cons rfl (fun K20179 hK20179 => ?_) AllReadyH.nil
        go_simp
        refine hK20179.out _ _ ?hs20179 (fun hHeld20179 => ?_)
        case hs20179 => exact unhide HV
        clear hHeld
        have hHeld := hHeld20179; clear hHeld20179 hK20179 K20179
        refine wpAnyH_done (by kernel_rfl) ?_ _
        refine NoPanic.normal ?_
        refine hrest _ _ ?_
        clear hHeld
        have v2_ := (unhide HV).cell 2
        simp at v2_
        cases gg
        · have v1_ := (unhide HV).cell 1
          simp at v1_
          go_wp2
          have hbd : Below W58.heap.size W58 W58.drew := (Below.refl _ _).drew
          replace HV := hide ((unhide HV).below hbd)
          replace HC := hide ((unhide HC).below hbd)
          replace HB := hide (Below.onto (unhide HB) hbd)
          replace HS := hide (Nat.le_trans (unhide HS) hbd.size)
          replace HO := hide (OwnB.below (unhide HO) hbd)
          refine wp_region_noPanic ?_
          refine wp_region_held_drew (S := (fun X => Blk wr.heap.size #[.string kk, .string vv, .bool false] 40 X)) (by kernel_rfl) (unhide HV) (fun hHeld => ?_)
          clear hbd v1_ v2_
          generalize W58.drew = Z59 at *
          refine wpAnyH_take (i := 0) (oi := ?oi20180) (v := ?v20180) ?hi20180 (by kernel_rfl) (by kernel_rfl) (by kernel_rfl) (fun _ _ _ h => h) (Or.inl ⟨?hw20180, ?hy20180⟩) (by assumption) ?rest20180
          case hi20180 => (simp only [List.getElem?_toArray, List.getElem?_cons_zero]; rfl)
          case hw20180 => rfl
          case hy20180 => first | (intro wx hSw; go_simp; done) | (intro wx hSw; go_simp; with_reducible rfl)
          simp only [Act.put, List.setIfInBounds_toArray, List.set_cons_zero, List.set_cons_succ]
          refine wpAnyH_take (i := 1) (oi := ?oi20181) (v := ?v20181) ?hi20181 (by kernel_rfl) (by kernel_rfl) (by kernel_rfl) (fun _ _ _ h => h) (Or.inl ⟨?hw20181, ?hy20181⟩) (by assumption) ?rest20181
          case hi20181 => (simp only [List.getElem?_toArray, List.getElem?_cons_zero, List.getElem?_cons_succ]; rfl)
          case hw20181 => rfl
          case hy20181 => first | (intro wx hSw; go_simp; done) | (intro wx hSw; go_simp; with_reducible rfl)
          simp only [Act.put, List.setIfInBounds_toArray, List.set_cons_zero, List.set_cons_succ]
          refine wpAnyH_take (i := 2) (oi := ?oi20182) (v := ?v20182) ?hi20182 (by kernel_rfl) (by kernel_rfl) (by kernel_rfl) (fun _ _ _ h => h) (Or.inl ⟨?hw20182, ?hy20182⟩) (by assumption) ?rest20182
          case hi20182 => (simp only [List.getElem?_toArray, List.getElem?_cons_zero, List.getElem?_cons_succ]; rfl)
          case hw20182 => rfl
          case hy20182 => first | (intro wx hSw; have q_ := Blk.cell hSw 1; simp at q_; go_simp; done) | (intro wx hSw; have q_ := Blk.cell hSw 1; simp at q_; go_simp; with_reducible rfl)
          simp only [Act.put, List.setIfInBounds_toArray, List.set_cons_zero, List.set_cons_succ]
          refine wpAnyH_take (i := 3) (oi := ?oi20183) (v := ?v20183) ?hi20183 (by kernel_rfl) (by kernel_rfl) (by kernel_rfl) (fun _ _ _ h => h) (Or.inl ⟨?hw20183, ?hy20183⟩) (by assumption) ?rest20183
          case hi20183 => (simp only [List.getElem?_toArray, List.getElem?_cons_zero, List.getElem?_cons_succ]; rfl)
          case hw20183 => rfl
          case hy20183 => first | (intro wx hSw; go_simp; done) | (intro wx hSw; go_simp; with_reducible rfl)
          simp only [Act.put, List.setIfInBounds_toArray, List.set_cons_zero, List.set_cons_succ]
          refine wpAnyH_take (i := 5) (oi := ?oi20184) (v := ?v20184) ?hi20184 (by kernel_rfl) (by kernel_rfl) (by kernel_rfl) (fun _ _ _ h => h) (Or.inl ⟨?hw20184, ?hy20184⟩) (by assumption) ?rest20184
          case hi20184 => (simp only [List.getElem?_toArray, List.getElem?_cons_zero, List.getElem?_cons_succ]; rfl)
          case hw20184 => rfl
          case hy20184 => first | (intro wx hSw; go_simp; done) | (intro wx hSw; go_simp; with_reducible rfl)
          simp only [Act.put, List.setIfInBounds_toArray, List.set_cons_zero, List.set_cons_succ]
          refine wpAnyH_take (i := 6) (oi := ?oi20185) (v := ?v20185) ?hi20185 (by kernel_rfl) (by kernel_rfl) (by kernel_rfl) (fun _ _ _ h => h) (Or.inl ⟨?hw20185, ?hy20185⟩) (by assumption) ?rest20185
          case hi20185 => (simp only [List.getElem?_toArray, List.getElem?_cons_zero, List.getElem?_cons_succ]; rfl)
          case hw20185 => rfl
          case hy20185 => first | (intro wx hSw; have q_ := Blk.cell hSw 1; simp at q_; go_simp; done) | (intro wx hSw; have q_ := Blk.cell hSw 1; simp at q_; go_simp; with_reducible rfl)
          simp only [Act.put, List.setIfInBounds_toArray, List.set_cons_zero, List.set_cons_succ]
          refine wpAnyH_ready (rs := [4, 7]) (by kernel_rfl) (by simp) ?_
          refine AllReadyH.cons rfl (fun K20186 hK20186 => ?_) ?_
          · go_simp
            go_wp2_with (go_at_call 42; refine (rfree_any vv.size _ (w.heap.size + 1) _ _ (by omega) (unhide HO) (unhide HS) (by simp only [List.length_append, fx_len, List.length_cons, List.length_nil, by8_len]; omega)).mono ?_; rintro e W60 ⟨v60, rfl, ow60, hk60⟩)
            have gr60 := hk60.grown; clear hk60
            replace HV := hide ((unhide HV).gr gr60 (ob_ne (unhide HO) (unhide HV) (by decide)))
            replace HC := hide ((unhide HC).gr gr60 (ob_ne (unhide HO) (unhide HC) (by decide)))
            replace HB := hide (below_gr (unhide HB) (unhide HO) (by omega) (unhide HS) gr60)
            replace HS := hide (Nat.le_trans (unhide HS) gr60.size)
            replace HO := hide ow60
            clear gr60 ow60
            refine hK20186.out _ _ ?hs20186 (fun hHeld20186 => ?_)
            case hs20186 => exact unhide HV
            clear hHeld
            have hHeld := hHeld20186; clear hHeld20186 hK20186 K20186
            refine wpAnyH_ready (rs := [7]) (by kernel_rfl) (by simp) ?_
            refine AllReadyH.cons rfl (fun K20187 hK20187 => ?_) AllReadyH.nil
            obtain ⟨cv61, Wc61, hrun61, hcv61⟩ := conv_run vv W60
            go_simp
            obtain ⟨cb61, cc61, rfl, hc1, hc2, hcb, hmk, hcells⟩ := hcv61
            replace HV := hide ((unhide HV).below hcb)
            replace HC := hide ((unhide HC).below hcb)
            replace HB := hide (Below.onto (unhide HB) hcb)
            replace HS := hide (Nat.le_trans (unhide HS) hcb.size)
            replace HO := hide (OwnB.below (unhide HO) hcb)
            have HCV := hide hcells; have HMK := hide hmk; clear hcells hmk hc2 hc1 hcb hrun61
            refine hK20187.out _ _ ?hs20187 (fun hHeld20187 => ?_)
            case hs20187 => exact unhide HV
            clear hHeld
            have hHeld := hHeld20187; clear hHeld20187 hK20187 K20187
            refine wpAnyH_ready (rs := [8]) (by kernel_rfl) (by simp) ?_
            refine AllReadyH.cons rfl (fun K20188 hK20188 => ?_) AllReadyH.nil
            refine step_appT rfl _ _ rfl Wc61 (w.heap.size + 1) v60 _ vv ⟨cb61, 0, none⟩ cc61 (unhide HO) rfl rfl (fun j u hj => by rw [addr0]; exact unhide HCV j u hj) (by simp only [List.length_append, fx_len, List.length_cons, List.length_nil, by8_len]; omega) (unhide HS) ?_
            intro v62 W62 ow62 gr62
            change K20188 (Act.put _ (some 63) _) _
            simp only [Act.put, List.setIfInBounds_toArray, List.set_cons_zero, List.set_cons_succ]
            clear HCV HMK
            replace HV := hide ((unhide HV).gr gr62 (ob_ne (unhide HO) (unhide HV) (by decide)))
            replace HC := hide ((unhide HC).gr gr62 (ob_ne (unhide HO) (unhide HC) (by decide)))
            replace HB := hide (below_gr (unhide HB) (unhide HO) (by omega) (unhide HS) gr62)
            replace HS := hide (Nat.le_trans (unhide HS) gr62.size)
            replace HO := hide ow62
            clear gr62 ow62
            refine hK20188.out _ _ ?hs20188 (fun hHeld20188 => ?_)
            case hs20188 => exact unhide HV
            clear hHeld
            have hHeld := hHeld20188; clear hHeld20188 hK20188 K20188
            refine wpAnyH_ready (rs := [9]) (by kernel_rfl) (by simp) ?_
            refine AllReadyH.cons rfl (fun K20189 hK20189 => ?_) AllReadyH.nil
            go_simp
            refine hK20189.out _ _ ?hs20189 (fun hHeld20189 => ?_)
            case hs20189 => exact unhide HV
            clear hHeld
            have hHeld := hHeld20189; clear hHeld20189 hK20189 K20189
            refine wpAnyH_done (by kernel_rfl) ?_ _
            refine NoPanic.normal ?_
            simp only [Exit.inBlock, Exit.then]
            refine hloop _ _ ?_
            clear hHeld
            have HOO := unhide HO
            go_wp2
            go_roundw
            case rel =>
              refine ⟨n + 1, by omega, by go_num, ?_, HC, HB, HS⟩
              show OwnB _ _ _ _
              rw [unhide HF]
              have e9 : wr2 ⟨kk, vv, false⟩ = [yg] ++ sh kk.size ++ by8 kk ++ sh vv.size ++ by8 vv := by
                unfold wr2 tx; rw [unhide HYG]; simp
              rw [e9]
              simpa using HOO
            case measure => simp [intOf] <;> omega
          refine AllReadyH.cons rfl (fun K20190 hK20190 => ?_) AllReadyH.nil
          · obtain ⟨cv63, Wc63, hrun63, hcv63⟩ := conv_run vv Z59
            go_simp
            obtain ⟨cb63, cc63, rfl, hc1, hc2, hcb, hmk, hcells⟩ := hcv63
            replace HV := hide ((unhide HV).below hcb)
            replace HC := hide ((unhide HC).below hcb)
            replace HB := hide (Below.onto (unhide HB) hcb)
            replace HS := hide (Nat.le_trans (unhide HS) hcb.size)
            replace HO := hide (OwnB.below (unhide HO) hcb)
            have HCV := hide hcells; have HMK := hide hmk; clear hcells hmk hc2 hc1 hcb hrun63
            refine hK20190.out _ _ ?hs20190 (fun hHeld20190 => ?_)
            case hs20190 => exact unhide HV
            clear hHeld
            have hHeld := hHeld20190; clear hHeld20190 hK20190 K20190
            refine wpAnyH_ready (rs := [4]) (by kernel_rfl) (by simp) ?_
            refine AllReadyH.cons rfl (fun K20191 hK20191 => ?_) AllReadyH.nil
            go_simp
            go_wp2_with (go_at_call 42; refine (rfree_any vv.size _ (w.heap.size + 1) _ _ (by omega) (unhide HO) (unhide HS) (by simp only [List.length_append, fx_len, List.length_cons, List.length_nil, by8_len]; omega)).mono ?_; rintro e W64 ⟨v64, rfl, ow64, hk64⟩)
            have gr64 := hk64.grown; clear hk64
            replace HV := hide ((unhide HV).gr gr64 (ob_ne (unhide HO) (unhide HV) (by decide)))
            replace HC := hide ((unhide HC).gr gr64 (ob_ne (unhide HO) (unhide HC) (by decide)))
            replace HB := hide (below_gr (unhide HB) (unhide HO) (by omega) (unhide HS) gr64)
            replace HS := hide (Nat.le_trans (unhide HS) gr64.size)
            replace HCV := hide (conv_keep (unhide HCV) (unhide HMK).lt gr64 (ob_mark (unhide HO) (unhide HMK)))
            replace HMK := hide ((unhide HMK).gr gr64 (ob_mark (unhide HO) (unhide HMK)))
            replace HO := hide ow64
            clear gr64 ow64
            refine hK20191.out _ _ ?hs20191 (fun hHeld20191 => ?_)
            case hs20191 => exact unhide HV
            clear hHeld
            have hHeld := hHeld20191; clear hHeld20191 hK20191 K20191
            refine wpAnyH_ready (rs := [8]) (by kernel_rfl) (by simp) ?_
            refine AllReadyH.cons rfl (fun K20192 hK20192 => ?_) AllReadyH.nil
            refine step_appT rfl _ _ rfl W64 (w.heap.size + 1) v64 _ vv ⟨cb63, 0, none⟩ cc63 (unhide HO) rfl rfl (fun j u hj => by rw [addr0]; exact unhide HCV j u hj) (by simp only [List.length_append, fx_len, List.length_cons, List.length_nil, by8_len]; omega) (unhide HS) ?_
            intro v65 W65 ow65 gr65
            change K20192 (Act.put _ (some 63) _) _
            simp only [Act.put, List.setIfInBounds_toArray, List.set_cons_zero, List.set_cons_succ]
            clear HCV HMK
            replace HV := hide ((unhide HV).gr gr65 (ob_ne (unhide HO) (unhide HV) (by decide)))
            replace HC := hide ((unhide HC).gr gr65 (ob_ne (unhide HO) (unhide HC) (by decide)))
            replace HB := hide (below_gr (unhide HB) (unhide HO) (by omega) (unhide HS) gr65)
            replace HS := hide (Nat.le_trans (unhide HS) gr65.size)
            replace HO := hide ow65
            clear gr65 ow65
            refine hK20192.out _ _ ?hs20192 (fun hHeld20192 => ?_)
            case hs20192 => exact unhide HV
            clear hHeld
            have hHeld := hHeld20192; clear hHeld20192 hK20192 K20192
            refine wpAnyH_ready (rs := [9]) (by kernel_rfl) (by simp) ?_
            refine AllReadyH.cons rfl (fun K20193 hK20193 => ?_) AllReadyH.nil
            go_simp
            refine hK20193.out _ _ ?hs20193 (fun hHeld20193 => ?_)
            case hs20193 => exact unhide HV
            clear hHeld
            have hHeld := hHeld20193; clear hHeld20193 hK20193 K20193
            refine wpAnyH_done (by kernel_rfl) ?_ _
            refine NoPanic.normal ?_
            simp only [Exit.inBlock, Exit.then]
            refine hloop _ _ ?_
            clear hHeld
            have HOO := unhide HO
            go_wp2
            go_roundw
            case rel =>
              refine ⟨n + 1, by omega, by go_num, ?_, HC, HB, HS⟩
              show OwnB _ _ _ _
              rw [unhide HF]
              have e9 : wr2 ⟨kk, vv, false⟩ = [yg] ++ sh kk.size ++ by8 kk ++ sh vv.size ++ by8 vv := by
                unfold wr2 tx; rw [unhide HYG]; simp
              rw [e9]
              simpa using HOO
            case measure => simp [intOf] <;> omega
        · go_wp2
          have HOO := unhide HO
          go_roundw
          case rel =>
            refine ⟨n + 1, by omega, by go_num, ?_, HC, HB, HS⟩
            show OwnB _ _ _ _
            rw [unhide HF]
            have e9 : wr2 ⟨kk, vv, true⟩ = [yg] ++ sh kk.size ++ by8 kk := by
              unfold wr2 tx; rw [unhide HYG]; simp
            rw [e9]
            simpa using HOO
          case measure => simp [intOf] <;> omega
    · obtain rfl : n = ws.length := by omega
      rw [List.take_length] at HO
      go_wp2
      rename_i hrest
      have hbd : Below wr.heap.size wr wr.drew := (Below.refl _ _).drew
      replace HC := hide ((unhide HC).below hbd)
      replace HB := hide (Below.onto (unhide HB) hbd)
      replace HS := hide (Nat.le_trans (unhide HS) hbd.size)
      replace HO := hide (OwnB.below (unhide HO) hbd)
      refine wp_region_noPanic ?_
      refine wp_region_held_drew (S := (fun X => Blk w.heap.size #[.int .i64 k, .int .i64 i, .int .i64 t, .bool m, .slice p ws.length cap, .string x] 26 X)) (by kernel_rfl) (unhide HC) (fun hHeld => ?_)
      clear hbd y4_ yl_
      generalize wr.drew = Z10 at *
      refine wpAnyH_take (i := 0) (oi := ?oi20194) (v := ?v20194) ?hi20194 (by kernel_rfl) (by kernel_rfl) (by kernel_rfl) (fun _ _ _ h => h) (Or.inl ⟨?hw20194, ?hy20194⟩) (by assumption) ?rest20194
      case hi20194 => (simp only [List.getElem?_toArray, List.getElem?_cons_zero]; rfl)
      case hw20194 => rfl
      case hy20194 => first | (intro wx hSw; go_simp; done) | (intro wx hSw; go_simp; with_reducible rfl)
      simp only [Act.put, List.setIfInBounds_toArray, List.set_cons_zero, List.set_cons_succ]
      refine wpAnyH_take (i := 1) (oi := ?oi20195) (v := ?v20195) ?hi20195 (by kernel_rfl) (by kernel_rfl) (by kernel_rfl) (fun _ _ _ h => h) (Or.inl ⟨?hw20195, ?hy20195⟩) (by assumption) ?rest20195
      case hi20195 => (simp only [List.getElem?_toArray, List.getElem?_cons_zero, List.getElem?_cons_succ]; rfl)
      case hw20195 => rfl
      case hy20195 => first | (intro wx hSw; go_simp; done) | (intro wx hSw; go_simp; with_reducible rfl)
      simp only [Act.put, List.setIfInBounds_toArray, List.set_cons_zero, List.set_cons_succ]
      refine wpAnyH_take (i := 2) (oi := ?oi20196) (v := ?v20196) ?hi20196 (by kernel_rfl) (by kernel_rfl) (by kernel_rfl) (fun _ _ _ h => h) (Or.inl ⟨?hw20196, ?hy20196⟩) (by assumption) ?rest20196
      case hi20196 => (simp only [List.getElem?_toArray, List.getElem?_cons_zero, List.getElem?_cons_succ]; rfl)
      case hw20196 => rfl
      case hy20196 => first | (intro wx hSw; have q_ := Blk.cell hSw 5; simp at q_; go_simp; done) | (intro wx hSw; have q_ := Blk.cell hSw 5; simp at q_; go_simp; with_reducible rfl)
      simp only [Act.put, List.setIfInBounds_toArray, List.set_cons_zero, List.set_cons_succ]
      refine wpAnyH_take (i := 3) (oi := ?oi20197) (v := ?v20197) ?hi20197 (by kernel_rfl) (by kernel_rfl) (by kernel_rfl) (fun _ _ _ h => h) (Or.inl ⟨?hw20197, ?hy20197⟩) (by assumption) ?rest20197
      case hi20197 => (simp only [List.getElem?_toArray, List.getElem?_cons_zero, List.getElem?_cons_succ]; rfl)
      case hw20197 => rfl
      case hy20197 => first | (intro wx hSw; go_simp; done) | (intro wx hSw; go_simp; with_reducible rfl)
      simp only [Act.put, List.setIfInBounds_toArray, List.set_cons_zero, List.set_cons_succ]
      refine wpAnyH_take (i := 5) (oi := ?oi20198) (v := ?v20198) ?hi20198 (by kernel_rfl) (by kernel_rfl) (by kernel_rfl) (fun _ _ _ h => h) (Or.inl ⟨?hw20198, ?hy20198⟩) (by assumption) ?rest20198
      case hi20198 => (simp only [List.getElem?_toArray, List.getElem?_cons_zero, List.getElem?_cons_succ]; rfl)
      case hw20198 => rfl
      case hy20198 => first | (intro wx hSw; go_simp; done) | (intro wx hSw; go_simp; with_reducible rfl)
      simp only [Act.put, List.setIfInBounds_toArray, List.set_cons_zero, List.set_cons_succ]
      refine wpAnyH_take (i := 6) (oi := ?oi20199) (v := ?v20199) ?hi20199 (by kernel_rfl) (by kernel_rfl) (by kernel_rfl) (fun _ _ _ h => h) (Or.inl ⟨?hw20199, ?hy20199⟩) (by assumption) ?rest20199
      case hi20199 => (simp only [List.getElem?_toArray, List.getElem?_cons_zero, List.getElem?_cons_succ]; rfl)
      case hw20199 => rfl
      case hy20199 => first | (intro wx hSw; have q_ := Blk.cell hSw 5; simp at q_; go_simp; done) | (intro wx hSw; have q_ := Blk.cell hSw 5; simp at q_; go_simp; with_reducible rfl)
      simp only [Act.put, List.setIfInBounds_toArray, List.set_cons_zero, List.set_cons_succ]
      refine wpAnyH_ready (rs := [4, 7]) (by kernel_rfl) (by simp) ?_
      refine AllReadyH.cons rfl (fun K20200 hK20200 => ?_) ?_
      · go_simp
        go_wp2_with (go_at_call 42; refine (rfree_any x.size _ (w.heap.size + 1) _ _ (by omega) (unhide HO) (unhide HS) (by simp only [List.length_append, fx_len, List.length_cons, List.length_nil, by8_len]; omega)).mono ?_; rintro e W66 ⟨v66, rfl, ow66, hk66⟩)
        have gr66 := hk66.grown; clear hk66
        replace HC := hide ((unhide HC).gr gr66 (ob_ne (unhide HO) (unhide HC) (by decide)))
        replace HB := hide (below_gr (unhide HB) (unhide HO) (by omega) (unhide HS) gr66)
        replace HS := hide (Nat.le_trans (unhide HS) gr66.size)
        replace HO := hide ow66
        clear gr66 ow66
        refine hK20200.out _ _ ?hs20200 (fun hHeld20200 => ?_)
        case hs20200 => exact unhide HC
        clear hHeld
        have hHeld := hHeld20200; clear hHeld20200 hK20200 K20200
        refine wpAnyH_ready (rs := [7]) (by kernel_rfl) (by simp) ?_
        refine AllReadyH.cons rfl (fun K20201 hK20201 => ?_) AllReadyH.nil
        obtain ⟨cv67, Wc67, hrun67, hcv67⟩ := conv_run x W66
        go_simp
        obtain ⟨cb67, cc67, rfl, hc1, hc2, hcb, hmk, hcells⟩ := hcv67
        replace HC := hide ((unhide HC).below hcb)
        replace HB := hide (Below.onto (unhide HB) hcb)
        replace HS := hide (Nat.le_trans (unhide HS) hcb.size)
        replace HO := hide (OwnB.below (unhide HO) hcb)
        have HCV := hide hcells; have HMK := hide hmk; clear hcells hmk hc2 hc1 hcb hrun67
        refine hK20201.out _ _ ?hs20201 (fun hHeld20201 => ?_)
        case hs20201 => exact unhide HC
        clear hHeld
        have hHeld := hHeld20201; clear hHeld20201 hK20201 K20201
        refine wpAnyH_ready (rs := [8]) (by kernel_rfl) (by simp) ?_
        refine AllReadyH.cons rfl (fun K20202 hK20202 => ?_) AllReadyH.nil
        refine step_appT rfl _ _ rfl Wc67 (w.heap.size + 1) v66 _ x ⟨cb67, 0, none⟩ cc67 (unhide HO) rfl rfl (fun j u hj => by rw [addr0]; exact unhide HCV j u hj) (by simp only [List.length_append, fx_len, List.length_cons, List.length_nil, by8_len]; omega) (unhide HS) ?_
        intro v68 W68 ow68 gr68
        change K20202 (Act.put _ (some 72) _) _
        simp only [Act.put, List.setIfInBounds_toArray, List.set_cons_zero, List.set_cons_succ]
        clear HCV HMK
        replace HC := hide ((unhide HC).gr gr68 (ob_ne (unhide HO) (unhide HC) (by decide)))
        replace HB := hide (below_gr (unhide HB) (unhide HO) (by omega) (unhide HS) gr68)
        replace HS := hide (Nat.le_trans (unhide HS) gr68.size)
        replace HO := hide ow68
        clear gr68 ow68
        refine hK20202.out _ _ ?hs20202 (fun hHeld20202 => ?_)
        case hs20202 => exact unhide HC
        clear hHeld
        have hHeld := hHeld20202; clear hHeld20202 hK20202 K20202
        refine wpAnyH_ready (rs := [9]) (by kernel_rfl) (by simp) ?_
        refine AllReadyH.cons rfl (fun K20203 hK20203 => ?_) AllReadyH.nil
        go_simp
        refine hK20203.out _ _ ?hs20203 (fun hHeld20203 => ?_)
        case hs20203 => exact unhide HC
        clear hHeld
        have hHeld := hHeld20203; clear hHeld20203 hK20203 K20203
        refine wpAnyH_done (by kernel_rfl) ?_ _
        refine NoPanic.normal ?_
        refine hrest _ _ ?_
        clear hHeld
        go_wp2
        go_ret
        refine ⟨_, rfl, ?_, unhide HB⟩
        rw [unhide HE]
        exact ownsRow_lower (unhide HO) (by omega)
      refine AllReadyH.cons rfl (fun K20204 hK20204 => ?_) AllReadyH.nil
      · obtain ⟨cv69, Wc69, hrun69, hcv69⟩ := conv_run x Z10
        go_simp
        obtain ⟨cb69, cc69, rfl, hc1, hc2, hcb, hmk, hcells⟩ := hcv69
        replace HC := hide ((unhide HC).below hcb)
        replace HB := hide (Below.onto (unhide HB) hcb)
        replace HS := hide (Nat.le_trans (unhide HS) hcb.size)
        replace HO := hide (OwnB.below (unhide HO) hcb)
        have HCV := hide hcells; have HMK := hide hmk; clear hcells hmk hc2 hc1 hcb hrun69
        refine hK20204.out _ _ ?hs20204 (fun hHeld20204 => ?_)
        case hs20204 => exact unhide HC
        clear hHeld
        have hHeld := hHeld20204; clear hHeld20204 hK20204 K20204
        refine wpAnyH_ready (rs := [4]) (by kernel_rfl) (by simp) ?_
        refine AllReadyH.cons rfl (fun K20205 hK20205 => ?_) AllReadyH.nil
        go_simp
        go_wp2_with (go_at_call 42; refine (rfree_any x.size _ (w.heap.size + 1) _ _ (by omega) (unhide HO) (unhide HS) (by simp only [List.length_append, fx_len, List.length_cons, List.length_nil, by8_len]; omega)).mono ?_; rintro e W70 ⟨v70, rfl, ow70, hk70⟩)
        have gr70 := hk70.grown; clear hk70
        replace HC := hide ((unhide HC).gr gr70 (ob_ne (unhide HO) (unhide HC) (by decide)))
        replace HB := hide (below_gr (unhide HB) (unhide HO) (by omega) (unhide HS) gr70)
        replace HS := hide (Nat.le_trans (unhide HS) gr70.size)
        replace HCV := hide (conv_keep (unhide HCV) (unhide HMK).lt gr70 (ob_mark (unhide HO) (unhide HMK)))
        replace HMK := hide ((unhide HMK).gr gr70 (ob_mark (unhide HO) (unhide HMK)))
        replace HO := hide ow70
        clear gr70 ow70
        refine hK20205.out _ _ ?hs20205 (fun hHeld20205 => ?_)
        case hs20205 => exact unhide HC
        clear hHeld
        have hHeld := hHeld20205; clear hHeld20205 hK20205 K20205
        refine wpAnyH_ready (rs := [8]) (by kernel_rfl) (by simp) ?_
        refine AllReadyH.cons rfl (fun K20206 hK20206 => ?_) AllReadyH.nil
        refine step_appT rfl _ _ rfl W70 (w.heap.size + 1) v70 _ x ⟨cb69, 0, none⟩ cc69 (unhide HO) rfl rfl (fun j u hj => by rw [addr0]; exact unhide HCV j u hj) (by simp only [List.length_append, fx_len, List.length_cons, List.length_nil, by8_len]; omega) (unhide HS) ?_
        intro v71 W71 ow71 gr71
        change K20206 (Act.put _ (some 72) _) _
        simp only [Act.put, List.setIfInBounds_toArray, List.set_cons_zero, List.set_cons_succ]
        clear HCV HMK
        replace HC := hide ((unhide HC).gr gr71 (ob_ne (unhide HO) (unhide HC) (by decide)))
        replace HB := hide (below_gr (unhide HB) (unhide HO) (by omega) (unhide HS) gr71)
        replace HS := hide (Nat.le_trans (unhide HS) gr71.size)
        replace HO := hide ow71
        clear gr71 ow71
        refine hK20206.out _ _ ?hs20206 (fun hHeld20206 => ?_)
        case hs20206 => exact unhide HC
        clear hHeld
        have hHeld := hHeld20206; clear hHeld20206 hK20206 K20206
        refine wpAnyH_ready (rs := [9]) (by kernel_rfl) (by simp) ?_
        refine AllReadyH.cons rfl (fun K20207 hK20207 => ?_) AllReadyH.nil
        go_simp
        refine hK20207.out _ _ ?hs20207 (fun hHeld20207 => ?_)
        case hs20207 => exact unhide HC
        clear hHeld
        have hHeld := hHeld20207; clear hHeld20207 hK20207 K20207
        refine wpAnyH_done (by kernel_rfl) ?_ _
        refine NoPanic.normal ?_
        refine hrest _ _ ?_
        clear hHeld
        go_wp2
        go_ret
        refine ⟨_, rfl, ?_, unhide HB⟩
        rw [unhide HE]
        exact ownsRow_lower (unhide HO) (by omega)
end Go.Proofs.Ytjmmfgmmmdbenaa
