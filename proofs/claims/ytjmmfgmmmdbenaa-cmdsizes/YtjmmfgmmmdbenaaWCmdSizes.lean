/-
  The walk of the law CmdSizes.
-/
import Derived.Test.YtjmmfgmmmdbenaaCN4
namespace Go.Proofs.Ytjmmfgmmmdbenaa
open Go.RowKit
set_option linter.unusedSimpArgs false
set_option linter.unusedVariables false

set_option maxRecDepth 100000 in
set_option maxHeartbeats 16000000 in
theorem cmdSizes_five (a0 a1 a2 : Int) (v : Value) (s : ByteArray) (w : World) (c : Cm) (g : GoodC c) (hs : s.size ≤ 100) (MK : Hid (Mk7 a0 a1 a2 v s w c)) (h5 : c.kind = 5) :
    Calls Try.prog 8 #[.int .i64 a0, .int .i64 a1, .int .i64 a2, v, .string s] w fun e w' => e = .returned (.bool true) ∧ Below w.heap.size w w' := by
  have hsi : (s.size : Int) ≤ 100 := by omega
  have E2 := hide (fun v W hv => encG g (f := 2) (.inl rfl) v W hv)
  have E1 := hide (fun v W hv => encN g h5 v W hv)
  obtain ⟨⟨r1, r2, r3, r4⟩, r5, r6, r7, r8, r9⟩ := rightC_of g.right
  have FA := hide (fun W => free7_any c.id.toNat (by have := g.2.1; omega) W)
  have FB := hide (fun W => free7_any c.txn.toNat (by have := g.2.2; omega) W)
  have FC := hide (fun W => free7_any c.ws.length (by omega) W)
  rw [Int.toNat_of_nonneg r3] at FA
  rw [Int.toNat_of_nonneg r4] at FB
  have HWS := hide (fun x (hx : x ∈ c.ws) => rightW_of (r9 x hx))
  have z2 : (encS 2 c).size = 4 + (sh c.id.toNat).length + (sh c.txn.toNat).length + (sh c.ws.length).length + c.text.size + (c.ws.flatMap wr2).length := by
    rw [← by8_len, encS_by8 (g.ok (.inl rfl)), enc2_long c r7]
  have l1 := sh_len9 c.id.toNat (by have := g.2.1; omega)
  have l2 := sh_len9 c.txn.toNat (by have := g.2.2; omega)
  have l3 := sh_len9 c.ws.length (by omega)
  have zs2 := g.small 2
  have hb1 : (c.ws.flatMap wr1).length ≤ 8005000 := Nat.le_trans (flat_le wr1 c.ws 8005 (fun x hx => by have := unhide HWS x hx; rw [wr1_is]; omega)) (by have := Nat.mul_le_mul_right 8005 r8; omega)
  generalize encS 2 c = s2 at *
  have H1 := hide r8
  have hln : c.ws.length ≤ 1000 := r8
  obtain ⟨la, hla⟩ : ∃ n, (sh c.id.toNat).length = n := ⟨_, rfl⟩
  obtain ⟨lb, hlb⟩ : ∃ n, (sh c.txn.toNat).length = n := ⟨_, rfl⟩
  obtain ⟨lc, hlc⟩ : ∃ n, (sh c.ws.length).length = n := ⟨_, rfl⟩
  rw [hla] at FA z2 l1
  rw [hlb] at FB z2 l2
  rw [hlc] at FC z2 l3
  clear g h5 hla hlb hlc r1 r2 r3 r4 r5 r6 r8 r9
  have e1 : IntKind.i64.wrap (4 + (la : Int)) = 4 + (la : Int) := IntWalk.i64_in _ (by omega)
  have e2 : IntKind.i64.wrap (4 + (la : Int) + (lb : Int)) = 4 + (la : Int) + (lb : Int) := IntWalk.i64_in _ (by omega)
  have e3 : IntKind.i64.wrap (4 + (la : Int) + (lb : Int) + (lc : Int)) = 4 + (la : Int) + (lb : Int) + (lc : Int) := IntWalk.i64_in _ (by omega)
  have e4 : IntKind.i64.wrap (4 + (la : Int) + (lb : Int) + (lc : Int) + (c.text.size : Int)) = 4 + (la : Int) + (lb : Int) + (lc : Int) + (c.text.size : Int) := IntWalk.i64_in _ (by omega)
  go_enter Try.func8, Try.ntmps8
  go_wp2_with (first | (go_at_call 13; refine (known7_any _).mono ?_; rintro e W1 ⟨rfl, hb1⟩) | (go_at_call 14; refine (unhide MK _ hb1).mono ?_; rintro e W2 ⟨q, cap, rfl, hws, hb2⟩; have HB := hide (Below.onto (Below.onto hb1 hb2) (below_new W2 (.cells #[.int .i64 c.kind, .int .i64 c.id, .int .i64 c.txn, .bool c.com, .slice q c.ws.length cap, .string c.text] 26))); have HC := hide (Blk.new W2 #[.int .i64 c.kind, .int .i64 c.id, .int .i64 c.txn, .bool c.com, .slice q c.ws.length cap, .string c.text] 26); have HW := hide (hws.below (below_new W2 (.cells #[.int .i64 c.kind, .int .i64 c.id, .int .i64 c.txn, .bool c.com, .slice q c.ws.length cap, .string c.text] 26))); clear hb1 hb2 hws MK) | (go_at_call 16; first | (refine (unhide E1 (.agg #[.int .i64 c.kind, .int .i64 c.id, .int .i64 c.txn, .bool c.com, .slice q c.ws.length cap, .string c.text]) _ (cmv (unhide HW))).mono ?_; rintro e W3 ⟨rfl, hb3⟩; clear E1; have k_ := (unhide HC).below hb3; replace HC := hide k_; have x0_ := k_.cell 0; have x1_ := k_.cell 1; have x2_ := k_.cell 2; have x3_ := k_.cell 3; have x4_ := k_.cell 4; have x5_ := k_.cell 5; simp at x0_ x1_ x2_ x3_ x4_ x5_; clear k_; replace HW := hide ((unhide HW).below hb3); replace HB := hide (Below.onto (unhide HB) hb3); clear hb3) | (refine (unhide E2 (.agg #[.int .i64 c.kind, .int .i64 c.id, .int .i64 c.txn, .bool c.com, .slice q c.ws.length cap, .string c.text]) W3 (cmv (unhide HW))).mono ?_; rintro e W4 ⟨rfl, hb4⟩; clear E2; have k_ := (unhide HC).below hb4; replace HC := hide k_; have y0_ := k_.cell 0; have y1_ := k_.cell 1; have y2_ := k_.cell 2; have y3_ := k_.cell 3; have y4_ := k_.cell 4; have y5_ := k_.cell 5; simp at y0_ y1_ y2_ y3_ y4_ y5_; clear k_; replace HW := hide ((unhide HW).below hb4); replace HB := hide (Below.onto (unhide HB) hb4); clear hb4 x0_ x1_ x2_ x3_ x4_ x5_)))
  rename_i hrest
  have hbd : Below W4.heap.size W4 W4.drew := (Below.refl _ _).drew
  replace HC := hide ((unhide HC).below hbd)
  replace HW := hide ((unhide HW).below hbd)
  replace HB := hide (Below.onto (unhide HB) hbd)
  clear y0_ y1_ y2_ y3_ y4_ y5_
  refine wp_region_noPanic ?_
  refine wp_region_held_drew (S := (fun X => Blk W2.heap.size #[.int .i64 c.kind, .int .i64 c.id, .int .i64 c.txn, .bool c.com, .slice q c.ws.length cap, .string c.text] 26 X)) (by kernel_rfl) (unhide HC) (fun hHeld => ?_)
  clear hbd
  generalize W4.drew = Wd at *
  refine wpAnyH_take (i := 0) (oi := ?oi20001) (v := ?v20001) ?hi20001 (by kernel_rfl) (by kernel_rfl) (by kernel_rfl) (fun _ _ _ h => h) (Or.inl ⟨?hw20001, ?hy20001⟩) (by assumption) ?rest20001
  case hi20001 => (simp only [List.getElem?_toArray, List.getElem?_cons_zero]; rfl)
  case hw20001 => rfl
  case hy20001 => first | (intro wx hSw; go_simp; done) | (intro wx hSw; go_simp; with_reducible rfl)
  simp only [Act.put, List.setIfInBounds_toArray, List.set_cons_zero, List.set_cons_succ]
  refine wpAnyH_take (i := 1) (oi := ?oi20002) (v := ?v20002) ?hi20002 (by kernel_rfl) (by kernel_rfl) (by kernel_rfl) (fun _ _ _ h => h) (Or.inl ⟨?hw20002, ?hy20002⟩) (by assumption) ?rest20002
  case hi20002 => (simp only [List.getElem?_toArray, List.getElem?_cons_zero, List.getElem?_cons_succ]; rfl)
  case hw20002 => rfl
  case hy20002 => first | (intro wx hSw; have q_ := Blk.cell hSw 1; simp at q_; go_simp; done) | (intro wx hSw; have q_ := Blk.cell hSw 1; simp at q_; go_simp; with_reducible rfl)
  simp only [Act.put, List.setIfInBounds_toArray, List.set_cons_zero, List.set_cons_succ]
  refine wpAnyH_take (i := 4) (oi := ?oi20003) (v := ?v20003) ?hi20003 (by kernel_rfl) (by kernel_rfl) (by kernel_rfl) (fun _ _ _ h => h) (Or.inl ⟨?hw20003, ?hy20003⟩) (by assumption) ?rest20003
  case hi20003 => (simp only [List.getElem?_toArray, List.getElem?_cons_zero, List.getElem?_cons_succ]; rfl)
  case hw20003 => rfl
  case hy20003 => first | (intro wx hSw; go_simp; done) | (intro wx hSw; go_simp; with_reducible rfl)
  simp only [Act.put, List.setIfInBounds_toArray, List.set_cons_zero, List.set_cons_succ]
  refine wpAnyH_take (i := 5) (oi := ?oi20004) (v := ?v20004) ?hi20004 (by kernel_rfl) (by kernel_rfl) (by kernel_rfl) (fun _ _ _ h => h) (Or.inl ⟨?hw20004, ?hy20004⟩) (by assumption) ?rest20004
  case hi20004 => (simp only [List.getElem?_toArray, List.getElem?_cons_zero, List.getElem?_cons_succ]; rfl)
  case hw20004 => rfl
  case hy20004 => first | (intro wx hSw; have q_ := Blk.cell hSw 2; simp at q_; go_simp; done) | (intro wx hSw; have q_ := Blk.cell hSw 2; simp at q_; go_simp; with_reducible rfl)
  simp only [Act.put, List.setIfInBounds_toArray, List.set_cons_zero, List.set_cons_succ]
  refine wpAnyH_take (i := 8) (oi := ?oi20005) (v := ?v20005) ?hi20005 (by kernel_rfl) (by kernel_rfl) (by kernel_rfl) (fun _ _ _ h => h) (Or.inl ⟨?hw20005, ?hy20005⟩) (by assumption) ?rest20005
  case hi20005 => (simp only [List.getElem?_toArray, List.getElem?_cons_zero, List.getElem?_cons_succ]; rfl)
  case hw20005 => rfl
  case hy20005 => first | (intro wx hSw; go_simp; done) | (intro wx hSw; go_simp; with_reducible rfl)
  simp only [Act.put, List.setIfInBounds_toArray, List.set_cons_zero, List.set_cons_succ]
  refine wpAnyH_take (i := 9) (oi := ?oi20006) (v := ?v20006) ?hi20006 (by kernel_rfl) (by kernel_rfl) (by kernel_rfl) (fun _ _ _ h => h) (Or.inl ⟨?hw20006, ?hy20006⟩) (by assumption) ?rest20006
  case hi20006 => (simp only [List.getElem?_toArray, List.getElem?_cons_zero, List.getElem?_cons_succ]; rfl)
  case hw20006 => rfl
  case hy20006 => first | (intro wx hSw; have q_ := Blk.cell hSw 4; simp at q_; go_simp; done) | (intro wx hSw; have q_ := Blk.cell hSw 4; simp at q_; go_simp; with_reducible rfl)
  simp only [Act.put, List.setIfInBounds_toArray, List.set_cons_zero, List.set_cons_succ]
  refine wpAnyH_take (i := 10) (oi := ?oi20007) (v := ?v20007) ?hi20007 (by kernel_rfl) (by kernel_rfl) (by kernel_rfl) (fun _ _ _ h => h) (Or.inl ⟨?hw20007, ?hy20007⟩) (by assumption) ?rest20007
  case hi20007 => (simp only [List.getElem?_toArray, List.getElem?_cons_zero, List.getElem?_cons_succ]; rfl)
  case hw20007 => rfl
  case hy20007 => first | (intro wx hSw; go_simp; done) | (intro wx hSw; go_simp; with_reducible rfl)
  simp only [Act.put, List.setIfInBounds_toArray, List.set_cons_zero, List.set_cons_succ]
  refine wpAnyH_take (i := 13) (oi := ?oi20008) (v := ?v20008) ?hi20008 (by kernel_rfl) (by kernel_rfl) (by kernel_rfl) (fun _ _ _ h => h) (Or.inl ⟨?hw20008, ?hy20008⟩) (by assumption) ?rest20008
  case hi20008 => (simp only [List.getElem?_toArray, List.getElem?_cons_zero, List.getElem?_cons_succ]; rfl)
  case hw20008 => rfl
  case hy20008 => first | (intro wx hSw; go_simp; done) | (intro wx hSw; go_simp; with_reducible rfl)
  simp only [Act.put, List.setIfInBounds_toArray, List.set_cons_zero, List.set_cons_succ]
  refine wpAnyH_take (i := 14) (oi := ?oi20009) (v := ?v20009) ?hi20009 (by kernel_rfl) (by kernel_rfl) (by kernel_rfl) (fun _ _ _ h => h) (Or.inl ⟨?hw20009, ?hy20009⟩) (by assumption) ?rest20009
  case hi20009 => (simp only [List.getElem?_toArray, List.getElem?_cons_zero, List.getElem?_cons_succ]; rfl)
  case hw20009 => rfl
  case hy20009 => first | (intro wx hSw; have q_ := Blk.cell hSw 5; simp at q_; go_simp; done) | (intro wx hSw; have q_ := Blk.cell hSw 5; simp at q_; go_simp; with_reducible rfl)
  simp only [Act.put, List.setIfInBounds_toArray, List.set_cons_zero, List.set_cons_succ]
  refine wpAnyH_take (i := 15) (oi := ?oi20010) (v := ?v20010) ?hi20010 (by kernel_rfl) (by kernel_rfl) (by kernel_rfl) (fun _ _ _ h => h) (Or.inl ⟨?hw20010, ?hy20010⟩) (by assumption) ?rest20010
  case hi20010 => (simp only [List.getElem?_toArray, List.getElem?_cons_zero, List.getElem?_cons_succ]; rfl)
  case hw20010 => rfl
  case hy20010 => first | (intro wx hSw; go_simp; done) | (intro wx hSw; go_simp; with_reducible rfl)
  simp only [Act.put, List.setIfInBounds_toArray, List.set_cons_zero, List.set_cons_succ]
  refine wpAnyH_ready (rs := [2]) (by kernel_rfl) (by simp) ?_
  refine AllReadyH.cons rfl (fun K20011 hK20011 => ?_) AllReadyH.nil
  go_simp
  go_wp2_with (go_at_call 23; refine (unhide FA _).mono ?_; rintro e X2 ⟨rfl, hX2⟩; replace hX2 := hX2.symm; subst hX2)
  refine hK20011.out _ _ ?hs20011 (fun hHeld20011 => ?_)
  case hs20011 => exact hHeld
  clear hHeld
  have hHeld := hHeld20011; clear hHeld20011 hK20011 K20011
  refine wpAnyH_take (i := 3) (oi := ?oi20012) (v := ?v20012) ?hi20012 (by kernel_rfl) (by kernel_rfl) (by kernel_rfl) (fun _ _ _ h => h) (Or.inl ⟨?hw20012, ?hy20012⟩) (by assumption) ?rest20012
  case hi20012 => (simp only [List.getElem?_toArray, List.getElem?_cons_zero, List.getElem?_cons_succ]; rfl)
  case hw20012 => rfl
  case hy20012 => first | (intro wx hSw; go_simp; done) | (intro wx hSw; go_simp; with_reducible rfl)
  simp only [Act.put, List.setIfInBounds_toArray, List.set_cons_zero, List.set_cons_succ]
  refine wpAnyH_ready (rs := [6]) (by kernel_rfl) (by simp) ?_
  refine AllReadyH.cons rfl (fun K20013 hK20013 => ?_) AllReadyH.nil
  go_simp
  go_wp2_with (go_at_call 23; refine (unhide FB _).mono ?_; rintro e X2 ⟨rfl, hX2⟩; replace hX2 := hX2.symm; subst hX2)
  refine hK20013.out _ _ ?hs20013 (fun hHeld20013 => ?_)
  case hs20013 => exact hHeld
  clear hHeld
  have hHeld := hHeld20013; clear hHeld20013 hK20013 K20013
  refine wpAnyH_take (i := 7) (oi := ?oi20014) (v := ?v20014) ?hi20014 (by kernel_rfl) (by kernel_rfl) (by kernel_rfl) (fun _ _ _ h => h) (Or.inl ⟨?hw20014, ?hy20014⟩) (by assumption) ?rest20014
  case hi20014 => (simp only [List.getElem?_toArray, List.getElem?_cons_zero, List.getElem?_cons_succ]; rfl)
  case hw20014 => rfl
  case hy20014 => first | (intro wx hSw; go_simp; done) | (intro wx hSw; go_simp; with_reducible rfl)
  simp only [Act.put, List.setIfInBounds_toArray, List.set_cons_zero, List.set_cons_succ]
  refine wpAnyH_ready (rs := [11]) (by kernel_rfl) (by simp) ?_
  refine AllReadyH.cons rfl (fun K20015 hK20015 => ?_) AllReadyH.nil
  go_simp
  go_wp2_with (go_at_call 23; refine (unhide FC _).mono ?_; rintro e X2 ⟨rfl, hX2⟩; replace hX2 := hX2.symm; subst hX2)
  refine hK20015.out _ _ ?hs20015 (fun hHeld20015 => ?_)
  case hs20015 => exact hHeld
  clear hHeld
  have hHeld := hHeld20015; clear hHeld20015 hK20015 K20015
  refine wpAnyH_take (i := 12) (oi := ?oi20016) (v := ?v20016) ?hi20016 (by kernel_rfl) (by kernel_rfl) (by kernel_rfl) (fun _ _ _ h => h) (Or.inl ⟨?hw20016, ?hy20016⟩) (by assumption) ?rest20016
  case hi20016 => (simp only [List.getElem?_toArray, List.getElem?_cons_zero, List.getElem?_cons_succ]; rfl)
  case hw20016 => rfl
  case hy20016 => first | (intro wx hSw; go_simp; done) | (intro wx hSw; go_simp; with_reducible rfl)
  simp only [Act.put, List.setIfInBounds_toArray, List.set_cons_zero, List.set_cons_succ]
  refine wpAnyH_take (i := 16) (oi := ?oi20017) (v := ?v20017) ?hi20017 (by kernel_rfl) (by kernel_rfl) (by kernel_rfl) (fun _ _ _ h => h) (Or.inl ⟨?hw20017, ?hy20017⟩) (by assumption) ?rest20017
  case hi20017 => (simp only [List.getElem?_toArray, List.getElem?_cons_zero, List.getElem?_cons_succ]; rfl)
  case hw20017 => rfl
  case hy20017 => first | (intro wx hSw; go_simp; done) | (intro wx hSw; go_simp; with_reducible rfl)
  simp only [Act.put, List.setIfInBounds_toArray, List.set_cons_zero, List.set_cons_succ]
  refine wpAnyH_ready (rs := [17]) (by kernel_rfl) (by simp) ?_
  refine AllReadyH.cons rfl (fun K20018 hK20018 => ?_) AllReadyH.nil
  go_simp
  refine hK20018.out _ _ ?hs20018 (fun hHeld20018 => ?_)
  case hs20018 => exact hHeld
  clear hHeld
  have hHeld := hHeld20018; clear hHeld20018 hK20018 K20018
  refine wpAnyH_ready (rs := [18]) (by kernel_rfl) (by simp) ?_
  refine AllReadyH.cons rfl (fun K20019 hK20019 => ?_) AllReadyH.nil
  go_simp
  refine hK20019.out _ _ ?hs20019 (fun hHeld20019 => ?_)
  case hs20019 => exact hHeld
  clear hHeld
  have hHeld := hHeld20019; clear hHeld20019 hK20019 K20019
  refine wpAnyH_done (by kernel_rfl) ?_ _
  refine NoPanic.normal ?_
  refine hrest _ _ ?_
  clear hHeld
  go_wp2
  have HZ2 := hide z2
  go_loopw [16, 17, 18] (fun a b i wr => ∃ k : Nat, k ≤ c.ws.length ∧ i = .int .i64 (k : Int) ∧ a = .int .i64 ((21 + ((c.ws.take k).flatMap wr1).length : Nat) : Int) ∧ b = .int .i64 ((4 + la + lb + lc + c.text.size + ((c.ws.take k).flatMap wr2).length : Nat) : Int) ∧ Hid (Blk W2.heap.size #[.int .i64 c.kind, .int .i64 c.id, .int .i64 c.txn, .bool c.com, .slice q c.ws.length cap, .string c.text] 26 wr) ∧ Hid (WsV q c.ws wr) ∧ Hid (Below w.heap.size w wr))
    (fun a b i wr => c.ws.length - (intOf i).toNat)
  case atStart => exact ⟨0, Nat.zero_le _, rfl, by simp, by simp only [List.take_zero, List.flatMap_nil, List.length_nil]; congr 1, HC, HW, HB⟩
  case round =>
    clear HC HW HB
    obtain ⟨k, hk, rfl, rfl, rfl, HC, HW, HB⟩ := hrel
    have y4_ := (unhide HC).cell 4
    have yl_ := (unhide HC).lt
    simp at y4_
    by_cases hlt : k < c.ws.length
    · obtain ⟨g, o2, hp, hat⟩ := unhide HW
      obtain rfl := hp (by omega)
      obtain ⟨⟨e0_, e1_, e2_⟩, _⟩ := hat k hlt
      have hwk : IntKind.i64.wrap ((k : Int) * 3) = (k : Int) * 3 := IntWalk.i64_in _ (by omega)
      have f1 := flat_take wr1 c.ws k hlt
      have f2 := flat_take wr2 c.ws k hlt
      have t1 := flat_len wr1 c.ws k hlt
      have t2 := flat_len wr2 c.ws k hlt
      have hw := unhide HWS c.ws[k] (List.getElem_mem hlt)
      replace f1 := congrArg List.length f1
      replace f2 := congrArg List.length f2
      rw [List.length_append, wr1_is] at f1
      rw [List.length_append, wr2_is] at f2
      rw [wr1_is] at t1
      rw [wr2_is] at t2
      have FK := hide (fun W => free7_any c.ws[k].k.size (by omega) W)
      have FV := hide (fun W => free7_any c.ws[k].v.size (by omega) W)
      clear hp hat
      obtain ⟨kk, hkk⟩ : ∃ x, c.ws[k].k = x := ⟨_, rfl⟩
      obtain ⟨vv, hvv⟩ : ∃ x, c.ws[k].v = x := ⟨_, rfl⟩
      obtain ⟨gg, hgg⟩ : ∃ x, c.ws[k].g = x := ⟨_, rfl⟩
      rw [hkk] at e0_ f1 f2 t1 t2 FK hw
      rw [hvv] at e1_ f1 f2 t1 t2 FV hw
      rw [hgg] at e2_ f2 t2 hw
      obtain ⟨A1, hA1⟩ : ∃ x, ((c.ws.take k).flatMap wr1).length = x := ⟨_, rfl⟩
      obtain ⟨A2, hA2⟩ : ∃ x, ((c.ws.take k).flatMap wr2).length = x := ⟨_, rfl⟩
      rw [hA1] at f1 t1 ⊢
      rw [hA2] at f2 t2 ⊢
      have HF1 := hide f1
      have HF2 := hide f2
      obtain ⟨lk, hlk⟩ : ∃ n, (sh kk.size).length = n := ⟨_, rfl⟩
      obtain ⟨lv, hlv⟩ : ∃ n, (sh vv.size).length = n := ⟨_, rfl⟩
      rw [hlk] at FK HF2 t2
      rw [hlv] at FV HF2 t2
      have t2b : lk ≤ 8005000 ∧ A2 + lk + kk.size ≤ 10000000 ∧ lv ≤ 9 := by
        have := sh_len9 kk.size (by omega)
        have h9 := sh_len9 vv.size (by omega)
        have hz := unhide HZ2
        refine ⟨by omega, by omega, by omega⟩
      obtain ⟨t2b1, t2b2, t2b3⟩ := t2b
      clear hkk hvv hgg hA1 hA2 hlk hlv f1 f2 z2
      have w1 : IntKind.i64.wrap (((21 + A1 : Nat) : Int) + 5) = ((21 + A1 + 5 : Nat) : Int) := (IntWalk.i64_in _ (by omega)).trans (by omega)
      obtain ⟨B2, hB2⟩ : ∃ x, 4 + la + lb + lc + c.text.size + A2 = x := ⟨_, rfl⟩
      rw [hB2]
      have hB2s : B2 ≤ 20000000 := by omega
      have HB2 := hide hB2
      clear hB2
      have w2 : IntKind.i64.wrap ((B2 : Int) + 1) = (B2 : Int) + 1 := IntWalk.i64_in _ (by omega)
      have w3 : IntKind.i64.wrap ((B2 : Int) + 1 + (lk : Int)) = (B2 : Int) + 1 + (lk : Int) := IntWalk.i64_in _ (by omega)
      have w4 : IntKind.i64.wrap ((B2 : Int) + 1 + (lk : Int) + (kk.size : Int)) = (B2 : Int) + 1 + (lk : Int) + (kk.size : Int) := IntWalk.i64_in _ (by omega)
      have w5 : IntKind.i64.wrap ((B2 : Int) + 1 + (lk : Int) + (kk.size : Int) + (lv : Int)) = (B2 : Int) + 1 + (lk : Int) + (kk.size : Int) + (lv : Int) := IntWalk.i64_in _ (by omega)
      have w6 : IntKind.i64.wrap ((B2 : Int) + 1 + (lk : Int) + (kk.size : Int) + (lv : Int) + (vv.size : Int)) = (B2 : Int) + 1 + (lk : Int) + (kk.size : Int) + (lv : Int) + (vv.size : Int) := IntWalk.i64_in _ (by omega)
      have hA1b : A1 ≤ 8005000 := by omega
      have hkb : kk.size ≤ 300 := by omega
      have hvb : vv.size ≤ 4000 := by omega
      have HTT := hide (And.intro t1 (And.intro t2 hw))
      clear t1 t2 hw
      go_wp2
      rename_i Kl hloop Kn hrest
      have hbw := below_new wr (.cells #[.string kk, .string vv, .bool gg] 40)
      have hbd : Below (wr.alloc (.cells #[.string kk, .string vv, .bool gg] 40)).heap.size (wr.alloc (.cells #[.string kk, .string vv, .bool gg] 40)) (wr.alloc (.cells #[.string kk, .string vv, .bool gg] 40)).drew := (Below.refl _ _).drew
      have hbn := Below.onto hbw hbd
      replace HC := hide ((unhide HC).below hbn)
      replace HW := hide ((unhide HW).below hbn)
      replace HB := hide (Below.onto (unhide HB) hbn)
      have HV := hide ((Blk.new wr #[.string kk, .string vv, .bool gg] 40).below hbd)
      refine wp_region_noPanic ?_
      refine wp_region_held_drew (S := (fun X => Blk wr.heap.size #[.string kk, .string vv, .bool gg] 40 X)) (by kernel_rfl) (unhide HV) (fun hHeld => ?_)
      clear hbw hbd hbn
      generalize (wr.alloc (.cells #[.string kk, .string vv, .bool gg] 40)).drew = Wd at *
      clear y4_ yl_ e0_ e1_ e2_
      refine wpAnyH_take (i := 0) (oi := ?oi20020) (v := ?v20020) ?hi20020 (by kernel_rfl) (by kernel_rfl) (by kernel_rfl) (fun _ _ _ h => h) (Or.inl ⟨?hw20020, ?hy20020⟩) (by assumption) ?rest20020
      case hi20020 => (simp only [List.getElem?_toArray, List.getElem?_cons_zero]; rfl)
      case hw20020 => rfl
      case hy20020 => first | (intro wx hSw; go_simp; done) | (intro wx hSw; go_simp; with_reducible rfl)
      simp only [Act.put, List.setIfInBounds_toArray, List.set_cons_zero, List.set_cons_succ]
      refine wpAnyH_take (i := 1) (oi := ?oi20021) (v := ?v20021) ?hi20021 (by kernel_rfl) (by kernel_rfl) (by kernel_rfl) (fun _ _ _ h => h) (Or.inl ⟨?hw20021, ?hy20021⟩) (by assumption) ?rest20021
      case hi20021 => (simp only [List.getElem?_toArray, List.getElem?_cons_zero, List.getElem?_cons_succ]; rfl)
      case hw20021 => rfl
      case hy20021 => first | (intro wx hSw; go_simp; done) | (intro wx hSw; go_simp; with_reducible rfl)
      simp only [Act.put, List.setIfInBounds_toArray, List.set_cons_zero, List.set_cons_succ]
      refine wpAnyH_take (i := 2) (oi := ?oi20022) (v := ?v20022) ?hi20022 (by kernel_rfl) (by kernel_rfl) (by kernel_rfl) (fun _ _ _ h => h) (Or.inl ⟨?hw20022, ?hy20022⟩) (by assumption) ?rest20022
      case hi20022 => (simp only [List.getElem?_toArray, List.getElem?_cons_zero, List.getElem?_cons_succ]; rfl)
      case hw20022 => rfl
      case hy20022 => first | (intro wx hSw; go_simp; done) | (intro wx hSw; go_simp; with_reducible rfl)
      simp only [Act.put, List.setIfInBounds_toArray, List.set_cons_zero, List.set_cons_succ]
      refine wpAnyH_take (i := 3) (oi := ?oi20023) (v := ?v20023) ?hi20023 (by kernel_rfl) (by kernel_rfl) (by kernel_rfl) (fun _ _ _ h => h) (Or.inl ⟨?hw20023, ?hy20023⟩) (by assumption) ?rest20023
      case hi20023 => (simp only [List.getElem?_toArray, List.getElem?_cons_zero, List.getElem?_cons_succ]; rfl)
      case hw20023 => rfl
      case hy20023 => first | (intro wx hSw; have q_ := Blk.cell hSw 0; simp at q_; go_simp; done) | (intro wx hSw; have q_ := Blk.cell hSw 0; simp at q_; go_simp; with_reducible rfl)
      simp only [Act.put, List.setIfInBounds_toArray, List.set_cons_zero, List.set_cons_succ]
      refine wpAnyH_take (i := 4) (oi := ?oi20024) (v := ?v20024) ?hi20024 (by kernel_rfl) (by kernel_rfl) (by kernel_rfl) (fun _ _ _ h => h) (Or.inl ⟨?hw20024, ?hy20024⟩) (by assumption) ?rest20024
      case hi20024 => (simp only [List.getElem?_toArray, List.getElem?_cons_zero, List.getElem?_cons_succ]; rfl)
      case hw20024 => rfl
      case hy20024 => first | (intro wx hSw; go_simp; done) | (intro wx hSw; go_simp; with_reducible rfl)
      simp only [Act.put, List.setIfInBounds_toArray, List.set_cons_zero, List.set_cons_succ]
      refine wpAnyH_take (i := 7) (oi := ?oi20025) (v := ?v20025) ?hi20025 (by kernel_rfl) (by kernel_rfl) (by kernel_rfl) (fun _ _ _ h => h) (Or.inl ⟨?hw20025, ?hy20025⟩) (by assumption) ?rest20025
      case hi20025 => (simp only [List.getElem?_toArray, List.getElem?_cons_zero, List.getElem?_cons_succ]; rfl)
      case hw20025 => rfl
      case hy20025 => first | (intro wx hSw; go_simp; done) | (intro wx hSw; go_simp; with_reducible rfl)
      simp only [Act.put, List.setIfInBounds_toArray, List.set_cons_zero, List.set_cons_succ]
      refine wpAnyH_take (i := 8) (oi := ?oi20026) (v := ?v20026) ?hi20026 (by kernel_rfl) (by kernel_rfl) (by kernel_rfl) (fun _ _ _ h => h) (Or.inl ⟨?hw20026, ?hy20026⟩) (by assumption) ?rest20026
      case hi20026 => (simp only [List.getElem?_toArray, List.getElem?_cons_zero, List.getElem?_cons_succ]; rfl)
      case hw20026 => rfl
      case hy20026 => first | (intro wx hSw; have q_ := Blk.cell hSw 0; simp at q_; go_simp; done) | (intro wx hSw; have q_ := Blk.cell hSw 0; simp at q_; go_simp; with_reducible rfl)
      simp only [Act.put, List.setIfInBounds_toArray, List.set_cons_zero, List.set_cons_succ]
      refine wpAnyH_take (i := 9) (oi := ?oi20027) (v := ?v20027) ?hi20027 (by kernel_rfl) (by kernel_rfl) (by kernel_rfl) (fun _ _ _ h => h) (Or.inl ⟨?hw20027, ?hy20027⟩) (by assumption) ?rest20027
      case hi20027 => (simp only [List.getElem?_toArray, List.getElem?_cons_zero, List.getElem?_cons_succ]; rfl)
      case hw20027 => rfl
      case hy20027 => first | (intro wx hSw; go_simp; done) | (intro wx hSw; go_simp; with_reducible rfl)
      simp only [Act.put, List.setIfInBounds_toArray, List.set_cons_zero, List.set_cons_succ]
      refine wpAnyH_ready (rs := [5]) (by kernel_rfl) (by simp) ?_
      refine AllReadyH.cons rfl (fun K20028 hK20028 => ?_) AllReadyH.nil
      go_simp
      go_wp2_with (go_at_call 23; refine (unhide FK _).mono ?_; rintro e X2 ⟨rfl, hX2⟩; replace hX2 := hX2.symm; subst hX2)
      refine hK20028.out _ _ ?hs20028 (fun hHeld20028 => ?_)
      case hs20028 => exact hHeld
      clear hHeld
      have hHeld := hHeld20028; clear hHeld20028 hK20028 K20028
      refine wpAnyH_take (i := 6) (oi := ?oi20029) (v := ?v20029) ?hi20029 (by kernel_rfl) (by kernel_rfl) (by kernel_rfl) (fun _ _ _ h => h) (Or.inl ⟨?hw20029, ?hy20029⟩) (by assumption) ?rest20029
      case hi20029 => (simp only [List.getElem?_toArray, List.getElem?_cons_zero, List.getElem?_cons_succ]; rfl)
      case hw20029 => rfl
      case hy20029 => first | (intro wx hSw; go_simp; done) | (intro wx hSw; go_simp; with_reducible rfl)
      simp only [Act.put, List.setIfInBounds_toArray, List.set_cons_zero, List.set_cons_succ]
      refine wpAnyH_take (i := 10) (oi := ?oi20030) (v := ?v20030) ?hi20030 (by kernel_rfl) (by kernel_rfl) (by kernel_rfl) (fun _ _ _ h => h) (Or.inl ⟨?hw20030, ?hy20030⟩) (by assumption) ?rest20030
      case hi20030 => (simp only [List.getElem?_toArray, List.getElem?_cons_zero, List.getElem?_cons_succ]; rfl)
      case hw20030 => rfl
      case hy20030 => first | (intro wx hSw; go_simp; done) | (intro wx hSw; go_simp; with_reducible rfl)
      simp only [Act.put, List.setIfInBounds_toArray, List.set_cons_zero, List.set_cons_succ]
      refine wpAnyH_ready (rs := [11]) (by kernel_rfl) (by simp) ?_
      refine AllReadyH.cons rfl (fun K20031 hK20031 => ?_) AllReadyH.nil
      go_simp
      refine hK20031.out _ _ ?hs20031 (fun hHeld20031 => ?_)
      case hs20031 => exact hHeld
      clear hHeld
      have hHeld := hHeld20031; clear hHeld20031 hK20031 K20031
      refine wpAnyH_done (by kernel_rfl) ?_ _
      refine NoPanic.normal ?_
      refine hrest _ _ ?_
      clear hHeld
      have v2_ := (unhide HV).cell 2
      simp at v2_
      cases gg
      · go_wp2
        have hbd : Below Wd.heap.size Wd Wd.drew := (Below.refl _ _).drew
        replace HC := hide ((unhide HC).below hbd)
        replace HW := hide ((unhide HW).below hbd)
        replace HB := hide (Below.onto (unhide HB) hbd)
        replace HV := hide ((unhide HV).below hbd)
        refine wp_region_noPanic ?_
        refine wp_region_held_drew (S := (fun X => Blk wr.heap.size #[.string kk, .string vv, .bool false] 40 X)) (by kernel_rfl) (unhide HV) (fun hHeld => ?_)
        clear hbd
        generalize Wd.drew = We at *
        clear v2_
        refine wpAnyH_take (i := 0) (oi := ?oi20032) (v := ?v20032) ?hi20032 (by kernel_rfl) (by kernel_rfl) (by kernel_rfl) (fun _ _ _ h => h) (Or.inl ⟨?hw20032, ?hy20032⟩) (by assumption) ?rest20032
        case hi20032 => (simp only [List.getElem?_toArray, List.getElem?_cons_zero]; rfl)
        case hw20032 => rfl
        case hy20032 => first | (intro wx hSw; go_simp; done) | (intro wx hSw; go_simp; with_reducible rfl)
        simp only [Act.put, List.setIfInBounds_toArray, List.set_cons_zero, List.set_cons_succ]
        refine wpAnyH_take (i := 1) (oi := ?oi20033) (v := ?v20033) ?hi20033 (by kernel_rfl) (by kernel_rfl) (by kernel_rfl) (fun _ _ _ h => h) (Or.inl ⟨?hw20033, ?hy20033⟩) (by assumption) ?rest20033
        case hi20033 => (simp only [List.getElem?_toArray, List.getElem?_cons_zero, List.getElem?_cons_succ]; rfl)
        case hw20033 => rfl
        case hy20033 => first | (intro wx hSw; go_simp; done) | (intro wx hSw; go_simp; with_reducible rfl)
        simp only [Act.put, List.setIfInBounds_toArray, List.set_cons_zero, List.set_cons_succ]
        refine wpAnyH_take (i := 2) (oi := ?oi20034) (v := ?v20034) ?hi20034 (by kernel_rfl) (by kernel_rfl) (by kernel_rfl) (fun _ _ _ h => h) (Or.inl ⟨?hw20034, ?hy20034⟩) (by assumption) ?rest20034
        case hi20034 => (simp only [List.getElem?_toArray, List.getElem?_cons_zero, List.getElem?_cons_succ]; rfl)
        case hw20034 => rfl
        case hy20034 => first | (intro wx hSw; have q_ := Blk.cell hSw 1; simp at q_; go_simp; done) | (intro wx hSw; have q_ := Blk.cell hSw 1; simp at q_; go_simp; with_reducible rfl)
        simp only [Act.put, List.setIfInBounds_toArray, List.set_cons_zero, List.set_cons_succ]
        refine wpAnyH_take (i := 3) (oi := ?oi20035) (v := ?v20035) ?hi20035 (by kernel_rfl) (by kernel_rfl) (by kernel_rfl) (fun _ _ _ h => h) (Or.inl ⟨?hw20035, ?hy20035⟩) (by assumption) ?rest20035
        case hi20035 => (simp only [List.getElem?_toArray, List.getElem?_cons_zero, List.getElem?_cons_succ]; rfl)
        case hw20035 => rfl
        case hy20035 => first | (intro wx hSw; go_simp; done) | (intro wx hSw; go_simp; with_reducible rfl)
        simp only [Act.put, List.setIfInBounds_toArray, List.set_cons_zero, List.set_cons_succ]
        refine wpAnyH_take (i := 6) (oi := ?oi20036) (v := ?v20036) ?hi20036 (by kernel_rfl) (by kernel_rfl) (by kernel_rfl) (fun _ _ _ h => h) (Or.inl ⟨?hw20036, ?hy20036⟩) (by assumption) ?rest20036
        case hi20036 => (simp only [List.getElem?_toArray, List.getElem?_cons_zero, List.getElem?_cons_succ]; rfl)
        case hw20036 => rfl
        case hy20036 => first | (intro wx hSw; go_simp; done) | (intro wx hSw; go_simp; with_reducible rfl)
        simp only [Act.put, List.setIfInBounds_toArray, List.set_cons_zero, List.set_cons_succ]
        refine wpAnyH_take (i := 7) (oi := ?oi20037) (v := ?v20037) ?hi20037 (by kernel_rfl) (by kernel_rfl) (by kernel_rfl) (fun _ _ _ h => h) (Or.inl ⟨?hw20037, ?hy20037⟩) (by assumption) ?rest20037
        case hi20037 => (simp only [List.getElem?_toArray, List.getElem?_cons_zero, List.getElem?_cons_succ]; rfl)
        case hw20037 => rfl
        case hy20037 => first | (intro wx hSw; have q_ := Blk.cell hSw 1; simp at q_; go_simp; done) | (intro wx hSw; have q_ := Blk.cell hSw 1; simp at q_; go_simp; with_reducible rfl)
        simp only [Act.put, List.setIfInBounds_toArray, List.set_cons_zero, List.set_cons_succ]
        refine wpAnyH_take (i := 8) (oi := ?oi20038) (v := ?v20038) ?hi20038 (by kernel_rfl) (by kernel_rfl) (by kernel_rfl) (fun _ _ _ h => h) (Or.inl ⟨?hw20038, ?hy20038⟩) (by assumption) ?rest20038
        case hi20038 => (simp only [List.getElem?_toArray, List.getElem?_cons_zero, List.getElem?_cons_succ]; rfl)
        case hw20038 => rfl
        case hy20038 => first | (intro wx hSw; go_simp; done) | (intro wx hSw; go_simp; with_reducible rfl)
        simp only [Act.put, List.setIfInBounds_toArray, List.set_cons_zero, List.set_cons_succ]
        refine wpAnyH_ready (rs := [4]) (by kernel_rfl) (by simp) ?_
        refine AllReadyH.cons rfl (fun K20039 hK20039 => ?_) AllReadyH.nil
        go_simp
        go_wp2_with (go_at_call 23; refine (unhide FV _).mono ?_; rintro e X2 ⟨rfl, hX2⟩; replace hX2 := hX2.symm; subst hX2)
        refine hK20039.out _ _ ?hs20039 (fun hHeld20039 => ?_)
        case hs20039 => exact hHeld
        clear hHeld
        have hHeld := hHeld20039; clear hHeld20039 hK20039 K20039
        refine wpAnyH_take (i := 5) (oi := ?oi20040) (v := ?v20040) ?hi20040 (by kernel_rfl) (by kernel_rfl) (by kernel_rfl) (fun _ _ _ h => h) (Or.inl ⟨?hw20040, ?hy20040⟩) (by assumption) ?rest20040
        case hi20040 => (simp only [List.getElem?_toArray, List.getElem?_cons_zero, List.getElem?_cons_succ]; rfl)
        case hw20040 => rfl
        case hy20040 => first | (intro wx hSw; go_simp; done) | (intro wx hSw; go_simp; with_reducible rfl)
        simp only [Act.put, List.setIfInBounds_toArray, List.set_cons_zero, List.set_cons_succ]
        refine wpAnyH_take (i := 9) (oi := ?oi20041) (v := ?v20041) ?hi20041 (by kernel_rfl) (by kernel_rfl) (by kernel_rfl) (fun _ _ _ h => h) (Or.inl ⟨?hw20041, ?hy20041⟩) (by assumption) ?rest20041
        case hi20041 => (simp only [List.getElem?_toArray, List.getElem?_cons_zero, List.getElem?_cons_succ]; rfl)
        case hw20041 => rfl
        case hy20041 => first | (intro wx hSw; go_simp; done) | (intro wx hSw; go_simp; with_reducible rfl)
        simp only [Act.put, List.setIfInBounds_toArray, List.set_cons_zero, List.set_cons_succ]
        refine wpAnyH_ready (rs := [10]) (by kernel_rfl) (by simp) ?_
        refine AllReadyH.cons rfl (fun K20042 hK20042 => ?_) AllReadyH.nil
        go_simp
        refine hK20042.out _ _ ?hs20042 (fun hHeld20042 => ?_)
        case hs20042 => exact hHeld
        clear hHeld
        have hHeld := hHeld20042; clear hHeld20042 hK20042 K20042
        refine wpAnyH_done (by kernel_rfl) ?_ _
        refine NoPanic.normal ?_
        simp only [Exit.inBlock, Exit.then]
        refine hloop _ _ ?_
        clear hHeld
        go_wp2
        go_roundw
        case rel =>
          refine ⟨k + 1, by omega, by go_num, ?_, ?_, HC, HW, HB⟩
          · congr 1; have := unhide HF1; omega
          · congr 1; have := unhide HF2; have h8 := unhide HB2; simp only [if_true, Bool.false_eq_true, if_false] at this; omega
        case measure => simp [intOf] <;> omega
      · go_wp2
        go_roundw
        case rel =>
          refine ⟨k + 1, by omega, by go_num, ?_, ?_, HC, HW, HB⟩
          · congr 1; have := unhide HF1; omega
          · congr 1; have := unhide HF2; have h8 := unhide HB2; simp only [if_true, Bool.false_eq_true, if_false] at this; omega
        case measure => simp [intOf] <;> omega
    · obtain rfl : k = c.ws.length := by omega
      rw [List.take_length]
      have hz : (s2.size : Int) = ((4 + la + lb + lc + c.text.size + (c.ws.flatMap wr2).length : Nat) : Int) := by have := unhide HZ2; omega
      go_wp2
      go_ret
      exact ⟨rfl, unhide HB⟩
set_option maxRecDepth 100000 in
set_option maxHeartbeats 16000000 in
theorem cmdSizes_other (a0 a1 a2 : Int) (v : Value) (s : ByteArray) (w : World) (c : Cm) (g : GoodC c) (hs : s.size ≤ 100) (MK : Hid (Mk7 a0 a1 a2 v s w c)) (h5 : c.kind ≠ 5) :
    Calls Try.prog 8 #[.int .i64 a0, .int .i64 a1, .int .i64 a2, v, .string s] w fun e w' => e = .returned (.bool true) ∧ Below w.heap.size w w' := by
  have hsi : (s.size : Int) ≤ 100 := by omega
  have E2 := hide (fun v W hv => encG g (f := 2) (.inl rfl) v W hv)
  have E1 := hide (fun v W hv => encG g (f := 1) (.inr ⟨rfl, h5⟩) v W hv)
  obtain ⟨⟨r1, r2, r3, r4⟩, r5, r6, r7, r8, r9⟩ := rightC_of g.right
  have FA := hide (fun W => free7_any c.id.toNat (by have := g.2.1; omega) W)
  have FB := hide (fun W => free7_any c.txn.toNat (by have := g.2.2; omega) W)
  have FC := hide (fun W => free7_any c.ws.length (by omega) W)
  rw [Int.toNat_of_nonneg r3] at FA
  rw [Int.toNat_of_nonneg r4] at FB
  have HWS := hide (fun x (hx : x ∈ c.ws) => rightW_of (r9 x hx))
  have z2 : (encS 2 c).size = 4 + (sh c.id.toNat).length + (sh c.txn.toNat).length + (sh c.ws.length).length + c.text.size + (c.ws.flatMap wr2).length := by
    rw [← by8_len, encS_by8 (g.ok (.inl rfl)), enc2_long c r7]
  have z1 : (encS 1 c).size = 21 + (c.ws.flatMap wr1).length := by
    rw [← by8_len, encS_by8 (g.ok (.inr ⟨rfl, h5⟩)), enc1_long c]
  have zs1 := g.small 1
  have l1 := sh_len9 c.id.toNat (by have := g.2.1; omega)
  have l2 := sh_len9 c.txn.toNat (by have := g.2.2; omega)
  have l3 := sh_len9 c.ws.length (by omega)
  have zs2 := g.small 2
  have hb1 : (c.ws.flatMap wr1).length ≤ 8005000 := Nat.le_trans (flat_le wr1 c.ws 8005 (fun x hx => by have := unhide HWS x hx; rw [wr1_is]; omega)) (by have := Nat.mul_le_mul_right 8005 r8; omega)
  generalize encS 2 c = s2 at *
  generalize encS 1 c = s1 at *
  have H1 := hide r8
  have hln : c.ws.length ≤ 1000 := r8
  obtain ⟨la, hla⟩ : ∃ n, (sh c.id.toNat).length = n := ⟨_, rfl⟩
  obtain ⟨lb, hlb⟩ : ∃ n, (sh c.txn.toNat).length = n := ⟨_, rfl⟩
  obtain ⟨lc, hlc⟩ : ∃ n, (sh c.ws.length).length = n := ⟨_, rfl⟩
  rw [hla] at FA z2 l1
  rw [hlb] at FB z2 l2
  rw [hlc] at FC z2 l3
  clear g h5 hla hlb hlc r1 r2 r3 r4 r5 r6 r8 r9
  have e1 : IntKind.i64.wrap (4 + (la : Int)) = 4 + (la : Int) := IntWalk.i64_in _ (by omega)
  have e2 : IntKind.i64.wrap (4 + (la : Int) + (lb : Int)) = 4 + (la : Int) + (lb : Int) := IntWalk.i64_in _ (by omega)
  have e3 : IntKind.i64.wrap (4 + (la : Int) + (lb : Int) + (lc : Int)) = 4 + (la : Int) + (lb : Int) + (lc : Int) := IntWalk.i64_in _ (by omega)
  have e4 : IntKind.i64.wrap (4 + (la : Int) + (lb : Int) + (lc : Int) + (c.text.size : Int)) = 4 + (la : Int) + (lb : Int) + (lc : Int) + (c.text.size : Int) := IntWalk.i64_in _ (by omega)
  go_enter Try.func8, Try.ntmps8
  go_wp2_with (first | (go_at_call 13; refine (known7_any _).mono ?_; rintro e W1 ⟨rfl, hb1⟩) | (go_at_call 14; refine (unhide MK _ hb1).mono ?_; rintro e W2 ⟨q, cap, rfl, hws, hb2⟩; have HB := hide (Below.onto (Below.onto hb1 hb2) (below_new W2 (.cells #[.int .i64 c.kind, .int .i64 c.id, .int .i64 c.txn, .bool c.com, .slice q c.ws.length cap, .string c.text] 26))); have HC := hide (Blk.new W2 #[.int .i64 c.kind, .int .i64 c.id, .int .i64 c.txn, .bool c.com, .slice q c.ws.length cap, .string c.text] 26); have HW := hide (hws.below (below_new W2 (.cells #[.int .i64 c.kind, .int .i64 c.id, .int .i64 c.txn, .bool c.com, .slice q c.ws.length cap, .string c.text] 26))); clear hb1 hb2 hws MK) | (go_at_call 16; first | (refine (unhide E1 (.agg #[.int .i64 c.kind, .int .i64 c.id, .int .i64 c.txn, .bool c.com, .slice q c.ws.length cap, .string c.text]) _ (cmv (unhide HW))).mono ?_; rintro e W3 ⟨rfl, hb3⟩; clear E1; have k_ := (unhide HC).below hb3; replace HC := hide k_; have x0_ := k_.cell 0; have x1_ := k_.cell 1; have x2_ := k_.cell 2; have x3_ := k_.cell 3; have x4_ := k_.cell 4; have x5_ := k_.cell 5; simp at x0_ x1_ x2_ x3_ x4_ x5_; clear k_; replace HW := hide ((unhide HW).below hb3); replace HB := hide (Below.onto (unhide HB) hb3); clear hb3) | (refine (unhide E2 (.agg #[.int .i64 c.kind, .int .i64 c.id, .int .i64 c.txn, .bool c.com, .slice q c.ws.length cap, .string c.text]) W3 (cmv (unhide HW))).mono ?_; rintro e W4 ⟨rfl, hb4⟩; clear E2; have k_ := (unhide HC).below hb4; replace HC := hide k_; have y0_ := k_.cell 0; have y1_ := k_.cell 1; have y2_ := k_.cell 2; have y3_ := k_.cell 3; have y4_ := k_.cell 4; have y5_ := k_.cell 5; simp at y0_ y1_ y2_ y3_ y4_ y5_; clear k_; replace HW := hide ((unhide HW).below hb4); replace HB := hide (Below.onto (unhide HB) hb4); clear hb4 x0_ x1_ x2_ x3_ x4_ x5_)))
  rename_i hrest
  have hbd : Below W4.heap.size W4 W4.drew := (Below.refl _ _).drew
  replace HC := hide ((unhide HC).below hbd)
  replace HW := hide ((unhide HW).below hbd)
  replace HB := hide (Below.onto (unhide HB) hbd)
  clear y0_ y1_ y2_ y3_ y4_ y5_
  refine wp_region_noPanic ?_
  refine wp_region_held_drew (S := (fun X => Blk W2.heap.size #[.int .i64 c.kind, .int .i64 c.id, .int .i64 c.txn, .bool c.com, .slice q c.ws.length cap, .string c.text] 26 X)) (by kernel_rfl) (unhide HC) (fun hHeld => ?_)
  clear hbd
  generalize W4.drew = Wd at *
  refine wpAnyH_take (i := 0) (oi := ?oi20043) (v := ?v20043) ?hi20043 (by kernel_rfl) (by kernel_rfl) (by kernel_rfl) (fun _ _ _ h => h) (Or.inl ⟨?hw20043, ?hy20043⟩) (by assumption) ?rest20043
  case hi20043 => (simp only [List.getElem?_toArray, List.getElem?_cons_zero]; rfl)
  case hw20043 => rfl
  case hy20043 => first | (intro wx hSw; go_simp; done) | (intro wx hSw; go_simp; with_reducible rfl)
  simp only [Act.put, List.setIfInBounds_toArray, List.set_cons_zero, List.set_cons_succ]
  refine wpAnyH_take (i := 1) (oi := ?oi20044) (v := ?v20044) ?hi20044 (by kernel_rfl) (by kernel_rfl) (by kernel_rfl) (fun _ _ _ h => h) (Or.inl ⟨?hw20044, ?hy20044⟩) (by assumption) ?rest20044
  case hi20044 => (simp only [List.getElem?_toArray, List.getElem?_cons_zero, List.getElem?_cons_succ]; rfl)
  case hw20044 => rfl
  case hy20044 => first | (intro wx hSw; have q_ := Blk.cell hSw 1; simp at q_; go_simp; done) | (intro wx hSw; have q_ := Blk.cell hSw 1; simp at q_; go_simp; with_reducible rfl)
  simp only [Act.put, List.setIfInBounds_toArray, List.set_cons_zero, List.set_cons_succ]
  refine wpAnyH_take (i := 4) (oi := ?oi20045) (v := ?v20045) ?hi20045 (by kernel_rfl) (by kernel_rfl) (by kernel_rfl) (fun _ _ _ h => h) (Or.inl ⟨?hw20045, ?hy20045⟩) (by assumption) ?rest20045
  case hi20045 => (simp only [List.getElem?_toArray, List.getElem?_cons_zero, List.getElem?_cons_succ]; rfl)
  case hw20045 => rfl
  case hy20045 => first | (intro wx hSw; go_simp; done) | (intro wx hSw; go_simp; with_reducible rfl)
  simp only [Act.put, List.setIfInBounds_toArray, List.set_cons_zero, List.set_cons_succ]
  refine wpAnyH_take (i := 5) (oi := ?oi20046) (v := ?v20046) ?hi20046 (by kernel_rfl) (by kernel_rfl) (by kernel_rfl) (fun _ _ _ h => h) (Or.inl ⟨?hw20046, ?hy20046⟩) (by assumption) ?rest20046
  case hi20046 => (simp only [List.getElem?_toArray, List.getElem?_cons_zero, List.getElem?_cons_succ]; rfl)
  case hw20046 => rfl
  case hy20046 => first | (intro wx hSw; have q_ := Blk.cell hSw 2; simp at q_; go_simp; done) | (intro wx hSw; have q_ := Blk.cell hSw 2; simp at q_; go_simp; with_reducible rfl)
  simp only [Act.put, List.setIfInBounds_toArray, List.set_cons_zero, List.set_cons_succ]
  refine wpAnyH_take (i := 8) (oi := ?oi20047) (v := ?v20047) ?hi20047 (by kernel_rfl) (by kernel_rfl) (by kernel_rfl) (fun _ _ _ h => h) (Or.inl ⟨?hw20047, ?hy20047⟩) (by assumption) ?rest20047
  case hi20047 => (simp only [List.getElem?_toArray, List.getElem?_cons_zero, List.getElem?_cons_succ]; rfl)
  case hw20047 => rfl
  case hy20047 => first | (intro wx hSw; go_simp; done) | (intro wx hSw; go_simp; with_reducible rfl)
  simp only [Act.put, List.setIfInBounds_toArray, List.set_cons_zero, List.set_cons_succ]
  refine wpAnyH_take (i := 9) (oi := ?oi20048) (v := ?v20048) ?hi20048 (by kernel_rfl) (by kernel_rfl) (by kernel_rfl) (fun _ _ _ h => h) (Or.inl ⟨?hw20048, ?hy20048⟩) (by assumption) ?rest20048
  case hi20048 => (simp only [List.getElem?_toArray, List.getElem?_cons_zero, List.getElem?_cons_succ]; rfl)
  case hw20048 => rfl
  case hy20048 => first | (intro wx hSw; have q_ := Blk.cell hSw 4; simp at q_; go_simp; done) | (intro wx hSw; have q_ := Blk.cell hSw 4; simp at q_; go_simp; with_reducible rfl)
  simp only [Act.put, List.setIfInBounds_toArray, List.set_cons_zero, List.set_cons_succ]
  refine wpAnyH_take (i := 10) (oi := ?oi20049) (v := ?v20049) ?hi20049 (by kernel_rfl) (by kernel_rfl) (by kernel_rfl) (fun _ _ _ h => h) (Or.inl ⟨?hw20049, ?hy20049⟩) (by assumption) ?rest20049
  case hi20049 => (simp only [List.getElem?_toArray, List.getElem?_cons_zero, List.getElem?_cons_succ]; rfl)
  case hw20049 => rfl
  case hy20049 => first | (intro wx hSw; go_simp; done) | (intro wx hSw; go_simp; with_reducible rfl)
  simp only [Act.put, List.setIfInBounds_toArray, List.set_cons_zero, List.set_cons_succ]
  refine wpAnyH_take (i := 13) (oi := ?oi20050) (v := ?v20050) ?hi20050 (by kernel_rfl) (by kernel_rfl) (by kernel_rfl) (fun _ _ _ h => h) (Or.inl ⟨?hw20050, ?hy20050⟩) (by assumption) ?rest20050
  case hi20050 => (simp only [List.getElem?_toArray, List.getElem?_cons_zero, List.getElem?_cons_succ]; rfl)
  case hw20050 => rfl
  case hy20050 => first | (intro wx hSw; go_simp; done) | (intro wx hSw; go_simp; with_reducible rfl)
  simp only [Act.put, List.setIfInBounds_toArray, List.set_cons_zero, List.set_cons_succ]
  refine wpAnyH_take (i := 14) (oi := ?oi20051) (v := ?v20051) ?hi20051 (by kernel_rfl) (by kernel_rfl) (by kernel_rfl) (fun _ _ _ h => h) (Or.inl ⟨?hw20051, ?hy20051⟩) (by assumption) ?rest20051
  case hi20051 => (simp only [List.getElem?_toArray, List.getElem?_cons_zero, List.getElem?_cons_succ]; rfl)
  case hw20051 => rfl
  case hy20051 => first | (intro wx hSw; have q_ := Blk.cell hSw 5; simp at q_; go_simp; done) | (intro wx hSw; have q_ := Blk.cell hSw 5; simp at q_; go_simp; with_reducible rfl)
  simp only [Act.put, List.setIfInBounds_toArray, List.set_cons_zero, List.set_cons_succ]
  refine wpAnyH_take (i := 15) (oi := ?oi20052) (v := ?v20052) ?hi20052 (by kernel_rfl) (by kernel_rfl) (by kernel_rfl) (fun _ _ _ h => h) (Or.inl ⟨?hw20052, ?hy20052⟩) (by assumption) ?rest20052
  case hi20052 => (simp only [List.getElem?_toArray, List.getElem?_cons_zero, List.getElem?_cons_succ]; rfl)
  case hw20052 => rfl
  case hy20052 => first | (intro wx hSw; go_simp; done) | (intro wx hSw; go_simp; with_reducible rfl)
  simp only [Act.put, List.setIfInBounds_toArray, List.set_cons_zero, List.set_cons_succ]
  refine wpAnyH_ready (rs := [2]) (by kernel_rfl) (by simp) ?_
  refine AllReadyH.cons rfl (fun K20053 hK20053 => ?_) AllReadyH.nil
  go_simp
  go_wp2_with (go_at_call 23; refine (unhide FA _).mono ?_; rintro e X2 ⟨rfl, hX2⟩; replace hX2 := hX2.symm; subst hX2)
  refine hK20053.out _ _ ?hs20053 (fun hHeld20053 => ?_)
  case hs20053 => exact hHeld
  clear hHeld
  have hHeld := hHeld20053; clear hHeld20053 hK20053 K20053
  refine wpAnyH_take (i := 3) (oi := ?oi20054) (v := ?v20054) ?hi20054 (by kernel_rfl) (by kernel_rfl) (by kernel_rfl) (fun _ _ _ h => h) (Or.inl ⟨?hw20054, ?hy20054⟩) (by assumption) ?rest20054
  case hi20054 => (simp only [List.getElem?_toArray, List.getElem?_cons_zero, List.getElem?_cons_succ]; rfl)
  case hw20054 => rfl
  case hy20054 => first | (intro wx hSw; go_simp; done) | (intro wx hSw; go_simp; with_reducible rfl)
  simp only [Act.put, List.setIfInBounds_toArray, List.set_cons_zero, List.set_cons_succ]
  refine wpAnyH_ready (rs := [6]) (by kernel_rfl) (by simp) ?_
  refine AllReadyH.cons rfl (fun K20055 hK20055 => ?_) AllReadyH.nil
  go_simp
  go_wp2_with (go_at_call 23; refine (unhide FB _).mono ?_; rintro e X2 ⟨rfl, hX2⟩; replace hX2 := hX2.symm; subst hX2)
  refine hK20055.out _ _ ?hs20055 (fun hHeld20055 => ?_)
  case hs20055 => exact hHeld
  clear hHeld
  have hHeld := hHeld20055; clear hHeld20055 hK20055 K20055
  refine wpAnyH_take (i := 7) (oi := ?oi20056) (v := ?v20056) ?hi20056 (by kernel_rfl) (by kernel_rfl) (by kernel_rfl) (fun _ _ _ h => h) (Or.inl ⟨?hw20056, ?hy20056⟩) (by assumption) ?rest20056
  case hi20056 => (simp only [List.getElem?_toArray, List.getElem?_cons_zero, List.getElem?_cons_succ]; rfl)
  case hw20056 => rfl
  case hy20056 => first | (intro wx hSw; go_simp; done) | (intro wx hSw; go_simp; with_reducible rfl)
  simp only [Act.put, List.setIfInBounds_toArray, List.set_cons_zero, List.set_cons_succ]
  refine wpAnyH_ready (rs := [11]) (by kernel_rfl) (by simp) ?_
  refine AllReadyH.cons rfl (fun K20057 hK20057 => ?_) AllReadyH.nil
  go_simp
  go_wp2_with (go_at_call 23; refine (unhide FC _).mono ?_; rintro e X2 ⟨rfl, hX2⟩; replace hX2 := hX2.symm; subst hX2)
  refine hK20057.out _ _ ?hs20057 (fun hHeld20057 => ?_)
  case hs20057 => exact hHeld
  clear hHeld
  have hHeld := hHeld20057; clear hHeld20057 hK20057 K20057
  refine wpAnyH_take (i := 12) (oi := ?oi20058) (v := ?v20058) ?hi20058 (by kernel_rfl) (by kernel_rfl) (by kernel_rfl) (fun _ _ _ h => h) (Or.inl ⟨?hw20058, ?hy20058⟩) (by assumption) ?rest20058
  case hi20058 => (simp only [List.getElem?_toArray, List.getElem?_cons_zero, List.getElem?_cons_succ]; rfl)
  case hw20058 => rfl
  case hy20058 => first | (intro wx hSw; go_simp; done) | (intro wx hSw; go_simp; with_reducible rfl)
  simp only [Act.put, List.setIfInBounds_toArray, List.set_cons_zero, List.set_cons_succ]
  refine wpAnyH_take (i := 16) (oi := ?oi20059) (v := ?v20059) ?hi20059 (by kernel_rfl) (by kernel_rfl) (by kernel_rfl) (fun _ _ _ h => h) (Or.inl ⟨?hw20059, ?hy20059⟩) (by assumption) ?rest20059
  case hi20059 => (simp only [List.getElem?_toArray, List.getElem?_cons_zero, List.getElem?_cons_succ]; rfl)
  case hw20059 => rfl
  case hy20059 => first | (intro wx hSw; go_simp; done) | (intro wx hSw; go_simp; with_reducible rfl)
  simp only [Act.put, List.setIfInBounds_toArray, List.set_cons_zero, List.set_cons_succ]
  refine wpAnyH_ready (rs := [17]) (by kernel_rfl) (by simp) ?_
  refine AllReadyH.cons rfl (fun K20060 hK20060 => ?_) AllReadyH.nil
  go_simp
  refine hK20060.out _ _ ?hs20060 (fun hHeld20060 => ?_)
  case hs20060 => exact hHeld
  clear hHeld
  have hHeld := hHeld20060; clear hHeld20060 hK20060 K20060
  refine wpAnyH_ready (rs := [18]) (by kernel_rfl) (by simp) ?_
  refine AllReadyH.cons rfl (fun K20061 hK20061 => ?_) AllReadyH.nil
  go_simp
  refine hK20061.out _ _ ?hs20061 (fun hHeld20061 => ?_)
  case hs20061 => exact hHeld
  clear hHeld
  have hHeld := hHeld20061; clear hHeld20061 hK20061 K20061
  refine wpAnyH_done (by kernel_rfl) ?_ _
  refine NoPanic.normal ?_
  refine hrest _ _ ?_
  clear hHeld
  go_wp2
  have HZ2 := hide z2
  go_loopw [16, 17, 18] (fun a b i wr => ∃ k : Nat, k ≤ c.ws.length ∧ i = .int .i64 (k : Int) ∧ a = .int .i64 ((21 + ((c.ws.take k).flatMap wr1).length : Nat) : Int) ∧ b = .int .i64 ((4 + la + lb + lc + c.text.size + ((c.ws.take k).flatMap wr2).length : Nat) : Int) ∧ Hid (Blk W2.heap.size #[.int .i64 c.kind, .int .i64 c.id, .int .i64 c.txn, .bool c.com, .slice q c.ws.length cap, .string c.text] 26 wr) ∧ Hid (WsV q c.ws wr) ∧ Hid (Below w.heap.size w wr))
    (fun a b i wr => c.ws.length - (intOf i).toNat)
  case atStart => exact ⟨0, Nat.zero_le _, rfl, by simp, by simp only [List.take_zero, List.flatMap_nil, List.length_nil]; congr 1, HC, HW, HB⟩
  case round =>
    clear HC HW HB
    obtain ⟨k, hk, rfl, rfl, rfl, HC, HW, HB⟩ := hrel
    have y4_ := (unhide HC).cell 4
    have yl_ := (unhide HC).lt
    simp at y4_
    by_cases hlt : k < c.ws.length
    · obtain ⟨g, o2, hp, hat⟩ := unhide HW
      obtain rfl := hp (by omega)
      obtain ⟨⟨e0_, e1_, e2_⟩, _⟩ := hat k hlt
      have hwk : IntKind.i64.wrap ((k : Int) * 3) = (k : Int) * 3 := IntWalk.i64_in _ (by omega)
      have f1 := flat_take wr1 c.ws k hlt
      have f2 := flat_take wr2 c.ws k hlt
      have t1 := flat_len wr1 c.ws k hlt
      have t2 := flat_len wr2 c.ws k hlt
      have hw := unhide HWS c.ws[k] (List.getElem_mem hlt)
      replace f1 := congrArg List.length f1
      replace f2 := congrArg List.length f2
      rw [List.length_append, wr1_is] at f1
      rw [List.length_append, wr2_is] at f2
      rw [wr1_is] at t1
      rw [wr2_is] at t2
      have FK := hide (fun W => free7_any c.ws[k].k.size (by omega) W)
      have FV := hide (fun W => free7_any c.ws[k].v.size (by omega) W)
      clear hp hat
      obtain ⟨kk, hkk⟩ : ∃ x, c.ws[k].k = x := ⟨_, rfl⟩
      obtain ⟨vv, hvv⟩ : ∃ x, c.ws[k].v = x := ⟨_, rfl⟩
      obtain ⟨gg, hgg⟩ : ∃ x, c.ws[k].g = x := ⟨_, rfl⟩
      rw [hkk] at e0_ f1 f2 t1 t2 FK hw
      rw [hvv] at e1_ f1 f2 t1 t2 FV hw
      rw [hgg] at e2_ f2 t2 hw
      obtain ⟨A1, hA1⟩ : ∃ x, ((c.ws.take k).flatMap wr1).length = x := ⟨_, rfl⟩
      obtain ⟨A2, hA2⟩ : ∃ x, ((c.ws.take k).flatMap wr2).length = x := ⟨_, rfl⟩
      rw [hA1] at f1 t1 ⊢
      rw [hA2] at f2 t2 ⊢
      have HF1 := hide f1
      have HF2 := hide f2
      obtain ⟨lk, hlk⟩ : ∃ n, (sh kk.size).length = n := ⟨_, rfl⟩
      obtain ⟨lv, hlv⟩ : ∃ n, (sh vv.size).length = n := ⟨_, rfl⟩
      rw [hlk] at FK HF2 t2
      rw [hlv] at FV HF2 t2
      have t2b : lk ≤ 8005000 ∧ A2 + lk + kk.size ≤ 10000000 ∧ lv ≤ 9 := by
        have := sh_len9 kk.size (by omega)
        have h9 := sh_len9 vv.size (by omega)
        have hz := unhide HZ2
        refine ⟨by omega, by omega, by omega⟩
      obtain ⟨t2b1, t2b2, t2b3⟩ := t2b
      clear hkk hvv hgg hA1 hA2 hlk hlv f1 f2 z2
      have w1 : IntKind.i64.wrap (((21 + A1 : Nat) : Int) + 5) = ((21 + A1 + 5 : Nat) : Int) := (IntWalk.i64_in _ (by omega)).trans (by omega)
      obtain ⟨B2, hB2⟩ : ∃ x, 4 + la + lb + lc + c.text.size + A2 = x := ⟨_, rfl⟩
      rw [hB2]
      have hB2s : B2 ≤ 20000000 := by omega
      have HB2 := hide hB2
      clear hB2
      have w2 : IntKind.i64.wrap ((B2 : Int) + 1) = (B2 : Int) + 1 := IntWalk.i64_in _ (by omega)
      have w3 : IntKind.i64.wrap ((B2 : Int) + 1 + (lk : Int)) = (B2 : Int) + 1 + (lk : Int) := IntWalk.i64_in _ (by omega)
      have w4 : IntKind.i64.wrap ((B2 : Int) + 1 + (lk : Int) + (kk.size : Int)) = (B2 : Int) + 1 + (lk : Int) + (kk.size : Int) := IntWalk.i64_in _ (by omega)
      have w5 : IntKind.i64.wrap ((B2 : Int) + 1 + (lk : Int) + (kk.size : Int) + (lv : Int)) = (B2 : Int) + 1 + (lk : Int) + (kk.size : Int) + (lv : Int) := IntWalk.i64_in _ (by omega)
      have w6 : IntKind.i64.wrap ((B2 : Int) + 1 + (lk : Int) + (kk.size : Int) + (lv : Int) + (vv.size : Int)) = (B2 : Int) + 1 + (lk : Int) + (kk.size : Int) + (lv : Int) + (vv.size : Int) := IntWalk.i64_in _ (by omega)
      have hA1b : A1 ≤ 8005000 := by omega
      have hkb : kk.size ≤ 300 := by omega
      have hvb : vv.size ≤ 4000 := by omega
      have HTT := hide (And.intro t1 (And.intro t2 hw))
      clear t1 t2 hw
      go_wp2
      rename_i Kl hloop Kn hrest
      have hbw := below_new wr (.cells #[.string kk, .string vv, .bool gg] 40)
      have hbd : Below (wr.alloc (.cells #[.string kk, .string vv, .bool gg] 40)).heap.size (wr.alloc (.cells #[.string kk, .string vv, .bool gg] 40)) (wr.alloc (.cells #[.string kk, .string vv, .bool gg] 40)).drew := (Below.refl _ _).drew
      have hbn := Below.onto hbw hbd
      replace HC := hide ((unhide HC).below hbn)
      replace HW := hide ((unhide HW).below hbn)
      replace HB := hide (Below.onto (unhide HB) hbn)
      have HV := hide ((Blk.new wr #[.string kk, .string vv, .bool gg] 40).below hbd)
      refine wp_region_noPanic ?_
      refine wp_region_held_drew (S := (fun X => Blk wr.heap.size #[.string kk, .string vv, .bool gg] 40 X)) (by kernel_rfl) (unhide HV) (fun hHeld => ?_)
      clear hbw hbd hbn
      generalize (wr.alloc (.cells #[.string kk, .string vv, .bool gg] 40)).drew = Wd at *
      clear y4_ yl_ e0_ e1_ e2_
      refine wpAnyH_take (i := 0) (oi := ?oi20062) (v := ?v20062) ?hi20062 (by kernel_rfl) (by kernel_rfl) (by kernel_rfl) (fun _ _ _ h => h) (Or.inl ⟨?hw20062, ?hy20062⟩) (by assumption) ?rest20062
      case hi20062 => (simp only [List.getElem?_toArray, List.getElem?_cons_zero]; rfl)
      case hw20062 => rfl
      case hy20062 => first | (intro wx hSw; go_simp; done) | (intro wx hSw; go_simp; with_reducible rfl)
      simp only [Act.put, List.setIfInBounds_toArray, List.set_cons_zero, List.set_cons_succ]
      refine wpAnyH_take (i := 1) (oi := ?oi20063) (v := ?v20063) ?hi20063 (by kernel_rfl) (by kernel_rfl) (by kernel_rfl) (fun _ _ _ h => h) (Or.inl ⟨?hw20063, ?hy20063⟩) (by assumption) ?rest20063
      case hi20063 => (simp only [List.getElem?_toArray, List.getElem?_cons_zero, List.getElem?_cons_succ]; rfl)
      case hw20063 => rfl
      case hy20063 => first | (intro wx hSw; go_simp; done) | (intro wx hSw; go_simp; with_reducible rfl)
      simp only [Act.put, List.setIfInBounds_toArray, List.set_cons_zero, List.set_cons_succ]
      refine wpAnyH_take (i := 2) (oi := ?oi20064) (v := ?v20064) ?hi20064 (by kernel_rfl) (by kernel_rfl) (by kernel_rfl) (fun _ _ _ h => h) (Or.inl ⟨?hw20064, ?hy20064⟩) (by assumption) ?rest20064
      case hi20064 => (simp only [List.getElem?_toArray, List.getElem?_cons_zero, List.getElem?_cons_succ]; rfl)
      case hw20064 => rfl
      case hy20064 => first | (intro wx hSw; go_simp; done) | (intro wx hSw; go_simp; with_reducible rfl)
      simp only [Act.put, List.setIfInBounds_toArray, List.set_cons_zero, List.set_cons_succ]
      refine wpAnyH_take (i := 3) (oi := ?oi20065) (v := ?v20065) ?hi20065 (by kernel_rfl) (by kernel_rfl) (by kernel_rfl) (fun _ _ _ h => h) (Or.inl ⟨?hw20065, ?hy20065⟩) (by assumption) ?rest20065
      case hi20065 => (simp only [List.getElem?_toArray, List.getElem?_cons_zero, List.getElem?_cons_succ]; rfl)
      case hw20065 => rfl
      case hy20065 => first | (intro wx hSw; have q_ := Blk.cell hSw 0; simp at q_; go_simp; done) | (intro wx hSw; have q_ := Blk.cell hSw 0; simp at q_; go_simp; with_reducible rfl)
      simp only [Act.put, List.setIfInBounds_toArray, List.set_cons_zero, List.set_cons_succ]
      refine wpAnyH_take (i := 4) (oi := ?oi20066) (v := ?v20066) ?hi20066 (by kernel_rfl) (by kernel_rfl) (by kernel_rfl) (fun _ _ _ h => h) (Or.inl ⟨?hw20066, ?hy20066⟩) (by assumption) ?rest20066
      case hi20066 => (simp only [List.getElem?_toArray, List.getElem?_cons_zero, List.getElem?_cons_succ]; rfl)
      case hw20066 => rfl
      case hy20066 => first | (intro wx hSw; go_simp; done) | (intro wx hSw; go_simp; with_reducible rfl)
      simp only [Act.put, List.setIfInBounds_toArray, List.set_cons_zero, List.set_cons_succ]
      refine wpAnyH_take (i := 7) (oi := ?oi20067) (v := ?v20067) ?hi20067 (by kernel_rfl) (by kernel_rfl) (by kernel_rfl) (fun _ _ _ h => h) (Or.inl ⟨?hw20067, ?hy20067⟩) (by assumption) ?rest20067
      case hi20067 => (simp only [List.getElem?_toArray, List.getElem?_cons_zero, List.getElem?_cons_succ]; rfl)
      case hw20067 => rfl
      case hy20067 => first | (intro wx hSw; go_simp; done) | (intro wx hSw; go_simp; with_reducible rfl)
      simp only [Act.put, List.setIfInBounds_toArray, List.set_cons_zero, List.set_cons_succ]
      refine wpAnyH_take (i := 8) (oi := ?oi20068) (v := ?v20068) ?hi20068 (by kernel_rfl) (by kernel_rfl) (by kernel_rfl) (fun _ _ _ h => h) (Or.inl ⟨?hw20068, ?hy20068⟩) (by assumption) ?rest20068
      case hi20068 => (simp only [List.getElem?_toArray, List.getElem?_cons_zero, List.getElem?_cons_succ]; rfl)
      case hw20068 => rfl
      case hy20068 => first | (intro wx hSw; have q_ := Blk.cell hSw 0; simp at q_; go_simp; done) | (intro wx hSw; have q_ := Blk.cell hSw 0; simp at q_; go_simp; with_reducible rfl)
      simp only [Act.put, List.setIfInBounds_toArray, List.set_cons_zero, List.set_cons_succ]
      refine wpAnyH_take (i := 9) (oi := ?oi20069) (v := ?v20069) ?hi20069 (by kernel_rfl) (by kernel_rfl) (by kernel_rfl) (fun _ _ _ h => h) (Or.inl ⟨?hw20069, ?hy20069⟩) (by assumption) ?rest20069
      case hi20069 => (simp only [List.getElem?_toArray, List.getElem?_cons_zero, List.getElem?_cons_succ]; rfl)
      case hw20069 => rfl
      case hy20069 => first | (intro wx hSw; go_simp; done) | (intro wx hSw; go_simp; with_reducible rfl)
      simp only [Act.put, List.setIfInBounds_toArray, List.set_cons_zero, List.set_cons_succ]
      refine wpAnyH_ready (rs := [5]) (by kernel_rfl) (by simp) ?_
      refine AllReadyH.cons rfl (fun K20070 hK20070 => ?_) AllReadyH.nil
      go_simp
      go_wp2_with (go_at_call 23; refine (unhide FK _).mono ?_; rintro e X2 ⟨rfl, hX2⟩; replace hX2 := hX2.symm; subst hX2)
      refine hK20070.out _ _ ?hs20070 (fun hHeld20070 => ?_)
      case hs20070 => exact hHeld
      clear hHeld
      have hHeld := hHeld20070; clear hHeld20070 hK20070 K20070
      refine wpAnyH_take (i := 6) (oi := ?oi20071) (v := ?v20071) ?hi20071 (by kernel_rfl) (by kernel_rfl) (by kernel_rfl) (fun _ _ _ h => h) (Or.inl ⟨?hw20071, ?hy20071⟩) (by assumption) ?rest20071
      case hi20071 => (simp only [List.getElem?_toArray, List.getElem?_cons_zero, List.getElem?_cons_succ]; rfl)
      case hw20071 => rfl
      case hy20071 => first | (intro wx hSw; go_simp; done) | (intro wx hSw; go_simp; with_reducible rfl)
      simp only [Act.put, List.setIfInBounds_toArray, List.set_cons_zero, List.set_cons_succ]
      refine wpAnyH_take (i := 10) (oi := ?oi20072) (v := ?v20072) ?hi20072 (by kernel_rfl) (by kernel_rfl) (by kernel_rfl) (fun _ _ _ h => h) (Or.inl ⟨?hw20072, ?hy20072⟩) (by assumption) ?rest20072
      case hi20072 => (simp only [List.getElem?_toArray, List.getElem?_cons_zero, List.getElem?_cons_succ]; rfl)
      case hw20072 => rfl
      case hy20072 => first | (intro wx hSw; go_simp; done) | (intro wx hSw; go_simp; with_reducible rfl)
      simp only [Act.put, List.setIfInBounds_toArray, List.set_cons_zero, List.set_cons_succ]
      refine wpAnyH_ready (rs := [11]) (by kernel_rfl) (by simp) ?_
      refine AllReadyH.cons rfl (fun K20073 hK20073 => ?_) AllReadyH.nil
      go_simp
      refine hK20073.out _ _ ?hs20073 (fun hHeld20073 => ?_)
      case hs20073 => exact hHeld
      clear hHeld
      have hHeld := hHeld20073; clear hHeld20073 hK20073 K20073
      refine wpAnyH_done (by kernel_rfl) ?_ _
      refine NoPanic.normal ?_
      refine hrest _ _ ?_
      clear hHeld
      have v2_ := (unhide HV).cell 2
      simp at v2_
      cases gg
      · go_wp2
        have hbd : Below Wd.heap.size Wd Wd.drew := (Below.refl _ _).drew
        replace HC := hide ((unhide HC).below hbd)
        replace HW := hide ((unhide HW).below hbd)
        replace HB := hide (Below.onto (unhide HB) hbd)
        replace HV := hide ((unhide HV).below hbd)
        refine wp_region_noPanic ?_
        refine wp_region_held_drew (S := (fun X => Blk wr.heap.size #[.string kk, .string vv, .bool false] 40 X)) (by kernel_rfl) (unhide HV) (fun hHeld => ?_)
        clear hbd
        generalize Wd.drew = We at *
        clear v2_
        refine wpAnyH_take (i := 0) (oi := ?oi20074) (v := ?v20074) ?hi20074 (by kernel_rfl) (by kernel_rfl) (by kernel_rfl) (fun _ _ _ h => h) (Or.inl ⟨?hw20074, ?hy20074⟩) (by assumption) ?rest20074
        case hi20074 => (simp only [List.getElem?_toArray, List.getElem?_cons_zero]; rfl)
        case hw20074 => rfl
        case hy20074 => first | (intro wx hSw; go_simp; done) | (intro wx hSw; go_simp; with_reducible rfl)
        simp only [Act.put, List.setIfInBounds_toArray, List.set_cons_zero, List.set_cons_succ]
        refine wpAnyH_take (i := 1) (oi := ?oi20075) (v := ?v20075) ?hi20075 (by kernel_rfl) (by kernel_rfl) (by kernel_rfl) (fun _ _ _ h => h) (Or.inl ⟨?hw20075, ?hy20075⟩) (by assumption) ?rest20075
        case hi20075 => (simp only [List.getElem?_toArray, List.getElem?_cons_zero, List.getElem?_cons_succ]; rfl)
        case hw20075 => rfl
        case hy20075 => first | (intro wx hSw; go_simp; done) | (intro wx hSw; go_simp; with_reducible rfl)
        simp only [Act.put, List.setIfInBounds_toArray, List.set_cons_zero, List.set_cons_succ]
        refine wpAnyH_take (i := 2) (oi := ?oi20076) (v := ?v20076) ?hi20076 (by kernel_rfl) (by kernel_rfl) (by kernel_rfl) (fun _ _ _ h => h) (Or.inl ⟨?hw20076, ?hy20076⟩) (by assumption) ?rest20076
        case hi20076 => (simp only [List.getElem?_toArray, List.getElem?_cons_zero, List.getElem?_cons_succ]; rfl)
        case hw20076 => rfl
        case hy20076 => first | (intro wx hSw; have q_ := Blk.cell hSw 1; simp at q_; go_simp; done) | (intro wx hSw; have q_ := Blk.cell hSw 1; simp at q_; go_simp; with_reducible rfl)
        simp only [Act.put, List.setIfInBounds_toArray, List.set_cons_zero, List.set_cons_succ]
        refine wpAnyH_take (i := 3) (oi := ?oi20077) (v := ?v20077) ?hi20077 (by kernel_rfl) (by kernel_rfl) (by kernel_rfl) (fun _ _ _ h => h) (Or.inl ⟨?hw20077, ?hy20077⟩) (by assumption) ?rest20077
        case hi20077 => (simp only [List.getElem?_toArray, List.getElem?_cons_zero, List.getElem?_cons_succ]; rfl)
        case hw20077 => rfl
        case hy20077 => first | (intro wx hSw; go_simp; done) | (intro wx hSw; go_simp; with_reducible rfl)
        simp only [Act.put, List.setIfInBounds_toArray, List.set_cons_zero, List.set_cons_succ]
        refine wpAnyH_take (i := 6) (oi := ?oi20078) (v := ?v20078) ?hi20078 (by kernel_rfl) (by kernel_rfl) (by kernel_rfl) (fun _ _ _ h => h) (Or.inl ⟨?hw20078, ?hy20078⟩) (by assumption) ?rest20078
        case hi20078 => (simp only [List.getElem?_toArray, List.getElem?_cons_zero, List.getElem?_cons_succ]; rfl)
        case hw20078 => rfl
        case hy20078 => first | (intro wx hSw; go_simp; done) | (intro wx hSw; go_simp; with_reducible rfl)
        simp only [Act.put, List.setIfInBounds_toArray, List.set_cons_zero, List.set_cons_succ]
        refine wpAnyH_take (i := 7) (oi := ?oi20079) (v := ?v20079) ?hi20079 (by kernel_rfl) (by kernel_rfl) (by kernel_rfl) (fun _ _ _ h => h) (Or.inl ⟨?hw20079, ?hy20079⟩) (by assumption) ?rest20079
        case hi20079 => (simp only [List.getElem?_toArray, List.getElem?_cons_zero, List.getElem?_cons_succ]; rfl)
        case hw20079 => rfl
        case hy20079 => first | (intro wx hSw; have q_ := Blk.cell hSw 1; simp at q_; go_simp; done) | (intro wx hSw; have q_ := Blk.cell hSw 1; simp at q_; go_simp; with_reducible rfl)
        simp only [Act.put, List.setIfInBounds_toArray, List.set_cons_zero, List.set_cons_succ]
        refine wpAnyH_take (i := 8) (oi := ?oi20080) (v := ?v20080) ?hi20080 (by kernel_rfl) (by kernel_rfl) (by kernel_rfl) (fun _ _ _ h => h) (Or.inl ⟨?hw20080, ?hy20080⟩) (by assumption) ?rest20080
        case hi20080 => (simp only [List.getElem?_toArray, List.getElem?_cons_zero, List.getElem?_cons_succ]; rfl)
        case hw20080 => rfl
        case hy20080 => first | (intro wx hSw; go_simp; done) | (intro wx hSw; go_simp; with_reducible rfl)
        simp only [Act.put, List.setIfInBounds_toArray, List.set_cons_zero, List.set_cons_succ]
        refine wpAnyH_ready (rs := [4]) (by kernel_rfl) (by simp) ?_
        refine AllReadyH.cons rfl (fun K20081 hK20081 => ?_) AllReadyH.nil
        go_simp
        go_wp2_with (go_at_call 23; refine (unhide FV _).mono ?_; rintro e X2 ⟨rfl, hX2⟩; replace hX2 := hX2.symm; subst hX2)
        refine hK20081.out _ _ ?hs20081 (fun hHeld20081 => ?_)
        case hs20081 => exact hHeld
        clear hHeld
        have hHeld := hHeld20081; clear hHeld20081 hK20081 K20081
        refine wpAnyH_take (i := 5) (oi := ?oi20082) (v := ?v20082) ?hi20082 (by kernel_rfl) (by kernel_rfl) (by kernel_rfl) (fun _ _ _ h => h) (Or.inl ⟨?hw20082, ?hy20082⟩) (by assumption) ?rest20082
        case hi20082 => (simp only [List.getElem?_toArray, List.getElem?_cons_zero, List.getElem?_cons_succ]; rfl)
        case hw20082 => rfl
        case hy20082 => first | (intro wx hSw; go_simp; done) | (intro wx hSw; go_simp; with_reducible rfl)
        simp only [Act.put, List.setIfInBounds_toArray, List.set_cons_zero, List.set_cons_succ]
        refine wpAnyH_take (i := 9) (oi := ?oi20083) (v := ?v20083) ?hi20083 (by kernel_rfl) (by kernel_rfl) (by kernel_rfl) (fun _ _ _ h => h) (Or.inl ⟨?hw20083, ?hy20083⟩) (by assumption) ?rest20083
        case hi20083 => (simp only [List.getElem?_toArray, List.getElem?_cons_zero, List.getElem?_cons_succ]; rfl)
        case hw20083 => rfl
        case hy20083 => first | (intro wx hSw; go_simp; done) | (intro wx hSw; go_simp; with_reducible rfl)
        simp only [Act.put, List.setIfInBounds_toArray, List.set_cons_zero, List.set_cons_succ]
        refine wpAnyH_ready (rs := [10]) (by kernel_rfl) (by simp) ?_
        refine AllReadyH.cons rfl (fun K20084 hK20084 => ?_) AllReadyH.nil
        go_simp
        refine hK20084.out _ _ ?hs20084 (fun hHeld20084 => ?_)
        case hs20084 => exact hHeld
        clear hHeld
        have hHeld := hHeld20084; clear hHeld20084 hK20084 K20084
        refine wpAnyH_done (by kernel_rfl) ?_ _
        refine NoPanic.normal ?_
        simp only [Exit.inBlock, Exit.then]
        refine hloop _ _ ?_
        clear hHeld
        go_wp2
        go_roundw
        case rel =>
          refine ⟨k + 1, by omega, by go_num, ?_, ?_, HC, HW, HB⟩
          · congr 1; have := unhide HF1; omega
          · congr 1; have := unhide HF2; have h8 := unhide HB2; simp only [if_true, Bool.false_eq_true, if_false] at this; omega
        case measure => simp [intOf] <;> omega
      · go_wp2
        go_roundw
        case rel =>
          refine ⟨k + 1, by omega, by go_num, ?_, ?_, HC, HW, HB⟩
          · congr 1; have := unhide HF1; omega
          · congr 1; have := unhide HF2; have h8 := unhide HB2; simp only [if_true, Bool.false_eq_true, if_false] at this; omega
        case measure => simp [intOf] <;> omega
    · obtain rfl : k = c.ws.length := by omega
      rw [List.take_length]
      have hz : (s2.size : Int) = ((4 + la + lb + lc + c.text.size + (c.ws.flatMap wr2).length : Nat) : Int) := by have := unhide HZ2; omega
      have hz1 : (s1.size : Int) = ((21 + (c.ws.flatMap wr1).length : Nat) : Int) := by omega
      go_wp2
      go_ret
      exact ⟨rfl, unhide HB⟩
set_option maxHeartbeats 1000000 in
theorem cmdSizes_long (a0 a1 a2 : Int) (v : Value) (s : ByteArray) (w : World) (hs : (100 : Int) < s.size) :
    Calls Try.prog 8 #[.int .i64 a0, .int .i64 a1, .int .i64 a2, v, .string s] w fun e w' => e = .returned (.bool true) ∧ Below w.heap.size w w' := by
  go_enter Try.func8, Try.ntmps8
  go_wp2_with (go_at_call 13; refine (known7_any _).mono ?_; rintro e W1 ⟨rfl, hb1⟩)
  go_ret
  exact ⟨rfl, hb1⟩
theorem cmdSizes_walk (a0 a1 a2 : Int) (v3 : Value) (a3 : List Int) (a4 : ByteArray) (k0 : Is64 a0) (k1 : Is64 a1) (k2 : Is64 a2) (w : World) (w3 : Ints v3 a3 w) :
    Calls Try.prog 8 #[.int .i64 a0, .int .i64 a1, .int .i64 a2, v3, .string a4] w fun e w' => e = .returned (.bool true) ∧ Below w.heap.size w w' := by
  by_cases hs : a4.size ≤ 100
  · have MK := hide (mk7_of a0 a1 a2 v3 a3 a4 w k0 k1 k2 w3 (by omega))
    have g := mkC_good a0 a1 a2 a3 a4 (by omega)
    by_cases h5 : (mkC a0 a1 a2 a3 a4).kind = 5
    · exact cmdSizes_five a0 a1 a2 v3 a4 w _ g hs MK h5
    · exact cmdSizes_other a0 a1 a2 v3 a4 w _ g hs MK h5
  · exact cmdSizes_long a0 a1 a2 v3 a4 w (by omega)
end Go.Proofs.Ytjmmfgmmmdbenaa
