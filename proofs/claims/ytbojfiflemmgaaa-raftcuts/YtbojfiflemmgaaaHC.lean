/-
  Package raft's Handle of a message that can come.
-/
import Derived.Test.YtbojfiflemmgaaaHB
namespace Go.Proofs.Ytbojfiflemmgaaa
open Go.RowKit
set_option linter.unusedSimpArgs false
set_option linter.unusedVariables false

theorem Keep.pre' {W0 W W' : World} {F F' : Nat → Prop} (h : Keep W W' F F') (hb : Below W0.heap.size W0 W) : Keep W0 W' F F' := (Keep.call F hb).trans h
theorem foot_of {B b : Nat} {q : Q5} (hF : ∀ k, Foot5 q k → B ≤ k) (hb : B ≤ b) : ∀ k, Foot b q (.slice none 0 0) k → B ≤ k := by
  rintro k (rfl | hk | hk)
  · exact hb
  · exact hF k hk
  · cases hk
set_option maxRecDepth 100000 in
set_option maxHeartbeats 8000000 in
theorem handleC_any (q0 : Q5) (n : Nd) (m : Ms) (p : Option Addr) (c : Nat) (W : World) (n' : Nd) (ms : List Ms) (h : SeesN q0 n W) (f : Fit n)
    (TK : ∀ b q W1, St b q (.slice none 0 0) n [] W1 → Calls Try.prog 30 #[ptr b 0, .agg (msA m (.slice p m.ents.length c))] W1 fun e W' => e = .returned (.bool true) ∧ Below W1.heap.size W1 W')
    (HD : ∀ b q W1, St b q (.slice none 0 0) n [] W1 → Below W.heap.size W W1 → (∀ k, Foot b q (.slice none 0 0) k → W.heap.size ≤ k) → Calls Try.prog 31 #[ptr b 0, .agg (msA m (.slice p m.ents.length c))] W1 fun e W' => (∃ v, e = .returned v) ∧ Done b n' [] ms (Foot b q (.slice none 0 0)) W1 W') :
    Calls Try.prog 16 #[.agg (ndA n q0), .agg (msA m (.slice p m.ents.length c))] W fun e W' => ∃ q sv es, e = .returned (.tuple #[.agg (ndA n' q), sv]) ∧ Out n' ms q sv es W W' := by
  replace TK := hide TK
  replace HD := hide HD
  have hq0 := h
  obtain ⟨lv0, vv0, nv0, mv0, fv0⟩ := q0
  obtain ⟨pa, ca, rfl, _⟩ := h.log
  obtain ⟨pb, cb, rfl, _⟩ := h.votes
  obtain ⟨pc, cc, rfl, _⟩ := h.next
  obtain ⟨pd, cd, rfl, _⟩ := h.mat
  obtain ⟨pe, ce, rfl, _⟩ := h.forms
  have HB0 := hide ((((Below.refl _ W).alloc (Nat.le_refl _) (.cells (ndA n ⟨.slice pa n.log.length ca, .slice pb n.votes.length cb, .slice pc n.next.length cc, .slice pd n.mat.length cd, .slice pe n.forms.length ce⟩) 32)).alloc (by simp) (.cells (msA m (.slice p m.ents.length c)) 37)).alloc (by simp; omega) (.cells #[.int .i64 0, .int .i64 0, .int .i64 0, .slice none 0 0, .int .i64 0, .int .i64 0, .int .i64 0, .slice none 0 0, .slice none 0 0, .slice none 0 0, .slice none 0 0, .int .i64 0, .int .i64 0] 32))
  have Z0 : Hid (Blk (W.heap.size + 2) #[.int .i64 0, .int .i64 0, .int .i64 0, .slice none 0 0, .int .i64 0, .int .i64 0, .int .i64 0, .slice none 0 0, .slice none 0 0, .slice none 0 0, .slice none 0 0, .int .i64 0, .int .i64 0] 32 (((W.alloc (.cells (ndA n ⟨.slice pa n.log.length ca, .slice pb n.votes.length cb, .slice pc n.next.length cc, .slice pd n.mat.length cd, .slice pe n.forms.length ce⟩) 32)).alloc (.cells (msA m (.slice p m.ents.length c)) 37)).alloc (.cells #[.int .i64 0, .int .i64 0, .int .i64 0, .slice none 0 0, .int .i64 0, .int .i64 0, .int .i64 0, .slice none 0 0, .slice none 0 0, .slice none 0 0, .slice none 0 0, .int .i64 0, .int .i64 0] 32))) := by
    have := Blk.new ((W.alloc (.cells (ndA n ⟨.slice pa n.log.length ca, .slice pb n.votes.length cb, .slice pc n.next.length cc, .slice pd n.mat.length cd, .slice pe n.forms.length ce⟩) 32)).alloc (.cells (msA m (.slice p m.ents.length c)) 37)) #[.int .i64 0, .int .i64 0, .int .i64 0, .slice none 0 0, .int .i64 0, .int .i64 0, .int .i64 0, .slice none 0 0, .slice none 0 0, .slice none 0 0, .slice none 0 0, .int .i64 0, .int .i64 0] 32
    simp only [World.size_alloc] at this
    exact this
  have MB : Hid (Blk (W.heap.size + 1) (msA m (.slice p m.ents.length c)) 37 (((W.alloc (.cells (ndA n ⟨.slice pa n.log.length ca, .slice pb n.votes.length cb, .slice pc n.next.length cc, .slice pd n.mat.length cd, .slice pe n.forms.length ce⟩) 32)).alloc (.cells (msA m (.slice p m.ents.length c)) 37)).alloc (.cells #[.int .i64 0, .int .i64 0, .int .i64 0, .slice none 0 0, .int .i64 0, .int .i64 0, .int .i64 0, .slice none 0 0, .slice none 0 0, .slice none 0 0, .slice none 0 0, .int .i64 0, .int .i64 0] 32))) := by
    have := Blk.new (W.alloc (.cells (ndA n ⟨.slice pa n.log.length ca, .slice pb n.votes.length cb, .slice pc n.next.length cc, .slice pd n.mat.length cd, .slice pe n.forms.length ce⟩) 32)) (msA m (.slice p m.ents.length c)) 37
    simp only [World.size_alloc] at this
    exact this.below (below_new _ _)
  have WK := hide (working_any ⟨.slice pa n.log.length ca, .slice pb n.votes.length cb, .slice pc n.next.length cc, .slice pd n.mat.length cd, .slice pe n.forms.length ce⟩ n _ (hq0.log.below (unhide HB0) |> fun a => ⟨a, hq0.votes.below (unhide HB0), hq0.next.below (unhide HB0), hq0.mat.below (unhide HB0), hq0.forms.below (unhide HB0)⟩) f)
  have hzz : Hid ((((W.alloc (.cells (ndA n ⟨.slice pa n.log.length ca, .slice pb n.votes.length cb, .slice pc n.next.length cc, .slice pd n.mat.length cd, .slice pe n.forms.length ce⟩) 32)).alloc (.cells (msA m (.slice p m.ents.length c)) 37)).alloc (.cells #[.int .i64 0, .int .i64 0, .int .i64 0, .slice none 0 0, .int .i64 0, .int .i64 0, .int .i64 0, .slice none 0 0, .slice none 0 0, .slice none 0 0, .slice none 0 0, .int .i64 0, .int .i64 0] 32)).heap.size = W.heap.size + 3) := hide (by simp)
  clear h hq0 f
  go_enter Try.func16, Try.ntmps16
  go_wp2_with (first
    | (go_at_call 29; refine (unhide WK).mono ?_; rintro e W1 ⟨q, rfl, hR, hF, hc⟩; have HR := hide hR; have HC := hide hc; have HFN := hide hF; obtain ⟨⟨g1, y1, j1⟩, ⟨g2, y2, j2⟩, ⟨g3, y3, j3⟩, ⟨g4, y4, j4⟩, ⟨g5, y5, j5⟩⟩ := rows_slices hR; obtain ⟨lq, vq, nq, mq, fq⟩ := q; simp only at j1 j2 j3 j4 j5; subst j1 j2 j3 j4 j5; have MB1 := (unhide MB).below hc; have ml1_ := MB1.lt; have d0_ := MB1.cell 0; have d1_ := MB1.cell 1; have d2_ := MB1.cell 2; have d3_ := MB1.cell 3; have d4_ := MB1.cell 4; have d5_ := MB1.cell 5; have d6_ := MB1.cell 6; have d7_ := MB1.cell 7; have d8_ := MB1.cell 8; have d9_ := MB1.cell 9; simp at d0_ d1_ d2_ d3_ d4_ d5_ d6_ d7_ d8_ d9_; clear hR hF hc)
    | (go_at_call 30; refine (unhide TK _ _ _ (st_new (unhide HR))).mono ?_; rintro e Wt ⟨rfl, hbt⟩; have HBT := hide hbt; have MB2 := (MB1.below (below_new W1 _)).below hbt; have ml2_ := MB2.lt; have e0_ := MB2.cell 0; have e1_ := MB2.cell 1; have e2_ := MB2.cell 2; have e3_ := MB2.cell 3; have e4_ := MB2.cell 4; have e5_ := MB2.cell 5; have e6_ := MB2.cell 6; have e7_ := MB2.cell 7; have e8_ := MB2.cell 8; have e9_ := MB2.cell 9; simp at e0_ e1_ e2_ e3_ e4_ e5_ e6_ e7_ e8_ e9_; have HH := hide ((unhide HD) _ _ _ ((st_new (unhide HR)).call hbt) (Below.onto ((unhide HB0).trans ((unhide HC).mono (unhide HB0).size)) (Below.onto (below_new W1 _) hbt)) (foot_of (fun k hk => Nat.le_trans (unhide HB0).size (unhide HFN k hk)) (Nat.le_trans (unhide HB0).size (unhide HC).size))); clear hbt)
    | (go_at_call 31; refine (unhide HH).mono ?_; rintro e W2 ⟨⟨v, rfl⟩, q', sv', es, he, h2, hK2⟩; have HE := hide he; have H2 := hide h2; have HK2 := hide hK2; clear he h2 hK2))
  have he := (unhide HE).pre (unhide HBT).size
  have h2 := unhide H2
  have hK2 := unhide HK2
  have hbt := unhide HBT
  have s1 : W.heap.size + 3 ≤ W1.heap.size := by have := (unhide HC).size; rw [unhide hzz] at this; exact this
  have HB1 := (unhide HB0).trans ((unhide HC).mono (unhide HB0).size)
  have hnew : ∀ k, Foot W1.heap.size ⟨.slice g1 n.log.length y1, .slice g2 n.votes.length y2, .slice g3 n.next.length y3, .slice g4 n.mat.length y4, .slice g5 n.forms.length y5⟩ (.slice none 0 0) k → W.heap.size + 3 ≤ k := by
    rintro k (rfl | hk | hk)
    · exact s1
    · have := unhide HFN k hk; rw [unhide hzz] at this; exact this
    · cases hk
  have hnF : ¬ Foot W1.heap.size ⟨.slice g1 n.log.length y1, .slice g2 n.votes.length y2, .slice g3 n.next.length y3, .slice g4 n.mat.length y4, .slice g5 n.forms.length y5⟩ (.slice none 0 0) (W.heap.size + 2) := fun hf => by have := hnew _ hf; omega
  have hZ1 := (((unhide Z0).below (unhide HC)).below (below_new W1 (.cells (wkA n ⟨.slice g1 n.log.length y1, .slice g2 n.votes.length y2, .slice g3 n.next.length y3, .slice g4 n.mat.length y4, .slice g5 n.forms.length y5⟩ (.slice none 0 0)) 58))).below hbt
  have hZ := hK2.blk hZ1 hnF
  have hnB : ¬ Foot W1.heap.size q' sv' (W.heap.size + 2) := (hK2.block _ hZ1.lt hnF).2
  have hBX : Below W.heap.size W (W1.alloc (.cells (wkA n ⟨.slice g1 n.log.length y1, .slice g2 n.votes.length y2, .slice g3 n.next.length y3, .slice g4 n.mat.length y4, .slice g5 n.forms.length y5⟩ (.slice none 0 0)) 58)) := HB1.alloc (by omega) _
  have hB3B : W1.heap.size ≠ W.heap.size + 2 := by omega
  have hsz1 : (W1.alloc (.cells (wkA n ⟨.slice g1 n.log.length y1, .slice g2 n.votes.length y2, .slice g3 n.next.length y3, .slice g4 n.mat.length y4, .slice g5 n.forms.length y5⟩ (.slice none 0 0)) 58)).heap.size = W1.heap.size + 1 := by simp
  obtain ⟨⟨m1, z1, l1⟩, ⟨m2, z2, l2⟩, ⟨m3, z3, l3⟩, ⟨m4, z4, l4⟩, ⟨m5, z5, l5⟩⟩ := rows_slices h2.rows
  obtain ⟨m6, z6, l6⟩ := own_slice h2.sent.row
  obtain ⟨lq', vq', nq', mq', fq'⟩ := q'
  simp only at l1 l2 l3 l4 l5
  subst l1 l2 l3 l4 l5 l6
  clear WK TK HD HH HB0 Z0 HE H2 HK2 hZ1 MB MB1 MB2 d0_ e0_ d1_ e1_ d2_ e2_ d3_ e3_ d4_ e4_ d5_ e5_ d6_ e6_ d7_ e7_ d8_ e8_ d9_ e9_ ml1_ ml2_
  rename_i hrest
  refine wp_region_noPanic ?_
  refine wp_region_held_drew (S := (fun w' => Blk W1.heap.size (wkA n' ⟨.slice m1 n'.log.length z1, .slice m2 n'.votes.length z2, .slice m3 n'.next.length z3, .slice m4 n'.mat.length z4, .slice m5 n'.forms.length z5⟩ (.slice m6 ([] ++ ms.zip es).length z6)) 58 w')) (by kernel_rfl) ((h2.blk.below (below_drew _))) (fun hHeld => ?_)
  refine wpAnyH_take (i := 0) (oi := ?oi20001) (v := ?v20001) ?hi20001 (by kernel_rfl) (by kernel_rfl) (by kernel_rfl) (fun _ _ _ h => h) (Or.inl ⟨?hw20001, ?hy20001⟩) (by assumption) ?rest20001
  case hi20001 => (simp only [List.getElem?_toArray, List.getElem?_cons_zero]; rfl)
  case hw20001 => rfl
  case hy20001 => first | (intro wx hSw; have s0_ := hSw.box14; unfold Box14 at s0_; go_simp; done) | (intro wx hSw; have s0_ := hSw.box14; unfold Box14 at s0_; go_simp; with_reducible rfl)
  simp only [Act.put, List.setIfInBounds_toArray, List.set_cons_zero, List.set_cons_succ]
  refine wpAnyH_take (i := 1) (oi := ?oi20002) (v := ?v20002) ?hi20002 (by kernel_rfl) (by kernel_rfl) (by kernel_rfl) (fun _ _ _ h => h) (Or.inl ⟨?hw20002, ?hy20002⟩) (by assumption) ?rest20002
  case hi20002 => (simp only [List.getElem?_toArray, List.getElem?_cons_zero, List.getElem?_cons_succ]; rfl)
  case hw20002 => rfl
  case hy20002 => first | (intro wx hSw; have s0_ := hSw.box14; unfold Box14 at s0_; go_simp; done) | (intro wx hSw; have s0_ := hSw.box14; unfold Box14 at s0_; go_simp; with_reducible rfl)
  simp only [Act.put, List.setIfInBounds_toArray, List.set_cons_zero, List.set_cons_succ]
  refine wpAnyH_take (i := 2) (oi := ?oi20003) (v := ?v20003) ?hi20003 (by kernel_rfl) (by kernel_rfl) (by kernel_rfl) (fun _ _ _ h => h) (Or.inl ⟨?hw20003, ?hy20003⟩) (by assumption) ?rest20003
  case hi20003 => (simp only [List.getElem?_toArray, List.getElem?_cons_zero, List.getElem?_cons_succ]; rfl)
  case hw20003 => rfl
  case hy20003 => first | (intro wx hSw; have s0_ := hSw.box14; unfold Box14 at s0_; go_simp; done) | (intro wx hSw; have s0_ := hSw.box14; unfold Box14 at s0_; go_simp; with_reducible rfl)
  simp only [Act.put, List.setIfInBounds_toArray, List.set_cons_zero, List.set_cons_succ]
  refine wpAnyH_take (i := 3) (oi := ?oi20004) (v := ?v20004) ?hi20004 (by kernel_rfl) (by kernel_rfl) (by kernel_rfl) (fun _ _ _ h => h) (Or.inl ⟨?hw20004, ?hy20004⟩) (by assumption) ?rest20004
  case hi20004 => (simp only [List.getElem?_toArray, List.getElem?_cons_zero, List.getElem?_cons_succ]; rfl)
  case hw20004 => rfl
  case hy20004 => first | (intro wx hSw; have s0_ := hSw.box14; unfold Box14 at s0_; go_simp; done) | (intro wx hSw; have s0_ := hSw.box14; unfold Box14 at s0_; go_simp; with_reducible rfl)
  simp only [Act.put, List.setIfInBounds_toArray, List.set_cons_zero, List.set_cons_succ]
  refine wpAnyH_ready (rs := [4]) (by kernel_rfl) (by simp) ?_
  refine AllReadyH.cons rfl (fun K20005 hK20005 => ?_) AllReadyH.nil
  refine step_whole (by rfl) 32 _ _ (by rfl) (W.heap.size + 2) _ (ndA n' ⟨.slice m1 n'.log.length z1, .slice m2 n'.votes.length z2, .slice m3 n'.next.length z3, .slice m4 n'.mat.length z4, .slice m5 n'.forms.length z5⟩) _ _ (hZ.below (below_drew _)) (by rfl) (by rfl) (by rfl) (by kernel_rfl) (by simp [Value.oneCell']) ?_; intro X2 hb_ hg_ hs_
  refine hK20005.out _ _ ?hs20005 (fun hHeld20005 => ?_)
  case hs20005 => exact ((h2.blk.below (below_drew _)).grown hg_ hB3B)
  clear hHeld
  have hHeld := hHeld20005; clear hHeld20005 hK20005 K20005
  refine wpAnyH_take (i := 5) (oi := ?oi20006) (v := ?v20006) ?hi20006 (by kernel_rfl) (by kernel_rfl) (by kernel_rfl) (fun _ _ _ h => h) (Or.inl ⟨?hw20006, ?hy20006⟩) (by assumption) ?rest20006
  case hi20006 => (simp only [List.getElem?_toArray, List.getElem?_cons_zero, List.getElem?_cons_succ]; rfl)
  case hw20006 => rfl
  case hy20006 => first | (intro wx hSw; have s0_ := hSw.box14; unfold Box14 at s0_; go_simp; done) | (intro wx hSw; have s0_ := hSw.box14; unfold Box14 at s0_; go_simp; with_reducible rfl)
  simp only [Act.put, List.setIfInBounds_toArray, List.set_cons_zero, List.set_cons_succ]
  refine wpAnyH_done (by kernel_rfl) ?_ _
  refine NoPanic.normal ?_
  refine hrest _ _ ?_
  have hg0 : W2.grownBy X2 (some (W.heap.size + 2)) := ⟨hg_.os, hg_.tape, hg_.output, hg_.size, hg_.block⟩
  go_wp2
  have r0 := hb_.cell 0
  have r1 := hb_.cell 1
  have r2 := hb_.cell 2
  have r3 := hb_.cell 3
  have r4 := hb_.cell 4
  have r5 := hb_.cell 5
  have r6 := hb_.cell 6
  have r7 := hb_.cell 7
  have r8 := hb_.cell 8
  have r9 := hb_.cell 9
  have r10 := hb_.cell 10
  have r11 := hb_.cell 11
  have r12 := hb_.cell 12
  simp at r0 r1 r2 r3 r4 r5 r6 r7 r8 r9 r10 r11 r12
  refine bodyPost_ret (v := .tuple #[.agg (ndA n' ⟨.slice m1 n'.log.length z1, .slice m2 n'.votes.length z2, .slice m3 n'.next.length z3, .slice m4 n'.mat.length z4, .slice m5 n'.forms.length z5⟩), (.slice m6 ([] ++ ms.zip es).length z6)]) (by simp [results, Try.results16, go_sem, r0, r1, r2, r3, r4, r5, r6, r7, r8, r9, r10, r11, r12]) rfl ?_
  exact ⟨⟨.slice m1 n'.log.length z1, .slice m2 n'.votes.length z2, .slice m3 n'.next.length z3, .slice m4 n'.mat.length z4, .slice m5 n'.forms.length z5⟩, (.slice m6 ([] ++ ms.zip es).length z6), rfl, es, out_of he (by omega) h2 (hK2.pre' hbt) (fun k hk => by have := hnew k hk; omega) hBX (by omega) hnB hg0⟩
end Go.Proofs.Ytbojfiflemmgaaa
