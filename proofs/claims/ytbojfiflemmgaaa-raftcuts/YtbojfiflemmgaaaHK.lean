/-
  Package raft's follow.
-/
import Derived.Test.YtbojfiflemmgaaaHJ
namespace Go.Proofs.Ytbojfiflemmgaaa
open Go.RowKit
set_option linter.unusedSimpArgs false
set_option linter.unusedVariables false

set_option maxRecDepth 100000 in
set_option maxHeartbeats 8000000 in
theorem follow_end0 {r0 r1 c2 r3 r4 c5 r7 r8 r9 r10 : Code} (hc : Try.f55.body = some (.seq r0 (.scope (.seq r1 (.seq c2 (.seq r3 (.seq r4 (.seq c5 (.seq r7 (.seq r8 (.seq r9 (.seq (.label 0) r10)))))))))))) (J : Nat → Act → World → Prop) (b : Nat) (q q' : Q5) (sv : Value) (n : Nd) (S : List (Ms × Value)) (m : Ms) (p : Option Addr) (c : Nat) (mb bb : Nat) (W X : World) (u : Nat → Value) (n' : Nd) (k : Ms) (h : Fol b q' sv n' S m (.slice p m.ents.length c) k mb bb (Foot b q sv) W X) (hm : followM n m = (n', [sentM n' m.frm k])) (hk : k.ents = []) (hS : S.length ≤ 90000) :
    r10.wp Try.prog (Exit.jumps J (bodyPost Try.prog Try.f55 fun e W' => (∃ v, e = .returned v) ∧ Done b (followM n m).1 S (followM n m).2 (Foot b q sv) W W')) ⟨#[ptr b 0, .agg (msA m (.slice p m.ents.length c)), undef, ptr mb 0, ptr bb 0, u 5, u 6, u 7, u 8, u 9, u 10, u 11, u 12, u 13, u 14, u 15, u 16, u 17, u 18, u 19, u 20, u 21, u 22, u 23, u 24, u 25, u 26, u 27, u 28, u 29, u 30, u 31, u 32, u 33, u 34, u 35, u 36, u 37, u 38, u 39, u 40, u 41, u 42, u 43, u 44, u 45, u 46, u 47, u 48, u 49, u 50, u 51, u 52, u 53, u 54, u 55, u 56, u 57, u 58, u 59, u 60, u 61, u 62, u 63, u 64, u 65, u 66, u 67, u 68, u 69, u 70, u 71, u 72, u 73, u 74, u 75, u 76, u 77, u 78, u 79, u 80, u 81, u 82, u 83, u 84, u 85, u 86], []⟩ X := by
  unfold Try.f55 at hc
  cases hc
  have m1 := h.mB.cell 1
  simp at m1
  obtain ⟨k0, k1, k2, k3, k4, k5, k6, k7, k8, k9⟩ : Box10 bb k (.slice none 0 0) X := h.kB.box10
  have SA := hide (send_any b q' sv n' S m.frm k (.slice none 0 0) X h.st (by rw [hk]; exact Sees.nil 2 X) (by intro k hk; cases hk) (by omega))
  have HM := hide hm
  have HK := hide h.keep
  have hl1 := h.mB.lt
  have hl2 := h.kB.lt
  clear h hm
  go_wp2_with (go_at_call 68; refine (unhide SA).mono ?_; rintro e W5 ⟨⟨v, rfl⟩, sv', hs, hK⟩)
  simp only [Exit.jumps]
  go_end0
  rw [unhide HM]
  exact ⟨⟨_, rfl⟩, St.sent1 (W := X) hs ((unhide HK).trans hK)⟩
theorem follow_end {r0 r1 c2 r3 r4 c5 r7 r8 r9 r10 : Code} (hc : Try.f55.body = some (.seq r0 (.scope (.seq r1 (.seq c2 (.seq r3 (.seq r4 (.seq c5 (.seq r7 (.seq r8 (.seq r9 (.seq (.label 0) r10)))))))))))) (J : Nat → Act → World → Prop) (b : Nat) (q q' : Q5) (sv : Value) (n : Nd) (S : List (Ms × Value)) (m : Ms) (p : Option Addr) (c : Nat) (mb bb : Nat) (W X : World) (a : Act) (ha : a = ⟨#[ptr b 0, .agg (msA m (.slice p m.ents.length c)), undef, ptr mb 0, ptr bb 0, a.tmps.getD 5 undef, a.tmps.getD 6 undef, a.tmps.getD 7 undef, a.tmps.getD 8 undef, a.tmps.getD 9 undef, a.tmps.getD 10 undef, a.tmps.getD 11 undef, a.tmps.getD 12 undef, a.tmps.getD 13 undef, a.tmps.getD 14 undef, a.tmps.getD 15 undef, a.tmps.getD 16 undef, a.tmps.getD 17 undef, a.tmps.getD 18 undef, a.tmps.getD 19 undef, a.tmps.getD 20 undef, a.tmps.getD 21 undef, a.tmps.getD 22 undef, a.tmps.getD 23 undef, a.tmps.getD 24 undef, a.tmps.getD 25 undef, a.tmps.getD 26 undef, a.tmps.getD 27 undef, a.tmps.getD 28 undef, a.tmps.getD 29 undef, a.tmps.getD 30 undef, a.tmps.getD 31 undef, a.tmps.getD 32 undef, a.tmps.getD 33 undef, a.tmps.getD 34 undef, a.tmps.getD 35 undef, a.tmps.getD 36 undef, a.tmps.getD 37 undef, a.tmps.getD 38 undef, a.tmps.getD 39 undef, a.tmps.getD 40 undef, a.tmps.getD 41 undef, a.tmps.getD 42 undef, a.tmps.getD 43 undef, a.tmps.getD 44 undef, a.tmps.getD 45 undef, a.tmps.getD 46 undef, a.tmps.getD 47 undef, a.tmps.getD 48 undef, a.tmps.getD 49 undef, a.tmps.getD 50 undef, a.tmps.getD 51 undef, a.tmps.getD 52 undef, a.tmps.getD 53 undef, a.tmps.getD 54 undef, a.tmps.getD 55 undef, a.tmps.getD 56 undef, a.tmps.getD 57 undef, a.tmps.getD 58 undef, a.tmps.getD 59 undef, a.tmps.getD 60 undef, a.tmps.getD 61 undef, a.tmps.getD 62 undef, a.tmps.getD 63 undef, a.tmps.getD 64 undef, a.tmps.getD 65 undef, a.tmps.getD 66 undef, a.tmps.getD 67 undef, a.tmps.getD 68 undef, a.tmps.getD 69 undef, a.tmps.getD 70 undef, a.tmps.getD 71 undef, a.tmps.getD 72 undef, a.tmps.getD 73 undef, a.tmps.getD 74 undef, a.tmps.getD 75 undef, a.tmps.getD 76 undef, a.tmps.getD 77 undef, a.tmps.getD 78 undef, a.tmps.getD 79 undef, a.tmps.getD 80 undef, a.tmps.getD 81 undef, a.tmps.getD 82 undef, a.tmps.getD 83 undef, a.tmps.getD 84 undef, a.tmps.getD 85 undef, a.tmps.getD 86 undef], []⟩) (n' : Nd) (k : Ms) (h : Fol b q' sv n' S m (.slice p m.ents.length c) k mb bb (Foot b q sv) W X) (hm : followM n m = (n', [sentM n' m.frm k])) (hk : k.ents = []) (hS : S.length ≤ 90000) :
    r10.wp Try.prog (Exit.jumps J (bodyPost Try.prog Try.f55 fun e W' => (∃ v, e = .returned v) ∧ Done b (followM n m).1 S (followM n m).2 (Foot b q sv) W W')) a X := by
  rw [ha]
  exact follow_end0 hc J b q q' sv n S m p c mb bb W X (fun i => a.tmps.getD i undef) n' k h hm hk hS
set_option maxRecDepth 100000 in
set_option maxHeartbeats 8000000 in
theorem follow_took0 {r0 r1 c2 r3 r4 c5 r7 r8 r9 r10 : Code} (hc : Try.f55.body = some (.seq r0 (.scope (.seq r1 (.seq c2 (.seq r3 (.seq r4 (.seq c5 (.seq r7 (.seq r8 (.seq r9 (.seq (.label 0) r10)))))))))))) (J : Nat → Act → World → Prop) (b : Nat) (q q' : Q5) (sv : Value) (n : Nd) (S : List (Ms × Value)) (m : Ms) (p : Option Addr) (c : Nat) (mb bb : Nat) (W X : World) (u : Nat → Value) (h : Fol b q' sv (followN n) S m (.slice p m.ents.length c) (backK n.last false n.form) mb bb (Foot b q sv) W X) (f : Fit n) (ht : ¬ m.term < n.term) (hf : fits n m = true) (hi : m.index ≤ n.log.length) (he : m.ents.length ≤ 400000) (hd : Small m.ents) (hcm : m.commit ≤ 1099511627776) (hS : S.length ≤ 90000) :
    (Code.seq r7 (.seq r8 (.seq r9 (.seq (.label 0) r10)))).wp Try.prog (Exit.jumps J (bodyPost Try.prog Try.f55 fun e W' => (∃ v, e = .returned v) ∧ Done b (followM n m).1 S (followM n m).2 (Foot b q sv) W W')) ⟨#[ptr b 0, .agg (msA m (.slice p m.ents.length c)), undef, ptr mb 0, ptr bb 0, u 5, u 6, u 7, u 8, u 9, u 10, u 11, u 12, u 13, u 14, u 15, u 16, u 17, u 18, u 19, u 20, u 21, u 22, u 23, u 24, u 25, u 26, u 27, u 28, u 29, u 30, u 31, u 32, u 33, u 34, u 35, u 36, u 37, u 38, u 39, u 40, u 41, u 42, u 43, u 44, u 45, u 46, u 47, u 48, u 49, u 50, u 51, u 52, u 53, u 54, u 55, u 56, u 57, u 58, u 59, u 60, u 61, u 62, u 63, u 64, u 65, u 66, u 67, u 68, u 69, u 70, u 71, u 72, u 73, u 74, u 75, u 76, u 77, u 78, u 79, u 80, u 81, u 82, u 83, u 84, u 85, u 86], []⟩ X := by
  have HCODE := hide hc
  unfold Try.f55 at hc
  cases hc
  have HY := follow_yes ht hf
  have m4 := h.mB.cell 4
  have m7 := h.mB.cell 7
  simp at m4 m7
  have hl1 := h.mB.lt
  have hl2 := h.kB.lt
  have PA := hide (put_any b q' sv (followN n) S m.index m.ents (.slice p m.ents.length c) X h.st h.see (fun j hj => (h.fe j hj).1) hi f.log he hd)
  have H := hide h
  have hxl := f.log
  clear h
  go_wp2_with (go_at_call 70; refine (unhide PA).mono ?_; rintro e X2 ⟨⟨v, rfl⟩, q2, hs2, hK2⟩; have H2 := hide ((unhide H).node hs2 hK2); have d4 := (unhide H2).mB.cell 4; have d7 := (unhide H2).mB.cell 7; have d8 := (unhide H2).mB.cell 8; simp at d4 d7 d8; have dl1 := (unhide H2).mB.lt; have dl2 := (unhide H2).kB.lt; clear hs2 hK2 m4 m7)
  have e4 := (unhide H2).kB.cell 4
  have e6 := (unhide H2).kB.cell 6
  have ef := fun j => (unhide H2).kB.froz j
  simp at e4 e6
  have hne := (unhide H2).ne
  have hne2 : bb ≠ mb := fun e => hne e.symm
  obtain ⟨il, hil⟩ : ∃ il, m.index + m.ents.length = il := ⟨_, rfl⟩
  have hwr : IntKind.i64.wrap ((m.index : Int) + (m.ents.length : Int)) = (il : Int) := (IntWalk.i64_in _ (by omega)).trans (by omega)
  go_wp2
  go_region_held3 (fun w' => w'.cell? ⟨mb, 4, none⟩ = some (.int .i64 (m.index : Int)) ∧ w'.cell? ⟨mb, 7, none⟩ = some (.slice p m.ents.length c)) (first | exact ⟨(World.cell?_setCell_far _ _ _ _ hne2).trans d4, (World.cell?_setCell_far _ _ _ _ hne2).trans d7⟩ | go_keep) (fail)
  have H3 := hide ((((unhide H2).told (k' := backK n.last true n.form) 6 (.bool true) rfl).told (k' := backK il true n.form) 4 (.int .i64 (il : Int)) rfl).call (below_drew _))
  generalize hY : ((X2.setCell ⟨bb, 6, none⟩ (.bool true)).setCell ⟨bb, 4, none⟩ (.int .i64 (il : Int))).drew = Y at H3 ⊢
  clear hY d4 d7 d8 e4 e6 ef dl1 dl2 H2
  have y4 := (unhide H3).kB.cell 4
  have y8 := (unhide H3).mB.cell 8
  have y6 : Y.cell? ⟨b, 6, none⟩ = some (.int .i64 (n.commit : Int)) := (unhide H3).st.c6
  have yz := (unhide H3).st.fz
  have yl := (unhide H3).st.blk.lt
  have yl1 := (unhide H3).mB.lt
  have yl2 := (unhide H3).kB.lt
  simp at y4 y8
  obtain ⟨mm, hmm⟩ : ∃ mm, min m.commit il = mm := ⟨_, rfl⟩
  obtain ⟨cc, hcc⟩ : ∃ cc, max n.commit mm = cc := ⟨_, rfl⟩
  have qq1 : min (m.commit : Int) (il : Int) = (mm : Int) := by omega
  have qq2 : max (n.commit : Int) (mm : Int) = (cc : Int) := by omega
  have HCC := hide (show tookN n m = { { followN n with log := putM n.log m.index m.ents } with commit := cc } by unfold tookN; rw [hil, hmm, hcc])
  have HIL := hide hil
  clear hmm hcc hil
  go_wp2
  rename_i hrest
  refine wp_region_noPanic ?_
  refine wp_region_held_drew (S := (fun w' => w'.cell? ⟨mb, 8, none⟩ = some (.int .i64 (m.commit : Int)) ∧ w'.cell? ⟨bb, 4, none⟩ = some (.int .i64 (il : Int)))) (by kernel_rfl) (⟨y8, y4⟩) (fun hHeld => ?_)
  refine wpAnyH_take (i := 0) (oi := ?oi20001) (v := ?v20001) ?hi20001 (by kernel_rfl) (by kernel_rfl) (by kernel_rfl) (fun _ _ _ h => h) (Or.inl ⟨?hw20001, ?hy20001⟩) (by assumption) ?rest20001
  case hi20001 => (simp only [List.getElem?_toArray, List.getElem?_cons_zero]; rfl)
  case hw20001 => rfl
  case hy20001 => first | (intro wx hSw; obtain ⟨s1_, s2_⟩ := hSw; go_simp; done) | (intro wx hSw; obtain ⟨s1_, s2_⟩ := hSw; go_simp; with_reducible rfl)
  simp only [Act.put, List.setIfInBounds_toArray, List.set_cons_zero, List.set_cons_succ]
  refine wpAnyH_take (i := 1) (oi := ?oi20002) (v := ?v20002) ?hi20002 (by kernel_rfl) (by kernel_rfl) (by kernel_rfl) (fun _ _ _ h => h) (Or.inl ⟨?hw20002, ?hy20002⟩) (by assumption) ?rest20002
  case hi20002 => (simp only [List.getElem?_toArray, List.getElem?_cons_zero, List.getElem?_cons_succ]; rfl)
  case hw20002 => rfl
  case hy20002 => first | (intro wx hSw; obtain ⟨s1_, s2_⟩ := hSw; go_simp; done) | (intro wx hSw; obtain ⟨s1_, s2_⟩ := hSw; go_simp; with_reducible rfl)
  simp only [Act.put, List.setIfInBounds_toArray, List.set_cons_zero, List.set_cons_succ]
  refine wpAnyH_take (i := 2) (oi := ?oi20003) (v := ?v20003) ?hi20003 (by kernel_rfl) (by kernel_rfl) (by kernel_rfl) (fun _ _ _ h => h) (Or.inl ⟨?hw20003, ?hy20003⟩) (by assumption) ?rest20003
  case hi20003 => (simp only [List.getElem?_toArray, List.getElem?_cons_zero, List.getElem?_cons_succ]; rfl)
  case hw20003 => rfl
  case hy20003 => first | (intro wx hSw; obtain ⟨s1_, s2_⟩ := hSw; go_simp; done) | (intro wx hSw; obtain ⟨s1_, s2_⟩ := hSw; go_simp; with_reducible rfl)
  simp only [Act.put, List.setIfInBounds_toArray, List.set_cons_zero, List.set_cons_succ]
  refine wpAnyH_take (i := 3) (oi := ?oi20004) (v := ?v20004) ?hi20004 (by kernel_rfl) (by kernel_rfl) (by kernel_rfl) (fun _ _ _ h => h) (Or.inl ⟨?hw20004, ?hy20004⟩) (by assumption) ?rest20004
  case hi20004 => (simp only [List.getElem?_toArray, List.getElem?_cons_zero, List.getElem?_cons_succ]; rfl)
  case hw20004 => rfl
  case hy20004 => first | (intro wx hSw; obtain ⟨s1_, s2_⟩ := hSw; go_simp; done) | (intro wx hSw; obtain ⟨s1_, s2_⟩ := hSw; go_simp; with_reducible rfl)
  simp only [Act.put, List.setIfInBounds_toArray, List.set_cons_zero, List.set_cons_succ]
  refine wpAnyH_take (i := 4) (oi := ?oi20005) (v := ?v20005) ?hi20005 (by kernel_rfl) (by kernel_rfl) (by kernel_rfl) (fun _ _ _ h => h) (Or.inl ⟨?hw20005, ?hy20005⟩) (by assumption) ?rest20005
  case hi20005 => (simp only [List.getElem?_toArray, List.getElem?_cons_zero, List.getElem?_cons_succ]; rfl)
  case hw20005 => rfl
  case hy20005 => first | (intro wx hSw; obtain ⟨s1_, s2_⟩ := hSw; go_simp; done) | (intro wx hSw; obtain ⟨s1_, s2_⟩ := hSw; go_simp; with_reducible rfl)
  simp only [Act.put, List.setIfInBounds_toArray, List.set_cons_zero, List.set_cons_succ]
  refine wpAnyH_take (i := 6) (oi := ?oi20006) (v := ?v20006) ?hi20006 (by kernel_rfl) (by kernel_rfl) (by kernel_rfl) (fun _ _ _ h => h) (Or.inl ⟨?hw20006, ?hy20006⟩) (by assumption) ?rest20006
  case hi20006 => (simp only [List.getElem?_toArray, List.getElem?_cons_zero, List.getElem?_cons_succ]; rfl)
  case hw20006 => rfl
  case hy20006 => first | (intro wx hSw; obtain ⟨s1_, s2_⟩ := hSw; go_simp; done) | (intro wx hSw; obtain ⟨s1_, s2_⟩ := hSw; go_simp; with_reducible rfl)
  simp only [Act.put, List.setIfInBounds_toArray, List.set_cons_zero, List.set_cons_succ]
  refine wpAnyH_take (i := 7) (oi := ?oi20007) (v := ?v20007) ?hi20007 (by kernel_rfl) (by kernel_rfl) (by kernel_rfl) (fun _ _ _ h => h) (Or.inl ⟨?hw20007, ?hy20007⟩) (by assumption) ?rest20007
  case hi20007 => (simp only [List.getElem?_toArray, List.getElem?_cons_zero, List.getElem?_cons_succ]; rfl)
  case hw20007 => rfl
  case hy20007 => first | (intro wx hSw; obtain ⟨s1_, s2_⟩ := hSw; go_simp; done) | (intro wx hSw; obtain ⟨s1_, s2_⟩ := hSw; go_simp; with_reducible rfl)
  simp only [Act.put, List.setIfInBounds_toArray, List.set_cons_zero, List.set_cons_succ]
  refine wpAnyH_take (i := 8) (oi := ?oi20008) (v := ?v20008) ?hi20008 (by kernel_rfl) (by kernel_rfl) (by kernel_rfl) (fun _ _ _ h => h) (Or.inl ⟨?hw20008, ?hy20008⟩) (by assumption) ?rest20008
  case hi20008 => (simp only [List.getElem?_toArray, List.getElem?_cons_zero, List.getElem?_cons_succ]; rfl)
  case hw20008 => rfl
  case hy20008 => first | (intro wx hSw; obtain ⟨s1_, s2_⟩ := hSw; go_simp; done) | (intro wx hSw; obtain ⟨s1_, s2_⟩ := hSw; go_simp; with_reducible rfl)
  simp only [Act.put, List.setIfInBounds_toArray, List.set_cons_zero, List.set_cons_succ]
  refine wpAnyH_take (i := 9) (oi := ?oi20009) (v := ?v20009) ?hi20009 (by kernel_rfl) (by kernel_rfl) (by kernel_rfl) (fun _ _ _ h => h) (Or.inl ⟨?hw20009, ?hy20009⟩) (by assumption) ?rest20009
  case hi20009 => (simp only [List.getElem?_toArray, List.getElem?_cons_zero, List.getElem?_cons_succ]; rfl)
  case hw20009 => rfl
  case hy20009 => first | (intro wx hSw; obtain ⟨s1_, s2_⟩ := hSw; go_simp; done) | (intro wx hSw; obtain ⟨s1_, s2_⟩ := hSw; go_simp; with_reducible rfl)
  simp only [Act.put, List.setIfInBounds_toArray, List.set_cons_zero, List.set_cons_succ]
  refine wpAnyH_take (i := 10) (oi := ?oi20010) (v := ?v20010) ?hi20010 (by kernel_rfl) (by kernel_rfl) (by kernel_rfl) (fun _ _ _ h => h) (Or.inl ⟨?hw20010, ?hy20010⟩) (by assumption) ?rest20010
  case hi20010 => (simp only [List.getElem?_toArray, List.getElem?_cons_zero, List.getElem?_cons_succ]; rfl)
  case hw20010 => rfl
  case hy20010 => first | (intro wx hSw; obtain ⟨s1_, s2_⟩ := hSw; go_simp; done) | (intro wx hSw; obtain ⟨s1_, s2_⟩ := hSw; go_simp; with_reducible rfl)
  simp only [Act.put, List.setIfInBounds_toArray, List.set_cons_zero, List.set_cons_succ]
  refine wpAnyH_ready (rs := [5]) (by kernel_rfl) (by simp) ?_
  refine AllReadyH.cons rfl (fun K20011 hK20011 => ?_) AllReadyH.nil
  go_simp
  refine hK20011.out _ _ ?hs20011 (fun hHeld20011 => ?_)
  case hs20011 => exact hHeld
  clear hHeld
  have hHeld := hHeld20011; clear hHeld20011 hK20011 K20011
  refine wpAnyH_take (i := 11) (oi := ?oi20012) (v := ?v20012) ?hi20012 (by kernel_rfl) (by kernel_rfl) (by kernel_rfl) (fun _ _ _ h => h) (Or.inl ⟨?hw20012, ?hy20012⟩) (by assumption) ?rest20012
  case hi20012 => (simp only [List.getElem?_toArray, List.getElem?_cons_zero, List.getElem?_cons_succ]; rfl)
  case hw20012 => rfl
  case hy20012 => first | (intro wx hSw; obtain ⟨s1_, s2_⟩ := hSw; go_simp; done) | (intro wx hSw; obtain ⟨s1_, s2_⟩ := hSw; go_simp; with_reducible rfl)
  simp only [Act.put, List.setIfInBounds_toArray, List.set_cons_zero, List.set_cons_succ]
  refine wpAnyH_take (i := 12) (oi := ?oi20013) (v := ?v20013) ?hi20013 (by kernel_rfl) (by kernel_rfl) (by kernel_rfl) (fun _ _ _ h => h) (Or.inl ⟨?hw20013, ?hy20013⟩) (by assumption) ?rest20013
  case hi20013 => (simp only [List.getElem?_toArray, List.getElem?_cons_zero, List.getElem?_cons_succ]; rfl)
  case hw20013 => rfl
  case hy20013 => first | (intro wx hSw; obtain ⟨s1_, s2_⟩ := hSw; go_simp; done) | (intro wx hSw; obtain ⟨s1_, s2_⟩ := hSw; go_simp; with_reducible rfl)
  simp only [Act.put, List.setIfInBounds_toArray, List.set_cons_zero, List.set_cons_succ]
  refine wpAnyH_take (i := 13) (oi := ?oi20014) (v := ?v20014) ?hi20014 (by kernel_rfl) (by kernel_rfl) (by kernel_rfl) (fun _ _ _ h => h) (Or.inl ⟨?hw20014, ?hy20014⟩) (by assumption) ?rest20014
  case hi20014 => (simp only [List.getElem?_toArray, List.getElem?_cons_zero, List.getElem?_cons_succ]; rfl)
  case hw20014 => rfl
  case hy20014 => first | (intro wx hSw; obtain ⟨s1_, s2_⟩ := hSw; go_simp; done) | (intro wx hSw; obtain ⟨s1_, s2_⟩ := hSw; go_simp; with_reducible rfl)
  simp only [Act.put, List.setIfInBounds_toArray, List.set_cons_zero, List.set_cons_succ]
  refine wpAnyH_take (i := 14) (oi := ?oi20015) (v := ?v20015) ?hi20015 (by kernel_rfl) (by kernel_rfl) (by kernel_rfl) (fun _ _ _ h => h) (Or.inl ⟨?hw20015, ?hy20015⟩) (by assumption) ?rest20015
  case hi20015 => (simp only [List.getElem?_toArray, List.getElem?_cons_zero, List.getElem?_cons_succ]; rfl)
  case hw20015 => rfl
  case hy20015 => first | (intro wx hSw; obtain ⟨s1_, s2_⟩ := hSw; go_simp; done) | (intro wx hSw; obtain ⟨s1_, s2_⟩ := hSw; go_simp; with_reducible rfl)
  simp only [Act.put, List.setIfInBounds_toArray, List.set_cons_zero, List.set_cons_succ]
  refine wpAnyH_ready (rs := [15]) (by kernel_rfl) (by simp) ?_
  refine AllReadyH.cons rfl (fun K20016 hK20016 => ?_) AllReadyH.nil
  go_simp
  refine hK20016.out _ _ ?hs20016 (fun hHeld20016 => ?_)
  case hs20016 => exact ⟨(World.cell?_setCell_far _ _ _ _ (by show b ≠ mb; exact fun e => (unhide H3).fm (e ▸ St.fb b q2 sv))).trans y8, (World.cell?_setCell_far _ _ _ _ (by show b ≠ bb; exact fun e => (unhide H3).fb (e ▸ St.fb b q2 sv))).trans y4⟩
  clear hHeld
  have hHeld := hHeld20016; clear hHeld20016 hK20016 K20016
  refine wpAnyH_done (by kernel_rfl) ?_ _
  refine NoPanic.normal ?_
  refine hrest _ _ ?_
  have hnf : b ≠ bb := fun e => (unhide H3).fb (e ▸ St.fb b q2 sv)
  have HS4 := ((unhide H3).st).put { { followN n with log := putM n.log m.index m.ents } with commit := cc } 6 (.int .i64 (cc : Int)) rfl rfl rfl rfl rfl rfl
  have H4 := hide (((unhide H3).node HS4 (Keep.set (St.fb b q2 sv))).call (below_drew _))
  go_wp2
  rename_i hrest2
  go_step3
  refine hrest2 _ _ ?_
  refine follow_end (unhide HCODE) _ b q q2 sv n S m p c mb bb W _ _ (by rfl) { { followN n with log := putM n.log m.index m.ents } with commit := cc } (backK il true n.form) (unhide H4) ?_ rfl hS
  rw [HY, unhide HCC]
  show (_, [backM n m 4 (m.index + m.ents.length) true n.form]) = _
  rw [unhide HIL]
  rfl
theorem follow_took {r0 r1 c2 r3 r4 c5 r7 r8 r9 r10 : Code} (hc : Try.f55.body = some (.seq r0 (.scope (.seq r1 (.seq c2 (.seq r3 (.seq r4 (.seq c5 (.seq r7 (.seq r8 (.seq r9 (.seq (.label 0) r10)))))))))))) (J : Nat → Act → World → Prop) (b : Nat) (q q' : Q5) (sv : Value) (n : Nd) (S : List (Ms × Value)) (m : Ms) (p : Option Addr) (c : Nat) (mb bb : Nat) (W X : World) (a : Act) (ha : a = ⟨#[ptr b 0, .agg (msA m (.slice p m.ents.length c)), undef, ptr mb 0, ptr bb 0, a.tmps.getD 5 undef, a.tmps.getD 6 undef, a.tmps.getD 7 undef, a.tmps.getD 8 undef, a.tmps.getD 9 undef, a.tmps.getD 10 undef, a.tmps.getD 11 undef, a.tmps.getD 12 undef, a.tmps.getD 13 undef, a.tmps.getD 14 undef, a.tmps.getD 15 undef, a.tmps.getD 16 undef, a.tmps.getD 17 undef, a.tmps.getD 18 undef, a.tmps.getD 19 undef, a.tmps.getD 20 undef, a.tmps.getD 21 undef, a.tmps.getD 22 undef, a.tmps.getD 23 undef, a.tmps.getD 24 undef, a.tmps.getD 25 undef, a.tmps.getD 26 undef, a.tmps.getD 27 undef, a.tmps.getD 28 undef, a.tmps.getD 29 undef, a.tmps.getD 30 undef, a.tmps.getD 31 undef, a.tmps.getD 32 undef, a.tmps.getD 33 undef, a.tmps.getD 34 undef, a.tmps.getD 35 undef, a.tmps.getD 36 undef, a.tmps.getD 37 undef, a.tmps.getD 38 undef, a.tmps.getD 39 undef, a.tmps.getD 40 undef, a.tmps.getD 41 undef, a.tmps.getD 42 undef, a.tmps.getD 43 undef, a.tmps.getD 44 undef, a.tmps.getD 45 undef, a.tmps.getD 46 undef, a.tmps.getD 47 undef, a.tmps.getD 48 undef, a.tmps.getD 49 undef, a.tmps.getD 50 undef, a.tmps.getD 51 undef, a.tmps.getD 52 undef, a.tmps.getD 53 undef, a.tmps.getD 54 undef, a.tmps.getD 55 undef, a.tmps.getD 56 undef, a.tmps.getD 57 undef, a.tmps.getD 58 undef, a.tmps.getD 59 undef, a.tmps.getD 60 undef, a.tmps.getD 61 undef, a.tmps.getD 62 undef, a.tmps.getD 63 undef, a.tmps.getD 64 undef, a.tmps.getD 65 undef, a.tmps.getD 66 undef, a.tmps.getD 67 undef, a.tmps.getD 68 undef, a.tmps.getD 69 undef, a.tmps.getD 70 undef, a.tmps.getD 71 undef, a.tmps.getD 72 undef, a.tmps.getD 73 undef, a.tmps.getD 74 undef, a.tmps.getD 75 undef, a.tmps.getD 76 undef, a.tmps.getD 77 undef, a.tmps.getD 78 undef, a.tmps.getD 79 undef, a.tmps.getD 80 undef, a.tmps.getD 81 undef, a.tmps.getD 82 undef, a.tmps.getD 83 undef, a.tmps.getD 84 undef, a.tmps.getD 85 undef, a.tmps.getD 86 undef], []⟩) (h : Fol b q' sv (followN n) S m (.slice p m.ents.length c) (backK n.last false n.form) mb bb (Foot b q sv) W X) (f : Fit n) (ht : ¬ m.term < n.term) (hf : fits n m = true) (hi : m.index ≤ n.log.length) (he : m.ents.length ≤ 400000) (hd : Small m.ents) (hcm : m.commit ≤ 1099511627776) (hS : S.length ≤ 90000) :
    (Code.seq r7 (.seq r8 (.seq r9 (.seq (.label 0) r10)))).wp Try.prog (Exit.jumps J (bodyPost Try.prog Try.f55 fun e W' => (∃ v, e = .returned v) ∧ Done b (followM n m).1 S (followM n m).2 (Foot b q sv) W W')) a X := by
  rw [ha]
  exact follow_took0 hc J b q q' sv n S m p c mb bb W X (fun i => a.tmps.getD i undef) h f ht hf hi he hd hcm hS
set_option maxRecDepth 100000 in
set_option maxHeartbeats 8000000 in
theorem follow_fits0 {r0 r1 c2 r3 r4 c5 R0 : Code} (R : Code) (hc : Try.f55.body = some (.seq r0 (.scope (.seq r1 (.seq c2 (.seq r3 (.seq r4 (.seq c5 R0)))))))) (J : Nat → Act → World → Prop) (b : Nat) (q q' : Q5) (sv : Value) (n : Nd) (S : List (Ms × Value)) (m : Ms) (p : Option Addr) (c : Nat) (mb bb : Nat) (W X : World) (u : Nat → Value) (FT : ∀ a X, a = ⟨#[ptr b 0, .agg (msA m (.slice p m.ents.length c)), undef, ptr mb 0, ptr bb 0, a.tmps.getD 5 undef, a.tmps.getD 6 undef, a.tmps.getD 7 undef, a.tmps.getD 8 undef, a.tmps.getD 9 undef, a.tmps.getD 10 undef, a.tmps.getD 11 undef, a.tmps.getD 12 undef, a.tmps.getD 13 undef, a.tmps.getD 14 undef, a.tmps.getD 15 undef, a.tmps.getD 16 undef, a.tmps.getD 17 undef, a.tmps.getD 18 undef, a.tmps.getD 19 undef, a.tmps.getD 20 undef, a.tmps.getD 21 undef, a.tmps.getD 22 undef, a.tmps.getD 23 undef, a.tmps.getD 24 undef, a.tmps.getD 25 undef, a.tmps.getD 26 undef, a.tmps.getD 27 undef, a.tmps.getD 28 undef, a.tmps.getD 29 undef, a.tmps.getD 30 undef, a.tmps.getD 31 undef, a.tmps.getD 32 undef, a.tmps.getD 33 undef, a.tmps.getD 34 undef, a.tmps.getD 35 undef, a.tmps.getD 36 undef, a.tmps.getD 37 undef, a.tmps.getD 38 undef, a.tmps.getD 39 undef, a.tmps.getD 40 undef, a.tmps.getD 41 undef, a.tmps.getD 42 undef, a.tmps.getD 43 undef, a.tmps.getD 44 undef, a.tmps.getD 45 undef, a.tmps.getD 46 undef, a.tmps.getD 47 undef, a.tmps.getD 48 undef, a.tmps.getD 49 undef, a.tmps.getD 50 undef, a.tmps.getD 51 undef, a.tmps.getD 52 undef, a.tmps.getD 53 undef, a.tmps.getD 54 undef, a.tmps.getD 55 undef, a.tmps.getD 56 undef, a.tmps.getD 57 undef, a.tmps.getD 58 undef, a.tmps.getD 59 undef, a.tmps.getD 60 undef, a.tmps.getD 61 undef, a.tmps.getD 62 undef, a.tmps.getD 63 undef, a.tmps.getD 64 undef, a.tmps.getD 65 undef, a.tmps.getD 66 undef, a.tmps.getD 67 undef, a.tmps.getD 68 undef, a.tmps.getD 69 undef, a.tmps.getD 70 undef, a.tmps.getD 71 undef, a.tmps.getD 72 undef, a.tmps.getD 73 undef, a.tmps.getD 74 undef, a.tmps.getD 75 undef, a.tmps.getD 76 undef, a.tmps.getD 77 undef, a.tmps.getD 78 undef, a.tmps.getD 79 undef, a.tmps.getD 80 undef, a.tmps.getD 81 undef, a.tmps.getD 82 undef, a.tmps.getD 83 undef, a.tmps.getD 84 undef, a.tmps.getD 85 undef, a.tmps.getD 86 undef], []⟩ → Fol b q' sv (followN n) S m (.slice p m.ents.length c) (backK n.last false n.form) mb bb (Foot b q sv) W X → fits n m = true → m.index ≤ n.log.length → R.wp Try.prog (Exit.jumps J (bodyPost Try.prog Try.f55 fun e W' => (∃ v, e = .returned v) ∧ Done b (followM n m).1 S (followM n m).2 (Foot b q sv) W W')) a X) (hJ : ∀ a Y, JFol b sv n S m (.slice p m.ents.length c) mb bb (Foot b q sv) W 0 0 a Y → J 0 a Y) (h : Fol b q' sv (followN n) S m (.slice p m.ents.length c) (backK n.last false n.form) mb bb (Foot b q sv) W X) (f : Fit n) (ht : ¬ m.term < n.term) (he : m.ents.length ≤ 400000) (hd : Small m.ents) (hcm : m.commit ≤ 1099511627776) (hix : m.index ≤ 1099511627776) (hS : S.length ≤ 90000) :
    (Code.seq c5 R).wp Try.prog (Exit.jumps J (bodyPost Try.prog Try.f55 fun e W' => (∃ v, e = .returned v) ∧ Done b (followM n m).1 S (followM n m).2 (Foot b q sv) W W')) ⟨#[ptr b 0, .agg (msA m (.slice p m.ents.length c)), undef, ptr mb 0, ptr bb 0, u 5, u 6, u 7, u 8, u 9, u 10, u 11, u 12, u 13, u 14, u 15, u 16, u 17, u 18, u 19, u 20, u 21, u 22, u 23, u 24, u 25, u 26, u 27, u 28, u 29, u 30, u 31, u 32, u 33, u 34, u 35, u 36, u 37, u 38, u 39, u 40, u 41, u 42, u 43, u 44, u 45, u 46, u 47, u 48, u 49, u 50, u 51, u 52, u 53, u 54, u 55, u 56, u 57, u 58, u 59, u 60, u 61, u 62, u 63, u 64, u 65, u 66, u 67, u 68, u 69, u 70, u 71, u 72, u 73, u 74, u 75, u 76, u 77, u 78, u 79, u 80, u 81, u 82, u 83, u 84, u 85, u 86], []⟩ X := by
  replace FT := hide FT
  unfold Try.f55 at hc
  cases hc
  have H := hide h
  have HF := hide f
  have m4 : X.drew.cell? ⟨mb, 4, none⟩ = some (.int .i64 (m.index : Int)) := h.mB.cell 4
  have m5 : X.drew.cell? ⟨mb, 5, none⟩ = some (.int .i64 (m.lterm : Int)) := h.mB.cell 5
  have hl1 := h.mB.lt
  have hl2 := h.kB.lt
  have hlg := f.log
  have hne2 : bb ≠ mb := fun e => h.ne e.symm
  have LA := hide (fun Y (hb : Below X.heap.size X Y) => (show Calls Try.prog 52 #[ptr b 0] Y fun e w' => e = .returned (.int .i64 (n.log.length : Int)) ∧ w' = Y from last_any b q' sv (followN n) S Y (h.st.call hb)))
  have TO := hide (fun Y (hb : Below X.heap.size X Y) => (show Calls Try.prog 66 #[ptr b 0, .int .i64 (m.index : Int)] Y fun e w' => e = .returned (.int .i64 (termAt n.log m.index : Int)) ∧ w' = Y from termOf_any b q' sv (followN n) S m.index Y (h.st.call hb) hix))
  clear h f
  by_cases h1 : n.log.length < m.index
  · have hfit : fits n m = false := decide_eq_false fun x => absurd x.1 (by show ¬ m.index ≤ n.log.length; omega)
    have a1 : (n.log.length : Int) < (m.index : Int) := by omega
    have a2 : decide ((n.log.length : Int) < (m.index : Int)) = true := decide_eq_true a1
    go_wp2
    rename_i hrest
    refine wp_region_noPanic ?_
    refine wp_region_held_drew (S := (fun w' => w'.cell? ⟨mb, 4, none⟩ = some (.int .i64 (m.index : Int)) ∧ w'.cell? ⟨mb, 5, none⟩ = some (.int .i64 (m.lterm : Int)))) (by kernel_rfl) (⟨m4, m5⟩) (fun hHeld => ?_)
    refine wpAnyH_take (i := 0) (oi := ?oi20017) (v := ?v20017) ?hi20017 (by kernel_rfl) (by kernel_rfl) (by kernel_rfl) (fun _ _ _ h => h) (Or.inl ⟨?hw20017, ?hy20017⟩) (by assumption) ?rest20017
    case hi20017 => (simp only [List.getElem?_toArray, List.getElem?_cons_zero]; rfl)
    case hw20017 => rfl
    case hy20017 => first | (intro wx hSw; obtain ⟨s1_, s2_⟩ := hSw; go_simp; done) | (intro wx hSw; obtain ⟨s1_, s2_⟩ := hSw; go_simp; with_reducible rfl)
    simp only [Act.put, List.setIfInBounds_toArray, List.set_cons_zero, List.set_cons_succ]
    refine wpAnyH_take (i := 1) (oi := ?oi20018) (v := ?v20018) ?hi20018 (by kernel_rfl) (by kernel_rfl) (by kernel_rfl) (fun _ _ _ h => h) (Or.inl ⟨?hw20018, ?hy20018⟩) (by assumption) ?rest20018
    case hi20018 => (simp only [List.getElem?_toArray, List.getElem?_cons_zero, List.getElem?_cons_succ]; rfl)
    case hw20018 => rfl
    case hy20018 => first | (intro wx hSw; obtain ⟨s1_, s2_⟩ := hSw; go_simp; done) | (intro wx hSw; obtain ⟨s1_, s2_⟩ := hSw; go_simp; with_reducible rfl)
    simp only [Act.put, List.setIfInBounds_toArray, List.set_cons_zero, List.set_cons_succ]
    refine wpAnyH_take (i := 2) (oi := ?oi20019) (v := ?v20019) ?hi20019 (by kernel_rfl) (by kernel_rfl) (by kernel_rfl) (fun _ _ _ h => h) (Or.inl ⟨?hw20019, ?hy20019⟩) (by assumption) ?rest20019
    case hi20019 => (simp only [List.getElem?_toArray, List.getElem?_cons_zero, List.getElem?_cons_succ]; rfl)
    case hw20019 => rfl
    case hy20019 => first | (intro wx hSw; obtain ⟨s1_, s2_⟩ := hSw; go_simp; done) | (intro wx hSw; obtain ⟨s1_, s2_⟩ := hSw; go_simp; with_reducible rfl)
    simp only [Act.put, List.setIfInBounds_toArray, List.set_cons_zero, List.set_cons_succ]
    refine wpAnyH_ready (rs := [3]) (by kernel_rfl) (by simp) ?_
    refine AllReadyH.cons rfl (fun K20020 hK20020 => ?_) AllReadyH.nil
    go_simp
    go_wp2_with (go_at_call 52; refine (unhide LA _ (below_drew X)).mono ?_; rintro e0 w' ⟨rfl, rfl⟩)
    refine hK20020.out _ _ ?hs20020 (fun hHeld20020 => ?_)
    case hs20020 => exact hHeld
    clear hHeld
    have hHeld := hHeld20020; clear hHeld20020 hK20020 K20020
    refine wpAnyH_take (i := 4) (oi := ?oi20021) (v := ?v20021) ?hi20021 (by kernel_rfl) (by kernel_rfl) (by kernel_rfl) (fun _ _ _ h => h) (Or.inl ⟨?hw20021, ?hy20021⟩) (by assumption) ?rest20021
    case hi20021 => (simp only [List.getElem?_toArray, List.getElem?_cons_zero, List.getElem?_cons_succ]; rfl)
    case hw20021 => rfl
    case hy20021 => first | (intro wx hSw; obtain ⟨s1_, s2_⟩ := hSw; go_simp; done) | (intro wx hSw; obtain ⟨s1_, s2_⟩ := hSw; go_simp; with_reducible rfl)
    simp only [Act.put, List.setIfInBounds_toArray, List.set_cons_zero, List.set_cons_succ]
    refine wpAnyH_take (i := 5) (oi := ?oi20022) (v := ?v20022) ?hi20022 (by kernel_rfl) (by kernel_rfl) (by kernel_rfl) (fun _ _ _ h => h) (Or.inl ⟨?hw20022, ?hy20022⟩) (by assumption) ?rest20022
    case hi20022 => (simp only [List.getElem?_toArray, List.getElem?_cons_zero, List.getElem?_cons_succ]; rfl)
    case hw20022 => rfl
    case hy20022 => first | (intro wx hSw; obtain ⟨s1_, s2_⟩ := hSw; go_simp; done) | (intro wx hSw; obtain ⟨s1_, s2_⟩ := hSw; go_simp; with_reducible rfl)
    simp only [Act.put, List.setIfInBounds_toArray, List.set_cons_zero, List.set_cons_succ]
    refine wpAnyH_take (i := 6) (oi := ?oi20023) (v := undef) ?hi20023 (by kernel_rfl) (by kernel_rfl) (by kernel_rfl) (fun _ _ _ h => h) (Or.inr ⟨?hw20023, rfl⟩) (by assumption) ?rest20023
    case hi20023 => (simp only [List.getElem?_toArray, List.getElem?_cons_zero, List.getElem?_cons_succ]; rfl)
    case hw20023 => rfl
    simp only [Act.put, List.setIfInBounds_toArray, List.set_cons_zero, List.set_cons_succ]
    refine wpAnyH_take (i := 7) (oi := ?oi20024) (v := undef) ?hi20024 (by kernel_rfl) (by kernel_rfl) (by kernel_rfl) (fun _ _ _ h => h) (Or.inr ⟨?hw20024, rfl⟩) (by assumption) ?rest20024
    case hi20024 => (simp only [List.getElem?_toArray, List.getElem?_cons_zero, List.getElem?_cons_succ]; rfl)
    case hw20024 => rfl
    simp only [Act.put, List.setIfInBounds_toArray, List.set_cons_zero, List.set_cons_succ]
    refine wpAnyH_take (i := 8) (oi := ?oi20025) (v := undef) ?hi20025 (by kernel_rfl) (by kernel_rfl) (by kernel_rfl) (fun _ _ _ h => h) (Or.inr ⟨?hw20025, rfl⟩) (by assumption) ?rest20025
    case hi20025 => (simp only [List.getElem?_toArray, List.getElem?_cons_zero, List.getElem?_cons_succ]; rfl)
    case hw20025 => rfl
    simp only [Act.put, List.setIfInBounds_toArray, List.set_cons_zero, List.set_cons_succ]
    refine wpAnyH_take (i := 9) (oi := ?oi20026) (v := undef) ?hi20026 (by kernel_rfl) (by kernel_rfl) (by kernel_rfl) (fun _ _ _ h => h) (Or.inr ⟨?hw20026, rfl⟩) (by assumption) ?rest20026
    case hi20026 => (simp only [List.getElem?_toArray, List.getElem?_cons_zero, List.getElem?_cons_succ]; rfl)
    case hw20026 => rfl
    simp only [Act.put, List.setIfInBounds_toArray, List.set_cons_zero, List.set_cons_succ]
    refine wpAnyH_take (i := 10) (oi := ?oi20027) (v := undef) ?hi20027 (by kernel_rfl) (by kernel_rfl) (by kernel_rfl) (fun _ _ _ h => h) (Or.inr ⟨?hw20027, rfl⟩) (by assumption) ?rest20027
    case hi20027 => (simp only [List.getElem?_toArray, List.getElem?_cons_zero, List.getElem?_cons_succ]; rfl)
    case hw20027 => rfl
    simp only [Act.put, List.setIfInBounds_toArray, List.set_cons_zero, List.set_cons_succ]
    refine wpAnyH_take (i := 11) (oi := ?oi20028) (v := undef) ?hi20028 (by kernel_rfl) (by kernel_rfl) (by kernel_rfl) (fun _ _ _ h => h) (Or.inr ⟨?hw20028, rfl⟩) (by assumption) ?rest20028
    case hi20028 => (simp only [List.getElem?_toArray, List.getElem?_cons_zero, List.getElem?_cons_succ]; rfl)
    case hw20028 => rfl
    simp only [Act.put, List.setIfInBounds_toArray, List.set_cons_zero, List.set_cons_succ]
    refine wpAnyH_take (i := 12) (oi := ?oi20029) (v := undef) ?hi20029 (by kernel_rfl) (by kernel_rfl) (by kernel_rfl) (fun _ _ _ h => h) (Or.inr ⟨?hw20029, rfl⟩) (by assumption) ?rest20029
    case hi20029 => (simp only [List.getElem?_toArray, List.getElem?_cons_zero, List.getElem?_cons_succ]; rfl)
    case hw20029 => rfl
    simp only [Act.put, List.setIfInBounds_toArray, List.set_cons_zero, List.set_cons_succ]
    refine wpAnyH_take (i := 13) (oi := ?oi20030) (v := undef) ?hi20030 (by kernel_rfl) (by kernel_rfl) (by kernel_rfl) (fun _ _ _ h => h) (Or.inr ⟨?hw20030, rfl⟩) (by assumption) ?rest20030
    case hi20030 => (simp only [List.getElem?_toArray, List.getElem?_cons_zero, List.getElem?_cons_succ]; rfl)
    case hw20030 => rfl
    simp only [Act.put, List.setIfInBounds_toArray, List.set_cons_zero, List.set_cons_succ]
    refine wpAnyH_take (i := 14) (oi := ?oi20031) (v := undef) ?hi20031 (by kernel_rfl) (by kernel_rfl) (by kernel_rfl) (fun _ _ _ h => h) (Or.inr ⟨?hw20031, rfl⟩) (by assumption) ?rest20031
    case hi20031 => (simp only [List.getElem?_toArray, List.getElem?_cons_zero, List.getElem?_cons_succ]; rfl)
    case hw20031 => rfl
    simp only [Act.put, List.setIfInBounds_toArray, List.set_cons_zero, List.set_cons_succ]
    refine wpAnyH_take (i := 15) (oi := ?oi20032) (v := undef) ?hi20032 (by kernel_rfl) (by kernel_rfl) (by kernel_rfl) (fun _ _ _ h => h) (Or.inr ⟨?hw20032, rfl⟩) (by assumption) ?rest20032
    case hi20032 => (simp only [List.getElem?_toArray, List.getElem?_cons_zero, List.getElem?_cons_succ]; rfl)
    case hw20032 => rfl
    simp only [Act.put, List.setIfInBounds_toArray, List.set_cons_zero, List.set_cons_succ]
    refine wpAnyH_take (i := 16) (oi := ?oi20033) (v := undef) ?hi20033 (by kernel_rfl) (by kernel_rfl) (by kernel_rfl) (fun _ _ _ h => h) (Or.inr ⟨?hw20033, rfl⟩) (by assumption) ?rest20033
    case hi20033 => (simp only [List.getElem?_toArray, List.getElem?_cons_zero, List.getElem?_cons_succ]; rfl)
    case hw20033 => rfl
    simp only [Act.put, List.setIfInBounds_toArray, List.set_cons_zero, List.set_cons_succ]
    refine wpAnyH_take (i := 17) (oi := ?oi20034) (v := undef) ?hi20034 (by kernel_rfl) (by kernel_rfl) (by kernel_rfl) (fun _ _ _ h => h) (Or.inr ⟨?hw20034, rfl⟩) (by assumption) ?rest20034
    case hi20034 => (simp only [List.getElem?_toArray, List.getElem?_cons_zero, List.getElem?_cons_succ]; rfl)
    case hw20034 => rfl
    simp only [Act.put, List.setIfInBounds_toArray, List.set_cons_zero, List.set_cons_succ]
    refine wpAnyH_take (i := 18) (oi := ?oi20035) (v := ?v20035) ?hi20035 (by kernel_rfl) (by kernel_rfl) (by kernel_rfl) (fun _ _ _ h => h) (Or.inl ⟨?hw20035, ?hy20035⟩) (by assumption) ?rest20035
    case hi20035 => (simp only [List.getElem?_toArray, List.getElem?_cons_zero, List.getElem?_cons_succ]; rfl)
    case hw20035 => rfl
    case hy20035 => first | (intro wx hSw; obtain ⟨s1_, s2_⟩ := hSw; go_simp; done) | (intro wx hSw; obtain ⟨s1_, s2_⟩ := hSw; go_simp; with_reducible rfl)
    simp only [Act.put, List.setIfInBounds_toArray, List.set_cons_zero, List.set_cons_succ]
    refine wpAnyH_done (by kernel_rfl) ?_ _
    refine NoPanic.normal ?_
    refine hrest _ _ ?_
    have HY := hide (follow_no ht hfit)
    obtain ⟨j, hj⟩ : ∃ j, m.index = j + 1 := ⟨m.index - 1, by omega⟩
    have n4 : X.drew.cell? ⟨mb, 4, none⟩ = some (.int .i64 ((j + 1 : Nat) : Int)) := by rw [← hj]; exact m4
    have e1 : IntKind.i64.wrap (((j + 1 : Nat) : Int) - 1) = (j : Int) := (IntWalk.i64_in _ (by omega)).trans (by omega)
    have ew : IntKind.i64.wrap (j : Int) = (j : Int) := IntWalk.i64_in _ (by omega)
    obtain ⟨mm, hmm⟩ : ∃ mm, min n.log.length j = mm := ⟨_, rfl⟩
    have qq1 : min (n.log.length : Int) (j : Int) = (mm : Int) := by omega
    have HMM := hide (show min n.last (m.index - 1) = mm by rw [hj]; exact hmm)
    have kf := fun i => (unhide H).kB.froz i
    have k4 := (unhide H).kB.cell 4
    simp at k4
    have H2 := hide (((unhide H).told (k' := backK mm false n.form) 4 (.int .i64 (mm : Int)) rfl).call (below_drew _) |>.call (below_drew _))
    clear hmm hfit
    go_wp2
    go_region_held3 (fun w' => w'.cell? ⟨mb, 4, none⟩ = some (.int .i64 ((j + 1 : Nat) : Int))) (first | exact (World.cell?_setCell_far _ _ _ _ hne2).trans n4 | go_keep) ((go_at_call 52; refine (unhide LA _ ((below_drew X).trans ((below_drew _).mono (by simp)))).mono ?_; rintro e0 w' ⟨rfl, rfl⟩))
    go_wp2
    refine wp_goto (hJ _ _ (JFol.intro _ (followN n) q' (backK mm false n.form) rfl rfl (by rfl) ?_ ?_ rfl))
    · exact unhide H2
    · rw [unhide HY]
      show (_, [backM n m 4 (min n.last (m.index - 1)) false n.form]) = _
      rw [unhide HMM]
      rfl
  by_cases h2 : m.index = 0
  · have hfit : fits n m = true := decide_eq_true ⟨by show m.index ≤ n.log.length; omega, .inl h2⟩
    have a1 : ¬ (n.log.length : Int) < (m.index : Int) := by omega
    have a2 : decide ((n.log.length : Int) < (m.index : Int)) = false := decide_eq_false a1
    have a3 : ¬ (0 : Int) < (m.index : Int) := by omega
    have a4 : decide ((0 : Int) < (m.index : Int)) = false := decide_eq_false a3
    go_wp2
    rename_i hrest
    refine wp_region_noPanic ?_
    refine wp_region_held_drew (S := (fun w' => w'.cell? ⟨mb, 4, none⟩ = some (.int .i64 (m.index : Int)) ∧ w'.cell? ⟨mb, 5, none⟩ = some (.int .i64 (m.lterm : Int)))) (by kernel_rfl) (⟨m4, m5⟩) (fun hHeld => ?_)
    refine wpAnyH_take (i := 0) (oi := ?oi20036) (v := ?v20036) ?hi20036 (by kernel_rfl) (by kernel_rfl) (by kernel_rfl) (fun _ _ _ h => h) (Or.inl ⟨?hw20036, ?hy20036⟩) (by assumption) ?rest20036
    case hi20036 => (simp only [List.getElem?_toArray, List.getElem?_cons_zero]; rfl)
    case hw20036 => rfl
    case hy20036 => first | (intro wx hSw; obtain ⟨s1_, s2_⟩ := hSw; go_simp; done) | (intro wx hSw; obtain ⟨s1_, s2_⟩ := hSw; go_simp; with_reducible rfl)
    simp only [Act.put, List.setIfInBounds_toArray, List.set_cons_zero, List.set_cons_succ]
    refine wpAnyH_take (i := 1) (oi := ?oi20037) (v := ?v20037) ?hi20037 (by kernel_rfl) (by kernel_rfl) (by kernel_rfl) (fun _ _ _ h => h) (Or.inl ⟨?hw20037, ?hy20037⟩) (by assumption) ?rest20037
    case hi20037 => (simp only [List.getElem?_toArray, List.getElem?_cons_zero, List.getElem?_cons_succ]; rfl)
    case hw20037 => rfl
    case hy20037 => first | (intro wx hSw; obtain ⟨s1_, s2_⟩ := hSw; go_simp; done) | (intro wx hSw; obtain ⟨s1_, s2_⟩ := hSw; go_simp; with_reducible rfl)
    simp only [Act.put, List.setIfInBounds_toArray, List.set_cons_zero, List.set_cons_succ]
    refine wpAnyH_take (i := 2) (oi := ?oi20038) (v := ?v20038) ?hi20038 (by kernel_rfl) (by kernel_rfl) (by kernel_rfl) (fun _ _ _ h => h) (Or.inl ⟨?hw20038, ?hy20038⟩) (by assumption) ?rest20038
    case hi20038 => (simp only [List.getElem?_toArray, List.getElem?_cons_zero, List.getElem?_cons_succ]; rfl)
    case hw20038 => rfl
    case hy20038 => first | (intro wx hSw; obtain ⟨s1_, s2_⟩ := hSw; go_simp; done) | (intro wx hSw; obtain ⟨s1_, s2_⟩ := hSw; go_simp; with_reducible rfl)
    simp only [Act.put, List.setIfInBounds_toArray, List.set_cons_zero, List.set_cons_succ]
    refine wpAnyH_ready (rs := [3]) (by kernel_rfl) (by simp) ?_
    refine AllReadyH.cons rfl (fun K20039 hK20039 => ?_) AllReadyH.nil
    go_simp
    go_wp2_with (go_at_call 52; refine (unhide LA _ (below_drew X)).mono ?_; rintro e0 w' ⟨rfl, rfl⟩)
    refine hK20039.out _ _ ?hs20039 (fun hHeld20039 => ?_)
    case hs20039 => exact hHeld
    clear hHeld
    have hHeld := hHeld20039; clear hHeld20039 hK20039 K20039
    refine wpAnyH_take (i := 4) (oi := ?oi20040) (v := ?v20040) ?hi20040 (by kernel_rfl) (by kernel_rfl) (by kernel_rfl) (fun _ _ _ h => h) (Or.inl ⟨?hw20040, ?hy20040⟩) (by assumption) ?rest20040
    case hi20040 => (simp only [List.getElem?_toArray, List.getElem?_cons_zero, List.getElem?_cons_succ]; rfl)
    case hw20040 => rfl
    case hy20040 => first | (intro wx hSw; obtain ⟨s1_, s2_⟩ := hSw; go_simp; done) | (intro wx hSw; obtain ⟨s1_, s2_⟩ := hSw; go_simp; with_reducible rfl)
    simp only [Act.put, List.setIfInBounds_toArray, List.set_cons_zero, List.set_cons_succ]
    refine wpAnyH_take (i := 5) (oi := ?oi20041) (v := ?v20041) ?hi20041 (by kernel_rfl) (by kernel_rfl) (by kernel_rfl) (fun _ _ _ h => h) (Or.inl ⟨?hw20041, ?hy20041⟩) (by assumption) ?rest20041
    case hi20041 => (simp only [List.getElem?_toArray, List.getElem?_cons_zero, List.getElem?_cons_succ]; rfl)
    case hw20041 => rfl
    case hy20041 => first | (intro wx hSw; obtain ⟨s1_, s2_⟩ := hSw; go_simp; done) | (intro wx hSw; obtain ⟨s1_, s2_⟩ := hSw; go_simp; with_reducible rfl)
    simp only [Act.put, List.setIfInBounds_toArray, List.set_cons_zero, List.set_cons_succ]
    refine wpAnyH_take (i := 6) (oi := ?oi20042) (v := ?v20042) ?hi20042 (by kernel_rfl) (by kernel_rfl) (by kernel_rfl) (fun _ _ _ h => h) (Or.inl ⟨?hw20042, ?hy20042⟩) (by assumption) ?rest20042
    case hi20042 => (simp only [List.getElem?_toArray, List.getElem?_cons_zero, List.getElem?_cons_succ]; rfl)
    case hw20042 => rfl
    case hy20042 => first | (intro wx hSw; obtain ⟨s1_, s2_⟩ := hSw; go_simp; done) | (intro wx hSw; obtain ⟨s1_, s2_⟩ := hSw; go_simp; with_reducible rfl)
    simp only [Act.put, List.setIfInBounds_toArray, List.set_cons_zero, List.set_cons_succ]
    refine wpAnyH_take (i := 7) (oi := ?oi20043) (v := ?v20043) ?hi20043 (by kernel_rfl) (by kernel_rfl) (by kernel_rfl) (fun _ _ _ h => h) (Or.inl ⟨?hw20043, ?hy20043⟩) (by assumption) ?rest20043
    case hi20043 => (simp only [List.getElem?_toArray, List.getElem?_cons_zero, List.getElem?_cons_succ]; rfl)
    case hw20043 => rfl
    case hy20043 => first | (intro wx hSw; obtain ⟨s1_, s2_⟩ := hSw; go_simp; done) | (intro wx hSw; obtain ⟨s1_, s2_⟩ := hSw; go_simp; with_reducible rfl)
    simp only [Act.put, List.setIfInBounds_toArray, List.set_cons_zero, List.set_cons_succ]
    refine wpAnyH_take (i := 8) (oi := ?oi20044) (v := ?v20044) ?hi20044 (by kernel_rfl) (by kernel_rfl) (by kernel_rfl) (fun _ _ _ h => h) (Or.inl ⟨?hw20044, ?hy20044⟩) (by assumption) ?rest20044
    case hi20044 => (simp only [List.getElem?_toArray, List.getElem?_cons_zero, List.getElem?_cons_succ]; rfl)
    case hw20044 => rfl
    case hy20044 => first | (intro wx hSw; obtain ⟨s1_, s2_⟩ := hSw; go_simp; done) | (intro wx hSw; obtain ⟨s1_, s2_⟩ := hSw; go_simp; with_reducible rfl)
    simp only [Act.put, List.setIfInBounds_toArray, List.set_cons_zero, List.set_cons_succ]
    refine wpAnyH_take (i := 9) (oi := ?oi20045) (v := ?v20045) ?hi20045 (by kernel_rfl) (by kernel_rfl) (by kernel_rfl) (fun _ _ _ h => h) (Or.inl ⟨?hw20045, ?hy20045⟩) (by assumption) ?rest20045
    case hi20045 => (simp only [List.getElem?_toArray, List.getElem?_cons_zero, List.getElem?_cons_succ]; rfl)
    case hw20045 => rfl
    case hy20045 => first | (intro wx hSw; obtain ⟨s1_, s2_⟩ := hSw; go_simp; done) | (intro wx hSw; obtain ⟨s1_, s2_⟩ := hSw; go_simp; with_reducible rfl)
    simp only [Act.put, List.setIfInBounds_toArray, List.set_cons_zero, List.set_cons_succ]
    refine wpAnyH_take (i := 10) (oi := ?oi20046) (v := undef) ?hi20046 (by kernel_rfl) (by kernel_rfl) (by kernel_rfl) (fun _ _ _ h => h) (Or.inr ⟨?hw20046, rfl⟩) (by assumption) ?rest20046
    case hi20046 => (simp only [List.getElem?_toArray, List.getElem?_cons_zero, List.getElem?_cons_succ]; rfl)
    case hw20046 => rfl
    simp only [Act.put, List.setIfInBounds_toArray, List.set_cons_zero, List.set_cons_succ]
    refine wpAnyH_take (i := 11) (oi := ?oi20047) (v := undef) ?hi20047 (by kernel_rfl) (by kernel_rfl) (by kernel_rfl) (fun _ _ _ h => h) (Or.inr ⟨?hw20047, rfl⟩) (by assumption) ?rest20047
    case hi20047 => (simp only [List.getElem?_toArray, List.getElem?_cons_zero, List.getElem?_cons_succ]; rfl)
    case hw20047 => rfl
    simp only [Act.put, List.setIfInBounds_toArray, List.set_cons_zero, List.set_cons_succ]
    refine wpAnyH_take (i := 12) (oi := ?oi20048) (v := undef) ?hi20048 (by kernel_rfl) (by kernel_rfl) (by kernel_rfl) (fun _ _ _ h => h) (Or.inr ⟨?hw20048, rfl⟩) (by assumption) ?rest20048
    case hi20048 => (simp only [List.getElem?_toArray, List.getElem?_cons_zero, List.getElem?_cons_succ]; rfl)
    case hw20048 => rfl
    simp only [Act.put, List.setIfInBounds_toArray, List.set_cons_zero, List.set_cons_succ]
    refine wpAnyH_take (i := 13) (oi := ?oi20049) (v := undef) ?hi20049 (by kernel_rfl) (by kernel_rfl) (by kernel_rfl) (fun _ _ _ h => h) (Or.inr ⟨?hw20049, rfl⟩) (by assumption) ?rest20049
    case hi20049 => (simp only [List.getElem?_toArray, List.getElem?_cons_zero, List.getElem?_cons_succ]; rfl)
    case hw20049 => rfl
    simp only [Act.put, List.setIfInBounds_toArray, List.set_cons_zero, List.set_cons_succ]
    refine wpAnyH_take (i := 14) (oi := ?oi20050) (v := undef) ?hi20050 (by kernel_rfl) (by kernel_rfl) (by kernel_rfl) (fun _ _ _ h => h) (Or.inr ⟨?hw20050, rfl⟩) (by assumption) ?rest20050
    case hi20050 => (simp only [List.getElem?_toArray, List.getElem?_cons_zero, List.getElem?_cons_succ]; rfl)
    case hw20050 => rfl
    simp only [Act.put, List.setIfInBounds_toArray, List.set_cons_zero, List.set_cons_succ]
    refine wpAnyH_take (i := 15) (oi := ?oi20051) (v := undef) ?hi20051 (by kernel_rfl) (by kernel_rfl) (by kernel_rfl) (fun _ _ _ h => h) (Or.inr ⟨?hw20051, rfl⟩) (by assumption) ?rest20051
    case hi20051 => (simp only [List.getElem?_toArray, List.getElem?_cons_zero, List.getElem?_cons_succ]; rfl)
    case hw20051 => rfl
    simp only [Act.put, List.setIfInBounds_toArray, List.set_cons_zero, List.set_cons_succ]
    refine wpAnyH_take (i := 16) (oi := ?oi20052) (v := undef) ?hi20052 (by kernel_rfl) (by kernel_rfl) (by kernel_rfl) (fun _ _ _ h => h) (Or.inr ⟨?hw20052, rfl⟩) (by assumption) ?rest20052
    case hi20052 => (simp only [List.getElem?_toArray, List.getElem?_cons_zero, List.getElem?_cons_succ]; rfl)
    case hw20052 => rfl
    simp only [Act.put, List.setIfInBounds_toArray, List.set_cons_zero, List.set_cons_succ]
    refine wpAnyH_take (i := 17) (oi := ?oi20053) (v := ?v20053) ?hi20053 (by kernel_rfl) (by kernel_rfl) (by kernel_rfl) (fun _ _ _ h => h) (Or.inl ⟨?hw20053, ?hy20053⟩) (by assumption) ?rest20053
    case hi20053 => (simp only [List.getElem?_toArray, List.getElem?_cons_zero, List.getElem?_cons_succ]; rfl)
    case hw20053 => rfl
    case hy20053 => first | (intro wx hSw; obtain ⟨s1_, s2_⟩ := hSw; go_simp; done) | (intro wx hSw; obtain ⟨s1_, s2_⟩ := hSw; go_simp; with_reducible rfl)
    simp only [Act.put, List.setIfInBounds_toArray, List.set_cons_zero, List.set_cons_succ]
    refine wpAnyH_take (i := 18) (oi := ?oi20054) (v := ?v20054) ?hi20054 (by kernel_rfl) (by kernel_rfl) (by kernel_rfl) (fun _ _ _ h => h) (Or.inl ⟨?hw20054, ?hy20054⟩) (by assumption) ?rest20054
    case hi20054 => (simp only [List.getElem?_toArray, List.getElem?_cons_zero, List.getElem?_cons_succ]; rfl)
    case hw20054 => rfl
    case hy20054 => first | (intro wx hSw; obtain ⟨s1_, s2_⟩ := hSw; go_simp; done) | (intro wx hSw; obtain ⟨s1_, s2_⟩ := hSw; go_simp; with_reducible rfl)
    simp only [Act.put, List.setIfInBounds_toArray, List.set_cons_zero, List.set_cons_succ]
    refine wpAnyH_done (by kernel_rfl) ?_ _
    refine NoPanic.normal ?_
    refine hrest _ _ ?_
    have H2 := hide ((unhide H).call (below_drew X))
    go_wp2
    refine unhide FT _ _ (by rfl) (unhide H2) hfit (by omega)
  have a1 : ¬ (n.log.length : Int) < (m.index : Int) := by omega
  have a2 : decide ((n.log.length : Int) < (m.index : Int)) = false := decide_eq_false a1
  have a3 : (0 : Int) < (m.index : Int) := by omega
  have a4 : decide ((0 : Int) < (m.index : Int)) = true := decide_eq_true a3
  have a8 : 0 < m.index := by omega
  have a9 : decide (0 < m.index) = true := decide_eq_true a8
  obtain ⟨tt, htt⟩ : ∃ tt, termAt n.log m.index = tt := ⟨_, rfl⟩
  rw [htt] at TO
  by_cases h3 : tt = m.lterm
  · have hfit : fits n m = true := decide_eq_true ⟨by show m.index ≤ n.log.length; omega, .inr (htt.trans h3)⟩
    have a5 : (tt : Int) = (m.lterm : Int) := by omega
    have a6 : ((tt : Int) == (m.lterm : Int)) = true := by rw [a5]; exact beq_self_eq_true _
    have a7 : ((tt : Int) != (m.lterm : Int)) = false := by rw [a5]; simp
    clear htt h3
    go_wp2
    rename_i hrest
    refine wp_region_noPanic ?_
    refine wp_region_held_drew (S := (fun w' => w'.cell? ⟨mb, 4, none⟩ = some (.int .i64 (m.index : Int)) ∧ w'.cell? ⟨mb, 5, none⟩ = some (.int .i64 (m.lterm : Int)))) (by kernel_rfl) (⟨m4, m5⟩) (fun hHeld => ?_)
    refine wpAnyH_take (i := 0) (oi := ?oi20055) (v := ?v20055) ?hi20055 (by kernel_rfl) (by kernel_rfl) (by kernel_rfl) (fun _ _ _ h => h) (Or.inl ⟨?hw20055, ?hy20055⟩) (by assumption) ?rest20055
    case hi20055 => (simp only [List.getElem?_toArray, List.getElem?_cons_zero]; rfl)
    case hw20055 => rfl
    case hy20055 => first | (intro wx hSw; obtain ⟨s1_, s2_⟩ := hSw; go_simp; done) | (intro wx hSw; obtain ⟨s1_, s2_⟩ := hSw; go_simp; with_reducible rfl)
    simp only [Act.put, List.setIfInBounds_toArray, List.set_cons_zero, List.set_cons_succ]
    refine wpAnyH_take (i := 1) (oi := ?oi20056) (v := ?v20056) ?hi20056 (by kernel_rfl) (by kernel_rfl) (by kernel_rfl) (fun _ _ _ h => h) (Or.inl ⟨?hw20056, ?hy20056⟩) (by assumption) ?rest20056
    case hi20056 => (simp only [List.getElem?_toArray, List.getElem?_cons_zero, List.getElem?_cons_succ]; rfl)
    case hw20056 => rfl
    case hy20056 => first | (intro wx hSw; obtain ⟨s1_, s2_⟩ := hSw; go_simp; done) | (intro wx hSw; obtain ⟨s1_, s2_⟩ := hSw; go_simp; with_reducible rfl)
    simp only [Act.put, List.setIfInBounds_toArray, List.set_cons_zero, List.set_cons_succ]
    refine wpAnyH_take (i := 2) (oi := ?oi20057) (v := ?v20057) ?hi20057 (by kernel_rfl) (by kernel_rfl) (by kernel_rfl) (fun _ _ _ h => h) (Or.inl ⟨?hw20057, ?hy20057⟩) (by assumption) ?rest20057
    case hi20057 => (simp only [List.getElem?_toArray, List.getElem?_cons_zero, List.getElem?_cons_succ]; rfl)
    case hw20057 => rfl
    case hy20057 => first | (intro wx hSw; obtain ⟨s1_, s2_⟩ := hSw; go_simp; done) | (intro wx hSw; obtain ⟨s1_, s2_⟩ := hSw; go_simp; with_reducible rfl)
    simp only [Act.put, List.setIfInBounds_toArray, List.set_cons_zero, List.set_cons_succ]
    refine wpAnyH_ready (rs := [3]) (by kernel_rfl) (by simp) ?_
    refine AllReadyH.cons rfl (fun K20058 hK20058 => ?_) AllReadyH.nil
    go_simp
    go_wp2_with (go_at_call 52; refine (unhide LA _ (below_drew X)).mono ?_; rintro e0 w' ⟨rfl, rfl⟩)
    refine hK20058.out _ _ ?hs20058 (fun hHeld20058 => ?_)
    case hs20058 => exact hHeld
    clear hHeld
    have hHeld := hHeld20058; clear hHeld20058 hK20058 K20058
    refine wpAnyH_take (i := 4) (oi := ?oi20059) (v := ?v20059) ?hi20059 (by kernel_rfl) (by kernel_rfl) (by kernel_rfl) (fun _ _ _ h => h) (Or.inl ⟨?hw20059, ?hy20059⟩) (by assumption) ?rest20059
    case hi20059 => (simp only [List.getElem?_toArray, List.getElem?_cons_zero, List.getElem?_cons_succ]; rfl)
    case hw20059 => rfl
    case hy20059 => first | (intro wx hSw; obtain ⟨s1_, s2_⟩ := hSw; go_simp; done) | (intro wx hSw; obtain ⟨s1_, s2_⟩ := hSw; go_simp; with_reducible rfl)
    simp only [Act.put, List.setIfInBounds_toArray, List.set_cons_zero, List.set_cons_succ]
    refine wpAnyH_take (i := 5) (oi := ?oi20060) (v := ?v20060) ?hi20060 (by kernel_rfl) (by kernel_rfl) (by kernel_rfl) (fun _ _ _ h => h) (Or.inl ⟨?hw20060, ?hy20060⟩) (by assumption) ?rest20060
    case hi20060 => (simp only [List.getElem?_toArray, List.getElem?_cons_zero, List.getElem?_cons_succ]; rfl)
    case hw20060 => rfl
    case hy20060 => first | (intro wx hSw; obtain ⟨s1_, s2_⟩ := hSw; go_simp; done) | (intro wx hSw; obtain ⟨s1_, s2_⟩ := hSw; go_simp; with_reducible rfl)
    simp only [Act.put, List.setIfInBounds_toArray, List.set_cons_zero, List.set_cons_succ]
    refine wpAnyH_take (i := 6) (oi := ?oi20061) (v := ?v20061) ?hi20061 (by kernel_rfl) (by kernel_rfl) (by kernel_rfl) (fun _ _ _ h => h) (Or.inl ⟨?hw20061, ?hy20061⟩) (by assumption) ?rest20061
    case hi20061 => (simp only [List.getElem?_toArray, List.getElem?_cons_zero, List.getElem?_cons_succ]; rfl)
    case hw20061 => rfl
    case hy20061 => first | (intro wx hSw; obtain ⟨s1_, s2_⟩ := hSw; go_simp; done) | (intro wx hSw; obtain ⟨s1_, s2_⟩ := hSw; go_simp; with_reducible rfl)
    simp only [Act.put, List.setIfInBounds_toArray, List.set_cons_zero, List.set_cons_succ]
    refine wpAnyH_take (i := 7) (oi := ?oi20062) (v := ?v20062) ?hi20062 (by kernel_rfl) (by kernel_rfl) (by kernel_rfl) (fun _ _ _ h => h) (Or.inl ⟨?hw20062, ?hy20062⟩) (by assumption) ?rest20062
    case hi20062 => (simp only [List.getElem?_toArray, List.getElem?_cons_zero, List.getElem?_cons_succ]; rfl)
    case hw20062 => rfl
    case hy20062 => first | (intro wx hSw; obtain ⟨s1_, s2_⟩ := hSw; go_simp; done) | (intro wx hSw; obtain ⟨s1_, s2_⟩ := hSw; go_simp; with_reducible rfl)
    simp only [Act.put, List.setIfInBounds_toArray, List.set_cons_zero, List.set_cons_succ]
    refine wpAnyH_take (i := 8) (oi := ?oi20063) (v := ?v20063) ?hi20063 (by kernel_rfl) (by kernel_rfl) (by kernel_rfl) (fun _ _ _ h => h) (Or.inl ⟨?hw20063, ?hy20063⟩) (by assumption) ?rest20063
    case hi20063 => (simp only [List.getElem?_toArray, List.getElem?_cons_zero, List.getElem?_cons_succ]; rfl)
    case hw20063 => rfl
    case hy20063 => first | (intro wx hSw; obtain ⟨s1_, s2_⟩ := hSw; go_simp; done) | (intro wx hSw; obtain ⟨s1_, s2_⟩ := hSw; go_simp; with_reducible rfl)
    simp only [Act.put, List.setIfInBounds_toArray, List.set_cons_zero, List.set_cons_succ]
    refine wpAnyH_take (i := 9) (oi := ?oi20064) (v := ?v20064) ?hi20064 (by kernel_rfl) (by kernel_rfl) (by kernel_rfl) (fun _ _ _ h => h) (Or.inl ⟨?hw20064, ?hy20064⟩) (by assumption) ?rest20064
    case hi20064 => (simp only [List.getElem?_toArray, List.getElem?_cons_zero, List.getElem?_cons_succ]; rfl)
    case hw20064 => rfl
    case hy20064 => first | (intro wx hSw; obtain ⟨s1_, s2_⟩ := hSw; go_simp; done) | (intro wx hSw; obtain ⟨s1_, s2_⟩ := hSw; go_simp; with_reducible rfl)
    simp only [Act.put, List.setIfInBounds_toArray, List.set_cons_zero, List.set_cons_succ]
    refine wpAnyH_take (i := 10) (oi := ?oi20065) (v := ?v20065) ?hi20065 (by kernel_rfl) (by kernel_rfl) (by kernel_rfl) (fun _ _ _ h => h) (Or.inl ⟨?hw20065, ?hy20065⟩) (by assumption) ?rest20065
    case hi20065 => (simp only [List.getElem?_toArray, List.getElem?_cons_zero, List.getElem?_cons_succ]; rfl)
    case hw20065 => rfl
    case hy20065 => first | (intro wx hSw; obtain ⟨s1_, s2_⟩ := hSw; go_simp; done) | (intro wx hSw; obtain ⟨s1_, s2_⟩ := hSw; go_simp; with_reducible rfl)
    simp only [Act.put, List.setIfInBounds_toArray, List.set_cons_zero, List.set_cons_succ]
    refine wpAnyH_take (i := 11) (oi := ?oi20066) (v := ?v20066) ?hi20066 (by kernel_rfl) (by kernel_rfl) (by kernel_rfl) (fun _ _ _ h => h) (Or.inl ⟨?hw20066, ?hy20066⟩) (by assumption) ?rest20066
    case hi20066 => (simp only [List.getElem?_toArray, List.getElem?_cons_zero, List.getElem?_cons_succ]; rfl)
    case hw20066 => rfl
    case hy20066 => first | (intro wx hSw; obtain ⟨s1_, s2_⟩ := hSw; go_simp; done) | (intro wx hSw; obtain ⟨s1_, s2_⟩ := hSw; go_simp; with_reducible rfl)
    simp only [Act.put, List.setIfInBounds_toArray, List.set_cons_zero, List.set_cons_succ]
    refine wpAnyH_take (i := 12) (oi := ?oi20067) (v := ?v20067) ?hi20067 (by kernel_rfl) (by kernel_rfl) (by kernel_rfl) (fun _ _ _ h => h) (Or.inl ⟨?hw20067, ?hy20067⟩) (by assumption) ?rest20067
    case hi20067 => (simp only [List.getElem?_toArray, List.getElem?_cons_zero, List.getElem?_cons_succ]; rfl)
    case hw20067 => rfl
    case hy20067 => first | (intro wx hSw; obtain ⟨s1_, s2_⟩ := hSw; go_simp; done) | (intro wx hSw; obtain ⟨s1_, s2_⟩ := hSw; go_simp; with_reducible rfl)
    simp only [Act.put, List.setIfInBounds_toArray, List.set_cons_zero, List.set_cons_succ]
    refine wpAnyH_take (i := 14) (oi := ?oi20068) (v := ?v20068) ?hi20068 (by kernel_rfl) (by kernel_rfl) (by kernel_rfl) (fun _ _ _ h => h) (Or.inl ⟨?hw20068, ?hy20068⟩) (by assumption) ?rest20068
    case hi20068 => (simp only [List.getElem?_toArray, List.getElem?_cons_zero, List.getElem?_cons_succ]; rfl)
    case hw20068 => rfl
    case hy20068 => first | (intro wx hSw; obtain ⟨s1_, s2_⟩ := hSw; go_simp; done) | (intro wx hSw; obtain ⟨s1_, s2_⟩ := hSw; go_simp; with_reducible rfl)
    simp only [Act.put, List.setIfInBounds_toArray, List.set_cons_zero, List.set_cons_succ]
    refine wpAnyH_take (i := 15) (oi := ?oi20069) (v := ?v20069) ?hi20069 (by kernel_rfl) (by kernel_rfl) (by kernel_rfl) (fun _ _ _ h => h) (Or.inl ⟨?hw20069, ?hy20069⟩) (by assumption) ?rest20069
    case hi20069 => (simp only [List.getElem?_toArray, List.getElem?_cons_zero, List.getElem?_cons_succ]; rfl)
    case hw20069 => rfl
    case hy20069 => first | (intro wx hSw; obtain ⟨s1_, s2_⟩ := hSw; go_simp; done) | (intro wx hSw; obtain ⟨s1_, s2_⟩ := hSw; go_simp; with_reducible rfl)
    simp only [Act.put, List.setIfInBounds_toArray, List.set_cons_zero, List.set_cons_succ]
    refine wpAnyH_ready (rs := [13]) (by kernel_rfl) (by simp) ?_
    refine AllReadyH.cons rfl (fun K20070 hK20070 => ?_) AllReadyH.nil
    go_simp
    go_wp2_with (go_at_call 66; refine (unhide TO _ (below_drew X)).mono ?_; rintro e0 w' ⟨rfl, rfl⟩)
    refine hK20070.out _ _ ?hs20070 (fun hHeld20070 => ?_)
    case hs20070 => exact hHeld
    clear hHeld
    have hHeld := hHeld20070; clear hHeld20070 hK20070 K20070
    refine wpAnyH_take (i := 16) (oi := ?oi20071) (v := ?v20071) ?hi20071 (by kernel_rfl) (by kernel_rfl) (by kernel_rfl) (fun _ _ _ h => h) (Or.inl ⟨?hw20071, ?hy20071⟩) (by assumption) ?rest20071
    case hi20071 => (simp only [List.getElem?_toArray, List.getElem?_cons_zero, List.getElem?_cons_succ]; rfl)
    case hw20071 => rfl
    case hy20071 => first | (intro wx hSw; obtain ⟨s1_, s2_⟩ := hSw; go_simp; done) | (intro wx hSw; obtain ⟨s1_, s2_⟩ := hSw; go_simp; with_reducible rfl)
    simp only [Act.put, List.setIfInBounds_toArray, List.set_cons_zero, List.set_cons_succ]
    refine wpAnyH_take (i := 17) (oi := ?oi20072) (v := ?v20072) ?hi20072 (by kernel_rfl) (by kernel_rfl) (by kernel_rfl) (fun _ _ _ h => h) (Or.inl ⟨?hw20072, ?hy20072⟩) (by assumption) ?rest20072
    case hi20072 => (simp only [List.getElem?_toArray, List.getElem?_cons_zero, List.getElem?_cons_succ]; rfl)
    case hw20072 => rfl
    case hy20072 => first | (intro wx hSw; obtain ⟨s1_, s2_⟩ := hSw; go_simp; done) | (intro wx hSw; obtain ⟨s1_, s2_⟩ := hSw; go_simp; with_reducible rfl)
    simp only [Act.put, List.setIfInBounds_toArray, List.set_cons_zero, List.set_cons_succ]
    refine wpAnyH_take (i := 18) (oi := ?oi20073) (v := ?v20073) ?hi20073 (by kernel_rfl) (by kernel_rfl) (by kernel_rfl) (fun _ _ _ h => h) (Or.inl ⟨?hw20073, ?hy20073⟩) (by assumption) ?rest20073
    case hi20073 => (simp only [List.getElem?_toArray, List.getElem?_cons_zero, List.getElem?_cons_succ]; rfl)
    case hw20073 => rfl
    case hy20073 => first | (intro wx hSw; obtain ⟨s1_, s2_⟩ := hSw; go_simp; done) | (intro wx hSw; obtain ⟨s1_, s2_⟩ := hSw; go_simp; with_reducible rfl)
    simp only [Act.put, List.setIfInBounds_toArray, List.set_cons_zero, List.set_cons_succ]
    refine wpAnyH_done (by kernel_rfl) ?_ _
    refine NoPanic.normal ?_
    refine hrest _ _ ?_
    have H2 := hide ((unhide H).call (below_drew X))
    go_wp2
    refine unhide FT _ _ (by rfl) (unhide H2) hfit (by omega)
  · have hfit : fits n m = false := decide_eq_false fun x => x.2.elim h2 (fun y => h3 (htt.symm.trans y))
    have a5 : ¬ (tt : Int) = (m.lterm : Int) := by omega
    have a6 : ((tt : Int) == (m.lterm : Int)) = false := by rw [beq_eq_false_iff_ne]; exact a5
    have a7 : ((tt : Int) != (m.lterm : Int)) = true := by simp [bne, a6]
    clear htt
    go_wp2
    rename_i hrest
    refine wp_region_noPanic ?_
    refine wp_region_held_drew (S := (fun w' => w'.cell? ⟨mb, 4, none⟩ = some (.int .i64 (m.index : Int)) ∧ w'.cell? ⟨mb, 5, none⟩ = some (.int .i64 (m.lterm : Int)))) (by kernel_rfl) (⟨m4, m5⟩) (fun hHeld => ?_)
    refine wpAnyH_take (i := 0) (oi := ?oi20074) (v := ?v20074) ?hi20074 (by kernel_rfl) (by kernel_rfl) (by kernel_rfl) (fun _ _ _ h => h) (Or.inl ⟨?hw20074, ?hy20074⟩) (by assumption) ?rest20074
    case hi20074 => (simp only [List.getElem?_toArray, List.getElem?_cons_zero]; rfl)
    case hw20074 => rfl
    case hy20074 => first | (intro wx hSw; obtain ⟨s1_, s2_⟩ := hSw; go_simp; done) | (intro wx hSw; obtain ⟨s1_, s2_⟩ := hSw; go_simp; with_reducible rfl)
    simp only [Act.put, List.setIfInBounds_toArray, List.set_cons_zero, List.set_cons_succ]
    refine wpAnyH_take (i := 1) (oi := ?oi20075) (v := ?v20075) ?hi20075 (by kernel_rfl) (by kernel_rfl) (by kernel_rfl) (fun _ _ _ h => h) (Or.inl ⟨?hw20075, ?hy20075⟩) (by assumption) ?rest20075
    case hi20075 => (simp only [List.getElem?_toArray, List.getElem?_cons_zero, List.getElem?_cons_succ]; rfl)
    case hw20075 => rfl
    case hy20075 => first | (intro wx hSw; obtain ⟨s1_, s2_⟩ := hSw; go_simp; done) | (intro wx hSw; obtain ⟨s1_, s2_⟩ := hSw; go_simp; with_reducible rfl)
    simp only [Act.put, List.setIfInBounds_toArray, List.set_cons_zero, List.set_cons_succ]
    refine wpAnyH_take (i := 2) (oi := ?oi20076) (v := ?v20076) ?hi20076 (by kernel_rfl) (by kernel_rfl) (by kernel_rfl) (fun _ _ _ h => h) (Or.inl ⟨?hw20076, ?hy20076⟩) (by assumption) ?rest20076
    case hi20076 => (simp only [List.getElem?_toArray, List.getElem?_cons_zero, List.getElem?_cons_succ]; rfl)
    case hw20076 => rfl
    case hy20076 => first | (intro wx hSw; obtain ⟨s1_, s2_⟩ := hSw; go_simp; done) | (intro wx hSw; obtain ⟨s1_, s2_⟩ := hSw; go_simp; with_reducible rfl)
    simp only [Act.put, List.setIfInBounds_toArray, List.set_cons_zero, List.set_cons_succ]
    refine wpAnyH_ready (rs := [3]) (by kernel_rfl) (by simp) ?_
    refine AllReadyH.cons rfl (fun K20077 hK20077 => ?_) AllReadyH.nil
    go_simp
    go_wp2_with (go_at_call 52; refine (unhide LA _ (below_drew X)).mono ?_; rintro e0 w' ⟨rfl, rfl⟩)
    refine hK20077.out _ _ ?hs20077 (fun hHeld20077 => ?_)
    case hs20077 => exact hHeld
    clear hHeld
    have hHeld := hHeld20077; clear hHeld20077 hK20077 K20077
    refine wpAnyH_take (i := 4) (oi := ?oi20078) (v := ?v20078) ?hi20078 (by kernel_rfl) (by kernel_rfl) (by kernel_rfl) (fun _ _ _ h => h) (Or.inl ⟨?hw20078, ?hy20078⟩) (by assumption) ?rest20078
    case hi20078 => (simp only [List.getElem?_toArray, List.getElem?_cons_zero, List.getElem?_cons_succ]; rfl)
    case hw20078 => rfl
    case hy20078 => first | (intro wx hSw; obtain ⟨s1_, s2_⟩ := hSw; go_simp; done) | (intro wx hSw; obtain ⟨s1_, s2_⟩ := hSw; go_simp; with_reducible rfl)
    simp only [Act.put, List.setIfInBounds_toArray, List.set_cons_zero, List.set_cons_succ]
    refine wpAnyH_take (i := 5) (oi := ?oi20079) (v := ?v20079) ?hi20079 (by kernel_rfl) (by kernel_rfl) (by kernel_rfl) (fun _ _ _ h => h) (Or.inl ⟨?hw20079, ?hy20079⟩) (by assumption) ?rest20079
    case hi20079 => (simp only [List.getElem?_toArray, List.getElem?_cons_zero, List.getElem?_cons_succ]; rfl)
    case hw20079 => rfl
    case hy20079 => first | (intro wx hSw; obtain ⟨s1_, s2_⟩ := hSw; go_simp; done) | (intro wx hSw; obtain ⟨s1_, s2_⟩ := hSw; go_simp; with_reducible rfl)
    simp only [Act.put, List.setIfInBounds_toArray, List.set_cons_zero, List.set_cons_succ]
    refine wpAnyH_take (i := 6) (oi := ?oi20080) (v := ?v20080) ?hi20080 (by kernel_rfl) (by kernel_rfl) (by kernel_rfl) (fun _ _ _ h => h) (Or.inl ⟨?hw20080, ?hy20080⟩) (by assumption) ?rest20080
    case hi20080 => (simp only [List.getElem?_toArray, List.getElem?_cons_zero, List.getElem?_cons_succ]; rfl)
    case hw20080 => rfl
    case hy20080 => first | (intro wx hSw; obtain ⟨s1_, s2_⟩ := hSw; go_simp; done) | (intro wx hSw; obtain ⟨s1_, s2_⟩ := hSw; go_simp; with_reducible rfl)
    simp only [Act.put, List.setIfInBounds_toArray, List.set_cons_zero, List.set_cons_succ]
    refine wpAnyH_take (i := 7) (oi := ?oi20081) (v := ?v20081) ?hi20081 (by kernel_rfl) (by kernel_rfl) (by kernel_rfl) (fun _ _ _ h => h) (Or.inl ⟨?hw20081, ?hy20081⟩) (by assumption) ?rest20081
    case hi20081 => (simp only [List.getElem?_toArray, List.getElem?_cons_zero, List.getElem?_cons_succ]; rfl)
    case hw20081 => rfl
    case hy20081 => first | (intro wx hSw; obtain ⟨s1_, s2_⟩ := hSw; go_simp; done) | (intro wx hSw; obtain ⟨s1_, s2_⟩ := hSw; go_simp; with_reducible rfl)
    simp only [Act.put, List.setIfInBounds_toArray, List.set_cons_zero, List.set_cons_succ]
    refine wpAnyH_take (i := 8) (oi := ?oi20082) (v := ?v20082) ?hi20082 (by kernel_rfl) (by kernel_rfl) (by kernel_rfl) (fun _ _ _ h => h) (Or.inl ⟨?hw20082, ?hy20082⟩) (by assumption) ?rest20082
    case hi20082 => (simp only [List.getElem?_toArray, List.getElem?_cons_zero, List.getElem?_cons_succ]; rfl)
    case hw20082 => rfl
    case hy20082 => first | (intro wx hSw; obtain ⟨s1_, s2_⟩ := hSw; go_simp; done) | (intro wx hSw; obtain ⟨s1_, s2_⟩ := hSw; go_simp; with_reducible rfl)
    simp only [Act.put, List.setIfInBounds_toArray, List.set_cons_zero, List.set_cons_succ]
    refine wpAnyH_take (i := 9) (oi := ?oi20083) (v := ?v20083) ?hi20083 (by kernel_rfl) (by kernel_rfl) (by kernel_rfl) (fun _ _ _ h => h) (Or.inl ⟨?hw20083, ?hy20083⟩) (by assumption) ?rest20083
    case hi20083 => (simp only [List.getElem?_toArray, List.getElem?_cons_zero, List.getElem?_cons_succ]; rfl)
    case hw20083 => rfl
    case hy20083 => first | (intro wx hSw; obtain ⟨s1_, s2_⟩ := hSw; go_simp; done) | (intro wx hSw; obtain ⟨s1_, s2_⟩ := hSw; go_simp; with_reducible rfl)
    simp only [Act.put, List.setIfInBounds_toArray, List.set_cons_zero, List.set_cons_succ]
    refine wpAnyH_take (i := 10) (oi := ?oi20084) (v := ?v20084) ?hi20084 (by kernel_rfl) (by kernel_rfl) (by kernel_rfl) (fun _ _ _ h => h) (Or.inl ⟨?hw20084, ?hy20084⟩) (by assumption) ?rest20084
    case hi20084 => (simp only [List.getElem?_toArray, List.getElem?_cons_zero, List.getElem?_cons_succ]; rfl)
    case hw20084 => rfl
    case hy20084 => first | (intro wx hSw; obtain ⟨s1_, s2_⟩ := hSw; go_simp; done) | (intro wx hSw; obtain ⟨s1_, s2_⟩ := hSw; go_simp; with_reducible rfl)
    simp only [Act.put, List.setIfInBounds_toArray, List.set_cons_zero, List.set_cons_succ]
    refine wpAnyH_take (i := 11) (oi := ?oi20085) (v := ?v20085) ?hi20085 (by kernel_rfl) (by kernel_rfl) (by kernel_rfl) (fun _ _ _ h => h) (Or.inl ⟨?hw20085, ?hy20085⟩) (by assumption) ?rest20085
    case hi20085 => (simp only [List.getElem?_toArray, List.getElem?_cons_zero, List.getElem?_cons_succ]; rfl)
    case hw20085 => rfl
    case hy20085 => first | (intro wx hSw; obtain ⟨s1_, s2_⟩ := hSw; go_simp; done) | (intro wx hSw; obtain ⟨s1_, s2_⟩ := hSw; go_simp; with_reducible rfl)
    simp only [Act.put, List.setIfInBounds_toArray, List.set_cons_zero, List.set_cons_succ]
    refine wpAnyH_take (i := 12) (oi := ?oi20086) (v := ?v20086) ?hi20086 (by kernel_rfl) (by kernel_rfl) (by kernel_rfl) (fun _ _ _ h => h) (Or.inl ⟨?hw20086, ?hy20086⟩) (by assumption) ?rest20086
    case hi20086 => (simp only [List.getElem?_toArray, List.getElem?_cons_zero, List.getElem?_cons_succ]; rfl)
    case hw20086 => rfl
    case hy20086 => first | (intro wx hSw; obtain ⟨s1_, s2_⟩ := hSw; go_simp; done) | (intro wx hSw; obtain ⟨s1_, s2_⟩ := hSw; go_simp; with_reducible rfl)
    simp only [Act.put, List.setIfInBounds_toArray, List.set_cons_zero, List.set_cons_succ]
    refine wpAnyH_take (i := 14) (oi := ?oi20087) (v := ?v20087) ?hi20087 (by kernel_rfl) (by kernel_rfl) (by kernel_rfl) (fun _ _ _ h => h) (Or.inl ⟨?hw20087, ?hy20087⟩) (by assumption) ?rest20087
    case hi20087 => (simp only [List.getElem?_toArray, List.getElem?_cons_zero, List.getElem?_cons_succ]; rfl)
    case hw20087 => rfl
    case hy20087 => first | (intro wx hSw; obtain ⟨s1_, s2_⟩ := hSw; go_simp; done) | (intro wx hSw; obtain ⟨s1_, s2_⟩ := hSw; go_simp; with_reducible rfl)
    simp only [Act.put, List.setIfInBounds_toArray, List.set_cons_zero, List.set_cons_succ]
    refine wpAnyH_take (i := 15) (oi := ?oi20088) (v := ?v20088) ?hi20088 (by kernel_rfl) (by kernel_rfl) (by kernel_rfl) (fun _ _ _ h => h) (Or.inl ⟨?hw20088, ?hy20088⟩) (by assumption) ?rest20088
    case hi20088 => (simp only [List.getElem?_toArray, List.getElem?_cons_zero, List.getElem?_cons_succ]; rfl)
    case hw20088 => rfl
    case hy20088 => first | (intro wx hSw; obtain ⟨s1_, s2_⟩ := hSw; go_simp; done) | (intro wx hSw; obtain ⟨s1_, s2_⟩ := hSw; go_simp; with_reducible rfl)
    simp only [Act.put, List.setIfInBounds_toArray, List.set_cons_zero, List.set_cons_succ]
    refine wpAnyH_ready (rs := [13]) (by kernel_rfl) (by simp) ?_
    refine AllReadyH.cons rfl (fun K20089 hK20089 => ?_) AllReadyH.nil
    go_simp
    go_wp2_with (go_at_call 66; refine (unhide TO _ (below_drew X)).mono ?_; rintro e0 w' ⟨rfl, rfl⟩)
    refine hK20089.out _ _ ?hs20089 (fun hHeld20089 => ?_)
    case hs20089 => exact hHeld
    clear hHeld
    have hHeld := hHeld20089; clear hHeld20089 hK20089 K20089
    refine wpAnyH_take (i := 16) (oi := ?oi20090) (v := ?v20090) ?hi20090 (by kernel_rfl) (by kernel_rfl) (by kernel_rfl) (fun _ _ _ h => h) (Or.inl ⟨?hw20090, ?hy20090⟩) (by assumption) ?rest20090
    case hi20090 => (simp only [List.getElem?_toArray, List.getElem?_cons_zero, List.getElem?_cons_succ]; rfl)
    case hw20090 => rfl
    case hy20090 => first | (intro wx hSw; obtain ⟨s1_, s2_⟩ := hSw; go_simp; done) | (intro wx hSw; obtain ⟨s1_, s2_⟩ := hSw; go_simp; with_reducible rfl)
    simp only [Act.put, List.setIfInBounds_toArray, List.set_cons_zero, List.set_cons_succ]
    refine wpAnyH_take (i := 17) (oi := ?oi20091) (v := ?v20091) ?hi20091 (by kernel_rfl) (by kernel_rfl) (by kernel_rfl) (fun _ _ _ h => h) (Or.inl ⟨?hw20091, ?hy20091⟩) (by assumption) ?rest20091
    case hi20091 => (simp only [List.getElem?_toArray, List.getElem?_cons_zero, List.getElem?_cons_succ]; rfl)
    case hw20091 => rfl
    case hy20091 => first | (intro wx hSw; obtain ⟨s1_, s2_⟩ := hSw; go_simp; done) | (intro wx hSw; obtain ⟨s1_, s2_⟩ := hSw; go_simp; with_reducible rfl)
    simp only [Act.put, List.setIfInBounds_toArray, List.set_cons_zero, List.set_cons_succ]
    refine wpAnyH_take (i := 18) (oi := ?oi20092) (v := ?v20092) ?hi20092 (by kernel_rfl) (by kernel_rfl) (by kernel_rfl) (fun _ _ _ h => h) (Or.inl ⟨?hw20092, ?hy20092⟩) (by assumption) ?rest20092
    case hi20092 => (simp only [List.getElem?_toArray, List.getElem?_cons_zero, List.getElem?_cons_succ]; rfl)
    case hw20092 => rfl
    case hy20092 => first | (intro wx hSw; obtain ⟨s1_, s2_⟩ := hSw; go_simp; done) | (intro wx hSw; obtain ⟨s1_, s2_⟩ := hSw; go_simp; with_reducible rfl)
    simp only [Act.put, List.setIfInBounds_toArray, List.set_cons_zero, List.set_cons_succ]
    refine wpAnyH_done (by kernel_rfl) ?_ _
    refine NoPanic.normal ?_
    refine hrest _ _ ?_
    have HY := hide (follow_no ht hfit)
    obtain ⟨j, hj⟩ : ∃ j, m.index = j + 1 := ⟨m.index - 1, by omega⟩
    have n4 : X.drew.cell? ⟨mb, 4, none⟩ = some (.int .i64 ((j + 1 : Nat) : Int)) := by rw [← hj]; exact m4
    have e1 : IntKind.i64.wrap (((j + 1 : Nat) : Int) - 1) = (j : Int) := (IntWalk.i64_in _ (by omega)).trans (by omega)
    have ew : IntKind.i64.wrap (j : Int) = (j : Int) := IntWalk.i64_in _ (by omega)
    obtain ⟨mm, hmm⟩ : ∃ mm, min n.log.length j = mm := ⟨_, rfl⟩
    have qq1 : min (n.log.length : Int) (j : Int) = (mm : Int) := by omega
    have HMM := hide (show min n.last (m.index - 1) = mm by rw [hj]; exact hmm)
    have kf := fun i => (unhide H).kB.froz i
    have k4 := (unhide H).kB.cell 4
    simp at k4
    have H2 := hide (((unhide H).told (k' := backK mm false n.form) 4 (.int .i64 (mm : Int)) rfl).call (below_drew _) |>.call (below_drew _))
    clear hmm hfit
    go_wp2
    go_region_held3 (fun w' => w'.cell? ⟨mb, 4, none⟩ = some (.int .i64 ((j + 1 : Nat) : Int))) (first | exact (World.cell?_setCell_far _ _ _ _ hne2).trans n4 | go_keep) ((go_at_call 52; refine (unhide LA _ ((below_drew X).trans ((below_drew _).mono (by simp)))).mono ?_; rintro e0 w' ⟨rfl, rfl⟩))
    go_wp2
    refine wp_goto (hJ _ _ (JFol.intro _ (followN n) q' (backK mm false n.form) rfl rfl (by rfl) ?_ ?_ rfl))
    · exact unhide H2
    · rw [unhide HY]
      show (_, [backM n m 4 (min n.last (m.index - 1)) false n.form]) = _
      rw [unhide HMM]
      rfl
theorem follow_fits {r0 r1 c2 r3 r4 c5 R0 : Code} (R : Code) (hc : Try.f55.body = some (.seq r0 (.scope (.seq r1 (.seq c2 (.seq r3 (.seq r4 (.seq c5 R0)))))))) (J : Nat → Act → World → Prop) (b : Nat) (q q' : Q5) (sv : Value) (n : Nd) (S : List (Ms × Value)) (m : Ms) (p : Option Addr) (c : Nat) (mb bb : Nat) (W X : World) (a : Act) (ha : a = ⟨#[ptr b 0, .agg (msA m (.slice p m.ents.length c)), undef, ptr mb 0, ptr bb 0, a.tmps.getD 5 undef, a.tmps.getD 6 undef, a.tmps.getD 7 undef, a.tmps.getD 8 undef, a.tmps.getD 9 undef, a.tmps.getD 10 undef, a.tmps.getD 11 undef, a.tmps.getD 12 undef, a.tmps.getD 13 undef, a.tmps.getD 14 undef, a.tmps.getD 15 undef, a.tmps.getD 16 undef, a.tmps.getD 17 undef, a.tmps.getD 18 undef, a.tmps.getD 19 undef, a.tmps.getD 20 undef, a.tmps.getD 21 undef, a.tmps.getD 22 undef, a.tmps.getD 23 undef, a.tmps.getD 24 undef, a.tmps.getD 25 undef, a.tmps.getD 26 undef, a.tmps.getD 27 undef, a.tmps.getD 28 undef, a.tmps.getD 29 undef, a.tmps.getD 30 undef, a.tmps.getD 31 undef, a.tmps.getD 32 undef, a.tmps.getD 33 undef, a.tmps.getD 34 undef, a.tmps.getD 35 undef, a.tmps.getD 36 undef, a.tmps.getD 37 undef, a.tmps.getD 38 undef, a.tmps.getD 39 undef, a.tmps.getD 40 undef, a.tmps.getD 41 undef, a.tmps.getD 42 undef, a.tmps.getD 43 undef, a.tmps.getD 44 undef, a.tmps.getD 45 undef, a.tmps.getD 46 undef, a.tmps.getD 47 undef, a.tmps.getD 48 undef, a.tmps.getD 49 undef, a.tmps.getD 50 undef, a.tmps.getD 51 undef, a.tmps.getD 52 undef, a.tmps.getD 53 undef, a.tmps.getD 54 undef, a.tmps.getD 55 undef, a.tmps.getD 56 undef, a.tmps.getD 57 undef, a.tmps.getD 58 undef, a.tmps.getD 59 undef, a.tmps.getD 60 undef, a.tmps.getD 61 undef, a.tmps.getD 62 undef, a.tmps.getD 63 undef, a.tmps.getD 64 undef, a.tmps.getD 65 undef, a.tmps.getD 66 undef, a.tmps.getD 67 undef, a.tmps.getD 68 undef, a.tmps.getD 69 undef, a.tmps.getD 70 undef, a.tmps.getD 71 undef, a.tmps.getD 72 undef, a.tmps.getD 73 undef, a.tmps.getD 74 undef, a.tmps.getD 75 undef, a.tmps.getD 76 undef, a.tmps.getD 77 undef, a.tmps.getD 78 undef, a.tmps.getD 79 undef, a.tmps.getD 80 undef, a.tmps.getD 81 undef, a.tmps.getD 82 undef, a.tmps.getD 83 undef, a.tmps.getD 84 undef, a.tmps.getD 85 undef, a.tmps.getD 86 undef], []⟩) (FT : ∀ a X, a = ⟨#[ptr b 0, .agg (msA m (.slice p m.ents.length c)), undef, ptr mb 0, ptr bb 0, a.tmps.getD 5 undef, a.tmps.getD 6 undef, a.tmps.getD 7 undef, a.tmps.getD 8 undef, a.tmps.getD 9 undef, a.tmps.getD 10 undef, a.tmps.getD 11 undef, a.tmps.getD 12 undef, a.tmps.getD 13 undef, a.tmps.getD 14 undef, a.tmps.getD 15 undef, a.tmps.getD 16 undef, a.tmps.getD 17 undef, a.tmps.getD 18 undef, a.tmps.getD 19 undef, a.tmps.getD 20 undef, a.tmps.getD 21 undef, a.tmps.getD 22 undef, a.tmps.getD 23 undef, a.tmps.getD 24 undef, a.tmps.getD 25 undef, a.tmps.getD 26 undef, a.tmps.getD 27 undef, a.tmps.getD 28 undef, a.tmps.getD 29 undef, a.tmps.getD 30 undef, a.tmps.getD 31 undef, a.tmps.getD 32 undef, a.tmps.getD 33 undef, a.tmps.getD 34 undef, a.tmps.getD 35 undef, a.tmps.getD 36 undef, a.tmps.getD 37 undef, a.tmps.getD 38 undef, a.tmps.getD 39 undef, a.tmps.getD 40 undef, a.tmps.getD 41 undef, a.tmps.getD 42 undef, a.tmps.getD 43 undef, a.tmps.getD 44 undef, a.tmps.getD 45 undef, a.tmps.getD 46 undef, a.tmps.getD 47 undef, a.tmps.getD 48 undef, a.tmps.getD 49 undef, a.tmps.getD 50 undef, a.tmps.getD 51 undef, a.tmps.getD 52 undef, a.tmps.getD 53 undef, a.tmps.getD 54 undef, a.tmps.getD 55 undef, a.tmps.getD 56 undef, a.tmps.getD 57 undef, a.tmps.getD 58 undef, a.tmps.getD 59 undef, a.tmps.getD 60 undef, a.tmps.getD 61 undef, a.tmps.getD 62 undef, a.tmps.getD 63 undef, a.tmps.getD 64 undef, a.tmps.getD 65 undef, a.tmps.getD 66 undef, a.tmps.getD 67 undef, a.tmps.getD 68 undef, a.tmps.getD 69 undef, a.tmps.getD 70 undef, a.tmps.getD 71 undef, a.tmps.getD 72 undef, a.tmps.getD 73 undef, a.tmps.getD 74 undef, a.tmps.getD 75 undef, a.tmps.getD 76 undef, a.tmps.getD 77 undef, a.tmps.getD 78 undef, a.tmps.getD 79 undef, a.tmps.getD 80 undef, a.tmps.getD 81 undef, a.tmps.getD 82 undef, a.tmps.getD 83 undef, a.tmps.getD 84 undef, a.tmps.getD 85 undef, a.tmps.getD 86 undef], []⟩ → Fol b q' sv (followN n) S m (.slice p m.ents.length c) (backK n.last false n.form) mb bb (Foot b q sv) W X → fits n m = true → m.index ≤ n.log.length → R.wp Try.prog (Exit.jumps J (bodyPost Try.prog Try.f55 fun e W' => (∃ v, e = .returned v) ∧ Done b (followM n m).1 S (followM n m).2 (Foot b q sv) W W')) a X) (hJ : ∀ a Y, JFol b sv n S m (.slice p m.ents.length c) mb bb (Foot b q sv) W 0 0 a Y → J 0 a Y) (h : Fol b q' sv (followN n) S m (.slice p m.ents.length c) (backK n.last false n.form) mb bb (Foot b q sv) W X) (f : Fit n) (ht : ¬ m.term < n.term) (he : m.ents.length ≤ 400000) (hd : Small m.ents) (hcm : m.commit ≤ 1099511627776) (hix : m.index ≤ 1099511627776) (hS : S.length ≤ 90000) :
    (Code.seq c5 R).wp Try.prog (Exit.jumps J (bodyPost Try.prog Try.f55 fun e W' => (∃ v, e = .returned v) ∧ Done b (followM n m).1 S (followM n m).2 (Foot b q sv) W W')) a X := by
  rw [ha]
  exact follow_fits0 R hc J b q q' sv n S m p c mb bb W X (fun i => a.tmps.getD i undef) FT hJ h f ht he hd hcm hix hS
end Go.Proofs.Ytbojfiflemmgaaa
