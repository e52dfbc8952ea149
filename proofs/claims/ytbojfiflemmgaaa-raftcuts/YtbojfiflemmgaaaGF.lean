/-
  Package raft's stand, whole.
-/
import Derived.Test.YtbojfiflemmgaaaGE
namespace Go.Proofs.Ytbojfiflemmgaaa
open Go.RowKit Go.Shelf
set_option linter.unusedSimpArgs false
set_option linter.unusedVariables false

set_option maxRecDepth 100000 in
set_option maxHeartbeats 8000000 in
theorem stand_any (b : Nat) (q : Q5) (sv : Value) (n : Nd) (S : List (Ms × Value)) (W : World) (h : St b q sv n S W) (f : Fit n) (ht : n.term < 1099511627776) (hck : n.clock ≤ 1000000000000) (hl : n.log.length < 500000) (hS : S.length ≤ 80000) :
    Calls Try.prog 61 #[ptr b 0] W fun e W' => (∃ v, e = .returned v) ∧ Done b (standM n).1 S (standM n).2 (Foot b q sv) W W' := by
  have h0 := h.call (below_new W (.cells #[ptr b 0] 75))
  have hb0 := Blk.new W #[ptr b 0] 75
  have hn0 : ¬ Foot b q sv W.heap.size := fun hf => by have := h.flt hf; omega
  have hnb : W.heap.size ≠ b := fun e => hn0 (.inl e)
  have hnb2 : b ≠ W.heap.size := fun e => hnb e.symm
  have hK0 := Keep.call (Foot b q sv) (below_new W (.cells #[ptr b 0] 75))
  have hct : (nI (n.term + 1)) = .int .i64 ((n.term : Int) + 1) := rfl
  have h1 := (h0.put { n with term := n.term + 1 } 1 (nI (n.term + 1)) rfl rfl rfl rfl rfl rfl).put (st1 n) 5 (.int .i64 1) rfl rfl rfl rfl rfl rfl
  have hb1 := (hb0.far (j := 1) (x := nI (n.term + 1)) hnb).far (j := 5) (x := .int .i64 1) hnb
  have hK1 := (hK0.trans (Keep.set (j := 1) (v := nI (n.term + 1)) (St.fb b q sv))).trans (Keep.set (j := 5) (v := .int .i64 1) (St.fb b q sv))
  rw [hct] at h1 hb1 hK1
  have c1 := h0.c1
  have c5 := h0.c5
  have fz := h0.fz
  have hlt := h0.blk.lt
  have hid := f.id
  have hsz := f.size
  have e1 : IntKind.i64.wrap ((n.term : Int) + 1) = (n.term : Int) + 1 := IntWalk.i64_in _ (by omega)
  have b0_ := hb0.cell 0
  simp at b0_
  have HF := hide f
  clear h h0 hb0 hK0 hct f
  refine (callsIn_wide (n := 4)).1 ?_
  refine callsIn_of_wp_marks Try.func61 rfl trivial ?_ rfl
  simp only [Try.ntmps61, List.size_toArray, List.length_cons, List.length_nil, Nat.reduceAdd, Nat.reduceSub, Array.replicate_succ, Array.replicate_zero, List.push_toArray, List.append_toArray, List.nil_append, List.cons_append]
  refine wpIn_wide.2 ?_
  go_wp2
  generalize ((W.alloc (.cells #[ptr b 0] 75)).setCell ⟨b, 1, none⟩ (.int .i64 ((n.term : Int) + 1))).setCell ⟨b, 5, none⟩ (.int .i64 1) = X1 at h1 hb1 hK1
  have c0_ := h1.c0
  have c2_ := h1.c2
  have fz_ := h1.fz
  have lt_ := h1.blk.lt
  have x0_ := hb1.cell 0
  simp at x0_
  clear c1 c5 fz hlt b0_
  have h2 : St b q sv (st2 n) S (X1.setCell ⟨b, 2, none⟩ (.int .i64 (n.id : Int))).drew := (h1.put (st2 n) 2 (.int .i64 (n.id : Int)) rfl rfl rfl rfl rfl rfl).call (below_drew _)
  have hb2 : Blk W.heap.size #[ptr b 0] 75 (X1.setCell ⟨b, 2, none⟩ (.int .i64 (n.id : Int))).drew := (hb1.far hnb).below (below_drew _)
  have hK2 : Keep W (X1.setCell ⟨b, 2, none⟩ (.int .i64 (n.id : Int))).drew (Foot b q sv) (Foot b q sv) := (hK1.trans (Keep.set (St.fb b q sv))).trans (Keep.call _ (below_drew _))
  go_region_held3 (fun w' => w'.cell? ⟨W.heap.size, 0, none⟩ = some (ptr b 0) ∧ w'.cell? ⟨b, 0, none⟩ = some (.int .i64 (n.id : Int))) (first | exact ⟨(World.cell?_setCell_far _ _ _ _ hnb2).trans x0_, cset (by decide) c0_⟩ | go_keep) (fail)
  generalize (X1.setCell ⟨b, 2, none⟩ (.int .i64 (n.id : Int))).drew = X2 at h2 hb2 hK2
  have HN2 := hide (show ¬ Foot b q sv W.heap.size from hn0)
  have c7 := h2.c7
  obtain ⟨p7, cap7, hv7⟩ := own_slice h2.rows.votes
  rw [hv7] at c7
  have gz_ := h2.fz
  have gl_ := h2.blk.lt
  have y0_ := hb2.cell 0
  simp at y0_
  have H2 := hide h2
  have HB2 := hide hb2
  have HK2 := hide hK2
  have AL := hide (fun W => all_bool_any n.votes.length false W (by omega))
  clear h1 hb1 hK1 c0_ c2_ fz_ lt_ x0_ h2 hb2 hK2 hv7
  go_wp2
  rename_i hrest
  refine wp_region_noPanic ?_
  refine wp_region_held_drew (S := (fun w' => w'.cell? ⟨W.heap.size, 0, none⟩ = some (ptr b 0))) (by kernel_rfl) (((unhide HB2).below (below_drew _)).cell 0) (fun hHeld => ?_)
  refine wpAnyH_take (i := 0) (oi := ?oi20001) (v := ?v20001) ?hi20001 (by kernel_rfl) (by kernel_rfl) (by kernel_rfl) (fun _ _ _ h => h) (Or.inl ⟨?hw20001, ?hy20001⟩) (by assumption) ?rest20001
  case hi20001 => (simp only [List.getElem?_toArray, List.getElem?_cons_zero]; rfl)
  case hw20001 => rfl
  case hy20001 => first | (intro wx hSw; go_simp; done) | (intro wx hSw; go_simp; with_reducible rfl)
  simp only [Act.put, List.setIfInBounds_toArray, List.set_cons_zero, List.set_cons_succ]
  refine wpAnyH_take (i := 1) (oi := ?oi20002) (v := ?v20002) ?hi20002 (by kernel_rfl) (by kernel_rfl) (by kernel_rfl) (fun _ _ _ h => h) (Or.inl ⟨?hw20002, ?hy20002⟩) (by assumption) ?rest20002
  case hi20002 => (simp only [List.getElem?_toArray, List.getElem?_cons_zero, List.getElem?_cons_succ]; rfl)
  case hw20002 => rfl
  case hy20002 => first | (intro wx hSw; go_simp; done) | (intro wx hSw; go_simp; with_reducible rfl)
  simp only [Act.put, List.setIfInBounds_toArray, List.set_cons_zero, List.set_cons_succ]
  refine wpAnyH_take (i := 2) (oi := ?oi20003) (v := ?v20003) ?hi20003 (by kernel_rfl) (by kernel_rfl) (by kernel_rfl) (fun _ _ _ h => h) (Or.inl ⟨?hw20003, ?hy20003⟩) (by assumption) ?rest20003
  case hi20003 => (simp only [List.getElem?_toArray, List.getElem?_cons_zero, List.getElem?_cons_succ]; rfl)
  case hw20003 => rfl
  case hy20003 => first | (intro wx hSw; go_simp; done) | (intro wx hSw; go_simp; with_reducible rfl)
  simp only [Act.put, List.setIfInBounds_toArray, List.set_cons_zero, List.set_cons_succ]
  refine wpAnyH_take (i := 3) (oi := ?oi20004) (v := ?v20004) ?hi20004 (by kernel_rfl) (by kernel_rfl) (by kernel_rfl) (fun _ _ _ h => h) (Or.inl ⟨?hw20004, ?hy20004⟩) (by assumption) ?rest20004
  case hi20004 => (simp only [List.getElem?_toArray, List.getElem?_cons_zero, List.getElem?_cons_succ]; rfl)
  case hw20004 => rfl
  case hy20004 => first | (intro wx hSw; go_simp; done) | (intro wx hSw; go_simp; with_reducible rfl)
  simp only [Act.put, List.setIfInBounds_toArray, List.set_cons_zero, List.set_cons_succ]
  refine wpAnyH_take (i := 4) (oi := ?oi20005) (v := ?v20005) ?hi20005 (by kernel_rfl) (by kernel_rfl) (by kernel_rfl) (fun _ _ _ h => h) (Or.inl ⟨?hw20005, ?hy20005⟩) (by assumption) ?rest20005
  case hi20005 => (simp only [List.getElem?_toArray, List.getElem?_cons_zero, List.getElem?_cons_succ]; rfl)
  case hw20005 => rfl
  case hy20005 => first | (intro wx hSw; go_simp; done) | (intro wx hSw; go_simp; with_reducible rfl)
  simp only [Act.put, List.setIfInBounds_toArray, List.set_cons_zero, List.set_cons_succ]
  refine wpAnyH_ready (rs := [5]) (by kernel_rfl) (by simp) ?_
  refine AllReadyH.cons rfl (fun K20006 hK20006 => ?_) AllReadyH.nil
  go_simp
  refine hK20006.out _ _ ?hs20006 (fun hHeld20006 => ?_)
  case hs20006 => exact hHeld
  clear hHeld
  have hHeld := hHeld20006; clear hHeld20006 hK20006 K20006
  refine wpAnyH_take (i := 6) (oi := ?oi20007) (v := ?v20007) ?hi20007 (by kernel_rfl) (by kernel_rfl) (by kernel_rfl) (fun _ _ _ h => h) (Or.inl ⟨?hw20007, ?hy20007⟩) (by assumption) ?rest20007
  case hi20007 => (simp only [List.getElem?_toArray, List.getElem?_cons_zero, List.getElem?_cons_succ]; rfl)
  case hw20007 => rfl
  case hy20007 => first | (intro wx hSw; go_simp; done) | (intro wx hSw; go_simp; with_reducible rfl)
  simp only [Act.put, List.setIfInBounds_toArray, List.set_cons_zero, List.set_cons_succ]
  refine wpAnyH_ready (rs := [7]) (by kernel_rfl) (by simp) ?_
  refine AllReadyH.cons rfl (fun K20008 hK20008 => ?_) AllReadyH.nil
  go_simp
  go_wp2_with (go_at_call 36; refine (unhide AL _).mono ?_; rintro e W2 ⟨u2, rfl, ho2, hn2, hb2⟩; have K8 := ((unhide H2).call (below_drew _)).call hb2; have k8_ := K8.c7; have kf_ := K8.fz; have kl_ := K8.blk.lt; obtain ⟨p2, cp2, hu2⟩ := own_slice ho2; subst hu2; have kb_ := (((unhide HB2).below (below_drew _)).below hb2))
  refine hK20008.out _ _ ?hs20008 (fun hHeld20008 => ?_)
  case hs20008 => exact kb_.cell 0
  clear hHeld
  have hHeld := hHeld20008; clear hHeld20008 hK20008 K20008
  refine wpAnyH_take (i := 8) (oi := ?oi20009) (v := ?v20009) ?hi20009 (by kernel_rfl) (by kernel_rfl) (by kernel_rfl) (fun _ _ _ h => h) (Or.inl ⟨?hw20009, ?hy20009⟩) (by assumption) ?rest20009
  case hi20009 => (simp only [List.getElem?_toArray, List.getElem?_cons_zero, List.getElem?_cons_succ]; rfl)
  case hw20009 => rfl
  case hy20009 => first | (intro wx hSw; go_simp; done) | (intro wx hSw; go_simp; with_reducible rfl)
  simp only [Act.put, List.setIfInBounds_toArray, List.set_cons_zero, List.set_cons_succ]
  refine wpAnyH_take (i := 9) (oi := ?oi20010) (v := ?v20010) ?hi20010 (by kernel_rfl) (by kernel_rfl) (by kernel_rfl) (fun _ _ _ h => h) (Or.inl ⟨?hw20010, ?hy20010⟩) (by assumption) ?rest20010
  case hi20010 => (simp only [List.getElem?_toArray, List.getElem?_cons_zero, List.getElem?_cons_succ]; rfl)
  case hw20010 => rfl
  case hy20010 => first | (intro wx hSw; go_simp; done) | (intro wx hSw; go_simp; with_reducible rfl)
  simp only [Act.put, List.setIfInBounds_toArray, List.set_cons_zero, List.set_cons_succ]
  refine wpAnyH_take (i := 10) (oi := ?oi20011) (v := ?v20011) ?hi20011 (by kernel_rfl) (by kernel_rfl) (by kernel_rfl) (fun _ _ _ h => h) (Or.inl ⟨?hw20011, ?hy20011⟩) (by assumption) ?rest20011
  case hi20011 => (simp only [List.getElem?_toArray, List.getElem?_cons_zero, List.getElem?_cons_succ]; rfl)
  case hw20011 => rfl
  case hy20011 => first | (intro wx hSw; go_simp; done) | (intro wx hSw; go_simp; with_reducible rfl)
  simp only [Act.put, List.setIfInBounds_toArray, List.set_cons_zero, List.set_cons_succ]
  refine wpAnyH_ready (rs := [11]) (by kernel_rfl) (by simp) ?_
  refine AllReadyH.cons rfl (fun K20012 hK20012 => ?_) AllReadyH.nil
  go_simp
  refine hK20012.out _ _ ?hs20012 (fun hHeld20012 => ?_)
  case hs20012 => exact (kb_.far hnb).cell 0
  clear hHeld
  have hHeld := hHeld20012; clear hHeld20012 hK20012 K20012
  refine wpAnyH_done (by kernel_rfl) ?_ _
  refine NoPanic.normal ?_
  refine hrest _ _ ?_
  obtain ⟨N1, N2⟩ := ((unhide H2).call (below_drew _)).votes_put hb2 (l := List.replicate n.votes.length false) (by rw [List.length_replicate]; exact ho2)
  have hKX := (unhide HK2).trans ((Keep.call _ (below_drew _)).trans N2)
  have hnf : ¬ Foot b { q with vv := .slice p2 n.votes.length cp2 } sv W.heap.size := (((Keep.call _ (below_drew _)).trans N2).block W.heap.size (unhide HB2).lt (unhide HN2)).2
  exact stand_tail rfl b W.heap.size _ sv n S (Foot b q sv) W _ N1 (kb_.far hnb) hnf hKX (unhide HF) ht hck hl hS
end Go.Proofs.Ytbojfiflemmgaaa
