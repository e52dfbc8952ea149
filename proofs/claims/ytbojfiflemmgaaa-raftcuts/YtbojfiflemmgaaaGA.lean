/-
  Package raft's add, whole.
-/
import Derived.Test.YtbojfiflemmgaaaG9
namespace Go.Proofs.Ytbojfiflemmgaaa
open Go.RowKit
set_option linter.unusedSimpArgs false
set_option linter.unusedVariables false

set_option maxRecDepth 100000 in
set_option maxHeartbeats 8000000 in
theorem add_any (b : Nat) (q : Q5) (sv : Value) (n : Nd) (S : List (Ms × Value)) (d : ByteArray) (W : World) (h : St b q sv n S W) (f : Fit n) (hnx : NextOk n) (hl : n.log.length < 500000) (hd : d.size ≤ 1048576) (hS : S.length ≤ 90000) :
    Calls Try.prog 35 #[ptr b 0, .string d] W fun e W' => (∃ v, e = .returned v) ∧ Done b (addN n d) S (spreadM (addN n d)) (Foot b q sv) W W' := by
  have H := hide h
  have c1 := h.c1
  have c3 := h.c3
  have fz := h.fz
  have hlt := h.blk.lt
  have HF := hide f
  have HNX := hide hnx
  clear h f hnx
  go_enter Try.func35, Try.ntmps35
  go_wp2
  rename_i hrest
  refine wp_region_noPanic ?_
  refine wp_region_held_drew (S := (fun w' => w'.cell? ⟨b, 1, none⟩ = some (.int .i64 (n.term : Int)))) (by kernel_rfl) ((c1 : W.drew.cell? _ = _)) (fun hHeld => ?_)
  refine wpAnyH_take (i := 0) (oi := ?oi20001) (v := ?v20001) ?hi20001 (by kernel_rfl) (by kernel_rfl) (by kernel_rfl) (fun _ _ _ h => h) (Or.inl ⟨?hw20001, ?hy20001⟩) (by assumption) ?rest20001
  case hi20001 => (simp only [List.getElem?_toArray, List.getElem?_cons_zero]; rfl)
  case hw20001 => rfl
  case hy20001 => first | (intro wx hSw; go_simp; done) | (intro wx hSw; go_simp; with_reducible rfl)
  simp only [Act.put, List.setIfInBounds_toArray, List.set_cons_zero, List.set_cons_succ]
  refine wpAnyH_take (i := 1) (oi := ?oi20002) (v := ?v20002) ?hi20002 (by kernel_rfl) (by kernel_rfl) (by kernel_rfl) (fun _ _ _ h => h) (Or.inl ⟨?hw20002, ?hy20002⟩) (by assumption) ?rest20002
  case hi20002 => (simp only [List.getElem?_toArray, List.getElem?_cons_zero, List.getElem?_cons_succ]; rfl)
  case hw20002 => rfl
  case hy20002 => first | (intro wx hSw; go_simp; done) | (intro wx hSw; go_simp; with_reducible rfl)
  simp only [Act.put, List.setIfInBounds_toArray, List.set_cons_zero, List.set_cons_succ]
  refine wpAnyH_take (i := 2) (oi := ?oi20003) (v := ?v20003) ?hi20003 (by kernel_rfl) (by kernel_rfl) (by kernel_rfl) (fun _ _ _ h => h) (Or.inl ⟨?hw20003, ?hy20003⟩) (by assumption) ?rest20003
  case hi20003 => (simp only [List.getElem?_toArray, List.getElem?_cons_zero, List.getElem?_cons_succ]; rfl)
  case hw20003 => rfl
  case hy20003 => first | (intro wx hSw; go_simp; done) | (intro wx hSw; go_simp; with_reducible rfl)
  simp only [Act.put, List.setIfInBounds_toArray, List.set_cons_zero, List.set_cons_succ]
  refine wpAnyH_take (i := 3) (oi := ?oi20004) (v := ?v20004) ?hi20004 (by kernel_rfl) (by kernel_rfl) (by kernel_rfl) (fun _ _ _ h => h) (Or.inl ⟨?hw20004, ?hy20004⟩) (by assumption) ?rest20004
  case hi20004 => (simp only [List.getElem?_toArray, List.getElem?_cons_zero, List.getElem?_cons_succ]; rfl)
  case hw20004 => rfl
  case hy20004 => first | (intro wx hSw; go_simp; done) | (intro wx hSw; go_simp; with_reducible rfl)
  simp only [Act.put, List.setIfInBounds_toArray, List.set_cons_zero, List.set_cons_succ]
  refine wpAnyH_take (i := 4) (oi := ?oi20005) (v := ?v20005) ?hi20005 (by kernel_rfl) (by kernel_rfl) (by kernel_rfl) (fun _ _ _ h => h) (Or.inl ⟨?hw20005, ?hy20005⟩) (by assumption) ?rest20005
  case hi20005 => (simp only [List.getElem?_toArray, List.getElem?_cons_zero, List.getElem?_cons_succ]; rfl)
  case hw20005 => rfl
  case hy20005 => first | (intro wx hSw; go_simp; done) | (intro wx hSw; go_simp; with_reducible rfl)
  simp only [Act.put, List.setIfInBounds_toArray, List.set_cons_zero, List.set_cons_succ]
  refine wpAnyH_take (i := 6) (oi := ?oi20006) (v := ?v20006) ?hi20006 (by kernel_rfl) (by kernel_rfl) (by kernel_rfl) (fun _ _ _ h => h) (Or.inl ⟨?hw20006, ?hy20006⟩) (by assumption) ?rest20006
  case hi20006 => (simp only [List.getElem?_toArray, List.getElem?_cons_zero, List.getElem?_cons_succ]; rfl)
  case hw20006 => rfl
  case hy20006 => first | (intro wx hSw; go_simp; done) | (intro wx hSw; go_simp; with_reducible rfl)
  simp only [Act.put, List.setIfInBounds_toArray, List.set_cons_zero, List.set_cons_succ]
  refine wpAnyH_take (i := 7) (oi := ?oi20007) (v := ?v20007) ?hi20007 (by kernel_rfl) (by kernel_rfl) (by kernel_rfl) (fun _ _ _ h => h) (Or.inl ⟨?hw20007, ?hy20007⟩) (by assumption) ?rest20007
  case hi20007 => (simp only [List.getElem?_toArray, List.getElem?_cons_zero, List.getElem?_cons_succ]; rfl)
  case hw20007 => rfl
  case hy20007 => first | (intro wx hSw; go_simp; done) | (intro wx hSw; go_simp; with_reducible rfl)
  simp only [Act.put, List.setIfInBounds_toArray, List.set_cons_zero, List.set_cons_succ]
  refine wpAnyH_take (i := 8) (oi := ?oi20008) (v := ?v20008) ?hi20008 (by kernel_rfl) (by kernel_rfl) (by kernel_rfl) (fun _ _ _ h => h) (Or.inl ⟨?hw20008, ?hy20008⟩) (by assumption) ?rest20008
  case hi20008 => (simp only [List.getElem?_toArray, List.getElem?_cons_zero, List.getElem?_cons_succ]; rfl)
  case hw20008 => rfl
  case hy20008 => first | (intro wx hSw; go_simp; done) | (intro wx hSw; go_simp; with_reducible rfl)
  simp only [Act.put, List.setIfInBounds_toArray, List.set_cons_zero, List.set_cons_succ]
  refine wpAnyH_take (i := 9) (oi := ?oi20009) (v := ?v20009) ?hi20009 (by kernel_rfl) (by kernel_rfl) (by kernel_rfl) (fun _ _ _ h => h) (Or.inl ⟨?hw20009, ?hy20009⟩) (by assumption) ?rest20009
  case hi20009 => (simp only [List.getElem?_toArray, List.getElem?_cons_zero, List.getElem?_cons_succ]; rfl)
  case hw20009 => rfl
  case hy20009 => first | (intro wx hSw; go_simp; done) | (intro wx hSw; go_simp; with_reducible rfl)
  simp only [Act.put, List.setIfInBounds_toArray, List.set_cons_zero, List.set_cons_succ]
  refine wpAnyH_take (i := 10) (oi := ?oi20010) (v := ?v20010) ?hi20010 (by kernel_rfl) (by kernel_rfl) (by kernel_rfl) (fun _ _ _ h => h) (Or.inl ⟨?hw20010, ?hy20010⟩) (by assumption) ?rest20010
  case hi20010 => (simp only [List.getElem?_toArray, List.getElem?_cons_zero, List.getElem?_cons_succ]; rfl)
  case hw20010 => rfl
  case hy20010 => first | (intro wx hSw; go_simp; done) | (intro wx hSw; go_simp; with_reducible rfl)
  simp only [Act.put, List.setIfInBounds_toArray, List.set_cons_zero, List.set_cons_succ]
  refine wpAnyH_take (i := 11) (oi := ?oi20011) (v := ?v20011) ?hi20011 (by kernel_rfl) (by kernel_rfl) (by kernel_rfl) (fun _ _ _ h => h) (Or.inl ⟨?hw20011, ?hy20011⟩) (by assumption) ?rest20011
  case hi20011 => (simp only [List.getElem?_toArray, List.getElem?_cons_zero, List.getElem?_cons_succ]; rfl)
  case hw20011 => rfl
  case hy20011 => first | (intro wx hSw; go_simp; done) | (intro wx hSw; go_simp; with_reducible rfl)
  simp only [Act.put, List.setIfInBounds_toArray, List.set_cons_zero, List.set_cons_succ]
  refine wpAnyH_ready (rs := [5, 12]) (by kernel_rfl) (by simp) ?_
  refine AllReadyH.cons rfl (fun K20012 hK20012 => ?_) ?_
  · go_simp
    refine hK20012.out _ _ ?hs20012 (fun hHeld20012 => ?_)
    case hs20012 => exact hHeld
    clear hHeld
    have hHeld := hHeld20012; clear hHeld20012 hK20012 K20012
    refine wpAnyH_ready (rs := [12]) (by kernel_rfl) (by simp) ?_
    refine AllReadyH.cons rfl (fun K20013 hK20013 => ?_) AllReadyH.nil
    go_simp
    go_wp2_with (go_at_call 62; go_loud (refine (clone_any d _ (by omega)).mono ?_; rintro e W1 ⟨rfl, hb1⟩; have H1 := hide (((unhide H).call (below_drew W)).call hb1); have c1_ := (unhide H1).c1; have c3_ := (unhide H1).c3; have l_ := (unhide H1).blk.lt; have HB1 := hide (Below.onto (below_drew W) hb1)))
    refine hK20013.out _ _ ?hs20013 (fun hHeld20013 => ?_)
    case hs20013 => exact c1_
    clear hHeld
    have hHeld := hHeld20013; clear hHeld20013 hK20013 K20013
    refine wpAnyH_take (i := 13) (oi := ?oi20014) (v := ?v20014) ?hi20014 (by kernel_rfl) (by kernel_rfl) (by kernel_rfl) (fun _ _ _ h => h) (Or.inl ⟨?hw20014, ?hy20014⟩) (by assumption) ?rest20014
    case hi20014 => (simp only [List.getElem?_toArray, List.getElem?_cons_zero, List.getElem?_cons_succ]; rfl)
    case hw20014 => rfl
    case hy20014 => first | (intro wx hSw; go_simp; done) | (intro wx hSw; go_simp; with_reducible rfl)
    simp only [Act.put, List.setIfInBounds_toArray, List.set_cons_zero, List.set_cons_succ]
    refine wpAnyH_ready (rs := [14]) (by kernel_rfl) (by simp) ?_
    refine AllReadyH.cons rfl (fun K20015 hK20015 => ?_) AllReadyH.nil
    go_simp
    refine hK20015.out _ _ ?hs20015 (fun hHeld20015 => ?_)
    case hs20015 => exact ((below_new W1 _).cell (p := ⟨b, 1, none⟩) l_).trans c1_
    clear hHeld
    have hHeld := hHeld20015; clear hHeld20015 hK20015 K20015
    refine wpAnyH_ready (rs := [15]) (by kernel_rfl) (by simp) ?_
    refine AllReadyH.cons rfl (fun K20016 hK20016 => ?_) AllReadyH.nil
    refine step_appE (by rfl) _ _ (by rfl) W1 n.term d q.lv n.log (unhide H1).rows.log (by rfl) (by rfl) (by omega) ?_; intro g cap w1 hown1 hgr1 hat1; have kb_ := (show Blk b (wkA n q sv) 58 w1 from ((unhide H1).blk.below (below_new _ _)).gr hgr1 (fun e => (unhide H1).nb (.inl e))); have e1_ := kb_.cell 3; have e2_ := kb_.froz 3; have e3_ := kb_.lt; have e4_ := kb_.cell 1
    refine hK20016.out _ _ ?hs20016 (fun hHeld20016 => ?_)
    case hs20016 => exact e4_
    clear hHeld
    have hHeld := hHeld20016; clear hHeld20016 hK20016 K20016
    refine wpAnyH_take (i := 16) (oi := ?oi20017) (v := ?v20017) ?hi20017 (by kernel_rfl) (by kernel_rfl) (by kernel_rfl) (fun _ _ _ h => h) (Or.inl ⟨?hw20017, ?hy20017⟩) (by assumption) ?rest20017
    case hi20017 => (simp only [List.getElem?_toArray, List.getElem?_cons_zero, List.getElem?_cons_succ]; rfl)
    case hw20017 => rfl
    case hy20017 => first | (intro wx hSw; go_simp; done) | (intro wx hSw; go_simp; with_reducible rfl)
    simp only [Act.put, List.setIfInBounds_toArray, List.set_cons_zero, List.set_cons_succ]
    refine wpAnyH_take (i := 17) (oi := ?oi20018) (v := ?v20018) ?hi20018 (by kernel_rfl) (by kernel_rfl) (by kernel_rfl) (fun _ _ _ h => h) (Or.inl ⟨?hw20018, ?hy20018⟩) (by assumption) ?rest20018
    case hi20018 => (simp only [List.getElem?_toArray, List.getElem?_cons_zero, List.getElem?_cons_succ]; rfl)
    case hw20018 => rfl
    case hy20018 => first | (intro wx hSw; go_simp; done) | (intro wx hSw; go_simp; with_reducible rfl)
    simp only [Act.put, List.setIfInBounds_toArray, List.set_cons_zero, List.set_cons_succ]
    refine wpAnyH_take (i := 18) (oi := ?oi20019) (v := ?v20019) ?hi20019 (by kernel_rfl) (by kernel_rfl) (by kernel_rfl) (fun _ _ _ h => h) (Or.inl ⟨?hw20019, ?hy20019⟩) (by assumption) ?rest20019
    case hi20019 => (simp only [List.getElem?_toArray, List.getElem?_cons_zero, List.getElem?_cons_succ]; rfl)
    case hw20019 => rfl
    case hy20019 => first | (intro wx hSw; go_simp; done) | (intro wx hSw; go_simp; with_reducible rfl)
    simp only [Act.put, List.setIfInBounds_toArray, List.set_cons_zero, List.set_cons_succ]
    refine wpAnyH_ready (rs := [19]) (by kernel_rfl) (by simp) ?_
    refine AllReadyH.cons rfl (fun K20020 hK20020 => ?_) AllReadyH.nil
    go_simp
    refine hK20020.out _ _ ?hs20020 (fun hHeld20020 => ?_)
    case hs20020 => exact (World.cell?_setCell_other _ _ _ _ (by simp)).trans e4_
    clear hHeld
    have hHeld := hHeld20020; clear hHeld20020 hK20020 K20020
    refine wpAnyH_done (by kernel_rfl) ?_ _
    refine NoPanic.normal ?_
    refine hrest _ _ ?_
    obtain ⟨L1, L2⟩ := (unhide H1).log_put (below_new W1 _) hgr1 hown1 (fun k hk => by
      simp [Value.ownBlock] at hk
      subst hk
      rcases hat1 with h1 | h1
      · exact .inl h1
      · exact .inr (by omega))
    exact add_tail rfl b _ sv n S d (Foot b q sv) W _ L1 ((Keep.call _ (unhide HB1)).trans L2) (unhide HF) (unhide HNX) hl hd hS
  refine AllReadyH.cons rfl (fun K20021 hK20021 => ?_) AllReadyH.nil
  go_simp
  go_wp2_with (go_at_call 62; go_loud (refine (clone_any d _ (by omega)).mono ?_; rintro e W1 ⟨rfl, hb1⟩; have H1 := hide (((unhide H).call (below_drew W)).call hb1); have c1_ := (unhide H1).c1; have c3_ := (unhide H1).c3; have l_ := (unhide H1).blk.lt; have HB1 := hide (Below.onto (below_drew W) hb1)))
  refine hK20021.out _ _ ?hs20021 (fun hHeld20021 => ?_)
  case hs20021 => exact c1_
  clear hHeld
  have hHeld := hHeld20021; clear hHeld20021 hK20021 K20021
  refine wpAnyH_take (i := 13) (oi := ?oi20022) (v := ?v20022) ?hi20022 (by kernel_rfl) (by kernel_rfl) (by kernel_rfl) (fun _ _ _ h => h) (Or.inl ⟨?hw20022, ?hy20022⟩) (by assumption) ?rest20022
  case hi20022 => (simp only [List.getElem?_toArray, List.getElem?_cons_zero, List.getElem?_cons_succ]; rfl)
  case hw20022 => rfl
  case hy20022 => first | (intro wx hSw; go_simp; done) | (intro wx hSw; go_simp; with_reducible rfl)
  simp only [Act.put, List.setIfInBounds_toArray, List.set_cons_zero, List.set_cons_succ]
  refine wpAnyH_ready (rs := [5, 14]) (by kernel_rfl) (by simp) ?_
  refine AllReadyH.cons rfl (fun K20023 hK20023 => ?_) ?_
  · go_simp
    refine hK20023.out _ _ ?hs20023 (fun hHeld20023 => ?_)
    case hs20023 => exact hHeld
    clear hHeld
    have hHeld := hHeld20023; clear hHeld20023 hK20023 K20023
    refine wpAnyH_ready (rs := [14]) (by kernel_rfl) (by simp) ?_
    refine AllReadyH.cons rfl (fun K20024 hK20024 => ?_) AllReadyH.nil
    go_simp
    refine hK20024.out _ _ ?hs20024 (fun hHeld20024 => ?_)
    case hs20024 => exact ((below_new W1 _).cell (p := ⟨b, 1, none⟩) l_).trans c1_
    clear hHeld
    have hHeld := hHeld20024; clear hHeld20024 hK20024 K20024
    refine wpAnyH_ready (rs := [15]) (by kernel_rfl) (by simp) ?_
    refine AllReadyH.cons rfl (fun K20025 hK20025 => ?_) AllReadyH.nil
    refine step_appE (by rfl) _ _ (by rfl) W1 n.term d q.lv n.log (unhide H1).rows.log (by rfl) (by rfl) (by omega) ?_; intro g cap w1 hown1 hgr1 hat1; have kb_ := (show Blk b (wkA n q sv) 58 w1 from ((unhide H1).blk.below (below_new _ _)).gr hgr1 (fun e => (unhide H1).nb (.inl e))); have e1_ := kb_.cell 3; have e2_ := kb_.froz 3; have e3_ := kb_.lt; have e4_ := kb_.cell 1
    refine hK20025.out _ _ ?hs20025 (fun hHeld20025 => ?_)
    case hs20025 => exact e4_
    clear hHeld
    have hHeld := hHeld20025; clear hHeld20025 hK20025 K20025
    refine wpAnyH_take (i := 16) (oi := ?oi20026) (v := ?v20026) ?hi20026 (by kernel_rfl) (by kernel_rfl) (by kernel_rfl) (fun _ _ _ h => h) (Or.inl ⟨?hw20026, ?hy20026⟩) (by assumption) ?rest20026
    case hi20026 => (simp only [List.getElem?_toArray, List.getElem?_cons_zero, List.getElem?_cons_succ]; rfl)
    case hw20026 => rfl
    case hy20026 => first | (intro wx hSw; go_simp; done) | (intro wx hSw; go_simp; with_reducible rfl)
    simp only [Act.put, List.setIfInBounds_toArray, List.set_cons_zero, List.set_cons_succ]
    refine wpAnyH_take (i := 17) (oi := ?oi20027) (v := ?v20027) ?hi20027 (by kernel_rfl) (by kernel_rfl) (by kernel_rfl) (fun _ _ _ h => h) (Or.inl ⟨?hw20027, ?hy20027⟩) (by assumption) ?rest20027
    case hi20027 => (simp only [List.getElem?_toArray, List.getElem?_cons_zero, List.getElem?_cons_succ]; rfl)
    case hw20027 => rfl
    case hy20027 => first | (intro wx hSw; go_simp; done) | (intro wx hSw; go_simp; with_reducible rfl)
    simp only [Act.put, List.setIfInBounds_toArray, List.set_cons_zero, List.set_cons_succ]
    refine wpAnyH_take (i := 18) (oi := ?oi20028) (v := ?v20028) ?hi20028 (by kernel_rfl) (by kernel_rfl) (by kernel_rfl) (fun _ _ _ h => h) (Or.inl ⟨?hw20028, ?hy20028⟩) (by assumption) ?rest20028
    case hi20028 => (simp only [List.getElem?_toArray, List.getElem?_cons_zero, List.getElem?_cons_succ]; rfl)
    case hw20028 => rfl
    case hy20028 => first | (intro wx hSw; go_simp; done) | (intro wx hSw; go_simp; with_reducible rfl)
    simp only [Act.put, List.setIfInBounds_toArray, List.set_cons_zero, List.set_cons_succ]
    refine wpAnyH_ready (rs := [19]) (by kernel_rfl) (by simp) ?_
    refine AllReadyH.cons rfl (fun K20029 hK20029 => ?_) AllReadyH.nil
    go_simp
    refine hK20029.out _ _ ?hs20029 (fun hHeld20029 => ?_)
    case hs20029 => exact (World.cell?_setCell_other _ _ _ _ (by simp)).trans e4_
    clear hHeld
    have hHeld := hHeld20029; clear hHeld20029 hK20029 K20029
    refine wpAnyH_done (by kernel_rfl) ?_ _
    refine NoPanic.normal ?_
    refine hrest _ _ ?_
    obtain ⟨L1, L2⟩ := (unhide H1).log_put (below_new W1 _) hgr1 hown1 (fun k hk => by
      simp [Value.ownBlock] at hk
      subst hk
      rcases hat1 with h1 | h1
      · exact .inl h1
      · exact .inr (by omega))
    exact add_tail rfl b _ sv n S d (Foot b q sv) W _ L1 ((Keep.call _ (unhide HB1)).trans L2) (unhide HF) (unhide HNX) hl hd hS
  refine AllReadyH.cons rfl (fun K20030 hK20030 => ?_) AllReadyH.nil
  go_simp
  refine hK20030.out _ _ ?hs20030 (fun hHeld20030 => ?_)
  case hs20030 => exact ((below_new W1 _).cell (p := ⟨b, 1, none⟩) l_).trans c1_
  clear hHeld
  have hHeld := hHeld20030; clear hHeld20030 hK20030 K20030
  refine wpAnyH_ready (rs := [5]) (by kernel_rfl) (by simp) ?_
  refine AllReadyH.cons rfl (fun K20031 hK20031 => ?_) AllReadyH.nil
  go_simp
  refine hK20031.out _ _ ?hs20031 (fun hHeld20031 => ?_)
  case hs20031 => exact hHeld
  clear hHeld
  have hHeld := hHeld20031; clear hHeld20031 hK20031 K20031
  refine wpAnyH_ready (rs := [15]) (by kernel_rfl) (by simp) ?_
  refine AllReadyH.cons rfl (fun K20032 hK20032 => ?_) AllReadyH.nil
  refine step_appE (by rfl) _ _ (by rfl) W1 n.term d q.lv n.log (unhide H1).rows.log (by rfl) (by rfl) (by omega) ?_; intro g cap w1 hown1 hgr1 hat1; have kb_ := (show Blk b (wkA n q sv) 58 w1 from ((unhide H1).blk.below (below_new _ _)).gr hgr1 (fun e => (unhide H1).nb (.inl e))); have e1_ := kb_.cell 3; have e2_ := kb_.froz 3; have e3_ := kb_.lt; have e4_ := kb_.cell 1
  refine hK20032.out _ _ ?hs20032 (fun hHeld20032 => ?_)
  case hs20032 => exact e4_
  clear hHeld
  have hHeld := hHeld20032; clear hHeld20032 hK20032 K20032
  refine wpAnyH_take (i := 16) (oi := ?oi20033) (v := ?v20033) ?hi20033 (by kernel_rfl) (by kernel_rfl) (by kernel_rfl) (fun _ _ _ h => h) (Or.inl ⟨?hw20033, ?hy20033⟩) (by assumption) ?rest20033
  case hi20033 => (simp only [List.getElem?_toArray, List.getElem?_cons_zero, List.getElem?_cons_succ]; rfl)
  case hw20033 => rfl
  case hy20033 => first | (intro wx hSw; go_simp; done) | (intro wx hSw; go_simp; with_reducible rfl)
  simp only [Act.put, List.setIfInBounds_toArray, List.set_cons_zero, List.set_cons_succ]
  refine wpAnyH_take (i := 17) (oi := ?oi20034) (v := ?v20034) ?hi20034 (by kernel_rfl) (by kernel_rfl) (by kernel_rfl) (fun _ _ _ h => h) (Or.inl ⟨?hw20034, ?hy20034⟩) (by assumption) ?rest20034
  case hi20034 => (simp only [List.getElem?_toArray, List.getElem?_cons_zero, List.getElem?_cons_succ]; rfl)
  case hw20034 => rfl
  case hy20034 => first | (intro wx hSw; go_simp; done) | (intro wx hSw; go_simp; with_reducible rfl)
  simp only [Act.put, List.setIfInBounds_toArray, List.set_cons_zero, List.set_cons_succ]
  refine wpAnyH_take (i := 18) (oi := ?oi20035) (v := ?v20035) ?hi20035 (by kernel_rfl) (by kernel_rfl) (by kernel_rfl) (fun _ _ _ h => h) (Or.inl ⟨?hw20035, ?hy20035⟩) (by assumption) ?rest20035
  case hi20035 => (simp only [List.getElem?_toArray, List.getElem?_cons_zero, List.getElem?_cons_succ]; rfl)
  case hw20035 => rfl
  case hy20035 => first | (intro wx hSw; go_simp; done) | (intro wx hSw; go_simp; with_reducible rfl)
  simp only [Act.put, List.setIfInBounds_toArray, List.set_cons_zero, List.set_cons_succ]
  refine wpAnyH_ready (rs := [19]) (by kernel_rfl) (by simp) ?_
  refine AllReadyH.cons rfl (fun K20036 hK20036 => ?_) AllReadyH.nil
  go_simp
  refine hK20036.out _ _ ?hs20036 (fun hHeld20036 => ?_)
  case hs20036 => exact (World.cell?_setCell_other _ _ _ _ (by simp)).trans e4_
  clear hHeld
  have hHeld := hHeld20036; clear hHeld20036 hK20036 K20036
  refine wpAnyH_done (by kernel_rfl) ?_ _
  refine NoPanic.normal ?_
  refine hrest _ _ ?_
  obtain ⟨L1, L2⟩ := (unhide H1).log_put (below_new W1 _) hgr1 hown1 (fun k hk => by
    simp [Value.ownBlock] at hk
    subst hk
    rcases hat1 with h1 | h1
    · exact .inl h1
    · exact .inr (by omega))
  exact add_tail rfl b _ sv n S d (Foot b q sv) W _ L1 ((Keep.call _ (unhide HB1)).trans L2) (unhide HF) (unhide HNX) hl hd hS
end Go.Proofs.Ytbojfiflemmgaaa
