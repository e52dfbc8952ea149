/-
  Package raft's lead.
-/
import Derived.Test.YtbojfiflemmgaaaGA
namespace Go.Proofs.Ytbojfiflemmgaaa
open Go.RowKit
set_option linter.unusedSimpArgs false
set_option linter.unusedVariables false

abbrev leadR (n : Nd) : Nd := { n with role := 2 }
abbrev leadX (n : Nd) : Nd := { leadR n with next := List.replicate n.next.length (n.log.length + 1) }
abbrev leadY (n : Nd) : Nd := { leadX n with mat := List.replicate n.mat.length 0 }
theorem leadY_eq {n : Nd} (f : Fit n) : leadY n = leadN n := by
  unfold leadN
  simp only [leadY, leadX, leadR]
  rw [f.next, f.mat]
theorem Fit.lead {n : Nd} (f : Fit n) : Fit (leadN n) := ⟨f.id, f.size, by simp [leadN], by simp [leadN], f.forms, f.log, f.small, f.terms, f.term, f.commit, f.clock, f.due⟩
theorem nextOk_lead {n : Nd} (f : Fit n) : NextOk (leadN n) := fun k hk _ => by
  have h1 : (leadN n).next.getD k 0 = n.log.length + 1 := by
    show (List.replicate n.votes.length (n.log.length + 1)).getD k 0 = _
    have hk2 : k < n.votes.length := hk
    simp [List.getD, hk2]
  have := f.log
  rw [h1]; omega
set_option maxRecDepth 100000 in
set_option maxHeartbeats 8000000 in
theorem lead_tail {r0 r1 rest : Code} (hc : Try.f79.body = some (.seq r0 (.seq r1 rest))) (b : Nat) (q : Q5) (sv : Value) (n : Nd) (S : List (Ms × Value)) (F0 : Nat → Prop) (W X : World) {u1 u2 u3 u4 u5 u6 u7 u8 u9 u10 u11 u12 u13 u14 u15 u16 u17 u18 u19 : Value} (h : St b q sv (leadX n) S X) (hK : Keep W X F0 (Foot b q sv)) (f : Fit n) (hl : n.log.length < 500000) (hS : S.length ≤ 90000) :
    rest.wp Try.prog (bodyPost Try.prog Try.f79 fun e W' => (∃ v, e = .returned v) ∧ Done b (leadM n).1 S (leadM n).2 F0 W W') ⟨#[ptr b 0, u1, u2, u3, u4, u5, u6, u7, u8, u9, u10, u11, u12, u13, u14, u15, u16, u17, u18, u19, undef, undef, undef, undef, undef, undef, undef, undef, undef, undef, undef, undef, undef], []⟩ X := by
  unfold Try.f79 at hc
  cases hc
  have hsz : n.mat.length ≤ 5 := by rw [f.mat]; exact f.size
  have c9 := h.c9
  obtain ⟨p, cap, hv⟩ := own_slice h.rows.mat
  rw [hv] at c9
  have AL := hide (fun W => (all_int_any n.mat.length 0 W (by omega) : Calls Try.prog 37 #[.int .i64 (n.mat.length : Int), .int .i64 0] W _))
  have H := hide h
  have hHK := hide hK
  have hbl := h.blk.lt
  have HFL := hide f.lead
  have HNL := hide (nextOk_lead f)
  have HE := hide (leadY_eq f)
  clear h hK
  go_wp2_with (first
    | (go_at_call 37; refine (unhide AL _).mono ?_; rintro e W2 ⟨u, rfl, ho, hn, hb⟩; have hp := (unhide H).mat_put hb (l := List.replicate n.mat.length 0) (by rw [List.length_replicate]; exact ho); have K8 := (unhide H).call hb; have k9_ := K8.c9; have kf_ := K8.fz; have kl_ := K8.blk.lt; obtain ⟨p2, cp2, hu2⟩ := own_slice ho; subst hu2; have HP1 : Hid (St b _ sv (leadN n) S _) := hide (by rw [← unhide HE]; exact hp.1); have HP2 := hide hp.2; clear hp K8)
    | (go_at_call 35; refine (add_any b _ sv (leadN n) S noBytes _ (unhide HP1) (unhide HFL) (unhide HNL) hl (by decide) hS).mono ?_; rintro e W3 ⟨⟨v, rfl⟩, hd⟩))
  go_end0
  exact ⟨⟨_, rfl⟩, hd.pre ((unhide hHK).trans (unhide HP2))⟩
set_option maxRecDepth 100000 in
set_option maxHeartbeats 8000000 in
theorem lead_any (b : Nat) (q : Q5) (sv : Value) (n : Nd) (S : List (Ms × Value)) (W : World) (h : St b q sv n S W) (f : Fit n) (hl : n.log.length < 500000) (hS : S.length ≤ 90000) :
    Calls Try.prog 79 #[ptr b 0] W fun e W' => (∃ v, e = .returned v) ∧ Done b (leadM n).1 S (leadM n).2 (Foot b q sv) W W' := by
  have hR := h.put (leadR n) 5 (.int .i64 2) rfl rfl rfl rfl rfl rfl
  have HK1 := hide (Keep.set (W := W) (j := 5) (v := .int .i64 2) (St.fb b q sv))
  have c5 := h.c5
  have fz := h.fz
  have hlt := h.blk.lt
  have HF := hide f
  have hsz : n.next.length ≤ 5 := by rw [f.next]; exact f.size
  have hlg := f.log
  have e1 : IntKind.i64.wrap ((n.log.length : Int) + 1) = (n.log.length : Int) + 1 := IntWalk.i64_in _ (by omega)
  go_enter Try.func79, Try.ntmps79
  go_wp2
  rename_i hrest
  generalize W.setCell ⟨b, 5, none⟩ (.int .i64 2) = X at hR HK1
  have H1 := hide hR
  have c8 := hR.c8
  obtain ⟨p, cap, hv⟩ := own_slice hR.rows.next
  rw [hv] at c8
  have gz := hR.fz
  have glt := hR.blk.lt
  have LA := hide (fun W h => last_any b q sv (leadR n) S W h)
  have AL := hide (fun W => (all_int_any n.next.length (n.log.length + 1) W (by omega) : Calls Try.prog 37 #[nI n.next.length, .int .i64 ((n.log.length : Int) + 1)] W _))
  clear hR h f c5 fz hlt
  refine wp_region_noPanic ?_
  refine wp_region_held_drew (S := (fun _ => True)) (by kernel_rfl) (trivial) (fun hHeld => ?_)
  refine wpAnyH_take (i := 0) (oi := ?oi20001) (v := ?v20001) ?hi20001 (by kernel_rfl) (by kernel_rfl) (by kernel_rfl) (fun _ _ _ h => h) (Or.inl ⟨?hw20001, ?hy20001⟩) (by assumption) ?rest20001
  case hi20001 => (simp only [List.getElem?_toArray, List.getElem?_cons_zero]; rfl)
  case hw20001 => rfl
  case hy20001 => first | (intro wx hSw; go_simp; done) | (intro wx hSw; go_simp; with_reducible rfl)
  simp only [Act.put, List.setIfInBounds_toArray, List.set_cons_zero, List.set_cons_succ]
  refine wpAnyH_take (i := 1) (oi := ?oi20002) (v := ?v20002) ?hi20002 (by kernel_rfl) (by kernel_rfl) (by kernel_rfl) (fun _ _ _ h => h) (Or.inl ⟨?hw20002, ?hy20002⟩) (by assumption) ?rest20002
  case hi20002 => (simp only [List.getElem?_toArray, List.getElem?_cons_zero, List.getElem?_cons_succ]; rfl)
  case hw20002 => rfl
  case hy20002 => first | (intro wx hSw; go_simp; done) | (intro wx hSw; go_simp; with_reducible rfl)
  simp only [Act.put, List.setIfInBounds_toArray, List.set_cons_zero, List.set_cons_succ]
  refine wpAnyH_take (i := 2) (oi := ?oi20003) (v := ?v20003) ?hi20003 (by kernel_rfl) (by kernel_rfl) (by kernel_rfl) (fun _ _ _ h => h) (Or.inl ⟨?hw20003, ?hy20003⟩) (by assumption) ?rest20003
  case hi20003 => (simp only [List.getElem?_toArray, List.getElem?_cons_zero, List.getElem?_cons_succ]; rfl)
  case hw20003 => rfl
  case hy20003 => first | (intro wx hSw; go_simp; done) | (intro wx hSw; go_simp; with_reducible rfl)
  simp only [Act.put, List.setIfInBounds_toArray, List.set_cons_zero, List.set_cons_succ]
  refine wpAnyH_take (i := 3) (oi := ?oi20004) (v := ?v20004) ?hi20004 (by kernel_rfl) (by kernel_rfl) (by kernel_rfl) (fun _ _ _ h => h) (Or.inl ⟨?hw20004, ?hy20004⟩) (by assumption) ?rest20004
  case hi20004 => (simp only [List.getElem?_toArray, List.getElem?_cons_zero, List.getElem?_cons_succ]; rfl)
  case hw20004 => rfl
  case hy20004 => first | (intro wx hSw; go_simp; done) | (intro wx hSw; go_simp; with_reducible rfl)
  simp only [Act.put, List.setIfInBounds_toArray, List.set_cons_zero, List.set_cons_succ]
  refine wpAnyH_take (i := 4) (oi := ?oi20005) (v := ?v20005) ?hi20005 (by kernel_rfl) (by kernel_rfl) (by kernel_rfl) (fun _ _ _ h => h) (Or.inl ⟨?hw20005, ?hy20005⟩) (by assumption) ?rest20005
  case hi20005 => (simp only [List.getElem?_toArray, List.getElem?_cons_zero, List.getElem?_cons_succ]; rfl)
  case hw20005 => rfl
  case hy20005 => first | (intro wx hSw; go_simp; done) | (intro wx hSw; go_simp; with_reducible rfl)
  simp only [Act.put, List.setIfInBounds_toArray, List.set_cons_zero, List.set_cons_succ]
  refine wpAnyH_take (i := 7) (oi := ?oi20006) (v := ?v20006) ?hi20006 (by kernel_rfl) (by kernel_rfl) (by kernel_rfl) (fun _ _ _ h => h) (Or.inl ⟨?hw20006, ?hy20006⟩) (by assumption) ?rest20006
  case hi20006 => (simp only [List.getElem?_toArray, List.getElem?_cons_zero, List.getElem?_cons_succ]; rfl)
  case hw20006 => rfl
  case hy20006 => first | (intro wx hSw; go_simp; done) | (intro wx hSw; go_simp; with_reducible rfl)
  simp only [Act.put, List.setIfInBounds_toArray, List.set_cons_zero, List.set_cons_succ]
  refine wpAnyH_ready (rs := [5, 8]) (by kernel_rfl) (by simp) ?_
  refine AllReadyH.cons rfl (fun K20007 hK20007 => ?_) ?_
  · go_simp
    refine hK20007.out _ _ ?hs20007 (fun hHeld20007 => ?_)
    case hs20007 => exact trivial
    clear hHeld
    have hHeld := hHeld20007; clear hHeld20007 hK20007 K20007
    refine wpAnyH_take (i := 6) (oi := ?oi20008) (v := ?v20008) ?hi20008 (by kernel_rfl) (by kernel_rfl) (by kernel_rfl) (fun _ _ _ h => h) (Or.inl ⟨?hw20008, ?hy20008⟩) (by assumption) ?rest20008
    case hi20008 => (simp only [List.getElem?_toArray, List.getElem?_cons_zero, List.getElem?_cons_succ]; rfl)
    case hw20008 => rfl
    case hy20008 => first | (intro wx hSw; go_simp; done) | (intro wx hSw; go_simp; with_reducible rfl)
    simp only [Act.put, List.setIfInBounds_toArray, List.set_cons_zero, List.set_cons_succ]
    refine wpAnyH_ready (rs := [8]) (by kernel_rfl) (by simp) ?_
    refine AllReadyH.cons rfl (fun K20009 hK20009 => ?_) AllReadyH.nil
    go_simp
    go_wp2_with (go_at_call 52; refine (unhide LA _ ((unhide H1).call (below_drew _))).mono ?_; rintro e w' ⟨rfl, rfl⟩)
    refine hK20009.out _ _ ?hs20009 (fun hHeld20009 => ?_)
    case hs20009 => exact trivial
    clear hHeld
    have hHeld := hHeld20009; clear hHeld20009 hK20009 K20009
    refine wpAnyH_take (i := 9) (oi := ?oi20010) (v := ?v20010) ?hi20010 (by kernel_rfl) (by kernel_rfl) (by kernel_rfl) (fun _ _ _ h => h) (Or.inl ⟨?hw20010, ?hy20010⟩) (by assumption) ?rest20010
    case hi20010 => (simp only [List.getElem?_toArray, List.getElem?_cons_zero, List.getElem?_cons_succ]; rfl)
    case hw20010 => rfl
    case hy20010 => first | (intro wx hSw; go_simp; done) | (intro wx hSw; go_simp; with_reducible rfl)
    simp only [Act.put, List.setIfInBounds_toArray, List.set_cons_zero, List.set_cons_succ]
    refine wpAnyH_ready (rs := [10]) (by kernel_rfl) (by simp) ?_
    refine AllReadyH.cons rfl (fun K20011 hK20011 => ?_) AllReadyH.nil
    go_simp
    go_wp2_with (go_at_call 37; refine (unhide AL _).mono ?_; rintro e W2 ⟨u2, rfl, ho2, hn2, hb2⟩; have K8 := ((unhide H1).call (below_drew _)).call hb2; have k8_ := K8.c8; have kf_ := K8.fz; have kl_ := K8.blk.lt; obtain ⟨p2, cp2, hu2⟩ := own_slice ho2; subst hu2)
    refine hK20011.out _ _ ?hs20011 (fun hHeld20011 => ?_)
    case hs20011 => exact trivial
    clear hHeld
    have hHeld := hHeld20011; clear hHeld20011 hK20011 K20011
    refine wpAnyH_take (i := 11) (oi := ?oi20012) (v := ?v20012) ?hi20012 (by kernel_rfl) (by kernel_rfl) (by kernel_rfl) (fun _ _ _ h => h) (Or.inl ⟨?hw20012, ?hy20012⟩) (by assumption) ?rest20012
    case hi20012 => (simp only [List.getElem?_toArray, List.getElem?_cons_zero, List.getElem?_cons_succ]; rfl)
    case hw20012 => rfl
    case hy20012 => first | (intro wx hSw; go_simp; done) | (intro wx hSw; go_simp; with_reducible rfl)
    simp only [Act.put, List.setIfInBounds_toArray, List.set_cons_zero, List.set_cons_succ]
    refine wpAnyH_take (i := 12) (oi := ?oi20013) (v := ?v20013) ?hi20013 (by kernel_rfl) (by kernel_rfl) (by kernel_rfl) (fun _ _ _ h => h) (Or.inl ⟨?hw20013, ?hy20013⟩) (by assumption) ?rest20013
    case hi20013 => (simp only [List.getElem?_toArray, List.getElem?_cons_zero, List.getElem?_cons_succ]; rfl)
    case hw20013 => rfl
    case hy20013 => first | (intro wx hSw; go_simp; done) | (intro wx hSw; go_simp; with_reducible rfl)
    simp only [Act.put, List.setIfInBounds_toArray, List.set_cons_zero, List.set_cons_succ]
    refine wpAnyH_take (i := 13) (oi := ?oi20014) (v := ?v20014) ?hi20014 (by kernel_rfl) (by kernel_rfl) (by kernel_rfl) (fun _ _ _ h => h) (Or.inl ⟨?hw20014, ?hy20014⟩) (by assumption) ?rest20014
    case hi20014 => (simp only [List.getElem?_toArray, List.getElem?_cons_zero, List.getElem?_cons_succ]; rfl)
    case hw20014 => rfl
    case hy20014 => first | (intro wx hSw; go_simp; done) | (intro wx hSw; go_simp; with_reducible rfl)
    simp only [Act.put, List.setIfInBounds_toArray, List.set_cons_zero, List.set_cons_succ]
    refine wpAnyH_ready (rs := [14]) (by kernel_rfl) (by simp) ?_
    refine AllReadyH.cons rfl (fun K20015 hK20015 => ?_) AllReadyH.nil
    go_simp
    refine hK20015.out _ _ ?hs20015 (fun hHeld20015 => ?_)
    case hs20015 => exact trivial
    clear hHeld
    have hHeld := hHeld20015; clear hHeld20015 hK20015 K20015
    refine wpAnyH_done (by kernel_rfl) ?_ _
    refine NoPanic.normal ?_
    refine hrest _ _ ?_
    obtain ⟨N1, N2⟩ := ((unhide H1).call (below_drew _)).next_put hb2 (l := List.replicate n.next.length (n.log.length + 1)) (by rw [List.length_replicate]; exact ho2)
    have NN1 := hide N1
    have NN2 := hide ((unhide HK1).trans ((Keep.call _ (below_drew _)).trans N2))
    exact lead_tail rfl b _ sv n S (Foot b q sv) W _ (unhide NN1) (unhide NN2) (unhide HF) hl hS
  refine AllReadyH.cons rfl (fun K20016 hK20016 => ?_) AllReadyH.nil
  go_simp
  go_wp2_with (go_at_call 52; refine (unhide LA _ ((unhide H1).call (below_drew _))).mono ?_; rintro e w' ⟨rfl, rfl⟩)
  refine hK20016.out _ _ ?hs20016 (fun hHeld20016 => ?_)
  case hs20016 => exact trivial
  clear hHeld
  have hHeld := hHeld20016; clear hHeld20016 hK20016 K20016
  refine wpAnyH_take (i := 9) (oi := ?oi20017) (v := ?v20017) ?hi20017 (by kernel_rfl) (by kernel_rfl) (by kernel_rfl) (fun _ _ _ h => h) (Or.inl ⟨?hw20017, ?hy20017⟩) (by assumption) ?rest20017
  case hi20017 => (simp only [List.getElem?_toArray, List.getElem?_cons_zero, List.getElem?_cons_succ]; rfl)
  case hw20017 => rfl
  case hy20017 => first | (intro wx hSw; go_simp; done) | (intro wx hSw; go_simp; with_reducible rfl)
  simp only [Act.put, List.setIfInBounds_toArray, List.set_cons_zero, List.set_cons_succ]
  refine wpAnyH_ready (rs := [5]) (by kernel_rfl) (by simp) ?_
  refine AllReadyH.cons rfl (fun K20018 hK20018 => ?_) AllReadyH.nil
  go_simp
  refine hK20018.out _ _ ?hs20018 (fun hHeld20018 => ?_)
  case hs20018 => exact trivial
  clear hHeld
  have hHeld := hHeld20018; clear hHeld20018 hK20018 K20018
  refine wpAnyH_take (i := 6) (oi := ?oi20019) (v := ?v20019) ?hi20019 (by kernel_rfl) (by kernel_rfl) (by kernel_rfl) (fun _ _ _ h => h) (Or.inl ⟨?hw20019, ?hy20019⟩) (by assumption) ?rest20019
  case hi20019 => (simp only [List.getElem?_toArray, List.getElem?_cons_zero, List.getElem?_cons_succ]; rfl)
  case hw20019 => rfl
  case hy20019 => first | (intro wx hSw; go_simp; done) | (intro wx hSw; go_simp; with_reducible rfl)
  simp only [Act.put, List.setIfInBounds_toArray, List.set_cons_zero, List.set_cons_succ]
  refine wpAnyH_ready (rs := [10]) (by kernel_rfl) (by simp) ?_
  refine AllReadyH.cons rfl (fun K20020 hK20020 => ?_) AllReadyH.nil
  go_simp
  go_wp2_with (go_at_call 37; refine (unhide AL _).mono ?_; rintro e W2 ⟨u2, rfl, ho2, hn2, hb2⟩; have K8 := ((unhide H1).call (below_drew _)).call hb2; have k8_ := K8.c8; have kf_ := K8.fz; have kl_ := K8.blk.lt; obtain ⟨p2, cp2, hu2⟩ := own_slice ho2; subst hu2)
  refine hK20020.out _ _ ?hs20020 (fun hHeld20020 => ?_)
  case hs20020 => exact trivial
  clear hHeld
  have hHeld := hHeld20020; clear hHeld20020 hK20020 K20020
  refine wpAnyH_take (i := 11) (oi := ?oi20021) (v := ?v20021) ?hi20021 (by kernel_rfl) (by kernel_rfl) (by kernel_rfl) (fun _ _ _ h => h) (Or.inl ⟨?hw20021, ?hy20021⟩) (by assumption) ?rest20021
  case hi20021 => (simp only [List.getElem?_toArray, List.getElem?_cons_zero, List.getElem?_cons_succ]; rfl)
  case hw20021 => rfl
  case hy20021 => first | (intro wx hSw; go_simp; done) | (intro wx hSw; go_simp; with_reducible rfl)
  simp only [Act.put, List.setIfInBounds_toArray, List.set_cons_zero, List.set_cons_succ]
  refine wpAnyH_take (i := 12) (oi := ?oi20022) (v := ?v20022) ?hi20022 (by kernel_rfl) (by kernel_rfl) (by kernel_rfl) (fun _ _ _ h => h) (Or.inl ⟨?hw20022, ?hy20022⟩) (by assumption) ?rest20022
  case hi20022 => (simp only [List.getElem?_toArray, List.getElem?_cons_zero, List.getElem?_cons_succ]; rfl)
  case hw20022 => rfl
  case hy20022 => first | (intro wx hSw; go_simp; done) | (intro wx hSw; go_simp; with_reducible rfl)
  simp only [Act.put, List.setIfInBounds_toArray, List.set_cons_zero, List.set_cons_succ]
  refine wpAnyH_take (i := 13) (oi := ?oi20023) (v := ?v20023) ?hi20023 (by kernel_rfl) (by kernel_rfl) (by kernel_rfl) (fun _ _ _ h => h) (Or.inl ⟨?hw20023, ?hy20023⟩) (by assumption) ?rest20023
  case hi20023 => (simp only [List.getElem?_toArray, List.getElem?_cons_zero, List.getElem?_cons_succ]; rfl)
  case hw20023 => rfl
  case hy20023 => first | (intro wx hSw; go_simp; done) | (intro wx hSw; go_simp; with_reducible rfl)
  simp only [Act.put, List.setIfInBounds_toArray, List.set_cons_zero, List.set_cons_succ]
  refine wpAnyH_ready (rs := [14]) (by kernel_rfl) (by simp) ?_
  refine AllReadyH.cons rfl (fun K20024 hK20024 => ?_) AllReadyH.nil
  go_simp
  refine hK20024.out _ _ ?hs20024 (fun hHeld20024 => ?_)
  case hs20024 => exact trivial
  clear hHeld
  have hHeld := hHeld20024; clear hHeld20024 hK20024 K20024
  refine wpAnyH_done (by kernel_rfl) ?_ _
  refine NoPanic.normal ?_
  refine hrest _ _ ?_
  obtain ⟨N1, N2⟩ := ((unhide H1).call (below_drew _)).next_put hb2 (l := List.replicate n.next.length (n.log.length + 1)) (by rw [List.length_replicate]; exact ho2)
  have NN1 := hide N1
  have NN2 := hide ((unhide HK1).trans ((Keep.call _ (below_drew _)).trans N2))
  exact lead_tail rfl b _ sv n S (Foot b q sv) W _ (unhide NN1) (unhide NN2) (unhide HF) hl hS
end Go.Proofs.Ytbojfiflemmgaaa
