/-
  Package raft's tick.
-/
import Derived.Test.YtbojfiflemmgaaaGF
namespace Go.Proofs.Ytbojfiflemmgaaa
open Go.RowKit
set_option linter.unusedSimpArgs false
set_option linter.unusedVariables false

theorem Fit.tick {n : Nd} (f : Fit n) (hc : n.clock < 1000000000000) : Fit (tickN n) := ⟨f.id, f.size, f.next, f.mat, f.forms, f.log, f.small, f.terms, f.term, f.commit, by show n.clock + 1 ≤ _; omega, f.due⟩
theorem tickM_even {n : Nd} (h1 : n.role = 2) (h2 : (n.clock + 1) % 2 = 0) : tickM n = (tickN n, spreadM (tickN n)) := by
  unfold tickM
  simp only
  rw [if_pos (show (tickN n).role = 2 from h1), if_pos (show (tickN n).clock % 2 = 0 from h2)]
theorem tickM_odd {n : Nd} (h1 : n.role = 2) (h2 : (n.clock + 1) % 2 ≠ 0) : tickM n = (tickN n, []) := by
  unfold tickM
  simp only
  rw [if_pos (show (tickN n).role = 2 from h1), if_neg (show ¬ (tickN n).clock % 2 = 0 from h2)]
theorem tickM_wait {n : Nd} (h1 : n.role ≠ 2) (h2 : n.clock + 1 < n.due) : tickM n = (tickN n, []) := by
  unfold tickM
  simp only
  rw [if_neg (show ¬ (tickN n).role = 2 from h1), if_pos (show (tickN n).clock < (tickN n).due from h2)]
theorem tickM_stand {n : Nd} (h1 : n.role ≠ 2) (h2 : ¬ n.clock + 1 < n.due) : tickM n = standM (tickN n) := by
  unfold tickM
  simp only
  rw [if_neg (show ¬ (tickN n).role = 2 from h1), if_neg (show ¬ (tickN n).clock < (tickN n).due from h2)]
/-- a node that may tick -/
structure TickOk (n : Nd) : Prop where
  fit : Fit n
  next : n.role = 2 → NextOk n
  term : n.term < 1099511627776
  clock : n.clock < 999999999999
  log : n.log.length < 500000
set_option maxRecDepth 100000 in
set_option maxHeartbeats 4000000 in
theorem tick_any (b : Nat) (q : Q5) (sv : Value) (n : Nd) (S : List (Ms × Value)) (W : World) (h : St b q sv n S W) (g : TickOk n) (hS : S.length ≤ 80000) :
    Calls Try.prog 34 #[ptr b 0] W fun e W' => (∃ v, e = .returned v) ∧ Done b (tickM n).1 S (tickM n).2 (Foot b q sv) W W' := by
  have hck := g.clock
  have e1 : IntKind.i64.wrap ((n.clock : Int) + 1) = (n.clock : Int) + 1 := IntWalk.i64_in _ (by omega)
  have hct : (nI (n.clock + 1)) = .int .i64 ((n.clock : Int) + 1) := rfl
  have h1 := h.put (tickN n) 11 (nI (n.clock + 1)) rfl rfl rfl rfl rfl rfl
  have hK1 := Keep.set (W := W) (j := 11) (v := nI (n.clock + 1)) (St.fb b q sv)
  rw [hct] at h1 hK1
  have c11 := h.c11
  have fz := h.fz
  have hlt := h.blk.lt
  have c5 := h.c5
  have HF := hide (g.fit.tick (by omega))
  have HN := hide g.next
  have htm := g.term
  have hlg := g.log
  have H1 := hide h1
  have HK1 := hide hK1
  have d11 : (W.setCell ⟨b, 11, none⟩ (.int .i64 ((n.clock : Int) + 1))).cell? ⟨b, 11, none⟩ = some (.int .i64 ((n.clock : Int) + 1)) := h1.c11
  have d12 : (W.setCell ⟨b, 11, none⟩ (.int .i64 ((n.clock : Int) + 1))).cell? ⟨b, 12, none⟩ = some (.int .i64 (n.due : Int)) := h1.c12
  have d1 : (W.setCell ⟨b, 11, none⟩ (.int .i64 ((n.clock : Int) + 1))).cell? ⟨b, 1, none⟩ = some (.int .i64 (n.term : Int)) := h1.c1
  have d5 : (W.setCell ⟨b, 11, none⟩ (.int .i64 ((n.clock : Int) + 1))).cell? ⟨b, 5, none⟩ = some (.int .i64 (n.role : Int)) := h1.c5
  clear h h1 hK1 hct g
  by_cases hr : n.role = 2
  · have hr1 : ((n.role : Int) == 2) = true := by rw [beq_iff_eq]; omega
    have hr2 : (n.role : Int) = 2 := by omega
    by_cases he : (n.clock + 1) % 2 = 0
    · have he1 : ((n.clock : Int) + 1) % 2 = 0 := by omega
      rw [tickM_even hr he]
      have SA := hide (sendAll_any b q sv (tickN n) S _ (unhide H1) (unhide HF) ((unhide HN) hr) (by omega))
      clear hr he
      go_enter Try.func34, Try.ntmps34
      go_wp2_with (go_at_call 60; refine (unhide SA).mono ?_; rintro e W3 ⟨⟨v, rfl⟩, hs⟩)
      refine bodyPost_ret (results_none rfl _ _ _) rfl ?_
      exact ⟨⟨_, rfl⟩, hs.done (unhide HK1)⟩
    · have he1 : ¬ ((n.clock : Int) + 1) % 2 = 0 := by omega
      have he2 : (((n.clock : Int) + 1) % 2 == 0) = false := by rw [beq_eq_false_iff_ne]; exact he1
      rw [tickM_odd hr he]
      clear hr he
      go_enter Try.func34, Try.ntmps34
      go_wp2
      refine bodyPost_ret (results_none rfl _ _ _) rfl ?_
      exact ⟨⟨_, rfl⟩, (unhide H1).done (unhide HK1)⟩
  · have hr1 : ((n.role : Int) == 2) = false := by rw [beq_eq_false_iff_ne]; omega
    have hr2 : ¬ (n.role : Int) = 2 := by omega
    by_cases hw : n.clock + 1 < n.due
    · have hw1 : (n.clock : Int) + 1 < (n.due : Int) := by omega
      have hw2 : ¬ (n.due : Int) ≤ (n.clock : Int) + 1 := by omega
      have hw3 : decide ((n.due : Int) ≤ (n.clock : Int) + 1) = false := by simpa using hw1
      rw [tickM_wait hr hw]
      clear hr hw
      go_enter Try.func34, Try.ntmps34
      go_wp2
      generalize W.setCell ⟨b, 11, none⟩ (.int .i64 ((n.clock : Int) + 1)) = X at H1 HK1 d11 d12 d1 d5 ⊢
      rename_i hrest
      refine wp_region_noPanic ?_
      refine wp_region_held_drew (S := (fun w' => w'.cell? ⟨b, 11, none⟩ = some (.int .i64 ((n.clock : Int) + 1)) ∧ w'.cell? ⟨b, 12, none⟩ = some (.int .i64 (n.due : Int)))) (by kernel_rfl) (⟨d11, d12⟩) (fun hHeld => ?_)
      refine wpAnyH_take (i := 0) (oi := ?oi20001) (v := ?v20001) ?hi20001 (by kernel_rfl) (by kernel_rfl) (by kernel_rfl) (fun _ _ _ h => h) (Or.inl ⟨?hw20001, ?hy20001⟩) (by assumption) ?rest20001
      case hi20001 => (simp only [List.getElem?_toArray, List.getElem?_cons_zero]; rfl)
      case hw20001 => rfl
      case hy20001 => first | (intro wx hSw; obtain ⟨s1_, s2_⟩ := hSw; go_simp; done) | (intro wx hSw; obtain ⟨s1_, s2_⟩ := hSw; go_simp; with_reducible rfl)
      simp only [Act.put, List.setIfInBounds_toArray, List.set_cons_zero, List.set_cons_succ]
      refine wpAnyH_take (i := 1) (oi := ?oi20002) (v := ?v20002) ?hi20002 (by kernel_rfl) (by kernel_rfl) (by kernel_rfl) (fun _ _ _ h => h) (Or.inl ⟨?hw20002, ?hy20002⟩) (by assumption) ?rest20002
      case hi20002 => (simp only [List.getElem?_toArray, List.getElem?_cons_zero, List.getElem?_cons_succ]; rfl)
      case hw20002 => rfl
      case hy20002 => first | (intro wx hSw; obtain ⟨s1_, s2_⟩ := hSw; go_simp; done) | (intro wx hSw; obtain ⟨s1_, s2_⟩ := hSw; go_simp; with_reducible rfl)
      simp only [Act.put, List.setIfInBounds_toArray, List.set_cons_zero, List.set_cons_succ]
      refine wpAnyH_take (i := 2) (oi := ?oi20003) (v := ?v20003) ?hi20003 (by kernel_rfl) (by kernel_rfl) (by kernel_rfl) (fun _ _ _ h => h) (Or.inl ⟨?hw20003, ?hy20003⟩) (by assumption) ?rest20003
      case hi20003 => (simp only [List.getElem?_toArray, List.getElem?_cons_zero, List.getElem?_cons_succ]; rfl)
      case hw20003 => rfl
      case hy20003 => first | (intro wx hSw; obtain ⟨s1_, s2_⟩ := hSw; go_simp; done) | (intro wx hSw; obtain ⟨s1_, s2_⟩ := hSw; go_simp; with_reducible rfl)
      simp only [Act.put, List.setIfInBounds_toArray, List.set_cons_zero, List.set_cons_succ]
      refine wpAnyH_take (i := 3) (oi := ?oi20004) (v := ?v20004) ?hi20004 (by kernel_rfl) (by kernel_rfl) (by kernel_rfl) (fun _ _ _ h => h) (Or.inl ⟨?hw20004, ?hy20004⟩) (by assumption) ?rest20004
      case hi20004 => (simp only [List.getElem?_toArray, List.getElem?_cons_zero, List.getElem?_cons_succ]; rfl)
      case hw20004 => rfl
      case hy20004 => first | (intro wx hSw; obtain ⟨s1_, s2_⟩ := hSw; go_simp; done) | (intro wx hSw; obtain ⟨s1_, s2_⟩ := hSw; go_simp; with_reducible rfl)
      simp only [Act.put, List.setIfInBounds_toArray, List.set_cons_zero, List.set_cons_succ]
      refine wpAnyH_take (i := 4) (oi := ?oi20005) (v := ?v20005) ?hi20005 (by kernel_rfl) (by kernel_rfl) (by kernel_rfl) (fun _ _ _ h => h) (Or.inl ⟨?hw20005, ?hy20005⟩) (by assumption) ?rest20005
      case hi20005 => (simp only [List.getElem?_toArray, List.getElem?_cons_zero, List.getElem?_cons_succ]; rfl)
      case hw20005 => rfl
      case hy20005 => first | (intro wx hSw; obtain ⟨s1_, s2_⟩ := hSw; go_simp; done) | (intro wx hSw; obtain ⟨s1_, s2_⟩ := hSw; go_simp; with_reducible rfl)
      simp only [Act.put, List.setIfInBounds_toArray, List.set_cons_zero, List.set_cons_succ]
      refine wpAnyH_take (i := 5) (oi := ?oi20006) (v := ?v20006) ?hi20006 (by kernel_rfl) (by kernel_rfl) (by kernel_rfl) (fun _ _ _ h => h) (Or.inl ⟨?hw20006, ?hy20006⟩) (by assumption) ?rest20006
      case hi20006 => (simp only [List.getElem?_toArray, List.getElem?_cons_zero, List.getElem?_cons_succ]; rfl)
      case hw20006 => rfl
      case hy20006 => first | (intro wx hSw; obtain ⟨s1_, s2_⟩ := hSw; go_simp; done) | (intro wx hSw; obtain ⟨s1_, s2_⟩ := hSw; go_simp; with_reducible rfl)
      simp only [Act.put, List.setIfInBounds_toArray, List.set_cons_zero, List.set_cons_succ]
      refine wpAnyH_take (i := 6) (oi := ?oi20007) (v := ?v20007) ?hi20007 (by kernel_rfl) (by kernel_rfl) (by kernel_rfl) (fun _ _ _ h => h) (Or.inl ⟨?hw20007, ?hy20007⟩) (by assumption) ?rest20007
      case hi20007 => (simp only [List.getElem?_toArray, List.getElem?_cons_zero, List.getElem?_cons_succ]; rfl)
      case hw20007 => rfl
      case hy20007 => first | (intro wx hSw; obtain ⟨s1_, s2_⟩ := hSw; go_simp; done) | (intro wx hSw; obtain ⟨s1_, s2_⟩ := hSw; go_simp; with_reducible rfl)
      simp only [Act.put, List.setIfInBounds_toArray, List.set_cons_zero, List.set_cons_succ]
      refine wpAnyH_take (i := 7) (oi := ?oi20008) (v := ?v20008) ?hi20008 (by kernel_rfl) (by kernel_rfl) (by kernel_rfl) (fun _ _ _ h => h) (Or.inl ⟨?hw20008, ?hy20008⟩) (by assumption) ?rest20008
      case hi20008 => (simp only [List.getElem?_toArray, List.getElem?_cons_zero, List.getElem?_cons_succ]; rfl)
      case hw20008 => rfl
      case hy20008 => first | (intro wx hSw; obtain ⟨s1_, s2_⟩ := hSw; go_simp; done) | (intro wx hSw; obtain ⟨s1_, s2_⟩ := hSw; go_simp; with_reducible rfl)
      simp only [Act.put, List.setIfInBounds_toArray, List.set_cons_zero, List.set_cons_succ]
      refine wpAnyH_take (i := 8) (oi := ?oi20009) (v := ?v20009) ?hi20009 (by kernel_rfl) (by kernel_rfl) (by kernel_rfl) (fun _ _ _ h => h) (Or.inl ⟨?hw20009, ?hy20009⟩) (by assumption) ?rest20009
      case hi20009 => (simp only [List.getElem?_toArray, List.getElem?_cons_zero, List.getElem?_cons_succ]; rfl)
      case hw20009 => rfl
      case hy20009 => first | (intro wx hSw; obtain ⟨s1_, s2_⟩ := hSw; go_simp; done) | (intro wx hSw; obtain ⟨s1_, s2_⟩ := hSw; go_simp; with_reducible rfl)
      simp only [Act.put, List.setIfInBounds_toArray, List.set_cons_zero, List.set_cons_succ]
      refine wpAnyH_take (i := 9) (oi := ?oi20010) (v := ?v20010) ?hi20010 (by kernel_rfl) (by kernel_rfl) (by kernel_rfl) (fun _ _ _ h => h) (Or.inl ⟨?hw20010, ?hy20010⟩) (by assumption) ?rest20010
      case hi20010 => (simp only [List.getElem?_toArray, List.getElem?_cons_zero, List.getElem?_cons_succ]; rfl)
      case hw20010 => rfl
      case hy20010 => first | (intro wx hSw; obtain ⟨s1_, s2_⟩ := hSw; go_simp; done) | (intro wx hSw; obtain ⟨s1_, s2_⟩ := hSw; go_simp; with_reducible rfl)
      simp only [Act.put, List.setIfInBounds_toArray, List.set_cons_zero, List.set_cons_succ]
      refine wpAnyH_take (i := 10) (oi := ?oi20011) (v := ?v20011) ?hi20011 (by kernel_rfl) (by kernel_rfl) (by kernel_rfl) (fun _ _ _ h => h) (Or.inl ⟨?hw20011, ?hy20011⟩) (by assumption) ?rest20011
      case hi20011 => (simp only [List.getElem?_toArray, List.getElem?_cons_zero, List.getElem?_cons_succ]; rfl)
      case hw20011 => rfl
      case hy20011 => first | (intro wx hSw; obtain ⟨s1_, s2_⟩ := hSw; go_simp; done) | (intro wx hSw; obtain ⟨s1_, s2_⟩ := hSw; go_simp; with_reducible rfl)
      simp only [Act.put, List.setIfInBounds_toArray, List.set_cons_zero, List.set_cons_succ]
      refine wpAnyH_take (i := 11) (oi := ?oi20012) (v := ?v20012) ?hi20012 (by kernel_rfl) (by kernel_rfl) (by kernel_rfl) (fun _ _ _ h => h) (Or.inl ⟨?hw20012, ?hy20012⟩) (by assumption) ?rest20012
      case hi20012 => (simp only [List.getElem?_toArray, List.getElem?_cons_zero, List.getElem?_cons_succ]; rfl)
      case hw20012 => rfl
      case hy20012 => first | (intro wx hSw; obtain ⟨s1_, s2_⟩ := hSw; go_simp; done) | (intro wx hSw; obtain ⟨s1_, s2_⟩ := hSw; go_simp; with_reducible rfl)
      simp only [Act.put, List.setIfInBounds_toArray, List.set_cons_zero, List.set_cons_succ]
      refine wpAnyH_take (i := 12) (oi := ?oi20013) (v := undef) ?hi20013 (by kernel_rfl) (by kernel_rfl) (by kernel_rfl) (fun _ _ _ h => h) (Or.inr ⟨?hw20013, rfl⟩) (by assumption) ?rest20013
      case hi20013 => (simp only [List.getElem?_toArray, List.getElem?_cons_zero, List.getElem?_cons_succ]; rfl)
      case hw20013 => rfl
      simp only [Act.put, List.setIfInBounds_toArray, List.set_cons_zero, List.set_cons_succ]
      refine wpAnyH_take (i := 13) (oi := ?oi20014) (v := undef) ?hi20014 (by kernel_rfl) (by kernel_rfl) (by kernel_rfl) (fun _ _ _ h => h) (Or.inr ⟨?hw20014, rfl⟩) (by assumption) ?rest20014
      case hi20014 => (simp only [List.getElem?_toArray, List.getElem?_cons_zero, List.getElem?_cons_succ]; rfl)
      case hw20014 => rfl
      simp only [Act.put, List.setIfInBounds_toArray, List.set_cons_zero, List.set_cons_succ]
      refine wpAnyH_take (i := 14) (oi := ?oi20015) (v := undef) ?hi20015 (by kernel_rfl) (by kernel_rfl) (by kernel_rfl) (fun _ _ _ h => h) (Or.inr ⟨?hw20015, rfl⟩) (by assumption) ?rest20015
      case hi20015 => (simp only [List.getElem?_toArray, List.getElem?_cons_zero, List.getElem?_cons_succ]; rfl)
      case hw20015 => rfl
      simp only [Act.put, List.setIfInBounds_toArray, List.set_cons_zero, List.set_cons_succ]
      refine wpAnyH_take (i := 15) (oi := ?oi20016) (v := undef) ?hi20016 (by kernel_rfl) (by kernel_rfl) (by kernel_rfl) (fun _ _ _ h => h) (Or.inr ⟨?hw20016, rfl⟩) (by assumption) ?rest20016
      case hi20016 => (simp only [List.getElem?_toArray, List.getElem?_cons_zero, List.getElem?_cons_succ]; rfl)
      case hw20016 => rfl
      simp only [Act.put, List.setIfInBounds_toArray, List.set_cons_zero, List.set_cons_succ]
      refine wpAnyH_take (i := 16) (oi := ?oi20017) (v := undef) ?hi20017 (by kernel_rfl) (by kernel_rfl) (by kernel_rfl) (fun _ _ _ h => h) (Or.inr ⟨?hw20017, rfl⟩) (by assumption) ?rest20017
      case hi20017 => (simp only [List.getElem?_toArray, List.getElem?_cons_zero, List.getElem?_cons_succ]; rfl)
      case hw20017 => rfl
      simp only [Act.put, List.setIfInBounds_toArray, List.set_cons_zero, List.set_cons_succ]
      refine wpAnyH_take (i := 17) (oi := ?oi20018) (v := undef) ?hi20018 (by kernel_rfl) (by kernel_rfl) (by kernel_rfl) (fun _ _ _ h => h) (Or.inr ⟨?hw20018, rfl⟩) (by assumption) ?rest20018
      case hi20018 => (simp only [List.getElem?_toArray, List.getElem?_cons_zero, List.getElem?_cons_succ]; rfl)
      case hw20018 => rfl
      simp only [Act.put, List.setIfInBounds_toArray, List.set_cons_zero, List.set_cons_succ]
      refine wpAnyH_take (i := 18) (oi := ?oi20019) (v := ?v20019) ?hi20019 (by kernel_rfl) (by kernel_rfl) (by kernel_rfl) (fun _ _ _ h => h) (Or.inl ⟨?hw20019, ?hy20019⟩) (by assumption) ?rest20019
      case hi20019 => (simp only [List.getElem?_toArray, List.getElem?_cons_zero, List.getElem?_cons_succ]; rfl)
      case hw20019 => rfl
      case hy20019 => first | (intro wx hSw; obtain ⟨s1_, s2_⟩ := hSw; go_simp; done) | (intro wx hSw; obtain ⟨s1_, s2_⟩ := hSw; go_simp; with_reducible rfl)
      simp only [Act.put, List.setIfInBounds_toArray, List.set_cons_zero, List.set_cons_succ]
      refine wpAnyH_done (by kernel_rfl) ?_ _
      refine NoPanic.normal ?_
      refine hrest _ _ ?_
      go_wp2
      all_goals
        go_end0
        exact ⟨⟨_, rfl⟩, ((unhide H1).call (below_drew _)).done ((unhide HK1).trans (Keep.call _ (below_drew _)))⟩
    · have hw1 : (n.due : Int) ≤ (n.clock : Int) + 1 := by omega
      have hw3 : decide ((n.due : Int) ≤ (n.clock : Int) + 1) = true := decide_eq_true hw1
      have hw4 : (n.term : Int) < 9223372036854775807 := by omega
      rw [tickM_stand hr hw]
      clear hr hw
      go_enter Try.func34, Try.ntmps34
      go_wp2
      generalize W.setCell ⟨b, 11, none⟩ (.int .i64 ((n.clock : Int) + 1)) = X at H1 HK1 d11 d12 d1 d5 ⊢
      have ST := hide (stand_any b q sv (tickN n) S X.drew ((unhide H1).call (below_drew _)) (unhide HF) htm (by show n.clock + 1 ≤ _; omega) hlg hS)
      go_region_held3 (fun w' => w'.cell? ⟨b, 11, none⟩ = some (.int .i64 ((n.clock : Int) + 1)) ∧ w'.cell? ⟨b, 12, none⟩ = some (.int .i64 (n.due : Int)) ∧ w'.cell? ⟨b, 1, none⟩ = some (.int .i64 (n.term : Int))) (go_keep) (fail)
      all_goals go_wp2_with (go_at_call 61; refine (unhide ST).mono ?_; rintro e W3 ⟨⟨v, rfl⟩, hs⟩)
      all_goals
        go_end0
        exact ⟨⟨_, rfl⟩, hs.pre ((unhide HK1).trans (Keep.call _ (below_drew _)))⟩
end Go.Proofs.Ytbojfiflemmgaaa
