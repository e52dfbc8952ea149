/-
  Package raft's voted; handle of an MVoted of no higher term.
-/
import Derived.Test.YtbojfiflemmgaaaHA
namespace Go.Proofs.Ytbojfiflemmgaaa
open Go.RowKit
set_option linter.unusedSimpArgs false
set_option linter.unusedVariables false

theorem votedM_no1 {n : Nd} {m : Ms} (h : n.role ≠ 1) : votedM n m = (n, []) := if_neg fun e => h e.1
theorem votedM_no2 {n : Nd} {m : Ms} (h : m.term ≠ n.term) : votedM n m = (n, []) := if_neg fun e => h e.2.1
theorem votedM_no3 {n : Nd} {m : Ms} (h : m.ok = false) : votedM n m = (n, []) := if_neg fun e => by have := e.2.2; rw [h] at this; cases this
theorem votedM_yes {n : Nd} {m : Ms} (h1 : n.role = 1) (h2 : m.term = n.term) (h3 : m.ok = true) : votedM n m = countM n m.frm := if_pos ⟨h1, h2, h3⟩
set_option maxRecDepth 100000 in
set_option maxHeartbeats 4000000 in
theorem voted_any (b : Nat) (q : Q5) (sv : Value) (n : Nd) (S : List (Ms × Value)) (m : Ms) (p : Option Addr) (c : Nat) (W : World) (h : St b q sv n S W) (f : Fit n) (hm : m.frm < n.votes.length) (hlg : n.log.length < 500000) (hS : S.length ≤ 90000) :
    Calls Try.prog 54 #[ptr b 0, .agg (msA m (.slice p m.ents.length c))] W fun e W' => (∃ v, e = .returned v) ∧ Done b (votedM n m).1 S (votedM n m).2 (Foot b q sv) W W' := by
  obtain ⟨kd, fr, to, tm, ix, lt, ok, ents, cm, fm⟩ := m
  simp only at hm ⊢
  have c1 := h.c1
  have c5 := h.c5
  have hl := h.blk.lt
  have HXS := hide (h.call ((below_new W (.cells #[nI kd, nI fr, nI to, nI tm, nI ix, nI lt, .bool ok, .slice p ents.length c, nI cm, nI fm] 37)).drew))
  have HXB := hide ((below_new W (.cells #[nI kd, nI fr, nI to, nI tm, nI ix, nI lt, .bool ok, .slice p ents.length c, nI cm, nI fm] 37)).drew)
  have HXM : Hid (Blk W.heap.size #[nI kd, nI fr, nI to, nI tm, nI ix, nI lt, .bool ok, .slice p ents.length c, nI cm, nI fm] 37 (W.alloc (.cells #[nI kd, nI fr, nI to, nI tm, nI ix, nI lt, .bool ok, .slice p ents.length c, nI cm, nI fm] 37)).drew) := hide ((Blk.new W #[nI kd, nI fr, nI to, nI tm, nI ix, nI lt, .bool ok, .slice p ents.length c, nI cm, nI fm] 37).below (below_drew _))
  by_cases hr : n.role = 1
  · have hr1 : ((n.role : Int) == 1) = true := by rw [beq_iff_eq]; omega
    have hr2 : (n.role : Int) = 1 := by omega
    rw [hr2] at c5
    by_cases ht : tm = n.term
    · subst ht
      cases ok with
      | true =>
        rw [votedM_yes hr rfl rfl]
        have CA := hide (count_any b q sv n S fr _ (unhide HXS) f hm hlg hS)
        clear h hr hr1
        go_enter Try.func54, Try.ntmps54
        go_wp2
        go_region_held3 (fun w' => w'.cell? ⟨W.heap.size, 3, none⟩ = some (.int .i64 (n.term : Int)) ∧ w'.cell? ⟨W.heap.size, 6, none⟩ = some (.bool true) ∧ w'.cell? ⟨b, 1, none⟩ = some (.int .i64 (n.term : Int)) ∧ w'.cell? ⟨b, 5, none⟩ = some (.int .i64 1)) (go_keep) (fail)
        generalize hX : (W.alloc (.cells #[nI kd, nI fr, nI to, nI n.term, nI ix, nI lt, .bool true, .slice p ents.length c, nI cm, nI fm] 37)).drew = X at HXS HXB HXM CA ⊢
        clear hX
        have x1 : X.cell? ⟨W.heap.size, 1, none⟩ = some (.int .i64 (fr : Int)) := (unhide HXM).cell 1
        go_wp2_with (go_at_call 69; refine (unhide CA).mono ?_; rintro e W3 ⟨⟨v, rfl⟩, hs⟩)
        go_end0
        exact ⟨⟨_, rfl⟩, hs.pre (Keep.call _ (unhide HXB))⟩
      | false =>
        rw [votedM_no3 rfl]
        clear h hr hr1
        go_enter Try.func54, Try.ntmps54
        go_wp2
        go_region_held3 (fun w' => w'.cell? ⟨W.heap.size, 3, none⟩ = some (.int .i64 (n.term : Int)) ∧ w'.cell? ⟨W.heap.size, 6, none⟩ = some (.bool false) ∧ w'.cell? ⟨b, 1, none⟩ = some (.int .i64 (n.term : Int)) ∧ w'.cell? ⟨b, 5, none⟩ = some (.int .i64 1)) (go_keep) (fail)
        generalize hX : (W.alloc (.cells #[nI kd, nI fr, nI to, nI n.term, nI ix, nI lt, .bool false, .slice p ents.length c, nI cm, nI fm] 37)).drew = X at HXS HXB HXM ⊢
        clear hX
        go_wp2
        go_end0
        exact ⟨⟨_, rfl⟩, (unhide HXS).done (Keep.call _ (unhide HXB))⟩
    · rw [votedM_no2 ht]
      have ht1 : ((tm : Int) == (n.term : Int)) = false := by rw [beq_eq_false_iff_ne]; omega
      have ht2 : ¬ (tm : Int) = (n.term : Int) := by omega
      clear h hr hr1
      have hnb : b ≠ W.heap.size := by omega
      go_enter Try.func54, Try.ntmps54
      go_wp2
      have c5' : (W.alloc (.cells #[nI kd, nI fr, nI to, nI tm, nI ix, nI lt, .bool ok, .slice p ents.length c, nI cm, nI fm] 37)).cell? ⟨b, 5, none⟩ = some (.int .i64 1) := by
        rw [World.cell?_alloc_old]; exact c5
        exact hnb
      have c1' : (W.alloc (.cells #[nI kd, nI fr, nI to, nI tm, nI ix, nI lt, .bool ok, .slice p ents.length c, nI cm, nI fm] 37)).cell? ⟨b, 1, none⟩ = some (.int .i64 (n.term : Int)) := by
        rw [World.cell?_alloc_old]; exact c1
        exact hnb
      have m3' : (W.alloc (.cells #[nI kd, nI fr, nI to, nI tm, nI ix, nI lt, .bool ok, .slice p ents.length c, nI cm, nI fm] 37)).cell? ⟨W.heap.size, 3, none⟩ = some (.int .i64 (tm : Int)) := (Blk.new W #[nI kd, nI fr, nI to, nI tm, nI ix, nI lt, .bool ok, .slice p ents.length c, nI cm, nI fm] 37).cell 3
      rename_i hrest
      refine wp_region_noPanic ?_
      refine wp_region_held_drew (S := (fun w' => w'.cell? ⟨b, 5, none⟩ = some (.int .i64 1) ∧ w'.cell? ⟨b, 1, none⟩ = some (.int .i64 (n.term : Int)) ∧ w'.cell? ⟨W.heap.size, 3, none⟩ = some (.int .i64 (tm : Int)))) (by kernel_rfl) (⟨c5', c1', m3'⟩) (fun hHeld => ?_)
      refine wpAnyH_take (i := 0) (oi := ?oi20021) (v := ?v20021) ?hi20021 (by kernel_rfl) (by kernel_rfl) (by kernel_rfl) (fun _ _ _ h => h) (Or.inl ⟨?hw20021, ?hy20021⟩) (by assumption) ?rest20021
      case hi20021 => (simp only [List.getElem?_toArray, List.getElem?_cons_zero]; rfl)
      case hw20021 => rfl
      case hy20021 => first | (intro wx hSw; obtain ⟨s1_, s2_, s3_⟩ := hSw; go_simp; done) | (intro wx hSw; obtain ⟨s1_, s2_, s3_⟩ := hSw; go_simp; with_reducible rfl)
      simp only [Act.put, List.setIfInBounds_toArray, List.set_cons_zero, List.set_cons_succ]
      refine wpAnyH_take (i := 1) (oi := ?oi20022) (v := ?v20022) ?hi20022 (by kernel_rfl) (by kernel_rfl) (by kernel_rfl) (fun _ _ _ h => h) (Or.inl ⟨?hw20022, ?hy20022⟩) (by assumption) ?rest20022
      case hi20022 => (simp only [List.getElem?_toArray, List.getElem?_cons_zero, List.getElem?_cons_succ]; rfl)
      case hw20022 => rfl
      case hy20022 => first | (intro wx hSw; obtain ⟨s1_, s2_, s3_⟩ := hSw; go_simp; done) | (intro wx hSw; obtain ⟨s1_, s2_, s3_⟩ := hSw; go_simp; with_reducible rfl)
      simp only [Act.put, List.setIfInBounds_toArray, List.set_cons_zero, List.set_cons_succ]
      refine wpAnyH_take (i := 2) (oi := ?oi20023) (v := ?v20023) ?hi20023 (by kernel_rfl) (by kernel_rfl) (by kernel_rfl) (fun _ _ _ h => h) (Or.inl ⟨?hw20023, ?hy20023⟩) (by assumption) ?rest20023
      case hi20023 => (simp only [List.getElem?_toArray, List.getElem?_cons_zero, List.getElem?_cons_succ]; rfl)
      case hw20023 => rfl
      case hy20023 => first | (intro wx hSw; obtain ⟨s1_, s2_, s3_⟩ := hSw; go_simp; done) | (intro wx hSw; obtain ⟨s1_, s2_, s3_⟩ := hSw; go_simp; with_reducible rfl)
      simp only [Act.put, List.setIfInBounds_toArray, List.set_cons_zero, List.set_cons_succ]
      refine wpAnyH_take (i := 3) (oi := ?oi20024) (v := ?v20024) ?hi20024 (by kernel_rfl) (by kernel_rfl) (by kernel_rfl) (fun _ _ _ h => h) (Or.inl ⟨?hw20024, ?hy20024⟩) (by assumption) ?rest20024
      case hi20024 => (simp only [List.getElem?_toArray, List.getElem?_cons_zero, List.getElem?_cons_succ]; rfl)
      case hw20024 => rfl
      case hy20024 => first | (intro wx hSw; obtain ⟨s1_, s2_, s3_⟩ := hSw; go_simp; done) | (intro wx hSw; obtain ⟨s1_, s2_, s3_⟩ := hSw; go_simp; with_reducible rfl)
      simp only [Act.put, List.setIfInBounds_toArray, List.set_cons_zero, List.set_cons_succ]
      refine wpAnyH_take (i := 4) (oi := ?oi20025) (v := ?v20025) ?hi20025 (by kernel_rfl) (by kernel_rfl) (by kernel_rfl) (fun _ _ _ h => h) (Or.inl ⟨?hw20025, ?hy20025⟩) (by assumption) ?rest20025
      case hi20025 => (simp only [List.getElem?_toArray, List.getElem?_cons_zero, List.getElem?_cons_succ]; rfl)
      case hw20025 => rfl
      case hy20025 => first | (intro wx hSw; obtain ⟨s1_, s2_, s3_⟩ := hSw; go_simp; done) | (intro wx hSw; obtain ⟨s1_, s2_, s3_⟩ := hSw; go_simp; with_reducible rfl)
      simp only [Act.put, List.setIfInBounds_toArray, List.set_cons_zero, List.set_cons_succ]
      refine wpAnyH_take (i := 5) (oi := ?oi20026) (v := ?v20026) ?hi20026 (by kernel_rfl) (by kernel_rfl) (by kernel_rfl) (fun _ _ _ h => h) (Or.inl ⟨?hw20026, ?hy20026⟩) (by assumption) ?rest20026
      case hi20026 => (simp only [List.getElem?_toArray, List.getElem?_cons_zero, List.getElem?_cons_succ]; rfl)
      case hw20026 => rfl
      case hy20026 => first | (intro wx hSw; obtain ⟨s1_, s2_, s3_⟩ := hSw; go_simp; done) | (intro wx hSw; obtain ⟨s1_, s2_, s3_⟩ := hSw; go_simp; with_reducible rfl)
      simp only [Act.put, List.setIfInBounds_toArray, List.set_cons_zero, List.set_cons_succ]
      refine wpAnyH_take (i := 6) (oi := ?oi20027) (v := ?v20027) ?hi20027 (by kernel_rfl) (by kernel_rfl) (by kernel_rfl) (fun _ _ _ h => h) (Or.inl ⟨?hw20027, ?hy20027⟩) (by assumption) ?rest20027
      case hi20027 => (simp only [List.getElem?_toArray, List.getElem?_cons_zero, List.getElem?_cons_succ]; rfl)
      case hw20027 => rfl
      case hy20027 => first | (intro wx hSw; obtain ⟨s1_, s2_, s3_⟩ := hSw; go_simp; done) | (intro wx hSw; obtain ⟨s1_, s2_, s3_⟩ := hSw; go_simp; with_reducible rfl)
      simp only [Act.put, List.setIfInBounds_toArray, List.set_cons_zero, List.set_cons_succ]
      refine wpAnyH_take (i := 7) (oi := ?oi20028) (v := ?v20028) ?hi20028 (by kernel_rfl) (by kernel_rfl) (by kernel_rfl) (fun _ _ _ h => h) (Or.inl ⟨?hw20028, ?hy20028⟩) (by assumption) ?rest20028
      case hi20028 => (simp only [List.getElem?_toArray, List.getElem?_cons_zero, List.getElem?_cons_succ]; rfl)
      case hw20028 => rfl
      case hy20028 => first | (intro wx hSw; obtain ⟨s1_, s2_, s3_⟩ := hSw; go_simp; done) | (intro wx hSw; obtain ⟨s1_, s2_, s3_⟩ := hSw; go_simp; with_reducible rfl)
      simp only [Act.put, List.setIfInBounds_toArray, List.set_cons_zero, List.set_cons_succ]
      refine wpAnyH_take (i := 8) (oi := ?oi20029) (v := ?v20029) ?hi20029 (by kernel_rfl) (by kernel_rfl) (by kernel_rfl) (fun _ _ _ h => h) (Or.inl ⟨?hw20029, ?hy20029⟩) (by assumption) ?rest20029
      case hi20029 => (simp only [List.getElem?_toArray, List.getElem?_cons_zero, List.getElem?_cons_succ]; rfl)
      case hw20029 => rfl
      case hy20029 => first | (intro wx hSw; obtain ⟨s1_, s2_, s3_⟩ := hSw; go_simp; done) | (intro wx hSw; obtain ⟨s1_, s2_, s3_⟩ := hSw; go_simp; with_reducible rfl)
      simp only [Act.put, List.setIfInBounds_toArray, List.set_cons_zero, List.set_cons_succ]
      refine wpAnyH_take (i := 9) (oi := ?oi20030) (v := ?v20030) ?hi20030 (by kernel_rfl) (by kernel_rfl) (by kernel_rfl) (fun _ _ _ h => h) (Or.inl ⟨?hw20030, ?hy20030⟩) (by assumption) ?rest20030
      case hi20030 => (simp only [List.getElem?_toArray, List.getElem?_cons_zero, List.getElem?_cons_succ]; rfl)
      case hw20030 => rfl
      case hy20030 => first | (intro wx hSw; obtain ⟨s1_, s2_, s3_⟩ := hSw; go_simp; done) | (intro wx hSw; obtain ⟨s1_, s2_, s3_⟩ := hSw; go_simp; with_reducible rfl)
      simp only [Act.put, List.setIfInBounds_toArray, List.set_cons_zero, List.set_cons_succ]
      refine wpAnyH_take (i := 10) (oi := ?oi20031) (v := ?v20031) ?hi20031 (by kernel_rfl) (by kernel_rfl) (by kernel_rfl) (fun _ _ _ h => h) (Or.inl ⟨?hw20031, ?hy20031⟩) (by assumption) ?rest20031
      case hi20031 => (simp only [List.getElem?_toArray, List.getElem?_cons_zero, List.getElem?_cons_succ]; rfl)
      case hw20031 => rfl
      case hy20031 => first | (intro wx hSw; obtain ⟨s1_, s2_, s3_⟩ := hSw; go_simp; done) | (intro wx hSw; obtain ⟨s1_, s2_, s3_⟩ := hSw; go_simp; with_reducible rfl)
      simp only [Act.put, List.setIfInBounds_toArray, List.set_cons_zero, List.set_cons_succ]
      refine wpAnyH_take (i := 11) (oi := ?oi20032) (v := ?v20032) ?hi20032 (by kernel_rfl) (by kernel_rfl) (by kernel_rfl) (fun _ _ _ h => h) (Or.inl ⟨?hw20032, ?hy20032⟩) (by assumption) ?rest20032
      case hi20032 => (simp only [List.getElem?_toArray, List.getElem?_cons_zero, List.getElem?_cons_succ]; rfl)
      case hw20032 => rfl
      case hy20032 => first | (intro wx hSw; obtain ⟨s1_, s2_, s3_⟩ := hSw; go_simp; done) | (intro wx hSw; obtain ⟨s1_, s2_, s3_⟩ := hSw; go_simp; with_reducible rfl)
      simp only [Act.put, List.setIfInBounds_toArray, List.set_cons_zero, List.set_cons_succ]
      refine wpAnyH_take (i := 12) (oi := ?oi20033) (v := ?v20033) ?hi20033 (by kernel_rfl) (by kernel_rfl) (by kernel_rfl) (fun _ _ _ h => h) (Or.inl ⟨?hw20033, ?hy20033⟩) (by assumption) ?rest20033
      case hi20033 => (simp only [List.getElem?_toArray, List.getElem?_cons_zero, List.getElem?_cons_succ]; rfl)
      case hw20033 => rfl
      case hy20033 => first | (intro wx hSw; obtain ⟨s1_, s2_, s3_⟩ := hSw; go_simp; done) | (intro wx hSw; obtain ⟨s1_, s2_, s3_⟩ := hSw; go_simp; with_reducible rfl)
      simp only [Act.put, List.setIfInBounds_toArray, List.set_cons_zero, List.set_cons_succ]
      refine wpAnyH_take (i := 13) (oi := ?oi20034) (v := ?v20034) ?hi20034 (by kernel_rfl) (by kernel_rfl) (by kernel_rfl) (fun _ _ _ h => h) (Or.inl ⟨?hw20034, ?hy20034⟩) (by assumption) ?rest20034
      case hi20034 => (simp only [List.getElem?_toArray, List.getElem?_cons_zero, List.getElem?_cons_succ]; rfl)
      case hw20034 => rfl
      case hy20034 => first | (intro wx hSw; obtain ⟨s1_, s2_, s3_⟩ := hSw; go_simp; done) | (intro wx hSw; obtain ⟨s1_, s2_, s3_⟩ := hSw; go_simp; with_reducible rfl)
      simp only [Act.put, List.setIfInBounds_toArray, List.set_cons_zero, List.set_cons_succ]
      refine wpAnyH_take (i := 14) (oi := ?oi20035) (v := ?v20035) ?hi20035 (by kernel_rfl) (by kernel_rfl) (by kernel_rfl) (fun _ _ _ h => h) (Or.inl ⟨?hw20035, ?hy20035⟩) (by assumption) ?rest20035
      case hi20035 => (simp only [List.getElem?_toArray, List.getElem?_cons_zero, List.getElem?_cons_succ]; rfl)
      case hw20035 => rfl
      case hy20035 => first | (intro wx hSw; obtain ⟨s1_, s2_, s3_⟩ := hSw; go_simp; done) | (intro wx hSw; obtain ⟨s1_, s2_, s3_⟩ := hSw; go_simp; with_reducible rfl)
      simp only [Act.put, List.setIfInBounds_toArray, List.set_cons_zero, List.set_cons_succ]
      refine wpAnyH_take (i := 15) (oi := ?oi20036) (v := ?v20036) ?hi20036 (by kernel_rfl) (by kernel_rfl) (by kernel_rfl) (fun _ _ _ h => h) (Or.inl ⟨?hw20036, ?hy20036⟩) (by assumption) ?rest20036
      case hi20036 => (simp only [List.getElem?_toArray, List.getElem?_cons_zero, List.getElem?_cons_succ]; rfl)
      case hw20036 => rfl
      case hy20036 => first | (intro wx hSw; obtain ⟨s1_, s2_, s3_⟩ := hSw; go_simp; done) | (intro wx hSw; obtain ⟨s1_, s2_, s3_⟩ := hSw; go_simp; with_reducible rfl)
      simp only [Act.put, List.setIfInBounds_toArray, List.set_cons_zero, List.set_cons_succ]
      refine wpAnyH_take (i := 16) (oi := ?oi20037) (v := ?v20037) ?hi20037 (by kernel_rfl) (by kernel_rfl) (by kernel_rfl) (fun _ _ _ h => h) (Or.inl ⟨?hw20037, ?hy20037⟩) (by assumption) ?rest20037
      case hi20037 => (simp only [List.getElem?_toArray, List.getElem?_cons_zero, List.getElem?_cons_succ]; rfl)
      case hw20037 => rfl
      case hy20037 => first | (intro wx hSw; obtain ⟨s1_, s2_, s3_⟩ := hSw; go_simp; done) | (intro wx hSw; obtain ⟨s1_, s2_, s3_⟩ := hSw; go_simp; with_reducible rfl)
      simp only [Act.put, List.setIfInBounds_toArray, List.set_cons_zero, List.set_cons_succ]
      refine wpAnyH_take (i := 17) (oi := ?oi20038) (v := undef) ?hi20038 (by kernel_rfl) (by kernel_rfl) (by kernel_rfl) (fun _ _ _ h => h) (Or.inr ⟨?hw20038, rfl⟩) (by assumption) ?rest20038
      case hi20038 => (simp only [List.getElem?_toArray, List.getElem?_cons_zero, List.getElem?_cons_succ]; rfl)
      case hw20038 => rfl
      simp only [Act.put, List.setIfInBounds_toArray, List.set_cons_zero, List.set_cons_succ]
      refine wpAnyH_take (i := 18) (oi := ?oi20039) (v := undef) ?hi20039 (by kernel_rfl) (by kernel_rfl) (by kernel_rfl) (fun _ _ _ h => h) (Or.inr ⟨?hw20039, rfl⟩) (by assumption) ?rest20039
      case hi20039 => (simp only [List.getElem?_toArray, List.getElem?_cons_zero, List.getElem?_cons_succ]; rfl)
      case hw20039 => rfl
      simp only [Act.put, List.setIfInBounds_toArray, List.set_cons_zero, List.set_cons_succ]
      refine wpAnyH_take (i := 19) (oi := ?oi20040) (v := ?v20040) ?hi20040 (by kernel_rfl) (by kernel_rfl) (by kernel_rfl) (fun _ _ _ h => h) (Or.inl ⟨?hw20040, ?hy20040⟩) (by assumption) ?rest20040
      case hi20040 => (simp only [List.getElem?_toArray, List.getElem?_cons_zero, List.getElem?_cons_succ]; rfl)
      case hw20040 => rfl
      case hy20040 => first | (intro wx hSw; obtain ⟨s1_, s2_, s3_⟩ := hSw; go_simp; done) | (intro wx hSw; obtain ⟨s1_, s2_, s3_⟩ := hSw; go_simp; with_reducible rfl)
      simp only [Act.put, List.setIfInBounds_toArray, List.set_cons_zero, List.set_cons_succ]
      refine wpAnyH_done (by kernel_rfl) ?_ _
      refine NoPanic.normal ?_
      refine hrest _ _ ?_
      go_wp2
      go_end0
      exact ⟨⟨_, rfl⟩, (unhide HXS).done (Keep.call _ (unhide HXB))⟩
  · have hr1 : ((n.role : Int) == 1) = false := by rw [beq_eq_false_iff_ne]; omega
    have hr2 : ¬ (n.role : Int) = 1 := by omega
    rw [votedM_no1 hr]
    clear h hr
    go_enter Try.func54, Try.ntmps54
    go_wp2
    have c5' : (W.alloc (.cells #[nI kd, nI fr, nI to, nI tm, nI ix, nI lt, .bool ok, .slice p ents.length c, nI cm, nI fm] 37)).cell? ⟨b, 5, none⟩ = some (.int .i64 (n.role : Int)) := by
      rw [World.cell?_alloc_old]; exact c5
      exact (by omega : b ≠ W.heap.size)
    rename_i hrest
    refine wp_region_noPanic ?_
    refine wp_region_held_drew (S := (fun w' => w'.cell? ⟨b, 5, none⟩ = some (.int .i64 (n.role : Int)))) (by kernel_rfl) (c5') (fun hHeld => ?_)
    refine wpAnyH_take (i := 0) (oi := ?oi20001) (v := ?v20001) ?hi20001 (by kernel_rfl) (by kernel_rfl) (by kernel_rfl) (fun _ _ _ h => h) (Or.inl ⟨?hw20001, ?hy20001⟩) (by assumption) ?rest20001
    case hi20001 => (simp only [List.getElem?_toArray, List.getElem?_cons_zero]; rfl)
    case hw20001 => rfl
    case hy20001 => first | (intro wx hSw; have s1_ := hSw; go_simp; done) | (intro wx hSw; have s1_ := hSw; go_simp; with_reducible rfl)
    simp only [Act.put, List.setIfInBounds_toArray, List.set_cons_zero, List.set_cons_succ]
    refine wpAnyH_take (i := 1) (oi := ?oi20002) (v := ?v20002) ?hi20002 (by kernel_rfl) (by kernel_rfl) (by kernel_rfl) (fun _ _ _ h => h) (Or.inl ⟨?hw20002, ?hy20002⟩) (by assumption) ?rest20002
    case hi20002 => (simp only [List.getElem?_toArray, List.getElem?_cons_zero, List.getElem?_cons_succ]; rfl)
    case hw20002 => rfl
    case hy20002 => first | (intro wx hSw; have s1_ := hSw; go_simp; done) | (intro wx hSw; have s1_ := hSw; go_simp; with_reducible rfl)
    simp only [Act.put, List.setIfInBounds_toArray, List.set_cons_zero, List.set_cons_succ]
    refine wpAnyH_take (i := 2) (oi := ?oi20003) (v := ?v20003) ?hi20003 (by kernel_rfl) (by kernel_rfl) (by kernel_rfl) (fun _ _ _ h => h) (Or.inl ⟨?hw20003, ?hy20003⟩) (by assumption) ?rest20003
    case hi20003 => (simp only [List.getElem?_toArray, List.getElem?_cons_zero, List.getElem?_cons_succ]; rfl)
    case hw20003 => rfl
    case hy20003 => first | (intro wx hSw; have s1_ := hSw; go_simp; done) | (intro wx hSw; have s1_ := hSw; go_simp; with_reducible rfl)
    simp only [Act.put, List.setIfInBounds_toArray, List.set_cons_zero, List.set_cons_succ]
    refine wpAnyH_take (i := 3) (oi := ?oi20004) (v := ?v20004) ?hi20004 (by kernel_rfl) (by kernel_rfl) (by kernel_rfl) (fun _ _ _ h => h) (Or.inl ⟨?hw20004, ?hy20004⟩) (by assumption) ?rest20004
    case hi20004 => (simp only [List.getElem?_toArray, List.getElem?_cons_zero, List.getElem?_cons_succ]; rfl)
    case hw20004 => rfl
    case hy20004 => first | (intro wx hSw; have s1_ := hSw; go_simp; done) | (intro wx hSw; have s1_ := hSw; go_simp; with_reducible rfl)
    simp only [Act.put, List.setIfInBounds_toArray, List.set_cons_zero, List.set_cons_succ]
    refine wpAnyH_take (i := 4) (oi := ?oi20005) (v := ?v20005) ?hi20005 (by kernel_rfl) (by kernel_rfl) (by kernel_rfl) (fun _ _ _ h => h) (Or.inl ⟨?hw20005, ?hy20005⟩) (by assumption) ?rest20005
    case hi20005 => (simp only [List.getElem?_toArray, List.getElem?_cons_zero, List.getElem?_cons_succ]; rfl)
    case hw20005 => rfl
    case hy20005 => first | (intro wx hSw; have s1_ := hSw; go_simp; done) | (intro wx hSw; have s1_ := hSw; go_simp; with_reducible rfl)
    simp only [Act.put, List.setIfInBounds_toArray, List.set_cons_zero, List.set_cons_succ]
    refine wpAnyH_take (i := 5) (oi := ?oi20006) (v := ?v20006) ?hi20006 (by kernel_rfl) (by kernel_rfl) (by kernel_rfl) (fun _ _ _ h => h) (Or.inl ⟨?hw20006, ?hy20006⟩) (by assumption) ?rest20006
    case hi20006 => (simp only [List.getElem?_toArray, List.getElem?_cons_zero, List.getElem?_cons_succ]; rfl)
    case hw20006 => rfl
    case hy20006 => first | (intro wx hSw; have s1_ := hSw; go_simp; done) | (intro wx hSw; have s1_ := hSw; go_simp; with_reducible rfl)
    simp only [Act.put, List.setIfInBounds_toArray, List.set_cons_zero, List.set_cons_succ]
    refine wpAnyH_take (i := 6) (oi := ?oi20007) (v := ?v20007) ?hi20007 (by kernel_rfl) (by kernel_rfl) (by kernel_rfl) (fun _ _ _ h => h) (Or.inl ⟨?hw20007, ?hy20007⟩) (by assumption) ?rest20007
    case hi20007 => (simp only [List.getElem?_toArray, List.getElem?_cons_zero, List.getElem?_cons_succ]; rfl)
    case hw20007 => rfl
    case hy20007 => first | (intro wx hSw; have s1_ := hSw; go_simp; done) | (intro wx hSw; have s1_ := hSw; go_simp; with_reducible rfl)
    simp only [Act.put, List.setIfInBounds_toArray, List.set_cons_zero, List.set_cons_succ]
    refine wpAnyH_take (i := 7) (oi := ?oi20008) (v := undef) ?hi20008 (by kernel_rfl) (by kernel_rfl) (by kernel_rfl) (fun _ _ _ h => h) (Or.inr ⟨?hw20008, rfl⟩) (by assumption) ?rest20008
    case hi20008 => (simp only [List.getElem?_toArray, List.getElem?_cons_zero, List.getElem?_cons_succ]; rfl)
    case hw20008 => rfl
    simp only [Act.put, List.setIfInBounds_toArray, List.set_cons_zero, List.set_cons_succ]
    refine wpAnyH_take (i := 8) (oi := ?oi20009) (v := undef) ?hi20009 (by kernel_rfl) (by kernel_rfl) (by kernel_rfl) (fun _ _ _ h => h) (Or.inr ⟨?hw20009, rfl⟩) (by assumption) ?rest20009
    case hi20009 => (simp only [List.getElem?_toArray, List.getElem?_cons_zero, List.getElem?_cons_succ]; rfl)
    case hw20009 => rfl
    simp only [Act.put, List.setIfInBounds_toArray, List.set_cons_zero, List.set_cons_succ]
    refine wpAnyH_take (i := 9) (oi := ?oi20010) (v := undef) ?hi20010 (by kernel_rfl) (by kernel_rfl) (by kernel_rfl) (fun _ _ _ h => h) (Or.inr ⟨?hw20010, rfl⟩) (by assumption) ?rest20010
    case hi20010 => (simp only [List.getElem?_toArray, List.getElem?_cons_zero, List.getElem?_cons_succ]; rfl)
    case hw20010 => rfl
    simp only [Act.put, List.setIfInBounds_toArray, List.set_cons_zero, List.set_cons_succ]
    refine wpAnyH_take (i := 10) (oi := ?oi20011) (v := undef) ?hi20011 (by kernel_rfl) (by kernel_rfl) (by kernel_rfl) (fun _ _ _ h => h) (Or.inr ⟨?hw20011, rfl⟩) (by assumption) ?rest20011
    case hi20011 => (simp only [List.getElem?_toArray, List.getElem?_cons_zero, List.getElem?_cons_succ]; rfl)
    case hw20011 => rfl
    simp only [Act.put, List.setIfInBounds_toArray, List.set_cons_zero, List.set_cons_succ]
    refine wpAnyH_take (i := 11) (oi := ?oi20012) (v := undef) ?hi20012 (by kernel_rfl) (by kernel_rfl) (by kernel_rfl) (fun _ _ _ h => h) (Or.inr ⟨?hw20012, rfl⟩) (by assumption) ?rest20012
    case hi20012 => (simp only [List.getElem?_toArray, List.getElem?_cons_zero, List.getElem?_cons_succ]; rfl)
    case hw20012 => rfl
    simp only [Act.put, List.setIfInBounds_toArray, List.set_cons_zero, List.set_cons_succ]
    refine wpAnyH_take (i := 12) (oi := ?oi20013) (v := undef) ?hi20013 (by kernel_rfl) (by kernel_rfl) (by kernel_rfl) (fun _ _ _ h => h) (Or.inr ⟨?hw20013, rfl⟩) (by assumption) ?rest20013
    case hi20013 => (simp only [List.getElem?_toArray, List.getElem?_cons_zero, List.getElem?_cons_succ]; rfl)
    case hw20013 => rfl
    simp only [Act.put, List.setIfInBounds_toArray, List.set_cons_zero, List.set_cons_succ]
    refine wpAnyH_take (i := 13) (oi := ?oi20014) (v := undef) ?hi20014 (by kernel_rfl) (by kernel_rfl) (by kernel_rfl) (fun _ _ _ h => h) (Or.inr ⟨?hw20014, rfl⟩) (by assumption) ?rest20014
    case hi20014 => (simp only [List.getElem?_toArray, List.getElem?_cons_zero, List.getElem?_cons_succ]; rfl)
    case hw20014 => rfl
    simp only [Act.put, List.setIfInBounds_toArray, List.set_cons_zero, List.set_cons_succ]
    refine wpAnyH_take (i := 14) (oi := ?oi20015) (v := undef) ?hi20015 (by kernel_rfl) (by kernel_rfl) (by kernel_rfl) (fun _ _ _ h => h) (Or.inr ⟨?hw20015, rfl⟩) (by assumption) ?rest20015
    case hi20015 => (simp only [List.getElem?_toArray, List.getElem?_cons_zero, List.getElem?_cons_succ]; rfl)
    case hw20015 => rfl
    simp only [Act.put, List.setIfInBounds_toArray, List.set_cons_zero, List.set_cons_succ]
    refine wpAnyH_take (i := 15) (oi := ?oi20016) (v := ?v20016) ?hi20016 (by kernel_rfl) (by kernel_rfl) (by kernel_rfl) (fun _ _ _ h => h) (Or.inl ⟨?hw20016, ?hy20016⟩) (by assumption) ?rest20016
    case hi20016 => (simp only [List.getElem?_toArray, List.getElem?_cons_zero, List.getElem?_cons_succ]; rfl)
    case hw20016 => rfl
    case hy20016 => first | (intro wx hSw; have s1_ := hSw; go_simp; done) | (intro wx hSw; have s1_ := hSw; go_simp; with_reducible rfl)
    simp only [Act.put, List.setIfInBounds_toArray, List.set_cons_zero, List.set_cons_succ]
    refine wpAnyH_take (i := 16) (oi := ?oi20017) (v := ?v20017) ?hi20017 (by kernel_rfl) (by kernel_rfl) (by kernel_rfl) (fun _ _ _ h => h) (Or.inl ⟨?hw20017, ?hy20017⟩) (by assumption) ?rest20017
    case hi20017 => (simp only [List.getElem?_toArray, List.getElem?_cons_zero, List.getElem?_cons_succ]; rfl)
    case hw20017 => rfl
    case hy20017 => first | (intro wx hSw; have s1_ := hSw; go_simp; done) | (intro wx hSw; have s1_ := hSw; go_simp; with_reducible rfl)
    simp only [Act.put, List.setIfInBounds_toArray, List.set_cons_zero, List.set_cons_succ]
    refine wpAnyH_take (i := 17) (oi := ?oi20018) (v := undef) ?hi20018 (by kernel_rfl) (by kernel_rfl) (by kernel_rfl) (fun _ _ _ h => h) (Or.inr ⟨?hw20018, rfl⟩) (by assumption) ?rest20018
    case hi20018 => (simp only [List.getElem?_toArray, List.getElem?_cons_zero, List.getElem?_cons_succ]; rfl)
    case hw20018 => rfl
    simp only [Act.put, List.setIfInBounds_toArray, List.set_cons_zero, List.set_cons_succ]
    refine wpAnyH_take (i := 18) (oi := ?oi20019) (v := undef) ?hi20019 (by kernel_rfl) (by kernel_rfl) (by kernel_rfl) (fun _ _ _ h => h) (Or.inr ⟨?hw20019, rfl⟩) (by assumption) ?rest20019
    case hi20019 => (simp only [List.getElem?_toArray, List.getElem?_cons_zero, List.getElem?_cons_succ]; rfl)
    case hw20019 => rfl
    simp only [Act.put, List.setIfInBounds_toArray, List.set_cons_zero, List.set_cons_succ]
    refine wpAnyH_take (i := 19) (oi := ?oi20020) (v := ?v20020) ?hi20020 (by kernel_rfl) (by kernel_rfl) (by kernel_rfl) (fun _ _ _ h => h) (Or.inl ⟨?hw20020, ?hy20020⟩) (by assumption) ?rest20020
    case hi20020 => (simp only [List.getElem?_toArray, List.getElem?_cons_zero, List.getElem?_cons_succ]; rfl)
    case hw20020 => rfl
    case hy20020 => first | (intro wx hSw; have s1_ := hSw; go_simp; done) | (intro wx hSw; have s1_ := hSw; go_simp; with_reducible rfl)
    simp only [Act.put, List.setIfInBounds_toArray, List.set_cons_zero, List.set_cons_succ]
    refine wpAnyH_done (by kernel_rfl) ?_ _
    refine NoPanic.normal ?_
    refine hrest _ _ ?_
    go_wp2
    go_end0
    exact ⟨⟨_, rfl⟩, (unhide HXS).done (Keep.call _ (unhide HXB))⟩
set_option maxRecDepth 100000 in
set_option maxHeartbeats 4000000 in
theorem handleV_any (b : Nat) (q : Q5) (sv : Value) (n : Nd) (S : List (Ms × Value)) (m : Ms) (p : Option Addr) (c : Nat) (W : World) (h : St b q sv n S W) (f : Fit n) (hm : m.frm < n.votes.length) (hk : m.kind = 2) (ht : m.term ≤ n.term) (hlg : n.log.length < 500000) (hS : S.length ≤ 90000) :
    Calls Try.prog 31 #[ptr b 0, .agg (msA m (.slice p m.ents.length c))] W fun e W' => (∃ v, e = .returned v) ∧ Done b (votedM n m).1 S (votedM n m).2 (Foot b q sv) W W' := by
  have c1 := h.c1
  have hl := h.blk.lt
  have HXB := hide ((below_new W (.cells (msA m (.slice p m.ents.length c)) 37)).drew)
  have VA := hide (voted_any b q sv n S m p c _ (h.call (unhide HXB)) f hm hlg hS)
  obtain ⟨n', hn'⟩ : ∃ n', (votedM n m).1 = n' := ⟨_, rfl⟩
  obtain ⟨ms, hms⟩ : ∃ ms, (votedM n m).2 = ms := ⟨_, rfl⟩
  rw [hn', hms] at VA ⊢
  clear hn' hms
  obtain ⟨kd, fr, to, tm, ix, lt, ok, ents, cm, fm⟩ := m
  simp only at hm hk ht VA HXB ⊢
  subst hk
  have ht1 : ¬ (n.term : Int) < (tm : Int) := by omega
  have ht2 : decide ((n.term : Int) < (tm : Int)) = false := decide_eq_false ht1
  have HXM : Hid (Blk W.heap.size #[nI 2, nI fr, nI to, nI tm, nI ix, nI lt, .bool ok, .slice p ents.length c, nI cm, nI fm] 37 (W.alloc (.cells #[nI 2, nI fr, nI to, nI tm, nI ix, nI lt, .bool ok, .slice p ents.length c, nI cm, nI fm] 37)).drew) := hide ((Blk.new W #[nI 2, nI fr, nI to, nI tm, nI ix, nI lt, .bool ok, .slice p ents.length c, nI cm, nI fm] 37).below (below_drew _))
  clear h
  go_enter Try.func31, Try.ntmps31
  go_wp2
  go_region_held3 (fun w' => w'.cell? ⟨W.heap.size, 3, none⟩ = some (.int .i64 (tm : Int)) ∧ w'.cell? ⟨b, 1, none⟩ = some (.int .i64 (n.term : Int))) (go_keep) (fail)
  generalize hX : (W.alloc (.cells #[nI 2, nI fr, nI to, nI tm, nI ix, nI lt, .bool ok, .slice p ents.length c, nI cm, nI fm] 37)).drew = X at HXB HXM VA ⊢
  clear hX
  obtain ⟨d0, d1, d2, d3, d4, d5, d6, d7, d8, d9⟩ : Box10 W.heap.size (⟨2, fr, to, tm, ix, lt, ok, ents, cm, fm⟩ : Ms) (.slice p ents.length c) X := (unhide HXM).box10 (m := ⟨2, fr, to, tm, ix, lt, ok, ents, cm, fm⟩)
  go_wp2_with (go_at_call 54; refine (unhide VA).mono ?_; rintro e W3 ⟨⟨v, rfl⟩, hs⟩)
  go_end0
  exact ⟨⟨_, rfl⟩, hs.pre (Keep.call _ (unhide HXB))⟩
end Go.Proofs.Ytbojfiflemmgaaa
