/-
  Package raft's count.
-/
import Derived.Test.YtbojfiflemmgaaaGC
namespace Go.Proofs.Ytbojfiflemmgaaa
open Go.RowKit
set_option linter.unusedSimpArgs false
set_option linter.unusedVariables false

set_option maxHeartbeats 400000 in
theorem countC_any (x : Bool) (w : World) : Calls Try.prog 78 (#[.bool x] ++ #[]) w fun e w' => e = .returned (.bool (id x)) ∧ w' = w := by
  simp only [List.append_toArray, List.append_nil]
  go_enter Try.func78, Try.ntmps78
  go_wp2
  go_ret
  exact ⟨rfl, rfl⟩
theorem Fit.count {n : Nd} (f : Fit n) (k : Nat) : Fit (countN n k) :=
  ⟨by simpa [countN] using f.id, by simpa [countN] using f.size, by simpa [countN] using f.next, by simpa [countN] using f.mat, by simpa [countN] using f.forms, f.log, f.small, f.terms, f.term, f.commit, f.clock, f.due⟩
theorem countM_no {n : Nd} {k : Nat} (h : ¬ n.votes.length < 2 * cnt id (n.votes.set k true)) : countM n k = (countN n k, []) := if_neg h
theorem countM_yes {n : Nd} {k : Nat} (h : n.votes.length < 2 * cnt id (n.votes.set k true)) : countM n k = leadM (countN n k) := if_pos h
set_option maxRecDepth 100000 in
set_option maxHeartbeats 4000000 in
theorem count_any (b : Nat) (q : Q5) (sv : Value) (n : Nd) (S : List (Ms × Value)) (k : Nat) (W : World) (h : St b q sv n S W) (f : Fit n) (hk : k < n.votes.length) (hl : n.log.length < 500000) (hS : S.length ≤ 90000) :
    Calls Try.prog 69 #[ptr b 0, nI k] W fun e W' => (∃ v, e = .returned v) ∧ Done b (countM n k).1 S (countM n k).2 (Foot b q sv) W W' := by
  have hsz := f.size
  obtain ⟨g, cap, hv, hg, hcell, hfz⟩ := own_cells h.rows.votes (by omega)
  have c7 := h.c7
  rw [hv] at c7
  have cv := hcell k _ (boC_at n.votes k hk)
  have hgb : g ≠ b := fun e => h.nb (.inr (.inl (e ▸ ownB_of hv)))
  have hbl := h.blk.lt
  have hi0 : (0 : Int) ≤ (k : Int) := by omega
  have hi1 : (k : Int) < (n.votes.length : Int) := by omega
  obtain ⟨M1, M2⟩ := h.votes_set hv hk (x := true)
  have c7' := M1.c7
  rw [hv] at c7'
  have hlen : (n.votes.set k true).length = n.votes.length := List.length_set
  have MS := Sees.of_own M1.rows.votes
  rw [hv] at MS
  have MA := hide (majority_bool_any 78 #[] id _ (n.votes.set k true) _ (enters_of Try.func78 (by kernel_rfl) rfl) (fun x => countC_any x _) MS (by omega))
  rw [hlen] at MA
  have H1 := hide M1
  have HK1 := hide M2
  have HFC := hide (f.count k)
  clear h f hcell M1 M2 MS hlen
  by_cases hm : n.votes.length < 2 * cnt id (n.votes.set k true)
  · have hd : decide (n.votes.length < 2 * cnt id (n.votes.set k true)) = true := decide_eq_true hm
    rw [hd] at MA
    rw [countM_yes hm]
    clear hd hm
    go_enter Try.func69, Try.ntmps69
    go_wp2_with (first
      | (go_at_call 77; refine (unhide MA).mono ?_; rintro e W2 ⟨rfl, hW2⟩; replace hW2 := hW2.symm; subst hW2)
      | (go_at_call 79; refine (lead_any b q sv (countN n k) S _ (unhide H1) (unhide HFC) hl hS).mono ?_; rintro e W3 ⟨⟨v, rfl⟩, hd⟩))
    go_end0
    exact ⟨⟨_, rfl⟩, hd.pre (unhide HK1)⟩
  · have hd : decide (n.votes.length < 2 * cnt id (n.votes.set k true)) = false := decide_eq_false hm
    rw [hd] at MA
    rw [countM_no hm]
    clear hd hm
    go_enter Try.func69, Try.ntmps69
    go_wp2_with (first
      | (go_at_call 77; refine (unhide MA).mono ?_; rintro e W2 ⟨rfl, hW2⟩; replace hW2 := hW2.symm; subst hW2))
    go_end0
    exact ⟨⟨_, rfl⟩, (unhide H1).done (unhide HK1)⟩
end Go.Proofs.Ytbojfiflemmgaaa
