/-
  Package raft's vote.
-/
import Derived.Test.YtbojfiflemmgaaaHC
namespace Go.Proofs.Ytbojfiflemmgaaa
open Go.RowKit
set_option linter.unusedSimpArgs false
set_option linter.unusedVariables false

theorem vote_no {n : Nd} {m : Ms} (h : grants n m = false) : voteM n m = (n, [backM n m 2 0 false 0]) := by
  unfold voteM voteN
  rw [h]; rfl
theorem vote_yes {n : Nd} {m : Ms} (h : grants n m = true) : voteM n m = (anewM { n with vote := m.frm }, [backM n m 2 0 true 0]) := by
  unfold voteM voteN
  rw [h]; rfl
theorem St.sent1 {b : Nat} {q : Q5} {sv : Value} {n : Nd} {S : List (Ms × Value)} {m : Ms} {W0 W W' : World} {F : Nat → Prop} (h : St b q sv n (S ++ [(m, .slice none 0 0)]) W') (hK : Keep W0 W' F (Foot b q sv)) : Done b n S [m] F W0 W' :=
  ⟨q, sv, [.slice none 0 0], ⟨rfl, fun e he k hk => by rw [List.mem_singleton.1 he] at hk; cases hk⟩, h, hK⟩
set_option maxRecDepth 100000 in
set_option maxHeartbeats 8000000 in
theorem vote_any (b : Nat) (q : Q5) (sv : Value) (n : Nd) (S : List (Ms × Value)) (m : Ms) (p : Option Addr) (c : Nat) (W : World) (h : St b q sv n S W) (f : Fit n) (hS : S.length ≤ 90000) :
    Calls Try.prog 53 #[ptr b 0, .agg (msA m (.slice p m.ents.length c))] W fun e W' => (∃ v, e = .returned v) ∧ Done b (voteM n m).1 S (voteM n m).2 (Foot b q sv) W W' := by
  obtain ⟨kd, fr, to, tm, ix, lt, ok, ents, cm, fm⟩ := m
  have hfl := f.log
  have hf5 : n.id ≤ 5 := by have := f.id; have := f.size; omega
  have hfc := f.clock
  have H1 := hide (h.call (below_new W (.cells #[nI kd, nI fr, nI to, nI tm, nI ix, nI lt, .bool ok, .slice p ents.length c, nI cm, nI fm] 37)))
  have LA := hide (fun X (hb : Below W.heap.size W X) => last_any b q sv n S X (h.call hb))
  obtain ⟨own, how⟩ : ∃ own, termAt n.log n.log.length = own := ⟨_, rfl⟩
  have TO := hide (termOf_any b q sv n S n.log.length _ (unhide H1) (by omega))
  rw [how] at TO
  have HB1 := hide (below_new W (.cells #[nI kd, nI fr, nI to, nI tm, nI ix, nI lt, .bool ok, .slice p ents.length c, nI cm, nI fm] 37))
  have HM1 := hide (Blk.new W #[nI kd, nI fr, nI to, nI tm, nI ix, nI lt, .bool ok, .slice p ents.length c, nI cm, nI fm] 37)
  have LB := hide (fun X (h : St b q sv n S X) => last_any b q sv n S X h)
  have hl := h.blk.lt
  have hnb : b ≠ W.heap.size := by omega
  have HF0 : Hid (¬ Foot b q sv W.heap.size) := hide (fun hf => by have := h.flt hf; omega)
  have c1 : (W.alloc (.cells #[nI kd, nI fr, nI to, nI tm, nI ix, nI lt, .bool ok, .slice p ents.length c, nI cm, nI fm] 37)).cell? ⟨b, 1, none⟩ = some (.int .i64 (n.term : Int)) := (unhide H1).c1
  have c2 : (W.alloc (.cells #[nI kd, nI fr, nI to, nI tm, nI ix, nI lt, .bool ok, .slice p ents.length c, nI cm, nI fm] 37)).cell? ⟨b, 2, none⟩ = some (.int .i64 n.vote) := (unhide H1).c2
  have m3 : (W.alloc (.cells #[nI kd, nI fr, nI to, nI tm, nI ix, nI lt, .bool ok, .slice p ents.length c, nI cm, nI fm] 37)).cell? ⟨W.heap.size, 3, none⟩ = some (.int .i64 (tm : Int)) := (unhide HM1).cell 3
  have m1 : (W.alloc (.cells #[nI kd, nI fr, nI to, nI tm, nI ix, nI lt, .bool ok, .slice p ents.length c, nI cm, nI fm] 37)).cell? ⟨W.heap.size, 1, none⟩ = some (.int .i64 (fr : Int)) := (unhide HM1).cell 1
  have SA := hide (fun n' X (k : Bool) (h : St b q sv n' S X) => (send_any b q sv n' S fr ⟨2, 0, 0, 0, 0, 0, k, [], 0, 0⟩ (.slice none 0 0) X h (Sees.nil 2 X) (by intro k hk; cases hk) (by omega) : Calls Try.prog 68 #[ptr b 0, .int .i64 (fr : Int), .agg #[.int .i64 2, .int .i64 0, .int .i64 0, .int .i64 0, .int .i64 0, .int .i64 0, .bool k, .slice none 0 0, .int .i64 0, .int .i64 0]] X _))
  replace how := hide how
  clear h f
  by_cases ht : tm = n.term
  · subst ht
    by_cases hv : n.vote = -1
    · skip
      have HV := hide hv
      rw [hv] at c2
      clear hv
      go_enter Try.func53, Try.ntmps53
      go_wp2_with (first
        | (go_at_call 52; refine (unhide LA _ (unhide HB1)).mono ?_; rintro e w' ⟨rfl, hW⟩; replace hW := hW.symm; subst hW)
        | (go_at_call 66; refine (unhide TO).mono ?_; rintro e w' ⟨rfl, hW⟩; replace hW := hW.symm; subst hW))
      rename_i hrest
      refine wp_region_noPanic ?_
      refine wp_region_held_drew (S := (fun w' => w'.cell? ⟨b, 1, none⟩ = some (.int .i64 (n.term : Int)) ∧ w'.cell? ⟨b, 2, none⟩ = some (.int .i64 (-1)) ∧ w'.cell? ⟨W.heap.size, 3, none⟩ = some (.int .i64 (n.term : Int)))) (by kernel_rfl) (⟨c1, c2, m3⟩) (fun hHeld => ?_)
      refine wpAnyH_take (i := 0) (oi := ?oi20043) (v := ?v20043) ?hi20043 (by kernel_rfl) (by kernel_rfl) (by kernel_rfl) (fun _ _ _ h => h) (Or.inl ⟨?hw20043, ?hy20043⟩) (by assumption) ?rest20043
      case hi20043 => (simp only [List.getElem?_toArray, List.getElem?_cons_zero]; rfl)
      case hw20043 => rfl
      case hy20043 => first | (intro wx hSw; obtain ⟨s1_, s2_, s3_⟩ := hSw; go_simp; done) | (intro wx hSw; obtain ⟨s1_, s2_, s3_⟩ := hSw; go_simp; with_reducible rfl)
      simp only [Act.put, List.setIfInBounds_toArray, List.set_cons_zero, List.set_cons_succ]
      refine wpAnyH_take (i := 1) (oi := ?oi20044) (v := ?v20044) ?hi20044 (by kernel_rfl) (by kernel_rfl) (by kernel_rfl) (fun _ _ _ h => h) (Or.inl ⟨?hw20044, ?hy20044⟩) (by assumption) ?rest20044
      case hi20044 => (simp only [List.getElem?_toArray, List.getElem?_cons_zero, List.getElem?_cons_succ]; rfl)
      case hw20044 => rfl
      case hy20044 => first | (intro wx hSw; obtain ⟨s1_, s2_, s3_⟩ := hSw; go_simp; done) | (intro wx hSw; obtain ⟨s1_, s2_, s3_⟩ := hSw; go_simp; with_reducible rfl)
      simp only [Act.put, List.setIfInBounds_toArray, List.set_cons_zero, List.set_cons_succ]
      refine wpAnyH_take (i := 2) (oi := ?oi20045) (v := ?v20045) ?hi20045 (by kernel_rfl) (by kernel_rfl) (by kernel_rfl) (fun _ _ _ h => h) (Or.inl ⟨?hw20045, ?hy20045⟩) (by assumption) ?rest20045
      case hi20045 => (simp only [List.getElem?_toArray, List.getElem?_cons_zero, List.getElem?_cons_succ]; rfl)
      case hw20045 => rfl
      case hy20045 => first | (intro wx hSw; obtain ⟨s1_, s2_, s3_⟩ := hSw; go_simp; done) | (intro wx hSw; obtain ⟨s1_, s2_, s3_⟩ := hSw; go_simp; with_reducible rfl)
      simp only [Act.put, List.setIfInBounds_toArray, List.set_cons_zero, List.set_cons_succ]
      refine wpAnyH_take (i := 3) (oi := ?oi20046) (v := ?v20046) ?hi20046 (by kernel_rfl) (by kernel_rfl) (by kernel_rfl) (fun _ _ _ h => h) (Or.inl ⟨?hw20046, ?hy20046⟩) (by assumption) ?rest20046
      case hi20046 => (simp only [List.getElem?_toArray, List.getElem?_cons_zero, List.getElem?_cons_succ]; rfl)
      case hw20046 => rfl
      case hy20046 => first | (intro wx hSw; obtain ⟨s1_, s2_, s3_⟩ := hSw; go_simp; done) | (intro wx hSw; obtain ⟨s1_, s2_, s3_⟩ := hSw; go_simp; with_reducible rfl)
      simp only [Act.put, List.setIfInBounds_toArray, List.set_cons_zero, List.set_cons_succ]
      refine wpAnyH_take (i := 4) (oi := ?oi20047) (v := ?v20047) ?hi20047 (by kernel_rfl) (by kernel_rfl) (by kernel_rfl) (fun _ _ _ h => h) (Or.inl ⟨?hw20047, ?hy20047⟩) (by assumption) ?rest20047
      case hi20047 => (simp only [List.getElem?_toArray, List.getElem?_cons_zero, List.getElem?_cons_succ]; rfl)
      case hw20047 => rfl
      case hy20047 => first | (intro wx hSw; obtain ⟨s1_, s2_, s3_⟩ := hSw; go_simp; done) | (intro wx hSw; obtain ⟨s1_, s2_, s3_⟩ := hSw; go_simp; with_reducible rfl)
      simp only [Act.put, List.setIfInBounds_toArray, List.set_cons_zero, List.set_cons_succ]
      refine wpAnyH_take (i := 5) (oi := ?oi20048) (v := ?v20048) ?hi20048 (by kernel_rfl) (by kernel_rfl) (by kernel_rfl) (fun _ _ _ h => h) (Or.inl ⟨?hw20048, ?hy20048⟩) (by assumption) ?rest20048
      case hi20048 => (simp only [List.getElem?_toArray, List.getElem?_cons_zero, List.getElem?_cons_succ]; rfl)
      case hw20048 => rfl
      case hy20048 => first | (intro wx hSw; obtain ⟨s1_, s2_, s3_⟩ := hSw; go_simp; done) | (intro wx hSw; obtain ⟨s1_, s2_, s3_⟩ := hSw; go_simp; with_reducible rfl)
      simp only [Act.put, List.setIfInBounds_toArray, List.set_cons_zero, List.set_cons_succ]
      refine wpAnyH_take (i := 6) (oi := ?oi20049) (v := ?v20049) ?hi20049 (by kernel_rfl) (by kernel_rfl) (by kernel_rfl) (fun _ _ _ h => h) (Or.inl ⟨?hw20049, ?hy20049⟩) (by assumption) ?rest20049
      case hi20049 => (simp only [List.getElem?_toArray, List.getElem?_cons_zero, List.getElem?_cons_succ]; rfl)
      case hw20049 => rfl
      case hy20049 => first | (intro wx hSw; obtain ⟨s1_, s2_, s3_⟩ := hSw; go_simp; done) | (intro wx hSw; obtain ⟨s1_, s2_, s3_⟩ := hSw; go_simp; with_reducible rfl)
      simp only [Act.put, List.setIfInBounds_toArray, List.set_cons_zero, List.set_cons_succ]
      refine wpAnyH_take (i := 7) (oi := ?oi20050) (v := ?v20050) ?hi20050 (by kernel_rfl) (by kernel_rfl) (by kernel_rfl) (fun _ _ _ h => h) (Or.inl ⟨?hw20050, ?hy20050⟩) (by assumption) ?rest20050
      case hi20050 => (simp only [List.getElem?_toArray, List.getElem?_cons_zero, List.getElem?_cons_succ]; rfl)
      case hw20050 => rfl
      case hy20050 => first | (intro wx hSw; obtain ⟨s1_, s2_, s3_⟩ := hSw; go_simp; done) | (intro wx hSw; obtain ⟨s1_, s2_, s3_⟩ := hSw; go_simp; with_reducible rfl)
      simp only [Act.put, List.setIfInBounds_toArray, List.set_cons_zero, List.set_cons_succ]
      refine wpAnyH_take (i := 8) (oi := ?oi20051) (v := ?v20051) ?hi20051 (by kernel_rfl) (by kernel_rfl) (by kernel_rfl) (fun _ _ _ h => h) (Or.inl ⟨?hw20051, ?hy20051⟩) (by assumption) ?rest20051
      case hi20051 => (simp only [List.getElem?_toArray, List.getElem?_cons_zero, List.getElem?_cons_succ]; rfl)
      case hw20051 => rfl
      case hy20051 => first | (intro wx hSw; obtain ⟨s1_, s2_, s3_⟩ := hSw; go_simp; done) | (intro wx hSw; obtain ⟨s1_, s2_, s3_⟩ := hSw; go_simp; with_reducible rfl)
      simp only [Act.put, List.setIfInBounds_toArray, List.set_cons_zero, List.set_cons_succ]
      refine wpAnyH_take (i := 9) (oi := ?oi20052) (v := ?v20052) ?hi20052 (by kernel_rfl) (by kernel_rfl) (by kernel_rfl) (fun _ _ _ h => h) (Or.inl ⟨?hw20052, ?hy20052⟩) (by assumption) ?rest20052
      case hi20052 => (simp only [List.getElem?_toArray, List.getElem?_cons_zero, List.getElem?_cons_succ]; rfl)
      case hw20052 => rfl
      case hy20052 => first | (intro wx hSw; obtain ⟨s1_, s2_, s3_⟩ := hSw; go_simp; done) | (intro wx hSw; obtain ⟨s1_, s2_, s3_⟩ := hSw; go_simp; with_reducible rfl)
      simp only [Act.put, List.setIfInBounds_toArray, List.set_cons_zero, List.set_cons_succ]
      refine wpAnyH_take (i := 10) (oi := ?oi20053) (v := ?v20053) ?hi20053 (by kernel_rfl) (by kernel_rfl) (by kernel_rfl) (fun _ _ _ h => h) (Or.inl ⟨?hw20053, ?hy20053⟩) (by assumption) ?rest20053
      case hi20053 => (simp only [List.getElem?_toArray, List.getElem?_cons_zero, List.getElem?_cons_succ]; rfl)
      case hw20053 => rfl
      case hy20053 => first | (intro wx hSw; obtain ⟨s1_, s2_, s3_⟩ := hSw; go_simp; done) | (intro wx hSw; obtain ⟨s1_, s2_, s3_⟩ := hSw; go_simp; with_reducible rfl)
      simp only [Act.put, List.setIfInBounds_toArray, List.set_cons_zero, List.set_cons_succ]
      refine wpAnyH_take (i := 11) (oi := ?oi20054) (v := ?v20054) ?hi20054 (by kernel_rfl) (by kernel_rfl) (by kernel_rfl) (fun _ _ _ h => h) (Or.inl ⟨?hw20054, ?hy20054⟩) (by assumption) ?rest20054
      case hi20054 => (simp only [List.getElem?_toArray, List.getElem?_cons_zero, List.getElem?_cons_succ]; rfl)
      case hw20054 => rfl
      case hy20054 => first | (intro wx hSw; obtain ⟨s1_, s2_, s3_⟩ := hSw; go_simp; done) | (intro wx hSw; obtain ⟨s1_, s2_, s3_⟩ := hSw; go_simp; with_reducible rfl)
      simp only [Act.put, List.setIfInBounds_toArray, List.set_cons_zero, List.set_cons_succ]
      refine wpAnyH_take (i := 12) (oi := ?oi20055) (v := ?v20055) ?hi20055 (by kernel_rfl) (by kernel_rfl) (by kernel_rfl) (fun _ _ _ h => h) (Or.inl ⟨?hw20055, ?hy20055⟩) (by assumption) ?rest20055
      case hi20055 => (simp only [List.getElem?_toArray, List.getElem?_cons_zero, List.getElem?_cons_succ]; rfl)
      case hw20055 => rfl
      case hy20055 => first | (intro wx hSw; obtain ⟨s1_, s2_, s3_⟩ := hSw; go_simp; done) | (intro wx hSw; obtain ⟨s1_, s2_, s3_⟩ := hSw; go_simp; with_reducible rfl)
      simp only [Act.put, List.setIfInBounds_toArray, List.set_cons_zero, List.set_cons_succ]
      refine wpAnyH_take (i := 13) (oi := ?oi20056) (v := ?v20056) ?hi20056 (by kernel_rfl) (by kernel_rfl) (by kernel_rfl) (fun _ _ _ h => h) (Or.inl ⟨?hw20056, ?hy20056⟩) (by assumption) ?rest20056
      case hi20056 => (simp only [List.getElem?_toArray, List.getElem?_cons_zero, List.getElem?_cons_succ]; rfl)
      case hw20056 => rfl
      case hy20056 => first | (intro wx hSw; obtain ⟨s1_, s2_, s3_⟩ := hSw; go_simp; done) | (intro wx hSw; obtain ⟨s1_, s2_, s3_⟩ := hSw; go_simp; with_reducible rfl)
      simp only [Act.put, List.setIfInBounds_toArray, List.set_cons_zero, List.set_cons_succ]
      refine wpAnyH_take (i := 14) (oi := ?oi20057) (v := ?v20057) ?hi20057 (by kernel_rfl) (by kernel_rfl) (by kernel_rfl) (fun _ _ _ h => h) (Or.inl ⟨?hw20057, ?hy20057⟩) (by assumption) ?rest20057
      case hi20057 => (simp only [List.getElem?_toArray, List.getElem?_cons_zero, List.getElem?_cons_succ]; rfl)
      case hw20057 => rfl
      case hy20057 => first | (intro wx hSw; obtain ⟨s1_, s2_, s3_⟩ := hSw; go_simp; done) | (intro wx hSw; obtain ⟨s1_, s2_, s3_⟩ := hSw; go_simp; with_reducible rfl)
      simp only [Act.put, List.setIfInBounds_toArray, List.set_cons_zero, List.set_cons_succ]
      refine wpAnyH_take (i := 15) (oi := ?oi20058) (v := ?v20058) ?hi20058 (by kernel_rfl) (by kernel_rfl) (by kernel_rfl) (fun _ _ _ h => h) (Or.inl ⟨?hw20058, ?hy20058⟩) (by assumption) ?rest20058
      case hi20058 => (simp only [List.getElem?_toArray, List.getElem?_cons_zero, List.getElem?_cons_succ]; rfl)
      case hw20058 => rfl
      case hy20058 => first | (intro wx hSw; obtain ⟨s1_, s2_, s3_⟩ := hSw; go_simp; done) | (intro wx hSw; obtain ⟨s1_, s2_, s3_⟩ := hSw; go_simp; with_reducible rfl)
      simp only [Act.put, List.setIfInBounds_toArray, List.set_cons_zero, List.set_cons_succ]
      refine wpAnyH_take (i := 16) (oi := ?oi20059) (v := undef) ?hi20059 (by kernel_rfl) (by kernel_rfl) (by kernel_rfl) (fun _ _ _ h => h) (Or.inr ⟨?hw20059, rfl⟩) (by assumption) ?rest20059
      case hi20059 => (simp only [List.getElem?_toArray, List.getElem?_cons_zero, List.getElem?_cons_succ]; rfl)
      case hw20059 => rfl
      simp only [Act.put, List.setIfInBounds_toArray, List.set_cons_zero, List.set_cons_succ]
      refine wpAnyH_take (i := 17) (oi := ?oi20060) (v := undef) ?hi20060 (by kernel_rfl) (by kernel_rfl) (by kernel_rfl) (fun _ _ _ h => h) (Or.inr ⟨?hw20060, rfl⟩) (by assumption) ?rest20060
      case hi20060 => (simp only [List.getElem?_toArray, List.getElem?_cons_zero, List.getElem?_cons_succ]; rfl)
      case hw20060 => rfl
      simp only [Act.put, List.setIfInBounds_toArray, List.set_cons_zero, List.set_cons_succ]
      refine wpAnyH_take (i := 18) (oi := ?oi20061) (v := undef) ?hi20061 (by kernel_rfl) (by kernel_rfl) (by kernel_rfl) (fun _ _ _ h => h) (Or.inr ⟨?hw20061, rfl⟩) (by assumption) ?rest20061
      case hi20061 => (simp only [List.getElem?_toArray, List.getElem?_cons_zero, List.getElem?_cons_succ]; rfl)
      case hw20061 => rfl
      simp only [Act.put, List.setIfInBounds_toArray, List.set_cons_zero, List.set_cons_succ]
      refine wpAnyH_take (i := 19) (oi := ?oi20062) (v := undef) ?hi20062 (by kernel_rfl) (by kernel_rfl) (by kernel_rfl) (fun _ _ _ h => h) (Or.inr ⟨?hw20062, rfl⟩) (by assumption) ?rest20062
      case hi20062 => (simp only [List.getElem?_toArray, List.getElem?_cons_zero, List.getElem?_cons_succ]; rfl)
      case hw20062 => rfl
      simp only [Act.put, List.setIfInBounds_toArray, List.set_cons_zero, List.set_cons_succ]
      refine wpAnyH_take (i := 20) (oi := ?oi20063) (v := undef) ?hi20063 (by kernel_rfl) (by kernel_rfl) (by kernel_rfl) (fun _ _ _ h => h) (Or.inr ⟨?hw20063, rfl⟩) (by assumption) ?rest20063
      case hi20063 => (simp only [List.getElem?_toArray, List.getElem?_cons_zero, List.getElem?_cons_succ]; rfl)
      case hw20063 => rfl
      simp only [Act.put, List.setIfInBounds_toArray, List.set_cons_zero, List.set_cons_succ]
      refine wpAnyH_take (i := 21) (oi := ?oi20064) (v := undef) ?hi20064 (by kernel_rfl) (by kernel_rfl) (by kernel_rfl) (fun _ _ _ h => h) (Or.inr ⟨?hw20064, rfl⟩) (by assumption) ?rest20064
      case hi20064 => (simp only [List.getElem?_toArray, List.getElem?_cons_zero, List.getElem?_cons_succ]; rfl)
      case hw20064 => rfl
      simp only [Act.put, List.setIfInBounds_toArray, List.set_cons_zero, List.set_cons_succ]
      refine wpAnyH_take (i := 22) (oi := ?oi20065) (v := undef) ?hi20065 (by kernel_rfl) (by kernel_rfl) (by kernel_rfl) (fun _ _ _ h => h) (Or.inr ⟨?hw20065, rfl⟩) (by assumption) ?rest20065
      case hi20065 => (simp only [List.getElem?_toArray, List.getElem?_cons_zero, List.getElem?_cons_succ]; rfl)
      case hw20065 => rfl
      simp only [Act.put, List.setIfInBounds_toArray, List.set_cons_zero, List.set_cons_succ]
      refine wpAnyH_take (i := 23) (oi := ?oi20066) (v := undef) ?hi20066 (by kernel_rfl) (by kernel_rfl) (by kernel_rfl) (fun _ _ _ h => h) (Or.inr ⟨?hw20066, rfl⟩) (by assumption) ?rest20066
      case hi20066 => (simp only [List.getElem?_toArray, List.getElem?_cons_zero, List.getElem?_cons_succ]; rfl)
      case hw20066 => rfl
      simp only [Act.put, List.setIfInBounds_toArray, List.set_cons_zero, List.set_cons_succ]
      refine wpAnyH_take (i := 24) (oi := ?oi20067) (v := ?v20067) ?hi20067 (by kernel_rfl) (by kernel_rfl) (by kernel_rfl) (fun _ _ _ h => h) (Or.inl ⟨?hw20067, ?hy20067⟩) (by assumption) ?rest20067
      case hi20067 => (simp only [List.getElem?_toArray, List.getElem?_cons_zero, List.getElem?_cons_succ]; rfl)
      case hw20067 => rfl
      case hy20067 => first | (intro wx hSw; obtain ⟨s1_, s2_, s3_⟩ := hSw; go_simp; done) | (intro wx hSw; obtain ⟨s1_, s2_, s3_⟩ := hSw; go_simp; with_reducible rfl)
      simp only [Act.put, List.setIfInBounds_toArray, List.set_cons_zero, List.set_cons_succ]
      refine wpAnyH_take (i := 25) (oi := ?oi20068) (v := ?v20068) ?hi20068 (by kernel_rfl) (by kernel_rfl) (by kernel_rfl) (fun _ _ _ h => h) (Or.inl ⟨?hw20068, ?hy20068⟩) (by assumption) ?rest20068
      case hi20068 => (simp only [List.getElem?_toArray, List.getElem?_cons_zero, List.getElem?_cons_succ]; rfl)
      case hw20068 => rfl
      case hy20068 => first | (intro wx hSw; obtain ⟨s1_, s2_, s3_⟩ := hSw; go_simp; done) | (intro wx hSw; obtain ⟨s1_, s2_, s3_⟩ := hSw; go_simp; with_reducible rfl)
      simp only [Act.put, List.setIfInBounds_toArray, List.set_cons_zero, List.set_cons_succ]
      refine wpAnyH_take (i := 26) (oi := ?oi20069) (v := ?v20069) ?hi20069 (by kernel_rfl) (by kernel_rfl) (by kernel_rfl) (fun _ _ _ h => h) (Or.inl ⟨?hw20069, ?hy20069⟩) (by assumption) ?rest20069
      case hi20069 => (simp only [List.getElem?_toArray, List.getElem?_cons_zero, List.getElem?_cons_succ]; rfl)
      case hw20069 => rfl
      case hy20069 => first | (intro wx hSw; obtain ⟨s1_, s2_, s3_⟩ := hSw; go_simp; done) | (intro wx hSw; obtain ⟨s1_, s2_, s3_⟩ := hSw; go_simp; with_reducible rfl)
      simp only [Act.put, List.setIfInBounds_toArray, List.set_cons_zero, List.set_cons_succ]
      refine wpAnyH_done (by kernel_rfl) ?_ _
      refine NoPanic.normal ?_
      refine hrest _ _ ?_
      have H2 := hide ((unhide H1).call (below_drew _))
      have HB2 := hide ((unhide HB1).trans ((below_drew _).mono (unhide HB1).size))
      have HM2 := hide ((unhide HM1).below (below_drew _))
      generalize hX : (W.alloc (.cells #[nI kd, nI fr, nI to, nI n.term, nI ix, nI lt, .bool ok, .slice p ents.length c, nI cm, nI fm] 37)).drew = X at H2 HB2 HM2 ⊢
      clear hX c1 c2 m1 m3 H1 HM1 TO
      have m5 : X.cell? ⟨W.heap.size, 5, none⟩ = some (.int .i64 (lt : Int)) := (unhide HM2).cell 5
      have m4 : X.cell? ⟨W.heap.size, 4, none⟩ = some (.int .i64 (ix : Int)) := (unhide HM2).cell 4
      by_cases g1_ : own < lt
      · have g1 := hide g1_
        have a1 : (own : Int) < (lt : Int) := by omega
        have a2 : decide ((own : Int) < (lt : Int)) = true := decide_eq_true a1
        go_wp2
        rename_i hrest
        refine wp_region_noPanic ?_
        refine wp_region_held_drew (S := (fun w' => w'.cell? ⟨W.heap.size, 5, none⟩ = some (.int .i64 (lt : Int)) ∧ w'.cell? ⟨W.heap.size, 4, none⟩ = some (.int .i64 (ix : Int)))) (by kernel_rfl) (⟨m5, m4⟩) (fun hHeld => ?_)
        refine wpAnyH_take (i := 0) (oi := ?oi20001) (v := ?v20001) ?hi20001 (by kernel_rfl) (by kernel_rfl) (by kernel_rfl) (fun _ _ _ h => h) (Or.inl ⟨?hw20001, ?hy20001⟩) (by assumption) ?rest20001
        case hi20001 => (simp only [List.getElem?_toArray, List.getElem?_cons_zero]; rfl)
        case hw20001 => rfl
        case hy20001 => first | (intro wx hSw; obtain ⟨s1_, s2_⟩ := hSw; go_simp; done) | (intro wx hSw; obtain ⟨s1_, s2_⟩ := hSw; go_simp; with_reducible rfl)
        simp only [Act.put, List.setIfInBounds_toArray, List.set_cons_zero, List.set_cons_succ]
        refine wpAnyH_take (i := 1) (oi := ?oi20002) (v := ?v20002) ?hi20002 (by kernel_rfl) (by kernel_rfl) (by kernel_rfl) (fun _ _ _ h => h) (Or.inl ⟨?hw20002, ?hy20002⟩) (by assumption) ?rest20002
        case hi20002 => (simp only [List.getElem?_toArray, List.getElem?_cons_zero, List.getElem?_cons_succ]; rfl)
        case hw20002 => rfl
        case hy20002 => first | (intro wx hSw; obtain ⟨s1_, s2_⟩ := hSw; go_simp; done) | (intro wx hSw; obtain ⟨s1_, s2_⟩ := hSw; go_simp; with_reducible rfl)
        simp only [Act.put, List.setIfInBounds_toArray, List.set_cons_zero, List.set_cons_succ]
        refine wpAnyH_take (i := 2) (oi := ?oi20003) (v := ?v20003) ?hi20003 (by kernel_rfl) (by kernel_rfl) (by kernel_rfl) (fun _ _ _ h => h) (Or.inl ⟨?hw20003, ?hy20003⟩) (by assumption) ?rest20003
        case hi20003 => (simp only [List.getElem?_toArray, List.getElem?_cons_zero, List.getElem?_cons_succ]; rfl)
        case hw20003 => rfl
        case hy20003 => first | (intro wx hSw; obtain ⟨s1_, s2_⟩ := hSw; go_simp; done) | (intro wx hSw; obtain ⟨s1_, s2_⟩ := hSw; go_simp; with_reducible rfl)
        simp only [Act.put, List.setIfInBounds_toArray, List.set_cons_zero, List.set_cons_succ]
        refine wpAnyH_take (i := 3) (oi := ?oi20004) (v := ?v20004) ?hi20004 (by kernel_rfl) (by kernel_rfl) (by kernel_rfl) (fun _ _ _ h => h) (Or.inl ⟨?hw20004, ?hy20004⟩) (by assumption) ?rest20004
        case hi20004 => (simp only [List.getElem?_toArray, List.getElem?_cons_zero, List.getElem?_cons_succ]; rfl)
        case hw20004 => rfl
        case hy20004 => first | (intro wx hSw; obtain ⟨s1_, s2_⟩ := hSw; go_simp; done) | (intro wx hSw; obtain ⟨s1_, s2_⟩ := hSw; go_simp; with_reducible rfl)
        simp only [Act.put, List.setIfInBounds_toArray, List.set_cons_zero, List.set_cons_succ]
        refine wpAnyH_take (i := 4) (oi := ?oi20005) (v := ?v20005) ?hi20005 (by kernel_rfl) (by kernel_rfl) (by kernel_rfl) (fun _ _ _ h => h) (Or.inl ⟨?hw20005, ?hy20005⟩) (by assumption) ?rest20005
        case hi20005 => (simp only [List.getElem?_toArray, List.getElem?_cons_zero, List.getElem?_cons_succ]; rfl)
        case hw20005 => rfl
        case hy20005 => first | (intro wx hSw; obtain ⟨s1_, s2_⟩ := hSw; go_simp; done) | (intro wx hSw; obtain ⟨s1_, s2_⟩ := hSw; go_simp; with_reducible rfl)
        simp only [Act.put, List.setIfInBounds_toArray, List.set_cons_zero, List.set_cons_succ]
        refine wpAnyH_take (i := 5) (oi := ?oi20006) (v := ?v20006) ?hi20006 (by kernel_rfl) (by kernel_rfl) (by kernel_rfl) (fun _ _ _ h => h) (Or.inl ⟨?hw20006, ?hy20006⟩) (by assumption) ?rest20006
        case hi20006 => (simp only [List.getElem?_toArray, List.getElem?_cons_zero, List.getElem?_cons_succ]; rfl)
        case hw20006 => rfl
        case hy20006 => first | (intro wx hSw; obtain ⟨s1_, s2_⟩ := hSw; go_simp; done) | (intro wx hSw; obtain ⟨s1_, s2_⟩ := hSw; go_simp; with_reducible rfl)
        simp only [Act.put, List.setIfInBounds_toArray, List.set_cons_zero, List.set_cons_succ]
        refine wpAnyH_take (i := 6) (oi := ?oi20007) (v := ?v20007) ?hi20007 (by kernel_rfl) (by kernel_rfl) (by kernel_rfl) (fun _ _ _ h => h) (Or.inl ⟨?hw20007, ?hy20007⟩) (by assumption) ?rest20007
        case hi20007 => (simp only [List.getElem?_toArray, List.getElem?_cons_zero, List.getElem?_cons_succ]; rfl)
        case hw20007 => rfl
        case hy20007 => first | (intro wx hSw; obtain ⟨s1_, s2_⟩ := hSw; go_simp; done) | (intro wx hSw; obtain ⟨s1_, s2_⟩ := hSw; go_simp; with_reducible rfl)
        simp only [Act.put, List.setIfInBounds_toArray, List.set_cons_zero, List.set_cons_succ]
        refine wpAnyH_take (i := 7) (oi := ?oi20008) (v := undef) ?hi20008 (by kernel_rfl) (by kernel_rfl) (by kernel_rfl) (fun _ _ _ h => h) (Or.inr ⟨?hw20008, rfl⟩) (by assumption) ?rest20008
        case hi20008 => (simp only [List.getElem?_toArray, List.getElem?_cons_zero, List.getElem?_cons_succ]; rfl)
        case hw20008 => rfl
        simp only [Act.put, List.setIfInBounds_toArray, List.set_cons_zero, List.set_cons_succ]
        refine wpAnyH_take (i := 8) (oi := ?oi20009) (v := undef) ?hi20009 (by kernel_rfl) (by kernel_rfl) (by kernel_rfl) (fun _ _ _ h => h) (Or.inr ⟨?hw20009, rfl⟩) (by assumption) ?rest20009
        case hi20009 => (simp only [List.getElem?_toArray, List.getElem?_cons_zero, List.getElem?_cons_succ]; rfl)
        case hw20009 => rfl
        simp only [Act.put, List.setIfInBounds_toArray, List.set_cons_zero, List.set_cons_succ]
        refine wpAnyH_take (i := 9) (oi := ?oi20010) (v := undef) ?hi20010 (by kernel_rfl) (by kernel_rfl) (by kernel_rfl) (fun _ _ _ h => h) (Or.inr ⟨?hw20010, rfl⟩) (by assumption) ?rest20010
        case hi20010 => (simp only [List.getElem?_toArray, List.getElem?_cons_zero, List.getElem?_cons_succ]; rfl)
        case hw20010 => rfl
        simp only [Act.put, List.setIfInBounds_toArray, List.set_cons_zero, List.set_cons_succ]
        refine wpAnyH_take (i := 10) (oi := ?oi20011) (v := undef) ?hi20011 (by kernel_rfl) (by kernel_rfl) (by kernel_rfl) (fun _ _ _ h => h) (Or.inr ⟨?hw20011, rfl⟩) (by assumption) ?rest20011
        case hi20011 => (simp only [List.getElem?_toArray, List.getElem?_cons_zero, List.getElem?_cons_succ]; rfl)
        case hw20011 => rfl
        simp only [Act.put, List.setIfInBounds_toArray, List.set_cons_zero, List.set_cons_succ]
        refine wpAnyH_take (i := 11) (oi := ?oi20012) (v := undef) ?hi20012 (by kernel_rfl) (by kernel_rfl) (by kernel_rfl) (fun _ _ _ h => h) (Or.inr ⟨?hw20012, rfl⟩) (by assumption) ?rest20012
        case hi20012 => (simp only [List.getElem?_toArray, List.getElem?_cons_zero, List.getElem?_cons_succ]; rfl)
        case hw20012 => rfl
        simp only [Act.put, List.setIfInBounds_toArray, List.set_cons_zero, List.set_cons_succ]
        refine wpAnyH_take (i := 12) (oi := ?oi20013) (v := undef) ?hi20013 (by kernel_rfl) (by kernel_rfl) (by kernel_rfl) (fun _ _ _ h => h) (Or.inr ⟨?hw20013, rfl⟩) (by assumption) ?rest20013
        case hi20013 => (simp only [List.getElem?_toArray, List.getElem?_cons_zero, List.getElem?_cons_succ]; rfl)
        case hw20013 => rfl
        simp only [Act.put, List.setIfInBounds_toArray, List.set_cons_zero, List.set_cons_succ]
        refine wpAnyH_take (i := 13) (oi := ?oi20014) (v := undef) ?hi20014 (by kernel_rfl) (by kernel_rfl) (by kernel_rfl) (fun _ _ _ h => h) (Or.inr ⟨?hw20014, rfl⟩) (by assumption) ?rest20014
        case hi20014 => (simp only [List.getElem?_toArray, List.getElem?_cons_zero, List.getElem?_cons_succ]; rfl)
        case hw20014 => rfl
        simp only [Act.put, List.setIfInBounds_toArray, List.set_cons_zero, List.set_cons_succ]
        refine wpAnyH_take (i := 14) (oi := ?oi20015) (v := undef) ?hi20015 (by kernel_rfl) (by kernel_rfl) (by kernel_rfl) (fun _ _ _ h => h) (Or.inr ⟨?hw20015, rfl⟩) (by assumption) ?rest20015
        case hi20015 => (simp only [List.getElem?_toArray, List.getElem?_cons_zero, List.getElem?_cons_succ]; rfl)
        case hw20015 => rfl
        simp only [Act.put, List.setIfInBounds_toArray, List.set_cons_zero, List.set_cons_succ]
        refine wpAnyH_take (i := 15) (oi := ?oi20016) (v := undef) ?hi20016 (by kernel_rfl) (by kernel_rfl) (by kernel_rfl) (fun _ _ _ h => h) (Or.inr ⟨?hw20016, rfl⟩) (by assumption) ?rest20016
        case hi20016 => (simp only [List.getElem?_toArray, List.getElem?_cons_zero, List.getElem?_cons_succ]; rfl)
        case hw20016 => rfl
        simp only [Act.put, List.setIfInBounds_toArray, List.set_cons_zero, List.set_cons_succ]
        refine wpAnyH_take (i := 16) (oi := ?oi20017) (v := undef) ?hi20017 (by kernel_rfl) (by kernel_rfl) (by kernel_rfl) (fun _ _ _ h => h) (Or.inr ⟨?hw20017, rfl⟩) (by assumption) ?rest20017
        case hi20017 => (simp only [List.getElem?_toArray, List.getElem?_cons_zero, List.getElem?_cons_succ]; rfl)
        case hw20017 => rfl
        simp only [Act.put, List.setIfInBounds_toArray, List.set_cons_zero, List.set_cons_succ]
        refine wpAnyH_take (i := 17) (oi := ?oi20018) (v := undef) ?hi20018 (by kernel_rfl) (by kernel_rfl) (by kernel_rfl) (fun _ _ _ h => h) (Or.inr ⟨?hw20018, rfl⟩) (by assumption) ?rest20018
        case hi20018 => (simp only [List.getElem?_toArray, List.getElem?_cons_zero, List.getElem?_cons_succ]; rfl)
        case hw20018 => rfl
        simp only [Act.put, List.setIfInBounds_toArray, List.set_cons_zero, List.set_cons_succ]
        refine wpAnyH_take (i := 18) (oi := ?oi20019) (v := ?v20019) ?hi20019 (by kernel_rfl) (by kernel_rfl) (by kernel_rfl) (fun _ _ _ h => h) (Or.inl ⟨?hw20019, ?hy20019⟩) (by assumption) ?rest20019
        case hi20019 => (simp only [List.getElem?_toArray, List.getElem?_cons_zero, List.getElem?_cons_succ]; rfl)
        case hw20019 => rfl
        case hy20019 => first | (intro wx hSw; obtain ⟨s1_, s2_⟩ := hSw; go_simp; done) | (intro wx hSw; obtain ⟨s1_, s2_⟩ := hSw; go_simp; with_reducible rfl)
        simp only [Act.put, List.setIfInBounds_toArray, List.set_cons_zero, List.set_cons_succ]
        refine wpAnyH_take (i := 19) (oi := ?oi20020) (v := ?v20020) ?hi20020 (by kernel_rfl) (by kernel_rfl) (by kernel_rfl) (fun _ _ _ h => h) (Or.inl ⟨?hw20020, ?hy20020⟩) (by assumption) ?rest20020
        case hi20020 => (simp only [List.getElem?_toArray, List.getElem?_cons_zero, List.getElem?_cons_succ]; rfl)
        case hw20020 => rfl
        case hy20020 => first | (intro wx hSw; obtain ⟨s1_, s2_⟩ := hSw; go_simp; done) | (intro wx hSw; obtain ⟨s1_, s2_⟩ := hSw; go_simp; with_reducible rfl)
        simp only [Act.put, List.setIfInBounds_toArray, List.set_cons_zero, List.set_cons_succ]
        refine wpAnyH_take (i := 20) (oi := ?oi20021) (v := ?v20021) ?hi20021 (by kernel_rfl) (by kernel_rfl) (by kernel_rfl) (fun _ _ _ h => h) (Or.inl ⟨?hw20021, ?hy20021⟩) (by assumption) ?rest20021
        case hi20021 => (simp only [List.getElem?_toArray, List.getElem?_cons_zero, List.getElem?_cons_succ]; rfl)
        case hw20021 => rfl
        case hy20021 => first | (intro wx hSw; obtain ⟨s1_, s2_⟩ := hSw; go_simp; done) | (intro wx hSw; obtain ⟨s1_, s2_⟩ := hSw; go_simp; with_reducible rfl)
        simp only [Act.put, List.setIfInBounds_toArray, List.set_cons_zero, List.set_cons_succ]
        refine wpAnyH_done (by kernel_rfl) ?_ _
        refine NoPanic.normal ?_
        refine hrest _ _ ?_
        have H3 := hide ((unhide H2).call (below_drew X))
        have HB3 := hide ((unhide HB2).trans ((below_drew X).mono (unhide HB2).size))
        have HM3 := hide ((unhide HM2).below (below_drew X))
        generalize hY : X.drew = Y at H3 HB3 HM3 ⊢
        clear hY m4 m5
        have d1 : Y.cell? ⟨W.heap.size, 1, none⟩ = some (.int .i64 (fr : Int)) := (unhide HM3).cell 1
        have y2 := (unhide H3).c2
        have yz := (unhide H3).fz
        have yl := (unhide H3).blk.lt
        have P3 := (unhide H3).put { n with vote := (fr : Int) } 2 (.int .i64 (fr : Int)) rfl rfl rfl rfl rfl rfl
        have K3 := hide (Keep.set (W := Y) (j := 2) (v := .int .i64 (fr : Int)) (St.fb b q sv))
        have HFm : Hid (¬ Foot b q sv W.heap.size) := hide (unhide HF0)
        have BA := hide (beginAnew_any b q sv { n with vote := (fr : Int) } S _ P3 hfc hf5)
        have e1 : (Y.setCell ⟨b, 2, none⟩ (.int .i64 (fr : Int))).cell? ⟨W.heap.size, 1, none⟩ = some (.int .i64 (fr : Int)) := (World.cell?_setCell_far _ _ _ _ (by show b ≠ W.heap.size; exact hnb)).trans d1
        clear P3
        go_wp2_with (first
          | (go_at_call 67; refine (unhide BA).mono ?_; rintro e W4 ⟨⟨v, rfl⟩, hs4, hK4⟩; have f1 : W4.cell? ⟨W.heap.size, 1, none⟩ = some (.int .i64 (fr : Int))  := (by rw [World.cell?_of_block (a := ⟨W.heap.size, 1, none⟩) ((hK4.block W.heap.size (by simp [World.setCell]; exact (unhide HM3).lt) (unhide HFm)).1)]; exact e1); have H4 := hide hs4; have K4 := hide hK4; clear hs4 hK4)
          | (go_at_call 68; refine (unhide SA _ _ _ (unhide H4)).mono ?_; rintro e W5 ⟨⟨v, rfl⟩, sv', hs, hK⟩))
        go_end0
        rw [vote_yes (by unfold grants; exact decide_eq_true ⟨rfl, (.inl (unhide HV)), .inl (by show termAt n.log n.log.length < lt; rw [unhide how]; exact unhide g1)⟩)]
        exact ⟨⟨_, rfl⟩, St.sent1 (W := Y) hs ((Keep.call _ (unhide HB3)).trans ((unhide K3).trans ((unhide K4).trans hK)))⟩
      · have g1 := hide g1_
        by_cases g2_ : lt = own
        · subst g2_
          by_cases g3_ : n.log.length ≤ ix
          · have g3 := hide g3_
            have a3 : (n.log.length : Int) ≤ (ix : Int) := by omega
            have a4 : decide ((n.log.length : Int) ≤ (ix : Int)) = true := decide_eq_true a3
            clear g1_
            go_wp2
            go_region_held3 (fun w' => w'.cell? ⟨W.heap.size, 5, none⟩ = some (.int .i64 (lt : Int)) ∧ w'.cell? ⟨W.heap.size, 4, none⟩ = some (.int .i64 (ix : Int))) (go_keep) ((go_at_call 52; refine (unhide LB _ ((unhide H2).call (Below.refl _ _).drew)).mono ?_; rintro e w' ⟨rfl, rfl⟩))
            have H3 := hide ((unhide H2).call (below_drew X))
            have HB3 := hide ((unhide HB2).trans ((below_drew X).mono (unhide HB2).size))
            have HM3 := hide ((unhide HM2).below (below_drew X))
            generalize hY : X.drew = Y at H3 HB3 HM3 ⊢
            clear hY m4 m5
            have d1 : Y.cell? ⟨W.heap.size, 1, none⟩ = some (.int .i64 (fr : Int)) := (unhide HM3).cell 1
            have y2 := (unhide H3).c2
            have yz := (unhide H3).fz
            have yl := (unhide H3).blk.lt
            have P3 := (unhide H3).put { n with vote := (fr : Int) } 2 (.int .i64 (fr : Int)) rfl rfl rfl rfl rfl rfl
            have K3 := hide (Keep.set (W := Y) (j := 2) (v := .int .i64 (fr : Int)) (St.fb b q sv))
            have HFm : Hid (¬ Foot b q sv W.heap.size) := hide (unhide HF0)
            have BA := hide (beginAnew_any b q sv { n with vote := (fr : Int) } S _ P3 hfc hf5)
            have e1 : (Y.setCell ⟨b, 2, none⟩ (.int .i64 (fr : Int))).cell? ⟨W.heap.size, 1, none⟩ = some (.int .i64 (fr : Int)) := (World.cell?_setCell_far _ _ _ _ (by show b ≠ W.heap.size; exact hnb)).trans d1
            clear P3
            go_wp2_with (first
              | (go_at_call 67; refine (unhide BA).mono ?_; rintro e W4 ⟨⟨v, rfl⟩, hs4, hK4⟩; have f1 : W4.cell? ⟨W.heap.size, 1, none⟩ = some (.int .i64 (fr : Int))  := (by rw [World.cell?_of_block (a := ⟨W.heap.size, 1, none⟩) ((hK4.block W.heap.size (by simp [World.setCell]; exact (unhide HM3).lt) (unhide HFm)).1)]; exact e1); have H4 := hide hs4; have K4 := hide hK4; clear hs4 hK4)
              | (go_at_call 68; refine (unhide SA _ _ _ (unhide H4)).mono ?_; rintro e W5 ⟨⟨v, rfl⟩, sv', hs, hK⟩))
            go_end0
            rw [vote_yes (by unfold grants; exact decide_eq_true ⟨rfl, (.inl (unhide HV)), .inr ⟨(unhide how).symm, unhide g3⟩⟩)]
            exact ⟨⟨_, rfl⟩, St.sent1 (W := Y) hs ((Keep.call _ (unhide HB3)).trans ((unhide K3).trans ((unhide K4).trans hK)))⟩
          · have g3 := hide g3_
            have a3 : ¬ (n.log.length : Int) ≤ (ix : Int) := by omega
            have a4 : decide ((n.log.length : Int) ≤ (ix : Int)) = false := decide_eq_false a3
            clear g1_
            go_wp2
            go_region_held3 (fun w' => w'.cell? ⟨W.heap.size, 5, none⟩ = some (.int .i64 (lt : Int)) ∧ w'.cell? ⟨W.heap.size, 4, none⟩ = some (.int .i64 (ix : Int))) (go_keep) ((go_at_call 52; refine (unhide LB _ ((unhide H2).call (Below.refl _ _).drew)).mono ?_; rintro e w' ⟨rfl, rfl⟩))
            have H3 := hide ((unhide H2).call (below_drew X))
            have HB3 := hide ((unhide HB2).trans ((below_drew X).mono (unhide HB2).size))
            have HM3 := hide ((unhide HM2).below (below_drew X))
            generalize hY : X.drew = Y at H3 HB3 HM3 ⊢
            clear hY m4 m5
            have d1 : Y.cell? ⟨W.heap.size, 1, none⟩ = some (.int .i64 (fr : Int)) := (unhide HM3).cell 1
            go_wp2_with (go_at_call 68; refine (unhide SA _ _ _ (unhide H3)).mono ?_; rintro e W4 ⟨⟨v, rfl⟩, sv', hs, hK⟩)
            go_end0
            rw [vote_no (by unfold grants; exact decide_eq_false fun e => e.2.2.elim (fun x => absurd (unhide how ▸ x : lt < lt) (Nat.lt_irrefl _)) (fun x => unhide g3 x.2))]
            exact ⟨⟨_, rfl⟩, St.sent1 (W := Y) hs ((Keep.call _ (unhide HB3)).trans hK)⟩
        · have g2 := hide g2_
          have a1 : ¬ (own : Int) < (lt : Int) := by omega
          have a2 : decide ((own : Int) < (lt : Int)) = false := decide_eq_false a1
          have a3 : ¬ (lt : Int) = (own : Int) := by omega
          have a4 : ((lt : Int) == (own : Int)) = false := by rw [beq_eq_false_iff_ne]; omega
          go_wp2
          rename_i hrest
          refine wp_region_noPanic ?_
          refine wp_region_held_drew (S := (fun w' => w'.cell? ⟨W.heap.size, 5, none⟩ = some (.int .i64 (lt : Int)) ∧ w'.cell? ⟨W.heap.size, 4, none⟩ = some (.int .i64 (ix : Int)))) (by kernel_rfl) (⟨m5, m4⟩) (fun hHeld => ?_)
          refine wpAnyH_take (i := 0) (oi := ?oi20022) (v := ?v20022) ?hi20022 (by kernel_rfl) (by kernel_rfl) (by kernel_rfl) (fun _ _ _ h => h) (Or.inl ⟨?hw20022, ?hy20022⟩) (by assumption) ?rest20022
          case hi20022 => (simp only [List.getElem?_toArray, List.getElem?_cons_zero]; rfl)
          case hw20022 => rfl
          case hy20022 => first | (intro wx hSw; obtain ⟨s1_, s2_⟩ := hSw; go_simp; done) | (intro wx hSw; obtain ⟨s1_, s2_⟩ := hSw; go_simp; with_reducible rfl)
          simp only [Act.put, List.setIfInBounds_toArray, List.set_cons_zero, List.set_cons_succ]
          refine wpAnyH_take (i := 1) (oi := ?oi20023) (v := ?v20023) ?hi20023 (by kernel_rfl) (by kernel_rfl) (by kernel_rfl) (fun _ _ _ h => h) (Or.inl ⟨?hw20023, ?hy20023⟩) (by assumption) ?rest20023
          case hi20023 => (simp only [List.getElem?_toArray, List.getElem?_cons_zero, List.getElem?_cons_succ]; rfl)
          case hw20023 => rfl
          case hy20023 => first | (intro wx hSw; obtain ⟨s1_, s2_⟩ := hSw; go_simp; done) | (intro wx hSw; obtain ⟨s1_, s2_⟩ := hSw; go_simp; with_reducible rfl)
          simp only [Act.put, List.setIfInBounds_toArray, List.set_cons_zero, List.set_cons_succ]
          refine wpAnyH_take (i := 2) (oi := ?oi20024) (v := ?v20024) ?hi20024 (by kernel_rfl) (by kernel_rfl) (by kernel_rfl) (fun _ _ _ h => h) (Or.inl ⟨?hw20024, ?hy20024⟩) (by assumption) ?rest20024
          case hi20024 => (simp only [List.getElem?_toArray, List.getElem?_cons_zero, List.getElem?_cons_succ]; rfl)
          case hw20024 => rfl
          case hy20024 => first | (intro wx hSw; obtain ⟨s1_, s2_⟩ := hSw; go_simp; done) | (intro wx hSw; obtain ⟨s1_, s2_⟩ := hSw; go_simp; with_reducible rfl)
          simp only [Act.put, List.setIfInBounds_toArray, List.set_cons_zero, List.set_cons_succ]
          refine wpAnyH_take (i := 3) (oi := ?oi20025) (v := ?v20025) ?hi20025 (by kernel_rfl) (by kernel_rfl) (by kernel_rfl) (fun _ _ _ h => h) (Or.inl ⟨?hw20025, ?hy20025⟩) (by assumption) ?rest20025
          case hi20025 => (simp only [List.getElem?_toArray, List.getElem?_cons_zero, List.getElem?_cons_succ]; rfl)
          case hw20025 => rfl
          case hy20025 => first | (intro wx hSw; obtain ⟨s1_, s2_⟩ := hSw; go_simp; done) | (intro wx hSw; obtain ⟨s1_, s2_⟩ := hSw; go_simp; with_reducible rfl)
          simp only [Act.put, List.setIfInBounds_toArray, List.set_cons_zero, List.set_cons_succ]
          refine wpAnyH_take (i := 4) (oi := ?oi20026) (v := ?v20026) ?hi20026 (by kernel_rfl) (by kernel_rfl) (by kernel_rfl) (fun _ _ _ h => h) (Or.inl ⟨?hw20026, ?hy20026⟩) (by assumption) ?rest20026
          case hi20026 => (simp only [List.getElem?_toArray, List.getElem?_cons_zero, List.getElem?_cons_succ]; rfl)
          case hw20026 => rfl
          case hy20026 => first | (intro wx hSw; obtain ⟨s1_, s2_⟩ := hSw; go_simp; done) | (intro wx hSw; obtain ⟨s1_, s2_⟩ := hSw; go_simp; with_reducible rfl)
          simp only [Act.put, List.setIfInBounds_toArray, List.set_cons_zero, List.set_cons_succ]
          refine wpAnyH_take (i := 5) (oi := ?oi20027) (v := ?v20027) ?hi20027 (by kernel_rfl) (by kernel_rfl) (by kernel_rfl) (fun _ _ _ h => h) (Or.inl ⟨?hw20027, ?hy20027⟩) (by assumption) ?rest20027
          case hi20027 => (simp only [List.getElem?_toArray, List.getElem?_cons_zero, List.getElem?_cons_succ]; rfl)
          case hw20027 => rfl
          case hy20027 => first | (intro wx hSw; obtain ⟨s1_, s2_⟩ := hSw; go_simp; done) | (intro wx hSw; obtain ⟨s1_, s2_⟩ := hSw; go_simp; with_reducible rfl)
          simp only [Act.put, List.setIfInBounds_toArray, List.set_cons_zero, List.set_cons_succ]
          refine wpAnyH_take (i := 6) (oi := ?oi20028) (v := ?v20028) ?hi20028 (by kernel_rfl) (by kernel_rfl) (by kernel_rfl) (fun _ _ _ h => h) (Or.inl ⟨?hw20028, ?hy20028⟩) (by assumption) ?rest20028
          case hi20028 => (simp only [List.getElem?_toArray, List.getElem?_cons_zero, List.getElem?_cons_succ]; rfl)
          case hw20028 => rfl
          case hy20028 => first | (intro wx hSw; obtain ⟨s1_, s2_⟩ := hSw; go_simp; done) | (intro wx hSw; obtain ⟨s1_, s2_⟩ := hSw; go_simp; with_reducible rfl)
          simp only [Act.put, List.setIfInBounds_toArray, List.set_cons_zero, List.set_cons_succ]
          refine wpAnyH_take (i := 7) (oi := ?oi20029) (v := ?v20029) ?hi20029 (by kernel_rfl) (by kernel_rfl) (by kernel_rfl) (fun _ _ _ h => h) (Or.inl ⟨?hw20029, ?hy20029⟩) (by assumption) ?rest20029
          case hi20029 => (simp only [List.getElem?_toArray, List.getElem?_cons_zero, List.getElem?_cons_succ]; rfl)
          case hw20029 => rfl
          case hy20029 => first | (intro wx hSw; obtain ⟨s1_, s2_⟩ := hSw; go_simp; done) | (intro wx hSw; obtain ⟨s1_, s2_⟩ := hSw; go_simp; with_reducible rfl)
          simp only [Act.put, List.setIfInBounds_toArray, List.set_cons_zero, List.set_cons_succ]
          refine wpAnyH_take (i := 8) (oi := ?oi20030) (v := ?v20030) ?hi20030 (by kernel_rfl) (by kernel_rfl) (by kernel_rfl) (fun _ _ _ h => h) (Or.inl ⟨?hw20030, ?hy20030⟩) (by assumption) ?rest20030
          case hi20030 => (simp only [List.getElem?_toArray, List.getElem?_cons_zero, List.getElem?_cons_succ]; rfl)
          case hw20030 => rfl
          case hy20030 => first | (intro wx hSw; obtain ⟨s1_, s2_⟩ := hSw; go_simp; done) | (intro wx hSw; obtain ⟨s1_, s2_⟩ := hSw; go_simp; with_reducible rfl)
          simp only [Act.put, List.setIfInBounds_toArray, List.set_cons_zero, List.set_cons_succ]
          refine wpAnyH_take (i := 9) (oi := ?oi20031) (v := ?v20031) ?hi20031 (by kernel_rfl) (by kernel_rfl) (by kernel_rfl) (fun _ _ _ h => h) (Or.inl ⟨?hw20031, ?hy20031⟩) (by assumption) ?rest20031
          case hi20031 => (simp only [List.getElem?_toArray, List.getElem?_cons_zero, List.getElem?_cons_succ]; rfl)
          case hw20031 => rfl
          case hy20031 => first | (intro wx hSw; obtain ⟨s1_, s2_⟩ := hSw; go_simp; done) | (intro wx hSw; obtain ⟨s1_, s2_⟩ := hSw; go_simp; with_reducible rfl)
          simp only [Act.put, List.setIfInBounds_toArray, List.set_cons_zero, List.set_cons_succ]
          refine wpAnyH_take (i := 10) (oi := ?oi20032) (v := ?v20032) ?hi20032 (by kernel_rfl) (by kernel_rfl) (by kernel_rfl) (fun _ _ _ h => h) (Or.inl ⟨?hw20032, ?hy20032⟩) (by assumption) ?rest20032
          case hi20032 => (simp only [List.getElem?_toArray, List.getElem?_cons_zero, List.getElem?_cons_succ]; rfl)
          case hw20032 => rfl
          case hy20032 => first | (intro wx hSw; obtain ⟨s1_, s2_⟩ := hSw; go_simp; done) | (intro wx hSw; obtain ⟨s1_, s2_⟩ := hSw; go_simp; with_reducible rfl)
          simp only [Act.put, List.setIfInBounds_toArray, List.set_cons_zero, List.set_cons_succ]
          refine wpAnyH_take (i := 11) (oi := ?oi20033) (v := ?v20033) ?hi20033 (by kernel_rfl) (by kernel_rfl) (by kernel_rfl) (fun _ _ _ h => h) (Or.inl ⟨?hw20033, ?hy20033⟩) (by assumption) ?rest20033
          case hi20033 => (simp only [List.getElem?_toArray, List.getElem?_cons_zero, List.getElem?_cons_succ]; rfl)
          case hw20033 => rfl
          case hy20033 => first | (intro wx hSw; obtain ⟨s1_, s2_⟩ := hSw; go_simp; done) | (intro wx hSw; obtain ⟨s1_, s2_⟩ := hSw; go_simp; with_reducible rfl)
          simp only [Act.put, List.setIfInBounds_toArray, List.set_cons_zero, List.set_cons_succ]
          refine wpAnyH_take (i := 12) (oi := ?oi20034) (v := undef) ?hi20034 (by kernel_rfl) (by kernel_rfl) (by kernel_rfl) (fun _ _ _ h => h) (Or.inr ⟨?hw20034, rfl⟩) (by assumption) ?rest20034
          case hi20034 => (simp only [List.getElem?_toArray, List.getElem?_cons_zero, List.getElem?_cons_succ]; rfl)
          case hw20034 => rfl
          simp only [Act.put, List.setIfInBounds_toArray, List.set_cons_zero, List.set_cons_succ]
          refine wpAnyH_take (i := 13) (oi := ?oi20035) (v := undef) ?hi20035 (by kernel_rfl) (by kernel_rfl) (by kernel_rfl) (fun _ _ _ h => h) (Or.inr ⟨?hw20035, rfl⟩) (by assumption) ?rest20035
          case hi20035 => (simp only [List.getElem?_toArray, List.getElem?_cons_zero, List.getElem?_cons_succ]; rfl)
          case hw20035 => rfl
          simp only [Act.put, List.setIfInBounds_toArray, List.set_cons_zero, List.set_cons_succ]
          refine wpAnyH_take (i := 14) (oi := ?oi20036) (v := undef) ?hi20036 (by kernel_rfl) (by kernel_rfl) (by kernel_rfl) (fun _ _ _ h => h) (Or.inr ⟨?hw20036, rfl⟩) (by assumption) ?rest20036
          case hi20036 => (simp only [List.getElem?_toArray, List.getElem?_cons_zero, List.getElem?_cons_succ]; rfl)
          case hw20036 => rfl
          simp only [Act.put, List.setIfInBounds_toArray, List.set_cons_zero, List.set_cons_succ]
          refine wpAnyH_take (i := 15) (oi := ?oi20037) (v := undef) ?hi20037 (by kernel_rfl) (by kernel_rfl) (by kernel_rfl) (fun _ _ _ h => h) (Or.inr ⟨?hw20037, rfl⟩) (by assumption) ?rest20037
          case hi20037 => (simp only [List.getElem?_toArray, List.getElem?_cons_zero, List.getElem?_cons_succ]; rfl)
          case hw20037 => rfl
          simp only [Act.put, List.setIfInBounds_toArray, List.set_cons_zero, List.set_cons_succ]
          refine wpAnyH_take (i := 16) (oi := ?oi20038) (v := undef) ?hi20038 (by kernel_rfl) (by kernel_rfl) (by kernel_rfl) (fun _ _ _ h => h) (Or.inr ⟨?hw20038, rfl⟩) (by assumption) ?rest20038
          case hi20038 => (simp only [List.getElem?_toArray, List.getElem?_cons_zero, List.getElem?_cons_succ]; rfl)
          case hw20038 => rfl
          simp only [Act.put, List.setIfInBounds_toArray, List.set_cons_zero, List.set_cons_succ]
          refine wpAnyH_take (i := 17) (oi := ?oi20039) (v := ?v20039) ?hi20039 (by kernel_rfl) (by kernel_rfl) (by kernel_rfl) (fun _ _ _ h => h) (Or.inl ⟨?hw20039, ?hy20039⟩) (by assumption) ?rest20039
          case hi20039 => (simp only [List.getElem?_toArray, List.getElem?_cons_zero, List.getElem?_cons_succ]; rfl)
          case hw20039 => rfl
          case hy20039 => first | (intro wx hSw; obtain ⟨s1_, s2_⟩ := hSw; go_simp; done) | (intro wx hSw; obtain ⟨s1_, s2_⟩ := hSw; go_simp; with_reducible rfl)
          simp only [Act.put, List.setIfInBounds_toArray, List.set_cons_zero, List.set_cons_succ]
          refine wpAnyH_take (i := 18) (oi := ?oi20040) (v := ?v20040) ?hi20040 (by kernel_rfl) (by kernel_rfl) (by kernel_rfl) (fun _ _ _ h => h) (Or.inl ⟨?hw20040, ?hy20040⟩) (by assumption) ?rest20040
          case hi20040 => (simp only [List.getElem?_toArray, List.getElem?_cons_zero, List.getElem?_cons_succ]; rfl)
          case hw20040 => rfl
          case hy20040 => first | (intro wx hSw; obtain ⟨s1_, s2_⟩ := hSw; go_simp; done) | (intro wx hSw; obtain ⟨s1_, s2_⟩ := hSw; go_simp; with_reducible rfl)
          simp only [Act.put, List.setIfInBounds_toArray, List.set_cons_zero, List.set_cons_succ]
          refine wpAnyH_take (i := 19) (oi := ?oi20041) (v := ?v20041) ?hi20041 (by kernel_rfl) (by kernel_rfl) (by kernel_rfl) (fun _ _ _ h => h) (Or.inl ⟨?hw20041, ?hy20041⟩) (by assumption) ?rest20041
          case hi20041 => (simp only [List.getElem?_toArray, List.getElem?_cons_zero, List.getElem?_cons_succ]; rfl)
          case hw20041 => rfl
          case hy20041 => first | (intro wx hSw; obtain ⟨s1_, s2_⟩ := hSw; go_simp; done) | (intro wx hSw; obtain ⟨s1_, s2_⟩ := hSw; go_simp; with_reducible rfl)
          simp only [Act.put, List.setIfInBounds_toArray, List.set_cons_zero, List.set_cons_succ]
          refine wpAnyH_take (i := 20) (oi := ?oi20042) (v := ?v20042) ?hi20042 (by kernel_rfl) (by kernel_rfl) (by kernel_rfl) (fun _ _ _ h => h) (Or.inl ⟨?hw20042, ?hy20042⟩) (by assumption) ?rest20042
          case hi20042 => (simp only [List.getElem?_toArray, List.getElem?_cons_zero, List.getElem?_cons_succ]; rfl)
          case hw20042 => rfl
          case hy20042 => first | (intro wx hSw; obtain ⟨s1_, s2_⟩ := hSw; go_simp; done) | (intro wx hSw; obtain ⟨s1_, s2_⟩ := hSw; go_simp; with_reducible rfl)
          simp only [Act.put, List.setIfInBounds_toArray, List.set_cons_zero, List.set_cons_succ]
          refine wpAnyH_done (by kernel_rfl) ?_ _
          refine NoPanic.normal ?_
          refine hrest _ _ ?_
          have H3 := hide ((unhide H2).call (below_drew X))
          have HB3 := hide ((unhide HB2).trans ((below_drew X).mono (unhide HB2).size))
          have HM3 := hide ((unhide HM2).below (below_drew X))
          generalize hY : X.drew = Y at H3 HB3 HM3 ⊢
          clear hY m4 m5
          have d1 : Y.cell? ⟨W.heap.size, 1, none⟩ = some (.int .i64 (fr : Int)) := (unhide HM3).cell 1
          go_wp2_with (go_at_call 68; refine (unhide SA _ _ _ (unhide H3)).mono ?_; rintro e W4 ⟨⟨v, rfl⟩, sv', hs, hK⟩)
          go_end0
          rw [vote_no (by unfold grants; exact decide_eq_false fun e => e.2.2.elim (fun x => unhide g1 (unhide how ▸ x)) (fun x => unhide g2 (x.1.trans (unhide how))))]
          exact ⟨⟨_, rfl⟩, St.sent1 (W := Y) hs ((Keep.call _ (unhide HB3)).trans hK)⟩
    · by_cases hv2 : n.vote = (fr : Int)
      · skip
        have HV := hide hv2
        rw [hv2] at c2
        clear hv2 hv
        have hfm : ¬ (fr : Int) = -1 := by omega
        have hfn : ((fr : Int) == -1) = false := by rw [beq_eq_false_iff_ne]; omega
        go_enter Try.func53, Try.ntmps53
        go_wp2_with (first
          | (go_at_call 52; refine (unhide LA _ (unhide HB1)).mono ?_; rintro e w' ⟨rfl, hW⟩; replace hW := hW.symm; subst hW)
          | (go_at_call 66; refine (unhide TO).mono ?_; rintro e w' ⟨rfl, hW⟩; replace hW := hW.symm; subst hW))
        go_region_held3 (fun w' => w'.cell? ⟨b, 1, none⟩ = some (.int .i64 (n.term : Int)) ∧ w'.cell? ⟨b, 2, none⟩ = some (.int .i64 (fr : Int)) ∧ w'.cell? ⟨W.heap.size, 3, none⟩ = some (.int .i64 (n.term : Int)) ∧ w'.cell? ⟨W.heap.size, 1, none⟩ = some (.int .i64 (fr : Int))) (go_keep) (fail)
        have H2 := hide ((unhide H1).call (below_drew _))
        have HB2 := hide ((unhide HB1).trans ((below_drew _).mono (unhide HB1).size))
        have HM2 := hide ((unhide HM1).below (below_drew _))
        generalize hX : (W.alloc (.cells #[nI kd, nI fr, nI to, nI n.term, nI ix, nI lt, .bool ok, .slice p ents.length c, nI cm, nI fm] 37)).drew = X at H2 HB2 HM2 ⊢
        clear hX c1 c2 m1 m3 H1 HM1 TO
        have m5 : X.cell? ⟨W.heap.size, 5, none⟩ = some (.int .i64 (lt : Int)) := (unhide HM2).cell 5
        have m4 : X.cell? ⟨W.heap.size, 4, none⟩ = some (.int .i64 (ix : Int)) := (unhide HM2).cell 4
        by_cases g1_ : own < lt
        · have g1 := hide g1_
          have a1 : (own : Int) < (lt : Int) := by omega
          have a2 : decide ((own : Int) < (lt : Int)) = true := decide_eq_true a1
          go_wp2
          rename_i hrest
          refine wp_region_noPanic ?_
          refine wp_region_held_drew (S := (fun w' => w'.cell? ⟨W.heap.size, 5, none⟩ = some (.int .i64 (lt : Int)) ∧ w'.cell? ⟨W.heap.size, 4, none⟩ = some (.int .i64 (ix : Int)))) (by kernel_rfl) (⟨m5, m4⟩) (fun hHeld => ?_)
          refine wpAnyH_take (i := 0) (oi := ?oi20070) (v := ?v20070) ?hi20070 (by kernel_rfl) (by kernel_rfl) (by kernel_rfl) (fun _ _ _ h => h) (Or.inl ⟨?hw20070, ?hy20070⟩) (by assumption) ?rest20070
          case hi20070 => (simp only [List.getElem?_toArray, List.getElem?_cons_zero]; rfl)
          case hw20070 => rfl
          case hy20070 => first | (intro wx hSw; obtain ⟨s1_, s2_⟩ := hSw; go_simp; done) | (intro wx hSw; obtain ⟨s1_, s2_⟩ := hSw; go_simp; with_reducible rfl)
          simp only [Act.put, List.setIfInBounds_toArray, List.set_cons_zero, List.set_cons_succ]
          refine wpAnyH_take (i := 1) (oi := ?oi20071) (v := ?v20071) ?hi20071 (by kernel_rfl) (by kernel_rfl) (by kernel_rfl) (fun _ _ _ h => h) (Or.inl ⟨?hw20071, ?hy20071⟩) (by assumption) ?rest20071
          case hi20071 => (simp only [List.getElem?_toArray, List.getElem?_cons_zero, List.getElem?_cons_succ]; rfl)
          case hw20071 => rfl
          case hy20071 => first | (intro wx hSw; obtain ⟨s1_, s2_⟩ := hSw; go_simp; done) | (intro wx hSw; obtain ⟨s1_, s2_⟩ := hSw; go_simp; with_reducible rfl)
          simp only [Act.put, List.setIfInBounds_toArray, List.set_cons_zero, List.set_cons_succ]
          refine wpAnyH_take (i := 2) (oi := ?oi20072) (v := ?v20072) ?hi20072 (by kernel_rfl) (by kernel_rfl) (by kernel_rfl) (fun _ _ _ h => h) (Or.inl ⟨?hw20072, ?hy20072⟩) (by assumption) ?rest20072
          case hi20072 => (simp only [List.getElem?_toArray, List.getElem?_cons_zero, List.getElem?_cons_succ]; rfl)
          case hw20072 => rfl
          case hy20072 => first | (intro wx hSw; obtain ⟨s1_, s2_⟩ := hSw; go_simp; done) | (intro wx hSw; obtain ⟨s1_, s2_⟩ := hSw; go_simp; with_reducible rfl)
          simp only [Act.put, List.setIfInBounds_toArray, List.set_cons_zero, List.set_cons_succ]
          refine wpAnyH_take (i := 3) (oi := ?oi20073) (v := ?v20073) ?hi20073 (by kernel_rfl) (by kernel_rfl) (by kernel_rfl) (fun _ _ _ h => h) (Or.inl ⟨?hw20073, ?hy20073⟩) (by assumption) ?rest20073
          case hi20073 => (simp only [List.getElem?_toArray, List.getElem?_cons_zero, List.getElem?_cons_succ]; rfl)
          case hw20073 => rfl
          case hy20073 => first | (intro wx hSw; obtain ⟨s1_, s2_⟩ := hSw; go_simp; done) | (intro wx hSw; obtain ⟨s1_, s2_⟩ := hSw; go_simp; with_reducible rfl)
          simp only [Act.put, List.setIfInBounds_toArray, List.set_cons_zero, List.set_cons_succ]
          refine wpAnyH_take (i := 4) (oi := ?oi20074) (v := ?v20074) ?hi20074 (by kernel_rfl) (by kernel_rfl) (by kernel_rfl) (fun _ _ _ h => h) (Or.inl ⟨?hw20074, ?hy20074⟩) (by assumption) ?rest20074
          case hi20074 => (simp only [List.getElem?_toArray, List.getElem?_cons_zero, List.getElem?_cons_succ]; rfl)
          case hw20074 => rfl
          case hy20074 => first | (intro wx hSw; obtain ⟨s1_, s2_⟩ := hSw; go_simp; done) | (intro wx hSw; obtain ⟨s1_, s2_⟩ := hSw; go_simp; with_reducible rfl)
          simp only [Act.put, List.setIfInBounds_toArray, List.set_cons_zero, List.set_cons_succ]
          refine wpAnyH_take (i := 5) (oi := ?oi20075) (v := ?v20075) ?hi20075 (by kernel_rfl) (by kernel_rfl) (by kernel_rfl) (fun _ _ _ h => h) (Or.inl ⟨?hw20075, ?hy20075⟩) (by assumption) ?rest20075
          case hi20075 => (simp only [List.getElem?_toArray, List.getElem?_cons_zero, List.getElem?_cons_succ]; rfl)
          case hw20075 => rfl
          case hy20075 => first | (intro wx hSw; obtain ⟨s1_, s2_⟩ := hSw; go_simp; done) | (intro wx hSw; obtain ⟨s1_, s2_⟩ := hSw; go_simp; with_reducible rfl)
          simp only [Act.put, List.setIfInBounds_toArray, List.set_cons_zero, List.set_cons_succ]
          refine wpAnyH_take (i := 6) (oi := ?oi20076) (v := ?v20076) ?hi20076 (by kernel_rfl) (by kernel_rfl) (by kernel_rfl) (fun _ _ _ h => h) (Or.inl ⟨?hw20076, ?hy20076⟩) (by assumption) ?rest20076
          case hi20076 => (simp only [List.getElem?_toArray, List.getElem?_cons_zero, List.getElem?_cons_succ]; rfl)
          case hw20076 => rfl
          case hy20076 => first | (intro wx hSw; obtain ⟨s1_, s2_⟩ := hSw; go_simp; done) | (intro wx hSw; obtain ⟨s1_, s2_⟩ := hSw; go_simp; with_reducible rfl)
          simp only [Act.put, List.setIfInBounds_toArray, List.set_cons_zero, List.set_cons_succ]
          refine wpAnyH_take (i := 7) (oi := ?oi20077) (v := undef) ?hi20077 (by kernel_rfl) (by kernel_rfl) (by kernel_rfl) (fun _ _ _ h => h) (Or.inr ⟨?hw20077, rfl⟩) (by assumption) ?rest20077
          case hi20077 => (simp only [List.getElem?_toArray, List.getElem?_cons_zero, List.getElem?_cons_succ]; rfl)
          case hw20077 => rfl
          simp only [Act.put, List.setIfInBounds_toArray, List.set_cons_zero, List.set_cons_succ]
          refine wpAnyH_take (i := 8) (oi := ?oi20078) (v := undef) ?hi20078 (by kernel_rfl) (by kernel_rfl) (by kernel_rfl) (fun _ _ _ h => h) (Or.inr ⟨?hw20078, rfl⟩) (by assumption) ?rest20078
          case hi20078 => (simp only [List.getElem?_toArray, List.getElem?_cons_zero, List.getElem?_cons_succ]; rfl)
          case hw20078 => rfl
          simp only [Act.put, List.setIfInBounds_toArray, List.set_cons_zero, List.set_cons_succ]
          refine wpAnyH_take (i := 9) (oi := ?oi20079) (v := undef) ?hi20079 (by kernel_rfl) (by kernel_rfl) (by kernel_rfl) (fun _ _ _ h => h) (Or.inr ⟨?hw20079, rfl⟩) (by assumption) ?rest20079
          case hi20079 => (simp only [List.getElem?_toArray, List.getElem?_cons_zero, List.getElem?_cons_succ]; rfl)
          case hw20079 => rfl
          simp only [Act.put, List.setIfInBounds_toArray, List.set_cons_zero, List.set_cons_succ]
          refine wpAnyH_take (i := 10) (oi := ?oi20080) (v := undef) ?hi20080 (by kernel_rfl) (by kernel_rfl) (by kernel_rfl) (fun _ _ _ h => h) (Or.inr ⟨?hw20080, rfl⟩) (by assumption) ?rest20080
          case hi20080 => (simp only [List.getElem?_toArray, List.getElem?_cons_zero, List.getElem?_cons_succ]; rfl)
          case hw20080 => rfl
          simp only [Act.put, List.setIfInBounds_toArray, List.set_cons_zero, List.set_cons_succ]
          refine wpAnyH_take (i := 11) (oi := ?oi20081) (v := undef) ?hi20081 (by kernel_rfl) (by kernel_rfl) (by kernel_rfl) (fun _ _ _ h => h) (Or.inr ⟨?hw20081, rfl⟩) (by assumption) ?rest20081
          case hi20081 => (simp only [List.getElem?_toArray, List.getElem?_cons_zero, List.getElem?_cons_succ]; rfl)
          case hw20081 => rfl
          simp only [Act.put, List.setIfInBounds_toArray, List.set_cons_zero, List.set_cons_succ]
          refine wpAnyH_take (i := 12) (oi := ?oi20082) (v := undef) ?hi20082 (by kernel_rfl) (by kernel_rfl) (by kernel_rfl) (fun _ _ _ h => h) (Or.inr ⟨?hw20082, rfl⟩) (by assumption) ?rest20082
          case hi20082 => (simp only [List.getElem?_toArray, List.getElem?_cons_zero, List.getElem?_cons_succ]; rfl)
          case hw20082 => rfl
          simp only [Act.put, List.setIfInBounds_toArray, List.set_cons_zero, List.set_cons_succ]
          refine wpAnyH_take (i := 13) (oi := ?oi20083) (v := undef) ?hi20083 (by kernel_rfl) (by kernel_rfl) (by kernel_rfl) (fun _ _ _ h => h) (Or.inr ⟨?hw20083, rfl⟩) (by assumption) ?rest20083
          case hi20083 => (simp only [List.getElem?_toArray, List.getElem?_cons_zero, List.getElem?_cons_succ]; rfl)
          case hw20083 => rfl
          simp only [Act.put, List.setIfInBounds_toArray, List.set_cons_zero, List.set_cons_succ]
          refine wpAnyH_take (i := 14) (oi := ?oi20084) (v := undef) ?hi20084 (by kernel_rfl) (by kernel_rfl) (by kernel_rfl) (fun _ _ _ h => h) (Or.inr ⟨?hw20084, rfl⟩) (by assumption) ?rest20084
          case hi20084 => (simp only [List.getElem?_toArray, List.getElem?_cons_zero, List.getElem?_cons_succ]; rfl)
          case hw20084 => rfl
          simp only [Act.put, List.setIfInBounds_toArray, List.set_cons_zero, List.set_cons_succ]
          refine wpAnyH_take (i := 15) (oi := ?oi20085) (v := undef) ?hi20085 (by kernel_rfl) (by kernel_rfl) (by kernel_rfl) (fun _ _ _ h => h) (Or.inr ⟨?hw20085, rfl⟩) (by assumption) ?rest20085
          case hi20085 => (simp only [List.getElem?_toArray, List.getElem?_cons_zero, List.getElem?_cons_succ]; rfl)
          case hw20085 => rfl
          simp only [Act.put, List.setIfInBounds_toArray, List.set_cons_zero, List.set_cons_succ]
          refine wpAnyH_take (i := 16) (oi := ?oi20086) (v := undef) ?hi20086 (by kernel_rfl) (by kernel_rfl) (by kernel_rfl) (fun _ _ _ h => h) (Or.inr ⟨?hw20086, rfl⟩) (by assumption) ?rest20086
          case hi20086 => (simp only [List.getElem?_toArray, List.getElem?_cons_zero, List.getElem?_cons_succ]; rfl)
          case hw20086 => rfl
          simp only [Act.put, List.setIfInBounds_toArray, List.set_cons_zero, List.set_cons_succ]
          refine wpAnyH_take (i := 17) (oi := ?oi20087) (v := undef) ?hi20087 (by kernel_rfl) (by kernel_rfl) (by kernel_rfl) (fun _ _ _ h => h) (Or.inr ⟨?hw20087, rfl⟩) (by assumption) ?rest20087
          case hi20087 => (simp only [List.getElem?_toArray, List.getElem?_cons_zero, List.getElem?_cons_succ]; rfl)
          case hw20087 => rfl
          simp only [Act.put, List.setIfInBounds_toArray, List.set_cons_zero, List.set_cons_succ]
          refine wpAnyH_take (i := 18) (oi := ?oi20088) (v := ?v20088) ?hi20088 (by kernel_rfl) (by kernel_rfl) (by kernel_rfl) (fun _ _ _ h => h) (Or.inl ⟨?hw20088, ?hy20088⟩) (by assumption) ?rest20088
          case hi20088 => (simp only [List.getElem?_toArray, List.getElem?_cons_zero, List.getElem?_cons_succ]; rfl)
          case hw20088 => rfl
          case hy20088 => first | (intro wx hSw; obtain ⟨s1_, s2_⟩ := hSw; go_simp; done) | (intro wx hSw; obtain ⟨s1_, s2_⟩ := hSw; go_simp; with_reducible rfl)
          simp only [Act.put, List.setIfInBounds_toArray, List.set_cons_zero, List.set_cons_succ]
          refine wpAnyH_take (i := 19) (oi := ?oi20089) (v := ?v20089) ?hi20089 (by kernel_rfl) (by kernel_rfl) (by kernel_rfl) (fun _ _ _ h => h) (Or.inl ⟨?hw20089, ?hy20089⟩) (by assumption) ?rest20089
          case hi20089 => (simp only [List.getElem?_toArray, List.getElem?_cons_zero, List.getElem?_cons_succ]; rfl)
          case hw20089 => rfl
          case hy20089 => first | (intro wx hSw; obtain ⟨s1_, s2_⟩ := hSw; go_simp; done) | (intro wx hSw; obtain ⟨s1_, s2_⟩ := hSw; go_simp; with_reducible rfl)
          simp only [Act.put, List.setIfInBounds_toArray, List.set_cons_zero, List.set_cons_succ]
          refine wpAnyH_take (i := 20) (oi := ?oi20090) (v := ?v20090) ?hi20090 (by kernel_rfl) (by kernel_rfl) (by kernel_rfl) (fun _ _ _ h => h) (Or.inl ⟨?hw20090, ?hy20090⟩) (by assumption) ?rest20090
          case hi20090 => (simp only [List.getElem?_toArray, List.getElem?_cons_zero, List.getElem?_cons_succ]; rfl)
          case hw20090 => rfl
          case hy20090 => first | (intro wx hSw; obtain ⟨s1_, s2_⟩ := hSw; go_simp; done) | (intro wx hSw; obtain ⟨s1_, s2_⟩ := hSw; go_simp; with_reducible rfl)
          simp only [Act.put, List.setIfInBounds_toArray, List.set_cons_zero, List.set_cons_succ]
          refine wpAnyH_done (by kernel_rfl) ?_ _
          refine NoPanic.normal ?_
          refine hrest _ _ ?_
          have H3 := hide ((unhide H2).call (below_drew X))
          have HB3 := hide ((unhide HB2).trans ((below_drew X).mono (unhide HB2).size))
          have HM3 := hide ((unhide HM2).below (below_drew X))
          generalize hY : X.drew = Y at H3 HB3 HM3 ⊢
          clear hY m4 m5
          have d1 : Y.cell? ⟨W.heap.size, 1, none⟩ = some (.int .i64 (fr : Int)) := (unhide HM3).cell 1
          have y2 := (unhide H3).c2
          have yz := (unhide H3).fz
          have yl := (unhide H3).blk.lt
          have P3 := (unhide H3).put { n with vote := (fr : Int) } 2 (.int .i64 (fr : Int)) rfl rfl rfl rfl rfl rfl
          have K3 := hide (Keep.set (W := Y) (j := 2) (v := .int .i64 (fr : Int)) (St.fb b q sv))
          have HFm : Hid (¬ Foot b q sv W.heap.size) := hide (unhide HF0)
          have BA := hide (beginAnew_any b q sv { n with vote := (fr : Int) } S _ P3 hfc hf5)
          have e1 : (Y.setCell ⟨b, 2, none⟩ (.int .i64 (fr : Int))).cell? ⟨W.heap.size, 1, none⟩ = some (.int .i64 (fr : Int)) := (World.cell?_setCell_far _ _ _ _ (by show b ≠ W.heap.size; exact hnb)).trans d1
          clear P3
          go_wp2_with (first
            | (go_at_call 67; refine (unhide BA).mono ?_; rintro e W4 ⟨⟨v, rfl⟩, hs4, hK4⟩; have f1 : W4.cell? ⟨W.heap.size, 1, none⟩ = some (.int .i64 (fr : Int))  := (by rw [World.cell?_of_block (a := ⟨W.heap.size, 1, none⟩) ((hK4.block W.heap.size (by simp [World.setCell]; exact (unhide HM3).lt) (unhide HFm)).1)]; exact e1); have H4 := hide hs4; have K4 := hide hK4; clear hs4 hK4)
            | (go_at_call 68; refine (unhide SA _ _ _ (unhide H4)).mono ?_; rintro e W5 ⟨⟨v, rfl⟩, sv', hs, hK⟩))
          go_end0
          rw [vote_yes (by unfold grants; exact decide_eq_true ⟨rfl, (.inr (unhide HV)), .inl (by show termAt n.log n.log.length < lt; rw [unhide how]; exact unhide g1)⟩)]
          exact ⟨⟨_, rfl⟩, St.sent1 (W := Y) hs ((Keep.call _ (unhide HB3)).trans ((unhide K3).trans ((unhide K4).trans hK)))⟩
        · have g1 := hide g1_
          by_cases g2_ : lt = own
          · subst g2_
            by_cases g3_ : n.log.length ≤ ix
            · have g3 := hide g3_
              have a3 : (n.log.length : Int) ≤ (ix : Int) := by omega
              have a4 : decide ((n.log.length : Int) ≤ (ix : Int)) = true := decide_eq_true a3
              clear g1_
              go_wp2
              go_region_held3 (fun w' => w'.cell? ⟨W.heap.size, 5, none⟩ = some (.int .i64 (lt : Int)) ∧ w'.cell? ⟨W.heap.size, 4, none⟩ = some (.int .i64 (ix : Int))) (go_keep) ((go_at_call 52; refine (unhide LB _ ((unhide H2).call (Below.refl _ _).drew)).mono ?_; rintro e w' ⟨rfl, rfl⟩))
              have H3 := hide ((unhide H2).call (below_drew X))
              have HB3 := hide ((unhide HB2).trans ((below_drew X).mono (unhide HB2).size))
              have HM3 := hide ((unhide HM2).below (below_drew X))
              generalize hY : X.drew = Y at H3 HB3 HM3 ⊢
              clear hY m4 m5
              have d1 : Y.cell? ⟨W.heap.size, 1, none⟩ = some (.int .i64 (fr : Int)) := (unhide HM3).cell 1
              have y2 := (unhide H3).c2
              have yz := (unhide H3).fz
              have yl := (unhide H3).blk.lt
              have P3 := (unhide H3).put { n with vote := (fr : Int) } 2 (.int .i64 (fr : Int)) rfl rfl rfl rfl rfl rfl
              have K3 := hide (Keep.set (W := Y) (j := 2) (v := .int .i64 (fr : Int)) (St.fb b q sv))
              have HFm : Hid (¬ Foot b q sv W.heap.size) := hide (unhide HF0)
              have BA := hide (beginAnew_any b q sv { n with vote := (fr : Int) } S _ P3 hfc hf5)
              have e1 : (Y.setCell ⟨b, 2, none⟩ (.int .i64 (fr : Int))).cell? ⟨W.heap.size, 1, none⟩ = some (.int .i64 (fr : Int)) := (World.cell?_setCell_far _ _ _ _ (by show b ≠ W.heap.size; exact hnb)).trans d1
              clear P3
              go_wp2_with (first
                | (go_at_call 67; refine (unhide BA).mono ?_; rintro e W4 ⟨⟨v, rfl⟩, hs4, hK4⟩; have f1 : W4.cell? ⟨W.heap.size, 1, none⟩ = some (.int .i64 (fr : Int))  := (by rw [World.cell?_of_block (a := ⟨W.heap.size, 1, none⟩) ((hK4.block W.heap.size (by simp [World.setCell]; exact (unhide HM3).lt) (unhide HFm)).1)]; exact e1); have H4 := hide hs4; have K4 := hide hK4; clear hs4 hK4)
                | (go_at_call 68; refine (unhide SA _ _ _ (unhide H4)).mono ?_; rintro e W5 ⟨⟨v, rfl⟩, sv', hs, hK⟩))
              go_end0
              rw [vote_yes (by unfold grants; exact decide_eq_true ⟨rfl, (.inr (unhide HV)), .inr ⟨(unhide how).symm, unhide g3⟩⟩)]
              exact ⟨⟨_, rfl⟩, St.sent1 (W := Y) hs ((Keep.call _ (unhide HB3)).trans ((unhide K3).trans ((unhide K4).trans hK)))⟩
            · have g3 := hide g3_
              have a3 : ¬ (n.log.length : Int) ≤ (ix : Int) := by omega
              have a4 : decide ((n.log.length : Int) ≤ (ix : Int)) = false := decide_eq_false a3
              clear g1_
              go_wp2
              go_region_held3 (fun w' => w'.cell? ⟨W.heap.size, 5, none⟩ = some (.int .i64 (lt : Int)) ∧ w'.cell? ⟨W.heap.size, 4, none⟩ = some (.int .i64 (ix : Int))) (go_keep) ((go_at_call 52; refine (unhide LB _ ((unhide H2).call (Below.refl _ _).drew)).mono ?_; rintro e w' ⟨rfl, rfl⟩))
              have H3 := hide ((unhide H2).call (below_drew X))
              have HB3 := hide ((unhide HB2).trans ((below_drew X).mono (unhide HB2).size))
              have HM3 := hide ((unhide HM2).below (below_drew X))
              generalize hY : X.drew = Y at H3 HB3 HM3 ⊢
              clear hY m4 m5
              have d1 : Y.cell? ⟨W.heap.size, 1, none⟩ = some (.int .i64 (fr : Int)) := (unhide HM3).cell 1
              go_wp2_with (go_at_call 68; refine (unhide SA _ _ _ (unhide H3)).mono ?_; rintro e W4 ⟨⟨v, rfl⟩, sv', hs, hK⟩)
              go_end0
              rw [vote_no (by unfold grants; exact decide_eq_false fun e => e.2.2.elim (fun x => absurd (unhide how ▸ x : lt < lt) (Nat.lt_irrefl _)) (fun x => unhide g3 x.2))]
              exact ⟨⟨_, rfl⟩, St.sent1 (W := Y) hs ((Keep.call _ (unhide HB3)).trans hK)⟩
          · have g2 := hide g2_
            have a1 : ¬ (own : Int) < (lt : Int) := by omega
            have a2 : decide ((own : Int) < (lt : Int)) = false := decide_eq_false a1
            have a3 : ¬ (lt : Int) = (own : Int) := by omega
            have a4 : ((lt : Int) == (own : Int)) = false := by rw [beq_eq_false_iff_ne]; omega
            go_wp2
            rename_i hrest
            refine wp_region_noPanic ?_
            refine wp_region_held_drew (S := (fun w' => w'.cell? ⟨W.heap.size, 5, none⟩ = some (.int .i64 (lt : Int)) ∧ w'.cell? ⟨W.heap.size, 4, none⟩ = some (.int .i64 (ix : Int)))) (by kernel_rfl) (⟨m5, m4⟩) (fun hHeld => ?_)
            refine wpAnyH_take (i := 0) (oi := ?oi20091) (v := ?v20091) ?hi20091 (by kernel_rfl) (by kernel_rfl) (by kernel_rfl) (fun _ _ _ h => h) (Or.inl ⟨?hw20091, ?hy20091⟩) (by assumption) ?rest20091
            case hi20091 => (simp only [List.getElem?_toArray, List.getElem?_cons_zero]; rfl)
            case hw20091 => rfl
            case hy20091 => first | (intro wx hSw; obtain ⟨s1_, s2_⟩ := hSw; go_simp; done) | (intro wx hSw; obtain ⟨s1_, s2_⟩ := hSw; go_simp; with_reducible rfl)
            simp only [Act.put, List.setIfInBounds_toArray, List.set_cons_zero, List.set_cons_succ]
            refine wpAnyH_take (i := 1) (oi := ?oi20092) (v := ?v20092) ?hi20092 (by kernel_rfl) (by kernel_rfl) (by kernel_rfl) (fun _ _ _ h => h) (Or.inl ⟨?hw20092, ?hy20092⟩) (by assumption) ?rest20092
            case hi20092 => (simp only [List.getElem?_toArray, List.getElem?_cons_zero, List.getElem?_cons_succ]; rfl)
            case hw20092 => rfl
            case hy20092 => first | (intro wx hSw; obtain ⟨s1_, s2_⟩ := hSw; go_simp; done) | (intro wx hSw; obtain ⟨s1_, s2_⟩ := hSw; go_simp; with_reducible rfl)
            simp only [Act.put, List.setIfInBounds_toArray, List.set_cons_zero, List.set_cons_succ]
            refine wpAnyH_take (i := 2) (oi := ?oi20093) (v := ?v20093) ?hi20093 (by kernel_rfl) (by kernel_rfl) (by kernel_rfl) (fun _ _ _ h => h) (Or.inl ⟨?hw20093, ?hy20093⟩) (by assumption) ?rest20093
            case hi20093 => (simp only [List.getElem?_toArray, List.getElem?_cons_zero, List.getElem?_cons_succ]; rfl)
            case hw20093 => rfl
            case hy20093 => first | (intro wx hSw; obtain ⟨s1_, s2_⟩ := hSw; go_simp; done) | (intro wx hSw; obtain ⟨s1_, s2_⟩ := hSw; go_simp; with_reducible rfl)
            simp only [Act.put, List.setIfInBounds_toArray, List.set_cons_zero, List.set_cons_succ]
            refine wpAnyH_take (i := 3) (oi := ?oi20094) (v := ?v20094) ?hi20094 (by kernel_rfl) (by kernel_rfl) (by kernel_rfl) (fun _ _ _ h => h) (Or.inl ⟨?hw20094, ?hy20094⟩) (by assumption) ?rest20094
            case hi20094 => (simp only [List.getElem?_toArray, List.getElem?_cons_zero, List.getElem?_cons_succ]; rfl)
            case hw20094 => rfl
            case hy20094 => first | (intro wx hSw; obtain ⟨s1_, s2_⟩ := hSw; go_simp; done) | (intro wx hSw; obtain ⟨s1_, s2_⟩ := hSw; go_simp; with_reducible rfl)
            simp only [Act.put, List.setIfInBounds_toArray, List.set_cons_zero, List.set_cons_succ]
            refine wpAnyH_take (i := 4) (oi := ?oi20095) (v := ?v20095) ?hi20095 (by kernel_rfl) (by kernel_rfl) (by kernel_rfl) (fun _ _ _ h => h) (Or.inl ⟨?hw20095, ?hy20095⟩) (by assumption) ?rest20095
            case hi20095 => (simp only [List.getElem?_toArray, List.getElem?_cons_zero, List.getElem?_cons_succ]; rfl)
            case hw20095 => rfl
            case hy20095 => first | (intro wx hSw; obtain ⟨s1_, s2_⟩ := hSw; go_simp; done) | (intro wx hSw; obtain ⟨s1_, s2_⟩ := hSw; go_simp; with_reducible rfl)
            simp only [Act.put, List.setIfInBounds_toArray, List.set_cons_zero, List.set_cons_succ]
            refine wpAnyH_take (i := 5) (oi := ?oi20096) (v := ?v20096) ?hi20096 (by kernel_rfl) (by kernel_rfl) (by kernel_rfl) (fun _ _ _ h => h) (Or.inl ⟨?hw20096, ?hy20096⟩) (by assumption) ?rest20096
            case hi20096 => (simp only [List.getElem?_toArray, List.getElem?_cons_zero, List.getElem?_cons_succ]; rfl)
            case hw20096 => rfl
            case hy20096 => first | (intro wx hSw; obtain ⟨s1_, s2_⟩ := hSw; go_simp; done) | (intro wx hSw; obtain ⟨s1_, s2_⟩ := hSw; go_simp; with_reducible rfl)
            simp only [Act.put, List.setIfInBounds_toArray, List.set_cons_zero, List.set_cons_succ]
            refine wpAnyH_take (i := 6) (oi := ?oi20097) (v := ?v20097) ?hi20097 (by kernel_rfl) (by kernel_rfl) (by kernel_rfl) (fun _ _ _ h => h) (Or.inl ⟨?hw20097, ?hy20097⟩) (by assumption) ?rest20097
            case hi20097 => (simp only [List.getElem?_toArray, List.getElem?_cons_zero, List.getElem?_cons_succ]; rfl)
            case hw20097 => rfl
            case hy20097 => first | (intro wx hSw; obtain ⟨s1_, s2_⟩ := hSw; go_simp; done) | (intro wx hSw; obtain ⟨s1_, s2_⟩ := hSw; go_simp; with_reducible rfl)
            simp only [Act.put, List.setIfInBounds_toArray, List.set_cons_zero, List.set_cons_succ]
            refine wpAnyH_take (i := 7) (oi := ?oi20098) (v := ?v20098) ?hi20098 (by kernel_rfl) (by kernel_rfl) (by kernel_rfl) (fun _ _ _ h => h) (Or.inl ⟨?hw20098, ?hy20098⟩) (by assumption) ?rest20098
            case hi20098 => (simp only [List.getElem?_toArray, List.getElem?_cons_zero, List.getElem?_cons_succ]; rfl)
            case hw20098 => rfl
            case hy20098 => first | (intro wx hSw; obtain ⟨s1_, s2_⟩ := hSw; go_simp; done) | (intro wx hSw; obtain ⟨s1_, s2_⟩ := hSw; go_simp; with_reducible rfl)
            simp only [Act.put, List.setIfInBounds_toArray, List.set_cons_zero, List.set_cons_succ]
            refine wpAnyH_take (i := 8) (oi := ?oi20099) (v := ?v20099) ?hi20099 (by kernel_rfl) (by kernel_rfl) (by kernel_rfl) (fun _ _ _ h => h) (Or.inl ⟨?hw20099, ?hy20099⟩) (by assumption) ?rest20099
            case hi20099 => (simp only [List.getElem?_toArray, List.getElem?_cons_zero, List.getElem?_cons_succ]; rfl)
            case hw20099 => rfl
            case hy20099 => first | (intro wx hSw; obtain ⟨s1_, s2_⟩ := hSw; go_simp; done) | (intro wx hSw; obtain ⟨s1_, s2_⟩ := hSw; go_simp; with_reducible rfl)
            simp only [Act.put, List.setIfInBounds_toArray, List.set_cons_zero, List.set_cons_succ]
            refine wpAnyH_take (i := 9) (oi := ?oi20100) (v := ?v20100) ?hi20100 (by kernel_rfl) (by kernel_rfl) (by kernel_rfl) (fun _ _ _ h => h) (Or.inl ⟨?hw20100, ?hy20100⟩) (by assumption) ?rest20100
            case hi20100 => (simp only [List.getElem?_toArray, List.getElem?_cons_zero, List.getElem?_cons_succ]; rfl)
            case hw20100 => rfl
            case hy20100 => first | (intro wx hSw; obtain ⟨s1_, s2_⟩ := hSw; go_simp; done) | (intro wx hSw; obtain ⟨s1_, s2_⟩ := hSw; go_simp; with_reducible rfl)
            simp only [Act.put, List.setIfInBounds_toArray, List.set_cons_zero, List.set_cons_succ]
            refine wpAnyH_take (i := 10) (oi := ?oi20101) (v := ?v20101) ?hi20101 (by kernel_rfl) (by kernel_rfl) (by kernel_rfl) (fun _ _ _ h => h) (Or.inl ⟨?hw20101, ?hy20101⟩) (by assumption) ?rest20101
            case hi20101 => (simp only [List.getElem?_toArray, List.getElem?_cons_zero, List.getElem?_cons_succ]; rfl)
            case hw20101 => rfl
            case hy20101 => first | (intro wx hSw; obtain ⟨s1_, s2_⟩ := hSw; go_simp; done) | (intro wx hSw; obtain ⟨s1_, s2_⟩ := hSw; go_simp; with_reducible rfl)
            simp only [Act.put, List.setIfInBounds_toArray, List.set_cons_zero, List.set_cons_succ]
            refine wpAnyH_take (i := 11) (oi := ?oi20102) (v := ?v20102) ?hi20102 (by kernel_rfl) (by kernel_rfl) (by kernel_rfl) (fun _ _ _ h => h) (Or.inl ⟨?hw20102, ?hy20102⟩) (by assumption) ?rest20102
            case hi20102 => (simp only [List.getElem?_toArray, List.getElem?_cons_zero, List.getElem?_cons_succ]; rfl)
            case hw20102 => rfl
            case hy20102 => first | (intro wx hSw; obtain ⟨s1_, s2_⟩ := hSw; go_simp; done) | (intro wx hSw; obtain ⟨s1_, s2_⟩ := hSw; go_simp; with_reducible rfl)
            simp only [Act.put, List.setIfInBounds_toArray, List.set_cons_zero, List.set_cons_succ]
            refine wpAnyH_take (i := 12) (oi := ?oi20103) (v := undef) ?hi20103 (by kernel_rfl) (by kernel_rfl) (by kernel_rfl) (fun _ _ _ h => h) (Or.inr ⟨?hw20103, rfl⟩) (by assumption) ?rest20103
            case hi20103 => (simp only [List.getElem?_toArray, List.getElem?_cons_zero, List.getElem?_cons_succ]; rfl)
            case hw20103 => rfl
            simp only [Act.put, List.setIfInBounds_toArray, List.set_cons_zero, List.set_cons_succ]
            refine wpAnyH_take (i := 13) (oi := ?oi20104) (v := undef) ?hi20104 (by kernel_rfl) (by kernel_rfl) (by kernel_rfl) (fun _ _ _ h => h) (Or.inr ⟨?hw20104, rfl⟩) (by assumption) ?rest20104
            case hi20104 => (simp only [List.getElem?_toArray, List.getElem?_cons_zero, List.getElem?_cons_succ]; rfl)
            case hw20104 => rfl
            simp only [Act.put, List.setIfInBounds_toArray, List.set_cons_zero, List.set_cons_succ]
            refine wpAnyH_take (i := 14) (oi := ?oi20105) (v := undef) ?hi20105 (by kernel_rfl) (by kernel_rfl) (by kernel_rfl) (fun _ _ _ h => h) (Or.inr ⟨?hw20105, rfl⟩) (by assumption) ?rest20105
            case hi20105 => (simp only [List.getElem?_toArray, List.getElem?_cons_zero, List.getElem?_cons_succ]; rfl)
            case hw20105 => rfl
            simp only [Act.put, List.setIfInBounds_toArray, List.set_cons_zero, List.set_cons_succ]
            refine wpAnyH_take (i := 15) (oi := ?oi20106) (v := undef) ?hi20106 (by kernel_rfl) (by kernel_rfl) (by kernel_rfl) (fun _ _ _ h => h) (Or.inr ⟨?hw20106, rfl⟩) (by assumption) ?rest20106
            case hi20106 => (simp only [List.getElem?_toArray, List.getElem?_cons_zero, List.getElem?_cons_succ]; rfl)
            case hw20106 => rfl
            simp only [Act.put, List.setIfInBounds_toArray, List.set_cons_zero, List.set_cons_succ]
            refine wpAnyH_take (i := 16) (oi := ?oi20107) (v := undef) ?hi20107 (by kernel_rfl) (by kernel_rfl) (by kernel_rfl) (fun _ _ _ h => h) (Or.inr ⟨?hw20107, rfl⟩) (by assumption) ?rest20107
            case hi20107 => (simp only [List.getElem?_toArray, List.getElem?_cons_zero, List.getElem?_cons_succ]; rfl)
            case hw20107 => rfl
            simp only [Act.put, List.setIfInBounds_toArray, List.set_cons_zero, List.set_cons_succ]
            refine wpAnyH_take (i := 17) (oi := ?oi20108) (v := ?v20108) ?hi20108 (by kernel_rfl) (by kernel_rfl) (by kernel_rfl) (fun _ _ _ h => h) (Or.inl ⟨?hw20108, ?hy20108⟩) (by assumption) ?rest20108
            case hi20108 => (simp only [List.getElem?_toArray, List.getElem?_cons_zero, List.getElem?_cons_succ]; rfl)
            case hw20108 => rfl
            case hy20108 => first | (intro wx hSw; obtain ⟨s1_, s2_⟩ := hSw; go_simp; done) | (intro wx hSw; obtain ⟨s1_, s2_⟩ := hSw; go_simp; with_reducible rfl)
            simp only [Act.put, List.setIfInBounds_toArray, List.set_cons_zero, List.set_cons_succ]
            refine wpAnyH_take (i := 18) (oi := ?oi20109) (v := ?v20109) ?hi20109 (by kernel_rfl) (by kernel_rfl) (by kernel_rfl) (fun _ _ _ h => h) (Or.inl ⟨?hw20109, ?hy20109⟩) (by assumption) ?rest20109
            case hi20109 => (simp only [List.getElem?_toArray, List.getElem?_cons_zero, List.getElem?_cons_succ]; rfl)
            case hw20109 => rfl
            case hy20109 => first | (intro wx hSw; obtain ⟨s1_, s2_⟩ := hSw; go_simp; done) | (intro wx hSw; obtain ⟨s1_, s2_⟩ := hSw; go_simp; with_reducible rfl)
            simp only [Act.put, List.setIfInBounds_toArray, List.set_cons_zero, List.set_cons_succ]
            refine wpAnyH_take (i := 19) (oi := ?oi20110) (v := ?v20110) ?hi20110 (by kernel_rfl) (by kernel_rfl) (by kernel_rfl) (fun _ _ _ h => h) (Or.inl ⟨?hw20110, ?hy20110⟩) (by assumption) ?rest20110
            case hi20110 => (simp only [List.getElem?_toArray, List.getElem?_cons_zero, List.getElem?_cons_succ]; rfl)
            case hw20110 => rfl
            case hy20110 => first | (intro wx hSw; obtain ⟨s1_, s2_⟩ := hSw; go_simp; done) | (intro wx hSw; obtain ⟨s1_, s2_⟩ := hSw; go_simp; with_reducible rfl)
            simp only [Act.put, List.setIfInBounds_toArray, List.set_cons_zero, List.set_cons_succ]
            refine wpAnyH_take (i := 20) (oi := ?oi20111) (v := ?v20111) ?hi20111 (by kernel_rfl) (by kernel_rfl) (by kernel_rfl) (fun _ _ _ h => h) (Or.inl ⟨?hw20111, ?hy20111⟩) (by assumption) ?rest20111
            case hi20111 => (simp only [List.getElem?_toArray, List.getElem?_cons_zero, List.getElem?_cons_succ]; rfl)
            case hw20111 => rfl
            case hy20111 => first | (intro wx hSw; obtain ⟨s1_, s2_⟩ := hSw; go_simp; done) | (intro wx hSw; obtain ⟨s1_, s2_⟩ := hSw; go_simp; with_reducible rfl)
            simp only [Act.put, List.setIfInBounds_toArray, List.set_cons_zero, List.set_cons_succ]
            refine wpAnyH_done (by kernel_rfl) ?_ _
            refine NoPanic.normal ?_
            refine hrest _ _ ?_
            have H3 := hide ((unhide H2).call (below_drew X))
            have HB3 := hide ((unhide HB2).trans ((below_drew X).mono (unhide HB2).size))
            have HM3 := hide ((unhide HM2).below (below_drew X))
            generalize hY : X.drew = Y at H3 HB3 HM3 ⊢
            clear hY m4 m5
            have d1 : Y.cell? ⟨W.heap.size, 1, none⟩ = some (.int .i64 (fr : Int)) := (unhide HM3).cell 1
            go_wp2_with (go_at_call 68; refine (unhide SA _ _ _ (unhide H3)).mono ?_; rintro e W4 ⟨⟨v, rfl⟩, sv', hs, hK⟩)
            go_end0
            rw [vote_no (by unfold grants; exact decide_eq_false fun e => e.2.2.elim (fun x => unhide g1 (unhide how ▸ x)) (fun x => unhide g2 (x.1.trans (unhide how))))]
            exact ⟨⟨_, rfl⟩, St.sent1 (W := Y) hs ((Keep.call _ (unhide HB3)).trans hK)⟩
      · skip
        rw [vote_no (by unfold grants; exact decide_eq_false fun e => e.2.1.elim hv hv2)]
        have hv3 : (n.vote == -1) = false := by rw [beq_eq_false_iff_ne]; exact hv
        have hv4 : (n.vote == (fr : Int)) = false := by rw [beq_eq_false_iff_ne]; exact hv2
        go_enter Try.func53, Try.ntmps53
        go_wp2_with (first
          | (go_at_call 52; refine (unhide LA _ (unhide HB1)).mono ?_; rintro e w' ⟨rfl, hW⟩; replace hW := hW.symm; subst hW)
          | (go_at_call 66; refine (unhide TO).mono ?_; rintro e w' ⟨rfl, hW⟩; replace hW := hW.symm; subst hW))
        go_region_held3 (fun w' => w'.cell? ⟨b, 1, none⟩ = some (.int .i64 (n.term : Int)) ∧ w'.cell? ⟨b, 2, none⟩ = some (.int .i64 n.vote) ∧ w'.cell? ⟨W.heap.size, 3, none⟩ = some (.int .i64 (n.term : Int)) ∧ w'.cell? ⟨W.heap.size, 1, none⟩ = some (.int .i64 (fr : Int))) (go_keep) (fail)
        have H2 := hide ((unhide H1).call (below_drew _))
        have HB2 := hide ((unhide HB1).trans ((below_drew _).mono (unhide HB1).size))
        have HM2 := hide ((unhide HM1).below (below_drew _))
        generalize hX : (W.alloc (.cells #[nI kd, nI fr, nI to, nI n.term, nI ix, nI lt, .bool ok, .slice p ents.length c, nI cm, nI fm] 37)).drew = X at H2 HB2 HM2 ⊢
        clear hX c1 c2 m1 m3 H1 HM1 TO
        have m5 : X.cell? ⟨W.heap.size, 5, none⟩ = some (.int .i64 (lt : Int)) := (unhide HM2).cell 5
        have m4 : X.cell? ⟨W.heap.size, 4, none⟩ = some (.int .i64 (ix : Int)) := (unhide HM2).cell 4
        go_wp2
        rename_i hrest
        refine wp_region_noPanic ?_
        refine wp_region_held_drew (S := (fun w' => w'.cell? ⟨W.heap.size, 5, none⟩ = some (.int .i64 (lt : Int)) ∧ w'.cell? ⟨W.heap.size, 4, none⟩ = some (.int .i64 (ix : Int)))) (by kernel_rfl) (⟨m5, m4⟩) (fun hHeld => ?_)
        refine wpAnyH_take (i := 0) (oi := ?oi20112) (v := ?v20112) ?hi20112 (by kernel_rfl) (by kernel_rfl) (by kernel_rfl) (fun _ _ _ h => h) (Or.inl ⟨?hw20112, ?hy20112⟩) (by assumption) ?rest20112
        case hi20112 => (simp only [List.getElem?_toArray, List.getElem?_cons_zero]; rfl)
        case hw20112 => rfl
        case hy20112 => first | (intro wx hSw; obtain ⟨s1_, s2_⟩ := hSw; go_simp; done) | (intro wx hSw; obtain ⟨s1_, s2_⟩ := hSw; go_simp; with_reducible rfl)
        simp only [Act.put, List.setIfInBounds_toArray, List.set_cons_zero, List.set_cons_succ]
        refine wpAnyH_take (i := 1) (oi := ?oi20113) (v := ?v20113) ?hi20113 (by kernel_rfl) (by kernel_rfl) (by kernel_rfl) (fun _ _ _ h => h) (Or.inl ⟨?hw20113, ?hy20113⟩) (by assumption) ?rest20113
        case hi20113 => (simp only [List.getElem?_toArray, List.getElem?_cons_zero, List.getElem?_cons_succ]; rfl)
        case hw20113 => rfl
        case hy20113 => first | (intro wx hSw; obtain ⟨s1_, s2_⟩ := hSw; go_simp; done) | (intro wx hSw; obtain ⟨s1_, s2_⟩ := hSw; go_simp; with_reducible rfl)
        simp only [Act.put, List.setIfInBounds_toArray, List.set_cons_zero, List.set_cons_succ]
        refine wpAnyH_take (i := 2) (oi := ?oi20114) (v := undef) ?hi20114 (by kernel_rfl) (by kernel_rfl) (by kernel_rfl) (fun _ _ _ h => h) (Or.inr ⟨?hw20114, rfl⟩) (by assumption) ?rest20114
        case hi20114 => (simp only [List.getElem?_toArray, List.getElem?_cons_zero, List.getElem?_cons_succ]; rfl)
        case hw20114 => rfl
        simp only [Act.put, List.setIfInBounds_toArray, List.set_cons_zero, List.set_cons_succ]
        refine wpAnyH_take (i := 3) (oi := ?oi20115) (v := undef) ?hi20115 (by kernel_rfl) (by kernel_rfl) (by kernel_rfl) (fun _ _ _ h => h) (Or.inr ⟨?hw20115, rfl⟩) (by assumption) ?rest20115
        case hi20115 => (simp only [List.getElem?_toArray, List.getElem?_cons_zero, List.getElem?_cons_succ]; rfl)
        case hw20115 => rfl
        simp only [Act.put, List.setIfInBounds_toArray, List.set_cons_zero, List.set_cons_succ]
        refine wpAnyH_take (i := 4) (oi := ?oi20116) (v := undef) ?hi20116 (by kernel_rfl) (by kernel_rfl) (by kernel_rfl) (fun _ _ _ h => h) (Or.inr ⟨?hw20116, rfl⟩) (by assumption) ?rest20116
        case hi20116 => (simp only [List.getElem?_toArray, List.getElem?_cons_zero, List.getElem?_cons_succ]; rfl)
        case hw20116 => rfl
        simp only [Act.put, List.setIfInBounds_toArray, List.set_cons_zero, List.set_cons_succ]
        refine wpAnyH_take (i := 5) (oi := ?oi20117) (v := undef) ?hi20117 (by kernel_rfl) (by kernel_rfl) (by kernel_rfl) (fun _ _ _ h => h) (Or.inr ⟨?hw20117, rfl⟩) (by assumption) ?rest20117
        case hi20117 => (simp only [List.getElem?_toArray, List.getElem?_cons_zero, List.getElem?_cons_succ]; rfl)
        case hw20117 => rfl
        simp only [Act.put, List.setIfInBounds_toArray, List.set_cons_zero, List.set_cons_succ]
        refine wpAnyH_take (i := 6) (oi := ?oi20118) (v := undef) ?hi20118 (by kernel_rfl) (by kernel_rfl) (by kernel_rfl) (fun _ _ _ h => h) (Or.inr ⟨?hw20118, rfl⟩) (by assumption) ?rest20118
        case hi20118 => (simp only [List.getElem?_toArray, List.getElem?_cons_zero, List.getElem?_cons_succ]; rfl)
        case hw20118 => rfl
        simp only [Act.put, List.setIfInBounds_toArray, List.set_cons_zero, List.set_cons_succ]
        refine wpAnyH_take (i := 7) (oi := ?oi20119) (v := undef) ?hi20119 (by kernel_rfl) (by kernel_rfl) (by kernel_rfl) (fun _ _ _ h => h) (Or.inr ⟨?hw20119, rfl⟩) (by assumption) ?rest20119
        case hi20119 => (simp only [List.getElem?_toArray, List.getElem?_cons_zero, List.getElem?_cons_succ]; rfl)
        case hw20119 => rfl
        simp only [Act.put, List.setIfInBounds_toArray, List.set_cons_zero, List.set_cons_succ]
        refine wpAnyH_take (i := 8) (oi := ?oi20120) (v := undef) ?hi20120 (by kernel_rfl) (by kernel_rfl) (by kernel_rfl) (fun _ _ _ h => h) (Or.inr ⟨?hw20120, rfl⟩) (by assumption) ?rest20120
        case hi20120 => (simp only [List.getElem?_toArray, List.getElem?_cons_zero, List.getElem?_cons_succ]; rfl)
        case hw20120 => rfl
        simp only [Act.put, List.setIfInBounds_toArray, List.set_cons_zero, List.set_cons_succ]
        refine wpAnyH_take (i := 9) (oi := ?oi20121) (v := undef) ?hi20121 (by kernel_rfl) (by kernel_rfl) (by kernel_rfl) (fun _ _ _ h => h) (Or.inr ⟨?hw20121, rfl⟩) (by assumption) ?rest20121
        case hi20121 => (simp only [List.getElem?_toArray, List.getElem?_cons_zero, List.getElem?_cons_succ]; rfl)
        case hw20121 => rfl
        simp only [Act.put, List.setIfInBounds_toArray, List.set_cons_zero, List.set_cons_succ]
        refine wpAnyH_take (i := 10) (oi := ?oi20122) (v := undef) ?hi20122 (by kernel_rfl) (by kernel_rfl) (by kernel_rfl) (fun _ _ _ h => h) (Or.inr ⟨?hw20122, rfl⟩) (by assumption) ?rest20122
        case hi20122 => (simp only [List.getElem?_toArray, List.getElem?_cons_zero, List.getElem?_cons_succ]; rfl)
        case hw20122 => rfl
        simp only [Act.put, List.setIfInBounds_toArray, List.set_cons_zero, List.set_cons_succ]
        refine wpAnyH_take (i := 11) (oi := ?oi20123) (v := undef) ?hi20123 (by kernel_rfl) (by kernel_rfl) (by kernel_rfl) (fun _ _ _ h => h) (Or.inr ⟨?hw20123, rfl⟩) (by assumption) ?rest20123
        case hi20123 => (simp only [List.getElem?_toArray, List.getElem?_cons_zero, List.getElem?_cons_succ]; rfl)
        case hw20123 => rfl
        simp only [Act.put, List.setIfInBounds_toArray, List.set_cons_zero, List.set_cons_succ]
        refine wpAnyH_take (i := 12) (oi := ?oi20124) (v := undef) ?hi20124 (by kernel_rfl) (by kernel_rfl) (by kernel_rfl) (fun _ _ _ h => h) (Or.inr ⟨?hw20124, rfl⟩) (by assumption) ?rest20124
        case hi20124 => (simp only [List.getElem?_toArray, List.getElem?_cons_zero, List.getElem?_cons_succ]; rfl)
        case hw20124 => rfl
        simp only [Act.put, List.setIfInBounds_toArray, List.set_cons_zero, List.set_cons_succ]
        refine wpAnyH_take (i := 13) (oi := ?oi20125) (v := undef) ?hi20125 (by kernel_rfl) (by kernel_rfl) (by kernel_rfl) (fun _ _ _ h => h) (Or.inr ⟨?hw20125, rfl⟩) (by assumption) ?rest20125
        case hi20125 => (simp only [List.getElem?_toArray, List.getElem?_cons_zero, List.getElem?_cons_succ]; rfl)
        case hw20125 => rfl
        simp only [Act.put, List.setIfInBounds_toArray, List.set_cons_zero, List.set_cons_succ]
        refine wpAnyH_take (i := 14) (oi := ?oi20126) (v := undef) ?hi20126 (by kernel_rfl) (by kernel_rfl) (by kernel_rfl) (fun _ _ _ h => h) (Or.inr ⟨?hw20126, rfl⟩) (by assumption) ?rest20126
        case hi20126 => (simp only [List.getElem?_toArray, List.getElem?_cons_zero, List.getElem?_cons_succ]; rfl)
        case hw20126 => rfl
        simp only [Act.put, List.setIfInBounds_toArray, List.set_cons_zero, List.set_cons_succ]
        refine wpAnyH_take (i := 15) (oi := ?oi20127) (v := undef) ?hi20127 (by kernel_rfl) (by kernel_rfl) (by kernel_rfl) (fun _ _ _ h => h) (Or.inr ⟨?hw20127, rfl⟩) (by assumption) ?rest20127
        case hi20127 => (simp only [List.getElem?_toArray, List.getElem?_cons_zero, List.getElem?_cons_succ]; rfl)
        case hw20127 => rfl
        simp only [Act.put, List.setIfInBounds_toArray, List.set_cons_zero, List.set_cons_succ]
        refine wpAnyH_take (i := 16) (oi := ?oi20128) (v := undef) ?hi20128 (by kernel_rfl) (by kernel_rfl) (by kernel_rfl) (fun _ _ _ h => h) (Or.inr ⟨?hw20128, rfl⟩) (by assumption) ?rest20128
        case hi20128 => (simp only [List.getElem?_toArray, List.getElem?_cons_zero, List.getElem?_cons_succ]; rfl)
        case hw20128 => rfl
        simp only [Act.put, List.setIfInBounds_toArray, List.set_cons_zero, List.set_cons_succ]
        refine wpAnyH_take (i := 17) (oi := ?oi20129) (v := undef) ?hi20129 (by kernel_rfl) (by kernel_rfl) (by kernel_rfl) (fun _ _ _ h => h) (Or.inr ⟨?hw20129, rfl⟩) (by assumption) ?rest20129
        case hi20129 => (simp only [List.getElem?_toArray, List.getElem?_cons_zero, List.getElem?_cons_succ]; rfl)
        case hw20129 => rfl
        simp only [Act.put, List.setIfInBounds_toArray, List.set_cons_zero, List.set_cons_succ]
        refine wpAnyH_take (i := 18) (oi := ?oi20130) (v := undef) ?hi20130 (by kernel_rfl) (by kernel_rfl) (by kernel_rfl) (fun _ _ _ h => h) (Or.inr ⟨?hw20130, rfl⟩) (by assumption) ?rest20130
        case hi20130 => (simp only [List.getElem?_toArray, List.getElem?_cons_zero, List.getElem?_cons_succ]; rfl)
        case hw20130 => rfl
        simp only [Act.put, List.setIfInBounds_toArray, List.set_cons_zero, List.set_cons_succ]
        refine wpAnyH_take (i := 19) (oi := ?oi20131) (v := ?v20131) ?hi20131 (by kernel_rfl) (by kernel_rfl) (by kernel_rfl) (fun _ _ _ h => h) (Or.inl ⟨?hw20131, ?hy20131⟩) (by assumption) ?rest20131
        case hi20131 => (simp only [List.getElem?_toArray, List.getElem?_cons_zero, List.getElem?_cons_succ]; rfl)
        case hw20131 => rfl
        case hy20131 => first | (intro wx hSw; obtain ⟨s1_, s2_⟩ := hSw; go_simp; done) | (intro wx hSw; obtain ⟨s1_, s2_⟩ := hSw; go_simp; with_reducible rfl)
        simp only [Act.put, List.setIfInBounds_toArray, List.set_cons_zero, List.set_cons_succ]
        refine wpAnyH_take (i := 20) (oi := ?oi20132) (v := ?v20132) ?hi20132 (by kernel_rfl) (by kernel_rfl) (by kernel_rfl) (fun _ _ _ h => h) (Or.inl ⟨?hw20132, ?hy20132⟩) (by assumption) ?rest20132
        case hi20132 => (simp only [List.getElem?_toArray, List.getElem?_cons_zero, List.getElem?_cons_succ]; rfl)
        case hw20132 => rfl
        case hy20132 => first | (intro wx hSw; obtain ⟨s1_, s2_⟩ := hSw; go_simp; done) | (intro wx hSw; obtain ⟨s1_, s2_⟩ := hSw; go_simp; with_reducible rfl)
        simp only [Act.put, List.setIfInBounds_toArray, List.set_cons_zero, List.set_cons_succ]
        refine wpAnyH_done (by kernel_rfl) ?_ _
        refine NoPanic.normal ?_
        refine hrest _ _ ?_
        have H3 := hide ((unhide H2).call (below_drew X))
        have HB3 := hide ((unhide HB2).trans ((below_drew X).mono (unhide HB2).size))
        have HM3 := hide ((unhide HM2).below (below_drew X))
        generalize hY : X.drew = Y at H3 HB3 HM3 ⊢
        clear hY m4 m5
        have d1 : Y.cell? ⟨W.heap.size, 1, none⟩ = some (.int .i64 (fr : Int)) := (unhide HM3).cell 1
        go_wp2_with (go_at_call 68; refine (unhide SA _ _ _ (unhide H3)).mono ?_; rintro e W4 ⟨⟨v, rfl⟩, sv', hs, hK⟩)
        go_end0
        exact ⟨⟨_, rfl⟩, St.sent1 (W := Y) hs ((Keep.call _ (unhide HB3)).trans hK)⟩
  · skip
    rw [vote_no (by unfold grants; exact decide_eq_false fun e => ht e.1)]
    have ht1 : ((tm : Int) == (n.term : Int)) = false := by rw [beq_eq_false_iff_ne]; omega
    have ht2 : ¬ (tm : Int) = (n.term : Int) := by omega
    go_enter Try.func53, Try.ntmps53
    go_wp2_with (first
      | (go_at_call 52; refine (unhide LA _ (unhide HB1)).mono ?_; rintro e w' ⟨rfl, hW⟩; replace hW := hW.symm; subst hW)
      | (go_at_call 66; refine (unhide TO).mono ?_; rintro e w' ⟨rfl, hW⟩; replace hW := hW.symm; subst hW))
    rename_i hrest
    refine wp_region_noPanic ?_
    refine wp_region_held_drew (S := (fun w' => w'.cell? ⟨b, 1, none⟩ = some (.int .i64 (n.term : Int)) ∧ w'.cell? ⟨W.heap.size, 3, none⟩ = some (.int .i64 (tm : Int)))) (by kernel_rfl) (⟨c1, m3⟩) (fun hHeld => ?_)
    refine wpAnyH_take (i := 0) (oi := ?oi20154) (v := ?v20154) ?hi20154 (by kernel_rfl) (by kernel_rfl) (by kernel_rfl) (fun _ _ _ h => h) (Or.inl ⟨?hw20154, ?hy20154⟩) (by assumption) ?rest20154
    case hi20154 => (simp only [List.getElem?_toArray, List.getElem?_cons_zero]; rfl)
    case hw20154 => rfl
    case hy20154 => first | (intro wx hSw; obtain ⟨s1_, s2_⟩ := hSw; go_simp; done) | (intro wx hSw; obtain ⟨s1_, s2_⟩ := hSw; go_simp; with_reducible rfl)
    simp only [Act.put, List.setIfInBounds_toArray, List.set_cons_zero, List.set_cons_succ]
    refine wpAnyH_take (i := 1) (oi := ?oi20155) (v := ?v20155) ?hi20155 (by kernel_rfl) (by kernel_rfl) (by kernel_rfl) (fun _ _ _ h => h) (Or.inl ⟨?hw20155, ?hy20155⟩) (by assumption) ?rest20155
    case hi20155 => (simp only [List.getElem?_toArray, List.getElem?_cons_zero, List.getElem?_cons_succ]; rfl)
    case hw20155 => rfl
    case hy20155 => first | (intro wx hSw; obtain ⟨s1_, s2_⟩ := hSw; go_simp; done) | (intro wx hSw; obtain ⟨s1_, s2_⟩ := hSw; go_simp; with_reducible rfl)
    simp only [Act.put, List.setIfInBounds_toArray, List.set_cons_zero, List.set_cons_succ]
    refine wpAnyH_take (i := 2) (oi := ?oi20156) (v := ?v20156) ?hi20156 (by kernel_rfl) (by kernel_rfl) (by kernel_rfl) (fun _ _ _ h => h) (Or.inl ⟨?hw20156, ?hy20156⟩) (by assumption) ?rest20156
    case hi20156 => (simp only [List.getElem?_toArray, List.getElem?_cons_zero, List.getElem?_cons_succ]; rfl)
    case hw20156 => rfl
    case hy20156 => first | (intro wx hSw; obtain ⟨s1_, s2_⟩ := hSw; go_simp; done) | (intro wx hSw; obtain ⟨s1_, s2_⟩ := hSw; go_simp; with_reducible rfl)
    simp only [Act.put, List.setIfInBounds_toArray, List.set_cons_zero, List.set_cons_succ]
    refine wpAnyH_take (i := 3) (oi := ?oi20157) (v := ?v20157) ?hi20157 (by kernel_rfl) (by kernel_rfl) (by kernel_rfl) (fun _ _ _ h => h) (Or.inl ⟨?hw20157, ?hy20157⟩) (by assumption) ?rest20157
    case hi20157 => (simp only [List.getElem?_toArray, List.getElem?_cons_zero, List.getElem?_cons_succ]; rfl)
    case hw20157 => rfl
    case hy20157 => first | (intro wx hSw; obtain ⟨s1_, s2_⟩ := hSw; go_simp; done) | (intro wx hSw; obtain ⟨s1_, s2_⟩ := hSw; go_simp; with_reducible rfl)
    simp only [Act.put, List.setIfInBounds_toArray, List.set_cons_zero, List.set_cons_succ]
    refine wpAnyH_take (i := 4) (oi := ?oi20158) (v := ?v20158) ?hi20158 (by kernel_rfl) (by kernel_rfl) (by kernel_rfl) (fun _ _ _ h => h) (Or.inl ⟨?hw20158, ?hy20158⟩) (by assumption) ?rest20158
    case hi20158 => (simp only [List.getElem?_toArray, List.getElem?_cons_zero, List.getElem?_cons_succ]; rfl)
    case hw20158 => rfl
    case hy20158 => first | (intro wx hSw; obtain ⟨s1_, s2_⟩ := hSw; go_simp; done) | (intro wx hSw; obtain ⟨s1_, s2_⟩ := hSw; go_simp; with_reducible rfl)
    simp only [Act.put, List.setIfInBounds_toArray, List.set_cons_zero, List.set_cons_succ]
    refine wpAnyH_take (i := 5) (oi := ?oi20159) (v := ?v20159) ?hi20159 (by kernel_rfl) (by kernel_rfl) (by kernel_rfl) (fun _ _ _ h => h) (Or.inl ⟨?hw20159, ?hy20159⟩) (by assumption) ?rest20159
    case hi20159 => (simp only [List.getElem?_toArray, List.getElem?_cons_zero, List.getElem?_cons_succ]; rfl)
    case hw20159 => rfl
    case hy20159 => first | (intro wx hSw; obtain ⟨s1_, s2_⟩ := hSw; go_simp; done) | (intro wx hSw; obtain ⟨s1_, s2_⟩ := hSw; go_simp; with_reducible rfl)
    simp only [Act.put, List.setIfInBounds_toArray, List.set_cons_zero, List.set_cons_succ]
    refine wpAnyH_take (i := 6) (oi := ?oi20160) (v := ?v20160) ?hi20160 (by kernel_rfl) (by kernel_rfl) (by kernel_rfl) (fun _ _ _ h => h) (Or.inl ⟨?hw20160, ?hy20160⟩) (by assumption) ?rest20160
    case hi20160 => (simp only [List.getElem?_toArray, List.getElem?_cons_zero, List.getElem?_cons_succ]; rfl)
    case hw20160 => rfl
    case hy20160 => first | (intro wx hSw; obtain ⟨s1_, s2_⟩ := hSw; go_simp; done) | (intro wx hSw; obtain ⟨s1_, s2_⟩ := hSw; go_simp; with_reducible rfl)
    simp only [Act.put, List.setIfInBounds_toArray, List.set_cons_zero, List.set_cons_succ]
    refine wpAnyH_take (i := 7) (oi := ?oi20161) (v := ?v20161) ?hi20161 (by kernel_rfl) (by kernel_rfl) (by kernel_rfl) (fun _ _ _ h => h) (Or.inl ⟨?hw20161, ?hy20161⟩) (by assumption) ?rest20161
    case hi20161 => (simp only [List.getElem?_toArray, List.getElem?_cons_zero, List.getElem?_cons_succ]; rfl)
    case hw20161 => rfl
    case hy20161 => first | (intro wx hSw; obtain ⟨s1_, s2_⟩ := hSw; go_simp; done) | (intro wx hSw; obtain ⟨s1_, s2_⟩ := hSw; go_simp; with_reducible rfl)
    simp only [Act.put, List.setIfInBounds_toArray, List.set_cons_zero, List.set_cons_succ]
    refine wpAnyH_take (i := 8) (oi := ?oi20162) (v := ?v20162) ?hi20162 (by kernel_rfl) (by kernel_rfl) (by kernel_rfl) (fun _ _ _ h => h) (Or.inl ⟨?hw20162, ?hy20162⟩) (by assumption) ?rest20162
    case hi20162 => (simp only [List.getElem?_toArray, List.getElem?_cons_zero, List.getElem?_cons_succ]; rfl)
    case hw20162 => rfl
    case hy20162 => first | (intro wx hSw; obtain ⟨s1_, s2_⟩ := hSw; go_simp; done) | (intro wx hSw; obtain ⟨s1_, s2_⟩ := hSw; go_simp; with_reducible rfl)
    simp only [Act.put, List.setIfInBounds_toArray, List.set_cons_zero, List.set_cons_succ]
    refine wpAnyH_take (i := 9) (oi := ?oi20163) (v := undef) ?hi20163 (by kernel_rfl) (by kernel_rfl) (by kernel_rfl) (fun _ _ _ h => h) (Or.inr ⟨?hw20163, rfl⟩) (by assumption) ?rest20163
    case hi20163 => (simp only [List.getElem?_toArray, List.getElem?_cons_zero, List.getElem?_cons_succ]; rfl)
    case hw20163 => rfl
    simp only [Act.put, List.setIfInBounds_toArray, List.set_cons_zero, List.set_cons_succ]
    refine wpAnyH_take (i := 10) (oi := ?oi20164) (v := undef) ?hi20164 (by kernel_rfl) (by kernel_rfl) (by kernel_rfl) (fun _ _ _ h => h) (Or.inr ⟨?hw20164, rfl⟩) (by assumption) ?rest20164
    case hi20164 => (simp only [List.getElem?_toArray, List.getElem?_cons_zero, List.getElem?_cons_succ]; rfl)
    case hw20164 => rfl
    simp only [Act.put, List.setIfInBounds_toArray, List.set_cons_zero, List.set_cons_succ]
    refine wpAnyH_take (i := 11) (oi := ?oi20165) (v := undef) ?hi20165 (by kernel_rfl) (by kernel_rfl) (by kernel_rfl) (fun _ _ _ h => h) (Or.inr ⟨?hw20165, rfl⟩) (by assumption) ?rest20165
    case hi20165 => (simp only [List.getElem?_toArray, List.getElem?_cons_zero, List.getElem?_cons_succ]; rfl)
    case hw20165 => rfl
    simp only [Act.put, List.setIfInBounds_toArray, List.set_cons_zero, List.set_cons_succ]
    refine wpAnyH_take (i := 12) (oi := ?oi20166) (v := undef) ?hi20166 (by kernel_rfl) (by kernel_rfl) (by kernel_rfl) (fun _ _ _ h => h) (Or.inr ⟨?hw20166, rfl⟩) (by assumption) ?rest20166
    case hi20166 => (simp only [List.getElem?_toArray, List.getElem?_cons_zero, List.getElem?_cons_succ]; rfl)
    case hw20166 => rfl
    simp only [Act.put, List.setIfInBounds_toArray, List.set_cons_zero, List.set_cons_succ]
    refine wpAnyH_take (i := 13) (oi := ?oi20167) (v := undef) ?hi20167 (by kernel_rfl) (by kernel_rfl) (by kernel_rfl) (fun _ _ _ h => h) (Or.inr ⟨?hw20167, rfl⟩) (by assumption) ?rest20167
    case hi20167 => (simp only [List.getElem?_toArray, List.getElem?_cons_zero, List.getElem?_cons_succ]; rfl)
    case hw20167 => rfl
    simp only [Act.put, List.setIfInBounds_toArray, List.set_cons_zero, List.set_cons_succ]
    refine wpAnyH_take (i := 14) (oi := ?oi20168) (v := undef) ?hi20168 (by kernel_rfl) (by kernel_rfl) (by kernel_rfl) (fun _ _ _ h => h) (Or.inr ⟨?hw20168, rfl⟩) (by assumption) ?rest20168
    case hi20168 => (simp only [List.getElem?_toArray, List.getElem?_cons_zero, List.getElem?_cons_succ]; rfl)
    case hw20168 => rfl
    simp only [Act.put, List.setIfInBounds_toArray, List.set_cons_zero, List.set_cons_succ]
    refine wpAnyH_take (i := 15) (oi := ?oi20169) (v := undef) ?hi20169 (by kernel_rfl) (by kernel_rfl) (by kernel_rfl) (fun _ _ _ h => h) (Or.inr ⟨?hw20169, rfl⟩) (by assumption) ?rest20169
    case hi20169 => (simp only [List.getElem?_toArray, List.getElem?_cons_zero, List.getElem?_cons_succ]; rfl)
    case hw20169 => rfl
    simp only [Act.put, List.setIfInBounds_toArray, List.set_cons_zero, List.set_cons_succ]
    refine wpAnyH_take (i := 16) (oi := ?oi20170) (v := undef) ?hi20170 (by kernel_rfl) (by kernel_rfl) (by kernel_rfl) (fun _ _ _ h => h) (Or.inr ⟨?hw20170, rfl⟩) (by assumption) ?rest20170
    case hi20170 => (simp only [List.getElem?_toArray, List.getElem?_cons_zero, List.getElem?_cons_succ]; rfl)
    case hw20170 => rfl
    simp only [Act.put, List.setIfInBounds_toArray, List.set_cons_zero, List.set_cons_succ]
    refine wpAnyH_take (i := 17) (oi := ?oi20171) (v := undef) ?hi20171 (by kernel_rfl) (by kernel_rfl) (by kernel_rfl) (fun _ _ _ h => h) (Or.inr ⟨?hw20171, rfl⟩) (by assumption) ?rest20171
    case hi20171 => (simp only [List.getElem?_toArray, List.getElem?_cons_zero, List.getElem?_cons_succ]; rfl)
    case hw20171 => rfl
    simp only [Act.put, List.setIfInBounds_toArray, List.set_cons_zero, List.set_cons_succ]
    refine wpAnyH_take (i := 18) (oi := ?oi20172) (v := undef) ?hi20172 (by kernel_rfl) (by kernel_rfl) (by kernel_rfl) (fun _ _ _ h => h) (Or.inr ⟨?hw20172, rfl⟩) (by assumption) ?rest20172
    case hi20172 => (simp only [List.getElem?_toArray, List.getElem?_cons_zero, List.getElem?_cons_succ]; rfl)
    case hw20172 => rfl
    simp only [Act.put, List.setIfInBounds_toArray, List.set_cons_zero, List.set_cons_succ]
    refine wpAnyH_take (i := 19) (oi := ?oi20173) (v := undef) ?hi20173 (by kernel_rfl) (by kernel_rfl) (by kernel_rfl) (fun _ _ _ h => h) (Or.inr ⟨?hw20173, rfl⟩) (by assumption) ?rest20173
    case hi20173 => (simp only [List.getElem?_toArray, List.getElem?_cons_zero, List.getElem?_cons_succ]; rfl)
    case hw20173 => rfl
    simp only [Act.put, List.setIfInBounds_toArray, List.set_cons_zero, List.set_cons_succ]
    refine wpAnyH_take (i := 20) (oi := ?oi20174) (v := undef) ?hi20174 (by kernel_rfl) (by kernel_rfl) (by kernel_rfl) (fun _ _ _ h => h) (Or.inr ⟨?hw20174, rfl⟩) (by assumption) ?rest20174
    case hi20174 => (simp only [List.getElem?_toArray, List.getElem?_cons_zero, List.getElem?_cons_succ]; rfl)
    case hw20174 => rfl
    simp only [Act.put, List.setIfInBounds_toArray, List.set_cons_zero, List.set_cons_succ]
    refine wpAnyH_take (i := 21) (oi := ?oi20175) (v := undef) ?hi20175 (by kernel_rfl) (by kernel_rfl) (by kernel_rfl) (fun _ _ _ h => h) (Or.inr ⟨?hw20175, rfl⟩) (by assumption) ?rest20175
    case hi20175 => (simp only [List.getElem?_toArray, List.getElem?_cons_zero, List.getElem?_cons_succ]; rfl)
    case hw20175 => rfl
    simp only [Act.put, List.setIfInBounds_toArray, List.set_cons_zero, List.set_cons_succ]
    refine wpAnyH_take (i := 22) (oi := ?oi20176) (v := undef) ?hi20176 (by kernel_rfl) (by kernel_rfl) (by kernel_rfl) (fun _ _ _ h => h) (Or.inr ⟨?hw20176, rfl⟩) (by assumption) ?rest20176
    case hi20176 => (simp only [List.getElem?_toArray, List.getElem?_cons_zero, List.getElem?_cons_succ]; rfl)
    case hw20176 => rfl
    simp only [Act.put, List.setIfInBounds_toArray, List.set_cons_zero, List.set_cons_succ]
    refine wpAnyH_take (i := 23) (oi := ?oi20177) (v := undef) ?hi20177 (by kernel_rfl) (by kernel_rfl) (by kernel_rfl) (fun _ _ _ h => h) (Or.inr ⟨?hw20177, rfl⟩) (by assumption) ?rest20177
    case hi20177 => (simp only [List.getElem?_toArray, List.getElem?_cons_zero, List.getElem?_cons_succ]; rfl)
    case hw20177 => rfl
    simp only [Act.put, List.setIfInBounds_toArray, List.set_cons_zero, List.set_cons_succ]
    refine wpAnyH_take (i := 24) (oi := ?oi20178) (v := undef) ?hi20178 (by kernel_rfl) (by kernel_rfl) (by kernel_rfl) (fun _ _ _ h => h) (Or.inr ⟨?hw20178, rfl⟩) (by assumption) ?rest20178
    case hi20178 => (simp only [List.getElem?_toArray, List.getElem?_cons_zero, List.getElem?_cons_succ]; rfl)
    case hw20178 => rfl
    simp only [Act.put, List.setIfInBounds_toArray, List.set_cons_zero, List.set_cons_succ]
    refine wpAnyH_take (i := 25) (oi := ?oi20179) (v := ?v20179) ?hi20179 (by kernel_rfl) (by kernel_rfl) (by kernel_rfl) (fun _ _ _ h => h) (Or.inl ⟨?hw20179, ?hy20179⟩) (by assumption) ?rest20179
    case hi20179 => (simp only [List.getElem?_toArray, List.getElem?_cons_zero, List.getElem?_cons_succ]; rfl)
    case hw20179 => rfl
    case hy20179 => first | (intro wx hSw; obtain ⟨s1_, s2_⟩ := hSw; go_simp; done) | (intro wx hSw; obtain ⟨s1_, s2_⟩ := hSw; go_simp; with_reducible rfl)
    simp only [Act.put, List.setIfInBounds_toArray, List.set_cons_zero, List.set_cons_succ]
    refine wpAnyH_take (i := 26) (oi := ?oi20180) (v := ?v20180) ?hi20180 (by kernel_rfl) (by kernel_rfl) (by kernel_rfl) (fun _ _ _ h => h) (Or.inl ⟨?hw20180, ?hy20180⟩) (by assumption) ?rest20180
    case hi20180 => (simp only [List.getElem?_toArray, List.getElem?_cons_zero, List.getElem?_cons_succ]; rfl)
    case hw20180 => rfl
    case hy20180 => first | (intro wx hSw; obtain ⟨s1_, s2_⟩ := hSw; go_simp; done) | (intro wx hSw; obtain ⟨s1_, s2_⟩ := hSw; go_simp; with_reducible rfl)
    simp only [Act.put, List.setIfInBounds_toArray, List.set_cons_zero, List.set_cons_succ]
    refine wpAnyH_done (by kernel_rfl) ?_ _
    refine NoPanic.normal ?_
    refine hrest _ _ ?_
    have H2 := hide ((unhide H1).call (below_drew _))
    have HB2 := hide ((unhide HB1).trans ((below_drew _).mono (unhide HB1).size))
    have HM2 := hide ((unhide HM1).below (below_drew _))
    generalize hX : (W.alloc (.cells #[nI kd, nI fr, nI to, nI tm, nI ix, nI lt, .bool ok, .slice p ents.length c, nI cm, nI fm] 37)).drew = X at H2 HB2 HM2 ⊢
    clear hX c1 c2 m1 m3 H1 HM1 TO
    have m5 : X.cell? ⟨W.heap.size, 5, none⟩ = some (.int .i64 (lt : Int)) := (unhide HM2).cell 5
    have m4 : X.cell? ⟨W.heap.size, 4, none⟩ = some (.int .i64 (ix : Int)) := (unhide HM2).cell 4
    go_wp2
    rename_i hrest
    refine wp_region_noPanic ?_
    refine wp_region_held_drew (S := (fun w' => w'.cell? ⟨W.heap.size, 5, none⟩ = some (.int .i64 (lt : Int)) ∧ w'.cell? ⟨W.heap.size, 4, none⟩ = some (.int .i64 (ix : Int)))) (by kernel_rfl) (⟨m5, m4⟩) (fun hHeld => ?_)
    refine wpAnyH_take (i := 0) (oi := ?oi20133) (v := ?v20133) ?hi20133 (by kernel_rfl) (by kernel_rfl) (by kernel_rfl) (fun _ _ _ h => h) (Or.inl ⟨?hw20133, ?hy20133⟩) (by assumption) ?rest20133
    case hi20133 => (simp only [List.getElem?_toArray, List.getElem?_cons_zero]; rfl)
    case hw20133 => rfl
    case hy20133 => first | (intro wx hSw; obtain ⟨s1_, s2_⟩ := hSw; go_simp; done) | (intro wx hSw; obtain ⟨s1_, s2_⟩ := hSw; go_simp; with_reducible rfl)
    simp only [Act.put, List.setIfInBounds_toArray, List.set_cons_zero, List.set_cons_succ]
    refine wpAnyH_take (i := 1) (oi := ?oi20134) (v := ?v20134) ?hi20134 (by kernel_rfl) (by kernel_rfl) (by kernel_rfl) (fun _ _ _ h => h) (Or.inl ⟨?hw20134, ?hy20134⟩) (by assumption) ?rest20134
    case hi20134 => (simp only [List.getElem?_toArray, List.getElem?_cons_zero, List.getElem?_cons_succ]; rfl)
    case hw20134 => rfl
    case hy20134 => first | (intro wx hSw; obtain ⟨s1_, s2_⟩ := hSw; go_simp; done) | (intro wx hSw; obtain ⟨s1_, s2_⟩ := hSw; go_simp; with_reducible rfl)
    simp only [Act.put, List.setIfInBounds_toArray, List.set_cons_zero, List.set_cons_succ]
    refine wpAnyH_take (i := 2) (oi := ?oi20135) (v := undef) ?hi20135 (by kernel_rfl) (by kernel_rfl) (by kernel_rfl) (fun _ _ _ h => h) (Or.inr ⟨?hw20135, rfl⟩) (by assumption) ?rest20135
    case hi20135 => (simp only [List.getElem?_toArray, List.getElem?_cons_zero, List.getElem?_cons_succ]; rfl)
    case hw20135 => rfl
    simp only [Act.put, List.setIfInBounds_toArray, List.set_cons_zero, List.set_cons_succ]
    refine wpAnyH_take (i := 3) (oi := ?oi20136) (v := undef) ?hi20136 (by kernel_rfl) (by kernel_rfl) (by kernel_rfl) (fun _ _ _ h => h) (Or.inr ⟨?hw20136, rfl⟩) (by assumption) ?rest20136
    case hi20136 => (simp only [List.getElem?_toArray, List.getElem?_cons_zero, List.getElem?_cons_succ]; rfl)
    case hw20136 => rfl
    simp only [Act.put, List.setIfInBounds_toArray, List.set_cons_zero, List.set_cons_succ]
    refine wpAnyH_take (i := 4) (oi := ?oi20137) (v := undef) ?hi20137 (by kernel_rfl) (by kernel_rfl) (by kernel_rfl) (fun _ _ _ h => h) (Or.inr ⟨?hw20137, rfl⟩) (by assumption) ?rest20137
    case hi20137 => (simp only [List.getElem?_toArray, List.getElem?_cons_zero, List.getElem?_cons_succ]; rfl)
    case hw20137 => rfl
    simp only [Act.put, List.setIfInBounds_toArray, List.set_cons_zero, List.set_cons_succ]
    refine wpAnyH_take (i := 5) (oi := ?oi20138) (v := undef) ?hi20138 (by kernel_rfl) (by kernel_rfl) (by kernel_rfl) (fun _ _ _ h => h) (Or.inr ⟨?hw20138, rfl⟩) (by assumption) ?rest20138
    case hi20138 => (simp only [List.getElem?_toArray, List.getElem?_cons_zero, List.getElem?_cons_succ]; rfl)
    case hw20138 => rfl
    simp only [Act.put, List.setIfInBounds_toArray, List.set_cons_zero, List.set_cons_succ]
    refine wpAnyH_take (i := 6) (oi := ?oi20139) (v := undef) ?hi20139 (by kernel_rfl) (by kernel_rfl) (by kernel_rfl) (fun _ _ _ h => h) (Or.inr ⟨?hw20139, rfl⟩) (by assumption) ?rest20139
    case hi20139 => (simp only [List.getElem?_toArray, List.getElem?_cons_zero, List.getElem?_cons_succ]; rfl)
    case hw20139 => rfl
    simp only [Act.put, List.setIfInBounds_toArray, List.set_cons_zero, List.set_cons_succ]
    refine wpAnyH_take (i := 7) (oi := ?oi20140) (v := undef) ?hi20140 (by kernel_rfl) (by kernel_rfl) (by kernel_rfl) (fun _ _ _ h => h) (Or.inr ⟨?hw20140, rfl⟩) (by assumption) ?rest20140
    case hi20140 => (simp only [List.getElem?_toArray, List.getElem?_cons_zero, List.getElem?_cons_succ]; rfl)
    case hw20140 => rfl
    simp only [Act.put, List.setIfInBounds_toArray, List.set_cons_zero, List.set_cons_succ]
    refine wpAnyH_take (i := 8) (oi := ?oi20141) (v := undef) ?hi20141 (by kernel_rfl) (by kernel_rfl) (by kernel_rfl) (fun _ _ _ h => h) (Or.inr ⟨?hw20141, rfl⟩) (by assumption) ?rest20141
    case hi20141 => (simp only [List.getElem?_toArray, List.getElem?_cons_zero, List.getElem?_cons_succ]; rfl)
    case hw20141 => rfl
    simp only [Act.put, List.setIfInBounds_toArray, List.set_cons_zero, List.set_cons_succ]
    refine wpAnyH_take (i := 9) (oi := ?oi20142) (v := undef) ?hi20142 (by kernel_rfl) (by kernel_rfl) (by kernel_rfl) (fun _ _ _ h => h) (Or.inr ⟨?hw20142, rfl⟩) (by assumption) ?rest20142
    case hi20142 => (simp only [List.getElem?_toArray, List.getElem?_cons_zero, List.getElem?_cons_succ]; rfl)
    case hw20142 => rfl
    simp only [Act.put, List.setIfInBounds_toArray, List.set_cons_zero, List.set_cons_succ]
    refine wpAnyH_take (i := 10) (oi := ?oi20143) (v := undef) ?hi20143 (by kernel_rfl) (by kernel_rfl) (by kernel_rfl) (fun _ _ _ h => h) (Or.inr ⟨?hw20143, rfl⟩) (by assumption) ?rest20143
    case hi20143 => (simp only [List.getElem?_toArray, List.getElem?_cons_zero, List.getElem?_cons_succ]; rfl)
    case hw20143 => rfl
    simp only [Act.put, List.setIfInBounds_toArray, List.set_cons_zero, List.set_cons_succ]
    refine wpAnyH_take (i := 11) (oi := ?oi20144) (v := undef) ?hi20144 (by kernel_rfl) (by kernel_rfl) (by kernel_rfl) (fun _ _ _ h => h) (Or.inr ⟨?hw20144, rfl⟩) (by assumption) ?rest20144
    case hi20144 => (simp only [List.getElem?_toArray, List.getElem?_cons_zero, List.getElem?_cons_succ]; rfl)
    case hw20144 => rfl
    simp only [Act.put, List.setIfInBounds_toArray, List.set_cons_zero, List.set_cons_succ]
    refine wpAnyH_take (i := 12) (oi := ?oi20145) (v := undef) ?hi20145 (by kernel_rfl) (by kernel_rfl) (by kernel_rfl) (fun _ _ _ h => h) (Or.inr ⟨?hw20145, rfl⟩) (by assumption) ?rest20145
    case hi20145 => (simp only [List.getElem?_toArray, List.getElem?_cons_zero, List.getElem?_cons_succ]; rfl)
    case hw20145 => rfl
    simp only [Act.put, List.setIfInBounds_toArray, List.set_cons_zero, List.set_cons_succ]
    refine wpAnyH_take (i := 13) (oi := ?oi20146) (v := undef) ?hi20146 (by kernel_rfl) (by kernel_rfl) (by kernel_rfl) (fun _ _ _ h => h) (Or.inr ⟨?hw20146, rfl⟩) (by assumption) ?rest20146
    case hi20146 => (simp only [List.getElem?_toArray, List.getElem?_cons_zero, List.getElem?_cons_succ]; rfl)
    case hw20146 => rfl
    simp only [Act.put, List.setIfInBounds_toArray, List.set_cons_zero, List.set_cons_succ]
    refine wpAnyH_take (i := 14) (oi := ?oi20147) (v := undef) ?hi20147 (by kernel_rfl) (by kernel_rfl) (by kernel_rfl) (fun _ _ _ h => h) (Or.inr ⟨?hw20147, rfl⟩) (by assumption) ?rest20147
    case hi20147 => (simp only [List.getElem?_toArray, List.getElem?_cons_zero, List.getElem?_cons_succ]; rfl)
    case hw20147 => rfl
    simp only [Act.put, List.setIfInBounds_toArray, List.set_cons_zero, List.set_cons_succ]
    refine wpAnyH_take (i := 15) (oi := ?oi20148) (v := undef) ?hi20148 (by kernel_rfl) (by kernel_rfl) (by kernel_rfl) (fun _ _ _ h => h) (Or.inr ⟨?hw20148, rfl⟩) (by assumption) ?rest20148
    case hi20148 => (simp only [List.getElem?_toArray, List.getElem?_cons_zero, List.getElem?_cons_succ]; rfl)
    case hw20148 => rfl
    simp only [Act.put, List.setIfInBounds_toArray, List.set_cons_zero, List.set_cons_succ]
    refine wpAnyH_take (i := 16) (oi := ?oi20149) (v := undef) ?hi20149 (by kernel_rfl) (by kernel_rfl) (by kernel_rfl) (fun _ _ _ h => h) (Or.inr ⟨?hw20149, rfl⟩) (by assumption) ?rest20149
    case hi20149 => (simp only [List.getElem?_toArray, List.getElem?_cons_zero, List.getElem?_cons_succ]; rfl)
    case hw20149 => rfl
    simp only [Act.put, List.setIfInBounds_toArray, List.set_cons_zero, List.set_cons_succ]
    refine wpAnyH_take (i := 17) (oi := ?oi20150) (v := undef) ?hi20150 (by kernel_rfl) (by kernel_rfl) (by kernel_rfl) (fun _ _ _ h => h) (Or.inr ⟨?hw20150, rfl⟩) (by assumption) ?rest20150
    case hi20150 => (simp only [List.getElem?_toArray, List.getElem?_cons_zero, List.getElem?_cons_succ]; rfl)
    case hw20150 => rfl
    simp only [Act.put, List.setIfInBounds_toArray, List.set_cons_zero, List.set_cons_succ]
    refine wpAnyH_take (i := 18) (oi := ?oi20151) (v := undef) ?hi20151 (by kernel_rfl) (by kernel_rfl) (by kernel_rfl) (fun _ _ _ h => h) (Or.inr ⟨?hw20151, rfl⟩) (by assumption) ?rest20151
    case hi20151 => (simp only [List.getElem?_toArray, List.getElem?_cons_zero, List.getElem?_cons_succ]; rfl)
    case hw20151 => rfl
    simp only [Act.put, List.setIfInBounds_toArray, List.set_cons_zero, List.set_cons_succ]
    refine wpAnyH_take (i := 19) (oi := ?oi20152) (v := ?v20152) ?hi20152 (by kernel_rfl) (by kernel_rfl) (by kernel_rfl) (fun _ _ _ h => h) (Or.inl ⟨?hw20152, ?hy20152⟩) (by assumption) ?rest20152
    case hi20152 => (simp only [List.getElem?_toArray, List.getElem?_cons_zero, List.getElem?_cons_succ]; rfl)
    case hw20152 => rfl
    case hy20152 => first | (intro wx hSw; obtain ⟨s1_, s2_⟩ := hSw; go_simp; done) | (intro wx hSw; obtain ⟨s1_, s2_⟩ := hSw; go_simp; with_reducible rfl)
    simp only [Act.put, List.setIfInBounds_toArray, List.set_cons_zero, List.set_cons_succ]
    refine wpAnyH_take (i := 20) (oi := ?oi20153) (v := ?v20153) ?hi20153 (by kernel_rfl) (by kernel_rfl) (by kernel_rfl) (fun _ _ _ h => h) (Or.inl ⟨?hw20153, ?hy20153⟩) (by assumption) ?rest20153
    case hi20153 => (simp only [List.getElem?_toArray, List.getElem?_cons_zero, List.getElem?_cons_succ]; rfl)
    case hw20153 => rfl
    case hy20153 => first | (intro wx hSw; obtain ⟨s1_, s2_⟩ := hSw; go_simp; done) | (intro wx hSw; obtain ⟨s1_, s2_⟩ := hSw; go_simp; with_reducible rfl)
    simp only [Act.put, List.setIfInBounds_toArray, List.set_cons_zero, List.set_cons_succ]
    refine wpAnyH_done (by kernel_rfl) ?_ _
    refine NoPanic.normal ?_
    refine hrest _ _ ?_
    have H3 := hide ((unhide H2).call (below_drew X))
    have HB3 := hide ((unhide HB2).trans ((below_drew X).mono (unhide HB2).size))
    have HM3 := hide ((unhide HM2).below (below_drew X))
    generalize hY : X.drew = Y at H3 HB3 HM3 ⊢
    clear hY m4 m5
    have d1 : Y.cell? ⟨W.heap.size, 1, none⟩ = some (.int .i64 (fr : Int)) := (unhide HM3).cell 1
    go_wp2_with (go_at_call 68; refine (unhide SA _ _ _ (unhide H3)).mono ?_; rintro e W4 ⟨⟨v, rfl⟩, sv', hs, hK⟩)
    go_end0
    exact ⟨⟨_, rfl⟩, St.sent1 (W := Y) hs ((Keep.call _ (unhide HB3)).trans hK)⟩
end Go.Proofs.Ytbojfiflemmgaaa
