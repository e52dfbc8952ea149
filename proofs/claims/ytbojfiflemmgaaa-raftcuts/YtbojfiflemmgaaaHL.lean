/-
  Package raft's follow, whole.
-/
import Derived.Test.YtbojfiflemmgaaaHK
namespace Go.Proofs.Ytbojfiflemmgaaa
open Go.RowKit
set_option linter.unusedSimpArgs false
set_option linter.unusedVariables false

set_option maxRecDepth 100000 in
set_option maxHeartbeats 8000000 in
theorem follow_mid0 {r0 r1 c2 r3 r4 R0 : Code} (R : Code) (hc : Try.f55.body = some (.seq r0 (.scope (.seq r1 (.seq c2 (.seq r3 (.seq r4 R0))))))) (J : Nat → Act → World → Prop) (b : Nat) (q : Q5) (sv : Value) (n : Nd) (S : List (Ms × Value)) (m : Ms) (p : Option Addr) (c : Nat) (W X2 : World) (u : Nat → Value) (h : Fol b q sv n S m (.slice p m.ents.length c) (backK n.log.length false n.form) W.heap.size (W.heap.size + 1) (Foot b q sv) W X2) (hid : n.id ≤ 5) (hcl : n.clock ≤ 1099511627776)
    (hJ : ∀ a Y, JFol b sv n S m (.slice p m.ents.length c) W.heap.size (W.heap.size + 1) (Foot b q sv) W 0 0 a Y → J 0 a Y)
    (FT : ∀ a X, a = ⟨#[ptr b 0, .agg (msA m (.slice p m.ents.length c)), undef, ptr W.heap.size 0, ptr (W.heap.size + 1) 0, a.tmps.getD 5 undef, a.tmps.getD 6 undef, a.tmps.getD 7 undef, a.tmps.getD 8 undef, a.tmps.getD 9 undef, a.tmps.getD 10 undef, a.tmps.getD 11 undef, a.tmps.getD 12 undef, a.tmps.getD 13 undef, a.tmps.getD 14 undef, a.tmps.getD 15 undef, a.tmps.getD 16 undef, a.tmps.getD 17 undef, a.tmps.getD 18 undef, a.tmps.getD 19 undef, a.tmps.getD 20 undef, a.tmps.getD 21 undef, a.tmps.getD 22 undef, a.tmps.getD 23 undef, a.tmps.getD 24 undef, a.tmps.getD 25 undef, a.tmps.getD 26 undef, a.tmps.getD 27 undef, a.tmps.getD 28 undef, a.tmps.getD 29 undef, a.tmps.getD 30 undef, a.tmps.getD 31 undef, a.tmps.getD 32 undef, a.tmps.getD 33 undef, a.tmps.getD 34 undef, a.tmps.getD 35 undef, a.tmps.getD 36 undef, a.tmps.getD 37 undef, a.tmps.getD 38 undef, a.tmps.getD 39 undef, a.tmps.getD 40 undef, a.tmps.getD 41 undef, a.tmps.getD 42 undef, a.tmps.getD 43 undef, a.tmps.getD 44 undef, a.tmps.getD 45 undef, a.tmps.getD 46 undef, a.tmps.getD 47 undef, a.tmps.getD 48 undef, a.tmps.getD 49 undef, a.tmps.getD 50 undef, a.tmps.getD 51 undef, a.tmps.getD 52 undef, a.tmps.getD 53 undef, a.tmps.getD 54 undef, a.tmps.getD 55 undef, a.tmps.getD 56 undef, a.tmps.getD 57 undef, a.tmps.getD 58 undef, a.tmps.getD 59 undef, a.tmps.getD 60 undef, a.tmps.getD 61 undef, a.tmps.getD 62 undef, a.tmps.getD 63 undef, a.tmps.getD 64 undef, a.tmps.getD 65 undef, a.tmps.getD 66 undef, a.tmps.getD 67 undef, a.tmps.getD 68 undef, a.tmps.getD 69 undef, a.tmps.getD 70 undef, a.tmps.getD 71 undef, a.tmps.getD 72 undef, a.tmps.getD 73 undef, a.tmps.getD 74 undef, a.tmps.getD 75 undef, a.tmps.getD 76 undef, a.tmps.getD 77 undef, a.tmps.getD 78 undef, a.tmps.getD 79 undef, a.tmps.getD 80 undef, a.tmps.getD 81 undef, a.tmps.getD 82 undef, a.tmps.getD 83 undef, a.tmps.getD 84 undef, a.tmps.getD 85 undef, a.tmps.getD 86 undef], []⟩ → Fol b q sv (followN n) S m (.slice p m.ents.length c) (backK n.last false n.form) W.heap.size (W.heap.size + 1) (Foot b q sv) W X → ¬ m.term < n.term → R.wp Try.prog (Exit.jumps J (bodyPost Try.prog Try.f55 fun e W' => (∃ v, e = .returned v) ∧ Done b (followM n m).1 S (followM n m).2 (Foot b q sv) W W')) a X) :
    (Code.seq c2 (.seq r3 (.seq r4 R))).wp Try.prog (Exit.jumps J (bodyPost Try.prog Try.f55 fun e W' => (∃ v, e = .returned v) ∧ Done b (followM n m).1 S (followM n m).2 (Foot b q sv) W W')) ⟨#[ptr b 0, .agg (msA m (.slice p m.ents.length c)), undef, ptr W.heap.size 0, ptr (W.heap.size + 1) 0, u 5, u 6, u 7, u 8, u 9, u 10, u 11, u 12, u 13, u 14, u 15, u 16, u 17, u 18, u 19, u 20, u 21, u 22, u 23, u 24, u 25, u 26, u 27, u 28, u 29, u 30, u 31, u 32, u 33, u 34, u 35, u 36, u 37, u 38, u 39, u 40, u 41, u 42, u 43, u 44, u 45, u 46, u 47, u 48, u 49, u 50, u 51, u 52, u 53, u 54, u 55, u 56, u 57, u 58, u 59, u 60, u 61, u 62, u 63, u 64, u 65, u 66, u 67, u 68, u 69, u 70, u 71, u 72, u 73, u 74, u 75, u 76, u 77, u 78, u 79, u 80, u 81, u 82, u 83, u 84, u 85, u 86], []⟩ X2 := by
  replace FT := hide FT
  unfold Try.f55 at hc
  cases hc
  have HF := hide h
  clear h
  have x1 := (unhide HF).st.c1
  have x3 := (unhide HF).mB.cell 3
  simp at x3
  have xl := (unhide HF).st.blk.lt
  have xm := (unhide HF).mB.lt
  have xk := (unhide HF).kB.lt
  by_cases ht : m.term < n.term
  · have a1 : (m.term : Int) < (n.term : Int) := by omega
    have a2 : decide ((m.term : Int) < (n.term : Int)) = true := decide_eq_true a1
    have HY := hide (follow_low ht)
    have HF2 := hide ((unhide HF).call (below_drew _))
    go_wp2
    go_region_held3 (fun w' => w'.cell? ⟨W.heap.size, 3, none⟩ = some (.int .i64 (m.term : Int)) ∧ w'.cell? ⟨b, 1, none⟩ = some (.int .i64 (n.term : Int))) (go_keep) (fail)
    go_wp2
    refine wp_goto (hJ _ _ (JFol.intro _ n q (backK n.log.length false n.form) rfl rfl (by rfl) (unhide HF2) ?_ rfl))
    rw [unhide HY]
    rfl
  · have a1 : ¬ (m.term : Int) < (n.term : Int) := by omega
    have a2 : decide ((m.term : Int) < (n.term : Int)) = false := decide_eq_false a1
    have HF2 := hide ((unhide HF).call (below_drew _))
    clear HF x1 x3
    go_wp2
    go_region_held3 (fun w' => w'.cell? ⟨W.heap.size, 3, none⟩ = some (.int .i64 (m.term : Int)) ∧ w'.cell? ⟨b, 1, none⟩ = some (.int .i64 (n.term : Int))) (first | exact ⟨(unhide HF2).mB.cell 3, (unhide HF2).st.c1⟩ | go_keep) (fail)
    generalize hY : X2.drew = Y at HF2 ⊢
    clear hY
    have y5 := (unhide HF2).st.c5
    have yz := (unhide HF2).st.fz
    have yl := (unhide HF2).st.blk.lt
    have HS3 := (unhide HF2).st.put { n with role := 0 } 5 (.int .i64 0) rfl rfl rfl rfl rfl rfl
    have HF3 := hide ((unhide HF2).node HS3 (Keep.set (St.fb b q sv)))
    have BA := hide (beginAnew_any b q sv { n with role := 0 } S _ HS3 hcl hid)
    clear HS3 HF2
    go_wp2_with (go_at_call 67; refine (unhide BA).mono ?_; rintro e W4 ⟨⟨v, rfl⟩, hs4, hK4⟩; have HF4 := hide ((unhide HF3).node hs4 hK4); clear hs4 hK4)

    exact unhide FT _ _ (by rfl) (unhide HF4) ht
set_option maxRecDepth 100000 in
theorem follow_mid {r0 r1 c2 r3 r4 R0 : Code} (R : Code) (hc : Try.f55.body = some (.seq r0 (.scope (.seq r1 (.seq c2 (.seq r3 (.seq r4 R0))))))) (J : Nat → Act → World → Prop) (b : Nat) (q : Q5) (sv : Value) (n : Nd) (S : List (Ms × Value)) (m : Ms) (p : Option Addr) (c : Nat) (W X2 : World) (a : Act) (ha : a = ⟨#[ptr b 0, .agg (msA m (.slice p m.ents.length c)), undef, ptr W.heap.size 0, ptr (W.heap.size + 1) 0, a.tmps.getD 5 undef, a.tmps.getD 6 undef, a.tmps.getD 7 undef, a.tmps.getD 8 undef, a.tmps.getD 9 undef, a.tmps.getD 10 undef, a.tmps.getD 11 undef, a.tmps.getD 12 undef, a.tmps.getD 13 undef, a.tmps.getD 14 undef, a.tmps.getD 15 undef, a.tmps.getD 16 undef, a.tmps.getD 17 undef, a.tmps.getD 18 undef, a.tmps.getD 19 undef, a.tmps.getD 20 undef, a.tmps.getD 21 undef, a.tmps.getD 22 undef, a.tmps.getD 23 undef, a.tmps.getD 24 undef, a.tmps.getD 25 undef, a.tmps.getD 26 undef, a.tmps.getD 27 undef, a.tmps.getD 28 undef, a.tmps.getD 29 undef, a.tmps.getD 30 undef, a.tmps.getD 31 undef, a.tmps.getD 32 undef, a.tmps.getD 33 undef, a.tmps.getD 34 undef, a.tmps.getD 35 undef, a.tmps.getD 36 undef, a.tmps.getD 37 undef, a.tmps.getD 38 undef, a.tmps.getD 39 undef, a.tmps.getD 40 undef, a.tmps.getD 41 undef, a.tmps.getD 42 undef, a.tmps.getD 43 undef, a.tmps.getD 44 undef, a.tmps.getD 45 undef, a.tmps.getD 46 undef, a.tmps.getD 47 undef, a.tmps.getD 48 undef, a.tmps.getD 49 undef, a.tmps.getD 50 undef, a.tmps.getD 51 undef, a.tmps.getD 52 undef, a.tmps.getD 53 undef, a.tmps.getD 54 undef, a.tmps.getD 55 undef, a.tmps.getD 56 undef, a.tmps.getD 57 undef, a.tmps.getD 58 undef, a.tmps.getD 59 undef, a.tmps.getD 60 undef, a.tmps.getD 61 undef, a.tmps.getD 62 undef, a.tmps.getD 63 undef, a.tmps.getD 64 undef, a.tmps.getD 65 undef, a.tmps.getD 66 undef, a.tmps.getD 67 undef, a.tmps.getD 68 undef, a.tmps.getD 69 undef, a.tmps.getD 70 undef, a.tmps.getD 71 undef, a.tmps.getD 72 undef, a.tmps.getD 73 undef, a.tmps.getD 74 undef, a.tmps.getD 75 undef, a.tmps.getD 76 undef, a.tmps.getD 77 undef, a.tmps.getD 78 undef, a.tmps.getD 79 undef, a.tmps.getD 80 undef, a.tmps.getD 81 undef, a.tmps.getD 82 undef, a.tmps.getD 83 undef, a.tmps.getD 84 undef, a.tmps.getD 85 undef, a.tmps.getD 86 undef], []⟩) (h : Fol b q sv n S m (.slice p m.ents.length c) (backK n.log.length false n.form) W.heap.size (W.heap.size + 1) (Foot b q sv) W X2) (hid : n.id ≤ 5) (hcl : n.clock ≤ 1099511627776)
    (hJ : ∀ a Y, JFol b sv n S m (.slice p m.ents.length c) W.heap.size (W.heap.size + 1) (Foot b q sv) W 0 0 a Y → J 0 a Y)
    (FT : ∀ a X, a = ⟨#[ptr b 0, .agg (msA m (.slice p m.ents.length c)), undef, ptr W.heap.size 0, ptr (W.heap.size + 1) 0, a.tmps.getD 5 undef, a.tmps.getD 6 undef, a.tmps.getD 7 undef, a.tmps.getD 8 undef, a.tmps.getD 9 undef, a.tmps.getD 10 undef, a.tmps.getD 11 undef, a.tmps.getD 12 undef, a.tmps.getD 13 undef, a.tmps.getD 14 undef, a.tmps.getD 15 undef, a.tmps.getD 16 undef, a.tmps.getD 17 undef, a.tmps.getD 18 undef, a.tmps.getD 19 undef, a.tmps.getD 20 undef, a.tmps.getD 21 undef, a.tmps.getD 22 undef, a.tmps.getD 23 undef, a.tmps.getD 24 undef, a.tmps.getD 25 undef, a.tmps.getD 26 undef, a.tmps.getD 27 undef, a.tmps.getD 28 undef, a.tmps.getD 29 undef, a.tmps.getD 30 undef, a.tmps.getD 31 undef, a.tmps.getD 32 undef, a.tmps.getD 33 undef, a.tmps.getD 34 undef, a.tmps.getD 35 undef, a.tmps.getD 36 undef, a.tmps.getD 37 undef, a.tmps.getD 38 undef, a.tmps.getD 39 undef, a.tmps.getD 40 undef, a.tmps.getD 41 undef, a.tmps.getD 42 undef, a.tmps.getD 43 undef, a.tmps.getD 44 undef, a.tmps.getD 45 undef, a.tmps.getD 46 undef, a.tmps.getD 47 undef, a.tmps.getD 48 undef, a.tmps.getD 49 undef, a.tmps.getD 50 undef, a.tmps.getD 51 undef, a.tmps.getD 52 undef, a.tmps.getD 53 undef, a.tmps.getD 54 undef, a.tmps.getD 55 undef, a.tmps.getD 56 undef, a.tmps.getD 57 undef, a.tmps.getD 58 undef, a.tmps.getD 59 undef, a.tmps.getD 60 undef, a.tmps.getD 61 undef, a.tmps.getD 62 undef, a.tmps.getD 63 undef, a.tmps.getD 64 undef, a.tmps.getD 65 undef, a.tmps.getD 66 undef, a.tmps.getD 67 undef, a.tmps.getD 68 undef, a.tmps.getD 69 undef, a.tmps.getD 70 undef, a.tmps.getD 71 undef, a.tmps.getD 72 undef, a.tmps.getD 73 undef, a.tmps.getD 74 undef, a.tmps.getD 75 undef, a.tmps.getD 76 undef, a.tmps.getD 77 undef, a.tmps.getD 78 undef, a.tmps.getD 79 undef, a.tmps.getD 80 undef, a.tmps.getD 81 undef, a.tmps.getD 82 undef, a.tmps.getD 83 undef, a.tmps.getD 84 undef, a.tmps.getD 85 undef, a.tmps.getD 86 undef], []⟩ → Fol b q sv (followN n) S m (.slice p m.ents.length c) (backK n.last false n.form) W.heap.size (W.heap.size + 1) (Foot b q sv) W X → ¬ m.term < n.term → R.wp Try.prog (Exit.jumps J (bodyPost Try.prog Try.f55 fun e W' => (∃ v, e = .returned v) ∧ Done b (followM n m).1 S (followM n m).2 (Foot b q sv) W W')) a X) :
    (Code.seq c2 (.seq r3 (.seq r4 R))).wp Try.prog (Exit.jumps J (bodyPost Try.prog Try.f55 fun e W' => (∃ v, e = .returned v) ∧ Done b (followM n m).1 S (followM n m).2 (Foot b q sv) W W')) a X2 := by
  rw [ha]
  exact follow_mid0 R hc J b q sv n S m p c W X2 (fun i => a.tmps.getD i undef) h hid hcl hJ FT
set_option maxRecDepth 100000 in
set_option maxHeartbeats 8000000 in
theorem follow_front {r0 r1 c2 r3 r4 R0 : Code} (R : Code) (hc : Try.f55.body = some (.seq r0 (.scope (.seq r1 (.seq c2 (.seq r3 (.seq r4 R0))))))) (J : Nat → Act → World → Prop) (b : Nat) (q : Q5) (sv : Value) (n : Nd) (S : List (Ms × Value)) (m : Ms) (p : Option Addr) (c : Nat) (W : World) (h : St b q sv n S W) (hs : Sees 2 (.slice p m.ents.length c) m.ents.length (enC m.ents) W) (hf : ∀ k, Value.ownBlock (.slice p m.ents.length c) = some k → ¬ Foot b q sv k) (hid : n.id ≤ 5) (hcl : n.clock ≤ 1099511627776)
    (hJ : ∀ a Y, JFol b sv n S m (.slice p m.ents.length c) W.heap.size (W.heap.size + 1) (Foot b q sv) W 0 0 a Y → J 0 a Y)
    (FT : ∀ a X, a = ⟨#[ptr b 0, .agg (msA m (.slice p m.ents.length c)), undef, ptr W.heap.size 0, ptr (W.heap.size + 1) 0, a.tmps.getD 5 undef, a.tmps.getD 6 undef, a.tmps.getD 7 undef, a.tmps.getD 8 undef, a.tmps.getD 9 undef, a.tmps.getD 10 undef, a.tmps.getD 11 undef, a.tmps.getD 12 undef, a.tmps.getD 13 undef, a.tmps.getD 14 undef, a.tmps.getD 15 undef, a.tmps.getD 16 undef, a.tmps.getD 17 undef, a.tmps.getD 18 undef, a.tmps.getD 19 undef, a.tmps.getD 20 undef, a.tmps.getD 21 undef, a.tmps.getD 22 undef, a.tmps.getD 23 undef, a.tmps.getD 24 undef, a.tmps.getD 25 undef, a.tmps.getD 26 undef, a.tmps.getD 27 undef, a.tmps.getD 28 undef, a.tmps.getD 29 undef, a.tmps.getD 30 undef, a.tmps.getD 31 undef, a.tmps.getD 32 undef, a.tmps.getD 33 undef, a.tmps.getD 34 undef, a.tmps.getD 35 undef, a.tmps.getD 36 undef, a.tmps.getD 37 undef, a.tmps.getD 38 undef, a.tmps.getD 39 undef, a.tmps.getD 40 undef, a.tmps.getD 41 undef, a.tmps.getD 42 undef, a.tmps.getD 43 undef, a.tmps.getD 44 undef, a.tmps.getD 45 undef, a.tmps.getD 46 undef, a.tmps.getD 47 undef, a.tmps.getD 48 undef, a.tmps.getD 49 undef, a.tmps.getD 50 undef, a.tmps.getD 51 undef, a.tmps.getD 52 undef, a.tmps.getD 53 undef, a.tmps.getD 54 undef, a.tmps.getD 55 undef, a.tmps.getD 56 undef, a.tmps.getD 57 undef, a.tmps.getD 58 undef, a.tmps.getD 59 undef, a.tmps.getD 60 undef, a.tmps.getD 61 undef, a.tmps.getD 62 undef, a.tmps.getD 63 undef, a.tmps.getD 64 undef, a.tmps.getD 65 undef, a.tmps.getD 66 undef, a.tmps.getD 67 undef, a.tmps.getD 68 undef, a.tmps.getD 69 undef, a.tmps.getD 70 undef, a.tmps.getD 71 undef, a.tmps.getD 72 undef, a.tmps.getD 73 undef, a.tmps.getD 74 undef, a.tmps.getD 75 undef, a.tmps.getD 76 undef, a.tmps.getD 77 undef, a.tmps.getD 78 undef, a.tmps.getD 79 undef, a.tmps.getD 80 undef, a.tmps.getD 81 undef, a.tmps.getD 82 undef, a.tmps.getD 83 undef, a.tmps.getD 84 undef, a.tmps.getD 85 undef, a.tmps.getD 86 undef], []⟩ → Fol b q sv (followN n) S m (.slice p m.ents.length c) (backK n.last false n.form) W.heap.size (W.heap.size + 1) (Foot b q sv) W X → ¬ m.term < n.term → R.wp Try.prog (Exit.jumps J (bodyPost Try.prog Try.f55 fun e W' => (∃ v, e = .returned v) ∧ Done b (followM n m).1 S (followM n m).2 (Foot b q sv) W W')) a X) :
    (Code.seq r1 (.seq c2 (.seq r3 (.seq r4 R)))).wp Try.prog (Exit.jumps J (bodyPost Try.prog Try.f55 fun e W' => (∃ v, e = .returned v) ∧ Done b (followM n m).1 S (followM n m).2 (Foot b q sv) W W')) ⟨#[ptr b 0, .agg (msA m (.slice p m.ents.length c)), undef, ptr W.heap.size 0, undef, undef, undef, undef, undef, undef, undef, undef, undef, undef, undef, undef, undef, undef, undef, undef, undef, undef, undef, undef, undef, undef, undef, undef, undef, undef, undef, undef, undef, undef, undef, undef, undef, undef, undef, undef, undef, undef, undef, undef, undef, undef, undef, undef, undef, undef, undef, undef, undef, undef, undef, undef, undef, undef, undef, undef, undef, undef, undef, undef, undef, undef, undef, undef, undef, undef, undef, undef, undef, undef, undef, undef, undef, undef, undef, undef, undef, undef, undef, undef, undef, undef, undef], []⟩ (W.alloc (.cells (msA m (.slice p m.ents.length c)) 37)) := by
  replace FT := hide FT
  have hc0 := hc
  replace hc0 := hide hc0
  unfold Try.f55 at hc
  cases hc
  have H := hide h
  have HS := hide hs
  have HFR := hide hf
  have hl := h.blk.lt
  have hbne : b ≠ W.heap.size + 1 := by omega
  have HM := hide (Blk.new W (msA m (.slice p m.ents.length c)) 37)
  have H0 := h.call (below_new W (.cells (msA m (.slice p m.ents.length c)) 37))
  have c4 := H0.c4
  have LA := hide (fun Y (hb : Below (W.alloc (.cells (msA m (.slice p m.ents.length c)) 37)).heap.size (W.alloc (.cells (msA m (.slice p m.ents.length c)) 37)) Y) => last_any b q sv n S Y (H0.call hb))
  have HBA : Hid (Below W.heap.size W ((W.alloc (.cells (msA m (.slice p m.ents.length c)) 37)).drew.alloc (.cells #[.int .i64 0, .int .i64 0, .int .i64 0, .int .i64 0, .int .i64 0, .int .i64 0, .bool false, .slice none 0 0, .int .i64 0, .int .i64 0] 37))) := hide (Below.onto (Below.onto (below_new W _) (below_drew _)) (below_new _ _))
  have HMA : Hid (Blk W.heap.size (msA m (.slice p m.ents.length c)) 37 ((W.alloc (.cells (msA m (.slice p m.ents.length c)) 37)).drew.alloc (.cells #[.int .i64 0, .int .i64 0, .int .i64 0, .int .i64 0, .int .i64 0, .int .i64 0, .bool false, .slice none 0 0, .int .i64 0, .int .i64 0] 37))) := hide (((unhide HM).below (below_drew _)).below (below_new _ _))
  have HZ : Blk (W.heap.size + 1) #[.int .i64 0, .int .i64 0, .int .i64 0, .int .i64 0, .int .i64 0, .int .i64 0, .bool false, .slice none 0 0, .int .i64 0, .int .i64 0] 37 ((W.alloc (.cells (msA m (.slice p m.ents.length c)) 37)).drew.alloc (.cells #[.int .i64 0, .int .i64 0, .int .i64 0, .int .i64 0, .int .i64 0, .int .i64 0, .bool false, .slice none 0 0, .int .i64 0, .int .i64 0] 37)) := by
    have := Blk.new (W.alloc (.cells (msA m (.slice p m.ents.length c)) 37)).drew #[.int .i64 0, .int .i64 0, .int .i64 0, .int .i64 0, .int .i64 0, .int .i64 0, .bool false, .slice none 0 0, .int .i64 0, .int .i64 0] 37
    simp at this
    exact this
  clear h hs hf H0 HM
  go_wp2
  rename_i hrest
  refine wp_region_noPanic ?_
  refine wp_region_held_drew (S := (fun w' => w'.cell? ⟨b, 4, none⟩ = some (.int .i64 (n.form : Int)))) (by kernel_rfl) ((c4 : (W.alloc (.cells (msA m (.slice p m.ents.length c)) 37)).drew.cell? _ = _)) (fun hHeld => ?_)
  refine wpAnyH_take (i := 0) (oi := ?oi20001) (v := ?v20001) ?hi20001 (by kernel_rfl) (by kernel_rfl) (by kernel_rfl) (fun _ _ _ h => h) (Or.inl ⟨?hw20001, ?hy20001⟩) (by assumption) ?rest20001
  case hi20001 => (simp only [List.getElem?_toArray, List.getElem?_cons_zero]; rfl)
  case hw20001 => rfl
  case hy20001 => first | (intro wx hSw; go_simp; done) | (intro wx hSw; go_simp; with_reducible rfl)
  simp only [Act.put, List.setIfInBounds_toArray, List.set_cons_zero, List.set_cons_succ]
  refine wpAnyH_take (i := 2) (oi := ?oi20002) (v := ?v20002) ?hi20002 (by kernel_rfl) (by kernel_rfl) (by kernel_rfl) (fun _ _ _ h => h) (Or.inl ⟨?hw20002, ?hy20002⟩) (by assumption) ?rest20002
  case hi20002 => (simp only [List.getElem?_toArray, List.getElem?_cons_zero, List.getElem?_cons_succ]; rfl)
  case hw20002 => rfl
  case hy20002 => first | (intro wx hSw; go_simp; done) | (intro wx hSw; go_simp; with_reducible rfl)
  simp only [Act.put, List.setIfInBounds_toArray, List.set_cons_zero, List.set_cons_succ]
  refine wpAnyH_take (i := 3) (oi := ?oi20003) (v := ?v20003) ?hi20003 (by kernel_rfl) (by kernel_rfl) (by kernel_rfl) (fun _ _ _ h => h) (Or.inl ⟨?hw20003, ?hy20003⟩) (by assumption) ?rest20003
  case hi20003 => (simp only [List.getElem?_toArray, List.getElem?_cons_zero, List.getElem?_cons_succ]; rfl)
  case hw20003 => rfl
  case hy20003 => first | (intro wx hSw; go_simp; done) | (intro wx hSw; go_simp; with_reducible rfl)
  simp only [Act.put, List.setIfInBounds_toArray, List.set_cons_zero, List.set_cons_succ]
  refine wpAnyH_take (i := 4) (oi := ?oi20004) (v := ?v20004) ?hi20004 (by kernel_rfl) (by kernel_rfl) (by kernel_rfl) (fun _ _ _ h => h) (Or.inl ⟨?hw20004, ?hy20004⟩) (by assumption) ?rest20004
  case hi20004 => (simp only [List.getElem?_toArray, List.getElem?_cons_zero, List.getElem?_cons_succ]; rfl)
  case hw20004 => rfl
  case hy20004 => first | (intro wx hSw; go_simp; done) | (intro wx hSw; go_simp; with_reducible rfl)
  simp only [Act.put, List.setIfInBounds_toArray, List.set_cons_zero, List.set_cons_succ]
  refine wpAnyH_take (i := 5) (oi := ?oi20005) (v := ?v20005) ?hi20005 (by kernel_rfl) (by kernel_rfl) (by kernel_rfl) (fun _ _ _ h => h) (Or.inl ⟨?hw20005, ?hy20005⟩) (by assumption) ?rest20005
  case hi20005 => (simp only [List.getElem?_toArray, List.getElem?_cons_zero, List.getElem?_cons_succ]; rfl)
  case hw20005 => rfl
  case hy20005 => first | (intro wx hSw; go_simp; done) | (intro wx hSw; go_simp; with_reducible rfl)
  simp only [Act.put, List.setIfInBounds_toArray, List.set_cons_zero, List.set_cons_succ]
  refine wpAnyH_take (i := 6) (oi := ?oi20006) (v := ?v20006) ?hi20006 (by kernel_rfl) (by kernel_rfl) (by kernel_rfl) (fun _ _ _ h => h) (Or.inl ⟨?hw20006, ?hy20006⟩) (by assumption) ?rest20006
  case hi20006 => (simp only [List.getElem?_toArray, List.getElem?_cons_zero, List.getElem?_cons_succ]; rfl)
  case hw20006 => rfl
  case hy20006 => first | (intro wx hSw; go_simp; done) | (intro wx hSw; go_simp; with_reducible rfl)
  simp only [Act.put, List.setIfInBounds_toArray, List.set_cons_zero, List.set_cons_succ]
  refine wpAnyH_ready (rs := [1, 8]) (by kernel_rfl) (by simp) ?_
  refine AllReadyH.cons rfl (fun K20007 hK20007 => ?_) ?_
  · go_simp
    go_wp2_with (go_at_call 52; refine (unhide LA _ (by first | exact below_drew _ | exact (below_drew _).alloc (by simp) _)).mono ?_; rintro e0 w' ⟨rfl, rfl⟩)
    refine hK20007.out _ _ ?hs20007 (fun hHeld20007 => ?_)
    case hs20007 => exact hHeld
    clear hHeld
    have hHeld := hHeld20007; clear hHeld20007 hK20007 K20007
    refine wpAnyH_take (i := 7) (oi := ?oi20008) (v := ?v20008) ?hi20008 (by kernel_rfl) (by kernel_rfl) (by kernel_rfl) (fun _ _ _ h => h) (Or.inl ⟨?hw20008, ?hy20008⟩) (by assumption) ?rest20008
    case hi20008 => (simp only [List.getElem?_toArray, List.getElem?_cons_zero, List.getElem?_cons_succ]; rfl)
    case hw20008 => rfl
    case hy20008 => first | (intro wx hSw; go_simp; done) | (intro wx hSw; go_simp; with_reducible rfl)
    simp only [Act.put, List.setIfInBounds_toArray, List.set_cons_zero, List.set_cons_succ]
    refine wpAnyH_ready (rs := [8]) (by kernel_rfl) (by simp) ?_
    refine AllReadyH.cons rfl (fun K20009 hK20009 => ?_) AllReadyH.nil
    go_simp
    refine hK20009.out _ _ ?hs20009 (fun hHeld20009 => ?_)
    case hs20009 => exact (((unhide H).call (unhide HBA)).c4)
    clear hHeld
    have hHeld := hHeld20009; clear hHeld20009 hK20009 K20009
    refine wpAnyH_ready (rs := [9]) (by kernel_rfl) (by simp) ?_
    refine AllReadyH.cons rfl (fun K20010 hK20010 => ?_) AllReadyH.nil
    refine step_whole (by rfl) 37 _ _ (by rfl) (W.heap.size + 1) #[.int .i64 0, .int .i64 0, .int .i64 0, .int .i64 0, .int .i64 0, .int .i64 0, .bool false, .slice none 0 0, .int .i64 0, .int .i64 0] (msA (backK n.log.length false n.form) (.slice none 0 0)) _ _ HZ (by rfl) (by rfl) (by rfl) (by kernel_rfl) (by simp [Value.oneCell']) ?_; intro X2 hb_ hg_ hs_
    refine hK20010.out _ _ ?hs20010 (fun hHeld20010 => ?_)
    case hs20010 => exact ((((unhide H).call (unhide HBA)).blk.grown hg_ hbne).cell 4)
    clear hHeld
    have hHeld := hHeld20010; clear hHeld20010 hK20010 K20010
    refine wpAnyH_done (by kernel_rfl) ?_ _
    refine NoPanic.normal ?_
    refine hrest _ _ ?_
    have HB2 := hide (below_grown (unhide HBA) hg_ (by omega) (unhide HBA).size)
    have HM2 := (unhide HMA).grown hg_ (by omega)
    have HF := hide (show Fol b q sv n S m (.slice p m.ents.length c) (backK n.log.length false n.form) W.heap.size (W.heap.size + 1) (Foot b q sv) W X2 from
      ⟨(unhide H).call (unhide HB2), HM2, hb_, Keep.call _ (unhide HB2), fun x => by have := (unhide H).flt x; omega, fun x => by have := (unhide H).flt x; omega, by omega, by omega, (unhide HS).below (unhide HB2), fun j hj => ⟨unhide HFR j hj, by have := (unhide HS).lt hj; omega⟩, fun x hx j hj => by have := ((unhide H).sent.ents x hx).lt hj; omega⟩)
    exact follow_mid R (unhide hc0) J b q sv n S m p c W X2 _ (by rfl) (unhide HF) hid hcl hJ (unhide FT)
  refine AllReadyH.cons rfl (fun K20011 hK20011 => ?_) AllReadyH.nil
  go_simp
  refine hK20011.out _ _ ?hs20011 (fun hHeld20011 => ?_)
  case hs20011 => exact (((unhide H).call (unhide HBA)).c4)
  clear hHeld
  have hHeld := hHeld20011; clear hHeld20011 hK20011 K20011
  refine wpAnyH_ready (rs := [1]) (by kernel_rfl) (by simp) ?_
  refine AllReadyH.cons rfl (fun K20012 hK20012 => ?_) AllReadyH.nil
  go_simp
  go_wp2_with (go_at_call 52; refine (unhide LA _ (by first | exact below_drew _ | exact (below_drew _).alloc (by simp) _)).mono ?_; rintro e0 w' ⟨rfl, rfl⟩)
  refine hK20012.out _ _ ?hs20012 (fun hHeld20012 => ?_)
  case hs20012 => exact hHeld
  clear hHeld
  have hHeld := hHeld20012; clear hHeld20012 hK20012 K20012
  refine wpAnyH_take (i := 7) (oi := ?oi20013) (v := ?v20013) ?hi20013 (by kernel_rfl) (by kernel_rfl) (by kernel_rfl) (fun _ _ _ h => h) (Or.inl ⟨?hw20013, ?hy20013⟩) (by assumption) ?rest20013
  case hi20013 => (simp only [List.getElem?_toArray, List.getElem?_cons_zero, List.getElem?_cons_succ]; rfl)
  case hw20013 => rfl
  case hy20013 => first | (intro wx hSw; go_simp; done) | (intro wx hSw; go_simp; with_reducible rfl)
  simp only [Act.put, List.setIfInBounds_toArray, List.set_cons_zero, List.set_cons_succ]
  refine wpAnyH_ready (rs := [9]) (by kernel_rfl) (by simp) ?_
  refine AllReadyH.cons rfl (fun K20014 hK20014 => ?_) AllReadyH.nil
  refine step_whole (by rfl) 37 _ _ (by rfl) (W.heap.size + 1) #[.int .i64 0, .int .i64 0, .int .i64 0, .int .i64 0, .int .i64 0, .int .i64 0, .bool false, .slice none 0 0, .int .i64 0, .int .i64 0] (msA (backK n.log.length false n.form) (.slice none 0 0)) _ _ HZ (by rfl) (by rfl) (by rfl) (by kernel_rfl) (by simp [Value.oneCell']) ?_; intro X2 hb_ hg_ hs_
  refine hK20014.out _ _ ?hs20014 (fun hHeld20014 => ?_)
  case hs20014 => exact ((((unhide H).call (unhide HBA)).blk.grown hg_ hbne).cell 4)
  clear hHeld
  have hHeld := hHeld20014; clear hHeld20014 hK20014 K20014
  refine wpAnyH_done (by kernel_rfl) ?_ _
  refine NoPanic.normal ?_
  refine hrest _ _ ?_
  have HB2 := hide (below_grown (unhide HBA) hg_ (by omega) (unhide HBA).size)
  have HM2 := (unhide HMA).grown hg_ (by omega)
  have HF := hide (show Fol b q sv n S m (.slice p m.ents.length c) (backK n.log.length false n.form) W.heap.size (W.heap.size + 1) (Foot b q sv) W X2 from
    ⟨(unhide H).call (unhide HB2), HM2, hb_, Keep.call _ (unhide HB2), fun x => by have := (unhide H).flt x; omega, fun x => by have := (unhide H).flt x; omega, by omega, by omega, (unhide HS).below (unhide HB2), fun j hj => ⟨unhide HFR j hj, by have := (unhide HS).lt hj; omega⟩, fun x hx j hj => by have := ((unhide H).sent.ents x hx).lt hj; omega⟩)
  exact follow_mid R (unhide hc0) J b q sv n S m p c W X2 _ (by rfl) (unhide HF) hid hcl hJ (unhide FT)
set_option maxRecDepth 100000 in
set_option maxHeartbeats 4000000 in
theorem follow_any (b : Nat) (q : Q5) (sv : Value) (n : Nd) (S : List (Ms × Value)) (m : Ms) (p : Option Addr) (c : Nat) (W : World) (h : St b q sv n S W) (f : Fit n) (hs : Sees 2 (.slice p m.ents.length c) m.ents.length (enC m.ents) W) (hf : ∀ k, Value.ownBlock (.slice p m.ents.length c) = some k → ¬ Foot b q sv k) (he : m.ents.length ≤ 400000) (hd : Small m.ents) (hcm : m.commit ≤ 1099511627776) (hix : m.index ≤ 1099511627776) (hS : S.length ≤ 90000) :
    Calls Try.prog 55 #[ptr b 0, .agg (msA m (.slice p m.ents.length c))] W fun e W' => (∃ v, e = .returned v) ∧ Done b (followM n m).1 S (followM n m).2 (Foot b q sv) W W' := by
  have hid : n.id ≤ 5 := by have := f.id; have := f.size; omega
  go_enter Try.func55, Try.ntmps55
  go_wp2
  refine wp_scope_fall (JFol b sv n S m (.slice p m.ents.length c) W.heap.size (W.heap.size + 1) (Foot b q sv) W) ?first ?pass
  case first =>
    intro fall
    exact follow_front _ rfl _ b q sv n S m p c W h hs hf hid f.clock (fun a Y hj => ⟨0, hj⟩) (fun a X ha hF ht =>
      follow_fits _ rfl _ b q q sv n S m p c _ _ W X a ha (fun a X ha hF hfit hle => follow_took rfl _ b q q sv n S m p c _ _ W X a ha hF f ht hfit hle he hd hcm hS) (fun a Y hj => ⟨0, hj⟩) hF f ht he hd hcm hix hS)
  case pass =>
    rintro l g a wr fall ⟨rfl, rfl, n', q', k, u, rfl, hF, hm, hk⟩
    exact ⟨_, rfl, follow_end0 rfl _ b q q' sv n S m p c _ _ W wr u n' k (unhide hF) (unhide hm) hk hS⟩
end Go.Proofs.Ytbojfiflemmgaaa
