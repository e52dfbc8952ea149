/-
  What package eval's small functions over truths return; what a row has of a column.
-/
import Derived.Test.YtliefgkhpgigaaaEG
import Derived.Test.YtliefgkhpgigaaaEJ
namespace Go.Proofs.Ytliefgkhpgigaaa
open Go.RowKit
set_option linter.unusedSimpArgs false
set_option linter.unusedVariables false

def truI (p : Bool) : Int := if p then 1 else -1
def truV (v : V4) : Int := if v.1 == 0 then 0 else truI (v.2.1 == 1)
def valT (t : Int) : V4 := if t == 1 then (1, 1, 0, ⟨#[]⟩) else if t == -1 then (1, 0, 0, ⟨#[]⟩) else Z4
set_option maxHeartbeats 400000 in
theorem truthIf_any (p : Bool) (w : World) : Calls Try.prog 72 #[.bool p] w fun e w' => e = .returned (.int .i64 (truI p)) ∧ w' = w := by
  unfold truI
  cases p
  all_goals
    go_enter Try.func72, Try.ntmps72
    go_wp2
    go_ret
    exact ⟨rfl, rfl⟩
set_option maxHeartbeats 400000 in
theorem truthOf_any (v : V4) (w : World) : Calls Try.prog 52 #[.agg (vC v).toArray] w fun e w' => e = .returned (.int .i64 (truV v)) ∧ Below w.heap.size w w' := by
  have CT := hide (fun W => truthIf_any (v.2.1 == 1) W)
  unfold truV
  cases h : (v.1 == 0)
  · generalize truI (v.2.1 == 1) = ti at *
    go_enter Try.func52, Try.ntmps52
    go_wp2_with (go_at_call 72; refine (unhide CT _).mono ?_; rintro e W1 ⟨rfl, rfl⟩)
    go_ret
    exact ⟨rfl, (Below.refl _ w).alloc (Nat.le_refl _) _⟩
  · clear CT
    go_enter Try.func52, Try.ntmps52
    go_wp2
    go_ret
    exact ⟨rfl, (Below.refl _ w).alloc (Nat.le_refl _) _⟩
set_option maxHeartbeats 400000 in
theorem valueOfTruth_any (t : Int) (w : World) : Calls Try.prog 67 #[.int .i64 t] w fun e w' => e = .returned (.agg (vC (valT t)).toArray) ∧ Below w.heap.size w w' := by
  unfold valT
  cases h : (t == 1)
  · cases h2 : (t == -1)
    · go_enter Try.func67, Try.ntmps67
      go_wp2
      refine bodyPost_ret (v := .agg (vC Z4).toArray) (by simp [results, Try.results67, go_sem]) rfl ⟨rfl, (Below.refl _ w).alloc (Nat.le_refl _) _⟩
    · go_enter Try.func67, Try.ntmps67
      go_wp2
      refine bodyPost_ret (v := .agg (vC (1, 0, 0, ⟨#[]⟩)).toArray) (by simp [results, Try.results67, go_sem]) rfl ⟨rfl, (Below.refl _ w).alloc (Nat.le_refl _) _⟩
  · go_enter Try.func67, Try.ntmps67
    go_wp2
    refine bodyPost_ret (v := .agg (vC (1, 1, 0, ⟨#[]⟩)).toArray) (by simp [results, Try.results67, go_sem]) rfl ⟨rfl, (Below.refl _ w).alloc (Nat.le_refl _) _⟩
end Go.Proofs.Ytliefgkhpgigaaa
