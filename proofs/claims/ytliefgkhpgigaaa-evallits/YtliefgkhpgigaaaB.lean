/-
  What the functions of package val that take values return and leave: methods of sides, whole, millionths, ofOneKind, numeric. For every argument (integers are int's).
-/
import Derived.Test.YtliefgkhpgigaaaA
import Derived.Deep.QuietTactic
import Derived.BigQuiet
import Derived.Deep.RegionWith
namespace Go.Proofs.Ytliefgkhpgigaaa
open Go.RowKit
set_option linter.unusedSimpArgs false
set_option linter.unusedVariables false

abbrev V (k n s : Int) (t : ByteArray) : Value := .agg #[.int .i64 k, .int .i64 n, .int .i64 s, .string t]

set_option maxHeartbeats 400000 in
theorem sideInt_any (a b : Int) (w : World) :
    Calls Try.prog 100 #[.agg #[.int .i64 a, .int .i64 b]] w fun e w' => e = .returned (.int .i64 (cmpI a b)) ∧ Below w.heap.size w w' := by
  go_enter Try.func100, Try.ntmps100
  go_wp2_with (go_at_call 104; refine (cmpInt_any _ _ _).mono ?_; rintro e w' ⟨rfl, rfl⟩)
  go_ret
  exact ⟨rfl, (Below.refl _ _).alloc (Nat.le_refl _) _⟩
set_option maxHeartbeats 400000 in
theorem numeric_any (k n s : Int) (t : ByteArray) (w : World) :
    Calls Try.prog 78 #[V k n s t] w fun e w' => e = .returned (.bool (k == 0 || k == 2 || k == 3)) ∧ Below w.heap.size w w' := by
  go_enter Try.func78, Try.ntmps78
  go_wp2
  all_goals
    go_ret
    exact ⟨ret_bool (by simp_all), (Below.refl _ _).alloc (Nat.le_refl _) _⟩

set_option maxHeartbeats 400000 in
theorem ofOneKind_any (k n s : Int) (t : ByteArray) (k' n' s' : Int) (t' : ByteArray) (w : World) :
    Calls Try.prog 96 #[V k n s t, V k' n' s' t'] w fun e w' => e = .returned (.bool (k != 0 && k == k')) ∧ Below w.heap.size w w' := by
  go_enter Try.func96, Try.ntmps96
  go_wp2
  all_goals
    go_ret
    exact ⟨ret_bool (by simp_all), ((Below.refl _ _).alloc (Nat.le_refl _) _).alloc (by simp) _⟩
set_option maxHeartbeats 400000 in
theorem whole_any (k n s : Int) (t : ByteArray) (w : World) (hn : Is64 n) :
    Calls Try.prog 101 #[V k n s t] w fun e w' => e = .returned (.int .i64 (n.tdiv (pw s))) ∧ Below w.heap.size w w' := by
  have hp := pw_bd s
  have hp0 : ¬ pw s = 0 := by omega
  have hc := fun w => power_any s w
  generalize pw s = p at *
  have HC : Hid (∀ w, Calls Try.prog 93 #[.int .i64 s] w fun e w' => e = .returned (.int .i64 p) ∧ w' = w) := hc
  clear hc
  go_enter Try.func101, Try.ntmps101
  go_wp2
  go_quiet ((go_at_call 93; exact Calls.quiet_of_same (HC.out _)))
  go_wp2
  go_ret
  exact ⟨rfl, below_drewN ((Below.refl _ _).alloc (Nat.le_refl _) _) _⟩
set_option maxHeartbeats 400000 in
theorem millionths_any (k n s : Int) (t : ByteArray) (w : World) (hs : 0 ≤ s ∧ s ≤ 6) :
    Calls Try.prog 102 #[V k n s t] w fun e w' => e = .returned (.int .i64 (wrap64 (n.tmod (pw s) * pw (6 - s)))) ∧ Below w.heap.size w w' := by
  have hp := pw_bd s
  have hp0 : ¬ pw s = 0 := by omega
  have hc := fun w => power_any s w
  have hd := fun w => power_any (6 - s) w
  generalize pw s = p at *
  generalize pw (6 - s) = q at *
  have HC : Hid (∀ w, Calls Try.prog 93 #[.int .i64 s] w fun e w' => e = .returned (.int .i64 p) ∧ w' = w) := hc
  have HD : Hid (∀ w, Calls Try.prog 93 #[.int .i64 (6 - s)] w fun e w' => e = .returned (.int .i64 q) ∧ w' = w) := hd
  clear hc hd
  have h6 : IntKind.i64.wrap (6 - s) = 6 - s := IntWalk.i64_in _ (by omega)
  go_enter Try.func102, Try.ntmps102
  go_wp2
  go_quiet ((first | (go_at_call_of 93 (Value.int IntKind.i64 s); exact Calls.quiet_of_same (HC.out _)) | (go_at_call 93; exact Calls.quiet_of_same (HD.out _))))
  go_wp2
  go_ret
  exact ⟨rfl, below_drewN ((Below.refl _ _).alloc (Nat.le_refl _) _) _⟩
def cmpS (x y : ByteArray) : Int := if Op.bytesLess x.toList y.toList then -1 else if x.toList == y.toList then 0 else 1
set_option maxHeartbeats 400000 in
theorem cmpStr_any (x y : ByteArray) (w : World) :
    Calls Try.prog 105 #[.string x, .string y] w fun e w' => e = .returned (.int .i64 (cmpS x y)) ∧ w' = w := by
  unfold cmpS
  cases h1 : Op.bytesLess x.toList y.toList
  · cases h2 : (x.toList == y.toList)
    all_goals
      go_enter Try.func105, Try.ntmps105
      go_wp2
      go_ret
      exact ⟨by simp, rfl⟩
  · go_enter Try.func105, Try.ntmps105
    go_wp2
    go_ret
    exact ⟨by simp, rfl⟩
set_option maxHeartbeats 400000 in
theorem sideStr_any (a b : ByteArray) (w : World) :
    Calls Try.prog 103 #[.agg #[.string a, .string b]] w fun e w' => e = .returned (.int .i64 (cmpS a b)) ∧ Below w.heap.size w w' := by
  go_enter Try.func103, Try.ntmps103
  go_wp2_with (go_at_call 105; refine (cmpStr_any _ _ _).mono ?_; rintro e w' ⟨rfl, rfl⟩)
  go_ret
  exact ⟨rfl, (Below.refl _ _).alloc (Nat.le_refl _) _⟩
end Go.Proofs.Ytliefgkhpgigaaa
