/-
  The walk of the law ValInts.
-/
import Derived.Test.YtglbghgenckgeaaP
import Derived.OpenShut
namespace Go.Proofs.Ytglbghgenckgeaa
open Go.RowKit
set_option linter.unusedSimpArgs false
set_option linter.unusedVariables false

theorem is64_wf {n : Int} (h : (Lit.int .i64 n).wf = true) : Is64 n := by
  exact bounds_i64 h
theorem reckon_ok (k a b : Int) (t t' : ByteArray) (w : World) (ha : Is64 a) (hb : Is64 b) (hk : reckB k = true) (h : inI (opN k a b) = true) :
    Calls Try.prog 26 #[.int .i64 k, V 2 a 0 t, V 2 b 0 t'] w fun e w' => e = .returned (.tuple #[V 2 (wrap64 (opN k a b)) 0 E0, .int .i64 0]) ∧ Below w.heap.size w w' :=
  (reckon_any k 2 a 0 t 2 b 0 t' w ha hb (fun h => absurd h (by decide)) (fun h => absurd h (by decide))).mono (fun _ _ hh => ⟨hh.1.trans (recV_eq (by
    rw [if_neg (by intro e; rw [e] at hk; cases hk)]; exact rec_g1 hk h)), hh.2⟩)
theorem reckon_over (k a b : Int) (t t' : ByteArray) (w : World) (ha : Is64 a) (hb : Is64 b) (hk : reckB k = true) (h : inI (opN k a b) = false) :
    Calls Try.prog 26 #[.int .i64 k, V 2 a 0 t, V 2 b 0 t'] w fun e w' => e = .returned (.tuple #[V 0 0 0 E0, .int .i64 10]) ∧ Below w.heap.size w w' :=
  (reckon_any k 2 a 0 t 2 b 0 t' w ha hb (fun h => absurd h (by decide)) (fun h => absurd h (by decide))).mono (fun _ _ hh => ⟨hh.1.trans (recV_eq (by
    rw [if_neg (by intro e; rw [e] at hk; cases hk)]; exact rec_g0 hk h)), hh.2⟩)
theorem reckon_null (b : Int) (t t' : ByteArray) (w : World) (hb : Is64 b) :
    Calls Try.prog 26 #[.int .i64 8, V 0 0 0 t, V 2 b 0 t'] w fun e w' => e = .returned (.tuple #[V 0 0 0 E0, .int .i64 0]) ∧ Below w.heap.size w w' :=
  (reckon_any 8 0 0 0 t 2 b 0 t' w (is64_lit (by decide +kernel)) hb (fun h => absurd h (by decide)) (fun h => absurd h (by decide))).mono (fun _ _ hh => ⟨hh.1.trans (recV_eq (by
    rw [if_neg (by decide)]; exact rec_d (by decide) (by decide) (by decide) (Or.inl rfl))), hh.2⟩)
theorem mul_small {a b : Int} (ha : -1073741824 ≤ a ∧ a ≤ 1073741824) (hb : -1073741824 ≤ b ∧ b ≤ 1073741824) : Is64 (a * b) := by
  have h : (a * b).natAbs ≤ 1073741824 * 1073741824 := by
    rw [Int.natAbs_mul]; exact Nat.mul_le_mul (by omega) (by omega)
  unfold Is64; omega


/-- what is told of two ints: the result's kind, number, the error -/
def intK (k a b : Int) : Int := if inI (opN k a b) = true then 2 else 0
def intN (k a b : Int) : Int := if inI (opN k a b) = true then opN k a b else 0
def intE (k a b : Int) : Int := if inI (opN k a b) = true then 0 else 10
theorem intN_64 (k a b : Int) : Is64 (intN k a b) := by
  unfold intN; split
  · rename_i h; exact is64_of h
  · decide
theorem reckon_ints (k a b : Int) (t t' : ByteArray) (w : World) (ha : Is64 a) (hb : Is64 b) (hk : reckB k = true) :
    Calls Try.prog 26 #[.int .i64 k, V 2 a 0 t, V 2 b 0 t'] w fun e w' => e = .returned (.tuple #[V (intK k a b) (intN k a b) 0 E0, .int .i64 (intE k a b)]) ∧ Below w.heap.size w w' := by
  unfold intK intN intE
  cases h : inI (opN k a b)
  · simp only [Bool.false_eq_true, if_false]; exact reckon_over k a b t t' w ha hb hk h
  · simp only [if_true]; rw [← wrap64_is _ (is64_of h)]; exact reckon_ok k a b t t' w ha hb hk h
/-- ... of a result and an int -/
def backK (a b : Int) : Int := if inI (a + b) = true then 2 else 0
def backN (a b : Int) : Int := if inI (a + b) = true then a else 0
theorem reckon_back (a b : Int) (t t' : ByteArray) (w : World) (ha : Is64 a) (hb : Is64 b) :
    Calls Try.prog 26 #[.int .i64 8, V (intK 7 a b) (intN 7 a b) 0 t, V 2 b 0 t'] w fun e w' => e = .returned (.tuple #[V (backK a b) (backN a b) 0 E0, .int .i64 0]) ∧ Below w.heap.size w w' := by
  unfold intK intN backK backN
  rw [show opN 7 a b = a + b from rfl]
  cases h : inI (a + b)
  · simp only [Bool.false_eq_true, if_false]; exact reckon_null b t t' w hb
  · simp only [if_true]
    have e1 : opN 8 (a + b) b = a := by show a + b - b = a; omega
    have := reckon_ok 8 (a + b) b t t' w (is64_of h) hb (by decide) (by rw [e1]; exact inI_true ha)
    rw [e1, wrap64_is _ ha] at this
    exact this

theorem ints_rel7 (a b : Int) (ha : Is64 a) (hb : Is64 b) : (intE 7 a b = 0 ∧ intN 7 a b = wrap64 (a + b)) ∨ (intE 7 a b = 10 ∧ (a < 0 ↔ b < 0)) := by
  unfold intE intN
  cases h : inI (opN 7 a b)
  · right
    have hn : ¬ Is64 (a + b) := fun hh => by rw [show opN 7 a b = a + b from rfl, inI_true hh] at h; cases h
    simp only [Bool.false_eq_true, if_false, true_and]; unfold Is64 at *; omega
  · left; simp only [if_true]; exact ⟨trivial, (wrap64_is _ (is64_of h)).symm⟩
theorem ints_rel8 (a b : Int) (ha : Is64 a) (hb : Is64 b) : (intE 8 a b = 0 ∧ intN 8 a b = wrap64 (a - b)) ∨ (intE 8 a b = 10 ∧ ¬ (a < 0 ↔ b < 0)) := by
  unfold intE intN
  cases h : inI (opN 8 a b)
  · right
    have hn : ¬ Is64 (a - b) := fun hh => by rw [show opN 8 a b = a - b from rfl, inI_true hh] at h; cases h
    simp only [Bool.false_eq_true, if_false, true_and]; unfold Is64 at *; omega
  · left; simp only [if_true]; exact ⟨trivial, (wrap64_is _ (is64_of h)).symm⟩
theorem ints_rel6 (a b : Int) : (intE 6 a b = 0 ∧ intN 6 a b = wrap64 (a * b)) ∨ intE 6 a b = 10 := by
  unfold intE intN
  cases h : inI (opN 6 a b)
  · right; simp only [Bool.false_eq_true, if_false]
  · left; simp only [if_true]; exact ⟨trivial, (wrap64_is _ (is64_of h)).symm⟩
theorem back_rel (a b : Int) : intE 7 a b = 0 → backK a b = 2 ∧ backN a b = a := by
  unfold intE backK backN
  rw [show opN 7 a b = a + b from rfl]
  cases h : inI (a + b)
  · simp
  · simp

end Go.Proofs.Ytglbghgenckgeaa
