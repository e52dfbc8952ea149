/-
  Mathematics of entries put behind the first so many ones.
-/
import Derived.Test.YtbojfiflemmgaaaG3
namespace Go.Proofs.Ytbojfiflemmgaaa
open Go.RowKit
set_option linter.unusedSimpArgs false
set_option linter.unusedVariables false

/-- a log has an entry of a term at a place -/
def HasT (log : List En) (k t : Nat) : Prop := ∃ h : k < log.length, (log[k]'h).term = t
theorem hasT_iff {log : List En} {k t : Nat} : (k < log.length ∧ termAt log (k + 1) = t) ↔ HasT log k t := by
  constructor
  · rintro ⟨h, ht⟩
    refine ⟨h, ?_⟩
    rw [termAt_at log (k + 1) (by omega) (by omega)] at ht
    exact ht
  · rintro ⟨h, ht⟩
    refine ⟨h, ?_⟩
    rw [termAt_at log (k + 1) (by omega) (by omega)]
    exact ht
theorem putM_same' {log : List En} {i : Nat} {e : En} {l : List En} (h : HasT log i e.term) : putM log i (e :: l) = putM log (i + 1) l := by
  rw [putM, if_pos (hasT_iff.2 h)]
theorem putM_cut' {log : List En} {i : Nat} {e : En} {l : List En} (h : ¬ HasT log i e.term) : putM log i (e :: l) = log.take i ++ (e :: l) := by
  rw [putM, if_neg fun x => h (hasT_iff.1 x)]
theorem putM_nil' (log : List En) (i : Nat) : putM log i [] = log := by unfold putM; rfl
theorem putM_has {log : List En} : ∀ (l : List En) (i : Nat), i ≤ log.length → (∀ k (h : k < log.length), k < i → HasT (putM log i l) k (log[k]'h).term) ∧ ∀ (j : Nat) (h : j < l.length), HasT (putM log i l) (i + j) (l[j]'h).term := by
  intro l
  induction l with
  | nil => intro i hi; rw [putM_nil']; exact ⟨fun k h _ => ⟨h, rfl⟩, fun j h => absurd h (by simp)⟩
  | cons e l ih =>
    intro i hi
    by_cases h : HasT log i e.term
    · rw [putM_same' h]
      obtain ⟨hl, ht⟩ := h
      obtain ⟨h1, h2⟩ := ih (i + 1) (by omega)
      refine ⟨fun k hk hki => h1 k hk (by omega), fun j hj => ?_⟩
      cases j with
      | zero =>
        have := h1 i hl (by omega)
        rw [ht] at this
        exact this
      | succ j =>
        have := h2 j (by simpa using hj)
        rw [show i + 1 + j = i + (j + 1) by omega] at this
        exact this
    · rw [putM_cut' h]
      refine ⟨fun k hk hki => ⟨by simp; omega, ?_⟩, fun j hj => ⟨by simp at hj ⊢; omega, ?_⟩⟩
      · rw [List.getElem_append_left (by simp; omega), List.getElem_take]
      · rw [List.getElem_append_right (by simp; omega)]
        congr 2
        simp; omega
theorem putM_all {log : List En} : ∀ (l : List En) (i : Nat), (∀ (j : Nat) (h : j < l.length), HasT log (i + j) (l[j]'h).term) → putM log i l = log := by
  intro l
  induction l with
  | nil => intro i _; rw [putM_nil']
  | cons e l ih =>
    intro i h
    rw [putM_same' (show HasT log i e.term from h 0 (by simp)), ih (i + 1) fun j hj => by
      have := h (j + 1) (by simpa using hj)
      rw [show i + (j + 1) = i + 1 + j by omega] at this
      exact this]
theorem putM_some {log : List En} : ∀ (l : List En) (i j : Nat) (hj : j < l.length), i ≤ log.length → ¬ HasT log (i + j) (l[j]'hj).term → (putM log i l).length = i + l.length := by
  intro l
  induction l with
  | nil => intro i j hj; exact absurd hj (by simp)
  | cons e l ih =>
    intro i j hj hi hn
    by_cases h : HasT log i e.term
    · rw [putM_same' h]
      cases j with
      | zero => exact absurd h hn
      | succ j =>
        have hj' : j < l.length := by simpa using hj
        rw [ih (i + 1) j hj' (by have := h.1; omega) fun x => hn (by
          rw [show i + 1 + j = i + (j + 1) by omega] at x
          exact x), List.length_cons]
        omega
    · rw [putM_cut' h, List.length_append, List.length_take, Nat.min_eq_left hi]
theorem putM_front {log : List En} : ∀ (l : List En) (i : Nat), i ≤ log.length → (putM log i l).take i = log.take i := by
  intro l
  induction l with
  | nil => intro i _; rw [putM_nil']
  | cons e l ih =>
    intro i hi
    by_cases h : HasT log i e.term
    · rw [putM_same' h]
      have := congrArg (List.take i) (ih (i + 1) h.1)
      rw [List.take_take, List.take_take, Nat.min_eq_left (by omega)] at this
      exact this
    · rw [putM_cut' h, List.take_append_of_le_length (by simp; omega), List.take_take, Nat.min_self]
theorem putM_le {log : List En} : ∀ (l : List En) (i : Nat), i ≤ log.length → i + l.length ≤ (putM log i l).length := by
  intro l i hi
  cases hl : l.length with
  | zero =>
    obtain rfl := List.eq_nil_of_length_eq_zero hl
    rw [putM_nil']; omega
  | succ k =>
    obtain ⟨h, _⟩ := (putM_has l i hi).2 k (by omega)
    omega
end Go.Proofs.Ytbojfiflemmgaaa
