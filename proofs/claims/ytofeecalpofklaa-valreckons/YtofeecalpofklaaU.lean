/-
  Plain mathematics: how two values that are right are held against one another by val.Order.
-/
import Derived.Test.YtofeecalpofklaaE
import Derived.Test.YtofeecalpofklaaH5
namespace Go.Proofs.Ytofeecalpofklaa
open Go.RowKit
set_option linter.unusedSimpArgs false
set_option linter.unusedVariables false

theorem bytesLess_self : ∀ l : List UInt8, Op.bytesLess l l = false
  | [] => rfl
  | a :: l => by unfold Op.bytesLess; simp [bytesLess_self l]
theorem cmpS_same (t : ByteArray) : cmpS t t = 0 := by unfold cmpS; rw [bytesLess_self]; simp
theorem cmpS_cases (x y : ByteArray) : (cmpS x y = -1 ∧ Op.bytesLess x.toList y.toList = true) ∨ (cmpS x y = 0 ∧ Op.bytesLess x.toList y.toList = false ∧ (x.toList == y.toList) = true) ∨ (cmpS x y = 1 ∧ Op.bytesLess x.toList y.toList = false ∧ (x.toList == y.toList) = false) := by
  unfold cmpS
  cases h : Op.bytesLess x.toList y.toList <;> cases g : (x.toList == y.toList) <;> simp
theorem cmpI_cases (x y : Int) : (cmpI x y = -1 ∧ x < y) ∨ (cmpI x y = 0 ∧ x = y) ∨ (cmpI x y = 1 ∧ y < x) := by
  unfold cmpI
  by_cases h : x < y
  · rw [if_pos h]; exact Or.inl ⟨rfl, h⟩
  · rw [if_neg h]
    by_cases g : y < x
    · rw [if_pos g]; exact Or.inr (Or.inr ⟨rfl, g⟩)
    · rw [if_neg g]; exact Or.inr (Or.inl ⟨rfl, by omega⟩)
theorem cmpI_same (x : Int) : cmpI x x = 0 := by rcases cmpI_cases x x with h | h | h <;> omega
theorem pw_zero : pw 0 = 1 := by decide +kernel
theorem whole_zero (n : Int) : wholeN n 0 = n := by unfold wholeN; rw [pw_zero]; simp
theorem mill_zero (n : Int) : millN n 0 = 0 := by unfold millN; rw [pw_zero]; simp; unfold wrap64; decide
theorem ord_flat (k n n' : Int) (t t' : ByteArray) : ordV k n 0 t k n' 0 t' = if cmpI n n' ≠ 0 then cmpI n n' else cmpS t t' := by
  unfold ordV; rw [cmpI_same, if_neg (by simp), whole_zero, whole_zero, mill_zero, mill_zero, cmpI_same]
  simp
theorem ok_flat {k n s : Int} {t : ByteArray} (h : Ok k n s t) (h3 : k ≠ 3) : s = 0 := by
  obtain ⟨⟨h0, h5⟩, hr, -⟩ := h
  unfold rightB at hr
  have : k = 0 ∨ k = 1 ∨ k = 2 ∨ k = 4 ∨ k = 5 := by omega
  rcases this with rfl | rfl | rfl | rfl | rfl <;> simp at hr <;> omega
theorem ok_num {k n s : Int} {t : ByteArray} (h : Ok k n s t) (hk : k = 0 ∨ k = 4 ∨ k = 5) : n = 0 := by
  obtain ⟨⟨h0, h5⟩, hr, -⟩ := h
  unfold rightB at hr
  rcases hk with rfl | rfl | rfl <;> simp at hr <;> omega
theorem ok_rd {n s : Int} {t : ByteArray} (h : Ok 3 n s t) : rdB n s = true := by
  obtain ⟨-, hr, -⟩ := h
  unfold rightB at hr; simp at hr; exact hr.2
theorem rd_is {n s : Int} (h : rdB n s = true) : Normed n s ∧ n.natAbs < 1000000000000000 := by
  unfold rdB at h; rw [decide_eq_true_eq] at h
  refine ⟨?_, by omega⟩
  rcases h.2.2.2.2 with h | h
  · exact Or.inl h
  · exact Or.inr (fun e => h ((tmod_ten n).1 e))
theorem ok_empty {k n s : Int} {t : ByteArray} (h : Ok k n s t) (hk : k ≤ 3) : t = ⟨#[]⟩ := h.2.2.2.2.2 hk
theorem ok_scale {k n s : Int} {t : ByteArray} (h : Ok k n s t) : 0 ≤ s ∧ s ≤ 6 := h.2.2.2.1
theorem ok_64 {k n s : Int} {t : ByteArray} (h : Ok k n s t) : Is64 n := h.2.2.1

def KindsAre (c k n s : Int) (t : ByteArray) (k' n' s' : Int) (t' : ByteArray) : Prop :=
  (k < k' ∧ c = -1) ∨ (k' < k ∧ c = 1) ∨
  (k' = k ∧ (k = 4 ∨ k = 5) ∧ ((c = -1 ∧ Op.bytesLess t.toList t'.toList = true) ∨ (c = 0 ∧ Op.bytesLess t.toList t'.toList = false ∧ (t.toList == t'.toList) = true) ∨ (c = 1 ∧ Op.bytesLess t.toList t'.toList = false ∧ (t.toList == t'.toList) = false))) ∨
  (k' = k ∧ (k = 1 ∨ k = 2) ∧ ((c = -1 ∧ n < n') ∨ (c = 0 ∧ n' = n) ∨ (c = 1 ∧ n' < n))) ∨
  (k' = k ∧ k = 0 ∧ c = 0 ∧ n' = n ∧ s' = s ∧ t' = t) ∨
  (k' = k ∧ k = 3 ∧ t = ⟨#[]⟩ ∧ t' = t ∧ ((c = 0 ∧ n' = n ∧ s' = s) ∨ ((c = -1 ∨ c = 1) ∧ (n' ≠ n ∨ s' ≠ s))))
theorem kinds_are {k n s : Int} {t : ByteArray} {k' n' s' : Int} {t' : ByteArray} (h : Ok k n s t) (h' : Ok k' n' s' t') : KindsAre (ordV k n s t k' n' s' t') k n s t k' n' s' t' := by
  unfold KindsAre
  rcases cmpI_cases k k' with ⟨g1, g2⟩ | ⟨-, g2⟩ | ⟨g1, g2⟩
  · left; exact ⟨g2, (ord1 (by omega)).trans g1⟩
  · subst g2
    right; right
    by_cases h3 : k = 3
    · subst h3
      right; right; right
      have e1 := ok_empty h (by decide)
      have e2 := ok_empty h' (by decide)
      refine ⟨rfl, rfl, e1, by rw [e1, e2], ?_⟩
      rw [e1, e2]
      have ho : ordV 3 n s ⟨#[]⟩ 3 n' s' ⟨#[]⟩ = cmpI (mil n s) (mil n' s') := ord_mil (ok_scale h).1 (ok_scale h).2 (ok_scale h').1 (ok_scale h').2
      rw [ho]
      rcases cmpI_cases (mil n s) (mil n' s') with ⟨q1, q2⟩ | ⟨q1, q2⟩ | ⟨q1, q2⟩
      · right; refine ⟨Or.inl q1, ?_⟩
        apply Classical.byContradiction; intro hc
        have : n' = n ∧ s' = s := by omega
        rw [this.1, this.2] at q2; omega
      · left
        have := norm_unique (ok_scale h).1 (ok_scale h).2 (ok_scale h').1 (ok_scale h').2 (rd_is (ok_rd h)).1 (rd_is (ok_rd h')).1 q2
        exact ⟨q1, this.1.symm, this.2.symm⟩
      · right; refine ⟨Or.inr q1, ?_⟩
        apply Classical.byContradiction; intro hc
        have : n' = n ∧ s' = s := by omega
        rw [this.1, this.2] at q2; omega
    · have hs := ok_flat h h3
      have hs' := ok_flat h' h3
      subst hs; subst hs'
      rw [ord_flat]
      have hk := h.1
      by_cases h0 : k = 0
      · subst h0
        right; right; left
        have e1 := ok_empty h (by decide)
        have e2 := ok_empty h' (by decide)
        have e3 := ok_num h (Or.inl rfl)
        have e4 := ok_num h' (Or.inl rfl)
        subst e1; subst e2; subst e3; subst e4
        exact ⟨rfl, rfl, by decide +kernel, rfl, rfl, rfl⟩
      by_cases h4 : k = 4 ∨ k = 5
      · left
        have e3 := ok_num h (by omega)
        have e4 := ok_num h' (by omega)
        subst e3; subst e4
        rw [cmpI_same, if_neg (by simp)]
        exact ⟨rfl, h4, cmpS_cases t t'⟩
      · right; left
        have e1 := ok_empty h (by omega)
        have e2 := ok_empty h' (by omega)
        subst e1; subst e2
        refine ⟨rfl, by omega, ?_⟩
        rw [cmpS_same]
        rcases cmpI_cases n n' with ⟨q1, q2⟩ | ⟨q1, q2⟩ | ⟨q1, q2⟩
        · left; rw [q1]; exact ⟨by decide, q2⟩
        · right; left; rw [q1]; exact ⟨by decide, q2.symm⟩
        · right; right; rw [q1]; exact ⟨by decide, q2⟩
  · right; left; exact ⟨g2, (ord1 (by omega)).trans g1⟩
end Go.Proofs.Ytofeecalpofklaa
