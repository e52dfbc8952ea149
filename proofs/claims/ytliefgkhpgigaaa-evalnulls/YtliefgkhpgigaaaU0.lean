/-
  Plain mathematics: values that are right, and the reference's order of them.
-/
import Derived.Test.YtliefgkhpgigaaaE0
import Derived.Test.YtliefgkhpgigaaaH
import Derived.Test.YtliefgkhpgigaaaX
namespace Go.Proofs.Ytliefgkhpgigaaa
open Go.RowKit
set_option linter.unusedSimpArgs false
set_option linter.unusedVariables false

theorem bytesLess_self : ∀ l : List UInt8, Op.bytesLess l l = false
  | [] => rfl
  | a :: l => by unfold Op.bytesLess; simp [bytesLess_self l]
theorem cmpS_same (t : ByteArray) : cmpS t t = 0 := by unfold cmpS; rw [bytesLess_self]; simp
theorem cmpS_cases (x y : ByteArray) : (cmpS x y = -1 ∧ Op.bytesLess x.toList y.toList = true) ∨ (cmpS x y = 0 ∧ Op.bytesLess x.toList y.toList = false ∧ (x.toList == y.toList) = true) ∨ (cmpS x y = 1 ∧ Op.bytesLess x.toList y.toList = false ∧ (x.toList == y.toList) = false) := by
  unfold cmpS
  cases h : Op.bytesLess x.toList y.toList <;> cases g : (x.toList == y.toList) <;> simp
theorem cmpI_cases (x y : Int) : (cmpI x y = -1 ∧ x < y) ∨ (cmpI x y = 0 ∧ x = y) ∨ (cmpI x y = 1 ∧ y < x) := by
  unfold cmpI
  by_cases h : x < y
  · rw [if_pos h]; exact Or.inl ⟨rfl, h⟩
  · rw [if_neg h]
    by_cases g : y < x
    · rw [if_pos g]; exact Or.inr (Or.inr ⟨rfl, g⟩)
    · rw [if_neg g]; exact Or.inr (Or.inl ⟨rfl, by omega⟩)
theorem cmpI_same (x : Int) : cmpI x x = 0 := by rcases cmpI_cases x x with h | h | h <;> omega
theorem pw_zero : pw 0 = 1 := by decide +kernel

theorem ok_flat {k n s : Int} {t : ByteArray} (h : Ok k n s t) (h3 : k ≠ 3) : s = 0 := by
  obtain ⟨⟨h0, h5⟩, hr, -⟩ := h
  unfold rightB at hr
  have : k = 0 ∨ k = 1 ∨ k = 2 ∨ k = 4 ∨ k = 5 := by omega
  rcases this with rfl | rfl | rfl | rfl | rfl <;> simp at hr <;> omega
theorem ok_num {k n s : Int} {t : ByteArray} (h : Ok k n s t) (hk : k = 0 ∨ k = 4 ∨ k = 5) : n = 0 := by
  obtain ⟨⟨h0, h5⟩, hr, -⟩ := h
  unfold rightB at hr
  rcases hk with rfl | rfl | rfl <;> simp at hr <;> omega
theorem ok_rd {n s : Int} {t : ByteArray} (h : Ok 3 n s t) : rdB n s = true := by
  obtain ⟨-, hr, -⟩ := h
  unfold rightB at hr; simp at hr; exact hr.2
theorem rd_is {n s : Int} (h : rdB n s = true) : Normed n s ∧ n.natAbs < 1000000000000000 := by
  unfold rdB at h; rw [decide_eq_true_eq] at h
  refine ⟨?_, by omega⟩
  rcases h.2.2.2.2 with h | h
  · exact Or.inl h
  · exact Or.inr (fun e => h ((tmod_ten n).1 e))
theorem ok_empty {k n s : Int} {t : ByteArray} (h : Ok k n s t) (hk : k ≤ 3) : t = ⟨#[]⟩ := h.2.2.2.2.2 hk
theorem ok_scale {k n s : Int} {t : ByteArray} (h : Ok k n s t) : 0 ≤ s ∧ s ≤ 6 := h.2.2.2.1
theorem ok_64 {k n s : Int} {t : ByteArray} (h : Ok k n s t) : Is64 n := h.2.2.1


theorem less_asym : ∀ {x y : List UInt8}, Op.bytesLess x y = true → Op.bytesLess y x = false
  | [], [], h => by cases h
  | [], _ :: _, _ => rfl
  | _ :: _, [], h => by cases h
  | a :: x, b :: y, h => by
    unfold Op.bytesLess at h ⊢
    simp only [Bool.or_eq_true, Bool.and_eq_true, decide_eq_true_eq, beq_iff_eq] at h
    rcases h with h | ⟨h1, h2⟩
    · have h1 : ¬ b < a := UInt8.not_lt.2 (UInt8.le_of_lt h)
      have h2 : ¬ b = a := fun e => UInt8.ne_of_lt h e.symm
      simp [h1, h2]
    · subst h1
      simp [less_asym h2, UInt8.lt_irrefl]
theorem less_total : ∀ {x y : List UInt8}, Op.bytesLess x y = false → x ≠ y → Op.bytesLess y x = true
  | [], [], _, h => absurd rfl h
  | [], _ :: _, h, _ => by cases h
  | _ :: _, [], _, _ => rfl
  | a :: x, b :: y, h, hne => by
    unfold Op.bytesLess at h ⊢
    simp only [Bool.or_eq_false_iff, Bool.and_eq_false_iff, decide_eq_false_iff_not, beq_eq_false_iff_ne] at h
    obtain ⟨h1, h2⟩ := h
    by_cases hab : b < a
    · simp [hab]
    · have he : a = b := UInt8.le_antisymm (UInt8.not_lt.1 hab) (UInt8.not_lt.1 h1)
      subst he
      have h3 : Op.bytesLess x y = false := by rcases h2 with h2 | h2; exact absurd rfl h2; exact h2
      simp [less_total h3 (fun e => hne (by rw [e]))]
theorem less_trans : ∀ {x y z : List UInt8}, Op.bytesLess x y = true → Op.bytesLess y z = true → Op.bytesLess x z = true
  | [], [], _, h, _ => by cases h
  | _ :: _, [], _, h, _ => by cases h
  | _, _ :: _, [], _, h => by cases h
  | [], _ :: _, _ :: _, _, _ => rfl
  | a :: x, b :: y, c :: z, h, g => by
    unfold Op.bytesLess at h g ⊢
    simp only [Bool.or_eq_true, Bool.and_eq_true, decide_eq_true_eq, beq_iff_eq] at h g ⊢
    rcases h with h | ⟨rfl, h⟩ <;> rcases g with g | ⟨rfl, g⟩
    · exact Or.inl (UInt8.lt_trans h g)
    · exact Or.inl h
    · exact Or.inl g
    · exact Or.inr ⟨rfl, less_trans h g⟩

theorem less_ne_sym {x y : ByteArray} (h : Op.bytesLess x.toList y.toList = true) : (y.toList == x.toList) = false := by
  cases g : (y.toList == x.toList)
  · rfl
  · have : y.toList = x.toList := by simpa using g
    rw [this, bytesLess_self] at h; cases h
theorem cmpS_anti (x y : ByteArray) : cmpS y x = - cmpS x y := by
  rcases cmpS_cases x y with ⟨h1, h2⟩ | ⟨h1, h2, h3⟩ | ⟨h1, h2, h3⟩
  · rw [h1]; unfold cmpS; rw [less_asym h2, less_ne_sym h2]; rfl
  · have e : x.toList = y.toList := by simpa using h3
    rw [h1]; unfold cmpS; rw [e, bytesLess_self]; simp
  · have hne : x.toList ≠ y.toList := by simpa using h3
    rw [h1]; unfold cmpS; rw [less_total h2 hne]; rfl
theorem cmpS_trans {x y z : ByteArray} (h : cmpS x y ≤ 0) (g : cmpS y z ≤ 0) : cmpS x z ≤ 0 := by
  have hA : Op.bytesLess x.toList y.toList = true ∨ x.toList = y.toList := by
    rcases cmpS_cases x y with ⟨_, h2⟩ | ⟨_, _, h3⟩ | ⟨h1, _, _⟩
    · exact Or.inl h2
    · exact Or.inr (by simpa using h3)
    · omega
  have hB : Op.bytesLess y.toList z.toList = true ∨ y.toList = z.toList := by
    rcases cmpS_cases y z with ⟨_, h2⟩ | ⟨_, _, h3⟩ | ⟨h1, _, _⟩
    · exact Or.inl h2
    · exact Or.inr (by simpa using h3)
    · omega
  have hC : Op.bytesLess x.toList z.toList = true ∨ x.toList = z.toList := by
    rcases hA with hA | hA <;> rcases hB with hB | hB
    · exact Or.inl (less_trans hA hB)
    · rw [hB] at hA; exact Or.inl hA
    · rw [← hA] at hB; exact Or.inl hB
    · exact Or.inr (hA.trans hB)
  unfold cmpS
  rcases hC with hC | hC
  · rw [hC]; simp
  · rw [hC]; split
    · decide
    · simp

def lex3 (a b c : Int) : Int := if a ≠ 0 then a else if b ≠ 0 then b else c
theorem cmpI_anti (x y : Int) : cmpI y x = - cmpI x y := by
  rcases cmpI_cases x y with ⟨h1, h2⟩ | ⟨h1, h2⟩ | ⟨h1, h2⟩ <;> rcases cmpI_cases y x with ⟨g1, g2⟩ | ⟨g1, g2⟩ | ⟨g1, g2⟩ <;> omega
theorem lex_anti (k k' m m' : Int) (t t' : ByteArray) : lex3 (cmpI k' k) (cmpI m' m) (cmpS t' t) = - lex3 (cmpI k k') (cmpI m m') (cmpS t t') := by
  rw [cmpI_anti k k', cmpI_anti m m', cmpS_anti t t']
  unfold lex3
  by_cases h : cmpI k k' = 0
  · rw [if_neg (show ¬ (-cmpI k k' ≠ 0) by omega), if_neg (show ¬ (cmpI k k' ≠ 0) by omega)]
    by_cases g : cmpI m m' = 0
    · rw [if_neg (show ¬ (-cmpI m m' ≠ 0) by omega), if_neg (show ¬ (cmpI m m' ≠ 0) by omega)]
    · rw [if_pos (show (-cmpI m m' ≠ 0) by omega), if_pos (show cmpI m m' ≠ 0 from g)]
  · rw [if_pos (show (-cmpI k k' ≠ 0) by omega), if_pos (show cmpI k k' ≠ 0 from h)]
theorem lex_le {a b c : Int} (ha : a = -1 ∨ a = 0 ∨ a = 1) (hb : b = -1 ∨ b = 0 ∨ b = 1) : lex3 a b c ≤ 0 ↔ a = -1 ∨ (a = 0 ∧ (b = -1 ∨ (b = 0 ∧ c ≤ 0))) := by
  unfold lex3
  rcases ha with rfl | rfl | rfl
  · simp
  · rcases hb with rfl | rfl | rfl <;> simp
  · simp
theorem cmpI_3 (x y : Int) : cmpI x y = -1 ∨ cmpI x y = 0 ∨ cmpI x y = 1 := by
  rcases cmpI_cases x y with h | h | h
  · exact Or.inl h.1
  · exact Or.inr (Or.inl h.1)
  · exact Or.inr (Or.inr h.1)
theorem cmpI_lt {x y : Int} : cmpI x y = -1 ↔ x < y := by
  rcases cmpI_cases x y with h | h | h <;> omega
theorem cmpI_eq {x y : Int} : cmpI x y = 0 ↔ x = y := by
  rcases cmpI_cases x y with h | h | h <;> omega
theorem lex_trans {k k' k'' m m' m'' : Int} {t t' t'' : ByteArray} (h : lex3 (cmpI k k') (cmpI m m') (cmpS t t') ≤ 0) (g : lex3 (cmpI k' k'') (cmpI m' m'') (cmpS t' t'') ≤ 0) :
    lex3 (cmpI k k'') (cmpI m m'') (cmpS t t'') ≤ 0 := by
  rw [lex_le (cmpI_3 _ _) (cmpI_3 _ _)] at *
  simp only [cmpI_lt, cmpI_eq] at *
  have := @cmpS_trans t t' t''
  omega

theorem mil_flat (n : Int) : mil n 0 = n * 1000000 := by unfold mil; rw [show (6 : Int) - 0 = 6 by decide, show pw 6 = 1000000 by decide +kernel]
theorem cmpI_mil (n n' : Int) : cmpI (mil n 0) (mil n' 0) = cmpI n n' := by
  rw [mil_flat, mil_flat]
  rcases cmpI_cases n n' with h | h | h <;> rcases cmpI_cases (n * 1000000) (n' * 1000000) with g | g | g <;> omega

theorem rord_lex {k n s : Int} {t : ByteArray} {k' n' s' : Int} {t' : ByteArray} (h : Ok k n s t) (h' : Ok k' n' s' t') :
    rordV k n s t k' n' s' t' = lex3 (cmpI k k') (cmpI (mil n s) (mil n' s')) (cmpS t t') := by
  unfold rordV lex3
  by_cases hk : cmpI k k' ≠ 0
  · rw [if_pos hk, if_pos hk]
  · rw [if_neg hk, if_neg hk]
    have : k' = k := (cmpI_eq.1 (Classical.byContradiction hk)).symm
    subst this
    by_cases h12 : k' = 1 ∨ k' = 2
    · rw [if_pos h12]
      have e1 := ok_flat h (by omega)
      have e2 := ok_flat h' (by omega)
      subst e1; subst e2
      rw [cmpI_mil, ok_empty h (by omega), ok_empty h' (by omega), cmpS_same]
      split
      · rfl
      · omega
    · rw [if_neg h12]
      by_cases h3 : k' = 3
      · subst h3
        rw [if_pos rfl, ok_empty h (by decide), ok_empty h' (by decide), cmpS_same]
        have f1 := fl_fr (n := n) (ok_scale h).1 (ok_scale h).2
        have f2 := fl_fr (n := n') (ok_scale h').1 (ok_scale h').2
        have b1 := fr_bd (n := n) (ok_scale h).1 (ok_scale h).2
        have b2 := fr_bd (n := n') (ok_scale h').1 (ok_scale h').2
        rw [f1, f2]
        rcases cmpI_cases (fl n s) (fl n' s') with ⟨p, p'⟩ | ⟨p, p'⟩ | ⟨p, p'⟩ <;> rcases cmpI_cases (fr n s) (fr n' s') with ⟨q, q'⟩ | ⟨q, q'⟩ | ⟨q, q'⟩ <;>
          rcases cmpI_cases (fl n s * 1000000 + fr n s) (fl n' s' * 1000000 + fr n' s') with ⟨r, r'⟩ | ⟨r, r'⟩ | ⟨r, r'⟩ <;> first | omega | (rw [p, q, r]; decide)
      · rw [if_neg h3]
        have e1 := ok_flat h h3
        have e2 := ok_flat h' h3
        have e3 := ok_num h (by have := h.1; omega)
        have e4 := ok_num h' (by have := h.1; omega)
        subst e1; subst e2; subst e3; subst e4
        rw [cmpI_same, if_neg (by simp)]

theorem ok_dec_in {k n s : Int} {t : ByteArray} (h : Ok k n s t) : DecIn k n s := by
  intro h3; subst h3; exact ⟨(rd_is (ok_rd h)).2, ok_scale h⟩
end Go.Proofs.Ytliefgkhpgigaaa
