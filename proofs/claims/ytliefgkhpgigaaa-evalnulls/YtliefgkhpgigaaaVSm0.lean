/-
  EvalSame: lemmas.
-/
import Derived.Test.YtliefgkhpgigaaaVRg
namespace Go.Proofs.Ytliefgkhpgigaaa
open Go.RowKit Go.Shelf
set_option linter.unusedSimpArgs false
set_option linter.unusedVariables false

/-- a row in a block of its own -/
def RowB (g : Nat) (l : List V4) (W : World) : Prop := l.length ≤ 1000 ∧ ∃ cur, W.heap[g]? = some (.cells cur 28 (0, 0)) ∧ ∀ j, j < l.length * 4 → cur[j]? = (rowC l)[j]?
theorem RowB.call {g : Nat} {l : List V4} {W W' : World} (h : RowB g l W) (hb : Below W.heap.size W W') : RowB g l W' := by
  obtain ⟨h0, cur, h1, h2⟩ := h
  exact ⟨h0, cur, (hb.block g (Array.getElem?_eq_some_iff.1 h1).1).trans h1, h2⟩
theorem RowB.row {g : Nat} {l : List V4} {W : World} (h : RowB g l W) : RowOf (some ⟨g, 0, none⟩) l W := by
  obtain ⟨h0, cur, hgb, hc⟩ := h
  refine ⟨h0, fun i hi => ⟨g, rfl, (Array.getElem?_eq_some_iff.1 hgb).1, ?_⟩⟩
  obtain ⟨a1, a2, a3, a4⟩ := rowC_at l i hi
  exact ⟨(cell_of_row W g _ cur _ _ hgb).trans ((hc _ (by omega)).trans a1), (cell_of_row W g _ cur _ _ hgb).trans ((hc _ (by omega)).trans a2), (cell_of_row W g _ cur _ _ hgb).trans ((hc _ (by omega)).trans a3), (cell_of_row W g _ cur _ _ hgb).trans ((hc _ (by omega)).trans a4)⟩
theorem RowB.lt {g : Nat} {l : List V4} {W : World} (h : RowB g l W) : g < W.heap.size := by
  obtain ⟨_, cur, h1, _⟩ := h
  exact (Array.getElem?_eq_some_iff.1 h1).1
theorem RowB.froz {g : Nat} {l : List V4} {W : World} (h : RowB g l W) (j : Nat) : W.frozen? ⟨g, j, none⟩ = false := by
  obtain ⟨_, cur, h1, _⟩ := h
  simp [World.frozen?, h1]
theorem RowB.far {g b : Nat} {l : List V4} {W : World} (h : RowB g l W) (hne : g ≠ b) (j : Nat) (y : Value) : RowB g l (W.setCell ⟨b, j, none⟩ y) := by
  obtain ⟨h0, cur, h1, h2⟩ := h
  exact ⟨h0, cur, (Below.heap_setCell _ _ _ _ (by simp; omega)).trans h1, h2⟩
theorem rowC_set : ∀ (l : List V4) (k : Nat) (x : V4) (j : Nat), k < l.length → (rowC (l.set k x))[j]? = if j = k * 4 then some (.int .i64 x.1) else if j = k * 4 + 1 then some (.int .i64 x.2.1) else if j = k * 4 + 2 then some (.int .i64 x.2.2.1) else if j = k * 4 + 3 then some (.string x.2.2.2) else (rowC l)[j]?
  | [], k, x, j, h => absurd h (by simp)
  | y :: l, 0, x, j, h => by
    show (vC x ++ rowC l)[j]? = _
    match j with
    | 0 => rfl
    | 1 => rfl
    | 2 => rfl
    | 3 => rfl
    | j + 4 =>
      rw [if_neg (by omega), if_neg (by omega), if_neg (by omega), if_neg (by omega)]
      show _ = (vC y ++ rowC l)[j + 4]?
      rw [List.getElem?_append_right (by simp [vC]), List.getElem?_append_right (by simp [vC])]
      rfl
  | y :: l, k + 1, x, j, h => by
    show (vC y ++ rowC (l.set k x))[j]? = _
    have ih := rowC_set l k x (j - 4) (by simpa using h)
    by_cases hj : j < 4
    · rw [if_neg (by omega), if_neg (by omega), if_neg (by omega), if_neg (by omega)]
      show _ = (vC y ++ rowC l)[j]?
      rw [List.getElem?_append_left (by simp [vC]; omega), List.getElem?_append_left (by simp [vC]; omega)]
    · rw [List.getElem?_append_right (by simp [vC]; omega), show (vC y).length = 4 from rfl, ih]
      show _ = if _ then _ else if _ then _ else if _ then _ else if _ then _ else (vC y ++ rowC l)[j]?
      rw [List.getElem?_append_right (by simp [vC]; omega), show (vC y).length = 4 from rfl]
      by_cases h1 : j = (k + 1) * 4
      · rw [if_pos h1, if_pos (by omega)]
      · rw [if_neg h1, if_neg (by omega)]
        by_cases h2 : j = (k + 1) * 4 + 1
        · rw [if_pos h2, if_pos (by omega)]
        · rw [if_neg h2, if_neg (by omega)]
          by_cases h3 : j = (k + 1) * 4 + 2
          · rw [if_pos h3, if_pos (by omega)]
          · rw [if_neg h3, if_neg (by omega)]
            by_cases h4 : j = (k + 1) * 4 + 3
            · rw [if_pos h4, if_pos (by omega)]
            · rw [if_neg h4, if_neg (by omega)]
theorem RowB.set {g k : Nat} {l : List V4} {W : World} (h : RowB g l W) (hk : k < l.length) (x : V4) : RowB g (l.set k x) ((((W.setCell ⟨g, k * 4, none⟩ (.int .i64 x.1)).setCell ⟨g, k * 4 + 1, none⟩ (.int .i64 x.2.1)).setCell ⟨g, k * 4 + 2, none⟩ (.int .i64 x.2.2.1)).setCell ⟨g, k * 4 + 3, none⟩ (.string x.2.2.2)) := by
  obtain ⟨h0, cur, h1, h2⟩ := h
  refine ⟨by simpa using h0, _, heapSet (heapSet (heapSet (heapSet h1 _ _) _ _) _ _) _ _, fun j hj => ?_⟩
  rw [List.length_set] at hj
  have hs : ∀ i, i < l.length * 4 → i < cur.size := fun i hi => by
    have e := h2 i hi
    have : (rowC l)[i]? ≠ none := by rw [List.getElem?_eq_getElem (by rw [rowC_len]; exact hi)]; simp
    rw [← e] at this
    exact Nat.lt_of_not_le (fun hle => this (Array.getElem?_eq_none_iff.2 hle))
  rw [rowC_set l k x j hk]
  have a0 := hs (k * 4) (by omega)
  have a1 := hs (k * 4 + 1) (by omega)
  have a2 := hs (k * 4 + 2) (by omega)
  have a3 := hs (k * 4 + 3) (by omega)
  simp only [Array.getElem?_setIfInBounds, Array.size_setIfInBounds]
  by_cases e3 : j = k * 4 + 3
  · subst e3; rw [if_pos rfl, if_pos a3, if_neg (by omega), if_neg (by omega), if_neg (by omega), if_pos rfl]
  · rw [if_neg (by omega)]
    by_cases e2 : j = k * 4 + 2
    · subst e2; rw [if_pos rfl, if_pos a2, if_neg (by omega), if_neg (by omega), if_pos rfl]
    · rw [if_neg (by omega)]
      by_cases e1 : j = k * 4 + 1
      · subst e1; rw [if_pos rfl, if_pos a1, if_neg (by omega), if_pos rfl]
      · rw [if_neg (by omega)]
        by_cases e0 : j = k * 4
        · subst e0; rw [if_pos rfl, if_pos a0, if_pos rfl]
        · rw [if_neg (by omega), if_neg e0, if_neg e1, if_neg e2, if_neg e3]; exact h2 j hj
/-- four values that Make may make; whatever the world -/
def MkA (l : List V4) (_ : World) : Prop := l.length = 4 ∧ ∀ x ∈ l, MkV x
theorem MkA.call {l : List V4} {W W' : World} (h : MkA l W) (_ : Below W.heap.size W W') : MkA l W' := h
theorem row4c (gc : Nat) (p : Option Addr) (ncap : Nat) (zs : List Int) (w : World) (hC : ColsOf (.slice (some ⟨gc, 0, none⟩) 4 4) cols4 w) (hz : IntsP p zs w) :
    Calls Try.prog 18 #[.agg #[.string ⟨#[116]⟩, .slice (some ⟨gc, 0, none⟩) 4 4, .int .i64 0, N0, .int .i64 0, .string S0, .int .i64 0, .int .i64 0, .int .i64 0, .string S0, N0, N0], .slice p zs.length ncap, .string S0] w fun e W => ∃ g cap l, e = .returned (.slice (some ⟨g, 0, none⟩) 4 cap) ∧ Hid (RowB g l W) ∧ Hid (MkA l W) ∧ Hid (GeB w.heap.size g W) ∧ Below w.heap.size w W := by
  refine (row4_any (.string ⟨#[116]⟩) (.int .i64 0) N0 (.int .i64 0) (.string S0) (.int .i64 0) (.int .i64 0) (.int .i64 0) (.string S0) N0 N0 gc 4 cols4 p ncap zs S0 w hC (by decide) hz (by decide)).mono ?_
  rintro e W ⟨v, rfl, l, hl, hm, ho, hb⟩
  have hl4 : l.length = 4 := hl
  obtain ⟨g, cap, cur, rfl, hge, hgb, hc, hr⟩ := row_own (by omega) ho (by rintro rfl; simp at hl4)
  exact ⟨g, cap, l, by rw [hl4], ⟨by omega, cur, hgb, hc⟩, ⟨hl4, hm⟩, (Nat.le_of_succ_le hge : _), hb⟩
/-- a column's name, by its place -/
def NMk : Nat → ByteArray
  | 0 => ⟨#[97]⟩
  | 1 => ⟨#[98]⟩
  | 2 => ⟨#[99]⟩
  | _ => ⟨#[100]⟩
theorem nmk_col (k : Nat) (hk : k < 4) : (cols4[k]'hk).1 = NMk k := by
  match k, hk with
  | 0, _ => rfl
  | 1, _ => rfl
  | 2, _ => rfl
  | 3, _ => rfl
theorem nmk_val (k : Nat) (l : List V4) (hl : l.length = 4) (hk : k < 4) : valR (NMk k) cols4 l = (l[k]'(by omega), 0) ∧ valFrom (NMk k) cols4 l = some (l[k]'(by omega)) := by
  match l, hl with
  | [x, y, p, q], _ =>
    have key : valR (NMk k) cols4 [x, y, p, q] = ([x, y, p, q][k]'(by simpa using hk), 0) := by
      match k, hk with
      | 0, _ => exact nm_a x y p q
      | 1, _ => exact nm_b x y p q
      | 2, _ => exact nm_c x y p q
      | 3, _ => exact nm_d x y p q
    refine ⟨key, ?_⟩
    unfold valR at key
    split at key
    · rename_i v hv; rw [hv]; simp at key; rw [key]
    · simp at key
def NU (v : V4) : V4 := valT (truR 5 v Z4 (cmpR 5 v Z4))
def EQ (v u : V4) : V4 := valT (truR 9 v u (cmpR 9 v u))
theorem ev_nul {cs : List C3} {vs : List V4} {a : Ex} {x : V4} (ha : evalR cs vs a = (x, 0)) : evalR cs vs (oneX 5 a) = (NU x, 0) := by
  rw [ev_one 5 ha]; rfl
theorem ev_eq9 {cs : List C3} {vs : List V4} {a b : Ex} {x y : V4} (ha : evalR cs vs a = (x, 0)) (hb : evalR cs vs b = (y, 0)) : evalR cs vs (twoX 9 a b) = (EQ x y, 0) := by
  rw [ev_two 9 ha hb]; rfl
theorem eq_self (v : V4) : EQ v v = rcmpV 9 v v := by
  have o1 : ordV v.1 v.2.1 v.2.2.1 v.2.2.2 v.1 v.2.1 v.2.2.1 v.2.2.2 = 0 := by unfold ordV; simp [cmpI_same, cmpS_same]
  have o2 : rordV v.1 v.2.1 v.2.2.1 v.2.2.2 v.1 v.2.1 v.2.2.1 v.2.2.2 = 0 := by unfold rordV; simp [cmpI_same, cmpS_same]
  have e1 : EQ v v = valT (cmpT 9 (oneK v.1 v.1) (oneK v.1 v.1) (oneK v.1 v.1 && decide ((0 : Int) < 0))) := by
    show valT (cmpR 9 v v) = _
    unfold cmpR
    rw [o1]
    simp
  have e2 : rcmpV 9 v v = rtru (rkB v.1 v.1) (rkB v.1 v.1) := by
    unfold rcmpV
    rw [o2]
    simp
  rw [e1, e2]
  have e3 : oneK v.1 v.1 = rkB v.1 v.1 := by unfold oneK rkB; simp
  rw [e3]
  cases rkB v.1 v.1 <;> decide +kernel
end Go.Proofs.Ytliefgkhpgigaaa
