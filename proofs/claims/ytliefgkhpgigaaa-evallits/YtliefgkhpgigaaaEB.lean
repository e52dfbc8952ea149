/-
  What package eval's fold returns of ints: an expression's fold.
-/
import Derived.Test.YtliefgkhpgigaaaEA
import Derived.Test.YtliefgkhpgigaaaM
import Derived.Test.YtliefgkhpgigaaaRows
import Derived.WalkKit
import Derived.WalkSpells
import Derived.Deep.RegionHeld3
import Derived.Deep.DrawnRows
import Derived.Deep.AppendLies
import Derived.Shelf.Abstract
import Derived.RangeFuncBox
namespace Go.Proofs.Ytliefgkhpgigaaa
open Go.RowKit
set_option linter.unusedSimpArgs false
set_option linter.unusedVariables false

abbrev frC (r : Fr Int) : List Value := [.int .i64 r.e.k, .string r.e.nm, .int .i64 r.e.v.1, .int .i64 r.e.v.2.1, .int .i64 r.e.v.2.2.1, .string r.e.v.2.2.2, r.lv, .int .i64 (r.d : Int), .int .i64 r.a, .int .i64 r.b]
def cellsF (l : List (Fr Int)) : List Value := l.flatMap frC
theorem cellsF_snoc (l : List (Fr Int)) (r : Fr Int) : cellsF (l ++ [r]) = cellsF l ++ frC r := by simp [cellsF]
theorem cellsF_len (l : List (Fr Int)) : (cellsF l).length = l.length * 10 := by
  induction l with
  | nil => rfl
  | cons x l ih => simp [cellsF] at ih ⊢; omega
theorem info_stepI : (Try.prog.info? 101).map (fun i => (i.zero, i.size, i.bytes)) = some (some (.agg #[.int .i64 0, .string ⟨#[]⟩, .int .i64 0, .int .i64 0, .int .i64 0, .string ⟨#[]⟩, .slice none 0 0, .int .i64 0, .int .i64 0, .int .i64 0]), 10, 112) := by kernel_rfl
theorem infoParts {o : Option TypeInfo} {z : Value} {s b : Nat} (h : o.map (fun i => (i.zero, i.size, i.bytes)) = some (some z, s, b)) : ∃ i, o = some i ∧ i.zero = some z ∧ i.size = s ∧ i.bytes = b := by
  cases o with
  | none => cases h
  | some i => simp at h; exact ⟨i, rfl, h.1, h.2.1, h.2.2⟩
/-- the stack, the variable x, what lies below -/
structure St (w : World) (Pd : Ex → Prop) (st : List (Fr Int)) (v : Value) (xc : Array Value) (W : World) : Prop where
  row : W.ownsRow (w.heap.size + 1) 101 10 v st.length (cellsF st)
  box : W.heap[w.heap.size]? = some (.cells xc 31 (0, 0))
  below : Below w.heap.size w W
  rep : ∀ r ∈ st, Rep r.e r.lv w ∧ Pd r.e
  deep : ∀ i r, st[i]? = some r → i + r.e.deep ≤ 1000
  seven : xc.size = 7
section
variable {w : World} {Pd : Ex → Prop} {st : List (Fr Int)} {v : Value} {xc : Array Value} {W : World}
theorem St.cellx (h : St w Pd st v xc W) (j : Nat) : W.cell? ⟨w.heap.size, j, none⟩ = xc[j]? := cell_of_row W _ j xc _ _ h.box
theorem St.size (h : St w Pd st v xc W) : w.heap.size + 1 ≤ W.heap.size := (Array.getElem?_eq_some_iff.1 h.box).1
theorem St.own (h : St w Pd st v xc W) {k : Nat} (e : v.ownBlock = some k) : w.heap.size + 1 ≤ k := by
  rcases h.row.2 with ⟨rfl, _⟩ | ⟨g, cap, cur, rfl, hge, _⟩
  · cases e
  · cases e; exact hge
theorem St.call (h : St w Pd st v xc W) {W' : World} (hb : Below W.heap.size W W') : St w Pd st v xc W' := by
  refine ⟨⟨h.row.1, ?_⟩, (hb.block _ (Array.getElem?_eq_some_iff.1 h.box).1).trans h.box, h.below.trans (hb.mono h.below.size), h.rep, h.deep, h.seven⟩
  rcases h.row.2 with h0 | ⟨g, cap, cur, hv, hge, hgb, rest⟩
  · exact .inl h0
  · exact .inr ⟨g, cap, cur, hv, hge, (hb.block g (Array.getElem?_eq_some_iff.1 hgb).1).trans hgb, rest⟩
/-- one frame more -/
theorem St.push (h : St w Pd st v xc W) {w1 : World} {o : Obj} {g cap : Nat} {r : Fr Int} (hown : w1.ownsRow (w.heap.size + 1) 101 10 (.slice (some ⟨g, 0, none⟩) (st.length + 1) cap) (st.length + 1) (cellsF st ++ frC r))
    (hgrow : (W.alloc o).grownBy w1 v.ownBlock) (hr : Rep r.e r.lv w) (hp : Pd r.e) (hd : st.length + r.e.deep ≤ 1000) : St w Pd (st ++ [r]) (.slice (some ⟨g, 0, none⟩) (st.length + 1) cap) xc w1 := by
  have hs := h.size
  refine ⟨by rw [cellsF_snoc, List.length_append]; exact hown, ?_, (h.below.alloc h.below.size o).grown hgrow (Nat.le_trans h.below.size (by simp)) (fun j e => Nat.le_of_succ_le (h.own e)), ?_, ?_, h.seven⟩
  · refine (hgrow.block w.heap.size (by simp; omega) (fun e => ?_)).trans ((Below.heap_alloc W o _ (by omega)).trans h.box)
    have := h.own e.symm; omega
  · intro x hx
    rcases List.mem_append.1 hx with hx | hx
    · exact h.rep x hx
    · simp at hx; subst hx; exact ⟨hr, hp⟩
  · intro i x hx
    by_cases hi : i < st.length
    · rw [List.getElem?_append_left hi] at hx; exact h.deep i x hx
    · rw [List.getElem?_append_right (by omega)] at hx
      have : i - st.length = 0 := by
        cases hj : i - st.length with
        | zero => rfl
        | succ j => rw [hj] at hx; simp at hx
      rw [this] at hx; simp at hx; subst hx; omega
end
/-- a frame of the stack, cell by cell -/
theorem St.at {w : World} {Pd : Ex → Prop} {st : List (Fr Int)} {g n cap : Nat} {xc : Array Value} {W : World} (h : St w Pd st (.slice (some ⟨g, 0, none⟩) n cap) xc W) (s0 : List (Fr Int)) (tp : Fr Int) (s1 : List (Fr Int)) (hst : st = s0 ++ tp :: s1) (j : Nat) (hj : j < 10) :
    W.cell? ⟨g, s0.length * 10 + j, none⟩ = (frC tp)[j]? ∧ W.frozen? ⟨g, s0.length * 10 + j, none⟩ = false := by
  obtain ⟨hl, (⟨hv, _⟩ | ⟨g', cap', cur, hv, hB, hgb, h1, h2, h3, ht⟩)⟩ := h.row
  · cases hv
  · cases hv
    have hlen := cellsF_len s0
    have e : cellsF st = cellsF s0 ++ (frC tp ++ cellsF s1) := by rw [hst]; simp [cellsF]
    have hl10 : (frC tp).length = 10 := rfl
    have hn : s0.length * 10 + j < st.length * 10 := by rw [hst]; simp; omega
    refine ⟨?_, by simp [World.frozen?, hgb]⟩
    rw [cell_of_row W g _ cur _ _ hgb]
    have : (cur.toList.take (st.length * 10))[s0.length * 10 + j]? = (frC tp)[j]? := by
      rw [ht, e, List.getElem?_append_right (by omega), hlen, show s0.length * 10 + j - s0.length * 10 = j by omega, List.getElem?_append_left (by omega)]
    rw [List.getElem?_take_of_lt hn] at this
    simpa using this
theorem heapSet {W : World} {g : Nat} {cur : Array Value} {T : TypeId} (h : W.heap[g]? = some (.cells cur T (0, 0))) (j : Nat) (y : Value) : (W.setCell ⟨g, j, none⟩ y).heap[g]? = some (.cells (cur.setIfInBounds j y) T (0, 0)) := by
  obtain ⟨hlt, hk⟩ := Array.getElem?_eq_some_iff.1 h
  show (W.heap.modify g _)[g]? = _
  rw [Array.getElem?_eq_getElem (by rw [Array.size_modify]; exact hlt), Array.getElem_modify_self, hk]
  rfl
theorem St.set {w : World} {Pd : Ex → Prop} {st : List (Fr Int)} {v : Value} {xc : Array Value} {W : World} (h : St w Pd st v xc W) (j : Nat) (y : Value) : St w Pd st v (xc.setIfInBounds j y) (W.setCell ⟨w.heap.size, j, none⟩ y) := by
  refine ⟨?_, heapSet h.box j y, h.below.setCell (p := ⟨w.heap.size, j, none⟩) (Nat.le_refl _) y, h.rep, h.deep, by simpa using h.seven⟩
  refine ⟨h.row.1, ?_⟩
  rcases h.row.2 with h0 | ⟨g, cap, cur, hv, hge, hgb, rest⟩
  · exact .inl h0
  · exact .inr ⟨g, cap, cur, hv, hge, (Below.heap_setCell _ _ _ _ (by simp; omega)).trans hgb, rest⟩
theorem seven_all (xc : Array Value) (hs : xc.size = 7) (y0 y1 y2 y3 y4 y5 y6 : Value) : (((((((xc.setIfInBounds 0 y0).setIfInBounds 1 y1).setIfInBounds 2 y2).setIfInBounds 3 y3).setIfInBounds 4 y4).setIfInBounds 5 y5).setIfInBounds 6 y6) = #[y0, y1, y2, y3, y4, y5, y6] := by
  obtain ⟨l⟩ := xc
  match l, hs with
  | [a0, a1, a2, a3, a4, a5, a6], _ => rfl
theorem St.set7 {w : World} {Pd : Ex → Prop} {st : List (Fr Int)} {v : Value} {xc : Array Value} {W : World} (h : St w Pd st v xc W) (y0 y1 y2 y3 y4 y5 y6 : Value) :
    St w Pd st v #[y0, y1, y2, y3, y4, y5, y6] (((((((W.setCell ⟨w.heap.size, 0, none⟩ y0).setCell ⟨w.heap.size, 1, none⟩ y1).setCell ⟨w.heap.size, 2, none⟩ y2).setCell ⟨w.heap.size, 3, none⟩ y3).setCell ⟨w.heap.size, 4, none⟩ y4).setCell ⟨w.heap.size, 5, none⟩ y5).setCell ⟨w.heap.size, 6, none⟩ y6) := by
  have h7 := ((((((h.set 0 y0).set 1 y1).set 2 y2).set 3 y3).set 4 y4).set 5 y5).set 6 y6
  have e : (((((((xc.setIfInBounds 0 y0).setIfInBounds 1 y1).setIfInBounds 2 y2).setIfInBounds 3 y3).setIfInBounds 4 y4).setIfInBounds 5 y5).setIfInBounds 6 y6) = #[y0, y1, y2, y3, y4, y5, y6] := by
    exact seven_all xc h.seven _ _ _ _ _ _ _
  rw [e] at h7
  exact h7
theorem St.held {w : World} {Pd : Ex → Prop} {st : List (Fr Int)} {v : Value} {xc : Array Value} {W : World} (h : St w Pd st v xc W) (j : Nat) (hj : j < 7) : (∃ y, W.cell? ⟨w.heap.size, j, none⟩ = some y) ∧ W.frozen? ⟨w.heap.size, j, none⟩ = false := by
  refine ⟨⟨xc[j]'(by rw [h.seven]; exact hj), ?_⟩, by simp [World.frozen?, h.box]⟩
  rw [h.cellx j]; exact Array.getElem?_eq_getElem _
theorem kid_rep {w : World} {T : Type} {r : Fr T} {c : Ex} (h : Rep r.e r.lv w) (hk : r.kid = some c) : ∃ gc m cap lc, r.lv = .slice (some ⟨gc, 0, none⟩) m cap ∧ r.d < m ∧ m ≤ 2 ∧ CellsAt gc (r.d * 7) (exC c lc) w ∧ Rep c lc w := by
  obtain ⟨e, lv, d, a, b⟩ := r
  match e, d, hk, h with
  | .one k n v x, 0, hk, h => cases hk; obtain ⟨g, cap, lc, h1, h2, h3⟩ := h; exact ⟨g, 1, cap, lc, h1, Nat.zero_lt_one, by decide, h2, h3⟩
  | .two k n v x y, 0, hk, h => cases hk; obtain ⟨g, cap, la, lb, h1, h2, h3, h4, h5⟩ := h; exact ⟨g, 2, cap, la, h1, Nat.zero_lt_two, by decide, h2, h4⟩
  | .two k n v x y, 1, hk, h => cases hk; obtain ⟨g, cap, la, lb, h1, h2, h3, h4, h5⟩ := h; exact ⟨g, 2, cap, lb, h1, Nat.one_lt_two, by decide, h3, h5⟩
theorem nokid_rep {w : World} {T : Type} {r : Fr T} (h : Rep r.e r.lv w) (hk : r.kid = none) : ∃ p m cap, r.lv = .slice p m cap ∧ m ≤ 2 ∧ m ≤ r.d := by
  obtain ⟨e, lv, d, a, b⟩ := r
  match e, d, hk, h with
  | .leaf k n v, d, _, h => exact ⟨none, 0, 0, h, by decide, Nat.zero_le _⟩
  | .one k n v x, d + 1, _, h => obtain ⟨g, cap, lc, h1, h2, h3⟩ := h; exact ⟨_, 1, cap, h1, by decide, by simp⟩
  | .two k n v x y, d + 2, _, h => obtain ⟨g, cap, la, lb, h1, h2, h3, h4, h5⟩ := h; exact ⟨_, 2, cap, h1, by decide, by simp⟩
theorem kid_deep {T : Type} {r : Fr T} {c : Ex} (hk : r.kid = some c) : c.deep + 1 ≤ r.e.deep := by
  obtain ⟨e, lv, d, a, b⟩ := r
  match e, d, hk with
  | .one k n v x, 0, hk => cases hk; simp [Ex.deep]
  | .two k n v x y, 0, hk => cases hk; simp [Ex.deep]; omega
  | .two k n v x y, 1, hk => cases hk; simp [Ex.deep]; omega
theorem kid_d {T : Type} {r : Fr T} (hk : r.kid ≠ none) : r.d < 2 := by
  obtain ⟨e, lv, d, a, b⟩ := r
  match e, d, hk with
  | .one k n v x, 0, _ => simp
  | .two k n v x y, 0, _ => simp
  | .two k n v x y, 1, _ => simp
  | .leaf k n v, _, hk => exact absurd rfl hk
  | .one k n v x, d + 1, hk => exact absurd rfl hk
  | .two k n v x y, d + 2, hk => exact absurd rfl hk
theorem cells_new10 (W : World) (T : TypeId) (x0 x1 x2 x3 x4 x5 x6 x7 x8 x9 : Value) : ∀ j u, [x0, x1, x2, x3, x4, x5, x6, x7, x8, x9][j]? = some u → (W.alloc (.cells #[x0, x1, x2, x3, x4, x5, x6, x7, x8, x9] T)).cell? (Addr.add ⟨W.heap.size, 0, none⟩ j) = some u := by
  intro j u h
  have hc := cell_of_row _ W.heap.size j _ _ _ (World.alloc_heap_new W (.cells #[x0, x1, x2, x3, x4, x5, x6, x7, x8, x9] T))
  have e : Addr.add ⟨W.heap.size, 0, none⟩ j = ⟨W.heap.size, j, none⟩ := by
    unfold Addr.add
    split
    · rename_i h0; rw [h0]
    · simp only [Nat.zero_add]
  rw [e, hc, ← h]
  simp
def Fin (r : Int × Int) (w : World) (e : Ending) (W : World) : Prop := e = .returned (.tuple #[.int .i64 r.1, .int .i64 r.2]) ∧ Below w.heap.size w W
/-- what holds at the labels: 0: x is to be gone into; 1: the stack's top is to be gone on with -/
def J36 (w : World) (bt : Nat) (e0 : Ex) (lv0 : Value) (Pd : Ex → Prop) (f : Ex → Int → Int → Int × Int) (l n : Nat) (a : Act) (W : World) : Prop :=
  ∃ st v xc, ∃ u : Nat → Value, a = ⟨#[.agg (exC e0 lv0).toArray, .func (.func 37) #[] #[.pointer (some ⟨bt, 0, none⟩)], .pointer (some ⟨w.heap.size, 0, none⟩), undef, .int .i64 0, .int .i64 0, v, u 7, u 8, u 9, u 10, u 11, u 12, u 13, u 14, u 15, u 16, u 17, u 18, u 19, u 20, u 21, u 22, u 23, u 24, u 25, u 26, u 27, u 28, u 29, u 30, u 31, u 32, u 33, u 34, u 35, u 36, u 37, u 38, u 39, u 40, u 41, u 42, u 43, u 44, u 45, u 46, u 47, u 48, u 49, u 50, u 51, u 52, u 53, u 54, u 55, u 56, u 57, u 58, u 59, u 60, u 61, u 62, u 63, u 64, u 65, u 66, u 67, u 68, u 69, u 70, u 71, u 72, u 73, u 74, u 75, u 76, u 77, u 78, u 79, u 80, u 81, u 82, u 83, u 84, u 85, u 86, u 87, u 88, u 89, u 90, u 91, u 92, u 93, u 94, u 95, u 96, u 97], []⟩ ∧ St w Pd st v xc W ∧
    ((l = 0 ∧ (∀ r ∈ st, r.kid ≠ none) ∧ ∃ e lv, xc = (exC e lv).toArray ∧ Rep e lv w ∧ Pd e ∧ st.length + e.deep ≤ 1000 ∧ up 0 f st.reverse (foldF 0 f e) = foldF 0 f e0 ∧ n + 1 = 3 * e.size + (st.map Fr.rem).sum) ∨
     (l = 1 ∧ ∃ s0 tp, st = s0 ++ [tp] ∧ (∀ r ∈ s0, r.kid ≠ none) ∧ up 0 f s0.reverse (contF 0 f tp) = foldF 0 f e0 ∧ n = tp.remTop + (s0.map Fr.rem).sum))

theorem J36.intro {w : World} {bt : Nat} {e0 : Ex} {lv0 : Value} {Pd : Ex → Prop} {f : Ex → Int → Int → Int × Int} {l n : Nat} {W : World} (a : Act) (st : List (Fr Int)) (v : Value) (xc : Array Value)
    (h : a = ⟨#[.agg (exC e0 lv0).toArray, .func (.func 37) #[] #[.pointer (some ⟨bt, 0, none⟩)], .pointer (some ⟨w.heap.size, 0, none⟩), undef, .int .i64 0, .int .i64 0, v, a.tmps.getD 7 undef, a.tmps.getD 8 undef, a.tmps.getD 9 undef, a.tmps.getD 10 undef, a.tmps.getD 11 undef, a.tmps.getD 12 undef, a.tmps.getD 13 undef, a.tmps.getD 14 undef, a.tmps.getD 15 undef, a.tmps.getD 16 undef, a.tmps.getD 17 undef, a.tmps.getD 18 undef, a.tmps.getD 19 undef, a.tmps.getD 20 undef, a.tmps.getD 21 undef, a.tmps.getD 22 undef, a.tmps.getD 23 undef, a.tmps.getD 24 undef, a.tmps.getD 25 undef, a.tmps.getD 26 undef, a.tmps.getD 27 undef, a.tmps.getD 28 undef, a.tmps.getD 29 undef, a.tmps.getD 30 undef, a.tmps.getD 31 undef, a.tmps.getD 32 undef, a.tmps.getD 33 undef, a.tmps.getD 34 undef, a.tmps.getD 35 undef, a.tmps.getD 36 undef, a.tmps.getD 37 undef, a.tmps.getD 38 undef, a.tmps.getD 39 undef, a.tmps.getD 40 undef, a.tmps.getD 41 undef, a.tmps.getD 42 undef, a.tmps.getD 43 undef, a.tmps.getD 44 undef, a.tmps.getD 45 undef, a.tmps.getD 46 undef, a.tmps.getD 47 undef, a.tmps.getD 48 undef, a.tmps.getD 49 undef, a.tmps.getD 50 undef, a.tmps.getD 51 undef, a.tmps.getD 52 undef, a.tmps.getD 53 undef, a.tmps.getD 54 undef, a.tmps.getD 55 undef, a.tmps.getD 56 undef, a.tmps.getD 57 undef, a.tmps.getD 58 undef, a.tmps.getD 59 undef, a.tmps.getD 60 undef, a.tmps.getD 61 undef, a.tmps.getD 62 undef, a.tmps.getD 63 undef, a.tmps.getD 64 undef, a.tmps.getD 65 undef, a.tmps.getD 66 undef, a.tmps.getD 67 undef, a.tmps.getD 68 undef, a.tmps.getD 69 undef, a.tmps.getD 70 undef, a.tmps.getD 71 undef, a.tmps.getD 72 undef, a.tmps.getD 73 undef, a.tmps.getD 74 undef, a.tmps.getD 75 undef, a.tmps.getD 76 undef, a.tmps.getD 77 undef, a.tmps.getD 78 undef, a.tmps.getD 79 undef, a.tmps.getD 80 undef, a.tmps.getD 81 undef, a.tmps.getD 82 undef, a.tmps.getD 83 undef, a.tmps.getD 84 undef, a.tmps.getD 85 undef, a.tmps.getD 86 undef, a.tmps.getD 87 undef, a.tmps.getD 88 undef, a.tmps.getD 89 undef, a.tmps.getD 90 undef, a.tmps.getD 91 undef, a.tmps.getD 92 undef, a.tmps.getD 93 undef, a.tmps.getD 94 undef, a.tmps.getD 95 undef, a.tmps.getD 96 undef, a.tmps.getD 97 undef], []⟩) (hS : St w Pd st v xc W)
    (hc : (l = 0 ∧ (∀ r ∈ st, r.kid ≠ none) ∧ ∃ e lv, xc = (exC e lv).toArray ∧ Rep e lv w ∧ Pd e ∧ st.length + e.deep ≤ 1000 ∧ up 0 f st.reverse (foldF 0 f e) = foldF 0 f e0 ∧ n + 1 = 3 * e.size + (st.map Fr.rem).sum) ∨
     (l = 1 ∧ ∃ s0 tp, st = s0 ++ [tp] ∧ (∀ r ∈ s0, r.kid ≠ none) ∧ up 0 f s0.reverse (contF 0 f tp) = foldF 0 f e0 ∧ n = tp.remTop + (s0.map Fr.rem).sum)) : J36 w bt e0 lv0 Pd f l n a W :=
  ⟨st, v, xc, fun i => a.tmps.getD i undef, h, hS, hc⟩
theorem rep_slice {e : Ex} {lv : Value} {w : World} (h : Rep e lv w) : ∃ p m c, lv = .slice p m c := by
  cases e with
  | leaf => exact ⟨_, _, _, h⟩
  | one => obtain ⟨g, cap, lc, h1, _⟩ := h; exact ⟨_, _, _, h1⟩
  | two => obtain ⟨g, cap, la, lb, h1, _⟩ := h; exact ⟨_, _, _, h1⟩
abbrev HOf (f : Ex → Int → Int → Int × Int) (Pd : Ex → Prop) (bt : Nat) (w : World) : Prop := ∀ (r : Ex) (lr : Value) (a b : Int) (W : World), Pd r → Rep r lr w → Below w.heap.size w W → Calls Try.prog 37 #[.agg (exC r lr).toArray, .int .i64 a, .int .i64 b, .pointer (some ⟨bt, 0, none⟩)] W fun x W' => x = .returned (.tuple #[.int .i64 (f r a b).1, .int .i64 (f r a b).2]) ∧ Below W.heap.size W W'
abbrev PQ (f : Ex → Int → Int → Int × Int) (e0 : Ex) (w : World) : Exit → Act → World → Prop := bodyPost Try.prog Try.f36 (Fin (foldF 0 f e0) w)
end Go.Proofs.Ytliefgkhpgigaaa
