/-
  What package eval's fold returns of values: its stack, what holds at its labels.
-/
import Derived.Test.YtliefgkhpgigaaaEB
namespace Go.Proofs.Ytliefgkhpgigaaa
open Go.RowKit
set_option linter.unusedSimpArgs false
set_option linter.unusedVariables false

abbrev Z4 : V4 := (0, 0, 0, ⟨#[]⟩)
abbrev vC (v : V4) : List Value := [.int .i64 v.1, .int .i64 v.2.1, .int .i64 v.2.2.1, .string v.2.2.2]
abbrev frV (r : Fr V4) : List Value := [.int .i64 r.e.k, .string r.e.nm, .int .i64 r.e.v.1, .int .i64 r.e.v.2.1, .int .i64 r.e.v.2.2.1, .string r.e.v.2.2.2, r.lv, .int .i64 (r.d : Int), .int .i64 r.a.1, .int .i64 r.a.2.1, .int .i64 r.a.2.2.1, .string r.a.2.2.2, .int .i64 r.b.1, .int .i64 r.b.2.1, .int .i64 r.b.2.2.1, .string r.b.2.2.2]
def cellsV (l : List (Fr V4)) : List Value := l.flatMap frV
theorem cellsV_snoc (l : List (Fr V4)) (r : Fr V4) : cellsV (l ++ [r]) = cellsV l ++ frV r := by simp [cellsV]
theorem cellsV_len (l : List (Fr V4)) : (cellsV l).length = l.length * 16 := by
  induction l with
  | nil => rfl
  | cons x l ih => simp [cellsV] at ih ⊢; omega
theorem info_stepV : (Try.prog.info? 111).map (fun i => (i.zero, i.size, i.bytes)) = some (some (.agg #[.int .i64 0, .string ⟨#[]⟩, .int .i64 0, .int .i64 0, .int .i64 0, .string ⟨#[]⟩, .slice none 0 0, .int .i64 0, .int .i64 0, .int .i64 0, .int .i64 0, .string ⟨#[]⟩, .int .i64 0, .int .i64 0, .int .i64 0, .string ⟨#[]⟩]), 16, 176) := by kernel_rfl
/-- the stack, the variable x, the result's cell, what lies below -/
structure StV (w : World) (Pd : Ex → Prop) (Pv : V4 → Prop) (st : List (Fr V4)) (v : Value) (xc : Array Value) (W : World) : Prop where
  row : W.ownsRow (w.heap.size + 2) 111 16 v st.length (cellsV st)
  box : W.heap[w.heap.size]? = some (.cells xc 31 (0, 0))
  res : W.heap[w.heap.size + 1]? = some (.cells #[.int .i64 0, .int .i64 0, .int .i64 0, .string ⟨#[]⟩] 28 (0, 0))
  below : Below w.heap.size w W
  rep : ∀ r ∈ st, Rep r.e r.lv w ∧ Pd r.e ∧ Pv r.a ∧ Pv r.b
  deep : ∀ i r, st[i]? = some r → i + r.e.deep ≤ 1000
  seven : xc.size = 7
section
variable {w : World} {Pd : Ex → Prop} {Pv : V4 → Prop} {st : List (Fr V4)} {v : Value} {xc : Array Value} {W : World}
theorem StV.cellx (h : StV w Pd Pv st v xc W) (j : Nat) : W.cell? ⟨w.heap.size, j, none⟩ = xc[j]? := cell_of_row W _ j xc _ _ h.box
theorem StV.size (h : StV w Pd Pv st v xc W) : w.heap.size + 2 ≤ W.heap.size := (Array.getElem?_eq_some_iff.1 h.res).1
theorem StV.own (h : StV w Pd Pv st v xc W) {k : Nat} (e : v.ownBlock = some k) : w.heap.size + 2 ≤ k := by
  rcases h.row.2 with ⟨rfl, _⟩ | ⟨g, cap, cur, rfl, hge, _⟩
  · cases e
  · cases e; exact hge
theorem StV.call (h : StV w Pd Pv st v xc W) {W' : World} (hb : Below W.heap.size W W') : StV w Pd Pv st v xc W' := by
  refine ⟨⟨h.row.1, ?_⟩, (hb.block _ (Array.getElem?_eq_some_iff.1 h.box).1).trans h.box, (hb.block _ (Array.getElem?_eq_some_iff.1 h.res).1).trans h.res, h.below.trans (hb.mono h.below.size), h.rep, h.deep, h.seven⟩
  rcases h.row.2 with h0 | ⟨g, cap, cur, hv, hge, hgb, rest⟩
  · exact .inl h0
  · exact .inr ⟨g, cap, cur, hv, hge, (hb.block g (Array.getElem?_eq_some_iff.1 hgb).1).trans hgb, rest⟩
/-- a block that is none of these turned -/
theorem StV.else (h : StV w Pd Pv st v xc W) {b : Nat} (hb : w.heap.size + 2 ≤ b) (hne : v.ownBlock ≠ some b) (j : Nat) (y : Value) : StV w Pd Pv st v xc (W.setCell ⟨b, j, none⟩ y) := by
  refine ⟨⟨h.row.1, ?_⟩, (Below.heap_setCell _ _ _ _ (by simp; omega)).trans h.box, (Below.heap_setCell _ _ _ _ (by simp; omega)).trans h.res, h.below.setCell (p := ⟨b, j, none⟩) (by simp; omega) y, h.rep, h.deep, h.seven⟩
  rcases h.row.2 with h0 | ⟨g, cap, cur, hv, hge, hgb, rest⟩
  · exact .inl h0
  · refine .inr ⟨g, cap, cur, hv, hge, (Below.heap_setCell _ _ _ _ ?_).trans hgb, rest⟩
    intro e; apply hne; rw [hv]; simp at e; rw [e]; rfl
/-- one frame more -/
theorem StV.push (h : StV w Pd Pv st v xc W) {w1 : World} {o : Obj} {g cap : Nat} {r : Fr V4} (hown : w1.ownsRow (w.heap.size + 2) 111 16 (.slice (some ⟨g, 0, none⟩) (st.length + 1) cap) (st.length + 1) (cellsV st ++ frV r))
    (hgrow : (W.alloc o).grownBy w1 v.ownBlock) (hr : Rep r.e r.lv w) (hp : Pd r.e) (ha : Pv r.a) (hb : Pv r.b) (hd : st.length + r.e.deep ≤ 1000) : StV w Pd Pv (st ++ [r]) (.slice (some ⟨g, 0, none⟩) (st.length + 1) cap) xc w1 := by
  have hs := h.size
  refine ⟨by rw [cellsV_snoc, List.length_append]; exact hown, ?_, ?_, (h.below.alloc h.below.size o).grown hgrow (Nat.le_trans h.below.size (by simp)) (fun j e => Nat.le_of_succ_le (Nat.le_of_succ_le (h.own e))), ?_, ?_, h.seven⟩
  · refine (hgrow.block w.heap.size (by simp; omega) (fun e => ?_)).trans ((Below.heap_alloc W o _ (by omega)).trans h.box)
    have := h.own e.symm; omega
  · refine (hgrow.block (w.heap.size + 1) (by simp; omega) (fun e => ?_)).trans ((Below.heap_alloc W o _ (by omega)).trans h.res)
    have := h.own e.symm; omega
  · intro x hx
    rcases List.mem_append.1 hx with hx | hx
    · exact h.rep x hx
    · simp at hx; subst hx; exact ⟨hr, hp, ha, hb⟩
  · intro i x hx
    by_cases hi : i < st.length
    · rw [List.getElem?_append_left hi] at hx; exact h.deep i x hx
    · rw [List.getElem?_append_right (by omega)] at hx
      have : i - st.length = 0 := by
        cases hj : i - st.length with
        | zero => rfl
        | succ j => rw [hj] at hx; simp at hx
      rw [this] at hx; simp at hx; subst hx; omega
end
/-- a frame of the stack, cell by cell -/
theorem StV.at {w : World} {Pd : Ex → Prop} {Pv : V4 → Prop} {st : List (Fr V4)} {g n cap : Nat} {xc : Array Value} {W : World} (h : StV w Pd Pv st (.slice (some ⟨g, 0, none⟩) n cap) xc W) (s0 : List (Fr V4)) (tp : Fr V4) (s1 : List (Fr V4)) (hst : st = s0 ++ tp :: s1) (j : Nat) (hj : j < 16) :
    W.cell? ⟨g, s0.length * 16 + j, none⟩ = (frV tp)[j]? ∧ W.frozen? ⟨g, s0.length * 16 + j, none⟩ = false := by
  obtain ⟨hl, (⟨hv, _⟩ | ⟨g', cap', cur, hv, hB, hgb, h1, h2, h3, ht⟩)⟩ := h.row
  · cases hv
  · cases hv
    have hlen := cellsV_len s0
    have e : cellsV st = cellsV s0 ++ (frV tp ++ cellsV s1) := by rw [hst]; simp [cellsV]
    have hl10 : (frV tp).length = 16 := rfl
    have hn : s0.length * 16 + j < st.length * 16 := by rw [hst]; simp; omega
    refine ⟨?_, by simp [World.frozen?, hgb]⟩
    rw [cell_of_row W g _ cur _ _ hgb]
    have : (cur.toList.take (st.length * 16))[s0.length * 16 + j]? = (frV tp)[j]? := by
      rw [ht, e, List.getElem?_append_right (by omega), hlen, show s0.length * 16 + j - s0.length * 16 = j by omega, List.getElem?_append_left (by omega)]
    rw [List.getElem?_take_of_lt hn] at this
    simpa using this
section
variable {w : World} {Pd : Ex → Prop} {Pv : V4 → Prop} {st : List (Fr V4)} {v : Value} {xc : Array Value} {W : World}
theorem StV.set (h : StV w Pd Pv st v xc W) (j : Nat) (y : Value) : StV w Pd Pv st v (xc.setIfInBounds j y) (W.setCell ⟨w.heap.size, j, none⟩ y) := by
  refine ⟨?_, heapSet h.box j y, (Below.heap_setCell _ _ _ _ (by simp)).trans h.res, h.below.setCell (p := ⟨w.heap.size, j, none⟩) (Nat.le_refl _) y, h.rep, h.deep, by simpa using h.seven⟩
  refine ⟨h.row.1, ?_⟩
  rcases h.row.2 with h0 | ⟨g, cap, cur, hv, hge, hgb, rest⟩
  · exact .inl h0
  · exact .inr ⟨g, cap, cur, hv, hge, (Below.heap_setCell _ _ _ _ (by simp; omega)).trans hgb, rest⟩
theorem StV.set7 (h : StV w Pd Pv st v xc W) (y0 y1 y2 y3 y4 y5 y6 : Value) :
    StV w Pd Pv st v #[y0, y1, y2, y3, y4, y5, y6] (((((((W.setCell ⟨w.heap.size, 0, none⟩ y0).setCell ⟨w.heap.size, 1, none⟩ y1).setCell ⟨w.heap.size, 2, none⟩ y2).setCell ⟨w.heap.size, 3, none⟩ y3).setCell ⟨w.heap.size, 4, none⟩ y4).setCell ⟨w.heap.size, 5, none⟩ y5).setCell ⟨w.heap.size, 6, none⟩ y6) := by
  have h7 := ((((((h.set 0 y0).set 1 y1).set 2 y2).set 3 y3).set 4 y4).set 5 y5).set 6 y6
  rw [seven_all xc h.seven _ _ _ _ _ _ _] at h7
  exact h7
theorem StV.held (h : StV w Pd Pv st v xc W) (j : Nat) (hj : j < 7) : (∃ y, W.cell? ⟨w.heap.size, j, none⟩ = some y) ∧ W.frozen? ⟨w.heap.size, j, none⟩ = false := by
  refine ⟨⟨xc[j]'(by rw [h.seven]; exact hj), ?_⟩, by simp [World.frozen?, h.box]⟩
  rw [h.cellx j]; exact Array.getElem?_eq_getElem _
end
theorem cells_new16 (W : World) (T : TypeId) (x0 x1 x2 x3 x4 x5 x6 x7 x8 x9 x10 x11 x12 x13 x14 x15 : Value) : ∀ j u, [x0, x1, x2, x3, x4, x5, x6, x7, x8, x9, x10, x11, x12, x13, x14, x15][j]? = some u → (W.alloc (.cells #[x0, x1, x2, x3, x4, x5, x6, x7, x8, x9, x10, x11, x12, x13, x14, x15] T)).cell? (Addr.add ⟨W.heap.size, 0, none⟩ j) = some u := by
  intro j u h
  have hc := cell_of_row _ W.heap.size j _ _ _ (World.alloc_heap_new W (.cells #[x0, x1, x2, x3, x4, x5, x6, x7, x8, x9, x10, x11, x12, x13, x14, x15] T))
  have e : Addr.add ⟨W.heap.size, 0, none⟩ j = ⟨W.heap.size, j, none⟩ := by
    unfold Addr.add
    split
    · rename_i h0; rw [h0]
    · simp only [Nat.zero_add]
  rw [e, hc, ← h]
  simp
def FinV (r : V4 × Int) (w : World) (e : Ending) (W : World) : Prop := e = .returned (.tuple #[.agg (vC r.1).toArray, .int .i64 r.2]) ∧ Below w.heap.size w W
/-- what holds at the labels: 0: x is to be gone into; 1: the stack's top is to be gone on with -/
def J44 (w : World) (bt br : Nat) (e0 : Ex) (lv0 : Value) (Pd : Ex → Prop) (Pv : V4 → Prop) (f : Ex → V4 → V4 → V4 × Int) (l n : Nat) (a : Act) (W : World) : Prop :=
  ∃ st v xc, ∃ u : Nat → Value, a = ⟨#[.agg (exC e0 lv0).toArray, .func (.func 45) #[] #[.pointer (some ⟨bt, 0, none⟩), .pointer (some ⟨br, 0, none⟩)], .pointer (some ⟨w.heap.size, 0, none⟩), undef, .pointer (some ⟨w.heap.size + 1, 0, none⟩), .int .i64 0, v, u 7, u 8, u 9, u 10, u 11, u 12, u 13, u 14, u 15, u 16, u 17, u 18, u 19, u 20, u 21, u 22, u 23, u 24, u 25, u 26, u 27, u 28, u 29, u 30, u 31, u 32, u 33, u 34, u 35, u 36, u 37, u 38, u 39, u 40, u 41, u 42, u 43, u 44, u 45, u 46, u 47, u 48, u 49, u 50, u 51, u 52, u 53, u 54, u 55, u 56, u 57, u 58, u 59, u 60, u 61, u 62, u 63, u 64, u 65, u 66, u 67, u 68, u 69, u 70, u 71, u 72, u 73, u 74, u 75, u 76, u 77, u 78, u 79, u 80, u 81, u 82, u 83, u 84, u 85, u 86, u 87, u 88, u 89, u 90, u 91, u 92, u 93, u 94, u 95, u 96, u 97], []⟩ ∧ StV w Pd Pv st v xc W ∧
    ((l = 0 ∧ (∀ r ∈ st, r.kid ≠ none) ∧ ∃ e lv, xc = (exC e lv).toArray ∧ Rep e lv w ∧ Pd e ∧ st.length + e.deep ≤ 1000 ∧ up Z4 f st.reverse (foldF Z4 f e) = foldF Z4 f e0 ∧ n + 1 = 3 * e.size + (st.map Fr.rem).sum) ∨
     (l = 1 ∧ ∃ s0 tp, st = s0 ++ [tp] ∧ (∀ r ∈ s0, r.kid ≠ none) ∧ up Z4 f s0.reverse (contF Z4 f tp) = foldF Z4 f e0 ∧ n = tp.remTop + (s0.map Fr.rem).sum))

theorem J44.intro {w : World} {bt br : Nat} {e0 : Ex} {lv0 : Value} {Pd : Ex → Prop} {Pv : V4 → Prop} {f : Ex → V4 → V4 → V4 × Int} {l n : Nat} {W : World} (a : Act) (st : List (Fr V4)) (v : Value) (xc : Array Value)
    (h : a = ⟨#[.agg (exC e0 lv0).toArray, .func (.func 45) #[] #[.pointer (some ⟨bt, 0, none⟩), .pointer (some ⟨br, 0, none⟩)], .pointer (some ⟨w.heap.size, 0, none⟩), undef, .pointer (some ⟨w.heap.size + 1, 0, none⟩), .int .i64 0, v, a.tmps.getD 7 undef, a.tmps.getD 8 undef, a.tmps.getD 9 undef, a.tmps.getD 10 undef, a.tmps.getD 11 undef, a.tmps.getD 12 undef, a.tmps.getD 13 undef, a.tmps.getD 14 undef, a.tmps.getD 15 undef, a.tmps.getD 16 undef, a.tmps.getD 17 undef, a.tmps.getD 18 undef, a.tmps.getD 19 undef, a.tmps.getD 20 undef, a.tmps.getD 21 undef, a.tmps.getD 22 undef, a.tmps.getD 23 undef, a.tmps.getD 24 undef, a.tmps.getD 25 undef, a.tmps.getD 26 undef, a.tmps.getD 27 undef, a.tmps.getD 28 undef, a.tmps.getD 29 undef, a.tmps.getD 30 undef, a.tmps.getD 31 undef, a.tmps.getD 32 undef, a.tmps.getD 33 undef, a.tmps.getD 34 undef, a.tmps.getD 35 undef, a.tmps.getD 36 undef, a.tmps.getD 37 undef, a.tmps.getD 38 undef, a.tmps.getD 39 undef, a.tmps.getD 40 undef, a.tmps.getD 41 undef, a.tmps.getD 42 undef, a.tmps.getD 43 undef, a.tmps.getD 44 undef, a.tmps.getD 45 undef, a.tmps.getD 46 undef, a.tmps.getD 47 undef, a.tmps.getD 48 undef, a.tmps.getD 49 undef, a.tmps.getD 50 undef, a.tmps.getD 51 undef, a.tmps.getD 52 undef, a.tmps.getD 53 undef, a.tmps.getD 54 undef, a.tmps.getD 55 undef, a.tmps.getD 56 undef, a.tmps.getD 57 undef, a.tmps.getD 58 undef, a.tmps.getD 59 undef, a.tmps.getD 60 undef, a.tmps.getD 61 undef, a.tmps.getD 62 undef, a.tmps.getD 63 undef, a.tmps.getD 64 undef, a.tmps.getD 65 undef, a.tmps.getD 66 undef, a.tmps.getD 67 undef, a.tmps.getD 68 undef, a.tmps.getD 69 undef, a.tmps.getD 70 undef, a.tmps.getD 71 undef, a.tmps.getD 72 undef, a.tmps.getD 73 undef, a.tmps.getD 74 undef, a.tmps.getD 75 undef, a.tmps.getD 76 undef, a.tmps.getD 77 undef, a.tmps.getD 78 undef, a.tmps.getD 79 undef, a.tmps.getD 80 undef, a.tmps.getD 81 undef, a.tmps.getD 82 undef, a.tmps.getD 83 undef, a.tmps.getD 84 undef, a.tmps.getD 85 undef, a.tmps.getD 86 undef, a.tmps.getD 87 undef, a.tmps.getD 88 undef, a.tmps.getD 89 undef, a.tmps.getD 90 undef, a.tmps.getD 91 undef, a.tmps.getD 92 undef, a.tmps.getD 93 undef, a.tmps.getD 94 undef, a.tmps.getD 95 undef, a.tmps.getD 96 undef, a.tmps.getD 97 undef], []⟩) (hS : StV w Pd Pv st v xc W)
    (hc : ((l = 0 ∧ (∀ r ∈ st, r.kid ≠ none) ∧ ∃ e lv, xc = (exC e lv).toArray ∧ Rep e lv w ∧ Pd e ∧ st.length + e.deep ≤ 1000 ∧ up Z4 f st.reverse (foldF Z4 f e) = foldF Z4 f e0 ∧ n + 1 = 3 * e.size + (st.map Fr.rem).sum) ∨
     (l = 1 ∧ ∃ s0 tp, st = s0 ++ [tp] ∧ (∀ r ∈ s0, r.kid ≠ none) ∧ up Z4 f s0.reverse (contF Z4 f tp) = foldF Z4 f e0 ∧ n = tp.remTop + (s0.map Fr.rem).sum))) : J44 w bt br e0 lv0 Pd Pv f l n a W :=
  ⟨st, v, xc, fun i => a.tmps.getD i undef, h, hS, hc⟩
abbrev HOfV (f : Ex → V4 → V4 → V4 × Int) (Pd : Ex → Prop) (Pv : V4 → Prop) (bt br : Nat) (w : World) : Prop := ∀ (r : Ex) (lr : Value) (a b : V4) (W : World), Pd r → Pv a → Pv b → Rep r lr w → Below w.heap.size w W → Calls Try.prog 45 #[.agg (exC r lr).toArray, .agg (vC a).toArray, .agg (vC b).toArray, .pointer (some ⟨bt, 0, none⟩), .pointer (some ⟨br, 0, none⟩)] W fun x W' => x = .returned (.tuple #[.agg (vC (f r a b).1).toArray, .int .i64 (f r a b).2]) ∧ Below W.heap.size W W'
abbrev PQV (f : Ex → V4 → V4 → V4 × Int) (e0 : Ex) (w : World) : Exit → Act → World → Prop := bodyPost Try.prog Try.f44 (FinV (foldF Z4 f e0) w)
end Go.Proofs.Ytliefgkhpgigaaa
