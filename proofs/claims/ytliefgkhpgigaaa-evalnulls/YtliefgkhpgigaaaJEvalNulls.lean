/-
  What the law EvalNulls needs: its rows, its expressions, its walk.
-/
import Derived.Test.YtliefgkhpgigaaaVRw
import Derived.OpenShut
import Derived.ProofKit
import Derived.Carry
namespace Go.Proofs.Ytliefgkhpgigaaa
open Go.RowKit Go.Shelf
set_option linter.unusedSimpArgs false
set_option linter.unusedVariables false

/-- a row in a block of its own -/
def RowB (g : Nat) (l : List V4) (W : World) : Prop := l.length ≤ 1000 ∧ ∃ cur, W.heap[g]? = some (.cells cur 28 (0, 0)) ∧ ∀ j, j < l.length * 4 → cur[j]? = (rowC l)[j]?
theorem RowB.call {g : Nat} {l : List V4} {W W' : World} (h : RowB g l W) (hb : Below W.heap.size W W') : RowB g l W' := by
  obtain ⟨h0, cur, h1, h2⟩ := h
  exact ⟨h0, cur, (hb.block g (Array.getElem?_eq_some_iff.1 h1).1).trans h1, h2⟩
theorem RowB.row {g : Nat} {l : List V4} {W : World} (h : RowB g l W) : RowOf (some ⟨g, 0, none⟩) l W := by
  obtain ⟨h0, cur, hgb, hc⟩ := h
  refine ⟨h0, fun i hi => ⟨g, rfl, (Array.getElem?_eq_some_iff.1 hgb).1, ?_⟩⟩
  obtain ⟨a1, a2, a3, a4⟩ := rowC_at l i hi
  exact ⟨(cell_of_row W g _ cur _ _ hgb).trans ((hc _ (by omega)).trans a1), (cell_of_row W g _ cur _ _ hgb).trans ((hc _ (by omega)).trans a2), (cell_of_row W g _ cur _ _ hgb).trans ((hc _ (by omega)).trans a3), (cell_of_row W g _ cur _ _ hgb).trans ((hc _ (by omega)).trans a4)⟩
theorem RowB.lt {g : Nat} {l : List V4} {W : World} (h : RowB g l W) : g < W.heap.size := by
  obtain ⟨_, cur, h1, _⟩ := h
  exact (Array.getElem?_eq_some_iff.1 h1).1
theorem RowB.froz {g : Nat} {l : List V4} {W : World} (h : RowB g l W) (j : Nat) : W.frozen? ⟨g, j, none⟩ = false := by
  obtain ⟨_, cur, h1, _⟩ := h
  simp [World.frozen?, h1]
theorem RowB.far {g b : Nat} {l : List V4} {W : World} (h : RowB g l W) (hne : g ≠ b) (j : Nat) (y : Value) : RowB g l (W.setCell ⟨b, j, none⟩ y) := by
  obtain ⟨h0, cur, h1, h2⟩ := h
  exact ⟨h0, cur, (Below.heap_setCell _ _ _ _ (by simp; omega)).trans h1, h2⟩
theorem rowC_set : ∀ (l : List V4) (k : Nat) (x : V4) (j : Nat), k < l.length → (rowC (l.set k x))[j]? = if j = k * 4 then some (.int .i64 x.1) else if j = k * 4 + 1 then some (.int .i64 x.2.1) else if j = k * 4 + 2 then some (.int .i64 x.2.2.1) else if j = k * 4 + 3 then some (.string x.2.2.2) else (rowC l)[j]?
  | [], k, x, j, h => absurd h (by simp)
  | y :: l, 0, x, j, h => by
    show (vC x ++ rowC l)[j]? = _
    match j with
    | 0 => rfl
    | 1 => rfl
    | 2 => rfl
    | 3 => rfl
    | j + 4 =>
      rw [if_neg (by omega), if_neg (by omega), if_neg (by omega), if_neg (by omega)]
      show _ = (vC y ++ rowC l)[j + 4]?
      rw [List.getElem?_append_right (by simp [vC]), List.getElem?_append_right (by simp [vC])]
      rfl
  | y :: l, k + 1, x, j, h => by
    show (vC y ++ rowC (l.set k x))[j]? = _
    have ih := rowC_set l k x (j - 4) (by simpa using h)
    by_cases hj : j < 4
    · rw [if_neg (by omega), if_neg (by omega), if_neg (by omega), if_neg (by omega)]
      show _ = (vC y ++ rowC l)[j]?
      rw [List.getElem?_append_left (by simp [vC]; omega), List.getElem?_append_left (by simp [vC]; omega)]
    · rw [List.getElem?_append_right (by simp [vC]; omega), show (vC y).length = 4 from rfl, ih]
      show _ = if _ then _ else if _ then _ else if _ then _ else if _ then _ else (vC y ++ rowC l)[j]?
      rw [List.getElem?_append_right (by simp [vC]; omega), show (vC y).length = 4 from rfl]
      by_cases h1 : j = (k + 1) * 4
      · rw [if_pos h1, if_pos (by omega)]
      · rw [if_neg h1, if_neg (by omega)]
        by_cases h2 : j = (k + 1) * 4 + 1
        · rw [if_pos h2, if_pos (by omega)]
        · rw [if_neg h2, if_neg (by omega)]
          by_cases h3 : j = (k + 1) * 4 + 2
          · rw [if_pos h3, if_pos (by omega)]
          · rw [if_neg h3, if_neg (by omega)]
            by_cases h4 : j = (k + 1) * 4 + 3
            · rw [if_pos h4, if_pos (by omega)]
            · rw [if_neg h4, if_neg (by omega)]
theorem RowB.set {g k : Nat} {l : List V4} {W : World} (h : RowB g l W) (hk : k < l.length) (x : V4) : RowB g (l.set k x) ((((W.setCell ⟨g, k * 4, none⟩ (.int .i64 x.1)).setCell ⟨g, k * 4 + 1, none⟩ (.int .i64 x.2.1)).setCell ⟨g, k * 4 + 2, none⟩ (.int .i64 x.2.2.1)).setCell ⟨g, k * 4 + 3, none⟩ (.string x.2.2.2)) := by
  obtain ⟨h0, cur, h1, h2⟩ := h
  refine ⟨by simpa using h0, _, heapSet (heapSet (heapSet (heapSet h1 _ _) _ _) _ _) _ _, fun j hj => ?_⟩
  rw [List.length_set] at hj
  have hs : ∀ i, i < l.length * 4 → i < cur.size := fun i hi => by
    have e := h2 i hi
    have : (rowC l)[i]? ≠ none := by rw [List.getElem?_eq_getElem (by rw [rowC_len]; exact hi)]; simp
    rw [← e] at this
    exact Nat.lt_of_not_le (fun hle => this (Array.getElem?_eq_none_iff.2 hle))
  rw [rowC_set l k x j hk]
  have a0 := hs (k * 4) (by omega)
  have a1 := hs (k * 4 + 1) (by omega)
  have a2 := hs (k * 4 + 2) (by omega)
  have a3 := hs (k * 4 + 3) (by omega)
  simp only [Array.getElem?_setIfInBounds, Array.size_setIfInBounds]
  by_cases e3 : j = k * 4 + 3
  · subst e3; rw [if_pos rfl, if_pos a3, if_neg (by omega), if_neg (by omega), if_neg (by omega), if_pos rfl]
  · rw [if_neg (by omega)]
    by_cases e2 : j = k * 4 + 2
    · subst e2; rw [if_pos rfl, if_pos a2, if_neg (by omega), if_neg (by omega), if_pos rfl]
    · rw [if_neg (by omega)]
      by_cases e1 : j = k * 4 + 1
      · subst e1; rw [if_pos rfl, if_pos a1, if_neg (by omega), if_pos rfl]
      · rw [if_neg (by omega)]
        by_cases e0 : j = k * 4
        · subst e0; rw [if_pos rfl, if_pos a0, if_pos rfl]
        · rw [if_neg (by omega), if_neg e0, if_neg e1, if_neg e2, if_neg e3]; exact h2 j hj
end Go.Proofs.Ytliefgkhpgigaaa

namespace Go.Proofs.Ytliefgkhpgigaaa
open Go.RowKit Go.Shelf
set_option linter.unusedSimpArgs false
set_option linter.unusedVariables false

theorem within3_any (x n : Int) (w : World) (hx : Is64 x) (hn : 0 < n ∧ n ≤ 9223372036854775807) :
    Calls Try.prog 34 #[.int .i64 x, .int .i64 n] w fun e w' => e = .returned (.int .i64 (x % n)) ∧ w' = w := by
  have hb := Int.emod_lt_of_pos x hn.1
  have hb' := Int.emod_nonneg x (show n ≠ 0 by omega)
  have hlt := tmod_lt x n hn.1
  have hge := tmod_ge x n hn.1
  have H1 : Hid (x.tmod n < 0 → x.tmod n + n = x % n ∧ -n < x.tmod n) := hlt
  have H2 : Hid (0 ≤ x.tmod n → x.tmod n = x % n) := hge
  clear hlt hge
  go_enter Try.func34, Try.ntmps34
  go_wp2
  · go_ret
    refine ⟨ret_int ?_, rfl⟩
    have := H1.out ‹_›
    rw [this.1]; exact wrap64_is _ (by unfold Is64; omega)
  · go_ret
    exact ⟨ret_int (H2.out ‹_›), rfl⟩
set_option maxRecDepth 100000 in
theorem nameL_any (n : Int) (w : World) (hn : Is64 n) : Calls Try.prog 33 #[.int .i64 n] w fun e W => ∃ s : ByteArray, e = .returned (.string s) ∧ Below w.heap.size w W := by
  have h0 := Int.emod_nonneg n (show (4 : Int) ≠ 0 by decide)
  have h1 := Int.emod_lt_of_pos n (show (0 : Int) < 4 by decide)
  have hm : n % 4 = 0 ∨ n % 4 = 1 ∨ n % 4 = 2 ∨ n % 4 = 3 := by omega
  have CW := hide (fun W => within3_any n 4 W hn (by decide))
  generalize n % 4 = m at *
  clear h0 h1
  go_enter Try.func33, Try.ntmps33
  go_wp2_with fail
  refine (unhide CW _).mono ?_
  rintro e W1 ⟨rfl, rfl⟩
  have hb := Blk.new w #[.string ⟨#[116]⟩, .string ⟨#[117]⟩, .string ⟨#[119, 95, 49]⟩, .string ⟨#[116, 119, 101, 108, 118, 101, 95, 98, 121, 116, 101, 115]⟩] 9
  have gb := below_new w (.cells #[.string ⟨#[116]⟩, .string ⟨#[117]⟩, .string ⟨#[119, 95, 49]⟩, .string ⟨#[116, 119, 101, 108, 118, 101, 95, 98, 121, 116, 101, 115]⟩] 9)
  have lb := hb.lt
  have c0 := hb.cell 0
  have c1 := hb.cell 1
  have c2 := hb.cell 2
  have c3 := hb.cell 3
  simp at c0 c1 c2 c3
  rcases hm with rfl | rfl | rfl | rfl
  all_goals
    go_wp2_with fail
    go_ret
    exact ⟨_, rfl, gb⟩
set_option maxRecDepth 100000 in
theorem colsN_any (w : World) : Calls Try.prog 35 #[] w fun e W => ∃ g, e = .returned (.slice (some ⟨g, 0, none⟩) 6 6) ∧ Hid (Blk g #[.string ⟨#[97]⟩, .string ⟨#[98]⟩, .string ⟨#[99]⟩, .string ⟨#[100]⟩, .string ⟨#[101]⟩, .string ⟨#[102]⟩] 9 W) ∧ Below w.heap.size w W := by
  go_enter Try.func35, Try.ntmps35
  go_wp2_with fail
  go_ret
  exact ⟨_, rfl, hide (Blk.new w #[.string ⟨#[97]⟩, .string ⟨#[98]⟩, .string ⟨#[99]⟩, .string ⟨#[100]⟩, .string ⟨#[101]⟩, .string ⟨#[102]⟩] 9), below_new _ _⟩
theorem one_nil (w : World) : Calls Try.prog 15 #[.slice none 0 0] w fun e W => e = .returned (.agg #[.int .i64 0, .string ⟨#[]⟩, .int .i64 0, .int .i64 0, .int .i64 0, .string ⟨#[]⟩, .slice none 0 0]) ∧ Below w.heap.size w W := by
  go_enter Try.func15, Try.ntmps15
  go_wp2_with fail
  exact bodyPost_ret (v := .agg #[.int .i64 0, .string ⟨#[]⟩, .int .i64 0, .int .i64 0, .int .i64 0, .string ⟨#[]⟩, .slice none 0 0]) (by simp [results, Try.results15, go_sem]) rfl ⟨rfl, below_new _ _⟩
theorem info_col : (Try.prog.info? 63).map (fun i => (i.zero, i.size, i.bytes)) = some (some (.agg #[.string ByteArray.empty, .int .i64 0, .bool false]), 3, 32) := by kernel_rfl
theorem info_int : (Try.prog.info? 3).map (fun i => (i.zero, i.size, i.bytes)) = some (some (.int .i64 0), 1, 8) := by kernel_rfl
theorem info_link : (Try.prog.info? 78).map (fun i => (i.zero, i.size, i.bytes)) = some (some (.agg #[.int .i64 0, .string ByteArray.empty]), 2, 24) := by kernel_rfl
/-- a table as it is being made -/
abbrev tbl (s0 : ByteArray) (cv kv uv lv : Value) : Array Value := #[.string s0, cv, kv, uv, .int .i64 0, .string ⟨#[]⟩, .int .i64 0, .int .i64 0, .int .i64 0, .string ⟨#[]⟩, .slice none 0 0, lv]
def nmK : Nat → ByteArray
  | 0 => ⟨#[97]⟩
  | 1 => ⟨#[98]⟩
  | 2 => ⟨#[99]⟩
  | _ => ⟨#[100]⟩
/-- columns that Table may make -/
def ColsL (l : List C3) : Prop := ∀ i (h : i < l.length), l[i].1 = nmK i ∧ 1 ≤ l[i].2.1 ∧ l[i].2.1 ≤ 5
theorem colsL_snoc {l : List C3} {c : C3} (h : ColsL l) (h1 : c.1 = nmK l.length) (h2 : 1 ≤ c.2.1 ∧ c.2.1 ≤ 5) : ColsL (l ++ [c]) := by
  intro i hi
  by_cases hl : i < l.length
  · rw [List.getElem_append_left hl]; exact h i hl
  · have e : i = l.length := by simp at hi; omega
    subst e
    rw [List.getElem_append_right (Nat.le_refl _)]
    simpa using ⟨h1, h2⟩
theorem colC_snoc : ∀ (l : List C3) (c : C3), colC (l ++ [c]) = colC l ++ [.string c.1, .int .i64 c.2.1, .bool c.2.2]
  | [], c => by simp [colC]
  | y :: l, c => by simp [colC, colC_snoc l c]
theorem colC_len : ∀ l : List C3, (colC l).length = l.length * 3
  | [] => rfl
  | x :: l => by simp [colC, colC_len l]; omega
theorem blk_base {b B : Nat} {cs : Array Value} {T : TypeId} {W W' : World} (h : Blk b cs T W) (hb : Below B W W') (hl : b < B) : Blk b cs T W' := (hb.block b hl).trans h
theorem owns_set {B b : Nat} {W : World} {v : Value} {k n : Nat} {xs : List Value} {T : TypeId} (h : W.ownsRow B T n v k xs) (hb : b < B) (j : Nat) (y : Value) : (W.setCell ⟨b, j, none⟩ y).ownsRow B T n v k xs := by
  refine ⟨h.1, ?_⟩
  rcases h.2 with h0 | ⟨g, cap, cur, hv, hge, hgb, rest⟩
  · exact .inl h0
  · exact .inr ⟨g, cap, cur, hv, hge, (Below.heap_setCell _ _ _ _ (by simp; omega)).trans hgb, rest⟩
def OwC (B : Nat) (cv : Value) (l : List C3) (X : World) : Prop := X.ownsRow B 63 3 cv l.length (colC l)
theorem OwC.call {B : Nat} {cv : Value} {l : List C3} {W W' : World} (h : OwC B cv l W) (hb : Below W.heap.size W W') : OwC B cv l W' := owns_call4 h hb
theorem cells_three_at (W : World) (n : Nat) (hn : W.heap.size = n) (x y z : Value) (T : TypeId) : ∀ j v, [x, y, z][j]? = some v → (W.alloc (.cells #[x, y, z] T)).cell? (Addr.add ⟨n, 0, none⟩ j) = some v := by
  intro j v h
  subst hn
  have hc := cell_of_row _ W.heap.size j _ _ _ (World.alloc_heap_new W (.cells #[x, y, z] T))
  match j, h with
  | 0, h => exact hc.trans h
  | 1, h => exact hc.trans h
  | 2, h => exact hc.trans h
def LeN (n : Nat) (X : World) : Prop := n ≤ X.heap.size
theorem LeN.call {n : Nat} {W W' : World} (h : LeN n W) (hb : Below W.heap.size W W') : LeN n W' := Nat.le_trans h hb.size
end Go.Proofs.Ytliefgkhpgigaaa

namespace Go.Proofs.Ytliefgkhpgigaaa
open Go.RowKit Go.Shelf
set_option linter.unusedSimpArgs false
set_option linter.unusedVariables false

set_option maxHeartbeats 16000000 in
set_option maxRecDepth 100000 in
theorem tbL1 {r0 r1 r2 r3 rest : Code} (hc : Try.f14.body = some (.seq r0 (.seq r1 (.seq r2 (.seq r3 (rest)))))) (w : World) (n0 b6 bt : Nat) (h6t : b6 ≠ bt) (h6 : b6 < n0) (ht : bt < n0) (hw6 : w.heap.size ≤ b6) (hwt : w.heap.size ≤ bt) (n : Int) (p : Option Addr) (np : Nat) (zs : List Int) (k : Nat) (hk4 : k ≤ 4) (s0 : ByteArray) (hzw : Hid (IntsP p zs w)) (K : Act → World → Prop) (Q : Exit → Act → World → Prop) (REST : Hid (∀ (ac : Act) (cv : Value) (l : List C3) (X : World), ac = ⟨#[.int .i64 n, .slice p zs.length np, ac.tmps.getD 2 undef, ac.tmps.getD 3 undef, ac.tmps.getD 4 undef, ac.tmps.getD 5 undef, .pointer (some ⟨b6, 0, none⟩), .pointer (some ⟨bt, 0, none⟩), .int .i64 (k : Int), ac.tmps.getD 9 undef, ac.tmps.getD 10 undef, ac.tmps.getD 11 undef, ac.tmps.getD 12 undef, ac.tmps.getD 13 undef, ac.tmps.getD 14 undef, ac.tmps.getD 15 undef, ac.tmps.getD 16 undef, ac.tmps.getD 17 undef, ac.tmps.getD 18 undef, ac.tmps.getD 19 undef, ac.tmps.getD 20 undef, ac.tmps.getD 21 undef, ac.tmps.getD 22 undef, ac.tmps.getD 23 undef, ac.tmps.getD 24 undef, ac.tmps.getD 25 undef, ac.tmps.getD 26 undef, ac.tmps.getD 27 undef, ac.tmps.getD 28 undef, ac.tmps.getD 29 undef, ac.tmps.getD 30 undef, ac.tmps.getD 31 undef, ac.tmps.getD 32 undef, ac.tmps.getD 33 undef, ac.tmps.getD 34 undef, ac.tmps.getD 35 undef, ac.tmps.getD 36 undef, ac.tmps.getD 37 undef, ac.tmps.getD 38 undef, ac.tmps.getD 39 undef, ac.tmps.getD 40 undef, ac.tmps.getD 41 undef, ac.tmps.getD 42 undef, ac.tmps.getD 43 undef, ac.tmps.getD 44 undef, ac.tmps.getD 45 undef, ac.tmps.getD 46 undef, ac.tmps.getD 47 undef, ac.tmps.getD 48 undef, ac.tmps.getD 49 undef, ac.tmps.getD 50 undef, ac.tmps.getD 51 undef, ac.tmps.getD 52 undef, ac.tmps.getD 53 undef, ac.tmps.getD 54 undef, ac.tmps.getD 55 undef, ac.tmps.getD 56 undef, ac.tmps.getD 57 undef, ac.tmps.getD 58 undef, ac.tmps.getD 59 undef, ac.tmps.getD 60 undef, ac.tmps.getD 61 undef, ac.tmps.getD 62 undef, ac.tmps.getD 63 undef, ac.tmps.getD 64 undef, ac.tmps.getD 65 undef, ac.tmps.getD 66 undef, ac.tmps.getD 67 undef, ac.tmps.getD 68 undef, ac.tmps.getD 69 undef, ac.tmps.getD 70 undef, ac.tmps.getD 71 undef, ac.tmps.getD 72 undef, ac.tmps.getD 73 undef, ac.tmps.getD 74 undef, ac.tmps.getD 75 undef, ac.tmps.getD 76 undef, ac.tmps.getD 77 undef, ac.tmps.getD 78 undef, ac.tmps.getD 79 undef, ac.tmps.getD 80 undef, ac.tmps.getD 81 undef, ac.tmps.getD 82 undef, ac.tmps.getD 83 undef, ac.tmps.getD 84 undef, ac.tmps.getD 85 undef, ac.tmps.getD 86 undef, ac.tmps.getD 87 undef, ac.tmps.getD 88 undef, ac.tmps.getD 89 undef, ac.tmps.getD 90 undef, ac.tmps.getD 91 undef, ac.tmps.getD 92 undef, ac.tmps.getD 93 undef, ac.tmps.getD 94 undef, ac.tmps.getD 95 undef, ac.tmps.getD 96 undef, ac.tmps.getD 97 undef, ac.tmps.getD 98 undef, ac.tmps.getD 99 undef, ac.tmps.getD 100 undef, ac.tmps.getD 101 undef, ac.tmps.getD 102 undef, ac.tmps.getD 103 undef, ac.tmps.getD 104 undef, ac.tmps.getD 105 undef, ac.tmps.getD 106 undef, ac.tmps.getD 107 undef, ac.tmps.getD 108 undef, ac.tmps.getD 109 undef, ac.tmps.getD 110 undef, ac.tmps.getD 111 undef, ac.tmps.getD 112 undef, ac.tmps.getD 113 undef, ac.tmps.getD 114 undef], []⟩ → l.length = k → ColsL l → Hid (Grown w X) → Hid (Blk b6 (tbl ⟨#[]⟩ (.slice none 0 0) (.int .i64 0) (.slice none 0 0) (.slice none 0 0)) 34 X) → Hid (Blk bt (tbl s0 cv (.int .i64 0) (.slice none 0 0) (.slice none 0 0)) 34 X) → Hid (OwC n0 cv l X) → LeN n0 X → K ac X)) (ac : Act) (X : World) (ha : ac = ⟨#[.int .i64 n, .slice p zs.length np, ac.tmps.getD 2 undef, ac.tmps.getD 3 undef, ac.tmps.getD 4 undef, ac.tmps.getD 5 undef, .pointer (some ⟨b6, 0, none⟩), .pointer (some ⟨bt, 0, none⟩), .int .i64 (k : Int), ac.tmps.getD 9 undef, ac.tmps.getD 10 undef, ac.tmps.getD 11 undef, ac.tmps.getD 12 undef, ac.tmps.getD 13 undef, ac.tmps.getD 14 undef, ac.tmps.getD 15 undef, ac.tmps.getD 16 undef, ac.tmps.getD 17 undef, ac.tmps.getD 18 undef, ac.tmps.getD 19 undef, ac.tmps.getD 20 undef, ac.tmps.getD 21 undef, ac.tmps.getD 22 undef, ac.tmps.getD 23 undef, ac.tmps.getD 24 undef, ac.tmps.getD 25 undef, ac.tmps.getD 26 undef, ac.tmps.getD 27 undef, ac.tmps.getD 28 undef, ac.tmps.getD 29 undef, ac.tmps.getD 30 undef, ac.tmps.getD 31 undef, ac.tmps.getD 32 undef, ac.tmps.getD 33 undef, ac.tmps.getD 34 undef, ac.tmps.getD 35 undef, ac.tmps.getD 36 undef, ac.tmps.getD 37 undef, ac.tmps.getD 38 undef, ac.tmps.getD 39 undef, ac.tmps.getD 40 undef, ac.tmps.getD 41 undef, ac.tmps.getD 42 undef, ac.tmps.getD 43 undef, ac.tmps.getD 44 undef, ac.tmps.getD 45 undef, ac.tmps.getD 46 undef, ac.tmps.getD 47 undef, ac.tmps.getD 48 undef, ac.tmps.getD 49 undef, ac.tmps.getD 50 undef, ac.tmps.getD 51 undef, ac.tmps.getD 52 undef, ac.tmps.getD 53 undef, ac.tmps.getD 54 undef, ac.tmps.getD 55 undef, ac.tmps.getD 56 undef, ac.tmps.getD 57 undef, ac.tmps.getD 58 undef, ac.tmps.getD 59 undef, ac.tmps.getD 60 undef, ac.tmps.getD 61 undef, ac.tmps.getD 62 undef, ac.tmps.getD 63 undef, ac.tmps.getD 64 undef, ac.tmps.getD 65 undef, ac.tmps.getD 66 undef, ac.tmps.getD 67 undef, ac.tmps.getD 68 undef, ac.tmps.getD 69 undef, ac.tmps.getD 70 undef, ac.tmps.getD 71 undef, ac.tmps.getD 72 undef, ac.tmps.getD 73 undef, ac.tmps.getD 74 undef, ac.tmps.getD 75 undef, ac.tmps.getD 76 undef, ac.tmps.getD 77 undef, ac.tmps.getD 78 undef, ac.tmps.getD 79 undef, ac.tmps.getD 80 undef, ac.tmps.getD 81 undef, ac.tmps.getD 82 undef, ac.tmps.getD 83 undef, ac.tmps.getD 84 undef, ac.tmps.getD 85 undef, ac.tmps.getD 86 undef, ac.tmps.getD 87 undef, ac.tmps.getD 88 undef, ac.tmps.getD 89 undef, ac.tmps.getD 90 undef, ac.tmps.getD 91 undef, ac.tmps.getD 92 undef, ac.tmps.getD 93 undef, ac.tmps.getD 94 undef, ac.tmps.getD 95 undef, ac.tmps.getD 96 undef, ac.tmps.getD 97 undef, ac.tmps.getD 98 undef, ac.tmps.getD 99 undef, ac.tmps.getD 100 undef, ac.tmps.getD 101 undef, ac.tmps.getD 102 undef, ac.tmps.getD 103 undef, ac.tmps.getD 104 undef, ac.tmps.getD 105 undef, ac.tmps.getD 106 undef, ac.tmps.getD 107 undef, ac.tmps.getD 108 undef, ac.tmps.getD 109 undef, ac.tmps.getD 110 undef, ac.tmps.getD 111 undef, ac.tmps.getD 112 undef, ac.tmps.getD 113 undef, ac.tmps.getD 114 undef], []⟩) (G : Hid (Grown w X)) (hZ : Hid (Blk b6 (tbl ⟨#[]⟩ (.slice none 0 0) (.int .i64 0) (.slice none 0 0) (.slice none 0 0)) 34 X)) (hT : Hid (Blk bt (tbl s0 (.slice none 0 0) (.int .i64 0) (.slice none 0 0) (.slice none 0 0)) 34 X)) (hn0 : LeN n0 X) : r3.wp Try.prog (Exit.then K Q) ac X := by
  obtain ⟨i0, hi, hz0, hz1, hz2⟩ := infoParts info_col
  obtain ⟨o, rfl⟩ : ∃ o : Nat → Value, ac = ⟨#[.int .i64 n, .slice p zs.length np, o 2, o 3, o 4, o 5, .pointer (some ⟨b6, 0, none⟩), .pointer (some ⟨bt, 0, none⟩), .int .i64 (k : Int), o 9, o 10, o 11, o 12, o 13, o 14, o 15, o 16, o 17, o 18, o 19, o 20, o 21, o 22, o 23, o 24, o 25, o 26, o 27, o 28, o 29, o 30, o 31, o 32, o 33, o 34, o 35, o 36, o 37, o 38, o 39, o 40, o 41, o 42, o 43, o 44, o 45, o 46, o 47, o 48, o 49, o 50, o 51, o 52, o 53, o 54, o 55, o 56, o 57, o 58, o 59, o 60, o 61, o 62, o 63, o 64, o 65, o 66, o 67, o 68, o 69, o 70, o 71, o 72, o 73, o 74, o 75, o 76, o 77, o 78, o 79, o 80, o 81, o 82, o 83, o 84, o 85, o 86, o 87, o 88, o 89, o 90, o 91, o 92, o 93, o 94, o 95, o 96, o 97, o 98, o 99, o 100, o 101, o 102, o 103, o 104, o 105, o 106, o 107, o 108, o 109, o 110, o 111, o 112, o 113, o 114], []⟩ := ⟨fun i => ac.tmps.getD i undef, ha⟩
  clear ha
  unfold Try.f14 at hc
  cases hc
  go_wp2_with fail
  go_loopw [9] (fun i wr => Hid (∃ (l : List C3) (cv : Value), l.length ≤ k ∧ i = .int .i64 (l.length : Int) ∧ Hid (ColsL l) ∧ Hid (Grown w wr) ∧ Hid (Blk b6 (tbl ⟨#[]⟩ (.slice none 0 0) (.int .i64 0) (.slice none 0 0) (.slice none 0 0)) 34 wr) ∧ Hid (Blk bt (tbl s0 cv (.int .i64 0) (.slice none 0 0) (.slice none 0 0)) 34 wr) ∧ Hid (OwC n0 cv l wr) ∧ LeN n0 wr)) (fun i _ => k - (intOf i).toNat)
  case atStart => exact hide ⟨[], _, Nat.zero_le _, rfl, hide (fun i h => absurd h (by simp)), G, hZ, hT, hide (World.ownsRow_nil _ _ _ _), hn0⟩
  case round =>
    clear G hZ hT hn0
    obtain ⟨l, cv, hlk, rfl, hL, G, hZ, hT, hO, hn0⟩ := unhide hrel
    by_cases hlt : l.length < k
    · have hlti : (l.length : Int) < k := by omega
      have e9 : IntKind.i64.wrap ((l.length : Int) + 1) = (l.length : Int) + 1 := IntWalk.i64_in _ (by omega)
      have e2 : IntKind.i64.wrap (2 + (l.length : Int)) = 2 + (l.length : Int) := IntWalk.i64_in _ (by omega)
      by_cases hn : l.length < zs.length
      · have hni : (l.length : Int) < zs.length := by omega
        obtain ⟨a, rfl, hc, hblk, hi64⟩ := ((unhide hzw).call (unhide G)).2 l.length hn
        have hzl := (unhide hzw).1
        generalize zs[l.length] = z at *
        obtain ⟨m, hm⟩ : ∃ m, m = z % 1073741824 := ⟨_, rfl⟩
        have WI := hide (fun W => (hm ▸ within3_any z 1073741824 W hi64 (by decide) : Calls Try.prog 34 #[.int .i64 z, .int .i64 1073741824] W fun e W' => e = .returned (.int .i64 m) ∧ W' = W))
        have hm0 : 0 ≤ m ∧ m < 1073741824 := by omega
        have e3 : IntKind.i64.wrap (1 + m % 5) = 1 + m % 5 := IntWalk.i64_in _ (by omega)
        have e4 : IntKind.i64.wrap (m / 5) = m / 5 := IntWalk.i64_in _ (by omega)
        clear hm hi64
        go_wp2_with fail
        refine (unhide WI _).mono ?_
        rintro e wq ⟨rfl, rfl⟩
        go_wp2_with fail
        rename_i K10 hk10
        have REST10 : ∀ (ac : Act) (cv : Value) (c : C3) (X : World), ac = ⟨#[.int .i64 n, .slice (some a) zs.length np, o 2, o 3, o 4, o 5, .pointer (some ⟨b6, 0, none⟩), .pointer (some ⟨bt, 0, none⟩), .int .i64 (k : Int), .int .i64 (l.length : Int), ac.tmps.getD 10 undef, o 11, o 12, o 13, o 14, o 15, o 16, o 17, o 18, o 19, o 20, o 21, ac.tmps.getD 22 undef, ac.tmps.getD 23 undef, ac.tmps.getD 24 undef, ac.tmps.getD 25 undef, ac.tmps.getD 26 undef, ac.tmps.getD 27 undef, ac.tmps.getD 28 undef, ac.tmps.getD 29 undef, ac.tmps.getD 30 undef, ac.tmps.getD 31 undef, ac.tmps.getD 32 undef, ac.tmps.getD 33 undef, ac.tmps.getD 34 undef, ac.tmps.getD 35 undef, ac.tmps.getD 36 undef, ac.tmps.getD 37 undef, ac.tmps.getD 38 undef, ac.tmps.getD 39 undef, ac.tmps.getD 40 undef, ac.tmps.getD 41 undef, ac.tmps.getD 42 undef, ac.tmps.getD 43 undef, ac.tmps.getD 44 undef, ac.tmps.getD 45 undef, ac.tmps.getD 46 undef, ac.tmps.getD 47 undef, ac.tmps.getD 48 undef, ac.tmps.getD 49 undef, ac.tmps.getD 50 undef, ac.tmps.getD 51 undef, ac.tmps.getD 52 undef, ac.tmps.getD 53 undef, ac.tmps.getD 54 undef, o 55, o 56, o 57, o 58, o 59, o 60, o 61, o 62, o 63, o 64, o 65, o 66, o 67, o 68, o 69, o 70, o 71, o 72, o 73, o 74, o 75, o 76, o 77, o 78, o 79, o 80, o 81, o 82, o 83, o 84, o 85, o 86, o 87, o 88, o 89, o 90, o 91, o 92, o 93, o 94, o 95, o 96, o 97, o 98, o 99, o 100, o 101, o 102, o 103, o 104, o 105, o 106, o 107, o 108, o 109, o 110, o 111, o 112, o 113, o 114], []⟩ → c.1 = nmK l.length → 1 ≤ c.2.1 ∧ c.2.1 ≤ 5 → Hid (Grown w X) → Hid (Blk b6 (tbl ⟨#[]⟩ (.slice none 0 0) (.int .i64 0) (.slice none 0 0) (.slice none 0 0)) 34 X) → Hid (Blk bt (tbl s0 cv (.int .i64 0) (.slice none 0 0) (.slice none 0 0)) 34 X) → Hid (OwC n0 cv (l ++ [c]) X) → LeN n0 X → K10 ac X := by
          clear G hZ hT hO hn0
          intro ac cv c X ha hc1 hc2 G hZ hT hO hn0
          obtain ⟨u, rfl⟩ : ∃ u : Nat → Value, ac = ⟨#[.int .i64 n, .slice (some a) zs.length np, o 2, o 3, o 4, o 5, .pointer (some ⟨b6, 0, none⟩), .pointer (some ⟨bt, 0, none⟩), .int .i64 (k : Int), .int .i64 (l.length : Int), u 10, o 11, o 12, o 13, o 14, o 15, o 16, o 17, o 18, o 19, o 20, o 21, u 22, u 23, u 24, u 25, u 26, u 27, u 28, u 29, u 30, u 31, u 32, u 33, u 34, u 35, u 36, u 37, u 38, u 39, u 40, u 41, u 42, u 43, u 44, u 45, u 46, u 47, u 48, u 49, u 50, u 51, u 52, u 53, u 54, o 55, o 56, o 57, o 58, o 59, o 60, o 61, o 62, o 63, o 64, o 65, o 66, o 67, o 68, o 69, o 70, o 71, o 72, o 73, o 74, o 75, o 76, o 77, o 78, o 79, o 80, o 81, o 82, o 83, o 84, o 85, o 86, o 87, o 88, o 89, o 90, o 91, o 92, o 93, o 94, o 95, o 96, o 97, o 98, o 99, o 100, o 101, o 102, o 103, o 104, o 105, o 106, o 107, o 108, o 109, o 110, o 111, o 112, o 113, o 114], []⟩ := ⟨fun i => ac.tmps.getD i undef, ha⟩
          clear ha
          refine hk10 _ _ ?_
          clear hk10
          have hL2 := hide (colsL_snoc (unhide hL) hc1 hc2)
          clear hL hc1 hc2
          go_wp2_with fail
          go_roundw
          case rel => exact hide ⟨l ++ [c], cv, by simp; omega, by simp, hL2, G, hZ, hT, hO, hn0⟩
          case measure => simp [intOf]; omega
        have REST10 := hide REST10
        clear hk10
        refine wp_region_noPanic ?_
        refine wp_region_held_drew (S := (fun _ => True)) (by kernel_rfl) (trivial) (fun hHeld => ?_)
        have hbd : Below wq.heap.size wq wq.drew := (Below.refl _ _).drew
        replace G := hide ((unhide G).call hbd)
        replace hZ := hide ((unhide hZ).call hbd)
        replace hT := hide ((unhide hT).call hbd)
        replace hO := hide ((unhide hO).call hbd)
        replace hn0 := hn0.call hbd
        clear hbd
        generalize wq.drew = Wd at *
        refine wpAnyH_take (i := 0) (oi := ?oi20001) (v := ?v20001) ?hi20001 (by kernel_rfl) (by kernel_rfl) (by kernel_rfl) (fun _ _ _ h => h) (Or.inl ⟨?hw20001, ?hy20001⟩) (by assumption) ?rest20001
        case hi20001 => (simp only [List.getElem?_toArray, List.getElem?_cons_zero]; rfl)
        case hw20001 => rfl
        case hy20001 => first | (intro wx hSw; go_simp; done) | (intro wx hSw; go_simp; with_reducible rfl)
        simp only [Act.put, List.setIfInBounds_toArray, List.set_cons_zero, List.set_cons_succ]
        refine wpAnyH_take (i := 3) (oi := ?oi20002) (v := ?v20002) ?hi20002 (by kernel_rfl) (by kernel_rfl) (by kernel_rfl) (fun _ _ _ h => h) (Or.inl ⟨?hw20002, ?hy20002⟩) (by assumption) ?rest20002
        case hi20002 => (simp only [List.getElem?_toArray, List.getElem?_cons_zero, List.getElem?_cons_succ]; rfl)
        case hw20002 => rfl
        case hy20002 => first | (intro wx hSw; go_simp; done) | (intro wx hSw; go_simp; with_reducible rfl)
        simp only [Act.put, List.setIfInBounds_toArray, List.set_cons_zero, List.set_cons_succ]
        refine wpAnyH_take (i := 6) (oi := ?oi20003) (v := ?v20003) ?hi20003 (by kernel_rfl) (by kernel_rfl) (by kernel_rfl) (fun _ _ _ h => h) (Or.inl ⟨?hw20003, ?hy20003⟩) (by assumption) ?rest20003
        case hi20003 => (simp only [List.getElem?_toArray, List.getElem?_cons_zero, List.getElem?_cons_succ]; rfl)
        case hw20003 => rfl
        case hy20003 => first | (intro wx hSw; go_simp; done) | (intro wx hSw; go_simp; with_reducible rfl)
        simp only [Act.put, List.setIfInBounds_toArray, List.set_cons_zero, List.set_cons_succ]
        refine wpAnyH_take (i := 7) (oi := ?oi20004) (v := ?v20004) ?hi20004 (by kernel_rfl) (by kernel_rfl) (by kernel_rfl) (fun _ _ _ h => h) (Or.inl ⟨?hw20004, ?hy20004⟩) (by assumption) ?rest20004
        case hi20004 => (simp only [List.getElem?_toArray, List.getElem?_cons_zero, List.getElem?_cons_succ]; rfl)
        case hw20004 => rfl
        case hy20004 => first | (intro wx hSw; go_simp; done) | (intro wx hSw; go_simp; with_reducible rfl)
        simp only [Act.put, List.setIfInBounds_toArray, List.set_cons_zero, List.set_cons_succ]
        refine wpAnyH_take (i := 8) (oi := ?oi20005) (v := ?v20005) ?hi20005 (by kernel_rfl) (by kernel_rfl) (by kernel_rfl) (fun _ _ _ h => h) (Or.inl ⟨?hw20005, ?hy20005⟩) (by assumption) ?rest20005
        case hi20005 => (simp only [List.getElem?_toArray, List.getElem?_cons_zero, List.getElem?_cons_succ]; rfl)
        case hw20005 => rfl
        case hy20005 => first | (intro wx hSw; go_simp; done) | (intro wx hSw; go_simp; with_reducible rfl)
        simp only [Act.put, List.setIfInBounds_toArray, List.set_cons_zero, List.set_cons_succ]
        refine wpAnyH_take (i := 9) (oi := ?oi20006) (v := ?v20006) ?hi20006 (by kernel_rfl) (by kernel_rfl) (by kernel_rfl) (fun _ _ _ h => h) (Or.inl ⟨?hw20006, ?hy20006⟩) (by assumption) ?rest20006
        case hi20006 => (simp only [List.getElem?_toArray, List.getElem?_cons_zero, List.getElem?_cons_succ]; rfl)
        case hw20006 => rfl
        case hy20006 => first | (intro wx hSw; go_simp; done) | (intro wx hSw; go_simp; with_reducible rfl)
        simp only [Act.put, List.setIfInBounds_toArray, List.set_cons_zero, List.set_cons_succ]
        refine wpAnyH_take (i := 10) (oi := ?oi20007) (v := ?v20007) ?hi20007 (by kernel_rfl) (by kernel_rfl) (by kernel_rfl) (fun _ _ _ h => h) (Or.inl ⟨?hw20007, ?hy20007⟩) (by assumption) ?rest20007
        case hi20007 => (simp only [List.getElem?_toArray, List.getElem?_cons_zero, List.getElem?_cons_succ]; rfl)
        case hw20007 => rfl
        case hy20007 => first | (intro wx hSw; go_simp; done) | (intro wx hSw; go_simp; with_reducible rfl)
        simp only [Act.put, List.setIfInBounds_toArray, List.set_cons_zero, List.set_cons_succ]
        refine wpAnyH_take (i := 11) (oi := ?oi20008) (v := ?v20008) ?hi20008 (by kernel_rfl) (by kernel_rfl) (by kernel_rfl) (fun _ _ _ h => h) (Or.inl ⟨?hw20008, ?hy20008⟩) (by assumption) ?rest20008
        case hi20008 => (simp only [List.getElem?_toArray, List.getElem?_cons_zero, List.getElem?_cons_succ]; rfl)
        case hw20008 => rfl
        case hy20008 => first | (intro wx hSw; go_simp; done) | (intro wx hSw; go_simp; with_reducible rfl)
        simp only [Act.put, List.setIfInBounds_toArray, List.set_cons_zero, List.set_cons_succ]
        refine wpAnyH_take (i := 12) (oi := ?oi20009) (v := ?v20009) ?hi20009 (by kernel_rfl) (by kernel_rfl) (by kernel_rfl) (fun _ _ _ h => h) (Or.inl ⟨?hw20009, ?hy20009⟩) (by assumption) ?rest20009
        case hi20009 => (simp only [List.getElem?_toArray, List.getElem?_cons_zero, List.getElem?_cons_succ]; rfl)
        case hw20009 => rfl
        case hy20009 => first | (intro wx hSw; go_simp; done) | (intro wx hSw; go_simp; with_reducible rfl)
        simp only [Act.put, List.setIfInBounds_toArray, List.set_cons_zero, List.set_cons_succ]
        have hty : 1 ≤ IntKind.i64.wrap (1 + m.tmod 5) ∧ IntKind.i64.wrap (1 + m.tmod 5) ≤ 5 := by rw [Int.tmod_eq_emod_of_nonneg hm0.1, e3]; omega
        generalize IntKind.i64.wrap (1 + m.tmod 5) = ty at *
        generalize ((IntKind.i64.wrap (m.tdiv 5)).tmod 3 == 0) = bb at *
        have lt_ := (unhide hT).lt
        have t1 := (unhide hT).cell 1
        simp at t1
        refine wpAnyH_ready (rs := [1, 2]) (by kernel_rfl) (by simp) ?_
        refine AllReadyH.cons rfl (fun K20010 hK20010 => ?_) ?_
        · go_simp
          refine hK20010.out _ _ ?hs20010 (fun hHeld20010 => ?_)
          case hs20010 => exact trivial
          clear hHeld
          have hHeld := hHeld20010; clear hHeld20010 hK20010 K20010
          refine wpAnyH_ready (rs := [2]) (by kernel_rfl) (by simp) ?_
          refine AllReadyH.cons rfl (fun K20011 hK20011 => ?_) AllReadyH.nil
          go_simp
          go_wp2_with (go_at_call 35; refine (colsN_any _).mono ?_; rintro e X2 ⟨gn, rfl, hN, hb⟩)
          refine hK20011.out _ _ ?hs20011 (fun hHeld20011 => ?_)
          case hs20011 => exact trivial
          clear hHeld
          have hHeld := hHeld20011; clear hHeld20011 hK20011 K20011
          replace G := hide ((unhide G).call hb)
          replace hZ := hide ((unhide hZ).call hb)
          replace hT := hide ((unhide hT).call hb)
          replace hO := hide ((unhide hO).call hb)
          replace hn0 := hn0.call hb
          clear hb lt_ t1
          have lt_ := (unhide hT).lt
          have t1 := (unhide hT).cell 1
          simp at t1
          have ln_ := (unhide hN).lt
          obtain ⟨nm, hnm, hnc⟩ : ∃ nm, Hid (nm = nmK l.length) ∧ X2.cell? ⟨gn, l.length, none⟩ = some (.string nm) := by
            have hl4 : l.length = 0 ∨ l.length = 1 ∨ l.length = 2 ∨ l.length = 3 := by omega
            rcases hl4 with h | h | h | h <;> rw [h] <;> exact ⟨_, rfl, (unhide hN).cell _⟩
          have hl6 : (l.length : Int) < 6 := by omega
          refine wpAnyH_take (i := 4) (oi := ?oi20012) (v := ?v20012) ?hi20012 (by kernel_rfl) (by kernel_rfl) (by kernel_rfl) (fun _ _ _ h => h) (Or.inl ⟨?hw20012, ?hy20012⟩) (by assumption) ?rest20012
          case hi20012 => (simp only [List.getElem?_toArray, List.getElem?_cons_zero, List.getElem?_cons_succ]; rfl)
          case hw20012 => rfl
          case hy20012 => first | (intro wx hSw; have hl6_ := hl6; go_simp; done) | (intro wx hSw; have hl6_ := hl6; go_simp; with_reducible rfl)
          simp only [Act.put, List.setIfInBounds_toArray, List.set_cons_zero, List.set_cons_succ]
          refine wpAnyH_ready (rs := [5]) (by kernel_rfl) (by simp) ?_
          refine AllReadyH.cons rfl (fun K20013 hK20013 => ?_) AllReadyH.nil
          go_simp
          refine hK20013.out _ _ ?hs20013 (fun hHeld20013 => ?_)
          case hs20013 => exact trivial
          clear hHeld
          have hHeld := hHeld20013; clear hHeld20013 hK20013 K20013
          refine wpAnyH_take (i := 13) (oi := ?oi20014) (v := ?v20014) ?hi20014 (by kernel_rfl) (by kernel_rfl) (by kernel_rfl) (fun _ _ _ h => h) (Or.inl ⟨?hw20014, ?hy20014⟩) (by assumption) ?rest20014
          case hi20014 => (simp only [List.getElem?_toArray, List.getElem?_cons_zero, List.getElem?_cons_succ]; rfl)
          case hw20014 => rfl
          case hy20014 => first | (intro wx hSw; go_simp; done) | (intro wx hSw; go_simp; with_reducible rfl)
          simp only [Act.put, List.setIfInBounds_toArray, List.set_cons_zero, List.set_cons_succ]
          refine wpAnyH_ready (rs := [14]) (by kernel_rfl) (by simp) ?_
          refine AllReadyH.cons rfl (fun K20015 hK20015 => ?_) AllReadyH.nil
          go_simp
          have hb := below_new X2 (.cells #[.string nm, .int .i64 ty, .bool bb] 63)
          have hs3 := cells_three_at X2 _ rfl (.string nm) (.int .i64 ty) (.bool bb) 63
          refine hK20015.out _ _ ?hs20015 (fun hHeld20015 => ?_)
          case hs20015 => exact trivial
          clear hHeld
          have hHeld := hHeld20015; clear hHeld20015 hK20015 K20015
          replace G := hide ((unhide G).call hb)
          replace hZ := hide ((unhide hZ).call hb)
          replace hT := hide ((unhide hT).call hb)
          replace hO := hide ((unhide hO).call hb)
          replace hn0 := hn0.call hb
          clear lt_ t1
          generalize hgs : X2.heap.size = gs at *
          generalize hXs : X2.alloc (.cells #[.string nm, .int .i64 ty, .bool bb] 63) = X3 at *
          clear hXs hgs hb
          have lt_ := (unhide hT).lt
          have t1 := (unhide hT).cell 1
          simp at t1
          refine wpAnyH_ready (rs := [15]) (by kernel_rfl) (by simp) ?_
          refine AllReadyH.cons rfl (fun K20016 hK20016 => ?_) AllReadyH.nil
          refine step_append_lies _ rfl _ _ 26 rfl n0 63 i0 _ 3 32 Try.underlying26 hi hz0 hz1 hz2 rfl (by decide) cv _ _ rfl (unhide hO) ⟨gs, 0, none⟩ 1 1 [.string nm, .int .i64 ty, .bool bb] rfl rfl hs3 (by simp [Value.oneCell']) (by decide) (by unfold maxLen; omega) (by omega) hn0 _ rfl ?_
          intro g2 cp2 w4 hown4 hgrow4 hat4 hlt4
          have hB4 : Below n0 X3 w4 := Below.grown (Below.refl _ _) hgrow4 hn0 (fun j e => by rcases (unhide hO).2 with ⟨rfl, _⟩ | ⟨g', cap', cur', rfl, hge', _⟩ <;> simp [Value.ownBlock] at e; omega)
          refine hK20016.out _ _ ?hs20016 (fun hHeld20016 => ?_)
          case hs20016 => exact trivial
          clear hHeld
          have hHeld := hHeld20016; clear hHeld20016 hK20016 K20016
          have hw0 : w.heap.size ≤ n0 := by omega
          have G4 : Hid (Grown w w4) := hide (Below.trans (unhide G) (hB4.mono hw0))
          have Z4_ := hide (blk_base (unhide hZ) hB4 h6)
          have T4_ := hide (blk_base (unhide hT) hB4 ht)
          have lt4 := (unhide T4_).lt
          have q1 := (unhide T4_).cell 1
          have f1 := (unhide T4_).froz 1
          simp at q1
          have G5 : Hid (Grown w (w4.setCell ⟨bt, 1, none⟩ (.slice (some ⟨g2, 0, none⟩) (l.length + 1) cp2))) := hide (Below.setCell (unhide G4 : Below w.heap.size w w4) (p := ⟨bt, 1, none⟩) hwt _)
          have Z5 := hide ((unhide Z4_).set h6t 1 (.slice (some ⟨g2, 0, none⟩) (l.length + 1) cp2))
          have T5 : Hid (Blk bt (tbl s0 (.slice (some ⟨g2, 0, none⟩) (l.length + 1) cp2) (.int .i64 0) (.slice none 0 0) (.slice none 0 0)) 34 (w4.setCell ⟨bt, 1, none⟩ (.slice (some ⟨g2, 0, none⟩) (l.length + 1) cp2))) := hide (heapSet (unhide T4_) 1 (.slice (some ⟨g2, 0, none⟩) (l.length + 1) cp2))
          have O5 : Hid (OwC n0 (.slice (some ⟨g2, 0, none⟩) (l.length + 1) cp2) (l ++ [(nm, ty, bb)]) (w4.setCell ⟨bt, 1, none⟩ (.slice (some ⟨g2, 0, none⟩) (l.length + 1) cp2))) := by
            have := owns_set (b := bt) hown4 ht 1 (.slice (some ⟨g2, 0, none⟩) (l.length + 1) cp2)
            show World.ownsRow _ _ _ _ _ _ _
            rw [colC_snoc]; simpa using this
          have N5 : LeN n0 (w4.setCell ⟨bt, 1, none⟩ (.slice (some ⟨g2, 0, none⟩) (l.length + 1) cp2)) := by have h1 := Nat.le_trans hn0 hB4.size; unfold LeN; simpa using h1
          refine wpAnyH_take (i := 16) (oi := ?oi20017) (v := ?v20017) ?hi20017 (by kernel_rfl) (by kernel_rfl) (by kernel_rfl) (fun _ _ _ h => h) (Or.inl ⟨?hw20017, ?hy20017⟩) (by assumption) ?rest20017
          case hi20017 => (simp only [List.getElem?_toArray, List.getElem?_cons_zero, List.getElem?_cons_succ]; rfl)
          case hw20017 => rfl
          case hy20017 => first | (intro wx hSw; go_simp; done) | (intro wx hSw; go_simp; with_reducible rfl)
          simp only [Act.put, List.setIfInBounds_toArray, List.set_cons_zero, List.set_cons_succ]
          refine wpAnyH_ready (rs := [17]) (by kernel_rfl) (by simp) ?_
          refine AllReadyH.cons rfl (fun K20018 hK20018 => ?_) AllReadyH.nil
          go_simp
          refine hK20018.out _ _ ?hs20018 (fun hHeld20018 => ?_)
          case hs20018 => exact trivial
          clear hHeld
          have hHeld := hHeld20018; clear hHeld20018 hK20018 K20018
          refine wpAnyH_done (by kernel_rfl) ?_ _
          refine NoPanic.normal ?_
          skip
          exact unhide REST10 _ _ (nm, ty, bb) _ (by kernel_rfl) (unhide hnm) hty G5 Z5 T5 O5 N5
        refine AllReadyH.cons rfl (fun K20019 hK20019 => ?_) AllReadyH.nil
        · go_simp
          go_wp2_with (go_at_call 35; refine (colsN_any _).mono ?_; rintro e X2 ⟨gn, rfl, hN, hb⟩)
          refine hK20019.out _ _ ?hs20019 (fun hHeld20019 => ?_)
          case hs20019 => exact trivial
          clear hHeld
          have hHeld := hHeld20019; clear hHeld20019 hK20019 K20019
          replace G := hide ((unhide G).call hb)
          replace hZ := hide ((unhide hZ).call hb)
          replace hT := hide ((unhide hT).call hb)
          replace hO := hide ((unhide hO).call hb)
          replace hn0 := hn0.call hb
          clear hb lt_ t1
          have lt_ := (unhide hT).lt
          have t1 := (unhide hT).cell 1
          simp at t1
          have ln_ := (unhide hN).lt
          obtain ⟨nm, hnm, hnc⟩ : ∃ nm, Hid (nm = nmK l.length) ∧ X2.cell? ⟨gn, l.length, none⟩ = some (.string nm) := by
            have hl4 : l.length = 0 ∨ l.length = 1 ∨ l.length = 2 ∨ l.length = 3 := by omega
            rcases hl4 with h | h | h | h <;> rw [h] <;> exact ⟨_, rfl, (unhide hN).cell _⟩
          have hl6 : (l.length : Int) < 6 := by omega
          refine wpAnyH_take (i := 4) (oi := ?oi20020) (v := ?v20020) ?hi20020 (by kernel_rfl) (by kernel_rfl) (by kernel_rfl) (fun _ _ _ h => h) (Or.inl ⟨?hw20020, ?hy20020⟩) (by assumption) ?rest20020
          case hi20020 => (simp only [List.getElem?_toArray, List.getElem?_cons_zero, List.getElem?_cons_succ]; rfl)
          case hw20020 => rfl
          case hy20020 => first | (intro wx hSw; have hl6_ := hl6; go_simp; done) | (intro wx hSw; have hl6_ := hl6; go_simp; with_reducible rfl)
          simp only [Act.put, List.setIfInBounds_toArray, List.set_cons_zero, List.set_cons_succ]
          refine wpAnyH_ready (rs := [1, 5]) (by kernel_rfl) (by simp) ?_
          refine AllReadyH.cons rfl (fun K20021 hK20021 => ?_) ?_
          · go_simp
            refine hK20021.out _ _ ?hs20021 (fun hHeld20021 => ?_)
            case hs20021 => exact trivial
            clear hHeld
            have hHeld := hHeld20021; clear hHeld20021 hK20021 K20021
            refine wpAnyH_ready (rs := [5]) (by kernel_rfl) (by simp) ?_
            refine AllReadyH.cons rfl (fun K20022 hK20022 => ?_) AllReadyH.nil
            go_simp
            refine hK20022.out _ _ ?hs20022 (fun hHeld20022 => ?_)
            case hs20022 => exact trivial
            clear hHeld
            have hHeld := hHeld20022; clear hHeld20022 hK20022 K20022
            refine wpAnyH_take (i := 13) (oi := ?oi20023) (v := ?v20023) ?hi20023 (by kernel_rfl) (by kernel_rfl) (by kernel_rfl) (fun _ _ _ h => h) (Or.inl ⟨?hw20023, ?hy20023⟩) (by assumption) ?rest20023
            case hi20023 => (simp only [List.getElem?_toArray, List.getElem?_cons_zero, List.getElem?_cons_succ]; rfl)
            case hw20023 => rfl
            case hy20023 => first | (intro wx hSw; go_simp; done) | (intro wx hSw; go_simp; with_reducible rfl)
            simp only [Act.put, List.setIfInBounds_toArray, List.set_cons_zero, List.set_cons_succ]
            refine wpAnyH_ready (rs := [14]) (by kernel_rfl) (by simp) ?_
            refine AllReadyH.cons rfl (fun K20024 hK20024 => ?_) AllReadyH.nil
            go_simp
            have hb := below_new X2 (.cells #[.string nm, .int .i64 ty, .bool bb] 63)
            have hs3 := cells_three_at X2 _ rfl (.string nm) (.int .i64 ty) (.bool bb) 63
            refine hK20024.out _ _ ?hs20024 (fun hHeld20024 => ?_)
            case hs20024 => exact trivial
            clear hHeld
            have hHeld := hHeld20024; clear hHeld20024 hK20024 K20024
            replace G := hide ((unhide G).call hb)
            replace hZ := hide ((unhide hZ).call hb)
            replace hT := hide ((unhide hT).call hb)
            replace hO := hide ((unhide hO).call hb)
            replace hn0 := hn0.call hb
            clear lt_ t1
            generalize hgs : X2.heap.size = gs at *
            generalize hXs : X2.alloc (.cells #[.string nm, .int .i64 ty, .bool bb] 63) = X3 at *
            clear hXs hgs hb
            have lt_ := (unhide hT).lt
            have t1 := (unhide hT).cell 1
            simp at t1
            refine wpAnyH_ready (rs := [15]) (by kernel_rfl) (by simp) ?_
            refine AllReadyH.cons rfl (fun K20025 hK20025 => ?_) AllReadyH.nil
            refine step_append_lies _ rfl _ _ 26 rfl n0 63 i0 _ 3 32 Try.underlying26 hi hz0 hz1 hz2 rfl (by decide) cv _ _ rfl (unhide hO) ⟨gs, 0, none⟩ 1 1 [.string nm, .int .i64 ty, .bool bb] rfl rfl hs3 (by simp [Value.oneCell']) (by decide) (by unfold maxLen; omega) (by omega) hn0 _ rfl ?_
            intro g2 cp2 w4 hown4 hgrow4 hat4 hlt4
            have hB4 : Below n0 X3 w4 := Below.grown (Below.refl _ _) hgrow4 hn0 (fun j e => by rcases (unhide hO).2 with ⟨rfl, _⟩ | ⟨g', cap', cur', rfl, hge', _⟩ <;> simp [Value.ownBlock] at e; omega)
            refine hK20025.out _ _ ?hs20025 (fun hHeld20025 => ?_)
            case hs20025 => exact trivial
            clear hHeld
            have hHeld := hHeld20025; clear hHeld20025 hK20025 K20025
            have hw0 : w.heap.size ≤ n0 := by omega
            have G4 : Hid (Grown w w4) := hide (Below.trans (unhide G) (hB4.mono hw0))
            have Z4_ := hide (blk_base (unhide hZ) hB4 h6)
            have T4_ := hide (blk_base (unhide hT) hB4 ht)
            have lt4 := (unhide T4_).lt
            have q1 := (unhide T4_).cell 1
            have f1 := (unhide T4_).froz 1
            simp at q1
            have G5 : Hid (Grown w (w4.setCell ⟨bt, 1, none⟩ (.slice (some ⟨g2, 0, none⟩) (l.length + 1) cp2))) := hide (Below.setCell (unhide G4 : Below w.heap.size w w4) (p := ⟨bt, 1, none⟩) hwt _)
            have Z5 := hide ((unhide Z4_).set h6t 1 (.slice (some ⟨g2, 0, none⟩) (l.length + 1) cp2))
            have T5 : Hid (Blk bt (tbl s0 (.slice (some ⟨g2, 0, none⟩) (l.length + 1) cp2) (.int .i64 0) (.slice none 0 0) (.slice none 0 0)) 34 (w4.setCell ⟨bt, 1, none⟩ (.slice (some ⟨g2, 0, none⟩) (l.length + 1) cp2))) := hide (heapSet (unhide T4_) 1 (.slice (some ⟨g2, 0, none⟩) (l.length + 1) cp2))
            have O5 : Hid (OwC n0 (.slice (some ⟨g2, 0, none⟩) (l.length + 1) cp2) (l ++ [(nm, ty, bb)]) (w4.setCell ⟨bt, 1, none⟩ (.slice (some ⟨g2, 0, none⟩) (l.length + 1) cp2))) := by
              have := owns_set (b := bt) hown4 ht 1 (.slice (some ⟨g2, 0, none⟩) (l.length + 1) cp2)
              show World.ownsRow _ _ _ _ _ _ _
              rw [colC_snoc]; simpa using this
            have N5 : LeN n0 (w4.setCell ⟨bt, 1, none⟩ (.slice (some ⟨g2, 0, none⟩) (l.length + 1) cp2)) := by have h1 := Nat.le_trans hn0 hB4.size; unfold LeN; simpa using h1
            refine wpAnyH_take (i := 16) (oi := ?oi20026) (v := ?v20026) ?hi20026 (by kernel_rfl) (by kernel_rfl) (by kernel_rfl) (fun _ _ _ h => h) (Or.inl ⟨?hw20026, ?hy20026⟩) (by assumption) ?rest20026
            case hi20026 => (simp only [List.getElem?_toArray, List.getElem?_cons_zero, List.getElem?_cons_succ]; rfl)
            case hw20026 => rfl
            case hy20026 => first | (intro wx hSw; go_simp; done) | (intro wx hSw; go_simp; with_reducible rfl)
            simp only [Act.put, List.setIfInBounds_toArray, List.set_cons_zero, List.set_cons_succ]
            refine wpAnyH_ready (rs := [17]) (by kernel_rfl) (by simp) ?_
            refine AllReadyH.cons rfl (fun K20027 hK20027 => ?_) AllReadyH.nil
            go_simp
            refine hK20027.out _ _ ?hs20027 (fun hHeld20027 => ?_)
            case hs20027 => exact trivial
            clear hHeld
            have hHeld := hHeld20027; clear hHeld20027 hK20027 K20027
            refine wpAnyH_done (by kernel_rfl) ?_ _
            refine NoPanic.normal ?_
            skip
            exact unhide REST10 _ _ (nm, ty, bb) _ (by kernel_rfl) (unhide hnm) hty G5 Z5 T5 O5 N5
          refine AllReadyH.cons rfl (fun K20028 hK20028 => ?_) AllReadyH.nil
          · go_simp
            refine hK20028.out _ _ ?hs20028 (fun hHeld20028 => ?_)
            case hs20028 => exact trivial
            clear hHeld
            have hHeld := hHeld20028; clear hHeld20028 hK20028 K20028
            refine wpAnyH_take (i := 13) (oi := ?oi20029) (v := ?v20029) ?hi20029 (by kernel_rfl) (by kernel_rfl) (by kernel_rfl) (fun _ _ _ h => h) (Or.inl ⟨?hw20029, ?hy20029⟩) (by assumption) ?rest20029
            case hi20029 => (simp only [List.getElem?_toArray, List.getElem?_cons_zero, List.getElem?_cons_succ]; rfl)
            case hw20029 => rfl
            case hy20029 => first | (intro wx hSw; go_simp; done) | (intro wx hSw; go_simp; with_reducible rfl)
            simp only [Act.put, List.setIfInBounds_toArray, List.set_cons_zero, List.set_cons_succ]
            refine wpAnyH_ready (rs := [1, 14]) (by kernel_rfl) (by simp) ?_
            refine AllReadyH.cons rfl (fun K20030 hK20030 => ?_) ?_
            · go_simp
              refine hK20030.out _ _ ?hs20030 (fun hHeld20030 => ?_)
              case hs20030 => exact trivial
              clear hHeld
              have hHeld := hHeld20030; clear hHeld20030 hK20030 K20030
              refine wpAnyH_ready (rs := [14]) (by kernel_rfl) (by simp) ?_
              refine AllReadyH.cons rfl (fun K20031 hK20031 => ?_) AllReadyH.nil
              go_simp
              have hb := below_new X2 (.cells #[.string nm, .int .i64 ty, .bool bb] 63)
              have hs3 := cells_three_at X2 _ rfl (.string nm) (.int .i64 ty) (.bool bb) 63
              refine hK20031.out _ _ ?hs20031 (fun hHeld20031 => ?_)
              case hs20031 => exact trivial
              clear hHeld
              have hHeld := hHeld20031; clear hHeld20031 hK20031 K20031
              replace G := hide ((unhide G).call hb)
              replace hZ := hide ((unhide hZ).call hb)
              replace hT := hide ((unhide hT).call hb)
              replace hO := hide ((unhide hO).call hb)
              replace hn0 := hn0.call hb
              clear lt_ t1
              generalize hgs : X2.heap.size = gs at *
              generalize hXs : X2.alloc (.cells #[.string nm, .int .i64 ty, .bool bb] 63) = X3 at *
              clear hXs hgs hb
              have lt_ := (unhide hT).lt
              have t1 := (unhide hT).cell 1
              simp at t1
              refine wpAnyH_ready (rs := [15]) (by kernel_rfl) (by simp) ?_
              refine AllReadyH.cons rfl (fun K20032 hK20032 => ?_) AllReadyH.nil
              refine step_append_lies _ rfl _ _ 26 rfl n0 63 i0 _ 3 32 Try.underlying26 hi hz0 hz1 hz2 rfl (by decide) cv _ _ rfl (unhide hO) ⟨gs, 0, none⟩ 1 1 [.string nm, .int .i64 ty, .bool bb] rfl rfl hs3 (by simp [Value.oneCell']) (by decide) (by unfold maxLen; omega) (by omega) hn0 _ rfl ?_
              intro g2 cp2 w4 hown4 hgrow4 hat4 hlt4
              have hB4 : Below n0 X3 w4 := Below.grown (Below.refl _ _) hgrow4 hn0 (fun j e => by rcases (unhide hO).2 with ⟨rfl, _⟩ | ⟨g', cap', cur', rfl, hge', _⟩ <;> simp [Value.ownBlock] at e; omega)
              refine hK20032.out _ _ ?hs20032 (fun hHeld20032 => ?_)
              case hs20032 => exact trivial
              clear hHeld
              have hHeld := hHeld20032; clear hHeld20032 hK20032 K20032
              have hw0 : w.heap.size ≤ n0 := by omega
              have G4 : Hid (Grown w w4) := hide (Below.trans (unhide G) (hB4.mono hw0))
              have Z4_ := hide (blk_base (unhide hZ) hB4 h6)
              have T4_ := hide (blk_base (unhide hT) hB4 ht)
              have lt4 := (unhide T4_).lt
              have q1 := (unhide T4_).cell 1
              have f1 := (unhide T4_).froz 1
              simp at q1
              have G5 : Hid (Grown w (w4.setCell ⟨bt, 1, none⟩ (.slice (some ⟨g2, 0, none⟩) (l.length + 1) cp2))) := hide (Below.setCell (unhide G4 : Below w.heap.size w w4) (p := ⟨bt, 1, none⟩) hwt _)
              have Z5 := hide ((unhide Z4_).set h6t 1 (.slice (some ⟨g2, 0, none⟩) (l.length + 1) cp2))
              have T5 : Hid (Blk bt (tbl s0 (.slice (some ⟨g2, 0, none⟩) (l.length + 1) cp2) (.int .i64 0) (.slice none 0 0) (.slice none 0 0)) 34 (w4.setCell ⟨bt, 1, none⟩ (.slice (some ⟨g2, 0, none⟩) (l.length + 1) cp2))) := hide (heapSet (unhide T4_) 1 (.slice (some ⟨g2, 0, none⟩) (l.length + 1) cp2))
              have O5 : Hid (OwC n0 (.slice (some ⟨g2, 0, none⟩) (l.length + 1) cp2) (l ++ [(nm, ty, bb)]) (w4.setCell ⟨bt, 1, none⟩ (.slice (some ⟨g2, 0, none⟩) (l.length + 1) cp2))) := by
                have := owns_set (b := bt) hown4 ht 1 (.slice (some ⟨g2, 0, none⟩) (l.length + 1) cp2)
                show World.ownsRow _ _ _ _ _ _ _
                rw [colC_snoc]; simpa using this
              have N5 : LeN n0 (w4.setCell ⟨bt, 1, none⟩ (.slice (some ⟨g2, 0, none⟩) (l.length + 1) cp2)) := by have h1 := Nat.le_trans hn0 hB4.size; unfold LeN; simpa using h1
              refine wpAnyH_take (i := 16) (oi := ?oi20033) (v := ?v20033) ?hi20033 (by kernel_rfl) (by kernel_rfl) (by kernel_rfl) (fun _ _ _ h => h) (Or.inl ⟨?hw20033, ?hy20033⟩) (by assumption) ?rest20033
              case hi20033 => (simp only [List.getElem?_toArray, List.getElem?_cons_zero, List.getElem?_cons_succ]; rfl)
              case hw20033 => rfl
              case hy20033 => first | (intro wx hSw; go_simp; done) | (intro wx hSw; go_simp; with_reducible rfl)
              simp only [Act.put, List.setIfInBounds_toArray, List.set_cons_zero, List.set_cons_succ]
              refine wpAnyH_ready (rs := [17]) (by kernel_rfl) (by simp) ?_
              refine AllReadyH.cons rfl (fun K20034 hK20034 => ?_) AllReadyH.nil
              go_simp
              refine hK20034.out _ _ ?hs20034 (fun hHeld20034 => ?_)
              case hs20034 => exact trivial
              clear hHeld
              have hHeld := hHeld20034; clear hHeld20034 hK20034 K20034
              refine wpAnyH_done (by kernel_rfl) ?_ _
              refine NoPanic.normal ?_
              skip
              exact unhide REST10 _ _ (nm, ty, bb) _ (by kernel_rfl) (unhide hnm) hty G5 Z5 T5 O5 N5
            refine AllReadyH.cons rfl (fun K20035 hK20035 => ?_) AllReadyH.nil
            · go_simp
              have hb := below_new X2 (.cells #[.string nm, .int .i64 ty, .bool bb] 63)
              have hs3 := cells_three_at X2 _ rfl (.string nm) (.int .i64 ty) (.bool bb) 63
              refine hK20035.out _ _ ?hs20035 (fun hHeld20035 => ?_)
              case hs20035 => exact trivial
              clear hHeld
              have hHeld := hHeld20035; clear hHeld20035 hK20035 K20035
              replace G := hide ((unhide G).call hb)
              replace hZ := hide ((unhide hZ).call hb)
              replace hT := hide ((unhide hT).call hb)
              replace hO := hide ((unhide hO).call hb)
              replace hn0 := hn0.call hb
              clear lt_ t1
              generalize hgs : X2.heap.size = gs at *
              generalize hXs : X2.alloc (.cells #[.string nm, .int .i64 ty, .bool bb] 63) = X3 at *
              clear hXs hgs hb
              have lt_ := (unhide hT).lt
              have t1 := (unhide hT).cell 1
              simp at t1
              refine wpAnyH_ready (rs := [1]) (by kernel_rfl) (by simp) ?_
              refine AllReadyH.cons rfl (fun K20036 hK20036 => ?_) AllReadyH.nil
              go_simp
              refine hK20036.out _ _ ?hs20036 (fun hHeld20036 => ?_)
              case hs20036 => exact trivial
              clear hHeld
              have hHeld := hHeld20036; clear hHeld20036 hK20036 K20036
              refine wpAnyH_ready (rs := [15]) (by kernel_rfl) (by simp) ?_
              refine AllReadyH.cons rfl (fun K20037 hK20037 => ?_) AllReadyH.nil
              refine step_append_lies _ rfl _ _ 26 rfl n0 63 i0 _ 3 32 Try.underlying26 hi hz0 hz1 hz2 rfl (by decide) cv _ _ rfl (unhide hO) ⟨gs, 0, none⟩ 1 1 [.string nm, .int .i64 ty, .bool bb] rfl rfl hs3 (by simp [Value.oneCell']) (by decide) (by unfold maxLen; omega) (by omega) hn0 _ rfl ?_
              intro g2 cp2 w4 hown4 hgrow4 hat4 hlt4
              have hB4 : Below n0 X3 w4 := Below.grown (Below.refl _ _) hgrow4 hn0 (fun j e => by rcases (unhide hO).2 with ⟨rfl, _⟩ | ⟨g', cap', cur', rfl, hge', _⟩ <;> simp [Value.ownBlock] at e; omega)
              refine hK20037.out _ _ ?hs20037 (fun hHeld20037 => ?_)
              case hs20037 => exact trivial
              clear hHeld
              have hHeld := hHeld20037; clear hHeld20037 hK20037 K20037
              have hw0 : w.heap.size ≤ n0 := by omega
              have G4 : Hid (Grown w w4) := hide (Below.trans (unhide G) (hB4.mono hw0))
              have Z4_ := hide (blk_base (unhide hZ) hB4 h6)
              have T4_ := hide (blk_base (unhide hT) hB4 ht)
              have lt4 := (unhide T4_).lt
              have q1 := (unhide T4_).cell 1
              have f1 := (unhide T4_).froz 1
              simp at q1
              have G5 : Hid (Grown w (w4.setCell ⟨bt, 1, none⟩ (.slice (some ⟨g2, 0, none⟩) (l.length + 1) cp2))) := hide (Below.setCell (unhide G4 : Below w.heap.size w w4) (p := ⟨bt, 1, none⟩) hwt _)
              have Z5 := hide ((unhide Z4_).set h6t 1 (.slice (some ⟨g2, 0, none⟩) (l.length + 1) cp2))
              have T5 : Hid (Blk bt (tbl s0 (.slice (some ⟨g2, 0, none⟩) (l.length + 1) cp2) (.int .i64 0) (.slice none 0 0) (.slice none 0 0)) 34 (w4.setCell ⟨bt, 1, none⟩ (.slice (some ⟨g2, 0, none⟩) (l.length + 1) cp2))) := hide (heapSet (unhide T4_) 1 (.slice (some ⟨g2, 0, none⟩) (l.length + 1) cp2))
              have O5 : Hid (OwC n0 (.slice (some ⟨g2, 0, none⟩) (l.length + 1) cp2) (l ++ [(nm, ty, bb)]) (w4.setCell ⟨bt, 1, none⟩ (.slice (some ⟨g2, 0, none⟩) (l.length + 1) cp2))) := by
                have := owns_set (b := bt) hown4 ht 1 (.slice (some ⟨g2, 0, none⟩) (l.length + 1) cp2)
                show World.ownsRow _ _ _ _ _ _ _
                rw [colC_snoc]; simpa using this
              have N5 : LeN n0 (w4.setCell ⟨bt, 1, none⟩ (.slice (some ⟨g2, 0, none⟩) (l.length + 1) cp2)) := by have h1 := Nat.le_trans hn0 hB4.size; unfold LeN; simpa using h1
              refine wpAnyH_take (i := 16) (oi := ?oi20038) (v := ?v20038) ?hi20038 (by kernel_rfl) (by kernel_rfl) (by kernel_rfl) (fun _ _ _ h => h) (Or.inl ⟨?hw20038, ?hy20038⟩) (by assumption) ?rest20038
              case hi20038 => (simp only [List.getElem?_toArray, List.getElem?_cons_zero, List.getElem?_cons_succ]; rfl)
              case hw20038 => rfl
              case hy20038 => first | (intro wx hSw; go_simp; done) | (intro wx hSw; go_simp; with_reducible rfl)
              simp only [Act.put, List.setIfInBounds_toArray, List.set_cons_zero, List.set_cons_succ]
              refine wpAnyH_ready (rs := [17]) (by kernel_rfl) (by simp) ?_
              refine AllReadyH.cons rfl (fun K20039 hK20039 => ?_) AllReadyH.nil
              go_simp
              refine hK20039.out _ _ ?hs20039 (fun hHeld20039 => ?_)
              case hs20039 => exact trivial
              clear hHeld
              have hHeld := hHeld20039; clear hHeld20039 hK20039 K20039
              refine wpAnyH_done (by kernel_rfl) ?_ _
              refine NoPanic.normal ?_
              skip
              exact unhide REST10 _ _ (nm, ty, bb) _ (by kernel_rfl) (unhide hnm) hty G5 Z5 T5 O5 N5
      · have hni : ¬ (l.length : Int) < zs.length := by omega
        have hm0 : 0 ≤ 2 + (l.length : Int) ∧ 2 + (l.length : Int) < 1073741824 := by omega
        have e3 : IntKind.i64.wrap (1 + (2 + (l.length : Int)) % 5) = 1 + (2 + (l.length : Int)) % 5 := IntWalk.i64_in _ (by omega)
        go_wp2_with fail
        rename_i K10 hk10
        have REST10 : ∀ (ac : Act) (cv : Value) (c : C3) (X : World), ac = ⟨#[.int .i64 n, .slice p zs.length np, o 2, o 3, o 4, o 5, .pointer (some ⟨b6, 0, none⟩), .pointer (some ⟨bt, 0, none⟩), .int .i64 (k : Int), .int .i64 (l.length : Int), ac.tmps.getD 10 undef, o 11, o 12, o 13, o 14, o 15, o 16, o 17, o 18, o 19, o 20, o 21, ac.tmps.getD 22 undef, ac.tmps.getD 23 undef, ac.tmps.getD 24 undef, ac.tmps.getD 25 undef, ac.tmps.getD 26 undef, ac.tmps.getD 27 undef, ac.tmps.getD 28 undef, ac.tmps.getD 29 undef, ac.tmps.getD 30 undef, ac.tmps.getD 31 undef, ac.tmps.getD 32 undef, ac.tmps.getD 33 undef, ac.tmps.getD 34 undef, ac.tmps.getD 35 undef, ac.tmps.getD 36 undef, ac.tmps.getD 37 undef, ac.tmps.getD 38 undef, ac.tmps.getD 39 undef, ac.tmps.getD 40 undef, ac.tmps.getD 41 undef, ac.tmps.getD 42 undef, ac.tmps.getD 43 undef, ac.tmps.getD 44 undef, ac.tmps.getD 45 undef, ac.tmps.getD 46 undef, ac.tmps.getD 47 undef, ac.tmps.getD 48 undef, ac.tmps.getD 49 undef, ac.tmps.getD 50 undef, ac.tmps.getD 51 undef, ac.tmps.getD 52 undef, ac.tmps.getD 53 undef, ac.tmps.getD 54 undef, o 55, o 56, o 57, o 58, o 59, o 60, o 61, o 62, o 63, o 64, o 65, o 66, o 67, o 68, o 69, o 70, o 71, o 72, o 73, o 74, o 75, o 76, o 77, o 78, o 79, o 80, o 81, o 82, o 83, o 84, o 85, o 86, o 87, o 88, o 89, o 90, o 91, o 92, o 93, o 94, o 95, o 96, o 97, o 98, o 99, o 100, o 101, o 102, o 103, o 104, o 105, o 106, o 107, o 108, o 109, o 110, o 111, o 112, o 113, o 114], []⟩ → c.1 = nmK l.length → 1 ≤ c.2.1 ∧ c.2.1 ≤ 5 → Hid (Grown w X) → Hid (Blk b6 (tbl ⟨#[]⟩ (.slice none 0 0) (.int .i64 0) (.slice none 0 0) (.slice none 0 0)) 34 X) → Hid (Blk bt (tbl s0 cv (.int .i64 0) (.slice none 0 0) (.slice none 0 0)) 34 X) → Hid (OwC n0 cv (l ++ [c]) X) → LeN n0 X → K10 ac X := by
          clear G hZ hT hO hn0
          intro ac cv c X ha hc1 hc2 G hZ hT hO hn0
          obtain ⟨u, rfl⟩ : ∃ u : Nat → Value, ac = ⟨#[.int .i64 n, .slice p zs.length np, o 2, o 3, o 4, o 5, .pointer (some ⟨b6, 0, none⟩), .pointer (some ⟨bt, 0, none⟩), .int .i64 (k : Int), .int .i64 (l.length : Int), u 10, o 11, o 12, o 13, o 14, o 15, o 16, o 17, o 18, o 19, o 20, o 21, u 22, u 23, u 24, u 25, u 26, u 27, u 28, u 29, u 30, u 31, u 32, u 33, u 34, u 35, u 36, u 37, u 38, u 39, u 40, u 41, u 42, u 43, u 44, u 45, u 46, u 47, u 48, u 49, u 50, u 51, u 52, u 53, u 54, o 55, o 56, o 57, o 58, o 59, o 60, o 61, o 62, o 63, o 64, o 65, o 66, o 67, o 68, o 69, o 70, o 71, o 72, o 73, o 74, o 75, o 76, o 77, o 78, o 79, o 80, o 81, o 82, o 83, o 84, o 85, o 86, o 87, o 88, o 89, o 90, o 91, o 92, o 93, o 94, o 95, o 96, o 97, o 98, o 99, o 100, o 101, o 102, o 103, o 104, o 105, o 106, o 107, o 108, o 109, o 110, o 111, o 112, o 113, o 114], []⟩ := ⟨fun i => ac.tmps.getD i undef, ha⟩
          clear ha
          refine hk10 _ _ ?_
          clear hk10
          have hL2 := hide (colsL_snoc (unhide hL) hc1 hc2)
          clear hL hc1 hc2
          go_wp2_with fail
          go_roundw
          case rel => exact hide ⟨l ++ [c], cv, by simp; omega, by simp, hL2, G, hZ, hT, hO, hn0⟩
          case measure => simp [intOf]; omega
        have REST10 := hide REST10
        clear hk10
        refine wp_region_noPanic ?_
        refine wp_region_held_drew (S := (fun _ => True)) (by kernel_rfl) (trivial) (fun hHeld => ?_)
        have hbd : Below wr.heap.size wr wr.drew := (Below.refl _ _).drew
        replace G := hide ((unhide G).call hbd)
        replace hZ := hide ((unhide hZ).call hbd)
        replace hT := hide ((unhide hT).call hbd)
        replace hO := hide ((unhide hO).call hbd)
        replace hn0 := hn0.call hbd
        clear hbd
        generalize wr.drew = Wd at *
        refine wpAnyH_take (i := 0) (oi := ?oi20040) (v := ?v20040) ?hi20040 (by kernel_rfl) (by kernel_rfl) (by kernel_rfl) (fun _ _ _ h => h) (Or.inl ⟨?hw20040, ?hy20040⟩) (by assumption) ?rest20040
        case hi20040 => (simp only [List.getElem?_toArray, List.getElem?_cons_zero]; rfl)
        case hw20040 => rfl
        case hy20040 => first | (intro wx hSw; go_simp; done) | (intro wx hSw; go_simp; with_reducible rfl)
        simp only [Act.put, List.setIfInBounds_toArray, List.set_cons_zero, List.set_cons_succ]
        refine wpAnyH_take (i := 3) (oi := ?oi20041) (v := ?v20041) ?hi20041 (by kernel_rfl) (by kernel_rfl) (by kernel_rfl) (fun _ _ _ h => h) (Or.inl ⟨?hw20041, ?hy20041⟩) (by assumption) ?rest20041
        case hi20041 => (simp only [List.getElem?_toArray, List.getElem?_cons_zero, List.getElem?_cons_succ]; rfl)
        case hw20041 => rfl
        case hy20041 => first | (intro wx hSw; go_simp; done) | (intro wx hSw; go_simp; with_reducible rfl)
        simp only [Act.put, List.setIfInBounds_toArray, List.set_cons_zero, List.set_cons_succ]
        refine wpAnyH_take (i := 6) (oi := ?oi20042) (v := ?v20042) ?hi20042 (by kernel_rfl) (by kernel_rfl) (by kernel_rfl) (fun _ _ _ h => h) (Or.inl ⟨?hw20042, ?hy20042⟩) (by assumption) ?rest20042
        case hi20042 => (simp only [List.getElem?_toArray, List.getElem?_cons_zero, List.getElem?_cons_succ]; rfl)
        case hw20042 => rfl
        case hy20042 => first | (intro wx hSw; go_simp; done) | (intro wx hSw; go_simp; with_reducible rfl)
        simp only [Act.put, List.setIfInBounds_toArray, List.set_cons_zero, List.set_cons_succ]
        refine wpAnyH_take (i := 7) (oi := ?oi20043) (v := ?v20043) ?hi20043 (by kernel_rfl) (by kernel_rfl) (by kernel_rfl) (fun _ _ _ h => h) (Or.inl ⟨?hw20043, ?hy20043⟩) (by assumption) ?rest20043
        case hi20043 => (simp only [List.getElem?_toArray, List.getElem?_cons_zero, List.getElem?_cons_succ]; rfl)
        case hw20043 => rfl
        case hy20043 => first | (intro wx hSw; go_simp; done) | (intro wx hSw; go_simp; with_reducible rfl)
        simp only [Act.put, List.setIfInBounds_toArray, List.set_cons_zero, List.set_cons_succ]
        refine wpAnyH_take (i := 8) (oi := ?oi20044) (v := ?v20044) ?hi20044 (by kernel_rfl) (by kernel_rfl) (by kernel_rfl) (fun _ _ _ h => h) (Or.inl ⟨?hw20044, ?hy20044⟩) (by assumption) ?rest20044
        case hi20044 => (simp only [List.getElem?_toArray, List.getElem?_cons_zero, List.getElem?_cons_succ]; rfl)
        case hw20044 => rfl
        case hy20044 => first | (intro wx hSw; go_simp; done) | (intro wx hSw; go_simp; with_reducible rfl)
        simp only [Act.put, List.setIfInBounds_toArray, List.set_cons_zero, List.set_cons_succ]
        refine wpAnyH_take (i := 9) (oi := ?oi20045) (v := ?v20045) ?hi20045 (by kernel_rfl) (by kernel_rfl) (by kernel_rfl) (fun _ _ _ h => h) (Or.inl ⟨?hw20045, ?hy20045⟩) (by assumption) ?rest20045
        case hi20045 => (simp only [List.getElem?_toArray, List.getElem?_cons_zero, List.getElem?_cons_succ]; rfl)
        case hw20045 => rfl
        case hy20045 => first | (intro wx hSw; go_simp; done) | (intro wx hSw; go_simp; with_reducible rfl)
        simp only [Act.put, List.setIfInBounds_toArray, List.set_cons_zero, List.set_cons_succ]
        refine wpAnyH_take (i := 10) (oi := ?oi20046) (v := ?v20046) ?hi20046 (by kernel_rfl) (by kernel_rfl) (by kernel_rfl) (fun _ _ _ h => h) (Or.inl ⟨?hw20046, ?hy20046⟩) (by assumption) ?rest20046
        case hi20046 => (simp only [List.getElem?_toArray, List.getElem?_cons_zero, List.getElem?_cons_succ]; rfl)
        case hw20046 => rfl
        case hy20046 => first | (intro wx hSw; go_simp; done) | (intro wx hSw; go_simp; with_reducible rfl)
        simp only [Act.put, List.setIfInBounds_toArray, List.set_cons_zero, List.set_cons_succ]
        refine wpAnyH_take (i := 11) (oi := ?oi20047) (v := ?v20047) ?hi20047 (by kernel_rfl) (by kernel_rfl) (by kernel_rfl) (fun _ _ _ h => h) (Or.inl ⟨?hw20047, ?hy20047⟩) (by assumption) ?rest20047
        case hi20047 => (simp only [List.getElem?_toArray, List.getElem?_cons_zero, List.getElem?_cons_succ]; rfl)
        case hw20047 => rfl
        case hy20047 => first | (intro wx hSw; go_simp; done) | (intro wx hSw; go_simp; with_reducible rfl)
        simp only [Act.put, List.setIfInBounds_toArray, List.set_cons_zero, List.set_cons_succ]
        refine wpAnyH_take (i := 12) (oi := ?oi20048) (v := ?v20048) ?hi20048 (by kernel_rfl) (by kernel_rfl) (by kernel_rfl) (fun _ _ _ h => h) (Or.inl ⟨?hw20048, ?hy20048⟩) (by assumption) ?rest20048
        case hi20048 => (simp only [List.getElem?_toArray, List.getElem?_cons_zero, List.getElem?_cons_succ]; rfl)
        case hw20048 => rfl
        case hy20048 => first | (intro wx hSw; go_simp; done) | (intro wx hSw; go_simp; with_reducible rfl)
        simp only [Act.put, List.setIfInBounds_toArray, List.set_cons_zero, List.set_cons_succ]
        have hty : 1 ≤ IntKind.i64.wrap (1 + (2 + (l.length : Int)).tmod 5) ∧ IntKind.i64.wrap (1 + (2 + (l.length : Int)).tmod 5) ≤ 5 := by rw [Int.tmod_eq_emod_of_nonneg hm0.1, e3]; omega
        generalize IntKind.i64.wrap (1 + (2 + (l.length : Int)).tmod 5) = ty at *
        generalize ((IntKind.i64.wrap ((2 + (l.length : Int)).tdiv 5)).tmod 3 == 0) = bb at *
        have lt_ := (unhide hT).lt
        have t1 := (unhide hT).cell 1
        simp at t1
        refine wpAnyH_ready (rs := [1, 2]) (by kernel_rfl) (by simp) ?_
        refine AllReadyH.cons rfl (fun K20049 hK20049 => ?_) ?_
        · go_simp
          refine hK20049.out _ _ ?hs20049 (fun hHeld20049 => ?_)
          case hs20049 => exact trivial
          clear hHeld
          have hHeld := hHeld20049; clear hHeld20049 hK20049 K20049
          refine wpAnyH_ready (rs := [2]) (by kernel_rfl) (by simp) ?_
          refine AllReadyH.cons rfl (fun K20050 hK20050 => ?_) AllReadyH.nil
          go_simp
          go_wp2_with (go_at_call 35; refine (colsN_any _).mono ?_; rintro e X2 ⟨gn, rfl, hN, hb⟩)
          refine hK20050.out _ _ ?hs20050 (fun hHeld20050 => ?_)
          case hs20050 => exact trivial
          clear hHeld
          have hHeld := hHeld20050; clear hHeld20050 hK20050 K20050
          replace G := hide ((unhide G).call hb)
          replace hZ := hide ((unhide hZ).call hb)
          replace hT := hide ((unhide hT).call hb)
          replace hO := hide ((unhide hO).call hb)
          replace hn0 := hn0.call hb
          clear hb lt_ t1
          have lt_ := (unhide hT).lt
          have t1 := (unhide hT).cell 1
          simp at t1
          have ln_ := (unhide hN).lt
          obtain ⟨nm, hnm, hnc⟩ : ∃ nm, Hid (nm = nmK l.length) ∧ X2.cell? ⟨gn, l.length, none⟩ = some (.string nm) := by
            have hl4 : l.length = 0 ∨ l.length = 1 ∨ l.length = 2 ∨ l.length = 3 := by omega
            rcases hl4 with h | h | h | h <;> rw [h] <;> exact ⟨_, rfl, (unhide hN).cell _⟩
          have hl6 : (l.length : Int) < 6 := by omega
          refine wpAnyH_take (i := 4) (oi := ?oi20051) (v := ?v20051) ?hi20051 (by kernel_rfl) (by kernel_rfl) (by kernel_rfl) (fun _ _ _ h => h) (Or.inl ⟨?hw20051, ?hy20051⟩) (by assumption) ?rest20051
          case hi20051 => (simp only [List.getElem?_toArray, List.getElem?_cons_zero, List.getElem?_cons_succ]; rfl)
          case hw20051 => rfl
          case hy20051 => first | (intro wx hSw; have hl6_ := hl6; go_simp; done) | (intro wx hSw; have hl6_ := hl6; go_simp; with_reducible rfl)
          simp only [Act.put, List.setIfInBounds_toArray, List.set_cons_zero, List.set_cons_succ]
          refine wpAnyH_ready (rs := [5]) (by kernel_rfl) (by simp) ?_
          refine AllReadyH.cons rfl (fun K20052 hK20052 => ?_) AllReadyH.nil
          go_simp
          refine hK20052.out _ _ ?hs20052 (fun hHeld20052 => ?_)
          case hs20052 => exact trivial
          clear hHeld
          have hHeld := hHeld20052; clear hHeld20052 hK20052 K20052
          refine wpAnyH_take (i := 13) (oi := ?oi20053) (v := ?v20053) ?hi20053 (by kernel_rfl) (by kernel_rfl) (by kernel_rfl) (fun _ _ _ h => h) (Or.inl ⟨?hw20053, ?hy20053⟩) (by assumption) ?rest20053
          case hi20053 => (simp only [List.getElem?_toArray, List.getElem?_cons_zero, List.getElem?_cons_succ]; rfl)
          case hw20053 => rfl
          case hy20053 => first | (intro wx hSw; go_simp; done) | (intro wx hSw; go_simp; with_reducible rfl)
          simp only [Act.put, List.setIfInBounds_toArray, List.set_cons_zero, List.set_cons_succ]
          refine wpAnyH_ready (rs := [14]) (by kernel_rfl) (by simp) ?_
          refine AllReadyH.cons rfl (fun K20054 hK20054 => ?_) AllReadyH.nil
          go_simp
          have hb := below_new X2 (.cells #[.string nm, .int .i64 ty, .bool bb] 63)
          have hs3 := cells_three_at X2 _ rfl (.string nm) (.int .i64 ty) (.bool bb) 63
          refine hK20054.out _ _ ?hs20054 (fun hHeld20054 => ?_)
          case hs20054 => exact trivial
          clear hHeld
          have hHeld := hHeld20054; clear hHeld20054 hK20054 K20054
          replace G := hide ((unhide G).call hb)
          replace hZ := hide ((unhide hZ).call hb)
          replace hT := hide ((unhide hT).call hb)
          replace hO := hide ((unhide hO).call hb)
          replace hn0 := hn0.call hb
          clear lt_ t1
          generalize hgs : X2.heap.size = gs at *
          generalize hXs : X2.alloc (.cells #[.string nm, .int .i64 ty, .bool bb] 63) = X3 at *
          clear hXs hgs hb
          have lt_ := (unhide hT).lt
          have t1 := (unhide hT).cell 1
          simp at t1
          refine wpAnyH_ready (rs := [15]) (by kernel_rfl) (by simp) ?_
          refine AllReadyH.cons rfl (fun K20055 hK20055 => ?_) AllReadyH.nil
          refine step_append_lies _ rfl _ _ 26 rfl n0 63 i0 _ 3 32 Try.underlying26 hi hz0 hz1 hz2 rfl (by decide) cv _ _ rfl (unhide hO) ⟨gs, 0, none⟩ 1 1 [.string nm, .int .i64 ty, .bool bb] rfl rfl hs3 (by simp [Value.oneCell']) (by decide) (by unfold maxLen; omega) (by omega) hn0 _ rfl ?_
          intro g2 cp2 w4 hown4 hgrow4 hat4 hlt4
          have hB4 : Below n0 X3 w4 := Below.grown (Below.refl _ _) hgrow4 hn0 (fun j e => by rcases (unhide hO).2 with ⟨rfl, _⟩ | ⟨g', cap', cur', rfl, hge', _⟩ <;> simp [Value.ownBlock] at e; omega)
          refine hK20055.out _ _ ?hs20055 (fun hHeld20055 => ?_)
          case hs20055 => exact trivial
          clear hHeld
          have hHeld := hHeld20055; clear hHeld20055 hK20055 K20055
          have hw0 : w.heap.size ≤ n0 := by omega
          have G4 : Hid (Grown w w4) := hide (Below.trans (unhide G) (hB4.mono hw0))
          have Z4_ := hide (blk_base (unhide hZ) hB4 h6)
          have T4_ := hide (blk_base (unhide hT) hB4 ht)
          have lt4 := (unhide T4_).lt
          have q1 := (unhide T4_).cell 1
          have f1 := (unhide T4_).froz 1
          simp at q1
          have G5 : Hid (Grown w (w4.setCell ⟨bt, 1, none⟩ (.slice (some ⟨g2, 0, none⟩) (l.length + 1) cp2))) := hide (Below.setCell (unhide G4 : Below w.heap.size w w4) (p := ⟨bt, 1, none⟩) hwt _)
          have Z5 := hide ((unhide Z4_).set h6t 1 (.slice (some ⟨g2, 0, none⟩) (l.length + 1) cp2))
          have T5 : Hid (Blk bt (tbl s0 (.slice (some ⟨g2, 0, none⟩) (l.length + 1) cp2) (.int .i64 0) (.slice none 0 0) (.slice none 0 0)) 34 (w4.setCell ⟨bt, 1, none⟩ (.slice (some ⟨g2, 0, none⟩) (l.length + 1) cp2))) := hide (heapSet (unhide T4_) 1 (.slice (some ⟨g2, 0, none⟩) (l.length + 1) cp2))
          have O5 : Hid (OwC n0 (.slice (some ⟨g2, 0, none⟩) (l.length + 1) cp2) (l ++ [(nm, ty, bb)]) (w4.setCell ⟨bt, 1, none⟩ (.slice (some ⟨g2, 0, none⟩) (l.length + 1) cp2))) := by
            have := owns_set (b := bt) hown4 ht 1 (.slice (some ⟨g2, 0, none⟩) (l.length + 1) cp2)
            show World.ownsRow _ _ _ _ _ _ _
            rw [colC_snoc]; simpa using this
          have N5 : LeN n0 (w4.setCell ⟨bt, 1, none⟩ (.slice (some ⟨g2, 0, none⟩) (l.length + 1) cp2)) := by have h1 := Nat.le_trans hn0 hB4.size; unfold LeN; simpa using h1
          refine wpAnyH_take (i := 16) (oi := ?oi20056) (v := ?v20056) ?hi20056 (by kernel_rfl) (by kernel_rfl) (by kernel_rfl) (fun _ _ _ h => h) (Or.inl ⟨?hw20056, ?hy20056⟩) (by assumption) ?rest20056
          case hi20056 => (simp only [List.getElem?_toArray, List.getElem?_cons_zero, List.getElem?_cons_succ]; rfl)
          case hw20056 => rfl
          case hy20056 => first | (intro wx hSw; go_simp; done) | (intro wx hSw; go_simp; with_reducible rfl)
          simp only [Act.put, List.setIfInBounds_toArray, List.set_cons_zero, List.set_cons_succ]
          refine wpAnyH_ready (rs := [17]) (by kernel_rfl) (by simp) ?_
          refine AllReadyH.cons rfl (fun K20057 hK20057 => ?_) AllReadyH.nil
          go_simp
          refine hK20057.out _ _ ?hs20057 (fun hHeld20057 => ?_)
          case hs20057 => exact trivial
          clear hHeld
          have hHeld := hHeld20057; clear hHeld20057 hK20057 K20057
          refine wpAnyH_done (by kernel_rfl) ?_ _
          refine NoPanic.normal ?_
          skip
          exact unhide REST10 _ _ (nm, ty, bb) _ (by kernel_rfl) (unhide hnm) hty G5 Z5 T5 O5 N5
        refine AllReadyH.cons rfl (fun K20058 hK20058 => ?_) AllReadyH.nil
        · go_simp
          go_wp2_with (go_at_call 35; refine (colsN_any _).mono ?_; rintro e X2 ⟨gn, rfl, hN, hb⟩)
          refine hK20058.out _ _ ?hs20058 (fun hHeld20058 => ?_)
          case hs20058 => exact trivial
          clear hHeld
          have hHeld := hHeld20058; clear hHeld20058 hK20058 K20058
          replace G := hide ((unhide G).call hb)
          replace hZ := hide ((unhide hZ).call hb)
          replace hT := hide ((unhide hT).call hb)
          replace hO := hide ((unhide hO).call hb)
          replace hn0 := hn0.call hb
          clear hb lt_ t1
          have lt_ := (unhide hT).lt
          have t1 := (unhide hT).cell 1
          simp at t1
          have ln_ := (unhide hN).lt
          obtain ⟨nm, hnm, hnc⟩ : ∃ nm, Hid (nm = nmK l.length) ∧ X2.cell? ⟨gn, l.length, none⟩ = some (.string nm) := by
            have hl4 : l.length = 0 ∨ l.length = 1 ∨ l.length = 2 ∨ l.length = 3 := by omega
            rcases hl4 with h | h | h | h <;> rw [h] <;> exact ⟨_, rfl, (unhide hN).cell _⟩
          have hl6 : (l.length : Int) < 6 := by omega
          refine wpAnyH_take (i := 4) (oi := ?oi20059) (v := ?v20059) ?hi20059 (by kernel_rfl) (by kernel_rfl) (by kernel_rfl) (fun _ _ _ h => h) (Or.inl ⟨?hw20059, ?hy20059⟩) (by assumption) ?rest20059
          case hi20059 => (simp only [List.getElem?_toArray, List.getElem?_cons_zero, List.getElem?_cons_succ]; rfl)
          case hw20059 => rfl
          case hy20059 => first | (intro wx hSw; have hl6_ := hl6; go_simp; done) | (intro wx hSw; have hl6_ := hl6; go_simp; with_reducible rfl)
          simp only [Act.put, List.setIfInBounds_toArray, List.set_cons_zero, List.set_cons_succ]
          refine wpAnyH_ready (rs := [1, 5]) (by kernel_rfl) (by simp) ?_
          refine AllReadyH.cons rfl (fun K20060 hK20060 => ?_) ?_
          · go_simp
            refine hK20060.out _ _ ?hs20060 (fun hHeld20060 => ?_)
            case hs20060 => exact trivial
            clear hHeld
            have hHeld := hHeld20060; clear hHeld20060 hK20060 K20060
            refine wpAnyH_ready (rs := [5]) (by kernel_rfl) (by simp) ?_
            refine AllReadyH.cons rfl (fun K20061 hK20061 => ?_) AllReadyH.nil
            go_simp
            refine hK20061.out _ _ ?hs20061 (fun hHeld20061 => ?_)
            case hs20061 => exact trivial
            clear hHeld
            have hHeld := hHeld20061; clear hHeld20061 hK20061 K20061
            refine wpAnyH_take (i := 13) (oi := ?oi20062) (v := ?v20062) ?hi20062 (by kernel_rfl) (by kernel_rfl) (by kernel_rfl) (fun _ _ _ h => h) (Or.inl ⟨?hw20062, ?hy20062⟩) (by assumption) ?rest20062
            case hi20062 => (simp only [List.getElem?_toArray, List.getElem?_cons_zero, List.getElem?_cons_succ]; rfl)
            case hw20062 => rfl
            case hy20062 => first | (intro wx hSw; go_simp; done) | (intro wx hSw; go_simp; with_reducible rfl)
            simp only [Act.put, List.setIfInBounds_toArray, List.set_cons_zero, List.set_cons_succ]
            refine wpAnyH_ready (rs := [14]) (by kernel_rfl) (by simp) ?_
            refine AllReadyH.cons rfl (fun K20063 hK20063 => ?_) AllReadyH.nil
            go_simp
            have hb := below_new X2 (.cells #[.string nm, .int .i64 ty, .bool bb] 63)
            have hs3 := cells_three_at X2 _ rfl (.string nm) (.int .i64 ty) (.bool bb) 63
            refine hK20063.out _ _ ?hs20063 (fun hHeld20063 => ?_)
            case hs20063 => exact trivial
            clear hHeld
            have hHeld := hHeld20063; clear hHeld20063 hK20063 K20063
            replace G := hide ((unhide G).call hb)
            replace hZ := hide ((unhide hZ).call hb)
            replace hT := hide ((unhide hT).call hb)
            replace hO := hide ((unhide hO).call hb)
            replace hn0 := hn0.call hb
            clear lt_ t1
            generalize hgs : X2.heap.size = gs at *
            generalize hXs : X2.alloc (.cells #[.string nm, .int .i64 ty, .bool bb] 63) = X3 at *
            clear hXs hgs hb
            have lt_ := (unhide hT).lt
            have t1 := (unhide hT).cell 1
            simp at t1
            refine wpAnyH_ready (rs := [15]) (by kernel_rfl) (by simp) ?_
            refine AllReadyH.cons rfl (fun K20064 hK20064 => ?_) AllReadyH.nil
            refine step_append_lies _ rfl _ _ 26 rfl n0 63 i0 _ 3 32 Try.underlying26 hi hz0 hz1 hz2 rfl (by decide) cv _ _ rfl (unhide hO) ⟨gs, 0, none⟩ 1 1 [.string nm, .int .i64 ty, .bool bb] rfl rfl hs3 (by simp [Value.oneCell']) (by decide) (by unfold maxLen; omega) (by omega) hn0 _ rfl ?_
            intro g2 cp2 w4 hown4 hgrow4 hat4 hlt4
            have hB4 : Below n0 X3 w4 := Below.grown (Below.refl _ _) hgrow4 hn0 (fun j e => by rcases (unhide hO).2 with ⟨rfl, _⟩ | ⟨g', cap', cur', rfl, hge', _⟩ <;> simp [Value.ownBlock] at e; omega)
            refine hK20064.out _ _ ?hs20064 (fun hHeld20064 => ?_)
            case hs20064 => exact trivial
            clear hHeld
            have hHeld := hHeld20064; clear hHeld20064 hK20064 K20064
            have hw0 : w.heap.size ≤ n0 := by omega
            have G4 : Hid (Grown w w4) := hide (Below.trans (unhide G) (hB4.mono hw0))
            have Z4_ := hide (blk_base (unhide hZ) hB4 h6)
            have T4_ := hide (blk_base (unhide hT) hB4 ht)
            have lt4 := (unhide T4_).lt
            have q1 := (unhide T4_).cell 1
            have f1 := (unhide T4_).froz 1
            simp at q1
            have G5 : Hid (Grown w (w4.setCell ⟨bt, 1, none⟩ (.slice (some ⟨g2, 0, none⟩) (l.length + 1) cp2))) := hide (Below.setCell (unhide G4 : Below w.heap.size w w4) (p := ⟨bt, 1, none⟩) hwt _)
            have Z5 := hide ((unhide Z4_).set h6t 1 (.slice (some ⟨g2, 0, none⟩) (l.length + 1) cp2))
            have T5 : Hid (Blk bt (tbl s0 (.slice (some ⟨g2, 0, none⟩) (l.length + 1) cp2) (.int .i64 0) (.slice none 0 0) (.slice none 0 0)) 34 (w4.setCell ⟨bt, 1, none⟩ (.slice (some ⟨g2, 0, none⟩) (l.length + 1) cp2))) := hide (heapSet (unhide T4_) 1 (.slice (some ⟨g2, 0, none⟩) (l.length + 1) cp2))
            have O5 : Hid (OwC n0 (.slice (some ⟨g2, 0, none⟩) (l.length + 1) cp2) (l ++ [(nm, ty, bb)]) (w4.setCell ⟨bt, 1, none⟩ (.slice (some ⟨g2, 0, none⟩) (l.length + 1) cp2))) := by
              have := owns_set (b := bt) hown4 ht 1 (.slice (some ⟨g2, 0, none⟩) (l.length + 1) cp2)
              show World.ownsRow _ _ _ _ _ _ _
              rw [colC_snoc]; simpa using this
            have N5 : LeN n0 (w4.setCell ⟨bt, 1, none⟩ (.slice (some ⟨g2, 0, none⟩) (l.length + 1) cp2)) := by have h1 := Nat.le_trans hn0 hB4.size; unfold LeN; simpa using h1
            refine wpAnyH_take (i := 16) (oi := ?oi20065) (v := ?v20065) ?hi20065 (by kernel_rfl) (by kernel_rfl) (by kernel_rfl) (fun _ _ _ h => h) (Or.inl ⟨?hw20065, ?hy20065⟩) (by assumption) ?rest20065
            case hi20065 => (simp only [List.getElem?_toArray, List.getElem?_cons_zero, List.getElem?_cons_succ]; rfl)
            case hw20065 => rfl
            case hy20065 => first | (intro wx hSw; go_simp; done) | (intro wx hSw; go_simp; with_reducible rfl)
            simp only [Act.put, List.setIfInBounds_toArray, List.set_cons_zero, List.set_cons_succ]
            refine wpAnyH_ready (rs := [17]) (by kernel_rfl) (by simp) ?_
            refine AllReadyH.cons rfl (fun K20066 hK20066 => ?_) AllReadyH.nil
            go_simp
            refine hK20066.out _ _ ?hs20066 (fun hHeld20066 => ?_)
            case hs20066 => exact trivial
            clear hHeld
            have hHeld := hHeld20066; clear hHeld20066 hK20066 K20066
            refine wpAnyH_done (by kernel_rfl) ?_ _
            refine NoPanic.normal ?_
            skip
            exact unhide REST10 _ _ (nm, ty, bb) _ (by kernel_rfl) (unhide hnm) hty G5 Z5 T5 O5 N5
          refine AllReadyH.cons rfl (fun K20067 hK20067 => ?_) AllReadyH.nil
          · go_simp
            refine hK20067.out _ _ ?hs20067 (fun hHeld20067 => ?_)
            case hs20067 => exact trivial
            clear hHeld
            have hHeld := hHeld20067; clear hHeld20067 hK20067 K20067
            refine wpAnyH_take (i := 13) (oi := ?oi20068) (v := ?v20068) ?hi20068 (by kernel_rfl) (by kernel_rfl) (by kernel_rfl) (fun _ _ _ h => h) (Or.inl ⟨?hw20068, ?hy20068⟩) (by assumption) ?rest20068
            case hi20068 => (simp only [List.getElem?_toArray, List.getElem?_cons_zero, List.getElem?_cons_succ]; rfl)
            case hw20068 => rfl
            case hy20068 => first | (intro wx hSw; go_simp; done) | (intro wx hSw; go_simp; with_reducible rfl)
            simp only [Act.put, List.setIfInBounds_toArray, List.set_cons_zero, List.set_cons_succ]
            refine wpAnyH_ready (rs := [1, 14]) (by kernel_rfl) (by simp) ?_
            refine AllReadyH.cons rfl (fun K20069 hK20069 => ?_) ?_
            · go_simp
              refine hK20069.out _ _ ?hs20069 (fun hHeld20069 => ?_)
              case hs20069 => exact trivial
              clear hHeld
              have hHeld := hHeld20069; clear hHeld20069 hK20069 K20069
              refine wpAnyH_ready (rs := [14]) (by kernel_rfl) (by simp) ?_
              refine AllReadyH.cons rfl (fun K20070 hK20070 => ?_) AllReadyH.nil
              go_simp
              have hb := below_new X2 (.cells #[.string nm, .int .i64 ty, .bool bb] 63)
              have hs3 := cells_three_at X2 _ rfl (.string nm) (.int .i64 ty) (.bool bb) 63
              refine hK20070.out _ _ ?hs20070 (fun hHeld20070 => ?_)
              case hs20070 => exact trivial
              clear hHeld
              have hHeld := hHeld20070; clear hHeld20070 hK20070 K20070
              replace G := hide ((unhide G).call hb)
              replace hZ := hide ((unhide hZ).call hb)
              replace hT := hide ((unhide hT).call hb)
              replace hO := hide ((unhide hO).call hb)
              replace hn0 := hn0.call hb
              clear lt_ t1
              generalize hgs : X2.heap.size = gs at *
              generalize hXs : X2.alloc (.cells #[.string nm, .int .i64 ty, .bool bb] 63) = X3 at *
              clear hXs hgs hb
              have lt_ := (unhide hT).lt
              have t1 := (unhide hT).cell 1
              simp at t1
              refine wpAnyH_ready (rs := [15]) (by kernel_rfl) (by simp) ?_
              refine AllReadyH.cons rfl (fun K20071 hK20071 => ?_) AllReadyH.nil
              refine step_append_lies _ rfl _ _ 26 rfl n0 63 i0 _ 3 32 Try.underlying26 hi hz0 hz1 hz2 rfl (by decide) cv _ _ rfl (unhide hO) ⟨gs, 0, none⟩ 1 1 [.string nm, .int .i64 ty, .bool bb] rfl rfl hs3 (by simp [Value.oneCell']) (by decide) (by unfold maxLen; omega) (by omega) hn0 _ rfl ?_
              intro g2 cp2 w4 hown4 hgrow4 hat4 hlt4
              have hB4 : Below n0 X3 w4 := Below.grown (Below.refl _ _) hgrow4 hn0 (fun j e => by rcases (unhide hO).2 with ⟨rfl, _⟩ | ⟨g', cap', cur', rfl, hge', _⟩ <;> simp [Value.ownBlock] at e; omega)
              refine hK20071.out _ _ ?hs20071 (fun hHeld20071 => ?_)
              case hs20071 => exact trivial
              clear hHeld
              have hHeld := hHeld20071; clear hHeld20071 hK20071 K20071
              have hw0 : w.heap.size ≤ n0 := by omega
              have G4 : Hid (Grown w w4) := hide (Below.trans (unhide G) (hB4.mono hw0))
              have Z4_ := hide (blk_base (unhide hZ) hB4 h6)
              have T4_ := hide (blk_base (unhide hT) hB4 ht)
              have lt4 := (unhide T4_).lt
              have q1 := (unhide T4_).cell 1
              have f1 := (unhide T4_).froz 1
              simp at q1
              have G5 : Hid (Grown w (w4.setCell ⟨bt, 1, none⟩ (.slice (some ⟨g2, 0, none⟩) (l.length + 1) cp2))) := hide (Below.setCell (unhide G4 : Below w.heap.size w w4) (p := ⟨bt, 1, none⟩) hwt _)
              have Z5 := hide ((unhide Z4_).set h6t 1 (.slice (some ⟨g2, 0, none⟩) (l.length + 1) cp2))
              have T5 : Hid (Blk bt (tbl s0 (.slice (some ⟨g2, 0, none⟩) (l.length + 1) cp2) (.int .i64 0) (.slice none 0 0) (.slice none 0 0)) 34 (w4.setCell ⟨bt, 1, none⟩ (.slice (some ⟨g2, 0, none⟩) (l.length + 1) cp2))) := hide (heapSet (unhide T4_) 1 (.slice (some ⟨g2, 0, none⟩) (l.length + 1) cp2))
              have O5 : Hid (OwC n0 (.slice (some ⟨g2, 0, none⟩) (l.length + 1) cp2) (l ++ [(nm, ty, bb)]) (w4.setCell ⟨bt, 1, none⟩ (.slice (some ⟨g2, 0, none⟩) (l.length + 1) cp2))) := by
                have := owns_set (b := bt) hown4 ht 1 (.slice (some ⟨g2, 0, none⟩) (l.length + 1) cp2)
                show World.ownsRow _ _ _ _ _ _ _
                rw [colC_snoc]; simpa using this
              have N5 : LeN n0 (w4.setCell ⟨bt, 1, none⟩ (.slice (some ⟨g2, 0, none⟩) (l.length + 1) cp2)) := by have h1 := Nat.le_trans hn0 hB4.size; unfold LeN; simpa using h1
              refine wpAnyH_take (i := 16) (oi := ?oi20072) (v := ?v20072) ?hi20072 (by kernel_rfl) (by kernel_rfl) (by kernel_rfl) (fun _ _ _ h => h) (Or.inl ⟨?hw20072, ?hy20072⟩) (by assumption) ?rest20072
              case hi20072 => (simp only [List.getElem?_toArray, List.getElem?_cons_zero, List.getElem?_cons_succ]; rfl)
              case hw20072 => rfl
              case hy20072 => first | (intro wx hSw; go_simp; done) | (intro wx hSw; go_simp; with_reducible rfl)
              simp only [Act.put, List.setIfInBounds_toArray, List.set_cons_zero, List.set_cons_succ]
              refine wpAnyH_ready (rs := [17]) (by kernel_rfl) (by simp) ?_
              refine AllReadyH.cons rfl (fun K20073 hK20073 => ?_) AllReadyH.nil
              go_simp
              refine hK20073.out _ _ ?hs20073 (fun hHeld20073 => ?_)
              case hs20073 => exact trivial
              clear hHeld
              have hHeld := hHeld20073; clear hHeld20073 hK20073 K20073
              refine wpAnyH_done (by kernel_rfl) ?_ _
              refine NoPanic.normal ?_
              skip
              exact unhide REST10 _ _ (nm, ty, bb) _ (by kernel_rfl) (unhide hnm) hty G5 Z5 T5 O5 N5
            refine AllReadyH.cons rfl (fun K20074 hK20074 => ?_) AllReadyH.nil
            · go_simp
              have hb := below_new X2 (.cells #[.string nm, .int .i64 ty, .bool bb] 63)
              have hs3 := cells_three_at X2 _ rfl (.string nm) (.int .i64 ty) (.bool bb) 63
              refine hK20074.out _ _ ?hs20074 (fun hHeld20074 => ?_)
              case hs20074 => exact trivial
              clear hHeld
              have hHeld := hHeld20074; clear hHeld20074 hK20074 K20074
              replace G := hide ((unhide G).call hb)
              replace hZ := hide ((unhide hZ).call hb)
              replace hT := hide ((unhide hT).call hb)
              replace hO := hide ((unhide hO).call hb)
              replace hn0 := hn0.call hb
              clear lt_ t1
              generalize hgs : X2.heap.size = gs at *
              generalize hXs : X2.alloc (.cells #[.string nm, .int .i64 ty, .bool bb] 63) = X3 at *
              clear hXs hgs hb
              have lt_ := (unhide hT).lt
              have t1 := (unhide hT).cell 1
              simp at t1
              refine wpAnyH_ready (rs := [1]) (by kernel_rfl) (by simp) ?_
              refine AllReadyH.cons rfl (fun K20075 hK20075 => ?_) AllReadyH.nil
              go_simp
              refine hK20075.out _ _ ?hs20075 (fun hHeld20075 => ?_)
              case hs20075 => exact trivial
              clear hHeld
              have hHeld := hHeld20075; clear hHeld20075 hK20075 K20075
              refine wpAnyH_ready (rs := [15]) (by kernel_rfl) (by simp) ?_
              refine AllReadyH.cons rfl (fun K20076 hK20076 => ?_) AllReadyH.nil
              refine step_append_lies _ rfl _ _ 26 rfl n0 63 i0 _ 3 32 Try.underlying26 hi hz0 hz1 hz2 rfl (by decide) cv _ _ rfl (unhide hO) ⟨gs, 0, none⟩ 1 1 [.string nm, .int .i64 ty, .bool bb] rfl rfl hs3 (by simp [Value.oneCell']) (by decide) (by unfold maxLen; omega) (by omega) hn0 _ rfl ?_
              intro g2 cp2 w4 hown4 hgrow4 hat4 hlt4
              have hB4 : Below n0 X3 w4 := Below.grown (Below.refl _ _) hgrow4 hn0 (fun j e => by rcases (unhide hO).2 with ⟨rfl, _⟩ | ⟨g', cap', cur', rfl, hge', _⟩ <;> simp [Value.ownBlock] at e; omega)
              refine hK20076.out _ _ ?hs20076 (fun hHeld20076 => ?_)
              case hs20076 => exact trivial
              clear hHeld
              have hHeld := hHeld20076; clear hHeld20076 hK20076 K20076
              have hw0 : w.heap.size ≤ n0 := by omega
              have G4 : Hid (Grown w w4) := hide (Below.trans (unhide G) (hB4.mono hw0))
              have Z4_ := hide (blk_base (unhide hZ) hB4 h6)
              have T4_ := hide (blk_base (unhide hT) hB4 ht)
              have lt4 := (unhide T4_).lt
              have q1 := (unhide T4_).cell 1
              have f1 := (unhide T4_).froz 1
              simp at q1
              have G5 : Hid (Grown w (w4.setCell ⟨bt, 1, none⟩ (.slice (some ⟨g2, 0, none⟩) (l.length + 1) cp2))) := hide (Below.setCell (unhide G4 : Below w.heap.size w w4) (p := ⟨bt, 1, none⟩) hwt _)
              have Z5 := hide ((unhide Z4_).set h6t 1 (.slice (some ⟨g2, 0, none⟩) (l.length + 1) cp2))
              have T5 : Hid (Blk bt (tbl s0 (.slice (some ⟨g2, 0, none⟩) (l.length + 1) cp2) (.int .i64 0) (.slice none 0 0) (.slice none 0 0)) 34 (w4.setCell ⟨bt, 1, none⟩ (.slice (some ⟨g2, 0, none⟩) (l.length + 1) cp2))) := hide (heapSet (unhide T4_) 1 (.slice (some ⟨g2, 0, none⟩) (l.length + 1) cp2))
              have O5 : Hid (OwC n0 (.slice (some ⟨g2, 0, none⟩) (l.length + 1) cp2) (l ++ [(nm, ty, bb)]) (w4.setCell ⟨bt, 1, none⟩ (.slice (some ⟨g2, 0, none⟩) (l.length + 1) cp2))) := by
                have := owns_set (b := bt) hown4 ht 1 (.slice (some ⟨g2, 0, none⟩) (l.length + 1) cp2)
                show World.ownsRow _ _ _ _ _ _ _
                rw [colC_snoc]; simpa using this
              have N5 : LeN n0 (w4.setCell ⟨bt, 1, none⟩ (.slice (some ⟨g2, 0, none⟩) (l.length + 1) cp2)) := by have h1 := Nat.le_trans hn0 hB4.size; unfold LeN; simpa using h1
              refine wpAnyH_take (i := 16) (oi := ?oi20077) (v := ?v20077) ?hi20077 (by kernel_rfl) (by kernel_rfl) (by kernel_rfl) (fun _ _ _ h => h) (Or.inl ⟨?hw20077, ?hy20077⟩) (by assumption) ?rest20077
              case hi20077 => (simp only [List.getElem?_toArray, List.getElem?_cons_zero, List.getElem?_cons_succ]; rfl)
              case hw20077 => rfl
              case hy20077 => first | (intro wx hSw; go_simp; done) | (intro wx hSw; go_simp; with_reducible rfl)
              simp only [Act.put, List.setIfInBounds_toArray, List.set_cons_zero, List.set_cons_succ]
              refine wpAnyH_ready (rs := [17]) (by kernel_rfl) (by simp) ?_
              refine AllReadyH.cons rfl (fun K20078 hK20078 => ?_) AllReadyH.nil
              go_simp
              refine hK20078.out _ _ ?hs20078 (fun hHeld20078 => ?_)
              case hs20078 => exact trivial
              clear hHeld
              have hHeld := hHeld20078; clear hHeld20078 hK20078 K20078
              refine wpAnyH_done (by kernel_rfl) ?_ _
              refine NoPanic.normal ?_
              skip
              exact unhide REST10 _ _ (nm, ty, bb) _ (by kernel_rfl) (unhide hnm) hty G5 Z5 T5 O5 N5
    · have hlti : ¬ (l.length : Int) < k := by omega
      go_wp2_with fail
      exact unhide REST _ cv l _ (by kernel_rfl) (by omega) (unhide hL) G hZ hT hO hn0
end Go.Proofs.Ytliefgkhpgigaaa

namespace Go.Proofs.Ytliefgkhpgigaaa
open Go.RowKit Go.Shelf
set_option linter.unusedSimpArgs false
set_option linter.unusedVariables false

def ColB (g : Nat) (l : List C3) (W : World) : Prop := l.length ≤ 1000 ∧ ∃ cur, W.heap[g]? = some (.cells cur 63 (0, 0)) ∧ ∀ j, j < l.length * 3 → cur[j]? = (colC l)[j]?
theorem ColB.call {g : Nat} {l : List C3} {W W' : World} (h : ColB g l W) (hb : Below W.heap.size W W') : ColB g l W' := by
  obtain ⟨h0, cur, h1, h2⟩ := h
  exact ⟨h0, cur, (hb.block g (Array.getElem?_eq_some_iff.1 h1).1).trans h1, h2⟩
theorem ColB.base {g B : Nat} {l : List C3} {W W' : World} (h : ColB g l W) (hb : Below B W W') (hl : g < B) : ColB g l W' := by
  obtain ⟨h0, cur, h1, h2⟩ := h
  exact ⟨h0, cur, (hb.block g hl).trans h1, h2⟩
theorem ColB.far {g b : Nat} {l : List C3} {W : World} (h : ColB g l W) (hne : g ≠ b) (j : Nat) (y : Value) : ColB g l (W.setCell ⟨b, j, none⟩ y) := by
  obtain ⟨h0, cur, h1, h2⟩ := h
  exact ⟨h0, cur, (Below.heap_setCell _ _ _ _ (by simp; omega)).trans h1, h2⟩
theorem ColB.lt {g : Nat} {l : List C3} {W : World} (h : ColB g l W) : g < W.heap.size := by
  obtain ⟨_, cur, h1, _⟩ := h
  exact (Array.getElem?_eq_some_iff.1 h1).1
theorem ColB.froz {g : Nat} {l : List C3} {W : World} (h : ColB g l W) (j : Nat) : W.frozen? ⟨g, j, none⟩ = false := by
  obtain ⟨_, cur, h1, _⟩ := h
  simp [World.frozen?, h1]
theorem ColB.at {g : Nat} {l : List C3} {W : World} (h : ColB g l W) (i : Nat) (hi : i < l.length) : ColAt g i l[i] W := by
  obtain ⟨_, cur, h1, h2⟩ := h
  obtain ⟨a1, a2, a3⟩ := colC_at l i hi
  exact ⟨(cell_of_row W g _ cur _ _ h1).trans ((h2 _ (by omega)).trans a1), (cell_of_row W g _ cur _ _ h1).trans ((h2 _ (by omega)).trans a2), (cell_of_row W g _ cur _ _ h1).trans ((h2 _ (by omega)).trans a3)⟩
theorem ColB.cols {g cap : Nat} {l : List C3} {W : World} (h : ColB g l W) : ColsOf (.slice (some ⟨g, 0, none⟩) l.length cap) l W := ⟨g, cap, rfl, h.lt, h.1, fun i hi => h.at i hi⟩
theorem colC_set : ∀ (l : List C3) (k : Nat) (b : Bool) (j : Nat) (hk : k < l.length), (colC (l.set k (l[k].1, l[k].2.1, b)))[j]? = if j = k * 3 + 2 then some (.bool b) else (colC l)[j]?
  | [], k, b, j, h => absurd h (by simp)
  | y :: l, 0, b, j, h => by
    show ([Value.string y.1, .int .i64 y.2.1, .bool b] ++ colC l)[j]? = if _ then _ else ([Value.string y.1, .int .i64 y.2.1, .bool y.2.2] ++ colC l)[j]?
    match j with
    | 0 => rfl
    | 1 => rfl
    | 2 => rfl
    | j + 3 => simp
  | y :: l, k + 1, b, j, h => by
    have hkl : k < l.length := by simpa using h
    have ih := colC_set l k b (j - 3) hkl
    show ([Value.string y.1, .int .i64 y.2.1, .bool y.2.2] ++ colC (l.set k (l[k].1, l[k].2.1, b)))[j]? = if _ then _ else ([Value.string y.1, .int .i64 y.2.1, .bool y.2.2] ++ colC l)[j]?
    by_cases hj : j < 3
    · rw [if_neg (by omega), List.getElem?_append_left (by simpa using hj), List.getElem?_append_left (by simpa using hj)]
    · rw [List.getElem?_append_right (by simp; omega), List.getElem?_append_right (by simp; omega)]
      show (colC _)[j - 3]? = if _ then _ else (colC l)[j - 3]?
      rw [ih]
      by_cases h1 : j = (k + 1) * 3 + 2
      · rw [if_pos h1, if_pos (by omega)]
      · rw [if_neg h1, if_neg (by omega)]
theorem ColB.set {g k : Nat} {l : List C3} {W : World} (h : ColB g l W) (hk : k < l.length) (b : Bool) : ColB g (l.set k (l[k].1, l[k].2.1, b)) (W.setCell ⟨g, k * 3 + 2, none⟩ (.bool b)) := by
  obtain ⟨h0, cur, h1, h2⟩ := h
  refine ⟨by simpa using h0, _, heapSet h1 _ _, fun j hj => ?_⟩
  rw [List.length_set] at hj
  have hs : ∀ i, i < l.length * 3 → i < cur.size := fun i hi => by
    have e := h2 i hi
    have : (colC l)[i]? ≠ none := by rw [List.getElem?_eq_getElem (by rw [colC_len]; exact hi)]; simp
    rw [← e] at this
    exact Nat.lt_of_not_le (fun hle => this (Array.getElem?_eq_none_iff.2 hle))
  rw [colC_set l k b j hk, Array.getElem?_setIfInBounds]
  by_cases e : j = k * 3 + 2
  · subst e; rw [if_pos rfl, if_pos (hs _ (by omega)), if_pos rfl]
  · rw [if_neg (by omega), if_neg e]; exact h2 j hj
theorem colsL_set {l : List C3} {k : Nat} (h : ColsL l) (hk : k < l.length) (b : Bool) : ColsL (l.set k (l[k].1, l[k].2.1, b)) := by
  intro i hi
  have hi2 : i < l.length := by simpa using hi
  by_cases e : i = k
  · subst e; rw [List.getElem_set_self]; exact h i hi2
  · rw [List.getElem_set_ne (by omega)]; exact h i hi2
theorem owc_blk {B : Nat} {cv : Value} {l : List C3} {W : World} (hl : l.length ≤ 1000) (h : OwC B cv l W) (h0 : l ≠ []) : ∃ g cap, cv = .slice (some ⟨g, 0, none⟩) l.length cap ∧ B ≤ g ∧ ColB g l W := by
  rcases h.2 with ⟨rfl, h1⟩ | ⟨g, cap, cur, rfl, hge, hgb, _, _, _, ht⟩
  · exact absurd (List.length_eq_zero_iff.1 h1) h0
  · exact ⟨g, cap, rfl, hge, hl, cur, hgb, fun j hj => by rw [← ht, List.getElem?_take_of_lt hj]; simp⟩
def OwI (B : Nat) (uv : Value) (m : Nat) (us : List Value) (T : TypeId) (n : Nat) (X : World) : Prop := X.ownsRow B T n uv m us
theorem OwI.call {B m n : Nat} {uv : Value} {us : List Value} {T : TypeId} {W W' : World} (h : OwI B uv m us T n W) (hb : Below W.heap.size W W') : OwI B uv m us T n W' := owns_call4 h hb
def IsSl (v : Value) (_ : World) : Prop := ∃ a n c, v = .slice a n c
theorem isSl_of {B m n : Nat} {uv : Value} {us : List Value} {T : TypeId} {W : World} (h : OwI B uv m us T n W) : IsSl uv W := by
  rcases h.2 with ⟨rfl, _⟩ | ⟨g, cap, cur, rfl, _⟩
  · exact ⟨_, _, _, rfl⟩
  · exact ⟨_, _, _, rfl⟩
theorem cells_one_at (W : World) (n : Nat) (hn : W.heap.size = n) (x : Value) (T : TypeId) : ∀ j v, [x][j]? = some v → (W.alloc (.cells #[x] T)).cell? (Addr.add ⟨n, 0, none⟩ j) = some v := by
  intro j v h
  subst hn
  have hc := cell_of_row _ W.heap.size j _ _ _ (World.alloc_heap_new W (.cells #[x] T))
  match j, h with
  | 0, h => exact hc.trans h
theorem cells_two_at (W : World) (n : Nat) (hn : W.heap.size = n) (x y : Value) (T : TypeId) : ∀ j v, [x, y][j]? = some v → (W.alloc (.cells #[x, y] T)).cell? (Addr.add ⟨n, 0, none⟩ j) = some v := by
  intro j v h
  subst hn
  have hc := cell_of_row _ W.heap.size j _ _ _ (World.alloc_heap_new W (.cells #[x, y] T))
  match j, h with
  | 0, h => exact hc.trans h
  | 1, h => exact hc.trans h
set_option maxHeartbeats 16000000 in
set_option maxRecDepth 100000 in
theorem tbK {r0 r1 r2 r3 r4 rest : Code} (hc : Try.f14.body = some (.seq r0 (.seq r1 (.seq r2 (.seq r3 (.seq r4 (rest))))))) (w : World) (b6 bt : Nat) (h6t : b6 ≠ bt) (hw6 : w.heap.size ≤ b6) (hwt : w.heap.size ≤ bt) (n : Int) (p : Option Addr) (np : Nat) (zs : List Int) (k : Nat) (hk4 : k ≤ 4) (hk1 : 1 ≤ k) (s0 : ByteArray) (g cap : Nat) (hgt : g ≠ bt) (hg6 : g ≠ b6) (hwg : w.heap.size ≤ g) (l : List C3) (j : Nat) (hn : Is64 n) (CW : Hid (∀ W, Calls Try.prog 34 #[.int .i64 (n.tdiv 16), .int .i64 (k : Int)] W fun e W' => e = .returned (.int .i64 (j : Int)) ∧ W' = W)) (K : Act → World → Prop) (Q : Exit → Act → World → Prop) (REST : Hid (∀ (ac : Act) (X : World), ac = ⟨#[.int .i64 n, .slice p zs.length np, ac.tmps.getD 2 undef, ac.tmps.getD 3 undef, ac.tmps.getD 4 undef, ac.tmps.getD 5 undef, .pointer (some ⟨b6, 0, none⟩), .pointer (some ⟨bt, 0, none⟩), .int .i64 (k : Int), ac.tmps.getD 9 undef, ac.tmps.getD 10 undef, ac.tmps.getD 11 undef, ac.tmps.getD 12 undef, ac.tmps.getD 13 undef, ac.tmps.getD 14 undef, ac.tmps.getD 15 undef, ac.tmps.getD 16 undef, ac.tmps.getD 17 undef, ac.tmps.getD 18 undef, ac.tmps.getD 19 undef, ac.tmps.getD 20 undef, ac.tmps.getD 21 undef, ac.tmps.getD 22 undef, ac.tmps.getD 23 undef, ac.tmps.getD 24 undef, ac.tmps.getD 25 undef, ac.tmps.getD 26 undef, ac.tmps.getD 27 undef, ac.tmps.getD 28 undef, ac.tmps.getD 29 undef, ac.tmps.getD 30 undef, ac.tmps.getD 31 undef, ac.tmps.getD 32 undef, ac.tmps.getD 33 undef, ac.tmps.getD 34 undef, ac.tmps.getD 35 undef, ac.tmps.getD 36 undef, ac.tmps.getD 37 undef, ac.tmps.getD 38 undef, ac.tmps.getD 39 undef, ac.tmps.getD 40 undef, ac.tmps.getD 41 undef, ac.tmps.getD 42 undef, ac.tmps.getD 43 undef, ac.tmps.getD 44 undef, ac.tmps.getD 45 undef, ac.tmps.getD 46 undef, ac.tmps.getD 47 undef, ac.tmps.getD 48 undef, ac.tmps.getD 49 undef, ac.tmps.getD 50 undef, ac.tmps.getD 51 undef, ac.tmps.getD 52 undef, ac.tmps.getD 53 undef, ac.tmps.getD 54 undef, ac.tmps.getD 55 undef, ac.tmps.getD 56 undef, ac.tmps.getD 57 undef, ac.tmps.getD 58 undef, ac.tmps.getD 59 undef, ac.tmps.getD 60 undef, ac.tmps.getD 61 undef, ac.tmps.getD 62 undef, ac.tmps.getD 63 undef, ac.tmps.getD 64 undef, ac.tmps.getD 65 undef, ac.tmps.getD 66 undef, ac.tmps.getD 67 undef, ac.tmps.getD 68 undef, ac.tmps.getD 69 undef, ac.tmps.getD 70 undef, ac.tmps.getD 71 undef, ac.tmps.getD 72 undef, ac.tmps.getD 73 undef, ac.tmps.getD 74 undef, ac.tmps.getD 75 undef, ac.tmps.getD 76 undef, ac.tmps.getD 77 undef, ac.tmps.getD 78 undef, ac.tmps.getD 79 undef, ac.tmps.getD 80 undef, ac.tmps.getD 81 undef, ac.tmps.getD 82 undef, ac.tmps.getD 83 undef, ac.tmps.getD 84 undef, ac.tmps.getD 85 undef, ac.tmps.getD 86 undef, ac.tmps.getD 87 undef, ac.tmps.getD 88 undef, ac.tmps.getD 89 undef, ac.tmps.getD 90 undef, ac.tmps.getD 91 undef, ac.tmps.getD 92 undef, ac.tmps.getD 93 undef, ac.tmps.getD 94 undef, ac.tmps.getD 95 undef, ac.tmps.getD 96 undef, ac.tmps.getD 97 undef, ac.tmps.getD 98 undef, ac.tmps.getD 99 undef, ac.tmps.getD 100 undef, ac.tmps.getD 101 undef, ac.tmps.getD 102 undef, ac.tmps.getD 103 undef, ac.tmps.getD 104 undef, ac.tmps.getD 105 undef, ac.tmps.getD 106 undef, ac.tmps.getD 107 undef, ac.tmps.getD 108 undef, ac.tmps.getD 109 undef, ac.tmps.getD 110 undef, ac.tmps.getD 111 undef, ac.tmps.getD 112 undef, ac.tmps.getD 113 undef, ac.tmps.getD 114 undef], []⟩ → Hid (Grown w X) → Hid (Blk b6 (tbl ⟨#[]⟩ (.slice none 0 0) (.int .i64 0) (.slice none 0 0) (.slice none 0 0)) 34 X) → Hid (ColB g l X) → Hid (Blk bt (tbl s0 (.slice (some ⟨g, 0, none⟩) k cap) (.int .i64 (j : Int)) (.slice none 0 0) (.slice none 0 0)) 34 X) → K ac X)) (ac : Act) (X : World) (ha : ac = ⟨#[.int .i64 n, .slice p zs.length np, ac.tmps.getD 2 undef, ac.tmps.getD 3 undef, ac.tmps.getD 4 undef, ac.tmps.getD 5 undef, .pointer (some ⟨b6, 0, none⟩), .pointer (some ⟨bt, 0, none⟩), .int .i64 (k : Int), ac.tmps.getD 9 undef, ac.tmps.getD 10 undef, ac.tmps.getD 11 undef, ac.tmps.getD 12 undef, ac.tmps.getD 13 undef, ac.tmps.getD 14 undef, ac.tmps.getD 15 undef, ac.tmps.getD 16 undef, ac.tmps.getD 17 undef, ac.tmps.getD 18 undef, ac.tmps.getD 19 undef, ac.tmps.getD 20 undef, ac.tmps.getD 21 undef, ac.tmps.getD 22 undef, ac.tmps.getD 23 undef, ac.tmps.getD 24 undef, ac.tmps.getD 25 undef, ac.tmps.getD 26 undef, ac.tmps.getD 27 undef, ac.tmps.getD 28 undef, ac.tmps.getD 29 undef, ac.tmps.getD 30 undef, ac.tmps.getD 31 undef, ac.tmps.getD 32 undef, ac.tmps.getD 33 undef, ac.tmps.getD 34 undef, ac.tmps.getD 35 undef, ac.tmps.getD 36 undef, ac.tmps.getD 37 undef, ac.tmps.getD 38 undef, ac.tmps.getD 39 undef, ac.tmps.getD 40 undef, ac.tmps.getD 41 undef, ac.tmps.getD 42 undef, ac.tmps.getD 43 undef, ac.tmps.getD 44 undef, ac.tmps.getD 45 undef, ac.tmps.getD 46 undef, ac.tmps.getD 47 undef, ac.tmps.getD 48 undef, ac.tmps.getD 49 undef, ac.tmps.getD 50 undef, ac.tmps.getD 51 undef, ac.tmps.getD 52 undef, ac.tmps.getD 53 undef, ac.tmps.getD 54 undef, ac.tmps.getD 55 undef, ac.tmps.getD 56 undef, ac.tmps.getD 57 undef, ac.tmps.getD 58 undef, ac.tmps.getD 59 undef, ac.tmps.getD 60 undef, ac.tmps.getD 61 undef, ac.tmps.getD 62 undef, ac.tmps.getD 63 undef, ac.tmps.getD 64 undef, ac.tmps.getD 65 undef, ac.tmps.getD 66 undef, ac.tmps.getD 67 undef, ac.tmps.getD 68 undef, ac.tmps.getD 69 undef, ac.tmps.getD 70 undef, ac.tmps.getD 71 undef, ac.tmps.getD 72 undef, ac.tmps.getD 73 undef, ac.tmps.getD 74 undef, ac.tmps.getD 75 undef, ac.tmps.getD 76 undef, ac.tmps.getD 77 undef, ac.tmps.getD 78 undef, ac.tmps.getD 79 undef, ac.tmps.getD 80 undef, ac.tmps.getD 81 undef, ac.tmps.getD 82 undef, ac.tmps.getD 83 undef, ac.tmps.getD 84 undef, ac.tmps.getD 85 undef, ac.tmps.getD 86 undef, ac.tmps.getD 87 undef, ac.tmps.getD 88 undef, ac.tmps.getD 89 undef, ac.tmps.getD 90 undef, ac.tmps.getD 91 undef, ac.tmps.getD 92 undef, ac.tmps.getD 93 undef, ac.tmps.getD 94 undef, ac.tmps.getD 95 undef, ac.tmps.getD 96 undef, ac.tmps.getD 97 undef, ac.tmps.getD 98 undef, ac.tmps.getD 99 undef, ac.tmps.getD 100 undef, ac.tmps.getD 101 undef, ac.tmps.getD 102 undef, ac.tmps.getD 103 undef, ac.tmps.getD 104 undef, ac.tmps.getD 105 undef, ac.tmps.getD 106 undef, ac.tmps.getD 107 undef, ac.tmps.getD 108 undef, ac.tmps.getD 109 undef, ac.tmps.getD 110 undef, ac.tmps.getD 111 undef, ac.tmps.getD 112 undef, ac.tmps.getD 113 undef, ac.tmps.getD 114 undef], []⟩) (G : Hid (Grown w X)) (hZ : Hid (Blk b6 (tbl ⟨#[]⟩ (.slice none 0 0) (.int .i64 0) (.slice none 0 0) (.slice none 0 0)) 34 X)) (hB : Hid (ColB g l X)) (hT : Hid (Blk bt (tbl s0 (.slice (some ⟨g, 0, none⟩) k cap) (.int .i64 0) (.slice none 0 0) (.slice none 0 0)) 34 X)) : r4.wp Try.prog (Exit.then K Q) ac X := by
  obtain ⟨u, rfl⟩ : ∃ u : Nat → Value, ac = ⟨#[.int .i64 n, .slice p zs.length np, u 2, u 3, u 4, u 5, .pointer (some ⟨b6, 0, none⟩), .pointer (some ⟨bt, 0, none⟩), .int .i64 (k : Int), u 9, u 10, u 11, u 12, u 13, u 14, u 15, u 16, u 17, u 18, u 19, u 20, u 21, u 22, u 23, u 24, u 25, u 26, u 27, u 28, u 29, u 30, u 31, u 32, u 33, u 34, u 35, u 36, u 37, u 38, u 39, u 40, u 41, u 42, u 43, u 44, u 45, u 46, u 47, u 48, u 49, u 50, u 51, u 52, u 53, u 54, u 55, u 56, u 57, u 58, u 59, u 60, u 61, u 62, u 63, u 64, u 65, u 66, u 67, u 68, u 69, u 70, u 71, u 72, u 73, u 74, u 75, u 76, u 77, u 78, u 79, u 80, u 81, u 82, u 83, u 84, u 85, u 86, u 87, u 88, u 89, u 90, u 91, u 92, u 93, u 94, u 95, u 96, u 97, u 98, u 99, u 100, u 101, u 102, u 103, u 104, u 105, u 106, u 107, u 108, u 109, u 110, u 111, u 112, u 113, u 114], []⟩ := ⟨fun i => ac.tmps.getD i undef, ha⟩
  clear ha
  unfold Try.f14 at hc
  cases hc
  have e16 : IntKind.i64.wrap (n.tdiv 16) = n.tdiv 16 := IntWalk.i64_in _ (by have := tdiv_bd hn 16 (by decide); unfold Is64 at this; omega)
  have lt_ := (unhide hT).lt
  have q2 := (unhide hT).cell 2
  have f2 := (unhide hT).froz 2
  simp at q2
  go_wp2_with fail
  refine (unhide CW _).mono ?_
  rintro e W1 ⟨rfl, rfl⟩
  have G5 := hide (Below.setCell (unhide G : Below w.heap.size w W1) (p := ⟨bt, 2, none⟩) hwt (.int .i64 (j : Int)))
  have Z5 := hide ((unhide hZ).set h6t 2 (.int .i64 (j : Int)))
  have B5 := hide ((unhide hB).far hgt 2 (.int .i64 (j : Int)))
  have T5 := hide (heapSet (unhide hT) 2 (.int .i64 (j : Int)))
  go_wp2_with fail
  exact unhide REST _ _ (by kernel_rfl) G5 Z5 B5 T5
set_option maxHeartbeats 16000000 in
set_option maxRecDepth 100000 in
theorem tbN {r0 r1 r2 r3 r4 r5 rest : Code} (hc : Try.f14.body = some (.seq r0 (.seq r1 (.seq r2 (.seq r3 (.seq r4 (.seq r5 (rest)))))))) (w : World) (b6 bt : Nat) (h6t : b6 ≠ bt) (hw6 : w.heap.size ≤ b6) (hwt : w.heap.size ≤ bt) (n : Int) (p : Option Addr) (np : Nat) (zs : List Int) (k : Nat) (hk4 : k ≤ 4) (hk1 : 1 ≤ k) (s0 : ByteArray) (g cap : Nat) (hgt : g ≠ bt) (hg6 : g ≠ b6) (hwg : w.heap.size ≤ g) (l : List C3) (hlk : l.length = k) (j : Nat) (hj : j < l.length) (K : Act → World → Prop) (Q : Exit → Act → World → Prop) (REST : Hid (∀ (ac : Act) (X : World), ac = ⟨#[.int .i64 n, .slice p zs.length np, ac.tmps.getD 2 undef, ac.tmps.getD 3 undef, ac.tmps.getD 4 undef, ac.tmps.getD 5 undef, .pointer (some ⟨b6, 0, none⟩), .pointer (some ⟨bt, 0, none⟩), .int .i64 (k : Int), ac.tmps.getD 9 undef, ac.tmps.getD 10 undef, ac.tmps.getD 11 undef, ac.tmps.getD 12 undef, ac.tmps.getD 13 undef, ac.tmps.getD 14 undef, ac.tmps.getD 15 undef, ac.tmps.getD 16 undef, ac.tmps.getD 17 undef, ac.tmps.getD 18 undef, ac.tmps.getD 19 undef, ac.tmps.getD 20 undef, ac.tmps.getD 21 undef, ac.tmps.getD 22 undef, ac.tmps.getD 23 undef, ac.tmps.getD 24 undef, ac.tmps.getD 25 undef, ac.tmps.getD 26 undef, ac.tmps.getD 27 undef, ac.tmps.getD 28 undef, ac.tmps.getD 29 undef, ac.tmps.getD 30 undef, ac.tmps.getD 31 undef, ac.tmps.getD 32 undef, ac.tmps.getD 33 undef, ac.tmps.getD 34 undef, ac.tmps.getD 35 undef, ac.tmps.getD 36 undef, ac.tmps.getD 37 undef, ac.tmps.getD 38 undef, ac.tmps.getD 39 undef, ac.tmps.getD 40 undef, ac.tmps.getD 41 undef, ac.tmps.getD 42 undef, ac.tmps.getD 43 undef, ac.tmps.getD 44 undef, ac.tmps.getD 45 undef, ac.tmps.getD 46 undef, ac.tmps.getD 47 undef, ac.tmps.getD 48 undef, ac.tmps.getD 49 undef, ac.tmps.getD 50 undef, ac.tmps.getD 51 undef, ac.tmps.getD 52 undef, ac.tmps.getD 53 undef, ac.tmps.getD 54 undef, ac.tmps.getD 55 undef, ac.tmps.getD 56 undef, ac.tmps.getD 57 undef, ac.tmps.getD 58 undef, ac.tmps.getD 59 undef, ac.tmps.getD 60 undef, ac.tmps.getD 61 undef, ac.tmps.getD 62 undef, ac.tmps.getD 63 undef, ac.tmps.getD 64 undef, ac.tmps.getD 65 undef, ac.tmps.getD 66 undef, ac.tmps.getD 67 undef, ac.tmps.getD 68 undef, ac.tmps.getD 69 undef, ac.tmps.getD 70 undef, ac.tmps.getD 71 undef, ac.tmps.getD 72 undef, ac.tmps.getD 73 undef, ac.tmps.getD 74 undef, ac.tmps.getD 75 undef, ac.tmps.getD 76 undef, ac.tmps.getD 77 undef, ac.tmps.getD 78 undef, ac.tmps.getD 79 undef, ac.tmps.getD 80 undef, ac.tmps.getD 81 undef, ac.tmps.getD 82 undef, ac.tmps.getD 83 undef, ac.tmps.getD 84 undef, ac.tmps.getD 85 undef, ac.tmps.getD 86 undef, ac.tmps.getD 87 undef, ac.tmps.getD 88 undef, ac.tmps.getD 89 undef, ac.tmps.getD 90 undef, ac.tmps.getD 91 undef, ac.tmps.getD 92 undef, ac.tmps.getD 93 undef, ac.tmps.getD 94 undef, ac.tmps.getD 95 undef, ac.tmps.getD 96 undef, ac.tmps.getD 97 undef, ac.tmps.getD 98 undef, ac.tmps.getD 99 undef, ac.tmps.getD 100 undef, ac.tmps.getD 101 undef, ac.tmps.getD 102 undef, ac.tmps.getD 103 undef, ac.tmps.getD 104 undef, ac.tmps.getD 105 undef, ac.tmps.getD 106 undef, ac.tmps.getD 107 undef, ac.tmps.getD 108 undef, ac.tmps.getD 109 undef, ac.tmps.getD 110 undef, ac.tmps.getD 111 undef, ac.tmps.getD 112 undef, ac.tmps.getD 113 undef, ac.tmps.getD 114 undef], []⟩ → Hid (Grown w X) → Hid (Blk b6 (tbl ⟨#[]⟩ (.slice none 0 0) (.int .i64 0) (.slice none 0 0) (.slice none 0 0)) 34 X) → Hid (ColB g (l.set j (l[j].1, l[j].2.1, true)) X) → Hid (Blk bt (tbl s0 (.slice (some ⟨g, 0, none⟩) k cap) (.int .i64 (j : Int)) (.slice none 0 0) (.slice none 0 0)) 34 X) → K ac X)) (ac : Act) (X : World) (ha : ac = ⟨#[.int .i64 n, .slice p zs.length np, ac.tmps.getD 2 undef, ac.tmps.getD 3 undef, ac.tmps.getD 4 undef, ac.tmps.getD 5 undef, .pointer (some ⟨b6, 0, none⟩), .pointer (some ⟨bt, 0, none⟩), .int .i64 (k : Int), ac.tmps.getD 9 undef, ac.tmps.getD 10 undef, ac.tmps.getD 11 undef, ac.tmps.getD 12 undef, ac.tmps.getD 13 undef, ac.tmps.getD 14 undef, ac.tmps.getD 15 undef, ac.tmps.getD 16 undef, ac.tmps.getD 17 undef, ac.tmps.getD 18 undef, ac.tmps.getD 19 undef, ac.tmps.getD 20 undef, ac.tmps.getD 21 undef, ac.tmps.getD 22 undef, ac.tmps.getD 23 undef, ac.tmps.getD 24 undef, ac.tmps.getD 25 undef, ac.tmps.getD 26 undef, ac.tmps.getD 27 undef, ac.tmps.getD 28 undef, ac.tmps.getD 29 undef, ac.tmps.getD 30 undef, ac.tmps.getD 31 undef, ac.tmps.getD 32 undef, ac.tmps.getD 33 undef, ac.tmps.getD 34 undef, ac.tmps.getD 35 undef, ac.tmps.getD 36 undef, ac.tmps.getD 37 undef, ac.tmps.getD 38 undef, ac.tmps.getD 39 undef, ac.tmps.getD 40 undef, ac.tmps.getD 41 undef, ac.tmps.getD 42 undef, ac.tmps.getD 43 undef, ac.tmps.getD 44 undef, ac.tmps.getD 45 undef, ac.tmps.getD 46 undef, ac.tmps.getD 47 undef, ac.tmps.getD 48 undef, ac.tmps.getD 49 undef, ac.tmps.getD 50 undef, ac.tmps.getD 51 undef, ac.tmps.getD 52 undef, ac.tmps.getD 53 undef, ac.tmps.getD 54 undef, ac.tmps.getD 55 undef, ac.tmps.getD 56 undef, ac.tmps.getD 57 undef, ac.tmps.getD 58 undef, ac.tmps.getD 59 undef, ac.tmps.getD 60 undef, ac.tmps.getD 61 undef, ac.tmps.getD 62 undef, ac.tmps.getD 63 undef, ac.tmps.getD 64 undef, ac.tmps.getD 65 undef, ac.tmps.getD 66 undef, ac.tmps.getD 67 undef, ac.tmps.getD 68 undef, ac.tmps.getD 69 undef, ac.tmps.getD 70 undef, ac.tmps.getD 71 undef, ac.tmps.getD 72 undef, ac.tmps.getD 73 undef, ac.tmps.getD 74 undef, ac.tmps.getD 75 undef, ac.tmps.getD 76 undef, ac.tmps.getD 77 undef, ac.tmps.getD 78 undef, ac.tmps.getD 79 undef, ac.tmps.getD 80 undef, ac.tmps.getD 81 undef, ac.tmps.getD 82 undef, ac.tmps.getD 83 undef, ac.tmps.getD 84 undef, ac.tmps.getD 85 undef, ac.tmps.getD 86 undef, ac.tmps.getD 87 undef, ac.tmps.getD 88 undef, ac.tmps.getD 89 undef, ac.tmps.getD 90 undef, ac.tmps.getD 91 undef, ac.tmps.getD 92 undef, ac.tmps.getD 93 undef, ac.tmps.getD 94 undef, ac.tmps.getD 95 undef, ac.tmps.getD 96 undef, ac.tmps.getD 97 undef, ac.tmps.getD 98 undef, ac.tmps.getD 99 undef, ac.tmps.getD 100 undef, ac.tmps.getD 101 undef, ac.tmps.getD 102 undef, ac.tmps.getD 103 undef, ac.tmps.getD 104 undef, ac.tmps.getD 105 undef, ac.tmps.getD 106 undef, ac.tmps.getD 107 undef, ac.tmps.getD 108 undef, ac.tmps.getD 109 undef, ac.tmps.getD 110 undef, ac.tmps.getD 111 undef, ac.tmps.getD 112 undef, ac.tmps.getD 113 undef, ac.tmps.getD 114 undef], []⟩) (G : Hid (Grown w X)) (hZ : Hid (Blk b6 (tbl ⟨#[]⟩ (.slice none 0 0) (.int .i64 0) (.slice none 0 0) (.slice none 0 0)) 34 X)) (hB : Hid (ColB g l X)) (hT : Hid (Blk bt (tbl s0 (.slice (some ⟨g, 0, none⟩) k cap) (.int .i64 (j : Int)) (.slice none 0 0) (.slice none 0 0)) 34 X)) : r5.wp Try.prog (Exit.then K Q) ac X := by
  obtain ⟨u, rfl⟩ : ∃ u : Nat → Value, ac = ⟨#[.int .i64 n, .slice p zs.length np, u 2, u 3, u 4, u 5, .pointer (some ⟨b6, 0, none⟩), .pointer (some ⟨bt, 0, none⟩), .int .i64 (k : Int), u 9, u 10, u 11, u 12, u 13, u 14, u 15, u 16, u 17, u 18, u 19, u 20, u 21, u 22, u 23, u 24, u 25, u 26, u 27, u 28, u 29, u 30, u 31, u 32, u 33, u 34, u 35, u 36, u 37, u 38, u 39, u 40, u 41, u 42, u 43, u 44, u 45, u 46, u 47, u 48, u 49, u 50, u 51, u 52, u 53, u 54, u 55, u 56, u 57, u 58, u 59, u 60, u 61, u 62, u 63, u 64, u 65, u 66, u 67, u 68, u 69, u 70, u 71, u 72, u 73, u 74, u 75, u 76, u 77, u 78, u 79, u 80, u 81, u 82, u 83, u 84, u 85, u 86, u 87, u 88, u 89, u 90, u 91, u 92, u 93, u 94, u 95, u 96, u 97, u 98, u 99, u 100, u 101, u 102, u 103, u 104, u 105, u 106, u 107, u 108, u 109, u 110, u 111, u 112, u 113, u 114], []⟩ := ⟨fun i => ac.tmps.getD i undef, ha⟩
  clear ha
  unfold Try.f14 at hc
  cases hc
  have hji : (j : Int) < k := by omega
  have lt_ := (unhide hT).lt
  have q1 := (unhide hT).cell 1
  have q2 := (unhide hT).cell 2
  simp at q1 q2
  have lg := (unhide hB).lt
  have c2 := ((unhide hB).at j hj).2.2
  have f2 := (unhide hB).froz (j * 3 + 2)
  have G5 := hide (Below.setCell (unhide G : Below w.heap.size w X) (p := ⟨g, j * 3 + 2, none⟩) hwg (.bool true))
  have Z5 := hide ((unhide hZ).set (b := g) (Ne.symm hg6) (j * 3 + 2) (.bool true))
  have B5 := hide ((unhide hB).set hj true)
  have T5 := hide ((unhide hT).set (b := g) (Ne.symm hgt) (j * 3 + 2) (.bool true))
  clear G hZ hB hT
  go_wp2_with fail
  exact unhide REST _ _ (by kernel_rfl) G5 Z5 B5 T5
end Go.Proofs.Ytliefgkhpgigaaa

namespace Go.Proofs.Ytliefgkhpgigaaa
open Go.RowKit Go.Shelf
set_option linter.unusedSimpArgs false
set_option linter.unusedVariables false

set_option maxHeartbeats 16000000 in
set_option maxRecDepth 100000 in
set_option maxHeartbeats 16000000 in
set_option maxRecDepth 100000 in
theorem tbU {r0 r1 r2 r3 r4 r5 r6 rest : Code} (hc : Try.f14.body = some (.seq r0 (.seq r1 (.seq r2 (.seq r3 (.seq r4 (.seq r5 (.seq r6 (rest))))))))) (w : World) (b6 bt : Nat) (h6t : b6 ≠ bt) (hw6 : w.heap.size ≤ b6) (hwt : w.heap.size ≤ bt) (n : Int) (p : Option Addr) (np : Nat) (zs : List Int) (k : Nat) (hk4 : k ≤ 4) (hk1 : 1 ≤ k) (s0 : ByteArray) (g cap : Nat) (hgt : g ≠ bt) (hg6 : g ≠ b6) (hwg : w.heap.size ≤ g) (l : List C3) (n1 : Nat) (hb1 : b6 < n1) (ht1 : bt < n1) (hg1 : g < n1) (j : Nat) (hjk : j < k) (hn : Is64 n) (q : Int) (hq : 0 ≤ q ∧ q < 3) (CW : Hid (∀ W, Calls Try.prog 34 #[.int .i64 (n.tdiv 64), .int .i64 3] W fun e W' => e = .returned (.int .i64 q) ∧ W' = W)) (K : Act → World → Prop) (Q : Exit → Act → World → Prop) (REST : Hid (∀ (ac : Act) (fv : Value) (X : World), ac = ⟨#[.int .i64 n, .slice p zs.length np, ac.tmps.getD 2 undef, ac.tmps.getD 3 undef, ac.tmps.getD 4 undef, ac.tmps.getD 5 undef, .pointer (some ⟨b6, 0, none⟩), .pointer (some ⟨bt, 0, none⟩), .int .i64 (k : Int), ac.tmps.getD 9 undef, ac.tmps.getD 10 undef, ac.tmps.getD 11 undef, ac.tmps.getD 12 undef, ac.tmps.getD 13 undef, ac.tmps.getD 14 undef, ac.tmps.getD 15 undef, ac.tmps.getD 16 undef, ac.tmps.getD 17 undef, ac.tmps.getD 18 undef, ac.tmps.getD 19 undef, ac.tmps.getD 20 undef, ac.tmps.getD 21 undef, ac.tmps.getD 22 undef, ac.tmps.getD 23 undef, ac.tmps.getD 24 undef, ac.tmps.getD 25 undef, ac.tmps.getD 26 undef, ac.tmps.getD 27 undef, ac.tmps.getD 28 undef, ac.tmps.getD 29 undef, ac.tmps.getD 30 undef, ac.tmps.getD 31 undef, ac.tmps.getD 32 undef, ac.tmps.getD 33 undef, ac.tmps.getD 34 undef, ac.tmps.getD 35 undef, ac.tmps.getD 36 undef, ac.tmps.getD 37 undef, ac.tmps.getD 38 undef, ac.tmps.getD 39 undef, ac.tmps.getD 40 undef, ac.tmps.getD 41 undef, ac.tmps.getD 42 undef, ac.tmps.getD 43 undef, ac.tmps.getD 44 undef, ac.tmps.getD 45 undef, ac.tmps.getD 46 undef, ac.tmps.getD 47 undef, ac.tmps.getD 48 undef, ac.tmps.getD 49 undef, ac.tmps.getD 50 undef, ac.tmps.getD 51 undef, ac.tmps.getD 52 undef, ac.tmps.getD 53 undef, ac.tmps.getD 54 undef, ac.tmps.getD 55 undef, ac.tmps.getD 56 undef, ac.tmps.getD 57 undef, ac.tmps.getD 58 undef, ac.tmps.getD 59 undef, ac.tmps.getD 60 undef, ac.tmps.getD 61 undef, ac.tmps.getD 62 undef, ac.tmps.getD 63 undef, ac.tmps.getD 64 undef, ac.tmps.getD 65 undef, ac.tmps.getD 66 undef, ac.tmps.getD 67 undef, ac.tmps.getD 68 undef, ac.tmps.getD 69 undef, ac.tmps.getD 70 undef, ac.tmps.getD 71 undef, ac.tmps.getD 72 undef, ac.tmps.getD 73 undef, ac.tmps.getD 74 undef, ac.tmps.getD 75 undef, ac.tmps.getD 76 undef, ac.tmps.getD 77 undef, ac.tmps.getD 78 undef, ac.tmps.getD 79 undef, ac.tmps.getD 80 undef, ac.tmps.getD 81 undef, ac.tmps.getD 82 undef, ac.tmps.getD 83 undef, ac.tmps.getD 84 undef, ac.tmps.getD 85 undef, ac.tmps.getD 86 undef, ac.tmps.getD 87 undef, ac.tmps.getD 88 undef, ac.tmps.getD 89 undef, ac.tmps.getD 90 undef, ac.tmps.getD 91 undef, ac.tmps.getD 92 undef, ac.tmps.getD 93 undef, ac.tmps.getD 94 undef, ac.tmps.getD 95 undef, ac.tmps.getD 96 undef, ac.tmps.getD 97 undef, ac.tmps.getD 98 undef, ac.tmps.getD 99 undef, ac.tmps.getD 100 undef, ac.tmps.getD 101 undef, ac.tmps.getD 102 undef, ac.tmps.getD 103 undef, ac.tmps.getD 104 undef, ac.tmps.getD 105 undef, ac.tmps.getD 106 undef, ac.tmps.getD 107 undef, ac.tmps.getD 108 undef, ac.tmps.getD 109 undef, ac.tmps.getD 110 undef, ac.tmps.getD 111 undef, ac.tmps.getD 112 undef, ac.tmps.getD 113 undef, ac.tmps.getD 114 undef], []⟩ → Hid (Grown w X) → Hid (Blk b6 (tbl ⟨#[]⟩ (.slice none 0 0) (.int .i64 0) (.slice none 0 0) (.slice none 0 0)) 34 X) → Hid (ColB g l X) → Hid (Blk bt (tbl s0 (.slice (some ⟨g, 0, none⟩) k cap) (.int .i64 (j : Int)) (fv) (.slice none 0 0)) 34 X) → Hid (IsSl fv X) → K ac X)) (ac : Act) (X : World) (ha : ac = ⟨#[.int .i64 n, .slice p zs.length np, ac.tmps.getD 2 undef, ac.tmps.getD 3 undef, ac.tmps.getD 4 undef, ac.tmps.getD 5 undef, .pointer (some ⟨b6, 0, none⟩), .pointer (some ⟨bt, 0, none⟩), .int .i64 (k : Int), ac.tmps.getD 9 undef, ac.tmps.getD 10 undef, ac.tmps.getD 11 undef, ac.tmps.getD 12 undef, ac.tmps.getD 13 undef, ac.tmps.getD 14 undef, ac.tmps.getD 15 undef, ac.tmps.getD 16 undef, ac.tmps.getD 17 undef, ac.tmps.getD 18 undef, ac.tmps.getD 19 undef, ac.tmps.getD 20 undef, ac.tmps.getD 21 undef, ac.tmps.getD 22 undef, ac.tmps.getD 23 undef, ac.tmps.getD 24 undef, ac.tmps.getD 25 undef, ac.tmps.getD 26 undef, ac.tmps.getD 27 undef, ac.tmps.getD 28 undef, ac.tmps.getD 29 undef, ac.tmps.getD 30 undef, ac.tmps.getD 31 undef, ac.tmps.getD 32 undef, ac.tmps.getD 33 undef, ac.tmps.getD 34 undef, ac.tmps.getD 35 undef, ac.tmps.getD 36 undef, ac.tmps.getD 37 undef, ac.tmps.getD 38 undef, ac.tmps.getD 39 undef, ac.tmps.getD 40 undef, ac.tmps.getD 41 undef, ac.tmps.getD 42 undef, ac.tmps.getD 43 undef, ac.tmps.getD 44 undef, ac.tmps.getD 45 undef, ac.tmps.getD 46 undef, ac.tmps.getD 47 undef, ac.tmps.getD 48 undef, ac.tmps.getD 49 undef, ac.tmps.getD 50 undef, ac.tmps.getD 51 undef, ac.tmps.getD 52 undef, ac.tmps.getD 53 undef, ac.tmps.getD 54 undef, ac.tmps.getD 55 undef, ac.tmps.getD 56 undef, ac.tmps.getD 57 undef, ac.tmps.getD 58 undef, ac.tmps.getD 59 undef, ac.tmps.getD 60 undef, ac.tmps.getD 61 undef, ac.tmps.getD 62 undef, ac.tmps.getD 63 undef, ac.tmps.getD 64 undef, ac.tmps.getD 65 undef, ac.tmps.getD 66 undef, ac.tmps.getD 67 undef, ac.tmps.getD 68 undef, ac.tmps.getD 69 undef, ac.tmps.getD 70 undef, ac.tmps.getD 71 undef, ac.tmps.getD 72 undef, ac.tmps.getD 73 undef, ac.tmps.getD 74 undef, ac.tmps.getD 75 undef, ac.tmps.getD 76 undef, ac.tmps.getD 77 undef, ac.tmps.getD 78 undef, ac.tmps.getD 79 undef, ac.tmps.getD 80 undef, ac.tmps.getD 81 undef, ac.tmps.getD 82 undef, ac.tmps.getD 83 undef, ac.tmps.getD 84 undef, ac.tmps.getD 85 undef, ac.tmps.getD 86 undef, ac.tmps.getD 87 undef, ac.tmps.getD 88 undef, ac.tmps.getD 89 undef, ac.tmps.getD 90 undef, ac.tmps.getD 91 undef, ac.tmps.getD 92 undef, ac.tmps.getD 93 undef, ac.tmps.getD 94 undef, ac.tmps.getD 95 undef, ac.tmps.getD 96 undef, ac.tmps.getD 97 undef, ac.tmps.getD 98 undef, ac.tmps.getD 99 undef, ac.tmps.getD 100 undef, ac.tmps.getD 101 undef, ac.tmps.getD 102 undef, ac.tmps.getD 103 undef, ac.tmps.getD 104 undef, ac.tmps.getD 105 undef, ac.tmps.getD 106 undef, ac.tmps.getD 107 undef, ac.tmps.getD 108 undef, ac.tmps.getD 109 undef, ac.tmps.getD 110 undef, ac.tmps.getD 111 undef, ac.tmps.getD 112 undef, ac.tmps.getD 113 undef, ac.tmps.getD 114 undef], []⟩) (G : Hid (Grown w X)) (hZ : Hid (Blk b6 (tbl ⟨#[]⟩ (.slice none 0 0) (.int .i64 0) (.slice none 0 0) (.slice none 0 0)) 34 X)) (hB : Hid (ColB g l X)) (hT : Hid (Blk bt (tbl s0 (.slice (some ⟨g, 0, none⟩) k cap) (.int .i64 (j : Int)) (.slice none 0 0) (.slice none 0 0)) 34 X)) (hn1 : LeN n1 X) : r6.wp Try.prog (Exit.then K Q) ac X := by
  obtain ⟨i0, hi, hz0, hz1, hz2⟩ := infoParts info_int
  obtain ⟨o, rfl⟩ : ∃ o : Nat → Value, ac = ⟨#[.int .i64 n, .slice p zs.length np, o 2, o 3, o 4, o 5, .pointer (some ⟨b6, 0, none⟩), .pointer (some ⟨bt, 0, none⟩), .int .i64 (k : Int), o 9, o 10, o 11, o 12, o 13, o 14, o 15, o 16, o 17, o 18, o 19, o 20, o 21, o 22, o 23, o 24, o 25, o 26, o 27, o 28, o 29, o 30, o 31, o 32, o 33, o 34, o 35, o 36, o 37, o 38, o 39, o 40, o 41, o 42, o 43, o 44, o 45, o 46, o 47, o 48, o 49, o 50, o 51, o 52, o 53, o 54, o 55, o 56, o 57, o 58, o 59, o 60, o 61, o 62, o 63, o 64, o 65, o 66, o 67, o 68, o 69, o 70, o 71, o 72, o 73, o 74, o 75, o 76, o 77, o 78, o 79, o 80, o 81, o 82, o 83, o 84, o 85, o 86, o 87, o 88, o 89, o 90, o 91, o 92, o 93, o 94, o 95, o 96, o 97, o 98, o 99, o 100, o 101, o 102, o 103, o 104, o 105, o 106, o 107, o 108, o 109, o 110, o 111, o 112, o 113, o 114], []⟩ := ⟨fun i => ac.tmps.getD i undef, ha⟩
  clear ha
  unfold Try.f14 at hc
  cases hc
  have e64 : IntKind.i64.wrap (n.tdiv 64) = n.tdiv 64 := IntWalk.i64_in _ (by have := tdiv_bd hn 64 (by decide); unfold Is64 at this; omega)
  have hk0 : ¬ (k : Int) = 0 := by omega
  have hk0b : ((k : Int) == 0) = false := by simp; omega
  have hk0c : ¬ k = 0 := by omega
  go_wp2_with fail
  go_loopw [11] (fun i wr => Hid (∃ (m : Nat) (fv : Value) (us : List Value), m ≤ 3 ∧ i = .int .i64 (m : Int) ∧ Hid (Grown w wr) ∧ Hid (Blk b6 (tbl ⟨#[]⟩ (.slice none 0 0) (.int .i64 0) (.slice none 0 0) (.slice none 0 0)) 34 wr) ∧ Hid (ColB g l wr) ∧ Hid (Blk bt (tbl s0 (.slice (some ⟨g, 0, none⟩) k cap) (.int .i64 (j : Int)) (fv) (.slice none 0 0)) 34 wr) ∧ Hid (OwI n1 fv m us 3 1 wr) ∧ LeN n1 wr)) (fun i _ => 3 - (intOf i).toNat)
  case atStart => exact hide ⟨0, _, [], by decide, rfl, G, hZ, hB, hT, hide (World.ownsRow_nil _ _ _ _), hn1⟩
  case round =>
    clear G hZ hB hT hn1
    obtain ⟨m, fv, us, hm3, rfl, G, hZ, hB, hT, hU, hn1⟩ := unhide hrel
    have e9 : IntKind.i64.wrap ((m : Int) + 1) = (m : Int) + 1 := IntWalk.i64_in _ (by omega)
    by_cases h1 : (m : Int) < q
    · by_cases h2 : (m : Int) < k
      · go_wp2_with fail
        refine (unhide CW _).mono ?_
        rintro e wq ⟨rfl, rfl⟩
        go_wp2_with fail
        rename_i K10 hk10
        have REST10 : ∀ (ac : Act) (fv : Value) (us : List Value) (X : World), ac = ⟨#[.int .i64 n, .slice p zs.length np, o 2, o 3, o 4, o 5, .pointer (some ⟨b6, 0, none⟩), .pointer (some ⟨bt, 0, none⟩), .int .i64 (k : Int), o 9, o 10, .int .i64 (m : Int), o 12, o 13, o 14, o 15, o 16, o 17, o 18, o 19, o 20, o 21, o 22, o 23, o 24, o 25, o 26, o 27, o 28, o 29, o 30, o 31, o 32, o 33, o 34, o 35, o 36, o 37, o 38, o 39, o 40, o 41, o 42, o 43, o 44, o 45, o 46, o 47, o 48, o 49, o 50, o 51, o 52, o 53, o 54, o 55, o 56, o 57, o 58, o 59, o 60, o 61, o 62, o 63, o 64, o 65, ac.tmps.getD 66 undef, ac.tmps.getD 67 undef, ac.tmps.getD 68 undef, ac.tmps.getD 69 undef, ac.tmps.getD 70 undef, ac.tmps.getD 71 undef, ac.tmps.getD 72 undef, ac.tmps.getD 73 undef, ac.tmps.getD 74 undef, ac.tmps.getD 75 undef, ac.tmps.getD 76 undef, ac.tmps.getD 77 undef, ac.tmps.getD 78 undef, ac.tmps.getD 79 undef, ac.tmps.getD 80 undef, ac.tmps.getD 81 undef, ac.tmps.getD 82 undef, ac.tmps.getD 83 undef, ac.tmps.getD 84 undef, ac.tmps.getD 85 undef, ac.tmps.getD 86 undef, ac.tmps.getD 87 undef, ac.tmps.getD 88 undef, ac.tmps.getD 89 undef, o 90, o 91, o 92, o 93, o 94, o 95, o 96, o 97, o 98, o 99, o 100, o 101, o 102, o 103, o 104, o 105, o 106, o 107, o 108, o 109, o 110, o 111, o 112, o 113, o 114], []⟩ → Hid (Grown w X) → Hid (Blk b6 (tbl ⟨#[]⟩ (.slice none 0 0) (.int .i64 0) (.slice none 0 0) (.slice none 0 0)) 34 X) → Hid (ColB g l X) → Hid (Blk bt (tbl s0 (.slice (some ⟨g, 0, none⟩) k cap) (.int .i64 (j : Int)) (fv) (.slice none 0 0)) 34 X) → Hid (OwI n1 fv (m + 1) us 3 1 X) → LeN n1 X → K10 ac X := by
          clear G hZ hB hT hU hn1
          intro ac fv us X ha G hZ hB hT hU hn1
          obtain ⟨u, rfl⟩ : ∃ u : Nat → Value, ac = ⟨#[.int .i64 n, .slice p zs.length np, o 2, o 3, o 4, o 5, .pointer (some ⟨b6, 0, none⟩), .pointer (some ⟨bt, 0, none⟩), .int .i64 (k : Int), o 9, o 10, .int .i64 (m : Int), o 12, o 13, o 14, o 15, o 16, o 17, o 18, o 19, o 20, o 21, o 22, o 23, o 24, o 25, o 26, o 27, o 28, o 29, o 30, o 31, o 32, o 33, o 34, o 35, o 36, o 37, o 38, o 39, o 40, o 41, o 42, o 43, o 44, o 45, o 46, o 47, o 48, o 49, o 50, o 51, o 52, o 53, o 54, o 55, o 56, o 57, o 58, o 59, o 60, o 61, o 62, o 63, o 64, o 65, u 66, u 67, u 68, u 69, u 70, u 71, u 72, u 73, u 74, u 75, u 76, u 77, u 78, u 79, u 80, u 81, u 82, u 83, u 84, u 85, u 86, u 87, u 88, u 89, o 90, o 91, o 92, o 93, o 94, o 95, o 96, o 97, o 98, o 99, o 100, o 101, o 102, o 103, o 104, o 105, o 106, o 107, o 108, o 109, o 110, o 111, o 112, o 113, o 114], []⟩ := ⟨fun i => ac.tmps.getD i undef, ha⟩
          clear ha
          refine hk10 _ _ ?_
          clear hk10
          go_wp2_with fail
          go_roundw
          case rel => exact hide ⟨m + 1, fv, us, by omega, by simp, G, hZ, hB, hT, hU, hn1⟩
          case measure => simp [intOf]; omega
        have REST10 := hide REST10
        clear hk10
        refine wp_region_noPanic ?_
        refine wp_region_held_drew (S := (fun _ => True)) (by kernel_rfl) (trivial) (fun hHeld => ?_)
        have hbd : Below wq.heap.size wq wq.drew := (Below.refl _ _).drew
        replace G := hide ((unhide G).call hbd)
        replace hZ := hide ((unhide hZ).call hbd)
        replace hB := hide ((unhide hB).call hbd)
        replace hT := hide ((unhide hT).call hbd)
        replace hU := hide ((unhide hU).call hbd)
        replace hn1 := hn1.call hbd
        clear hbd
        generalize wq.drew = Wd at *
        refine wpAnyH_take (i := 0) (oi := ?oi20001) (v := ?v20001) ?hi20001 (by kernel_rfl) (by kernel_rfl) (by kernel_rfl) (fun _ _ _ h => h) (Or.inl ⟨?hw20001, ?hy20001⟩) (by assumption) ?rest20001
        case hi20001 => (simp only [List.getElem?_toArray, List.getElem?_cons_zero]; rfl)
        case hw20001 => rfl
        case hy20001 => first | (intro wx hSw; go_simp; done) | (intro wx hSw; go_simp; with_reducible rfl)
        simp only [Act.put, List.setIfInBounds_toArray, List.set_cons_zero, List.set_cons_succ]
        refine wpAnyH_take (i := 2) (oi := ?oi20002) (v := ?v20002) ?hi20002 (by kernel_rfl) (by kernel_rfl) (by kernel_rfl) (fun _ _ _ h => h) (Or.inl ⟨?hw20002, ?hy20002⟩) (by assumption) ?rest20002
        case hi20002 => (simp only [List.getElem?_toArray, List.getElem?_cons_zero, List.getElem?_cons_succ]; rfl)
        case hw20002 => rfl
        case hy20002 => first | (intro wx hSw; go_simp; done) | (intro wx hSw; go_simp; with_reducible rfl)
        simp only [Act.put, List.setIfInBounds_toArray, List.set_cons_zero, List.set_cons_succ]
        refine wpAnyH_take (i := 5) (oi := ?oi20003) (v := ?v20003) ?hi20003 (by kernel_rfl) (by kernel_rfl) (by kernel_rfl) (fun _ _ _ h => h) (Or.inl ⟨?hw20003, ?hy20003⟩) (by assumption) ?rest20003
        case hi20003 => (simp only [List.getElem?_toArray, List.getElem?_cons_zero, List.getElem?_cons_succ]; rfl)
        case hw20003 => rfl
        case hy20003 => first | (intro wx hSw; go_simp; done) | (intro wx hSw; go_simp; with_reducible rfl)
        simp only [Act.put, List.setIfInBounds_toArray, List.set_cons_zero, List.set_cons_succ]
        refine wpAnyH_take (i := 7) (oi := ?oi20004) (v := ?v20004) ?hi20004 (by kernel_rfl) (by kernel_rfl) (by kernel_rfl) (fun _ _ _ h => h) (Or.inl ⟨?hw20004, ?hy20004⟩) (by assumption) ?rest20004
        case hi20004 => (simp only [List.getElem?_toArray, List.getElem?_cons_zero, List.getElem?_cons_succ]; rfl)
        case hw20004 => rfl
        case hy20004 => first | (intro wx hSw; go_simp; done) | (intro wx hSw; go_simp; with_reducible rfl)
        simp only [Act.put, List.setIfInBounds_toArray, List.set_cons_zero, List.set_cons_succ]
        have lt_ := (unhide hT).lt
        have t1 := (unhide hT).cell 3
        have t2 := (unhide hT).cell 2
        simp at t1 t2
        refine wpAnyH_ready (rs := [1, 3]) (by kernel_rfl) (by simp) ?_
        refine AllReadyH.cons rfl (fun K20005 hK20005 => ?_) ?_
        · go_simp
          refine hK20005.out _ _ ?hs20005 (fun hHeld20005 => ?_)
          case hs20005 => exact trivial
          clear hHeld
          have hHeld := hHeld20005; clear hHeld20005 hK20005 K20005
          refine wpAnyH_ready (rs := [3]) (by kernel_rfl) (by simp) ?_
          refine AllReadyH.cons rfl (fun K20006 hK20006 => ?_) AllReadyH.nil
          go_simp
          refine hK20006.out _ _ ?hs20006 (fun hHeld20006 => ?_)
          case hs20006 => exact trivial
          clear hHeld
          have hHeld := hHeld20006; clear hHeld20006 hK20006 K20006
          refine wpAnyH_take (i := 4) (oi := ?oi20007) (v := ?v20007) ?hi20007 (by kernel_rfl) (by kernel_rfl) (by kernel_rfl) (fun _ _ _ h => h) (Or.inl ⟨?hw20007, ?hy20007⟩) (by assumption) ?rest20007
          case hi20007 => (simp only [List.getElem?_toArray, List.getElem?_cons_zero, List.getElem?_cons_succ]; rfl)
          case hw20007 => rfl
          case hy20007 => first | (intro wx hSw; go_simp; done) | (intro wx hSw; go_simp; with_reducible rfl)
          simp only [Act.put, List.setIfInBounds_toArray, List.set_cons_zero, List.set_cons_succ]
          refine wpAnyH_take (i := 6) (oi := ?oi20008) (v := ?v20008) ?hi20008 (by kernel_rfl) (by kernel_rfl) (by kernel_rfl) (fun _ _ _ h => h) (Or.inl ⟨?hw20008, ?hy20008⟩) (by assumption) ?rest20008
          case hi20008 => (simp only [List.getElem?_toArray, List.getElem?_cons_zero, List.getElem?_cons_succ]; rfl)
          case hw20008 => rfl
          case hy20008 => first | (intro wx hSw; go_simp; done) | (intro wx hSw; go_simp; with_reducible rfl)
          simp only [Act.put, List.setIfInBounds_toArray, List.set_cons_zero, List.set_cons_succ]
          refine wpAnyH_take (i := 8) (oi := ?oi20009) (v := ?v20009) ?hi20009 (by kernel_rfl) (by kernel_rfl) (by kernel_rfl) (fun _ _ _ h => h) (Or.inl ⟨?hw20009, ?hy20009⟩) (by assumption) ?rest20009
          case hi20009 => (simp only [List.getElem?_toArray, List.getElem?_cons_zero, List.getElem?_cons_succ]; rfl)
          case hw20009 => rfl
          case hy20009 => first | (intro wx hSw; have hk0_ := hk0; have hk0b_ := hk0b; have hk0c_ := hk0c; go_simp; done) | (intro wx hSw; have hk0_ := hk0; have hk0b_ := hk0b; have hk0c_ := hk0c; go_simp; with_reducible rfl)
          simp only [Act.put, List.setIfInBounds_toArray, List.set_cons_zero, List.set_cons_succ]
          generalize (IntKind.i64.wrap (IntKind.i64.wrap ((j : Int) + 1) + (m : Int))).tmod (k : Int) = vv at *
          refine wpAnyH_ready (rs := [9]) (by kernel_rfl) (by simp) ?_
          refine AllReadyH.cons rfl (fun K20010 hK20010 => ?_) AllReadyH.nil
          go_simp
          have hb := below_new Wd (.cells #[.int .i64 vv] 3)
          have hs3 := cells_one_at Wd _ rfl (.int .i64 vv) 3
          refine hK20010.out _ _ ?hs20010 (fun hHeld20010 => ?_)
          case hs20010 => exact trivial
          clear hHeld
          have hHeld := hHeld20010; clear hHeld20010 hK20010 K20010
          replace G := hide ((unhide G).call hb)
          replace hZ := hide ((unhide hZ).call hb)
          replace hB := hide ((unhide hB).call hb)
          replace hT := hide ((unhide hT).call hb)
          replace hU := hide ((unhide hU).call hb)
          replace hn1 := hn1.call hb
          clear lt_ t1 t2
          generalize hgs : Wd.heap.size = gs at *
          generalize hXs : Wd.alloc (.cells #[.int .i64 vv] 3) = X3 at *
          clear hXs hgs hb
          have lt_ := (unhide hT).lt
          have t1 := (unhide hT).cell 3
          have t2 := (unhide hT).cell 2
          simp at t1 t2
          refine wpAnyH_ready (rs := [10]) (by kernel_rfl) (by simp) ?_
          refine AllReadyH.cons rfl (fun K20011 hK20011 => ?_) AllReadyH.nil
          refine step_append_lies _ rfl _ _ 22 rfl n1 3 i0 _ 1 8 Try.underlying22 hi hz0 hz1 hz2 rfl (by decide) fv _ _ rfl (unhide hU) ⟨gs, 0, none⟩ 1 1 [.int .i64 vv] rfl rfl hs3 (by simp [Value.oneCell']) (by decide) (by unfold maxLen; omega) (by omega) hn1 _ rfl ?_
          intro g2 cp2 w4 hown4 hgrow4 hat4 hlt4
          have hB4 : Below n1 X3 w4 := Below.grown (Below.refl _ _) hgrow4 hn1 (fun j e => by rcases (unhide hU).2 with ⟨rfl, _⟩ | ⟨g', cap', cur', rfl, hge', _⟩ <;> simp [Value.ownBlock] at e; omega)
          refine hK20011.out _ _ ?hs20011 (fun hHeld20011 => ?_)
          case hs20011 => exact trivial
          clear hHeld
          have hHeld := hHeld20011; clear hHeld20011 hK20011 K20011
          have hw0 : w.heap.size ≤ n1 := by omega
          have T4_ := hide (blk_base (unhide hT) hB4 ht1)
          have lt4 := (unhide T4_).lt
          have q1 := (unhide T4_).cell 3
          have f1 := (unhide T4_).froz 3
          simp at q1
          have G5 : Hid (Grown w (w4.setCell ⟨bt, 3, none⟩ (.slice (some ⟨g2, 0, none⟩) (m + 1) cp2))) := hide (Below.setCell (Below.trans (unhide G) (hB4.mono hw0)) (p := ⟨bt, 3, none⟩) hwt _)
          have Z5 := hide (Blk.set (blk_base (unhide hZ) hB4 hb1) h6t 3 (.slice (some ⟨g2, 0, none⟩) (m + 1) cp2))
          have B5 := hide (((unhide hB).base hB4 hg1).far hgt 3 (.slice (some ⟨g2, 0, none⟩) (m + 1) cp2))
          have T5 : Hid (Blk bt (tbl s0 (.slice (some ⟨g, 0, none⟩) k cap) (.int .i64 (j : Int)) ((.slice (some ⟨g2, 0, none⟩) (m + 1) cp2)) (.slice none 0 0)) 34 (w4.setCell ⟨bt, 3, none⟩ (.slice (some ⟨g2, 0, none⟩) (m + 1) cp2))) := hide (heapSet (unhide T4_) 3 (.slice (some ⟨g2, 0, none⟩) (m + 1) cp2))
          have O5 := hide (owns_set (b := bt) hown4 ht1 3 (.slice (some ⟨g2, 0, none⟩) (m + 1) cp2))
          have N5 : LeN n1 (w4.setCell ⟨bt, 3, none⟩ (.slice (some ⟨g2, 0, none⟩) (m + 1) cp2)) := by have h1 := Nat.le_trans hn1 hB4.size; unfold LeN; simpa using h1
          refine wpAnyH_take (i := 11) (oi := ?oi20012) (v := ?v20012) ?hi20012 (by kernel_rfl) (by kernel_rfl) (by kernel_rfl) (fun _ _ _ h => h) (Or.inl ⟨?hw20012, ?hy20012⟩) (by assumption) ?rest20012
          case hi20012 => (simp only [List.getElem?_toArray, List.getElem?_cons_zero, List.getElem?_cons_succ]; rfl)
          case hw20012 => rfl
          case hy20012 => first | (intro wx hSw; go_simp; done) | (intro wx hSw; go_simp; with_reducible rfl)
          simp only [Act.put, List.setIfInBounds_toArray, List.set_cons_zero, List.set_cons_succ]
          refine wpAnyH_ready (rs := [12]) (by kernel_rfl) (by simp) ?_
          refine AllReadyH.cons rfl (fun K20013 hK20013 => ?_) AllReadyH.nil
          go_simp
          refine hK20013.out _ _ ?hs20013 (fun hHeld20013 => ?_)
          case hs20013 => exact trivial
          clear hHeld
          have hHeld := hHeld20013; clear hHeld20013 hK20013 K20013
          refine wpAnyH_done (by kernel_rfl) ?_ _
          refine NoPanic.normal ?_
          skip
          exact unhide REST10 _ _ _ _ (by kernel_rfl) G5 Z5 B5 T5 O5 N5
        refine AllReadyH.cons rfl (fun K20014 hK20014 => ?_) AllReadyH.nil
        · go_simp
          refine hK20014.out _ _ ?hs20014 (fun hHeld20014 => ?_)
          case hs20014 => exact trivial
          clear hHeld
          have hHeld := hHeld20014; clear hHeld20014 hK20014 K20014
          refine wpAnyH_take (i := 4) (oi := ?oi20015) (v := ?v20015) ?hi20015 (by kernel_rfl) (by kernel_rfl) (by kernel_rfl) (fun _ _ _ h => h) (Or.inl ⟨?hw20015, ?hy20015⟩) (by assumption) ?rest20015
          case hi20015 => (simp only [List.getElem?_toArray, List.getElem?_cons_zero, List.getElem?_cons_succ]; rfl)
          case hw20015 => rfl
          case hy20015 => first | (intro wx hSw; go_simp; done) | (intro wx hSw; go_simp; with_reducible rfl)
          simp only [Act.put, List.setIfInBounds_toArray, List.set_cons_zero, List.set_cons_succ]
          refine wpAnyH_take (i := 6) (oi := ?oi20016) (v := ?v20016) ?hi20016 (by kernel_rfl) (by kernel_rfl) (by kernel_rfl) (fun _ _ _ h => h) (Or.inl ⟨?hw20016, ?hy20016⟩) (by assumption) ?rest20016
          case hi20016 => (simp only [List.getElem?_toArray, List.getElem?_cons_zero, List.getElem?_cons_succ]; rfl)
          case hw20016 => rfl
          case hy20016 => first | (intro wx hSw; go_simp; done) | (intro wx hSw; go_simp; with_reducible rfl)
          simp only [Act.put, List.setIfInBounds_toArray, List.set_cons_zero, List.set_cons_succ]
          refine wpAnyH_take (i := 8) (oi := ?oi20017) (v := ?v20017) ?hi20017 (by kernel_rfl) (by kernel_rfl) (by kernel_rfl) (fun _ _ _ h => h) (Or.inl ⟨?hw20017, ?hy20017⟩) (by assumption) ?rest20017
          case hi20017 => (simp only [List.getElem?_toArray, List.getElem?_cons_zero, List.getElem?_cons_succ]; rfl)
          case hw20017 => rfl
          case hy20017 => first | (intro wx hSw; have hk0_ := hk0; have hk0b_ := hk0b; have hk0c_ := hk0c; go_simp; done) | (intro wx hSw; have hk0_ := hk0; have hk0b_ := hk0b; have hk0c_ := hk0c; go_simp; with_reducible rfl)
          simp only [Act.put, List.setIfInBounds_toArray, List.set_cons_zero, List.set_cons_succ]
          generalize (IntKind.i64.wrap (IntKind.i64.wrap ((j : Int) + 1) + (m : Int))).tmod (k : Int) = vv at *
          refine wpAnyH_ready (rs := [1, 9]) (by kernel_rfl) (by simp) ?_
          refine AllReadyH.cons rfl (fun K20018 hK20018 => ?_) ?_
          · go_simp
            refine hK20018.out _ _ ?hs20018 (fun hHeld20018 => ?_)
            case hs20018 => exact trivial
            clear hHeld
            have hHeld := hHeld20018; clear hHeld20018 hK20018 K20018
            refine wpAnyH_ready (rs := [9]) (by kernel_rfl) (by simp) ?_
            refine AllReadyH.cons rfl (fun K20019 hK20019 => ?_) AllReadyH.nil
            go_simp
            have hb := below_new Wd (.cells #[.int .i64 vv] 3)
            have hs3 := cells_one_at Wd _ rfl (.int .i64 vv) 3
            refine hK20019.out _ _ ?hs20019 (fun hHeld20019 => ?_)
            case hs20019 => exact trivial
            clear hHeld
            have hHeld := hHeld20019; clear hHeld20019 hK20019 K20019
            replace G := hide ((unhide G).call hb)
            replace hZ := hide ((unhide hZ).call hb)
            replace hB := hide ((unhide hB).call hb)
            replace hT := hide ((unhide hT).call hb)
            replace hU := hide ((unhide hU).call hb)
            replace hn1 := hn1.call hb
            clear lt_ t1 t2
            generalize hgs : Wd.heap.size = gs at *
            generalize hXs : Wd.alloc (.cells #[.int .i64 vv] 3) = X3 at *
            clear hXs hgs hb
            have lt_ := (unhide hT).lt
            have t1 := (unhide hT).cell 3
            have t2 := (unhide hT).cell 2
            simp at t1 t2
            refine wpAnyH_ready (rs := [10]) (by kernel_rfl) (by simp) ?_
            refine AllReadyH.cons rfl (fun K20020 hK20020 => ?_) AllReadyH.nil
            refine step_append_lies _ rfl _ _ 22 rfl n1 3 i0 _ 1 8 Try.underlying22 hi hz0 hz1 hz2 rfl (by decide) fv _ _ rfl (unhide hU) ⟨gs, 0, none⟩ 1 1 [.int .i64 vv] rfl rfl hs3 (by simp [Value.oneCell']) (by decide) (by unfold maxLen; omega) (by omega) hn1 _ rfl ?_
            intro g2 cp2 w4 hown4 hgrow4 hat4 hlt4
            have hB4 : Below n1 X3 w4 := Below.grown (Below.refl _ _) hgrow4 hn1 (fun j e => by rcases (unhide hU).2 with ⟨rfl, _⟩ | ⟨g', cap', cur', rfl, hge', _⟩ <;> simp [Value.ownBlock] at e; omega)
            refine hK20020.out _ _ ?hs20020 (fun hHeld20020 => ?_)
            case hs20020 => exact trivial
            clear hHeld
            have hHeld := hHeld20020; clear hHeld20020 hK20020 K20020
            have hw0 : w.heap.size ≤ n1 := by omega
            have T4_ := hide (blk_base (unhide hT) hB4 ht1)
            have lt4 := (unhide T4_).lt
            have q1 := (unhide T4_).cell 3
            have f1 := (unhide T4_).froz 3
            simp at q1
            have G5 : Hid (Grown w (w4.setCell ⟨bt, 3, none⟩ (.slice (some ⟨g2, 0, none⟩) (m + 1) cp2))) := hide (Below.setCell (Below.trans (unhide G) (hB4.mono hw0)) (p := ⟨bt, 3, none⟩) hwt _)
            have Z5 := hide (Blk.set (blk_base (unhide hZ) hB4 hb1) h6t 3 (.slice (some ⟨g2, 0, none⟩) (m + 1) cp2))
            have B5 := hide (((unhide hB).base hB4 hg1).far hgt 3 (.slice (some ⟨g2, 0, none⟩) (m + 1) cp2))
            have T5 : Hid (Blk bt (tbl s0 (.slice (some ⟨g, 0, none⟩) k cap) (.int .i64 (j : Int)) ((.slice (some ⟨g2, 0, none⟩) (m + 1) cp2)) (.slice none 0 0)) 34 (w4.setCell ⟨bt, 3, none⟩ (.slice (some ⟨g2, 0, none⟩) (m + 1) cp2))) := hide (heapSet (unhide T4_) 3 (.slice (some ⟨g2, 0, none⟩) (m + 1) cp2))
            have O5 := hide (owns_set (b := bt) hown4 ht1 3 (.slice (some ⟨g2, 0, none⟩) (m + 1) cp2))
            have N5 : LeN n1 (w4.setCell ⟨bt, 3, none⟩ (.slice (some ⟨g2, 0, none⟩) (m + 1) cp2)) := by have h1 := Nat.le_trans hn1 hB4.size; unfold LeN; simpa using h1
            refine wpAnyH_take (i := 11) (oi := ?oi20021) (v := ?v20021) ?hi20021 (by kernel_rfl) (by kernel_rfl) (by kernel_rfl) (fun _ _ _ h => h) (Or.inl ⟨?hw20021, ?hy20021⟩) (by assumption) ?rest20021
            case hi20021 => (simp only [List.getElem?_toArray, List.getElem?_cons_zero, List.getElem?_cons_succ]; rfl)
            case hw20021 => rfl
            case hy20021 => first | (intro wx hSw; go_simp; done) | (intro wx hSw; go_simp; with_reducible rfl)
            simp only [Act.put, List.setIfInBounds_toArray, List.set_cons_zero, List.set_cons_succ]
            refine wpAnyH_ready (rs := [12]) (by kernel_rfl) (by simp) ?_
            refine AllReadyH.cons rfl (fun K20022 hK20022 => ?_) AllReadyH.nil
            go_simp
            refine hK20022.out _ _ ?hs20022 (fun hHeld20022 => ?_)
            case hs20022 => exact trivial
            clear hHeld
            have hHeld := hHeld20022; clear hHeld20022 hK20022 K20022
            refine wpAnyH_done (by kernel_rfl) ?_ _
            refine NoPanic.normal ?_
            skip
            exact unhide REST10 _ _ _ _ (by kernel_rfl) G5 Z5 B5 T5 O5 N5
          refine AllReadyH.cons rfl (fun K20023 hK20023 => ?_) AllReadyH.nil
          · go_simp
            have hb := below_new Wd (.cells #[.int .i64 vv] 3)
            have hs3 := cells_one_at Wd _ rfl (.int .i64 vv) 3
            refine hK20023.out _ _ ?hs20023 (fun hHeld20023 => ?_)
            case hs20023 => exact trivial
            clear hHeld
            have hHeld := hHeld20023; clear hHeld20023 hK20023 K20023
            replace G := hide ((unhide G).call hb)
            replace hZ := hide ((unhide hZ).call hb)
            replace hB := hide ((unhide hB).call hb)
            replace hT := hide ((unhide hT).call hb)
            replace hU := hide ((unhide hU).call hb)
            replace hn1 := hn1.call hb
            clear lt_ t1 t2
            generalize hgs : Wd.heap.size = gs at *
            generalize hXs : Wd.alloc (.cells #[.int .i64 vv] 3) = X3 at *
            clear hXs hgs hb
            have lt_ := (unhide hT).lt
            have t1 := (unhide hT).cell 3
            have t2 := (unhide hT).cell 2
            simp at t1 t2
            refine wpAnyH_ready (rs := [1]) (by kernel_rfl) (by simp) ?_
            refine AllReadyH.cons rfl (fun K20024 hK20024 => ?_) AllReadyH.nil
            go_simp
            refine hK20024.out _ _ ?hs20024 (fun hHeld20024 => ?_)
            case hs20024 => exact trivial
            clear hHeld
            have hHeld := hHeld20024; clear hHeld20024 hK20024 K20024
            refine wpAnyH_ready (rs := [10]) (by kernel_rfl) (by simp) ?_
            refine AllReadyH.cons rfl (fun K20025 hK20025 => ?_) AllReadyH.nil
            refine step_append_lies _ rfl _ _ 22 rfl n1 3 i0 _ 1 8 Try.underlying22 hi hz0 hz1 hz2 rfl (by decide) fv _ _ rfl (unhide hU) ⟨gs, 0, none⟩ 1 1 [.int .i64 vv] rfl rfl hs3 (by simp [Value.oneCell']) (by decide) (by unfold maxLen; omega) (by omega) hn1 _ rfl ?_
            intro g2 cp2 w4 hown4 hgrow4 hat4 hlt4
            have hB4 : Below n1 X3 w4 := Below.grown (Below.refl _ _) hgrow4 hn1 (fun j e => by rcases (unhide hU).2 with ⟨rfl, _⟩ | ⟨g', cap', cur', rfl, hge', _⟩ <;> simp [Value.ownBlock] at e; omega)
            refine hK20025.out _ _ ?hs20025 (fun hHeld20025 => ?_)
            case hs20025 => exact trivial
            clear hHeld
            have hHeld := hHeld20025; clear hHeld20025 hK20025 K20025
            have hw0 : w.heap.size ≤ n1 := by omega
            have T4_ := hide (blk_base (unhide hT) hB4 ht1)
            have lt4 := (unhide T4_).lt
            have q1 := (unhide T4_).cell 3
            have f1 := (unhide T4_).froz 3
            simp at q1
            have G5 : Hid (Grown w (w4.setCell ⟨bt, 3, none⟩ (.slice (some ⟨g2, 0, none⟩) (m + 1) cp2))) := hide (Below.setCell (Below.trans (unhide G) (hB4.mono hw0)) (p := ⟨bt, 3, none⟩) hwt _)
            have Z5 := hide (Blk.set (blk_base (unhide hZ) hB4 hb1) h6t 3 (.slice (some ⟨g2, 0, none⟩) (m + 1) cp2))
            have B5 := hide (((unhide hB).base hB4 hg1).far hgt 3 (.slice (some ⟨g2, 0, none⟩) (m + 1) cp2))
            have T5 : Hid (Blk bt (tbl s0 (.slice (some ⟨g, 0, none⟩) k cap) (.int .i64 (j : Int)) ((.slice (some ⟨g2, 0, none⟩) (m + 1) cp2)) (.slice none 0 0)) 34 (w4.setCell ⟨bt, 3, none⟩ (.slice (some ⟨g2, 0, none⟩) (m + 1) cp2))) := hide (heapSet (unhide T4_) 3 (.slice (some ⟨g2, 0, none⟩) (m + 1) cp2))
            have O5 := hide (owns_set (b := bt) hown4 ht1 3 (.slice (some ⟨g2, 0, none⟩) (m + 1) cp2))
            have N5 : LeN n1 (w4.setCell ⟨bt, 3, none⟩ (.slice (some ⟨g2, 0, none⟩) (m + 1) cp2)) := by have h1 := Nat.le_trans hn1 hB4.size; unfold LeN; simpa using h1
            refine wpAnyH_take (i := 11) (oi := ?oi20026) (v := ?v20026) ?hi20026 (by kernel_rfl) (by kernel_rfl) (by kernel_rfl) (fun _ _ _ h => h) (Or.inl ⟨?hw20026, ?hy20026⟩) (by assumption) ?rest20026
            case hi20026 => (simp only [List.getElem?_toArray, List.getElem?_cons_zero, List.getElem?_cons_succ]; rfl)
            case hw20026 => rfl
            case hy20026 => first | (intro wx hSw; go_simp; done) | (intro wx hSw; go_simp; with_reducible rfl)
            simp only [Act.put, List.setIfInBounds_toArray, List.set_cons_zero, List.set_cons_succ]
            refine wpAnyH_ready (rs := [12]) (by kernel_rfl) (by simp) ?_
            refine AllReadyH.cons rfl (fun K20027 hK20027 => ?_) AllReadyH.nil
            go_simp
            refine hK20027.out _ _ ?hs20027 (fun hHeld20027 => ?_)
            case hs20027 => exact trivial
            clear hHeld
            have hHeld := hHeld20027; clear hHeld20027 hK20027 K20027
            refine wpAnyH_done (by kernel_rfl) ?_ _
            refine NoPanic.normal ?_
            skip
            exact unhide REST10 _ _ _ _ (by kernel_rfl) G5 Z5 B5 T5 O5 N5
      · go_wp2_with fail
        refine (unhide CW _).mono ?_
        rintro e wq ⟨rfl, rfl⟩
        go_wp2_with fail
        exact unhide REST _ fv _ (by kernel_rfl) G hZ hB hT (hide (isSl_of (unhide hU)))
    · go_wp2_with fail
      refine (unhide CW _).mono ?_
      rintro e wq ⟨rfl, rfl⟩
      go_wp2_with fail
      exact unhide REST _ fv _ (by kernel_rfl) G hZ hB hT (hide (isSl_of (unhide hU)))
end Go.Proofs.Ytliefgkhpgigaaa

namespace Go.Proofs.Ytliefgkhpgigaaa
open Go.RowKit Go.Shelf
set_option linter.unusedSimpArgs false
set_option linter.unusedVariables false

set_option maxHeartbeats 16000000 in
set_option maxRecDepth 100000 in
set_option maxHeartbeats 16000000 in
set_option maxRecDepth 100000 in
theorem tbL {r0 r1 r2 r3 r4 r5 r6 r7 rest : Code} (hc : Try.f14.body = some (.seq r0 (.seq r1 (.seq r2 (.seq r3 (.seq r4 (.seq r5 (.seq r6 (.seq r7 (rest)))))))))) (w : World) (b6 bt : Nat) (h6t : b6 ≠ bt) (hw6 : w.heap.size ≤ b6) (hwt : w.heap.size ≤ bt) (n : Int) (p : Option Addr) (np : Nat) (zs : List Int) (k : Nat) (hk4 : k ≤ 4) (hk1 : 1 ≤ k) (s0 : ByteArray) (g cap : Nat) (hgt : g ≠ bt) (hg6 : g ≠ b6) (hwg : w.heap.size ≤ g) (l : List C3) (n1 : Nat) (hb1 : b6 < n1) (ht1 : bt < n1) (hg1 : g < n1) (j : Nat) (hjk : j < k) (hn : Is64 n) (q : Int) (hq : 0 ≤ q ∧ q < 3) (CW : Hid (∀ W, Calls Try.prog 34 #[.int .i64 (n.tdiv 256), .int .i64 3] W fun e W' => e = .returned (.int .i64 q) ∧ W' = W)) (uv : Value) (K : Act → World → Prop) (Q : Exit → Act → World → Prop) (REST : Hid (∀ (ac : Act) (fv : Value) (X : World), ac = ⟨#[.int .i64 n, .slice p zs.length np, ac.tmps.getD 2 undef, ac.tmps.getD 3 undef, ac.tmps.getD 4 undef, ac.tmps.getD 5 undef, .pointer (some ⟨b6, 0, none⟩), .pointer (some ⟨bt, 0, none⟩), .int .i64 (k : Int), ac.tmps.getD 9 undef, ac.tmps.getD 10 undef, ac.tmps.getD 11 undef, ac.tmps.getD 12 undef, ac.tmps.getD 13 undef, ac.tmps.getD 14 undef, ac.tmps.getD 15 undef, ac.tmps.getD 16 undef, ac.tmps.getD 17 undef, ac.tmps.getD 18 undef, ac.tmps.getD 19 undef, ac.tmps.getD 20 undef, ac.tmps.getD 21 undef, ac.tmps.getD 22 undef, ac.tmps.getD 23 undef, ac.tmps.getD 24 undef, ac.tmps.getD 25 undef, ac.tmps.getD 26 undef, ac.tmps.getD 27 undef, ac.tmps.getD 28 undef, ac.tmps.getD 29 undef, ac.tmps.getD 30 undef, ac.tmps.getD 31 undef, ac.tmps.getD 32 undef, ac.tmps.getD 33 undef, ac.tmps.getD 34 undef, ac.tmps.getD 35 undef, ac.tmps.getD 36 undef, ac.tmps.getD 37 undef, ac.tmps.getD 38 undef, ac.tmps.getD 39 undef, ac.tmps.getD 40 undef, ac.tmps.getD 41 undef, ac.tmps.getD 42 undef, ac.tmps.getD 43 undef, ac.tmps.getD 44 undef, ac.tmps.getD 45 undef, ac.tmps.getD 46 undef, ac.tmps.getD 47 undef, ac.tmps.getD 48 undef, ac.tmps.getD 49 undef, ac.tmps.getD 50 undef, ac.tmps.getD 51 undef, ac.tmps.getD 52 undef, ac.tmps.getD 53 undef, ac.tmps.getD 54 undef, ac.tmps.getD 55 undef, ac.tmps.getD 56 undef, ac.tmps.getD 57 undef, ac.tmps.getD 58 undef, ac.tmps.getD 59 undef, ac.tmps.getD 60 undef, ac.tmps.getD 61 undef, ac.tmps.getD 62 undef, ac.tmps.getD 63 undef, ac.tmps.getD 64 undef, ac.tmps.getD 65 undef, ac.tmps.getD 66 undef, ac.tmps.getD 67 undef, ac.tmps.getD 68 undef, ac.tmps.getD 69 undef, ac.tmps.getD 70 undef, ac.tmps.getD 71 undef, ac.tmps.getD 72 undef, ac.tmps.getD 73 undef, ac.tmps.getD 74 undef, ac.tmps.getD 75 undef, ac.tmps.getD 76 undef, ac.tmps.getD 77 undef, ac.tmps.getD 78 undef, ac.tmps.getD 79 undef, ac.tmps.getD 80 undef, ac.tmps.getD 81 undef, ac.tmps.getD 82 undef, ac.tmps.getD 83 undef, ac.tmps.getD 84 undef, ac.tmps.getD 85 undef, ac.tmps.getD 86 undef, ac.tmps.getD 87 undef, ac.tmps.getD 88 undef, ac.tmps.getD 89 undef, ac.tmps.getD 90 undef, ac.tmps.getD 91 undef, ac.tmps.getD 92 undef, ac.tmps.getD 93 undef, ac.tmps.getD 94 undef, ac.tmps.getD 95 undef, ac.tmps.getD 96 undef, ac.tmps.getD 97 undef, ac.tmps.getD 98 undef, ac.tmps.getD 99 undef, ac.tmps.getD 100 undef, ac.tmps.getD 101 undef, ac.tmps.getD 102 undef, ac.tmps.getD 103 undef, ac.tmps.getD 104 undef, ac.tmps.getD 105 undef, ac.tmps.getD 106 undef, ac.tmps.getD 107 undef, ac.tmps.getD 108 undef, ac.tmps.getD 109 undef, ac.tmps.getD 110 undef, ac.tmps.getD 111 undef, ac.tmps.getD 112 undef, ac.tmps.getD 113 undef, ac.tmps.getD 114 undef], []⟩ → Hid (Grown w X) → Hid (Blk b6 (tbl ⟨#[]⟩ (.slice none 0 0) (.int .i64 0) (.slice none 0 0) (.slice none 0 0)) 34 X) → Hid (ColB g l X) → Hid (Blk bt (tbl s0 (.slice (some ⟨g, 0, none⟩) k cap) (.int .i64 (j : Int)) (uv) (fv)) 34 X) → Hid (IsSl fv X) → K ac X)) (ac : Act) (X : World) (ha : ac = ⟨#[.int .i64 n, .slice p zs.length np, ac.tmps.getD 2 undef, ac.tmps.getD 3 undef, ac.tmps.getD 4 undef, ac.tmps.getD 5 undef, .pointer (some ⟨b6, 0, none⟩), .pointer (some ⟨bt, 0, none⟩), .int .i64 (k : Int), ac.tmps.getD 9 undef, ac.tmps.getD 10 undef, ac.tmps.getD 11 undef, ac.tmps.getD 12 undef, ac.tmps.getD 13 undef, ac.tmps.getD 14 undef, ac.tmps.getD 15 undef, ac.tmps.getD 16 undef, ac.tmps.getD 17 undef, ac.tmps.getD 18 undef, ac.tmps.getD 19 undef, ac.tmps.getD 20 undef, ac.tmps.getD 21 undef, ac.tmps.getD 22 undef, ac.tmps.getD 23 undef, ac.tmps.getD 24 undef, ac.tmps.getD 25 undef, ac.tmps.getD 26 undef, ac.tmps.getD 27 undef, ac.tmps.getD 28 undef, ac.tmps.getD 29 undef, ac.tmps.getD 30 undef, ac.tmps.getD 31 undef, ac.tmps.getD 32 undef, ac.tmps.getD 33 undef, ac.tmps.getD 34 undef, ac.tmps.getD 35 undef, ac.tmps.getD 36 undef, ac.tmps.getD 37 undef, ac.tmps.getD 38 undef, ac.tmps.getD 39 undef, ac.tmps.getD 40 undef, ac.tmps.getD 41 undef, ac.tmps.getD 42 undef, ac.tmps.getD 43 undef, ac.tmps.getD 44 undef, ac.tmps.getD 45 undef, ac.tmps.getD 46 undef, ac.tmps.getD 47 undef, ac.tmps.getD 48 undef, ac.tmps.getD 49 undef, ac.tmps.getD 50 undef, ac.tmps.getD 51 undef, ac.tmps.getD 52 undef, ac.tmps.getD 53 undef, ac.tmps.getD 54 undef, ac.tmps.getD 55 undef, ac.tmps.getD 56 undef, ac.tmps.getD 57 undef, ac.tmps.getD 58 undef, ac.tmps.getD 59 undef, ac.tmps.getD 60 undef, ac.tmps.getD 61 undef, ac.tmps.getD 62 undef, ac.tmps.getD 63 undef, ac.tmps.getD 64 undef, ac.tmps.getD 65 undef, ac.tmps.getD 66 undef, ac.tmps.getD 67 undef, ac.tmps.getD 68 undef, ac.tmps.getD 69 undef, ac.tmps.getD 70 undef, ac.tmps.getD 71 undef, ac.tmps.getD 72 undef, ac.tmps.getD 73 undef, ac.tmps.getD 74 undef, ac.tmps.getD 75 undef, ac.tmps.getD 76 undef, ac.tmps.getD 77 undef, ac.tmps.getD 78 undef, ac.tmps.getD 79 undef, ac.tmps.getD 80 undef, ac.tmps.getD 81 undef, ac.tmps.getD 82 undef, ac.tmps.getD 83 undef, ac.tmps.getD 84 undef, ac.tmps.getD 85 undef, ac.tmps.getD 86 undef, ac.tmps.getD 87 undef, ac.tmps.getD 88 undef, ac.tmps.getD 89 undef, ac.tmps.getD 90 undef, ac.tmps.getD 91 undef, ac.tmps.getD 92 undef, ac.tmps.getD 93 undef, ac.tmps.getD 94 undef, ac.tmps.getD 95 undef, ac.tmps.getD 96 undef, ac.tmps.getD 97 undef, ac.tmps.getD 98 undef, ac.tmps.getD 99 undef, ac.tmps.getD 100 undef, ac.tmps.getD 101 undef, ac.tmps.getD 102 undef, ac.tmps.getD 103 undef, ac.tmps.getD 104 undef, ac.tmps.getD 105 undef, ac.tmps.getD 106 undef, ac.tmps.getD 107 undef, ac.tmps.getD 108 undef, ac.tmps.getD 109 undef, ac.tmps.getD 110 undef, ac.tmps.getD 111 undef, ac.tmps.getD 112 undef, ac.tmps.getD 113 undef, ac.tmps.getD 114 undef], []⟩) (G : Hid (Grown w X)) (hZ : Hid (Blk b6 (tbl ⟨#[]⟩ (.slice none 0 0) (.int .i64 0) (.slice none 0 0) (.slice none 0 0)) 34 X)) (hB : Hid (ColB g l X)) (hT : Hid (Blk bt (tbl s0 (.slice (some ⟨g, 0, none⟩) k cap) (.int .i64 (j : Int)) (uv) (.slice none 0 0)) 34 X)) (hn1 : LeN n1 X) : r7.wp Try.prog (Exit.then K Q) ac X := by
  obtain ⟨i0, hi, hz0, hz1, hz2⟩ := infoParts info_link
  obtain ⟨o, rfl⟩ : ∃ o : Nat → Value, ac = ⟨#[.int .i64 n, .slice p zs.length np, o 2, o 3, o 4, o 5, .pointer (some ⟨b6, 0, none⟩), .pointer (some ⟨bt, 0, none⟩), .int .i64 (k : Int), o 9, o 10, o 11, o 12, o 13, o 14, o 15, o 16, o 17, o 18, o 19, o 20, o 21, o 22, o 23, o 24, o 25, o 26, o 27, o 28, o 29, o 30, o 31, o 32, o 33, o 34, o 35, o 36, o 37, o 38, o 39, o 40, o 41, o 42, o 43, o 44, o 45, o 46, o 47, o 48, o 49, o 50, o 51, o 52, o 53, o 54, o 55, o 56, o 57, o 58, o 59, o 60, o 61, o 62, o 63, o 64, o 65, o 66, o 67, o 68, o 69, o 70, o 71, o 72, o 73, o 74, o 75, o 76, o 77, o 78, o 79, o 80, o 81, o 82, o 83, o 84, o 85, o 86, o 87, o 88, o 89, o 90, o 91, o 92, o 93, o 94, o 95, o 96, o 97, o 98, o 99, o 100, o 101, o 102, o 103, o 104, o 105, o 106, o 107, o 108, o 109, o 110, o 111, o 112, o 113, o 114], []⟩ := ⟨fun i => ac.tmps.getD i undef, ha⟩
  clear ha
  unfold Try.f14 at hc
  cases hc
  have e256 : IntKind.i64.wrap (n.tdiv 256) = n.tdiv 256 := IntWalk.i64_in _ (by have := tdiv_bd hn 256 (by decide); unfold Is64 at this; omega)
  go_wp2_with fail
  go_loopw [12] (fun i wr => Hid (∃ (m : Nat) (fv : Value) (us : List Value), m ≤ 3 ∧ i = .int .i64 (m : Int) ∧ Hid (Grown w wr) ∧ Hid (Blk b6 (tbl ⟨#[]⟩ (.slice none 0 0) (.int .i64 0) (.slice none 0 0) (.slice none 0 0)) 34 wr) ∧ Hid (ColB g l wr) ∧ Hid (Blk bt (tbl s0 (.slice (some ⟨g, 0, none⟩) k cap) (.int .i64 (j : Int)) (uv) (fv)) 34 wr) ∧ Hid (OwI n1 fv m us 78 2 wr) ∧ LeN n1 wr)) (fun i _ => 3 - (intOf i).toNat)
  case atStart => exact hide ⟨0, _, [], by decide, rfl, G, hZ, hB, hT, hide (World.ownsRow_nil _ _ _ _), hn1⟩
  case round =>
    clear G hZ hB hT hn1
    obtain ⟨m, fv, us, hm3, rfl, G, hZ, hB, hT, hU, hn1⟩ := unhide hrel
    have e9 : IntKind.i64.wrap ((m : Int) + 1) = (m : Int) + 1 := IntWalk.i64_in _ (by omega)
    by_cases h1 : (m : Int) < q
    · go_wp2_with fail
      refine (unhide CW _).mono ?_
      rintro e wq ⟨rfl, rfl⟩
      go_wp2_with fail
      rename_i K10 hk10
      have REST10 : ∀ (ac : Act) (fv : Value) (us : List Value) (X : World), ac = ⟨#[.int .i64 n, .slice p zs.length np, o 2, o 3, o 4, o 5, .pointer (some ⟨b6, 0, none⟩), .pointer (some ⟨bt, 0, none⟩), .int .i64 (k : Int), o 9, o 10, o 11, .int .i64 (m : Int), o 13, o 14, o 15, o 16, o 17, o 18, o 19, o 20, o 21, o 22, o 23, o 24, o 25, o 26, o 27, o 28, o 29, o 30, o 31, o 32, o 33, o 34, o 35, o 36, o 37, o 38, o 39, o 40, o 41, o 42, o 43, o 44, o 45, o 46, o 47, o 48, o 49, o 50, o 51, o 52, o 53, o 54, o 55, o 56, o 57, o 58, o 59, o 60, o 61, o 62, o 63, o 64, o 65, o 66, o 67, o 68, o 69, o 70, o 71, o 72, o 73, o 74, o 75, o 76, o 77, o 78, o 79, o 80, o 81, o 82, o 83, o 84, o 85, o 86, o 87, o 88, o 89, ac.tmps.getD 90 undef, ac.tmps.getD 91 undef, ac.tmps.getD 92 undef, ac.tmps.getD 93 undef, ac.tmps.getD 94 undef, ac.tmps.getD 95 undef, ac.tmps.getD 96 undef, ac.tmps.getD 97 undef, ac.tmps.getD 98 undef, ac.tmps.getD 99 undef, ac.tmps.getD 100 undef, ac.tmps.getD 101 undef, ac.tmps.getD 102 undef, ac.tmps.getD 103 undef, ac.tmps.getD 104 undef, ac.tmps.getD 105 undef, ac.tmps.getD 106 undef, ac.tmps.getD 107 undef, ac.tmps.getD 108 undef, ac.tmps.getD 109 undef, ac.tmps.getD 110 undef, ac.tmps.getD 111 undef, ac.tmps.getD 112 undef, ac.tmps.getD 113 undef, o 114], []⟩ → Hid (Grown w X) → Hid (Blk b6 (tbl ⟨#[]⟩ (.slice none 0 0) (.int .i64 0) (.slice none 0 0) (.slice none 0 0)) 34 X) → Hid (ColB g l X) → Hid (Blk bt (tbl s0 (.slice (some ⟨g, 0, none⟩) k cap) (.int .i64 (j : Int)) (uv) (fv)) 34 X) → Hid (OwI n1 fv (m + 1) us 78 2 X) → LeN n1 X → K10 ac X := by
        clear G hZ hB hT hU hn1
        intro ac fv us X ha G hZ hB hT hU hn1
        obtain ⟨u, rfl⟩ : ∃ u : Nat → Value, ac = ⟨#[.int .i64 n, .slice p zs.length np, o 2, o 3, o 4, o 5, .pointer (some ⟨b6, 0, none⟩), .pointer (some ⟨bt, 0, none⟩), .int .i64 (k : Int), o 9, o 10, o 11, .int .i64 (m : Int), o 13, o 14, o 15, o 16, o 17, o 18, o 19, o 20, o 21, o 22, o 23, o 24, o 25, o 26, o 27, o 28, o 29, o 30, o 31, o 32, o 33, o 34, o 35, o 36, o 37, o 38, o 39, o 40, o 41, o 42, o 43, o 44, o 45, o 46, o 47, o 48, o 49, o 50, o 51, o 52, o 53, o 54, o 55, o 56, o 57, o 58, o 59, o 60, o 61, o 62, o 63, o 64, o 65, o 66, o 67, o 68, o 69, o 70, o 71, o 72, o 73, o 74, o 75, o 76, o 77, o 78, o 79, o 80, o 81, o 82, o 83, o 84, o 85, o 86, o 87, o 88, o 89, u 90, u 91, u 92, u 93, u 94, u 95, u 96, u 97, u 98, u 99, u 100, u 101, u 102, u 103, u 104, u 105, u 106, u 107, u 108, u 109, u 110, u 111, u 112, u 113, o 114], []⟩ := ⟨fun i => ac.tmps.getD i undef, ha⟩
        clear ha
        refine hk10 _ _ ?_
        clear hk10
        go_wp2_with fail
        go_roundw
        case rel => exact hide ⟨m + 1, fv, us, by omega, by simp, G, hZ, hB, hT, hU, hn1⟩
        case measure => simp [intOf]; omega
      have REST10 := hide REST10
      clear hk10
      refine wp_region_noPanic ?_
      refine wp_region_held_drew (S := (fun _ => True)) (by kernel_rfl) (trivial) (fun hHeld => ?_)
      have hbd : Below wq.heap.size wq wq.drew := (Below.refl _ _).drew
      replace G := hide ((unhide G).call hbd)
      replace hZ := hide ((unhide hZ).call hbd)
      replace hB := hide ((unhide hB).call hbd)
      replace hT := hide ((unhide hT).call hbd)
      replace hU := hide ((unhide hU).call hbd)
      replace hn1 := hn1.call hbd
      clear hbd
      generalize wq.drew = Wd at *
      refine wpAnyH_take (i := 0) (oi := ?oi20028) (v := ?v20028) ?hi20028 (by kernel_rfl) (by kernel_rfl) (by kernel_rfl) (fun _ _ _ h => h) (Or.inl ⟨?hw20028, ?hy20028⟩) (by assumption) ?rest20028
      case hi20028 => (simp only [List.getElem?_toArray, List.getElem?_cons_zero]; rfl)
      case hw20028 => rfl
      case hy20028 => first | (intro wx hSw; go_simp; done) | (intro wx hSw; go_simp; with_reducible rfl)
      simp only [Act.put, List.setIfInBounds_toArray, List.set_cons_zero, List.set_cons_succ]
      refine wpAnyH_take (i := 2) (oi := ?oi20029) (v := ?v20029) ?hi20029 (by kernel_rfl) (by kernel_rfl) (by kernel_rfl) (fun _ _ _ h => h) (Or.inl ⟨?hw20029, ?hy20029⟩) (by assumption) ?rest20029
      case hi20029 => (simp only [List.getElem?_toArray, List.getElem?_cons_zero, List.getElem?_cons_succ]; rfl)
      case hw20029 => rfl
      case hy20029 => first | (intro wx hSw; go_simp; done) | (intro wx hSw; go_simp; with_reducible rfl)
      simp only [Act.put, List.setIfInBounds_toArray, List.set_cons_zero, List.set_cons_succ]
      refine wpAnyH_take (i := 3) (oi := ?oi20030) (v := ?v20030) ?hi20030 (by kernel_rfl) (by kernel_rfl) (by kernel_rfl) (fun _ _ _ h => h) (Or.inl ⟨?hw20030, ?hy20030⟩) (by assumption) ?rest20030
      case hi20030 => (simp only [List.getElem?_toArray, List.getElem?_cons_zero, List.getElem?_cons_succ]; rfl)
      case hw20030 => rfl
      case hy20030 => first | (intro wx hSw; go_simp; done) | (intro wx hSw; go_simp; with_reducible rfl)
      simp only [Act.put, List.setIfInBounds_toArray, List.set_cons_zero, List.set_cons_succ]
      refine wpAnyH_take (i := 4) (oi := ?oi20031) (v := ?v20031) ?hi20031 (by kernel_rfl) (by kernel_rfl) (by kernel_rfl) (fun _ _ _ h => h) (Or.inl ⟨?hw20031, ?hy20031⟩) (by assumption) ?rest20031
      case hi20031 => (simp only [List.getElem?_toArray, List.getElem?_cons_zero, List.getElem?_cons_succ]; rfl)
      case hw20031 => rfl
      case hy20031 => first | (intro wx hSw; go_simp; done) | (intro wx hSw; go_simp; with_reducible rfl)
      simp only [Act.put, List.setIfInBounds_toArray, List.set_cons_zero, List.set_cons_succ]
      refine wpAnyH_take (i := 5) (oi := ?oi20032) (v := ?v20032) ?hi20032 (by kernel_rfl) (by kernel_rfl) (by kernel_rfl) (fun _ _ _ h => h) (Or.inl ⟨?hw20032, ?hy20032⟩) (by assumption) ?rest20032
      case hi20032 => (simp only [List.getElem?_toArray, List.getElem?_cons_zero, List.getElem?_cons_succ]; rfl)
      case hw20032 => rfl
      case hy20032 => first | (intro wx hSw; go_simp; done) | (intro wx hSw; go_simp; with_reducible rfl)
      simp only [Act.put, List.setIfInBounds_toArray, List.set_cons_zero, List.set_cons_succ]
      refine wpAnyH_take (i := 6) (oi := ?oi20033) (v := ?v20033) ?hi20033 (by kernel_rfl) (by kernel_rfl) (by kernel_rfl) (fun _ _ _ h => h) (Or.inl ⟨?hw20033, ?hy20033⟩) (by assumption) ?rest20033
      case hi20033 => (simp only [List.getElem?_toArray, List.getElem?_cons_zero, List.getElem?_cons_succ]; rfl)
      case hw20033 => rfl
      case hy20033 => first | (intro wx hSw; go_simp; done) | (intro wx hSw; go_simp; with_reducible rfl)
      simp only [Act.put, List.setIfInBounds_toArray, List.set_cons_zero, List.set_cons_succ]
      refine wpAnyH_take (i := 8) (oi := ?oi20034) (v := ?v20034) ?hi20034 (by kernel_rfl) (by kernel_rfl) (by kernel_rfl) (fun _ _ _ h => h) (Or.inl ⟨?hw20034, ?hy20034⟩) (by assumption) ?rest20034
      case hi20034 => (simp only [List.getElem?_toArray, List.getElem?_cons_zero, List.getElem?_cons_succ]; rfl)
      case hw20034 => rfl
      case hy20034 => first | (intro wx hSw; go_simp; done) | (intro wx hSw; go_simp; with_reducible rfl)
      simp only [Act.put, List.setIfInBounds_toArray, List.set_cons_zero, List.set_cons_succ]
      refine wpAnyH_take (i := 9) (oi := ?oi20035) (v := ?v20035) ?hi20035 (by kernel_rfl) (by kernel_rfl) (by kernel_rfl) (fun _ _ _ h => h) (Or.inl ⟨?hw20035, ?hy20035⟩) (by assumption) ?rest20035
      case hi20035 => (simp only [List.getElem?_toArray, List.getElem?_cons_zero, List.getElem?_cons_succ]; rfl)
      case hw20035 => rfl
      case hy20035 => first | (intro wx hSw; go_simp; done) | (intro wx hSw; go_simp; with_reducible rfl)
      simp only [Act.put, List.setIfInBounds_toArray, List.set_cons_zero, List.set_cons_succ]
      refine wpAnyH_take (i := 10) (oi := ?oi20036) (v := ?v20036) ?hi20036 (by kernel_rfl) (by kernel_rfl) (by kernel_rfl) (fun _ _ _ h => h) (Or.inl ⟨?hw20036, ?hy20036⟩) (by assumption) ?rest20036
      case hi20036 => (simp only [List.getElem?_toArray, List.getElem?_cons_zero, List.getElem?_cons_succ]; rfl)
      case hw20036 => rfl
      case hy20036 => first | (intro wx hSw; go_simp; done) | (intro wx hSw; go_simp; with_reducible rfl)
      simp only [Act.put, List.setIfInBounds_toArray, List.set_cons_zero, List.set_cons_succ]
      refine wpAnyH_take (i := 11) (oi := ?oi20037) (v := ?v20037) ?hi20037 (by kernel_rfl) (by kernel_rfl) (by kernel_rfl) (fun _ _ _ h => h) (Or.inl ⟨?hw20037, ?hy20037⟩) (by assumption) ?rest20037
      case hi20037 => (simp only [List.getElem?_toArray, List.getElem?_cons_zero, List.getElem?_cons_succ]; rfl)
      case hw20037 => rfl
      case hy20037 => first | (intro wx hSw; go_simp; done) | (intro wx hSw; go_simp; with_reducible rfl)
      simp only [Act.put, List.setIfInBounds_toArray, List.set_cons_zero, List.set_cons_succ]
      have hx1 : Is64 (IntKind.i64.wrap (IntKind.i64.wrap (n.tdiv 512) + (m : Int))) := IntWalk.i64_left _ ▸ wrap64_bd _
      have hx2 : Is64 (IntKind.i64.wrap (IntKind.i64.wrap (n.tdiv 1024) + (m : Int))) := IntWalk.i64_left _ ▸ wrap64_bd _
      generalize IntKind.i64.wrap (IntKind.i64.wrap (n.tdiv 512) + (m : Int)) = x1 at *
      generalize IntKind.i64.wrap (IntKind.i64.wrap (n.tdiv 1024) + (m : Int)) = x2 at *
      have lt_ := (unhide hT).lt
      have t1 := (unhide hT).cell 11
      have t2 := (unhide hT).cell 2
      simp at t1 t2
      refine wpAnyH_ready (rs := [1, 7]) (by kernel_rfl) (by simp) ?_
      refine AllReadyH.cons rfl (fun K20038 hK20038 => ?_) ?_
      · go_simp
        refine hK20038.out _ _ ?hs20038 (fun hHeld20038 => ?_)
        case hs20038 => exact trivial
        clear hHeld
        have hHeld := hHeld20038; clear hHeld20038 hK20038 K20038
        refine wpAnyH_ready (rs := [7]) (by kernel_rfl) (by simp) ?_
        refine AllReadyH.cons rfl (fun K20039 hK20039 => ?_) AllReadyH.nil
        go_simp
        go_wp2_with (go_at_call 34; refine (within3_any x1 (k : Int) _ hx1 (by omega)).mono ?_; rintro e X9 ⟨rfl, rfl⟩)
        refine hK20039.out _ _ ?hs20039 (fun hHeld20039 => ?_)
        case hs20039 => exact trivial
        clear hHeld
        have hHeld := hHeld20039; clear hHeld20039 hK20039 K20039
        generalize x1 % (k : Int) = lc at *
        refine wpAnyH_ready (rs := [12]) (by kernel_rfl) (by simp) ?_
        refine AllReadyH.cons rfl (fun K20040 hK20040 => ?_) AllReadyH.nil
        go_simp
        go_wp2_with (go_at_call 33; refine (nameL_any x2 _ hx2).mono ?_; rintro e X2 ⟨nm, rfl, hb⟩)
        refine hK20040.out _ _ ?hs20040 (fun hHeld20040 => ?_)
        case hs20040 => exact trivial
        clear hHeld
        have hHeld := hHeld20040; clear hHeld20040 hK20040 K20040
        replace G := hide ((unhide G).call hb)
        replace hZ := hide ((unhide hZ).call hb)
        replace hB := hide ((unhide hB).call hb)
        replace hT := hide ((unhide hT).call hb)
        replace hU := hide ((unhide hU).call hb)
        replace hn1 := hn1.call hb
        clear hb lt_ t1 t2
        have lt_ := (unhide hT).lt
        have t1 := (unhide hT).cell 11
        have t2 := (unhide hT).cell 2
        simp at t1 t2
        refine wpAnyH_take (i := 13) (oi := ?oi20041) (v := ?v20041) ?hi20041 (by kernel_rfl) (by kernel_rfl) (by kernel_rfl) (fun _ _ _ h => h) (Or.inl ⟨?hw20041, ?hy20041⟩) (by assumption) ?rest20041
        case hi20041 => (simp only [List.getElem?_toArray, List.getElem?_cons_zero, List.getElem?_cons_succ]; rfl)
        case hw20041 => rfl
        case hy20041 => first | (intro wx hSw; go_simp; done) | (intro wx hSw; go_simp; with_reducible rfl)
        simp only [Act.put, List.setIfInBounds_toArray, List.set_cons_zero, List.set_cons_succ]
        refine wpAnyH_ready (rs := [14]) (by kernel_rfl) (by simp) ?_
        refine AllReadyH.cons rfl (fun K20042 hK20042 => ?_) AllReadyH.nil
        go_simp
        have hb := below_new X2 (.cells #[.int .i64 lc, .string nm] 78)
        have hs3 := cells_two_at X2 _ rfl (.int .i64 lc) (.string nm) 78
        refine hK20042.out _ _ ?hs20042 (fun hHeld20042 => ?_)
        case hs20042 => exact trivial
        clear hHeld
        have hHeld := hHeld20042; clear hHeld20042 hK20042 K20042
        replace G := hide ((unhide G).call hb)
        replace hZ := hide ((unhide hZ).call hb)
        replace hB := hide ((unhide hB).call hb)
        replace hT := hide ((unhide hT).call hb)
        replace hU := hide ((unhide hU).call hb)
        replace hn1 := hn1.call hb
        clear lt_ t1 t2
        generalize hgs : X2.heap.size = gs at *
        generalize hXs : X2.alloc (.cells #[.int .i64 lc, .string nm] 78) = X3 at *
        clear hXs hgs hb
        have lt_ := (unhide hT).lt
        have t1 := (unhide hT).cell 11
        have t2 := (unhide hT).cell 2
        simp at t1 t2
        refine wpAnyH_ready (rs := [15]) (by kernel_rfl) (by simp) ?_
        refine AllReadyH.cons rfl (fun K20043 hK20043 => ?_) AllReadyH.nil
        refine step_append_lies _ rfl _ _ 32 rfl n1 78 i0 _ 2 24 Try.underlying32 hi hz0 hz1 hz2 rfl (by decide) fv _ _ rfl (unhide hU) ⟨gs, 0, none⟩ 1 1 [.int .i64 lc, .string nm] rfl rfl hs3 (by simp [Value.oneCell']) (by decide) (by unfold maxLen; omega) (by omega) hn1 _ rfl ?_
        intro g2 cp2 w4 hown4 hgrow4 hat4 hlt4
        have hB4 : Below n1 X3 w4 := Below.grown (Below.refl _ _) hgrow4 hn1 (fun j e => by rcases (unhide hU).2 with ⟨rfl, _⟩ | ⟨g', cap', cur', rfl, hge', _⟩ <;> simp [Value.ownBlock] at e; omega)
        refine hK20043.out _ _ ?hs20043 (fun hHeld20043 => ?_)
        case hs20043 => exact trivial
        clear hHeld
        have hHeld := hHeld20043; clear hHeld20043 hK20043 K20043
        have hw0 : w.heap.size ≤ n1 := by omega
        have T4_ := hide (blk_base (unhide hT) hB4 ht1)
        have lt4 := (unhide T4_).lt
        have q1 := (unhide T4_).cell 11
        have f1 := (unhide T4_).froz 11
        simp at q1
        have G5 : Hid (Grown w (w4.setCell ⟨bt, 11, none⟩ (.slice (some ⟨g2, 0, none⟩) (m + 1) cp2))) := hide (Below.setCell (Below.trans (unhide G) (hB4.mono hw0)) (p := ⟨bt, 11, none⟩) hwt _)
        have Z5 := hide (Blk.set (blk_base (unhide hZ) hB4 hb1) h6t 11 (.slice (some ⟨g2, 0, none⟩) (m + 1) cp2))
        have B5 := hide (((unhide hB).base hB4 hg1).far hgt 11 (.slice (some ⟨g2, 0, none⟩) (m + 1) cp2))
        have T5 : Hid (Blk bt (tbl s0 (.slice (some ⟨g, 0, none⟩) k cap) (.int .i64 (j : Int)) (uv) ((.slice (some ⟨g2, 0, none⟩) (m + 1) cp2))) 34 (w4.setCell ⟨bt, 11, none⟩ (.slice (some ⟨g2, 0, none⟩) (m + 1) cp2))) := hide (heapSet (unhide T4_) 11 (.slice (some ⟨g2, 0, none⟩) (m + 1) cp2))
        have O5 := hide (owns_set (b := bt) hown4 ht1 11 (.slice (some ⟨g2, 0, none⟩) (m + 1) cp2))
        have N5 : LeN n1 (w4.setCell ⟨bt, 11, none⟩ (.slice (some ⟨g2, 0, none⟩) (m + 1) cp2)) := by have h1 := Nat.le_trans hn1 hB4.size; unfold LeN; simpa using h1
        refine wpAnyH_take (i := 16) (oi := ?oi20044) (v := ?v20044) ?hi20044 (by kernel_rfl) (by kernel_rfl) (by kernel_rfl) (fun _ _ _ h => h) (Or.inl ⟨?hw20044, ?hy20044⟩) (by assumption) ?rest20044
        case hi20044 => (simp only [List.getElem?_toArray, List.getElem?_cons_zero, List.getElem?_cons_succ]; rfl)
        case hw20044 => rfl
        case hy20044 => first | (intro wx hSw; go_simp; done) | (intro wx hSw; go_simp; with_reducible rfl)
        simp only [Act.put, List.setIfInBounds_toArray, List.set_cons_zero, List.set_cons_succ]
        refine wpAnyH_ready (rs := [17]) (by kernel_rfl) (by simp) ?_
        refine AllReadyH.cons rfl (fun K20045 hK20045 => ?_) AllReadyH.nil
        go_simp
        refine hK20045.out _ _ ?hs20045 (fun hHeld20045 => ?_)
        case hs20045 => exact trivial
        clear hHeld
        have hHeld := hHeld20045; clear hHeld20045 hK20045 K20045
        refine wpAnyH_done (by kernel_rfl) ?_ _
        refine NoPanic.normal ?_
        skip
        exact unhide REST10 _ _ _ _ (by kernel_rfl) G5 Z5 B5 T5 O5 N5
      refine AllReadyH.cons rfl (fun K20046 hK20046 => ?_) AllReadyH.nil
      · go_simp
        go_wp2_with (go_at_call 34; refine (within3_any x1 (k : Int) _ hx1 (by omega)).mono ?_; rintro e X9 ⟨rfl, rfl⟩)
        refine hK20046.out _ _ ?hs20046 (fun hHeld20046 => ?_)
        case hs20046 => exact trivial
        clear hHeld
        have hHeld := hHeld20046; clear hHeld20046 hK20046 K20046
        generalize x1 % (k : Int) = lc at *
        refine wpAnyH_ready (rs := [1, 12]) (by kernel_rfl) (by simp) ?_
        refine AllReadyH.cons rfl (fun K20047 hK20047 => ?_) ?_
        · go_simp
          refine hK20047.out _ _ ?hs20047 (fun hHeld20047 => ?_)
          case hs20047 => exact trivial
          clear hHeld
          have hHeld := hHeld20047; clear hHeld20047 hK20047 K20047
          refine wpAnyH_ready (rs := [12]) (by kernel_rfl) (by simp) ?_
          refine AllReadyH.cons rfl (fun K20048 hK20048 => ?_) AllReadyH.nil
          go_simp
          go_wp2_with (go_at_call 33; refine (nameL_any x2 _ hx2).mono ?_; rintro e X2 ⟨nm, rfl, hb⟩)
          refine hK20048.out _ _ ?hs20048 (fun hHeld20048 => ?_)
          case hs20048 => exact trivial
          clear hHeld
          have hHeld := hHeld20048; clear hHeld20048 hK20048 K20048
          replace G := hide ((unhide G).call hb)
          replace hZ := hide ((unhide hZ).call hb)
          replace hB := hide ((unhide hB).call hb)
          replace hT := hide ((unhide hT).call hb)
          replace hU := hide ((unhide hU).call hb)
          replace hn1 := hn1.call hb
          clear hb lt_ t1 t2
          have lt_ := (unhide hT).lt
          have t1 := (unhide hT).cell 11
          have t2 := (unhide hT).cell 2
          simp at t1 t2
          refine wpAnyH_take (i := 13) (oi := ?oi20049) (v := ?v20049) ?hi20049 (by kernel_rfl) (by kernel_rfl) (by kernel_rfl) (fun _ _ _ h => h) (Or.inl ⟨?hw20049, ?hy20049⟩) (by assumption) ?rest20049
          case hi20049 => (simp only [List.getElem?_toArray, List.getElem?_cons_zero, List.getElem?_cons_succ]; rfl)
          case hw20049 => rfl
          case hy20049 => first | (intro wx hSw; go_simp; done) | (intro wx hSw; go_simp; with_reducible rfl)
          simp only [Act.put, List.setIfInBounds_toArray, List.set_cons_zero, List.set_cons_succ]
          refine wpAnyH_ready (rs := [14]) (by kernel_rfl) (by simp) ?_
          refine AllReadyH.cons rfl (fun K20050 hK20050 => ?_) AllReadyH.nil
          go_simp
          have hb := below_new X2 (.cells #[.int .i64 lc, .string nm] 78)
          have hs3 := cells_two_at X2 _ rfl (.int .i64 lc) (.string nm) 78
          refine hK20050.out _ _ ?hs20050 (fun hHeld20050 => ?_)
          case hs20050 => exact trivial
          clear hHeld
          have hHeld := hHeld20050; clear hHeld20050 hK20050 K20050
          replace G := hide ((unhide G).call hb)
          replace hZ := hide ((unhide hZ).call hb)
          replace hB := hide ((unhide hB).call hb)
          replace hT := hide ((unhide hT).call hb)
          replace hU := hide ((unhide hU).call hb)
          replace hn1 := hn1.call hb
          clear lt_ t1 t2
          generalize hgs : X2.heap.size = gs at *
          generalize hXs : X2.alloc (.cells #[.int .i64 lc, .string nm] 78) = X3 at *
          clear hXs hgs hb
          have lt_ := (unhide hT).lt
          have t1 := (unhide hT).cell 11
          have t2 := (unhide hT).cell 2
          simp at t1 t2
          refine wpAnyH_ready (rs := [15]) (by kernel_rfl) (by simp) ?_
          refine AllReadyH.cons rfl (fun K20051 hK20051 => ?_) AllReadyH.nil
          refine step_append_lies _ rfl _ _ 32 rfl n1 78 i0 _ 2 24 Try.underlying32 hi hz0 hz1 hz2 rfl (by decide) fv _ _ rfl (unhide hU) ⟨gs, 0, none⟩ 1 1 [.int .i64 lc, .string nm] rfl rfl hs3 (by simp [Value.oneCell']) (by decide) (by unfold maxLen; omega) (by omega) hn1 _ rfl ?_
          intro g2 cp2 w4 hown4 hgrow4 hat4 hlt4
          have hB4 : Below n1 X3 w4 := Below.grown (Below.refl _ _) hgrow4 hn1 (fun j e => by rcases (unhide hU).2 with ⟨rfl, _⟩ | ⟨g', cap', cur', rfl, hge', _⟩ <;> simp [Value.ownBlock] at e; omega)
          refine hK20051.out _ _ ?hs20051 (fun hHeld20051 => ?_)
          case hs20051 => exact trivial
          clear hHeld
          have hHeld := hHeld20051; clear hHeld20051 hK20051 K20051
          have hw0 : w.heap.size ≤ n1 := by omega
          have T4_ := hide (blk_base (unhide hT) hB4 ht1)
          have lt4 := (unhide T4_).lt
          have q1 := (unhide T4_).cell 11
          have f1 := (unhide T4_).froz 11
          simp at q1
          have G5 : Hid (Grown w (w4.setCell ⟨bt, 11, none⟩ (.slice (some ⟨g2, 0, none⟩) (m + 1) cp2))) := hide (Below.setCell (Below.trans (unhide G) (hB4.mono hw0)) (p := ⟨bt, 11, none⟩) hwt _)
          have Z5 := hide (Blk.set (blk_base (unhide hZ) hB4 hb1) h6t 11 (.slice (some ⟨g2, 0, none⟩) (m + 1) cp2))
          have B5 := hide (((unhide hB).base hB4 hg1).far hgt 11 (.slice (some ⟨g2, 0, none⟩) (m + 1) cp2))
          have T5 : Hid (Blk bt (tbl s0 (.slice (some ⟨g, 0, none⟩) k cap) (.int .i64 (j : Int)) (uv) ((.slice (some ⟨g2, 0, none⟩) (m + 1) cp2))) 34 (w4.setCell ⟨bt, 11, none⟩ (.slice (some ⟨g2, 0, none⟩) (m + 1) cp2))) := hide (heapSet (unhide T4_) 11 (.slice (some ⟨g2, 0, none⟩) (m + 1) cp2))
          have O5 := hide (owns_set (b := bt) hown4 ht1 11 (.slice (some ⟨g2, 0, none⟩) (m + 1) cp2))
          have N5 : LeN n1 (w4.setCell ⟨bt, 11, none⟩ (.slice (some ⟨g2, 0, none⟩) (m + 1) cp2)) := by have h1 := Nat.le_trans hn1 hB4.size; unfold LeN; simpa using h1
          refine wpAnyH_take (i := 16) (oi := ?oi20052) (v := ?v20052) ?hi20052 (by kernel_rfl) (by kernel_rfl) (by kernel_rfl) (fun _ _ _ h => h) (Or.inl ⟨?hw20052, ?hy20052⟩) (by assumption) ?rest20052
          case hi20052 => (simp only [List.getElem?_toArray, List.getElem?_cons_zero, List.getElem?_cons_succ]; rfl)
          case hw20052 => rfl
          case hy20052 => first | (intro wx hSw; go_simp; done) | (intro wx hSw; go_simp; with_reducible rfl)
          simp only [Act.put, List.setIfInBounds_toArray, List.set_cons_zero, List.set_cons_succ]
          refine wpAnyH_ready (rs := [17]) (by kernel_rfl) (by simp) ?_
          refine AllReadyH.cons rfl (fun K20053 hK20053 => ?_) AllReadyH.nil
          go_simp
          refine hK20053.out _ _ ?hs20053 (fun hHeld20053 => ?_)
          case hs20053 => exact trivial
          clear hHeld
          have hHeld := hHeld20053; clear hHeld20053 hK20053 K20053
          refine wpAnyH_done (by kernel_rfl) ?_ _
          refine NoPanic.normal ?_
          skip
          exact unhide REST10 _ _ _ _ (by kernel_rfl) G5 Z5 B5 T5 O5 N5
        refine AllReadyH.cons rfl (fun K20054 hK20054 => ?_) AllReadyH.nil
        · go_simp
          go_wp2_with (go_at_call 33; refine (nameL_any x2 _ hx2).mono ?_; rintro e X2 ⟨nm, rfl, hb⟩)
          refine hK20054.out _ _ ?hs20054 (fun hHeld20054 => ?_)
          case hs20054 => exact trivial
          clear hHeld
          have hHeld := hHeld20054; clear hHeld20054 hK20054 K20054
          replace G := hide ((unhide G).call hb)
          replace hZ := hide ((unhide hZ).call hb)
          replace hB := hide ((unhide hB).call hb)
          replace hT := hide ((unhide hT).call hb)
          replace hU := hide ((unhide hU).call hb)
          replace hn1 := hn1.call hb
          clear hb lt_ t1 t2
          have lt_ := (unhide hT).lt
          have t1 := (unhide hT).cell 11
          have t2 := (unhide hT).cell 2
          simp at t1 t2
          refine wpAnyH_take (i := 13) (oi := ?oi20055) (v := ?v20055) ?hi20055 (by kernel_rfl) (by kernel_rfl) (by kernel_rfl) (fun _ _ _ h => h) (Or.inl ⟨?hw20055, ?hy20055⟩) (by assumption) ?rest20055
          case hi20055 => (simp only [List.getElem?_toArray, List.getElem?_cons_zero, List.getElem?_cons_succ]; rfl)
          case hw20055 => rfl
          case hy20055 => first | (intro wx hSw; go_simp; done) | (intro wx hSw; go_simp; with_reducible rfl)
          simp only [Act.put, List.setIfInBounds_toArray, List.set_cons_zero, List.set_cons_succ]
          refine wpAnyH_ready (rs := [1, 14]) (by kernel_rfl) (by simp) ?_
          refine AllReadyH.cons rfl (fun K20056 hK20056 => ?_) ?_
          · go_simp
            refine hK20056.out _ _ ?hs20056 (fun hHeld20056 => ?_)
            case hs20056 => exact trivial
            clear hHeld
            have hHeld := hHeld20056; clear hHeld20056 hK20056 K20056
            refine wpAnyH_ready (rs := [14]) (by kernel_rfl) (by simp) ?_
            refine AllReadyH.cons rfl (fun K20057 hK20057 => ?_) AllReadyH.nil
            go_simp
            have hb := below_new X2 (.cells #[.int .i64 lc, .string nm] 78)
            have hs3 := cells_two_at X2 _ rfl (.int .i64 lc) (.string nm) 78
            refine hK20057.out _ _ ?hs20057 (fun hHeld20057 => ?_)
            case hs20057 => exact trivial
            clear hHeld
            have hHeld := hHeld20057; clear hHeld20057 hK20057 K20057
            replace G := hide ((unhide G).call hb)
            replace hZ := hide ((unhide hZ).call hb)
            replace hB := hide ((unhide hB).call hb)
            replace hT := hide ((unhide hT).call hb)
            replace hU := hide ((unhide hU).call hb)
            replace hn1 := hn1.call hb
            clear lt_ t1 t2
            generalize hgs : X2.heap.size = gs at *
            generalize hXs : X2.alloc (.cells #[.int .i64 lc, .string nm] 78) = X3 at *
            clear hXs hgs hb
            have lt_ := (unhide hT).lt
            have t1 := (unhide hT).cell 11
            have t2 := (unhide hT).cell 2
            simp at t1 t2
            refine wpAnyH_ready (rs := [15]) (by kernel_rfl) (by simp) ?_
            refine AllReadyH.cons rfl (fun K20058 hK20058 => ?_) AllReadyH.nil
            refine step_append_lies _ rfl _ _ 32 rfl n1 78 i0 _ 2 24 Try.underlying32 hi hz0 hz1 hz2 rfl (by decide) fv _ _ rfl (unhide hU) ⟨gs, 0, none⟩ 1 1 [.int .i64 lc, .string nm] rfl rfl hs3 (by simp [Value.oneCell']) (by decide) (by unfold maxLen; omega) (by omega) hn1 _ rfl ?_
            intro g2 cp2 w4 hown4 hgrow4 hat4 hlt4
            have hB4 : Below n1 X3 w4 := Below.grown (Below.refl _ _) hgrow4 hn1 (fun j e => by rcases (unhide hU).2 with ⟨rfl, _⟩ | ⟨g', cap', cur', rfl, hge', _⟩ <;> simp [Value.ownBlock] at e; omega)
            refine hK20058.out _ _ ?hs20058 (fun hHeld20058 => ?_)
            case hs20058 => exact trivial
            clear hHeld
            have hHeld := hHeld20058; clear hHeld20058 hK20058 K20058
            have hw0 : w.heap.size ≤ n1 := by omega
            have T4_ := hide (blk_base (unhide hT) hB4 ht1)
            have lt4 := (unhide T4_).lt
            have q1 := (unhide T4_).cell 11
            have f1 := (unhide T4_).froz 11
            simp at q1
            have G5 : Hid (Grown w (w4.setCell ⟨bt, 11, none⟩ (.slice (some ⟨g2, 0, none⟩) (m + 1) cp2))) := hide (Below.setCell (Below.trans (unhide G) (hB4.mono hw0)) (p := ⟨bt, 11, none⟩) hwt _)
            have Z5 := hide (Blk.set (blk_base (unhide hZ) hB4 hb1) h6t 11 (.slice (some ⟨g2, 0, none⟩) (m + 1) cp2))
            have B5 := hide (((unhide hB).base hB4 hg1).far hgt 11 (.slice (some ⟨g2, 0, none⟩) (m + 1) cp2))
            have T5 : Hid (Blk bt (tbl s0 (.slice (some ⟨g, 0, none⟩) k cap) (.int .i64 (j : Int)) (uv) ((.slice (some ⟨g2, 0, none⟩) (m + 1) cp2))) 34 (w4.setCell ⟨bt, 11, none⟩ (.slice (some ⟨g2, 0, none⟩) (m + 1) cp2))) := hide (heapSet (unhide T4_) 11 (.slice (some ⟨g2, 0, none⟩) (m + 1) cp2))
            have O5 := hide (owns_set (b := bt) hown4 ht1 11 (.slice (some ⟨g2, 0, none⟩) (m + 1) cp2))
            have N5 : LeN n1 (w4.setCell ⟨bt, 11, none⟩ (.slice (some ⟨g2, 0, none⟩) (m + 1) cp2)) := by have h1 := Nat.le_trans hn1 hB4.size; unfold LeN; simpa using h1
            refine wpAnyH_take (i := 16) (oi := ?oi20059) (v := ?v20059) ?hi20059 (by kernel_rfl) (by kernel_rfl) (by kernel_rfl) (fun _ _ _ h => h) (Or.inl ⟨?hw20059, ?hy20059⟩) (by assumption) ?rest20059
            case hi20059 => (simp only [List.getElem?_toArray, List.getElem?_cons_zero, List.getElem?_cons_succ]; rfl)
            case hw20059 => rfl
            case hy20059 => first | (intro wx hSw; go_simp; done) | (intro wx hSw; go_simp; with_reducible rfl)
            simp only [Act.put, List.setIfInBounds_toArray, List.set_cons_zero, List.set_cons_succ]
            refine wpAnyH_ready (rs := [17]) (by kernel_rfl) (by simp) ?_
            refine AllReadyH.cons rfl (fun K20060 hK20060 => ?_) AllReadyH.nil
            go_simp
            refine hK20060.out _ _ ?hs20060 (fun hHeld20060 => ?_)
            case hs20060 => exact trivial
            clear hHeld
            have hHeld := hHeld20060; clear hHeld20060 hK20060 K20060
            refine wpAnyH_done (by kernel_rfl) ?_ _
            refine NoPanic.normal ?_
            skip
            exact unhide REST10 _ _ _ _ (by kernel_rfl) G5 Z5 B5 T5 O5 N5
          refine AllReadyH.cons rfl (fun K20061 hK20061 => ?_) AllReadyH.nil
          · go_simp
            have hb := below_new X2 (.cells #[.int .i64 lc, .string nm] 78)
            have hs3 := cells_two_at X2 _ rfl (.int .i64 lc) (.string nm) 78
            refine hK20061.out _ _ ?hs20061 (fun hHeld20061 => ?_)
            case hs20061 => exact trivial
            clear hHeld
            have hHeld := hHeld20061; clear hHeld20061 hK20061 K20061
            replace G := hide ((unhide G).call hb)
            replace hZ := hide ((unhide hZ).call hb)
            replace hB := hide ((unhide hB).call hb)
            replace hT := hide ((unhide hT).call hb)
            replace hU := hide ((unhide hU).call hb)
            replace hn1 := hn1.call hb
            clear lt_ t1 t2
            generalize hgs : X2.heap.size = gs at *
            generalize hXs : X2.alloc (.cells #[.int .i64 lc, .string nm] 78) = X3 at *
            clear hXs hgs hb
            have lt_ := (unhide hT).lt
            have t1 := (unhide hT).cell 11
            have t2 := (unhide hT).cell 2
            simp at t1 t2
            refine wpAnyH_ready (rs := [1]) (by kernel_rfl) (by simp) ?_
            refine AllReadyH.cons rfl (fun K20062 hK20062 => ?_) AllReadyH.nil
            go_simp
            refine hK20062.out _ _ ?hs20062 (fun hHeld20062 => ?_)
            case hs20062 => exact trivial
            clear hHeld
            have hHeld := hHeld20062; clear hHeld20062 hK20062 K20062
            refine wpAnyH_ready (rs := [15]) (by kernel_rfl) (by simp) ?_
            refine AllReadyH.cons rfl (fun K20063 hK20063 => ?_) AllReadyH.nil
            refine step_append_lies _ rfl _ _ 32 rfl n1 78 i0 _ 2 24 Try.underlying32 hi hz0 hz1 hz2 rfl (by decide) fv _ _ rfl (unhide hU) ⟨gs, 0, none⟩ 1 1 [.int .i64 lc, .string nm] rfl rfl hs3 (by simp [Value.oneCell']) (by decide) (by unfold maxLen; omega) (by omega) hn1 _ rfl ?_
            intro g2 cp2 w4 hown4 hgrow4 hat4 hlt4
            have hB4 : Below n1 X3 w4 := Below.grown (Below.refl _ _) hgrow4 hn1 (fun j e => by rcases (unhide hU).2 with ⟨rfl, _⟩ | ⟨g', cap', cur', rfl, hge', _⟩ <;> simp [Value.ownBlock] at e; omega)
            refine hK20063.out _ _ ?hs20063 (fun hHeld20063 => ?_)
            case hs20063 => exact trivial
            clear hHeld
            have hHeld := hHeld20063; clear hHeld20063 hK20063 K20063
            have hw0 : w.heap.size ≤ n1 := by omega
            have T4_ := hide (blk_base (unhide hT) hB4 ht1)
            have lt4 := (unhide T4_).lt
            have q1 := (unhide T4_).cell 11
            have f1 := (unhide T4_).froz 11
            simp at q1
            have G5 : Hid (Grown w (w4.setCell ⟨bt, 11, none⟩ (.slice (some ⟨g2, 0, none⟩) (m + 1) cp2))) := hide (Below.setCell (Below.trans (unhide G) (hB4.mono hw0)) (p := ⟨bt, 11, none⟩) hwt _)
            have Z5 := hide (Blk.set (blk_base (unhide hZ) hB4 hb1) h6t 11 (.slice (some ⟨g2, 0, none⟩) (m + 1) cp2))
            have B5 := hide (((unhide hB).base hB4 hg1).far hgt 11 (.slice (some ⟨g2, 0, none⟩) (m + 1) cp2))
            have T5 : Hid (Blk bt (tbl s0 (.slice (some ⟨g, 0, none⟩) k cap) (.int .i64 (j : Int)) (uv) ((.slice (some ⟨g2, 0, none⟩) (m + 1) cp2))) 34 (w4.setCell ⟨bt, 11, none⟩ (.slice (some ⟨g2, 0, none⟩) (m + 1) cp2))) := hide (heapSet (unhide T4_) 11 (.slice (some ⟨g2, 0, none⟩) (m + 1) cp2))
            have O5 := hide (owns_set (b := bt) hown4 ht1 11 (.slice (some ⟨g2, 0, none⟩) (m + 1) cp2))
            have N5 : LeN n1 (w4.setCell ⟨bt, 11, none⟩ (.slice (some ⟨g2, 0, none⟩) (m + 1) cp2)) := by have h1 := Nat.le_trans hn1 hB4.size; unfold LeN; simpa using h1
            refine wpAnyH_take (i := 16) (oi := ?oi20064) (v := ?v20064) ?hi20064 (by kernel_rfl) (by kernel_rfl) (by kernel_rfl) (fun _ _ _ h => h) (Or.inl ⟨?hw20064, ?hy20064⟩) (by assumption) ?rest20064
            case hi20064 => (simp only [List.getElem?_toArray, List.getElem?_cons_zero, List.getElem?_cons_succ]; rfl)
            case hw20064 => rfl
            case hy20064 => first | (intro wx hSw; go_simp; done) | (intro wx hSw; go_simp; with_reducible rfl)
            simp only [Act.put, List.setIfInBounds_toArray, List.set_cons_zero, List.set_cons_succ]
            refine wpAnyH_ready (rs := [17]) (by kernel_rfl) (by simp) ?_
            refine AllReadyH.cons rfl (fun K20065 hK20065 => ?_) AllReadyH.nil
            go_simp
            refine hK20065.out _ _ ?hs20065 (fun hHeld20065 => ?_)
            case hs20065 => exact trivial
            clear hHeld
            have hHeld := hHeld20065; clear hHeld20065 hK20065 K20065
            refine wpAnyH_done (by kernel_rfl) ?_ _
            refine NoPanic.normal ?_
            skip
            exact unhide REST10 _ _ _ _ (by kernel_rfl) G5 Z5 B5 T5 O5 N5
    · go_wp2_with fail
      refine (unhide CW _).mono ?_
      rintro e wq ⟨rfl, rfl⟩
      go_wp2_with fail
      exact unhide REST _ fv _ (by kernel_rfl) G hZ hB hT (hide (isSl_of (unhide hU)))
end Go.Proofs.Ytliefgkhpgigaaa

namespace Go.Proofs.Ytliefgkhpgigaaa
open Go.RowKit Go.Shelf
set_option linter.unusedSimpArgs false
set_option linter.unusedVariables false

def AtW2 (w : World) (b : Nat) : Prop := w.heap.size ≤ b
/-- what Table returns and leaves -/
def TabR (w : World) (e : Ending) (W : World) : Prop := ∃ (s0 : ByteArray) (jj : Int) (ua : Option Addr) (un uc : Nat) (la : Option Addr) (ln lc : Nat) (g cap : Nat) (l : List C3), e = .returned (.agg (tbl s0 (.slice (some ⟨g, 0, none⟩) l.length cap) (.int .i64 jj) (.slice ua un uc) (.slice la ln lc))) ∧ (1 ≤ l.length ∧ l.length ≤ 4) ∧ ColsL l ∧ ColB g l W ∧ Below w.heap.size w W
set_option maxHeartbeats 16000000 in
set_option maxRecDepth 100000 in
theorem tbE {r0 r1 r2 r3 r4 r5 r6 r7 rest : Code} (hc : Try.f14.body = some (.seq r0 (.seq r1 (.seq r2 (.seq r3 (.seq r4 (.seq r5 (.seq r6 (.seq r7 (rest)))))))))) (w : World) (b6 bt : Nat) (h6t : b6 ≠ bt) (hw6 : w.heap.size ≤ b6) (n : Int) (k : Nat) (s0 : ByteArray) (g cap : Nat) (hg6 : g ≠ b6) (l : List C3) (hlk : l.length = k) (hk1 : 1 ≤ k) (hk4 : k ≤ 4) (hL : ColsL l) (jj : Int) (ua la_ : Option Addr) (un uc ln lc_ : Nat) (ac : Act) (X : World) (ha : ac = ⟨#[ac.tmps.getD 0 undef, ac.tmps.getD 1 undef, ac.tmps.getD 2 undef, ac.tmps.getD 3 undef, ac.tmps.getD 4 undef, ac.tmps.getD 5 undef, .pointer (some ⟨b6, 0, none⟩), .pointer (some ⟨bt, 0, none⟩), ac.tmps.getD 8 undef, ac.tmps.getD 9 undef, ac.tmps.getD 10 undef, ac.tmps.getD 11 undef, ac.tmps.getD 12 undef, ac.tmps.getD 13 undef, ac.tmps.getD 14 undef, ac.tmps.getD 15 undef, ac.tmps.getD 16 undef, ac.tmps.getD 17 undef, ac.tmps.getD 18 undef, ac.tmps.getD 19 undef, ac.tmps.getD 20 undef, ac.tmps.getD 21 undef, ac.tmps.getD 22 undef, ac.tmps.getD 23 undef, ac.tmps.getD 24 undef, ac.tmps.getD 25 undef, ac.tmps.getD 26 undef, ac.tmps.getD 27 undef, ac.tmps.getD 28 undef, ac.tmps.getD 29 undef, ac.tmps.getD 30 undef, ac.tmps.getD 31 undef, ac.tmps.getD 32 undef, ac.tmps.getD 33 undef, ac.tmps.getD 34 undef, ac.tmps.getD 35 undef, ac.tmps.getD 36 undef, ac.tmps.getD 37 undef, ac.tmps.getD 38 undef, ac.tmps.getD 39 undef, ac.tmps.getD 40 undef, ac.tmps.getD 41 undef, ac.tmps.getD 42 undef, ac.tmps.getD 43 undef, ac.tmps.getD 44 undef, ac.tmps.getD 45 undef, ac.tmps.getD 46 undef, ac.tmps.getD 47 undef, ac.tmps.getD 48 undef, ac.tmps.getD 49 undef, ac.tmps.getD 50 undef, ac.tmps.getD 51 undef, ac.tmps.getD 52 undef, ac.tmps.getD 53 undef, ac.tmps.getD 54 undef, ac.tmps.getD 55 undef, ac.tmps.getD 56 undef, ac.tmps.getD 57 undef, ac.tmps.getD 58 undef, ac.tmps.getD 59 undef, ac.tmps.getD 60 undef, ac.tmps.getD 61 undef, ac.tmps.getD 62 undef, ac.tmps.getD 63 undef, ac.tmps.getD 64 undef, ac.tmps.getD 65 undef, ac.tmps.getD 66 undef, ac.tmps.getD 67 undef, ac.tmps.getD 68 undef, ac.tmps.getD 69 undef, ac.tmps.getD 70 undef, ac.tmps.getD 71 undef, ac.tmps.getD 72 undef, ac.tmps.getD 73 undef, ac.tmps.getD 74 undef, ac.tmps.getD 75 undef, ac.tmps.getD 76 undef, ac.tmps.getD 77 undef, ac.tmps.getD 78 undef, ac.tmps.getD 79 undef, ac.tmps.getD 80 undef, ac.tmps.getD 81 undef, ac.tmps.getD 82 undef, ac.tmps.getD 83 undef, ac.tmps.getD 84 undef, ac.tmps.getD 85 undef, ac.tmps.getD 86 undef, ac.tmps.getD 87 undef, ac.tmps.getD 88 undef, ac.tmps.getD 89 undef, ac.tmps.getD 90 undef, ac.tmps.getD 91 undef, ac.tmps.getD 92 undef, ac.tmps.getD 93 undef, ac.tmps.getD 94 undef, ac.tmps.getD 95 undef, ac.tmps.getD 96 undef, ac.tmps.getD 97 undef, ac.tmps.getD 98 undef, ac.tmps.getD 99 undef, ac.tmps.getD 100 undef, ac.tmps.getD 101 undef, ac.tmps.getD 102 undef, ac.tmps.getD 103 undef, ac.tmps.getD 104 undef, ac.tmps.getD 105 undef, ac.tmps.getD 106 undef, ac.tmps.getD 107 undef, ac.tmps.getD 108 undef, ac.tmps.getD 109 undef, ac.tmps.getD 110 undef, ac.tmps.getD 111 undef, ac.tmps.getD 112 undef, ac.tmps.getD 113 undef, ac.tmps.getD 114 undef], []⟩) (G : Hid (Grown w X)) (hZ : Hid (Blk b6 (tbl ⟨#[]⟩ (.slice none 0 0) (.int .i64 0) (.slice none 0 0) (.slice none 0 0)) 34 X)) (hB : Hid (ColB g l X)) (hT : Hid (Blk bt (tbl s0 (.slice (some ⟨g, 0, none⟩) k cap) (.int .i64 jj) (.slice ua un uc) (.slice la_ ln lc_)) 34 X)) : rest.wp Try.prog (bodyPost Try.prog Try.f14 (TabR w)) ac X := by
  obtain ⟨u, rfl⟩ : ∃ u : Nat → Value, ac = ⟨#[u 0, u 1, u 2, u 3, u 4, u 5, .pointer (some ⟨b6, 0, none⟩), .pointer (some ⟨bt, 0, none⟩), u 8, u 9, u 10, u 11, u 12, u 13, u 14, u 15, u 16, u 17, u 18, u 19, u 20, u 21, u 22, u 23, u 24, u 25, u 26, u 27, u 28, u 29, u 30, u 31, u 32, u 33, u 34, u 35, u 36, u 37, u 38, u 39, u 40, u 41, u 42, u 43, u 44, u 45, u 46, u 47, u 48, u 49, u 50, u 51, u 52, u 53, u 54, u 55, u 56, u 57, u 58, u 59, u 60, u 61, u 62, u 63, u 64, u 65, u 66, u 67, u 68, u 69, u 70, u 71, u 72, u 73, u 74, u 75, u 76, u 77, u 78, u 79, u 80, u 81, u 82, u 83, u 84, u 85, u 86, u 87, u 88, u 89, u 90, u 91, u 92, u 93, u 94, u 95, u 96, u 97, u 98, u 99, u 100, u 101, u 102, u 103, u 104, u 105, u 106, u 107, u 108, u 109, u 110, u 111, u 112, u 113, u 114], []⟩ := ⟨fun i => ac.tmps.getD i undef, ha⟩
  clear ha
  unfold Try.f14 at hc
  cases hc
  subst hlk
  have lt_ := (unhide hT).lt
  have l6_ := (unhide hZ).lt
  have t0 := (unhide hT).cell 0
  have z0 := (unhide hZ).cell 0
  have f0 := (unhide hZ).froz 0
  have t1 := (unhide hT).cell 1
  have z1 := (unhide hZ).cell 1
  have f1 := (unhide hZ).froz 1
  have t2 := (unhide hT).cell 2
  have z2 := (unhide hZ).cell 2
  have f2 := (unhide hZ).froz 2
  have t3 := (unhide hT).cell 3
  have z3 := (unhide hZ).cell 3
  have f3 := (unhide hZ).froz 3
  have t4 := (unhide hT).cell 4
  have z4 := (unhide hZ).cell 4
  have f4 := (unhide hZ).froz 4
  have t5 := (unhide hT).cell 5
  have z5 := (unhide hZ).cell 5
  have f5 := (unhide hZ).froz 5
  have t6 := (unhide hT).cell 6
  have z6 := (unhide hZ).cell 6
  have f6 := (unhide hZ).froz 6
  have t7 := (unhide hT).cell 7
  have z7 := (unhide hZ).cell 7
  have f7 := (unhide hZ).froz 7
  have t8 := (unhide hT).cell 8
  have z8 := (unhide hZ).cell 8
  have f8 := (unhide hZ).froz 8
  have t9 := (unhide hT).cell 9
  have z9 := (unhide hZ).cell 9
  have f9 := (unhide hZ).froz 9
  have t10 := (unhide hT).cell 10
  have z10 := (unhide hZ).cell 10
  have f10 := (unhide hZ).froz 10
  have t11 := (unhide hT).cell 11
  have z11 := (unhide hZ).cell 11
  have f11 := (unhide hZ).froz 11
  simp at t0 z0 t1 z1 t2 z2 t3 z3 t4 z4 t5 z5 t6 z6 t7 z7 t8 z8 t9 z9 t10 z10 t11 z11
  have G5 := hide (((((((((((((unhide G : Below w.heap.size w X).setCell (p := ⟨b6, 0, none⟩) hw6 (.string s0)).setCell (p := ⟨b6, 1, none⟩) hw6 (.slice (some ⟨g, 0, none⟩) l.length cap)).setCell (p := ⟨b6, 2, none⟩) hw6 (.int .i64 jj)).setCell (p := ⟨b6, 3, none⟩) hw6 (.slice ua un uc)).setCell (p := ⟨b6, 4, none⟩) hw6 (.int .i64 0)).setCell (p := ⟨b6, 5, none⟩) hw6 (.string ⟨#[]⟩)).setCell (p := ⟨b6, 6, none⟩) hw6 (.int .i64 0)).setCell (p := ⟨b6, 7, none⟩) hw6 (.int .i64 0)).setCell (p := ⟨b6, 8, none⟩) hw6 (.int .i64 0)).setCell (p := ⟨b6, 9, none⟩) hw6 (.string ⟨#[]⟩)).setCell (p := ⟨b6, 10, none⟩) hw6 (.slice none 0 0)).setCell (p := ⟨b6, 11, none⟩) hw6 (.slice la_ ln lc_))
  have B5 := hide (((((((((((((unhide hB).far hg6 0 (.string s0)).far hg6 1 (.slice (some ⟨g, 0, none⟩) l.length cap)).far hg6 2 (.int .i64 jj)).far hg6 3 (.slice ua un uc)).far hg6 4 (.int .i64 0)).far hg6 5 (.string ⟨#[]⟩)).far hg6 6 (.int .i64 0)).far hg6 7 (.int .i64 0)).far hg6 8 (.int .i64 0)).far hg6 9 (.string ⟨#[]⟩)).far hg6 10 (.slice none 0 0)).far hg6 11 (.slice la_ ln lc_))
  go_wp2_with fail
  refine bodyPost_ret (v := .agg (tbl s0 (.slice (some ⟨g, 0, none⟩) l.length cap) (.int .i64 jj) (.slice ua un uc) (.slice la_ ln lc_))) (by simp [results, Try.results14, go_sem, z0, z1, z2, z3, z4, z5, z6, z7, z8, z9, z10, z11, l6_]) rfl ⟨s0, jj, ua, un, uc, la_, ln, lc_, g, cap, l, rfl, ⟨hk1, hk4⟩, hL, unhide B5, unhide G5⟩
end Go.Proofs.Ytliefgkhpgigaaa

namespace Go.Proofs.Ytliefgkhpgigaaa
open Go.RowKit Go.Shelf
set_option linter.unusedSimpArgs false
set_option linter.unusedVariables false

set_option maxHeartbeats 16000000 in
set_option maxRecDepth 100000 in
theorem table_any (n : Int) (p : Option Addr) (np : Nat) (zs : List Int) (w : World) (hn : Is64 n) (hz : IntsP p zs w) :
    Calls Try.prog 14 #[.int .i64 n, .slice p zs.length np, .slice none 0 0] w (TabR w) := by
  have hzw := hide hz
  clear hz
  have CN := hide (fun W => nameL_any n W hn)
  have b0 := Int.emod_nonneg (n.tdiv 4) (show (4 : Int) ≠ 0 by decide)
  have b1 := Int.emod_lt_of_pos (n.tdiv 4) (show (0 : Int) < 4 by decide)
  obtain ⟨k, hk⟩ : ∃ k : Nat, 1 + (n.tdiv 4) % 4 = (k : Int) := ⟨(1 + (n.tdiv 4) % 4).toNat, by omega⟩
  have hk1 : 1 ≤ k := by omega
  have hk4 : k ≤ 4 := by omega
  have C4 := hide (fun W => within3_any (n.tdiv 4) 4 W (tdiv_bd hn 4 (by decide)) (by decide))
  have e4 : IntKind.i64.wrap (n.tdiv 4) = n.tdiv 4 := IntWalk.i64_in _ (by have := tdiv_bd hn 4 (by decide); unfold Is64 at this; omega)
  have eK : IntKind.i64.wrap (1 + (n.tdiv 4) % 4) = (k : Int) := by rw [hk]; exact IntWalk.i64_in _ (by omega)
  clear hk b0 b1
  have c0 := Int.emod_nonneg (n.tdiv 16) (show (k : Int) ≠ 0 by omega)
  have c1 := Int.emod_lt_of_pos (n.tdiv 16) (show (0 : Int) < k by omega)
  obtain ⟨j, hj⟩ : ∃ j : Nat, (n.tdiv 16) % (k : Int) = (j : Int) := ⟨((n.tdiv 16) % (k : Int)).toNat, by omega⟩
  have hjk : j < k := by omega
  have C16 : Hid (∀ W, Calls Try.prog 34 #[.int .i64 (n.tdiv 16), .int .i64 (k : Int)] W fun e W' => e = .returned (.int .i64 (j : Int)) ∧ W' = W) := hide (fun W => hj ▸ within3_any (n.tdiv 16) (k : Int) W (tdiv_bd hn 16 (by decide)) (by omega))
  clear hj c0 c1
  have C64 := hide (fun W => within3_any (n.tdiv 64) 3 W (tdiv_bd hn 64 (by decide)) (by decide))
  have q0 : 0 ≤ (n.tdiv 64) % 3 ∧ (n.tdiv 64) % 3 < 3 := ⟨Int.emod_nonneg _ (by decide), Int.emod_lt_of_pos _ (by decide)⟩
  have C256 := hide (fun W => within3_any (n.tdiv 256) 3 W (tdiv_bd hn 256 (by decide)) (by decide))
  have q1 : 0 ≤ (n.tdiv 256) % 3 ∧ (n.tdiv 256) % 3 < 3 := ⟨Int.emod_nonneg _ (by decide), Int.emod_lt_of_pos _ (by decide)⟩
  generalize (n.tdiv 64) % 3 = q64 at *
  generalize (n.tdiv 256) % 3 = q256 at *
  go_enter Try.func14, Try.ntmps14
  go_wp2_with fail
  refine (unhide CN _).mono ?_
  rintro e W1 ⟨s0, rfl, hb⟩
  have hZ := hide ((Blk.new w #[.string ⟨#[]⟩, .slice none 0 0, .int .i64 0, .slice none 0 0, .int .i64 0, .string ⟨#[]⟩, .int .i64 0, .int .i64 0, .int .i64 0, .string ⟨#[]⟩, .slice none 0 0, .slice none 0 0] 34).call hb)
  have G : Hid (Grown w W1) := hide ((below_new w (.cells #[.string ⟨#[]⟩, .slice none 0 0, .int .i64 0, .slice none 0 0, .int .i64 0, .string ⟨#[]⟩, .int .i64 0, .int .i64 0, .int .i64 0, .string ⟨#[]⟩, .slice none 0 0, .slice none 0 0] 34)).trans (hb.mono (below_new w (.cells #[.string ⟨#[]⟩, .slice none 0 0, .int .i64 0, .slice none 0 0, .int .i64 0, .string ⟨#[]⟩, .int .i64 0, .int .i64 0, .int .i64 0, .string ⟨#[]⟩, .slice none 0 0, .slice none 0 0] 34)).size))
  have l6 : w.heap.size < W1.heap.size := (unhide hZ).lt
  clear hb
  go_wp2_with fail
  refine (one_nil _).mono ?_
  rintro e W2 ⟨rfl, hb⟩
  have gg := below_new W2 (.cells #[.string s0, .slice none 0 0, .int .i64 0, .slice none 0 0, .int .i64 0, .string ⟨#[]⟩, .int .i64 0, .int .i64 0, .int .i64 0, .string ⟨#[]⟩, .slice none 0 0, .slice none 0 0] 34)
  have hT := hide (Blk.new W2 #[.string s0, .slice none 0 0, .int .i64 0, .slice none 0 0, .int .i64 0, .string ⟨#[]⟩, .int .i64 0, .int .i64 0, .int .i64 0, .string ⟨#[]⟩, .slice none 0 0, .slice none 0 0] 34)
  replace hZ := hide (((unhide hZ).call hb).call gg)
  replace G := hide (((unhide G).call hb).call gg)
  have hne : w.heap.size ≠ W2.heap.size := by have := hb.size; omega
  have hwt : w.heap.size ≤ W2.heap.size := by have := hb.size; omega
  have hn0 : LeN (W2.heap.size + 1) (W2.alloc (.cells #[.string s0, .slice none 0 0, .int .i64 0, .slice none 0 0, .int .i64 0, .string ⟨#[]⟩, .int .i64 0, .int .i64 0, .int .i64 0, .string ⟨#[]⟩, .slice none 0 0, .slice none 0 0] 34)) := by unfold LeN; simp
  clear hb gg
  go_wp2_with fail
  rename_i K3 hk3 K0 hk0
  refine (unhide C4 _).mono ?_
  rintro e W3 ⟨rfl, rfl⟩
  generalize W2.alloc (.cells #[.string s0, .slice none 0 0, .int .i64 0, .slice none 0 0, .int .i64 0, .string ⟨#[]⟩, .int .i64 0, .int .i64 0, .int .i64 0, .string ⟨#[]⟩, .slice none 0 0, .slice none 0 0] 34) = X at *
  have l6t : w.heap.size < W2.heap.size + 1 := by omega
  have ltt : W2.heap.size < W2.heap.size + 1 := by omega
  have hw6 : AtW2 w w.heap.size := Nat.le_refl _
  have hwt2 : AtW2 w W2.heap.size := hwt
  have hwn : AtW2 w (W2.heap.size + 1) := by unfold AtW2; omega
  clear hwt l6
  generalize hn0e : W2.heap.size + 1 = n0 at *
  generalize W2.heap.size = bt at *
  generalize w.heap.size = b6 at *
  have REST3 : ∀ ac : Act, ac = ⟨#[.int .i64 n, .slice p zs.length np, ac.tmps.getD 2 undef, ac.tmps.getD 3 undef, ac.tmps.getD 4 undef, ac.tmps.getD 5 undef, .pointer (some ⟨b6, 0, none⟩), .pointer (some ⟨bt, 0, none⟩), .int .i64 (k : Int), ac.tmps.getD 9 undef, ac.tmps.getD 10 undef, ac.tmps.getD 11 undef, ac.tmps.getD 12 undef, ac.tmps.getD 13 undef, ac.tmps.getD 14 undef, ac.tmps.getD 15 undef, ac.tmps.getD 16 undef, ac.tmps.getD 17 undef, ac.tmps.getD 18 undef, ac.tmps.getD 19 undef, ac.tmps.getD 20 undef, ac.tmps.getD 21 undef, ac.tmps.getD 22 undef, ac.tmps.getD 23 undef, ac.tmps.getD 24 undef, ac.tmps.getD 25 undef, ac.tmps.getD 26 undef, ac.tmps.getD 27 undef, ac.tmps.getD 28 undef, ac.tmps.getD 29 undef, ac.tmps.getD 30 undef, ac.tmps.getD 31 undef, ac.tmps.getD 32 undef, ac.tmps.getD 33 undef, ac.tmps.getD 34 undef, ac.tmps.getD 35 undef, ac.tmps.getD 36 undef, ac.tmps.getD 37 undef, ac.tmps.getD 38 undef, ac.tmps.getD 39 undef, ac.tmps.getD 40 undef, ac.tmps.getD 41 undef, ac.tmps.getD 42 undef, ac.tmps.getD 43 undef, ac.tmps.getD 44 undef, ac.tmps.getD 45 undef, ac.tmps.getD 46 undef, ac.tmps.getD 47 undef, ac.tmps.getD 48 undef, ac.tmps.getD 49 undef, ac.tmps.getD 50 undef, ac.tmps.getD 51 undef, ac.tmps.getD 52 undef, ac.tmps.getD 53 undef, ac.tmps.getD 54 undef, ac.tmps.getD 55 undef, ac.tmps.getD 56 undef, ac.tmps.getD 57 undef, ac.tmps.getD 58 undef, ac.tmps.getD 59 undef, ac.tmps.getD 60 undef, ac.tmps.getD 61 undef, ac.tmps.getD 62 undef, ac.tmps.getD 63 undef, ac.tmps.getD 64 undef, ac.tmps.getD 65 undef, ac.tmps.getD 66 undef, ac.tmps.getD 67 undef, ac.tmps.getD 68 undef, ac.tmps.getD 69 undef, ac.tmps.getD 70 undef, ac.tmps.getD 71 undef, ac.tmps.getD 72 undef, ac.tmps.getD 73 undef, ac.tmps.getD 74 undef, ac.tmps.getD 75 undef, ac.tmps.getD 76 undef, ac.tmps.getD 77 undef, ac.tmps.getD 78 undef, ac.tmps.getD 79 undef, ac.tmps.getD 80 undef, ac.tmps.getD 81 undef, ac.tmps.getD 82 undef, ac.tmps.getD 83 undef, ac.tmps.getD 84 undef, ac.tmps.getD 85 undef, ac.tmps.getD 86 undef, ac.tmps.getD 87 undef, ac.tmps.getD 88 undef, ac.tmps.getD 89 undef, ac.tmps.getD 90 undef, ac.tmps.getD 91 undef, ac.tmps.getD 92 undef, ac.tmps.getD 93 undef, ac.tmps.getD 94 undef, ac.tmps.getD 95 undef, ac.tmps.getD 96 undef, ac.tmps.getD 97 undef, ac.tmps.getD 98 undef, ac.tmps.getD 99 undef, ac.tmps.getD 100 undef, ac.tmps.getD 101 undef, ac.tmps.getD 102 undef, ac.tmps.getD 103 undef, ac.tmps.getD 104 undef, ac.tmps.getD 105 undef, ac.tmps.getD 106 undef, ac.tmps.getD 107 undef, ac.tmps.getD 108 undef, ac.tmps.getD 109 undef, ac.tmps.getD 110 undef, ac.tmps.getD 111 undef, ac.tmps.getD 112 undef, ac.tmps.getD 113 undef, ac.tmps.getD 114 undef], []⟩ → K3 ac X := by
    intro ac ha
    refine hk3 _ _ ?_
    clear hk3 hk0 C4 CN
    refine wp_seq_k ?_
    intro K4 hK4
    refine tbL1 rfl w n0 b6 bt hne l6t ltt hw6 hwt2 n p np zs k hk4 s0 hzw K4 _ (hide ?_) ac X ha G hZ hT hn0
    clear G hZ hT hn0 ha
    intro ac cv l X ha hlk hL G hZ hT hO hn0
    refine hK4 _ _ ?_
    clear hK4
    subst hlk
    obtain ⟨g, cap, rfl, hge, hB⟩ := owc_blk (by omega) (unhide hO) (by rintro rfl; simp at hk1)
    have hgt : g ≠ bt := by omega
    have hg6 : g ≠ b6 := by omega
    have hwg : AtW2 w g := Nat.le_trans hwn hge
    refine wp_seq_k ?_
    intro K5 hK5
    refine tbK rfl w b6 bt hne hw6 hwt2 n p np zs l.length hk4 hk1 s0 g cap hgt hg6 hwg l j hn C16 K5 _ (hide ?_) ac X ha G hZ (hide hB) hT
    clear G hZ hT hn0 ha hO hB
    intro ac X ha G hZ hB hT
    refine hK5 _ _ ?_
    clear hK5
    refine wp_seq_k ?_
    intro K6 hK6
    refine tbN rfl w b6 bt hne hw6 hwt2 n p np zs l.length hk4 hk1 s0 g cap hgt hg6 hwg l rfl j hjk K6 _ (hide ?_) ac X ha G hZ hB hT
    clear G hZ hT ha hB
    intro ac X ha G hZ hB hT
    refine hK6 _ _ ?_
    clear hK6
    refine wp_seq_k ?_
    intro K7 hK7
    refine tbU rfl w b6 bt hne hw6 hwt2 n p np zs l.length hk4 hk1 s0 g cap hgt hg6 hwg (l.set j (l[j].1, l[j].2.1, true)) X.heap.size (unhide hZ).lt (unhide hT).lt (unhide hB).lt j hjk hn q64 q0 C64 K7 _ (hide ?_) ac X ha G hZ hB hT (Nat.le_refl _)
    clear G hZ hT ha hB
    intro ac uv X ha G hZ hB hT hU
    refine hK7 _ _ ?_
    clear hK7
    refine wp_seq_k ?_
    intro K8 hK8
    refine tbL rfl w b6 bt hne hw6 hwt2 n p np zs l.length hk4 hk1 s0 g cap hgt hg6 hwg (l.set j (l[j].1, l[j].2.1, true)) X.heap.size (unhide hZ).lt (unhide hT).lt (unhide hB).lt j hjk hn q256 q1 C256 uv K8 _ (hide ?_) ac X ha G hZ hB hT (Nat.le_refl _)
    clear G hZ hT ha hB
    intro ac lv X ha G hZ hB hT hV
    obtain ⟨ua, un, uc, rfl⟩ := unhide hU
    obtain ⟨la_, ln, lc_, rfl⟩ := unhide hV
    refine hK8 _ _ ?_
    clear hK8
    have hL2 := colsL_set hL hjk true
    have hl2 : (l.set j (l[j].1, l[j].2.1, true)).length = l.length := by simp
    exact tbE rfl w b6 bt hne hw6 n l.length s0 g cap hg6 (l.set j (l[j].1, l[j].2.1, true)) hl2 hk1 hk4 hL2 (j : Int) ua la_ un uc ln lc_ ac X (by obtain ⟨u, rfl⟩ : ∃ u : Nat → Value, ac = ⟨#[.int .i64 n, .slice p zs.length np, u 2, u 3, u 4, u 5, .pointer (some ⟨b6, 0, none⟩), .pointer (some ⟨bt, 0, none⟩), .int .i64 (l.length : Int), u 9, u 10, u 11, u 12, u 13, u 14, u 15, u 16, u 17, u 18, u 19, u 20, u 21, u 22, u 23, u 24, u 25, u 26, u 27, u 28, u 29, u 30, u 31, u 32, u 33, u 34, u 35, u 36, u 37, u 38, u 39, u 40, u 41, u 42, u 43, u 44, u 45, u 46, u 47, u 48, u 49, u 50, u 51, u 52, u 53, u 54, u 55, u 56, u 57, u 58, u 59, u 60, u 61, u 62, u 63, u 64, u 65, u 66, u 67, u 68, u 69, u 70, u 71, u 72, u 73, u 74, u 75, u 76, u 77, u 78, u 79, u 80, u 81, u 82, u 83, u 84, u 85, u 86, u 87, u 88, u 89, u 90, u 91, u 92, u 93, u 94, u 95, u 96, u 97, u 98, u 99, u 100, u 101, u 102, u 103, u 104, u 105, u 106, u 107, u 108, u 109, u 110, u 111, u 112, u 113, u 114], []⟩ := ⟨fun i => ac.tmps.getD i undef, ha⟩; kernel_rfl) G hZ hB hT
  have REST3 := hide REST3
  clear hk3
  go_wp2_with fail
  all_goals exact unhide REST3 _ (by kernel_rfl)
end Go.Proofs.Ytliefgkhpgigaaa

namespace Go.Proofs.Ytliefgkhpgigaaa
open Go.RowKit Go.Shelf
set_option linter.unusedSimpArgs false
set_option linter.unusedVariables false

theorem tru_valT (p : Bool) : truV (valT (truI p)) = truI p ∧ (valT (truI p)).1 = 1 := by cases p <;> exact ⟨by decide +kernel, by decide +kernel⟩
theorem valFrom_at (nm : ByteArray) : ∀ (cs : List C3) (vs : List V4) (j : Nat) (hj : j < cs.length) (hv : j < vs.length), (∀ i (h : i < j), ((cs[i]'(by omega)).1.toList == nm.toList) = false) → cs[j].1 = nm → valFrom nm cs vs = some vs[j]
  | [], _, j, hj, _, _, _ => absurd hj (by simp)
  | _ :: _, [], j, _, hv, _, _ => absurd hv (by simp)
  | c :: cs, v :: vs, 0, _, _, _, h => by
    have h' : c.1 = nm := h
    unfold valFrom
    rw [h']; simp
  | c :: cs, v :: vs, j + 1, hj, hv, h1, h2 => by
    unfold valFrom
    rw [if_neg (by have := h1 0 (by omega); simp at this ⊢; exact this)]
    exact valFrom_at nm cs vs j (by simpa using hj) (by simpa using hv) (fun i hi => by have := h1 (i + 1) (by omega); simpa using this) (by simpa using h2)
theorem nmK_ne : ∀ i j, i < j → j < 4 → ((nmK i).toList == (nmK j).toList) = false := by
  intro i j h1 h2
  have : (i = 0 ∧ j = 1) ∨ (i = 0 ∧ j = 2) ∨ (i = 0 ∧ j = 3) ∨ (i = 1 ∧ j = 2) ∨ (i = 1 ∧ j = 3) ∨ (i = 2 ∧ j = 3) := by omega
  rcases this with ⟨rfl, rfl⟩ | ⟨rfl, rfl⟩ | ⟨rfl, rfl⟩ | ⟨rfl, rfl⟩ | ⟨rfl, rfl⟩ | ⟨rfl, rfl⟩ <;> decide +kernel
theorem nmK_val {cs : List C3} {vs : List V4} (hL : ColsL cs) (h4 : cs.length ≤ 4) (hl : vs.length = cs.length) (j : Nat) (hj : j < cs.length) : valR (nmK j) cs vs = (vs[j]'(by omega), 0) := by
  unfold valR
  rw [valFrom_at (nmK j) cs vs j hj (by omega) (fun i hi => by rw [(hL i (by omega)).1]; exact nmK_ne i j hi (by omega)) (hL j hj).1]
theorem holds_n5 {cs : List C3} {vs : List V4} {nm : ByteArray} {x : V4} (h : valR nm cs vs = (x, 0)) : holdsR cs vs (oneX 5 (colX nm)) = (x.1 == 0, true, 0) := by
  have hev : evalR cs vs (oneX 5 (colX nm)) = (valT (truI (x.1 == 0)), 0) := by rw [ev_one 5 (ev_col h)]; rfl
  unfold holdsR
  rw [if_neg (show ¬ (oneX 5 (colX nm)).k = 0 from (by decide : ¬ (5 : Int) = 0)), hev]
  unfold holdsV
  rw [(tru_valT _).1, (tru_valT _).2]
  cases (x.1 == 0) <;> decide +kernel
theorem holds_n3 {cs : List C3} {vs : List V4} {nm : ByteArray} {x : V4} (h : valR nm cs vs = (x, 0)) : holdsR cs vs (oneX 3 (oneX 5 (colX nm))) = (!(x.1 == 0), true, 0) := by
  have hev : evalR cs vs (oneX 5 (colX nm)) = (valT (truI (x.1 == 0)), 0) := by rw [ev_one 5 (ev_col h)]; rfl
  unfold holdsR
  rw [if_neg (show ¬ (oneX 3 (oneX 5 (colX nm))).k = 0 from (by decide : ¬ (3 : Int) = 0)), ev_not hev]
  unfold nT
  rw [(tru_valT _).1]
  cases (x.1 == 0) <;> decide +kernel
end Go.Proofs.Ytliefgkhpgigaaa

namespace Go.Proofs.Ytliefgkhpgigaaa
open Go.RowKit Go.Shelf
set_option linter.unusedSimpArgs false
set_option linter.unusedVariables false

def SNl (tb : Array Value) (bt bx gx : Nat) (X : World) : Prop := Blk bt tb 34 X ∧ Blk bx #[.int .i64 5, .string S0, .int .i64 0, .int .i64 0, .int .i64 0, .string S0, .slice (some ⟨gx, 0, none⟩) 1 1] 31 X
theorem SNl.call {tb : Array Value} {bt bx gx : Nat} {W W' : World} (h : SNl tb bt bx gx W) (hb : Below W.heap.size W W') : SNl tb bt bx gx W' := ⟨h.1.call hb, h.2.call hb⟩
set_option maxHeartbeats 32000000 in
set_option maxRecDepth 100000 in
theorem nlA {r0 r1 r2 r3 r4 r5 r6 r7 r8 rest : Code} (hc : Try.f6.body = some (.seq r0 (.seq r1 (.seq r2 (.seq r3 (.seq r4 (.seq r5 (.seq r6 (.seq r7 (.seq r8 (rest))))))))))) (w : World) (s0 : ByteArray) (jj : Int) (ua : Option Addr) (un uc : Nat) (la : Option Addr) (ln lc : Nat) (g cap : Nat) (l : List C3) (gr cr : Nat) (lr : List V4) (j : Nat) (bt bx gx : Nat) (nm : ByteArray) (b1 : Bool) (hlr : lr.length = l.length) (hMk : Hid (∀ v ∈ lr, MkV v)) (hh : Hid (holdsR l lr (oneX 3 (oneX 5 (colX nm))) = (!b1, true, 0))) (K : Act → World → Prop) (Q : Exit → Act → World → Prop) (REST : Hid (∀ (ac : Act) (X : World), ac = ⟨#[ac.tmps.getD 0 undef, ac.tmps.getD 1 undef, ac.tmps.getD 2 undef, ac.tmps.getD 3 undef, ac.tmps.getD 4 undef, ac.tmps.getD 5 undef, ac.tmps.getD 6 undef, ac.tmps.getD 7 undef, ac.tmps.getD 8 undef, ac.tmps.getD 9 undef, ac.tmps.getD 10 undef, .pointer (some ⟨bt, 0, none⟩), .slice (some ⟨gr, 0, none⟩) l.length cr, .int .i64 (j : Int), .pointer (some ⟨bx, 0, none⟩), .bool b1, .bool true, .int .i64 0, .bool (!b1), .bool true, .int .i64 0, ac.tmps.getD 21 undef, ac.tmps.getD 22 undef, ac.tmps.getD 23 undef, ac.tmps.getD 24 undef, ac.tmps.getD 25 undef, ac.tmps.getD 26 undef, ac.tmps.getD 27 undef, ac.tmps.getD 28 undef, ac.tmps.getD 29 undef, ac.tmps.getD 30 undef, ac.tmps.getD 31 undef, ac.tmps.getD 32 undef, ac.tmps.getD 33 undef, ac.tmps.getD 34 undef, ac.tmps.getD 35 undef, ac.tmps.getD 36 undef, ac.tmps.getD 37 undef, ac.tmps.getD 38 undef, ac.tmps.getD 39 undef, ac.tmps.getD 40 undef, ac.tmps.getD 41 undef, ac.tmps.getD 42 undef, ac.tmps.getD 43 undef, ac.tmps.getD 44 undef, ac.tmps.getD 45 undef, ac.tmps.getD 46 undef, ac.tmps.getD 47 undef, ac.tmps.getD 48 undef, ac.tmps.getD 49 undef, ac.tmps.getD 50 undef, ac.tmps.getD 51 undef, ac.tmps.getD 52 undef, ac.tmps.getD 53 undef, ac.tmps.getD 54 undef, ac.tmps.getD 55 undef, ac.tmps.getD 56 undef, ac.tmps.getD 57 undef, ac.tmps.getD 58 undef, ac.tmps.getD 59 undef, ac.tmps.getD 60 undef, ac.tmps.getD 61 undef, ac.tmps.getD 62 undef, ac.tmps.getD 63 undef, ac.tmps.getD 64 undef, ac.tmps.getD 65 undef, ac.tmps.getD 66 undef, ac.tmps.getD 67 undef, ac.tmps.getD 68 undef, ac.tmps.getD 69 undef, ac.tmps.getD 70 undef, ac.tmps.getD 71 undef, ac.tmps.getD 72 undef, ac.tmps.getD 73 undef, ac.tmps.getD 74 undef, ac.tmps.getD 75 undef, ac.tmps.getD 76 undef, ac.tmps.getD 77 undef, ac.tmps.getD 78 undef, ac.tmps.getD 79 undef, ac.tmps.getD 80 undef, ac.tmps.getD 81 undef, ac.tmps.getD 82 undef, ac.tmps.getD 83 undef, ac.tmps.getD 84 undef, ac.tmps.getD 85 undef, ac.tmps.getD 86 undef, ac.tmps.getD 87 undef, ac.tmps.getD 88 undef, ac.tmps.getD 89 undef, ac.tmps.getD 90 undef, ac.tmps.getD 91 undef], []⟩ → Hid (Grown w X) → Hid (ColB g l X) → Hid (Blk bt (tbl s0 (.slice (some ⟨g, 0, none⟩) l.length cap) (.int .i64 jj) (.slice ua un uc) (.slice la ln lc)) 34 X) → Hid (RowB gr lr X) → Hid (Blk bx #[.int .i64 5, .string S0, .int .i64 0, .int .i64 0, .int .i64 0, .string S0, .slice (some ⟨gx, 0, none⟩) 1 1] 31 X) → Hid (Rep (oneX 5 (colX nm)) (.slice (some ⟨gx, 0, none⟩) 1 1) X) → K ac X)) (ac : Act) (X : World) (ha : ac = ⟨#[ac.tmps.getD 0 undef, ac.tmps.getD 1 undef, ac.tmps.getD 2 undef, ac.tmps.getD 3 undef, ac.tmps.getD 4 undef, ac.tmps.getD 5 undef, ac.tmps.getD 6 undef, ac.tmps.getD 7 undef, ac.tmps.getD 8 undef, ac.tmps.getD 9 undef, ac.tmps.getD 10 undef, .pointer (some ⟨bt, 0, none⟩), .slice (some ⟨gr, 0, none⟩) l.length cr, .int .i64 (j : Int), .pointer (some ⟨bx, 0, none⟩), .bool b1, .bool true, .int .i64 0, ac.tmps.getD 18 undef, ac.tmps.getD 19 undef, ac.tmps.getD 20 undef, ac.tmps.getD 21 undef, ac.tmps.getD 22 undef, ac.tmps.getD 23 undef, ac.tmps.getD 24 undef, ac.tmps.getD 25 undef, ac.tmps.getD 26 undef, ac.tmps.getD 27 undef, ac.tmps.getD 28 undef, ac.tmps.getD 29 undef, ac.tmps.getD 30 undef, ac.tmps.getD 31 undef, ac.tmps.getD 32 undef, ac.tmps.getD 33 undef, ac.tmps.getD 34 undef, ac.tmps.getD 35 undef, ac.tmps.getD 36 undef, ac.tmps.getD 37 undef, ac.tmps.getD 38 undef, ac.tmps.getD 39 undef, ac.tmps.getD 40 undef, ac.tmps.getD 41 undef, ac.tmps.getD 42 undef, ac.tmps.getD 43 undef, ac.tmps.getD 44 undef, ac.tmps.getD 45 undef, ac.tmps.getD 46 undef, ac.tmps.getD 47 undef, ac.tmps.getD 48 undef, ac.tmps.getD 49 undef, ac.tmps.getD 50 undef, ac.tmps.getD 51 undef, ac.tmps.getD 52 undef, ac.tmps.getD 53 undef, ac.tmps.getD 54 undef, ac.tmps.getD 55 undef, ac.tmps.getD 56 undef, ac.tmps.getD 57 undef, ac.tmps.getD 58 undef, ac.tmps.getD 59 undef, ac.tmps.getD 60 undef, ac.tmps.getD 61 undef, ac.tmps.getD 62 undef, ac.tmps.getD 63 undef, ac.tmps.getD 64 undef, ac.tmps.getD 65 undef, ac.tmps.getD 66 undef, ac.tmps.getD 67 undef, ac.tmps.getD 68 undef, ac.tmps.getD 69 undef, ac.tmps.getD 70 undef, ac.tmps.getD 71 undef, ac.tmps.getD 72 undef, ac.tmps.getD 73 undef, ac.tmps.getD 74 undef, ac.tmps.getD 75 undef, ac.tmps.getD 76 undef, ac.tmps.getD 77 undef, ac.tmps.getD 78 undef, ac.tmps.getD 79 undef, ac.tmps.getD 80 undef, ac.tmps.getD 81 undef, ac.tmps.getD 82 undef, ac.tmps.getD 83 undef, ac.tmps.getD 84 undef, ac.tmps.getD 85 undef, ac.tmps.getD 86 undef, ac.tmps.getD 87 undef, ac.tmps.getD 88 undef, ac.tmps.getD 89 undef, ac.tmps.getD 90 undef, ac.tmps.getD 91 undef], []⟩) (G : Hid (Grown w X)) (hB : Hid (ColB g l X)) (hT : Hid (Blk bt (tbl s0 (.slice (some ⟨g, 0, none⟩) l.length cap) (.int .i64 jj) (.slice ua un uc) (.slice la ln lc)) 34 X)) (hR : Hid (RowB gr lr X)) (hX : Hid (Blk bx #[.int .i64 5, .string S0, .int .i64 0, .int .i64 0, .int .i64 0, .string S0, .slice (some ⟨gx, 0, none⟩) 1 1] 31 X)) (hrx : Hid (Rep (oneX 5 (colX nm)) (.slice (some ⟨gx, 0, none⟩) 1 1) X)) : r8.wp Try.prog (Exit.then K Q) ac X := by
  obtain ⟨u, rfl⟩ : ∃ u : Nat → Value, ac = ⟨#[u 0, u 1, u 2, u 3, u 4, u 5, u 6, u 7, u 8, u 9, u 10, .pointer (some ⟨bt, 0, none⟩), .slice (some ⟨gr, 0, none⟩) l.length cr, .int .i64 (j : Int), .pointer (some ⟨bx, 0, none⟩), .bool b1, .bool true, .int .i64 0, u 18, u 19, u 20, u 21, u 22, u 23, u 24, u 25, u 26, u 27, u 28, u 29, u 30, u 31, u 32, u 33, u 34, u 35, u 36, u 37, u 38, u 39, u 40, u 41, u 42, u 43, u 44, u 45, u 46, u 47, u 48, u 49, u 50, u 51, u 52, u 53, u 54, u 55, u 56, u 57, u 58, u 59, u 60, u 61, u 62, u 63, u 64, u 65, u 66, u 67, u 68, u 69, u 70, u 71, u 72, u 73, u 74, u 75, u 76, u 77, u 78, u 79, u 80, u 81, u 82, u 83, u 84, u 85, u 86, u 87, u 88, u 89, u 90, u 91], []⟩ := ⟨fun i => ac.tmps.getD i undef, ha⟩
  clear ha
  unfold Try.f6 at hc
  cases hc
  have CH : Hid (∀ (LVQ : Value) (W : World), ColsOf (.slice (some ⟨g, 0, none⟩) l.length cap) l W → RowOf (some ⟨gr, 0, none⟩) lr W → Rep (oneX 3 (oneX 5 (colX nm))) LVQ W → Calls Try.prog 22 #[.agg #[.string s0, .slice (some ⟨g, 0, none⟩) l.length cap, .int .i64 jj, .slice ua un uc, .int .i64 0, .string ⟨#[]⟩, .int .i64 0, .int .i64 0, .int .i64 0, .string ⟨#[]⟩, .slice none 0 0, .slice la ln lc], .slice (some ⟨gr, 0, none⟩) l.length cr, .agg (exC (oneX 3 (oneX 5 (colX nm))) LVQ).toArray] W (Fin3 (!b1, true, 0) W)) := by
    intro LVQ W h1 h2 h3
    have h := holds_any (.string s0) (.int .i64 jj) (.slice ua un uc) (.int .i64 0) (.string ⟨#[]⟩) (.int .i64 0) (.int .i64 0) (.int .i64 0) (.string ⟨#[]⟩) (.slice none 0 0) (.slice la ln lc) (.slice (some ⟨g, 0, none⟩) l.length cap) l (some ⟨gr, 0, none⟩) lr cr (oneX 3 (oneX 5 (colX nm))) LVQ W h1 h2 (fun v hv => (unhide hMk v hv).ok) (show 3 ≤ 1000 by decide) h3 (ok_one (ok_one (ok_col _)))
    rw [hlr, unhide hh] at h
    exact h
  have hS : Hid (SNl (tbl s0 (.slice (some ⟨g, 0, none⟩) l.length cap) (.int .i64 jj) (.slice ua un uc) (.slice la ln lc)) bt bx gx X) := hide ⟨unhide hT, unhide hX⟩
  refine wp_region_noPanic ?_
  refine wp_region_held_drew (S := (SNl (tbl s0 (.slice (some ⟨g, 0, none⟩) l.length cap) (.int .i64 jj) (.slice ua un uc) (.slice la ln lc)) bt bx gx)) (by kernel_rfl) ((unhide hS).call (Below.refl _ _).drew) (fun hHeld => ?_)
  have hbd : Below X.heap.size X X.drew := (Below.refl _ _).drew
  replace G := hide ((unhide G).call hbd)
  replace hB := hide ((unhide hB).call hbd)
  replace hT := hide ((unhide hT).call hbd)
  replace hR := hide ((unhide hR).call hbd)
  replace hX := hide ((unhide hX).call hbd)
  replace hrx := hide ((unhide hrx).call hbd)
  replace hS := hide ((unhide hS).call hbd)
  clear hbd
  generalize X.drew = Wd at *
  refine wpAnyH_take (i := 0) (oi := ?oi20001) (v := ?v20001) ?hi20001 (by kernel_rfl) (by kernel_rfl) (by kernel_rfl) (fun _ _ _ h => h) (Or.inl ⟨?hw20001, ?hy20001⟩) (by assumption) ?rest20001
  case hi20001 => (simp only [List.getElem?_toArray, List.getElem?_cons_zero]; rfl)
  case hw20001 => rfl
  case hy20001 => first | (intro wx hSw; have hT := hSw.1; have lt_ := hT.lt; have t0 := Blk.cell hT 0; have t1 := Blk.cell hT 1; have t2 := Blk.cell hT 2; have t3 := Blk.cell hT 3; have t4 := Blk.cell hT 4; have t5 := Blk.cell hT 5; have t6 := Blk.cell hT 6; have t7 := Blk.cell hT 7; have t8 := Blk.cell hT 8; have t9 := Blk.cell hT 9; have t10 := Blk.cell hT 10; have t11 := Blk.cell hT 11; simp at t0 t1 t2 t3 t4 t5 t6 t7 t8 t9 t10 t11; go_simp; done) | (intro wx hSw; have hT := hSw.1; have lt_ := hT.lt; have t0 := Blk.cell hT 0; have t1 := Blk.cell hT 1; have t2 := Blk.cell hT 2; have t3 := Blk.cell hT 3; have t4 := Blk.cell hT 4; have t5 := Blk.cell hT 5; have t6 := Blk.cell hT 6; have t7 := Blk.cell hT 7; have t8 := Blk.cell hT 8; have t9 := Blk.cell hT 9; have t10 := Blk.cell hT 10; have t11 := Blk.cell hT 11; simp at t0 t1 t2 t3 t4 t5 t6 t7 t8 t9 t10 t11; go_simp; with_reducible rfl)
  simp only [Act.put, List.setIfInBounds_toArray, List.set_cons_zero, List.set_cons_succ]
  refine wpAnyH_take (i := 1) (oi := ?oi20002) (v := ?v20002) ?hi20002 (by kernel_rfl) (by kernel_rfl) (by kernel_rfl) (fun _ _ _ h => h) (Or.inl ⟨?hw20002, ?hy20002⟩) (by assumption) ?rest20002
  case hi20002 => (simp only [List.getElem?_toArray, List.getElem?_cons_zero, List.getElem?_cons_succ]; rfl)
  case hw20002 => rfl
  case hy20002 => first | (intro wx hSw; go_simp; done) | (intro wx hSw; go_simp; with_reducible rfl)
  simp only [Act.put, List.setIfInBounds_toArray, List.set_cons_zero, List.set_cons_succ]
  refine wpAnyH_take (i := 2) (oi := ?oi20003) (v := ?v20003) ?hi20003 (by kernel_rfl) (by kernel_rfl) (by kernel_rfl) (fun _ _ _ h => h) (Or.inl ⟨?hw20003, ?hy20003⟩) (by assumption) ?rest20003
  case hi20003 => (simp only [List.getElem?_toArray, List.getElem?_cons_zero, List.getElem?_cons_succ]; rfl)
  case hw20003 => rfl
  case hy20003 => first | (intro wx hSw; have hX := hSw.2; have lx_ := hX.lt; have y0 := Blk.cell hX 0; have y1 := Blk.cell hX 1; have y2 := Blk.cell hX 2; have y3 := Blk.cell hX 3; have y4 := Blk.cell hX 4; have y5 := Blk.cell hX 5; have y6 := Blk.cell hX 6; simp at y0 y1 y2 y3 y4 y5 y6; go_simp; done) | (intro wx hSw; have hX := hSw.2; have lx_ := hX.lt; have y0 := Blk.cell hX 0; have y1 := Blk.cell hX 1; have y2 := Blk.cell hX 2; have y3 := Blk.cell hX 3; have y4 := Blk.cell hX 4; have y5 := Blk.cell hX 5; have y6 := Blk.cell hX 6; simp at y0 y1 y2 y3 y4 y5 y6; go_simp; with_reducible rfl)
  simp only [Act.put, List.setIfInBounds_toArray, List.set_cons_zero, List.set_cons_succ]
  refine anyH_name ?_
  intro GG hin hout
  have HIN := hide hin
  have HOUT := hide hout
  clear hin hout hHeld
  have C2 : ∀ (ac : Act) (gn : Nat) (X : World), ac = ⟨#[ac.tmps.getD 0 undef, ac.tmps.getD 1 undef, ac.tmps.getD 2 undef, ac.tmps.getD 3 undef, ac.tmps.getD 4 undef, ac.tmps.getD 5 undef, ac.tmps.getD 6 undef, ac.tmps.getD 7 undef, ac.tmps.getD 8 undef, ac.tmps.getD 9 undef, ac.tmps.getD 10 undef, .pointer (some ⟨bt, 0, none⟩), .slice (some ⟨gr, 0, none⟩) l.length cr, .int .i64 (j : Int), .pointer (some ⟨bx, 0, none⟩), .bool b1, .bool true, .int .i64 0, ac.tmps.getD 18 undef, ac.tmps.getD 19 undef, ac.tmps.getD 20 undef, ac.tmps.getD 21 undef, ac.tmps.getD 22 undef, ac.tmps.getD 23 undef, ac.tmps.getD 24 undef, ac.tmps.getD 25 undef, ac.tmps.getD 26 undef, ac.tmps.getD 27 undef, ac.tmps.getD 28 undef, ac.tmps.getD 29 undef, ac.tmps.getD 30 undef, ac.tmps.getD 31 undef, ac.tmps.getD 32 undef, ac.tmps.getD 33 undef, ac.tmps.getD 34 undef, ac.tmps.getD 35 undef, ac.tmps.getD 36 undef, ac.tmps.getD 37 undef, ac.tmps.getD 38 undef, ac.tmps.getD 39 undef, ac.tmps.getD 40 undef, ac.tmps.getD 41 undef, ac.tmps.getD 42 undef, ac.tmps.getD 43 undef, ac.tmps.getD 44 undef, ac.tmps.getD 45 undef, ac.tmps.getD 46 undef, ac.tmps.getD 47 undef, ac.tmps.getD 48 undef, ac.tmps.getD 49 undef, ac.tmps.getD 50 undef, ac.tmps.getD 51 undef, ac.tmps.getD 52 undef, ac.tmps.getD 53 undef, ac.tmps.getD 54 undef, ac.tmps.getD 55 undef, .agg #[.string s0, .slice (some ⟨g, 0, none⟩) l.length cap, .int .i64 jj, .slice ua un uc, .int .i64 0, .string ⟨#[]⟩, .int .i64 0, .int .i64 0, .int .i64 0, .string ⟨#[]⟩, .slice none 0 0, .slice la ln lc], .slice (some ⟨gr, 0, none⟩) l.length cr, .agg #[.int .i64 5, .string S0, .int .i64 0, .int .i64 0, .int .i64 0, .string S0, .slice (some ⟨gx, 0, none⟩) 1 1], .agg (exC (oneX 3 (oneX 5 (colX nm))) (.slice (some ⟨gn, 0, none⟩) 1 1)).toArray, ac.tmps.getD 60 undef, .bool (!b1), .bool true, .int .i64 0, ac.tmps.getD 64 undef, ac.tmps.getD 65 undef, ac.tmps.getD 66 undef, ac.tmps.getD 67 undef, ac.tmps.getD 68 undef, ac.tmps.getD 69 undef, ac.tmps.getD 70 undef, ac.tmps.getD 71 undef, ac.tmps.getD 72 undef, ac.tmps.getD 73 undef, ac.tmps.getD 74 undef, ac.tmps.getD 75 undef, ac.tmps.getD 76 undef, ac.tmps.getD 77 undef, ac.tmps.getD 78 undef, ac.tmps.getD 79 undef, ac.tmps.getD 80 undef, ac.tmps.getD 81 undef, ac.tmps.getD 82 undef, ac.tmps.getD 83 undef, ac.tmps.getD 84 undef, ac.tmps.getD 85 undef, ac.tmps.getD 86 undef, ac.tmps.getD 87 undef, ac.tmps.getD 88 undef, ac.tmps.getD 89 undef, ac.tmps.getD 90 undef, ac.tmps.getD 91 undef], []⟩ → Below Wd.heap.size Wd X → Hid (Rep (oneX 3 (oneX 5 (colX nm))) (.slice (some ⟨gn, 0, none⟩) 1 1) X) → GG 3 #[true, true, true, true, true, true, true, true, true, false, false, false] ac X := by
    intro ac gn X ha GD hrgn
    obtain ⟨u, rfl⟩ : ∃ u : Nat → Value, ac = ⟨#[u 0, u 1, u 2, u 3, u 4, u 5, u 6, u 7, u 8, u 9, u 10, .pointer (some ⟨bt, 0, none⟩), .slice (some ⟨gr, 0, none⟩) l.length cr, .int .i64 (j : Int), .pointer (some ⟨bx, 0, none⟩), .bool b1, .bool true, .int .i64 0, u 18, u 19, u 20, u 21, u 22, u 23, u 24, u 25, u 26, u 27, u 28, u 29, u 30, u 31, u 32, u 33, u 34, u 35, u 36, u 37, u 38, u 39, u 40, u 41, u 42, u 43, u 44, u 45, u 46, u 47, u 48, u 49, u 50, u 51, u 52, u 53, u 54, u 55, .agg #[.string s0, .slice (some ⟨g, 0, none⟩) l.length cap, .int .i64 jj, .slice ua un uc, .int .i64 0, .string ⟨#[]⟩, .int .i64 0, .int .i64 0, .int .i64 0, .string ⟨#[]⟩, .slice none 0 0, .slice la ln lc], .slice (some ⟨gr, 0, none⟩) l.length cr, .agg #[.int .i64 5, .string S0, .int .i64 0, .int .i64 0, .int .i64 0, .string S0, .slice (some ⟨gx, 0, none⟩) 1 1], .agg (exC (oneX 3 (oneX 5 (colX nm))) (.slice (some ⟨gn, 0, none⟩) 1 1)).toArray, u 60, .bool (!b1), .bool true, .int .i64 0, u 64, u 65, u 66, u 67, u 68, u 69, u 70, u 71, u 72, u 73, u 74, u 75, u 76, u 77, u 78, u 79, u 80, u 81, u 82, u 83, u 84, u 85, u 86, u 87, u 88, u 89, u 90, u 91], []⟩ := ⟨fun i => ac.tmps.getD i undef, ha⟩
    clear ha
    refine unhide HIN _ _ _ _ ?_
    have hHeld : (SNl (tbl s0 (.slice (some ⟨g, 0, none⟩) l.length cap) (.int .i64 jj) (.slice ua un uc) (.slice la ln lc)) bt bx gx) X := (unhide hS).call GD
    refine wpAnyH_take (i := 9) (oi := ?oi20004) (v := ?v20004) ?hi20004 (by kernel_rfl) (by kernel_rfl) (by kernel_rfl) (fun _ _ _ h => h) (Or.inl ⟨?hw20004, ?hy20004⟩) (by assumption) ?rest20004
    case hi20004 => (simp only [List.getElem?_toArray, List.getElem?_cons_zero, List.getElem?_cons_succ]; rfl)
    case hw20004 => rfl
    case hy20004 => first | (intro wx hSw; go_simp; done) | (intro wx hSw; go_simp; with_reducible rfl)
    simp only [Act.put, List.setIfInBounds_toArray, List.set_cons_zero, List.set_cons_succ]
    refine wpAnyH_take (i := 10) (oi := ?oi20005) (v := ?v20005) ?hi20005 (by kernel_rfl) (by kernel_rfl) (by kernel_rfl) (fun _ _ _ h => h) (Or.inl ⟨?hw20005, ?hy20005⟩) (by assumption) ?rest20005
    case hi20005 => (simp only [List.getElem?_toArray, List.getElem?_cons_zero, List.getElem?_cons_succ]; rfl)
    case hw20005 => rfl
    case hy20005 => first | (intro wx hSw; go_simp; done) | (intro wx hSw; go_simp; with_reducible rfl)
    simp only [Act.put, List.setIfInBounds_toArray, List.set_cons_zero, List.set_cons_succ]
    refine wpAnyH_take (i := 11) (oi := ?oi20006) (v := ?v20006) ?hi20006 (by kernel_rfl) (by kernel_rfl) (by kernel_rfl) (fun _ _ _ h => h) (Or.inl ⟨?hw20006, ?hy20006⟩) (by assumption) ?rest20006
    case hi20006 => (simp only [List.getElem?_toArray, List.getElem?_cons_zero, List.getElem?_cons_succ]; rfl)
    case hw20006 => rfl
    case hy20006 => first | (intro wx hSw; go_simp; done) | (intro wx hSw; go_simp; with_reducible rfl)
    simp only [Act.put, List.setIfInBounds_toArray, List.set_cons_zero, List.set_cons_succ]
    refine wpAnyH_done (by kernel_rfl) ?_ _
    refine NoPanic.normal ?_
    skip
    exact unhide REST _ _ (by kernel_rfl) (hide ((unhide G).call GD)) (hide ((unhide hB).call GD)) (hide ((unhide hT).call GD)) (hide ((unhide hR).call GD)) (hide ((unhide hX).call GD)) (hide ((unhide hrx).call GD))
  have C2 := hide C2
  have C1 : ∀ (ac : Act) (gn : Nat) (X : World), ac = ⟨#[ac.tmps.getD 0 undef, ac.tmps.getD 1 undef, ac.tmps.getD 2 undef, ac.tmps.getD 3 undef, ac.tmps.getD 4 undef, ac.tmps.getD 5 undef, ac.tmps.getD 6 undef, ac.tmps.getD 7 undef, ac.tmps.getD 8 undef, ac.tmps.getD 9 undef, ac.tmps.getD 10 undef, .pointer (some ⟨bt, 0, none⟩), .slice (some ⟨gr, 0, none⟩) l.length cr, .int .i64 (j : Int), .pointer (some ⟨bx, 0, none⟩), .bool b1, .bool true, .int .i64 0, ac.tmps.getD 18 undef, ac.tmps.getD 19 undef, ac.tmps.getD 20 undef, ac.tmps.getD 21 undef, ac.tmps.getD 22 undef, ac.tmps.getD 23 undef, ac.tmps.getD 24 undef, ac.tmps.getD 25 undef, ac.tmps.getD 26 undef, ac.tmps.getD 27 undef, ac.tmps.getD 28 undef, ac.tmps.getD 29 undef, ac.tmps.getD 30 undef, ac.tmps.getD 31 undef, ac.tmps.getD 32 undef, ac.tmps.getD 33 undef, ac.tmps.getD 34 undef, ac.tmps.getD 35 undef, ac.tmps.getD 36 undef, ac.tmps.getD 37 undef, ac.tmps.getD 38 undef, ac.tmps.getD 39 undef, ac.tmps.getD 40 undef, ac.tmps.getD 41 undef, ac.tmps.getD 42 undef, ac.tmps.getD 43 undef, ac.tmps.getD 44 undef, ac.tmps.getD 45 undef, ac.tmps.getD 46 undef, ac.tmps.getD 47 undef, ac.tmps.getD 48 undef, ac.tmps.getD 49 undef, ac.tmps.getD 50 undef, ac.tmps.getD 51 undef, ac.tmps.getD 52 undef, ac.tmps.getD 53 undef, ac.tmps.getD 54 undef, ac.tmps.getD 55 undef, .agg #[.string s0, .slice (some ⟨g, 0, none⟩) l.length cap, .int .i64 jj, .slice ua un uc, .int .i64 0, .string ⟨#[]⟩, .int .i64 0, .int .i64 0, .int .i64 0, .string ⟨#[]⟩, .slice none 0 0, .slice la ln lc], .slice (some ⟨gr, 0, none⟩) l.length cr, .agg #[.int .i64 5, .string S0, .int .i64 0, .int .i64 0, .int .i64 0, .string S0, .slice (some ⟨gx, 0, none⟩) 1 1], .agg (exC (oneX 3 (oneX 5 (colX nm))) (.slice (some ⟨gn, 0, none⟩) 1 1)).toArray, ac.tmps.getD 60 undef, ac.tmps.getD 61 undef, ac.tmps.getD 62 undef, ac.tmps.getD 63 undef, ac.tmps.getD 64 undef, ac.tmps.getD 65 undef, ac.tmps.getD 66 undef, ac.tmps.getD 67 undef, ac.tmps.getD 68 undef, ac.tmps.getD 69 undef, ac.tmps.getD 70 undef, ac.tmps.getD 71 undef, ac.tmps.getD 72 undef, ac.tmps.getD 73 undef, ac.tmps.getD 74 undef, ac.tmps.getD 75 undef, ac.tmps.getD 76 undef, ac.tmps.getD 77 undef, ac.tmps.getD 78 undef, ac.tmps.getD 79 undef, ac.tmps.getD 80 undef, ac.tmps.getD 81 undef, ac.tmps.getD 82 undef, ac.tmps.getD 83 undef, ac.tmps.getD 84 undef, ac.tmps.getD 85 undef, ac.tmps.getD 86 undef, ac.tmps.getD 87 undef, ac.tmps.getD 88 undef, ac.tmps.getD 89 undef, ac.tmps.getD 90 undef, ac.tmps.getD 91 undef], []⟩ → Below Wd.heap.size Wd X → Hid (Rep (oneX 3 (oneX 5 (colX nm))) (.slice (some ⟨gn, 0, none⟩) 1 1) X) → GG 8 #[true, true, true, true, false, false, false, false, false, false, false, false] ac X := by
    intro ac gn X ha GD hrgn
    obtain ⟨u, rfl⟩ : ∃ u : Nat → Value, ac = ⟨#[u 0, u 1, u 2, u 3, u 4, u 5, u 6, u 7, u 8, u 9, u 10, .pointer (some ⟨bt, 0, none⟩), .slice (some ⟨gr, 0, none⟩) l.length cr, .int .i64 (j : Int), .pointer (some ⟨bx, 0, none⟩), .bool b1, .bool true, .int .i64 0, u 18, u 19, u 20, u 21, u 22, u 23, u 24, u 25, u 26, u 27, u 28, u 29, u 30, u 31, u 32, u 33, u 34, u 35, u 36, u 37, u 38, u 39, u 40, u 41, u 42, u 43, u 44, u 45, u 46, u 47, u 48, u 49, u 50, u 51, u 52, u 53, u 54, u 55, .agg #[.string s0, .slice (some ⟨g, 0, none⟩) l.length cap, .int .i64 jj, .slice ua un uc, .int .i64 0, .string ⟨#[]⟩, .int .i64 0, .int .i64 0, .int .i64 0, .string ⟨#[]⟩, .slice none 0 0, .slice la ln lc], .slice (some ⟨gr, 0, none⟩) l.length cr, .agg #[.int .i64 5, .string S0, .int .i64 0, .int .i64 0, .int .i64 0, .string S0, .slice (some ⟨gx, 0, none⟩) 1 1], .agg (exC (oneX 3 (oneX 5 (colX nm))) (.slice (some ⟨gn, 0, none⟩) 1 1)).toArray, u 60, u 61, u 62, u 63, u 64, u 65, u 66, u 67, u 68, u 69, u 70, u 71, u 72, u 73, u 74, u 75, u 76, u 77, u 78, u 79, u 80, u 81, u 82, u 83, u 84, u 85, u 86, u 87, u 88, u 89, u 90, u 91], []⟩ := ⟨fun i => ac.tmps.getD i undef, ha⟩
    clear ha
    refine unhide HIN _ _ _ _ ?_
    have hHeld : (SNl (tbl s0 (.slice (some ⟨g, 0, none⟩) l.length cap) (.int .i64 jj) (.slice ua un uc) (.slice la ln lc)) bt bx gx) X := (unhide hS).call GD
    refine wpAnyH_ready (rs := [4]) (by kernel_rfl) (by simp) ?_
    refine AllReadyH.cons rfl (fun K20007 hK20007 => ?_) AllReadyH.nil
    go_simp
    go_wp2_with (go_at_call 22; refine (unhide CH (.slice (some ⟨gn, 0, none⟩) 1 1) _ ((unhide hB).call GD).cols ((unhide hR).call GD).row (unhide hrgn)).mono ?_; rintro e X2 ⟨rfl, hb⟩)
    refine hK20007.out _ _ ?hs20007 (fun hH20007 => ?_)
    case hs20007 => exact hHeld.call hb
    clear hHeld
    have hHeld := hH20007; clear hH20007 hK20007 K20007
    refine wpAnyH_take (i := 5) (oi := ?oi20008) (v := ?v20008) ?hi20008 (by kernel_rfl) (by kernel_rfl) (by kernel_rfl) (fun _ _ _ h => h) (Or.inl ⟨?hw20008, ?hy20008⟩) (by assumption) ?rest20008
    case hi20008 => (simp only [List.getElem?_toArray, List.getElem?_cons_zero, List.getElem?_cons_succ]; rfl)
    case hw20008 => rfl
    case hy20008 => first | (intro wx hSw; go_simp; done) | (intro wx hSw; go_simp; with_reducible rfl)
    simp only [Act.put, List.setIfInBounds_toArray, List.set_cons_zero, List.set_cons_succ]
    refine wpAnyH_take (i := 6) (oi := ?oi20009) (v := ?v20009) ?hi20009 (by kernel_rfl) (by kernel_rfl) (by kernel_rfl) (fun _ _ _ h => h) (Or.inl ⟨?hw20009, ?hy20009⟩) (by assumption) ?rest20009
    case hi20009 => (simp only [List.getElem?_toArray, List.getElem?_cons_zero, List.getElem?_cons_succ]; rfl)
    case hw20009 => rfl
    case hy20009 => first | (intro wx hSw; go_simp; done) | (intro wx hSw; go_simp; with_reducible rfl)
    simp only [Act.put, List.setIfInBounds_toArray, List.set_cons_zero, List.set_cons_succ]
    refine wpAnyH_take (i := 7) (oi := ?oi20010) (v := ?v20010) ?hi20010 (by kernel_rfl) (by kernel_rfl) (by kernel_rfl) (fun _ _ _ h => h) (Or.inl ⟨?hw20010, ?hy20010⟩) (by assumption) ?rest20010
    case hi20010 => (simp only [List.getElem?_toArray, List.getElem?_cons_zero, List.getElem?_cons_succ]; rfl)
    case hw20010 => rfl
    case hy20010 => first | (intro wx hSw; go_simp; done) | (intro wx hSw; go_simp; with_reducible rfl)
    simp only [Act.put, List.setIfInBounds_toArray, List.set_cons_zero, List.set_cons_succ]
    refine wpAnyH_take (i := 8) (oi := ?oi20011) (v := ?v20011) ?hi20011 (by kernel_rfl) (by kernel_rfl) (by kernel_rfl) (fun _ _ _ h => h) (Or.inl ⟨?hw20011, ?hy20011⟩) (by assumption) ?rest20011
    case hi20011 => (simp only [List.getElem?_toArray, List.getElem?_cons_zero, List.getElem?_cons_succ]; rfl)
    case hw20011 => rfl
    case hy20011 => first | (intro wx hSw; go_simp; done) | (intro wx hSw; go_simp; with_reducible rfl)
    simp only [Act.put, List.setIfInBounds_toArray, List.set_cons_zero, List.set_cons_succ]
    refine unhide HOUT _ _ _ _ ?_
    exact unhide C2 _ gn _ (by kernel_rfl) (GD.trans (hb.mono GD.size)) (hide ((unhide hrgn).call hb))
  have C1 := hide C1
  have C0 : ∀ (ac : Act) (X : World), ac = ⟨#[ac.tmps.getD 0 undef, ac.tmps.getD 1 undef, ac.tmps.getD 2 undef, ac.tmps.getD 3 undef, ac.tmps.getD 4 undef, ac.tmps.getD 5 undef, ac.tmps.getD 6 undef, ac.tmps.getD 7 undef, ac.tmps.getD 8 undef, ac.tmps.getD 9 undef, ac.tmps.getD 10 undef, .pointer (some ⟨bt, 0, none⟩), .slice (some ⟨gr, 0, none⟩) l.length cr, .int .i64 (j : Int), .pointer (some ⟨bx, 0, none⟩), .bool b1, .bool true, .int .i64 0, ac.tmps.getD 18 undef, ac.tmps.getD 19 undef, ac.tmps.getD 20 undef, ac.tmps.getD 21 undef, ac.tmps.getD 22 undef, ac.tmps.getD 23 undef, ac.tmps.getD 24 undef, ac.tmps.getD 25 undef, ac.tmps.getD 26 undef, ac.tmps.getD 27 undef, ac.tmps.getD 28 undef, ac.tmps.getD 29 undef, ac.tmps.getD 30 undef, ac.tmps.getD 31 undef, ac.tmps.getD 32 undef, ac.tmps.getD 33 undef, ac.tmps.getD 34 undef, ac.tmps.getD 35 undef, ac.tmps.getD 36 undef, ac.tmps.getD 37 undef, ac.tmps.getD 38 undef, ac.tmps.getD 39 undef, ac.tmps.getD 40 undef, ac.tmps.getD 41 undef, ac.tmps.getD 42 undef, ac.tmps.getD 43 undef, ac.tmps.getD 44 undef, ac.tmps.getD 45 undef, ac.tmps.getD 46 undef, ac.tmps.getD 47 undef, ac.tmps.getD 48 undef, ac.tmps.getD 49 undef, ac.tmps.getD 50 undef, ac.tmps.getD 51 undef, ac.tmps.getD 52 undef, ac.tmps.getD 53 undef, ac.tmps.getD 54 undef, ac.tmps.getD 55 undef, .agg #[.string s0, .slice (some ⟨g, 0, none⟩) l.length cap, .int .i64 jj, .slice ua un uc, .int .i64 0, .string ⟨#[]⟩, .int .i64 0, .int .i64 0, .int .i64 0, .string ⟨#[]⟩, .slice none 0 0, .slice la ln lc], .slice (some ⟨gr, 0, none⟩) l.length cr, .agg #[.int .i64 5, .string S0, .int .i64 0, .int .i64 0, .int .i64 0, .string S0, .slice (some ⟨gx, 0, none⟩) 1 1], ac.tmps.getD 59 undef, ac.tmps.getD 60 undef, ac.tmps.getD 61 undef, ac.tmps.getD 62 undef, ac.tmps.getD 63 undef, ac.tmps.getD 64 undef, ac.tmps.getD 65 undef, ac.tmps.getD 66 undef, ac.tmps.getD 67 undef, ac.tmps.getD 68 undef, ac.tmps.getD 69 undef, ac.tmps.getD 70 undef, ac.tmps.getD 71 undef, ac.tmps.getD 72 undef, ac.tmps.getD 73 undef, ac.tmps.getD 74 undef, ac.tmps.getD 75 undef, ac.tmps.getD 76 undef, ac.tmps.getD 77 undef, ac.tmps.getD 78 undef, ac.tmps.getD 79 undef, ac.tmps.getD 80 undef, ac.tmps.getD 81 undef, ac.tmps.getD 82 undef, ac.tmps.getD 83 undef, ac.tmps.getD 84 undef, ac.tmps.getD 85 undef, ac.tmps.getD 86 undef, ac.tmps.getD 87 undef, ac.tmps.getD 88 undef, ac.tmps.getD 89 undef, ac.tmps.getD 90 undef, ac.tmps.getD 91 undef], []⟩ → Below Wd.heap.size Wd X → GG 9 #[true, true, true, false, false, false, false, false, false, false, false, false] ac X := by
    intro ac X ha GD
    obtain ⟨u, rfl⟩ : ∃ u : Nat → Value, ac = ⟨#[u 0, u 1, u 2, u 3, u 4, u 5, u 6, u 7, u 8, u 9, u 10, .pointer (some ⟨bt, 0, none⟩), .slice (some ⟨gr, 0, none⟩) l.length cr, .int .i64 (j : Int), .pointer (some ⟨bx, 0, none⟩), .bool b1, .bool true, .int .i64 0, u 18, u 19, u 20, u 21, u 22, u 23, u 24, u 25, u 26, u 27, u 28, u 29, u 30, u 31, u 32, u 33, u 34, u 35, u 36, u 37, u 38, u 39, u 40, u 41, u 42, u 43, u 44, u 45, u 46, u 47, u 48, u 49, u 50, u 51, u 52, u 53, u 54, u 55, .agg #[.string s0, .slice (some ⟨g, 0, none⟩) l.length cap, .int .i64 jj, .slice ua un uc, .int .i64 0, .string ⟨#[]⟩, .int .i64 0, .int .i64 0, .int .i64 0, .string ⟨#[]⟩, .slice none 0 0, .slice la ln lc], .slice (some ⟨gr, 0, none⟩) l.length cr, .agg #[.int .i64 5, .string S0, .int .i64 0, .int .i64 0, .int .i64 0, .string S0, .slice (some ⟨gx, 0, none⟩) 1 1], u 59, u 60, u 61, u 62, u 63, u 64, u 65, u 66, u 67, u 68, u 69, u 70, u 71, u 72, u 73, u 74, u 75, u 76, u 77, u 78, u 79, u 80, u 81, u 82, u 83, u 84, u 85, u 86, u 87, u 88, u 89, u 90, u 91], []⟩ := ⟨fun i => ac.tmps.getD i undef, ha⟩
    clear ha
    refine unhide HIN _ _ _ _ ?_
    have hHeld : (SNl (tbl s0 (.slice (some ⟨g, 0, none⟩) l.length cap) (.int .i64 jj) (.slice ua un uc) (.slice la ln lc)) bt bx gx) X := (unhide hS).call GD
    refine wpAnyH_ready (rs := [3]) (by kernel_rfl) (by simp) ?_
    refine AllReadyH.cons rfl (fun K20012 hK20012 => ?_) AllReadyH.nil
    go_simp
    go_wp2_with (go_at_call 28; refine (notL_any (oneX 5 (colX nm)) _ _ ((unhide hrx).call GD)).mono ?_; rintro e X2 ⟨gn, rfl, hrgn, hb⟩)
    refine hK20012.out _ _ ?hs20012 (fun hH20012 => ?_)
    case hs20012 => exact hHeld.call hb
    clear hHeld
    have hHeld := hH20012; clear hH20012 hK20012 K20012
    refine unhide HOUT _ _ _ _ ?_
    exact unhide C1 _ _ _ (by kernel_rfl) (GD.trans (hb.mono GD.size)) hrgn
  have C0 := hide C0
  exact unhide C0 _ _ (by kernel_rfl) (Below.refl _ _)
end Go.Proofs.Ytliefgkhpgigaaa

namespace Go.Proofs.Ytliefgkhpgigaaa
open Go.RowKit Go.Shelf
set_option linter.unusedSimpArgs false
set_option linter.unusedVariables false

set_option maxHeartbeats 32000000 in
set_option maxRecDepth 100000 in
theorem nlB {r0 r1 r2 r3 r4 r5 r6 r7 r8 rest : Code} (hc : Try.f6.body = some (.seq r0 (.seq r1 (.seq r2 (.seq r3 (.seq r4 (.seq r5 (.seq r6 (.seq r7 (.seq r8 (rest))))))))))) (w : World) (s0 : ByteArray) (jj : Int) (ua : Option Addr) (un uc : Nat) (la : Option Addr) (ln lc : Nat) (g cap : Nat) (l : List C3) (gr cr : Nat) (lr : List V4) (j : Nat) (bt bx gx : Nat) (nm : ByteArray) (b1 : Bool) (v1 : Int) (hb1 : b1 = (v1 == 0)) (hlr : lr.length = l.length) (hjl : j < lr.length) (hv : lr[j].1 = v1) (ac : Act) (X : World) (ha : ac = ⟨#[ac.tmps.getD 0 undef, ac.tmps.getD 1 undef, ac.tmps.getD 2 undef, ac.tmps.getD 3 undef, ac.tmps.getD 4 undef, ac.tmps.getD 5 undef, ac.tmps.getD 6 undef, ac.tmps.getD 7 undef, ac.tmps.getD 8 undef, ac.tmps.getD 9 undef, ac.tmps.getD 10 undef, .pointer (some ⟨bt, 0, none⟩), .slice (some ⟨gr, 0, none⟩) l.length cr, .int .i64 (j : Int), .pointer (some ⟨bx, 0, none⟩), .bool b1, .bool true, .int .i64 0, .bool (!b1), .bool true, .int .i64 0, ac.tmps.getD 21 undef, ac.tmps.getD 22 undef, ac.tmps.getD 23 undef, ac.tmps.getD 24 undef, ac.tmps.getD 25 undef, ac.tmps.getD 26 undef, ac.tmps.getD 27 undef, ac.tmps.getD 28 undef, ac.tmps.getD 29 undef, ac.tmps.getD 30 undef, ac.tmps.getD 31 undef, ac.tmps.getD 32 undef, ac.tmps.getD 33 undef, ac.tmps.getD 34 undef, ac.tmps.getD 35 undef, ac.tmps.getD 36 undef, ac.tmps.getD 37 undef, ac.tmps.getD 38 undef, ac.tmps.getD 39 undef, ac.tmps.getD 40 undef, ac.tmps.getD 41 undef, ac.tmps.getD 42 undef, ac.tmps.getD 43 undef, ac.tmps.getD 44 undef, ac.tmps.getD 45 undef, ac.tmps.getD 46 undef, ac.tmps.getD 47 undef, ac.tmps.getD 48 undef, ac.tmps.getD 49 undef, ac.tmps.getD 50 undef, ac.tmps.getD 51 undef, ac.tmps.getD 52 undef, ac.tmps.getD 53 undef, ac.tmps.getD 54 undef, ac.tmps.getD 55 undef, ac.tmps.getD 56 undef, ac.tmps.getD 57 undef, ac.tmps.getD 58 undef, ac.tmps.getD 59 undef, ac.tmps.getD 60 undef, ac.tmps.getD 61 undef, ac.tmps.getD 62 undef, ac.tmps.getD 63 undef, ac.tmps.getD 64 undef, ac.tmps.getD 65 undef, ac.tmps.getD 66 undef, ac.tmps.getD 67 undef, ac.tmps.getD 68 undef, ac.tmps.getD 69 undef, ac.tmps.getD 70 undef, ac.tmps.getD 71 undef, ac.tmps.getD 72 undef, ac.tmps.getD 73 undef, ac.tmps.getD 74 undef, ac.tmps.getD 75 undef, ac.tmps.getD 76 undef, ac.tmps.getD 77 undef, ac.tmps.getD 78 undef, ac.tmps.getD 79 undef, ac.tmps.getD 80 undef, ac.tmps.getD 81 undef, ac.tmps.getD 82 undef, ac.tmps.getD 83 undef, ac.tmps.getD 84 undef, ac.tmps.getD 85 undef, ac.tmps.getD 86 undef, ac.tmps.getD 87 undef, ac.tmps.getD 88 undef, ac.tmps.getD 89 undef, ac.tmps.getD 90 undef, ac.tmps.getD 91 undef], []⟩) (G : Hid (Grown w X)) (hB : Hid (ColB g l X)) (hT : Hid (Blk bt (tbl s0 (.slice (some ⟨g, 0, none⟩) l.length cap) (.int .i64 jj) (.slice ua un uc) (.slice la ln lc)) 34 X)) (hR : Hid (RowB gr lr X)) (hX : Hid (Blk bx #[.int .i64 5, .string S0, .int .i64 0, .int .i64 0, .int .i64 0, .string S0, .slice (some ⟨gx, 0, none⟩) 1 1] 31 X)) (hrx : Hid (Rep (oneX 5 (colX nm)) (.slice (some ⟨gx, 0, none⟩) 1 1) X)) : rest.wp Try.prog (bodyPost Try.prog Try.f6 (fun e w' => e = .returned (.bool true) ∧ Below w.heap.size w w')) ac X := by
  obtain ⟨u, rfl⟩ : ∃ u : Nat → Value, ac = ⟨#[u 0, u 1, u 2, u 3, u 4, u 5, u 6, u 7, u 8, u 9, u 10, .pointer (some ⟨bt, 0, none⟩), .slice (some ⟨gr, 0, none⟩) l.length cr, .int .i64 (j : Int), .pointer (some ⟨bx, 0, none⟩), .bool b1, .bool true, .int .i64 0, .bool (!b1), .bool true, .int .i64 0, u 21, u 22, u 23, u 24, u 25, u 26, u 27, u 28, u 29, u 30, u 31, u 32, u 33, u 34, u 35, u 36, u 37, u 38, u 39, u 40, u 41, u 42, u 43, u 44, u 45, u 46, u 47, u 48, u 49, u 50, u 51, u 52, u 53, u 54, u 55, u 56, u 57, u 58, u 59, u 60, u 61, u 62, u 63, u 64, u 65, u 66, u 67, u 68, u 69, u 70, u 71, u 72, u 73, u 74, u 75, u 76, u 77, u 78, u 79, u 80, u 81, u 82, u 83, u 84, u 85, u 86, u 87, u 88, u 89, u 90, u 91], []⟩ := ⟨fun i => ac.tmps.getD i undef, ha⟩
  clear ha
  unfold Try.f6 at hc
  cases hc
  obtain ⟨g9, e9, l9, a0, a1, a2, a3⟩ := (unhide hR).row.2 j hjl
  cases e9
  rw [hv] at a0
  have hji : (j : Int) < l.length := by omega
  clear a1 a2 a3
  by_cases h0 : v1 = 0
  · subst h0
    have hb : b1 = true := hb1
    clear hb1 hv hlr hjl
    subst hb
    go_wp2_with fail
    go_ret
    exact ⟨by simp, unhide G⟩
  · have hb : b1 = false := by rw [hb1]; simpa using h0
    clear hb1 hv hlr hjl
    subst hb
    have h0b : (v1 == 0) = false := by simpa using h0
    go_wp2_with fail
    go_ret
    exact ⟨by simp [h0b], unhide G⟩
end Go.Proofs.Ytliefgkhpgigaaa

namespace Go.Proofs.Ytliefgkhpgigaaa
open Go.RowKit Go.Shelf
set_option linter.unusedSimpArgs false
set_option linter.unusedVariables false

set_option maxHeartbeats 32000000 in
set_option maxRecDepth 100000 in
theorem evalNulls_walk (n : Int) (v1 : Value) (zs : List Int) (v2 : Value) (ys : List Int) (s : ByteArray) (at_ : Int) (w0 : Is64 n) (w3 : s.size ≤ maxLen) (w4 : Is64 at_) (w : World) (h1 : Ints v1 zs w) (h2 : Ints v2 ys w) :
    Calls Try.prog 6 #[.int .i64 n, v1, v2, .string s, .int .i64 at_] w fun e w' => e = .returned (.bool true) ∧ Below w.heap.size w w' := by
  obtain ⟨p, np, rfl, hz⟩ := h1.parts
  obtain ⟨q, nq, rfl, hy⟩ := h2.parts
  have HZ := hide hz
  have HY := hide hy
  have CTB := hide (fun W (h : IntsP p zs W) => table_any n p np zs W w0 h)
  have CAT := hide (fun (m : Int) W hm => within4_any at_ m W w4 hm)
  clear h1 h2 hz hy w0 w4
  by_cases hs : (s.size : Int) > 60
  · go_enter Try.func6, Try.ntmps6
    go_wp2_with fail
    refine (known4_any _).mono ?_
    rintro e W1 ⟨rfl, hb⟩
    go_wp2_with fail
    go_ret
    exact ⟨rfl, hb⟩
  · have hs2 : s.size ≤ 100 := by omega
    go_enter Try.func6, Try.ntmps6
    go_wp2_with fail
    refine (known4_any _).mono ?_
    rintro e W1 ⟨rfl, hb⟩
    have G : Hid (Grown w W1) := hb
    replace HZ := hide ((unhide HZ).call hb)
    replace HY := hide ((unhide HY).call hb)
    clear hb
    go_wp2_with fail
    refine (unhide CTB _ (unhide HZ)).mono ?_
    rintro e W2 ⟨s0, jj, ua, un, uc, la, ln, lc, g, cap, l, rfl, ⟨hl1, hl4⟩, hL, hB, hb⟩
    have gg := below_new W2 (.cells #[.string s0, .slice (some ⟨g, 0, none⟩) l.length cap, .int .i64 jj, .slice ua un uc, .int .i64 0, .string ⟨#[]⟩, .int .i64 0, .int .i64 0, .int .i64 0, .string ⟨#[]⟩, .slice none 0 0, .slice la ln lc] 34)
    have hT := hide (Blk.new W2 #[.string s0, .slice (some ⟨g, 0, none⟩) l.length cap, .int .i64 jj, .slice ua un uc, .int .i64 0, .string ⟨#[]⟩, .int .i64 0, .int .i64 0, .int .i64 0, .string ⟨#[]⟩, .slice none 0 0, .slice la ln lc] 34)
    replace G := hide (((unhide G).call hb).call gg)
    replace HY := hide (((unhide HY).call hb).call gg)
    replace hB := hide (hB.call gg)
    have HL := hide hL
    clear hb gg CTB HZ hL
    have lt_ := (unhide hT).lt
    have t0 := (unhide hT).cell 0
    have t1 := (unhide hT).cell 1
    have t2 := (unhide hT).cell 2
    have t3 := (unhide hT).cell 3
    have t4 := (unhide hT).cell 4
    have t5 := (unhide hT).cell 5
    have t6 := (unhide hT).cell 6
    have t7 := (unhide hT).cell 7
    have t8 := (unhide hT).cell 8
    have t9 := (unhide hT).cell 9
    have t10 := (unhide hT).cell 10
    have t11 := (unhide hT).cell 11
    simp at t0 t1 t2 t3 t4 t5 t6 t7 t8 t9 t10 t11
    go_wp2_with fail
    generalize W2.alloc (.cells #[.string s0, .slice (some ⟨g, 0, none⟩) l.length cap, .int .i64 jj, .slice ua un uc, .int .i64 0, .string ⟨#[]⟩, .int .i64 0, .int .i64 0, .int .i64 0, .string ⟨#[]⟩, .slice none 0 0, .slice la ln lc] 34) = X at *
    generalize W2.heap.size = bt at *
    refine (row4_any (.string s0) (.int .i64 jj) (.slice ua un uc) (.int .i64 0) (.string ⟨#[]⟩) (.int .i64 0) (.int .i64 0) (.int .i64 0) (.string ⟨#[]⟩) (.slice none 0 0) (.slice la ln lc) g cap l q nq ys s _ (unhide hB).cols (fun i hi => by have := unhide HL i hi; omega) (unhide HY) hs2).mono ?_
    rintro e X2 ⟨v, rfl, lr, hlr, hmk, ho, hb⟩
    obtain ⟨gr, cr, cur, rfl, hge, hgb, hc, hr⟩ := row_own (by omega) ho (by rintro rfl; simp at hlr; omega)
    have hR : Hid (RowB gr lr X2) := hide ⟨by omega, cur, hgb, hc⟩
    rw [hlr]
    replace G := hide ((unhide G).call hb)
    replace hB := hide ((unhide hB).call hb)
    replace hT := hide ((unhide hT).call hb)
    have HM := hide hmk
    clear hb hgb hc hr hge ho hmk HY lt_ t0 t1 t2 t3 t4 t5 t6 t7 t8 t9 t10 t11
    have lt_ := (unhide hT).lt
    have t1 := (unhide hT).cell 1
    simp at t1
    have q0 := Int.emod_nonneg at_ (show ((l.length : Nat) : Int) ≠ 0 by omega)
    have q1 := Int.emod_lt_of_pos at_ (show (0 : Int) < (l.length : Nat) by omega)
    obtain ⟨j, hj⟩ : ∃ j : Nat, at_ % ((l.length : Nat) : Int) = (j : Int) := ⟨(at_ % ((l.length : Nat) : Int)).toNat, by omega⟩
    have hjl : j < l.length := by omega
    have hji : (j : Int) < l.length := by omega
    have CJ := hide (fun W => unhide CAT (l.length : Int) W (by omega))
    rw [hj] at CJ
    clear CAT hj q0 q1
    go_wp2_with fail
    refine (unhide CJ _).mono ?_
    rintro e X3 ⟨rfl, rfl⟩
    obtain ⟨nm, hnm⟩ : ∃ nm, nmK j = nm := ⟨_, rfl⟩
    have lg := (unhide hB).lt
    have n0_ : X3.cell? ⟨g, j * 3, none⟩ = some (.string nm) := by rw [((unhide hB).at j hjl).1, (unhide HL j hjl).1, hnm]
    have hjr : j < lr.length := by omega
    have hval : valR nm l lr = (lr[j], 0) := hnm ▸ nmK_val (unhide HL) hl4 hlr j hjl
    have H5 := hide (holds_n5 hval)
    have H3 := hide (holds_n3 hval)
    obtain ⟨v1, hv1⟩ : ∃ v1, lr[j].1 = v1 := ⟨_, rfl⟩
    rw [hv1] at H5 H3
    obtain ⟨b1, hb1⟩ : ∃ b1, b1 = (v1 == 0) := ⟨_, rfl⟩
    rw [← hb1] at H5 H3
    have HB1 := hide hb1
    have HV1 := hide hv1
    clear hval hnm hb1 hv1 HL CJ
    go_wp2_with fail
    refine (colL_any nm _).mono ?_
    rintro e Y1 ⟨rfl, hb⟩
    have g2 := below_2 Y1 (.cells #[.int .i64 (colX nm).k, .string (colX nm).nm, .int .i64 (colX nm).v.1, .int .i64 (colX nm).v.2.1, .int .i64 (colX nm).v.2.2.1, .string (colX nm).v.2.2.2, N0] 31) (.cells #[.int .i64 5, .string ⟨#[]⟩, .int .i64 0, .int .i64 0, .int .i64 0, .string ⟨#[]⟩, .slice (some ⟨Y1.heap.size, 0, none⟩) 1 1] 31)
    have hrx : Rep (oneX 5 (colX nm)) (.slice (some ⟨Y1.heap.size, 0, none⟩) 1 1) (Y1.alloc (.cells #[.int .i64 (colX nm).k, .string (colX nm).nm, .int .i64 (colX nm).v.1, .int .i64 (colX nm).v.2.1, .int .i64 (colX nm).v.2.2.1, .string (colX nm).v.2.2.2, N0] 31)) := ⟨_, _, N0, rfl, cells_of (Blk.new Y1 #[.int .i64 (colX nm).k, .string (colX nm).nm, .int .i64 (colX nm).v.1, .int .i64 (colX nm).v.2.1, .int .i64 (colX nm).v.2.2.1, .string (colX nm).v.2.2.2, N0] 31) rfl, rfl⟩
    replace hrx := hide (hrx.call (below_new _ (.cells #[.int .i64 5, .string ⟨#[]⟩, .int .i64 0, .int .i64 0, .int .i64 0, .string ⟨#[]⟩, .slice (some ⟨Y1.heap.size, 0, none⟩) 1 1] 31)))
    have hX := Blk.new (Y1.alloc (.cells #[.int .i64 (colX nm).k, .string (colX nm).nm, .int .i64 (colX nm).v.1, .int .i64 (colX nm).v.2.1, .int .i64 (colX nm).v.2.2.1, .string (colX nm).v.2.2.2, N0] 31)) #[.int .i64 5, .string ⟨#[]⟩, .int .i64 0, .int .i64 0, .int .i64 0, .string ⟨#[]⟩, .slice (some ⟨Y1.heap.size, 0, none⟩) 1 1] 31
    rw [World.size_alloc] at hX
    replace hX := hide hX
    have TY := (unhide hT).call hb
    replace G := hide (((unhide G).call hb).call g2)
    replace hB := hide (((unhide hB).call hb).call g2)
    replace hT := hide (((unhide hT).call hb).call g2)
    replace hR := hide (((unhide hR).call hb).call g2)
    clear hb g2 n0_ lt_ t1 lg
    have lty := TY.lt
    have lt_ := (unhide hT).lt
    have t0 := TY.cell 0
    have t1 := TY.cell 1
    have t2 := TY.cell 2
    have t3 := TY.cell 3
    have t4 := TY.cell 4
    have t5 := TY.cell 5
    have t6 := TY.cell 6
    have t7 := TY.cell 7
    have t8 := TY.cell 8
    have t9 := TY.cell 9
    have t10 := TY.cell 10
    have t11 := TY.cell 11
    clear TY
    have lx_ := (unhide hX).lt
    have y0 := (unhide hX).cell 0
    have y1 := (unhide hX).cell 1
    have y2 := (unhide hX).cell 2
    have y3 := (unhide hX).cell 3
    have y4 := (unhide hX).cell 4
    have y5 := (unhide hX).cell 5
    have y6 := (unhide hX).cell 6
    simp at t0 t1 t2 t3 t4 t5 t6 t7 t8 t9 t10 t11 y0 y1 y2 y3 y4 y5 y6
    have CH : Hid (∀ (gx : Nat) (W : World), ColsOf (.slice (some ⟨g, 0, none⟩) l.length cap) l W → RowOf (some ⟨gr, 0, none⟩) lr W → Rep (oneX 5 (colX nm)) (.slice (some ⟨gx, 0, none⟩) 1 1) W → Calls Try.prog 22 #[.agg #[.string s0, .slice (some ⟨g, 0, none⟩) l.length cap, .int .i64 jj, .slice ua un uc, .int .i64 0, .string ⟨#[]⟩, .int .i64 0, .int .i64 0, .int .i64 0, .string ⟨#[]⟩, .slice none 0 0, .slice la ln lc], .slice (some ⟨gr, 0, none⟩) l.length cr, .agg (exC (oneX 5 (colX nm)) (.slice (some ⟨gx, 0, none⟩) 1 1)).toArray] W (Fin3 (b1, true, 0) W)) := by
      intro gx W h1 h2 h3
      have h := holds_any (.string s0) (.int .i64 jj) (.slice ua un uc) (.int .i64 0) (.string ⟨#[]⟩) (.int .i64 0) (.int .i64 0) (.int .i64 0) (.string ⟨#[]⟩) (.slice none 0 0) (.slice la ln lc) (.slice (some ⟨g, 0, none⟩) l.length cap) l (some ⟨gr, 0, none⟩) lr cr (oneX 5 (colX nm)) (.slice (some ⟨gx, 0, none⟩) 1 1) W h1 h2 (fun v hv => (unhide HM v hv).ok) (show 2 ≤ 1000 by decide) h3 (ok_one (ok_col _))
      rw [hlr, unhide H5] at h
      exact h
    go_wp2_with fail
    generalize (Y1.alloc (.cells #[.int .i64 (colX nm).k, .string (colX nm).nm, .int .i64 (colX nm).v.1, .int .i64 (colX nm).v.2.1, .int .i64 (colX nm).v.2.2.1, .string (colX nm).v.2.2.2, N0] 31)).alloc (.cells #[.int .i64 5, .string ⟨#[]⟩, .int .i64 0, .int .i64 0, .int .i64 0, .string ⟨#[]⟩, .slice (some ⟨Y1.heap.size, 0, none⟩) 1 1] 31) = X4 at *
    generalize Y1.heap.size + 1 = bx at *
    generalize Y1.heap.size = gx at *
    refine (unhide CH gx _ (unhide hB).cols (unhide hR).row (unhide hrx)).mono ?_
    rintro e X5 ⟨rfl, hb⟩
    replace G := hide ((unhide G).call hb)
    replace hB := hide ((unhide hB).call hb)
    replace hT := hide ((unhide hT).call hb)
    replace hR := hide ((unhide hR).call hb)
    replace hX := hide ((unhide hX).call hb)
    replace hrx := hide ((unhide hrx).call hb)
    clear hb CH lt_ lty lx_ t0 t1 t2 t3 t4 t5 t6 t7 t8 t9 t10 t11 y0 y1 y2 y3 y4 y5 y6
    go_wp2_with fail
    rename_i K9 hk9
    refine nlA rfl w s0 jj ua un uc la ln lc g cap l gr cr lr j bt bx gx nm b1 hlr HM H3 K9 _ (hide ?_) _ X5 (by kernel_rfl) G hB hT hR hX hrx
    clear G hB hT hR hX hrx
    intro ac X ha G hB hT hR hX hrx
    exact hk9 _ _ (nlB rfl w s0 jj ua un uc la ln lc g cap l gr cr lr j bt bx gx nm b1 v1 (unhide HB1) hlr hjr (unhide HV1) ac X ha G hB hT hR hX hrx)
end Go.Proofs.Ytliefgkhpgigaaa

namespace Go.Proofs.Ytliefgkhpgigaaa
open Go.ChangeShapes Go.WideShapes Go.ChangeAt Go.RowKit
set_option linter.unusedVariables false

theorem is64_litQ {n : Int} (h : (Lit.int .i64 n).wf = true) : Is64 n := bounds_i64 h
theorem laidOut : laidOutB Try.prog = true := by kernel_rfl
theorem cellsInt : Try.prog.cellsOf 3 = 1 := by kernel_rfl
set_option maxRecDepth 100000 in
theorem ints_of {H : Type} {enc : TypeId × Value → H} {W : World} {base : Nat} {v : Value} {d : DataW H} {p : List MemPlace} (hval : Value.okWide Try.prog W .any base 22 v) (h : DataW.Trod enc Try.prog W 0 (fun _ => true) true 22 v d p) : ∃ zs, Ints v zs W := by
  obtain ⟨a0, len, cap, rfl⟩ := okWide_slice Try.underlying22 hval
  obtain ⟨fuel, hf⟩ := h
  rcases open_ints Try.underlying22 Try.underlying3 cellsInt hf with ⟨hcs, hx⟩ | ⟨a, len', cap', zs, hcs, _, hl, hm, hz, hx, hcell, hwz⟩
  · simp [Value.cells] at hcs
    obtain ⟨rfl, rfl, rfl⟩ := hcs
    exact ⟨[], .inl ⟨rfl, rfl⟩⟩
  · simp [Value.cells] at hcs
    obtain ⟨rfl, rfl, rfl⟩ := hcs
    simp only [if_true] at hz
    have hl2 : (zs.take len).length = len := by rw [List.length_take]; omega
    refine ⟨zs.take len, .inr ⟨a, cap, by rw [hl2], by rw [hl2]; exact Nat.le_trans hl hm, fun i hi => ?_⟩⟩
    rw [hl2] at hi
    have hi' : i < zs.length := by omega
    have hc := hcell i hi'
    have e : zs.getD i 0 = (zs.take len)[i]'(by rw [hl2]; exact hi) := by simp [List.getD, hi']
    rw [e] at hc
    refine ⟨hc, World.block_lt_of_cell? W _ hc, ?_⟩
    have hw := hwz (zs[i]) (List.getElem_mem hi')
    have e2 : (zs.take len)[i]'(by rw [hl2]; exact hi) = zs[i] := by simp
    rw [e2]
    exact is64_litQ hw
end Go.Proofs.Ytliefgkhpgigaaa

