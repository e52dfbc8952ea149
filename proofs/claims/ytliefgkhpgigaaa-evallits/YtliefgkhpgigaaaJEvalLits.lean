/-
  What the law EvalLits needs: its rows, its expressions, its walk.
-/
import Derived.Test.YtliefgkhpgigaaaVRw
import Derived.Test.YtliefgkhpgigaaaVTbC
import Derived.Test.YtliefgkhpgigaaaVTbD
import Derived.Test.YtliefgkhpgigaaaVTb0
import Derived.OpenShut
import Derived.ProofKit
import Derived.Carry
namespace Go.Proofs.Ytliefgkhpgigaaa
open Go.RowKit Go.Shelf
set_option linter.unusedSimpArgs false
set_option linter.unusedVariables false

/-- a row in a block of its own -/
def RowB (g : Nat) (l : List V4) (W : World) : Prop := l.length ≤ 1000 ∧ ∃ cur, W.heap[g]? = some (.cells cur 28 (0, 0)) ∧ ∀ j, j < l.length * 4 → cur[j]? = (rowC l)[j]?
theorem RowB.call {g : Nat} {l : List V4} {W W' : World} (h : RowB g l W) (hb : Below W.heap.size W W') : RowB g l W' := by
  obtain ⟨h0, cur, h1, h2⟩ := h
  exact ⟨h0, cur, (hb.block g (Array.getElem?_eq_some_iff.1 h1).1).trans h1, h2⟩
theorem RowB.row {g : Nat} {l : List V4} {W : World} (h : RowB g l W) : RowOf (some ⟨g, 0, none⟩) l W := by
  obtain ⟨h0, cur, hgb, hc⟩ := h
  refine ⟨h0, fun i hi => ⟨g, rfl, (Array.getElem?_eq_some_iff.1 hgb).1, ?_⟩⟩
  obtain ⟨a1, a2, a3, a4⟩ := rowC_at l i hi
  exact ⟨(cell_of_row W g _ cur _ _ hgb).trans ((hc _ (by omega)).trans a1), (cell_of_row W g _ cur _ _ hgb).trans ((hc _ (by omega)).trans a2), (cell_of_row W g _ cur _ _ hgb).trans ((hc _ (by omega)).trans a3), (cell_of_row W g _ cur _ _ hgb).trans ((hc _ (by omega)).trans a4)⟩
theorem RowB.lt {g : Nat} {l : List V4} {W : World} (h : RowB g l W) : g < W.heap.size := by
  obtain ⟨_, cur, h1, _⟩ := h
  exact (Array.getElem?_eq_some_iff.1 h1).1
theorem RowB.froz {g : Nat} {l : List V4} {W : World} (h : RowB g l W) (j : Nat) : W.frozen? ⟨g, j, none⟩ = false := by
  obtain ⟨_, cur, h1, _⟩ := h
  simp [World.frozen?, h1]
theorem RowB.far {g b : Nat} {l : List V4} {W : World} (h : RowB g l W) (hne : g ≠ b) (j : Nat) (y : Value) : RowB g l (W.setCell ⟨b, j, none⟩ y) := by
  obtain ⟨h0, cur, h1, h2⟩ := h
  exact ⟨h0, cur, (Below.heap_setCell _ _ _ _ (by simp; omega)).trans h1, h2⟩
theorem rowC_set : ∀ (l : List V4) (k : Nat) (x : V4) (j : Nat), k < l.length → (rowC (l.set k x))[j]? = if j = k * 4 then some (.int .i64 x.1) else if j = k * 4 + 1 then some (.int .i64 x.2.1) else if j = k * 4 + 2 then some (.int .i64 x.2.2.1) else if j = k * 4 + 3 then some (.string x.2.2.2) else (rowC l)[j]?
  | [], k, x, j, h => absurd h (by simp)
  | y :: l, 0, x, j, h => by
    show (vC x ++ rowC l)[j]? = _
    match j with
    | 0 => rfl
    | 1 => rfl
    | 2 => rfl
    | 3 => rfl
    | j + 4 =>
      rw [if_neg (by omega), if_neg (by omega), if_neg (by omega), if_neg (by omega)]
      show _ = (vC y ++ rowC l)[j + 4]?
      rw [List.getElem?_append_right (by simp [vC]), List.getElem?_append_right (by simp [vC])]
      rfl
  | y :: l, k + 1, x, j, h => by
    show (vC y ++ rowC (l.set k x))[j]? = _
    have ih := rowC_set l k x (j - 4) (by simpa using h)
    by_cases hj : j < 4
    · rw [if_neg (by omega), if_neg (by omega), if_neg (by omega), if_neg (by omega)]
      show _ = (vC y ++ rowC l)[j]?
      rw [List.getElem?_append_left (by simp [vC]; omega), List.getElem?_append_left (by simp [vC]; omega)]
    · rw [List.getElem?_append_right (by simp [vC]; omega), show (vC y).length = 4 from rfl, ih]
      show _ = if _ then _ else if _ then _ else if _ then _ else if _ then _ else (vC y ++ rowC l)[j]?
      rw [List.getElem?_append_right (by simp [vC]; omega), show (vC y).length = 4 from rfl]
      by_cases h1 : j = (k + 1) * 4
      · rw [if_pos h1, if_pos (by omega)]
      · rw [if_neg h1, if_neg (by omega)]
        by_cases h2 : j = (k + 1) * 4 + 1
        · rw [if_pos h2, if_pos (by omega)]
        · rw [if_neg h2, if_neg (by omega)]
          by_cases h3 : j = (k + 1) * 4 + 2
          · rw [if_pos h3, if_pos (by omega)]
          · rw [if_neg h3, if_neg (by omega)]
            by_cases h4 : j = (k + 1) * 4 + 3
            · rw [if_pos h4, if_pos (by omega)]
            · rw [if_neg h4, if_neg (by omega)]
theorem RowB.set {g k : Nat} {l : List V4} {W : World} (h : RowB g l W) (hk : k < l.length) (x : V4) : RowB g (l.set k x) ((((W.setCell ⟨g, k * 4, none⟩ (.int .i64 x.1)).setCell ⟨g, k * 4 + 1, none⟩ (.int .i64 x.2.1)).setCell ⟨g, k * 4 + 2, none⟩ (.int .i64 x.2.2.1)).setCell ⟨g, k * 4 + 3, none⟩ (.string x.2.2.2)) := by
  obtain ⟨h0, cur, h1, h2⟩ := h
  refine ⟨by simpa using h0, _, heapSet (heapSet (heapSet (heapSet h1 _ _) _ _) _ _) _ _, fun j hj => ?_⟩
  rw [List.length_set] at hj
  have hs : ∀ i, i < l.length * 4 → i < cur.size := fun i hi => by
    have e := h2 i hi
    have : (rowC l)[i]? ≠ none := by rw [List.getElem?_eq_getElem (by rw [rowC_len]; exact hi)]; simp
    rw [← e] at this
    exact Nat.lt_of_not_le (fun hle => this (Array.getElem?_eq_none_iff.2 hle))
  rw [rowC_set l k x j hk]
  have a0 := hs (k * 4) (by omega)
  have a1 := hs (k * 4 + 1) (by omega)
  have a2 := hs (k * 4 + 2) (by omega)
  have a3 := hs (k * 4 + 3) (by omega)
  simp only [Array.getElem?_setIfInBounds, Array.size_setIfInBounds]
  by_cases e3 : j = k * 4 + 3
  · subst e3; rw [if_pos rfl, if_pos a3, if_neg (by omega), if_neg (by omega), if_neg (by omega), if_pos rfl]
  · rw [if_neg (by omega)]
    by_cases e2 : j = k * 4 + 2
    · subst e2; rw [if_pos rfl, if_pos a2, if_neg (by omega), if_neg (by omega), if_pos rfl]
    · rw [if_neg (by omega)]
      by_cases e1 : j = k * 4 + 1
      · subst e1; rw [if_pos rfl, if_pos a1, if_neg (by omega), if_pos rfl]
      · rw [if_neg (by omega)]
        by_cases e0 : j = k * 4
        · subst e0; rw [if_pos rfl, if_pos a0, if_pos rfl]
        · rw [if_neg (by omega), if_neg e0, if_neg e1, if_neg e2, if_neg e3]; exact h2 j hj
end Go.Proofs.Ytliefgkhpgigaaa

namespace Go.Proofs.Ytliefgkhpgigaaa
open Go.RowKit Go.Shelf
set_option linter.unusedSimpArgs false
set_option linter.unusedVariables false

def AtW2 (w : World) (b : Nat) : Prop := w.heap.size ≤ b
/-- what Table returns and leaves -/
def TabR (w : World) (e : Ending) (W : World) : Prop := ∃ (s0 : ByteArray) (jj : Int) (ua : Option Addr) (un uc : Nat) (la : Option Addr) (ln lc : Nat) (g cap : Nat) (l : List C3), e = .returned (.agg (tbl s0 (.slice (some ⟨g, 0, none⟩) l.length cap) (.int .i64 jj) (.slice ua un uc) (.slice la ln lc))) ∧ (1 ≤ l.length ∧ l.length ≤ 4) ∧ ColsL l ∧ ColB g l W ∧ Below w.heap.size w W
set_option maxHeartbeats 16000000 in
set_option maxRecDepth 100000 in
theorem tbE {r0 r1 r2 r3 r4 r5 r6 r7 rest : Code} (hc : Try.f14.body = some (.seq r0 (.seq r1 (.seq r2 (.seq r3 (.seq r4 (.seq r5 (.seq r6 (.seq r7 (rest)))))))))) (w : World) (b6 bt : Nat) (h6t : b6 ≠ bt) (hw6 : w.heap.size ≤ b6) (n : Int) (k : Nat) (s0 : ByteArray) (g cap : Nat) (hg6 : g ≠ b6) (l : List C3) (hlk : l.length = k) (hk1 : 1 ≤ k) (hk4 : k ≤ 4) (hL : ColsL l) (jj : Int) (ua la_ : Option Addr) (un uc ln lc_ : Nat) (ac : Act) (X : World) (ha : ac = ⟨#[ac.tmps.getD 0 undef, ac.tmps.getD 1 undef, ac.tmps.getD 2 undef, ac.tmps.getD 3 undef, ac.tmps.getD 4 undef, ac.tmps.getD 5 undef, .pointer (some ⟨b6, 0, none⟩), .pointer (some ⟨bt, 0, none⟩), ac.tmps.getD 8 undef, ac.tmps.getD 9 undef, ac.tmps.getD 10 undef, ac.tmps.getD 11 undef, ac.tmps.getD 12 undef, ac.tmps.getD 13 undef, ac.tmps.getD 14 undef, ac.tmps.getD 15 undef, ac.tmps.getD 16 undef, ac.tmps.getD 17 undef, ac.tmps.getD 18 undef, ac.tmps.getD 19 undef, ac.tmps.getD 20 undef, ac.tmps.getD 21 undef, ac.tmps.getD 22 undef, ac.tmps.getD 23 undef, ac.tmps.getD 24 undef, ac.tmps.getD 25 undef, ac.tmps.getD 26 undef, ac.tmps.getD 27 undef, ac.tmps.getD 28 undef, ac.tmps.getD 29 undef, ac.tmps.getD 30 undef, ac.tmps.getD 31 undef, ac.tmps.getD 32 undef, ac.tmps.getD 33 undef, ac.tmps.getD 34 undef, ac.tmps.getD 35 undef, ac.tmps.getD 36 undef, ac.tmps.getD 37 undef, ac.tmps.getD 38 undef, ac.tmps.getD 39 undef, ac.tmps.getD 40 undef, ac.tmps.getD 41 undef, ac.tmps.getD 42 undef, ac.tmps.getD 43 undef, ac.tmps.getD 44 undef, ac.tmps.getD 45 undef, ac.tmps.getD 46 undef, ac.tmps.getD 47 undef, ac.tmps.getD 48 undef, ac.tmps.getD 49 undef, ac.tmps.getD 50 undef, ac.tmps.getD 51 undef, ac.tmps.getD 52 undef, ac.tmps.getD 53 undef, ac.tmps.getD 54 undef, ac.tmps.getD 55 undef, ac.tmps.getD 56 undef, ac.tmps.getD 57 undef, ac.tmps.getD 58 undef, ac.tmps.getD 59 undef, ac.tmps.getD 60 undef, ac.tmps.getD 61 undef, ac.tmps.getD 62 undef, ac.tmps.getD 63 undef, ac.tmps.getD 64 undef, ac.tmps.getD 65 undef, ac.tmps.getD 66 undef, ac.tmps.getD 67 undef, ac.tmps.getD 68 undef, ac.tmps.getD 69 undef, ac.tmps.getD 70 undef, ac.tmps.getD 71 undef, ac.tmps.getD 72 undef, ac.tmps.getD 73 undef, ac.tmps.getD 74 undef, ac.tmps.getD 75 undef, ac.tmps.getD 76 undef, ac.tmps.getD 77 undef, ac.tmps.getD 78 undef, ac.tmps.getD 79 undef, ac.tmps.getD 80 undef, ac.tmps.getD 81 undef, ac.tmps.getD 82 undef, ac.tmps.getD 83 undef, ac.tmps.getD 84 undef, ac.tmps.getD 85 undef, ac.tmps.getD 86 undef, ac.tmps.getD 87 undef, ac.tmps.getD 88 undef, ac.tmps.getD 89 undef, ac.tmps.getD 90 undef, ac.tmps.getD 91 undef, ac.tmps.getD 92 undef, ac.tmps.getD 93 undef, ac.tmps.getD 94 undef, ac.tmps.getD 95 undef, ac.tmps.getD 96 undef, ac.tmps.getD 97 undef, ac.tmps.getD 98 undef, ac.tmps.getD 99 undef, ac.tmps.getD 100 undef, ac.tmps.getD 101 undef, ac.tmps.getD 102 undef, ac.tmps.getD 103 undef, ac.tmps.getD 104 undef, ac.tmps.getD 105 undef, ac.tmps.getD 106 undef, ac.tmps.getD 107 undef, ac.tmps.getD 108 undef, ac.tmps.getD 109 undef, ac.tmps.getD 110 undef, ac.tmps.getD 111 undef, ac.tmps.getD 112 undef, ac.tmps.getD 113 undef, ac.tmps.getD 114 undef], []⟩) (G : Hid (Grown w X)) (hZ : Hid (Blk b6 (tbl ⟨#[]⟩ (.slice none 0 0) (.int .i64 0) (.slice none 0 0) (.slice none 0 0)) 34 X)) (hB : Hid (ColB g l X)) (hT : Hid (Blk bt (tbl s0 (.slice (some ⟨g, 0, none⟩) k cap) (.int .i64 jj) (.slice ua un uc) (.slice la_ ln lc_)) 34 X)) : rest.wp Try.prog (bodyPost Try.prog Try.f14 (TabR w)) ac X := by
  obtain ⟨u, rfl⟩ : ∃ u : Nat → Value, ac = ⟨#[u 0, u 1, u 2, u 3, u 4, u 5, .pointer (some ⟨b6, 0, none⟩), .pointer (some ⟨bt, 0, none⟩), u 8, u 9, u 10, u 11, u 12, u 13, u 14, u 15, u 16, u 17, u 18, u 19, u 20, u 21, u 22, u 23, u 24, u 25, u 26, u 27, u 28, u 29, u 30, u 31, u 32, u 33, u 34, u 35, u 36, u 37, u 38, u 39, u 40, u 41, u 42, u 43, u 44, u 45, u 46, u 47, u 48, u 49, u 50, u 51, u 52, u 53, u 54, u 55, u 56, u 57, u 58, u 59, u 60, u 61, u 62, u 63, u 64, u 65, u 66, u 67, u 68, u 69, u 70, u 71, u 72, u 73, u 74, u 75, u 76, u 77, u 78, u 79, u 80, u 81, u 82, u 83, u 84, u 85, u 86, u 87, u 88, u 89, u 90, u 91, u 92, u 93, u 94, u 95, u 96, u 97, u 98, u 99, u 100, u 101, u 102, u 103, u 104, u 105, u 106, u 107, u 108, u 109, u 110, u 111, u 112, u 113, u 114], []⟩ := ⟨fun i => ac.tmps.getD i undef, ha⟩
  clear ha
  unfold Try.f14 at hc
  cases hc
  subst hlk
  have lt_ := (unhide hT).lt
  have l6_ := (unhide hZ).lt
  have t0 := (unhide hT).cell 0
  have z0 := (unhide hZ).cell 0
  have f0 := (unhide hZ).froz 0
  have t1 := (unhide hT).cell 1
  have z1 := (unhide hZ).cell 1
  have f1 := (unhide hZ).froz 1
  have t2 := (unhide hT).cell 2
  have z2 := (unhide hZ).cell 2
  have f2 := (unhide hZ).froz 2
  have t3 := (unhide hT).cell 3
  have z3 := (unhide hZ).cell 3
  have f3 := (unhide hZ).froz 3
  have t4 := (unhide hT).cell 4
  have z4 := (unhide hZ).cell 4
  have f4 := (unhide hZ).froz 4
  have t5 := (unhide hT).cell 5
  have z5 := (unhide hZ).cell 5
  have f5 := (unhide hZ).froz 5
  have t6 := (unhide hT).cell 6
  have z6 := (unhide hZ).cell 6
  have f6 := (unhide hZ).froz 6
  have t7 := (unhide hT).cell 7
  have z7 := (unhide hZ).cell 7
  have f7 := (unhide hZ).froz 7
  have t8 := (unhide hT).cell 8
  have z8 := (unhide hZ).cell 8
  have f8 := (unhide hZ).froz 8
  have t9 := (unhide hT).cell 9
  have z9 := (unhide hZ).cell 9
  have f9 := (unhide hZ).froz 9
  have t10 := (unhide hT).cell 10
  have z10 := (unhide hZ).cell 10
  have f10 := (unhide hZ).froz 10
  have t11 := (unhide hT).cell 11
  have z11 := (unhide hZ).cell 11
  have f11 := (unhide hZ).froz 11
  simp at t0 z0 t1 z1 t2 z2 t3 z3 t4 z4 t5 z5 t6 z6 t7 z7 t8 z8 t9 z9 t10 z10 t11 z11
  have G5 := hide (((((((((((((unhide G : Below w.heap.size w X).setCell (p := ⟨b6, 0, none⟩) hw6 (.string s0)).setCell (p := ⟨b6, 1, none⟩) hw6 (.slice (some ⟨g, 0, none⟩) l.length cap)).setCell (p := ⟨b6, 2, none⟩) hw6 (.int .i64 jj)).setCell (p := ⟨b6, 3, none⟩) hw6 (.slice ua un uc)).setCell (p := ⟨b6, 4, none⟩) hw6 (.int .i64 0)).setCell (p := ⟨b6, 5, none⟩) hw6 (.string ⟨#[]⟩)).setCell (p := ⟨b6, 6, none⟩) hw6 (.int .i64 0)).setCell (p := ⟨b6, 7, none⟩) hw6 (.int .i64 0)).setCell (p := ⟨b6, 8, none⟩) hw6 (.int .i64 0)).setCell (p := ⟨b6, 9, none⟩) hw6 (.string ⟨#[]⟩)).setCell (p := ⟨b6, 10, none⟩) hw6 (.slice none 0 0)).setCell (p := ⟨b6, 11, none⟩) hw6 (.slice la_ ln lc_))
  have B5 := hide (((((((((((((unhide hB).far hg6 0 (.string s0)).far hg6 1 (.slice (some ⟨g, 0, none⟩) l.length cap)).far hg6 2 (.int .i64 jj)).far hg6 3 (.slice ua un uc)).far hg6 4 (.int .i64 0)).far hg6 5 (.string ⟨#[]⟩)).far hg6 6 (.int .i64 0)).far hg6 7 (.int .i64 0)).far hg6 8 (.int .i64 0)).far hg6 9 (.string ⟨#[]⟩)).far hg6 10 (.slice none 0 0)).far hg6 11 (.slice la_ ln lc_))
  go_wp2_with fail
  refine bodyPost_ret (v := .agg (tbl s0 (.slice (some ⟨g, 0, none⟩) l.length cap) (.int .i64 jj) (.slice ua un uc) (.slice la_ ln lc_))) (by simp [results, Try.results14, go_sem, z0, z1, z2, z3, z4, z5, z6, z7, z8, z9, z10, z11, l6_]) rfl ⟨s0, jj, ua, un, uc, la_, ln, lc_, g, cap, l, rfl, ⟨hk1, hk4⟩, hL, unhide B5, unhide G5⟩
end Go.Proofs.Ytliefgkhpgigaaa

namespace Go.Proofs.Ytliefgkhpgigaaa
open Go.RowKit Go.Shelf
set_option linter.unusedSimpArgs false
set_option linter.unusedVariables false

set_option maxHeartbeats 16000000 in
set_option maxRecDepth 100000 in
theorem table_any (n : Int) (p : Option Addr) (np : Nat) (zs : List Int) (w : World) (hn : Is64 n) (hz : IntsP p zs w) :
    Calls Try.prog 14 #[.int .i64 n, .slice p zs.length np, .slice none 0 0] w (TabR w) := by
  have hzw := hide hz
  clear hz
  have CN := hide (fun W => nameL_any n W hn)
  have b0 := Int.emod_nonneg (n.tdiv 4) (show (4 : Int) ≠ 0 by decide)
  have b1 := Int.emod_lt_of_pos (n.tdiv 4) (show (0 : Int) < 4 by decide)
  obtain ⟨k, hk⟩ : ∃ k : Nat, 1 + (n.tdiv 4) % 4 = (k : Int) := ⟨(1 + (n.tdiv 4) % 4).toNat, by omega⟩
  have hk1 : 1 ≤ k := by omega
  have hk4 : k ≤ 4 := by omega
  have C4 := hide (fun W => within3_any (n.tdiv 4) 4 W (tdiv_bd hn 4 (by decide)) (by decide))
  have e4 : IntKind.i64.wrap (n.tdiv 4) = n.tdiv 4 := IntWalk.i64_in _ (by have := tdiv_bd hn 4 (by decide); unfold Is64 at this; omega)
  have eK : IntKind.i64.wrap (1 + (n.tdiv 4) % 4) = (k : Int) := by rw [hk]; exact IntWalk.i64_in _ (by omega)
  clear hk b0 b1
  have c0 := Int.emod_nonneg (n.tdiv 16) (show (k : Int) ≠ 0 by omega)
  have c1 := Int.emod_lt_of_pos (n.tdiv 16) (show (0 : Int) < k by omega)
  obtain ⟨j, hj⟩ : ∃ j : Nat, (n.tdiv 16) % (k : Int) = (j : Int) := ⟨((n.tdiv 16) % (k : Int)).toNat, by omega⟩
  have hjk : j < k := by omega
  have C16 : Hid (∀ W, Calls Try.prog 34 #[.int .i64 (n.tdiv 16), .int .i64 (k : Int)] W fun e W' => e = .returned (.int .i64 (j : Int)) ∧ W' = W) := hide (fun W => hj ▸ within3_any (n.tdiv 16) (k : Int) W (tdiv_bd hn 16 (by decide)) (by omega))
  clear hj c0 c1
  have C64 := hide (fun W => within3_any (n.tdiv 64) 3 W (tdiv_bd hn 64 (by decide)) (by decide))
  have q0 : 0 ≤ (n.tdiv 64) % 3 ∧ (n.tdiv 64) % 3 < 3 := ⟨Int.emod_nonneg _ (by decide), Int.emod_lt_of_pos _ (by decide)⟩
  have C256 := hide (fun W => within3_any (n.tdiv 256) 3 W (tdiv_bd hn 256 (by decide)) (by decide))
  have q1 : 0 ≤ (n.tdiv 256) % 3 ∧ (n.tdiv 256) % 3 < 3 := ⟨Int.emod_nonneg _ (by decide), Int.emod_lt_of_pos _ (by decide)⟩
  generalize (n.tdiv 64) % 3 = q64 at *
  generalize (n.tdiv 256) % 3 = q256 at *
  go_enter Try.func14, Try.ntmps14
  go_wp2_with fail
  refine (unhide CN _).mono ?_
  rintro e W1 ⟨s0, rfl, hb⟩
  have hZ := hide ((Blk.new w #[.string ⟨#[]⟩, .slice none 0 0, .int .i64 0, .slice none 0 0, .int .i64 0, .string ⟨#[]⟩, .int .i64 0, .int .i64 0, .int .i64 0, .string ⟨#[]⟩, .slice none 0 0, .slice none 0 0] 34).call hb)
  have G : Hid (Grown w W1) := hide ((below_new w (.cells #[.string ⟨#[]⟩, .slice none 0 0, .int .i64 0, .slice none 0 0, .int .i64 0, .string ⟨#[]⟩, .int .i64 0, .int .i64 0, .int .i64 0, .string ⟨#[]⟩, .slice none 0 0, .slice none 0 0] 34)).trans (hb.mono (below_new w (.cells #[.string ⟨#[]⟩, .slice none 0 0, .int .i64 0, .slice none 0 0, .int .i64 0, .string ⟨#[]⟩, .int .i64 0, .int .i64 0, .int .i64 0, .string ⟨#[]⟩, .slice none 0 0, .slice none 0 0] 34)).size))
  have l6 : w.heap.size < W1.heap.size := (unhide hZ).lt
  clear hb
  go_wp2_with fail
  refine (one_nil _).mono ?_
  rintro e W2 ⟨rfl, hb⟩
  have gg := below_new W2 (.cells #[.string s0, .slice none 0 0, .int .i64 0, .slice none 0 0, .int .i64 0, .string ⟨#[]⟩, .int .i64 0, .int .i64 0, .int .i64 0, .string ⟨#[]⟩, .slice none 0 0, .slice none 0 0] 34)
  have hT := hide (Blk.new W2 #[.string s0, .slice none 0 0, .int .i64 0, .slice none 0 0, .int .i64 0, .string ⟨#[]⟩, .int .i64 0, .int .i64 0, .int .i64 0, .string ⟨#[]⟩, .slice none 0 0, .slice none 0 0] 34)
  replace hZ := hide (((unhide hZ).call hb).call gg)
  replace G := hide (((unhide G).call hb).call gg)
  have hne : w.heap.size ≠ W2.heap.size := by have := hb.size; omega
  have hwt : w.heap.size ≤ W2.heap.size := by have := hb.size; omega
  have hn0 : LeN (W2.heap.size + 1) (W2.alloc (.cells #[.string s0, .slice none 0 0, .int .i64 0, .slice none 0 0, .int .i64 0, .string ⟨#[]⟩, .int .i64 0, .int .i64 0, .int .i64 0, .string ⟨#[]⟩, .slice none 0 0, .slice none 0 0] 34)) := by unfold LeN; simp
  clear hb gg
  go_wp2_with fail
  rename_i K3 hk3 K0 hk0
  refine (unhide C4 _).mono ?_
  rintro e W3 ⟨rfl, rfl⟩
  generalize W2.alloc (.cells #[.string s0, .slice none 0 0, .int .i64 0, .slice none 0 0, .int .i64 0, .string ⟨#[]⟩, .int .i64 0, .int .i64 0, .int .i64 0, .string ⟨#[]⟩, .slice none 0 0, .slice none 0 0] 34) = X at *
  have l6t : w.heap.size < W2.heap.size + 1 := by omega
  have ltt : W2.heap.size < W2.heap.size + 1 := by omega
  have hw6 : AtW2 w w.heap.size := Nat.le_refl _
  have hwt2 : AtW2 w W2.heap.size := hwt
  have hwn : AtW2 w (W2.heap.size + 1) := by unfold AtW2; omega
  clear hwt l6
  generalize hn0e : W2.heap.size + 1 = n0 at *
  generalize W2.heap.size = bt at *
  generalize w.heap.size = b6 at *
  have REST3 : ∀ ac : Act, ac = ⟨#[.int .i64 n, .slice p zs.length np, ac.tmps.getD 2 undef, ac.tmps.getD 3 undef, ac.tmps.getD 4 undef, ac.tmps.getD 5 undef, .pointer (some ⟨b6, 0, none⟩), .pointer (some ⟨bt, 0, none⟩), .int .i64 (k : Int), ac.tmps.getD 9 undef, ac.tmps.getD 10 undef, ac.tmps.getD 11 undef, ac.tmps.getD 12 undef, ac.tmps.getD 13 undef, ac.tmps.getD 14 undef, ac.tmps.getD 15 undef, ac.tmps.getD 16 undef, ac.tmps.getD 17 undef, ac.tmps.getD 18 undef, ac.tmps.getD 19 undef, ac.tmps.getD 20 undef, ac.tmps.getD 21 undef, ac.tmps.getD 22 undef, ac.tmps.getD 23 undef, ac.tmps.getD 24 undef, ac.tmps.getD 25 undef, ac.tmps.getD 26 undef, ac.tmps.getD 27 undef, ac.tmps.getD 28 undef, ac.tmps.getD 29 undef, ac.tmps.getD 30 undef, ac.tmps.getD 31 undef, ac.tmps.getD 32 undef, ac.tmps.getD 33 undef, ac.tmps.getD 34 undef, ac.tmps.getD 35 undef, ac.tmps.getD 36 undef, ac.tmps.getD 37 undef, ac.tmps.getD 38 undef, ac.tmps.getD 39 undef, ac.tmps.getD 40 undef, ac.tmps.getD 41 undef, ac.tmps.getD 42 undef, ac.tmps.getD 43 undef, ac.tmps.getD 44 undef, ac.tmps.getD 45 undef, ac.tmps.getD 46 undef, ac.tmps.getD 47 undef, ac.tmps.getD 48 undef, ac.tmps.getD 49 undef, ac.tmps.getD 50 undef, ac.tmps.getD 51 undef, ac.tmps.getD 52 undef, ac.tmps.getD 53 undef, ac.tmps.getD 54 undef, ac.tmps.getD 55 undef, ac.tmps.getD 56 undef, ac.tmps.getD 57 undef, ac.tmps.getD 58 undef, ac.tmps.getD 59 undef, ac.tmps.getD 60 undef, ac.tmps.getD 61 undef, ac.tmps.getD 62 undef, ac.tmps.getD 63 undef, ac.tmps.getD 64 undef, ac.tmps.getD 65 undef, ac.tmps.getD 66 undef, ac.tmps.getD 67 undef, ac.tmps.getD 68 undef, ac.tmps.getD 69 undef, ac.tmps.getD 70 undef, ac.tmps.getD 71 undef, ac.tmps.getD 72 undef, ac.tmps.getD 73 undef, ac.tmps.getD 74 undef, ac.tmps.getD 75 undef, ac.tmps.getD 76 undef, ac.tmps.getD 77 undef, ac.tmps.getD 78 undef, ac.tmps.getD 79 undef, ac.tmps.getD 80 undef, ac.tmps.getD 81 undef, ac.tmps.getD 82 undef, ac.tmps.getD 83 undef, ac.tmps.getD 84 undef, ac.tmps.getD 85 undef, ac.tmps.getD 86 undef, ac.tmps.getD 87 undef, ac.tmps.getD 88 undef, ac.tmps.getD 89 undef, ac.tmps.getD 90 undef, ac.tmps.getD 91 undef, ac.tmps.getD 92 undef, ac.tmps.getD 93 undef, ac.tmps.getD 94 undef, ac.tmps.getD 95 undef, ac.tmps.getD 96 undef, ac.tmps.getD 97 undef, ac.tmps.getD 98 undef, ac.tmps.getD 99 undef, ac.tmps.getD 100 undef, ac.tmps.getD 101 undef, ac.tmps.getD 102 undef, ac.tmps.getD 103 undef, ac.tmps.getD 104 undef, ac.tmps.getD 105 undef, ac.tmps.getD 106 undef, ac.tmps.getD 107 undef, ac.tmps.getD 108 undef, ac.tmps.getD 109 undef, ac.tmps.getD 110 undef, ac.tmps.getD 111 undef, ac.tmps.getD 112 undef, ac.tmps.getD 113 undef, ac.tmps.getD 114 undef], []⟩ → K3 ac X := by
    intro ac ha
    refine hk3 _ _ ?_
    clear hk3 hk0 C4 CN
    refine wp_seq_k ?_
    intro K4 hK4
    refine tbL1 rfl w n0 b6 bt hne l6t ltt hw6 hwt2 n p np zs k hk4 s0 hzw K4 _ (hide ?_) ac X ha G hZ hT hn0
    clear G hZ hT hn0 ha
    intro ac cv l X ha hlk hL G hZ hT hO hn0
    refine hK4 _ _ ?_
    clear hK4
    subst hlk
    obtain ⟨g, cap, rfl, hge, hB⟩ := owc_blk (by omega) (unhide hO) (by rintro rfl; simp at hk1)
    have hgt : g ≠ bt := by omega
    have hg6 : g ≠ b6 := by omega
    have hwg : AtW2 w g := Nat.le_trans hwn hge
    refine wp_seq_k ?_
    intro K5 hK5
    refine tbK rfl w b6 bt hne hw6 hwt2 n p np zs l.length hk4 hk1 s0 g cap hgt hg6 hwg l j hn C16 K5 _ (hide ?_) ac X ha G hZ (hide hB) hT
    clear G hZ hT hn0 ha hO hB
    intro ac X ha G hZ hB hT
    refine hK5 _ _ ?_
    clear hK5
    refine wp_seq_k ?_
    intro K6 hK6
    refine tbN rfl w b6 bt hne hw6 hwt2 n p np zs l.length hk4 hk1 s0 g cap hgt hg6 hwg l rfl j hjk K6 _ (hide ?_) ac X ha G hZ hB hT
    clear G hZ hT ha hB
    intro ac X ha G hZ hB hT
    refine hK6 _ _ ?_
    clear hK6
    refine wp_seq_k ?_
    intro K7 hK7
    refine tbU rfl w b6 bt hne hw6 hwt2 n p np zs l.length hk4 hk1 s0 g cap hgt hg6 hwg (l.set j (l[j].1, l[j].2.1, true)) X.heap.size (unhide hZ).lt (unhide hT).lt (unhide hB).lt j hjk hn q64 q0 C64 K7 _ (hide ?_) ac X ha G hZ hB hT (Nat.le_refl _)
    clear G hZ hT ha hB
    intro ac uv X ha G hZ hB hT hU
    refine hK7 _ _ ?_
    clear hK7
    refine wp_seq_k ?_
    intro K8 hK8
    refine tbL rfl w b6 bt hne hw6 hwt2 n p np zs l.length hk4 hk1 s0 g cap hgt hg6 hwg (l.set j (l[j].1, l[j].2.1, true)) X.heap.size (unhide hZ).lt (unhide hT).lt (unhide hB).lt j hjk hn q256 q1 C256 uv K8 _ (hide ?_) ac X ha G hZ hB hT (Nat.le_refl _)
    clear G hZ hT ha hB
    intro ac lv X ha G hZ hB hT hV
    obtain ⟨ua, un, uc, rfl⟩ := unhide hU
    obtain ⟨la_, ln, lc_, rfl⟩ := unhide hV
    refine hK8 _ _ ?_
    clear hK8
    have hL2 := colsL_set hL hjk true
    have hl2 : (l.set j (l[j].1, l[j].2.1, true)).length = l.length := by simp
    exact tbE rfl w b6 bt hne hw6 n l.length s0 g cap hg6 (l.set j (l[j].1, l[j].2.1, true)) hl2 hk1 hk4 hL2 (j : Int) ua la_ un uc ln lc_ ac X (by obtain ⟨u, rfl⟩ : ∃ u : Nat → Value, ac = ⟨#[.int .i64 n, .slice p zs.length np, u 2, u 3, u 4, u 5, .pointer (some ⟨b6, 0, none⟩), .pointer (some ⟨bt, 0, none⟩), .int .i64 (l.length : Int), u 9, u 10, u 11, u 12, u 13, u 14, u 15, u 16, u 17, u 18, u 19, u 20, u 21, u 22, u 23, u 24, u 25, u 26, u 27, u 28, u 29, u 30, u 31, u 32, u 33, u 34, u 35, u 36, u 37, u 38, u 39, u 40, u 41, u 42, u 43, u 44, u 45, u 46, u 47, u 48, u 49, u 50, u 51, u 52, u 53, u 54, u 55, u 56, u 57, u 58, u 59, u 60, u 61, u 62, u 63, u 64, u 65, u 66, u 67, u 68, u 69, u 70, u 71, u 72, u 73, u 74, u 75, u 76, u 77, u 78, u 79, u 80, u 81, u 82, u 83, u 84, u 85, u 86, u 87, u 88, u 89, u 90, u 91, u 92, u 93, u 94, u 95, u 96, u 97, u 98, u 99, u 100, u 101, u 102, u 103, u 104, u 105, u 106, u 107, u 108, u 109, u 110, u 111, u 112, u 113, u 114], []⟩ := ⟨fun i => ac.tmps.getD i undef, ha⟩; kernel_rfl) G hZ hB hT
  have REST3 := hide REST3
  clear hk3
  go_wp2_with fail
  all_goals exact unhide REST3 _ (by kernel_rfl)
end Go.Proofs.Ytliefgkhpgigaaa

namespace Go.Proofs.Ytliefgkhpgigaaa
open Go.RowKit Go.Shelf
set_option linter.unusedSimpArgs false
set_option linter.unusedVariables false

/-- a field's address -/
abbrev fA (a : Addr) (i j : Nat) : Addr := ⟨(a.add (i * 4)).block, (a.add (i * 4)).off + j, none⟩
/-- a list of Raw that came in, d deep -/
def RawsN : Nat → Option Addr → Nat → World → Prop
  | 0, _, _, _ => True
  | d + 1, p, n, W => n ≤ maxLen ∧ ∀ i, i < n → ∃ (a : Addr) (K N : Int) (S : ByteArray) (p' : Option Addr) (n' c' : Nat), p = some a ∧ (a.add (i * 4)).block < W.heap.size ∧ W.cell? (a.add (i * 4)) = some (.int .i64 K) ∧ W.cell? (fA a i 1) = some (.int .i64 N) ∧ W.cell? (fA a i 2) = some (.string S) ∧ W.cell? (fA a i 3) = some (.slice p' n' c') ∧ Is64 K ∧ Is64 N ∧ S.size ≤ maxLen ∧ RawsN d p' n' W
theorem RawsN.call : ∀ {d : Nat} {p : Option Addr} {n : Nat} {W W' : World}, RawsN d p n W → Below W.heap.size W W' → RawsN d p n W'
  | 0, _, _, _, _, _, _ => trivial
  | d + 1, p, n, W, W', h, hb => by
    refine ⟨h.1, fun i hi => ?_⟩
    obtain ⟨a, K, N, S, p', n', c', h1, hl, h2, h3, h4, h5, h6, h7, h8, h9⟩ := h.2 i hi
    exact ⟨a, K, N, S, p', n', c', h1, Nat.lt_of_lt_of_le hl hb.size, (hb.cell (p := a.add (i * 4)) hl).trans h2, (hb.cell (p := fA a i 1) hl).trans h3, (hb.cell (p := fA a i 2) hl).trans h4, (hb.cell (p := fA a i 3) hl).trans h5, h6, h7, h8, h9.call hb⟩
def SzR (w : World) (e : Ending) (W : World) : Prop := ∃ n : Int, e = .returned (.int .i64 n) ∧ W = w
set_option maxHeartbeats 4000000 in
set_option maxRecDepth 100000 in
theorem size_any : ∀ (d : Nat) (deep : Nat) (p : Option Addr) (n c : Nat) (w : World), deep + d = 7 → RawsN d p n w → Calls Try.prog 32 #[.slice p n c, .int .i64 (deep : Int)] w (SzR w)
  | 0, deep, p, n, c, w, hd, _ => by
    have h7 : (6 : Int) < deep := by omega
    go_enter Try.func32, Try.ntmps32
    go_wp2_with fail
    go_ret
    exact ⟨_, rfl, rfl⟩
  | d + 1, deep, p, n, c, w, hd, hr => by
    have h7 : ¬ (6 : Int) < deep := by omega
    have IH := hide (fun p' n' c' h => size_any d (deep + 1) p' n' c' w (by omega) h)
    have ed : IntKind.i64.wrap ((deep : Int) + 1) = ((deep + 1 : Nat) : Int) := by rw [IntWalk.i64_in _ (by omega)]; omega
    have hnl := hr.1
    have HR := hide hr.2
    clear hr
    unfold maxLen at hnl
    go_enter Try.func32, Try.ntmps32
    go_wp2_with fail
    go_loopw [5, 6] (fun m i wr => Hid (∃ (k : Nat) (z : Int), k ≤ n ∧ i = .int .i64 (k : Int) ∧ m = .int .i64 z ∧ wr = w)) (fun m i _ => n - (intOf i).toNat)
    case atStart => exact hide ⟨0, 0, Nat.zero_le _, rfl, rfl, rfl⟩
    case round =>
      obtain ⟨k, z, hk, rfl, rfl, rfl⟩ := unhide hrel
      by_cases hlt : k < n
      · have hlti : (k : Int) < n := by omega
        have e9 : IntKind.i64.wrap ((k : Int) + 1) = (k : Int) + 1 := IntWalk.i64_in _ (by omega)
        by_cases hz : z ≤ 16
        · obtain ⟨a, K, N, S, p', n', c', rfl, hl, h2, h3, h4, h5, h6, h7', h8, h9⟩ := unhide HR k hlt
          have CI := hide (unhide IH p' n' c' h9)
          by_cases hs : (100 : Int) < S.size
          · go_wp2_with fail
            refine (unhide CI).mono ?_
            rintro e W1 ⟨q, rfl, rfl⟩
            go_wp2_with fail
            go_ret
            exact ⟨_, rfl, rfl⟩
          · go_wp2_with fail
            refine (unhide CI).mono ?_
            rintro e W1 ⟨q, rfl, rfl⟩
            go_wp2_with fail
            go_roundw
            case rel => exact hide ⟨k + 1, _, by omega, by go_num, rfl, by first | rfl | trivial⟩
            case measure => simp [intOf]; omega
        · go_wp2_with fail
          go_ret
          exact ⟨_, rfl, rfl⟩
      · have hlti : ¬ (k : Int) < n := by omega
        go_wp2_with fail
        go_ret
        exact ⟨_, rfl, rfl⟩
theorem few_any (p : Option Addr) (n c : Nat) (w : World) (h : RawsN 7 p n w) : Calls Try.prog 13 #[.slice p n c] w fun e W => ∃ b : Bool, e = .returned (.bool b) ∧ W = w := by
  go_enter Try.func13, Try.ntmps13
  go_wp2_with fail
  refine (size_any 7 0 p n c _ (by decide) h).mono ?_
  rintro e W1 ⟨q, rfl, rfl⟩
  go_wp2_with fail
  go_ret
  exact ⟨_, rfl, rfl⟩
end Go.Proofs.Ytliefgkhpgigaaa

namespace Go.Proofs.Ytliefgkhpgigaaa
open Go.RowKit Go.Shelf
set_option linter.unusedSimpArgs false
set_option linter.unusedVariables false

set_option maxHeartbeats 16000000 in
set_option maxRecDepth 100000 in
theorem rawMake0 (N : Int) (S : ByteArray) (w : World) (hN : Is64 N) (hS : S.size ≤ 9223372036854775807) : Calls Try.prog 31 #[.agg #[.int .i64 0, .int .i64 N, .string S, .slice none 0 0]] w fun e W => ∃ (x1 x2 x3 : Int) (x4 : ByteArray), e = .returned (.agg #[.int .i64 1, .string ⟨#[]⟩, .int .i64 x1, .int .i64 x2, .int .i64 x3, .string x4, .slice none 0 0]) ∧ Hid (MkV (x1, x2, x3, x4)) ∧ Below w.heap.size w W := by
  have CW := hide (fun W => within3_any 0 20 W (by unfold Is64; omega) (by decide))
  have e7 : IntKind.i64.wrap (N.tdiv 7) = N.tdiv 7 := IntWalk.i64_in _ (by have := tdiv_bd hN 7 (by decide); unfold Is64 at this; omega)
  have MK := hide (fun W => make_any N (N.tdiv 7) S W hN (tdiv_bd hN 7 (by decide)) hS)
  clear hN hS
  have z20 : (0 : Int) % 20 = 0 := by decide
  rw [z20] at CW
  go_enter Try.func31, Try.ntmps31
  go_wp2_with fail
  refine (unhide CW _).mono ?_
  rintro e W1 ⟨rfl, rfl⟩
  have g2 := below_2 w (.cells #[.int .i64 0, .int .i64 N, .string S, .slice none 0 0] 69) (.cells #[.int .i64 0, .string ⟨#[]⟩, .int .i64 0, .int .i64 0, .int .i64 0, .string ⟨#[]⟩, .slice none 0 0] 31)
  have hZ := Blk.new (w.alloc (.cells #[.int .i64 0, .int .i64 N, .string S, .slice none 0 0] 69)) #[.int .i64 0, .string ⟨#[]⟩, .int .i64 0, .int .i64 0, .int .i64 0, .string ⟨#[]⟩, .slice none 0 0] 31
  rw [World.size_alloc] at hZ
  go_wp2_with fail
  refine (unhide MK _).mono ?_
  rintro e W2 ⟨⟨n1, sc1, t1, ok, rfl⟩, hb⟩
  generalize N % 6 = kd at *
  replace hZ := hZ.call hb
  replace g2 := hide (g2.trans (hb.mono g2.size))
  have lz := hZ.lt
  have z0 := hZ.cell 0
  have f0 := hZ.froz 0
  have z1 := hZ.cell 1
  have f1 := hZ.froz 1
  have z2 := hZ.cell 2
  have f2 := hZ.froz 2
  have z3 := hZ.cell 3
  have f3 := hZ.froz 3
  have z4 := hZ.cell 4
  have f4 := hZ.froz 4
  have z5 := hZ.cell 5
  have f5 := hZ.froz 5
  have z6 := hZ.cell 6
  have f6 := hZ.froz 6
  simp at z0 z1 z2 z3 z4 z5 z6
  clear hb
  go_wp2_with fail
  refine bodyPost_ret (v := .agg #[.int .i64 1, .string ⟨#[]⟩, .int .i64 kd, .int .i64 n1, .int .i64 sc1, .string t1, .slice none 0 0]) (by simp [results, Try.results31, go_sem, z0, z1, z2, z3, z4, z5, z6, lz]) rfl ⟨kd, n1, sc1, t1, rfl, hide ok, ?_⟩
  exact ((((((((unhide g2).setCell (p := ⟨w.heap.size + 1, 0, none⟩) (Nat.le_succ _) _).setCell (p := ⟨w.heap.size + 1, 1, none⟩) (Nat.le_succ _) _).setCell (p := ⟨w.heap.size + 1, 2, none⟩) (Nat.le_succ _) _).setCell (p := ⟨w.heap.size + 1, 3, none⟩) (Nat.le_succ _) _).setCell (p := ⟨w.heap.size + 1, 4, none⟩) (Nat.le_succ _) _).setCell (p := ⟨w.heap.size + 1, 5, none⟩) (Nat.le_succ _) _).setCell (p := ⟨w.heap.size + 1, 6, none⟩) (Nat.le_succ _) _)
end Go.Proofs.Ytliefgkhpgigaaa

namespace Go.Proofs.Ytliefgkhpgigaaa
open Go.RowKit Go.Shelf
set_option linter.unusedSimpArgs false
set_option linter.unusedVariables false

def SRw (a : Addr) (N : Int) (S : ByteArray) (X : World) : Prop := a.block < X.heap.size ∧ X.cell? ⟨a.block, a.off + 1, none⟩ = some (.int .i64 N) ∧ X.cell? ⟨a.block, a.off + 2, none⟩ = some (.string S)
theorem SRw.call {a : Addr} {N : Int} {S : ByteArray} {W W' : World} (h : SRw a N S W) (hb : Below W.heap.size W W') : SRw a N S W' := ⟨Nat.lt_of_lt_of_le h.1 hb.size, (hb.cell (p := ⟨a.block, a.off + 1, none⟩) h.1).trans h.2.1, (hb.cell (p := ⟨a.block, a.off + 2, none⟩) h.1).trans h.2.2⟩
set_option maxHeartbeats 16000000 in
set_option maxRecDepth 100000 in
theorem ltA {r0 r1 r2 r3 r4 rest : Code} (hc : Try.f10.body = some (.seq r0 (.seq r1 (.seq r2 (.seq r3 (.seq r4 (rest))))))) (w : World) (s0 : ByteArray) (jj : Int) (ua : Option Addr) (un uc : Nat) (la : Option Addr) (ln lc : Nat) (g cap : Nat) (l : List C3) (q : Option Addr) (ys : List Int) (nq : Nat) (bt : Nat) (a : Addr) (rn rc : Nat) (hrn : 1 ≤ rn) (N : Int) (S : ByteArray) (hN : Is64 N) (hS : S.size ≤ 9223372036854775807) (K : Act → World → Prop) (Q : Exit → Act → World → Prop) (REST : Hid (∀ (ac : Act) (bx : Nat) (x1 x2 x3 : Int) (x4 : ByteArray) (X : World), ac = ⟨#[ac.tmps.getD 0 undef, ac.tmps.getD 1 undef, .slice q ys.length nq, ac.tmps.getD 3 undef, ac.tmps.getD 4 undef, ac.tmps.getD 5 undef, ac.tmps.getD 6 undef, ac.tmps.getD 7 undef, ac.tmps.getD 8 undef, .pointer (some ⟨bt, 0, none⟩), .pointer (some ⟨bx, 0, none⟩), ac.tmps.getD 11 undef, ac.tmps.getD 12 undef, ac.tmps.getD 13 undef, ac.tmps.getD 14 undef, ac.tmps.getD 15 undef, ac.tmps.getD 16 undef, ac.tmps.getD 17 undef, ac.tmps.getD 18 undef, ac.tmps.getD 19 undef, ac.tmps.getD 20 undef, ac.tmps.getD 21 undef, ac.tmps.getD 22 undef, ac.tmps.getD 23 undef, ac.tmps.getD 24 undef, ac.tmps.getD 25 undef, ac.tmps.getD 26 undef, ac.tmps.getD 27 undef, ac.tmps.getD 28 undef, ac.tmps.getD 29 undef, ac.tmps.getD 30 undef, ac.tmps.getD 31 undef, ac.tmps.getD 32 undef, ac.tmps.getD 33 undef, ac.tmps.getD 34 undef, ac.tmps.getD 35 undef, ac.tmps.getD 36 undef, ac.tmps.getD 37 undef, ac.tmps.getD 38 undef, ac.tmps.getD 39 undef, ac.tmps.getD 40 undef, ac.tmps.getD 41 undef, ac.tmps.getD 42 undef, ac.tmps.getD 43 undef, ac.tmps.getD 44 undef, ac.tmps.getD 45 undef, ac.tmps.getD 46 undef, ac.tmps.getD 47 undef, ac.tmps.getD 48 undef, ac.tmps.getD 49 undef, ac.tmps.getD 50 undef, ac.tmps.getD 51 undef, ac.tmps.getD 52 undef, ac.tmps.getD 53 undef, ac.tmps.getD 54 undef, ac.tmps.getD 55 undef, ac.tmps.getD 56 undef, ac.tmps.getD 57 undef, ac.tmps.getD 58 undef, ac.tmps.getD 59 undef, ac.tmps.getD 60 undef, ac.tmps.getD 61 undef, ac.tmps.getD 62 undef, ac.tmps.getD 63 undef, ac.tmps.getD 64 undef, ac.tmps.getD 65 undef, ac.tmps.getD 66 undef, ac.tmps.getD 67 undef, ac.tmps.getD 68 undef, ac.tmps.getD 69 undef, ac.tmps.getD 70 undef, ac.tmps.getD 71 undef], []⟩ → Hid (MkV (x1, x2, x3, x4)) → Hid (Grown w X) → Hid (ColB g l X) → Hid (Blk bt (tbl s0 (.slice (some ⟨g, 0, none⟩) l.length cap) (.int .i64 jj) (.slice ua un uc) (.slice la ln lc)) 34 X) → Hid (IntsP q ys X) → Hid (Blk bx #[.int .i64 1, .string ⟨#[]⟩, .int .i64 x1, .int .i64 x2, .int .i64 x3, .string x4, .slice none 0 0] 31 X) → K ac X)) (ac : Act) (X : World) (ha : ac = ⟨#[ac.tmps.getD 0 undef, ac.tmps.getD 1 undef, .slice q ys.length nq, .slice (some a) rn rc, ac.tmps.getD 4 undef, ac.tmps.getD 5 undef, ac.tmps.getD 6 undef, ac.tmps.getD 7 undef, ac.tmps.getD 8 undef, .pointer (some ⟨bt, 0, none⟩), ac.tmps.getD 10 undef, ac.tmps.getD 11 undef, ac.tmps.getD 12 undef, ac.tmps.getD 13 undef, ac.tmps.getD 14 undef, ac.tmps.getD 15 undef, ac.tmps.getD 16 undef, ac.tmps.getD 17 undef, ac.tmps.getD 18 undef, ac.tmps.getD 19 undef, ac.tmps.getD 20 undef, ac.tmps.getD 21 undef, ac.tmps.getD 22 undef, ac.tmps.getD 23 undef, ac.tmps.getD 24 undef, ac.tmps.getD 25 undef, ac.tmps.getD 26 undef, ac.tmps.getD 27 undef, ac.tmps.getD 28 undef, ac.tmps.getD 29 undef, ac.tmps.getD 30 undef, ac.tmps.getD 31 undef, ac.tmps.getD 32 undef, ac.tmps.getD 33 undef, ac.tmps.getD 34 undef, ac.tmps.getD 35 undef, ac.tmps.getD 36 undef, ac.tmps.getD 37 undef, ac.tmps.getD 38 undef, ac.tmps.getD 39 undef, ac.tmps.getD 40 undef, ac.tmps.getD 41 undef, ac.tmps.getD 42 undef, ac.tmps.getD 43 undef, ac.tmps.getD 44 undef, ac.tmps.getD 45 undef, ac.tmps.getD 46 undef, ac.tmps.getD 47 undef, ac.tmps.getD 48 undef, ac.tmps.getD 49 undef, ac.tmps.getD 50 undef, ac.tmps.getD 51 undef, ac.tmps.getD 52 undef, ac.tmps.getD 53 undef, ac.tmps.getD 54 undef, ac.tmps.getD 55 undef, ac.tmps.getD 56 undef, ac.tmps.getD 57 undef, ac.tmps.getD 58 undef, ac.tmps.getD 59 undef, ac.tmps.getD 60 undef, ac.tmps.getD 61 undef, ac.tmps.getD 62 undef, ac.tmps.getD 63 undef, ac.tmps.getD 64 undef, ac.tmps.getD 65 undef, ac.tmps.getD 66 undef, ac.tmps.getD 67 undef, ac.tmps.getD 68 undef, ac.tmps.getD 69 undef, ac.tmps.getD 70 undef, ac.tmps.getD 71 undef], []⟩) (G : Hid (Grown w X)) (hB : Hid (ColB g l X)) (hT : Hid (Blk bt (tbl s0 (.slice (some ⟨g, 0, none⟩) l.length cap) (.int .i64 jj) (.slice ua un uc) (.slice la ln lc)) 34 X)) (hy : Hid (IntsP q ys X)) (hS_ : Hid (SRw a N S X)) : r4.wp Try.prog (Exit.then K Q) ac X := by
  obtain ⟨u, rfl⟩ : ∃ u : Nat → Value, ac = ⟨#[u 0, u 1, .slice q ys.length nq, .slice (some a) rn rc, u 4, u 5, u 6, u 7, u 8, .pointer (some ⟨bt, 0, none⟩), u 10, u 11, u 12, u 13, u 14, u 15, u 16, u 17, u 18, u 19, u 20, u 21, u 22, u 23, u 24, u 25, u 26, u 27, u 28, u 29, u 30, u 31, u 32, u 33, u 34, u 35, u 36, u 37, u 38, u 39, u 40, u 41, u 42, u 43, u 44, u 45, u 46, u 47, u 48, u 49, u 50, u 51, u 52, u 53, u 54, u 55, u 56, u 57, u 58, u 59, u 60, u 61, u 62, u 63, u 64, u 65, u 66, u 67, u 68, u 69, u 70, u 71], []⟩ := ⟨fun i => ac.tmps.getD i undef, ha⟩
  clear ha
  unfold Try.f10 at hc
  cases hc
  have CM := hide (fun W => rawMake0 N S W hN hS)
  have hr0 : (0 : Int) < rn := by omega
  have hr1 : 0 < rn := by omega
  clear hN hS
  refine wp_region_noPanic ?_
  refine wp_region_held_drew (S := (SRw a N S)) (by kernel_rfl) ((unhide hS_).call (Below.refl _ _).drew) (fun hHeld => ?_)
  have hbd : Below X.heap.size X X.drew := (Below.refl _ _).drew
  replace G := hide ((unhide G).call hbd)
  replace hB := hide ((unhide hB).call hbd)
  replace hT := hide ((unhide hT).call hbd)
  replace hy := hide ((unhide hy).call hbd)
  replace hS_ := hide ((unhide hS_).call hbd)
  clear hbd
  generalize X.drew = Wd at *
  refine wpAnyH_take (i := 0) (oi := ?oi20020) (v := ?v20020) ?hi20020 (by kernel_rfl) (by kernel_rfl) (by kernel_rfl) (fun _ _ _ h => h) (Or.inl ⟨?hw20020, ?hy20020⟩) (by assumption) ?rest20020
  case hi20020 => (simp only [List.getElem?_toArray, List.getElem?_cons_zero]; rfl)
  case hw20020 => rfl
  case hy20020 => first | (intro wx hSw; go_simp; done) | (intro wx hSw; go_simp; with_reducible rfl)
  simp only [Act.put, List.setIfInBounds_toArray, List.set_cons_zero, List.set_cons_succ]
  refine wpAnyH_take (i := 1) (oi := ?oi20021) (v := ?v20021) ?hi20021 (by kernel_rfl) (by kernel_rfl) (by kernel_rfl) (fun _ _ _ h => h) (Or.inl ⟨?hw20021, ?hy20021⟩) (by assumption) ?rest20021
  case hi20021 => (simp only [List.getElem?_toArray, List.getElem?_cons_zero, List.getElem?_cons_succ]; rfl)
  case hw20021 => rfl
  case hy20021 => first | (intro wx hSw; have hr0_ := hr0; have hr1_ := hr1; go_simp; done) | (intro wx hSw; have hr0_ := hr0; have hr1_ := hr1; go_simp; with_reducible rfl)
  simp only [Act.put, List.setIfInBounds_toArray, List.set_cons_zero, List.set_cons_succ]
  refine wpAnyH_take (i := 2) (oi := ?oi20022) (v := ?v20022) ?hi20022 (by kernel_rfl) (by kernel_rfl) (by kernel_rfl) (fun _ _ _ h => h) (Or.inl ⟨?hw20022, ?hy20022⟩) (by assumption) ?rest20022
  case hi20022 => (simp only [List.getElem?_toArray, List.getElem?_cons_zero, List.getElem?_cons_succ]; rfl)
  case hw20022 => rfl
  case hy20022 => first | (intro wx hSw; go_simp; done) | (intro wx hSw; go_simp; with_reducible rfl)
  simp only [Act.put, List.setIfInBounds_toArray, List.set_cons_zero, List.set_cons_succ]
  refine wpAnyH_take (i := 3) (oi := ?oi20023) (v := ?v20023) ?hi20023 (by kernel_rfl) (by kernel_rfl) (by kernel_rfl) (fun _ _ _ h => h) (Or.inl ⟨?hw20023, ?hy20023⟩) (by assumption) ?rest20023
  case hi20023 => (simp only [List.getElem?_toArray, List.getElem?_cons_zero, List.getElem?_cons_succ]; rfl)
  case hw20023 => rfl
  case hy20023 => first | (intro wx hSw; obtain ⟨l0, c1, c2⟩ := hSw; have hr0_ := hr0; go_simp; done) | (intro wx hSw; obtain ⟨l0, c1, c2⟩ := hSw; have hr0_ := hr0; go_simp; with_reducible rfl)
  simp only [Act.put, List.setIfInBounds_toArray, List.set_cons_zero, List.set_cons_succ]
  refine wpAnyH_take (i := 4) (oi := ?oi20024) (v := ?v20024) ?hi20024 (by kernel_rfl) (by kernel_rfl) (by kernel_rfl) (fun _ _ _ h => h) (Or.inl ⟨?hw20024, ?hy20024⟩) (by assumption) ?rest20024
  case hi20024 => (simp only [List.getElem?_toArray, List.getElem?_cons_zero, List.getElem?_cons_succ]; rfl)
  case hw20024 => rfl
  case hy20024 => first | (intro wx hSw; go_simp; done) | (intro wx hSw; go_simp; with_reducible rfl)
  simp only [Act.put, List.setIfInBounds_toArray, List.set_cons_zero, List.set_cons_succ]
  refine wpAnyH_take (i := 5) (oi := ?oi20025) (v := ?v20025) ?hi20025 (by kernel_rfl) (by kernel_rfl) (by kernel_rfl) (fun _ _ _ h => h) (Or.inl ⟨?hw20025, ?hy20025⟩) (by assumption) ?rest20025
  case hi20025 => (simp only [List.getElem?_toArray, List.getElem?_cons_zero, List.getElem?_cons_succ]; rfl)
  case hw20025 => rfl
  case hy20025 => first | (intro wx hSw; have hr0_ := hr0; have hr1_ := hr1; go_simp; done) | (intro wx hSw; have hr0_ := hr0; have hr1_ := hr1; go_simp; with_reducible rfl)
  simp only [Act.put, List.setIfInBounds_toArray, List.set_cons_zero, List.set_cons_succ]
  refine wpAnyH_take (i := 6) (oi := ?oi20026) (v := ?v20026) ?hi20026 (by kernel_rfl) (by kernel_rfl) (by kernel_rfl) (fun _ _ _ h => h) (Or.inl ⟨?hw20026, ?hy20026⟩) (by assumption) ?rest20026
  case hi20026 => (simp only [List.getElem?_toArray, List.getElem?_cons_zero, List.getElem?_cons_succ]; rfl)
  case hw20026 => rfl
  case hy20026 => first | (intro wx hSw; go_simp; done) | (intro wx hSw; go_simp; with_reducible rfl)
  simp only [Act.put, List.setIfInBounds_toArray, List.set_cons_zero, List.set_cons_succ]
  refine wpAnyH_take (i := 7) (oi := ?oi20027) (v := ?v20027) ?hi20027 (by kernel_rfl) (by kernel_rfl) (by kernel_rfl) (fun _ _ _ h => h) (Or.inl ⟨?hw20027, ?hy20027⟩) (by assumption) ?rest20027
  case hi20027 => (simp only [List.getElem?_toArray, List.getElem?_cons_zero, List.getElem?_cons_succ]; rfl)
  case hw20027 => rfl
  case hy20027 => first | (intro wx hSw; obtain ⟨l0, c1, c2⟩ := hSw; have hr0_ := hr0; go_simp; done) | (intro wx hSw; obtain ⟨l0, c1, c2⟩ := hSw; have hr0_ := hr0; go_simp; with_reducible rfl)
  simp only [Act.put, List.setIfInBounds_toArray, List.set_cons_zero, List.set_cons_succ]
  refine wpAnyH_take (i := 8) (oi := ?oi20028) (v := ?v20028) ?hi20028 (by kernel_rfl) (by kernel_rfl) (by kernel_rfl) (fun _ _ _ h => h) (Or.inl ⟨?hw20028, ?hy20028⟩) (by assumption) ?rest20028
  case hi20028 => (simp only [List.getElem?_toArray, List.getElem?_cons_zero, List.getElem?_cons_succ]; rfl)
  case hw20028 => rfl
  case hy20028 => first | (intro wx hSw; go_simp; done) | (intro wx hSw; go_simp; with_reducible rfl)
  simp only [Act.put, List.setIfInBounds_toArray, List.set_cons_zero, List.set_cons_succ]
  have GD : Grown Wd Wd := Below.refl _ _
  refine wpAnyH_ready (rs := [9, 10]) (by kernel_rfl) (by simp) ?_
  refine AllReadyH.cons rfl (fun K20029 hK20029 => ?_) ?_
  · go_simp
    go_wp2_with (go_at_call 31; refine (unhide CM _).mono ?_; rintro e X2 ⟨x1, x2, x3, x4, rfl, hM, hb⟩)
    refine hK20029.out _ _ ?hs20029 (fun hHeld20029 => ?_)
    case hs20029 => exact hHeld.call hb
    clear hHeld
    have hHeld := hHeld20029; clear hHeld20029 hK20029 K20029
    replace GD := Grown.call GD hb
    clear hb
    refine wpAnyH_ready (rs := [10]) (by kernel_rfl) (by simp) ?_
    refine AllReadyH.cons rfl (fun K20030 hK20030 => ?_) AllReadyH.nil
    go_simp
    have hba := below_new X2 (.cells #[.int .i64 0, .string ⟨#[]⟩, .int .i64 0, .int .i64 0, .int .i64 0, .string ⟨#[]⟩, .slice none 0 0] 31)
    have rb := Blk.new X2 #[.int .i64 0, .string ⟨#[]⟩, .int .i64 0, .int .i64 0, .int .i64 0, .string ⟨#[]⟩, .slice none 0 0] 31
    have hge : AtW2 Wd X2.heap.size := Below.size GD
    refine hK20030.out _ _ ?hs20030 (fun hHeld20030 => ?_)
    case hs20030 => exact hHeld.call (below_new _ _)
    clear hHeld
    have hHeld := hHeld20030; clear hHeld20030 hK20030 K20030
    replace GD := Grown.call GD hba
    generalize X2.alloc (.cells #[.int .i64 0, .string ⟨#[]⟩, .int .i64 0, .int .i64 0, .int .i64 0, .string ⟨#[]⟩, .slice none 0 0] 31) = X3 at *
    generalize X2.heap.size = bx at *
    clear hba
    have rlt := rb.lt
    have rc0 := rb.cell 0
    have rf0 := rb.froz 0
    have rc1 := rb.cell 1
    have rf1 := rb.froz 1
    have rc2 := rb.cell 2
    have rf2 := rb.froz 2
    have rc3 := rb.cell 3
    have rf3 := rb.froz 3
    have rc4 := rb.cell 4
    have rf4 := rb.froz 4
    have rc5 := rb.cell 5
    have rf5 := rb.froz 5
    have rc6 := rb.cell 6
    have rf6 := rb.froz 6
    simp at rc0 rc1 rc2 rc3 rc4 rc5 rc6
    have GE := ((((((((show Below Wd.heap.size Wd _ from GD).setCell (p := ⟨bx, 0, none⟩) hge (.int .i64 1)).setCell (p := ⟨bx, 1, none⟩) hge (.string ⟨#[]⟩)).setCell (p := ⟨bx, 2, none⟩) hge (.int .i64 x1)).setCell (p := ⟨bx, 3, none⟩) hge (.int .i64 x2)).setCell (p := ⟨bx, 4, none⟩) hge (.int .i64 x3)).setCell (p := ⟨bx, 5, none⟩) hge (.string x4)).setCell (p := ⟨bx, 6, none⟩) hge (.slice none 0 0))
    have RE := (heapSet (heapSet (heapSet (heapSet (heapSet (heapSet (heapSet rb 0 (.int .i64 1)) 1 (.string ⟨#[]⟩)) 2 (.int .i64 x1)) 3 (.int .i64 x2)) 4 (.int .i64 x3)) 5 (.string x4)) 6 (.slice none 0 0))
    refine wpAnyH_ready (rs := [11]) (by kernel_rfl) (by simp) ?_
    refine AllReadyH.cons rfl (fun K20031 hK20031 => ?_) AllReadyH.nil
    go_simp
    refine hK20031.out _ _ ?hs20031 (fun hHeld20031 => ?_)
    case hs20031 => exact (unhide hS_).call GE
    clear hHeld
    have hHeld := hHeld20031; clear hHeld20031 hK20031 K20031
    refine wpAnyH_done (by kernel_rfl) ?_ _
    refine NoPanic.normal ?_
    skip
    exact unhide REST _ bx x1 x2 x3 x4 _ (by kernel_rfl) hM (hide ((unhide G).call GE)) (hide ((unhide hB).call GE)) (hide ((unhide hT).call GE)) (hide ((unhide hy).call GE)) (hide RE)
  refine AllReadyH.cons rfl (fun K20032 hK20032 => ?_) AllReadyH.nil
  · go_simp
    have hba := below_new Wd (.cells #[.int .i64 0, .string ⟨#[]⟩, .int .i64 0, .int .i64 0, .int .i64 0, .string ⟨#[]⟩, .slice none 0 0] 31)
    have rb := Blk.new Wd #[.int .i64 0, .string ⟨#[]⟩, .int .i64 0, .int .i64 0, .int .i64 0, .string ⟨#[]⟩, .slice none 0 0] 31
    have hge : AtW2 Wd Wd.heap.size := Below.size GD
    refine hK20032.out _ _ ?hs20032 (fun hHeld20032 => ?_)
    case hs20032 => exact hHeld.call (below_new _ _)
    clear hHeld
    have hHeld := hHeld20032; clear hHeld20032 hK20032 K20032
    replace GD := Grown.call GD hba
    generalize Wd.alloc (.cells #[.int .i64 0, .string ⟨#[]⟩, .int .i64 0, .int .i64 0, .int .i64 0, .string ⟨#[]⟩, .slice none 0 0] 31) = X3 at *
    generalize Wd.heap.size = bx at *
    clear hba
    refine wpAnyH_ready (rs := [9]) (by kernel_rfl) (by simp) ?_
    refine AllReadyH.cons rfl (fun K20033 hK20033 => ?_) AllReadyH.nil
    go_simp
    go_wp2_with (go_at_call 31; refine (unhide CM _).mono ?_; rintro e X2 ⟨x1, x2, x3, x4, rfl, hM, hb⟩)
    refine hK20033.out _ _ ?hs20033 (fun hHeld20033 => ?_)
    case hs20033 => exact hHeld.call hb
    clear hHeld
    have hHeld := hHeld20033; clear hHeld20033 hK20033 K20033
    replace GD := Grown.call GD hb
    replace rb := rb.call hb
    clear hb
    have rlt := rb.lt
    have rc0 := rb.cell 0
    have rf0 := rb.froz 0
    have rc1 := rb.cell 1
    have rf1 := rb.froz 1
    have rc2 := rb.cell 2
    have rf2 := rb.froz 2
    have rc3 := rb.cell 3
    have rf3 := rb.froz 3
    have rc4 := rb.cell 4
    have rf4 := rb.froz 4
    have rc5 := rb.cell 5
    have rf5 := rb.froz 5
    have rc6 := rb.cell 6
    have rf6 := rb.froz 6
    simp at rc0 rc1 rc2 rc3 rc4 rc5 rc6
    have GE := ((((((((show Below Wd.heap.size Wd _ from GD).setCell (p := ⟨bx, 0, none⟩) hge (.int .i64 1)).setCell (p := ⟨bx, 1, none⟩) hge (.string ⟨#[]⟩)).setCell (p := ⟨bx, 2, none⟩) hge (.int .i64 x1)).setCell (p := ⟨bx, 3, none⟩) hge (.int .i64 x2)).setCell (p := ⟨bx, 4, none⟩) hge (.int .i64 x3)).setCell (p := ⟨bx, 5, none⟩) hge (.string x4)).setCell (p := ⟨bx, 6, none⟩) hge (.slice none 0 0))
    have RE := (heapSet (heapSet (heapSet (heapSet (heapSet (heapSet (heapSet rb 0 (.int .i64 1)) 1 (.string ⟨#[]⟩)) 2 (.int .i64 x1)) 3 (.int .i64 x2)) 4 (.int .i64 x3)) 5 (.string x4)) 6 (.slice none 0 0))
    refine wpAnyH_ready (rs := [11]) (by kernel_rfl) (by simp) ?_
    refine AllReadyH.cons rfl (fun K20034 hK20034 => ?_) AllReadyH.nil
    go_simp
    refine hK20034.out _ _ ?hs20034 (fun hHeld20034 => ?_)
    case hs20034 => exact (unhide hS_).call GE
    clear hHeld
    have hHeld := hHeld20034; clear hHeld20034 hK20034 K20034
    refine wpAnyH_done (by kernel_rfl) ?_ _
    refine NoPanic.normal ?_
    skip
    exact unhide REST _ bx x1 x2 x3 x4 _ (by kernel_rfl) hM (hide ((unhide G).call GE)) (hide ((unhide hB).call GE)) (hide ((unhide hT).call GE)) (hide ((unhide hy).call GE)) (hide RE)
end Go.Proofs.Ytliefgkhpgigaaa

namespace Go.Proofs.Ytliefgkhpgigaaa
open Go.RowKit Go.Shelf
set_option linter.unusedSimpArgs false
set_option linter.unusedVariables false

set_option maxHeartbeats 16000000 in
set_option maxRecDepth 100000 in
theorem ltT {r0 r1 r2 r3 r4 r5 rest : Code} (hc : Try.f10.body = some (.seq r0 (.seq r1 (.seq r2 (.seq r3 (.seq r4 (.seq r5 (rest)))))))) (w : World) (s0 : ByteArray) (jj : Int) (ua : Option Addr) (un uc : Nat) (la : Option Addr) (ln lc : Nat) (g cap : Nat) (l : List C3) (q : Option Addr) (ys : List Int) (nq : Nat) (bt : Nat) (bx : Nat) (x1 x2 x3 : Int) (x4 : ByteArray) (hM : Hid (MkV (x1, x2, x3, x4))) (K : Act → World → Prop) (Q : Exit → Act → World → Prop) (REST : Hid (∀ (ac : Act) (X : World), ac = ⟨#[ac.tmps.getD 0 undef, ac.tmps.getD 1 undef, .slice q ys.length nq, ac.tmps.getD 3 undef, ac.tmps.getD 4 undef, ac.tmps.getD 5 undef, ac.tmps.getD 6 undef, ac.tmps.getD 7 undef, ac.tmps.getD 8 undef, .pointer (some ⟨bt, 0, none⟩), .pointer (some ⟨bx, 0, none⟩), .int .i64 x1, .int .i64 0, ac.tmps.getD 13 undef, ac.tmps.getD 14 undef, ac.tmps.getD 15 undef, ac.tmps.getD 16 undef, ac.tmps.getD 17 undef, ac.tmps.getD 18 undef, ac.tmps.getD 19 undef, ac.tmps.getD 20 undef, ac.tmps.getD 21 undef, ac.tmps.getD 22 undef, ac.tmps.getD 23 undef, ac.tmps.getD 24 undef, ac.tmps.getD 25 undef, ac.tmps.getD 26 undef, ac.tmps.getD 27 undef, ac.tmps.getD 28 undef, ac.tmps.getD 29 undef, ac.tmps.getD 30 undef, ac.tmps.getD 31 undef, ac.tmps.getD 32 undef, ac.tmps.getD 33 undef, ac.tmps.getD 34 undef, ac.tmps.getD 35 undef, ac.tmps.getD 36 undef, ac.tmps.getD 37 undef, ac.tmps.getD 38 undef, ac.tmps.getD 39 undef, ac.tmps.getD 40 undef, ac.tmps.getD 41 undef, ac.tmps.getD 42 undef, ac.tmps.getD 43 undef, ac.tmps.getD 44 undef, ac.tmps.getD 45 undef, ac.tmps.getD 46 undef, ac.tmps.getD 47 undef, ac.tmps.getD 48 undef, ac.tmps.getD 49 undef, ac.tmps.getD 50 undef, ac.tmps.getD 51 undef, ac.tmps.getD 52 undef, ac.tmps.getD 53 undef, ac.tmps.getD 54 undef, ac.tmps.getD 55 undef, ac.tmps.getD 56 undef, ac.tmps.getD 57 undef, ac.tmps.getD 58 undef, ac.tmps.getD 59 undef, ac.tmps.getD 60 undef, ac.tmps.getD 61 undef, ac.tmps.getD 62 undef, ac.tmps.getD 63 undef, ac.tmps.getD 64 undef, ac.tmps.getD 65 undef, ac.tmps.getD 66 undef, ac.tmps.getD 67 undef, ac.tmps.getD 68 undef, ac.tmps.getD 69 undef, ac.tmps.getD 70 undef, ac.tmps.getD 71 undef], []⟩ → Hid (Grown w X) → Hid (ColB g l X) → Hid (Blk bt (tbl s0 (.slice (some ⟨g, 0, none⟩) l.length cap) (.int .i64 jj) (.slice ua un uc) (.slice la ln lc)) 34 X) → Hid (IntsP q ys X) → Hid (Blk bx #[.int .i64 1, .string ⟨#[]⟩, .int .i64 x1, .int .i64 x2, .int .i64 x3, .string x4, .slice none 0 0] 31 X) → K ac X)) (ac : Act) (X : World) (ha : ac = ⟨#[ac.tmps.getD 0 undef, ac.tmps.getD 1 undef, .slice q ys.length nq, ac.tmps.getD 3 undef, ac.tmps.getD 4 undef, ac.tmps.getD 5 undef, ac.tmps.getD 6 undef, ac.tmps.getD 7 undef, ac.tmps.getD 8 undef, .pointer (some ⟨bt, 0, none⟩), .pointer (some ⟨bx, 0, none⟩), ac.tmps.getD 11 undef, ac.tmps.getD 12 undef, ac.tmps.getD 13 undef, ac.tmps.getD 14 undef, ac.tmps.getD 15 undef, ac.tmps.getD 16 undef, ac.tmps.getD 17 undef, ac.tmps.getD 18 undef, ac.tmps.getD 19 undef, ac.tmps.getD 20 undef, ac.tmps.getD 21 undef, ac.tmps.getD 22 undef, ac.tmps.getD 23 undef, ac.tmps.getD 24 undef, ac.tmps.getD 25 undef, ac.tmps.getD 26 undef, ac.tmps.getD 27 undef, ac.tmps.getD 28 undef, ac.tmps.getD 29 undef, ac.tmps.getD 30 undef, ac.tmps.getD 31 undef, ac.tmps.getD 32 undef, ac.tmps.getD 33 undef, ac.tmps.getD 34 undef, ac.tmps.getD 35 undef, ac.tmps.getD 36 undef, ac.tmps.getD 37 undef, ac.tmps.getD 38 undef, ac.tmps.getD 39 undef, ac.tmps.getD 40 undef, ac.tmps.getD 41 undef, ac.tmps.getD 42 undef, ac.tmps.getD 43 undef, ac.tmps.getD 44 undef, ac.tmps.getD 45 undef, ac.tmps.getD 46 undef, ac.tmps.getD 47 undef, ac.tmps.getD 48 undef, ac.tmps.getD 49 undef, ac.tmps.getD 50 undef, ac.tmps.getD 51 undef, ac.tmps.getD 52 undef, ac.tmps.getD 53 undef, ac.tmps.getD 54 undef, ac.tmps.getD 55 undef, ac.tmps.getD 56 undef, ac.tmps.getD 57 undef, ac.tmps.getD 58 undef, ac.tmps.getD 59 undef, ac.tmps.getD 60 undef, ac.tmps.getD 61 undef, ac.tmps.getD 62 undef, ac.tmps.getD 63 undef, ac.tmps.getD 64 undef, ac.tmps.getD 65 undef, ac.tmps.getD 66 undef, ac.tmps.getD 67 undef, ac.tmps.getD 68 undef, ac.tmps.getD 69 undef, ac.tmps.getD 70 undef, ac.tmps.getD 71 undef], []⟩) (G : Hid (Grown w X)) (hB : Hid (ColB g l X)) (hT : Hid (Blk bt (tbl s0 (.slice (some ⟨g, 0, none⟩) l.length cap) (.int .i64 jj) (.slice ua un uc) (.slice la ln lc)) 34 X)) (hy : Hid (IntsP q ys X)) (hX : Hid (Blk bx #[.int .i64 1, .string ⟨#[]⟩, .int .i64 x1, .int .i64 x2, .int .i64 x3, .string x4, .slice none 0 0] 31 X)) : r5.wp Try.prog (Exit.then K Q) ac X := by
  obtain ⟨u, rfl⟩ : ∃ u : Nat → Value, ac = ⟨#[u 0, u 1, .slice q ys.length nq, u 3, u 4, u 5, u 6, u 7, u 8, .pointer (some ⟨bt, 0, none⟩), .pointer (some ⟨bx, 0, none⟩), u 11, u 12, u 13, u 14, u 15, u 16, u 17, u 18, u 19, u 20, u 21, u 22, u 23, u 24, u 25, u 26, u 27, u 28, u 29, u 30, u 31, u 32, u 33, u 34, u 35, u 36, u 37, u 38, u 39, u 40, u 41, u 42, u 43, u 44, u 45, u 46, u 47, u 48, u 49, u 50, u 51, u 52, u 53, u 54, u 55, u 56, u 57, u 58, u 59, u 60, u 61, u 62, u 63, u 64, u 65, u 66, u 67, u 68, u 69, u 70, u 71], []⟩ := ⟨fun i => ac.tmps.getD i undef, ha⟩
  clear ha
  unfold Try.f10 at hc
  cases hc
  have lt_ := (unhide hT).lt
  have lx_ := (unhide hX).lt
  have t0 := (unhide hT).cell 0
  have t1 := (unhide hT).cell 1
  have t2 := (unhide hT).cell 2
  have t3 := (unhide hT).cell 3
  have t4 := (unhide hT).cell 4
  have t5 := (unhide hT).cell 5
  have t6 := (unhide hT).cell 6
  have t7 := (unhide hT).cell 7
  have t8 := (unhide hT).cell 8
  have t9 := (unhide hT).cell 9
  have t10 := (unhide hT).cell 10
  have t11 := (unhide hT).cell 11
  have y0 := (unhide hX).cell 0
  have y1 := (unhide hX).cell 1
  have y2 := (unhide hX).cell 2
  have y3 := (unhide hX).cell 3
  have y4 := (unhide hX).cell 4
  have y5 := (unhide hX).cell 5
  have y6 := (unhide hX).cell 6
  simp at t0 t1 t2 t3 t4 t5 t6 t7 t8 t9 t10 t11 y0 y1 y2 y3 y4 y5 y6
  have CT := hide (fun (W : World) h1 => (type_any (.string s0) (.int .i64 jj) (.slice ua un uc) (.int .i64 0) (.string ⟨#[]⟩) (.int .i64 0) (.int .i64 0) (.int .i64 0) (.string ⟨#[]⟩) (.slice none 0 0) (.slice la ln lc) (.slice (some ⟨g, 0, none⟩) l.length cap) N0 l (.leaf 1 S0 (x1, x2, x3, x4)) W h1 (show 1 ≤ 1000 by decide) rfl : Calls Try.prog 16 #[.agg #[.string s0, .slice (some ⟨g, 0, none⟩) l.length cap, .int .i64 jj, .slice ua un uc, .int .i64 0, .string ⟨#[]⟩, .int .i64 0, .int .i64 0, .int .i64 0, .string ⟨#[]⟩, .slice none 0 0, .slice la ln lc], .agg #[.int .i64 1, .string ⟨#[]⟩, .int .i64 x1, .int .i64 x2, .int .i64 x3, .string x4, .slice none 0 0]] W (Fin (x1, 0) W)))
  go_wp2_with fail
  refine (unhide CT _ (unhide hB).cols).mono ?_
  rintro e W2 ⟨rfl, hb⟩
  replace G := hide ((unhide G).call hb)
  replace hB := hide ((unhide hB).call hb)
  replace hT := hide ((unhide hT).call hb)
  replace hy := hide ((unhide hy).call hb)
  replace hX := hide ((unhide hX).call hb)
  clear hb CT lt_ lx_ t0 t1 t2 t3 t4 t5 t6 t7 t8 t9 t10 t11 y0 y1 y2 y3 y4 y5 y6
  go_wp2_with fail
  exact unhide REST _ _ (by kernel_rfl) G hB hT hy hX
end Go.Proofs.Ytliefgkhpgigaaa

namespace Go.Proofs.Ytliefgkhpgigaaa
open Go.RowKit Go.Shelf
set_option linter.unusedSimpArgs false
set_option linter.unusedVariables false

def MkN (l : List V4) (n : Nat) (_ : World) : Prop := l.length = n ∧ ∀ x ∈ l, MkV x
theorem MkN.call {l : List V4} {n : Nat} {W W' : World} (h : MkN l n W) (_ : Below W.heap.size W W') : MkN l n W' := h
def SLt (tb : Array Value) (xl : Array Value) (bt bx : Nat) (X : World) : Prop := Blk bt tb 34 X ∧ Blk bx xl 31 X
theorem SLt.call {tb xl : Array Value} {bt bx : Nat} {W W' : World} (h : SLt tb xl bt bx W) (hb : Below W.heap.size W W') : SLt tb xl bt bx W' := ⟨h.1.call hb, h.2.call hb⟩
theorem row4t (s0 : ByteArray) (jj : Int) (ua : Option Addr) (un uc : Nat) (la : Option Addr) (ln lc : Nat) (g cap : Nat) (l : List C3) (q : Option Addr) (ys : List Int) (nq : Nat) (w : World) (hl : 1 ≤ l.length ∧ l.length ≤ 4) (hL : ColsL l) (hB : ColB g l w) (hy : IntsP q ys w) :
    Calls Try.prog 18 #[.agg #[.string s0, .slice (some ⟨g, 0, none⟩) l.length cap, .int .i64 jj, .slice ua un uc, .int .i64 0, .string ⟨#[]⟩, .int .i64 0, .int .i64 0, .int .i64 0, .string ⟨#[]⟩, .slice none 0 0, .slice la ln lc], .slice q ys.length nq, .string ⟨#[115]⟩] w fun e W => ∃ gr cr lr, e = .returned (.slice (some ⟨gr, 0, none⟩) l.length cr) ∧ Hid (RowB gr lr W) ∧ Hid (MkN lr l.length W) ∧ Below w.heap.size w W := by
  refine (row4_any (.string s0) (.int .i64 jj) (.slice ua un uc) (.int .i64 0) (.string ⟨#[]⟩) (.int .i64 0) (.int .i64 0) (.int .i64 0) (.string ⟨#[]⟩) (.slice none 0 0) (.slice la ln lc) g cap l q nq ys ⟨#[115]⟩ w hB.cols (fun i hi => by have := hL i hi; omega) hy (by decide)).mono ?_
  rintro e W ⟨v, rfl, lr, hlr, hmk, ho, hb⟩
  obtain ⟨gr, cr, cur, rfl, hge, hgb, hc, hr⟩ := row_own (by omega) ho (by rintro rfl; simp at hlr; omega)
  exact ⟨gr, cr, lr, by rw [hlr], ⟨by omega, cur, hgb, hc⟩, ⟨hlr, hmk⟩, hb⟩
set_option maxHeartbeats 16000000 in
set_option maxRecDepth 100000 in
theorem ltB {r0 r1 r2 r3 r4 r5 r6 rest : Code} (hc : Try.f10.body = some (.seq r0 (.seq r1 (.seq r2 (.seq r3 (.seq r4 (.seq r5 (.seq r6 (rest))))))))) (w : World) (s0 : ByteArray) (jj : Int) (ua : Option Addr) (un uc : Nat) (la : Option Addr) (ln lc : Nat) (g cap : Nat) (l : List C3) (q : Option Addr) (ys : List Int) (nq : Nat) (bt : Nat) (bx : Nat) (x1 x2 x3 : Int) (x4 : ByteArray) (hM : Hid (MkV (x1, x2, x3, x4))) (hl : 1 ≤ l.length ∧ l.length ≤ 4) (hL : Hid (ColsL l)) (K : Act → World → Prop) (Q : Exit → Act → World → Prop) (REST : Hid (∀ (ac : Act) (bv : Nat) (X : World), ac = ⟨#[ac.tmps.getD 0 undef, ac.tmps.getD 1 undef, ac.tmps.getD 2 undef, ac.tmps.getD 3 undef, ac.tmps.getD 4 undef, ac.tmps.getD 5 undef, ac.tmps.getD 6 undef, ac.tmps.getD 7 undef, ac.tmps.getD 8 undef, ac.tmps.getD 9 undef, .pointer (some ⟨bx, 0, none⟩), .int .i64 x1, .int .i64 0, .pointer (some ⟨bv, 0, none⟩), .int .i64 0, ac.tmps.getD 15 undef, ac.tmps.getD 16 undef, ac.tmps.getD 17 undef, ac.tmps.getD 18 undef, ac.tmps.getD 19 undef, ac.tmps.getD 20 undef, ac.tmps.getD 21 undef, ac.tmps.getD 22 undef, ac.tmps.getD 23 undef, ac.tmps.getD 24 undef, ac.tmps.getD 25 undef, ac.tmps.getD 26 undef, ac.tmps.getD 27 undef, ac.tmps.getD 28 undef, ac.tmps.getD 29 undef, ac.tmps.getD 30 undef, ac.tmps.getD 31 undef, ac.tmps.getD 32 undef, ac.tmps.getD 33 undef, ac.tmps.getD 34 undef, ac.tmps.getD 35 undef, ac.tmps.getD 36 undef, ac.tmps.getD 37 undef, ac.tmps.getD 38 undef, ac.tmps.getD 39 undef, ac.tmps.getD 40 undef, ac.tmps.getD 41 undef, ac.tmps.getD 42 undef, ac.tmps.getD 43 undef, ac.tmps.getD 44 undef, ac.tmps.getD 45 undef, ac.tmps.getD 46 undef, ac.tmps.getD 47 undef, ac.tmps.getD 48 undef, ac.tmps.getD 49 undef, ac.tmps.getD 50 undef, ac.tmps.getD 51 undef, ac.tmps.getD 52 undef, ac.tmps.getD 53 undef, ac.tmps.getD 54 undef, ac.tmps.getD 55 undef, ac.tmps.getD 56 undef, ac.tmps.getD 57 undef, ac.tmps.getD 58 undef, ac.tmps.getD 59 undef, ac.tmps.getD 60 undef, ac.tmps.getD 61 undef, ac.tmps.getD 62 undef, ac.tmps.getD 63 undef, ac.tmps.getD 64 undef, ac.tmps.getD 65 undef, ac.tmps.getD 66 undef, ac.tmps.getD 67 undef, ac.tmps.getD 68 undef, ac.tmps.getD 69 undef, ac.tmps.getD 70 undef, ac.tmps.getD 71 undef], []⟩ → Hid (Grown w X) → Hid (Blk bx #[.int .i64 1, .string ⟨#[]⟩, .int .i64 x1, .int .i64 x2, .int .i64 x3, .string x4, .slice none 0 0] 31 X) → Hid (Blk bv #[(.int .i64 x1), (.int .i64 x2), (.int .i64 x3), (.string x4)] 28 X) → K ac X)) (ac : Act) (X : World) (ha : ac = ⟨#[ac.tmps.getD 0 undef, ac.tmps.getD 1 undef, .slice q ys.length nq, ac.tmps.getD 3 undef, ac.tmps.getD 4 undef, ac.tmps.getD 5 undef, ac.tmps.getD 6 undef, ac.tmps.getD 7 undef, ac.tmps.getD 8 undef, .pointer (some ⟨bt, 0, none⟩), .pointer (some ⟨bx, 0, none⟩), .int .i64 x1, .int .i64 0, ac.tmps.getD 13 undef, ac.tmps.getD 14 undef, ac.tmps.getD 15 undef, ac.tmps.getD 16 undef, ac.tmps.getD 17 undef, ac.tmps.getD 18 undef, ac.tmps.getD 19 undef, ac.tmps.getD 20 undef, ac.tmps.getD 21 undef, ac.tmps.getD 22 undef, ac.tmps.getD 23 undef, ac.tmps.getD 24 undef, ac.tmps.getD 25 undef, ac.tmps.getD 26 undef, ac.tmps.getD 27 undef, ac.tmps.getD 28 undef, ac.tmps.getD 29 undef, ac.tmps.getD 30 undef, ac.tmps.getD 31 undef, ac.tmps.getD 32 undef, ac.tmps.getD 33 undef, ac.tmps.getD 34 undef, ac.tmps.getD 35 undef, ac.tmps.getD 36 undef, ac.tmps.getD 37 undef, ac.tmps.getD 38 undef, ac.tmps.getD 39 undef, ac.tmps.getD 40 undef, ac.tmps.getD 41 undef, ac.tmps.getD 42 undef, ac.tmps.getD 43 undef, ac.tmps.getD 44 undef, ac.tmps.getD 45 undef, ac.tmps.getD 46 undef, ac.tmps.getD 47 undef, ac.tmps.getD 48 undef, ac.tmps.getD 49 undef, ac.tmps.getD 50 undef, ac.tmps.getD 51 undef, ac.tmps.getD 52 undef, ac.tmps.getD 53 undef, ac.tmps.getD 54 undef, ac.tmps.getD 55 undef, ac.tmps.getD 56 undef, ac.tmps.getD 57 undef, ac.tmps.getD 58 undef, ac.tmps.getD 59 undef, ac.tmps.getD 60 undef, ac.tmps.getD 61 undef, ac.tmps.getD 62 undef, ac.tmps.getD 63 undef, ac.tmps.getD 64 undef, ac.tmps.getD 65 undef, ac.tmps.getD 66 undef, ac.tmps.getD 67 undef, ac.tmps.getD 68 undef, ac.tmps.getD 69 undef, ac.tmps.getD 70 undef, ac.tmps.getD 71 undef], []⟩) (G : Hid (Grown w X)) (hB : Hid (ColB g l X)) (hT : Hid (Blk bt (tbl s0 (.slice (some ⟨g, 0, none⟩) l.length cap) (.int .i64 jj) (.slice ua un uc) (.slice la ln lc)) 34 X)) (hy : Hid (IntsP q ys X)) (hX : Hid (Blk bx #[.int .i64 1, .string ⟨#[]⟩, .int .i64 x1, .int .i64 x2, .int .i64 x3, .string x4, .slice none 0 0] 31 X)) : r6.wp Try.prog (Exit.then K Q) ac X := by
  obtain ⟨u, rfl⟩ : ∃ u : Nat → Value, ac = ⟨#[u 0, u 1, .slice q ys.length nq, u 3, u 4, u 5, u 6, u 7, u 8, .pointer (some ⟨bt, 0, none⟩), .pointer (some ⟨bx, 0, none⟩), .int .i64 x1, .int .i64 0, u 13, u 14, u 15, u 16, u 17, u 18, u 19, u 20, u 21, u 22, u 23, u 24, u 25, u 26, u 27, u 28, u 29, u 30, u 31, u 32, u 33, u 34, u 35, u 36, u 37, u 38, u 39, u 40, u 41, u 42, u 43, u 44, u 45, u 46, u 47, u 48, u 49, u 50, u 51, u 52, u 53, u 54, u 55, u 56, u 57, u 58, u 59, u 60, u 61, u 62, u 63, u 64, u 65, u 66, u 67, u 68, u 69, u 70, u 71], []⟩ := ⟨fun i => ac.tmps.getD i undef, ha⟩
  clear ha
  unfold Try.f10 at hc
  cases hc
  have CE : Hid (∀ (gr cr : Nat) (lr : List V4) (W : World), lr.length = l.length → (∀ v ∈ lr, MkV v) → ColsOf (.slice (some ⟨g, 0, none⟩) l.length cap) l W → RowOf (some ⟨gr, 0, none⟩) lr W → Calls Try.prog 19 #[.agg #[.string s0, .slice (some ⟨g, 0, none⟩) l.length cap, .int .i64 jj, .slice ua un uc, .int .i64 0, .string ⟨#[]⟩, .int .i64 0, .int .i64 0, .int .i64 0, .string ⟨#[]⟩, .slice none 0 0, .slice la ln lc], .slice (some ⟨gr, 0, none⟩) l.length cr, .agg #[.int .i64 1, .string ⟨#[]⟩, .int .i64 x1, .int .i64 x2, .int .i64 x3, .string x4, .slice none 0 0]] W (FinV ((x1, x2, x3, x4), 0) W)) := by
    intro gr cr lr W e1 e2 h1 h2
    have h := eval_any (.string s0) (.int .i64 jj) (.slice ua un uc) (.int .i64 0) (.string ⟨#[]⟩) (.int .i64 0) (.int .i64 0) (.int .i64 0) (.string ⟨#[]⟩) (.slice none 0 0) (.slice la ln lc) (.slice (some ⟨g, 0, none⟩) l.length cap) l (some ⟨gr, 0, none⟩) lr cr (.leaf 1 S0 (x1, x2, x3, x4)) N0 W h1 h2 (fun v hv => (e2 v hv).ok) (show 1 ≤ 1000 by decide) rfl (unhide hM).ok
    rw [e1] at h
    exact h
  have CR := hide (fun W h1 h2 => row4t s0 jj ua un uc la ln lc g cap l q ys nq W hl (unhide hL) h1 h2)
  have hS : Hid (SLt (tbl s0 (.slice (some ⟨g, 0, none⟩) l.length cap) (.int .i64 jj) (.slice ua un uc) (.slice la ln lc)) #[.int .i64 1, .string ⟨#[]⟩, .int .i64 x1, .int .i64 x2, .int .i64 x3, .string x4, .slice none 0 0] bt bx X) := hide ⟨unhide hT, unhide hX⟩
  refine wp_region_noPanic ?_
  refine wp_region_held_drew (S := (SLt (tbl s0 (.slice (some ⟨g, 0, none⟩) l.length cap) (.int .i64 jj) (.slice ua un uc) (.slice la ln lc)) #[.int .i64 1, .string ⟨#[]⟩, .int .i64 x1, .int .i64 x2, .int .i64 x3, .string x4, .slice none 0 0] bt bx)) (by kernel_rfl) ((unhide hS).call (Below.refl _ _).drew) (fun hHeld => ?_)
  have hbd : Below X.heap.size X X.drew := (Below.refl _ _).drew
  replace G := hide ((unhide G).call hbd)
  replace hB := hide ((unhide hB).call hbd)
  replace hT := hide ((unhide hT).call hbd)
  replace hy := hide ((unhide hy).call hbd)
  replace hX := hide ((unhide hX).call hbd)
  replace hS := hide ((unhide hS).call hbd)
  clear hbd
  generalize X.drew = Wd at *
  refine wpAnyH_take (i := 0) (oi := ?oi20001) (v := ?v20001) ?hi20001 (by kernel_rfl) (by kernel_rfl) (by kernel_rfl) (fun _ _ _ h => h) (Or.inl ⟨?hw20001, ?hy20001⟩) (by assumption) ?rest20001
  case hi20001 => (simp only [List.getElem?_toArray, List.getElem?_cons_zero]; rfl)
  case hw20001 => rfl
  case hy20001 => first | (intro wx hSw; have hT := hSw.1; have lt_ := hT.lt; have t0 := Blk.cell hT 0; have t1 := Blk.cell hT 1; have t2 := Blk.cell hT 2; have t3 := Blk.cell hT 3; have t4 := Blk.cell hT 4; have t5 := Blk.cell hT 5; have t6 := Blk.cell hT 6; have t7 := Blk.cell hT 7; have t8 := Blk.cell hT 8; have t9 := Blk.cell hT 9; have t10 := Blk.cell hT 10; have t11 := Blk.cell hT 11; simp at t0 t1 t2 t3 t4 t5 t6 t7 t8 t9 t10 t11; go_simp; done) | (intro wx hSw; have hT := hSw.1; have lt_ := hT.lt; have t0 := Blk.cell hT 0; have t1 := Blk.cell hT 1; have t2 := Blk.cell hT 2; have t3 := Blk.cell hT 3; have t4 := Blk.cell hT 4; have t5 := Blk.cell hT 5; have t6 := Blk.cell hT 6; have t7 := Blk.cell hT 7; have t8 := Blk.cell hT 8; have t9 := Blk.cell hT 9; have t10 := Blk.cell hT 10; have t11 := Blk.cell hT 11; simp at t0 t1 t2 t3 t4 t5 t6 t7 t8 t9 t10 t11; go_simp; with_reducible rfl)
  simp only [Act.put, List.setIfInBounds_toArray, List.set_cons_zero, List.set_cons_succ]
  refine wpAnyH_take (i := 1) (oi := ?oi20002) (v := ?v20002) ?hi20002 (by kernel_rfl) (by kernel_rfl) (by kernel_rfl) (fun _ _ _ h => h) (Or.inl ⟨?hw20002, ?hy20002⟩) (by assumption) ?rest20002
  case hi20002 => (simp only [List.getElem?_toArray, List.getElem?_cons_zero, List.getElem?_cons_succ]; rfl)
  case hw20002 => rfl
  case hy20002 => first | (intro wx hSw; have hT := hSw.1; have lt_ := hT.lt; have t0 := Blk.cell hT 0; have t1 := Blk.cell hT 1; have t2 := Blk.cell hT 2; have t3 := Blk.cell hT 3; have t4 := Blk.cell hT 4; have t5 := Blk.cell hT 5; have t6 := Blk.cell hT 6; have t7 := Blk.cell hT 7; have t8 := Blk.cell hT 8; have t9 := Blk.cell hT 9; have t10 := Blk.cell hT 10; have t11 := Blk.cell hT 11; simp at t0 t1 t2 t3 t4 t5 t6 t7 t8 t9 t10 t11; go_simp; done) | (intro wx hSw; have hT := hSw.1; have lt_ := hT.lt; have t0 := Blk.cell hT 0; have t1 := Blk.cell hT 1; have t2 := Blk.cell hT 2; have t3 := Blk.cell hT 3; have t4 := Blk.cell hT 4; have t5 := Blk.cell hT 5; have t6 := Blk.cell hT 6; have t7 := Blk.cell hT 7; have t8 := Blk.cell hT 8; have t9 := Blk.cell hT 9; have t10 := Blk.cell hT 10; have t11 := Blk.cell hT 11; simp at t0 t1 t2 t3 t4 t5 t6 t7 t8 t9 t10 t11; go_simp; with_reducible rfl)
  simp only [Act.put, List.setIfInBounds_toArray, List.set_cons_zero, List.set_cons_succ]
  refine wpAnyH_take (i := 2) (oi := ?oi20003) (v := ?v20003) ?hi20003 (by kernel_rfl) (by kernel_rfl) (by kernel_rfl) (fun _ _ _ h => h) (Or.inl ⟨?hw20003, ?hy20003⟩) (by assumption) ?rest20003
  case hi20003 => (simp only [List.getElem?_toArray, List.getElem?_cons_zero, List.getElem?_cons_succ]; rfl)
  case hw20003 => rfl
  case hy20003 => first | (intro wx hSw; go_simp; done) | (intro wx hSw; go_simp; with_reducible rfl)
  simp only [Act.put, List.setIfInBounds_toArray, List.set_cons_zero, List.set_cons_succ]
  refine wpAnyH_take (i := 4) (oi := ?oi20004) (v := ?v20004) ?hi20004 (by kernel_rfl) (by kernel_rfl) (by kernel_rfl) (fun _ _ _ h => h) (Or.inl ⟨?hw20004, ?hy20004⟩) (by assumption) ?rest20004
  case hi20004 => (simp only [List.getElem?_toArray, List.getElem?_cons_zero, List.getElem?_cons_succ]; rfl)
  case hw20004 => rfl
  case hy20004 => first | (intro wx hSw; have hX := hSw.2; have lx_ := hX.lt; have y0 := Blk.cell hX 0; have y1 := Blk.cell hX 1; have y2 := Blk.cell hX 2; have y3 := Blk.cell hX 3; have y4 := Blk.cell hX 4; have y5 := Blk.cell hX 5; have y6 := Blk.cell hX 6; simp at y0 y1 y2 y3 y4 y5 y6; go_simp; done) | (intro wx hSw; have hX := hSw.2; have lx_ := hX.lt; have y0 := Blk.cell hX 0; have y1 := Blk.cell hX 1; have y2 := Blk.cell hX 2; have y3 := Blk.cell hX 3; have y4 := Blk.cell hX 4; have y5 := Blk.cell hX 5; have y6 := Blk.cell hX 6; simp at y0 y1 y2 y3 y4 y5 y6; go_simp; with_reducible rfl)
  simp only [Act.put, List.setIfInBounds_toArray, List.set_cons_zero, List.set_cons_succ]
  refine anyH_name ?_
  intro GG hin hout
  have HIN := hide hin
  have HOUT := hide hout
  clear hin hout hHeld
  have C22_ : ∀ (ac : Act) (gr : Nat) (cr : Nat) (lr : List V4) (bv : Nat) (X : World), ac = ⟨#[ac.tmps.getD 0 undef, ac.tmps.getD 1 undef, .slice q ys.length nq, ac.tmps.getD 3 undef, ac.tmps.getD 4 undef, ac.tmps.getD 5 undef, ac.tmps.getD 6 undef, ac.tmps.getD 7 undef, ac.tmps.getD 8 undef, .pointer (some ⟨bt, 0, none⟩), .pointer (some ⟨bx, 0, none⟩), .int .i64 x1, .int .i64 0, .pointer (some ⟨bv, 0, none⟩), ac.tmps.getD 14 undef, ac.tmps.getD 15 undef, ac.tmps.getD 16 undef, ac.tmps.getD 17 undef, ac.tmps.getD 18 undef, ac.tmps.getD 19 undef, ac.tmps.getD 20 undef, ac.tmps.getD 21 undef, ac.tmps.getD 22 undef, ac.tmps.getD 23 undef, ac.tmps.getD 24 undef, ac.tmps.getD 25 undef, ac.tmps.getD 26 undef, ac.tmps.getD 27 undef, ac.tmps.getD 28 undef, ac.tmps.getD 29 undef, ac.tmps.getD 30 undef, ac.tmps.getD 31 undef, ac.tmps.getD 32 undef, ac.tmps.getD 33 undef, ac.tmps.getD 34 undef, ac.tmps.getD 35 undef, ac.tmps.getD 36 undef, ac.tmps.getD 37 undef, ac.tmps.getD 38 undef, ac.tmps.getD 39 undef, ac.tmps.getD 40 undef, ac.tmps.getD 41 undef, ac.tmps.getD 42 undef, ac.tmps.getD 43 undef, ac.tmps.getD 44 undef, .agg #[.string s0, .slice (some ⟨g, 0, none⟩) l.length cap, .int .i64 jj, .slice ua un uc, .int .i64 0, .string ⟨#[]⟩, .int .i64 0, .int .i64 0, .int .i64 0, .string ⟨#[]⟩, .slice none 0 0, .slice la ln lc], .agg #[.string s0, .slice (some ⟨g, 0, none⟩) l.length cap, .int .i64 jj, .slice ua un uc, .int .i64 0, .string ⟨#[]⟩, .int .i64 0, .int .i64 0, .int .i64 0, .string ⟨#[]⟩, .slice none 0 0, .slice la ln lc], .slice q ys.length nq, .slice (some ⟨gr, 0, none⟩) l.length cr, .agg #[.int .i64 1, .string ⟨#[]⟩, .int .i64 x1, .int .i64 x2, .int .i64 x3, .string x4, .slice none 0 0], ac.tmps.getD 50 undef, .agg #[(.int .i64 x1), (.int .i64 x2), (.int .i64 x3), (.string x4)], .int .i64 0, ac.tmps.getD 53 undef, ac.tmps.getD 54 undef, ac.tmps.getD 55 undef, ac.tmps.getD 56 undef, ac.tmps.getD 57 undef, ac.tmps.getD 58 undef, ac.tmps.getD 59 undef, ac.tmps.getD 60 undef, ac.tmps.getD 61 undef, ac.tmps.getD 62 undef, ac.tmps.getD 63 undef, ac.tmps.getD 64 undef, ac.tmps.getD 65 undef, ac.tmps.getD 66 undef, ac.tmps.getD 67 undef, ac.tmps.getD 68 undef, ac.tmps.getD 69 undef, ac.tmps.getD 70 undef, ac.tmps.getD 71 undef], []⟩ → Below Wd.heap.size Wd X → Hid (RowB gr lr X) → Hid (MkN lr l.length X) → Hid (Blk bv (vC Z4).toArray 28 X) → Hid (GeB Wd.heap.size bv X) → GG 2 #[true, true, true, true, true, true, true, true, true, true, false, false] ac X := by
    intro ac gr cr lr bv X ha GD hR hN rb hge
    obtain ⟨u, rfl⟩ : ∃ u : Nat → Value, ac = ⟨#[u 0, u 1, .slice q ys.length nq, u 3, u 4, u 5, u 6, u 7, u 8, .pointer (some ⟨bt, 0, none⟩), .pointer (some ⟨bx, 0, none⟩), .int .i64 x1, .int .i64 0, .pointer (some ⟨bv, 0, none⟩), u 14, u 15, u 16, u 17, u 18, u 19, u 20, u 21, u 22, u 23, u 24, u 25, u 26, u 27, u 28, u 29, u 30, u 31, u 32, u 33, u 34, u 35, u 36, u 37, u 38, u 39, u 40, u 41, u 42, u 43, u 44, .agg #[.string s0, .slice (some ⟨g, 0, none⟩) l.length cap, .int .i64 jj, .slice ua un uc, .int .i64 0, .string ⟨#[]⟩, .int .i64 0, .int .i64 0, .int .i64 0, .string ⟨#[]⟩, .slice none 0 0, .slice la ln lc], .agg #[.string s0, .slice (some ⟨g, 0, none⟩) l.length cap, .int .i64 jj, .slice ua un uc, .int .i64 0, .string ⟨#[]⟩, .int .i64 0, .int .i64 0, .int .i64 0, .string ⟨#[]⟩, .slice none 0 0, .slice la ln lc], .slice q ys.length nq, .slice (some ⟨gr, 0, none⟩) l.length cr, .agg #[.int .i64 1, .string ⟨#[]⟩, .int .i64 x1, .int .i64 x2, .int .i64 x3, .string x4, .slice none 0 0], u 50, .agg #[(.int .i64 x1), (.int .i64 x2), (.int .i64 x3), (.string x4)], .int .i64 0, u 53, u 54, u 55, u 56, u 57, u 58, u 59, u 60, u 61, u 62, u 63, u 64, u 65, u 66, u 67, u 68, u 69, u 70, u 71], []⟩ := ⟨fun i => ac.tmps.getD i undef, ha⟩
    clear ha
    refine unhide HIN _ _ _ _ ?_
    have hHeld : (SLt (tbl s0 (.slice (some ⟨g, 0, none⟩) l.length cap) (.int .i64 jj) (.slice ua un uc) (.slice la ln lc)) #[.int .i64 1, .string ⟨#[]⟩, .int .i64 x1, .int .i64 x2, .int .i64 x3, .string x4, .slice none 0 0] bt bx) X := (unhide hS).call GD
    have rlt := (unhide rb).lt
    have rc0 := (unhide rb).cell 0
    have rf0 := (unhide rb).froz 0
    have rc1 := (unhide rb).cell 1
    have rf1 := (unhide rb).froz 1
    have rc2 := (unhide rb).cell 2
    have rf2 := (unhide rb).froz 2
    have rc3 := (unhide rb).cell 3
    have rf3 := (unhide rb).froz 3
    simp at rc0 rc1 rc2 rc3
    have hge2 : Wd.heap.size ≤ bv := unhide hge
    have GE : Below Wd.heap.size Wd ((((X.setCell ⟨bv, 0, none⟩ ((.int .i64 x1))).setCell ⟨bv, 1, none⟩ ((.int .i64 x2))).setCell ⟨bv, 2, none⟩ ((.int .i64 x3))).setCell ⟨bv, 3, none⟩ ((.string x4))) := (((GD.setCell (p := ⟨bv, 0, none⟩) hge2 _).setCell (p := ⟨bv, 1, none⟩) hge2 _).setCell (p := ⟨bv, 2, none⟩) hge2 _).setCell (p := ⟨bv, 3, none⟩) hge2 _
    have RE : Blk bv #[(.int .i64 x1), (.int .i64 x2), (.int .i64 x3), (.string x4)] 28 ((((X.setCell ⟨bv, 0, none⟩ ((.int .i64 x1))).setCell ⟨bv, 1, none⟩ ((.int .i64 x2))).setCell ⟨bv, 2, none⟩ ((.int .i64 x3))).setCell ⟨bv, 3, none⟩ ((.string x4))) := heapSet4 (unhide rb) _ _ _ _
    refine wpAnyH_ready (rs := [10]) (by kernel_rfl) (by simp) ?_
    refine AllReadyH.cons rfl (fun K20005 hK20005 => ?_) AllReadyH.nil
    go_simp
    refine hK20005.out _ _ ?hs20005 (fun hHeld20005 => ?_)
    case hs20005 => exact (unhide hS).call GE
    clear hHeld
    have hHeld := hHeld20005; clear hHeld20005 hK20005 K20005
    refine wpAnyH_take (i := 11) (oi := ?oi20006) (v := ?v20006) ?hi20006 (by kernel_rfl) (by kernel_rfl) (by kernel_rfl) (fun _ _ _ h => h) (Or.inl ⟨?hw20006, ?hy20006⟩) (by assumption) ?rest20006
    case hi20006 => (simp only [List.getElem?_toArray, List.getElem?_cons_zero, List.getElem?_cons_succ]; rfl)
    case hw20006 => rfl
    case hy20006 => first | (intro wx hSw; go_simp; done) | (intro wx hSw; go_simp; with_reducible rfl)
    simp only [Act.put, List.setIfInBounds_toArray, List.set_cons_zero, List.set_cons_succ]
    refine wpAnyH_done (by kernel_rfl) ?_ _
    refine NoPanic.normal ?_
    skip
    exact unhide REST _ bv _ (by kernel_rfl) (hide ((unhide G).call GE)) (hide ((unhide hX).call GE)) (hide RE)
  have C22_ := hide C22_
  have C2 : ∀ (ac : Act) (gr : Nat) (cr : Nat) (lr : List V4) (X : World), ac = ⟨#[ac.tmps.getD 0 undef, ac.tmps.getD 1 undef, .slice q ys.length nq, ac.tmps.getD 3 undef, ac.tmps.getD 4 undef, ac.tmps.getD 5 undef, ac.tmps.getD 6 undef, ac.tmps.getD 7 undef, ac.tmps.getD 8 undef, .pointer (some ⟨bt, 0, none⟩), .pointer (some ⟨bx, 0, none⟩), .int .i64 x1, .int .i64 0, ac.tmps.getD 13 undef, ac.tmps.getD 14 undef, ac.tmps.getD 15 undef, ac.tmps.getD 16 undef, ac.tmps.getD 17 undef, ac.tmps.getD 18 undef, ac.tmps.getD 19 undef, ac.tmps.getD 20 undef, ac.tmps.getD 21 undef, ac.tmps.getD 22 undef, ac.tmps.getD 23 undef, ac.tmps.getD 24 undef, ac.tmps.getD 25 undef, ac.tmps.getD 26 undef, ac.tmps.getD 27 undef, ac.tmps.getD 28 undef, ac.tmps.getD 29 undef, ac.tmps.getD 30 undef, ac.tmps.getD 31 undef, ac.tmps.getD 32 undef, ac.tmps.getD 33 undef, ac.tmps.getD 34 undef, ac.tmps.getD 35 undef, ac.tmps.getD 36 undef, ac.tmps.getD 37 undef, ac.tmps.getD 38 undef, ac.tmps.getD 39 undef, ac.tmps.getD 40 undef, ac.tmps.getD 41 undef, ac.tmps.getD 42 undef, ac.tmps.getD 43 undef, ac.tmps.getD 44 undef, .agg #[.string s0, .slice (some ⟨g, 0, none⟩) l.length cap, .int .i64 jj, .slice ua un uc, .int .i64 0, .string ⟨#[]⟩, .int .i64 0, .int .i64 0, .int .i64 0, .string ⟨#[]⟩, .slice none 0 0, .slice la ln lc], .agg #[.string s0, .slice (some ⟨g, 0, none⟩) l.length cap, .int .i64 jj, .slice ua un uc, .int .i64 0, .string ⟨#[]⟩, .int .i64 0, .int .i64 0, .int .i64 0, .string ⟨#[]⟩, .slice none 0 0, .slice la ln lc], .slice q ys.length nq, .slice (some ⟨gr, 0, none⟩) l.length cr, .agg #[.int .i64 1, .string ⟨#[]⟩, .int .i64 x1, .int .i64 x2, .int .i64 x3, .string x4, .slice none 0 0], ac.tmps.getD 50 undef, .agg #[(.int .i64 x1), (.int .i64 x2), (.int .i64 x3), (.string x4)], .int .i64 0, ac.tmps.getD 53 undef, ac.tmps.getD 54 undef, ac.tmps.getD 55 undef, ac.tmps.getD 56 undef, ac.tmps.getD 57 undef, ac.tmps.getD 58 undef, ac.tmps.getD 59 undef, ac.tmps.getD 60 undef, ac.tmps.getD 61 undef, ac.tmps.getD 62 undef, ac.tmps.getD 63 undef, ac.tmps.getD 64 undef, ac.tmps.getD 65 undef, ac.tmps.getD 66 undef, ac.tmps.getD 67 undef, ac.tmps.getD 68 undef, ac.tmps.getD 69 undef, ac.tmps.getD 70 undef, ac.tmps.getD 71 undef], []⟩ → Below Wd.heap.size Wd X → Hid (RowB gr lr X) → Hid (MkN lr l.length X) → GG 3 #[true, true, true, true, true, true, true, true, true, false, false, false] ac X := by
    intro ac gr cr lr X ha GD hR hN
    obtain ⟨u, rfl⟩ : ∃ u : Nat → Value, ac = ⟨#[u 0, u 1, .slice q ys.length nq, u 3, u 4, u 5, u 6, u 7, u 8, .pointer (some ⟨bt, 0, none⟩), .pointer (some ⟨bx, 0, none⟩), .int .i64 x1, .int .i64 0, u 13, u 14, u 15, u 16, u 17, u 18, u 19, u 20, u 21, u 22, u 23, u 24, u 25, u 26, u 27, u 28, u 29, u 30, u 31, u 32, u 33, u 34, u 35, u 36, u 37, u 38, u 39, u 40, u 41, u 42, u 43, u 44, .agg #[.string s0, .slice (some ⟨g, 0, none⟩) l.length cap, .int .i64 jj, .slice ua un uc, .int .i64 0, .string ⟨#[]⟩, .int .i64 0, .int .i64 0, .int .i64 0, .string ⟨#[]⟩, .slice none 0 0, .slice la ln lc], .agg #[.string s0, .slice (some ⟨g, 0, none⟩) l.length cap, .int .i64 jj, .slice ua un uc, .int .i64 0, .string ⟨#[]⟩, .int .i64 0, .int .i64 0, .int .i64 0, .string ⟨#[]⟩, .slice none 0 0, .slice la ln lc], .slice q ys.length nq, .slice (some ⟨gr, 0, none⟩) l.length cr, .agg #[.int .i64 1, .string ⟨#[]⟩, .int .i64 x1, .int .i64 x2, .int .i64 x3, .string x4, .slice none 0 0], u 50, .agg #[(.int .i64 x1), (.int .i64 x2), (.int .i64 x3), (.string x4)], .int .i64 0, u 53, u 54, u 55, u 56, u 57, u 58, u 59, u 60, u 61, u 62, u 63, u 64, u 65, u 66, u 67, u 68, u 69, u 70, u 71], []⟩ := ⟨fun i => ac.tmps.getD i undef, ha⟩
    clear ha
    refine unhide HIN _ _ _ _ ?_
    have hHeld : (SLt (tbl s0 (.slice (some ⟨g, 0, none⟩) l.length cap) (.int .i64 jj) (.slice ua un uc) (.slice la ln lc)) #[.int .i64 1, .string ⟨#[]⟩, .int .i64 x1, .int .i64 x2, .int .i64 x3, .string x4, .slice none 0 0] bt bx) X := (unhide hS).call GD
    refine wpAnyH_ready (rs := [9]) (by kernel_rfl) (by simp) ?_
    refine AllReadyH.cons rfl (fun K20007 hK20007 => ?_) AllReadyH.nil
    go_simp
    have hb := below_new X (.cells (vC Z4).toArray 28)
    have rb : Hid (Blk X.heap.size (vC Z4).toArray 28 (X.alloc (.cells (vC Z4).toArray 28))) := hide (Blk.new X (vC Z4).toArray 28)
    have hge : Hid (GeB Wd.heap.size X.heap.size (X.alloc (.cells (vC Z4).toArray 28))) := hide GD.size
    refine hK20007.out _ _ ?hs20007 (fun hH20007 => ?_)
    case hs20007 => exact hHeld.call hb
    clear hHeld
    have hHeld := hH20007; clear hH20007 hK20007 K20007
    refine unhide HOUT _ _ _ _ ?_
    exact unhide C22_ _ gr cr lr _ _ (by kernel_rfl) (GD.trans (hb.mono GD.size)) (hide ((unhide hR).call hb)) (hide ((unhide hN).call hb)) rb hge
  have C2 := hide C2
  have C12_ : ∀ (ac : Act) (gr : Nat) (cr : Nat) (lr : List V4) (bv : Nat) (X : World), ac = ⟨#[ac.tmps.getD 0 undef, ac.tmps.getD 1 undef, .slice q ys.length nq, ac.tmps.getD 3 undef, ac.tmps.getD 4 undef, ac.tmps.getD 5 undef, ac.tmps.getD 6 undef, ac.tmps.getD 7 undef, ac.tmps.getD 8 undef, .pointer (some ⟨bt, 0, none⟩), .pointer (some ⟨bx, 0, none⟩), .int .i64 x1, .int .i64 0, .pointer (some ⟨bv, 0, none⟩), ac.tmps.getD 14 undef, ac.tmps.getD 15 undef, ac.tmps.getD 16 undef, ac.tmps.getD 17 undef, ac.tmps.getD 18 undef, ac.tmps.getD 19 undef, ac.tmps.getD 20 undef, ac.tmps.getD 21 undef, ac.tmps.getD 22 undef, ac.tmps.getD 23 undef, ac.tmps.getD 24 undef, ac.tmps.getD 25 undef, ac.tmps.getD 26 undef, ac.tmps.getD 27 undef, ac.tmps.getD 28 undef, ac.tmps.getD 29 undef, ac.tmps.getD 30 undef, ac.tmps.getD 31 undef, ac.tmps.getD 32 undef, ac.tmps.getD 33 undef, ac.tmps.getD 34 undef, ac.tmps.getD 35 undef, ac.tmps.getD 36 undef, ac.tmps.getD 37 undef, ac.tmps.getD 38 undef, ac.tmps.getD 39 undef, ac.tmps.getD 40 undef, ac.tmps.getD 41 undef, ac.tmps.getD 42 undef, ac.tmps.getD 43 undef, ac.tmps.getD 44 undef, .agg #[.string s0, .slice (some ⟨g, 0, none⟩) l.length cap, .int .i64 jj, .slice ua un uc, .int .i64 0, .string ⟨#[]⟩, .int .i64 0, .int .i64 0, .int .i64 0, .string ⟨#[]⟩, .slice none 0 0, .slice la ln lc], .agg #[.string s0, .slice (some ⟨g, 0, none⟩) l.length cap, .int .i64 jj, .slice ua un uc, .int .i64 0, .string ⟨#[]⟩, .int .i64 0, .int .i64 0, .int .i64 0, .string ⟨#[]⟩, .slice none 0 0, .slice la ln lc], .slice q ys.length nq, .slice (some ⟨gr, 0, none⟩) l.length cr, .agg #[.int .i64 1, .string ⟨#[]⟩, .int .i64 x1, .int .i64 x2, .int .i64 x3, .string x4, .slice none 0 0], ac.tmps.getD 50 undef, ac.tmps.getD 51 undef, ac.tmps.getD 52 undef, ac.tmps.getD 53 undef, ac.tmps.getD 54 undef, ac.tmps.getD 55 undef, ac.tmps.getD 56 undef, ac.tmps.getD 57 undef, ac.tmps.getD 58 undef, ac.tmps.getD 59 undef, ac.tmps.getD 60 undef, ac.tmps.getD 61 undef, ac.tmps.getD 62 undef, ac.tmps.getD 63 undef, ac.tmps.getD 64 undef, ac.tmps.getD 65 undef, ac.tmps.getD 66 undef, ac.tmps.getD 67 undef, ac.tmps.getD 68 undef, ac.tmps.getD 69 undef, ac.tmps.getD 70 undef, ac.tmps.getD 71 undef], []⟩ → Below Wd.heap.size Wd X → Hid (RowB gr lr X) → Hid (MkN lr l.length X) → Hid (Blk bv (vC Z4).toArray 28 X) → Hid (GeB Wd.heap.size bv X) → GG 6 #[true, true, true, true, true, false, false, false, false, true, false, false] ac X := by
    intro ac gr cr lr bv X ha GD hR hN rb hge
    obtain ⟨u, rfl⟩ : ∃ u : Nat → Value, ac = ⟨#[u 0, u 1, .slice q ys.length nq, u 3, u 4, u 5, u 6, u 7, u 8, .pointer (some ⟨bt, 0, none⟩), .pointer (some ⟨bx, 0, none⟩), .int .i64 x1, .int .i64 0, .pointer (some ⟨bv, 0, none⟩), u 14, u 15, u 16, u 17, u 18, u 19, u 20, u 21, u 22, u 23, u 24, u 25, u 26, u 27, u 28, u 29, u 30, u 31, u 32, u 33, u 34, u 35, u 36, u 37, u 38, u 39, u 40, u 41, u 42, u 43, u 44, .agg #[.string s0, .slice (some ⟨g, 0, none⟩) l.length cap, .int .i64 jj, .slice ua un uc, .int .i64 0, .string ⟨#[]⟩, .int .i64 0, .int .i64 0, .int .i64 0, .string ⟨#[]⟩, .slice none 0 0, .slice la ln lc], .agg #[.string s0, .slice (some ⟨g, 0, none⟩) l.length cap, .int .i64 jj, .slice ua un uc, .int .i64 0, .string ⟨#[]⟩, .int .i64 0, .int .i64 0, .int .i64 0, .string ⟨#[]⟩, .slice none 0 0, .slice la ln lc], .slice q ys.length nq, .slice (some ⟨gr, 0, none⟩) l.length cr, .agg #[.int .i64 1, .string ⟨#[]⟩, .int .i64 x1, .int .i64 x2, .int .i64 x3, .string x4, .slice none 0 0], u 50, u 51, u 52, u 53, u 54, u 55, u 56, u 57, u 58, u 59, u 60, u 61, u 62, u 63, u 64, u 65, u 66, u 67, u 68, u 69, u 70, u 71], []⟩ := ⟨fun i => ac.tmps.getD i undef, ha⟩
    clear ha
    refine unhide HIN _ _ _ _ ?_
    have hHeld : (SLt (tbl s0 (.slice (some ⟨g, 0, none⟩) l.length cap) (.int .i64 jj) (.slice ua un uc) (.slice la ln lc)) #[.int .i64 1, .string ⟨#[]⟩, .int .i64 x1, .int .i64 x2, .int .i64 x3, .string x4, .slice none 0 0] bt bx) X := (unhide hS).call GD
    refine wpAnyH_ready (rs := [5]) (by kernel_rfl) (by simp) ?_
    refine AllReadyH.cons rfl (fun K20008 hK20008 => ?_) AllReadyH.nil
    go_simp
    go_wp2_with (go_at_call 19; refine (unhide CE gr cr lr _ (unhide hN).1 (unhide hN).2 ((unhide hB).call GD).cols (unhide hR).row).mono ?_; rintro e X2 ⟨rfl, hb⟩)
    refine hK20008.out _ _ ?hs20008 (fun hH20008 => ?_)
    case hs20008 => exact hHeld.call hb
    clear hHeld
    have hHeld := hH20008; clear hH20008 hK20008 K20008
    refine wpAnyH_take (i := 6) (oi := ?oi20009) (v := ?v20009) ?hi20009 (by kernel_rfl) (by kernel_rfl) (by kernel_rfl) (fun _ _ _ h => h) (Or.inl ⟨?hw20009, ?hy20009⟩) (by assumption) ?rest20009
    case hi20009 => (simp only [List.getElem?_toArray, List.getElem?_cons_zero, List.getElem?_cons_succ]; rfl)
    case hw20009 => rfl
    case hy20009 => first | (intro wx hSw; go_simp; done) | (intro wx hSw; go_simp; with_reducible rfl)
    simp only [Act.put, List.setIfInBounds_toArray, List.set_cons_zero, List.set_cons_succ]
    refine wpAnyH_take (i := 7) (oi := ?oi20010) (v := ?v20010) ?hi20010 (by kernel_rfl) (by kernel_rfl) (by kernel_rfl) (fun _ _ _ h => h) (Or.inl ⟨?hw20010, ?hy20010⟩) (by assumption) ?rest20010
    case hi20010 => (simp only [List.getElem?_toArray, List.getElem?_cons_zero, List.getElem?_cons_succ]; rfl)
    case hw20010 => rfl
    case hy20010 => first | (intro wx hSw; go_simp; done) | (intro wx hSw; go_simp; with_reducible rfl)
    simp only [Act.put, List.setIfInBounds_toArray, List.set_cons_zero, List.set_cons_succ]
    refine wpAnyH_take (i := 8) (oi := ?oi20011) (v := ?v20011) ?hi20011 (by kernel_rfl) (by kernel_rfl) (by kernel_rfl) (fun _ _ _ h => h) (Or.inl ⟨?hw20011, ?hy20011⟩) (by assumption) ?rest20011
    case hi20011 => (simp only [List.getElem?_toArray, List.getElem?_cons_zero, List.getElem?_cons_succ]; rfl)
    case hw20011 => rfl
    case hy20011 => first | (intro wx hSw; go_simp; done) | (intro wx hSw; go_simp; with_reducible rfl)
    simp only [Act.put, List.setIfInBounds_toArray, List.set_cons_zero, List.set_cons_succ]
    refine unhide HOUT _ _ _ _ ?_
    exact unhide C22_ _ gr cr lr bv _ (by kernel_rfl) (GD.trans (hb.mono GD.size)) (hide ((unhide hR).call hb)) (hide ((unhide hN).call hb)) (hide ((unhide rb).call hb)) (hide ((unhide hge).call hb))
  have C12_ := hide C12_
  have C1 : ∀ (ac : Act) (gr : Nat) (cr : Nat) (lr : List V4) (X : World), ac = ⟨#[ac.tmps.getD 0 undef, ac.tmps.getD 1 undef, .slice q ys.length nq, ac.tmps.getD 3 undef, ac.tmps.getD 4 undef, ac.tmps.getD 5 undef, ac.tmps.getD 6 undef, ac.tmps.getD 7 undef, ac.tmps.getD 8 undef, .pointer (some ⟨bt, 0, none⟩), .pointer (some ⟨bx, 0, none⟩), .int .i64 x1, .int .i64 0, ac.tmps.getD 13 undef, ac.tmps.getD 14 undef, ac.tmps.getD 15 undef, ac.tmps.getD 16 undef, ac.tmps.getD 17 undef, ac.tmps.getD 18 undef, ac.tmps.getD 19 undef, ac.tmps.getD 20 undef, ac.tmps.getD 21 undef, ac.tmps.getD 22 undef, ac.tmps.getD 23 undef, ac.tmps.getD 24 undef, ac.tmps.getD 25 undef, ac.tmps.getD 26 undef, ac.tmps.getD 27 undef, ac.tmps.getD 28 undef, ac.tmps.getD 29 undef, ac.tmps.getD 30 undef, ac.tmps.getD 31 undef, ac.tmps.getD 32 undef, ac.tmps.getD 33 undef, ac.tmps.getD 34 undef, ac.tmps.getD 35 undef, ac.tmps.getD 36 undef, ac.tmps.getD 37 undef, ac.tmps.getD 38 undef, ac.tmps.getD 39 undef, ac.tmps.getD 40 undef, ac.tmps.getD 41 undef, ac.tmps.getD 42 undef, ac.tmps.getD 43 undef, ac.tmps.getD 44 undef, .agg #[.string s0, .slice (some ⟨g, 0, none⟩) l.length cap, .int .i64 jj, .slice ua un uc, .int .i64 0, .string ⟨#[]⟩, .int .i64 0, .int .i64 0, .int .i64 0, .string ⟨#[]⟩, .slice none 0 0, .slice la ln lc], .agg #[.string s0, .slice (some ⟨g, 0, none⟩) l.length cap, .int .i64 jj, .slice ua un uc, .int .i64 0, .string ⟨#[]⟩, .int .i64 0, .int .i64 0, .int .i64 0, .string ⟨#[]⟩, .slice none 0 0, .slice la ln lc], .slice q ys.length nq, .slice (some ⟨gr, 0, none⟩) l.length cr, .agg #[.int .i64 1, .string ⟨#[]⟩, .int .i64 x1, .int .i64 x2, .int .i64 x3, .string x4, .slice none 0 0], ac.tmps.getD 50 undef, ac.tmps.getD 51 undef, ac.tmps.getD 52 undef, ac.tmps.getD 53 undef, ac.tmps.getD 54 undef, ac.tmps.getD 55 undef, ac.tmps.getD 56 undef, ac.tmps.getD 57 undef, ac.tmps.getD 58 undef, ac.tmps.getD 59 undef, ac.tmps.getD 60 undef, ac.tmps.getD 61 undef, ac.tmps.getD 62 undef, ac.tmps.getD 63 undef, ac.tmps.getD 64 undef, ac.tmps.getD 65 undef, ac.tmps.getD 66 undef, ac.tmps.getD 67 undef, ac.tmps.getD 68 undef, ac.tmps.getD 69 undef, ac.tmps.getD 70 undef, ac.tmps.getD 71 undef], []⟩ → Below Wd.heap.size Wd X → Hid (RowB gr lr X) → Hid (MkN lr l.length X) → GG 7 #[true, true, true, true, true, false, false, false, false, false, false, false] ac X := by
    intro ac gr cr lr X ha GD hR hN
    obtain ⟨u, rfl⟩ : ∃ u : Nat → Value, ac = ⟨#[u 0, u 1, .slice q ys.length nq, u 3, u 4, u 5, u 6, u 7, u 8, .pointer (some ⟨bt, 0, none⟩), .pointer (some ⟨bx, 0, none⟩), .int .i64 x1, .int .i64 0, u 13, u 14, u 15, u 16, u 17, u 18, u 19, u 20, u 21, u 22, u 23, u 24, u 25, u 26, u 27, u 28, u 29, u 30, u 31, u 32, u 33, u 34, u 35, u 36, u 37, u 38, u 39, u 40, u 41, u 42, u 43, u 44, .agg #[.string s0, .slice (some ⟨g, 0, none⟩) l.length cap, .int .i64 jj, .slice ua un uc, .int .i64 0, .string ⟨#[]⟩, .int .i64 0, .int .i64 0, .int .i64 0, .string ⟨#[]⟩, .slice none 0 0, .slice la ln lc], .agg #[.string s0, .slice (some ⟨g, 0, none⟩) l.length cap, .int .i64 jj, .slice ua un uc, .int .i64 0, .string ⟨#[]⟩, .int .i64 0, .int .i64 0, .int .i64 0, .string ⟨#[]⟩, .slice none 0 0, .slice la ln lc], .slice q ys.length nq, .slice (some ⟨gr, 0, none⟩) l.length cr, .agg #[.int .i64 1, .string ⟨#[]⟩, .int .i64 x1, .int .i64 x2, .int .i64 x3, .string x4, .slice none 0 0], u 50, u 51, u 52, u 53, u 54, u 55, u 56, u 57, u 58, u 59, u 60, u 61, u 62, u 63, u 64, u 65, u 66, u 67, u 68, u 69, u 70, u 71], []⟩ := ⟨fun i => ac.tmps.getD i undef, ha⟩
    clear ha
    refine unhide HIN _ _ _ _ ?_
    have hHeld : (SLt (tbl s0 (.slice (some ⟨g, 0, none⟩) l.length cap) (.int .i64 jj) (.slice ua un uc) (.slice la ln lc)) #[.int .i64 1, .string ⟨#[]⟩, .int .i64 x1, .int .i64 x2, .int .i64 x3, .string x4, .slice none 0 0] bt bx) X := (unhide hS).call GD
    refine wpAnyH_ready (rs := [5, 9]) (by kernel_rfl) (by simp) ?_
    refine AllReadyH.cons rfl (fun K20012 hK20012 => ?_) ?_
    · go_simp
      go_wp2_with (go_at_call 19; refine (unhide CE gr cr lr _ (unhide hN).1 (unhide hN).2 ((unhide hB).call GD).cols (unhide hR).row).mono ?_; rintro e X2 ⟨rfl, hb⟩)
      refine hK20012.out _ _ ?hs20012 (fun hH20012 => ?_)
      case hs20012 => exact hHeld.call hb
      clear hHeld
      have hHeld := hH20012; clear hH20012 hK20012 K20012
      refine wpAnyH_take (i := 6) (oi := ?oi20013) (v := ?v20013) ?hi20013 (by kernel_rfl) (by kernel_rfl) (by kernel_rfl) (fun _ _ _ h => h) (Or.inl ⟨?hw20013, ?hy20013⟩) (by assumption) ?rest20013
      case hi20013 => (simp only [List.getElem?_toArray, List.getElem?_cons_zero, List.getElem?_cons_succ]; rfl)
      case hw20013 => rfl
      case hy20013 => first | (intro wx hSw; go_simp; done) | (intro wx hSw; go_simp; with_reducible rfl)
      simp only [Act.put, List.setIfInBounds_toArray, List.set_cons_zero, List.set_cons_succ]
      refine wpAnyH_take (i := 7) (oi := ?oi20014) (v := ?v20014) ?hi20014 (by kernel_rfl) (by kernel_rfl) (by kernel_rfl) (fun _ _ _ h => h) (Or.inl ⟨?hw20014, ?hy20014⟩) (by assumption) ?rest20014
      case hi20014 => (simp only [List.getElem?_toArray, List.getElem?_cons_zero, List.getElem?_cons_succ]; rfl)
      case hw20014 => rfl
      case hy20014 => first | (intro wx hSw; go_simp; done) | (intro wx hSw; go_simp; with_reducible rfl)
      simp only [Act.put, List.setIfInBounds_toArray, List.set_cons_zero, List.set_cons_succ]
      refine wpAnyH_take (i := 8) (oi := ?oi20015) (v := ?v20015) ?hi20015 (by kernel_rfl) (by kernel_rfl) (by kernel_rfl) (fun _ _ _ h => h) (Or.inl ⟨?hw20015, ?hy20015⟩) (by assumption) ?rest20015
      case hi20015 => (simp only [List.getElem?_toArray, List.getElem?_cons_zero, List.getElem?_cons_succ]; rfl)
      case hw20015 => rfl
      case hy20015 => first | (intro wx hSw; go_simp; done) | (intro wx hSw; go_simp; with_reducible rfl)
      simp only [Act.put, List.setIfInBounds_toArray, List.set_cons_zero, List.set_cons_succ]
      refine unhide HOUT _ _ _ _ ?_
      exact unhide C2 _ gr cr lr _ (by kernel_rfl) (GD.trans (hb.mono GD.size)) (hide ((unhide hR).call hb)) (hide ((unhide hN).call hb))
    refine AllReadyH.cons rfl (fun K20016 hK20016 => ?_) AllReadyH.nil
    · go_simp
      have hb := below_new X (.cells (vC Z4).toArray 28)
      have rb : Hid (Blk X.heap.size (vC Z4).toArray 28 (X.alloc (.cells (vC Z4).toArray 28))) := hide (Blk.new X (vC Z4).toArray 28)
      have hge : Hid (GeB Wd.heap.size X.heap.size (X.alloc (.cells (vC Z4).toArray 28))) := hide GD.size
      refine hK20016.out _ _ ?hs20016 (fun hH20016 => ?_)
      case hs20016 => exact hHeld.call hb
      clear hHeld
      have hHeld := hH20016; clear hH20016 hK20016 K20016
      refine unhide HOUT _ _ _ _ ?_
      exact unhide C12_ _ gr cr lr _ _ (by kernel_rfl) (GD.trans (hb.mono GD.size)) (hide ((unhide hR).call hb)) (hide ((unhide hN).call hb)) rb hge
  have C1 := hide C1
  have C02_ : ∀ (ac : Act) (bv : Nat) (X : World), ac = ⟨#[ac.tmps.getD 0 undef, ac.tmps.getD 1 undef, .slice q ys.length nq, ac.tmps.getD 3 undef, ac.tmps.getD 4 undef, ac.tmps.getD 5 undef, ac.tmps.getD 6 undef, ac.tmps.getD 7 undef, ac.tmps.getD 8 undef, .pointer (some ⟨bt, 0, none⟩), .pointer (some ⟨bx, 0, none⟩), .int .i64 x1, .int .i64 0, .pointer (some ⟨bv, 0, none⟩), ac.tmps.getD 14 undef, ac.tmps.getD 15 undef, ac.tmps.getD 16 undef, ac.tmps.getD 17 undef, ac.tmps.getD 18 undef, ac.tmps.getD 19 undef, ac.tmps.getD 20 undef, ac.tmps.getD 21 undef, ac.tmps.getD 22 undef, ac.tmps.getD 23 undef, ac.tmps.getD 24 undef, ac.tmps.getD 25 undef, ac.tmps.getD 26 undef, ac.tmps.getD 27 undef, ac.tmps.getD 28 undef, ac.tmps.getD 29 undef, ac.tmps.getD 30 undef, ac.tmps.getD 31 undef, ac.tmps.getD 32 undef, ac.tmps.getD 33 undef, ac.tmps.getD 34 undef, ac.tmps.getD 35 undef, ac.tmps.getD 36 undef, ac.tmps.getD 37 undef, ac.tmps.getD 38 undef, ac.tmps.getD 39 undef, ac.tmps.getD 40 undef, ac.tmps.getD 41 undef, ac.tmps.getD 42 undef, ac.tmps.getD 43 undef, ac.tmps.getD 44 undef, .agg #[.string s0, .slice (some ⟨g, 0, none⟩) l.length cap, .int .i64 jj, .slice ua un uc, .int .i64 0, .string ⟨#[]⟩, .int .i64 0, .int .i64 0, .int .i64 0, .string ⟨#[]⟩, .slice none 0 0, .slice la ln lc], .agg #[.string s0, .slice (some ⟨g, 0, none⟩) l.length cap, .int .i64 jj, .slice ua un uc, .int .i64 0, .string ⟨#[]⟩, .int .i64 0, .int .i64 0, .int .i64 0, .string ⟨#[]⟩, .slice none 0 0, .slice la ln lc], .slice q ys.length nq, ac.tmps.getD 48 undef, .agg #[.int .i64 1, .string ⟨#[]⟩, .int .i64 x1, .int .i64 x2, .int .i64 x3, .string x4, .slice none 0 0], ac.tmps.getD 50 undef, ac.tmps.getD 51 undef, ac.tmps.getD 52 undef, ac.tmps.getD 53 undef, ac.tmps.getD 54 undef, ac.tmps.getD 55 undef, ac.tmps.getD 56 undef, ac.tmps.getD 57 undef, ac.tmps.getD 58 undef, ac.tmps.getD 59 undef, ac.tmps.getD 60 undef, ac.tmps.getD 61 undef, ac.tmps.getD 62 undef, ac.tmps.getD 63 undef, ac.tmps.getD 64 undef, ac.tmps.getD 65 undef, ac.tmps.getD 66 undef, ac.tmps.getD 67 undef, ac.tmps.getD 68 undef, ac.tmps.getD 69 undef, ac.tmps.getD 70 undef, ac.tmps.getD 71 undef], []⟩ → Below Wd.heap.size Wd X → Hid (Blk bv (vC Z4).toArray 28 X) → Hid (GeB Wd.heap.size bv X) → GG 7 #[true, true, true, false, true, false, false, false, false, true, false, false] ac X := by
    intro ac bv X ha GD rb hge
    obtain ⟨u, rfl⟩ : ∃ u : Nat → Value, ac = ⟨#[u 0, u 1, .slice q ys.length nq, u 3, u 4, u 5, u 6, u 7, u 8, .pointer (some ⟨bt, 0, none⟩), .pointer (some ⟨bx, 0, none⟩), .int .i64 x1, .int .i64 0, .pointer (some ⟨bv, 0, none⟩), u 14, u 15, u 16, u 17, u 18, u 19, u 20, u 21, u 22, u 23, u 24, u 25, u 26, u 27, u 28, u 29, u 30, u 31, u 32, u 33, u 34, u 35, u 36, u 37, u 38, u 39, u 40, u 41, u 42, u 43, u 44, .agg #[.string s0, .slice (some ⟨g, 0, none⟩) l.length cap, .int .i64 jj, .slice ua un uc, .int .i64 0, .string ⟨#[]⟩, .int .i64 0, .int .i64 0, .int .i64 0, .string ⟨#[]⟩, .slice none 0 0, .slice la ln lc], .agg #[.string s0, .slice (some ⟨g, 0, none⟩) l.length cap, .int .i64 jj, .slice ua un uc, .int .i64 0, .string ⟨#[]⟩, .int .i64 0, .int .i64 0, .int .i64 0, .string ⟨#[]⟩, .slice none 0 0, .slice la ln lc], .slice q ys.length nq, u 48, .agg #[.int .i64 1, .string ⟨#[]⟩, .int .i64 x1, .int .i64 x2, .int .i64 x3, .string x4, .slice none 0 0], u 50, u 51, u 52, u 53, u 54, u 55, u 56, u 57, u 58, u 59, u 60, u 61, u 62, u 63, u 64, u 65, u 66, u 67, u 68, u 69, u 70, u 71], []⟩ := ⟨fun i => ac.tmps.getD i undef, ha⟩
    clear ha
    refine unhide HIN _ _ _ _ ?_
    have hHeld : (SLt (tbl s0 (.slice (some ⟨g, 0, none⟩) l.length cap) (.int .i64 jj) (.slice ua un uc) (.slice la ln lc)) #[.int .i64 1, .string ⟨#[]⟩, .int .i64 x1, .int .i64 x2, .int .i64 x3, .string x4, .slice none 0 0] bt bx) X := (unhide hS).call GD
    refine wpAnyH_ready (rs := [3]) (by kernel_rfl) (by simp) ?_
    refine AllReadyH.cons rfl (fun K20017 hK20017 => ?_) AllReadyH.nil
    go_simp
    go_wp2_with (go_at_call 18; refine (unhide CR _ ((unhide hB).call GD) ((unhide hy).call GD)).mono ?_; rintro e X2 ⟨gr, cr, lr, rfl, hR, hN, hb⟩)
    refine hK20017.out _ _ ?hs20017 (fun hH20017 => ?_)
    case hs20017 => exact hHeld.call hb
    clear hHeld
    have hHeld := hH20017; clear hH20017 hK20017 K20017
    refine unhide HOUT _ _ _ _ ?_
    exact unhide C12_ _ gr cr lr bv _ (by kernel_rfl) (GD.trans (hb.mono GD.size)) hR hN (hide ((unhide rb).call hb)) (hide ((unhide hge).call hb))
  have C02_ := hide C02_
  have C0 : ∀ (ac : Act) (X : World), ac = ⟨#[ac.tmps.getD 0 undef, ac.tmps.getD 1 undef, .slice q ys.length nq, ac.tmps.getD 3 undef, ac.tmps.getD 4 undef, ac.tmps.getD 5 undef, ac.tmps.getD 6 undef, ac.tmps.getD 7 undef, ac.tmps.getD 8 undef, .pointer (some ⟨bt, 0, none⟩), .pointer (some ⟨bx, 0, none⟩), .int .i64 x1, .int .i64 0, ac.tmps.getD 13 undef, ac.tmps.getD 14 undef, ac.tmps.getD 15 undef, ac.tmps.getD 16 undef, ac.tmps.getD 17 undef, ac.tmps.getD 18 undef, ac.tmps.getD 19 undef, ac.tmps.getD 20 undef, ac.tmps.getD 21 undef, ac.tmps.getD 22 undef, ac.tmps.getD 23 undef, ac.tmps.getD 24 undef, ac.tmps.getD 25 undef, ac.tmps.getD 26 undef, ac.tmps.getD 27 undef, ac.tmps.getD 28 undef, ac.tmps.getD 29 undef, ac.tmps.getD 30 undef, ac.tmps.getD 31 undef, ac.tmps.getD 32 undef, ac.tmps.getD 33 undef, ac.tmps.getD 34 undef, ac.tmps.getD 35 undef, ac.tmps.getD 36 undef, ac.tmps.getD 37 undef, ac.tmps.getD 38 undef, ac.tmps.getD 39 undef, ac.tmps.getD 40 undef, ac.tmps.getD 41 undef, ac.tmps.getD 42 undef, ac.tmps.getD 43 undef, ac.tmps.getD 44 undef, .agg #[.string s0, .slice (some ⟨g, 0, none⟩) l.length cap, .int .i64 jj, .slice ua un uc, .int .i64 0, .string ⟨#[]⟩, .int .i64 0, .int .i64 0, .int .i64 0, .string ⟨#[]⟩, .slice none 0 0, .slice la ln lc], .agg #[.string s0, .slice (some ⟨g, 0, none⟩) l.length cap, .int .i64 jj, .slice ua un uc, .int .i64 0, .string ⟨#[]⟩, .int .i64 0, .int .i64 0, .int .i64 0, .string ⟨#[]⟩, .slice none 0 0, .slice la ln lc], .slice q ys.length nq, ac.tmps.getD 48 undef, .agg #[.int .i64 1, .string ⟨#[]⟩, .int .i64 x1, .int .i64 x2, .int .i64 x3, .string x4, .slice none 0 0], ac.tmps.getD 50 undef, ac.tmps.getD 51 undef, ac.tmps.getD 52 undef, ac.tmps.getD 53 undef, ac.tmps.getD 54 undef, ac.tmps.getD 55 undef, ac.tmps.getD 56 undef, ac.tmps.getD 57 undef, ac.tmps.getD 58 undef, ac.tmps.getD 59 undef, ac.tmps.getD 60 undef, ac.tmps.getD 61 undef, ac.tmps.getD 62 undef, ac.tmps.getD 63 undef, ac.tmps.getD 64 undef, ac.tmps.getD 65 undef, ac.tmps.getD 66 undef, ac.tmps.getD 67 undef, ac.tmps.getD 68 undef, ac.tmps.getD 69 undef, ac.tmps.getD 70 undef, ac.tmps.getD 71 undef], []⟩ → Below Wd.heap.size Wd X → GG 8 #[true, true, true, false, true, false, false, false, false, false, false, false] ac X := by
    intro ac X ha GD
    obtain ⟨u, rfl⟩ : ∃ u : Nat → Value, ac = ⟨#[u 0, u 1, .slice q ys.length nq, u 3, u 4, u 5, u 6, u 7, u 8, .pointer (some ⟨bt, 0, none⟩), .pointer (some ⟨bx, 0, none⟩), .int .i64 x1, .int .i64 0, u 13, u 14, u 15, u 16, u 17, u 18, u 19, u 20, u 21, u 22, u 23, u 24, u 25, u 26, u 27, u 28, u 29, u 30, u 31, u 32, u 33, u 34, u 35, u 36, u 37, u 38, u 39, u 40, u 41, u 42, u 43, u 44, .agg #[.string s0, .slice (some ⟨g, 0, none⟩) l.length cap, .int .i64 jj, .slice ua un uc, .int .i64 0, .string ⟨#[]⟩, .int .i64 0, .int .i64 0, .int .i64 0, .string ⟨#[]⟩, .slice none 0 0, .slice la ln lc], .agg #[.string s0, .slice (some ⟨g, 0, none⟩) l.length cap, .int .i64 jj, .slice ua un uc, .int .i64 0, .string ⟨#[]⟩, .int .i64 0, .int .i64 0, .int .i64 0, .string ⟨#[]⟩, .slice none 0 0, .slice la ln lc], .slice q ys.length nq, u 48, .agg #[.int .i64 1, .string ⟨#[]⟩, .int .i64 x1, .int .i64 x2, .int .i64 x3, .string x4, .slice none 0 0], u 50, u 51, u 52, u 53, u 54, u 55, u 56, u 57, u 58, u 59, u 60, u 61, u 62, u 63, u 64, u 65, u 66, u 67, u 68, u 69, u 70, u 71], []⟩ := ⟨fun i => ac.tmps.getD i undef, ha⟩
    clear ha
    refine unhide HIN _ _ _ _ ?_
    have hHeld : (SLt (tbl s0 (.slice (some ⟨g, 0, none⟩) l.length cap) (.int .i64 jj) (.slice ua un uc) (.slice la ln lc)) #[.int .i64 1, .string ⟨#[]⟩, .int .i64 x1, .int .i64 x2, .int .i64 x3, .string x4, .slice none 0 0] bt bx) X := (unhide hS).call GD
    refine wpAnyH_ready (rs := [3, 9]) (by kernel_rfl) (by simp) ?_
    refine AllReadyH.cons rfl (fun K20018 hK20018 => ?_) ?_
    · go_simp
      go_wp2_with (go_at_call 18; refine (unhide CR _ ((unhide hB).call GD) ((unhide hy).call GD)).mono ?_; rintro e X2 ⟨gr, cr, lr, rfl, hR, hN, hb⟩)
      refine hK20018.out _ _ ?hs20018 (fun hH20018 => ?_)
      case hs20018 => exact hHeld.call hb
      clear hHeld
      have hHeld := hH20018; clear hH20018 hK20018 K20018
      refine unhide HOUT _ _ _ _ ?_
      exact unhide C1 _ gr cr lr _ (by kernel_rfl) (GD.trans (hb.mono GD.size)) hR hN
    refine AllReadyH.cons rfl (fun K20019 hK20019 => ?_) AllReadyH.nil
    · go_simp
      have hb := below_new X (.cells (vC Z4).toArray 28)
      have rb : Hid (Blk X.heap.size (vC Z4).toArray 28 (X.alloc (.cells (vC Z4).toArray 28))) := hide (Blk.new X (vC Z4).toArray 28)
      have hge : Hid (GeB Wd.heap.size X.heap.size (X.alloc (.cells (vC Z4).toArray 28))) := hide GD.size
      refine hK20019.out _ _ ?hs20019 (fun hH20019 => ?_)
      case hs20019 => exact hHeld.call hb
      clear hHeld
      have hHeld := hH20019; clear hH20019 hK20019 K20019
      refine unhide HOUT _ _ _ _ ?_
      exact unhide C02_ _ _ _ (by kernel_rfl) (GD.trans (hb.mono GD.size)) rb hge
  have C0 := hide C0
  exact unhide C0 _ _ (by kernel_rfl) (Below.refl _ _)
end Go.Proofs.Ytliefgkhpgigaaa

namespace Go.Proofs.Ytliefgkhpgigaaa
open Go.RowKit Go.Shelf
set_option linter.unusedSimpArgs false
set_option linter.unusedVariables false

set_option maxHeartbeats 16000000 in
set_option maxRecDepth 100000 in
theorem ltC {r0 r1 r2 r3 r4 r5 r6 rest : Code} (hc : Try.f10.body = some (.seq r0 (.seq r1 (.seq r2 (.seq r3 (.seq r4 (.seq r5 (.seq r6 (rest))))))))) (w : World) (bx bv : Nat) (x1 x2 x3 : Int) (x4 : ByteArray) (ac : Act) (X : World) (ha : ac = ⟨#[ac.tmps.getD 0 undef, ac.tmps.getD 1 undef, ac.tmps.getD 2 undef, ac.tmps.getD 3 undef, ac.tmps.getD 4 undef, ac.tmps.getD 5 undef, ac.tmps.getD 6 undef, ac.tmps.getD 7 undef, ac.tmps.getD 8 undef, ac.tmps.getD 9 undef, .pointer (some ⟨bx, 0, none⟩), .int .i64 x1, .int .i64 0, .pointer (some ⟨bv, 0, none⟩), .int .i64 0, ac.tmps.getD 15 undef, ac.tmps.getD 16 undef, ac.tmps.getD 17 undef, ac.tmps.getD 18 undef, ac.tmps.getD 19 undef, ac.tmps.getD 20 undef, ac.tmps.getD 21 undef, ac.tmps.getD 22 undef, ac.tmps.getD 23 undef, ac.tmps.getD 24 undef, ac.tmps.getD 25 undef, ac.tmps.getD 26 undef, ac.tmps.getD 27 undef, ac.tmps.getD 28 undef, ac.tmps.getD 29 undef, ac.tmps.getD 30 undef, ac.tmps.getD 31 undef, ac.tmps.getD 32 undef, ac.tmps.getD 33 undef, ac.tmps.getD 34 undef, ac.tmps.getD 35 undef, ac.tmps.getD 36 undef, ac.tmps.getD 37 undef, ac.tmps.getD 38 undef, ac.tmps.getD 39 undef, ac.tmps.getD 40 undef, ac.tmps.getD 41 undef, ac.tmps.getD 42 undef, ac.tmps.getD 43 undef, ac.tmps.getD 44 undef, ac.tmps.getD 45 undef, ac.tmps.getD 46 undef, ac.tmps.getD 47 undef, ac.tmps.getD 48 undef, ac.tmps.getD 49 undef, ac.tmps.getD 50 undef, ac.tmps.getD 51 undef, ac.tmps.getD 52 undef, ac.tmps.getD 53 undef, ac.tmps.getD 54 undef, ac.tmps.getD 55 undef, ac.tmps.getD 56 undef, ac.tmps.getD 57 undef, ac.tmps.getD 58 undef, ac.tmps.getD 59 undef, ac.tmps.getD 60 undef, ac.tmps.getD 61 undef, ac.tmps.getD 62 undef, ac.tmps.getD 63 undef, ac.tmps.getD 64 undef, ac.tmps.getD 65 undef, ac.tmps.getD 66 undef, ac.tmps.getD 67 undef, ac.tmps.getD 68 undef, ac.tmps.getD 69 undef, ac.tmps.getD 70 undef, ac.tmps.getD 71 undef], []⟩) (G : Hid (Grown w X)) (hX : Hid (Blk bx #[.int .i64 1, .string ⟨#[]⟩, .int .i64 x1, .int .i64 x2, .int .i64 x3, .string x4, .slice none 0 0] 31 X)) (hV : Hid (Blk bv #[(.int .i64 x1), (.int .i64 x2), (.int .i64 x3), (.string x4)] 28 X)) : rest.wp Try.prog (bodyPost Try.prog Try.f10 (fun e w' => e = .returned (.bool true) ∧ Below w.heap.size w w')) ac X := by
  obtain ⟨u, rfl⟩ : ∃ u : Nat → Value, ac = ⟨#[u 0, u 1, u 2, u 3, u 4, u 5, u 6, u 7, u 8, u 9, .pointer (some ⟨bx, 0, none⟩), .int .i64 x1, .int .i64 0, .pointer (some ⟨bv, 0, none⟩), .int .i64 0, u 15, u 16, u 17, u 18, u 19, u 20, u 21, u 22, u 23, u 24, u 25, u 26, u 27, u 28, u 29, u 30, u 31, u 32, u 33, u 34, u 35, u 36, u 37, u 38, u 39, u 40, u 41, u 42, u 43, u 44, u 45, u 46, u 47, u 48, u 49, u 50, u 51, u 52, u 53, u 54, u 55, u 56, u 57, u 58, u 59, u 60, u 61, u 62, u 63, u 64, u 65, u 66, u 67, u 68, u 69, u 70, u 71], []⟩ := ⟨fun i => ac.tmps.getD i undef, ha⟩
  clear ha
  unfold Try.f10 at hc
  cases hc
  have lx_ := (unhide hX).lt
  have lv_ := (unhide hV).lt
  have y0 := (unhide hX).cell 0
  have y1 := (unhide hX).cell 1
  have y2 := (unhide hX).cell 2
  have y3 := (unhide hX).cell 3
  have y4 := (unhide hX).cell 4
  have y5 := (unhide hX).cell 5
  have y6 := (unhide hX).cell 6
  have v0 := (unhide hV).cell 0
  have v1 := (unhide hV).cell 1
  have v2 := (unhide hV).cell 2
  have v3 := (unhide hV).cell 3
  simp at y0 y1 y2 y3 y4 y5 y6 v0 v1 v2 v3
  go_wp2_with fail
  go_ret
  exact ⟨by simp, unhide G⟩
end Go.Proofs.Ytliefgkhpgigaaa

namespace Go.Proofs.Ytliefgkhpgigaaa
open Go.RowKit Go.Shelf
set_option linter.unusedSimpArgs false
set_option linter.unusedVariables false

set_option maxHeartbeats 16000000 in
set_option maxRecDepth 100000 in
theorem evalLits_walk (n : Int) (v1 : Value) (zs : List Int) (v2 : Value) (ys : List Int) (p3 : Option Addr) (rn rc : Nat) (w0 : Is64 n) (w : World) (h1 : Ints v1 zs w) (h2 : Ints v2 ys w) (h3 : RawsN 7 p3 rn w) :
    Calls Try.prog 10 #[.int .i64 n, v1, v2, .slice p3 rn rc] w fun e w' => e = .returned (.bool true) ∧ Below w.heap.size w w' := by
  obtain ⟨p, np, rfl, hz⟩ := h1.parts
  obtain ⟨q, nq, rfl, hy⟩ := h2.parts
  have HZ := hide hz
  have hy := hide hy
  have HR := hide h3
  have CTB := hide (fun W (h : IntsP p zs W) => table_any n p np zs W w0 h)
  clear h1 h2 h3 hz w0
  go_enter Try.func10, Try.ntmps10
  go_wp2_with fail
  refine (known4_any _).mono ?_
  rintro e W1 ⟨rfl, hb⟩
  have G : Hid (Grown w W1) := hb
  replace HZ := hide ((unhide HZ).call hb)
  replace hy := hide ((unhide hy).call hb)
  replace HR := hide ((unhide HR).call hb)
  clear hb
  go_wp2_with fail
  refine (few_any p3 rn rc _ (unhide HR)).mono ?_
  rintro e W1' ⟨b, rfl, rfl⟩
  cases b
  · go_wp2_with fail
    go_ret
    exact ⟨rfl, unhide G⟩
  · by_cases hr : rn = 0
    · subst hr
      go_wp2_with fail
      go_ret
      exact ⟨rfl, unhide G⟩
    · have hrn : 1 ≤ rn := by omega
      have hri : ¬ (rn : Int) = 0 := by omega
      have hrb : ((rn : Int) == 0) = false := by simpa using hr
      obtain ⟨a, KK, N, S, p', n', c', rfl, hl0, _, c1, c2, _, _, hN, hS, _⟩ := (unhide HR).2 0 (by omega)
      have hrw : Hid (SRw a N S W1') := by
        refine hide ⟨by simpa [Addr.add] using hl0, ?_, ?_⟩
        · simpa [Addr.add, fA] using c1
        · simpa [Addr.add, fA] using c2
      have hS2 : S.size ≤ 9223372036854775807 := by unfold maxLen at hS; omega
      clear HR hl0 c1 c2 hS
      go_wp2_with fail
      refine (unhide CTB _ (unhide HZ)).mono ?_
      rintro e W2 ⟨s0, jj, ua, un, uc, la, ln, lc, g, cap, l, rfl, ⟨hl1, hl4⟩, hL, hB, hb⟩
      have gg := below_new W2 (.cells #[.string s0, .slice (some ⟨g, 0, none⟩) l.length cap, .int .i64 jj, .slice ua un uc, .int .i64 0, .string ⟨#[]⟩, .int .i64 0, .int .i64 0, .int .i64 0, .string ⟨#[]⟩, .slice none 0 0, .slice la ln lc] 34)
      have hT := hide (Blk.new W2 #[.string s0, .slice (some ⟨g, 0, none⟩) l.length cap, .int .i64 jj, .slice ua un uc, .int .i64 0, .string ⟨#[]⟩, .int .i64 0, .int .i64 0, .int .i64 0, .string ⟨#[]⟩, .slice none 0 0, .slice la ln lc] 34)
      replace G := hide (((unhide G).call hb).call gg)
      replace hy := hide (((unhide hy).call hb).call gg)
      replace hrw := hide (((unhide hrw).call hb).call gg)
      replace hB := hide (hB.call gg)
      have HL := hide hL
      clear hb gg CTB HZ hL
      go_wp2_with fail
      generalize W2.alloc (.cells #[.string s0, .slice (some ⟨g, 0, none⟩) l.length cap, .int .i64 jj, .slice ua un uc, .int .i64 0, .string ⟨#[]⟩, .int .i64 0, .int .i64 0, .int .i64 0, .string ⟨#[]⟩, .slice none 0 0, .slice la ln lc] 34) = X at *
      generalize W2.heap.size = bt at *
      rename_i K5 hk5
      refine ltA rfl w s0 jj ua un uc la ln lc g cap l q ys nq bt a rn rc hrn N S hN hS2 K5 _ (hide ?_) _ X (by kernel_rfl) G hB hT hy hrw
      clear G hB hT hy hrw
      intro ac bx x1 x2 x3 x4 X ha hM G hB hT hy hX
      refine hk5 _ _ ?_
      clear hk5
      refine wp_seq_k ?_
      intro K6 hk6
      refine ltT rfl w s0 jj ua un uc la ln lc g cap l q ys nq bt bx x1 x2 x3 x4 hM K6 _ (hide ?_) ac X ha G hB hT hy hX
      clear G hB hT hy hX ha
      intro ac X ha G hB hT hy hX
      refine hk6 _ _ ?_
      clear hk6
      refine wp_seq_k ?_
      intro K7 hk7
      refine ltB rfl w s0 jj ua un uc la ln lc g cap l q ys nq bt bx x1 x2 x3 x4 hM ⟨hl1, hl4⟩ HL K7 _ (hide ?_) ac X ha G hB hT hy hX
      clear G hB hT hy hX ha
      intro ac bv X ha G hX hV
      exact hk7 _ _ (ltC rfl w bx bv x1 x2 x3 x4 ac X ha G hX hV)
end Go.Proofs.Ytliefgkhpgigaaa

namespace Go.Proofs.Ytliefgkhpgigaaa
open Go.ChangeShapes Go.WideShapes Go.ChangeAt Go.RowKit
set_option linter.unusedVariables false

theorem is64_litQ {n : Int} (h : (Lit.int .i64 n).wf = true) : Is64 n := bounds_i64 h
theorem laidOut : laidOutB Try.prog = true := by kernel_rfl
theorem cellsInt : Try.prog.cellsOf 3 = 1 := by kernel_rfl
set_option maxRecDepth 100000 in
theorem ints_of {H : Type} {enc : TypeId × Value → H} {W : World} {base : Nat} {v : Value} {d : DataW H} {p : List MemPlace} (hval : Value.okWide Try.prog W .any base 22 v) (h : DataW.Trod enc Try.prog W 0 (fun _ => true) true 22 v d p) : ∃ zs, Ints v zs W := by
  obtain ⟨a0, len, cap, rfl⟩ := okWide_slice Try.underlying22 hval
  obtain ⟨fuel, hf⟩ := h
  rcases open_ints Try.underlying22 Try.underlying3 cellsInt hf with ⟨hcs, hx⟩ | ⟨a, len', cap', zs, hcs, _, hl, hm, hz, hx, hcell, hwz⟩
  · simp [Value.cells] at hcs
    obtain ⟨rfl, rfl, rfl⟩ := hcs
    exact ⟨[], .inl ⟨rfl, rfl⟩⟩
  · simp [Value.cells] at hcs
    obtain ⟨rfl, rfl, rfl⟩ := hcs
    simp only [if_true] at hz
    have hl2 : (zs.take len).length = len := by rw [List.length_take]; omega
    refine ⟨zs.take len, .inr ⟨a, cap, by rw [hl2], by rw [hl2]; exact Nat.le_trans hl hm, fun i hi => ?_⟩⟩
    rw [hl2] at hi
    have hi' : i < zs.length := by omega
    have hc := hcell i hi'
    have e : zs.getD i 0 = (zs.take len)[i]'(by rw [hl2]; exact hi) := by simp [List.getD, hi']
    rw [e] at hc
    refine ⟨hc, World.block_lt_of_cell? W _ hc, ?_⟩
    have hw := hwz (zs[i]) (List.getElem_mem hi')
    have e2 : (zs.take len)[i]'(by rw [hl2]; exact hi) = zs[i] := by simp
    rw [e2]
    exact is64_litQ hw
end Go.Proofs.Ytliefgkhpgigaaa

namespace Go.Proofs.Ytliefgkhpgigaaa
open Go.ChangeShapes Go.WideShapes Go.ChangeAt Go.RowKit
set_option linter.unusedVariables false

theorem cellsRaw : Try.prog.cellsOf 69 = 4 := by kernel_rfl
theorem cellsStr : Try.prog.cellsOf 9 = 1 := by kernel_rfl
theorem cellsSlR : Try.prog.cellsOf 23 = 1 := by kernel_rfl
set_option maxRecDepth 100000 in
theorem raws_trod {H : Type} {enc : TypeId × Value → H} {W : World} : ∀ (d fuel : Nat) (cs : List Value) (x : DataW H × List MemPlace), DataW.trod enc Try.prog W 0 (fun _ => true) true fuel 23 cs = some x → ∃ p n c, cs = [.slice p n c] ∧ RawsN d p n W
  | 0, fuel, cs, x, h => by
    rcases DataW.trod_slice Try.underlying23 h with ⟨rfl, _⟩ | ⟨a, len, cap, elems, rest, n, _, rfl, _⟩
    · exact ⟨_, _, _, rfl, trivial⟩
    · exact ⟨_, _, _, rfl, trivial⟩
  | d + 1, fuel, cs, x, h => by
    rcases DataW.trod_slice Try.underlying23 h with ⟨rfl, _⟩ | ⟨a, len, cap, elems, rest, n, _, rfl, _, hb, hl, hm, hlen, hel, _, _⟩
    · exact ⟨none, 0, 0, rfl, by unfold maxLen; omega, fun i hi => absurd hi (by omega)⟩
    · refine ⟨some a, len, cap, rfl, Nat.le_trans hl hm, fun i hi => ?_⟩
      have he := hel i hi
      rw [cellsRaw, List.getElem?_eq_getElem (by omega), Option.bind_eq_some_iff] at he
      obtain ⟨cs4, hcs, hy⟩ := he
      obtain ⟨_, h4, hc⟩ := World.cells?_some hcs
      have hblk := World.cells?_block hcs (by decide)
      obtain ⟨xs, m, _, _, _, hxl, hf⟩ := DataW.trod_struct Try.underlying69 hy
      match cs4, h4 with
      | [c0, c1, c2, c3], _ =>
        have hx4 : xs.length = 4 := hxl
        have f0 : DataW.trod enc Try.prog W 0 (fun _ => true) true m 3 ((([c0, c1, c2, c3] : List Value).drop 0).take (Try.prog.cellsOf 3)) = xs[0]? := hf 0 _ rfl
        rw [cellsInt, List.getElem?_eq_getElem (by omega)] at f0
        have f1 : DataW.trod enc Try.prog W 0 (fun _ => true) true m 3 ((([c0, c1, c2, c3] : List Value).drop 1).take (Try.prog.cellsOf 3)) = xs[1]? := hf 1 _ rfl
        rw [cellsInt, List.getElem?_eq_getElem (by omega)] at f1
        have f2 : DataW.trod enc Try.prog W 0 (fun _ => true) true m 9 ((([c0, c1, c2, c3] : List Value).drop 2).take (Try.prog.cellsOf 9)) = xs[2]? := hf 2 _ rfl
        rw [cellsStr, List.getElem?_eq_getElem (by omega)] at f2
        have f3 : DataW.trod enc Try.prog W 0 (fun _ => true) true m 23 ((([c0, c1, c2, c3] : List Value).drop 3).take (Try.prog.cellsOf 23)) = xs[3]? := hf 3 _ rfl
        rw [cellsSlR, List.getElem?_eq_getElem (by omega)] at f3
        obtain ⟨K, e0, _, k0⟩ := DataW.trod_int Try.underlying3 f0
        obtain ⟨N, e1, _, k1⟩ := DataW.trod_int Try.underlying3 f1
        obtain ⟨S, e2, _, k2⟩ := DataW.trod_string Try.underlying9 f2
        obtain ⟨p', n', c', e3, k3⟩ := raws_trod d m _ _ f3
        have d0 : c0 = .int .i64 K := by simpa using e0
        have d1 : c1 = .int .i64 N := by simpa using e1
        have d2 : c2 = .string S := by simpa using e2
        have d3 : c3 = .slice p' n' c' := by simpa using e3
        subst d0 d1 d2 d3
        exact ⟨a, K, N, S, p', n', c', rfl, hblk, hc 0 (by decide), hc 1 (by decide), hc 2 (by decide), hc 3 (by decide), is64_litQ k0, is64_litQ k1, k2, k3⟩
set_option maxRecDepth 100000 in
theorem raws_of {H : Type} {enc : TypeId × Value → H} {W : World} {base : Nat} {v : Value} {d : DataW H} {p : List MemPlace} (hval : Value.okWide Try.prog W .any base 23 v) (h : DataW.Trod enc Try.prog W 0 (fun _ => true) true 23 v d p) : ∃ q n c, v = .slice q n c ∧ RawsN 7 q n W := by
  obtain ⟨a0, len, cap, rfl⟩ := okWide_slice Try.underlying23 hval
  obtain ⟨fuel, hf⟩ := h
  obtain ⟨q, n, c, hcs, hr⟩ := raws_trod 7 fuel _ _ hf
  simp [Value.cells] at hcs
  obtain ⟨rfl, rfl, rfl⟩ := hcs
  exact ⟨_, _, _, rfl, hr⟩
end Go.Proofs.Ytliefgkhpgigaaa

