/-
  federationlaw3's Table: its key.
-/
import Derived.Test.YtliefgkhpgigaaaVTbA
namespace Go.Proofs.Ytliefgkhpgigaaa
open Go.RowKit Go.Shelf
set_option linter.unusedSimpArgs false
set_option linter.unusedVariables false

def ColB (g : Nat) (l : List C3) (W : World) : Prop := l.length ≤ 1000 ∧ ∃ cur, W.heap[g]? = some (.cells cur 63 (0, 0)) ∧ ∀ j, j < l.length * 3 → cur[j]? = (colC l)[j]?
theorem ColB.call {g : Nat} {l : List C3} {W W' : World} (h : ColB g l W) (hb : Below W.heap.size W W') : ColB g l W' := by
  obtain ⟨h0, cur, h1, h2⟩ := h
  exact ⟨h0, cur, (hb.block g (Array.getElem?_eq_some_iff.1 h1).1).trans h1, h2⟩
theorem ColB.base {g B : Nat} {l : List C3} {W W' : World} (h : ColB g l W) (hb : Below B W W') (hl : g < B) : ColB g l W' := by
  obtain ⟨h0, cur, h1, h2⟩ := h
  exact ⟨h0, cur, (hb.block g hl).trans h1, h2⟩
theorem ColB.far {g b : Nat} {l : List C3} {W : World} (h : ColB g l W) (hne : g ≠ b) (j : Nat) (y : Value) : ColB g l (W.setCell ⟨b, j, none⟩ y) := by
  obtain ⟨h0, cur, h1, h2⟩ := h
  exact ⟨h0, cur, (Below.heap_setCell _ _ _ _ (by simp; omega)).trans h1, h2⟩
theorem ColB.lt {g : Nat} {l : List C3} {W : World} (h : ColB g l W) : g < W.heap.size := by
  obtain ⟨_, cur, h1, _⟩ := h
  exact (Array.getElem?_eq_some_iff.1 h1).1
theorem ColB.froz {g : Nat} {l : List C3} {W : World} (h : ColB g l W) (j : Nat) : W.frozen? ⟨g, j, none⟩ = false := by
  obtain ⟨_, cur, h1, _⟩ := h
  simp [World.frozen?, h1]
theorem ColB.at {g : Nat} {l : List C3} {W : World} (h : ColB g l W) (i : Nat) (hi : i < l.length) : ColAt g i l[i] W := by
  obtain ⟨_, cur, h1, h2⟩ := h
  obtain ⟨a1, a2, a3⟩ := colC_at l i hi
  exact ⟨(cell_of_row W g _ cur _ _ h1).trans ((h2 _ (by omega)).trans a1), (cell_of_row W g _ cur _ _ h1).trans ((h2 _ (by omega)).trans a2), (cell_of_row W g _ cur _ _ h1).trans ((h2 _ (by omega)).trans a3)⟩
theorem ColB.cols {g cap : Nat} {l : List C3} {W : World} (h : ColB g l W) : ColsOf (.slice (some ⟨g, 0, none⟩) l.length cap) l W := ⟨g, cap, rfl, h.lt, h.1, fun i hi => h.at i hi⟩
theorem colC_set : ∀ (l : List C3) (k : Nat) (b : Bool) (j : Nat) (hk : k < l.length), (colC (l.set k (l[k].1, l[k].2.1, b)))[j]? = if j = k * 3 + 2 then some (.bool b) else (colC l)[j]?
  | [], k, b, j, h => absurd h (by simp)
  | y :: l, 0, b, j, h => by
    show ([Value.string y.1, .int .i64 y.2.1, .bool b] ++ colC l)[j]? = if _ then _ else ([Value.string y.1, .int .i64 y.2.1, .bool y.2.2] ++ colC l)[j]?
    match j with
    | 0 => rfl
    | 1 => rfl
    | 2 => rfl
    | j + 3 => simp
  | y :: l, k + 1, b, j, h => by
    have hkl : k < l.length := by simpa using h
    have ih := colC_set l k b (j - 3) hkl
    show ([Value.string y.1, .int .i64 y.2.1, .bool y.2.2] ++ colC (l.set k (l[k].1, l[k].2.1, b)))[j]? = if _ then _ else ([Value.string y.1, .int .i64 y.2.1, .bool y.2.2] ++ colC l)[j]?
    by_cases hj : j < 3
    · rw [if_neg (by omega), List.getElem?_append_left (by simpa using hj), List.getElem?_append_left (by simpa using hj)]
    · rw [List.getElem?_append_right (by simp; omega), List.getElem?_append_right (by simp; omega)]
      show (colC _)[j - 3]? = if _ then _ else (colC l)[j - 3]?
      rw [ih]
      by_cases h1 : j = (k + 1) * 3 + 2
      · rw [if_pos h1, if_pos (by omega)]
      · rw [if_neg h1, if_neg (by omega)]
theorem ColB.set {g k : Nat} {l : List C3} {W : World} (h : ColB g l W) (hk : k < l.length) (b : Bool) : ColB g (l.set k (l[k].1, l[k].2.1, b)) (W.setCell ⟨g, k * 3 + 2, none⟩ (.bool b)) := by
  obtain ⟨h0, cur, h1, h2⟩ := h
  refine ⟨by simpa using h0, _, heapSet h1 _ _, fun j hj => ?_⟩
  rw [List.length_set] at hj
  have hs : ∀ i, i < l.length * 3 → i < cur.size := fun i hi => by
    have e := h2 i hi
    have : (colC l)[i]? ≠ none := by rw [List.getElem?_eq_getElem (by rw [colC_len]; exact hi)]; simp
    rw [← e] at this
    exact Nat.lt_of_not_le (fun hle => this (Array.getElem?_eq_none_iff.2 hle))
  rw [colC_set l k b j hk, Array.getElem?_setIfInBounds]
  by_cases e : j = k * 3 + 2
  · subst e; rw [if_pos rfl, if_pos (hs _ (by omega)), if_pos rfl]
  · rw [if_neg (by omega), if_neg e]; exact h2 j hj
theorem colsL_set {l : List C3} {k : Nat} (h : ColsL l) (hk : k < l.length) (b : Bool) : ColsL (l.set k (l[k].1, l[k].2.1, b)) := by
  intro i hi
  have hi2 : i < l.length := by simpa using hi
  by_cases e : i = k
  · subst e; rw [List.getElem_set_self]; exact h i hi2
  · rw [List.getElem_set_ne (by omega)]; exact h i hi2
theorem owc_blk {B : Nat} {cv : Value} {l : List C3} {W : World} (hl : l.length ≤ 1000) (h : OwC B cv l W) (h0 : l ≠ []) : ∃ g cap, cv = .slice (some ⟨g, 0, none⟩) l.length cap ∧ B ≤ g ∧ ColB g l W := by
  rcases h.2 with ⟨rfl, h1⟩ | ⟨g, cap, cur, rfl, hge, hgb, _, _, _, ht⟩
  · exact absurd (List.length_eq_zero_iff.1 h1) h0
  · exact ⟨g, cap, rfl, hge, hl, cur, hgb, fun j hj => by rw [← ht, List.getElem?_take_of_lt hj]; simp⟩
def OwI (B : Nat) (uv : Value) (m : Nat) (us : List Value) (T : TypeId) (n : Nat) (X : World) : Prop := X.ownsRow B T n uv m us
theorem OwI.call {B m n : Nat} {uv : Value} {us : List Value} {T : TypeId} {W W' : World} (h : OwI B uv m us T n W) (hb : Below W.heap.size W W') : OwI B uv m us T n W' := owns_call4 h hb
def IsSl (v : Value) (_ : World) : Prop := ∃ a n c, v = .slice a n c
theorem isSl_of {B m n : Nat} {uv : Value} {us : List Value} {T : TypeId} {W : World} (h : OwI B uv m us T n W) : IsSl uv W := by
  rcases h.2 with ⟨rfl, _⟩ | ⟨g, cap, cur, rfl, _⟩
  · exact ⟨_, _, _, rfl⟩
  · exact ⟨_, _, _, rfl⟩
theorem cells_one_at (W : World) (n : Nat) (hn : W.heap.size = n) (x : Value) (T : TypeId) : ∀ j v, [x][j]? = some v → (W.alloc (.cells #[x] T)).cell? (Addr.add ⟨n, 0, none⟩ j) = some v := by
  intro j v h
  subst hn
  have hc := cell_of_row _ W.heap.size j _ _ _ (World.alloc_heap_new W (.cells #[x] T))
  match j, h with
  | 0, h => exact hc.trans h
theorem cells_two_at (W : World) (n : Nat) (hn : W.heap.size = n) (x y : Value) (T : TypeId) : ∀ j v, [x, y][j]? = some v → (W.alloc (.cells #[x, y] T)).cell? (Addr.add ⟨n, 0, none⟩ j) = some v := by
  intro j v h
  subst hn
  have hc := cell_of_row _ W.heap.size j _ _ _ (World.alloc_heap_new W (.cells #[x, y] T))
  match j, h with
  | 0, h => exact hc.trans h
  | 1, h => exact hc.trans h
set_option maxHeartbeats 16000000 in
set_option maxRecDepth 100000 in
theorem tbK {r0 r1 r2 r3 r4 rest : Code} (hc : Try.f14.body = some (.seq r0 (.seq r1 (.seq r2 (.seq r3 (.seq r4 (rest))))))) (w : World) (b6 bt : Nat) (h6t : b6 ≠ bt) (hw6 : w.heap.size ≤ b6) (hwt : w.heap.size ≤ bt) (n : Int) (p : Option Addr) (np : Nat) (zs : List Int) (k : Nat) (hk4 : k ≤ 4) (hk1 : 1 ≤ k) (s0 : ByteArray) (g cap : Nat) (hgt : g ≠ bt) (hg6 : g ≠ b6) (hwg : w.heap.size ≤ g) (l : List C3) (j : Nat) (hn : Is64 n) (CW : Hid (∀ W, Calls Try.prog 34 #[.int .i64 (n.tdiv 16), .int .i64 (k : Int)] W fun e W' => e = .returned (.int .i64 (j : Int)) ∧ W' = W)) (K : Act → World → Prop) (Q : Exit → Act → World → Prop) (REST : Hid (∀ (ac : Act) (X : World), ac = ⟨#[.int .i64 n, .slice p zs.length np, ac.tmps.getD 2 undef, ac.tmps.getD 3 undef, ac.tmps.getD 4 undef, ac.tmps.getD 5 undef, .pointer (some ⟨b6, 0, none⟩), .pointer (some ⟨bt, 0, none⟩), .int .i64 (k : Int), ac.tmps.getD 9 undef, ac.tmps.getD 10 undef, ac.tmps.getD 11 undef, ac.tmps.getD 12 undef, ac.tmps.getD 13 undef, ac.tmps.getD 14 undef, ac.tmps.getD 15 undef, ac.tmps.getD 16 undef, ac.tmps.getD 17 undef, ac.tmps.getD 18 undef, ac.tmps.getD 19 undef, ac.tmps.getD 20 undef, ac.tmps.getD 21 undef, ac.tmps.getD 22 undef, ac.tmps.getD 23 undef, ac.tmps.getD 24 undef, ac.tmps.getD 25 undef, ac.tmps.getD 26 undef, ac.tmps.getD 27 undef, ac.tmps.getD 28 undef, ac.tmps.getD 29 undef, ac.tmps.getD 30 undef, ac.tmps.getD 31 undef, ac.tmps.getD 32 undef, ac.tmps.getD 33 undef, ac.tmps.getD 34 undef, ac.tmps.getD 35 undef, ac.tmps.getD 36 undef, ac.tmps.getD 37 undef, ac.tmps.getD 38 undef, ac.tmps.getD 39 undef, ac.tmps.getD 40 undef, ac.tmps.getD 41 undef, ac.tmps.getD 42 undef, ac.tmps.getD 43 undef, ac.tmps.getD 44 undef, ac.tmps.getD 45 undef, ac.tmps.getD 46 undef, ac.tmps.getD 47 undef, ac.tmps.getD 48 undef, ac.tmps.getD 49 undef, ac.tmps.getD 50 undef, ac.tmps.getD 51 undef, ac.tmps.getD 52 undef, ac.tmps.getD 53 undef, ac.tmps.getD 54 undef, ac.tmps.getD 55 undef, ac.tmps.getD 56 undef, ac.tmps.getD 57 undef, ac.tmps.getD 58 undef, ac.tmps.getD 59 undef, ac.tmps.getD 60 undef, ac.tmps.getD 61 undef, ac.tmps.getD 62 undef, ac.tmps.getD 63 undef, ac.tmps.getD 64 undef, ac.tmps.getD 65 undef, ac.tmps.getD 66 undef, ac.tmps.getD 67 undef, ac.tmps.getD 68 undef, ac.tmps.getD 69 undef, ac.tmps.getD 70 undef, ac.tmps.getD 71 undef, ac.tmps.getD 72 undef, ac.tmps.getD 73 undef, ac.tmps.getD 74 undef, ac.tmps.getD 75 undef, ac.tmps.getD 76 undef, ac.tmps.getD 77 undef, ac.tmps.getD 78 undef, ac.tmps.getD 79 undef, ac.tmps.getD 80 undef, ac.tmps.getD 81 undef, ac.tmps.getD 82 undef, ac.tmps.getD 83 undef, ac.tmps.getD 84 undef, ac.tmps.getD 85 undef, ac.tmps.getD 86 undef, ac.tmps.getD 87 undef, ac.tmps.getD 88 undef, ac.tmps.getD 89 undef, ac.tmps.getD 90 undef, ac.tmps.getD 91 undef, ac.tmps.getD 92 undef, ac.tmps.getD 93 undef, ac.tmps.getD 94 undef, ac.tmps.getD 95 undef, ac.tmps.getD 96 undef, ac.tmps.getD 97 undef, ac.tmps.getD 98 undef, ac.tmps.getD 99 undef, ac.tmps.getD 100 undef, ac.tmps.getD 101 undef, ac.tmps.getD 102 undef, ac.tmps.getD 103 undef, ac.tmps.getD 104 undef, ac.tmps.getD 105 undef, ac.tmps.getD 106 undef, ac.tmps.getD 107 undef, ac.tmps.getD 108 undef, ac.tmps.getD 109 undef, ac.tmps.getD 110 undef, ac.tmps.getD 111 undef, ac.tmps.getD 112 undef, ac.tmps.getD 113 undef, ac.tmps.getD 114 undef], []⟩ → Hid (Grown w X) → Hid (Blk b6 (tbl ⟨#[]⟩ (.slice none 0 0) (.int .i64 0) (.slice none 0 0) (.slice none 0 0)) 34 X) → Hid (ColB g l X) → Hid (Blk bt (tbl s0 (.slice (some ⟨g, 0, none⟩) k cap) (.int .i64 (j : Int)) (.slice none 0 0) (.slice none 0 0)) 34 X) → K ac X)) (ac : Act) (X : World) (ha : ac = ⟨#[.int .i64 n, .slice p zs.length np, ac.tmps.getD 2 undef, ac.tmps.getD 3 undef, ac.tmps.getD 4 undef, ac.tmps.getD 5 undef, .pointer (some ⟨b6, 0, none⟩), .pointer (some ⟨bt, 0, none⟩), .int .i64 (k : Int), ac.tmps.getD 9 undef, ac.tmps.getD 10 undef, ac.tmps.getD 11 undef, ac.tmps.getD 12 undef, ac.tmps.getD 13 undef, ac.tmps.getD 14 undef, ac.tmps.getD 15 undef, ac.tmps.getD 16 undef, ac.tmps.getD 17 undef, ac.tmps.getD 18 undef, ac.tmps.getD 19 undef, ac.tmps.getD 20 undef, ac.tmps.getD 21 undef, ac.tmps.getD 22 undef, ac.tmps.getD 23 undef, ac.tmps.getD 24 undef, ac.tmps.getD 25 undef, ac.tmps.getD 26 undef, ac.tmps.getD 27 undef, ac.tmps.getD 28 undef, ac.tmps.getD 29 undef, ac.tmps.getD 30 undef, ac.tmps.getD 31 undef, ac.tmps.getD 32 undef, ac.tmps.getD 33 undef, ac.tmps.getD 34 undef, ac.tmps.getD 35 undef, ac.tmps.getD 36 undef, ac.tmps.getD 37 undef, ac.tmps.getD 38 undef, ac.tmps.getD 39 undef, ac.tmps.getD 40 undef, ac.tmps.getD 41 undef, ac.tmps.getD 42 undef, ac.tmps.getD 43 undef, ac.tmps.getD 44 undef, ac.tmps.getD 45 undef, ac.tmps.getD 46 undef, ac.tmps.getD 47 undef, ac.tmps.getD 48 undef, ac.tmps.getD 49 undef, ac.tmps.getD 50 undef, ac.tmps.getD 51 undef, ac.tmps.getD 52 undef, ac.tmps.getD 53 undef, ac.tmps.getD 54 undef, ac.tmps.getD 55 undef, ac.tmps.getD 56 undef, ac.tmps.getD 57 undef, ac.tmps.getD 58 undef, ac.tmps.getD 59 undef, ac.tmps.getD 60 undef, ac.tmps.getD 61 undef, ac.tmps.getD 62 undef, ac.tmps.getD 63 undef, ac.tmps.getD 64 undef, ac.tmps.getD 65 undef, ac.tmps.getD 66 undef, ac.tmps.getD 67 undef, ac.tmps.getD 68 undef, ac.tmps.getD 69 undef, ac.tmps.getD 70 undef, ac.tmps.getD 71 undef, ac.tmps.getD 72 undef, ac.tmps.getD 73 undef, ac.tmps.getD 74 undef, ac.tmps.getD 75 undef, ac.tmps.getD 76 undef, ac.tmps.getD 77 undef, ac.tmps.getD 78 undef, ac.tmps.getD 79 undef, ac.tmps.getD 80 undef, ac.tmps.getD 81 undef, ac.tmps.getD 82 undef, ac.tmps.getD 83 undef, ac.tmps.getD 84 undef, ac.tmps.getD 85 undef, ac.tmps.getD 86 undef, ac.tmps.getD 87 undef, ac.tmps.getD 88 undef, ac.tmps.getD 89 undef, ac.tmps.getD 90 undef, ac.tmps.getD 91 undef, ac.tmps.getD 92 undef, ac.tmps.getD 93 undef, ac.tmps.getD 94 undef, ac.tmps.getD 95 undef, ac.tmps.getD 96 undef, ac.tmps.getD 97 undef, ac.tmps.getD 98 undef, ac.tmps.getD 99 undef, ac.tmps.getD 100 undef, ac.tmps.getD 101 undef, ac.tmps.getD 102 undef, ac.tmps.getD 103 undef, ac.tmps.getD 104 undef, ac.tmps.getD 105 undef, ac.tmps.getD 106 undef, ac.tmps.getD 107 undef, ac.tmps.getD 108 undef, ac.tmps.getD 109 undef, ac.tmps.getD 110 undef, ac.tmps.getD 111 undef, ac.tmps.getD 112 undef, ac.tmps.getD 113 undef, ac.tmps.getD 114 undef], []⟩) (G : Hid (Grown w X)) (hZ : Hid (Blk b6 (tbl ⟨#[]⟩ (.slice none 0 0) (.int .i64 0) (.slice none 0 0) (.slice none 0 0)) 34 X)) (hB : Hid (ColB g l X)) (hT : Hid (Blk bt (tbl s0 (.slice (some ⟨g, 0, none⟩) k cap) (.int .i64 0) (.slice none 0 0) (.slice none 0 0)) 34 X)) : r4.wp Try.prog (Exit.then K Q) ac X := by
  obtain ⟨u, rfl⟩ : ∃ u : Nat → Value, ac = ⟨#[.int .i64 n, .slice p zs.length np, u 2, u 3, u 4, u 5, .pointer (some ⟨b6, 0, none⟩), .pointer (some ⟨bt, 0, none⟩), .int .i64 (k : Int), u 9, u 10, u 11, u 12, u 13, u 14, u 15, u 16, u 17, u 18, u 19, u 20, u 21, u 22, u 23, u 24, u 25, u 26, u 27, u 28, u 29, u 30, u 31, u 32, u 33, u 34, u 35, u 36, u 37, u 38, u 39, u 40, u 41, u 42, u 43, u 44, u 45, u 46, u 47, u 48, u 49, u 50, u 51, u 52, u 53, u 54, u 55, u 56, u 57, u 58, u 59, u 60, u 61, u 62, u 63, u 64, u 65, u 66, u 67, u 68, u 69, u 70, u 71, u 72, u 73, u 74, u 75, u 76, u 77, u 78, u 79, u 80, u 81, u 82, u 83, u 84, u 85, u 86, u 87, u 88, u 89, u 90, u 91, u 92, u 93, u 94, u 95, u 96, u 97, u 98, u 99, u 100, u 101, u 102, u 103, u 104, u 105, u 106, u 107, u 108, u 109, u 110, u 111, u 112, u 113, u 114], []⟩ := ⟨fun i => ac.tmps.getD i undef, ha⟩
  clear ha
  unfold Try.f14 at hc
  cases hc
  have e16 : IntKind.i64.wrap (n.tdiv 16) = n.tdiv 16 := IntWalk.i64_in _ (by have := tdiv_bd hn 16 (by decide); unfold Is64 at this; omega)
  have lt_ := (unhide hT).lt
  have q2 := (unhide hT).cell 2
  have f2 := (unhide hT).froz 2
  simp at q2
  go_wp2_with fail
  refine (unhide CW _).mono ?_
  rintro e W1 ⟨rfl, rfl⟩
  have G5 := hide (Below.setCell (unhide G : Below w.heap.size w W1) (p := ⟨bt, 2, none⟩) hwt (.int .i64 (j : Int)))
  have Z5 := hide ((unhide hZ).set h6t 2 (.int .i64 (j : Int)))
  have B5 := hide ((unhide hB).far hgt 2 (.int .i64 (j : Int)))
  have T5 := hide (heapSet (unhide hT) 2 (.int .i64 (j : Int)))
  go_wp2_with fail
  exact unhide REST _ _ (by kernel_rfl) G5 Z5 B5 T5
set_option maxHeartbeats 16000000 in
set_option maxRecDepth 100000 in
theorem tbN {r0 r1 r2 r3 r4 r5 rest : Code} (hc : Try.f14.body = some (.seq r0 (.seq r1 (.seq r2 (.seq r3 (.seq r4 (.seq r5 (rest)))))))) (w : World) (b6 bt : Nat) (h6t : b6 ≠ bt) (hw6 : w.heap.size ≤ b6) (hwt : w.heap.size ≤ bt) (n : Int) (p : Option Addr) (np : Nat) (zs : List Int) (k : Nat) (hk4 : k ≤ 4) (hk1 : 1 ≤ k) (s0 : ByteArray) (g cap : Nat) (hgt : g ≠ bt) (hg6 : g ≠ b6) (hwg : w.heap.size ≤ g) (l : List C3) (hlk : l.length = k) (j : Nat) (hj : j < l.length) (K : Act → World → Prop) (Q : Exit → Act → World → Prop) (REST : Hid (∀ (ac : Act) (X : World), ac = ⟨#[.int .i64 n, .slice p zs.length np, ac.tmps.getD 2 undef, ac.tmps.getD 3 undef, ac.tmps.getD 4 undef, ac.tmps.getD 5 undef, .pointer (some ⟨b6, 0, none⟩), .pointer (some ⟨bt, 0, none⟩), .int .i64 (k : Int), ac.tmps.getD 9 undef, ac.tmps.getD 10 undef, ac.tmps.getD 11 undef, ac.tmps.getD 12 undef, ac.tmps.getD 13 undef, ac.tmps.getD 14 undef, ac.tmps.getD 15 undef, ac.tmps.getD 16 undef, ac.tmps.getD 17 undef, ac.tmps.getD 18 undef, ac.tmps.getD 19 undef, ac.tmps.getD 20 undef, ac.tmps.getD 21 undef, ac.tmps.getD 22 undef, ac.tmps.getD 23 undef, ac.tmps.getD 24 undef, ac.tmps.getD 25 undef, ac.tmps.getD 26 undef, ac.tmps.getD 27 undef, ac.tmps.getD 28 undef, ac.tmps.getD 29 undef, ac.tmps.getD 30 undef, ac.tmps.getD 31 undef, ac.tmps.getD 32 undef, ac.tmps.getD 33 undef, ac.tmps.getD 34 undef, ac.tmps.getD 35 undef, ac.tmps.getD 36 undef, ac.tmps.getD 37 undef, ac.tmps.getD 38 undef, ac.tmps.getD 39 undef, ac.tmps.getD 40 undef, ac.tmps.getD 41 undef, ac.tmps.getD 42 undef, ac.tmps.getD 43 undef, ac.tmps.getD 44 undef, ac.tmps.getD 45 undef, ac.tmps.getD 46 undef, ac.tmps.getD 47 undef, ac.tmps.getD 48 undef, ac.tmps.getD 49 undef, ac.tmps.getD 50 undef, ac.tmps.getD 51 undef, ac.tmps.getD 52 undef, ac.tmps.getD 53 undef, ac.tmps.getD 54 undef, ac.tmps.getD 55 undef, ac.tmps.getD 56 undef, ac.tmps.getD 57 undef, ac.tmps.getD 58 undef, ac.tmps.getD 59 undef, ac.tmps.getD 60 undef, ac.tmps.getD 61 undef, ac.tmps.getD 62 undef, ac.tmps.getD 63 undef, ac.tmps.getD 64 undef, ac.tmps.getD 65 undef, ac.tmps.getD 66 undef, ac.tmps.getD 67 undef, ac.tmps.getD 68 undef, ac.tmps.getD 69 undef, ac.tmps.getD 70 undef, ac.tmps.getD 71 undef, ac.tmps.getD 72 undef, ac.tmps.getD 73 undef, ac.tmps.getD 74 undef, ac.tmps.getD 75 undef, ac.tmps.getD 76 undef, ac.tmps.getD 77 undef, ac.tmps.getD 78 undef, ac.tmps.getD 79 undef, ac.tmps.getD 80 undef, ac.tmps.getD 81 undef, ac.tmps.getD 82 undef, ac.tmps.getD 83 undef, ac.tmps.getD 84 undef, ac.tmps.getD 85 undef, ac.tmps.getD 86 undef, ac.tmps.getD 87 undef, ac.tmps.getD 88 undef, ac.tmps.getD 89 undef, ac.tmps.getD 90 undef, ac.tmps.getD 91 undef, ac.tmps.getD 92 undef, ac.tmps.getD 93 undef, ac.tmps.getD 94 undef, ac.tmps.getD 95 undef, ac.tmps.getD 96 undef, ac.tmps.getD 97 undef, ac.tmps.getD 98 undef, ac.tmps.getD 99 undef, ac.tmps.getD 100 undef, ac.tmps.getD 101 undef, ac.tmps.getD 102 undef, ac.tmps.getD 103 undef, ac.tmps.getD 104 undef, ac.tmps.getD 105 undef, ac.tmps.getD 106 undef, ac.tmps.getD 107 undef, ac.tmps.getD 108 undef, ac.tmps.getD 109 undef, ac.tmps.getD 110 undef, ac.tmps.getD 111 undef, ac.tmps.getD 112 undef, ac.tmps.getD 113 undef, ac.tmps.getD 114 undef], []⟩ → Hid (Grown w X) → Hid (Blk b6 (tbl ⟨#[]⟩ (.slice none 0 0) (.int .i64 0) (.slice none 0 0) (.slice none 0 0)) 34 X) → Hid (ColB g (l.set j (l[j].1, l[j].2.1, true)) X) → Hid (Blk bt (tbl s0 (.slice (some ⟨g, 0, none⟩) k cap) (.int .i64 (j : Int)) (.slice none 0 0) (.slice none 0 0)) 34 X) → K ac X)) (ac : Act) (X : World) (ha : ac = ⟨#[.int .i64 n, .slice p zs.length np, ac.tmps.getD 2 undef, ac.tmps.getD 3 undef, ac.tmps.getD 4 undef, ac.tmps.getD 5 undef, .pointer (some ⟨b6, 0, none⟩), .pointer (some ⟨bt, 0, none⟩), .int .i64 (k : Int), ac.tmps.getD 9 undef, ac.tmps.getD 10 undef, ac.tmps.getD 11 undef, ac.tmps.getD 12 undef, ac.tmps.getD 13 undef, ac.tmps.getD 14 undef, ac.tmps.getD 15 undef, ac.tmps.getD 16 undef, ac.tmps.getD 17 undef, ac.tmps.getD 18 undef, ac.tmps.getD 19 undef, ac.tmps.getD 20 undef, ac.tmps.getD 21 undef, ac.tmps.getD 22 undef, ac.tmps.getD 23 undef, ac.tmps.getD 24 undef, ac.tmps.getD 25 undef, ac.tmps.getD 26 undef, ac.tmps.getD 27 undef, ac.tmps.getD 28 undef, ac.tmps.getD 29 undef, ac.tmps.getD 30 undef, ac.tmps.getD 31 undef, ac.tmps.getD 32 undef, ac.tmps.getD 33 undef, ac.tmps.getD 34 undef, ac.tmps.getD 35 undef, ac.tmps.getD 36 undef, ac.tmps.getD 37 undef, ac.tmps.getD 38 undef, ac.tmps.getD 39 undef, ac.tmps.getD 40 undef, ac.tmps.getD 41 undef, ac.tmps.getD 42 undef, ac.tmps.getD 43 undef, ac.tmps.getD 44 undef, ac.tmps.getD 45 undef, ac.tmps.getD 46 undef, ac.tmps.getD 47 undef, ac.tmps.getD 48 undef, ac.tmps.getD 49 undef, ac.tmps.getD 50 undef, ac.tmps.getD 51 undef, ac.tmps.getD 52 undef, ac.tmps.getD 53 undef, ac.tmps.getD 54 undef, ac.tmps.getD 55 undef, ac.tmps.getD 56 undef, ac.tmps.getD 57 undef, ac.tmps.getD 58 undef, ac.tmps.getD 59 undef, ac.tmps.getD 60 undef, ac.tmps.getD 61 undef, ac.tmps.getD 62 undef, ac.tmps.getD 63 undef, ac.tmps.getD 64 undef, ac.tmps.getD 65 undef, ac.tmps.getD 66 undef, ac.tmps.getD 67 undef, ac.tmps.getD 68 undef, ac.tmps.getD 69 undef, ac.tmps.getD 70 undef, ac.tmps.getD 71 undef, ac.tmps.getD 72 undef, ac.tmps.getD 73 undef, ac.tmps.getD 74 undef, ac.tmps.getD 75 undef, ac.tmps.getD 76 undef, ac.tmps.getD 77 undef, ac.tmps.getD 78 undef, ac.tmps.getD 79 undef, ac.tmps.getD 80 undef, ac.tmps.getD 81 undef, ac.tmps.getD 82 undef, ac.tmps.getD 83 undef, ac.tmps.getD 84 undef, ac.tmps.getD 85 undef, ac.tmps.getD 86 undef, ac.tmps.getD 87 undef, ac.tmps.getD 88 undef, ac.tmps.getD 89 undef, ac.tmps.getD 90 undef, ac.tmps.getD 91 undef, ac.tmps.getD 92 undef, ac.tmps.getD 93 undef, ac.tmps.getD 94 undef, ac.tmps.getD 95 undef, ac.tmps.getD 96 undef, ac.tmps.getD 97 undef, ac.tmps.getD 98 undef, ac.tmps.getD 99 undef, ac.tmps.getD 100 undef, ac.tmps.getD 101 undef, ac.tmps.getD 102 undef, ac.tmps.getD 103 undef, ac.tmps.getD 104 undef, ac.tmps.getD 105 undef, ac.tmps.getD 106 undef, ac.tmps.getD 107 undef, ac.tmps.getD 108 undef, ac.tmps.getD 109 undef, ac.tmps.getD 110 undef, ac.tmps.getD 111 undef, ac.tmps.getD 112 undef, ac.tmps.getD 113 undef, ac.tmps.getD 114 undef], []⟩) (G : Hid (Grown w X)) (hZ : Hid (Blk b6 (tbl ⟨#[]⟩ (.slice none 0 0) (.int .i64 0) (.slice none 0 0) (.slice none 0 0)) 34 X)) (hB : Hid (ColB g l X)) (hT : Hid (Blk bt (tbl s0 (.slice (some ⟨g, 0, none⟩) k cap) (.int .i64 (j : Int)) (.slice none 0 0) (.slice none 0 0)) 34 X)) : r5.wp Try.prog (Exit.then K Q) ac X := by
  obtain ⟨u, rfl⟩ : ∃ u : Nat → Value, ac = ⟨#[.int .i64 n, .slice p zs.length np, u 2, u 3, u 4, u 5, .pointer (some ⟨b6, 0, none⟩), .pointer (some ⟨bt, 0, none⟩), .int .i64 (k : Int), u 9, u 10, u 11, u 12, u 13, u 14, u 15, u 16, u 17, u 18, u 19, u 20, u 21, u 22, u 23, u 24, u 25, u 26, u 27, u 28, u 29, u 30, u 31, u 32, u 33, u 34, u 35, u 36, u 37, u 38, u 39, u 40, u 41, u 42, u 43, u 44, u 45, u 46, u 47, u 48, u 49, u 50, u 51, u 52, u 53, u 54, u 55, u 56, u 57, u 58, u 59, u 60, u 61, u 62, u 63, u 64, u 65, u 66, u 67, u 68, u 69, u 70, u 71, u 72, u 73, u 74, u 75, u 76, u 77, u 78, u 79, u 80, u 81, u 82, u 83, u 84, u 85, u 86, u 87, u 88, u 89, u 90, u 91, u 92, u 93, u 94, u 95, u 96, u 97, u 98, u 99, u 100, u 101, u 102, u 103, u 104, u 105, u 106, u 107, u 108, u 109, u 110, u 111, u 112, u 113, u 114], []⟩ := ⟨fun i => ac.tmps.getD i undef, ha⟩
  clear ha
  unfold Try.f14 at hc
  cases hc
  have hji : (j : Int) < k := by omega
  have lt_ := (unhide hT).lt
  have q1 := (unhide hT).cell 1
  have q2 := (unhide hT).cell 2
  simp at q1 q2
  have lg := (unhide hB).lt
  have c2 := ((unhide hB).at j hj).2.2
  have f2 := (unhide hB).froz (j * 3 + 2)
  have G5 := hide (Below.setCell (unhide G : Below w.heap.size w X) (p := ⟨g, j * 3 + 2, none⟩) hwg (.bool true))
  have Z5 := hide ((unhide hZ).set (b := g) (Ne.symm hg6) (j * 3 + 2) (.bool true))
  have B5 := hide ((unhide hB).set hj true)
  have T5 := hide ((unhide hT).set (b := g) (Ne.symm hgt) (j * 3 + 2) (.bool true))
  clear G hZ hB hT
  go_wp2_with fail
  exact unhide REST _ _ (by kernel_rfl) G5 Z5 B5 T5
end Go.Proofs.Ytliefgkhpgigaaa
