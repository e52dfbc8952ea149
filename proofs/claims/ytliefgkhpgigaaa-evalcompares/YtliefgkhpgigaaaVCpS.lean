/-
  EvalCompares: the store into the row.
-/
import Derived.Test.YtliefgkhpgigaaaVCpC
import Derived.Test.YtliefgkhpgigaaaVCpM
namespace Go.Proofs.Ytliefgkhpgigaaa
open Go.RowKit
set_option linter.unusedSimpArgs false
set_option linter.unusedVariables false

/-- all blocks but one are as they were -/
def Far (b : Nat) (W W' : World) : Prop := W'.heap.size = W.heap.size ∧ ∀ g, g ≠ b → W'.heap[g]? = W.heap[g]?
theorem far_setL {b : Nat} : ∀ (l : List Value) (W : World) (j : Nat), Far b W (setL W b j l)
  | [], _, _ => ⟨rfl, fun _ _ => rfl⟩
  | y :: l, W, j => by
    obtain ⟨h1, h2⟩ := far_setL l (W.setCell ⟨b, j, none⟩ y) (j + 1)
    exact ⟨h1.trans (by simp), fun g hg => (h2 g hg).trans (Below.heap_setCell _ _ _ _ hg)⟩
def IntAt (b : Nat) (W : World) : Prop := ∃ m n : Int, W.cell? ⟨b, 0, none⟩ = some (.int .i64 m) ∧ W.cell? ⟨b, 1, none⟩ = some (.int .i64 n)
theorem int_row {b : Nat} {x y : Int} {T : TypeId} {W : World} (h : Blk b (rowC [(2, x, 0, S0), (2, y, 0, S0), Z4, Z4]).toArray T W) : IntAt b W := ⟨2, x, by rw [h.cell 0]; rfl, by rw [h.cell 1]; rfl⟩
theorem cells_far {b g o : Nat} {e : Ex} {lv : Value} {W W' : World} (ho : o = 0) (hi : IntAt b W) (hf : Far b W W') (h : CellsAt g o (exC e lv) W) : g ≠ b := by
  subst ho
  rintro rfl
  obtain ⟨m, n, _, h1⟩ := hi
  have e1 := h.2 1 (by simp [exC])
  rw [show (0 + 1 : Nat) = 1 from rfl, h1] at e1
  simp [exC] at e1
theorem cells_keep {b g o : Nat} {cs : List Value} {W W' : World} (hf : Far b W W') (hne : g ≠ b) (h : CellsAt g o cs W) : CellsAt g o cs W' :=
  ⟨by rw [hf.1]; exact h.1, fun j hj => (cell_heap (hf.2 g hne)).trans (h.2 j hj)⟩
theorem rep_far {b : Nat} {W W' : World} (hi : IntAt b W) (hf : Far b W W') : ∀ {e : Ex} {lv : Value}, Rep e lv W → Rep e lv W'
  | .leaf _ _ _, _, h => h
  | .one _ _ _ c, _, ⟨g, cap, lc, h1, h2, h3⟩ => ⟨g, cap, lc, h1, cells_keep hf (cells_far rfl hi hf h2) h2, rep_far hi hf h3⟩
  | .two _ _ _ a b, _, ⟨g, cap, la, lb, h1, h2, h3, h4, h5⟩ => ⟨g, cap, la, lb, h1, cells_keep hf (cells_far rfl hi hf h2) h2, cells_keep hf (cells_far rfl hi hf h2) h3, rep_far hi hf h4, rep_far hi hf h5⟩
theorem el_far {b g : Nat} {e : Ex} {lv : Value} {W W' : World} {j : Nat} (hf : Far b W W') (hne : g ≠ b) (h : ElAt g j e lv W) : ElAt g j e lv W' := by
  have hh := hf.2 g hne
  obtain ⟨h0, h1, h2, h3, h4, h5, h6, h7⟩ := h
  exact ⟨by rw [hf.1]; exact h0, (cell_heap hh).trans h1, (cell_heap hh).trans h2, (cell_heap hh).trans h3, (cell_heap hh).trans h4, (cell_heap hh).trans h5, (cell_heap hh).trans h6, (cell_heap hh).trans h7⟩
theorem lst_far {b bl : Nat} {EL : Nat → Ex} {GL : Nat → Nat} {W W' : World} (hi : IntAt b W) (hf : Far b W W') (h : LstAt bl EL GL W) : LstAt bl EL GL W' := by
  have hne : bl ≠ b := by
    rintro rfl
    obtain ⟨m, n, _, h1⟩ := hi
    have e1 := (h 0 (by decide)).1.2.2.1
    rw [show (0 * 7 + 1 : Nat) = 1 from rfl, h1] at e1
    simp at e1
  exact fun k hk => ⟨el_far hf hne (h k hk).1, rep_far hi hf (h k hk).2⟩
theorem cols_far {b gc : Nat} {W W' : World} (hi : IntAt b W) (hf : Far b W W') (h : ColsOf (.slice (some ⟨gc, 0, none⟩) 4 4) cols4 W) : ColsOf (.slice (some ⟨gc, 0, none⟩) 4 4) cols4 W' := by
  obtain ⟨g, cap, h1, h2, h3, h4⟩ := h
  cases h1
  have hne : gc ≠ b := by
    rintro rfl
    obtain ⟨m, n, h1, _⟩ := hi
    have e1 := (h4 0 (by decide)).1
    rw [show (0 * 3 : Nat) = 0 from rfl, h1] at e1
    simp at e1
  have hh := hf.2 gc hne
  exact ⟨gc, 4, rfl, by rw [hf.1]; exact h2, h3, fun i hi => ⟨(cell_heap hh).trans (h4 i hi).1, (cell_heap hh).trans (h4 i hi).2.1, (cell_heap hh).trans (h4 i hi).2.2⟩⟩
theorem blk_far {b c : Nat} {cs : Array Value} {T : TypeId} {W W' : World} (hf : Far b W W') (hne : c ≠ b) (h : Blk c cs T W) : Blk c cs T W' := (hf.2 c hne).trans h
theorem blk_ne {b c : Nat} {cs ds : Array Value} {T T' : TypeId} {W : World} (h : Blk c cs T W) (h' : Blk b ds T' W) (hs : cs.size ≠ ds.size) : c ≠ b := by
  rintro rfl
  have := Option.some.inj (h.symm.trans h')
  injection this with h1 _ _
  exact hs (by rw [h1])
theorem grown_far {w W : World} {b : Nat} (l : List Value) (j : Nat) (h : Grown w W) (hb : GeB w.heap.size b W) : Grown w (setL W b j l) := below_setL hb l W j h
set_option maxHeartbeats 32000000 in
set_option maxRecDepth 100000 in
theorem cpS {r0 r1 r2 r3 r4 r5 r6 r7 r8 r9 r10 rest : Code} (hc : Try.f5.body = some (.seq r0 (.seq r1 (.seq r2 (.seq r3 (.seq r4 (.seq r5 (.seq r6 (.seq r7 (.seq r8 (.seq r9 (.seq r10 (rest))))))))))))) (w : World) (a b which j : Int) (hj : j = 0 ∨ j = 1) (CW : Hid (∀ W, Calls Try.prog 29 #[.int .i64 which, .int .i64 2] W fun e W' => e = .returned (.int .i64 j) ∧ W' = W)) (EL : Nat → Ex) (GL : Nat → Nat) (gc br bt bx by_ bl : Nat) (n : Int) (le2 ne2 : Bool) (K : Act → World → Prop) (Q : Exit → Act → World → Prop) (REST : Hid (∀ (ac : Act) (x y : V4) (X : World), ac = ⟨#[ac.tmps.getD 0 undef, ac.tmps.getD 1 undef, .int .i64 which, ac.tmps.getD 3 undef, ac.tmps.getD 4 undef, ac.tmps.getD 5 undef, ac.tmps.getD 6 undef, .pointer (some ⟨bx, 0, none⟩), .pointer (some ⟨by_, 0, none⟩), .pointer (some ⟨bt, 0, none⟩), .slice (some ⟨br, 0, none⟩) 4 4, .int .i64 n, .slice (some ⟨bl, 0, none⟩) 3 3, ac.tmps.getD 13 undef, ac.tmps.getD 14 undef, ac.tmps.getD 15 undef, ac.tmps.getD 16 undef, .bool le2, ac.tmps.getD 18 undef, ac.tmps.getD 19 undef, .bool ne2, ac.tmps.getD 21 undef, ac.tmps.getD 22 undef, ac.tmps.getD 23 undef, ac.tmps.getD 24 undef, ac.tmps.getD 25 undef, ac.tmps.getD 26 undef, ac.tmps.getD 27 undef, ac.tmps.getD 28 undef, ac.tmps.getD 29 undef, ac.tmps.getD 30 undef, ac.tmps.getD 31 undef, ac.tmps.getD 32 undef, ac.tmps.getD 33 undef, ac.tmps.getD 34 undef, ac.tmps.getD 35 undef, ac.tmps.getD 36 undef, ac.tmps.getD 37 undef, ac.tmps.getD 38 undef, ac.tmps.getD 39 undef, ac.tmps.getD 40 undef, ac.tmps.getD 41 undef, ac.tmps.getD 42 undef, ac.tmps.getD 43 undef, ac.tmps.getD 44 undef, ac.tmps.getD 45 undef, ac.tmps.getD 46 undef, ac.tmps.getD 47 undef, ac.tmps.getD 48 undef, ac.tmps.getD 49 undef, ac.tmps.getD 50 undef, ac.tmps.getD 51 undef, ac.tmps.getD 52 undef, ac.tmps.getD 53 undef, ac.tmps.getD 54 undef, ac.tmps.getD 55 undef, ac.tmps.getD 56 undef, ac.tmps.getD 57 undef, ac.tmps.getD 58 undef, ac.tmps.getD 59 undef, ac.tmps.getD 60 undef, ac.tmps.getD 61 undef, ac.tmps.getD 62 undef, ac.tmps.getD 63 undef, ac.tmps.getD 64 undef, ac.tmps.getD 65 undef, ac.tmps.getD 66 undef, ac.tmps.getD 67 undef, ac.tmps.getD 68 undef, ac.tmps.getD 69 undef, ac.tmps.getD 70 undef, ac.tmps.getD 71 undef, ac.tmps.getD 72 undef, ac.tmps.getD 73 undef, ac.tmps.getD 74 undef, ac.tmps.getD 75 undef, ac.tmps.getD 76 undef, ac.tmps.getD 77 undef, ac.tmps.getD 78 undef, ac.tmps.getD 79 undef, ac.tmps.getD 80 undef, ac.tmps.getD 81 undef, ac.tmps.getD 82 undef, ac.tmps.getD 83 undef, ac.tmps.getD 84 undef, ac.tmps.getD 85 undef, ac.tmps.getD 86 undef, ac.tmps.getD 87 undef, ac.tmps.getD 88 undef, ac.tmps.getD 89 undef, ac.tmps.getD 90 undef, ac.tmps.getD 91 undef, ac.tmps.getD 92 undef, ac.tmps.getD 93 undef, ac.tmps.getD 94 undef, ac.tmps.getD 95 undef, ac.tmps.getD 96 undef, ac.tmps.getD 97 undef, ac.tmps.getD 98 undef, ac.tmps.getD 99 undef, ac.tmps.getD 100 undef, ac.tmps.getD 101 undef, ac.tmps.getD 102 undef, ac.tmps.getD 103 undef, ac.tmps.getD 104 undef, ac.tmps.getD 105 undef, ac.tmps.getD 106 undef, ac.tmps.getD 107 undef, ac.tmps.getD 108 undef, ac.tmps.getD 109 undef, ac.tmps.getD 110 undef, ac.tmps.getD 111 undef, ac.tmps.getD 112 undef, ac.tmps.getD 113 undef, ac.tmps.getD 114 undef, ac.tmps.getD 115 undef, ac.tmps.getD 116 undef, ac.tmps.getD 117 undef, ac.tmps.getD 118 undef, ac.tmps.getD 119 undef, ac.tmps.getD 120 undef, ac.tmps.getD 121 undef, ac.tmps.getD 122 undef, ac.tmps.getD 123 undef, ac.tmps.getD 124 undef, ac.tmps.getD 125 undef, ac.tmps.getD 126 undef, ac.tmps.getD 127 undef, ac.tmps.getD 128 undef, ac.tmps.getD 129 undef, ac.tmps.getD 130 undef, ac.tmps.getD 131 undef, ac.tmps.getD 132 undef, ac.tmps.getD 133 undef, ac.tmps.getD 134 undef, ac.tmps.getD 135 undef, ac.tmps.getD 136 undef, ac.tmps.getD 137 undef, ac.tmps.getD 138 undef, ac.tmps.getD 139 undef, ac.tmps.getD 140 undef, ac.tmps.getD 141 undef, ac.tmps.getD 142 undef, ac.tmps.getD 143 undef, ac.tmps.getD 144 undef], []⟩ → (x = Z4 ∧ y = (2, b, 0, S0) ∨ x = (2, a, 0, S0) ∧ y = Z4) → Hid (Grown w X) → Hid (Blk bx #[.int .i64 2, .int .i64 a, .int .i64 0, .string S0] 28 X) → Hid (Blk by_ #[.int .i64 2, .int .i64 b, .int .i64 0, .string S0] 28 X) → Hid (ColsOf (.slice (some ⟨gc, 0, none⟩) 4 4) cols4 X) → Hid (RowOf (some ⟨br, 0, none⟩) [x, y, Z4, Z4] X) → Hid (Blk bt #[.string ⟨#[116]⟩, .slice (some ⟨gc, 0, none⟩) 4 4, .int .i64 0, N0, .int .i64 0, .string S0, .int .i64 0, .int .i64 0, .int .i64 0, .string S0, N0, N0] 34 X) → Hid (LstAt bl EL GL X) → K ac X)) (ac : Act) (X : World) (ha : ac = ⟨#[ac.tmps.getD 0 undef, ac.tmps.getD 1 undef, .int .i64 which, ac.tmps.getD 3 undef, ac.tmps.getD 4 undef, ac.tmps.getD 5 undef, ac.tmps.getD 6 undef, .pointer (some ⟨bx, 0, none⟩), .pointer (some ⟨by_, 0, none⟩), .pointer (some ⟨bt, 0, none⟩), .slice (some ⟨br, 0, none⟩) 4 4, .int .i64 n, .slice (some ⟨bl, 0, none⟩) 3 3, ac.tmps.getD 13 undef, ac.tmps.getD 14 undef, ac.tmps.getD 15 undef, ac.tmps.getD 16 undef, .bool le2, ac.tmps.getD 18 undef, ac.tmps.getD 19 undef, .bool ne2, ac.tmps.getD 21 undef, ac.tmps.getD 22 undef, ac.tmps.getD 23 undef, ac.tmps.getD 24 undef, ac.tmps.getD 25 undef, ac.tmps.getD 26 undef, ac.tmps.getD 27 undef, ac.tmps.getD 28 undef, ac.tmps.getD 29 undef, ac.tmps.getD 30 undef, ac.tmps.getD 31 undef, ac.tmps.getD 32 undef, ac.tmps.getD 33 undef, ac.tmps.getD 34 undef, ac.tmps.getD 35 undef, ac.tmps.getD 36 undef, ac.tmps.getD 37 undef, ac.tmps.getD 38 undef, ac.tmps.getD 39 undef, ac.tmps.getD 40 undef, ac.tmps.getD 41 undef, ac.tmps.getD 42 undef, ac.tmps.getD 43 undef, ac.tmps.getD 44 undef, ac.tmps.getD 45 undef, ac.tmps.getD 46 undef, ac.tmps.getD 47 undef, ac.tmps.getD 48 undef, ac.tmps.getD 49 undef, ac.tmps.getD 50 undef, ac.tmps.getD 51 undef, ac.tmps.getD 52 undef, ac.tmps.getD 53 undef, ac.tmps.getD 54 undef, ac.tmps.getD 55 undef, ac.tmps.getD 56 undef, ac.tmps.getD 57 undef, ac.tmps.getD 58 undef, ac.tmps.getD 59 undef, ac.tmps.getD 60 undef, ac.tmps.getD 61 undef, ac.tmps.getD 62 undef, ac.tmps.getD 63 undef, ac.tmps.getD 64 undef, ac.tmps.getD 65 undef, ac.tmps.getD 66 undef, ac.tmps.getD 67 undef, ac.tmps.getD 68 undef, ac.tmps.getD 69 undef, ac.tmps.getD 70 undef, ac.tmps.getD 71 undef, ac.tmps.getD 72 undef, ac.tmps.getD 73 undef, ac.tmps.getD 74 undef, ac.tmps.getD 75 undef, ac.tmps.getD 76 undef, ac.tmps.getD 77 undef, ac.tmps.getD 78 undef, ac.tmps.getD 79 undef, ac.tmps.getD 80 undef, ac.tmps.getD 81 undef, ac.tmps.getD 82 undef, ac.tmps.getD 83 undef, ac.tmps.getD 84 undef, ac.tmps.getD 85 undef, ac.tmps.getD 86 undef, ac.tmps.getD 87 undef, ac.tmps.getD 88 undef, ac.tmps.getD 89 undef, ac.tmps.getD 90 undef, ac.tmps.getD 91 undef, ac.tmps.getD 92 undef, ac.tmps.getD 93 undef, ac.tmps.getD 94 undef, ac.tmps.getD 95 undef, ac.tmps.getD 96 undef, ac.tmps.getD 97 undef, ac.tmps.getD 98 undef, ac.tmps.getD 99 undef, ac.tmps.getD 100 undef, ac.tmps.getD 101 undef, ac.tmps.getD 102 undef, ac.tmps.getD 103 undef, ac.tmps.getD 104 undef, ac.tmps.getD 105 undef, ac.tmps.getD 106 undef, ac.tmps.getD 107 undef, ac.tmps.getD 108 undef, ac.tmps.getD 109 undef, ac.tmps.getD 110 undef, ac.tmps.getD 111 undef, ac.tmps.getD 112 undef, ac.tmps.getD 113 undef, ac.tmps.getD 114 undef, ac.tmps.getD 115 undef, ac.tmps.getD 116 undef, ac.tmps.getD 117 undef, ac.tmps.getD 118 undef, ac.tmps.getD 119 undef, ac.tmps.getD 120 undef, ac.tmps.getD 121 undef, ac.tmps.getD 122 undef, ac.tmps.getD 123 undef, ac.tmps.getD 124 undef, ac.tmps.getD 125 undef, ac.tmps.getD 126 undef, ac.tmps.getD 127 undef, ac.tmps.getD 128 undef, ac.tmps.getD 129 undef, ac.tmps.getD 130 undef, ac.tmps.getD 131 undef, ac.tmps.getD 132 undef, ac.tmps.getD 133 undef, ac.tmps.getD 134 undef, ac.tmps.getD 135 undef, ac.tmps.getD 136 undef, ac.tmps.getD 137 undef, ac.tmps.getD 138 undef, ac.tmps.getD 139 undef, ac.tmps.getD 140 undef, ac.tmps.getD 141 undef, ac.tmps.getD 142 undef, ac.tmps.getD 143 undef, ac.tmps.getD 144 undef], []⟩) (G : Hid (Grown w X)) (hX : Hid (Blk bx #[.int .i64 2, .int .i64 a, .int .i64 0, .string S0] 28 X)) (hY : Hid (Blk by_ #[.int .i64 2, .int .i64 b, .int .i64 0, .string S0] 28 X)) (hBr : Hid (Blk br (rowC [(2, a, 0, S0), (2, b, 0, S0), Z4, Z4]).toArray 28 X)) (hnb : Hid (GeB w.heap.size br X)) (hC : Hid (ColsOf (.slice (some ⟨gc, 0, none⟩) 4 4) cols4 X)) (hT : Hid (Blk bt #[.string ⟨#[116]⟩, .slice (some ⟨gc, 0, none⟩) 4 4, .int .i64 0, N0, .int .i64 0, .string S0, .int .i64 0, .int .i64 0, .int .i64 0, .string S0, N0, N0] 34 X)) (hL : Hid (LstAt bl EL GL X)) : r10.wp Try.prog (Exit.then K Q) ac X := by
  obtain ⟨u, rfl⟩ : ∃ u : Nat → Value, ac = ⟨#[u 0, u 1, .int .i64 which, u 3, u 4, u 5, u 6, .pointer (some ⟨bx, 0, none⟩), .pointer (some ⟨by_, 0, none⟩), .pointer (some ⟨bt, 0, none⟩), .slice (some ⟨br, 0, none⟩) 4 4, .int .i64 n, .slice (some ⟨bl, 0, none⟩) 3 3, u 13, u 14, u 15, u 16, .bool le2, u 18, u 19, .bool ne2, u 21, u 22, u 23, u 24, u 25, u 26, u 27, u 28, u 29, u 30, u 31, u 32, u 33, u 34, u 35, u 36, u 37, u 38, u 39, u 40, u 41, u 42, u 43, u 44, u 45, u 46, u 47, u 48, u 49, u 50, u 51, u 52, u 53, u 54, u 55, u 56, u 57, u 58, u 59, u 60, u 61, u 62, u 63, u 64, u 65, u 66, u 67, u 68, u 69, u 70, u 71, u 72, u 73, u 74, u 75, u 76, u 77, u 78, u 79, u 80, u 81, u 82, u 83, u 84, u 85, u 86, u 87, u 88, u 89, u 90, u 91, u 92, u 93, u 94, u 95, u 96, u 97, u 98, u 99, u 100, u 101, u 102, u 103, u 104, u 105, u 106, u 107, u 108, u 109, u 110, u 111, u 112, u 113, u 114, u 115, u 116, u 117, u 118, u 119, u 120, u 121, u 122, u 123, u 124, u 125, u 126, u 127, u 128, u 129, u 130, u 131, u 132, u 133, u 134, u 135, u 136, u 137, u 138, u 139, u 140, u 141, u 142, u 143, u 144], []⟩ := ⟨fun i => ac.tmps.getD i undef, ha⟩
  clear ha
  unfold Try.f5 at hc
  cases hc
  have lb := (unhide hBr).lt
  have q0 := (unhide hBr).cell 0
  have f0 := (unhide hBr).froz 0
  have q1 := (unhide hBr).cell 1
  have f1 := (unhide hBr).froz 1
  have q2 := (unhide hBr).cell 2
  have f2 := (unhide hBr).froz 2
  have q3 := (unhide hBr).cell 3
  have f3 := (unhide hBr).froz 3
  have q4 := (unhide hBr).cell 4
  have f4 := (unhide hBr).froz 4
  have q5 := (unhide hBr).cell 5
  have f5 := (unhide hBr).froz 5
  have q6 := (unhide hBr).cell 6
  have f6 := (unhide hBr).froz 6
  have q7 := (unhide hBr).cell 7
  have f7 := (unhide hBr).froz 7
  simp [rowC] at q0 q1 q2 q3 q4 q5 q6 q7
  have hi := hide (int_row (unhide hBr))
  have nX := blk_ne (unhide hX) (unhide hBr) (by simp [rowC])
  have nY := blk_ne (unhide hY) (unhide hBr) (by simp [rowC])
  have nT := blk_ne (unhide hT) (unhide hBr) (by simp [rowC])
  rcases hj with rfl | rfl
  · have hf := hide (far_setL (b := br) (vC Z4) X 0)
    have G2 := hide (grown_far (vC Z4) 0 (unhide G) (unhide hnb))
    have X2 := hide (blk_far (unhide hf) nX (unhide hX))
    have Y2 := hide (blk_far (unhide hf) nY (unhide hY))
    have T2 := hide (blk_far (unhide hf) nT (unhide hT))
    have C2 := hide (cols_far (unhide hi) (unhide hf) (unhide hC))
    have L2 := hide (lst_far (unhide hi) (unhide hf) (unhide hL))
    have RE := own_setL (vC Z4) X 0 _ (unhide hBr)
    have hput : putL (rowC [(2, a, 0, S0), (2, b, 0, S0), Z4, Z4]).toArray 0 (vC Z4) = (rowC [Z4, (2, b, 0, S0), Z4, Z4]).toArray := by kernel_rfl
    rw [hput] at RE
    have R2 := hide (row_of (vs := [Z4, (2, b, 0, S0), Z4, Z4]) RE rfl (by simp))
    clear hput RE hf nX nY nT hi G hX hY hC hT hL hnb hBr
    simp only [setL, vC, Nat.reduceAdd, Nat.zero_add] at G2 X2 Y2 T2 C2 L2 R2
    go_wp2_with fail
    refine (unhide CW _).mono ?_
    rintro e W1 ⟨rfl, rfl⟩
    go_wp2_with fail
    exact unhide REST _ Z4 (2, b, 0, S0) _ (by kernel_rfl) (Or.inl ⟨rfl, rfl⟩) G2 X2 Y2 C2 R2 T2 L2
  · have hf := hide (far_setL (b := br) (vC Z4) X 4)
    have G2 := hide (grown_far (vC Z4) 4 (unhide G) (unhide hnb))
    have X2 := hide (blk_far (unhide hf) nX (unhide hX))
    have Y2 := hide (blk_far (unhide hf) nY (unhide hY))
    have T2 := hide (blk_far (unhide hf) nT (unhide hT))
    have C2 := hide (cols_far (unhide hi) (unhide hf) (unhide hC))
    have L2 := hide (lst_far (unhide hi) (unhide hf) (unhide hL))
    have RE := own_setL (vC Z4) X 4 _ (unhide hBr)
    have hput : putL (rowC [(2, a, 0, S0), (2, b, 0, S0), Z4, Z4]).toArray 4 (vC Z4) = (rowC [(2, a, 0, S0), Z4, Z4, Z4]).toArray := by kernel_rfl
    rw [hput] at RE
    have R2 := hide (row_of (vs := [(2, a, 0, S0), Z4, Z4, Z4]) RE rfl (by simp))
    clear hput RE hf nX nY nT hi G hX hY hC hT hL hnb hBr
    simp only [setL, vC, Nat.reduceAdd, Nat.zero_add] at G2 X2 Y2 T2 C2 L2 R2
    go_wp2_with fail
    refine (unhide CW _).mono ?_
    rintro e W1 ⟨rfl, rfl⟩
    go_wp2_with fail
    exact unhide REST _ (2, a, 0, S0) Z4 _ (by kernel_rfl) (Or.inr ⟨rfl, rfl⟩) G2 X2 Y2 C2 R2 T2 L2
end Go.Proofs.Ytliefgkhpgigaaa
