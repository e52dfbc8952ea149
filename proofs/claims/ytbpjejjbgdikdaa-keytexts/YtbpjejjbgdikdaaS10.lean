/-
  A value read off a text's front: what package key's value returns and leaves.
-/
import Derived.Test.YtbpjejjbgdikdaaS9
namespace Go.Proofs.Ytbpjejjbgdikdaa
open Go.RowKit
set_option linter.unusedSimpArgs false
set_option linter.unusedVariables false

abbrev RV := (Int × Int × Int × List UInt8) × List UInt8
/-- a value off a list's front, and what is left -/
def rval : List UInt8 → Option RV
  | [] => none
  | c :: l =>
    if c = 0 then some ((0, 0, 0, []), l)
    else if c = 1 then (match l with | [] => none | d :: l' => some ((1, (d.toNat : Int), 0, []), l'))
    else if c = 2 then (if 8 ≤ l.length then some ((2, wv l, 0, []), l.drop 8) else none)
    else if c = 3 then (rdec l).map (fun r => ((r.1, r.2.1, r.2.2, []), l.drop 12))
    else if c = 4 ∨ c = 5 then (rtxt [] l).map (fun r => (((c.toNat : Int), 0, 0, r.1), r.2))
    else none
def ValPost (w : World) (b : Nat) (l : List UInt8) (e : Ending) (W : World) : Prop :=
  ∃ l', Boxed W b 52 (.string (Str l')) ∧ w.grownBy W (some b) ∧ l'.length ≤ l.length ∧
    ((rval l = none ∧ ∃ k n s t, e = .returned (.tuple #[V k n s t, .bool false])) ∨ (∃ k n s d, rval l = some ((k, n, s, d), l') ∧ e = .returned (.tuple #[V k n s (Str d), .bool true])))
theorem ValPost.no {w : World} {b : Nat} {l l' : List UInt8} {x0 x1 x2 x3 : Value} {W : World} {e : Ending} {k n s : Int} {t : ByteArray} (h : RD w b l' x0 x1 x2 x3 W) (hl : l'.length ≤ l.length) (hr : rval l = none) (he : e = .returned (.tuple #[V k n s t, .bool false])) : ValPost w b l e W :=
  ⟨l', h.box, h.grown, hl, .inl ⟨hr, k, n, s, t, he⟩⟩
theorem ValPost.yes {w : World} {b : Nat} {l l' d : List UInt8} {x0 x1 x2 x3 : Value} {W : World} {e : Ending} {k n s : Int} (h : RD w b l' x0 x1 x2 x3 W) (hl : l'.length ≤ l.length) (hr : rval l = some ((k, n, s, d), l')) (he : e = .returned (.tuple #[V k n s (Str d), .bool true])) : ValPost w b l e W :=
  ⟨l', h.box, h.grown, hl, .inr ⟨k, n, s, d, hr, he⟩⟩
theorem four_grown {A b : Nat} {x0 x1 x2 x3 : Value} {W W' : World} (h : Four A x0 x1 x2 x3 W) (hg : W.grownBy W' (some b)) (hne : A ≠ b) : Four A x0 x1 x2 x3 W' := by
  obtain ⟨h0, h1, h2, h3, h4, h5, h6, h7, h8⟩ := h
  have hb : W'.heap[A]? = W.heap[A]? := hg.block A h0 (fun e => hne (by cases e; rfl))
  refine ⟨Nat.lt_of_lt_of_le h0 hg.size, ?_, ?_, ?_, ?_, ?_, ?_, ?_, ?_⟩
  · rw [World.cell?_of_block (a := ⟨A, 0, none⟩) hb]; exact h1
  · rw [World.cell?_of_block (a := ⟨A, 1, none⟩) hb]; exact h2
  · rw [World.cell?_of_block (a := ⟨A, 2, none⟩) hb]; exact h3
  · rw [World.cell?_of_block (a := ⟨A, 3, none⟩) hb]; exact h4
  · rw [World.frozen?_of_block (a := ⟨A, 0, none⟩) hb]; exact h5
  · rw [World.frozen?_of_block (a := ⟨A, 1, none⟩) hb]; exact h6
  · rw [World.frozen?_of_block (a := ⟨A, 2, none⟩) hb]; exact h7
  · rw [World.frozen?_of_block (a := ⟨A, 3, none⟩) hb]; exact h8
theorem RD.turn {w : World} {b : Nat} {l l' : List UInt8} {x0 x1 x2 x3 : Value} {W W' : World} (h : RD w b l x0 x1 x2 x3 W) (hB : Boxed W' b 52 (.string (Str l'))) (hg : W.grownBy W' (some b)) : RD w b l' x0 x1 x2 x3 W' :=
  ⟨hB, grownBy_trans h.grown hg (.inl rfl), four_grown h.res hg (by have := h.lt; omega), h.lt⟩
theorem RD.field {w : World} {b : Nat} {l : List UInt8} {x0 x1 x2 x3 : Value} {W : World} (h : RD w b l x0 x1 x2 x3 W) {A : Nat} (hA : w.heap.size + 1 ≤ A) (j : Nat) (u : Value) : RD w b l x0 x1 x2 x3 (W.setCell ⟨A, j, none⟩ u) :=
  h.below ((Below.refl _ _).setCell (p := ⟨A, j, none⟩) hA u)
theorem rval_cons (c : UInt8) (l : List UInt8) : rval (c :: l) = (if c = 0 then (some ((0, 0, 0, []), l) : Option RV)
    else if c = 1 then (match l with | [] => none | d :: l' => some ((1, (d.toNat : Int), 0, []), l'))
    else if c = 2 then (if 8 ≤ l.length then some ((2, wv l, 0, []), l.drop 8) else none)
    else if c = 3 then (rdec l).map (fun r => ((r.1, r.2.1, r.2.2, []), l.drop 12))
    else if c = 4 ∨ c = 5 then (rtxt [] l).map (fun r => (((c.toNat : Int), 0, 0, r.1), r.2))
    else none) := rfl
set_option maxRecDepth 100000 in
set_option maxHeartbeats 2000000 in
theorem rval_nil  (b : Nat) (w : World) (hB : Boxed w b 52 (.string (Str ([])))) :
    Calls Try.prog 28 #[.pointer (some ⟨b, 0, none⟩)] w (ValPost w b ([])) := by
  have D0 := RD.start hB Z Z Z (.string ⟨#[]⟩) 24
  have HN := hide (show rval [] = none from rfl)
  go_enter Try.func28, Try.ntmps28
  go_wp2_with (first
    | (go_at_call 44; refine (nm8_nil b _ D0.box).mono ?_; rintro e W1 ⟨rfl, hW1⟩; have D1 : RD w b [] Z Z Z (.string ⟨#[]⟩) W1 := (by rw [hW1]; exact D0); clear hW1 D0; obtain ⟨hlt1, c10, c11, c12, c13, f10, f11, f12, f13⟩ := id D1.res))
  obtain ⟨W9, hW9⟩ : ∃ W9, (((((W1.setCell ⟨w.heap.size, 0, none⟩ (.int .i64 0)).setCell ⟨w.heap.size, 1, none⟩ (.int .i64 0)).setCell ⟨w.heap.size, 2, none⟩ (.int .i64 0)).setCell ⟨w.heap.size, 3, none⟩ (.string ⟨#[]⟩)).alloc (.cells #[.int .i64 0, .int .i64 0, .int .i64 0, .string ⟨#[]⟩] 24)) = W9 := ⟨_, rfl⟩
  have D9 := (D1.store (.int .i64 0) (.int .i64 0) (.int .i64 0) (.string ⟨#[]⟩)).alloc (.cells #[.int .i64 0, .int .i64 0, .int .i64 0, .string ⟨#[]⟩] 24)
  rw [hW9] at D9 ⊢
  obtain ⟨_, g0, g1, g2, g3, _, _, _, _⟩ := id D9.res
  exact bodyPost_ret (v := .tuple #[V 0 0 0 ⟨#[]⟩, .bool false]) (by simp [results, Try.results28, go_sem, g0, g1, g2, g3]) rfl (ValPost.no D9 (Nat.le_refl _) (unhide HN) rfl)

set_option maxRecDepth 100000 in
set_option maxHeartbeats 2000000 in
theorem rval_0 (l : List UInt8) (hm : l.length ≤ 800000) (b : Nat) (w : World) (hB : Boxed w b 52 (.string (Str (0 :: l)))) :
    Calls Try.prog 28 #[.pointer (some ⟨b, 0, none⟩)] w (ValPost w b (0 :: l)) := by
  have D0 := RD.start hB Z Z Z (.string ⟨#[]⟩) 24
  have HN := hide (show rval (0 :: l) = some ((0, 0, 0, []), l) from rfl)
  go_enter Try.func28, Try.ntmps28
  go_wp2_with (first
    | (go_at_call 44; refine (nm8_cons 0 (l) (by first | omega | (simp <;> omega)) b _ D0.box).mono ?_; rintro e W1 ⟨rfl, hW1⟩; have D1 : RD w b (l) Z Z Z (.string ⟨#[]⟩) W1 := (by rw [hW1]; exact D0.read _); clear hW1 D0; obtain ⟨hlt1, c10, c11, c12, c13, f10, f11, f12, f13⟩ := id D1.res))
  obtain ⟨W9, hW9⟩ : ∃ W9, (((((W1.setCell ⟨w.heap.size, 0, none⟩ (.int .i64 0)).setCell ⟨w.heap.size, 1, none⟩ (.int .i64 0)).setCell ⟨w.heap.size, 2, none⟩ (.int .i64 0)).setCell ⟨w.heap.size, 3, none⟩ (.string ⟨#[]⟩)).alloc (.cells #[.int .i64 0, .int .i64 0, .int .i64 0, .string ⟨#[]⟩] 24)) = W9 := ⟨_, rfl⟩
  have D9 := (D1.store (.int .i64 0) (.int .i64 0) (.int .i64 0) (.string ⟨#[]⟩)).alloc (.cells #[.int .i64 0, .int .i64 0, .int .i64 0, .string ⟨#[]⟩] 24)
  rw [hW9] at D9 ⊢
  obtain ⟨_, g0, g1, g2, g3, _, _, _, _⟩ := id D9.res
  exact bodyPost_ret (v := .tuple #[V 0 0 0 ⟨#[]⟩, .bool true]) (by simp [results, Try.results28, go_sem, g0, g1, g2, g3]) rfl (ValPost.yes D9 (by simp) (unhide HN) rfl)

set_option maxRecDepth 100000 in
set_option maxHeartbeats 2000000 in
theorem rval_1n  (b : Nat) (w : World) (hB : Boxed w b 52 (.string (Str ([1])))) :
    Calls Try.prog 28 #[.pointer (some ⟨b, 0, none⟩)] w (ValPost w b ([1])) := by
  have D0 := RD.start hB Z Z Z (.string ⟨#[]⟩) 24
  have HN := hide (show rval [1] = none from rfl)
  go_enter Try.func28, Try.ntmps28
  go_wp2_with (first
    | (go_at_call 44; refine (nm8_cons 1 ([]) (by first | omega | (simp <;> omega)) b _ D0.box).mono ?_; rintro e W1 ⟨rfl, hW1⟩; have D1 : RD w b ([]) Z Z Z (.string ⟨#[]⟩) W1 := (by rw [hW1]; exact D0.read _); clear hW1 D0; obtain ⟨hlt1, c10, c11, c12, c13, f10, f11, f12, f13⟩ := id D1.res)
    | (go_at_call 44; refine (nm8_nil b _ (D1.alloc (.cells #[.int .i64 1, Z, Z, .string ⟨#[]⟩] 24)).box).mono ?_; rintro e W2 ⟨rfl, hW2⟩; have G2 : (W1.alloc (.cells #[.int .i64 1, Z, Z, .string ⟨#[]⟩] 24)).grownBy W2 (some b) := (by rw [hW2]; exact grownBy_refl _ _); have B2 : Boxed W2 b 52 (.string (Str ([]))) := (by rw [hW2]; exact (D1.alloc (.cells #[.int .i64 1, Z, Z, .string ⟨#[]⟩] 24)).box); have A2 := four_grown (four_alloc (.int .i64 1) Z Z (.string ⟨#[]⟩) 24 W1) G2 (by have := D1.lt; have := D1.grown.size; omega); have D2 : RD w b ([]) Z Z Z (.string ⟨#[]⟩) W2 := (D1.alloc (.cells #[.int .i64 1, Z, Z, .string ⟨#[]⟩] 24)).turn B2 G2; clear hW2; clear D1 G2 B2; obtain ⟨hlt2, c20, c21, c22, c23, f20, f21, f22, f23⟩ := id D2.res; obtain ⟨halt2, a20, a21, a22, a23, b20, b21, b22, b23⟩ := id A2))
  obtain ⟨W9, hW9⟩ : ∃ W9, (((((W2.setCell ⟨W1.heap.size, 1, none⟩ (.int .i64 0)).setCell ⟨w.heap.size, 0, none⟩ (.int .i64 1)).setCell ⟨w.heap.size, 1, none⟩ (.int .i64 0)).setCell ⟨w.heap.size, 2, none⟩ (.int .i64 0)).setCell ⟨w.heap.size, 3, none⟩ (.string ⟨#[]⟩)) = W9 := ⟨_, rfl⟩
  have D9 := (D2.field (A := W1.heap.size) (by omega) 1 (.int .i64 0)).store (.int .i64 1) (.int .i64 0) (.int .i64 0) (.string ⟨#[]⟩)
  rw [hW9] at D9 ⊢
  obtain ⟨_, g0, g1, g2, g3, _, _, _, _⟩ := id D9.res
  exact bodyPost_ret (v := .tuple #[V 1 ( 0) 0 ⟨#[]⟩, .bool false]) (by simp [results, Try.results28, go_sem, g0, g1, g2, g3]) rfl (ValPost.no D9 (by simp) (unhide HN) rfl)

set_option maxRecDepth 100000 in
set_option maxHeartbeats 2000000 in
theorem rval_1 (d : UInt8) (l : List UInt8) (hm : l.length ≤ 800000) (b : Nat) (w : World) (hB : Boxed w b 52 (.string (Str (1 :: d :: l)))) :
    Calls Try.prog 28 #[.pointer (some ⟨b, 0, none⟩)] w (ValPost w b (1 :: d :: l)) := by
  have D0 := RD.start hB Z Z Z (.string ⟨#[]⟩) 24
  have HN := hide (show rval (1 :: d :: l) = some ((1, (d.toNat : Int), 0, []), l) from rfl)
  have hwd : wrap64 (d.toNat : Int) = (d.toNat : Int) := wrap64_is _ (by have := d.toNat_lt; unfold Is64; omega)
  go_enter Try.func28, Try.ntmps28
  go_wp2_with (first
    | (go_at_call 44; refine (nm8_cons 1 (d :: l) (by first | omega | (simp <;> omega)) b _ D0.box).mono ?_; rintro e W1 ⟨rfl, hW1⟩; have D1 : RD w b (d :: l) Z Z Z (.string ⟨#[]⟩) W1 := (by rw [hW1]; exact D0.read _); clear hW1 D0; obtain ⟨hlt1, c10, c11, c12, c13, f10, f11, f12, f13⟩ := id D1.res)
    | (go_at_call 44; refine (nm8_cons d l (by omega) b _ (D1.alloc (.cells #[.int .i64 1, Z, Z, .string ⟨#[]⟩] 24)).box).mono ?_; rintro e W2 ⟨rfl, hW2⟩; have G2 : (W1.alloc (.cells #[.int .i64 1, Z, Z, .string ⟨#[]⟩] 24)).grownBy W2 (some b) := (by rw [hW2]; exact grownBy_setCell' _ b _); have B2 : Boxed W2 b 52 (.string (Str (l))) := (by rw [hW2]; exact (D1.alloc (.cells #[.int .i64 1, Z, Z, .string ⟨#[]⟩] 24)).box.set _); have A2 := four_grown (four_alloc (.int .i64 1) Z Z (.string ⟨#[]⟩) 24 W1) G2 (by have := D1.lt; have := D1.grown.size; omega); have D2 : RD w b (l) Z Z Z (.string ⟨#[]⟩) W2 := (D1.alloc (.cells #[.int .i64 1, Z, Z, .string ⟨#[]⟩] 24)).turn B2 G2; clear hW2; clear D1 G2 B2; obtain ⟨hlt2, c20, c21, c22, c23, f20, f21, f22, f23⟩ := id D2.res; obtain ⟨halt2, a20, a21, a22, a23, b20, b21, b22, b23⟩ := id A2))
  obtain ⟨W9, hW9⟩ : ∃ W9, (((((W2.setCell ⟨W1.heap.size, 1, none⟩ (.int .i64 (d.toNat : Int))).setCell ⟨w.heap.size, 0, none⟩ (.int .i64 1)).setCell ⟨w.heap.size, 1, none⟩ (.int .i64 (d.toNat : Int))).setCell ⟨w.heap.size, 2, none⟩ (.int .i64 0)).setCell ⟨w.heap.size, 3, none⟩ (.string ⟨#[]⟩)) = W9 := ⟨_, rfl⟩
  have D9 := (D2.field (A := W1.heap.size) (by omega) 1 (.int .i64 (d.toNat : Int))).store (.int .i64 1) (.int .i64 (d.toNat : Int)) (.int .i64 0) (.string ⟨#[]⟩)
  rw [hW9] at D9 ⊢
  obtain ⟨_, g0, g1, g2, g3, _, _, _, _⟩ := id D9.res
  exact bodyPost_ret (v := .tuple #[V 1 ( (d.toNat : Int)) 0 ⟨#[]⟩, .bool true]) (by simp [results, Try.results28, go_sem, g0, g1, g2, g3]) rfl (ValPost.yes D9 (by simp; omega) (unhide HN) rfl)

set_option maxRecDepth 100000 in
set_option maxHeartbeats 2000000 in
theorem rval_2n (l : List UInt8) (hl : l.length < 8) (b : Nat) (w : World) (hB : Boxed w b 52 (.string (Str (2 :: l)))) :
    Calls Try.prog 28 #[.pointer (some ⟨b, 0, none⟩)] w (ValPost w b (2 :: l)) := by
  have D0 := RD.start hB Z Z Z (.string ⟨#[]⟩) 24
  have HN : Hid (rval (2 :: l) = none) := by show _ = _; rw [rval_cons, if_neg (by decide), if_neg (by decide), if_pos rfl, if_neg (by omega)]
  have hX : IntKind.i64.wrap (bits BinOp.xor IntKind.u64 0 9223372036854775808) = -9223372036854775808 := xor_back (x := 0) (by decide) (by decide)
  go_enter Try.func28, Try.ntmps28
  go_wp2_with (first
    | (go_at_call 44; refine (nm8_cons 2 (l) (by first | omega | (simp <;> omega)) b _ D0.box).mono ?_; rintro e W1 ⟨rfl, hW1⟩; have D1 : RD w b (l) Z Z Z (.string ⟨#[]⟩) W1 := (by rw [hW1]; exact D0.read _); clear hW1 D0; obtain ⟨hlt1, c10, c11, c12, c13, f10, f11, f12, f13⟩ := id D1.res)
    | (go_at_call 45; refine (nm64_no l hl b _ (D1.alloc (.cells #[.int .i64 2, Z, Z, .string ⟨#[]⟩] 24)).box.cell).mono ?_; rintro e W2 ⟨rfl, hW2⟩; have G2 : (W1.alloc (.cells #[.int .i64 2, Z, Z, .string ⟨#[]⟩] 24)).grownBy W2 (some b) := (by rw [hW2]; exact grownBy_refl _ _); have B2 : Boxed W2 b 52 (.string (Str (l))) := (by rw [hW2]; exact (D1.alloc (.cells #[.int .i64 2, Z, Z, .string ⟨#[]⟩] 24)).box); have A2 := four_grown (four_alloc (.int .i64 2) Z Z (.string ⟨#[]⟩) 24 W1) G2 (by have := D1.lt; have := D1.grown.size; omega); have D2 : RD w b (l) Z Z Z (.string ⟨#[]⟩) W2 := (D1.alloc (.cells #[.int .i64 2, Z, Z, .string ⟨#[]⟩] 24)).turn B2 G2; clear hW2; clear D1 G2 B2; obtain ⟨hlt2, c20, c21, c22, c23, f20, f21, f22, f23⟩ := id D2.res; obtain ⟨halt2, a20, a21, a22, a23, b20, b21, b22, b23⟩ := id A2))
  obtain ⟨W9, hW9⟩ : ∃ W9, (((((W2.setCell ⟨W1.heap.size, 1, none⟩ (.int .i64 (-9223372036854775808))).setCell ⟨w.heap.size, 0, none⟩ (.int .i64 2)).setCell ⟨w.heap.size, 1, none⟩ (.int .i64 (-9223372036854775808))).setCell ⟨w.heap.size, 2, none⟩ (.int .i64 0)).setCell ⟨w.heap.size, 3, none⟩ (.string ⟨#[]⟩)) = W9 := ⟨_, rfl⟩
  have D9 := (D2.field (A := W1.heap.size) (by omega) 1 (.int .i64 (-9223372036854775808))).store (.int .i64 2) (.int .i64 (-9223372036854775808)) (.int .i64 0) (.string ⟨#[]⟩)
  rw [hW9] at D9 ⊢
  obtain ⟨_, g0, g1, g2, g3, _, _, _, _⟩ := id D9.res
  exact bodyPost_ret (v := .tuple #[V 2 ( (-9223372036854775808)) 0 ⟨#[]⟩, .bool false]) (by simp [results, Try.results28, go_sem, g0, g1, g2, g3]) rfl (ValPost.no D9 (by simp) (unhide HN) rfl)

set_option maxRecDepth 100000 in
set_option maxHeartbeats 2000000 in
theorem rval_2 (l : List UInt8) (hm : l.length ≤ 800000) (hl : 8 ≤ l.length) (b : Nat) (w : World) (hB : Boxed w b 52 (.string (Str (2 :: l)))) :
    Calls Try.prog 28 #[.pointer (some ⟨b, 0, none⟩)] w (ValPost w b (2 :: l)) := by
  have D0 := RD.start hB Z Z Z (.string ⟨#[]⟩) 24
  have HN : Hid (rval (2 :: l) = some ((2, wv l, 0, []), l.drop 8)) := by show _ = _; rw [rval_cons, if_neg (by decide), if_neg (by decide), if_pos rfl, if_pos hl]
  have hwb := wv_bd hl
  have hX := xor_back hwb.1 hwb.2
  have hwr : numB (l.take 8) - 9223372036854775808 = wv l := rfl
  rw [hwr] at hX
  clear hwb hwr
  go_enter Try.func28, Try.ntmps28
  go_wp2_with (first
    | (go_at_call 44; refine (nm8_cons 2 (l) (by first | omega | (simp <;> omega)) b _ D0.box).mono ?_; rintro e W1 ⟨rfl, hW1⟩; have D1 : RD w b (l) Z Z Z (.string ⟨#[]⟩) W1 := (by rw [hW1]; exact D0.read _); clear hW1 D0; obtain ⟨hlt1, c10, c11, c12, c13, f10, f11, f12, f13⟩ := id D1.res)
    | (go_at_call 45; refine (nm64_yes l hl (by omega) b _ (D1.alloc (.cells #[.int .i64 2, Z, Z, .string ⟨#[]⟩] 24)).box.cell (D1.alloc (.cells #[.int .i64 2, Z, Z, .string ⟨#[]⟩] 24)).box.frozen).mono ?_; rintro e W2 ⟨rfl, hW2⟩; have G2 : (W1.alloc (.cells #[.int .i64 2, Z, Z, .string ⟨#[]⟩] 24)).grownBy W2 (some b) := (by rw [hW2]; exact grownBy_setCell' _ b _); have B2 : Boxed W2 b 52 (.string (Str (l.drop 8))) := (by rw [hW2]; exact (D1.alloc (.cells #[.int .i64 2, Z, Z, .string ⟨#[]⟩] 24)).box.set _); have A2 := four_grown (four_alloc (.int .i64 2) Z Z (.string ⟨#[]⟩) 24 W1) G2 (by have := D1.lt; have := D1.grown.size; omega); have D2 : RD w b (l.drop 8) Z Z Z (.string ⟨#[]⟩) W2 := (D1.alloc (.cells #[.int .i64 2, Z, Z, .string ⟨#[]⟩] 24)).turn B2 G2; clear hW2; clear D1 G2 B2; obtain ⟨hlt2, c20, c21, c22, c23, f20, f21, f22, f23⟩ := id D2.res; obtain ⟨halt2, a20, a21, a22, a23, b20, b21, b22, b23⟩ := id A2))
  obtain ⟨W9, hW9⟩ : ∃ W9, (((((W2.setCell ⟨W1.heap.size, 1, none⟩ (.int .i64 (wv l))).setCell ⟨w.heap.size, 0, none⟩ (.int .i64 2)).setCell ⟨w.heap.size, 1, none⟩ (.int .i64 (wv l))).setCell ⟨w.heap.size, 2, none⟩ (.int .i64 0)).setCell ⟨w.heap.size, 3, none⟩ (.string ⟨#[]⟩)) = W9 := ⟨_, rfl⟩
  have D9 := (D2.field (A := W1.heap.size) (by omega) 1 (.int .i64 (wv l))).store (.int .i64 2) (.int .i64 (wv l)) (.int .i64 0) (.string ⟨#[]⟩)
  rw [hW9] at D9 ⊢
  obtain ⟨_, g0, g1, g2, g3, _, _, _, _⟩ := id D9.res
  exact bodyPost_ret (v := .tuple #[V 2 ( (wv l)) 0 ⟨#[]⟩, .bool true]) (by simp [results, Try.results28, go_sem, g0, g1, g2, g3]) rfl (ValPost.yes D9 (by simp; omega) (unhide HN) rfl)

theorem rdec_none (l : List UInt8) (hm : l.length ≤ 900000) (h : rdec l = none) (b : Nat) (w : World) (hB : Boxed w b 52 (.string (Str l))) :
    Calls Try.prog 46 #[.pointer (some ⟨b, 0, none⟩)] w fun e W => ∃ l' k n s t, Boxed W b 52 (.string (Str l')) ∧ w.grownBy W (some b) ∧ l'.length ≤ l.length ∧ e = .returned (.tuple #[V k n s t, .bool false]) := by
  refine (rdec_any l hm b w hB).mono ?_
  rintro e W ⟨l', h1, h2, h3, (⟨_, k, n, s, t, he⟩ | ⟨k, n, s, hs, _⟩)⟩
  · exact ⟨l', k, n, s, t, h1, h2, h3, he⟩
  · rw [h] at hs; cases hs
theorem rdec_some (l : List UInt8) (hm : l.length ≤ 900000) {k n s : Int} (h : rdec l = some (k, n, s)) (b : Nat) (w : World) (hB : Boxed w b 52 (.string (Str l))) :
    Calls Try.prog 46 #[.pointer (some ⟨b, 0, none⟩)] w fun e W => Boxed W b 52 (.string (Str (l.drop 12))) ∧ w.grownBy W (some b) ∧ e = .returned (.tuple #[V k n s ⟨#[]⟩, .bool true]) := by
  refine (rdec_any l hm b w hB).mono ?_
  rintro e W ⟨l', h1, h2, h3, (⟨hn, _⟩ | ⟨k', n', s', hs, rfl, he⟩)⟩
  · rw [h] at hn; cases hn
  · rw [h] at hs; cases hs; exact ⟨h1, h2, he⟩
theorem rtext_none (l : List UInt8) (hm : l.length ≤ 900000) (h : rtxt [] l = none) (b : Nat) (w : World) (hB : Boxed w b 52 (.string (Str l))) :
    Calls Try.prog 47 #[.pointer (some ⟨b, 0, none⟩)] w fun e W => ∃ l', Boxed W b 52 (.string (Str l')) ∧ w.grownBy W (some b) ∧ l'.length ≤ l.length ∧ e = .returned (.tuple #[.string ⟨#[]⟩, .bool false]) := by
  refine (rtext_any l hm b w hB).mono ?_
  rintro e W ⟨l', h1, h2, h3, (⟨_, he⟩ | ⟨d, hs, _⟩)⟩
  · exact ⟨l', h1, h2, h3, he⟩
  · rw [h] at hs; cases hs
theorem rtext_some (l : List UInt8) (hm : l.length ≤ 900000) {d r : List UInt8} (h : rtxt [] l = some (d, r)) (b : Nat) (w : World) (hB : Boxed w b 52 (.string (Str l))) :
    Calls Try.prog 47 #[.pointer (some ⟨b, 0, none⟩)] w fun e W => Boxed W b 52 (.string (Str r)) ∧ w.grownBy W (some b) ∧ r.length ≤ l.length ∧ e = .returned (.tuple #[.string (Str d), .bool true]) := by
  refine (rtext_any l hm b w hB).mono ?_
  rintro e W ⟨l', h1, h2, h3, (⟨hn, _⟩ | ⟨d', hs, he⟩)⟩
  · rw [h] at hn; cases hn
  · rw [h] at hs; cases hs; exact ⟨h1, h2, h3, he⟩

set_option maxRecDepth 100000 in
set_option maxHeartbeats 2000000 in
theorem rval_3n (l : List UInt8) (hm : l.length ≤ 800000) (hr : rdec l = none) (b : Nat) (w : World) (hB : Boxed w b 52 (.string (Str (3 :: l)))) :
    Calls Try.prog 28 #[.pointer (some ⟨b, 0, none⟩)] w (ValPost w b (3 :: l)) := by
  have D0 := RD.start hB Z Z Z (.string ⟨#[]⟩) 24
  have HN : Hid (rval (3 :: l) = none) := by show _ = _; rw [rval_cons, if_neg (by decide), if_neg (by decide), if_neg (by decide), if_pos rfl, hr]; rfl
  go_enter Try.func28, Try.ntmps28
  go_wp2_with (first
    | (go_at_call 44; refine (nm8_cons 3 (l) (by first | omega | (simp <;> omega)) b _ D0.box).mono ?_; rintro e W1 ⟨rfl, hW1⟩; have D1 : RD w b (l) Z Z Z (.string ⟨#[]⟩) W1 := (by rw [hW1]; exact D0.read _); clear hW1 D0; obtain ⟨hlt1, c10, c11, c12, c13, f10, f11, f12, f13⟩ := id D1.res)
    | (go_at_call 46; refine (rdec_none l (by omega) hr b _ (D1.alloc (.cells #[.int .i64 3, Z, Z, .string ⟨#[]⟩] 24)).box).mono ?_; rintro e W2 ⟨l', dk, dn, ds, dt, hB2, hG2, hle, rfl⟩; have G2 : (W1.alloc (.cells #[.int .i64 3, Z, Z, .string ⟨#[]⟩] 24)).grownBy W2 (some b) := hG2; have B2 : Boxed W2 b 52 (.string (Str (l'))) := hB2; have A2 := four_grown (four_alloc (.int .i64 3) Z Z (.string ⟨#[]⟩) 24 W1) G2 (by have := D1.lt; have := D1.grown.size; omega); have D2 : RD w b (l') Z Z Z (.string ⟨#[]⟩) W2 := (D1.alloc (.cells #[.int .i64 3, Z, Z, .string ⟨#[]⟩] 24)).turn B2 G2; clear hB2 hG2; clear D1 G2 B2; obtain ⟨hlt2, c20, c21, c22, c23, f20, f21, f22, f23⟩ := id D2.res; obtain ⟨halt2, a20, a21, a22, a23, b20, b21, b22, b23⟩ := id A2))
  obtain ⟨W9, hW9⟩ : ∃ W9, ((((W2.setCell ⟨w.heap.size, 0, none⟩ (.int .i64 dk)).setCell ⟨w.heap.size, 1, none⟩ (.int .i64 dn)).setCell ⟨w.heap.size, 2, none⟩ (.int .i64 ds)).setCell ⟨w.heap.size, 3, none⟩ (.string dt)) = W9 := ⟨_, rfl⟩
  have D9 := D2.store (.int .i64 dk) (.int .i64 dn) (.int .i64 ds) (.string dt)
  rw [hW9] at D9 ⊢
  obtain ⟨_, g0, g1, g2, g3, _, _, _, _⟩ := id D9.res
  exact bodyPost_ret (v := .tuple #[V dk dn ds dt, .bool false]) (by simp [results, Try.results28, go_sem, g0, g1, g2, g3]) rfl (ValPost.no D9 (by simp; omega) (unhide HN) rfl)

set_option maxRecDepth 100000 in
set_option maxHeartbeats 2000000 in
theorem rval_3 (l : List UInt8) (hm : l.length ≤ 800000) {dk dn ds : Int} (hr : rdec l = some (dk, dn, ds)) (b : Nat) (w : World) (hB : Boxed w b 52 (.string (Str (3 :: l)))) :
    Calls Try.prog 28 #[.pointer (some ⟨b, 0, none⟩)] w (ValPost w b (3 :: l)) := by
  have D0 := RD.start hB Z Z Z (.string ⟨#[]⟩) 24
  have HN : Hid (rval (3 :: l) = some ((dk, dn, ds, []), l.drop 12)) := by show _ = _; rw [rval_cons, if_neg (by decide), if_neg (by decide), if_neg (by decide), if_pos rfl, hr]; rfl
  go_enter Try.func28, Try.ntmps28
  go_wp2_with (first
    | (go_at_call 44; refine (nm8_cons 3 (l) (by first | omega | (simp <;> omega)) b _ D0.box).mono ?_; rintro e W1 ⟨rfl, hW1⟩; have D1 : RD w b (l) Z Z Z (.string ⟨#[]⟩) W1 := (by rw [hW1]; exact D0.read _); clear hW1 D0; obtain ⟨hlt1, c10, c11, c12, c13, f10, f11, f12, f13⟩ := id D1.res)
    | (go_at_call 46; refine (rdec_some l (by omega) hr b _ (D1.alloc (.cells #[.int .i64 3, Z, Z, .string ⟨#[]⟩] 24)).box).mono ?_; rintro e W2 ⟨hB2, hG2, rfl⟩; have G2 : (W1.alloc (.cells #[.int .i64 3, Z, Z, .string ⟨#[]⟩] 24)).grownBy W2 (some b) := hG2; have B2 : Boxed W2 b 52 (.string (Str (l.drop 12))) := hB2; have A2 := four_grown (four_alloc (.int .i64 3) Z Z (.string ⟨#[]⟩) 24 W1) G2 (by have := D1.lt; have := D1.grown.size; omega); have D2 : RD w b (l.drop 12) Z Z Z (.string ⟨#[]⟩) W2 := (D1.alloc (.cells #[.int .i64 3, Z, Z, .string ⟨#[]⟩] 24)).turn B2 G2; clear hB2 hG2; clear D1 G2 B2; obtain ⟨hlt2, c20, c21, c22, c23, f20, f21, f22, f23⟩ := id D2.res; obtain ⟨halt2, a20, a21, a22, a23, b20, b21, b22, b23⟩ := id A2))
  obtain ⟨W9, hW9⟩ : ∃ W9, ((((W2.setCell ⟨w.heap.size, 0, none⟩ (.int .i64 dk)).setCell ⟨w.heap.size, 1, none⟩ (.int .i64 dn)).setCell ⟨w.heap.size, 2, none⟩ (.int .i64 ds)).setCell ⟨w.heap.size, 3, none⟩ (.string ⟨#[]⟩)) = W9 := ⟨_, rfl⟩
  have D9 := D2.store (.int .i64 dk) (.int .i64 dn) (.int .i64 ds) (.string ⟨#[]⟩)
  rw [hW9] at D9 ⊢
  obtain ⟨_, g0, g1, g2, g3, _, _, _, _⟩ := id D9.res
  exact bodyPost_ret (v := .tuple #[V dk dn ds ⟨#[]⟩, .bool true]) (by simp [results, Try.results28, go_sem, g0, g1, g2, g3]) rfl (ValPost.yes D9 (by simp; omega) (unhide HN) rfl)

set_option maxRecDepth 100000 in
set_option maxHeartbeats 2000000 in
theorem rval_4n (l : List UInt8) (hm : l.length ≤ 800000) (hr : rtxt [] l = none) (b : Nat) (w : World) (hB : Boxed w b 52 (.string (Str (4 :: l)))) :
    Calls Try.prog 28 #[.pointer (some ⟨b, 0, none⟩)] w (ValPost w b (4 :: l)) := by
  have D0 := RD.start hB Z Z Z (.string ⟨#[]⟩) 24
  have HN : Hid (rval (4 :: l) = none) := by show _ = _; rw [rval_cons, if_neg (by decide), if_neg (by decide), if_neg (by decide), if_neg (by decide), if_pos (by decide), hr]; rfl
  go_enter Try.func28, Try.ntmps28
  go_wp2_with (first
    | (go_at_call 44; refine (nm8_cons 4 (l) (by first | omega | (simp <;> omega)) b _ D0.box).mono ?_; rintro e W1 ⟨rfl, hW1⟩; have D1 : RD w b (l) Z Z Z (.string ⟨#[]⟩) W1 := (by rw [hW1]; exact D0.read _); clear hW1 D0; obtain ⟨hlt1, c10, c11, c12, c13, f10, f11, f12, f13⟩ := id D1.res)
    | (go_at_call 47; refine (rtext_none l (by omega) hr b _ (D1.alloc (.cells #[.int .i64 4, Z, Z, .string ⟨#[]⟩] 24)).box).mono ?_; rintro e W2 ⟨l', hB2, hG2, hle, rfl⟩; have G2 : (W1.alloc (.cells #[.int .i64 4, Z, Z, .string ⟨#[]⟩] 24)).grownBy W2 (some b) := hG2; have B2 : Boxed W2 b 52 (.string (Str (l'))) := hB2; have A2 := four_grown (four_alloc (.int .i64 4) Z Z (.string ⟨#[]⟩) 24 W1) G2 (by have := D1.lt; have := D1.grown.size; omega); have D2 : RD w b (l') Z Z Z (.string ⟨#[]⟩) W2 := (D1.alloc (.cells #[.int .i64 4, Z, Z, .string ⟨#[]⟩] 24)).turn B2 G2; clear hB2 hG2; clear D1 G2 B2; obtain ⟨hlt2, c20, c21, c22, c23, f20, f21, f22, f23⟩ := id D2.res; obtain ⟨halt2, a20, a21, a22, a23, b20, b21, b22, b23⟩ := id A2))
  obtain ⟨W9, hW9⟩ : ∃ W9, (((((W2.setCell ⟨W1.heap.size, 3, none⟩ (.string ⟨#[]⟩)).setCell ⟨w.heap.size, 0, none⟩ (.int .i64 4)).setCell ⟨w.heap.size, 1, none⟩ (.int .i64 0)).setCell ⟨w.heap.size, 2, none⟩ (.int .i64 0)).setCell ⟨w.heap.size, 3, none⟩ (.string ⟨#[]⟩)) = W9 := ⟨_, rfl⟩
  have D9 := (D2.field (A := W1.heap.size) (by omega) 3 (.string ⟨#[]⟩)).store (.int .i64 4) (.int .i64 0) (.int .i64 0) (.string ⟨#[]⟩)
  rw [hW9] at D9 ⊢
  obtain ⟨_, g0, g1, g2, g3, _, _, _, _⟩ := id D9.res
  exact bodyPost_ret (v := .tuple #[V 4 ( 0) 0 ⟨#[]⟩, .bool false]) (by simp [results, Try.results28, go_sem, g0, g1, g2, g3]) rfl (ValPost.no D9 (by simp; omega) (unhide HN) rfl)

set_option maxRecDepth 100000 in
set_option maxHeartbeats 2000000 in
theorem rval_4 (l : List UInt8) (hm : l.length ≤ 800000) {d r : List UInt8} (hr : rtxt [] l = some (d, r)) (b : Nat) (w : World) (hB : Boxed w b 52 (.string (Str (4 :: l)))) :
    Calls Try.prog 28 #[.pointer (some ⟨b, 0, none⟩)] w (ValPost w b (4 :: l)) := by
  have D0 := RD.start hB Z Z Z (.string ⟨#[]⟩) 24
  have HN : Hid (rval (4 :: l) = some ((4, 0, 0, d), r)) := by show _ = _; rw [rval_cons, if_neg (by decide), if_neg (by decide), if_neg (by decide), if_neg (by decide), if_pos (by decide), hr]; rfl
  go_enter Try.func28, Try.ntmps28
  go_wp2_with (first
    | (go_at_call 44; refine (nm8_cons 4 (l) (by first | omega | (simp <;> omega)) b _ D0.box).mono ?_; rintro e W1 ⟨rfl, hW1⟩; have D1 : RD w b (l) Z Z Z (.string ⟨#[]⟩) W1 := (by rw [hW1]; exact D0.read _); clear hW1 D0; obtain ⟨hlt1, c10, c11, c12, c13, f10, f11, f12, f13⟩ := id D1.res)
    | (go_at_call 47; refine (rtext_some l (by omega) hr b _ (D1.alloc (.cells #[.int .i64 4, Z, Z, .string ⟨#[]⟩] 24)).box).mono ?_; rintro e W2 ⟨hB2, hG2, hle, rfl⟩; have G2 : (W1.alloc (.cells #[.int .i64 4, Z, Z, .string ⟨#[]⟩] 24)).grownBy W2 (some b) := hG2; have B2 : Boxed W2 b 52 (.string (Str (r))) := hB2; have A2 := four_grown (four_alloc (.int .i64 4) Z Z (.string ⟨#[]⟩) 24 W1) G2 (by have := D1.lt; have := D1.grown.size; omega); have D2 : RD w b (r) Z Z Z (.string ⟨#[]⟩) W2 := (D1.alloc (.cells #[.int .i64 4, Z, Z, .string ⟨#[]⟩] 24)).turn B2 G2; clear hB2 hG2; clear D1 G2 B2; obtain ⟨hlt2, c20, c21, c22, c23, f20, f21, f22, f23⟩ := id D2.res; obtain ⟨halt2, a20, a21, a22, a23, b20, b21, b22, b23⟩ := id A2))
  obtain ⟨W9, hW9⟩ : ∃ W9, (((((W2.setCell ⟨W1.heap.size, 3, none⟩ (.string (Str d))).setCell ⟨w.heap.size, 0, none⟩ (.int .i64 4)).setCell ⟨w.heap.size, 1, none⟩ (.int .i64 0)).setCell ⟨w.heap.size, 2, none⟩ (.int .i64 0)).setCell ⟨w.heap.size, 3, none⟩ (.string (Str d))) = W9 := ⟨_, rfl⟩
  have D9 := (D2.field (A := W1.heap.size) (by omega) 3 (.string (Str d))).store (.int .i64 4) (.int .i64 0) (.int .i64 0) (.string (Str d))
  rw [hW9] at D9 ⊢
  obtain ⟨_, g0, g1, g2, g3, _, _, _, _⟩ := id D9.res
  exact bodyPost_ret (v := .tuple #[V 4 ( 0) 0 (Str d), .bool true]) (by simp [results, Try.results28, go_sem, g0, g1, g2, g3]) rfl (ValPost.yes D9 (by simp; omega) (unhide HN) rfl)

set_option maxRecDepth 100000 in
set_option maxHeartbeats 2000000 in
theorem rval_5n (l : List UInt8) (hm : l.length ≤ 800000) (hr : rtxt [] l = none) (b : Nat) (w : World) (hB : Boxed w b 52 (.string (Str (5 :: l)))) :
    Calls Try.prog 28 #[.pointer (some ⟨b, 0, none⟩)] w (ValPost w b (5 :: l)) := by
  have D0 := RD.start hB Z Z Z (.string ⟨#[]⟩) 24
  have HN : Hid (rval (5 :: l) = none) := by show _ = _; rw [rval_cons, if_neg (by decide), if_neg (by decide), if_neg (by decide), if_neg (by decide), if_pos (by decide), hr]; rfl
  go_enter Try.func28, Try.ntmps28
  go_wp2_with (first
    | (go_at_call 44; refine (nm8_cons 5 (l) (by first | omega | (simp <;> omega)) b _ D0.box).mono ?_; rintro e W1 ⟨rfl, hW1⟩; have D1 : RD w b (l) Z Z Z (.string ⟨#[]⟩) W1 := (by rw [hW1]; exact D0.read _); clear hW1 D0; obtain ⟨hlt1, c10, c11, c12, c13, f10, f11, f12, f13⟩ := id D1.res)
    | (go_at_call 47; refine (rtext_none l (by omega) hr b _ (D1.alloc (.cells #[.int .i64 5, Z, Z, .string ⟨#[]⟩] 24)).box).mono ?_; rintro e W2 ⟨l', hB2, hG2, hle, rfl⟩; have G2 : (W1.alloc (.cells #[.int .i64 5, Z, Z, .string ⟨#[]⟩] 24)).grownBy W2 (some b) := hG2; have B2 : Boxed W2 b 52 (.string (Str (l'))) := hB2; have A2 := four_grown (four_alloc (.int .i64 5) Z Z (.string ⟨#[]⟩) 24 W1) G2 (by have := D1.lt; have := D1.grown.size; omega); have D2 : RD w b (l') Z Z Z (.string ⟨#[]⟩) W2 := (D1.alloc (.cells #[.int .i64 5, Z, Z, .string ⟨#[]⟩] 24)).turn B2 G2; clear hB2 hG2; clear D1 G2 B2; obtain ⟨hlt2, c20, c21, c22, c23, f20, f21, f22, f23⟩ := id D2.res; obtain ⟨halt2, a20, a21, a22, a23, b20, b21, b22, b23⟩ := id A2))
  obtain ⟨W9, hW9⟩ : ∃ W9, (((((W2.setCell ⟨W1.heap.size, 3, none⟩ (.string ⟨#[]⟩)).setCell ⟨w.heap.size, 0, none⟩ (.int .i64 5)).setCell ⟨w.heap.size, 1, none⟩ (.int .i64 0)).setCell ⟨w.heap.size, 2, none⟩ (.int .i64 0)).setCell ⟨w.heap.size, 3, none⟩ (.string ⟨#[]⟩)) = W9 := ⟨_, rfl⟩
  have D9 := (D2.field (A := W1.heap.size) (by omega) 3 (.string ⟨#[]⟩)).store (.int .i64 5) (.int .i64 0) (.int .i64 0) (.string ⟨#[]⟩)
  rw [hW9] at D9 ⊢
  obtain ⟨_, g0, g1, g2, g3, _, _, _, _⟩ := id D9.res
  exact bodyPost_ret (v := .tuple #[V 5 ( 0) 0 ⟨#[]⟩, .bool false]) (by simp [results, Try.results28, go_sem, g0, g1, g2, g3]) rfl (ValPost.no D9 (by simp; omega) (unhide HN) rfl)

set_option maxRecDepth 100000 in
set_option maxHeartbeats 2000000 in
theorem rval_5 (l : List UInt8) (hm : l.length ≤ 800000) {d r : List UInt8} (hr : rtxt [] l = some (d, r)) (b : Nat) (w : World) (hB : Boxed w b 52 (.string (Str (5 :: l)))) :
    Calls Try.prog 28 #[.pointer (some ⟨b, 0, none⟩)] w (ValPost w b (5 :: l)) := by
  have D0 := RD.start hB Z Z Z (.string ⟨#[]⟩) 24
  have HN : Hid (rval (5 :: l) = some ((5, 0, 0, d), r)) := by show _ = _; rw [rval_cons, if_neg (by decide), if_neg (by decide), if_neg (by decide), if_neg (by decide), if_pos (by decide), hr]; rfl
  go_enter Try.func28, Try.ntmps28
  go_wp2_with (first
    | (go_at_call 44; refine (nm8_cons 5 (l) (by first | omega | (simp <;> omega)) b _ D0.box).mono ?_; rintro e W1 ⟨rfl, hW1⟩; have D1 : RD w b (l) Z Z Z (.string ⟨#[]⟩) W1 := (by rw [hW1]; exact D0.read _); clear hW1 D0; obtain ⟨hlt1, c10, c11, c12, c13, f10, f11, f12, f13⟩ := id D1.res)
    | (go_at_call 47; refine (rtext_some l (by omega) hr b _ (D1.alloc (.cells #[.int .i64 5, Z, Z, .string ⟨#[]⟩] 24)).box).mono ?_; rintro e W2 ⟨hB2, hG2, hle, rfl⟩; have G2 : (W1.alloc (.cells #[.int .i64 5, Z, Z, .string ⟨#[]⟩] 24)).grownBy W2 (some b) := hG2; have B2 : Boxed W2 b 52 (.string (Str (r))) := hB2; have A2 := four_grown (four_alloc (.int .i64 5) Z Z (.string ⟨#[]⟩) 24 W1) G2 (by have := D1.lt; have := D1.grown.size; omega); have D2 : RD w b (r) Z Z Z (.string ⟨#[]⟩) W2 := (D1.alloc (.cells #[.int .i64 5, Z, Z, .string ⟨#[]⟩] 24)).turn B2 G2; clear hB2 hG2; clear D1 G2 B2; obtain ⟨hlt2, c20, c21, c22, c23, f20, f21, f22, f23⟩ := id D2.res; obtain ⟨halt2, a20, a21, a22, a23, b20, b21, b22, b23⟩ := id A2))
  obtain ⟨W9, hW9⟩ : ∃ W9, (((((W2.setCell ⟨W1.heap.size, 3, none⟩ (.string (Str d))).setCell ⟨w.heap.size, 0, none⟩ (.int .i64 5)).setCell ⟨w.heap.size, 1, none⟩ (.int .i64 0)).setCell ⟨w.heap.size, 2, none⟩ (.int .i64 0)).setCell ⟨w.heap.size, 3, none⟩ (.string (Str d))) = W9 := ⟨_, rfl⟩
  have D9 := (D2.field (A := W1.heap.size) (by omega) 3 (.string (Str d))).store (.int .i64 5) (.int .i64 0) (.int .i64 0) (.string (Str d))
  rw [hW9] at D9 ⊢
  obtain ⟨_, g0, g1, g2, g3, _, _, _, _⟩ := id D9.res
  exact bodyPost_ret (v := .tuple #[V 5 ( 0) 0 (Str d), .bool true]) (by simp [results, Try.results28, go_sem, g0, g1, g2, g3]) rfl (ValPost.yes D9 (by simp; omega) (unhide HN) rfl)

set_option maxRecDepth 100000 in
set_option maxHeartbeats 2000000 in
theorem rval_x (c : UInt8) (l : List UInt8) (hm : l.length ≤ 800000) (g0 : c ≠ 0) (g1 : c ≠ 1) (g2 : c ≠ 2) (g3 : c ≠ 3) (g4 : c ≠ 4) (g5 : c ≠ 5) (b : Nat) (w : World) (hB : Boxed w b 52 (.string (Str (c :: l)))) :
    Calls Try.prog 28 #[.pointer (some ⟨b, 0, none⟩)] w (ValPost w b (c :: l)) := by
  have D0 := RD.start hB Z Z Z (.string ⟨#[]⟩) 24
  have HN : Hid (rval (c :: l) = none) := by show _ = _; rw [rval_cons, if_neg g0, if_neg g1, if_neg g2, if_neg g3, if_neg (fun h => h.elim g4 g5)]
  have hwd : wrap64 (c.toNat : Int) = (c.toNat : Int) := wrap64_is _ (by have := c.toNat_lt; unfold Is64; omega)
  have e0 : ((c.toNat : Int) == 0) = false := eqz_false (d := 0) g0
  have e1 : ((c.toNat : Int) == 1) = false := eqz_false (d := 1) g1
  have e2 : ((c.toNat : Int) == 2) = false := eqz_false (d := 2) g2
  have e3 : ((c.toNat : Int) == 3) = false := eqz_false (d := 3) g3
  have e4 : ((c.toNat : Int) == 4) = false := eqz_false (d := 4) g4
  have e5 : ((c.toNat : Int) == 5) = false := eqz_false (d := 5) g5
  clear g0 g1 g2 g3 g4 g5
  go_enter Try.func28, Try.ntmps28
  go_wp2_with (first
    | (go_at_call 44; refine (nm8_cons c (l) (by first | omega | (simp <;> omega)) b _ D0.box).mono ?_; rintro e W1 ⟨rfl, hW1⟩; have D1 : RD w b (l) Z Z Z (.string ⟨#[]⟩) W1 := (by rw [hW1]; exact D0.read _); clear hW1 D0; obtain ⟨hlt1, c10, c11, c12, c13, f10, f11, f12, f13⟩ := id D1.res))
  obtain ⟨W9, hW9⟩ : ∃ W9, (((((W1.setCell ⟨w.heap.size, 0, none⟩ (.int .i64 (c.toNat : Int))).setCell ⟨w.heap.size, 1, none⟩ (.int .i64 0)).setCell ⟨w.heap.size, 2, none⟩ (.int .i64 0)).setCell ⟨w.heap.size, 3, none⟩ (.string ⟨#[]⟩)).alloc (.cells #[.int .i64 (c.toNat : Int), .int .i64 0, .int .i64 0, .string ⟨#[]⟩] 24)) = W9 := ⟨_, rfl⟩
  have D9 := (D1.store (.int .i64 (c.toNat : Int)) (.int .i64 0) (.int .i64 0) (.string ⟨#[]⟩)).alloc (.cells #[.int .i64 (c.toNat : Int), .int .i64 0, .int .i64 0, .string ⟨#[]⟩] 24)
  rw [hW9] at D9 ⊢
  obtain ⟨_, g0, g1, g2, g3, _, _, _, _⟩ := id D9.res
  exact bodyPost_ret (v := .tuple #[V (c.toNat : Int) 0 0 ⟨#[]⟩, .bool false]) (by simp [results, Try.results28, go_sem, g0, g1, g2, g3]) rfl (ValPost.no D9 (by simp) (unhide HN) rfl)


theorem rvalue_any (l : List UInt8) (hm : l.length ≤ 800000) (b : Nat) (w : World) (hB : Boxed w b 52 (.string (Str l))) :
    Calls Try.prog 28 #[.pointer (some ⟨b, 0, none⟩)] w (ValPost w b l) := by
  cases l with
  | nil => exact rval_nil b w hB
  | cons c l =>
    have hm' : l.length ≤ 800000 := by simp at hm; omega
    by_cases g0 : c = 0
    · subst g0; exact rval_0 l hm' b w hB
    by_cases g1 : c = 1
    · subst g1
      cases l with
      | nil => exact rval_1n b w hB
      | cons d l => exact rval_1 d l (by simp at hm; omega) b w hB
    by_cases g2 : c = 2
    · subst g2
      by_cases h8 : l.length < 8
      · exact rval_2n l h8 b w hB
      · exact rval_2 l hm' (by omega) b w hB
    by_cases g3 : c = 3
    · subst g3
      cases hr : rdec l with
      | none => exact rval_3n l hm' hr b w hB
      | some r => exact rval_3 l hm' hr b w hB
    by_cases g4 : c = 4
    · subst g4
      cases hr : rtxt [] l with
      | none => exact rval_4n l hm' hr b w hB
      | some r => exact rval_4 l hm' hr b w hB
    by_cases g5 : c = 5
    · subst g5
      cases hr : rtxt [] l with
      | none => exact rval_5n l hm' hr b w hB
      | some r => exact rval_5 l hm' hr b w hB
    exact rval_x c l hm' g0 g1 g2 g3 g4 g5 b w hB
end Go.Proofs.Ytbpjejjbgdikdaa
