/-
  What the reference of chapter 4 tells: Eval of a column, of two columns held against one another.
-/
import Derived.Test.YtliefgkhpgigaaaVRf
import Derived.Test.YtliefgkhpgigaaaVRw
namespace Go.Proofs.Ytliefgkhpgigaaa
open Go.RowKit Go.Shelf
set_option linter.unusedSimpArgs false
set_option linter.unusedVariables false

set_option maxHeartbeats 4000000 in
set_option maxRecDepth 100000 in
theorem rEval_col (t0 t2 t3 t4 t5 t6 t7 t8 t9 t10 t11 : Value) (g cap : Nat) (cs : List C3) (p : Option Addr) (vs : List V4) (rcap : Nat) (nm : ByteArray) (v : V4) (w : World) (hr : valFrom nm cs vs = some v) (hC : ColsOf (.slice (some ⟨g, 0, none⟩) cs.length cap) cs w) (hrow : RowOf p vs w) :
    Calls Try.prog 20 #[.agg #[t0, .slice (some ⟨g, 0, none⟩) cs.length cap, t2, t3, t4, t5, t6, t7, t8, t9, t10, t11], .slice p vs.length rcap, .agg (exC (colX nm) N0).toArray] w (FinV (v, 0) w) := by
  obtain ⟨k, hk, hix, hvk⟩ := ix_val nm cs vs v 0 hr
  obtain ⟨h1000, hrv⟩ := hrow
  obtain ⟨gr, rfl, hgr, b0, b1, b2, b3⟩ := hrv k hk
  rw [hvk] at b0 b1 b2 b3
  rw [show ((0 + k : Nat) : Int) = (k : Int) by simp] at hix
  have hki : (k : Int) < vs.length := by omega
  have CC := hide (fun (W : World) (h : ColsOf (.slice (some ⟨g, 0, none⟩) cs.length cap) cs W) => (hix ▸ rcolumn_any t0 t2 t3 t4 t5 t6 t7 t8 t9 t10 t11 (.slice (some ⟨g, 0, none⟩) cs.length cap) cs nm W h : Calls Try.prog 39 #[.agg #[t0, .slice (some ⟨g, 0, none⟩) cs.length cap, t2, t3, t4, t5, t6, t7, t8, t9, t10, t11], .string nm] W fun e W' => e = .returned (.int .i64 (k : Int)) ∧ Below W.heap.size W W'))
  obtain ⟨v1, v2, v3, v4⟩ := v
  have HC := hide hC
  clear hr hix hvk hrv hC
  go_enter Try.func20, Try.ntmps20
  go_wp2_with fail
  have hT := ((Blk.new w #[t0, .slice (some ⟨g, 0, none⟩) cs.length cap, t2, t3, t4, t5, t6, t7, t8, t9, t10, t11] 34).call (below_new _ (.cells #[.int .i64 2, .string nm, .int .i64 0, .int .i64 0, .int .i64 0, .string ⟨#[]⟩, .slice none 0 0] 31))).call (below_new _ (.cells #[.int .i64 0, .int .i64 0, .int .i64 0, .string ⟨#[]⟩] 28))
  have hX := (Blk.new (w.alloc (.cells #[t0, .slice (some ⟨g, 0, none⟩) cs.length cap, t2, t3, t4, t5, t6, t7, t8, t9, t10, t11] 34)) #[.int .i64 2, .string nm, .int .i64 0, .int .i64 0, .int .i64 0, .string ⟨#[]⟩, .slice none 0 0] 31).call (below_new _ (.cells #[.int .i64 0, .int .i64 0, .int .i64 0, .string ⟨#[]⟩] 28))
  have hZ := Blk.new ((w.alloc (.cells #[t0, .slice (some ⟨g, 0, none⟩) cs.length cap, t2, t3, t4, t5, t6, t7, t8, t9, t10, t11] 34)).alloc (.cells #[.int .i64 2, .string nm, .int .i64 0, .int .i64 0, .int .i64 0, .string ⟨#[]⟩, .slice none 0 0] 31)) #[.int .i64 0, .int .i64 0, .int .i64 0, .string ⟨#[]⟩] 28
  rw [World.size_alloc] at hX
  rw [World.size_alloc, World.size_alloc] at hZ
  have hG := below_3 w (.cells #[t0, .slice (some ⟨g, 0, none⟩) cs.length cap, t2, t3, t4, t5, t6, t7, t8, t9, t10, t11] 34) (.cells #[.int .i64 2, .string nm, .int .i64 0, .int .i64 0, .int .i64 0, .string ⟨#[]⟩, .slice none 0 0] 31) (.cells #[.int .i64 0, .int .i64 0, .int .i64 0, .string ⟨#[]⟩] 28)
  refine (unhide CC _ ((unhide HC).call hG)).mono ?_
  rintro e W1 ⟨rfl, hb⟩
  replace hZ := hZ.call hb
  replace hG := hG.trans (hb.mono hG.size)
  have c0 := (hG.cell (p := ⟨gr, k * 4, none⟩) hgr).trans b0
  have c1 := (hG.cell (p := ⟨gr, k * 4 + 1, none⟩) hgr).trans b1
  have c2 := (hG.cell (p := ⟨gr, k * 4 + 2, none⟩) hgr).trans b2
  have c3 := (hG.cell (p := ⟨gr, k * 4 + 3, none⟩) hgr).trans b3
  have lz := hZ.lt
  have z0 := hZ.cell 0
  have z1 := hZ.cell 1
  have z2 := hZ.cell 2
  have z3 := hZ.cell 3
  have f0 := hZ.froz 0
  have f1 := hZ.froz 1
  have f2 := hZ.froz 2
  have f3 := hZ.froz 3
  simp at z0 z1 z2 z3
  clear hT hX hb CC HC b0 b1 b2 b3
  go_wp2_with fail
  refine bodyPost_ret (v := .tuple #[.agg (vC (v1, v2, v3, v4)).toArray, .int .i64 0]) (by simp [results, Try.results20, go_sem, z0, z1, z2, z3, lz]) rfl ⟨rfl, ?_⟩
  exact (((hG.setCell (p := ⟨w.heap.size + 1 + 1, 0, none⟩) (by simp; omega) _).setCell (p := ⟨w.heap.size + 1 + 1, 1, none⟩) (by simp; omega) _).setCell (p := ⟨w.heap.size + 1 + 1, 2, none⟩) (by simp; omega) _).setCell (p := ⟨w.heap.size + 1 + 1, 3, none⟩) (by simp; omega) _
def SRe (tb : Array Value) (bt bx g1 c1 : Nat) (nm : ByteArray) (X : World) : Prop := Blk bt tb 34 X ∧ Blk bx #[.int .i64 9, .string ⟨#[]⟩, .int .i64 0, .int .i64 0, .int .i64 0, .string ⟨#[]⟩, .slice (some ⟨g1, 0, none⟩) 2 c1] 31 X ∧ CellsAt g1 0 (exC (colX nm) N0) X ∧ CellsAt g1 7 (exC (colX nm) N0) X
theorem SRe.call {tb : Array Value} {bt bx g1 c1 : Nat} {nm : ByteArray} {W W' : World} (h : SRe tb bt bx g1 c1 nm W) (hb : Below W.heap.size W W') : SRe tb bt bx g1 c1 nm W' := ⟨h.1.call hb, h.2.1.call hb, h.2.2.1.call hb, h.2.2.2.call hb⟩
theorem SRe.at {tb : Array Value} {bt bx g1 c1 : Nat} {nm : ByteArray} {W : World} (h : SRe tb bt bx g1 c1 nm W) (k : Nat) (hk : k < 2) : CellsAt g1 (k * 7) (exC (colX nm) N0) W := by
  match k, hk with
  | 0, _ => exact h.2.2.1
  | 1, _ => exact h.2.2.2
def OwR (B : Nat) (lv : Value) (l : List V4) (X : World) : Prop := X.ownsRow B 28 4 lv l.length (rowC l)
theorem OwR.call {B : Nat} {lv : Value} {l : List V4} {W W' : World} (h : OwR B lv l W) (hb : Below W.heap.size W W') : OwR B lv l W' := owns_call4 h hb
def SRq (bx g1 c1 gl : Nat) (v : V4) (X : World) : Prop := Blk bx #[.int .i64 9, .string ⟨#[]⟩, .int .i64 0, .int .i64 0, .int .i64 0, .string ⟨#[]⟩, .slice (some ⟨g1, 0, none⟩) 2 c1] 31 X ∧ RowOf (some ⟨gl, 0, none⟩) [v, v] X
theorem SRq.call {bx g1 c1 gl : Nat} {v : V4} {W W' : World} (h : SRq bx g1 c1 gl v W) (hb : Below W.heap.size W W') : SRq bx g1 c1 gl v W' := ⟨h.1.call hb, h.2.call hb⟩
theorem cell_heapR {W W' : World} {g i : Nat} (h : W'.heap[g]? = W.heap[g]?) : W'.cell? ⟨g, i, none⟩ = W.cell? ⟨g, i, none⟩ := by simp [World.cell?, h]
theorem row_set {gl b : Nat} {vs : List V4} {W : World} (h : RowOf (some ⟨gl, 0, none⟩) vs W) (hne : gl ≠ b) (j : Nat) (y : Value) : RowOf (some ⟨gl, 0, none⟩) vs (W.setCell ⟨b, j, none⟩ y) := by
  refine ⟨h.1, fun i hi => ?_⟩
  obtain ⟨g, h1, h2, h3⟩ := h.2 i hi
  cases h1
  have hh : (W.setCell ⟨b, j, none⟩ y).heap[gl]? = W.heap[gl]? := Below.heap_setCell _ _ _ _ (by simp; omega)
  exact ⟨gl, rfl, by simpa using h2, (cell_heapR hh).trans h3.1, (cell_heapR hh).trans h3.2.1, (cell_heapR hh).trans h3.2.2.1, (cell_heapR hh).trans h3.2.2.2⟩
theorem SRq.set {bx g1 c1 gl b : Nat} {v : V4} {W : World} (h : SRq bx g1 c1 gl v W) (h1 : bx ≠ b) (h2 : gl ≠ b) (j : Nat) (y : Value) : SRq bx g1 c1 gl v (W.setCell ⟨b, j, none⟩ y) := ⟨h.1.set h1 j y, row_set h.2 h2 j y⟩
theorem blk_neR {b c : Nat} {cs ds : Array Value} {T T' : TypeId} {W : World} (h : Blk c cs T W) (h' : Blk b ds T' W) (hs : cs.size ≠ ds.size) : c ≠ b := by
  rintro rfl
  have := Option.some.inj (h.symm.trans h')
  injection this with h1 _ _
  exact hs (by rw [h1])
def AtW (w : World) (b : Nat) : Prop := w.heap.size ≤ b
theorem cells_7 {g o : Nat} {W : World} {x0 x1 x2 x3 x4 x5 x6 : Value} (h : CellsAt g o [x0, x1, x2, x3, x4, x5, x6] W) : g < W.heap.size ∧ W.cell? ⟨g, o, none⟩ = some x0 ∧ W.cell? ⟨g, o + 1, none⟩ = some x1 ∧ W.cell? ⟨g, o + 2, none⟩ = some x2 ∧ W.cell? ⟨g, o + 3, none⟩ = some x3 ∧ W.cell? ⟨g, o + 4, none⟩ = some x4 ∧ W.cell? ⟨g, o + 5, none⟩ = some x5 ∧ W.cell? ⟨g, o + 6, none⟩ = some x6 :=
  ⟨h.1, h.2 0 (by simp), h.2 1 (by simp), h.2 2 (by simp), h.2 3 (by simp), h.2 4 (by simp), h.2 5 (by simp), h.2 6 (by simp)⟩
set_option maxHeartbeats 16000000 in
set_option maxRecDepth 100000 in
theorem rEval_eq (t0 t2 t3 t4 t5 t6 t7 t8 t9 t10 t11 : Value) (g cap : Nat) (cs : List C3) (p : Option Addr) (vs : List V4) (rcap : Nat) (nm : ByteArray) (v : V4) (lv0 : Value) (w : World) (hr : valFrom nm cs vs = some v) (hd : DecIn v.1 v.2.1 v.2.2.1) (hC : ColsOf (.slice (some ⟨g, 0, none⟩) cs.length cap) cs w) (hrow : RowOf p vs w) (hRp : Rep (twoX 9 (colX nm) (colX nm)) lv0 w) :
    Calls Try.prog 20 #[.agg #[t0, .slice (some ⟨g, 0, none⟩) cs.length cap, t2, t3, t4, t5, t6, t7, t8, t9, t10, t11], .slice p vs.length rcap, .agg (exC (twoX 9 (colX nm) (colX nm)) lv0).toArray] w (FinV (rcmpV 9 v v, 0) w) := by
  obtain ⟨i0, hi, hz0, hz1, hz2⟩ := infoParts info_v4
  obtain ⟨g1, c1, la, lb, rfl, hA, hB, rfl, rfl⟩ := hRp
  have CE := hide (fun (W : World) h1 h2 => rEval_col t0 t2 t3 t4 t5 t6 t7 t8 t9 t10 t11 g cap cs p vs rcap nm v W hr h1 h2)
  have CQ := hide (fun W => rcompares_any 9 v v W hd hd)
  generalize rcmpV 9 v v = res at *
  obtain ⟨v1, v2, v3, v4⟩ := v
  show Calls Try.prog 20 #[.agg #[t0, .slice (some ⟨g, 0, none⟩) cs.length cap, t2, t3, t4, t5, t6, t7, t8, t9, t10, t11], .slice p vs.length rcap, .agg #[.int .i64 9, .string ⟨#[]⟩, .int .i64 0, .int .i64 0, .int .i64 0, .string ⟨#[]⟩, .slice (some ⟨g1, 0, none⟩) 2 c1]] w (FinV (res, 0) w)
  clear hr hd
  go_enter Try.func20, Try.ntmps20
  go_wp2
  have hT := ((Blk.new w #[t0, .slice (some ⟨g, 0, none⟩) cs.length cap, t2, t3, t4, t5, t6, t7, t8, t9, t10, t11] 34).call (below_new _ (.cells #[.int .i64 9, .string ⟨#[]⟩, .int .i64 0, .int .i64 0, .int .i64 0, .string ⟨#[]⟩, .slice (some ⟨g1, 0, none⟩) 2 c1] 31))).call (below_new _ (.cells #[.int .i64 0, .int .i64 0, .int .i64 0, .string ⟨#[]⟩] 28))
  have hX := (Blk.new (w.alloc (.cells #[t0, .slice (some ⟨g, 0, none⟩) cs.length cap, t2, t3, t4, t5, t6, t7, t8, t9, t10, t11] 34)) #[.int .i64 9, .string ⟨#[]⟩, .int .i64 0, .int .i64 0, .int .i64 0, .string ⟨#[]⟩, .slice (some ⟨g1, 0, none⟩) 2 c1] 31).call (below_new _ (.cells #[.int .i64 0, .int .i64 0, .int .i64 0, .string ⟨#[]⟩] 28))
  have hZ := Blk.new ((w.alloc (.cells #[t0, .slice (some ⟨g, 0, none⟩) cs.length cap, t2, t3, t4, t5, t6, t7, t8, t9, t10, t11] 34)).alloc (.cells #[.int .i64 9, .string ⟨#[]⟩, .int .i64 0, .int .i64 0, .int .i64 0, .string ⟨#[]⟩, .slice (some ⟨g1, 0, none⟩) 2 c1] 31)) #[.int .i64 0, .int .i64 0, .int .i64 0, .string ⟨#[]⟩] 28
  rw [World.size_alloc] at hX
  rw [World.size_alloc, World.size_alloc] at hZ
  have hG := below_3 w (.cells #[t0, .slice (some ⟨g, 0, none⟩) cs.length cap, t2, t3, t4, t5, t6, t7, t8, t9, t10, t11] 34) (.cells #[.int .i64 9, .string ⟨#[]⟩, .int .i64 0, .int .i64 0, .int .i64 0, .string ⟨#[]⟩, .slice (some ⟨g1, 0, none⟩) 2 c1] 31) (.cells #[.int .i64 0, .int .i64 0, .int .i64 0, .string ⟨#[]⟩] 28)
  have lb0 : w.heap.size ≤ w.heap.size + 1 + 1 := by omega
  have hS : Hid (SRe (#[t0, .slice (some ⟨g, 0, none⟩) cs.length cap, t2, t3, t4, t5, t6, t7, t8, t9, t10, t11]) w.heap.size (w.heap.size + 1) g1 c1 nm (((w.alloc (.cells #[t0, .slice (some ⟨g, 0, none⟩) cs.length cap, t2, t3, t4, t5, t6, t7, t8, t9, t10, t11] 34)).alloc (.cells #[.int .i64 9, .string ⟨#[]⟩, .int .i64 0, .int .i64 0, .int .i64 0, .string ⟨#[]⟩, .slice (some ⟨g1, 0, none⟩) 2 c1] 31)).alloc (.cells #[.int .i64 0, .int .i64 0, .int .i64 0, .string ⟨#[]⟩] 28))) := ⟨hT, hX, hA.call hG, hB.call hG⟩
  replace hC := hide (hC.call hG)
  have hR := hide (hrow.call hG)
  clear hrow hT hX hA hB
  generalize (((w.alloc (.cells #[t0, .slice (some ⟨g, 0, none⟩) cs.length cap, t2, t3, t4, t5, t6, t7, t8, t9, t10, t11] 34)).alloc (.cells #[.int .i64 9, .string ⟨#[]⟩, .int .i64 0, .int .i64 0, .int .i64 0, .string ⟨#[]⟩, .slice (some ⟨g1, 0, none⟩) 2 c1] 31)).alloc (.cells #[.int .i64 0, .int .i64 0, .int .i64 0, .string ⟨#[]⟩] 28)) = W0 at *
  generalize w.heap.size + 1 + 1 = bz at *
  generalize w.heap.size + 1 = bx at *
  have HG : Hid (Grown w W0) := hG
  have HZ := hide hZ
  have LZ : Hid (AtW w bz) := lb0
  clear hG hZ lb0
  generalize w.heap.size = bt at *
  have HC0 := hC
  have HR0 := hR
  have HS0 := hS
  clear hC hR hS
  go_loopw [8, 9] (fun u8 i wr => ∃ k : Nat, k ≤ 2 ∧ i = .int .i64 (k : Int) ∧ Hid (OwR W0.heap.size u8 (List.replicate k (v1, v2, v3, v4)) wr) ∧ Hid (Grown W0 wr)) (fun u8 i wr => 2 - (intOf i).toNat)
  case atStart => exact ⟨0, by decide, rfl, hide (World.ownsRow_nil _ _ _ _), hide (Below.refl _ _)⟩
  case round =>
    obtain ⟨k, hk, rfl, hO, hW⟩ := hrel
    have hC := hide ((unhide HC0).call (unhide hW))
    have hR := hide ((unhide HR0).call (unhide hW))
    have hS := hide ((unhide HS0).call (unhide hW))
    have lx := (unhide hS).2.1.lt
    have x0 := (unhide hS).2.1.cell 0
    have x6 := (unhide hS).2.1.cell 6
    simp at x0 x6
    by_cases hlt : k < 2
    · have hki : (k : Int) < 2 := by omega
      have hw9 : IntKind.i64.wrap ((k : Int) + 1) = (k : Int) + 1 := IntWalk.i64_in _ (by omega)
      go_wp2_with fail
      rename_i K11 hk11
      have REST11 : ∀ (ac : Act) (bv : Nat) (X : World), ac = ⟨#[.agg #[t0, .slice (some ⟨g, 0, none⟩) cs.length cap, t2, t3, t4, t5, t6, t7, t8, t9, t10, t11], .slice p vs.length rcap, .agg #[.int .i64 9, .string ⟨#[]⟩, .int .i64 0, .int .i64 0, .int .i64 0, .string ⟨#[]⟩, .slice (some ⟨g1, 0, none⟩) 2 c1], .pointer (some ⟨bt, 0, none⟩), undef, .pointer (some ⟨bx, 0, none⟩), .pointer (some ⟨bz, 0, none⟩), ac.tmps.getD 7 undef, u8, .int .i64 (k : Int), .pointer (some ⟨bv, 0, none⟩), .int .i64 0, .pointer (some ⟨bx, 0, none⟩), .int .i64 9, .bool false, .bool false, undef, undef, .bool false, .bool false, undef, undef, undef, undef, undef, undef, undef, ac.tmps.getD 27 undef, ac.tmps.getD 28 undef, ac.tmps.getD 29 undef, ac.tmps.getD 30 undef, ac.tmps.getD 31 undef, ac.tmps.getD 32 undef, ac.tmps.getD 33 undef, ac.tmps.getD 34 undef, ac.tmps.getD 35 undef, ac.tmps.getD 36 undef, ac.tmps.getD 37 undef, ac.tmps.getD 38 undef, ac.tmps.getD 39 undef, ac.tmps.getD 40 undef, ac.tmps.getD 41 undef, ac.tmps.getD 42 undef, ac.tmps.getD 43 undef, ac.tmps.getD 44 undef, ac.tmps.getD 45 undef, ac.tmps.getD 46 undef, ac.tmps.getD 47 undef, ac.tmps.getD 48 undef, ac.tmps.getD 49 undef, ac.tmps.getD 50 undef, ac.tmps.getD 51 undef, ac.tmps.getD 52 undef, undef, undef, undef, undef, undef, undef, undef, undef, undef, undef, undef, undef, undef, undef, undef, undef, undef, undef, undef, undef, undef, undef, undef, undef, undef, undef, undef, undef, undef, undef, undef, undef, undef, undef, undef, undef, undef, undef, undef, undef, undef, undef, undef, undef, undef, undef, undef, undef, undef, undef, undef, undef, undef], []⟩ → Hid (ColsOf (.slice (some ⟨g, 0, none⟩) cs.length cap) cs X) → Hid (RowOf p vs X) → Hid (SRe (#[t0, .slice (some ⟨g, 0, none⟩) cs.length cap, t2, t3, t4, t5, t6, t7, t8, t9, t10, t11]) bt bx g1 c1 nm X) → Hid (OwR W0.heap.size u8 (List.replicate k (v1, v2, v3, v4)) X) → Hid (Grown W0 X) → Hid (Blk bv #[(.int .i64 v1), (.int .i64 v2), (.int .i64 v3), (.string v4)] 28 X) → K11 ac X := by
        clear x0 x6 lx hC hR hS hO hW
        intro ac bv X ha hC hR hS hO hW hV
        obtain ⟨u, rfl⟩ : ∃ u : Nat → Value, ac = ⟨#[.agg #[t0, .slice (some ⟨g, 0, none⟩) cs.length cap, t2, t3, t4, t5, t6, t7, t8, t9, t10, t11], .slice p vs.length rcap, .agg #[.int .i64 9, .string ⟨#[]⟩, .int .i64 0, .int .i64 0, .int .i64 0, .string ⟨#[]⟩, .slice (some ⟨g1, 0, none⟩) 2 c1], .pointer (some ⟨bt, 0, none⟩), undef, .pointer (some ⟨bx, 0, none⟩), .pointer (some ⟨bz, 0, none⟩), u 7, u8, .int .i64 (k : Int), .pointer (some ⟨bv, 0, none⟩), .int .i64 0, .pointer (some ⟨bx, 0, none⟩), .int .i64 9, .bool false, .bool false, undef, undef, .bool false, .bool false, undef, undef, undef, undef, undef, undef, undef, u 27, u 28, u 29, u 30, u 31, u 32, u 33, u 34, u 35, u 36, u 37, u 38, u 39, u 40, u 41, u 42, u 43, u 44, u 45, u 46, u 47, u 48, u 49, u 50, u 51, u 52, undef, undef, undef, undef, undef, undef, undef, undef, undef, undef, undef, undef, undef, undef, undef, undef, undef, undef, undef, undef, undef, undef, undef, undef, undef, undef, undef, undef, undef, undef, undef, undef, undef, undef, undef, undef, undef, undef, undef, undef, undef, undef, undef, undef, undef, undef, undef, undef, undef, undef, undef, undef, undef], []⟩ := ⟨fun i => ac.tmps.getD i undef, ha⟩
        clear ha
        refine hk11 _ _ ?_
        clear hk11
        have lv9 := (unhide hV).lt
        have v0 := (unhide hV).cell 0
        have v1_ := (unhide hV).cell 1
        have v2_ := (unhide hV).cell 2
        have v3_ := (unhide hV).cell 3
        simp at v0 v1_ v2_ v3_
        have hrow := unhide hO
        have hB : Below W0.heap.size W0 X := unhide hW
        have lB := hB.size
        go_wp2_with (at_builtin; refine wpList_append_lies _ rfl _ _ 42 rfl W0.heap.size 28 i0 _ 4 40 Try.underlying42 hi hz0 hz1 hz2 rfl (by decide) u8 _ _ rfl (hrow.alloc _) ⟨X.heap.size, 0, none⟩ 1 1 [(.int .i64 v1), (.int .i64 v2), (.int .i64 v3), (.string v4)] rfl rfl (cells_four_at X _ rfl _ _ _ _ _) (by simp [Value.oneCell']) (by decide) (by unfold maxLen; simp; omega) (by simp; omega) (by simp; omega) _ rfl ?_; intro g2 cp2 w4 hown4 hgrow4 hat4 _)
        refine ⟨⟨k + 1, by omega, by simp, hide ?_, hide (below_rowG hB hrow hgrow4)⟩, by simp [intOf]; omega⟩
        show World.ownsRow _ _ _ _ _ _ _
        rw [List.replicate_succ', rowC_snoc]; simpa using hown4
      have REST11 := hide REST11
      clear hk11 HG HZ LZ HC0 HR0 HS0 CQ x0 x6 lx
      refine wp_region_noPanic ?_
      refine wp_region_held_drew (S := (SRe (#[t0, .slice (some ⟨g, 0, none⟩) cs.length cap, t2, t3, t4, t5, t6, t7, t8, t9, t10, t11]) bt bx g1 c1 nm)) (by kernel_rfl) ((unhide hS).call (Below.refl _ _).drew) (fun hHeld => ?_)
      have hbd : Below wr.heap.size wr wr.drew := (Below.refl _ _).drew
      replace hC := hide ((unhide hC).call hbd)
      replace hR := hide ((unhide hR).call hbd)
      replace hS := hide ((unhide hS).call hbd)
      replace hO := hide ((unhide hO).call hbd)
      replace hW := hide ((unhide hW).call hbd)
      clear hbd
      generalize wr.drew = Wd at *
      refine wpAnyH_take (i := 0) (oi := ?oi20001) (v := ?v20001) ?hi20001 (by kernel_rfl) (by kernel_rfl) (by kernel_rfl) (fun _ _ _ h => h) (Or.inl ⟨?hw20001, ?hy20001⟩) (by assumption) ?rest20001
      case hi20001 => (simp only [List.getElem?_toArray, List.getElem?_cons_zero]; rfl)
      case hw20001 => rfl
      case hy20001 => first | (intro wx hSw; have hT := hSw.1; have t0_ := Blk.cell hT 0; have t1_ := Blk.cell hT 1; have t2_ := Blk.cell hT 2; have t3_ := Blk.cell hT 3; have t4_ := Blk.cell hT 4; have t5_ := Blk.cell hT 5; have t6_ := Blk.cell hT 6; have t7_ := Blk.cell hT 7; have t8_ := Blk.cell hT 8; have t9_ := Blk.cell hT 9; have t10_ := Blk.cell hT 10; have t11_ := Blk.cell hT 11; simp at t0_ t1_ t2_ t3_ t4_ t5_ t6_ t7_ t8_ t9_ t10_ t11_; go_simp; done) | (intro wx hSw; have hT := hSw.1; have t0_ := Blk.cell hT 0; have t1_ := Blk.cell hT 1; have t2_ := Blk.cell hT 2; have t3_ := Blk.cell hT 3; have t4_ := Blk.cell hT 4; have t5_ := Blk.cell hT 5; have t6_ := Blk.cell hT 6; have t7_ := Blk.cell hT 7; have t8_ := Blk.cell hT 8; have t9_ := Blk.cell hT 9; have t10_ := Blk.cell hT 10; have t11_ := Blk.cell hT 11; simp at t0_ t1_ t2_ t3_ t4_ t5_ t6_ t7_ t8_ t9_ t10_ t11_; go_simp; with_reducible rfl)
      simp only [Act.put, List.setIfInBounds_toArray, List.set_cons_zero, List.set_cons_succ]
      refine wpAnyH_take (i := 1) (oi := ?oi20002) (v := ?v20002) ?hi20002 (by kernel_rfl) (by kernel_rfl) (by kernel_rfl) (fun _ _ _ h => h) (Or.inl ⟨?hw20002, ?hy20002⟩) (by assumption) ?rest20002
      case hi20002 => (simp only [List.getElem?_toArray, List.getElem?_cons_zero, List.getElem?_cons_succ]; rfl)
      case hw20002 => rfl
      case hy20002 => first | (intro wx hSw; go_simp; done) | (intro wx hSw; go_simp; with_reducible rfl)
      simp only [Act.put, List.setIfInBounds_toArray, List.set_cons_zero, List.set_cons_succ]
      refine wpAnyH_take (i := 2) (oi := ?oi20003) (v := ?v20003) ?hi20003 (by kernel_rfl) (by kernel_rfl) (by kernel_rfl) (fun _ _ _ h => h) (Or.inl ⟨?hw20003, ?hy20003⟩) (by assumption) ?rest20003
      case hi20003 => (simp only [List.getElem?_toArray, List.getElem?_cons_zero, List.getElem?_cons_succ]; rfl)
      case hw20003 => rfl
      case hy20003 => first | (intro wx hSw; go_simp; done) | (intro wx hSw; go_simp; with_reducible rfl)
      simp only [Act.put, List.setIfInBounds_toArray, List.set_cons_zero, List.set_cons_succ]
      refine wpAnyH_take (i := 3) (oi := ?oi20004) (v := ?v20004) ?hi20004 (by kernel_rfl) (by kernel_rfl) (by kernel_rfl) (fun _ _ _ h => h) (Or.inl ⟨?hw20004, ?hy20004⟩) (by assumption) ?rest20004
      case hi20004 => (simp only [List.getElem?_toArray, List.getElem?_cons_zero, List.getElem?_cons_succ]; rfl)
      case hw20004 => rfl
      case hy20004 => first | (intro wx hSw; have hX := hSw.2.1; have y6 := Blk.cell hX 6; have y9 := hX.lt; simp at y6; go_simp; done) | (intro wx hSw; have hX := hSw.2.1; have y6 := Blk.cell hX 6; have y9 := hX.lt; simp at y6; go_simp; with_reducible rfl)
      simp only [Act.put, List.setIfInBounds_toArray, List.set_cons_zero, List.set_cons_succ]
      refine wpAnyH_take (i := 4) (oi := ?oi20005) (v := ?v20005) ?hi20005 (by kernel_rfl) (by kernel_rfl) (by kernel_rfl) (fun _ _ _ h => h) (Or.inl ⟨?hw20005, ?hy20005⟩) (by assumption) ?rest20005
      case hi20005 => (simp only [List.getElem?_toArray, List.getElem?_cons_zero, List.getElem?_cons_succ]; rfl)
      case hw20005 => rfl
      case hy20005 => first | (intro wx hSw; go_simp; done) | (intro wx hSw; go_simp; with_reducible rfl)
      simp only [Act.put, List.setIfInBounds_toArray, List.set_cons_zero, List.set_cons_succ]
      refine wpAnyH_take (i := 5) (oi := ?oi20006) (v := ?v20006) ?hi20006 (by kernel_rfl) (by kernel_rfl) (by kernel_rfl) (fun _ _ _ h => h) (Or.inl ⟨?hw20006, ?hy20006⟩) (by assumption) ?rest20006
      case hi20006 => (simp only [List.getElem?_toArray, List.getElem?_cons_zero, List.getElem?_cons_succ]; rfl)
      case hw20006 => rfl
      case hy20006 => first | (intro wx hSw; go_simp; done) | (intro wx hSw; go_simp; with_reducible rfl)
      simp only [Act.put, List.setIfInBounds_toArray, List.set_cons_zero, List.set_cons_succ]
      refine wpAnyH_take (i := 6) (oi := ?oi20007) (v := ?v20007) ?hi20007 (by kernel_rfl) (by kernel_rfl) (by kernel_rfl) (fun _ _ _ h => h) (Or.inl ⟨?hw20007, ?hy20007⟩) (by assumption) ?rest20007
      case hi20007 => (simp only [List.getElem?_toArray, List.getElem?_cons_zero, List.getElem?_cons_succ]; rfl)
      case hw20007 => rfl
      case hy20007 => first | (intro wx hSw; obtain ⟨l0, e0, e1, e2, e3, e4, e5, e6⟩ := cells_7 (SRe.at hSw k hlt); go_simp; done) | (intro wx hSw; obtain ⟨l0, e0, e1, e2, e3, e4, e5, e6⟩ := cells_7 (SRe.at hSw k hlt); go_simp; with_reducible rfl)
      simp only [Act.put, List.setIfInBounds_toArray, List.set_cons_zero, List.set_cons_succ]
      refine anyH_name ?_
      intro GG hin hout
      have HIN := hide hin
      have HOUT := hide hout
      clear hin hout hHeld
      have C11_ : ∀ (ac : Act) (bv : Nat) (X : World), ac = ⟨#[.agg #[t0, .slice (some ⟨g, 0, none⟩) cs.length cap, t2, t3, t4, t5, t6, t7, t8, t9, t10, t11], .slice p vs.length rcap, .agg #[.int .i64 9, .string ⟨#[]⟩, .int .i64 0, .int .i64 0, .int .i64 0, .string ⟨#[]⟩, .slice (some ⟨g1, 0, none⟩) 2 c1], .pointer (some ⟨bt, 0, none⟩), undef, .pointer (some ⟨bx, 0, none⟩), .pointer (some ⟨bz, 0, none⟩), ac.tmps.getD 7 undef, u8, .int .i64 (k : Int), .pointer (some ⟨bv, 0, none⟩), ac.tmps.getD 11 undef, .pointer (some ⟨bx, 0, none⟩), .int .i64 9, .bool false, .bool false, undef, undef, .bool false, .bool false, undef, undef, undef, undef, undef, undef, undef, ac.tmps.getD 27 undef, ac.tmps.getD 28 undef, ac.tmps.getD 29 undef, ac.tmps.getD 30 undef, ac.tmps.getD 31 undef, ac.tmps.getD 32 undef, ac.tmps.getD 33 undef, ac.tmps.getD 34 undef, .agg #[t0, .slice (some ⟨g, 0, none⟩) cs.length cap, t2, t3, t4, t5, t6, t7, t8, t9, t10, t11], .slice p vs.length rcap, ac.tmps.getD 37 undef, .slice (some ⟨g1, 0, none⟩) 2 c1, ac.tmps.getD 39 undef, ac.tmps.getD 40 undef, .agg (exC (colX nm) N0).toArray, ac.tmps.getD 42 undef, .agg #[(.int .i64 v1), (.int .i64 v2), (.int .i64 v3), (.string v4)], .int .i64 0, ac.tmps.getD 45 undef, ac.tmps.getD 46 undef, ac.tmps.getD 47 undef, ac.tmps.getD 48 undef, ac.tmps.getD 49 undef, ac.tmps.getD 50 undef, ac.tmps.getD 51 undef, ac.tmps.getD 52 undef, undef, undef, undef, undef, undef, undef, undef, undef, undef, undef, undef, undef, undef, undef, undef, undef, undef, undef, undef, undef, undef, undef, undef, undef, undef, undef, undef, undef, undef, undef, undef, undef, undef, undef, undef, undef, undef, undef, undef, undef, undef, undef, undef, undef, undef, undef, undef, undef, undef, undef, undef, undef, undef], []⟩ → Below Wd.heap.size Wd X → Hid (Blk bv (vC Z4).toArray 28 X) → Hid (GeB Wd.heap.size bv X) → GG 2 #[true, true, true, true, true, true, true, true, true, true, true, true, false, false] ac X := by
        intro ac bv X ha GD rb hge
        obtain ⟨u, rfl⟩ : ∃ u : Nat → Value, ac = ⟨#[.agg #[t0, .slice (some ⟨g, 0, none⟩) cs.length cap, t2, t3, t4, t5, t6, t7, t8, t9, t10, t11], .slice p vs.length rcap, .agg #[.int .i64 9, .string ⟨#[]⟩, .int .i64 0, .int .i64 0, .int .i64 0, .string ⟨#[]⟩, .slice (some ⟨g1, 0, none⟩) 2 c1], .pointer (some ⟨bt, 0, none⟩), undef, .pointer (some ⟨bx, 0, none⟩), .pointer (some ⟨bz, 0, none⟩), u 7, u8, .int .i64 (k : Int), .pointer (some ⟨bv, 0, none⟩), u 11, .pointer (some ⟨bx, 0, none⟩), .int .i64 9, .bool false, .bool false, undef, undef, .bool false, .bool false, undef, undef, undef, undef, undef, undef, undef, u 27, u 28, u 29, u 30, u 31, u 32, u 33, u 34, .agg #[t0, .slice (some ⟨g, 0, none⟩) cs.length cap, t2, t3, t4, t5, t6, t7, t8, t9, t10, t11], .slice p vs.length rcap, u 37, .slice (some ⟨g1, 0, none⟩) 2 c1, u 39, u 40, .agg (exC (colX nm) N0).toArray, u 42, .agg #[(.int .i64 v1), (.int .i64 v2), (.int .i64 v3), (.string v4)], .int .i64 0, u 45, u 46, u 47, u 48, u 49, u 50, u 51, u 52, undef, undef, undef, undef, undef, undef, undef, undef, undef, undef, undef, undef, undef, undef, undef, undef, undef, undef, undef, undef, undef, undef, undef, undef, undef, undef, undef, undef, undef, undef, undef, undef, undef, undef, undef, undef, undef, undef, undef, undef, undef, undef, undef, undef, undef, undef, undef, undef, undef, undef, undef, undef, undef], []⟩ := ⟨fun i => ac.tmps.getD i undef, ha⟩
        clear ha
        refine unhide HIN _ _ _ _ ?_
        have hHeld : (SRe (#[t0, .slice (some ⟨g, 0, none⟩) cs.length cap, t2, t3, t4, t5, t6, t7, t8, t9, t10, t11]) bt bx g1 c1 nm) X := (unhide hS).call GD
        have rlt := (unhide rb).lt
        have rc0 := (unhide rb).cell 0
        have rf0 := (unhide rb).froz 0
        have rc1 := (unhide rb).cell 1
        have rf1 := (unhide rb).froz 1
        have rc2 := (unhide rb).cell 2
        have rf2 := (unhide rb).froz 2
        have rc3 := (unhide rb).cell 3
        have rf3 := (unhide rb).froz 3
        simp at rc0 rc1 rc2 rc3
        have hge2 : Wd.heap.size ≤ bv := unhide hge
        have GE : Below Wd.heap.size Wd ((((X.setCell ⟨bv, 0, none⟩ ((.int .i64 v1))).setCell ⟨bv, 1, none⟩ ((.int .i64 v2))).setCell ⟨bv, 2, none⟩ ((.int .i64 v3))).setCell ⟨bv, 3, none⟩ ((.string v4))) := (((GD.setCell (p := ⟨bv, 0, none⟩) hge2 _).setCell (p := ⟨bv, 1, none⟩) hge2 _).setCell (p := ⟨bv, 2, none⟩) hge2 _).setCell (p := ⟨bv, 3, none⟩) hge2 _
        have RE : Blk bv #[(.int .i64 v1), (.int .i64 v2), (.int .i64 v3), (.string v4)] 28 ((((X.setCell ⟨bv, 0, none⟩ ((.int .i64 v1))).setCell ⟨bv, 1, none⟩ ((.int .i64 v2))).setCell ⟨bv, 2, none⟩ ((.int .i64 v3))).setCell ⟨bv, 3, none⟩ ((.string v4))) := heapSet4 (unhide rb) _ _ _ _
        refine wpAnyH_ready (rs := [12]) (by kernel_rfl) (by simp) ?_
        refine AllReadyH.cons rfl (fun K20008 hK20008 => ?_) AllReadyH.nil
        go_simp
        refine hK20008.out _ _ ?hs20008 (fun hHeld20008 => ?_)
        case hs20008 => exact (unhide hS).call GE
        clear hHeld
        have hHeld := hHeld20008; clear hHeld20008 hK20008 K20008
        refine wpAnyH_take (i := 13) (oi := ?oi20009) (v := ?v20009) ?hi20009 (by kernel_rfl) (by kernel_rfl) (by kernel_rfl) (fun _ _ _ h => h) (Or.inl ⟨?hw20009, ?hy20009⟩) (by assumption) ?rest20009
        case hi20009 => (simp only [List.getElem?_toArray, List.getElem?_cons_zero, List.getElem?_cons_succ]; rfl)
        case hw20009 => rfl
        case hy20009 => first | (intro wx hSw; go_simp; done) | (intro wx hSw; go_simp; with_reducible rfl)
        simp only [Act.put, List.setIfInBounds_toArray, List.set_cons_zero, List.set_cons_succ]
        refine wpAnyH_done (by kernel_rfl) ?_ _
        refine NoPanic.normal ?_
        skip
        exact unhide REST11 _ bv _ (by kernel_rfl) (hide ((unhide hC).call GE)) (hide ((unhide hR).call GE)) (hide ((unhide hS).call GE)) (hide ((unhide hO).call GE)) (hide ((unhide hW).call GE)) (hide RE)
      have C11_ := hide C11_
      have C1 : ∀ (ac : Act) (X : World), ac = ⟨#[.agg #[t0, .slice (some ⟨g, 0, none⟩) cs.length cap, t2, t3, t4, t5, t6, t7, t8, t9, t10, t11], .slice p vs.length rcap, .agg #[.int .i64 9, .string ⟨#[]⟩, .int .i64 0, .int .i64 0, .int .i64 0, .string ⟨#[]⟩, .slice (some ⟨g1, 0, none⟩) 2 c1], .pointer (some ⟨bt, 0, none⟩), undef, .pointer (some ⟨bx, 0, none⟩), .pointer (some ⟨bz, 0, none⟩), ac.tmps.getD 7 undef, u8, .int .i64 (k : Int), ac.tmps.getD 10 undef, ac.tmps.getD 11 undef, .pointer (some ⟨bx, 0, none⟩), .int .i64 9, .bool false, .bool false, undef, undef, .bool false, .bool false, undef, undef, undef, undef, undef, undef, undef, ac.tmps.getD 27 undef, ac.tmps.getD 28 undef, ac.tmps.getD 29 undef, ac.tmps.getD 30 undef, ac.tmps.getD 31 undef, ac.tmps.getD 32 undef, ac.tmps.getD 33 undef, ac.tmps.getD 34 undef, .agg #[t0, .slice (some ⟨g, 0, none⟩) cs.length cap, t2, t3, t4, t5, t6, t7, t8, t9, t10, t11], .slice p vs.length rcap, ac.tmps.getD 37 undef, .slice (some ⟨g1, 0, none⟩) 2 c1, ac.tmps.getD 39 undef, ac.tmps.getD 40 undef, .agg (exC (colX nm) N0).toArray, ac.tmps.getD 42 undef, .agg #[(.int .i64 v1), (.int .i64 v2), (.int .i64 v3), (.string v4)], .int .i64 0, ac.tmps.getD 45 undef, ac.tmps.getD 46 undef, ac.tmps.getD 47 undef, ac.tmps.getD 48 undef, ac.tmps.getD 49 undef, ac.tmps.getD 50 undef, ac.tmps.getD 51 undef, ac.tmps.getD 52 undef, undef, undef, undef, undef, undef, undef, undef, undef, undef, undef, undef, undef, undef, undef, undef, undef, undef, undef, undef, undef, undef, undef, undef, undef, undef, undef, undef, undef, undef, undef, undef, undef, undef, undef, undef, undef, undef, undef, undef, undef, undef, undef, undef, undef, undef, undef, undef, undef, undef, undef, undef, undef, undef], []⟩ → Below Wd.heap.size Wd X → GG 3 #[true, true, true, true, true, true, true, true, true, true, true, false, false, false] ac X := by
        intro ac X ha GD
        obtain ⟨u, rfl⟩ : ∃ u : Nat → Value, ac = ⟨#[.agg #[t0, .slice (some ⟨g, 0, none⟩) cs.length cap, t2, t3, t4, t5, t6, t7, t8, t9, t10, t11], .slice p vs.length rcap, .agg #[.int .i64 9, .string ⟨#[]⟩, .int .i64 0, .int .i64 0, .int .i64 0, .string ⟨#[]⟩, .slice (some ⟨g1, 0, none⟩) 2 c1], .pointer (some ⟨bt, 0, none⟩), undef, .pointer (some ⟨bx, 0, none⟩), .pointer (some ⟨bz, 0, none⟩), u 7, u8, .int .i64 (k : Int), u 10, u 11, .pointer (some ⟨bx, 0, none⟩), .int .i64 9, .bool false, .bool false, undef, undef, .bool false, .bool false, undef, undef, undef, undef, undef, undef, undef, u 27, u 28, u 29, u 30, u 31, u 32, u 33, u 34, .agg #[t0, .slice (some ⟨g, 0, none⟩) cs.length cap, t2, t3, t4, t5, t6, t7, t8, t9, t10, t11], .slice p vs.length rcap, u 37, .slice (some ⟨g1, 0, none⟩) 2 c1, u 39, u 40, .agg (exC (colX nm) N0).toArray, u 42, .agg #[(.int .i64 v1), (.int .i64 v2), (.int .i64 v3), (.string v4)], .int .i64 0, u 45, u 46, u 47, u 48, u 49, u 50, u 51, u 52, undef, undef, undef, undef, undef, undef, undef, undef, undef, undef, undef, undef, undef, undef, undef, undef, undef, undef, undef, undef, undef, undef, undef, undef, undef, undef, undef, undef, undef, undef, undef, undef, undef, undef, undef, undef, undef, undef, undef, undef, undef, undef, undef, undef, undef, undef, undef, undef, undef, undef, undef, undef, undef], []⟩ := ⟨fun i => ac.tmps.getD i undef, ha⟩
        clear ha
        refine unhide HIN _ _ _ _ ?_
        have hHeld : (SRe (#[t0, .slice (some ⟨g, 0, none⟩) cs.length cap, t2, t3, t4, t5, t6, t7, t8, t9, t10, t11]) bt bx g1 c1 nm) X := (unhide hS).call GD
        refine wpAnyH_ready (rs := [11]) (by kernel_rfl) (by simp) ?_
        refine AllReadyH.cons rfl (fun K20010 hK20010 => ?_) AllReadyH.nil
        go_simp
        have hb := below_new X (.cells (vC Z4).toArray 28)
        have rb : Hid (Blk X.heap.size (vC Z4).toArray 28 (X.alloc (.cells (vC Z4).toArray 28))) := hide (Blk.new X (vC Z4).toArray 28)
        have hge : Hid (GeB Wd.heap.size X.heap.size (X.alloc (.cells (vC Z4).toArray 28))) := hide GD.size
        refine hK20010.out _ _ ?hs20010 (fun hH20010 => ?_)
        case hs20010 => exact hHeld.call hb
        clear hHeld
        have hHeld := hH20010; clear hH20010 hK20010 K20010
        refine unhide HOUT _ _ _ _ ?_
        exact unhide C11_ _ _ _ (by kernel_rfl) (GD.trans (hb.mono GD.size)) rb hge
      have C1 := hide C1
      have C01_ : ∀ (ac : Act) (bv : Nat) (X : World), ac = ⟨#[.agg #[t0, .slice (some ⟨g, 0, none⟩) cs.length cap, t2, t3, t4, t5, t6, t7, t8, t9, t10, t11], .slice p vs.length rcap, .agg #[.int .i64 9, .string ⟨#[]⟩, .int .i64 0, .int .i64 0, .int .i64 0, .string ⟨#[]⟩, .slice (some ⟨g1, 0, none⟩) 2 c1], .pointer (some ⟨bt, 0, none⟩), undef, .pointer (some ⟨bx, 0, none⟩), .pointer (some ⟨bz, 0, none⟩), ac.tmps.getD 7 undef, u8, .int .i64 (k : Int), .pointer (some ⟨bv, 0, none⟩), ac.tmps.getD 11 undef, .pointer (some ⟨bx, 0, none⟩), .int .i64 9, .bool false, .bool false, undef, undef, .bool false, .bool false, undef, undef, undef, undef, undef, undef, undef, ac.tmps.getD 27 undef, ac.tmps.getD 28 undef, ac.tmps.getD 29 undef, ac.tmps.getD 30 undef, ac.tmps.getD 31 undef, ac.tmps.getD 32 undef, ac.tmps.getD 33 undef, ac.tmps.getD 34 undef, .agg #[t0, .slice (some ⟨g, 0, none⟩) cs.length cap, t2, t3, t4, t5, t6, t7, t8, t9, t10, t11], .slice p vs.length rcap, ac.tmps.getD 37 undef, .slice (some ⟨g1, 0, none⟩) 2 c1, ac.tmps.getD 39 undef, ac.tmps.getD 40 undef, .agg (exC (colX nm) N0).toArray, ac.tmps.getD 42 undef, ac.tmps.getD 43 undef, ac.tmps.getD 44 undef, ac.tmps.getD 45 undef, ac.tmps.getD 46 undef, ac.tmps.getD 47 undef, ac.tmps.getD 48 undef, ac.tmps.getD 49 undef, ac.tmps.getD 50 undef, ac.tmps.getD 51 undef, ac.tmps.getD 52 undef, undef, undef, undef, undef, undef, undef, undef, undef, undef, undef, undef, undef, undef, undef, undef, undef, undef, undef, undef, undef, undef, undef, undef, undef, undef, undef, undef, undef, undef, undef, undef, undef, undef, undef, undef, undef, undef, undef, undef, undef, undef, undef, undef, undef, undef, undef, undef, undef, undef, undef, undef, undef, undef], []⟩ → Below Wd.heap.size Wd X → Hid (Blk bv (vC Z4).toArray 28 X) → Hid (GeB Wd.heap.size bv X) → GG 6 #[true, true, true, true, true, true, true, false, false, false, false, true, false, false] ac X := by
        intro ac bv X ha GD rb hge
        obtain ⟨u, rfl⟩ : ∃ u : Nat → Value, ac = ⟨#[.agg #[t0, .slice (some ⟨g, 0, none⟩) cs.length cap, t2, t3, t4, t5, t6, t7, t8, t9, t10, t11], .slice p vs.length rcap, .agg #[.int .i64 9, .string ⟨#[]⟩, .int .i64 0, .int .i64 0, .int .i64 0, .string ⟨#[]⟩, .slice (some ⟨g1, 0, none⟩) 2 c1], .pointer (some ⟨bt, 0, none⟩), undef, .pointer (some ⟨bx, 0, none⟩), .pointer (some ⟨bz, 0, none⟩), u 7, u8, .int .i64 (k : Int), .pointer (some ⟨bv, 0, none⟩), u 11, .pointer (some ⟨bx, 0, none⟩), .int .i64 9, .bool false, .bool false, undef, undef, .bool false, .bool false, undef, undef, undef, undef, undef, undef, undef, u 27, u 28, u 29, u 30, u 31, u 32, u 33, u 34, .agg #[t0, .slice (some ⟨g, 0, none⟩) cs.length cap, t2, t3, t4, t5, t6, t7, t8, t9, t10, t11], .slice p vs.length rcap, u 37, .slice (some ⟨g1, 0, none⟩) 2 c1, u 39, u 40, .agg (exC (colX nm) N0).toArray, u 42, u 43, u 44, u 45, u 46, u 47, u 48, u 49, u 50, u 51, u 52, undef, undef, undef, undef, undef, undef, undef, undef, undef, undef, undef, undef, undef, undef, undef, undef, undef, undef, undef, undef, undef, undef, undef, undef, undef, undef, undef, undef, undef, undef, undef, undef, undef, undef, undef, undef, undef, undef, undef, undef, undef, undef, undef, undef, undef, undef, undef, undef, undef, undef, undef, undef, undef], []⟩ := ⟨fun i => ac.tmps.getD i undef, ha⟩
        clear ha
        refine unhide HIN _ _ _ _ ?_
        have hHeld : (SRe (#[t0, .slice (some ⟨g, 0, none⟩) cs.length cap, t2, t3, t4, t5, t6, t7, t8, t9, t10, t11]) bt bx g1 c1 nm) X := (unhide hS).call GD
        refine wpAnyH_ready (rs := [7]) (by kernel_rfl) (by simp) ?_
        refine AllReadyH.cons rfl (fun K20011 hK20011 => ?_) AllReadyH.nil
        go_simp
        go_wp2_with (go_at_call 20; refine (unhide CE _ ((unhide hC).call GD) ((unhide hR).call GD)).mono ?_; rintro e X2 ⟨rfl, hb⟩)
        refine hK20011.out _ _ ?hs20011 (fun hH20011 => ?_)
        case hs20011 => exact hHeld.call hb
        clear hHeld
        have hHeld := hH20011; clear hH20011 hK20011 K20011
        refine wpAnyH_take (i := 8) (oi := ?oi20012) (v := ?v20012) ?hi20012 (by kernel_rfl) (by kernel_rfl) (by kernel_rfl) (fun _ _ _ h => h) (Or.inl ⟨?hw20012, ?hy20012⟩) (by assumption) ?rest20012
        case hi20012 => (simp only [List.getElem?_toArray, List.getElem?_cons_zero, List.getElem?_cons_succ]; rfl)
        case hw20012 => rfl
        case hy20012 => first | (intro wx hSw; go_simp; done) | (intro wx hSw; go_simp; with_reducible rfl)
        simp only [Act.put, List.setIfInBounds_toArray, List.set_cons_zero, List.set_cons_succ]
        refine wpAnyH_take (i := 9) (oi := ?oi20013) (v := ?v20013) ?hi20013 (by kernel_rfl) (by kernel_rfl) (by kernel_rfl) (fun _ _ _ h => h) (Or.inl ⟨?hw20013, ?hy20013⟩) (by assumption) ?rest20013
        case hi20013 => (simp only [List.getElem?_toArray, List.getElem?_cons_zero, List.getElem?_cons_succ]; rfl)
        case hw20013 => rfl
        case hy20013 => first | (intro wx hSw; go_simp; done) | (intro wx hSw; go_simp; with_reducible rfl)
        simp only [Act.put, List.setIfInBounds_toArray, List.set_cons_zero, List.set_cons_succ]
        refine wpAnyH_take (i := 10) (oi := ?oi20014) (v := ?v20014) ?hi20014 (by kernel_rfl) (by kernel_rfl) (by kernel_rfl) (fun _ _ _ h => h) (Or.inl ⟨?hw20014, ?hy20014⟩) (by assumption) ?rest20014
        case hi20014 => (simp only [List.getElem?_toArray, List.getElem?_cons_zero, List.getElem?_cons_succ]; rfl)
        case hw20014 => rfl
        case hy20014 => first | (intro wx hSw; go_simp; done) | (intro wx hSw; go_simp; with_reducible rfl)
        simp only [Act.put, List.setIfInBounds_toArray, List.set_cons_zero, List.set_cons_succ]
        refine unhide HOUT _ _ _ _ ?_
        exact unhide C11_ _ bv _ (by kernel_rfl) (GD.trans (hb.mono GD.size)) (hide ((unhide rb).call hb)) (hide ((unhide hge).call hb))
      have C01_ := hide C01_
      have C0 : ∀ (ac : Act) (X : World), ac = ⟨#[.agg #[t0, .slice (some ⟨g, 0, none⟩) cs.length cap, t2, t3, t4, t5, t6, t7, t8, t9, t10, t11], .slice p vs.length rcap, .agg #[.int .i64 9, .string ⟨#[]⟩, .int .i64 0, .int .i64 0, .int .i64 0, .string ⟨#[]⟩, .slice (some ⟨g1, 0, none⟩) 2 c1], .pointer (some ⟨bt, 0, none⟩), undef, .pointer (some ⟨bx, 0, none⟩), .pointer (some ⟨bz, 0, none⟩), ac.tmps.getD 7 undef, u8, .int .i64 (k : Int), ac.tmps.getD 10 undef, ac.tmps.getD 11 undef, .pointer (some ⟨bx, 0, none⟩), .int .i64 9, .bool false, .bool false, undef, undef, .bool false, .bool false, undef, undef, undef, undef, undef, undef, undef, ac.tmps.getD 27 undef, ac.tmps.getD 28 undef, ac.tmps.getD 29 undef, ac.tmps.getD 30 undef, ac.tmps.getD 31 undef, ac.tmps.getD 32 undef, ac.tmps.getD 33 undef, ac.tmps.getD 34 undef, .agg #[t0, .slice (some ⟨g, 0, none⟩) cs.length cap, t2, t3, t4, t5, t6, t7, t8, t9, t10, t11], .slice p vs.length rcap, ac.tmps.getD 37 undef, .slice (some ⟨g1, 0, none⟩) 2 c1, ac.tmps.getD 39 undef, ac.tmps.getD 40 undef, .agg (exC (colX nm) N0).toArray, ac.tmps.getD 42 undef, ac.tmps.getD 43 undef, ac.tmps.getD 44 undef, ac.tmps.getD 45 undef, ac.tmps.getD 46 undef, ac.tmps.getD 47 undef, ac.tmps.getD 48 undef, ac.tmps.getD 49 undef, ac.tmps.getD 50 undef, ac.tmps.getD 51 undef, ac.tmps.getD 52 undef, undef, undef, undef, undef, undef, undef, undef, undef, undef, undef, undef, undef, undef, undef, undef, undef, undef, undef, undef, undef, undef, undef, undef, undef, undef, undef, undef, undef, undef, undef, undef, undef, undef, undef, undef, undef, undef, undef, undef, undef, undef, undef, undef, undef, undef, undef, undef, undef, undef, undef, undef, undef, undef], []⟩ → Below Wd.heap.size Wd X → GG 7 #[true, true, true, true, true, true, true, false, false, false, false, false, false, false] ac X := by
        intro ac X ha GD
        obtain ⟨u, rfl⟩ : ∃ u : Nat → Value, ac = ⟨#[.agg #[t0, .slice (some ⟨g, 0, none⟩) cs.length cap, t2, t3, t4, t5, t6, t7, t8, t9, t10, t11], .slice p vs.length rcap, .agg #[.int .i64 9, .string ⟨#[]⟩, .int .i64 0, .int .i64 0, .int .i64 0, .string ⟨#[]⟩, .slice (some ⟨g1, 0, none⟩) 2 c1], .pointer (some ⟨bt, 0, none⟩), undef, .pointer (some ⟨bx, 0, none⟩), .pointer (some ⟨bz, 0, none⟩), u 7, u8, .int .i64 (k : Int), u 10, u 11, .pointer (some ⟨bx, 0, none⟩), .int .i64 9, .bool false, .bool false, undef, undef, .bool false, .bool false, undef, undef, undef, undef, undef, undef, undef, u 27, u 28, u 29, u 30, u 31, u 32, u 33, u 34, .agg #[t0, .slice (some ⟨g, 0, none⟩) cs.length cap, t2, t3, t4, t5, t6, t7, t8, t9, t10, t11], .slice p vs.length rcap, u 37, .slice (some ⟨g1, 0, none⟩) 2 c1, u 39, u 40, .agg (exC (colX nm) N0).toArray, u 42, u 43, u 44, u 45, u 46, u 47, u 48, u 49, u 50, u 51, u 52, undef, undef, undef, undef, undef, undef, undef, undef, undef, undef, undef, undef, undef, undef, undef, undef, undef, undef, undef, undef, undef, undef, undef, undef, undef, undef, undef, undef, undef, undef, undef, undef, undef, undef, undef, undef, undef, undef, undef, undef, undef, undef, undef, undef, undef, undef, undef, undef, undef, undef, undef, undef, undef], []⟩ := ⟨fun i => ac.tmps.getD i undef, ha⟩
        clear ha
        refine unhide HIN _ _ _ _ ?_
        have hHeld : (SRe (#[t0, .slice (some ⟨g, 0, none⟩) cs.length cap, t2, t3, t4, t5, t6, t7, t8, t9, t10, t11]) bt bx g1 c1 nm) X := (unhide hS).call GD
        refine wpAnyH_ready (rs := [7, 11]) (by kernel_rfl) (by simp) ?_
        refine AllReadyH.cons rfl (fun K20015 hK20015 => ?_) ?_
        · go_simp
          go_wp2_with (go_at_call 20; refine (unhide CE _ ((unhide hC).call GD) ((unhide hR).call GD)).mono ?_; rintro e X2 ⟨rfl, hb⟩)
          refine hK20015.out _ _ ?hs20015 (fun hH20015 => ?_)
          case hs20015 => exact hHeld.call hb
          clear hHeld
          have hHeld := hH20015; clear hH20015 hK20015 K20015
          refine wpAnyH_take (i := 8) (oi := ?oi20016) (v := ?v20016) ?hi20016 (by kernel_rfl) (by kernel_rfl) (by kernel_rfl) (fun _ _ _ h => h) (Or.inl ⟨?hw20016, ?hy20016⟩) (by assumption) ?rest20016
          case hi20016 => (simp only [List.getElem?_toArray, List.getElem?_cons_zero, List.getElem?_cons_succ]; rfl)
          case hw20016 => rfl
          case hy20016 => first | (intro wx hSw; go_simp; done) | (intro wx hSw; go_simp; with_reducible rfl)
          simp only [Act.put, List.setIfInBounds_toArray, List.set_cons_zero, List.set_cons_succ]
          refine wpAnyH_take (i := 9) (oi := ?oi20017) (v := ?v20017) ?hi20017 (by kernel_rfl) (by kernel_rfl) (by kernel_rfl) (fun _ _ _ h => h) (Or.inl ⟨?hw20017, ?hy20017⟩) (by assumption) ?rest20017
          case hi20017 => (simp only [List.getElem?_toArray, List.getElem?_cons_zero, List.getElem?_cons_succ]; rfl)
          case hw20017 => rfl
          case hy20017 => first | (intro wx hSw; go_simp; done) | (intro wx hSw; go_simp; with_reducible rfl)
          simp only [Act.put, List.setIfInBounds_toArray, List.set_cons_zero, List.set_cons_succ]
          refine wpAnyH_take (i := 10) (oi := ?oi20018) (v := ?v20018) ?hi20018 (by kernel_rfl) (by kernel_rfl) (by kernel_rfl) (fun _ _ _ h => h) (Or.inl ⟨?hw20018, ?hy20018⟩) (by assumption) ?rest20018
          case hi20018 => (simp only [List.getElem?_toArray, List.getElem?_cons_zero, List.getElem?_cons_succ]; rfl)
          case hw20018 => rfl
          case hy20018 => first | (intro wx hSw; go_simp; done) | (intro wx hSw; go_simp; with_reducible rfl)
          simp only [Act.put, List.setIfInBounds_toArray, List.set_cons_zero, List.set_cons_succ]
          refine unhide HOUT _ _ _ _ ?_
          exact unhide C1 _  _ (by kernel_rfl) (GD.trans (hb.mono GD.size)) 
        refine AllReadyH.cons rfl (fun K20019 hK20019 => ?_) AllReadyH.nil
        · go_simp
          have hb := below_new X (.cells (vC Z4).toArray 28)
          have rb : Hid (Blk X.heap.size (vC Z4).toArray 28 (X.alloc (.cells (vC Z4).toArray 28))) := hide (Blk.new X (vC Z4).toArray 28)
          have hge : Hid (GeB Wd.heap.size X.heap.size (X.alloc (.cells (vC Z4).toArray 28))) := hide GD.size
          refine hK20019.out _ _ ?hs20019 (fun hH20019 => ?_)
          case hs20019 => exact hHeld.call hb
          clear hHeld
          have hHeld := hH20019; clear hH20019 hK20019 K20019
          refine unhide HOUT _ _ _ _ ?_
          exact unhide C01_ _ _ _ (by kernel_rfl) (GD.trans (hb.mono GD.size)) rb hge
      have C0 := hide C0
      exact unhide C0 _ _ (by kernel_rfl) (Below.refl _ _)
    · obtain rfl : k = 2 := by omega
      have hO2 : wr.ownsRow W0.heap.size 28 4 u8 [(v1, v2, v3, v4), (v1, v2, v3, v4)].length (rowC [(v1, v2, v3, v4), (v1, v2, v3, v4)]) := unhide hO
      obtain ⟨gl, cl, cur, rfl, hge, hgb, hcl, hrl⟩ := row_own (by simp) hO2 (by simp)
      have hZ := hide ((unhide HZ).call (unhide hW))
      have nz1 := blk_neR (unhide hS).2.1 (unhide hZ) (by simp)
      have nz2 : gl ≠ bz := by have := (unhide HZ).lt; omega
      have hQ : Hid (SRq bx g1 c1 gl (v1, v2, v3, v4) wr) := ⟨(unhide hS).2.1, hrl⟩
      have hGw := hide ((unhide HG).call (unhide hW))
      clear hO2 hcl hgb hge hO hC hR hS hrl HZ HG HC0 HR0 HS0 CE
      go_wp2_with fail
      rename_i K28 hk28
      obtain ⟨q1, q2, q3, q4⟩ := res
      have REST28 : ∀ (ac : Act) (X : World), ac = ⟨#[ac.tmps.getD 0 undef, ac.tmps.getD 1 undef, ac.tmps.getD 2 undef, ac.tmps.getD 3 undef, ac.tmps.getD 4 undef, .pointer (some ⟨bx, 0, none⟩), .pointer (some ⟨bz, 0, none⟩), .int .i64 0, .slice (some ⟨gl, 0, none⟩) 2 cl, ac.tmps.getD 9 undef, ac.tmps.getD 10 undef, ac.tmps.getD 11 undef, ac.tmps.getD 12 undef, ac.tmps.getD 13 undef, ac.tmps.getD 14 undef, ac.tmps.getD 15 undef, ac.tmps.getD 16 undef, ac.tmps.getD 17 undef, ac.tmps.getD 18 undef, ac.tmps.getD 19 undef, ac.tmps.getD 20 undef, ac.tmps.getD 21 undef, ac.tmps.getD 22 undef, ac.tmps.getD 23 undef, ac.tmps.getD 24 undef, ac.tmps.getD 25 undef, ac.tmps.getD 26 undef, ac.tmps.getD 27 undef, ac.tmps.getD 28 undef, ac.tmps.getD 29 undef, ac.tmps.getD 30 undef, ac.tmps.getD 31 undef, ac.tmps.getD 32 undef, ac.tmps.getD 33 undef, ac.tmps.getD 34 undef, ac.tmps.getD 35 undef, ac.tmps.getD 36 undef, ac.tmps.getD 37 undef, ac.tmps.getD 38 undef, ac.tmps.getD 39 undef, ac.tmps.getD 40 undef, ac.tmps.getD 41 undef, ac.tmps.getD 42 undef, ac.tmps.getD 43 undef, ac.tmps.getD 44 undef, ac.tmps.getD 45 undef, ac.tmps.getD 46 undef, ac.tmps.getD 47 undef, ac.tmps.getD 48 undef, ac.tmps.getD 49 undef, ac.tmps.getD 50 undef, ac.tmps.getD 51 undef, ac.tmps.getD 52 undef, ac.tmps.getD 53 undef, ac.tmps.getD 54 undef, ac.tmps.getD 55 undef, ac.tmps.getD 56 undef, ac.tmps.getD 57 undef, ac.tmps.getD 58 undef, ac.tmps.getD 59 undef, ac.tmps.getD 60 undef, ac.tmps.getD 61 undef, ac.tmps.getD 62 undef, ac.tmps.getD 63 undef, ac.tmps.getD 64 undef, ac.tmps.getD 65 undef, ac.tmps.getD 66 undef, ac.tmps.getD 67 undef, ac.tmps.getD 68 undef, ac.tmps.getD 69 undef, ac.tmps.getD 70 undef, ac.tmps.getD 71 undef, ac.tmps.getD 72 undef, ac.tmps.getD 73 undef, ac.tmps.getD 74 undef, ac.tmps.getD 75 undef, ac.tmps.getD 76 undef, ac.tmps.getD 77 undef, ac.tmps.getD 78 undef, ac.tmps.getD 79 undef, ac.tmps.getD 80 undef, ac.tmps.getD 81 undef, ac.tmps.getD 82 undef, ac.tmps.getD 83 undef, ac.tmps.getD 84 undef, ac.tmps.getD 85 undef, ac.tmps.getD 86 undef, ac.tmps.getD 87 undef, ac.tmps.getD 88 undef, ac.tmps.getD 89 undef, ac.tmps.getD 90 undef, ac.tmps.getD 91 undef, ac.tmps.getD 92 undef, ac.tmps.getD 93 undef, ac.tmps.getD 94 undef, ac.tmps.getD 95 undef, ac.tmps.getD 96 undef, ac.tmps.getD 97 undef, ac.tmps.getD 98 undef, ac.tmps.getD 99 undef, ac.tmps.getD 100 undef, ac.tmps.getD 101 undef, ac.tmps.getD 102 undef, ac.tmps.getD 103 undef, ac.tmps.getD 104 undef, ac.tmps.getD 105 undef], []⟩ → Hid (Blk bz #[(.int .i64 q1), (.int .i64 q2), (.int .i64 q3), (.string q4)] 28 X) → Hid (Grown w X) → K28 ac X := by
        clear hQ hZ hGw x0 x6 lx hW
        intro ac X ha hV hGw
        obtain ⟨u, rfl⟩ : ∃ u : Nat → Value, ac = ⟨#[u 0, u 1, u 2, u 3, u 4, .pointer (some ⟨bx, 0, none⟩), .pointer (some ⟨bz, 0, none⟩), .int .i64 0, .slice (some ⟨gl, 0, none⟩) 2 cl, u 9, u 10, u 11, u 12, u 13, u 14, u 15, u 16, u 17, u 18, u 19, u 20, u 21, u 22, u 23, u 24, u 25, u 26, u 27, u 28, u 29, u 30, u 31, u 32, u 33, u 34, u 35, u 36, u 37, u 38, u 39, u 40, u 41, u 42, u 43, u 44, u 45, u 46, u 47, u 48, u 49, u 50, u 51, u 52, u 53, u 54, u 55, u 56, u 57, u 58, u 59, u 60, u 61, u 62, u 63, u 64, u 65, u 66, u 67, u 68, u 69, u 70, u 71, u 72, u 73, u 74, u 75, u 76, u 77, u 78, u 79, u 80, u 81, u 82, u 83, u 84, u 85, u 86, u 87, u 88, u 89, u 90, u 91, u 92, u 93, u 94, u 95, u 96, u 97, u 98, u 99, u 100, u 101, u 102, u 103, u 104, u 105], []⟩ := ⟨fun i => ac.tmps.getD i undef, ha⟩
        clear ha
        refine hk28 _ _ ?_
        clear hk28
        have lz := (unhide hV).lt
        have z0 := (unhide hV).cell 0
        have z1 := (unhide hV).cell 1
        have z2 := (unhide hV).cell 2
        have z3 := (unhide hV).cell 3
        simp at z0 z1 z2 z3
        go_wp2_with fail
        exact bodyPost_ret (v := .tuple #[.agg (vC (q1, q2, q3, q4)).toArray, .int .i64 0]) (by simp [results, Try.results20, go_sem, z0, z1, z2, z3, lz]) rfl ⟨rfl, unhide hGw⟩
      have REST28 := hide REST28
      clear hk28 x0 x6 lx hW
      refine wp_region_noPanic ?_
      refine wp_region_held_drew (S := (SRq bx g1 c1 gl (v1, v2, v3, v4))) (by kernel_rfl) ((unhide hQ).call (Below.refl _ _).drew) (fun hHeld => ?_)
      have hbd : Below wr.heap.size wr wr.drew := (Below.refl _ _).drew
      replace hQ := hide ((unhide hQ).call hbd)
      replace hZ := hide ((unhide hZ).call hbd)
      replace hGw := hide ((unhide hGw).call hbd)
      clear hbd
      generalize wr.drew = Wd at *
      refine wpAnyH_take (i := 0) (oi := ?oi20020) (v := ?v20020) ?hi20020 (by kernel_rfl) (by kernel_rfl) (by kernel_rfl) (fun _ _ _ h => h) (Or.inl ⟨?hw20020, ?hy20020⟩) (by assumption) ?rest20020
      case hi20020 => (simp only [List.getElem?_toArray, List.getElem?_cons_zero]; rfl)
      case hw20020 => rfl
      case hy20020 => first | (intro wx hSw; go_simp; done) | (intro wx hSw; go_simp; with_reducible rfl)
      simp only [Act.put, List.setIfInBounds_toArray, List.set_cons_zero, List.set_cons_succ]
      refine wpAnyH_take (i := 1) (oi := ?oi20021) (v := ?v20021) ?hi20021 (by kernel_rfl) (by kernel_rfl) (by kernel_rfl) (fun _ _ _ h => h) (Or.inl ⟨?hw20021, ?hy20021⟩) (by assumption) ?rest20021
      case hi20021 => (simp only [List.getElem?_toArray, List.getElem?_cons_zero, List.getElem?_cons_succ]; rfl)
      case hw20021 => rfl
      case hy20021 => first | (intro wx hSw; have hX := hSw.1; have y0 := Blk.cell hX 0; have y9 := hX.lt; simp at y0; go_simp; done) | (intro wx hSw; have hX := hSw.1; have y0 := Blk.cell hX 0; have y9 := hX.lt; simp at y0; go_simp; with_reducible rfl)
      simp only [Act.put, List.setIfInBounds_toArray, List.set_cons_zero, List.set_cons_succ]
      refine wpAnyH_take (i := 2) (oi := ?oi20022) (v := ?v20022) ?hi20022 (by kernel_rfl) (by kernel_rfl) (by kernel_rfl) (fun _ _ _ h => h) (Or.inl ⟨?hw20022, ?hy20022⟩) (by assumption) ?rest20022
      case hi20022 => (simp only [List.getElem?_toArray, List.getElem?_cons_zero, List.getElem?_cons_succ]; rfl)
      case hw20022 => rfl
      case hy20022 => first | (intro wx hSw; go_simp; done) | (intro wx hSw; go_simp; with_reducible rfl)
      simp only [Act.put, List.setIfInBounds_toArray, List.set_cons_zero, List.set_cons_succ]
      refine wpAnyH_take (i := 3) (oi := ?oi20023) (v := ?v20023) ?hi20023 (by kernel_rfl) (by kernel_rfl) (by kernel_rfl) (fun _ _ _ h => h) (Or.inl ⟨?hw20023, ?hy20023⟩) (by assumption) ?rest20023
      case hi20023 => (simp only [List.getElem?_toArray, List.getElem?_cons_zero, List.getElem?_cons_succ]; rfl)
      case hw20023 => rfl
      case hy20023 => first | (intro wx hSw; go_simp; done) | (intro wx hSw; go_simp; with_reducible rfl)
      simp only [Act.put, List.setIfInBounds_toArray, List.set_cons_zero, List.set_cons_succ]
      refine wpAnyH_take (i := 4) (oi := ?oi20024) (v := ?v20024) ?hi20024 (by kernel_rfl) (by kernel_rfl) (by kernel_rfl) (fun _ _ _ h => h) (Or.inl ⟨?hw20024, ?hy20024⟩) (by assumption) ?rest20024
      case hi20024 => (simp only [List.getElem?_toArray, List.getElem?_cons_zero, List.getElem?_cons_succ]; rfl)
      case hw20024 => rfl
      case hy20024 => first | (intro wx hSw; obtain ⟨gg, hgg, hgl, b0, b1, b2, b3⟩ := hSw.2.2 0 (by simp); cases hgg; simp at b0 b1 b2 b3; go_simp; done) | (intro wx hSw; obtain ⟨gg, hgg, hgl, b0, b1, b2, b3⟩ := hSw.2.2 0 (by simp); cases hgg; simp at b0 b1 b2 b3; go_simp; with_reducible rfl)
      simp only [Act.put, List.setIfInBounds_toArray, List.set_cons_zero, List.set_cons_succ]
      refine wpAnyH_take (i := 5) (oi := ?oi20025) (v := ?v20025) ?hi20025 (by kernel_rfl) (by kernel_rfl) (by kernel_rfl) (fun _ _ _ h => h) (Or.inl ⟨?hw20025, ?hy20025⟩) (by assumption) ?rest20025
      case hi20025 => (simp only [List.getElem?_toArray, List.getElem?_cons_zero, List.getElem?_cons_succ]; rfl)
      case hw20025 => rfl
      case hy20025 => first | (intro wx hSw; go_simp; done) | (intro wx hSw; go_simp; with_reducible rfl)
      simp only [Act.put, List.setIfInBounds_toArray, List.set_cons_zero, List.set_cons_succ]
      refine wpAnyH_take (i := 6) (oi := ?oi20026) (v := ?v20026) ?hi20026 (by kernel_rfl) (by kernel_rfl) (by kernel_rfl) (fun _ _ _ h => h) (Or.inl ⟨?hw20026, ?hy20026⟩) (by assumption) ?rest20026
      case hi20026 => (simp only [List.getElem?_toArray, List.getElem?_cons_zero, List.getElem?_cons_succ]; rfl)
      case hw20026 => rfl
      case hy20026 => first | (intro wx hSw; go_simp; done) | (intro wx hSw; go_simp; with_reducible rfl)
      simp only [Act.put, List.setIfInBounds_toArray, List.set_cons_zero, List.set_cons_succ]
      refine wpAnyH_take (i := 7) (oi := ?oi20027) (v := ?v20027) ?hi20027 (by kernel_rfl) (by kernel_rfl) (by kernel_rfl) (fun _ _ _ h => h) (Or.inl ⟨?hw20027, ?hy20027⟩) (by assumption) ?rest20027
      case hi20027 => (simp only [List.getElem?_toArray, List.getElem?_cons_zero, List.getElem?_cons_succ]; rfl)
      case hw20027 => rfl
      case hy20027 => first | (intro wx hSw; obtain ⟨gg, hgg, hgl, b0, b1, b2, b3⟩ := hSw.2.2 1 (by simp); cases hgg; simp at b0 b1 b2 b3; go_simp; done) | (intro wx hSw; obtain ⟨gg, hgg, hgl, b0, b1, b2, b3⟩ := hSw.2.2 1 (by simp); cases hgg; simp at b0 b1 b2 b3; go_simp; with_reducible rfl)
      simp only [Act.put, List.setIfInBounds_toArray, List.set_cons_zero, List.set_cons_succ]
      refine anyH_name ?_
      intro GG hin hout
      have HIN := hide hin
      have HOUT := hide hout
      clear hin hout hHeld
      have C1 : ∀ (ac : Act) (X : World), ac = ⟨#[ac.tmps.getD 0 undef, ac.tmps.getD 1 undef, ac.tmps.getD 2 undef, ac.tmps.getD 3 undef, ac.tmps.getD 4 undef, .pointer (some ⟨bx, 0, none⟩), .pointer (some ⟨bz, 0, none⟩), ac.tmps.getD 7 undef, .slice (some ⟨gl, 0, none⟩) 2 cl, ac.tmps.getD 9 undef, ac.tmps.getD 10 undef, ac.tmps.getD 11 undef, ac.tmps.getD 12 undef, ac.tmps.getD 13 undef, ac.tmps.getD 14 undef, ac.tmps.getD 15 undef, ac.tmps.getD 16 undef, ac.tmps.getD 17 undef, ac.tmps.getD 18 undef, ac.tmps.getD 19 undef, ac.tmps.getD 20 undef, ac.tmps.getD 21 undef, ac.tmps.getD 22 undef, ac.tmps.getD 23 undef, ac.tmps.getD 24 undef, ac.tmps.getD 25 undef, ac.tmps.getD 26 undef, ac.tmps.getD 27 undef, ac.tmps.getD 28 undef, ac.tmps.getD 29 undef, ac.tmps.getD 30 undef, ac.tmps.getD 31 undef, ac.tmps.getD 32 undef, ac.tmps.getD 33 undef, ac.tmps.getD 34 undef, ac.tmps.getD 35 undef, ac.tmps.getD 36 undef, ac.tmps.getD 37 undef, ac.tmps.getD 38 undef, ac.tmps.getD 39 undef, ac.tmps.getD 40 undef, ac.tmps.getD 41 undef, ac.tmps.getD 42 undef, ac.tmps.getD 43 undef, ac.tmps.getD 44 undef, ac.tmps.getD 45 undef, ac.tmps.getD 46 undef, ac.tmps.getD 47 undef, ac.tmps.getD 48 undef, ac.tmps.getD 49 undef, ac.tmps.getD 50 undef, ac.tmps.getD 51 undef, ac.tmps.getD 52 undef, ac.tmps.getD 53 undef, ac.tmps.getD 54 undef, ac.tmps.getD 55 undef, ac.tmps.getD 56 undef, ac.tmps.getD 57 undef, ac.tmps.getD 58 undef, ac.tmps.getD 59 undef, ac.tmps.getD 60 undef, ac.tmps.getD 61 undef, ac.tmps.getD 62 undef, ac.tmps.getD 63 undef, ac.tmps.getD 64 undef, ac.tmps.getD 65 undef, ac.tmps.getD 66 undef, ac.tmps.getD 67 undef, ac.tmps.getD 68 undef, ac.tmps.getD 69 undef, ac.tmps.getD 70 undef, ac.tmps.getD 71 undef, ac.tmps.getD 72 undef, ac.tmps.getD 73 undef, ac.tmps.getD 74 undef, ac.tmps.getD 75 undef, ac.tmps.getD 76 undef, ac.tmps.getD 77 undef, ac.tmps.getD 78 undef, ac.tmps.getD 79 undef, ac.tmps.getD 80 undef, ac.tmps.getD 81 undef, ac.tmps.getD 82 undef, ac.tmps.getD 83 undef, ac.tmps.getD 84 undef, ac.tmps.getD 85 undef, ac.tmps.getD 86 undef, ac.tmps.getD 87 undef, ac.tmps.getD 88 undef, ac.tmps.getD 89 undef, ac.tmps.getD 90 undef, ac.tmps.getD 91 undef, ac.tmps.getD 92 undef, ac.tmps.getD 93 undef, ac.tmps.getD 94 undef, ac.tmps.getD 95 undef, ac.tmps.getD 96 undef, ac.tmps.getD 97 undef, .int .i64 9, ac.tmps.getD 99 undef, ac.tmps.getD 100 undef, .agg #[(.int .i64 v1), (.int .i64 v2), (.int .i64 v3), (.string v4)], ac.tmps.getD 102 undef, ac.tmps.getD 103 undef, .agg #[(.int .i64 v1), (.int .i64 v2), (.int .i64 v3), (.string v4)], .agg #[(.int .i64 q1), (.int .i64 q2), (.int .i64 q3), (.string q4)]], []⟩ → Below Wd.heap.size Wd X → GG 2 #[true, true, true, true, true, true, true, true, true, false, false] ac X := by
        intro ac X ha GD
        obtain ⟨u, rfl⟩ : ∃ u : Nat → Value, ac = ⟨#[u 0, u 1, u 2, u 3, u 4, .pointer (some ⟨bx, 0, none⟩), .pointer (some ⟨bz, 0, none⟩), u 7, .slice (some ⟨gl, 0, none⟩) 2 cl, u 9, u 10, u 11, u 12, u 13, u 14, u 15, u 16, u 17, u 18, u 19, u 20, u 21, u 22, u 23, u 24, u 25, u 26, u 27, u 28, u 29, u 30, u 31, u 32, u 33, u 34, u 35, u 36, u 37, u 38, u 39, u 40, u 41, u 42, u 43, u 44, u 45, u 46, u 47, u 48, u 49, u 50, u 51, u 52, u 53, u 54, u 55, u 56, u 57, u 58, u 59, u 60, u 61, u 62, u 63, u 64, u 65, u 66, u 67, u 68, u 69, u 70, u 71, u 72, u 73, u 74, u 75, u 76, u 77, u 78, u 79, u 80, u 81, u 82, u 83, u 84, u 85, u 86, u 87, u 88, u 89, u 90, u 91, u 92, u 93, u 94, u 95, u 96, u 97, .int .i64 9, u 99, u 100, .agg #[(.int .i64 v1), (.int .i64 v2), (.int .i64 v3), (.string v4)], u 102, u 103, .agg #[(.int .i64 v1), (.int .i64 v2), (.int .i64 v3), (.string v4)], .agg #[(.int .i64 q1), (.int .i64 q2), (.int .i64 q3), (.string q4)]], []⟩ := ⟨fun i => ac.tmps.getD i undef, ha⟩
        clear ha
        refine unhide HIN _ _ _ _ ?_
        have hHeld : (SRq bx g1 c1 gl (v1, v2, v3, v4)) X := (unhide hQ).call GD
        have lz := (unhide hZ).call GD
        have lz9 := lz.lt
        have z0 := lz.cell 0
        have f0 := lz.froz 0
        have z1 := lz.cell 1
        have f1 := lz.froz 1
        have z2 := lz.cell 2
        have f2 := lz.froz 2
        have z3 := lz.cell 3
        have f3 := lz.froz 3
        simp at z0 z1 z2 z3
        have RE : Blk bz #[(.int .i64 q1), (.int .i64 q2), (.int .i64 q3), (.string q4)] 28 ((((X.setCell ⟨bz, 0, none⟩ ((.int .i64 q1))).setCell ⟨bz, 1, none⟩ ((.int .i64 q2))).setCell ⟨bz, 2, none⟩ ((.int .i64 q3))).setCell ⟨bz, 3, none⟩ ((.string q4))) := heapSet4 lz _ _ _ _
        have lwz : w.heap.size ≤ bz := unhide LZ
        have GE : Grown w _ := ((((((unhide hGw).call GD : Grown w X) : Below w.heap.size w X).setCell (p := ⟨bz, 0, none⟩) lwz (.int .i64 q1)).setCell (p := ⟨bz, 1, none⟩) lwz (.int .i64 q2)).setCell (p := ⟨bz, 2, none⟩) lwz (.int .i64 q3)).setCell (p := ⟨bz, 3, none⟩) lwz (.string q4)
        have SE := (((((unhide hQ).call GD).set nz1 nz2 0 (.int .i64 q1)).set nz1 nz2 1 (.int .i64 q2)).set nz1 nz2 2 (.int .i64 q3)).set nz1 nz2 3 (.string q4)
        refine wpAnyH_ready (rs := [9]) (by kernel_rfl) (by simp) ?_
        refine AllReadyH.cons rfl (fun K20028 hK20028 => ?_) AllReadyH.nil
        go_simp
        refine hK20028.out _ _ ?hs20028 (fun hHeld20028 => ?_)
        case hs20028 => exact SE
        clear hHeld
        have hHeld := hHeld20028; clear hHeld20028 hK20028 K20028
        refine wpAnyH_take (i := 10) (oi := ?oi20029) (v := ?v20029) ?hi20029 (by kernel_rfl) (by kernel_rfl) (by kernel_rfl) (fun _ _ _ h => h) (Or.inl ⟨?hw20029, ?hy20029⟩) (by assumption) ?rest20029
        case hi20029 => (simp only [List.getElem?_toArray, List.getElem?_cons_zero, List.getElem?_cons_succ]; rfl)
        case hw20029 => rfl
        case hy20029 => first | (intro wx hSw; go_simp; done) | (intro wx hSw; go_simp; with_reducible rfl)
        simp only [Act.put, List.setIfInBounds_toArray, List.set_cons_zero, List.set_cons_succ]
        refine wpAnyH_done (by kernel_rfl) ?_ _
        refine NoPanic.normal ?_
        skip
        exact unhide REST28 _ _ (by kernel_rfl) (hide RE) (hide GE)
      have C1 := hide C1
      have C0 : ∀ (ac : Act) (X : World), ac = ⟨#[ac.tmps.getD 0 undef, ac.tmps.getD 1 undef, ac.tmps.getD 2 undef, ac.tmps.getD 3 undef, ac.tmps.getD 4 undef, .pointer (some ⟨bx, 0, none⟩), .pointer (some ⟨bz, 0, none⟩), ac.tmps.getD 7 undef, .slice (some ⟨gl, 0, none⟩) 2 cl, ac.tmps.getD 9 undef, ac.tmps.getD 10 undef, ac.tmps.getD 11 undef, ac.tmps.getD 12 undef, ac.tmps.getD 13 undef, ac.tmps.getD 14 undef, ac.tmps.getD 15 undef, ac.tmps.getD 16 undef, ac.tmps.getD 17 undef, ac.tmps.getD 18 undef, ac.tmps.getD 19 undef, ac.tmps.getD 20 undef, ac.tmps.getD 21 undef, ac.tmps.getD 22 undef, ac.tmps.getD 23 undef, ac.tmps.getD 24 undef, ac.tmps.getD 25 undef, ac.tmps.getD 26 undef, ac.tmps.getD 27 undef, ac.tmps.getD 28 undef, ac.tmps.getD 29 undef, ac.tmps.getD 30 undef, ac.tmps.getD 31 undef, ac.tmps.getD 32 undef, ac.tmps.getD 33 undef, ac.tmps.getD 34 undef, ac.tmps.getD 35 undef, ac.tmps.getD 36 undef, ac.tmps.getD 37 undef, ac.tmps.getD 38 undef, ac.tmps.getD 39 undef, ac.tmps.getD 40 undef, ac.tmps.getD 41 undef, ac.tmps.getD 42 undef, ac.tmps.getD 43 undef, ac.tmps.getD 44 undef, ac.tmps.getD 45 undef, ac.tmps.getD 46 undef, ac.tmps.getD 47 undef, ac.tmps.getD 48 undef, ac.tmps.getD 49 undef, ac.tmps.getD 50 undef, ac.tmps.getD 51 undef, ac.tmps.getD 52 undef, ac.tmps.getD 53 undef, ac.tmps.getD 54 undef, ac.tmps.getD 55 undef, ac.tmps.getD 56 undef, ac.tmps.getD 57 undef, ac.tmps.getD 58 undef, ac.tmps.getD 59 undef, ac.tmps.getD 60 undef, ac.tmps.getD 61 undef, ac.tmps.getD 62 undef, ac.tmps.getD 63 undef, ac.tmps.getD 64 undef, ac.tmps.getD 65 undef, ac.tmps.getD 66 undef, ac.tmps.getD 67 undef, ac.tmps.getD 68 undef, ac.tmps.getD 69 undef, ac.tmps.getD 70 undef, ac.tmps.getD 71 undef, ac.tmps.getD 72 undef, ac.tmps.getD 73 undef, ac.tmps.getD 74 undef, ac.tmps.getD 75 undef, ac.tmps.getD 76 undef, ac.tmps.getD 77 undef, ac.tmps.getD 78 undef, ac.tmps.getD 79 undef, ac.tmps.getD 80 undef, ac.tmps.getD 81 undef, ac.tmps.getD 82 undef, ac.tmps.getD 83 undef, ac.tmps.getD 84 undef, ac.tmps.getD 85 undef, ac.tmps.getD 86 undef, ac.tmps.getD 87 undef, ac.tmps.getD 88 undef, ac.tmps.getD 89 undef, ac.tmps.getD 90 undef, ac.tmps.getD 91 undef, ac.tmps.getD 92 undef, ac.tmps.getD 93 undef, ac.tmps.getD 94 undef, ac.tmps.getD 95 undef, ac.tmps.getD 96 undef, ac.tmps.getD 97 undef, .int .i64 9, ac.tmps.getD 99 undef, ac.tmps.getD 100 undef, .agg #[(.int .i64 v1), (.int .i64 v2), (.int .i64 v3), (.string v4)], ac.tmps.getD 102 undef, ac.tmps.getD 103 undef, .agg #[(.int .i64 v1), (.int .i64 v2), (.int .i64 v3), (.string v4)], ac.tmps.getD 105 undef], []⟩ → Below Wd.heap.size Wd X → GG 3 #[true, true, true, true, true, true, true, true, false, false, false] ac X := by
        intro ac X ha GD
        obtain ⟨u, rfl⟩ : ∃ u : Nat → Value, ac = ⟨#[u 0, u 1, u 2, u 3, u 4, .pointer (some ⟨bx, 0, none⟩), .pointer (some ⟨bz, 0, none⟩), u 7, .slice (some ⟨gl, 0, none⟩) 2 cl, u 9, u 10, u 11, u 12, u 13, u 14, u 15, u 16, u 17, u 18, u 19, u 20, u 21, u 22, u 23, u 24, u 25, u 26, u 27, u 28, u 29, u 30, u 31, u 32, u 33, u 34, u 35, u 36, u 37, u 38, u 39, u 40, u 41, u 42, u 43, u 44, u 45, u 46, u 47, u 48, u 49, u 50, u 51, u 52, u 53, u 54, u 55, u 56, u 57, u 58, u 59, u 60, u 61, u 62, u 63, u 64, u 65, u 66, u 67, u 68, u 69, u 70, u 71, u 72, u 73, u 74, u 75, u 76, u 77, u 78, u 79, u 80, u 81, u 82, u 83, u 84, u 85, u 86, u 87, u 88, u 89, u 90, u 91, u 92, u 93, u 94, u 95, u 96, u 97, .int .i64 9, u 99, u 100, .agg #[(.int .i64 v1), (.int .i64 v2), (.int .i64 v3), (.string v4)], u 102, u 103, .agg #[(.int .i64 v1), (.int .i64 v2), (.int .i64 v3), (.string v4)], u 105], []⟩ := ⟨fun i => ac.tmps.getD i undef, ha⟩
        clear ha
        refine unhide HIN _ _ _ _ ?_
        have hHeld : (SRq bx g1 c1 gl (v1, v2, v3, v4)) X := (unhide hQ).call GD
        refine wpAnyH_ready (rs := [8]) (by kernel_rfl) (by simp) ?_
        refine AllReadyH.cons rfl (fun K20030 hK20030 => ?_) AllReadyH.nil
        go_simp
        go_wp2_with (go_at_call 50; refine (unhide CQ _).mono ?_; rintro e X2 ⟨rfl, hb⟩)
        refine hK20030.out _ _ ?hs20030 (fun hH20030 => ?_)
        case hs20030 => exact hHeld.call hb
        clear hHeld
        have hHeld := hH20030; clear hH20030 hK20030 K20030
        refine unhide HOUT _ _ _ _ ?_
        exact unhide C1 _  _ (by kernel_rfl) (GD.trans (hb.mono GD.size)) 
      have C0 := hide C0
      exact unhide C0 _ _ (by kernel_rfl) (Below.refl _ _)
end Go.Proofs.Ytliefgkhpgigaaa
