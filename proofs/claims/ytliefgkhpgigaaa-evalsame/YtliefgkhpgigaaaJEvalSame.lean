/-
  What the law EvalSame needs: its rows, its expressions, its walk.
-/
import Derived.Test.YtliefgkhpgigaaaVRf
import Derived.Test.YtliefgkhpgigaaaVRw
import Derived.OpenShut
import Derived.ProofKit
import Derived.Carry
namespace Go.Proofs.Ytliefgkhpgigaaa
open Go.RowKit Go.Shelf
set_option linter.unusedSimpArgs false
set_option linter.unusedVariables false

set_option maxHeartbeats 4000000 in
set_option maxRecDepth 100000 in
theorem rEval_col (t0 t2 t3 t4 t5 t6 t7 t8 t9 t10 t11 : Value) (g cap : Nat) (cs : List C3) (p : Option Addr) (vs : List V4) (rcap : Nat) (nm : ByteArray) (v : V4) (w : World) (hr : valFrom nm cs vs = some v) (hC : ColsOf (.slice (some ⟨g, 0, none⟩) cs.length cap) cs w) (hrow : RowOf p vs w) :
    Calls Try.prog 20 #[.agg #[t0, .slice (some ⟨g, 0, none⟩) cs.length cap, t2, t3, t4, t5, t6, t7, t8, t9, t10, t11], .slice p vs.length rcap, .agg (exC (colX nm) N0).toArray] w (FinV (v, 0) w) := by
  obtain ⟨k, hk, hix, hvk⟩ := ix_val nm cs vs v 0 hr
  obtain ⟨h1000, hrv⟩ := hrow
  obtain ⟨gr, rfl, hgr, b0, b1, b2, b3⟩ := hrv k hk
  rw [hvk] at b0 b1 b2 b3
  rw [show ((0 + k : Nat) : Int) = (k : Int) by simp] at hix
  have hki : (k : Int) < vs.length := by omega
  have CC := hide (fun (W : World) (h : ColsOf (.slice (some ⟨g, 0, none⟩) cs.length cap) cs W) => (hix ▸ rcolumn_any t0 t2 t3 t4 t5 t6 t7 t8 t9 t10 t11 (.slice (some ⟨g, 0, none⟩) cs.length cap) cs nm W h : Calls Try.prog 39 #[.agg #[t0, .slice (some ⟨g, 0, none⟩) cs.length cap, t2, t3, t4, t5, t6, t7, t8, t9, t10, t11], .string nm] W fun e W' => e = .returned (.int .i64 (k : Int)) ∧ Below W.heap.size W W'))
  obtain ⟨v1, v2, v3, v4⟩ := v
  have HC := hide hC
  clear hr hix hvk hrv hC
  go_enter Try.func20, Try.ntmps20
  go_wp2_with fail
  have hT := ((Blk.new w #[t0, .slice (some ⟨g, 0, none⟩) cs.length cap, t2, t3, t4, t5, t6, t7, t8, t9, t10, t11] 34).call (below_new _ (.cells #[.int .i64 2, .string nm, .int .i64 0, .int .i64 0, .int .i64 0, .string ⟨#[]⟩, .slice none 0 0] 31))).call (below_new _ (.cells #[.int .i64 0, .int .i64 0, .int .i64 0, .string ⟨#[]⟩] 28))
  have hX := (Blk.new (w.alloc (.cells #[t0, .slice (some ⟨g, 0, none⟩) cs.length cap, t2, t3, t4, t5, t6, t7, t8, t9, t10, t11] 34)) #[.int .i64 2, .string nm, .int .i64 0, .int .i64 0, .int .i64 0, .string ⟨#[]⟩, .slice none 0 0] 31).call (below_new _ (.cells #[.int .i64 0, .int .i64 0, .int .i64 0, .string ⟨#[]⟩] 28))
  have hZ := Blk.new ((w.alloc (.cells #[t0, .slice (some ⟨g, 0, none⟩) cs.length cap, t2, t3, t4, t5, t6, t7, t8, t9, t10, t11] 34)).alloc (.cells #[.int .i64 2, .string nm, .int .i64 0, .int .i64 0, .int .i64 0, .string ⟨#[]⟩, .slice none 0 0] 31)) #[.int .i64 0, .int .i64 0, .int .i64 0, .string ⟨#[]⟩] 28
  rw [World.size_alloc] at hX
  rw [World.size_alloc, World.size_alloc] at hZ
  have hG := below_3 w (.cells #[t0, .slice (some ⟨g, 0, none⟩) cs.length cap, t2, t3, t4, t5, t6, t7, t8, t9, t10, t11] 34) (.cells #[.int .i64 2, .string nm, .int .i64 0, .int .i64 0, .int .i64 0, .string ⟨#[]⟩, .slice none 0 0] 31) (.cells #[.int .i64 0, .int .i64 0, .int .i64 0, .string ⟨#[]⟩] 28)
  refine (unhide CC _ ((unhide HC).call hG)).mono ?_
  rintro e W1 ⟨rfl, hb⟩
  replace hZ := hZ.call hb
  replace hG := hG.trans (hb.mono hG.size)
  have c0 := (hG.cell (p := ⟨gr, k * 4, none⟩) hgr).trans b0
  have c1 := (hG.cell (p := ⟨gr, k * 4 + 1, none⟩) hgr).trans b1
  have c2 := (hG.cell (p := ⟨gr, k * 4 + 2, none⟩) hgr).trans b2
  have c3 := (hG.cell (p := ⟨gr, k * 4 + 3, none⟩) hgr).trans b3
  have lz := hZ.lt
  have z0 := hZ.cell 0
  have z1 := hZ.cell 1
  have z2 := hZ.cell 2
  have z3 := hZ.cell 3
  have f0 := hZ.froz 0
  have f1 := hZ.froz 1
  have f2 := hZ.froz 2
  have f3 := hZ.froz 3
  simp at z0 z1 z2 z3
  clear hT hX hb CC HC b0 b1 b2 b3
  go_wp2_with fail
  refine bodyPost_ret (v := .tuple #[.agg (vC (v1, v2, v3, v4)).toArray, .int .i64 0]) (by simp [results, Try.results20, go_sem, z0, z1, z2, z3, lz]) rfl ⟨rfl, ?_⟩
  exact (((hG.setCell (p := ⟨w.heap.size + 1 + 1, 0, none⟩) (by simp; omega) _).setCell (p := ⟨w.heap.size + 1 + 1, 1, none⟩) (by simp; omega) _).setCell (p := ⟨w.heap.size + 1 + 1, 2, none⟩) (by simp; omega) _).setCell (p := ⟨w.heap.size + 1 + 1, 3, none⟩) (by simp; omega) _
def SRe (tb : Array Value) (bt bx g1 c1 : Nat) (nm : ByteArray) (X : World) : Prop := Blk bt tb 34 X ∧ Blk bx #[.int .i64 9, .string ⟨#[]⟩, .int .i64 0, .int .i64 0, .int .i64 0, .string ⟨#[]⟩, .slice (some ⟨g1, 0, none⟩) 2 c1] 31 X ∧ CellsAt g1 0 (exC (colX nm) N0) X ∧ CellsAt g1 7 (exC (colX nm) N0) X
theorem SRe.call {tb : Array Value} {bt bx g1 c1 : Nat} {nm : ByteArray} {W W' : World} (h : SRe tb bt bx g1 c1 nm W) (hb : Below W.heap.size W W') : SRe tb bt bx g1 c1 nm W' := ⟨h.1.call hb, h.2.1.call hb, h.2.2.1.call hb, h.2.2.2.call hb⟩
theorem SRe.at {tb : Array Value} {bt bx g1 c1 : Nat} {nm : ByteArray} {W : World} (h : SRe tb bt bx g1 c1 nm W) (k : Nat) (hk : k < 2) : CellsAt g1 (k * 7) (exC (colX nm) N0) W := by
  match k, hk with
  | 0, _ => exact h.2.2.1
  | 1, _ => exact h.2.2.2
def OwR (B : Nat) (lv : Value) (l : List V4) (X : World) : Prop := X.ownsRow B 28 4 lv l.length (rowC l)
theorem OwR.call {B : Nat} {lv : Value} {l : List V4} {W W' : World} (h : OwR B lv l W) (hb : Below W.heap.size W W') : OwR B lv l W' := owns_call4 h hb
def SRq (bx g1 c1 gl : Nat) (v : V4) (X : World) : Prop := Blk bx #[.int .i64 9, .string ⟨#[]⟩, .int .i64 0, .int .i64 0, .int .i64 0, .string ⟨#[]⟩, .slice (some ⟨g1, 0, none⟩) 2 c1] 31 X ∧ RowOf (some ⟨gl, 0, none⟩) [v, v] X
theorem SRq.call {bx g1 c1 gl : Nat} {v : V4} {W W' : World} (h : SRq bx g1 c1 gl v W) (hb : Below W.heap.size W W') : SRq bx g1 c1 gl v W' := ⟨h.1.call hb, h.2.call hb⟩
theorem cell_heapR {W W' : World} {g i : Nat} (h : W'.heap[g]? = W.heap[g]?) : W'.cell? ⟨g, i, none⟩ = W.cell? ⟨g, i, none⟩ := by simp [World.cell?, h]
theorem row_set {gl b : Nat} {vs : List V4} {W : World} (h : RowOf (some ⟨gl, 0, none⟩) vs W) (hne : gl ≠ b) (j : Nat) (y : Value) : RowOf (some ⟨gl, 0, none⟩) vs (W.setCell ⟨b, j, none⟩ y) := by
  refine ⟨h.1, fun i hi => ?_⟩
  obtain ⟨g, h1, h2, h3⟩ := h.2 i hi
  cases h1
  have hh : (W.setCell ⟨b, j, none⟩ y).heap[gl]? = W.heap[gl]? := Below.heap_setCell _ _ _ _ (by simp; omega)
  exact ⟨gl, rfl, by simpa using h2, (cell_heapR hh).trans h3.1, (cell_heapR hh).trans h3.2.1, (cell_heapR hh).trans h3.2.2.1, (cell_heapR hh).trans h3.2.2.2⟩
theorem SRq.set {bx g1 c1 gl b : Nat} {v : V4} {W : World} (h : SRq bx g1 c1 gl v W) (h1 : bx ≠ b) (h2 : gl ≠ b) (j : Nat) (y : Value) : SRq bx g1 c1 gl v (W.setCell ⟨b, j, none⟩ y) := ⟨h.1.set h1 j y, row_set h.2 h2 j y⟩
theorem blk_neR {b c : Nat} {cs ds : Array Value} {T T' : TypeId} {W : World} (h : Blk c cs T W) (h' : Blk b ds T' W) (hs : cs.size ≠ ds.size) : c ≠ b := by
  rintro rfl
  have := Option.some.inj (h.symm.trans h')
  injection this with h1 _ _
  exact hs (by rw [h1])
def AtW (w : World) (b : Nat) : Prop := w.heap.size ≤ b
theorem cells_7 {g o : Nat} {W : World} {x0 x1 x2 x3 x4 x5 x6 : Value} (h : CellsAt g o [x0, x1, x2, x3, x4, x5, x6] W) : g < W.heap.size ∧ W.cell? ⟨g, o, none⟩ = some x0 ∧ W.cell? ⟨g, o + 1, none⟩ = some x1 ∧ W.cell? ⟨g, o + 2, none⟩ = some x2 ∧ W.cell? ⟨g, o + 3, none⟩ = some x3 ∧ W.cell? ⟨g, o + 4, none⟩ = some x4 ∧ W.cell? ⟨g, o + 5, none⟩ = some x5 ∧ W.cell? ⟨g, o + 6, none⟩ = some x6 :=
  ⟨h.1, h.2 0 (by simp), h.2 1 (by simp), h.2 2 (by simp), h.2 3 (by simp), h.2 4 (by simp), h.2 5 (by simp), h.2 6 (by simp)⟩
set_option maxHeartbeats 16000000 in
set_option maxRecDepth 100000 in
theorem rEval_eq (t0 t2 t3 t4 t5 t6 t7 t8 t9 t10 t11 : Value) (g cap : Nat) (cs : List C3) (p : Option Addr) (vs : List V4) (rcap : Nat) (nm : ByteArray) (v : V4) (lv0 : Value) (w : World) (hr : valFrom nm cs vs = some v) (hd : DecIn v.1 v.2.1 v.2.2.1) (hC : ColsOf (.slice (some ⟨g, 0, none⟩) cs.length cap) cs w) (hrow : RowOf p vs w) (hRp : Rep (twoX 9 (colX nm) (colX nm)) lv0 w) :
    Calls Try.prog 20 #[.agg #[t0, .slice (some ⟨g, 0, none⟩) cs.length cap, t2, t3, t4, t5, t6, t7, t8, t9, t10, t11], .slice p vs.length rcap, .agg (exC (twoX 9 (colX nm) (colX nm)) lv0).toArray] w (FinV (rcmpV 9 v v, 0) w) := by
  obtain ⟨i0, hi, hz0, hz1, hz2⟩ := infoParts info_v4
  obtain ⟨g1, c1, la, lb, rfl, hA, hB, rfl, rfl⟩ := hRp
  have CE := hide (fun (W : World) h1 h2 => rEval_col t0 t2 t3 t4 t5 t6 t7 t8 t9 t10 t11 g cap cs p vs rcap nm v W hr h1 h2)
  have CQ := hide (fun W => rcompares_any 9 v v W hd hd)
  generalize rcmpV 9 v v = res at *
  obtain ⟨v1, v2, v3, v4⟩ := v
  show Calls Try.prog 20 #[.agg #[t0, .slice (some ⟨g, 0, none⟩) cs.length cap, t2, t3, t4, t5, t6, t7, t8, t9, t10, t11], .slice p vs.length rcap, .agg #[.int .i64 9, .string ⟨#[]⟩, .int .i64 0, .int .i64 0, .int .i64 0, .string ⟨#[]⟩, .slice (some ⟨g1, 0, none⟩) 2 c1]] w (FinV (res, 0) w)
  clear hr hd
  go_enter Try.func20, Try.ntmps20
  go_wp2
  have hT := ((Blk.new w #[t0, .slice (some ⟨g, 0, none⟩) cs.length cap, t2, t3, t4, t5, t6, t7, t8, t9, t10, t11] 34).call (below_new _ (.cells #[.int .i64 9, .string ⟨#[]⟩, .int .i64 0, .int .i64 0, .int .i64 0, .string ⟨#[]⟩, .slice (some ⟨g1, 0, none⟩) 2 c1] 31))).call (below_new _ (.cells #[.int .i64 0, .int .i64 0, .int .i64 0, .string ⟨#[]⟩] 28))
  have hX := (Blk.new (w.alloc (.cells #[t0, .slice (some ⟨g, 0, none⟩) cs.length cap, t2, t3, t4, t5, t6, t7, t8, t9, t10, t11] 34)) #[.int .i64 9, .string ⟨#[]⟩, .int .i64 0, .int .i64 0, .int .i64 0, .string ⟨#[]⟩, .slice (some ⟨g1, 0, none⟩) 2 c1] 31).call (below_new _ (.cells #[.int .i64 0, .int .i64 0, .int .i64 0, .string ⟨#[]⟩] 28))
  have hZ := Blk.new ((w.alloc (.cells #[t0, .slice (some ⟨g, 0, none⟩) cs.length cap, t2, t3, t4, t5, t6, t7, t8, t9, t10, t11] 34)).alloc (.cells #[.int .i64 9, .string ⟨#[]⟩, .int .i64 0, .int .i64 0, .int .i64 0, .string ⟨#[]⟩, .slice (some ⟨g1, 0, none⟩) 2 c1] 31)) #[.int .i64 0, .int .i64 0, .int .i64 0, .string ⟨#[]⟩] 28
  rw [World.size_alloc] at hX
  rw [World.size_alloc, World.size_alloc] at hZ
  have hG := below_3 w (.cells #[t0, .slice (some ⟨g, 0, none⟩) cs.length cap, t2, t3, t4, t5, t6, t7, t8, t9, t10, t11] 34) (.cells #[.int .i64 9, .string ⟨#[]⟩, .int .i64 0, .int .i64 0, .int .i64 0, .string ⟨#[]⟩, .slice (some ⟨g1, 0, none⟩) 2 c1] 31) (.cells #[.int .i64 0, .int .i64 0, .int .i64 0, .string ⟨#[]⟩] 28)
  have lb0 : w.heap.size ≤ w.heap.size + 1 + 1 := by omega
  have hS : Hid (SRe (#[t0, .slice (some ⟨g, 0, none⟩) cs.length cap, t2, t3, t4, t5, t6, t7, t8, t9, t10, t11]) w.heap.size (w.heap.size + 1) g1 c1 nm (((w.alloc (.cells #[t0, .slice (some ⟨g, 0, none⟩) cs.length cap, t2, t3, t4, t5, t6, t7, t8, t9, t10, t11] 34)).alloc (.cells #[.int .i64 9, .string ⟨#[]⟩, .int .i64 0, .int .i64 0, .int .i64 0, .string ⟨#[]⟩, .slice (some ⟨g1, 0, none⟩) 2 c1] 31)).alloc (.cells #[.int .i64 0, .int .i64 0, .int .i64 0, .string ⟨#[]⟩] 28))) := ⟨hT, hX, hA.call hG, hB.call hG⟩
  replace hC := hide (hC.call hG)
  have hR := hide (hrow.call hG)
  clear hrow hT hX hA hB
  generalize (((w.alloc (.cells #[t0, .slice (some ⟨g, 0, none⟩) cs.length cap, t2, t3, t4, t5, t6, t7, t8, t9, t10, t11] 34)).alloc (.cells #[.int .i64 9, .string ⟨#[]⟩, .int .i64 0, .int .i64 0, .int .i64 0, .string ⟨#[]⟩, .slice (some ⟨g1, 0, none⟩) 2 c1] 31)).alloc (.cells #[.int .i64 0, .int .i64 0, .int .i64 0, .string ⟨#[]⟩] 28)) = W0 at *
  generalize w.heap.size + 1 + 1 = bz at *
  generalize w.heap.size + 1 = bx at *
  have HG : Hid (Grown w W0) := hG
  have HZ := hide hZ
  have LZ : Hid (AtW w bz) := lb0
  clear hG hZ lb0
  generalize w.heap.size = bt at *
  have HC0 := hC
  have HR0 := hR
  have HS0 := hS
  clear hC hR hS
  go_loopw [8, 9] (fun u8 i wr => ∃ k : Nat, k ≤ 2 ∧ i = .int .i64 (k : Int) ∧ Hid (OwR W0.heap.size u8 (List.replicate k (v1, v2, v3, v4)) wr) ∧ Hid (Grown W0 wr)) (fun u8 i wr => 2 - (intOf i).toNat)
  case atStart => exact ⟨0, by decide, rfl, hide (World.ownsRow_nil _ _ _ _), hide (Below.refl _ _)⟩
  case round =>
    obtain ⟨k, hk, rfl, hO, hW⟩ := hrel
    have hC := hide ((unhide HC0).call (unhide hW))
    have hR := hide ((unhide HR0).call (unhide hW))
    have hS := hide ((unhide HS0).call (unhide hW))
    have lx := (unhide hS).2.1.lt
    have x0 := (unhide hS).2.1.cell 0
    have x6 := (unhide hS).2.1.cell 6
    simp at x0 x6
    by_cases hlt : k < 2
    · have hki : (k : Int) < 2 := by omega
      have hw9 : IntKind.i64.wrap ((k : Int) + 1) = (k : Int) + 1 := IntWalk.i64_in _ (by omega)
      go_wp2_with fail
      rename_i K11 hk11
      have REST11 : ∀ (ac : Act) (bv : Nat) (X : World), ac = ⟨#[.agg #[t0, .slice (some ⟨g, 0, none⟩) cs.length cap, t2, t3, t4, t5, t6, t7, t8, t9, t10, t11], .slice p vs.length rcap, .agg #[.int .i64 9, .string ⟨#[]⟩, .int .i64 0, .int .i64 0, .int .i64 0, .string ⟨#[]⟩, .slice (some ⟨g1, 0, none⟩) 2 c1], .pointer (some ⟨bt, 0, none⟩), undef, .pointer (some ⟨bx, 0, none⟩), .pointer (some ⟨bz, 0, none⟩), ac.tmps.getD 7 undef, u8, .int .i64 (k : Int), .pointer (some ⟨bv, 0, none⟩), .int .i64 0, .pointer (some ⟨bx, 0, none⟩), .int .i64 9, .bool false, .bool false, undef, undef, .bool false, .bool false, undef, undef, undef, undef, undef, undef, undef, ac.tmps.getD 27 undef, ac.tmps.getD 28 undef, ac.tmps.getD 29 undef, ac.tmps.getD 30 undef, ac.tmps.getD 31 undef, ac.tmps.getD 32 undef, ac.tmps.getD 33 undef, ac.tmps.getD 34 undef, ac.tmps.getD 35 undef, ac.tmps.getD 36 undef, ac.tmps.getD 37 undef, ac.tmps.getD 38 undef, ac.tmps.getD 39 undef, ac.tmps.getD 40 undef, ac.tmps.getD 41 undef, ac.tmps.getD 42 undef, ac.tmps.getD 43 undef, ac.tmps.getD 44 undef, ac.tmps.getD 45 undef, ac.tmps.getD 46 undef, ac.tmps.getD 47 undef, ac.tmps.getD 48 undef, ac.tmps.getD 49 undef, ac.tmps.getD 50 undef, ac.tmps.getD 51 undef, ac.tmps.getD 52 undef, undef, undef, undef, undef, undef, undef, undef, undef, undef, undef, undef, undef, undef, undef, undef, undef, undef, undef, undef, undef, undef, undef, undef, undef, undef, undef, undef, undef, undef, undef, undef, undef, undef, undef, undef, undef, undef, undef, undef, undef, undef, undef, undef, undef, undef, undef, undef, undef, undef, undef, undef, undef, undef], []⟩ → Hid (ColsOf (.slice (some ⟨g, 0, none⟩) cs.length cap) cs X) → Hid (RowOf p vs X) → Hid (SRe (#[t0, .slice (some ⟨g, 0, none⟩) cs.length cap, t2, t3, t4, t5, t6, t7, t8, t9, t10, t11]) bt bx g1 c1 nm X) → Hid (OwR W0.heap.size u8 (List.replicate k (v1, v2, v3, v4)) X) → Hid (Grown W0 X) → Hid (Blk bv #[(.int .i64 v1), (.int .i64 v2), (.int .i64 v3), (.string v4)] 28 X) → K11 ac X := by
        clear x0 x6 lx hC hR hS hO hW
        intro ac bv X ha hC hR hS hO hW hV
        obtain ⟨u, rfl⟩ : ∃ u : Nat → Value, ac = ⟨#[.agg #[t0, .slice (some ⟨g, 0, none⟩) cs.length cap, t2, t3, t4, t5, t6, t7, t8, t9, t10, t11], .slice p vs.length rcap, .agg #[.int .i64 9, .string ⟨#[]⟩, .int .i64 0, .int .i64 0, .int .i64 0, .string ⟨#[]⟩, .slice (some ⟨g1, 0, none⟩) 2 c1], .pointer (some ⟨bt, 0, none⟩), undef, .pointer (some ⟨bx, 0, none⟩), .pointer (some ⟨bz, 0, none⟩), u 7, u8, .int .i64 (k : Int), .pointer (some ⟨bv, 0, none⟩), .int .i64 0, .pointer (some ⟨bx, 0, none⟩), .int .i64 9, .bool false, .bool false, undef, undef, .bool false, .bool false, undef, undef, undef, undef, undef, undef, undef, u 27, u 28, u 29, u 30, u 31, u 32, u 33, u 34, u 35, u 36, u 37, u 38, u 39, u 40, u 41, u 42, u 43, u 44, u 45, u 46, u 47, u 48, u 49, u 50, u 51, u 52, undef, undef, undef, undef, undef, undef, undef, undef, undef, undef, undef, undef, undef, undef, undef, undef, undef, undef, undef, undef, undef, undef, undef, undef, undef, undef, undef, undef, undef, undef, undef, undef, undef, undef, undef, undef, undef, undef, undef, undef, undef, undef, undef, undef, undef, undef, undef, undef, undef, undef, undef, undef, undef], []⟩ := ⟨fun i => ac.tmps.getD i undef, ha⟩
        clear ha
        refine hk11 _ _ ?_
        clear hk11
        have lv9 := (unhide hV).lt
        have v0 := (unhide hV).cell 0
        have v1_ := (unhide hV).cell 1
        have v2_ := (unhide hV).cell 2
        have v3_ := (unhide hV).cell 3
        simp at v0 v1_ v2_ v3_
        have hrow := unhide hO
        have hB : Below W0.heap.size W0 X := unhide hW
        have lB := hB.size
        go_wp2_with (at_builtin; refine wpList_append_lies _ rfl _ _ 42 rfl W0.heap.size 28 i0 _ 4 40 Try.underlying42 hi hz0 hz1 hz2 rfl (by decide) u8 _ _ rfl (hrow.alloc _) ⟨X.heap.size, 0, none⟩ 1 1 [(.int .i64 v1), (.int .i64 v2), (.int .i64 v3), (.string v4)] rfl rfl (cells_four_at X _ rfl _ _ _ _ _) (by simp [Value.oneCell']) (by decide) (by unfold maxLen; simp; omega) (by simp; omega) (by simp; omega) _ rfl ?_; intro g2 cp2 w4 hown4 hgrow4 hat4 _)
        refine ⟨⟨k + 1, by omega, by simp, hide ?_, hide (below_rowG hB hrow hgrow4)⟩, by simp [intOf]; omega⟩
        show World.ownsRow _ _ _ _ _ _ _
        rw [List.replicate_succ', rowC_snoc]; simpa using hown4
      have REST11 := hide REST11
      clear hk11 HG HZ LZ HC0 HR0 HS0 CQ x0 x6 lx
      refine wp_region_noPanic ?_
      refine wp_region_held_drew (S := (SRe (#[t0, .slice (some ⟨g, 0, none⟩) cs.length cap, t2, t3, t4, t5, t6, t7, t8, t9, t10, t11]) bt bx g1 c1 nm)) (by kernel_rfl) ((unhide hS).call (Below.refl _ _).drew) (fun hHeld => ?_)
      have hbd : Below wr.heap.size wr wr.drew := (Below.refl _ _).drew
      replace hC := hide ((unhide hC).call hbd)
      replace hR := hide ((unhide hR).call hbd)
      replace hS := hide ((unhide hS).call hbd)
      replace hO := hide ((unhide hO).call hbd)
      replace hW := hide ((unhide hW).call hbd)
      clear hbd
      generalize wr.drew = Wd at *
      refine wpAnyH_take (i := 0) (oi := ?oi20001) (v := ?v20001) ?hi20001 (by kernel_rfl) (by kernel_rfl) (by kernel_rfl) (fun _ _ _ h => h) (Or.inl ⟨?hw20001, ?hy20001⟩) (by assumption) ?rest20001
      case hi20001 => (simp only [List.getElem?_toArray, List.getElem?_cons_zero]; rfl)
      case hw20001 => rfl
      case hy20001 => first | (intro wx hSw; have hT := hSw.1; have t0_ := Blk.cell hT 0; have t1_ := Blk.cell hT 1; have t2_ := Blk.cell hT 2; have t3_ := Blk.cell hT 3; have t4_ := Blk.cell hT 4; have t5_ := Blk.cell hT 5; have t6_ := Blk.cell hT 6; have t7_ := Blk.cell hT 7; have t8_ := Blk.cell hT 8; have t9_ := Blk.cell hT 9; have t10_ := Blk.cell hT 10; have t11_ := Blk.cell hT 11; simp at t0_ t1_ t2_ t3_ t4_ t5_ t6_ t7_ t8_ t9_ t10_ t11_; go_simp; done) | (intro wx hSw; have hT := hSw.1; have t0_ := Blk.cell hT 0; have t1_ := Blk.cell hT 1; have t2_ := Blk.cell hT 2; have t3_ := Blk.cell hT 3; have t4_ := Blk.cell hT 4; have t5_ := Blk.cell hT 5; have t6_ := Blk.cell hT 6; have t7_ := Blk.cell hT 7; have t8_ := Blk.cell hT 8; have t9_ := Blk.cell hT 9; have t10_ := Blk.cell hT 10; have t11_ := Blk.cell hT 11; simp at t0_ t1_ t2_ t3_ t4_ t5_ t6_ t7_ t8_ t9_ t10_ t11_; go_simp; with_reducible rfl)
      simp only [Act.put, List.setIfInBounds_toArray, List.set_cons_zero, List.set_cons_succ]
      refine wpAnyH_take (i := 1) (oi := ?oi20002) (v := ?v20002) ?hi20002 (by kernel_rfl) (by kernel_rfl) (by kernel_rfl) (fun _ _ _ h => h) (Or.inl ⟨?hw20002, ?hy20002⟩) (by assumption) ?rest20002
      case hi20002 => (simp only [List.getElem?_toArray, List.getElem?_cons_zero, List.getElem?_cons_succ]; rfl)
      case hw20002 => rfl
      case hy20002 => first | (intro wx hSw; go_simp; done) | (intro wx hSw; go_simp; with_reducible rfl)
      simp only [Act.put, List.setIfInBounds_toArray, List.set_cons_zero, List.set_cons_succ]
      refine wpAnyH_take (i := 2) (oi := ?oi20003) (v := ?v20003) ?hi20003 (by kernel_rfl) (by kernel_rfl) (by kernel_rfl) (fun _ _ _ h => h) (Or.inl ⟨?hw20003, ?hy20003⟩) (by assumption) ?rest20003
      case hi20003 => (simp only [List.getElem?_toArray, List.getElem?_cons_zero, List.getElem?_cons_succ]; rfl)
      case hw20003 => rfl
      case hy20003 => first | (intro wx hSw; go_simp; done) | (intro wx hSw; go_simp; with_reducible rfl)
      simp only [Act.put, List.setIfInBounds_toArray, List.set_cons_zero, List.set_cons_succ]
      refine wpAnyH_take (i := 3) (oi := ?oi20004) (v := ?v20004) ?hi20004 (by kernel_rfl) (by kernel_rfl) (by kernel_rfl) (fun _ _ _ h => h) (Or.inl ⟨?hw20004, ?hy20004⟩) (by assumption) ?rest20004
      case hi20004 => (simp only [List.getElem?_toArray, List.getElem?_cons_zero, List.getElem?_cons_succ]; rfl)
      case hw20004 => rfl
      case hy20004 => first | (intro wx hSw; have hX := hSw.2.1; have y6 := Blk.cell hX 6; have y9 := hX.lt; simp at y6; go_simp; done) | (intro wx hSw; have hX := hSw.2.1; have y6 := Blk.cell hX 6; have y9 := hX.lt; simp at y6; go_simp; with_reducible rfl)
      simp only [Act.put, List.setIfInBounds_toArray, List.set_cons_zero, List.set_cons_succ]
      refine wpAnyH_take (i := 4) (oi := ?oi20005) (v := ?v20005) ?hi20005 (by kernel_rfl) (by kernel_rfl) (by kernel_rfl) (fun _ _ _ h => h) (Or.inl ⟨?hw20005, ?hy20005⟩) (by assumption) ?rest20005
      case hi20005 => (simp only [List.getElem?_toArray, List.getElem?_cons_zero, List.getElem?_cons_succ]; rfl)
      case hw20005 => rfl
      case hy20005 => first | (intro wx hSw; go_simp; done) | (intro wx hSw; go_simp; with_reducible rfl)
      simp only [Act.put, List.setIfInBounds_toArray, List.set_cons_zero, List.set_cons_succ]
      refine wpAnyH_take (i := 5) (oi := ?oi20006) (v := ?v20006) ?hi20006 (by kernel_rfl) (by kernel_rfl) (by kernel_rfl) (fun _ _ _ h => h) (Or.inl ⟨?hw20006, ?hy20006⟩) (by assumption) ?rest20006
      case hi20006 => (simp only [List.getElem?_toArray, List.getElem?_cons_zero, List.getElem?_cons_succ]; rfl)
      case hw20006 => rfl
      case hy20006 => first | (intro wx hSw; go_simp; done) | (intro wx hSw; go_simp; with_reducible rfl)
      simp only [Act.put, List.setIfInBounds_toArray, List.set_cons_zero, List.set_cons_succ]
      refine wpAnyH_take (i := 6) (oi := ?oi20007) (v := ?v20007) ?hi20007 (by kernel_rfl) (by kernel_rfl) (by kernel_rfl) (fun _ _ _ h => h) (Or.inl ⟨?hw20007, ?hy20007⟩) (by assumption) ?rest20007
      case hi20007 => (simp only [List.getElem?_toArray, List.getElem?_cons_zero, List.getElem?_cons_succ]; rfl)
      case hw20007 => rfl
      case hy20007 => first | (intro wx hSw; obtain ⟨l0, e0, e1, e2, e3, e4, e5, e6⟩ := cells_7 (SRe.at hSw k hlt); go_simp; done) | (intro wx hSw; obtain ⟨l0, e0, e1, e2, e3, e4, e5, e6⟩ := cells_7 (SRe.at hSw k hlt); go_simp; with_reducible rfl)
      simp only [Act.put, List.setIfInBounds_toArray, List.set_cons_zero, List.set_cons_succ]
      refine anyH_name ?_
      intro GG hin hout
      have HIN := hide hin
      have HOUT := hide hout
      clear hin hout hHeld
      have C11_ : ∀ (ac : Act) (bv : Nat) (X : World), ac = ⟨#[.agg #[t0, .slice (some ⟨g, 0, none⟩) cs.length cap, t2, t3, t4, t5, t6, t7, t8, t9, t10, t11], .slice p vs.length rcap, .agg #[.int .i64 9, .string ⟨#[]⟩, .int .i64 0, .int .i64 0, .int .i64 0, .string ⟨#[]⟩, .slice (some ⟨g1, 0, none⟩) 2 c1], .pointer (some ⟨bt, 0, none⟩), undef, .pointer (some ⟨bx, 0, none⟩), .pointer (some ⟨bz, 0, none⟩), ac.tmps.getD 7 undef, u8, .int .i64 (k : Int), .pointer (some ⟨bv, 0, none⟩), ac.tmps.getD 11 undef, .pointer (some ⟨bx, 0, none⟩), .int .i64 9, .bool false, .bool false, undef, undef, .bool false, .bool false, undef, undef, undef, undef, undef, undef, undef, ac.tmps.getD 27 undef, ac.tmps.getD 28 undef, ac.tmps.getD 29 undef, ac.tmps.getD 30 undef, ac.tmps.getD 31 undef, ac.tmps.getD 32 undef, ac.tmps.getD 33 undef, ac.tmps.getD 34 undef, .agg #[t0, .slice (some ⟨g, 0, none⟩) cs.length cap, t2, t3, t4, t5, t6, t7, t8, t9, t10, t11], .slice p vs.length rcap, ac.tmps.getD 37 undef, .slice (some ⟨g1, 0, none⟩) 2 c1, ac.tmps.getD 39 undef, ac.tmps.getD 40 undef, .agg (exC (colX nm) N0).toArray, ac.tmps.getD 42 undef, .agg #[(.int .i64 v1), (.int .i64 v2), (.int .i64 v3), (.string v4)], .int .i64 0, ac.tmps.getD 45 undef, ac.tmps.getD 46 undef, ac.tmps.getD 47 undef, ac.tmps.getD 48 undef, ac.tmps.getD 49 undef, ac.tmps.getD 50 undef, ac.tmps.getD 51 undef, ac.tmps.getD 52 undef, undef, undef, undef, undef, undef, undef, undef, undef, undef, undef, undef, undef, undef, undef, undef, undef, undef, undef, undef, undef, undef, undef, undef, undef, undef, undef, undef, undef, undef, undef, undef, undef, undef, undef, undef, undef, undef, undef, undef, undef, undef, undef, undef, undef, undef, undef, undef, undef, undef, undef, undef, undef, undef], []⟩ → Below Wd.heap.size Wd X → Hid (Blk bv (vC Z4).toArray 28 X) → Hid (GeB Wd.heap.size bv X) → GG 2 #[true, true, true, true, true, true, true, true, true, true, true, true, false, false] ac X := by
        intro ac bv X ha GD rb hge
        obtain ⟨u, rfl⟩ : ∃ u : Nat → Value, ac = ⟨#[.agg #[t0, .slice (some ⟨g, 0, none⟩) cs.length cap, t2, t3, t4, t5, t6, t7, t8, t9, t10, t11], .slice p vs.length rcap, .agg #[.int .i64 9, .string ⟨#[]⟩, .int .i64 0, .int .i64 0, .int .i64 0, .string ⟨#[]⟩, .slice (some ⟨g1, 0, none⟩) 2 c1], .pointer (some ⟨bt, 0, none⟩), undef, .pointer (some ⟨bx, 0, none⟩), .pointer (some ⟨bz, 0, none⟩), u 7, u8, .int .i64 (k : Int), .pointer (some ⟨bv, 0, none⟩), u 11, .pointer (some ⟨bx, 0, none⟩), .int .i64 9, .bool false, .bool false, undef, undef, .bool false, .bool false, undef, undef, undef, undef, undef, undef, undef, u 27, u 28, u 29, u 30, u 31, u 32, u 33, u 34, .agg #[t0, .slice (some ⟨g, 0, none⟩) cs.length cap, t2, t3, t4, t5, t6, t7, t8, t9, t10, t11], .slice p vs.length rcap, u 37, .slice (some ⟨g1, 0, none⟩) 2 c1, u 39, u 40, .agg (exC (colX nm) N0).toArray, u 42, .agg #[(.int .i64 v1), (.int .i64 v2), (.int .i64 v3), (.string v4)], .int .i64 0, u 45, u 46, u 47, u 48, u 49, u 50, u 51, u 52, undef, undef, undef, undef, undef, undef, undef, undef, undef, undef, undef, undef, undef, undef, undef, undef, undef, undef, undef, undef, undef, undef, undef, undef, undef, undef, undef, undef, undef, undef, undef, undef, undef, undef, undef, undef, undef, undef, undef, undef, undef, undef, undef, undef, undef, undef, undef, undef, undef, undef, undef, undef, undef], []⟩ := ⟨fun i => ac.tmps.getD i undef, ha⟩
        clear ha
        refine unhide HIN _ _ _ _ ?_
        have hHeld : (SRe (#[t0, .slice (some ⟨g, 0, none⟩) cs.length cap, t2, t3, t4, t5, t6, t7, t8, t9, t10, t11]) bt bx g1 c1 nm) X := (unhide hS).call GD
        have rlt := (unhide rb).lt
        have rc0 := (unhide rb).cell 0
        have rf0 := (unhide rb).froz 0
        have rc1 := (unhide rb).cell 1
        have rf1 := (unhide rb).froz 1
        have rc2 := (unhide rb).cell 2
        have rf2 := (unhide rb).froz 2
        have rc3 := (unhide rb).cell 3
        have rf3 := (unhide rb).froz 3
        simp at rc0 rc1 rc2 rc3
        have hge2 : Wd.heap.size ≤ bv := unhide hge
        have GE : Below Wd.heap.size Wd ((((X.setCell ⟨bv, 0, none⟩ ((.int .i64 v1))).setCell ⟨bv, 1, none⟩ ((.int .i64 v2))).setCell ⟨bv, 2, none⟩ ((.int .i64 v3))).setCell ⟨bv, 3, none⟩ ((.string v4))) := (((GD.setCell (p := ⟨bv, 0, none⟩) hge2 _).setCell (p := ⟨bv, 1, none⟩) hge2 _).setCell (p := ⟨bv, 2, none⟩) hge2 _).setCell (p := ⟨bv, 3, none⟩) hge2 _
        have RE : Blk bv #[(.int .i64 v1), (.int .i64 v2), (.int .i64 v3), (.string v4)] 28 ((((X.setCell ⟨bv, 0, none⟩ ((.int .i64 v1))).setCell ⟨bv, 1, none⟩ ((.int .i64 v2))).setCell ⟨bv, 2, none⟩ ((.int .i64 v3))).setCell ⟨bv, 3, none⟩ ((.string v4))) := heapSet4 (unhide rb) _ _ _ _
        refine wpAnyH_ready (rs := [12]) (by kernel_rfl) (by simp) ?_
        refine AllReadyH.cons rfl (fun K20008 hK20008 => ?_) AllReadyH.nil
        go_simp
        refine hK20008.out _ _ ?hs20008 (fun hHeld20008 => ?_)
        case hs20008 => exact (unhide hS).call GE
        clear hHeld
        have hHeld := hHeld20008; clear hHeld20008 hK20008 K20008
        refine wpAnyH_take (i := 13) (oi := ?oi20009) (v := ?v20009) ?hi20009 (by kernel_rfl) (by kernel_rfl) (by kernel_rfl) (fun _ _ _ h => h) (Or.inl ⟨?hw20009, ?hy20009⟩) (by assumption) ?rest20009
        case hi20009 => (simp only [List.getElem?_toArray, List.getElem?_cons_zero, List.getElem?_cons_succ]; rfl)
        case hw20009 => rfl
        case hy20009 => first | (intro wx hSw; go_simp; done) | (intro wx hSw; go_simp; with_reducible rfl)
        simp only [Act.put, List.setIfInBounds_toArray, List.set_cons_zero, List.set_cons_succ]
        refine wpAnyH_done (by kernel_rfl) ?_ _
        refine NoPanic.normal ?_
        skip
        exact unhide REST11 _ bv _ (by kernel_rfl) (hide ((unhide hC).call GE)) (hide ((unhide hR).call GE)) (hide ((unhide hS).call GE)) (hide ((unhide hO).call GE)) (hide ((unhide hW).call GE)) (hide RE)
      have C11_ := hide C11_
      have C1 : ∀ (ac : Act) (X : World), ac = ⟨#[.agg #[t0, .slice (some ⟨g, 0, none⟩) cs.length cap, t2, t3, t4, t5, t6, t7, t8, t9, t10, t11], .slice p vs.length rcap, .agg #[.int .i64 9, .string ⟨#[]⟩, .int .i64 0, .int .i64 0, .int .i64 0, .string ⟨#[]⟩, .slice (some ⟨g1, 0, none⟩) 2 c1], .pointer (some ⟨bt, 0, none⟩), undef, .pointer (some ⟨bx, 0, none⟩), .pointer (some ⟨bz, 0, none⟩), ac.tmps.getD 7 undef, u8, .int .i64 (k : Int), ac.tmps.getD 10 undef, ac.tmps.getD 11 undef, .pointer (some ⟨bx, 0, none⟩), .int .i64 9, .bool false, .bool false, undef, undef, .bool false, .bool false, undef, undef, undef, undef, undef, undef, undef, ac.tmps.getD 27 undef, ac.tmps.getD 28 undef, ac.tmps.getD 29 undef, ac.tmps.getD 30 undef, ac.tmps.getD 31 undef, ac.tmps.getD 32 undef, ac.tmps.getD 33 undef, ac.tmps.getD 34 undef, .agg #[t0, .slice (some ⟨g, 0, none⟩) cs.length cap, t2, t3, t4, t5, t6, t7, t8, t9, t10, t11], .slice p vs.length rcap, ac.tmps.getD 37 undef, .slice (some ⟨g1, 0, none⟩) 2 c1, ac.tmps.getD 39 undef, ac.tmps.getD 40 undef, .agg (exC (colX nm) N0).toArray, ac.tmps.getD 42 undef, .agg #[(.int .i64 v1), (.int .i64 v2), (.int .i64 v3), (.string v4)], .int .i64 0, ac.tmps.getD 45 undef, ac.tmps.getD 46 undef, ac.tmps.getD 47 undef, ac.tmps.getD 48 undef, ac.tmps.getD 49 undef, ac.tmps.getD 50 undef, ac.tmps.getD 51 undef, ac.tmps.getD 52 undef, undef, undef, undef, undef, undef, undef, undef, undef, undef, undef, undef, undef, undef, undef, undef, undef, undef, undef, undef, undef, undef, undef, undef, undef, undef, undef, undef, undef, undef, undef, undef, undef, undef, undef, undef, undef, undef, undef, undef, undef, undef, undef, undef, undef, undef, undef, undef, undef, undef, undef, undef, undef, undef], []⟩ → Below Wd.heap.size Wd X → GG 3 #[true, true, true, true, true, true, true, true, true, true, true, false, false, false] ac X := by
        intro ac X ha GD
        obtain ⟨u, rfl⟩ : ∃ u : Nat → Value, ac = ⟨#[.agg #[t0, .slice (some ⟨g, 0, none⟩) cs.length cap, t2, t3, t4, t5, t6, t7, t8, t9, t10, t11], .slice p vs.length rcap, .agg #[.int .i64 9, .string ⟨#[]⟩, .int .i64 0, .int .i64 0, .int .i64 0, .string ⟨#[]⟩, .slice (some ⟨g1, 0, none⟩) 2 c1], .pointer (some ⟨bt, 0, none⟩), undef, .pointer (some ⟨bx, 0, none⟩), .pointer (some ⟨bz, 0, none⟩), u 7, u8, .int .i64 (k : Int), u 10, u 11, .pointer (some ⟨bx, 0, none⟩), .int .i64 9, .bool false, .bool false, undef, undef, .bool false, .bool false, undef, undef, undef, undef, undef, undef, undef, u 27, u 28, u 29, u 30, u 31, u 32, u 33, u 34, .agg #[t0, .slice (some ⟨g, 0, none⟩) cs.length cap, t2, t3, t4, t5, t6, t7, t8, t9, t10, t11], .slice p vs.length rcap, u 37, .slice (some ⟨g1, 0, none⟩) 2 c1, u 39, u 40, .agg (exC (colX nm) N0).toArray, u 42, .agg #[(.int .i64 v1), (.int .i64 v2), (.int .i64 v3), (.string v4)], .int .i64 0, u 45, u 46, u 47, u 48, u 49, u 50, u 51, u 52, undef, undef, undef, undef, undef, undef, undef, undef, undef, undef, undef, undef, undef, undef, undef, undef, undef, undef, undef, undef, undef, undef, undef, undef, undef, undef, undef, undef, undef, undef, undef, undef, undef, undef, undef, undef, undef, undef, undef, undef, undef, undef, undef, undef, undef, undef, undef, undef, undef, undef, undef, undef, undef], []⟩ := ⟨fun i => ac.tmps.getD i undef, ha⟩
        clear ha
        refine unhide HIN _ _ _ _ ?_
        have hHeld : (SRe (#[t0, .slice (some ⟨g, 0, none⟩) cs.length cap, t2, t3, t4, t5, t6, t7, t8, t9, t10, t11]) bt bx g1 c1 nm) X := (unhide hS).call GD
        refine wpAnyH_ready (rs := [11]) (by kernel_rfl) (by simp) ?_
        refine AllReadyH.cons rfl (fun K20010 hK20010 => ?_) AllReadyH.nil
        go_simp
        have hb := below_new X (.cells (vC Z4).toArray 28)
        have rb : Hid (Blk X.heap.size (vC Z4).toArray 28 (X.alloc (.cells (vC Z4).toArray 28))) := hide (Blk.new X (vC Z4).toArray 28)
        have hge : Hid (GeB Wd.heap.size X.heap.size (X.alloc (.cells (vC Z4).toArray 28))) := hide GD.size
        refine hK20010.out _ _ ?hs20010 (fun hH20010 => ?_)
        case hs20010 => exact hHeld.call hb
        clear hHeld
        have hHeld := hH20010; clear hH20010 hK20010 K20010
        refine unhide HOUT _ _ _ _ ?_
        exact unhide C11_ _ _ _ (by kernel_rfl) (GD.trans (hb.mono GD.size)) rb hge
      have C1 := hide C1
      have C01_ : ∀ (ac : Act) (bv : Nat) (X : World), ac = ⟨#[.agg #[t0, .slice (some ⟨g, 0, none⟩) cs.length cap, t2, t3, t4, t5, t6, t7, t8, t9, t10, t11], .slice p vs.length rcap, .agg #[.int .i64 9, .string ⟨#[]⟩, .int .i64 0, .int .i64 0, .int .i64 0, .string ⟨#[]⟩, .slice (some ⟨g1, 0, none⟩) 2 c1], .pointer (some ⟨bt, 0, none⟩), undef, .pointer (some ⟨bx, 0, none⟩), .pointer (some ⟨bz, 0, none⟩), ac.tmps.getD 7 undef, u8, .int .i64 (k : Int), .pointer (some ⟨bv, 0, none⟩), ac.tmps.getD 11 undef, .pointer (some ⟨bx, 0, none⟩), .int .i64 9, .bool false, .bool false, undef, undef, .bool false, .bool false, undef, undef, undef, undef, undef, undef, undef, ac.tmps.getD 27 undef, ac.tmps.getD 28 undef, ac.tmps.getD 29 undef, ac.tmps.getD 30 undef, ac.tmps.getD 31 undef, ac.tmps.getD 32 undef, ac.tmps.getD 33 undef, ac.tmps.getD 34 undef, .agg #[t0, .slice (some ⟨g, 0, none⟩) cs.length cap, t2, t3, t4, t5, t6, t7, t8, t9, t10, t11], .slice p vs.length rcap, ac.tmps.getD 37 undef, .slice (some ⟨g1, 0, none⟩) 2 c1, ac.tmps.getD 39 undef, ac.tmps.getD 40 undef, .agg (exC (colX nm) N0).toArray, ac.tmps.getD 42 undef, ac.tmps.getD 43 undef, ac.tmps.getD 44 undef, ac.tmps.getD 45 undef, ac.tmps.getD 46 undef, ac.tmps.getD 47 undef, ac.tmps.getD 48 undef, ac.tmps.getD 49 undef, ac.tmps.getD 50 undef, ac.tmps.getD 51 undef, ac.tmps.getD 52 undef, undef, undef, undef, undef, undef, undef, undef, undef, undef, undef, undef, undef, undef, undef, undef, undef, undef, undef, undef, undef, undef, undef, undef, undef, undef, undef, undef, undef, undef, undef, undef, undef, undef, undef, undef, undef, undef, undef, undef, undef, undef, undef, undef, undef, undef, undef, undef, undef, undef, undef, undef, undef, undef], []⟩ → Below Wd.heap.size Wd X → Hid (Blk bv (vC Z4).toArray 28 X) → Hid (GeB Wd.heap.size bv X) → GG 6 #[true, true, true, true, true, true, true, false, false, false, false, true, false, false] ac X := by
        intro ac bv X ha GD rb hge
        obtain ⟨u, rfl⟩ : ∃ u : Nat → Value, ac = ⟨#[.agg #[t0, .slice (some ⟨g, 0, none⟩) cs.length cap, t2, t3, t4, t5, t6, t7, t8, t9, t10, t11], .slice p vs.length rcap, .agg #[.int .i64 9, .string ⟨#[]⟩, .int .i64 0, .int .i64 0, .int .i64 0, .string ⟨#[]⟩, .slice (some ⟨g1, 0, none⟩) 2 c1], .pointer (some ⟨bt, 0, none⟩), undef, .pointer (some ⟨bx, 0, none⟩), .pointer (some ⟨bz, 0, none⟩), u 7, u8, .int .i64 (k : Int), .pointer (some ⟨bv, 0, none⟩), u 11, .pointer (some ⟨bx, 0, none⟩), .int .i64 9, .bool false, .bool false, undef, undef, .bool false, .bool false, undef, undef, undef, undef, undef, undef, undef, u 27, u 28, u 29, u 30, u 31, u 32, u 33, u 34, .agg #[t0, .slice (some ⟨g, 0, none⟩) cs.length cap, t2, t3, t4, t5, t6, t7, t8, t9, t10, t11], .slice p vs.length rcap, u 37, .slice (some ⟨g1, 0, none⟩) 2 c1, u 39, u 40, .agg (exC (colX nm) N0).toArray, u 42, u 43, u 44, u 45, u 46, u 47, u 48, u 49, u 50, u 51, u 52, undef, undef, undef, undef, undef, undef, undef, undef, undef, undef, undef, undef, undef, undef, undef, undef, undef, undef, undef, undef, undef, undef, undef, undef, undef, undef, undef, undef, undef, undef, undef, undef, undef, undef, undef, undef, undef, undef, undef, undef, undef, undef, undef, undef, undef, undef, undef, undef, undef, undef, undef, undef, undef], []⟩ := ⟨fun i => ac.tmps.getD i undef, ha⟩
        clear ha
        refine unhide HIN _ _ _ _ ?_
        have hHeld : (SRe (#[t0, .slice (some ⟨g, 0, none⟩) cs.length cap, t2, t3, t4, t5, t6, t7, t8, t9, t10, t11]) bt bx g1 c1 nm) X := (unhide hS).call GD
        refine wpAnyH_ready (rs := [7]) (by kernel_rfl) (by simp) ?_
        refine AllReadyH.cons rfl (fun K20011 hK20011 => ?_) AllReadyH.nil
        go_simp
        go_wp2_with (go_at_call 20; refine (unhide CE _ ((unhide hC).call GD) ((unhide hR).call GD)).mono ?_; rintro e X2 ⟨rfl, hb⟩)
        refine hK20011.out _ _ ?hs20011 (fun hH20011 => ?_)
        case hs20011 => exact hHeld.call hb
        clear hHeld
        have hHeld := hH20011; clear hH20011 hK20011 K20011
        refine wpAnyH_take (i := 8) (oi := ?oi20012) (v := ?v20012) ?hi20012 (by kernel_rfl) (by kernel_rfl) (by kernel_rfl) (fun _ _ _ h => h) (Or.inl ⟨?hw20012, ?hy20012⟩) (by assumption) ?rest20012
        case hi20012 => (simp only [List.getElem?_toArray, List.getElem?_cons_zero, List.getElem?_cons_succ]; rfl)
        case hw20012 => rfl
        case hy20012 => first | (intro wx hSw; go_simp; done) | (intro wx hSw; go_simp; with_reducible rfl)
        simp only [Act.put, List.setIfInBounds_toArray, List.set_cons_zero, List.set_cons_succ]
        refine wpAnyH_take (i := 9) (oi := ?oi20013) (v := ?v20013) ?hi20013 (by kernel_rfl) (by kernel_rfl) (by kernel_rfl) (fun _ _ _ h => h) (Or.inl ⟨?hw20013, ?hy20013⟩) (by assumption) ?rest20013
        case hi20013 => (simp only [List.getElem?_toArray, List.getElem?_cons_zero, List.getElem?_cons_succ]; rfl)
        case hw20013 => rfl
        case hy20013 => first | (intro wx hSw; go_simp; done) | (intro wx hSw; go_simp; with_reducible rfl)
        simp only [Act.put, List.setIfInBounds_toArray, List.set_cons_zero, List.set_cons_succ]
        refine wpAnyH_take (i := 10) (oi := ?oi20014) (v := ?v20014) ?hi20014 (by kernel_rfl) (by kernel_rfl) (by kernel_rfl) (fun _ _ _ h => h) (Or.inl ⟨?hw20014, ?hy20014⟩) (by assumption) ?rest20014
        case hi20014 => (simp only [List.getElem?_toArray, List.getElem?_cons_zero, List.getElem?_cons_succ]; rfl)
        case hw20014 => rfl
        case hy20014 => first | (intro wx hSw; go_simp; done) | (intro wx hSw; go_simp; with_reducible rfl)
        simp only [Act.put, List.setIfInBounds_toArray, List.set_cons_zero, List.set_cons_succ]
        refine unhide HOUT _ _ _ _ ?_
        exact unhide C11_ _ bv _ (by kernel_rfl) (GD.trans (hb.mono GD.size)) (hide ((unhide rb).call hb)) (hide ((unhide hge).call hb))
      have C01_ := hide C01_
      have C0 : ∀ (ac : Act) (X : World), ac = ⟨#[.agg #[t0, .slice (some ⟨g, 0, none⟩) cs.length cap, t2, t3, t4, t5, t6, t7, t8, t9, t10, t11], .slice p vs.length rcap, .agg #[.int .i64 9, .string ⟨#[]⟩, .int .i64 0, .int .i64 0, .int .i64 0, .string ⟨#[]⟩, .slice (some ⟨g1, 0, none⟩) 2 c1], .pointer (some ⟨bt, 0, none⟩), undef, .pointer (some ⟨bx, 0, none⟩), .pointer (some ⟨bz, 0, none⟩), ac.tmps.getD 7 undef, u8, .int .i64 (k : Int), ac.tmps.getD 10 undef, ac.tmps.getD 11 undef, .pointer (some ⟨bx, 0, none⟩), .int .i64 9, .bool false, .bool false, undef, undef, .bool false, .bool false, undef, undef, undef, undef, undef, undef, undef, ac.tmps.getD 27 undef, ac.tmps.getD 28 undef, ac.tmps.getD 29 undef, ac.tmps.getD 30 undef, ac.tmps.getD 31 undef, ac.tmps.getD 32 undef, ac.tmps.getD 33 undef, ac.tmps.getD 34 undef, .agg #[t0, .slice (some ⟨g, 0, none⟩) cs.length cap, t2, t3, t4, t5, t6, t7, t8, t9, t10, t11], .slice p vs.length rcap, ac.tmps.getD 37 undef, .slice (some ⟨g1, 0, none⟩) 2 c1, ac.tmps.getD 39 undef, ac.tmps.getD 40 undef, .agg (exC (colX nm) N0).toArray, ac.tmps.getD 42 undef, ac.tmps.getD 43 undef, ac.tmps.getD 44 undef, ac.tmps.getD 45 undef, ac.tmps.getD 46 undef, ac.tmps.getD 47 undef, ac.tmps.getD 48 undef, ac.tmps.getD 49 undef, ac.tmps.getD 50 undef, ac.tmps.getD 51 undef, ac.tmps.getD 52 undef, undef, undef, undef, undef, undef, undef, undef, undef, undef, undef, undef, undef, undef, undef, undef, undef, undef, undef, undef, undef, undef, undef, undef, undef, undef, undef, undef, undef, undef, undef, undef, undef, undef, undef, undef, undef, undef, undef, undef, undef, undef, undef, undef, undef, undef, undef, undef, undef, undef, undef, undef, undef, undef], []⟩ → Below Wd.heap.size Wd X → GG 7 #[true, true, true, true, true, true, true, false, false, false, false, false, false, false] ac X := by
        intro ac X ha GD
        obtain ⟨u, rfl⟩ : ∃ u : Nat → Value, ac = ⟨#[.agg #[t0, .slice (some ⟨g, 0, none⟩) cs.length cap, t2, t3, t4, t5, t6, t7, t8, t9, t10, t11], .slice p vs.length rcap, .agg #[.int .i64 9, .string ⟨#[]⟩, .int .i64 0, .int .i64 0, .int .i64 0, .string ⟨#[]⟩, .slice (some ⟨g1, 0, none⟩) 2 c1], .pointer (some ⟨bt, 0, none⟩), undef, .pointer (some ⟨bx, 0, none⟩), .pointer (some ⟨bz, 0, none⟩), u 7, u8, .int .i64 (k : Int), u 10, u 11, .pointer (some ⟨bx, 0, none⟩), .int .i64 9, .bool false, .bool false, undef, undef, .bool false, .bool false, undef, undef, undef, undef, undef, undef, undef, u 27, u 28, u 29, u 30, u 31, u 32, u 33, u 34, .agg #[t0, .slice (some ⟨g, 0, none⟩) cs.length cap, t2, t3, t4, t5, t6, t7, t8, t9, t10, t11], .slice p vs.length rcap, u 37, .slice (some ⟨g1, 0, none⟩) 2 c1, u 39, u 40, .agg (exC (colX nm) N0).toArray, u 42, u 43, u 44, u 45, u 46, u 47, u 48, u 49, u 50, u 51, u 52, undef, undef, undef, undef, undef, undef, undef, undef, undef, undef, undef, undef, undef, undef, undef, undef, undef, undef, undef, undef, undef, undef, undef, undef, undef, undef, undef, undef, undef, undef, undef, undef, undef, undef, undef, undef, undef, undef, undef, undef, undef, undef, undef, undef, undef, undef, undef, undef, undef, undef, undef, undef, undef], []⟩ := ⟨fun i => ac.tmps.getD i undef, ha⟩
        clear ha
        refine unhide HIN _ _ _ _ ?_
        have hHeld : (SRe (#[t0, .slice (some ⟨g, 0, none⟩) cs.length cap, t2, t3, t4, t5, t6, t7, t8, t9, t10, t11]) bt bx g1 c1 nm) X := (unhide hS).call GD
        refine wpAnyH_ready (rs := [7, 11]) (by kernel_rfl) (by simp) ?_
        refine AllReadyH.cons rfl (fun K20015 hK20015 => ?_) ?_
        · go_simp
          go_wp2_with (go_at_call 20; refine (unhide CE _ ((unhide hC).call GD) ((unhide hR).call GD)).mono ?_; rintro e X2 ⟨rfl, hb⟩)
          refine hK20015.out _ _ ?hs20015 (fun hH20015 => ?_)
          case hs20015 => exact hHeld.call hb
          clear hHeld
          have hHeld := hH20015; clear hH20015 hK20015 K20015
          refine wpAnyH_take (i := 8) (oi := ?oi20016) (v := ?v20016) ?hi20016 (by kernel_rfl) (by kernel_rfl) (by kernel_rfl) (fun _ _ _ h => h) (Or.inl ⟨?hw20016, ?hy20016⟩) (by assumption) ?rest20016
          case hi20016 => (simp only [List.getElem?_toArray, List.getElem?_cons_zero, List.getElem?_cons_succ]; rfl)
          case hw20016 => rfl
          case hy20016 => first | (intro wx hSw; go_simp; done) | (intro wx hSw; go_simp; with_reducible rfl)
          simp only [Act.put, List.setIfInBounds_toArray, List.set_cons_zero, List.set_cons_succ]
          refine wpAnyH_take (i := 9) (oi := ?oi20017) (v := ?v20017) ?hi20017 (by kernel_rfl) (by kernel_rfl) (by kernel_rfl) (fun _ _ _ h => h) (Or.inl ⟨?hw20017, ?hy20017⟩) (by assumption) ?rest20017
          case hi20017 => (simp only [List.getElem?_toArray, List.getElem?_cons_zero, List.getElem?_cons_succ]; rfl)
          case hw20017 => rfl
          case hy20017 => first | (intro wx hSw; go_simp; done) | (intro wx hSw; go_simp; with_reducible rfl)
          simp only [Act.put, List.setIfInBounds_toArray, List.set_cons_zero, List.set_cons_succ]
          refine wpAnyH_take (i := 10) (oi := ?oi20018) (v := ?v20018) ?hi20018 (by kernel_rfl) (by kernel_rfl) (by kernel_rfl) (fun _ _ _ h => h) (Or.inl ⟨?hw20018, ?hy20018⟩) (by assumption) ?rest20018
          case hi20018 => (simp only [List.getElem?_toArray, List.getElem?_cons_zero, List.getElem?_cons_succ]; rfl)
          case hw20018 => rfl
          case hy20018 => first | (intro wx hSw; go_simp; done) | (intro wx hSw; go_simp; with_reducible rfl)
          simp only [Act.put, List.setIfInBounds_toArray, List.set_cons_zero, List.set_cons_succ]
          refine unhide HOUT _ _ _ _ ?_
          exact unhide C1 _  _ (by kernel_rfl) (GD.trans (hb.mono GD.size)) 
        refine AllReadyH.cons rfl (fun K20019 hK20019 => ?_) AllReadyH.nil
        · go_simp
          have hb := below_new X (.cells (vC Z4).toArray 28)
          have rb : Hid (Blk X.heap.size (vC Z4).toArray 28 (X.alloc (.cells (vC Z4).toArray 28))) := hide (Blk.new X (vC Z4).toArray 28)
          have hge : Hid (GeB Wd.heap.size X.heap.size (X.alloc (.cells (vC Z4).toArray 28))) := hide GD.size
          refine hK20019.out _ _ ?hs20019 (fun hH20019 => ?_)
          case hs20019 => exact hHeld.call hb
          clear hHeld
          have hHeld := hH20019; clear hH20019 hK20019 K20019
          refine unhide HOUT _ _ _ _ ?_
          exact unhide C01_ _ _ _ (by kernel_rfl) (GD.trans (hb.mono GD.size)) rb hge
      have C0 := hide C0
      exact unhide C0 _ _ (by kernel_rfl) (Below.refl _ _)
    · obtain rfl : k = 2 := by omega
      have hO2 : wr.ownsRow W0.heap.size 28 4 u8 [(v1, v2, v3, v4), (v1, v2, v3, v4)].length (rowC [(v1, v2, v3, v4), (v1, v2, v3, v4)]) := unhide hO
      obtain ⟨gl, cl, cur, rfl, hge, hgb, hcl, hrl⟩ := row_own (by simp) hO2 (by simp)
      have hZ := hide ((unhide HZ).call (unhide hW))
      have nz1 := blk_neR (unhide hS).2.1 (unhide hZ) (by simp)
      have nz2 : gl ≠ bz := by have := (unhide HZ).lt; omega
      have hQ : Hid (SRq bx g1 c1 gl (v1, v2, v3, v4) wr) := ⟨(unhide hS).2.1, hrl⟩
      have hGw := hide ((unhide HG).call (unhide hW))
      clear hO2 hcl hgb hge hO hC hR hS hrl HZ HG HC0 HR0 HS0 CE
      go_wp2_with fail
      rename_i K28 hk28
      obtain ⟨q1, q2, q3, q4⟩ := res
      have REST28 : ∀ (ac : Act) (X : World), ac = ⟨#[ac.tmps.getD 0 undef, ac.tmps.getD 1 undef, ac.tmps.getD 2 undef, ac.tmps.getD 3 undef, ac.tmps.getD 4 undef, .pointer (some ⟨bx, 0, none⟩), .pointer (some ⟨bz, 0, none⟩), .int .i64 0, .slice (some ⟨gl, 0, none⟩) 2 cl, ac.tmps.getD 9 undef, ac.tmps.getD 10 undef, ac.tmps.getD 11 undef, ac.tmps.getD 12 undef, ac.tmps.getD 13 undef, ac.tmps.getD 14 undef, ac.tmps.getD 15 undef, ac.tmps.getD 16 undef, ac.tmps.getD 17 undef, ac.tmps.getD 18 undef, ac.tmps.getD 19 undef, ac.tmps.getD 20 undef, ac.tmps.getD 21 undef, ac.tmps.getD 22 undef, ac.tmps.getD 23 undef, ac.tmps.getD 24 undef, ac.tmps.getD 25 undef, ac.tmps.getD 26 undef, ac.tmps.getD 27 undef, ac.tmps.getD 28 undef, ac.tmps.getD 29 undef, ac.tmps.getD 30 undef, ac.tmps.getD 31 undef, ac.tmps.getD 32 undef, ac.tmps.getD 33 undef, ac.tmps.getD 34 undef, ac.tmps.getD 35 undef, ac.tmps.getD 36 undef, ac.tmps.getD 37 undef, ac.tmps.getD 38 undef, ac.tmps.getD 39 undef, ac.tmps.getD 40 undef, ac.tmps.getD 41 undef, ac.tmps.getD 42 undef, ac.tmps.getD 43 undef, ac.tmps.getD 44 undef, ac.tmps.getD 45 undef, ac.tmps.getD 46 undef, ac.tmps.getD 47 undef, ac.tmps.getD 48 undef, ac.tmps.getD 49 undef, ac.tmps.getD 50 undef, ac.tmps.getD 51 undef, ac.tmps.getD 52 undef, ac.tmps.getD 53 undef, ac.tmps.getD 54 undef, ac.tmps.getD 55 undef, ac.tmps.getD 56 undef, ac.tmps.getD 57 undef, ac.tmps.getD 58 undef, ac.tmps.getD 59 undef, ac.tmps.getD 60 undef, ac.tmps.getD 61 undef, ac.tmps.getD 62 undef, ac.tmps.getD 63 undef, ac.tmps.getD 64 undef, ac.tmps.getD 65 undef, ac.tmps.getD 66 undef, ac.tmps.getD 67 undef, ac.tmps.getD 68 undef, ac.tmps.getD 69 undef, ac.tmps.getD 70 undef, ac.tmps.getD 71 undef, ac.tmps.getD 72 undef, ac.tmps.getD 73 undef, ac.tmps.getD 74 undef, ac.tmps.getD 75 undef, ac.tmps.getD 76 undef, ac.tmps.getD 77 undef, ac.tmps.getD 78 undef, ac.tmps.getD 79 undef, ac.tmps.getD 80 undef, ac.tmps.getD 81 undef, ac.tmps.getD 82 undef, ac.tmps.getD 83 undef, ac.tmps.getD 84 undef, ac.tmps.getD 85 undef, ac.tmps.getD 86 undef, ac.tmps.getD 87 undef, ac.tmps.getD 88 undef, ac.tmps.getD 89 undef, ac.tmps.getD 90 undef, ac.tmps.getD 91 undef, ac.tmps.getD 92 undef, ac.tmps.getD 93 undef, ac.tmps.getD 94 undef, ac.tmps.getD 95 undef, ac.tmps.getD 96 undef, ac.tmps.getD 97 undef, ac.tmps.getD 98 undef, ac.tmps.getD 99 undef, ac.tmps.getD 100 undef, ac.tmps.getD 101 undef, ac.tmps.getD 102 undef, ac.tmps.getD 103 undef, ac.tmps.getD 104 undef, ac.tmps.getD 105 undef], []⟩ → Hid (Blk bz #[(.int .i64 q1), (.int .i64 q2), (.int .i64 q3), (.string q4)] 28 X) → Hid (Grown w X) → K28 ac X := by
        clear hQ hZ hGw x0 x6 lx hW
        intro ac X ha hV hGw
        obtain ⟨u, rfl⟩ : ∃ u : Nat → Value, ac = ⟨#[u 0, u 1, u 2, u 3, u 4, .pointer (some ⟨bx, 0, none⟩), .pointer (some ⟨bz, 0, none⟩), .int .i64 0, .slice (some ⟨gl, 0, none⟩) 2 cl, u 9, u 10, u 11, u 12, u 13, u 14, u 15, u 16, u 17, u 18, u 19, u 20, u 21, u 22, u 23, u 24, u 25, u 26, u 27, u 28, u 29, u 30, u 31, u 32, u 33, u 34, u 35, u 36, u 37, u 38, u 39, u 40, u 41, u 42, u 43, u 44, u 45, u 46, u 47, u 48, u 49, u 50, u 51, u 52, u 53, u 54, u 55, u 56, u 57, u 58, u 59, u 60, u 61, u 62, u 63, u 64, u 65, u 66, u 67, u 68, u 69, u 70, u 71, u 72, u 73, u 74, u 75, u 76, u 77, u 78, u 79, u 80, u 81, u 82, u 83, u 84, u 85, u 86, u 87, u 88, u 89, u 90, u 91, u 92, u 93, u 94, u 95, u 96, u 97, u 98, u 99, u 100, u 101, u 102, u 103, u 104, u 105], []⟩ := ⟨fun i => ac.tmps.getD i undef, ha⟩
        clear ha
        refine hk28 _ _ ?_
        clear hk28
        have lz := (unhide hV).lt
        have z0 := (unhide hV).cell 0
        have z1 := (unhide hV).cell 1
        have z2 := (unhide hV).cell 2
        have z3 := (unhide hV).cell 3
        simp at z0 z1 z2 z3
        go_wp2_with fail
        exact bodyPost_ret (v := .tuple #[.agg (vC (q1, q2, q3, q4)).toArray, .int .i64 0]) (by simp [results, Try.results20, go_sem, z0, z1, z2, z3, lz]) rfl ⟨rfl, unhide hGw⟩
      have REST28 := hide REST28
      clear hk28 x0 x6 lx hW
      refine wp_region_noPanic ?_
      refine wp_region_held_drew (S := (SRq bx g1 c1 gl (v1, v2, v3, v4))) (by kernel_rfl) ((unhide hQ).call (Below.refl _ _).drew) (fun hHeld => ?_)
      have hbd : Below wr.heap.size wr wr.drew := (Below.refl _ _).drew
      replace hQ := hide ((unhide hQ).call hbd)
      replace hZ := hide ((unhide hZ).call hbd)
      replace hGw := hide ((unhide hGw).call hbd)
      clear hbd
      generalize wr.drew = Wd at *
      refine wpAnyH_take (i := 0) (oi := ?oi20020) (v := ?v20020) ?hi20020 (by kernel_rfl) (by kernel_rfl) (by kernel_rfl) (fun _ _ _ h => h) (Or.inl ⟨?hw20020, ?hy20020⟩) (by assumption) ?rest20020
      case hi20020 => (simp only [List.getElem?_toArray, List.getElem?_cons_zero]; rfl)
      case hw20020 => rfl
      case hy20020 => first | (intro wx hSw; go_simp; done) | (intro wx hSw; go_simp; with_reducible rfl)
      simp only [Act.put, List.setIfInBounds_toArray, List.set_cons_zero, List.set_cons_succ]
      refine wpAnyH_take (i := 1) (oi := ?oi20021) (v := ?v20021) ?hi20021 (by kernel_rfl) (by kernel_rfl) (by kernel_rfl) (fun _ _ _ h => h) (Or.inl ⟨?hw20021, ?hy20021⟩) (by assumption) ?rest20021
      case hi20021 => (simp only [List.getElem?_toArray, List.getElem?_cons_zero, List.getElem?_cons_succ]; rfl)
      case hw20021 => rfl
      case hy20021 => first | (intro wx hSw; have hX := hSw.1; have y0 := Blk.cell hX 0; have y9 := hX.lt; simp at y0; go_simp; done) | (intro wx hSw; have hX := hSw.1; have y0 := Blk.cell hX 0; have y9 := hX.lt; simp at y0; go_simp; with_reducible rfl)
      simp only [Act.put, List.setIfInBounds_toArray, List.set_cons_zero, List.set_cons_succ]
      refine wpAnyH_take (i := 2) (oi := ?oi20022) (v := ?v20022) ?hi20022 (by kernel_rfl) (by kernel_rfl) (by kernel_rfl) (fun _ _ _ h => h) (Or.inl ⟨?hw20022, ?hy20022⟩) (by assumption) ?rest20022
      case hi20022 => (simp only [List.getElem?_toArray, List.getElem?_cons_zero, List.getElem?_cons_succ]; rfl)
      case hw20022 => rfl
      case hy20022 => first | (intro wx hSw; go_simp; done) | (intro wx hSw; go_simp; with_reducible rfl)
      simp only [Act.put, List.setIfInBounds_toArray, List.set_cons_zero, List.set_cons_succ]
      refine wpAnyH_take (i := 3) (oi := ?oi20023) (v := ?v20023) ?hi20023 (by kernel_rfl) (by kernel_rfl) (by kernel_rfl) (fun _ _ _ h => h) (Or.inl ⟨?hw20023, ?hy20023⟩) (by assumption) ?rest20023
      case hi20023 => (simp only [List.getElem?_toArray, List.getElem?_cons_zero, List.getElem?_cons_succ]; rfl)
      case hw20023 => rfl
      case hy20023 => first | (intro wx hSw; go_simp; done) | (intro wx hSw; go_simp; with_reducible rfl)
      simp only [Act.put, List.setIfInBounds_toArray, List.set_cons_zero, List.set_cons_succ]
      refine wpAnyH_take (i := 4) (oi := ?oi20024) (v := ?v20024) ?hi20024 (by kernel_rfl) (by kernel_rfl) (by kernel_rfl) (fun _ _ _ h => h) (Or.inl ⟨?hw20024, ?hy20024⟩) (by assumption) ?rest20024
      case hi20024 => (simp only [List.getElem?_toArray, List.getElem?_cons_zero, List.getElem?_cons_succ]; rfl)
      case hw20024 => rfl
      case hy20024 => first | (intro wx hSw; obtain ⟨gg, hgg, hgl, b0, b1, b2, b3⟩ := hSw.2.2 0 (by simp); cases hgg; simp at b0 b1 b2 b3; go_simp; done) | (intro wx hSw; obtain ⟨gg, hgg, hgl, b0, b1, b2, b3⟩ := hSw.2.2 0 (by simp); cases hgg; simp at b0 b1 b2 b3; go_simp; with_reducible rfl)
      simp only [Act.put, List.setIfInBounds_toArray, List.set_cons_zero, List.set_cons_succ]
      refine wpAnyH_take (i := 5) (oi := ?oi20025) (v := ?v20025) ?hi20025 (by kernel_rfl) (by kernel_rfl) (by kernel_rfl) (fun _ _ _ h => h) (Or.inl ⟨?hw20025, ?hy20025⟩) (by assumption) ?rest20025
      case hi20025 => (simp only [List.getElem?_toArray, List.getElem?_cons_zero, List.getElem?_cons_succ]; rfl)
      case hw20025 => rfl
      case hy20025 => first | (intro wx hSw; go_simp; done) | (intro wx hSw; go_simp; with_reducible rfl)
      simp only [Act.put, List.setIfInBounds_toArray, List.set_cons_zero, List.set_cons_succ]
      refine wpAnyH_take (i := 6) (oi := ?oi20026) (v := ?v20026) ?hi20026 (by kernel_rfl) (by kernel_rfl) (by kernel_rfl) (fun _ _ _ h => h) (Or.inl ⟨?hw20026, ?hy20026⟩) (by assumption) ?rest20026
      case hi20026 => (simp only [List.getElem?_toArray, List.getElem?_cons_zero, List.getElem?_cons_succ]; rfl)
      case hw20026 => rfl
      case hy20026 => first | (intro wx hSw; go_simp; done) | (intro wx hSw; go_simp; with_reducible rfl)
      simp only [Act.put, List.setIfInBounds_toArray, List.set_cons_zero, List.set_cons_succ]
      refine wpAnyH_take (i := 7) (oi := ?oi20027) (v := ?v20027) ?hi20027 (by kernel_rfl) (by kernel_rfl) (by kernel_rfl) (fun _ _ _ h => h) (Or.inl ⟨?hw20027, ?hy20027⟩) (by assumption) ?rest20027
      case hi20027 => (simp only [List.getElem?_toArray, List.getElem?_cons_zero, List.getElem?_cons_succ]; rfl)
      case hw20027 => rfl
      case hy20027 => first | (intro wx hSw; obtain ⟨gg, hgg, hgl, b0, b1, b2, b3⟩ := hSw.2.2 1 (by simp); cases hgg; simp at b0 b1 b2 b3; go_simp; done) | (intro wx hSw; obtain ⟨gg, hgg, hgl, b0, b1, b2, b3⟩ := hSw.2.2 1 (by simp); cases hgg; simp at b0 b1 b2 b3; go_simp; with_reducible rfl)
      simp only [Act.put, List.setIfInBounds_toArray, List.set_cons_zero, List.set_cons_succ]
      refine anyH_name ?_
      intro GG hin hout
      have HIN := hide hin
      have HOUT := hide hout
      clear hin hout hHeld
      have C1 : ∀ (ac : Act) (X : World), ac = ⟨#[ac.tmps.getD 0 undef, ac.tmps.getD 1 undef, ac.tmps.getD 2 undef, ac.tmps.getD 3 undef, ac.tmps.getD 4 undef, .pointer (some ⟨bx, 0, none⟩), .pointer (some ⟨bz, 0, none⟩), ac.tmps.getD 7 undef, .slice (some ⟨gl, 0, none⟩) 2 cl, ac.tmps.getD 9 undef, ac.tmps.getD 10 undef, ac.tmps.getD 11 undef, ac.tmps.getD 12 undef, ac.tmps.getD 13 undef, ac.tmps.getD 14 undef, ac.tmps.getD 15 undef, ac.tmps.getD 16 undef, ac.tmps.getD 17 undef, ac.tmps.getD 18 undef, ac.tmps.getD 19 undef, ac.tmps.getD 20 undef, ac.tmps.getD 21 undef, ac.tmps.getD 22 undef, ac.tmps.getD 23 undef, ac.tmps.getD 24 undef, ac.tmps.getD 25 undef, ac.tmps.getD 26 undef, ac.tmps.getD 27 undef, ac.tmps.getD 28 undef, ac.tmps.getD 29 undef, ac.tmps.getD 30 undef, ac.tmps.getD 31 undef, ac.tmps.getD 32 undef, ac.tmps.getD 33 undef, ac.tmps.getD 34 undef, ac.tmps.getD 35 undef, ac.tmps.getD 36 undef, ac.tmps.getD 37 undef, ac.tmps.getD 38 undef, ac.tmps.getD 39 undef, ac.tmps.getD 40 undef, ac.tmps.getD 41 undef, ac.tmps.getD 42 undef, ac.tmps.getD 43 undef, ac.tmps.getD 44 undef, ac.tmps.getD 45 undef, ac.tmps.getD 46 undef, ac.tmps.getD 47 undef, ac.tmps.getD 48 undef, ac.tmps.getD 49 undef, ac.tmps.getD 50 undef, ac.tmps.getD 51 undef, ac.tmps.getD 52 undef, ac.tmps.getD 53 undef, ac.tmps.getD 54 undef, ac.tmps.getD 55 undef, ac.tmps.getD 56 undef, ac.tmps.getD 57 undef, ac.tmps.getD 58 undef, ac.tmps.getD 59 undef, ac.tmps.getD 60 undef, ac.tmps.getD 61 undef, ac.tmps.getD 62 undef, ac.tmps.getD 63 undef, ac.tmps.getD 64 undef, ac.tmps.getD 65 undef, ac.tmps.getD 66 undef, ac.tmps.getD 67 undef, ac.tmps.getD 68 undef, ac.tmps.getD 69 undef, ac.tmps.getD 70 undef, ac.tmps.getD 71 undef, ac.tmps.getD 72 undef, ac.tmps.getD 73 undef, ac.tmps.getD 74 undef, ac.tmps.getD 75 undef, ac.tmps.getD 76 undef, ac.tmps.getD 77 undef, ac.tmps.getD 78 undef, ac.tmps.getD 79 undef, ac.tmps.getD 80 undef, ac.tmps.getD 81 undef, ac.tmps.getD 82 undef, ac.tmps.getD 83 undef, ac.tmps.getD 84 undef, ac.tmps.getD 85 undef, ac.tmps.getD 86 undef, ac.tmps.getD 87 undef, ac.tmps.getD 88 undef, ac.tmps.getD 89 undef, ac.tmps.getD 90 undef, ac.tmps.getD 91 undef, ac.tmps.getD 92 undef, ac.tmps.getD 93 undef, ac.tmps.getD 94 undef, ac.tmps.getD 95 undef, ac.tmps.getD 96 undef, ac.tmps.getD 97 undef, .int .i64 9, ac.tmps.getD 99 undef, ac.tmps.getD 100 undef, .agg #[(.int .i64 v1), (.int .i64 v2), (.int .i64 v3), (.string v4)], ac.tmps.getD 102 undef, ac.tmps.getD 103 undef, .agg #[(.int .i64 v1), (.int .i64 v2), (.int .i64 v3), (.string v4)], .agg #[(.int .i64 q1), (.int .i64 q2), (.int .i64 q3), (.string q4)]], []⟩ → Below Wd.heap.size Wd X → GG 2 #[true, true, true, true, true, true, true, true, true, false, false] ac X := by
        intro ac X ha GD
        obtain ⟨u, rfl⟩ : ∃ u : Nat → Value, ac = ⟨#[u 0, u 1, u 2, u 3, u 4, .pointer (some ⟨bx, 0, none⟩), .pointer (some ⟨bz, 0, none⟩), u 7, .slice (some ⟨gl, 0, none⟩) 2 cl, u 9, u 10, u 11, u 12, u 13, u 14, u 15, u 16, u 17, u 18, u 19, u 20, u 21, u 22, u 23, u 24, u 25, u 26, u 27, u 28, u 29, u 30, u 31, u 32, u 33, u 34, u 35, u 36, u 37, u 38, u 39, u 40, u 41, u 42, u 43, u 44, u 45, u 46, u 47, u 48, u 49, u 50, u 51, u 52, u 53, u 54, u 55, u 56, u 57, u 58, u 59, u 60, u 61, u 62, u 63, u 64, u 65, u 66, u 67, u 68, u 69, u 70, u 71, u 72, u 73, u 74, u 75, u 76, u 77, u 78, u 79, u 80, u 81, u 82, u 83, u 84, u 85, u 86, u 87, u 88, u 89, u 90, u 91, u 92, u 93, u 94, u 95, u 96, u 97, .int .i64 9, u 99, u 100, .agg #[(.int .i64 v1), (.int .i64 v2), (.int .i64 v3), (.string v4)], u 102, u 103, .agg #[(.int .i64 v1), (.int .i64 v2), (.int .i64 v3), (.string v4)], .agg #[(.int .i64 q1), (.int .i64 q2), (.int .i64 q3), (.string q4)]], []⟩ := ⟨fun i => ac.tmps.getD i undef, ha⟩
        clear ha
        refine unhide HIN _ _ _ _ ?_
        have hHeld : (SRq bx g1 c1 gl (v1, v2, v3, v4)) X := (unhide hQ).call GD
        have lz := (unhide hZ).call GD
        have lz9 := lz.lt
        have z0 := lz.cell 0
        have f0 := lz.froz 0
        have z1 := lz.cell 1
        have f1 := lz.froz 1
        have z2 := lz.cell 2
        have f2 := lz.froz 2
        have z3 := lz.cell 3
        have f3 := lz.froz 3
        simp at z0 z1 z2 z3
        have RE : Blk bz #[(.int .i64 q1), (.int .i64 q2), (.int .i64 q3), (.string q4)] 28 ((((X.setCell ⟨bz, 0, none⟩ ((.int .i64 q1))).setCell ⟨bz, 1, none⟩ ((.int .i64 q2))).setCell ⟨bz, 2, none⟩ ((.int .i64 q3))).setCell ⟨bz, 3, none⟩ ((.string q4))) := heapSet4 lz _ _ _ _
        have lwz : w.heap.size ≤ bz := unhide LZ
        have GE : Grown w _ := ((((((unhide hGw).call GD : Grown w X) : Below w.heap.size w X).setCell (p := ⟨bz, 0, none⟩) lwz (.int .i64 q1)).setCell (p := ⟨bz, 1, none⟩) lwz (.int .i64 q2)).setCell (p := ⟨bz, 2, none⟩) lwz (.int .i64 q3)).setCell (p := ⟨bz, 3, none⟩) lwz (.string q4)
        have SE := (((((unhide hQ).call GD).set nz1 nz2 0 (.int .i64 q1)).set nz1 nz2 1 (.int .i64 q2)).set nz1 nz2 2 (.int .i64 q3)).set nz1 nz2 3 (.string q4)
        refine wpAnyH_ready (rs := [9]) (by kernel_rfl) (by simp) ?_
        refine AllReadyH.cons rfl (fun K20028 hK20028 => ?_) AllReadyH.nil
        go_simp
        refine hK20028.out _ _ ?hs20028 (fun hHeld20028 => ?_)
        case hs20028 => exact SE
        clear hHeld
        have hHeld := hHeld20028; clear hHeld20028 hK20028 K20028
        refine wpAnyH_take (i := 10) (oi := ?oi20029) (v := ?v20029) ?hi20029 (by kernel_rfl) (by kernel_rfl) (by kernel_rfl) (fun _ _ _ h => h) (Or.inl ⟨?hw20029, ?hy20029⟩) (by assumption) ?rest20029
        case hi20029 => (simp only [List.getElem?_toArray, List.getElem?_cons_zero, List.getElem?_cons_succ]; rfl)
        case hw20029 => rfl
        case hy20029 => first | (intro wx hSw; go_simp; done) | (intro wx hSw; go_simp; with_reducible rfl)
        simp only [Act.put, List.setIfInBounds_toArray, List.set_cons_zero, List.set_cons_succ]
        refine wpAnyH_done (by kernel_rfl) ?_ _
        refine NoPanic.normal ?_
        skip
        exact unhide REST28 _ _ (by kernel_rfl) (hide RE) (hide GE)
      have C1 := hide C1
      have C0 : ∀ (ac : Act) (X : World), ac = ⟨#[ac.tmps.getD 0 undef, ac.tmps.getD 1 undef, ac.tmps.getD 2 undef, ac.tmps.getD 3 undef, ac.tmps.getD 4 undef, .pointer (some ⟨bx, 0, none⟩), .pointer (some ⟨bz, 0, none⟩), ac.tmps.getD 7 undef, .slice (some ⟨gl, 0, none⟩) 2 cl, ac.tmps.getD 9 undef, ac.tmps.getD 10 undef, ac.tmps.getD 11 undef, ac.tmps.getD 12 undef, ac.tmps.getD 13 undef, ac.tmps.getD 14 undef, ac.tmps.getD 15 undef, ac.tmps.getD 16 undef, ac.tmps.getD 17 undef, ac.tmps.getD 18 undef, ac.tmps.getD 19 undef, ac.tmps.getD 20 undef, ac.tmps.getD 21 undef, ac.tmps.getD 22 undef, ac.tmps.getD 23 undef, ac.tmps.getD 24 undef, ac.tmps.getD 25 undef, ac.tmps.getD 26 undef, ac.tmps.getD 27 undef, ac.tmps.getD 28 undef, ac.tmps.getD 29 undef, ac.tmps.getD 30 undef, ac.tmps.getD 31 undef, ac.tmps.getD 32 undef, ac.tmps.getD 33 undef, ac.tmps.getD 34 undef, ac.tmps.getD 35 undef, ac.tmps.getD 36 undef, ac.tmps.getD 37 undef, ac.tmps.getD 38 undef, ac.tmps.getD 39 undef, ac.tmps.getD 40 undef, ac.tmps.getD 41 undef, ac.tmps.getD 42 undef, ac.tmps.getD 43 undef, ac.tmps.getD 44 undef, ac.tmps.getD 45 undef, ac.tmps.getD 46 undef, ac.tmps.getD 47 undef, ac.tmps.getD 48 undef, ac.tmps.getD 49 undef, ac.tmps.getD 50 undef, ac.tmps.getD 51 undef, ac.tmps.getD 52 undef, ac.tmps.getD 53 undef, ac.tmps.getD 54 undef, ac.tmps.getD 55 undef, ac.tmps.getD 56 undef, ac.tmps.getD 57 undef, ac.tmps.getD 58 undef, ac.tmps.getD 59 undef, ac.tmps.getD 60 undef, ac.tmps.getD 61 undef, ac.tmps.getD 62 undef, ac.tmps.getD 63 undef, ac.tmps.getD 64 undef, ac.tmps.getD 65 undef, ac.tmps.getD 66 undef, ac.tmps.getD 67 undef, ac.tmps.getD 68 undef, ac.tmps.getD 69 undef, ac.tmps.getD 70 undef, ac.tmps.getD 71 undef, ac.tmps.getD 72 undef, ac.tmps.getD 73 undef, ac.tmps.getD 74 undef, ac.tmps.getD 75 undef, ac.tmps.getD 76 undef, ac.tmps.getD 77 undef, ac.tmps.getD 78 undef, ac.tmps.getD 79 undef, ac.tmps.getD 80 undef, ac.tmps.getD 81 undef, ac.tmps.getD 82 undef, ac.tmps.getD 83 undef, ac.tmps.getD 84 undef, ac.tmps.getD 85 undef, ac.tmps.getD 86 undef, ac.tmps.getD 87 undef, ac.tmps.getD 88 undef, ac.tmps.getD 89 undef, ac.tmps.getD 90 undef, ac.tmps.getD 91 undef, ac.tmps.getD 92 undef, ac.tmps.getD 93 undef, ac.tmps.getD 94 undef, ac.tmps.getD 95 undef, ac.tmps.getD 96 undef, ac.tmps.getD 97 undef, .int .i64 9, ac.tmps.getD 99 undef, ac.tmps.getD 100 undef, .agg #[(.int .i64 v1), (.int .i64 v2), (.int .i64 v3), (.string v4)], ac.tmps.getD 102 undef, ac.tmps.getD 103 undef, .agg #[(.int .i64 v1), (.int .i64 v2), (.int .i64 v3), (.string v4)], ac.tmps.getD 105 undef], []⟩ → Below Wd.heap.size Wd X → GG 3 #[true, true, true, true, true, true, true, true, false, false, false] ac X := by
        intro ac X ha GD
        obtain ⟨u, rfl⟩ : ∃ u : Nat → Value, ac = ⟨#[u 0, u 1, u 2, u 3, u 4, .pointer (some ⟨bx, 0, none⟩), .pointer (some ⟨bz, 0, none⟩), u 7, .slice (some ⟨gl, 0, none⟩) 2 cl, u 9, u 10, u 11, u 12, u 13, u 14, u 15, u 16, u 17, u 18, u 19, u 20, u 21, u 22, u 23, u 24, u 25, u 26, u 27, u 28, u 29, u 30, u 31, u 32, u 33, u 34, u 35, u 36, u 37, u 38, u 39, u 40, u 41, u 42, u 43, u 44, u 45, u 46, u 47, u 48, u 49, u 50, u 51, u 52, u 53, u 54, u 55, u 56, u 57, u 58, u 59, u 60, u 61, u 62, u 63, u 64, u 65, u 66, u 67, u 68, u 69, u 70, u 71, u 72, u 73, u 74, u 75, u 76, u 77, u 78, u 79, u 80, u 81, u 82, u 83, u 84, u 85, u 86, u 87, u 88, u 89, u 90, u 91, u 92, u 93, u 94, u 95, u 96, u 97, .int .i64 9, u 99, u 100, .agg #[(.int .i64 v1), (.int .i64 v2), (.int .i64 v3), (.string v4)], u 102, u 103, .agg #[(.int .i64 v1), (.int .i64 v2), (.int .i64 v3), (.string v4)], u 105], []⟩ := ⟨fun i => ac.tmps.getD i undef, ha⟩
        clear ha
        refine unhide HIN _ _ _ _ ?_
        have hHeld : (SRq bx g1 c1 gl (v1, v2, v3, v4)) X := (unhide hQ).call GD
        refine wpAnyH_ready (rs := [8]) (by kernel_rfl) (by simp) ?_
        refine AllReadyH.cons rfl (fun K20030 hK20030 => ?_) AllReadyH.nil
        go_simp
        go_wp2_with (go_at_call 50; refine (unhide CQ _).mono ?_; rintro e X2 ⟨rfl, hb⟩)
        refine hK20030.out _ _ ?hs20030 (fun hH20030 => ?_)
        case hs20030 => exact hHeld.call hb
        clear hHeld
        have hHeld := hH20030; clear hH20030 hK20030 K20030
        refine unhide HOUT _ _ _ _ ?_
        exact unhide C1 _  _ (by kernel_rfl) (GD.trans (hb.mono GD.size)) 
      have C0 := hide C0
      exact unhide C0 _ _ (by kernel_rfl) (Below.refl _ _)
end Go.Proofs.Ytliefgkhpgigaaa

namespace Go.Proofs.Ytliefgkhpgigaaa
open Go.RowKit Go.Shelf
set_option linter.unusedSimpArgs false
set_option linter.unusedVariables false

/-- a row in a block of its own -/
def RowB (g : Nat) (l : List V4) (W : World) : Prop := l.length ≤ 1000 ∧ ∃ cur, W.heap[g]? = some (.cells cur 28 (0, 0)) ∧ ∀ j, j < l.length * 4 → cur[j]? = (rowC l)[j]?
theorem RowB.call {g : Nat} {l : List V4} {W W' : World} (h : RowB g l W) (hb : Below W.heap.size W W') : RowB g l W' := by
  obtain ⟨h0, cur, h1, h2⟩ := h
  exact ⟨h0, cur, (hb.block g (Array.getElem?_eq_some_iff.1 h1).1).trans h1, h2⟩
theorem RowB.row {g : Nat} {l : List V4} {W : World} (h : RowB g l W) : RowOf (some ⟨g, 0, none⟩) l W := by
  obtain ⟨h0, cur, hgb, hc⟩ := h
  refine ⟨h0, fun i hi => ⟨g, rfl, (Array.getElem?_eq_some_iff.1 hgb).1, ?_⟩⟩
  obtain ⟨a1, a2, a3, a4⟩ := rowC_at l i hi
  exact ⟨(cell_of_row W g _ cur _ _ hgb).trans ((hc _ (by omega)).trans a1), (cell_of_row W g _ cur _ _ hgb).trans ((hc _ (by omega)).trans a2), (cell_of_row W g _ cur _ _ hgb).trans ((hc _ (by omega)).trans a3), (cell_of_row W g _ cur _ _ hgb).trans ((hc _ (by omega)).trans a4)⟩
theorem RowB.lt {g : Nat} {l : List V4} {W : World} (h : RowB g l W) : g < W.heap.size := by
  obtain ⟨_, cur, h1, _⟩ := h
  exact (Array.getElem?_eq_some_iff.1 h1).1
theorem RowB.froz {g : Nat} {l : List V4} {W : World} (h : RowB g l W) (j : Nat) : W.frozen? ⟨g, j, none⟩ = false := by
  obtain ⟨_, cur, h1, _⟩ := h
  simp [World.frozen?, h1]
theorem RowB.far {g b : Nat} {l : List V4} {W : World} (h : RowB g l W) (hne : g ≠ b) (j : Nat) (y : Value) : RowB g l (W.setCell ⟨b, j, none⟩ y) := by
  obtain ⟨h0, cur, h1, h2⟩ := h
  exact ⟨h0, cur, (Below.heap_setCell _ _ _ _ (by simp; omega)).trans h1, h2⟩
theorem rowC_set : ∀ (l : List V4) (k : Nat) (x : V4) (j : Nat), k < l.length → (rowC (l.set k x))[j]? = if j = k * 4 then some (.int .i64 x.1) else if j = k * 4 + 1 then some (.int .i64 x.2.1) else if j = k * 4 + 2 then some (.int .i64 x.2.2.1) else if j = k * 4 + 3 then some (.string x.2.2.2) else (rowC l)[j]?
  | [], k, x, j, h => absurd h (by simp)
  | y :: l, 0, x, j, h => by
    show (vC x ++ rowC l)[j]? = _
    match j with
    | 0 => rfl
    | 1 => rfl
    | 2 => rfl
    | 3 => rfl
    | j + 4 =>
      rw [if_neg (by omega), if_neg (by omega), if_neg (by omega), if_neg (by omega)]
      show _ = (vC y ++ rowC l)[j + 4]?
      rw [List.getElem?_append_right (by simp [vC]), List.getElem?_append_right (by simp [vC])]
      rfl
  | y :: l, k + 1, x, j, h => by
    show (vC y ++ rowC (l.set k x))[j]? = _
    have ih := rowC_set l k x (j - 4) (by simpa using h)
    by_cases hj : j < 4
    · rw [if_neg (by omega), if_neg (by omega), if_neg (by omega), if_neg (by omega)]
      show _ = (vC y ++ rowC l)[j]?
      rw [List.getElem?_append_left (by simp [vC]; omega), List.getElem?_append_left (by simp [vC]; omega)]
    · rw [List.getElem?_append_right (by simp [vC]; omega), show (vC y).length = 4 from rfl, ih]
      show _ = if _ then _ else if _ then _ else if _ then _ else if _ then _ else (vC y ++ rowC l)[j]?
      rw [List.getElem?_append_right (by simp [vC]; omega), show (vC y).length = 4 from rfl]
      by_cases h1 : j = (k + 1) * 4
      · rw [if_pos h1, if_pos (by omega)]
      · rw [if_neg h1, if_neg (by omega)]
        by_cases h2 : j = (k + 1) * 4 + 1
        · rw [if_pos h2, if_pos (by omega)]
        · rw [if_neg h2, if_neg (by omega)]
          by_cases h3 : j = (k + 1) * 4 + 2
          · rw [if_pos h3, if_pos (by omega)]
          · rw [if_neg h3, if_neg (by omega)]
            by_cases h4 : j = (k + 1) * 4 + 3
            · rw [if_pos h4, if_pos (by omega)]
            · rw [if_neg h4, if_neg (by omega)]
theorem RowB.set {g k : Nat} {l : List V4} {W : World} (h : RowB g l W) (hk : k < l.length) (x : V4) : RowB g (l.set k x) ((((W.setCell ⟨g, k * 4, none⟩ (.int .i64 x.1)).setCell ⟨g, k * 4 + 1, none⟩ (.int .i64 x.2.1)).setCell ⟨g, k * 4 + 2, none⟩ (.int .i64 x.2.2.1)).setCell ⟨g, k * 4 + 3, none⟩ (.string x.2.2.2)) := by
  obtain ⟨h0, cur, h1, h2⟩ := h
  refine ⟨by simpa using h0, _, heapSet (heapSet (heapSet (heapSet h1 _ _) _ _) _ _) _ _, fun j hj => ?_⟩
  rw [List.length_set] at hj
  have hs : ∀ i, i < l.length * 4 → i < cur.size := fun i hi => by
    have e := h2 i hi
    have : (rowC l)[i]? ≠ none := by rw [List.getElem?_eq_getElem (by rw [rowC_len]; exact hi)]; simp
    rw [← e] at this
    exact Nat.lt_of_not_le (fun hle => this (Array.getElem?_eq_none_iff.2 hle))
  rw [rowC_set l k x j hk]
  have a0 := hs (k * 4) (by omega)
  have a1 := hs (k * 4 + 1) (by omega)
  have a2 := hs (k * 4 + 2) (by omega)
  have a3 := hs (k * 4 + 3) (by omega)
  simp only [Array.getElem?_setIfInBounds, Array.size_setIfInBounds]
  by_cases e3 : j = k * 4 + 3
  · subst e3; rw [if_pos rfl, if_pos a3, if_neg (by omega), if_neg (by omega), if_neg (by omega), if_pos rfl]
  · rw [if_neg (by omega)]
    by_cases e2 : j = k * 4 + 2
    · subst e2; rw [if_pos rfl, if_pos a2, if_neg (by omega), if_neg (by omega), if_pos rfl]
    · rw [if_neg (by omega)]
      by_cases e1 : j = k * 4 + 1
      · subst e1; rw [if_pos rfl, if_pos a1, if_neg (by omega), if_pos rfl]
      · rw [if_neg (by omega)]
        by_cases e0 : j = k * 4
        · subst e0; rw [if_pos rfl, if_pos a0, if_pos rfl]
        · rw [if_neg (by omega), if_neg e0, if_neg e1, if_neg e2, if_neg e3]; exact h2 j hj
/-- four values that Make may make; whatever the world -/
def MkA (l : List V4) (_ : World) : Prop := l.length = 4 ∧ ∀ x ∈ l, MkV x
theorem MkA.call {l : List V4} {W W' : World} (h : MkA l W) (_ : Below W.heap.size W W') : MkA l W' := h
theorem row4c (gc : Nat) (p : Option Addr) (ncap : Nat) (zs : List Int) (w : World) (hC : ColsOf (.slice (some ⟨gc, 0, none⟩) 4 4) cols4 w) (hz : IntsP p zs w) :
    Calls Try.prog 18 #[.agg #[.string ⟨#[116]⟩, .slice (some ⟨gc, 0, none⟩) 4 4, .int .i64 0, N0, .int .i64 0, .string S0, .int .i64 0, .int .i64 0, .int .i64 0, .string S0, N0, N0], .slice p zs.length ncap, .string S0] w fun e W => ∃ g cap l, e = .returned (.slice (some ⟨g, 0, none⟩) 4 cap) ∧ Hid (RowB g l W) ∧ Hid (MkA l W) ∧ Hid (GeB w.heap.size g W) ∧ Below w.heap.size w W := by
  refine (row4_any (.string ⟨#[116]⟩) (.int .i64 0) N0 (.int .i64 0) (.string S0) (.int .i64 0) (.int .i64 0) (.int .i64 0) (.string S0) N0 N0 gc 4 cols4 p ncap zs S0 w hC (by decide) hz (by decide)).mono ?_
  rintro e W ⟨v, rfl, l, hl, hm, ho, hb⟩
  have hl4 : l.length = 4 := hl
  obtain ⟨g, cap, cur, rfl, hge, hgb, hc, hr⟩ := row_own (by omega) ho (by rintro rfl; simp at hl4)
  exact ⟨g, cap, l, by rw [hl4], ⟨by omega, cur, hgb, hc⟩, ⟨hl4, hm⟩, (Nat.le_of_succ_le hge : _), hb⟩
/-- a column's name, by its place -/
def NMk : Nat → ByteArray
  | 0 => ⟨#[97]⟩
  | 1 => ⟨#[98]⟩
  | 2 => ⟨#[99]⟩
  | _ => ⟨#[100]⟩
theorem nmk_col (k : Nat) (hk : k < 4) : (cols4[k]'hk).1 = NMk k := by
  match k, hk with
  | 0, _ => rfl
  | 1, _ => rfl
  | 2, _ => rfl
  | 3, _ => rfl
theorem nmk_val (k : Nat) (l : List V4) (hl : l.length = 4) (hk : k < 4) : valR (NMk k) cols4 l = (l[k]'(by omega), 0) ∧ valFrom (NMk k) cols4 l = some (l[k]'(by omega)) := by
  match l, hl with
  | [x, y, p, q], _ =>
    have key : valR (NMk k) cols4 [x, y, p, q] = ([x, y, p, q][k]'(by simpa using hk), 0) := by
      match k, hk with
      | 0, _ => exact nm_a x y p q
      | 1, _ => exact nm_b x y p q
      | 2, _ => exact nm_c x y p q
      | 3, _ => exact nm_d x y p q
    refine ⟨key, ?_⟩
    unfold valR at key
    split at key
    · rename_i v hv; rw [hv]; simp at key; rw [key]
    · simp at key
def NU (v : V4) : V4 := valT (truR 5 v Z4 (cmpR 5 v Z4))
def EQ (v u : V4) : V4 := valT (truR 9 v u (cmpR 9 v u))
theorem ev_nul {cs : List C3} {vs : List V4} {a : Ex} {x : V4} (ha : evalR cs vs a = (x, 0)) : evalR cs vs (oneX 5 a) = (NU x, 0) := by
  rw [ev_one 5 ha]; rfl
theorem ev_eq9 {cs : List C3} {vs : List V4} {a b : Ex} {x y : V4} (ha : evalR cs vs a = (x, 0)) (hb : evalR cs vs b = (y, 0)) : evalR cs vs (twoX 9 a b) = (EQ x y, 0) := by
  rw [ev_two 9 ha hb]; rfl
theorem eq_self (v : V4) : EQ v v = rcmpV 9 v v := by
  have o1 : ordV v.1 v.2.1 v.2.2.1 v.2.2.2 v.1 v.2.1 v.2.2.1 v.2.2.2 = 0 := by unfold ordV; simp [cmpI_same, cmpS_same]
  have o2 : rordV v.1 v.2.1 v.2.2.1 v.2.2.2 v.1 v.2.1 v.2.2.1 v.2.2.2 = 0 := by unfold rordV; simp [cmpI_same, cmpS_same]
  have e1 : EQ v v = valT (cmpT 9 (oneK v.1 v.1) (oneK v.1 v.1) (oneK v.1 v.1 && decide ((0 : Int) < 0))) := by
    show valT (cmpR 9 v v) = _
    unfold cmpR
    rw [o1]
    simp
  have e2 : rcmpV 9 v v = rtru (rkB v.1 v.1) (rkB v.1 v.1) := by
    unfold rcmpV
    rw [o2]
    simp
  rw [e1, e2]
  have e3 : oneK v.1 v.1 = rkB v.1 v.1 := by unfold oneK rkB; simp
  rw [e3]
  cases rkB v.1 v.1 <;> decide +kernel
end Go.Proofs.Ytliefgkhpgigaaa

namespace Go.Proofs.Ytliefgkhpgigaaa
open Go.RowKit Go.Shelf
set_option linter.unusedSimpArgs false
set_option linter.unusedVariables false

def LeS2 (n : Nat) (X : World) : Prop := n ≤ X.heap.size
theorem LeS2.call {n : Nat} {W W' : World} (h : LeS2 n W) (hb : Below W.heap.size W W') : LeS2 n W' := Nat.le_trans h hb.size
set_option maxHeartbeats 32000000 in
set_option maxRecDepth 100000 in
theorem smA {r0 r1 r2 r3 rest : Code} (hc : Try.f11.body = some (.seq r0 (.seq r1 (.seq r2 (.seq r3 (rest)))))) (w : World) (n0 gc bt : Nat) (p q : Option Addr) (zs ys : List Int) (np nq : Nat) (at_ : Int) (K : Act → World → Prop) (Q : Exit → Act → World → Prop) (REST : Hid (∀ (ac : Act) (ga ca : Nat) (la : List V4) (gb cb : Nat) (lb : List V4) (X : World), ac = ⟨#[.slice p zs.length np, .slice q ys.length nq, .int .i64 at_, ac.tmps.getD 3 undef, ac.tmps.getD 4 undef, ac.tmps.getD 5 undef, ac.tmps.getD 6 undef, .pointer (some ⟨bt, 0, none⟩), .slice (some ⟨ga, 0, none⟩) 4 ca, .slice (some ⟨gb, 0, none⟩) 4 cb, ac.tmps.getD 10 undef, ac.tmps.getD 11 undef, ac.tmps.getD 12 undef, ac.tmps.getD 13 undef, ac.tmps.getD 14 undef, ac.tmps.getD 15 undef, ac.tmps.getD 16 undef, ac.tmps.getD 17 undef, ac.tmps.getD 18 undef, ac.tmps.getD 19 undef, ac.tmps.getD 20 undef, ac.tmps.getD 21 undef, ac.tmps.getD 22 undef, ac.tmps.getD 23 undef, ac.tmps.getD 24 undef, ac.tmps.getD 25 undef, ac.tmps.getD 26 undef, ac.tmps.getD 27 undef, ac.tmps.getD 28 undef, ac.tmps.getD 29 undef, ac.tmps.getD 30 undef, ac.tmps.getD 31 undef, ac.tmps.getD 32 undef, ac.tmps.getD 33 undef, ac.tmps.getD 34 undef, ac.tmps.getD 35 undef, ac.tmps.getD 36 undef, ac.tmps.getD 37 undef, ac.tmps.getD 38 undef, ac.tmps.getD 39 undef, ac.tmps.getD 40 undef, ac.tmps.getD 41 undef, ac.tmps.getD 42 undef, ac.tmps.getD 43 undef, ac.tmps.getD 44 undef, ac.tmps.getD 45 undef, ac.tmps.getD 46 undef, ac.tmps.getD 47 undef, ac.tmps.getD 48 undef, ac.tmps.getD 49 undef, ac.tmps.getD 50 undef, ac.tmps.getD 51 undef, ac.tmps.getD 52 undef, ac.tmps.getD 53 undef, ac.tmps.getD 54 undef, ac.tmps.getD 55 undef, ac.tmps.getD 56 undef, ac.tmps.getD 57 undef, ac.tmps.getD 58 undef, ac.tmps.getD 59 undef, ac.tmps.getD 60 undef, ac.tmps.getD 61 undef, ac.tmps.getD 62 undef, ac.tmps.getD 63 undef, ac.tmps.getD 64 undef, ac.tmps.getD 65 undef, ac.tmps.getD 66 undef, ac.tmps.getD 67 undef, ac.tmps.getD 68 undef, ac.tmps.getD 69 undef, ac.tmps.getD 70 undef, ac.tmps.getD 71 undef, ac.tmps.getD 72 undef, ac.tmps.getD 73 undef, ac.tmps.getD 74 undef, ac.tmps.getD 75 undef, ac.tmps.getD 76 undef, ac.tmps.getD 77 undef, ac.tmps.getD 78 undef, ac.tmps.getD 79 undef, ac.tmps.getD 80 undef, ac.tmps.getD 81 undef, ac.tmps.getD 82 undef, ac.tmps.getD 83 undef, ac.tmps.getD 84 undef, ac.tmps.getD 85 undef, ac.tmps.getD 86 undef, ac.tmps.getD 87 undef, ac.tmps.getD 88 undef, ac.tmps.getD 89 undef, ac.tmps.getD 90 undef, ac.tmps.getD 91 undef, ac.tmps.getD 92 undef, ac.tmps.getD 93 undef, ac.tmps.getD 94 undef, ac.tmps.getD 95 undef, ac.tmps.getD 96 undef, ac.tmps.getD 97 undef, ac.tmps.getD 98 undef, ac.tmps.getD 99 undef, ac.tmps.getD 100 undef, ac.tmps.getD 101 undef, ac.tmps.getD 102 undef, ac.tmps.getD 103 undef, ac.tmps.getD 104 undef, ac.tmps.getD 105 undef, ac.tmps.getD 106 undef, ac.tmps.getD 107 undef, ac.tmps.getD 108 undef, ac.tmps.getD 109 undef, ac.tmps.getD 110 undef, ac.tmps.getD 111 undef, ac.tmps.getD 112 undef, ac.tmps.getD 113 undef, ac.tmps.getD 114 undef, ac.tmps.getD 115 undef, ac.tmps.getD 116 undef, ac.tmps.getD 117 undef, ac.tmps.getD 118 undef, ac.tmps.getD 119 undef, ac.tmps.getD 120 undef, ac.tmps.getD 121 undef, ac.tmps.getD 122 undef, ac.tmps.getD 123 undef, ac.tmps.getD 124 undef, ac.tmps.getD 125 undef, ac.tmps.getD 126 undef, ac.tmps.getD 127 undef], []⟩ → Hid (Grown w X) → Hid (ColsOf (.slice (some ⟨gc, 0, none⟩) 4 4) cols4 X) → Hid (Blk bt #[.string ⟨#[116]⟩, .slice (some ⟨gc, 0, none⟩) 4 4, .int .i64 0, N0, .int .i64 0, .string S0, .int .i64 0, .int .i64 0, .int .i64 0, .string S0, N0, N0] 34 X) → Hid (IntsP p zs X) → Hid (IntsP q ys X) → Hid (RowB ga la X) → Hid (MkA la X) → Hid (GeB n0 ga X) → Hid (RowB gb lb X) → Hid (MkA lb X) → Hid (GeB (ga + 1) gb X) → K ac X)) (ac : Act) (X : World) (ha : ac = ⟨#[.slice p zs.length np, .slice q ys.length nq, .int .i64 at_, ac.tmps.getD 3 undef, ac.tmps.getD 4 undef, ac.tmps.getD 5 undef, ac.tmps.getD 6 undef, .pointer (some ⟨bt, 0, none⟩), ac.tmps.getD 8 undef, ac.tmps.getD 9 undef, ac.tmps.getD 10 undef, ac.tmps.getD 11 undef, ac.tmps.getD 12 undef, ac.tmps.getD 13 undef, ac.tmps.getD 14 undef, ac.tmps.getD 15 undef, ac.tmps.getD 16 undef, ac.tmps.getD 17 undef, ac.tmps.getD 18 undef, ac.tmps.getD 19 undef, ac.tmps.getD 20 undef, ac.tmps.getD 21 undef, ac.tmps.getD 22 undef, ac.tmps.getD 23 undef, ac.tmps.getD 24 undef, ac.tmps.getD 25 undef, ac.tmps.getD 26 undef, ac.tmps.getD 27 undef, ac.tmps.getD 28 undef, ac.tmps.getD 29 undef, ac.tmps.getD 30 undef, ac.tmps.getD 31 undef, ac.tmps.getD 32 undef, ac.tmps.getD 33 undef, ac.tmps.getD 34 undef, ac.tmps.getD 35 undef, ac.tmps.getD 36 undef, ac.tmps.getD 37 undef, ac.tmps.getD 38 undef, ac.tmps.getD 39 undef, ac.tmps.getD 40 undef, ac.tmps.getD 41 undef, ac.tmps.getD 42 undef, ac.tmps.getD 43 undef, ac.tmps.getD 44 undef, ac.tmps.getD 45 undef, ac.tmps.getD 46 undef, ac.tmps.getD 47 undef, ac.tmps.getD 48 undef, ac.tmps.getD 49 undef, ac.tmps.getD 50 undef, ac.tmps.getD 51 undef, ac.tmps.getD 52 undef, ac.tmps.getD 53 undef, ac.tmps.getD 54 undef, ac.tmps.getD 55 undef, ac.tmps.getD 56 undef, ac.tmps.getD 57 undef, ac.tmps.getD 58 undef, ac.tmps.getD 59 undef, ac.tmps.getD 60 undef, ac.tmps.getD 61 undef, ac.tmps.getD 62 undef, ac.tmps.getD 63 undef, ac.tmps.getD 64 undef, ac.tmps.getD 65 undef, ac.tmps.getD 66 undef, ac.tmps.getD 67 undef, ac.tmps.getD 68 undef, ac.tmps.getD 69 undef, ac.tmps.getD 70 undef, ac.tmps.getD 71 undef, ac.tmps.getD 72 undef, ac.tmps.getD 73 undef, ac.tmps.getD 74 undef, ac.tmps.getD 75 undef, ac.tmps.getD 76 undef, ac.tmps.getD 77 undef, ac.tmps.getD 78 undef, ac.tmps.getD 79 undef, ac.tmps.getD 80 undef, ac.tmps.getD 81 undef, ac.tmps.getD 82 undef, ac.tmps.getD 83 undef, ac.tmps.getD 84 undef, ac.tmps.getD 85 undef, ac.tmps.getD 86 undef, ac.tmps.getD 87 undef, ac.tmps.getD 88 undef, ac.tmps.getD 89 undef, ac.tmps.getD 90 undef, ac.tmps.getD 91 undef, ac.tmps.getD 92 undef, ac.tmps.getD 93 undef, ac.tmps.getD 94 undef, ac.tmps.getD 95 undef, ac.tmps.getD 96 undef, ac.tmps.getD 97 undef, ac.tmps.getD 98 undef, ac.tmps.getD 99 undef, ac.tmps.getD 100 undef, ac.tmps.getD 101 undef, ac.tmps.getD 102 undef, ac.tmps.getD 103 undef, ac.tmps.getD 104 undef, ac.tmps.getD 105 undef, ac.tmps.getD 106 undef, ac.tmps.getD 107 undef, ac.tmps.getD 108 undef, ac.tmps.getD 109 undef, ac.tmps.getD 110 undef, ac.tmps.getD 111 undef, ac.tmps.getD 112 undef, ac.tmps.getD 113 undef, ac.tmps.getD 114 undef, ac.tmps.getD 115 undef, ac.tmps.getD 116 undef, ac.tmps.getD 117 undef, ac.tmps.getD 118 undef, ac.tmps.getD 119 undef, ac.tmps.getD 120 undef, ac.tmps.getD 121 undef, ac.tmps.getD 122 undef, ac.tmps.getD 123 undef, ac.tmps.getD 124 undef, ac.tmps.getD 125 undef, ac.tmps.getD 126 undef, ac.tmps.getD 127 undef], []⟩) (G : Hid (Grown w X)) (hC : Hid (ColsOf (.slice (some ⟨gc, 0, none⟩) 4 4) cols4 X)) (hT : Hid (Blk bt #[.string ⟨#[116]⟩, .slice (some ⟨gc, 0, none⟩) 4 4, .int .i64 0, N0, .int .i64 0, .string S0, .int .i64 0, .int .i64 0, .int .i64 0, .string S0, N0, N0] 34 X)) (hz : Hid (IntsP p zs X)) (hy : Hid (IntsP q ys X)) (hN : Hid (LeS2 n0 X)) : r3.wp Try.prog (Exit.then K Q) ac X := by
  obtain ⟨u, rfl⟩ : ∃ u : Nat → Value, ac = ⟨#[.slice p zs.length np, .slice q ys.length nq, .int .i64 at_, u 3, u 4, u 5, u 6, .pointer (some ⟨bt, 0, none⟩), u 8, u 9, u 10, u 11, u 12, u 13, u 14, u 15, u 16, u 17, u 18, u 19, u 20, u 21, u 22, u 23, u 24, u 25, u 26, u 27, u 28, u 29, u 30, u 31, u 32, u 33, u 34, u 35, u 36, u 37, u 38, u 39, u 40, u 41, u 42, u 43, u 44, u 45, u 46, u 47, u 48, u 49, u 50, u 51, u 52, u 53, u 54, u 55, u 56, u 57, u 58, u 59, u 60, u 61, u 62, u 63, u 64, u 65, u 66, u 67, u 68, u 69, u 70, u 71, u 72, u 73, u 74, u 75, u 76, u 77, u 78, u 79, u 80, u 81, u 82, u 83, u 84, u 85, u 86, u 87, u 88, u 89, u 90, u 91, u 92, u 93, u 94, u 95, u 96, u 97, u 98, u 99, u 100, u 101, u 102, u 103, u 104, u 105, u 106, u 107, u 108, u 109, u 110, u 111, u 112, u 113, u 114, u 115, u 116, u 117, u 118, u 119, u 120, u 121, u 122, u 123, u 124, u 125, u 126, u 127], []⟩ := ⟨fun i => ac.tmps.getD i undef, ha⟩
  clear ha
  unfold Try.f11 at hc
  cases hc
  refine wp_region_noPanic ?_
  refine wp_region_held_drew (S := (fun X => Blk bt #[.string ⟨#[116]⟩, .slice (some ⟨gc, 0, none⟩) 4 4, .int .i64 0, N0, .int .i64 0, .string S0, .int .i64 0, .int .i64 0, .int .i64 0, .string S0, N0, N0] 34 X)) (by kernel_rfl) ((unhide hT).call (Below.refl _ _).drew) (fun hHeld => ?_)
  have hbd : Below X.heap.size X X.drew := (Below.refl _ _).drew
  replace G := hide ((unhide G).call hbd)
  replace hC := hide ((unhide hC).call hbd)
  replace hT := hide ((unhide hT).call hbd)
  replace hz := hide ((unhide hz).call hbd)
  replace hy := hide ((unhide hy).call hbd)
  replace hN := hide ((unhide hN).call hbd)
  clear hbd
  generalize X.drew = Wd at *
  refine wpAnyH_take (i := 0) (oi := ?oi20001) (v := ?v20001) ?hi20001 (by kernel_rfl) (by kernel_rfl) (by kernel_rfl) (fun _ _ _ h => h) (Or.inl ⟨?hw20001, ?hy20001⟩) (by assumption) ?rest20001
  case hi20001 => (simp only [List.getElem?_toArray, List.getElem?_cons_zero]; rfl)
  case hw20001 => rfl
  case hy20001 => first | (intro wx hSw; have hT := hSw; have t0 := Blk.cell hT 0; have t1 := Blk.cell hT 1; have t2 := Blk.cell hT 2; have t3 := Blk.cell hT 3; have t4 := Blk.cell hT 4; have t5 := Blk.cell hT 5; have t6 := Blk.cell hT 6; have t7 := Blk.cell hT 7; have t8 := Blk.cell hT 8; have t9 := Blk.cell hT 9; have t10 := Blk.cell hT 10; have t11 := Blk.cell hT 11; simp at t0 t1 t2 t3 t4 t5 t6 t7 t8 t9 t10 t11; go_simp; done) | (intro wx hSw; have hT := hSw; have t0 := Blk.cell hT 0; have t1 := Blk.cell hT 1; have t2 := Blk.cell hT 2; have t3 := Blk.cell hT 3; have t4 := Blk.cell hT 4; have t5 := Blk.cell hT 5; have t6 := Blk.cell hT 6; have t7 := Blk.cell hT 7; have t8 := Blk.cell hT 8; have t9 := Blk.cell hT 9; have t10 := Blk.cell hT 10; have t11 := Blk.cell hT 11; simp at t0 t1 t2 t3 t4 t5 t6 t7 t8 t9 t10 t11; go_simp; with_reducible rfl)
  simp only [Act.put, List.setIfInBounds_toArray, List.set_cons_zero, List.set_cons_succ]
  refine wpAnyH_take (i := 1) (oi := ?oi20002) (v := ?v20002) ?hi20002 (by kernel_rfl) (by kernel_rfl) (by kernel_rfl) (fun _ _ _ h => h) (Or.inl ⟨?hw20002, ?hy20002⟩) (by assumption) ?rest20002
  case hi20002 => (simp only [List.getElem?_toArray, List.getElem?_cons_zero, List.getElem?_cons_succ]; rfl)
  case hw20002 => rfl
  case hy20002 => first | (intro wx hSw; go_simp; done) | (intro wx hSw; go_simp; with_reducible rfl)
  simp only [Act.put, List.setIfInBounds_toArray, List.set_cons_zero, List.set_cons_succ]
  refine wpAnyH_take (i := 3) (oi := ?oi20003) (v := ?v20003) ?hi20003 (by kernel_rfl) (by kernel_rfl) (by kernel_rfl) (fun _ _ _ h => h) (Or.inl ⟨?hw20003, ?hy20003⟩) (by assumption) ?rest20003
  case hi20003 => (simp only [List.getElem?_toArray, List.getElem?_cons_zero, List.getElem?_cons_succ]; rfl)
  case hw20003 => rfl
  case hy20003 => first | (intro wx hSw; have hT := hSw; have t0 := Blk.cell hT 0; have t1 := Blk.cell hT 1; have t2 := Blk.cell hT 2; have t3 := Blk.cell hT 3; have t4 := Blk.cell hT 4; have t5 := Blk.cell hT 5; have t6 := Blk.cell hT 6; have t7 := Blk.cell hT 7; have t8 := Blk.cell hT 8; have t9 := Blk.cell hT 9; have t10 := Blk.cell hT 10; have t11 := Blk.cell hT 11; simp at t0 t1 t2 t3 t4 t5 t6 t7 t8 t9 t10 t11; go_simp; done) | (intro wx hSw; have hT := hSw; have t0 := Blk.cell hT 0; have t1 := Blk.cell hT 1; have t2 := Blk.cell hT 2; have t3 := Blk.cell hT 3; have t4 := Blk.cell hT 4; have t5 := Blk.cell hT 5; have t6 := Blk.cell hT 6; have t7 := Blk.cell hT 7; have t8 := Blk.cell hT 8; have t9 := Blk.cell hT 9; have t10 := Blk.cell hT 10; have t11 := Blk.cell hT 11; simp at t0 t1 t2 t3 t4 t5 t6 t7 t8 t9 t10 t11; go_simp; with_reducible rfl)
  simp only [Act.put, List.setIfInBounds_toArray, List.set_cons_zero, List.set_cons_succ]
  refine wpAnyH_take (i := 4) (oi := ?oi20004) (v := ?v20004) ?hi20004 (by kernel_rfl) (by kernel_rfl) (by kernel_rfl) (fun _ _ _ h => h) (Or.inl ⟨?hw20004, ?hy20004⟩) (by assumption) ?rest20004
  case hi20004 => (simp only [List.getElem?_toArray, List.getElem?_cons_zero, List.getElem?_cons_succ]; rfl)
  case hw20004 => rfl
  case hy20004 => first | (intro wx hSw; go_simp; done) | (intro wx hSw; go_simp; with_reducible rfl)
  simp only [Act.put, List.setIfInBounds_toArray, List.set_cons_zero, List.set_cons_succ]
  refine anyH_name ?_
  intro GG hin hout
  have HIN := hide hin
  have HOUT := hide hout
  clear hin hout hHeld
  have C2 : ∀ (ac : Act) (ga : Nat) (ca : Nat) (la : List V4) (gb : Nat) (cb : Nat) (lb : List V4) (X : World), ac = ⟨#[.slice p zs.length np, .slice q ys.length nq, .int .i64 at_, ac.tmps.getD 3 undef, ac.tmps.getD 4 undef, ac.tmps.getD 5 undef, ac.tmps.getD 6 undef, .pointer (some ⟨bt, 0, none⟩), ac.tmps.getD 8 undef, ac.tmps.getD 9 undef, ac.tmps.getD 10 undef, ac.tmps.getD 11 undef, ac.tmps.getD 12 undef, ac.tmps.getD 13 undef, ac.tmps.getD 14 undef, ac.tmps.getD 15 undef, ac.tmps.getD 16 undef, ac.tmps.getD 17 undef, ac.tmps.getD 18 undef, ac.tmps.getD 19 undef, ac.tmps.getD 20 undef, ac.tmps.getD 21 undef, ac.tmps.getD 22 undef, ac.tmps.getD 23 undef, ac.tmps.getD 24 undef, ac.tmps.getD 25 undef, .agg #[.string ⟨#[116]⟩, .slice (some ⟨gc, 0, none⟩) 4 4, .int .i64 0, N0, .int .i64 0, .string S0, .int .i64 0, .int .i64 0, .int .i64 0, .string S0, N0, N0], .slice p zs.length np, .slice (some ⟨ga, 0, none⟩) 4 ca, .agg #[.string ⟨#[116]⟩, .slice (some ⟨gc, 0, none⟩) 4 4, .int .i64 0, N0, .int .i64 0, .string S0, .int .i64 0, .int .i64 0, .int .i64 0, .string S0, N0, N0], .slice q ys.length nq, .slice (some ⟨gb, 0, none⟩) 4 cb, ac.tmps.getD 32 undef, ac.tmps.getD 33 undef, ac.tmps.getD 34 undef, ac.tmps.getD 35 undef, ac.tmps.getD 36 undef, ac.tmps.getD 37 undef, ac.tmps.getD 38 undef, ac.tmps.getD 39 undef, ac.tmps.getD 40 undef, ac.tmps.getD 41 undef, ac.tmps.getD 42 undef, ac.tmps.getD 43 undef, ac.tmps.getD 44 undef, ac.tmps.getD 45 undef, ac.tmps.getD 46 undef, ac.tmps.getD 47 undef, ac.tmps.getD 48 undef, ac.tmps.getD 49 undef, ac.tmps.getD 50 undef, ac.tmps.getD 51 undef, ac.tmps.getD 52 undef, ac.tmps.getD 53 undef, ac.tmps.getD 54 undef, ac.tmps.getD 55 undef, ac.tmps.getD 56 undef, ac.tmps.getD 57 undef, ac.tmps.getD 58 undef, ac.tmps.getD 59 undef, ac.tmps.getD 60 undef, ac.tmps.getD 61 undef, ac.tmps.getD 62 undef, ac.tmps.getD 63 undef, ac.tmps.getD 64 undef, ac.tmps.getD 65 undef, ac.tmps.getD 66 undef, ac.tmps.getD 67 undef, ac.tmps.getD 68 undef, ac.tmps.getD 69 undef, ac.tmps.getD 70 undef, ac.tmps.getD 71 undef, ac.tmps.getD 72 undef, ac.tmps.getD 73 undef, ac.tmps.getD 74 undef, ac.tmps.getD 75 undef, ac.tmps.getD 76 undef, ac.tmps.getD 77 undef, ac.tmps.getD 78 undef, ac.tmps.getD 79 undef, ac.tmps.getD 80 undef, ac.tmps.getD 81 undef, ac.tmps.getD 82 undef, ac.tmps.getD 83 undef, ac.tmps.getD 84 undef, ac.tmps.getD 85 undef, ac.tmps.getD 86 undef, ac.tmps.getD 87 undef, ac.tmps.getD 88 undef, ac.tmps.getD 89 undef, ac.tmps.getD 90 undef, ac.tmps.getD 91 undef, ac.tmps.getD 92 undef, ac.tmps.getD 93 undef, ac.tmps.getD 94 undef, ac.tmps.getD 95 undef, ac.tmps.getD 96 undef, ac.tmps.getD 97 undef, ac.tmps.getD 98 undef, ac.tmps.getD 99 undef, ac.tmps.getD 100 undef, ac.tmps.getD 101 undef, ac.tmps.getD 102 undef, ac.tmps.getD 103 undef, ac.tmps.getD 104 undef, ac.tmps.getD 105 undef, ac.tmps.getD 106 undef, ac.tmps.getD 107 undef, ac.tmps.getD 108 undef, ac.tmps.getD 109 undef, ac.tmps.getD 110 undef, ac.tmps.getD 111 undef, ac.tmps.getD 112 undef, ac.tmps.getD 113 undef, ac.tmps.getD 114 undef, ac.tmps.getD 115 undef, ac.tmps.getD 116 undef, ac.tmps.getD 117 undef, ac.tmps.getD 118 undef, ac.tmps.getD 119 undef, ac.tmps.getD 120 undef, ac.tmps.getD 121 undef, ac.tmps.getD 122 undef, ac.tmps.getD 123 undef, ac.tmps.getD 124 undef, ac.tmps.getD 125 undef, ac.tmps.getD 126 undef, ac.tmps.getD 127 undef], []⟩ → Below Wd.heap.size Wd X → Hid (RowB ga la X) → Hid (MkA la X) → Hid (GeB n0 ga X) → Hid (RowB gb lb X) → Hid (MkA lb X) → Hid (GeB (ga + 1) gb X) → GG 2 #[true, true, true, true, true, true, false, false] ac X := by
    intro ac ga ca la gb cb lb X ha GD hRa hMa hga hRb hMb hgb
    obtain ⟨u, rfl⟩ : ∃ u : Nat → Value, ac = ⟨#[.slice p zs.length np, .slice q ys.length nq, .int .i64 at_, u 3, u 4, u 5, u 6, .pointer (some ⟨bt, 0, none⟩), u 8, u 9, u 10, u 11, u 12, u 13, u 14, u 15, u 16, u 17, u 18, u 19, u 20, u 21, u 22, u 23, u 24, u 25, .agg #[.string ⟨#[116]⟩, .slice (some ⟨gc, 0, none⟩) 4 4, .int .i64 0, N0, .int .i64 0, .string S0, .int .i64 0, .int .i64 0, .int .i64 0, .string S0, N0, N0], .slice p zs.length np, .slice (some ⟨ga, 0, none⟩) 4 ca, .agg #[.string ⟨#[116]⟩, .slice (some ⟨gc, 0, none⟩) 4 4, .int .i64 0, N0, .int .i64 0, .string S0, .int .i64 0, .int .i64 0, .int .i64 0, .string S0, N0, N0], .slice q ys.length nq, .slice (some ⟨gb, 0, none⟩) 4 cb, u 32, u 33, u 34, u 35, u 36, u 37, u 38, u 39, u 40, u 41, u 42, u 43, u 44, u 45, u 46, u 47, u 48, u 49, u 50, u 51, u 52, u 53, u 54, u 55, u 56, u 57, u 58, u 59, u 60, u 61, u 62, u 63, u 64, u 65, u 66, u 67, u 68, u 69, u 70, u 71, u 72, u 73, u 74, u 75, u 76, u 77, u 78, u 79, u 80, u 81, u 82, u 83, u 84, u 85, u 86, u 87, u 88, u 89, u 90, u 91, u 92, u 93, u 94, u 95, u 96, u 97, u 98, u 99, u 100, u 101, u 102, u 103, u 104, u 105, u 106, u 107, u 108, u 109, u 110, u 111, u 112, u 113, u 114, u 115, u 116, u 117, u 118, u 119, u 120, u 121, u 122, u 123, u 124, u 125, u 126, u 127], []⟩ := ⟨fun i => ac.tmps.getD i undef, ha⟩
    clear ha
    refine unhide HIN _ _ _ _ ?_
    have hHeld : (fun X => Blk bt #[.string ⟨#[116]⟩, .slice (some ⟨gc, 0, none⟩) 4 4, .int .i64 0, N0, .int .i64 0, .string S0, .int .i64 0, .int .i64 0, .int .i64 0, .string S0, N0, N0] 34 X) X := (unhide hT).call GD
    refine wpAnyH_take (i := 6) (oi := ?oi20005) (v := ?v20005) ?hi20005 (by kernel_rfl) (by kernel_rfl) (by kernel_rfl) (fun _ _ _ h => h) (Or.inl ⟨?hw20005, ?hy20005⟩) (by assumption) ?rest20005
    case hi20005 => (simp only [List.getElem?_toArray, List.getElem?_cons_zero, List.getElem?_cons_succ]; rfl)
    case hw20005 => rfl
    case hy20005 => first | (intro wx hSw; go_simp; done) | (intro wx hSw; go_simp; with_reducible rfl)
    simp only [Act.put, List.setIfInBounds_toArray, List.set_cons_zero, List.set_cons_succ]
    refine wpAnyH_take (i := 7) (oi := ?oi20006) (v := ?v20006) ?hi20006 (by kernel_rfl) (by kernel_rfl) (by kernel_rfl) (fun _ _ _ h => h) (Or.inl ⟨?hw20006, ?hy20006⟩) (by assumption) ?rest20006
    case hi20006 => (simp only [List.getElem?_toArray, List.getElem?_cons_zero, List.getElem?_cons_succ]; rfl)
    case hw20006 => rfl
    case hy20006 => first | (intro wx hSw; go_simp; done) | (intro wx hSw; go_simp; with_reducible rfl)
    simp only [Act.put, List.setIfInBounds_toArray, List.set_cons_zero, List.set_cons_succ]
    refine wpAnyH_done (by kernel_rfl) ?_ _
    refine NoPanic.normal ?_
    skip
    exact unhide REST _ ga ca la gb cb lb _ (by kernel_rfl) (hide ((unhide G).call GD)) (hide ((unhide hC).call GD)) (hide ((unhide hT).call GD)) (hide ((unhide hz).call GD)) (hide ((unhide hy).call GD)) hRa hMa hga hRb hMb hgb
  have C2 := hide C2
  have C1 : ∀ (ac : Act) (ga : Nat) (ca : Nat) (la : List V4) (X : World), ac = ⟨#[.slice p zs.length np, .slice q ys.length nq, .int .i64 at_, ac.tmps.getD 3 undef, ac.tmps.getD 4 undef, ac.tmps.getD 5 undef, ac.tmps.getD 6 undef, .pointer (some ⟨bt, 0, none⟩), ac.tmps.getD 8 undef, ac.tmps.getD 9 undef, ac.tmps.getD 10 undef, ac.tmps.getD 11 undef, ac.tmps.getD 12 undef, ac.tmps.getD 13 undef, ac.tmps.getD 14 undef, ac.tmps.getD 15 undef, ac.tmps.getD 16 undef, ac.tmps.getD 17 undef, ac.tmps.getD 18 undef, ac.tmps.getD 19 undef, ac.tmps.getD 20 undef, ac.tmps.getD 21 undef, ac.tmps.getD 22 undef, ac.tmps.getD 23 undef, ac.tmps.getD 24 undef, ac.tmps.getD 25 undef, .agg #[.string ⟨#[116]⟩, .slice (some ⟨gc, 0, none⟩) 4 4, .int .i64 0, N0, .int .i64 0, .string S0, .int .i64 0, .int .i64 0, .int .i64 0, .string S0, N0, N0], .slice p zs.length np, .slice (some ⟨ga, 0, none⟩) 4 ca, .agg #[.string ⟨#[116]⟩, .slice (some ⟨gc, 0, none⟩) 4 4, .int .i64 0, N0, .int .i64 0, .string S0, .int .i64 0, .int .i64 0, .int .i64 0, .string S0, N0, N0], .slice q ys.length nq, ac.tmps.getD 31 undef, ac.tmps.getD 32 undef, ac.tmps.getD 33 undef, ac.tmps.getD 34 undef, ac.tmps.getD 35 undef, ac.tmps.getD 36 undef, ac.tmps.getD 37 undef, ac.tmps.getD 38 undef, ac.tmps.getD 39 undef, ac.tmps.getD 40 undef, ac.tmps.getD 41 undef, ac.tmps.getD 42 undef, ac.tmps.getD 43 undef, ac.tmps.getD 44 undef, ac.tmps.getD 45 undef, ac.tmps.getD 46 undef, ac.tmps.getD 47 undef, ac.tmps.getD 48 undef, ac.tmps.getD 49 undef, ac.tmps.getD 50 undef, ac.tmps.getD 51 undef, ac.tmps.getD 52 undef, ac.tmps.getD 53 undef, ac.tmps.getD 54 undef, ac.tmps.getD 55 undef, ac.tmps.getD 56 undef, ac.tmps.getD 57 undef, ac.tmps.getD 58 undef, ac.tmps.getD 59 undef, ac.tmps.getD 60 undef, ac.tmps.getD 61 undef, ac.tmps.getD 62 undef, ac.tmps.getD 63 undef, ac.tmps.getD 64 undef, ac.tmps.getD 65 undef, ac.tmps.getD 66 undef, ac.tmps.getD 67 undef, ac.tmps.getD 68 undef, ac.tmps.getD 69 undef, ac.tmps.getD 70 undef, ac.tmps.getD 71 undef, ac.tmps.getD 72 undef, ac.tmps.getD 73 undef, ac.tmps.getD 74 undef, ac.tmps.getD 75 undef, ac.tmps.getD 76 undef, ac.tmps.getD 77 undef, ac.tmps.getD 78 undef, ac.tmps.getD 79 undef, ac.tmps.getD 80 undef, ac.tmps.getD 81 undef, ac.tmps.getD 82 undef, ac.tmps.getD 83 undef, ac.tmps.getD 84 undef, ac.tmps.getD 85 undef, ac.tmps.getD 86 undef, ac.tmps.getD 87 undef, ac.tmps.getD 88 undef, ac.tmps.getD 89 undef, ac.tmps.getD 90 undef, ac.tmps.getD 91 undef, ac.tmps.getD 92 undef, ac.tmps.getD 93 undef, ac.tmps.getD 94 undef, ac.tmps.getD 95 undef, ac.tmps.getD 96 undef, ac.tmps.getD 97 undef, ac.tmps.getD 98 undef, ac.tmps.getD 99 undef, ac.tmps.getD 100 undef, ac.tmps.getD 101 undef, ac.tmps.getD 102 undef, ac.tmps.getD 103 undef, ac.tmps.getD 104 undef, ac.tmps.getD 105 undef, ac.tmps.getD 106 undef, ac.tmps.getD 107 undef, ac.tmps.getD 108 undef, ac.tmps.getD 109 undef, ac.tmps.getD 110 undef, ac.tmps.getD 111 undef, ac.tmps.getD 112 undef, ac.tmps.getD 113 undef, ac.tmps.getD 114 undef, ac.tmps.getD 115 undef, ac.tmps.getD 116 undef, ac.tmps.getD 117 undef, ac.tmps.getD 118 undef, ac.tmps.getD 119 undef, ac.tmps.getD 120 undef, ac.tmps.getD 121 undef, ac.tmps.getD 122 undef, ac.tmps.getD 123 undef, ac.tmps.getD 124 undef, ac.tmps.getD 125 undef, ac.tmps.getD 126 undef, ac.tmps.getD 127 undef], []⟩ → Below Wd.heap.size Wd X → Hid (RowB ga la X) → Hid (MkA la X) → Hid (GeB n0 ga X) → GG 3 #[true, true, true, true, true, false, false, false] ac X := by
    intro ac ga ca la X ha GD hRa hMa hga
    obtain ⟨u, rfl⟩ : ∃ u : Nat → Value, ac = ⟨#[.slice p zs.length np, .slice q ys.length nq, .int .i64 at_, u 3, u 4, u 5, u 6, .pointer (some ⟨bt, 0, none⟩), u 8, u 9, u 10, u 11, u 12, u 13, u 14, u 15, u 16, u 17, u 18, u 19, u 20, u 21, u 22, u 23, u 24, u 25, .agg #[.string ⟨#[116]⟩, .slice (some ⟨gc, 0, none⟩) 4 4, .int .i64 0, N0, .int .i64 0, .string S0, .int .i64 0, .int .i64 0, .int .i64 0, .string S0, N0, N0], .slice p zs.length np, .slice (some ⟨ga, 0, none⟩) 4 ca, .agg #[.string ⟨#[116]⟩, .slice (some ⟨gc, 0, none⟩) 4 4, .int .i64 0, N0, .int .i64 0, .string S0, .int .i64 0, .int .i64 0, .int .i64 0, .string S0, N0, N0], .slice q ys.length nq, u 31, u 32, u 33, u 34, u 35, u 36, u 37, u 38, u 39, u 40, u 41, u 42, u 43, u 44, u 45, u 46, u 47, u 48, u 49, u 50, u 51, u 52, u 53, u 54, u 55, u 56, u 57, u 58, u 59, u 60, u 61, u 62, u 63, u 64, u 65, u 66, u 67, u 68, u 69, u 70, u 71, u 72, u 73, u 74, u 75, u 76, u 77, u 78, u 79, u 80, u 81, u 82, u 83, u 84, u 85, u 86, u 87, u 88, u 89, u 90, u 91, u 92, u 93, u 94, u 95, u 96, u 97, u 98, u 99, u 100, u 101, u 102, u 103, u 104, u 105, u 106, u 107, u 108, u 109, u 110, u 111, u 112, u 113, u 114, u 115, u 116, u 117, u 118, u 119, u 120, u 121, u 122, u 123, u 124, u 125, u 126, u 127], []⟩ := ⟨fun i => ac.tmps.getD i undef, ha⟩
    clear ha
    refine unhide HIN _ _ _ _ ?_
    have hHeld : (fun X => Blk bt #[.string ⟨#[116]⟩, .slice (some ⟨gc, 0, none⟩) 4 4, .int .i64 0, N0, .int .i64 0, .string S0, .int .i64 0, .int .i64 0, .int .i64 0, .string S0, N0, N0] 34 X) X := (unhide hT).call GD
    refine wpAnyH_ready (rs := [5]) (by kernel_rfl) (by simp) ?_
    refine AllReadyH.cons rfl (fun K20007 hK20007 => ?_) AllReadyH.nil
    go_simp
    go_wp2_with (go_at_call 18; refine (row4c gc q nq ys _ ((unhide hC).call GD) ((unhide hy).call GD)).mono ?_; rintro e X2 ⟨gb, cb, lb, rfl, hRb, hMb, hgb0, hb⟩)
    have hgb : Hid (GeB (ga + 1) gb X2) := hide (Nat.le_trans (unhide hRa).lt (unhide hgb0))
    refine hK20007.out _ _ ?hs20007 (fun hH20007 => ?_)
    case hs20007 => exact hHeld.call hb
    clear hHeld
    have hHeld := hH20007; clear hH20007 hK20007 K20007
    refine unhide HOUT _ _ _ _ ?_
    exact unhide C2 _ ga ca la gb cb lb _ (by kernel_rfl) (GD.trans (hb.mono GD.size)) (hide ((unhide hRa).call hb)) (hide ((unhide hMa).call hb)) (hide ((unhide hga).call hb)) hRb hMb hgb
  have C1 := hide C1
  have C0 : ∀ (ac : Act) (X : World), ac = ⟨#[.slice p zs.length np, .slice q ys.length nq, .int .i64 at_, ac.tmps.getD 3 undef, ac.tmps.getD 4 undef, ac.tmps.getD 5 undef, ac.tmps.getD 6 undef, .pointer (some ⟨bt, 0, none⟩), ac.tmps.getD 8 undef, ac.tmps.getD 9 undef, ac.tmps.getD 10 undef, ac.tmps.getD 11 undef, ac.tmps.getD 12 undef, ac.tmps.getD 13 undef, ac.tmps.getD 14 undef, ac.tmps.getD 15 undef, ac.tmps.getD 16 undef, ac.tmps.getD 17 undef, ac.tmps.getD 18 undef, ac.tmps.getD 19 undef, ac.tmps.getD 20 undef, ac.tmps.getD 21 undef, ac.tmps.getD 22 undef, ac.tmps.getD 23 undef, ac.tmps.getD 24 undef, ac.tmps.getD 25 undef, .agg #[.string ⟨#[116]⟩, .slice (some ⟨gc, 0, none⟩) 4 4, .int .i64 0, N0, .int .i64 0, .string S0, .int .i64 0, .int .i64 0, .int .i64 0, .string S0, N0, N0], .slice p zs.length np, ac.tmps.getD 28 undef, .agg #[.string ⟨#[116]⟩, .slice (some ⟨gc, 0, none⟩) 4 4, .int .i64 0, N0, .int .i64 0, .string S0, .int .i64 0, .int .i64 0, .int .i64 0, .string S0, N0, N0], .slice q ys.length nq, ac.tmps.getD 31 undef, ac.tmps.getD 32 undef, ac.tmps.getD 33 undef, ac.tmps.getD 34 undef, ac.tmps.getD 35 undef, ac.tmps.getD 36 undef, ac.tmps.getD 37 undef, ac.tmps.getD 38 undef, ac.tmps.getD 39 undef, ac.tmps.getD 40 undef, ac.tmps.getD 41 undef, ac.tmps.getD 42 undef, ac.tmps.getD 43 undef, ac.tmps.getD 44 undef, ac.tmps.getD 45 undef, ac.tmps.getD 46 undef, ac.tmps.getD 47 undef, ac.tmps.getD 48 undef, ac.tmps.getD 49 undef, ac.tmps.getD 50 undef, ac.tmps.getD 51 undef, ac.tmps.getD 52 undef, ac.tmps.getD 53 undef, ac.tmps.getD 54 undef, ac.tmps.getD 55 undef, ac.tmps.getD 56 undef, ac.tmps.getD 57 undef, ac.tmps.getD 58 undef, ac.tmps.getD 59 undef, ac.tmps.getD 60 undef, ac.tmps.getD 61 undef, ac.tmps.getD 62 undef, ac.tmps.getD 63 undef, ac.tmps.getD 64 undef, ac.tmps.getD 65 undef, ac.tmps.getD 66 undef, ac.tmps.getD 67 undef, ac.tmps.getD 68 undef, ac.tmps.getD 69 undef, ac.tmps.getD 70 undef, ac.tmps.getD 71 undef, ac.tmps.getD 72 undef, ac.tmps.getD 73 undef, ac.tmps.getD 74 undef, ac.tmps.getD 75 undef, ac.tmps.getD 76 undef, ac.tmps.getD 77 undef, ac.tmps.getD 78 undef, ac.tmps.getD 79 undef, ac.tmps.getD 80 undef, ac.tmps.getD 81 undef, ac.tmps.getD 82 undef, ac.tmps.getD 83 undef, ac.tmps.getD 84 undef, ac.tmps.getD 85 undef, ac.tmps.getD 86 undef, ac.tmps.getD 87 undef, ac.tmps.getD 88 undef, ac.tmps.getD 89 undef, ac.tmps.getD 90 undef, ac.tmps.getD 91 undef, ac.tmps.getD 92 undef, ac.tmps.getD 93 undef, ac.tmps.getD 94 undef, ac.tmps.getD 95 undef, ac.tmps.getD 96 undef, ac.tmps.getD 97 undef, ac.tmps.getD 98 undef, ac.tmps.getD 99 undef, ac.tmps.getD 100 undef, ac.tmps.getD 101 undef, ac.tmps.getD 102 undef, ac.tmps.getD 103 undef, ac.tmps.getD 104 undef, ac.tmps.getD 105 undef, ac.tmps.getD 106 undef, ac.tmps.getD 107 undef, ac.tmps.getD 108 undef, ac.tmps.getD 109 undef, ac.tmps.getD 110 undef, ac.tmps.getD 111 undef, ac.tmps.getD 112 undef, ac.tmps.getD 113 undef, ac.tmps.getD 114 undef, ac.tmps.getD 115 undef, ac.tmps.getD 116 undef, ac.tmps.getD 117 undef, ac.tmps.getD 118 undef, ac.tmps.getD 119 undef, ac.tmps.getD 120 undef, ac.tmps.getD 121 undef, ac.tmps.getD 122 undef, ac.tmps.getD 123 undef, ac.tmps.getD 124 undef, ac.tmps.getD 125 undef, ac.tmps.getD 126 undef, ac.tmps.getD 127 undef], []⟩ → Below Wd.heap.size Wd X → GG 4 #[true, true, false, true, true, false, false, false] ac X := by
    intro ac X ha GD
    obtain ⟨u, rfl⟩ : ∃ u : Nat → Value, ac = ⟨#[.slice p zs.length np, .slice q ys.length nq, .int .i64 at_, u 3, u 4, u 5, u 6, .pointer (some ⟨bt, 0, none⟩), u 8, u 9, u 10, u 11, u 12, u 13, u 14, u 15, u 16, u 17, u 18, u 19, u 20, u 21, u 22, u 23, u 24, u 25, .agg #[.string ⟨#[116]⟩, .slice (some ⟨gc, 0, none⟩) 4 4, .int .i64 0, N0, .int .i64 0, .string S0, .int .i64 0, .int .i64 0, .int .i64 0, .string S0, N0, N0], .slice p zs.length np, u 28, .agg #[.string ⟨#[116]⟩, .slice (some ⟨gc, 0, none⟩) 4 4, .int .i64 0, N0, .int .i64 0, .string S0, .int .i64 0, .int .i64 0, .int .i64 0, .string S0, N0, N0], .slice q ys.length nq, u 31, u 32, u 33, u 34, u 35, u 36, u 37, u 38, u 39, u 40, u 41, u 42, u 43, u 44, u 45, u 46, u 47, u 48, u 49, u 50, u 51, u 52, u 53, u 54, u 55, u 56, u 57, u 58, u 59, u 60, u 61, u 62, u 63, u 64, u 65, u 66, u 67, u 68, u 69, u 70, u 71, u 72, u 73, u 74, u 75, u 76, u 77, u 78, u 79, u 80, u 81, u 82, u 83, u 84, u 85, u 86, u 87, u 88, u 89, u 90, u 91, u 92, u 93, u 94, u 95, u 96, u 97, u 98, u 99, u 100, u 101, u 102, u 103, u 104, u 105, u 106, u 107, u 108, u 109, u 110, u 111, u 112, u 113, u 114, u 115, u 116, u 117, u 118, u 119, u 120, u 121, u 122, u 123, u 124, u 125, u 126, u 127], []⟩ := ⟨fun i => ac.tmps.getD i undef, ha⟩
    clear ha
    refine unhide HIN _ _ _ _ ?_
    have hHeld : (fun X => Blk bt #[.string ⟨#[116]⟩, .slice (some ⟨gc, 0, none⟩) 4 4, .int .i64 0, N0, .int .i64 0, .string S0, .int .i64 0, .int .i64 0, .int .i64 0, .string S0, N0, N0] 34 X) X := (unhide hT).call GD
    refine wpAnyH_ready (rs := [2]) (by kernel_rfl) (by simp) ?_
    refine AllReadyH.cons rfl (fun K20008 hK20008 => ?_) AllReadyH.nil
    go_simp
    go_wp2_with (go_at_call 18; refine (row4c gc p np zs _ ((unhide hC).call GD) ((unhide hz).call GD)).mono ?_; rintro e X2 ⟨ga, ca, la, rfl, hRa, hMa, hga0, hb⟩)
    have hga : Hid (GeB n0 ga X2) := hide (Nat.le_trans (Nat.le_trans (unhide hN) (Below.size GD)) (unhide hga0))
    refine hK20008.out _ _ ?hs20008 (fun hH20008 => ?_)
    case hs20008 => exact hHeld.call hb
    clear hHeld
    have hHeld := hH20008; clear hH20008 hK20008 K20008
    refine unhide HOUT _ _ _ _ ?_
    exact unhide C1 _ ga ca la _ (by kernel_rfl) (GD.trans (hb.mono GD.size)) hRa hMa hga
  have C0 := hide C0
  exact unhide C0 _ _ (by kernel_rfl) (Below.refl _ _)
end Go.Proofs.Ytliefgkhpgigaaa

namespace Go.Proofs.Ytliefgkhpgigaaa
open Go.RowKit Go.Shelf
set_option linter.unusedSimpArgs false
set_option linter.unusedVariables false

theorem _root_.Go.Proofs.Ytliefgkhpgigaaa.ColsOf.setC {gc b : Nat} {W : World} (h : ColsOf (.slice (some ⟨gc, 0, none⟩) 4 4) cols4 W) (hne : gc ≠ b) (j : Nat) (y : Value) : ColsOf (.slice (some ⟨gc, 0, none⟩) 4 4) cols4 (W.setCell ⟨b, j, none⟩ y) := by
  obtain ⟨g, cap, h1, h2, h3, h4⟩ := h
  cases h1
  have hh : (W.setCell ⟨b, j, none⟩ y).heap[gc]? = W.heap[gc]? := Below.heap_setCell _ _ _ _ (by simp; omega)
  refine ⟨gc, 4, rfl, by simpa using h2, h3, fun i hi => ⟨(cell_heapR hh).trans (h4 i hi).1, (cell_heapR hh).trans (h4 i hi).2.1, (cell_heapR hh).trans (h4 i hi).2.2⟩⟩
def SNm (bt gc k : Nat) (nm : ByteArray) (X : World) : Prop := Blk bt #[.string ⟨#[116]⟩, .slice (some ⟨gc, 0, none⟩) 4 4, .int .i64 0, N0, .int .i64 0, .string S0, .int .i64 0, .int .i64 0, .int .i64 0, .string S0, N0, N0] 34 X ∧ gc < X.heap.size ∧ X.cell? ⟨gc, k * 3, none⟩ = some (.string nm)
theorem SNm.call {bt gc k : Nat} {nm : ByteArray} {W W' : World} (h : SNm bt gc k nm W) (hb : Below W.heap.size W W') : SNm bt gc k nm W' := ⟨h.1.call hb, Nat.lt_of_lt_of_le h.2.1 hb.size, (hb.cell (p := ⟨gc, k * 3, none⟩) h.2.1).trans h.2.2⟩
theorem rep_ne {gy b : Nat} {nm : ByteArray} {W : World} {T : TypeId} (h : Rep (twoX 9 (colX nm) (colX nm)) (.slice (some ⟨gy, 0, none⟩) 2 2) W) (hb : Blk b (exC (.leaf 0 S0 Z4) N0).toArray T W) : gy ≠ b := by
  rintro rfl
  obtain ⟨g, cap, la, lb, h1, h2, _⟩ := h
  cases h1
  have e1 := h2.2 0 (by simp [exC])
  rw [show (0 + 0 : Nat) = 0 from rfl, hb.cell 0] at e1
  simp [exC, Ex.k] at e1
theorem cells_set {g b o : Nat} {cs : List Value} {W : World} (h : CellsAt g o cs W) (hne : g ≠ b) (j : Nat) (y : Value) : CellsAt g o cs (W.setCell ⟨b, j, none⟩ y) :=
  ⟨by simpa using h.1, fun i hi => (cell_heapR (Below.heap_setCell _ _ _ _ (by simp; omega))).trans (h.2 i hi)⟩
theorem rep_set2 {gy b : Nat} {nm : ByteArray} {W : World} (h : Rep (twoX 9 (colX nm) (colX nm)) (.slice (some ⟨gy, 0, none⟩) 2 2) W) (hne : gy ≠ b) (j : Nat) (y : Value) : Rep (twoX 9 (colX nm) (colX nm)) (.slice (some ⟨gy, 0, none⟩) 2 2) (W.setCell ⟨b, j, none⟩ y) := by
  obtain ⟨g, cap, la, lb, h1, h2, h3, h4, h5⟩ := h
  cases h1
  exact ⟨gy, 2, la, lb, rfl, cells_set h2 hne j y, cells_set h3 hne j y, h4, h5⟩
set_option maxHeartbeats 32000000 in
set_option maxRecDepth 100000 in
theorem smK {r0 r1 r2 r3 r4 rest : Code} (hc : Try.f11.body = some (.seq r0 (.seq r1 (.seq r2 (.seq r3 (.seq r4 (rest))))))) (w : World) (n0 gc bt ga ca gb cb k : Nat) (hk : k < 4) (at_ : Int) (la lb : List V4) (CW : Hid (∀ W, Calls Try.prog 29 #[.int .i64 at_, .int .i64 4] W fun e W' => e = .returned (.int .i64 (k : Int)) ∧ W' = W)) (K : Act → World → Prop) (Q : Exit → Act → World → Prop) (REST : Hid (∀ (ac : Act) (X : World), ac = ⟨#[ac.tmps.getD 0 undef, ac.tmps.getD 1 undef, .int .i64 at_, ac.tmps.getD 3 undef, ac.tmps.getD 4 undef, ac.tmps.getD 5 undef, ac.tmps.getD 6 undef, .pointer (some ⟨bt, 0, none⟩), .slice (some ⟨ga, 0, none⟩) 4 ca, .slice (some ⟨gb, 0, none⟩) 4 cb, .int .i64 (k : Int), ac.tmps.getD 11 undef, ac.tmps.getD 12 undef, ac.tmps.getD 13 undef, ac.tmps.getD 14 undef, ac.tmps.getD 15 undef, ac.tmps.getD 16 undef, ac.tmps.getD 17 undef, ac.tmps.getD 18 undef, ac.tmps.getD 19 undef, ac.tmps.getD 20 undef, ac.tmps.getD 21 undef, ac.tmps.getD 22 undef, ac.tmps.getD 23 undef, ac.tmps.getD 24 undef, ac.tmps.getD 25 undef, ac.tmps.getD 26 undef, ac.tmps.getD 27 undef, ac.tmps.getD 28 undef, ac.tmps.getD 29 undef, ac.tmps.getD 30 undef, ac.tmps.getD 31 undef, ac.tmps.getD 32 undef, ac.tmps.getD 33 undef, ac.tmps.getD 34 undef, ac.tmps.getD 35 undef, ac.tmps.getD 36 undef, ac.tmps.getD 37 undef, ac.tmps.getD 38 undef, ac.tmps.getD 39 undef, ac.tmps.getD 40 undef, ac.tmps.getD 41 undef, ac.tmps.getD 42 undef, ac.tmps.getD 43 undef, ac.tmps.getD 44 undef, ac.tmps.getD 45 undef, ac.tmps.getD 46 undef, ac.tmps.getD 47 undef, ac.tmps.getD 48 undef, ac.tmps.getD 49 undef, ac.tmps.getD 50 undef, ac.tmps.getD 51 undef, ac.tmps.getD 52 undef, ac.tmps.getD 53 undef, ac.tmps.getD 54 undef, ac.tmps.getD 55 undef, ac.tmps.getD 56 undef, ac.tmps.getD 57 undef, ac.tmps.getD 58 undef, ac.tmps.getD 59 undef, ac.tmps.getD 60 undef, ac.tmps.getD 61 undef, ac.tmps.getD 62 undef, ac.tmps.getD 63 undef, ac.tmps.getD 64 undef, ac.tmps.getD 65 undef, ac.tmps.getD 66 undef, ac.tmps.getD 67 undef, ac.tmps.getD 68 undef, ac.tmps.getD 69 undef, ac.tmps.getD 70 undef, ac.tmps.getD 71 undef, ac.tmps.getD 72 undef, ac.tmps.getD 73 undef, ac.tmps.getD 74 undef, ac.tmps.getD 75 undef, ac.tmps.getD 76 undef, ac.tmps.getD 77 undef, ac.tmps.getD 78 undef, ac.tmps.getD 79 undef, ac.tmps.getD 80 undef, ac.tmps.getD 81 undef, ac.tmps.getD 82 undef, ac.tmps.getD 83 undef, ac.tmps.getD 84 undef, ac.tmps.getD 85 undef, ac.tmps.getD 86 undef, ac.tmps.getD 87 undef, ac.tmps.getD 88 undef, ac.tmps.getD 89 undef, ac.tmps.getD 90 undef, ac.tmps.getD 91 undef, ac.tmps.getD 92 undef, ac.tmps.getD 93 undef, ac.tmps.getD 94 undef, ac.tmps.getD 95 undef, ac.tmps.getD 96 undef, ac.tmps.getD 97 undef, ac.tmps.getD 98 undef, ac.tmps.getD 99 undef, ac.tmps.getD 100 undef, ac.tmps.getD 101 undef, ac.tmps.getD 102 undef, ac.tmps.getD 103 undef, ac.tmps.getD 104 undef, ac.tmps.getD 105 undef, ac.tmps.getD 106 undef, ac.tmps.getD 107 undef, ac.tmps.getD 108 undef, ac.tmps.getD 109 undef, ac.tmps.getD 110 undef, ac.tmps.getD 111 undef, ac.tmps.getD 112 undef, ac.tmps.getD 113 undef, ac.tmps.getD 114 undef, ac.tmps.getD 115 undef, ac.tmps.getD 116 undef, ac.tmps.getD 117 undef, ac.tmps.getD 118 undef, ac.tmps.getD 119 undef, ac.tmps.getD 120 undef, ac.tmps.getD 121 undef, ac.tmps.getD 122 undef, ac.tmps.getD 123 undef, ac.tmps.getD 124 undef, ac.tmps.getD 125 undef, ac.tmps.getD 126 undef, ac.tmps.getD 127 undef], []⟩ → Hid (Grown w X) → Hid (ColsOf (.slice (some ⟨gc, 0, none⟩) 4 4) cols4 X) → Hid (Blk bt #[.string ⟨#[116]⟩, .slice (some ⟨gc, 0, none⟩) 4 4, .int .i64 0, N0, .int .i64 0, .string S0, .int .i64 0, .int .i64 0, .int .i64 0, .string S0, N0, N0] 34 X) → Hid (RowB ga la X) → Hid (RowB gb lb X) → K ac X)) (ac : Act) (X : World) (ha : ac = ⟨#[ac.tmps.getD 0 undef, ac.tmps.getD 1 undef, .int .i64 at_, ac.tmps.getD 3 undef, ac.tmps.getD 4 undef, ac.tmps.getD 5 undef, ac.tmps.getD 6 undef, .pointer (some ⟨bt, 0, none⟩), .slice (some ⟨ga, 0, none⟩) 4 ca, .slice (some ⟨gb, 0, none⟩) 4 cb, ac.tmps.getD 10 undef, ac.tmps.getD 11 undef, ac.tmps.getD 12 undef, ac.tmps.getD 13 undef, ac.tmps.getD 14 undef, ac.tmps.getD 15 undef, ac.tmps.getD 16 undef, ac.tmps.getD 17 undef, ac.tmps.getD 18 undef, ac.tmps.getD 19 undef, ac.tmps.getD 20 undef, ac.tmps.getD 21 undef, ac.tmps.getD 22 undef, ac.tmps.getD 23 undef, ac.tmps.getD 24 undef, ac.tmps.getD 25 undef, ac.tmps.getD 26 undef, ac.tmps.getD 27 undef, ac.tmps.getD 28 undef, ac.tmps.getD 29 undef, ac.tmps.getD 30 undef, ac.tmps.getD 31 undef, ac.tmps.getD 32 undef, ac.tmps.getD 33 undef, ac.tmps.getD 34 undef, ac.tmps.getD 35 undef, ac.tmps.getD 36 undef, ac.tmps.getD 37 undef, ac.tmps.getD 38 undef, ac.tmps.getD 39 undef, ac.tmps.getD 40 undef, ac.tmps.getD 41 undef, ac.tmps.getD 42 undef, ac.tmps.getD 43 undef, ac.tmps.getD 44 undef, ac.tmps.getD 45 undef, ac.tmps.getD 46 undef, ac.tmps.getD 47 undef, ac.tmps.getD 48 undef, ac.tmps.getD 49 undef, ac.tmps.getD 50 undef, ac.tmps.getD 51 undef, ac.tmps.getD 52 undef, ac.tmps.getD 53 undef, ac.tmps.getD 54 undef, ac.tmps.getD 55 undef, ac.tmps.getD 56 undef, ac.tmps.getD 57 undef, ac.tmps.getD 58 undef, ac.tmps.getD 59 undef, ac.tmps.getD 60 undef, ac.tmps.getD 61 undef, ac.tmps.getD 62 undef, ac.tmps.getD 63 undef, ac.tmps.getD 64 undef, ac.tmps.getD 65 undef, ac.tmps.getD 66 undef, ac.tmps.getD 67 undef, ac.tmps.getD 68 undef, ac.tmps.getD 69 undef, ac.tmps.getD 70 undef, ac.tmps.getD 71 undef, ac.tmps.getD 72 undef, ac.tmps.getD 73 undef, ac.tmps.getD 74 undef, ac.tmps.getD 75 undef, ac.tmps.getD 76 undef, ac.tmps.getD 77 undef, ac.tmps.getD 78 undef, ac.tmps.getD 79 undef, ac.tmps.getD 80 undef, ac.tmps.getD 81 undef, ac.tmps.getD 82 undef, ac.tmps.getD 83 undef, ac.tmps.getD 84 undef, ac.tmps.getD 85 undef, ac.tmps.getD 86 undef, ac.tmps.getD 87 undef, ac.tmps.getD 88 undef, ac.tmps.getD 89 undef, ac.tmps.getD 90 undef, ac.tmps.getD 91 undef, ac.tmps.getD 92 undef, ac.tmps.getD 93 undef, ac.tmps.getD 94 undef, ac.tmps.getD 95 undef, ac.tmps.getD 96 undef, ac.tmps.getD 97 undef, ac.tmps.getD 98 undef, ac.tmps.getD 99 undef, ac.tmps.getD 100 undef, ac.tmps.getD 101 undef, ac.tmps.getD 102 undef, ac.tmps.getD 103 undef, ac.tmps.getD 104 undef, ac.tmps.getD 105 undef, ac.tmps.getD 106 undef, ac.tmps.getD 107 undef, ac.tmps.getD 108 undef, ac.tmps.getD 109 undef, ac.tmps.getD 110 undef, ac.tmps.getD 111 undef, ac.tmps.getD 112 undef, ac.tmps.getD 113 undef, ac.tmps.getD 114 undef, ac.tmps.getD 115 undef, ac.tmps.getD 116 undef, ac.tmps.getD 117 undef, ac.tmps.getD 118 undef, ac.tmps.getD 119 undef, ac.tmps.getD 120 undef, ac.tmps.getD 121 undef, ac.tmps.getD 122 undef, ac.tmps.getD 123 undef, ac.tmps.getD 124 undef, ac.tmps.getD 125 undef, ac.tmps.getD 126 undef, ac.tmps.getD 127 undef], []⟩) (G : Hid (Grown w X)) (hC : Hid (ColsOf (.slice (some ⟨gc, 0, none⟩) 4 4) cols4 X)) (hT : Hid (Blk bt #[.string ⟨#[116]⟩, .slice (some ⟨gc, 0, none⟩) 4 4, .int .i64 0, N0, .int .i64 0, .string S0, .int .i64 0, .int .i64 0, .int .i64 0, .string S0, N0, N0] 34 X)) (hRa : Hid (RowB ga la X)) (hRb : Hid (RowB gb lb X)) : r4.wp Try.prog (Exit.then K Q) ac X := by
  obtain ⟨u, rfl⟩ : ∃ u : Nat → Value, ac = ⟨#[u 0, u 1, .int .i64 at_, u 3, u 4, u 5, u 6, .pointer (some ⟨bt, 0, none⟩), .slice (some ⟨ga, 0, none⟩) 4 ca, .slice (some ⟨gb, 0, none⟩) 4 cb, u 10, u 11, u 12, u 13, u 14, u 15, u 16, u 17, u 18, u 19, u 20, u 21, u 22, u 23, u 24, u 25, u 26, u 27, u 28, u 29, u 30, u 31, u 32, u 33, u 34, u 35, u 36, u 37, u 38, u 39, u 40, u 41, u 42, u 43, u 44, u 45, u 46, u 47, u 48, u 49, u 50, u 51, u 52, u 53, u 54, u 55, u 56, u 57, u 58, u 59, u 60, u 61, u 62, u 63, u 64, u 65, u 66, u 67, u 68, u 69, u 70, u 71, u 72, u 73, u 74, u 75, u 76, u 77, u 78, u 79, u 80, u 81, u 82, u 83, u 84, u 85, u 86, u 87, u 88, u 89, u 90, u 91, u 92, u 93, u 94, u 95, u 96, u 97, u 98, u 99, u 100, u 101, u 102, u 103, u 104, u 105, u 106, u 107, u 108, u 109, u 110, u 111, u 112, u 113, u 114, u 115, u 116, u 117, u 118, u 119, u 120, u 121, u 122, u 123, u 124, u 125, u 126, u 127], []⟩ := ⟨fun i => ac.tmps.getD i undef, ha⟩
  clear ha
  unfold Try.f11 at hc
  cases hc
  go_wp2_with fail
  refine (unhide CW _).mono ?_
  rintro e W1 ⟨rfl, rfl⟩
  go_wp2_with fail
  exact unhide REST _ _ (by kernel_rfl) G hC hT hRa hRb
set_option maxHeartbeats 32000000 in
set_option maxRecDepth 100000 in
theorem smS {r0 r1 r2 r3 r4 r5 rest : Code} (hc : Try.f11.body = some (.seq r0 (.seq r1 (.seq r2 (.seq r3 (.seq r4 (.seq r5 (rest)))))))) (w : World) (n0 gc bt ga ca gb cb k : Nat) (hk : k < 4) (at_ : Int) (la lb : List V4) (x1 x2 x3 : Int) (x4 : ByteArray) (hla : la.length = 4) (hlb : lb.length = 4) (hx : la[k]? = some (x1, x2, x3, x4)) (hgc : gc < n0) (hbt : bt < n0) (hga : n0 ≤ ga) (hgb : ga + 1 ≤ gb) (hwn : w.heap.size ≤ n0) (K : Act → World → Prop) (Q : Exit → Act → World → Prop) (REST : Hid (∀ (ac : Act) (X : World), ac = ⟨#[ac.tmps.getD 0 undef, ac.tmps.getD 1 undef, .int .i64 at_, ac.tmps.getD 3 undef, ac.tmps.getD 4 undef, ac.tmps.getD 5 undef, ac.tmps.getD 6 undef, .pointer (some ⟨bt, 0, none⟩), .slice (some ⟨ga, 0, none⟩) 4 ca, .slice (some ⟨gb, 0, none⟩) 4 cb, .int .i64 (k : Int), ac.tmps.getD 11 undef, ac.tmps.getD 12 undef, ac.tmps.getD 13 undef, ac.tmps.getD 14 undef, ac.tmps.getD 15 undef, ac.tmps.getD 16 undef, ac.tmps.getD 17 undef, ac.tmps.getD 18 undef, ac.tmps.getD 19 undef, ac.tmps.getD 20 undef, ac.tmps.getD 21 undef, ac.tmps.getD 22 undef, ac.tmps.getD 23 undef, ac.tmps.getD 24 undef, ac.tmps.getD 25 undef, ac.tmps.getD 26 undef, ac.tmps.getD 27 undef, ac.tmps.getD 28 undef, ac.tmps.getD 29 undef, ac.tmps.getD 30 undef, ac.tmps.getD 31 undef, ac.tmps.getD 32 undef, ac.tmps.getD 33 undef, ac.tmps.getD 34 undef, ac.tmps.getD 35 undef, ac.tmps.getD 36 undef, ac.tmps.getD 37 undef, ac.tmps.getD 38 undef, ac.tmps.getD 39 undef, ac.tmps.getD 40 undef, ac.tmps.getD 41 undef, ac.tmps.getD 42 undef, ac.tmps.getD 43 undef, ac.tmps.getD 44 undef, ac.tmps.getD 45 undef, ac.tmps.getD 46 undef, ac.tmps.getD 47 undef, ac.tmps.getD 48 undef, ac.tmps.getD 49 undef, ac.tmps.getD 50 undef, ac.tmps.getD 51 undef, ac.tmps.getD 52 undef, ac.tmps.getD 53 undef, ac.tmps.getD 54 undef, ac.tmps.getD 55 undef, ac.tmps.getD 56 undef, ac.tmps.getD 57 undef, ac.tmps.getD 58 undef, ac.tmps.getD 59 undef, ac.tmps.getD 60 undef, ac.tmps.getD 61 undef, ac.tmps.getD 62 undef, ac.tmps.getD 63 undef, ac.tmps.getD 64 undef, ac.tmps.getD 65 undef, ac.tmps.getD 66 undef, ac.tmps.getD 67 undef, ac.tmps.getD 68 undef, ac.tmps.getD 69 undef, ac.tmps.getD 70 undef, ac.tmps.getD 71 undef, ac.tmps.getD 72 undef, ac.tmps.getD 73 undef, ac.tmps.getD 74 undef, ac.tmps.getD 75 undef, ac.tmps.getD 76 undef, ac.tmps.getD 77 undef, ac.tmps.getD 78 undef, ac.tmps.getD 79 undef, ac.tmps.getD 80 undef, ac.tmps.getD 81 undef, ac.tmps.getD 82 undef, ac.tmps.getD 83 undef, ac.tmps.getD 84 undef, ac.tmps.getD 85 undef, ac.tmps.getD 86 undef, ac.tmps.getD 87 undef, ac.tmps.getD 88 undef, ac.tmps.getD 89 undef, ac.tmps.getD 90 undef, ac.tmps.getD 91 undef, ac.tmps.getD 92 undef, ac.tmps.getD 93 undef, ac.tmps.getD 94 undef, ac.tmps.getD 95 undef, ac.tmps.getD 96 undef, ac.tmps.getD 97 undef, ac.tmps.getD 98 undef, ac.tmps.getD 99 undef, ac.tmps.getD 100 undef, ac.tmps.getD 101 undef, ac.tmps.getD 102 undef, ac.tmps.getD 103 undef, ac.tmps.getD 104 undef, ac.tmps.getD 105 undef, ac.tmps.getD 106 undef, ac.tmps.getD 107 undef, ac.tmps.getD 108 undef, ac.tmps.getD 109 undef, ac.tmps.getD 110 undef, ac.tmps.getD 111 undef, ac.tmps.getD 112 undef, ac.tmps.getD 113 undef, ac.tmps.getD 114 undef, ac.tmps.getD 115 undef, ac.tmps.getD 116 undef, ac.tmps.getD 117 undef, ac.tmps.getD 118 undef, ac.tmps.getD 119 undef, ac.tmps.getD 120 undef, ac.tmps.getD 121 undef, ac.tmps.getD 122 undef, ac.tmps.getD 123 undef, ac.tmps.getD 124 undef, ac.tmps.getD 125 undef, ac.tmps.getD 126 undef, ac.tmps.getD 127 undef], []⟩ → Hid (Grown w X) → Hid (ColsOf (.slice (some ⟨gc, 0, none⟩) 4 4) cols4 X) → Hid (Blk bt #[.string ⟨#[116]⟩, .slice (some ⟨gc, 0, none⟩) 4 4, .int .i64 0, N0, .int .i64 0, .string S0, .int .i64 0, .int .i64 0, .int .i64 0, .string S0, N0, N0] 34 X) → Hid (RowB ga la X) → Hid (RowB gb (lb.set k (x1, x2, x3, x4)) X) → K ac X)) (ac : Act) (X : World) (ha : ac = ⟨#[ac.tmps.getD 0 undef, ac.tmps.getD 1 undef, .int .i64 at_, ac.tmps.getD 3 undef, ac.tmps.getD 4 undef, ac.tmps.getD 5 undef, ac.tmps.getD 6 undef, .pointer (some ⟨bt, 0, none⟩), .slice (some ⟨ga, 0, none⟩) 4 ca, .slice (some ⟨gb, 0, none⟩) 4 cb, .int .i64 (k : Int), ac.tmps.getD 11 undef, ac.tmps.getD 12 undef, ac.tmps.getD 13 undef, ac.tmps.getD 14 undef, ac.tmps.getD 15 undef, ac.tmps.getD 16 undef, ac.tmps.getD 17 undef, ac.tmps.getD 18 undef, ac.tmps.getD 19 undef, ac.tmps.getD 20 undef, ac.tmps.getD 21 undef, ac.tmps.getD 22 undef, ac.tmps.getD 23 undef, ac.tmps.getD 24 undef, ac.tmps.getD 25 undef, ac.tmps.getD 26 undef, ac.tmps.getD 27 undef, ac.tmps.getD 28 undef, ac.tmps.getD 29 undef, ac.tmps.getD 30 undef, ac.tmps.getD 31 undef, ac.tmps.getD 32 undef, ac.tmps.getD 33 undef, ac.tmps.getD 34 undef, ac.tmps.getD 35 undef, ac.tmps.getD 36 undef, ac.tmps.getD 37 undef, ac.tmps.getD 38 undef, ac.tmps.getD 39 undef, ac.tmps.getD 40 undef, ac.tmps.getD 41 undef, ac.tmps.getD 42 undef, ac.tmps.getD 43 undef, ac.tmps.getD 44 undef, ac.tmps.getD 45 undef, ac.tmps.getD 46 undef, ac.tmps.getD 47 undef, ac.tmps.getD 48 undef, ac.tmps.getD 49 undef, ac.tmps.getD 50 undef, ac.tmps.getD 51 undef, ac.tmps.getD 52 undef, ac.tmps.getD 53 undef, ac.tmps.getD 54 undef, ac.tmps.getD 55 undef, ac.tmps.getD 56 undef, ac.tmps.getD 57 undef, ac.tmps.getD 58 undef, ac.tmps.getD 59 undef, ac.tmps.getD 60 undef, ac.tmps.getD 61 undef, ac.tmps.getD 62 undef, ac.tmps.getD 63 undef, ac.tmps.getD 64 undef, ac.tmps.getD 65 undef, ac.tmps.getD 66 undef, ac.tmps.getD 67 undef, ac.tmps.getD 68 undef, ac.tmps.getD 69 undef, ac.tmps.getD 70 undef, ac.tmps.getD 71 undef, ac.tmps.getD 72 undef, ac.tmps.getD 73 undef, ac.tmps.getD 74 undef, ac.tmps.getD 75 undef, ac.tmps.getD 76 undef, ac.tmps.getD 77 undef, ac.tmps.getD 78 undef, ac.tmps.getD 79 undef, ac.tmps.getD 80 undef, ac.tmps.getD 81 undef, ac.tmps.getD 82 undef, ac.tmps.getD 83 undef, ac.tmps.getD 84 undef, ac.tmps.getD 85 undef, ac.tmps.getD 86 undef, ac.tmps.getD 87 undef, ac.tmps.getD 88 undef, ac.tmps.getD 89 undef, ac.tmps.getD 90 undef, ac.tmps.getD 91 undef, ac.tmps.getD 92 undef, ac.tmps.getD 93 undef, ac.tmps.getD 94 undef, ac.tmps.getD 95 undef, ac.tmps.getD 96 undef, ac.tmps.getD 97 undef, ac.tmps.getD 98 undef, ac.tmps.getD 99 undef, ac.tmps.getD 100 undef, ac.tmps.getD 101 undef, ac.tmps.getD 102 undef, ac.tmps.getD 103 undef, ac.tmps.getD 104 undef, ac.tmps.getD 105 undef, ac.tmps.getD 106 undef, ac.tmps.getD 107 undef, ac.tmps.getD 108 undef, ac.tmps.getD 109 undef, ac.tmps.getD 110 undef, ac.tmps.getD 111 undef, ac.tmps.getD 112 undef, ac.tmps.getD 113 undef, ac.tmps.getD 114 undef, ac.tmps.getD 115 undef, ac.tmps.getD 116 undef, ac.tmps.getD 117 undef, ac.tmps.getD 118 undef, ac.tmps.getD 119 undef, ac.tmps.getD 120 undef, ac.tmps.getD 121 undef, ac.tmps.getD 122 undef, ac.tmps.getD 123 undef, ac.tmps.getD 124 undef, ac.tmps.getD 125 undef, ac.tmps.getD 126 undef, ac.tmps.getD 127 undef], []⟩) (G : Hid (Grown w X)) (hC : Hid (ColsOf (.slice (some ⟨gc, 0, none⟩) 4 4) cols4 X)) (hT : Hid (Blk bt #[.string ⟨#[116]⟩, .slice (some ⟨gc, 0, none⟩) 4 4, .int .i64 0, N0, .int .i64 0, .string S0, .int .i64 0, .int .i64 0, .int .i64 0, .string S0, N0, N0] 34 X)) (hRa : Hid (RowB ga la X)) (hRb : Hid (RowB gb lb X)) : r5.wp Try.prog (Exit.then K Q) ac X := by
  obtain ⟨u, rfl⟩ : ∃ u : Nat → Value, ac = ⟨#[u 0, u 1, .int .i64 at_, u 3, u 4, u 5, u 6, .pointer (some ⟨bt, 0, none⟩), .slice (some ⟨ga, 0, none⟩) 4 ca, .slice (some ⟨gb, 0, none⟩) 4 cb, .int .i64 (k : Int), u 11, u 12, u 13, u 14, u 15, u 16, u 17, u 18, u 19, u 20, u 21, u 22, u 23, u 24, u 25, u 26, u 27, u 28, u 29, u 30, u 31, u 32, u 33, u 34, u 35, u 36, u 37, u 38, u 39, u 40, u 41, u 42, u 43, u 44, u 45, u 46, u 47, u 48, u 49, u 50, u 51, u 52, u 53, u 54, u 55, u 56, u 57, u 58, u 59, u 60, u 61, u 62, u 63, u 64, u 65, u 66, u 67, u 68, u 69, u 70, u 71, u 72, u 73, u 74, u 75, u 76, u 77, u 78, u 79, u 80, u 81, u 82, u 83, u 84, u 85, u 86, u 87, u 88, u 89, u 90, u 91, u 92, u 93, u 94, u 95, u 96, u 97, u 98, u 99, u 100, u 101, u 102, u 103, u 104, u 105, u 106, u 107, u 108, u 109, u 110, u 111, u 112, u 113, u 114, u 115, u 116, u 117, u 118, u 119, u 120, u 121, u 122, u 123, u 124, u 125, u 126, u 127], []⟩ := ⟨fun i => ac.tmps.getD i undef, ha⟩
  clear ha
  unfold Try.f11 at hc
  cases hc
  have hki : (k : Int) < 4 := by omega
  have hka : k < la.length := by omega
  have hkb : k < lb.length := by omega
  obtain ⟨g1, e1, l1, a0, a1, a2, a3⟩ := (unhide hRa).row.2 k hka
  cases e1
  have hxe : la[k] = (x1, x2, x3, x4) := by rw [List.getElem?_eq_getElem hka] at hx; exact Option.some.inj hx
  rw [hxe] at a0 a1 a2 a3
  obtain ⟨g2, e2, l2, b0, b1, b2, b3⟩ := (unhide hRb).row.2 k hkb
  cases e2
  generalize lb[k] = z at b0 b1 b2 b3
  have f0 := (unhide hRb).froz (k * 4)
  have f1 := (unhide hRb).froz (k * 4 + 1)
  have f2 := (unhide hRb).froz (k * 4 + 2)
  have f3 := (unhide hRb).froz (k * 4 + 3)
  have nab : ¬ ga = gb := by omega
  have nba : ¬ gb = ga := by omega
  simp only at a0 a1 a2 a3
  have R2 := hide ((unhide hRb).set hkb (x1, x2, x3, x4))
  have A2 := hide (((((unhide hRa).far (b := gb) (by omega) (k * 4) (.int .i64 x1)).far (b := gb) (by omega) (k * 4 + 1) (.int .i64 x2)).far (b := gb) (by omega) (k * 4 + 2) (.int .i64 x3)).far (b := gb) (by omega) (k * 4 + 3) (.string x4))
  have T2 := hide (((((unhide hT).set (b := gb) (by omega) (k * 4) (.int .i64 x1)).set (b := gb) (by omega) (k * 4 + 1) (.int .i64 x2)).set (b := gb) (by omega) (k * 4 + 2) (.int .i64 x3)).set (b := gb) (by omega) (k * 4 + 3) (.string x4))
  have C2 := hide (((((unhide hC).setC (b := gb) (by omega) (k * 4) (.int .i64 x1)).setC (b := gb) (by omega) (k * 4 + 1) (.int .i64 x2)).setC (b := gb) (by omega) (k * 4 + 2) (.int .i64 x3)).setC (b := gb) (by omega) (k * 4 + 3) (.string x4))
  have lwg : w.heap.size ≤ gb := by omega
  have G2 : Hid (Grown w ((((X.setCell ⟨gb, k * 4, none⟩ (.int .i64 x1)).setCell ⟨gb, k * 4 + 1, none⟩ (.int .i64 x2)).setCell ⟨gb, k * 4 + 2, none⟩ (.int .i64 x3)).setCell ⟨gb, k * 4 + 3, none⟩ (.string x4))) := hide ((((Below.setCell (unhide G : Below w.heap.size w X) (p := ⟨gb, k * 4, none⟩) lwg (.int .i64 x1)).setCell (p := ⟨gb, k * 4 + 1, none⟩) lwg (.int .i64 x2)).setCell (p := ⟨gb, k * 4 + 2, none⟩) lwg (.int .i64 x3)).setCell (p := ⟨gb, k * 4 + 3, none⟩) lwg (.string x4))
  clear G hC hT hRa hRb
  go_wp2_with fail
  exact unhide REST _ _ (by kernel_rfl) G2 C2 T2 A2 R2
set_option maxHeartbeats 32000000 in
set_option maxRecDepth 100000 in
theorem smX {r0 r1 r2 r3 r4 r5 r6 rest : Code} (hc : Try.f11.body = some (.seq r0 (.seq r1 (.seq r2 (.seq r3 (.seq r4 (.seq r5 (.seq r6 (rest))))))))) (w : World) (n0 gc bt ga ca gb cb k : Nat) (hk : k < 4) (at_ : Int) (la lb : List V4) (nm : ByteArray) (hnm : NMk k = nm) (K : Act → World → Prop) (Q : Exit → Act → World → Prop) (REST : Hid (∀ (ac : Act) (bx gx : Nat) (X : World), ac = ⟨#[ac.tmps.getD 0 undef, ac.tmps.getD 1 undef, .int .i64 at_, ac.tmps.getD 3 undef, ac.tmps.getD 4 undef, ac.tmps.getD 5 undef, ac.tmps.getD 6 undef, .pointer (some ⟨bt, 0, none⟩), .slice (some ⟨ga, 0, none⟩) 4 ca, .slice (some ⟨gb, 0, none⟩) 4 cb, .int .i64 (k : Int), .pointer (some ⟨bx, 0, none⟩), ac.tmps.getD 12 undef, ac.tmps.getD 13 undef, ac.tmps.getD 14 undef, ac.tmps.getD 15 undef, ac.tmps.getD 16 undef, ac.tmps.getD 17 undef, ac.tmps.getD 18 undef, ac.tmps.getD 19 undef, ac.tmps.getD 20 undef, ac.tmps.getD 21 undef, ac.tmps.getD 22 undef, ac.tmps.getD 23 undef, ac.tmps.getD 24 undef, ac.tmps.getD 25 undef, ac.tmps.getD 26 undef, ac.tmps.getD 27 undef, ac.tmps.getD 28 undef, ac.tmps.getD 29 undef, ac.tmps.getD 30 undef, ac.tmps.getD 31 undef, ac.tmps.getD 32 undef, ac.tmps.getD 33 undef, ac.tmps.getD 34 undef, ac.tmps.getD 35 undef, ac.tmps.getD 36 undef, ac.tmps.getD 37 undef, ac.tmps.getD 38 undef, ac.tmps.getD 39 undef, ac.tmps.getD 40 undef, ac.tmps.getD 41 undef, ac.tmps.getD 42 undef, ac.tmps.getD 43 undef, ac.tmps.getD 44 undef, ac.tmps.getD 45 undef, ac.tmps.getD 46 undef, ac.tmps.getD 47 undef, ac.tmps.getD 48 undef, ac.tmps.getD 49 undef, ac.tmps.getD 50 undef, ac.tmps.getD 51 undef, ac.tmps.getD 52 undef, ac.tmps.getD 53 undef, ac.tmps.getD 54 undef, ac.tmps.getD 55 undef, ac.tmps.getD 56 undef, ac.tmps.getD 57 undef, ac.tmps.getD 58 undef, ac.tmps.getD 59 undef, ac.tmps.getD 60 undef, ac.tmps.getD 61 undef, ac.tmps.getD 62 undef, ac.tmps.getD 63 undef, ac.tmps.getD 64 undef, ac.tmps.getD 65 undef, ac.tmps.getD 66 undef, ac.tmps.getD 67 undef, ac.tmps.getD 68 undef, ac.tmps.getD 69 undef, ac.tmps.getD 70 undef, ac.tmps.getD 71 undef, ac.tmps.getD 72 undef, ac.tmps.getD 73 undef, ac.tmps.getD 74 undef, ac.tmps.getD 75 undef, ac.tmps.getD 76 undef, ac.tmps.getD 77 undef, ac.tmps.getD 78 undef, ac.tmps.getD 79 undef, ac.tmps.getD 80 undef, ac.tmps.getD 81 undef, ac.tmps.getD 82 undef, ac.tmps.getD 83 undef, ac.tmps.getD 84 undef, ac.tmps.getD 85 undef, ac.tmps.getD 86 undef, ac.tmps.getD 87 undef, ac.tmps.getD 88 undef, ac.tmps.getD 89 undef, ac.tmps.getD 90 undef, ac.tmps.getD 91 undef, ac.tmps.getD 92 undef, ac.tmps.getD 93 undef, ac.tmps.getD 94 undef, ac.tmps.getD 95 undef, ac.tmps.getD 96 undef, ac.tmps.getD 97 undef, ac.tmps.getD 98 undef, ac.tmps.getD 99 undef, ac.tmps.getD 100 undef, ac.tmps.getD 101 undef, ac.tmps.getD 102 undef, ac.tmps.getD 103 undef, ac.tmps.getD 104 undef, ac.tmps.getD 105 undef, ac.tmps.getD 106 undef, ac.tmps.getD 107 undef, ac.tmps.getD 108 undef, ac.tmps.getD 109 undef, ac.tmps.getD 110 undef, ac.tmps.getD 111 undef, ac.tmps.getD 112 undef, ac.tmps.getD 113 undef, ac.tmps.getD 114 undef, ac.tmps.getD 115 undef, ac.tmps.getD 116 undef, ac.tmps.getD 117 undef, ac.tmps.getD 118 undef, ac.tmps.getD 119 undef, ac.tmps.getD 120 undef, ac.tmps.getD 121 undef, ac.tmps.getD 122 undef, ac.tmps.getD 123 undef, ac.tmps.getD 124 undef, ac.tmps.getD 125 undef, ac.tmps.getD 126 undef, ac.tmps.getD 127 undef], []⟩ → Hid (Grown w X) → Hid (ColsOf (.slice (some ⟨gc, 0, none⟩) 4 4) cols4 X) → Hid (Blk bt #[.string ⟨#[116]⟩, .slice (some ⟨gc, 0, none⟩) 4 4, .int .i64 0, N0, .int .i64 0, .string S0, .int .i64 0, .int .i64 0, .int .i64 0, .string S0, N0, N0] 34 X) → Hid (RowB ga la X) → Hid (RowB gb lb X) → Hid (Blk bx #[.int .i64 5, .string S0, .int .i64 0, .int .i64 0, .int .i64 0, .string S0, .slice (some ⟨gx, 0, none⟩) 1 1] 31 X) → Hid (Rep (oneX 5 (colX nm)) (.slice (some ⟨gx, 0, none⟩) 1 1) X) → K ac X)) (ac : Act) (X : World) (ha : ac = ⟨#[ac.tmps.getD 0 undef, ac.tmps.getD 1 undef, .int .i64 at_, ac.tmps.getD 3 undef, ac.tmps.getD 4 undef, ac.tmps.getD 5 undef, ac.tmps.getD 6 undef, .pointer (some ⟨bt, 0, none⟩), .slice (some ⟨ga, 0, none⟩) 4 ca, .slice (some ⟨gb, 0, none⟩) 4 cb, .int .i64 (k : Int), ac.tmps.getD 11 undef, ac.tmps.getD 12 undef, ac.tmps.getD 13 undef, ac.tmps.getD 14 undef, ac.tmps.getD 15 undef, ac.tmps.getD 16 undef, ac.tmps.getD 17 undef, ac.tmps.getD 18 undef, ac.tmps.getD 19 undef, ac.tmps.getD 20 undef, ac.tmps.getD 21 undef, ac.tmps.getD 22 undef, ac.tmps.getD 23 undef, ac.tmps.getD 24 undef, ac.tmps.getD 25 undef, ac.tmps.getD 26 undef, ac.tmps.getD 27 undef, ac.tmps.getD 28 undef, ac.tmps.getD 29 undef, ac.tmps.getD 30 undef, ac.tmps.getD 31 undef, ac.tmps.getD 32 undef, ac.tmps.getD 33 undef, ac.tmps.getD 34 undef, ac.tmps.getD 35 undef, ac.tmps.getD 36 undef, ac.tmps.getD 37 undef, ac.tmps.getD 38 undef, ac.tmps.getD 39 undef, ac.tmps.getD 40 undef, ac.tmps.getD 41 undef, ac.tmps.getD 42 undef, ac.tmps.getD 43 undef, ac.tmps.getD 44 undef, ac.tmps.getD 45 undef, ac.tmps.getD 46 undef, ac.tmps.getD 47 undef, ac.tmps.getD 48 undef, ac.tmps.getD 49 undef, ac.tmps.getD 50 undef, ac.tmps.getD 51 undef, ac.tmps.getD 52 undef, ac.tmps.getD 53 undef, ac.tmps.getD 54 undef, ac.tmps.getD 55 undef, ac.tmps.getD 56 undef, ac.tmps.getD 57 undef, ac.tmps.getD 58 undef, ac.tmps.getD 59 undef, ac.tmps.getD 60 undef, ac.tmps.getD 61 undef, ac.tmps.getD 62 undef, ac.tmps.getD 63 undef, ac.tmps.getD 64 undef, ac.tmps.getD 65 undef, ac.tmps.getD 66 undef, ac.tmps.getD 67 undef, ac.tmps.getD 68 undef, ac.tmps.getD 69 undef, ac.tmps.getD 70 undef, ac.tmps.getD 71 undef, ac.tmps.getD 72 undef, ac.tmps.getD 73 undef, ac.tmps.getD 74 undef, ac.tmps.getD 75 undef, ac.tmps.getD 76 undef, ac.tmps.getD 77 undef, ac.tmps.getD 78 undef, ac.tmps.getD 79 undef, ac.tmps.getD 80 undef, ac.tmps.getD 81 undef, ac.tmps.getD 82 undef, ac.tmps.getD 83 undef, ac.tmps.getD 84 undef, ac.tmps.getD 85 undef, ac.tmps.getD 86 undef, ac.tmps.getD 87 undef, ac.tmps.getD 88 undef, ac.tmps.getD 89 undef, ac.tmps.getD 90 undef, ac.tmps.getD 91 undef, ac.tmps.getD 92 undef, ac.tmps.getD 93 undef, ac.tmps.getD 94 undef, ac.tmps.getD 95 undef, ac.tmps.getD 96 undef, ac.tmps.getD 97 undef, ac.tmps.getD 98 undef, ac.tmps.getD 99 undef, ac.tmps.getD 100 undef, ac.tmps.getD 101 undef, ac.tmps.getD 102 undef, ac.tmps.getD 103 undef, ac.tmps.getD 104 undef, ac.tmps.getD 105 undef, ac.tmps.getD 106 undef, ac.tmps.getD 107 undef, ac.tmps.getD 108 undef, ac.tmps.getD 109 undef, ac.tmps.getD 110 undef, ac.tmps.getD 111 undef, ac.tmps.getD 112 undef, ac.tmps.getD 113 undef, ac.tmps.getD 114 undef, ac.tmps.getD 115 undef, ac.tmps.getD 116 undef, ac.tmps.getD 117 undef, ac.tmps.getD 118 undef, ac.tmps.getD 119 undef, ac.tmps.getD 120 undef, ac.tmps.getD 121 undef, ac.tmps.getD 122 undef, ac.tmps.getD 123 undef, ac.tmps.getD 124 undef, ac.tmps.getD 125 undef, ac.tmps.getD 126 undef, ac.tmps.getD 127 undef], []⟩) (G : Hid (Grown w X)) (hC : Hid (ColsOf (.slice (some ⟨gc, 0, none⟩) 4 4) cols4 X)) (hT : Hid (Blk bt #[.string ⟨#[116]⟩, .slice (some ⟨gc, 0, none⟩) 4 4, .int .i64 0, N0, .int .i64 0, .string S0, .int .i64 0, .int .i64 0, .int .i64 0, .string S0, N0, N0] 34 X)) (hRa : Hid (RowB ga la X)) (hRb : Hid (RowB gb lb X)) : r6.wp Try.prog (Exit.then K Q) ac X := by
  obtain ⟨u, rfl⟩ : ∃ u : Nat → Value, ac = ⟨#[u 0, u 1, .int .i64 at_, u 3, u 4, u 5, u 6, .pointer (some ⟨bt, 0, none⟩), .slice (some ⟨ga, 0, none⟩) 4 ca, .slice (some ⟨gb, 0, none⟩) 4 cb, .int .i64 (k : Int), u 11, u 12, u 13, u 14, u 15, u 16, u 17, u 18, u 19, u 20, u 21, u 22, u 23, u 24, u 25, u 26, u 27, u 28, u 29, u 30, u 31, u 32, u 33, u 34, u 35, u 36, u 37, u 38, u 39, u 40, u 41, u 42, u 43, u 44, u 45, u 46, u 47, u 48, u 49, u 50, u 51, u 52, u 53, u 54, u 55, u 56, u 57, u 58, u 59, u 60, u 61, u 62, u 63, u 64, u 65, u 66, u 67, u 68, u 69, u 70, u 71, u 72, u 73, u 74, u 75, u 76, u 77, u 78, u 79, u 80, u 81, u 82, u 83, u 84, u 85, u 86, u 87, u 88, u 89, u 90, u 91, u 92, u 93, u 94, u 95, u 96, u 97, u 98, u 99, u 100, u 101, u 102, u 103, u 104, u 105, u 106, u 107, u 108, u 109, u 110, u 111, u 112, u 113, u 114, u 115, u 116, u 117, u 118, u 119, u 120, u 121, u 122, u 123, u 124, u 125, u 126, u 127], []⟩ := ⟨fun i => ac.tmps.getD i undef, ha⟩
  clear ha
  unfold Try.f11 at hc
  cases hc
  have hki : (k : Int) < 4 := by omega
  obtain ⟨gg, cc, e1, lg, _, hcs⟩ := unhide hC
  cases e1
  have n0_ : X.cell? ⟨gc, k * 3, none⟩ = some (.string nm) := by rw [(hcs k hk).1, nmk_col k hk, hnm]
  have lt_ := (unhide hT).lt
  have t1 := (unhide hT).cell 1
  simp at t1
  clear hcs
  go_wp2_with fail
  refine (colL_any nm _).mono ?_
  rintro e Y1 ⟨rfl, hb⟩
  have g2 := below_2 Y1 (.cells #[.int .i64 2, .string nm, .int .i64 0, .int .i64 0, .int .i64 0, .string ⟨#[]⟩, .slice none 0 0] 31) (.cells #[.int .i64 5, .string ⟨#[]⟩, .int .i64 0, .int .i64 0, .int .i64 0, .string ⟨#[]⟩, .slice (some ⟨Y1.heap.size, 0, none⟩) 1 1] 31)
  have hrx : Rep (oneX 5 (colX nm)) (.slice (some ⟨Y1.heap.size, 0, none⟩) 1 1) (Y1.alloc (.cells #[.int .i64 2, .string nm, .int .i64 0, .int .i64 0, .int .i64 0, .string ⟨#[]⟩, .slice none 0 0] 31)) := ⟨_, _, N0, rfl, cells_of (Blk.new Y1 #[.int .i64 2, .string nm, .int .i64 0, .int .i64 0, .int .i64 0, .string ⟨#[]⟩, .slice none 0 0] 31) rfl, rfl⟩
  replace hrx := hide (hrx.call (below_new _ (.cells #[.int .i64 5, .string ⟨#[]⟩, .int .i64 0, .int .i64 0, .int .i64 0, .string ⟨#[]⟩, .slice (some ⟨Y1.heap.size, 0, none⟩) 1 1] 31)))
  have hX := Blk.new (Y1.alloc (.cells #[.int .i64 2, .string nm, .int .i64 0, .int .i64 0, .int .i64 0, .string ⟨#[]⟩, .slice none 0 0] 31)) #[.int .i64 5, .string ⟨#[]⟩, .int .i64 0, .int .i64 0, .int .i64 0, .string ⟨#[]⟩, .slice (some ⟨Y1.heap.size, 0, none⟩) 1 1] 31
  rw [World.size_alloc] at hX
  replace hX := hide hX
  replace G := hide (((unhide G).call hb).call g2)
  replace hC := hide (((unhide hC).call hb).call g2)
  replace hT := hide (((unhide hT).call hb).call g2)
  replace hRa := hide (((unhide hRa).call hb).call g2)
  replace hRb := hide (((unhide hRb).call hb).call g2)
  clear hb g2 n0_ lt_ t1
  go_wp2_with fail
  exact unhide REST _ (Y1.heap.size + 1) Y1.heap.size _ (by kernel_rfl) G hC hT hRa hRb hX hrx
end Go.Proofs.Ytliefgkhpgigaaa

namespace Go.Proofs.Ytliefgkhpgigaaa
open Go.RowKit Go.Shelf
set_option linter.unusedSimpArgs false
set_option linter.unusedVariables false

set_option maxHeartbeats 32000000 in
set_option maxRecDepth 100000 in
theorem smY {r0 r1 r2 r3 r4 r5 r6 r7 rest : Code} (hc : Try.f11.body = some (.seq r0 (.seq r1 (.seq r2 (.seq r3 (.seq r4 (.seq r5 (.seq r6 (.seq r7 (rest)))))))))) (w : World) (n0 gc bt ga ca gb cb k : Nat) (hk : k < 4) (at_ : Int) (la lb : List V4) (nm : ByteArray) (hnm : NMk k = nm) (bx gx : Nat) (K : Act → World → Prop) (Q : Exit → Act → World → Prop) (REST : Hid (∀ (ac : Act) (by_ gy : Nat) (X : World), ac = ⟨#[ac.tmps.getD 0 undef, ac.tmps.getD 1 undef, .int .i64 at_, ac.tmps.getD 3 undef, ac.tmps.getD 4 undef, ac.tmps.getD 5 undef, ac.tmps.getD 6 undef, .pointer (some ⟨bt, 0, none⟩), .slice (some ⟨ga, 0, none⟩) 4 ca, .slice (some ⟨gb, 0, none⟩) 4 cb, .int .i64 (k : Int), .pointer (some ⟨bx, 0, none⟩), .pointer (some ⟨by_, 0, none⟩), ac.tmps.getD 13 undef, ac.tmps.getD 14 undef, ac.tmps.getD 15 undef, ac.tmps.getD 16 undef, ac.tmps.getD 17 undef, ac.tmps.getD 18 undef, ac.tmps.getD 19 undef, ac.tmps.getD 20 undef, ac.tmps.getD 21 undef, ac.tmps.getD 22 undef, ac.tmps.getD 23 undef, ac.tmps.getD 24 undef, ac.tmps.getD 25 undef, ac.tmps.getD 26 undef, ac.tmps.getD 27 undef, ac.tmps.getD 28 undef, ac.tmps.getD 29 undef, ac.tmps.getD 30 undef, ac.tmps.getD 31 undef, ac.tmps.getD 32 undef, ac.tmps.getD 33 undef, ac.tmps.getD 34 undef, ac.tmps.getD 35 undef, ac.tmps.getD 36 undef, ac.tmps.getD 37 undef, ac.tmps.getD 38 undef, ac.tmps.getD 39 undef, ac.tmps.getD 40 undef, ac.tmps.getD 41 undef, ac.tmps.getD 42 undef, ac.tmps.getD 43 undef, ac.tmps.getD 44 undef, ac.tmps.getD 45 undef, ac.tmps.getD 46 undef, ac.tmps.getD 47 undef, ac.tmps.getD 48 undef, ac.tmps.getD 49 undef, ac.tmps.getD 50 undef, ac.tmps.getD 51 undef, ac.tmps.getD 52 undef, ac.tmps.getD 53 undef, ac.tmps.getD 54 undef, ac.tmps.getD 55 undef, ac.tmps.getD 56 undef, ac.tmps.getD 57 undef, ac.tmps.getD 58 undef, ac.tmps.getD 59 undef, ac.tmps.getD 60 undef, ac.tmps.getD 61 undef, ac.tmps.getD 62 undef, ac.tmps.getD 63 undef, ac.tmps.getD 64 undef, ac.tmps.getD 65 undef, ac.tmps.getD 66 undef, ac.tmps.getD 67 undef, ac.tmps.getD 68 undef, ac.tmps.getD 69 undef, ac.tmps.getD 70 undef, ac.tmps.getD 71 undef, ac.tmps.getD 72 undef, ac.tmps.getD 73 undef, ac.tmps.getD 74 undef, ac.tmps.getD 75 undef, ac.tmps.getD 76 undef, ac.tmps.getD 77 undef, ac.tmps.getD 78 undef, ac.tmps.getD 79 undef, ac.tmps.getD 80 undef, ac.tmps.getD 81 undef, ac.tmps.getD 82 undef, ac.tmps.getD 83 undef, ac.tmps.getD 84 undef, ac.tmps.getD 85 undef, ac.tmps.getD 86 undef, ac.tmps.getD 87 undef, ac.tmps.getD 88 undef, ac.tmps.getD 89 undef, ac.tmps.getD 90 undef, ac.tmps.getD 91 undef, ac.tmps.getD 92 undef, ac.tmps.getD 93 undef, ac.tmps.getD 94 undef, ac.tmps.getD 95 undef, ac.tmps.getD 96 undef, ac.tmps.getD 97 undef, ac.tmps.getD 98 undef, ac.tmps.getD 99 undef, ac.tmps.getD 100 undef, ac.tmps.getD 101 undef, ac.tmps.getD 102 undef, ac.tmps.getD 103 undef, ac.tmps.getD 104 undef, ac.tmps.getD 105 undef, ac.tmps.getD 106 undef, ac.tmps.getD 107 undef, ac.tmps.getD 108 undef, ac.tmps.getD 109 undef, ac.tmps.getD 110 undef, ac.tmps.getD 111 undef, ac.tmps.getD 112 undef, ac.tmps.getD 113 undef, ac.tmps.getD 114 undef, ac.tmps.getD 115 undef, ac.tmps.getD 116 undef, ac.tmps.getD 117 undef, ac.tmps.getD 118 undef, ac.tmps.getD 119 undef, ac.tmps.getD 120 undef, ac.tmps.getD 121 undef, ac.tmps.getD 122 undef, ac.tmps.getD 123 undef, ac.tmps.getD 124 undef, ac.tmps.getD 125 undef, ac.tmps.getD 126 undef, ac.tmps.getD 127 undef], []⟩ → Hid (Grown w X) → Hid (ColsOf (.slice (some ⟨gc, 0, none⟩) 4 4) cols4 X) → Hid (Blk bt #[.string ⟨#[116]⟩, .slice (some ⟨gc, 0, none⟩) 4 4, .int .i64 0, N0, .int .i64 0, .string S0, .int .i64 0, .int .i64 0, .int .i64 0, .string S0, N0, N0] 34 X) → Hid (RowB ga la X) → Hid (RowB gb lb X) → Hid (Blk bx #[.int .i64 5, .string S0, .int .i64 0, .int .i64 0, .int .i64 0, .string S0, .slice (some ⟨gx, 0, none⟩) 1 1] 31 X) → Hid (Rep (oneX 5 (colX nm)) (.slice (some ⟨gx, 0, none⟩) 1 1) X) → Hid (Blk by_ #[.int .i64 9, .string S0, .int .i64 0, .int .i64 0, .int .i64 0, .string S0, .slice (some ⟨gy, 0, none⟩) 2 2] 31 X) → Hid (Rep (twoX 9 (colX nm) (colX nm)) (.slice (some ⟨gy, 0, none⟩) 2 2) X) → K ac X)) (ac : Act) (X : World) (ha : ac = ⟨#[ac.tmps.getD 0 undef, ac.tmps.getD 1 undef, .int .i64 at_, ac.tmps.getD 3 undef, ac.tmps.getD 4 undef, ac.tmps.getD 5 undef, ac.tmps.getD 6 undef, .pointer (some ⟨bt, 0, none⟩), .slice (some ⟨ga, 0, none⟩) 4 ca, .slice (some ⟨gb, 0, none⟩) 4 cb, .int .i64 (k : Int), .pointer (some ⟨bx, 0, none⟩), ac.tmps.getD 12 undef, ac.tmps.getD 13 undef, ac.tmps.getD 14 undef, ac.tmps.getD 15 undef, ac.tmps.getD 16 undef, ac.tmps.getD 17 undef, ac.tmps.getD 18 undef, ac.tmps.getD 19 undef, ac.tmps.getD 20 undef, ac.tmps.getD 21 undef, ac.tmps.getD 22 undef, ac.tmps.getD 23 undef, ac.tmps.getD 24 undef, ac.tmps.getD 25 undef, ac.tmps.getD 26 undef, ac.tmps.getD 27 undef, ac.tmps.getD 28 undef, ac.tmps.getD 29 undef, ac.tmps.getD 30 undef, ac.tmps.getD 31 undef, ac.tmps.getD 32 undef, ac.tmps.getD 33 undef, ac.tmps.getD 34 undef, ac.tmps.getD 35 undef, ac.tmps.getD 36 undef, ac.tmps.getD 37 undef, ac.tmps.getD 38 undef, ac.tmps.getD 39 undef, ac.tmps.getD 40 undef, ac.tmps.getD 41 undef, ac.tmps.getD 42 undef, ac.tmps.getD 43 undef, ac.tmps.getD 44 undef, ac.tmps.getD 45 undef, ac.tmps.getD 46 undef, ac.tmps.getD 47 undef, ac.tmps.getD 48 undef, ac.tmps.getD 49 undef, ac.tmps.getD 50 undef, ac.tmps.getD 51 undef, ac.tmps.getD 52 undef, ac.tmps.getD 53 undef, ac.tmps.getD 54 undef, ac.tmps.getD 55 undef, ac.tmps.getD 56 undef, ac.tmps.getD 57 undef, ac.tmps.getD 58 undef, ac.tmps.getD 59 undef, ac.tmps.getD 60 undef, ac.tmps.getD 61 undef, ac.tmps.getD 62 undef, ac.tmps.getD 63 undef, ac.tmps.getD 64 undef, ac.tmps.getD 65 undef, ac.tmps.getD 66 undef, ac.tmps.getD 67 undef, ac.tmps.getD 68 undef, ac.tmps.getD 69 undef, ac.tmps.getD 70 undef, ac.tmps.getD 71 undef, ac.tmps.getD 72 undef, ac.tmps.getD 73 undef, ac.tmps.getD 74 undef, ac.tmps.getD 75 undef, ac.tmps.getD 76 undef, ac.tmps.getD 77 undef, ac.tmps.getD 78 undef, ac.tmps.getD 79 undef, ac.tmps.getD 80 undef, ac.tmps.getD 81 undef, ac.tmps.getD 82 undef, ac.tmps.getD 83 undef, ac.tmps.getD 84 undef, ac.tmps.getD 85 undef, ac.tmps.getD 86 undef, ac.tmps.getD 87 undef, ac.tmps.getD 88 undef, ac.tmps.getD 89 undef, ac.tmps.getD 90 undef, ac.tmps.getD 91 undef, ac.tmps.getD 92 undef, ac.tmps.getD 93 undef, ac.tmps.getD 94 undef, ac.tmps.getD 95 undef, ac.tmps.getD 96 undef, ac.tmps.getD 97 undef, ac.tmps.getD 98 undef, ac.tmps.getD 99 undef, ac.tmps.getD 100 undef, ac.tmps.getD 101 undef, ac.tmps.getD 102 undef, ac.tmps.getD 103 undef, ac.tmps.getD 104 undef, ac.tmps.getD 105 undef, ac.tmps.getD 106 undef, ac.tmps.getD 107 undef, ac.tmps.getD 108 undef, ac.tmps.getD 109 undef, ac.tmps.getD 110 undef, ac.tmps.getD 111 undef, ac.tmps.getD 112 undef, ac.tmps.getD 113 undef, ac.tmps.getD 114 undef, ac.tmps.getD 115 undef, ac.tmps.getD 116 undef, ac.tmps.getD 117 undef, ac.tmps.getD 118 undef, ac.tmps.getD 119 undef, ac.tmps.getD 120 undef, ac.tmps.getD 121 undef, ac.tmps.getD 122 undef, ac.tmps.getD 123 undef, ac.tmps.getD 124 undef, ac.tmps.getD 125 undef, ac.tmps.getD 126 undef, ac.tmps.getD 127 undef], []⟩) (G : Hid (Grown w X)) (hC : Hid (ColsOf (.slice (some ⟨gc, 0, none⟩) 4 4) cols4 X)) (hT : Hid (Blk bt #[.string ⟨#[116]⟩, .slice (some ⟨gc, 0, none⟩) 4 4, .int .i64 0, N0, .int .i64 0, .string S0, .int .i64 0, .int .i64 0, .int .i64 0, .string S0, N0, N0] 34 X)) (hRa : Hid (RowB ga la X)) (hRb : Hid (RowB gb lb X)) (hX : Hid (Blk bx #[.int .i64 5, .string S0, .int .i64 0, .int .i64 0, .int .i64 0, .string S0, .slice (some ⟨gx, 0, none⟩) 1 1] 31 X)) (hrx : Hid (Rep (oneX 5 (colX nm)) (.slice (some ⟨gx, 0, none⟩) 1 1) X)) : r7.wp Try.prog (Exit.then K Q) ac X := by
  obtain ⟨u, rfl⟩ : ∃ u : Nat → Value, ac = ⟨#[u 0, u 1, .int .i64 at_, u 3, u 4, u 5, u 6, .pointer (some ⟨bt, 0, none⟩), .slice (some ⟨ga, 0, none⟩) 4 ca, .slice (some ⟨gb, 0, none⟩) 4 cb, .int .i64 (k : Int), .pointer (some ⟨bx, 0, none⟩), u 12, u 13, u 14, u 15, u 16, u 17, u 18, u 19, u 20, u 21, u 22, u 23, u 24, u 25, u 26, u 27, u 28, u 29, u 30, u 31, u 32, u 33, u 34, u 35, u 36, u 37, u 38, u 39, u 40, u 41, u 42, u 43, u 44, u 45, u 46, u 47, u 48, u 49, u 50, u 51, u 52, u 53, u 54, u 55, u 56, u 57, u 58, u 59, u 60, u 61, u 62, u 63, u 64, u 65, u 66, u 67, u 68, u 69, u 70, u 71, u 72, u 73, u 74, u 75, u 76, u 77, u 78, u 79, u 80, u 81, u 82, u 83, u 84, u 85, u 86, u 87, u 88, u 89, u 90, u 91, u 92, u 93, u 94, u 95, u 96, u 97, u 98, u 99, u 100, u 101, u 102, u 103, u 104, u 105, u 106, u 107, u 108, u 109, u 110, u 111, u 112, u 113, u 114, u 115, u 116, u 117, u 118, u 119, u 120, u 121, u 122, u 123, u 124, u 125, u 126, u 127], []⟩ := ⟨fun i => ac.tmps.getD i undef, ha⟩
  clear ha
  unfold Try.f11 at hc
  cases hc
  have hki : (k : Int) < 4 := by omega
  have hN : Hid (SNm bt gc k nm X) := by
    obtain ⟨gg, cc, e1, lg, _, hcs⟩ := unhide hC
    cases e1
    exact ⟨unhide hT, lg, by rw [(hcs k hk).1, nmk_col k hk, hnm]⟩
  refine wp_region_noPanic ?_
  refine wp_region_held_drew (S := (SNm bt gc k nm)) (by kernel_rfl) ((unhide hN).call (Below.refl _ _).drew) (fun hHeld => ?_)
  have hbd : Below X.heap.size X X.drew := (Below.refl _ _).drew
  replace G := hide ((unhide G).call hbd)
  replace hC := hide ((unhide hC).call hbd)
  replace hT := hide ((unhide hT).call hbd)
  replace hRa := hide ((unhide hRa).call hbd)
  replace hRb := hide ((unhide hRb).call hbd)
  replace hX := hide ((unhide hX).call hbd)
  replace hrx := hide ((unhide hrx).call hbd)
  replace hN := hide ((unhide hN).call hbd)
  clear hbd
  generalize X.drew = Wd at *
  refine wpAnyH_take (i := 0) (oi := ?oi20009) (v := ?v20009) ?hi20009 (by kernel_rfl) (by kernel_rfl) (by kernel_rfl) (fun _ _ _ h => h) (Or.inl ⟨?hw20009, ?hy20009⟩) (by assumption) ?rest20009
  case hi20009 => (simp only [List.getElem?_toArray, List.getElem?_cons_zero]; rfl)
  case hw20009 => rfl
  case hy20009 => first | (intro wx hSw; go_simp; done) | (intro wx hSw; go_simp; with_reducible rfl)
  simp only [Act.put, List.setIfInBounds_toArray, List.set_cons_zero, List.set_cons_succ]
  refine wpAnyH_take (i := 1) (oi := ?oi20010) (v := ?v20010) ?hi20010 (by kernel_rfl) (by kernel_rfl) (by kernel_rfl) (fun _ _ _ h => h) (Or.inl ⟨?hw20010, ?hy20010⟩) (by assumption) ?rest20010
  case hi20010 => (simp only [List.getElem?_toArray, List.getElem?_cons_zero, List.getElem?_cons_succ]; rfl)
  case hw20010 => rfl
  case hy20010 => first | (intro wx hSw; obtain ⟨hT, l0, c0⟩ := hSw; have t1 := Blk.cell hT 1; have lt_ := hT.lt; simp at t1; go_simp; done) | (intro wx hSw; obtain ⟨hT, l0, c0⟩ := hSw; have t1 := Blk.cell hT 1; have lt_ := hT.lt; simp at t1; go_simp; with_reducible rfl)
  simp only [Act.put, List.setIfInBounds_toArray, List.set_cons_zero, List.set_cons_succ]
  refine wpAnyH_take (i := 2) (oi := ?oi20011) (v := ?v20011) ?hi20011 (by kernel_rfl) (by kernel_rfl) (by kernel_rfl) (fun _ _ _ h => h) (Or.inl ⟨?hw20011, ?hy20011⟩) (by assumption) ?rest20011
  case hi20011 => (simp only [List.getElem?_toArray, List.getElem?_cons_zero, List.getElem?_cons_succ]; rfl)
  case hw20011 => rfl
  case hy20011 => first | (intro wx hSw; go_simp; done) | (intro wx hSw; go_simp; with_reducible rfl)
  simp only [Act.put, List.setIfInBounds_toArray, List.set_cons_zero, List.set_cons_succ]
  refine wpAnyH_take (i := 3) (oi := ?oi20012) (v := ?v20012) ?hi20012 (by kernel_rfl) (by kernel_rfl) (by kernel_rfl) (fun _ _ _ h => h) (Or.inl ⟨?hw20012, ?hy20012⟩) (by assumption) ?rest20012
  case hi20012 => (simp only [List.getElem?_toArray, List.getElem?_cons_zero, List.getElem?_cons_succ]; rfl)
  case hw20012 => rfl
  case hy20012 => first | (intro wx hSw; go_simp; done) | (intro wx hSw; go_simp; with_reducible rfl)
  simp only [Act.put, List.setIfInBounds_toArray, List.set_cons_zero, List.set_cons_succ]
  refine wpAnyH_take (i := 4) (oi := ?oi20013) (v := ?v20013) ?hi20013 (by kernel_rfl) (by kernel_rfl) (by kernel_rfl) (fun _ _ _ h => h) (Or.inl ⟨?hw20013, ?hy20013⟩) (by assumption) ?rest20013
  case hi20013 => (simp only [List.getElem?_toArray, List.getElem?_cons_zero, List.getElem?_cons_succ]; rfl)
  case hw20013 => rfl
  case hy20013 => first | (intro wx hSw; go_simp; done) | (intro wx hSw; go_simp; with_reducible rfl)
  simp only [Act.put, List.setIfInBounds_toArray, List.set_cons_zero, List.set_cons_succ]
  refine wpAnyH_take (i := 5) (oi := ?oi20014) (v := ?v20014) ?hi20014 (by kernel_rfl) (by kernel_rfl) (by kernel_rfl) (fun _ _ _ h => h) (Or.inl ⟨?hw20014, ?hy20014⟩) (by assumption) ?rest20014
  case hi20014 => (simp only [List.getElem?_toArray, List.getElem?_cons_zero, List.getElem?_cons_succ]; rfl)
  case hw20014 => rfl
  case hy20014 => first | (intro wx hSw; obtain ⟨hT, l0, c0⟩ := hSw; have t1 := Blk.cell hT 1; have lt_ := hT.lt; simp at t1; go_simp; done) | (intro wx hSw; obtain ⟨hT, l0, c0⟩ := hSw; have t1 := Blk.cell hT 1; have lt_ := hT.lt; simp at t1; go_simp; with_reducible rfl)
  simp only [Act.put, List.setIfInBounds_toArray, List.set_cons_zero, List.set_cons_succ]
  refine wpAnyH_take (i := 7) (oi := ?oi20015) (v := ?v20015) ?hi20015 (by kernel_rfl) (by kernel_rfl) (by kernel_rfl) (fun _ _ _ h => h) (Or.inl ⟨?hw20015, ?hy20015⟩) (by assumption) ?rest20015
  case hi20015 => (simp only [List.getElem?_toArray, List.getElem?_cons_zero, List.getElem?_cons_succ]; rfl)
  case hw20015 => rfl
  case hy20015 => first | (intro wx hSw; go_simp; done) | (intro wx hSw; go_simp; with_reducible rfl)
  simp only [Act.put, List.setIfInBounds_toArray, List.set_cons_zero, List.set_cons_succ]
  refine wpAnyH_take (i := 8) (oi := ?oi20016) (v := ?v20016) ?hi20016 (by kernel_rfl) (by kernel_rfl) (by kernel_rfl) (fun _ _ _ h => h) (Or.inl ⟨?hw20016, ?hy20016⟩) (by assumption) ?rest20016
  case hi20016 => (simp only [List.getElem?_toArray, List.getElem?_cons_zero, List.getElem?_cons_succ]; rfl)
  case hw20016 => rfl
  case hy20016 => first | (intro wx hSw; obtain ⟨hT, l0, c0⟩ := hSw; have t1 := Blk.cell hT 1; have lt_ := hT.lt; simp at t1; go_simp; done) | (intro wx hSw; obtain ⟨hT, l0, c0⟩ := hSw; have t1 := Blk.cell hT 1; have lt_ := hT.lt; simp at t1; go_simp; with_reducible rfl)
  simp only [Act.put, List.setIfInBounds_toArray, List.set_cons_zero, List.set_cons_succ]
  refine wpAnyH_take (i := 9) (oi := ?oi20017) (v := ?v20017) ?hi20017 (by kernel_rfl) (by kernel_rfl) (by kernel_rfl) (fun _ _ _ h => h) (Or.inl ⟨?hw20017, ?hy20017⟩) (by assumption) ?rest20017
  case hi20017 => (simp only [List.getElem?_toArray, List.getElem?_cons_zero, List.getElem?_cons_succ]; rfl)
  case hw20017 => rfl
  case hy20017 => first | (intro wx hSw; go_simp; done) | (intro wx hSw; go_simp; with_reducible rfl)
  simp only [Act.put, List.setIfInBounds_toArray, List.set_cons_zero, List.set_cons_succ]
  refine wpAnyH_take (i := 10) (oi := ?oi20018) (v := ?v20018) ?hi20018 (by kernel_rfl) (by kernel_rfl) (by kernel_rfl) (fun _ _ _ h => h) (Or.inl ⟨?hw20018, ?hy20018⟩) (by assumption) ?rest20018
  case hi20018 => (simp only [List.getElem?_toArray, List.getElem?_cons_zero, List.getElem?_cons_succ]; rfl)
  case hw20018 => rfl
  case hy20018 => first | (intro wx hSw; go_simp; done) | (intro wx hSw; go_simp; with_reducible rfl)
  simp only [Act.put, List.setIfInBounds_toArray, List.set_cons_zero, List.set_cons_succ]
  refine wpAnyH_take (i := 11) (oi := ?oi20019) (v := ?v20019) ?hi20019 (by kernel_rfl) (by kernel_rfl) (by kernel_rfl) (fun _ _ _ h => h) (Or.inl ⟨?hw20019, ?hy20019⟩) (by assumption) ?rest20019
  case hi20019 => (simp only [List.getElem?_toArray, List.getElem?_cons_zero, List.getElem?_cons_succ]; rfl)
  case hw20019 => rfl
  case hy20019 => first | (intro wx hSw; go_simp; done) | (intro wx hSw; go_simp; with_reducible rfl)
  simp only [Act.put, List.setIfInBounds_toArray, List.set_cons_zero, List.set_cons_succ]
  refine wpAnyH_take (i := 12) (oi := ?oi20020) (v := ?v20020) ?hi20020 (by kernel_rfl) (by kernel_rfl) (by kernel_rfl) (fun _ _ _ h => h) (Or.inl ⟨?hw20020, ?hy20020⟩) (by assumption) ?rest20020
  case hi20020 => (simp only [List.getElem?_toArray, List.getElem?_cons_zero, List.getElem?_cons_succ]; rfl)
  case hw20020 => rfl
  case hy20020 => first | (intro wx hSw; obtain ⟨hT, l0, c0⟩ := hSw; have t1 := Blk.cell hT 1; have lt_ := hT.lt; simp at t1; go_simp; done) | (intro wx hSw; obtain ⟨hT, l0, c0⟩ := hSw; have t1 := Blk.cell hT 1; have lt_ := hT.lt; simp at t1; go_simp; with_reducible rfl)
  simp only [Act.put, List.setIfInBounds_toArray, List.set_cons_zero, List.set_cons_succ]
  refine anyH_name ?_
  intro GG hin hout
  have HIN := hide hin
  have HOUT := hide hout
  clear hin hout hHeld
  have C33_ : ∀ (ac : Act) (gy : Nat) (by_ : Nat) (X : World), ac = ⟨#[ac.tmps.getD 0 undef, ac.tmps.getD 1 undef, .int .i64 at_, ac.tmps.getD 3 undef, ac.tmps.getD 4 undef, ac.tmps.getD 5 undef, ac.tmps.getD 6 undef, .pointer (some ⟨bt, 0, none⟩), .slice (some ⟨ga, 0, none⟩) 4 ca, .slice (some ⟨gb, 0, none⟩) 4 cb, .int .i64 (k : Int), .pointer (some ⟨bx, 0, none⟩), .pointer (some ⟨by_, 0, none⟩), ac.tmps.getD 13 undef, ac.tmps.getD 14 undef, ac.tmps.getD 15 undef, ac.tmps.getD 16 undef, ac.tmps.getD 17 undef, ac.tmps.getD 18 undef, ac.tmps.getD 19 undef, ac.tmps.getD 20 undef, ac.tmps.getD 21 undef, ac.tmps.getD 22 undef, ac.tmps.getD 23 undef, ac.tmps.getD 24 undef, ac.tmps.getD 25 undef, ac.tmps.getD 26 undef, ac.tmps.getD 27 undef, ac.tmps.getD 28 undef, ac.tmps.getD 29 undef, ac.tmps.getD 30 undef, ac.tmps.getD 31 undef, ac.tmps.getD 32 undef, ac.tmps.getD 33 undef, ac.tmps.getD 34 undef, ac.tmps.getD 35 undef, ac.tmps.getD 36 undef, ac.tmps.getD 37 undef, ac.tmps.getD 38 undef, ac.tmps.getD 39 undef, ac.tmps.getD 40 undef, ac.tmps.getD 41 undef, ac.tmps.getD 42 undef, ac.tmps.getD 43 undef, ac.tmps.getD 44 undef, ac.tmps.getD 45 undef, ac.tmps.getD 46 undef, ac.tmps.getD 47 undef, ac.tmps.getD 48 undef, ac.tmps.getD 49 undef, ac.tmps.getD 50 undef, ac.tmps.getD 51 undef, ac.tmps.getD 52 undef, ac.tmps.getD 53 undef, ac.tmps.getD 54 undef, .string nm, .agg (exC (colX nm) N0).toArray, ac.tmps.getD 57 undef, ac.tmps.getD 58 undef, ac.tmps.getD 59 undef, ac.tmps.getD 60 undef, ac.tmps.getD 61 undef, .string nm, .agg (exC (colX nm) N0).toArray, .agg (exC (twoX 9 (colX nm) (colX nm)) (.slice (some ⟨gy, 0, none⟩) 2 2)).toArray, ac.tmps.getD 65 undef, ac.tmps.getD 66 undef, ac.tmps.getD 67 undef, ac.tmps.getD 68 undef, ac.tmps.getD 69 undef, ac.tmps.getD 70 undef, ac.tmps.getD 71 undef, ac.tmps.getD 72 undef, ac.tmps.getD 73 undef, ac.tmps.getD 74 undef, ac.tmps.getD 75 undef, ac.tmps.getD 76 undef, ac.tmps.getD 77 undef, ac.tmps.getD 78 undef, ac.tmps.getD 79 undef, ac.tmps.getD 80 undef, ac.tmps.getD 81 undef, ac.tmps.getD 82 undef, ac.tmps.getD 83 undef, ac.tmps.getD 84 undef, ac.tmps.getD 85 undef, ac.tmps.getD 86 undef, ac.tmps.getD 87 undef, ac.tmps.getD 88 undef, ac.tmps.getD 89 undef, ac.tmps.getD 90 undef, ac.tmps.getD 91 undef, ac.tmps.getD 92 undef, ac.tmps.getD 93 undef, ac.tmps.getD 94 undef, ac.tmps.getD 95 undef, ac.tmps.getD 96 undef, ac.tmps.getD 97 undef, ac.tmps.getD 98 undef, ac.tmps.getD 99 undef, ac.tmps.getD 100 undef, ac.tmps.getD 101 undef, ac.tmps.getD 102 undef, ac.tmps.getD 103 undef, ac.tmps.getD 104 undef, ac.tmps.getD 105 undef, ac.tmps.getD 106 undef, ac.tmps.getD 107 undef, ac.tmps.getD 108 undef, ac.tmps.getD 109 undef, ac.tmps.getD 110 undef, ac.tmps.getD 111 undef, ac.tmps.getD 112 undef, ac.tmps.getD 113 undef, ac.tmps.getD 114 undef, ac.tmps.getD 115 undef, ac.tmps.getD 116 undef, ac.tmps.getD 117 undef, ac.tmps.getD 118 undef, ac.tmps.getD 119 undef, ac.tmps.getD 120 undef, ac.tmps.getD 121 undef, ac.tmps.getD 122 undef, ac.tmps.getD 123 undef, ac.tmps.getD 124 undef, ac.tmps.getD 125 undef, ac.tmps.getD 126 undef, ac.tmps.getD 127 undef], []⟩ → Below Wd.heap.size Wd X → Hid (Rep (twoX 9 (colX nm) (colX nm)) (.slice (some ⟨gy, 0, none⟩) 2 2) X) → Hid (Blk by_ (exC (.leaf 0 S0 Z4) N0).toArray 31 X) → Hid (GeB Wd.heap.size by_ X) → GG 1 #[true, true, true, true, true, true, true, true, true, true, true, true, true, true, true, true, false] ac X := by
    intro ac gy by_ X ha GD hrgy rb hge
    obtain ⟨u, rfl⟩ : ∃ u : Nat → Value, ac = ⟨#[u 0, u 1, .int .i64 at_, u 3, u 4, u 5, u 6, .pointer (some ⟨bt, 0, none⟩), .slice (some ⟨ga, 0, none⟩) 4 ca, .slice (some ⟨gb, 0, none⟩) 4 cb, .int .i64 (k : Int), .pointer (some ⟨bx, 0, none⟩), .pointer (some ⟨by_, 0, none⟩), u 13, u 14, u 15, u 16, u 17, u 18, u 19, u 20, u 21, u 22, u 23, u 24, u 25, u 26, u 27, u 28, u 29, u 30, u 31, u 32, u 33, u 34, u 35, u 36, u 37, u 38, u 39, u 40, u 41, u 42, u 43, u 44, u 45, u 46, u 47, u 48, u 49, u 50, u 51, u 52, u 53, u 54, .string nm, .agg (exC (colX nm) N0).toArray, u 57, u 58, u 59, u 60, u 61, .string nm, .agg (exC (colX nm) N0).toArray, .agg (exC (twoX 9 (colX nm) (colX nm)) (.slice (some ⟨gy, 0, none⟩) 2 2)).toArray, u 65, u 66, u 67, u 68, u 69, u 70, u 71, u 72, u 73, u 74, u 75, u 76, u 77, u 78, u 79, u 80, u 81, u 82, u 83, u 84, u 85, u 86, u 87, u 88, u 89, u 90, u 91, u 92, u 93, u 94, u 95, u 96, u 97, u 98, u 99, u 100, u 101, u 102, u 103, u 104, u 105, u 106, u 107, u 108, u 109, u 110, u 111, u 112, u 113, u 114, u 115, u 116, u 117, u 118, u 119, u 120, u 121, u 122, u 123, u 124, u 125, u 126, u 127], []⟩ := ⟨fun i => ac.tmps.getD i undef, ha⟩
    clear ha
    refine unhide HIN _ _ _ _ ?_
    have hHeld : (SNm bt gc k nm) X := (unhide hN).call GD
    have rlt := (unhide rb).lt
    have rc0 := (unhide rb).cell 0
    have rf0 := (unhide rb).froz 0
    have rc1 := (unhide rb).cell 1
    have rf1 := (unhide rb).froz 1
    have rc2 := (unhide rb).cell 2
    have rf2 := (unhide rb).froz 2
    have rc3 := (unhide rb).cell 3
    have rf3 := (unhide rb).froz 3
    have rc4 := (unhide rb).cell 4
    have rf4 := (unhide rb).froz 4
    have rc5 := (unhide rb).cell 5
    have rf5 := (unhide rb).froz 5
    have rc6 := (unhide rb).cell 6
    have rf6 := (unhide rb).froz 6
    simp at rc0 rc1 rc2 rc3 rc4 rc5 rc6
    have hge2 : Wd.heap.size ≤ by_ := unhide hge
    have GE : Below Wd.heap.size Wd (((((((X.setCell ⟨by_, 0, none⟩ (.int .i64 9)).setCell ⟨by_, 1, none⟩ (.string S0)).setCell ⟨by_, 2, none⟩ (.int .i64 0)).setCell ⟨by_, 3, none⟩ (.int .i64 0)).setCell ⟨by_, 4, none⟩ (.int .i64 0)).setCell ⟨by_, 5, none⟩ (.string S0)).setCell ⟨by_, 6, none⟩ (.slice (some ⟨gy, 0, none⟩) 2 2)) := (((((((GD.setCell (p := ⟨by_, 0, none⟩) hge2 (.int .i64 9)).setCell (p := ⟨by_, 1, none⟩) hge2 (.string S0)).setCell (p := ⟨by_, 2, none⟩) hge2 (.int .i64 0)).setCell (p := ⟨by_, 3, none⟩) hge2 (.int .i64 0)).setCell (p := ⟨by_, 4, none⟩) hge2 (.int .i64 0)).setCell (p := ⟨by_, 5, none⟩) hge2 (.string S0)).setCell (p := ⟨by_, 6, none⟩) hge2 (.slice (some ⟨gy, 0, none⟩) 2 2))
    have RE : Blk by_ #[(.int .i64 9), (.string S0), (.int .i64 0), (.int .i64 0), (.int .i64 0), (.string S0), (.slice (some ⟨gy, 0, none⟩) 2 2)] 31 (((((((X.setCell ⟨by_, 0, none⟩ (.int .i64 9)).setCell ⟨by_, 1, none⟩ (.string S0)).setCell ⟨by_, 2, none⟩ (.int .i64 0)).setCell ⟨by_, 3, none⟩ (.int .i64 0)).setCell ⟨by_, 4, none⟩ (.int .i64 0)).setCell ⟨by_, 5, none⟩ (.string S0)).setCell ⟨by_, 6, none⟩ (.slice (some ⟨gy, 0, none⟩) 2 2)) := (heapSet (heapSet (heapSet (heapSet (heapSet (heapSet (heapSet (unhide rb) 0 (.int .i64 9)) 1 (.string S0)) 2 (.int .i64 0)) 3 (.int .i64 0)) 4 (.int .i64 0)) 5 (.string S0)) 6 (.slice (some ⟨gy, 0, none⟩) 2 2))
    have ngy : gy ≠ by_ := rep_ne (unhide hrgy) (unhide rb)
    have RR := (rep_set2 (rep_set2 (rep_set2 (rep_set2 (rep_set2 (rep_set2 (rep_set2 (unhide hrgy) ngy 0 (.int .i64 9)) ngy 1 (.string S0)) ngy 2 (.int .i64 0)) ngy 3 (.int .i64 0)) ngy 4 (.int .i64 0)) ngy 5 (.string S0)) ngy 6 (.slice (some ⟨gy, 0, none⟩) 2 2))
    refine wpAnyH_ready (rs := [16]) (by kernel_rfl) (by simp) ?_
    refine AllReadyH.cons rfl (fun K20021 hK20021 => ?_) AllReadyH.nil
    go_simp
    refine hK20021.out _ _ ?hs20021 (fun hHeld20021 => ?_)
    case hs20021 => exact (unhide hN).call GE
    clear hHeld
    have hHeld := hHeld20021; clear hHeld20021 hK20021 K20021
    refine wpAnyH_done (by kernel_rfl) ?_ _
    refine NoPanic.normal ?_
    skip
    exact unhide REST _ by_ gy _ (by kernel_rfl) (hide ((unhide G).call GE)) (hide ((unhide hC).call GE)) (hide ((unhide hT).call GE)) (hide ((unhide hRa).call GE)) (hide ((unhide hRb).call GE)) (hide ((unhide hX).call GE)) (hide ((unhide hrx).call GE)) (hide RE) (hide RR)
  have C33_ := hide C33_
  have C3 : ∀ (ac : Act) (gy : Nat) (X : World), ac = ⟨#[ac.tmps.getD 0 undef, ac.tmps.getD 1 undef, .int .i64 at_, ac.tmps.getD 3 undef, ac.tmps.getD 4 undef, ac.tmps.getD 5 undef, ac.tmps.getD 6 undef, .pointer (some ⟨bt, 0, none⟩), .slice (some ⟨ga, 0, none⟩) 4 ca, .slice (some ⟨gb, 0, none⟩) 4 cb, .int .i64 (k : Int), .pointer (some ⟨bx, 0, none⟩), ac.tmps.getD 12 undef, ac.tmps.getD 13 undef, ac.tmps.getD 14 undef, ac.tmps.getD 15 undef, ac.tmps.getD 16 undef, ac.tmps.getD 17 undef, ac.tmps.getD 18 undef, ac.tmps.getD 19 undef, ac.tmps.getD 20 undef, ac.tmps.getD 21 undef, ac.tmps.getD 22 undef, ac.tmps.getD 23 undef, ac.tmps.getD 24 undef, ac.tmps.getD 25 undef, ac.tmps.getD 26 undef, ac.tmps.getD 27 undef, ac.tmps.getD 28 undef, ac.tmps.getD 29 undef, ac.tmps.getD 30 undef, ac.tmps.getD 31 undef, ac.tmps.getD 32 undef, ac.tmps.getD 33 undef, ac.tmps.getD 34 undef, ac.tmps.getD 35 undef, ac.tmps.getD 36 undef, ac.tmps.getD 37 undef, ac.tmps.getD 38 undef, ac.tmps.getD 39 undef, ac.tmps.getD 40 undef, ac.tmps.getD 41 undef, ac.tmps.getD 42 undef, ac.tmps.getD 43 undef, ac.tmps.getD 44 undef, ac.tmps.getD 45 undef, ac.tmps.getD 46 undef, ac.tmps.getD 47 undef, ac.tmps.getD 48 undef, ac.tmps.getD 49 undef, ac.tmps.getD 50 undef, ac.tmps.getD 51 undef, ac.tmps.getD 52 undef, ac.tmps.getD 53 undef, ac.tmps.getD 54 undef, .string nm, .agg (exC (colX nm) N0).toArray, ac.tmps.getD 57 undef, ac.tmps.getD 58 undef, ac.tmps.getD 59 undef, ac.tmps.getD 60 undef, ac.tmps.getD 61 undef, .string nm, .agg (exC (colX nm) N0).toArray, .agg (exC (twoX 9 (colX nm) (colX nm)) (.slice (some ⟨gy, 0, none⟩) 2 2)).toArray, ac.tmps.getD 65 undef, ac.tmps.getD 66 undef, ac.tmps.getD 67 undef, ac.tmps.getD 68 undef, ac.tmps.getD 69 undef, ac.tmps.getD 70 undef, ac.tmps.getD 71 undef, ac.tmps.getD 72 undef, ac.tmps.getD 73 undef, ac.tmps.getD 74 undef, ac.tmps.getD 75 undef, ac.tmps.getD 76 undef, ac.tmps.getD 77 undef, ac.tmps.getD 78 undef, ac.tmps.getD 79 undef, ac.tmps.getD 80 undef, ac.tmps.getD 81 undef, ac.tmps.getD 82 undef, ac.tmps.getD 83 undef, ac.tmps.getD 84 undef, ac.tmps.getD 85 undef, ac.tmps.getD 86 undef, ac.tmps.getD 87 undef, ac.tmps.getD 88 undef, ac.tmps.getD 89 undef, ac.tmps.getD 90 undef, ac.tmps.getD 91 undef, ac.tmps.getD 92 undef, ac.tmps.getD 93 undef, ac.tmps.getD 94 undef, ac.tmps.getD 95 undef, ac.tmps.getD 96 undef, ac.tmps.getD 97 undef, ac.tmps.getD 98 undef, ac.tmps.getD 99 undef, ac.tmps.getD 100 undef, ac.tmps.getD 101 undef, ac.tmps.getD 102 undef, ac.tmps.getD 103 undef, ac.tmps.getD 104 undef, ac.tmps.getD 105 undef, ac.tmps.getD 106 undef, ac.tmps.getD 107 undef, ac.tmps.getD 108 undef, ac.tmps.getD 109 undef, ac.tmps.getD 110 undef, ac.tmps.getD 111 undef, ac.tmps.getD 112 undef, ac.tmps.getD 113 undef, ac.tmps.getD 114 undef, ac.tmps.getD 115 undef, ac.tmps.getD 116 undef, ac.tmps.getD 117 undef, ac.tmps.getD 118 undef, ac.tmps.getD 119 undef, ac.tmps.getD 120 undef, ac.tmps.getD 121 undef, ac.tmps.getD 122 undef, ac.tmps.getD 123 undef, ac.tmps.getD 124 undef, ac.tmps.getD 125 undef, ac.tmps.getD 126 undef, ac.tmps.getD 127 undef], []⟩ → Below Wd.heap.size Wd X → Hid (Rep (twoX 9 (colX nm) (colX nm)) (.slice (some ⟨gy, 0, none⟩) 2 2) X) → GG 2 #[true, true, true, true, true, true, true, true, true, true, true, true, true, true, true, false, false] ac X := by
    intro ac gy X ha GD hrgy
    obtain ⟨u, rfl⟩ : ∃ u : Nat → Value, ac = ⟨#[u 0, u 1, .int .i64 at_, u 3, u 4, u 5, u 6, .pointer (some ⟨bt, 0, none⟩), .slice (some ⟨ga, 0, none⟩) 4 ca, .slice (some ⟨gb, 0, none⟩) 4 cb, .int .i64 (k : Int), .pointer (some ⟨bx, 0, none⟩), u 12, u 13, u 14, u 15, u 16, u 17, u 18, u 19, u 20, u 21, u 22, u 23, u 24, u 25, u 26, u 27, u 28, u 29, u 30, u 31, u 32, u 33, u 34, u 35, u 36, u 37, u 38, u 39, u 40, u 41, u 42, u 43, u 44, u 45, u 46, u 47, u 48, u 49, u 50, u 51, u 52, u 53, u 54, .string nm, .agg (exC (colX nm) N0).toArray, u 57, u 58, u 59, u 60, u 61, .string nm, .agg (exC (colX nm) N0).toArray, .agg (exC (twoX 9 (colX nm) (colX nm)) (.slice (some ⟨gy, 0, none⟩) 2 2)).toArray, u 65, u 66, u 67, u 68, u 69, u 70, u 71, u 72, u 73, u 74, u 75, u 76, u 77, u 78, u 79, u 80, u 81, u 82, u 83, u 84, u 85, u 86, u 87, u 88, u 89, u 90, u 91, u 92, u 93, u 94, u 95, u 96, u 97, u 98, u 99, u 100, u 101, u 102, u 103, u 104, u 105, u 106, u 107, u 108, u 109, u 110, u 111, u 112, u 113, u 114, u 115, u 116, u 117, u 118, u 119, u 120, u 121, u 122, u 123, u 124, u 125, u 126, u 127], []⟩ := ⟨fun i => ac.tmps.getD i undef, ha⟩
    clear ha
    refine unhide HIN _ _ _ _ ?_
    have hHeld : (SNm bt gc k nm) X := (unhide hN).call GD
    refine wpAnyH_ready (rs := [15]) (by kernel_rfl) (by simp) ?_
    refine AllReadyH.cons rfl (fun K20022 hK20022 => ?_) AllReadyH.nil
    go_simp
    have hb := below_new X (.cells (exC (.leaf 0 S0 Z4) N0).toArray 31)
    have rb : Hid (Blk X.heap.size (exC (.leaf 0 S0 Z4) N0).toArray 31 (X.alloc (.cells (exC (.leaf 0 S0 Z4) N0).toArray 31))) := hide (Blk.new X (exC (.leaf 0 S0 Z4) N0).toArray 31)
    have hge : Hid (GeB Wd.heap.size X.heap.size (X.alloc (.cells (exC (.leaf 0 S0 Z4) N0).toArray 31))) := hide GD.size
    refine hK20022.out _ _ ?hs20022 (fun hH20022 => ?_)
    case hs20022 => exact hHeld.call hb
    clear hHeld
    have hHeld := hH20022; clear hH20022 hK20022 K20022
    refine unhide HOUT _ _ _ _ ?_
    exact unhide C33_ _ gy _ _ (by kernel_rfl) (GD.trans (hb.mono GD.size)) (hide ((unhide hrgy).call hb)) rb hge
  have C3 := hide C3
  have C23_ : ∀ (ac : Act) (by_ : Nat) (X : World), ac = ⟨#[ac.tmps.getD 0 undef, ac.tmps.getD 1 undef, .int .i64 at_, ac.tmps.getD 3 undef, ac.tmps.getD 4 undef, ac.tmps.getD 5 undef, ac.tmps.getD 6 undef, .pointer (some ⟨bt, 0, none⟩), .slice (some ⟨ga, 0, none⟩) 4 ca, .slice (some ⟨gb, 0, none⟩) 4 cb, .int .i64 (k : Int), .pointer (some ⟨bx, 0, none⟩), .pointer (some ⟨by_, 0, none⟩), ac.tmps.getD 13 undef, ac.tmps.getD 14 undef, ac.tmps.getD 15 undef, ac.tmps.getD 16 undef, ac.tmps.getD 17 undef, ac.tmps.getD 18 undef, ac.tmps.getD 19 undef, ac.tmps.getD 20 undef, ac.tmps.getD 21 undef, ac.tmps.getD 22 undef, ac.tmps.getD 23 undef, ac.tmps.getD 24 undef, ac.tmps.getD 25 undef, ac.tmps.getD 26 undef, ac.tmps.getD 27 undef, ac.tmps.getD 28 undef, ac.tmps.getD 29 undef, ac.tmps.getD 30 undef, ac.tmps.getD 31 undef, ac.tmps.getD 32 undef, ac.tmps.getD 33 undef, ac.tmps.getD 34 undef, ac.tmps.getD 35 undef, ac.tmps.getD 36 undef, ac.tmps.getD 37 undef, ac.tmps.getD 38 undef, ac.tmps.getD 39 undef, ac.tmps.getD 40 undef, ac.tmps.getD 41 undef, ac.tmps.getD 42 undef, ac.tmps.getD 43 undef, ac.tmps.getD 44 undef, ac.tmps.getD 45 undef, ac.tmps.getD 46 undef, ac.tmps.getD 47 undef, ac.tmps.getD 48 undef, ac.tmps.getD 49 undef, ac.tmps.getD 50 undef, ac.tmps.getD 51 undef, ac.tmps.getD 52 undef, ac.tmps.getD 53 undef, ac.tmps.getD 54 undef, .string nm, .agg (exC (colX nm) N0).toArray, ac.tmps.getD 57 undef, ac.tmps.getD 58 undef, ac.tmps.getD 59 undef, ac.tmps.getD 60 undef, ac.tmps.getD 61 undef, .string nm, .agg (exC (colX nm) N0).toArray, ac.tmps.getD 64 undef, ac.tmps.getD 65 undef, ac.tmps.getD 66 undef, ac.tmps.getD 67 undef, ac.tmps.getD 68 undef, ac.tmps.getD 69 undef, ac.tmps.getD 70 undef, ac.tmps.getD 71 undef, ac.tmps.getD 72 undef, ac.tmps.getD 73 undef, ac.tmps.getD 74 undef, ac.tmps.getD 75 undef, ac.tmps.getD 76 undef, ac.tmps.getD 77 undef, ac.tmps.getD 78 undef, ac.tmps.getD 79 undef, ac.tmps.getD 80 undef, ac.tmps.getD 81 undef, ac.tmps.getD 82 undef, ac.tmps.getD 83 undef, ac.tmps.getD 84 undef, ac.tmps.getD 85 undef, ac.tmps.getD 86 undef, ac.tmps.getD 87 undef, ac.tmps.getD 88 undef, ac.tmps.getD 89 undef, ac.tmps.getD 90 undef, ac.tmps.getD 91 undef, ac.tmps.getD 92 undef, ac.tmps.getD 93 undef, ac.tmps.getD 94 undef, ac.tmps.getD 95 undef, ac.tmps.getD 96 undef, ac.tmps.getD 97 undef, ac.tmps.getD 98 undef, ac.tmps.getD 99 undef, ac.tmps.getD 100 undef, ac.tmps.getD 101 undef, ac.tmps.getD 102 undef, ac.tmps.getD 103 undef, ac.tmps.getD 104 undef, ac.tmps.getD 105 undef, ac.tmps.getD 106 undef, ac.tmps.getD 107 undef, ac.tmps.getD 108 undef, ac.tmps.getD 109 undef, ac.tmps.getD 110 undef, ac.tmps.getD 111 undef, ac.tmps.getD 112 undef, ac.tmps.getD 113 undef, ac.tmps.getD 114 undef, ac.tmps.getD 115 undef, ac.tmps.getD 116 undef, ac.tmps.getD 117 undef, ac.tmps.getD 118 undef, ac.tmps.getD 119 undef, ac.tmps.getD 120 undef, ac.tmps.getD 121 undef, ac.tmps.getD 122 undef, ac.tmps.getD 123 undef, ac.tmps.getD 124 undef, ac.tmps.getD 125 undef, ac.tmps.getD 126 undef, ac.tmps.getD 127 undef], []⟩ → Below Wd.heap.size Wd X → Hid (Blk by_ (exC (.leaf 0 S0 Z4) N0).toArray 31 X) → Hid (GeB Wd.heap.size by_ X) → GG 2 #[true, true, true, true, true, true, true, true, true, true, true, true, true, true, false, true, false] ac X := by
    intro ac by_ X ha GD rb hge
    obtain ⟨u, rfl⟩ : ∃ u : Nat → Value, ac = ⟨#[u 0, u 1, .int .i64 at_, u 3, u 4, u 5, u 6, .pointer (some ⟨bt, 0, none⟩), .slice (some ⟨ga, 0, none⟩) 4 ca, .slice (some ⟨gb, 0, none⟩) 4 cb, .int .i64 (k : Int), .pointer (some ⟨bx, 0, none⟩), .pointer (some ⟨by_, 0, none⟩), u 13, u 14, u 15, u 16, u 17, u 18, u 19, u 20, u 21, u 22, u 23, u 24, u 25, u 26, u 27, u 28, u 29, u 30, u 31, u 32, u 33, u 34, u 35, u 36, u 37, u 38, u 39, u 40, u 41, u 42, u 43, u 44, u 45, u 46, u 47, u 48, u 49, u 50, u 51, u 52, u 53, u 54, .string nm, .agg (exC (colX nm) N0).toArray, u 57, u 58, u 59, u 60, u 61, .string nm, .agg (exC (colX nm) N0).toArray, u 64, u 65, u 66, u 67, u 68, u 69, u 70, u 71, u 72, u 73, u 74, u 75, u 76, u 77, u 78, u 79, u 80, u 81, u 82, u 83, u 84, u 85, u 86, u 87, u 88, u 89, u 90, u 91, u 92, u 93, u 94, u 95, u 96, u 97, u 98, u 99, u 100, u 101, u 102, u 103, u 104, u 105, u 106, u 107, u 108, u 109, u 110, u 111, u 112, u 113, u 114, u 115, u 116, u 117, u 118, u 119, u 120, u 121, u 122, u 123, u 124, u 125, u 126, u 127], []⟩ := ⟨fun i => ac.tmps.getD i undef, ha⟩
    clear ha
    refine unhide HIN _ _ _ _ ?_
    have hHeld : (SNm bt gc k nm) X := (unhide hN).call GD
    refine wpAnyH_ready (rs := [14]) (by kernel_rfl) (by simp) ?_
    refine AllReadyH.cons rfl (fun K20023 hK20023 => ?_) AllReadyH.nil
    go_simp
    go_wp2_with (go_at_call 26; refine (twoL_any _ (colX nm) (colX nm) _ _ _ rfl rfl).mono ?_; rintro e X2 ⟨gy, rfl, hrgy, hb⟩)
    refine hK20023.out _ _ ?hs20023 (fun hH20023 => ?_)
    case hs20023 => exact hHeld.call hb
    clear hHeld
    have hHeld := hH20023; clear hH20023 hK20023 K20023
    refine unhide HOUT _ _ _ _ ?_
    exact unhide C33_ _ _ by_ _ (by kernel_rfl) (GD.trans (hb.mono GD.size)) hrgy (hide ((unhide rb).call hb)) (hide ((unhide hge).call hb))
  have C23_ := hide C23_
  have C2 : ∀ (ac : Act) (X : World), ac = ⟨#[ac.tmps.getD 0 undef, ac.tmps.getD 1 undef, .int .i64 at_, ac.tmps.getD 3 undef, ac.tmps.getD 4 undef, ac.tmps.getD 5 undef, ac.tmps.getD 6 undef, .pointer (some ⟨bt, 0, none⟩), .slice (some ⟨ga, 0, none⟩) 4 ca, .slice (some ⟨gb, 0, none⟩) 4 cb, .int .i64 (k : Int), .pointer (some ⟨bx, 0, none⟩), ac.tmps.getD 12 undef, ac.tmps.getD 13 undef, ac.tmps.getD 14 undef, ac.tmps.getD 15 undef, ac.tmps.getD 16 undef, ac.tmps.getD 17 undef, ac.tmps.getD 18 undef, ac.tmps.getD 19 undef, ac.tmps.getD 20 undef, ac.tmps.getD 21 undef, ac.tmps.getD 22 undef, ac.tmps.getD 23 undef, ac.tmps.getD 24 undef, ac.tmps.getD 25 undef, ac.tmps.getD 26 undef, ac.tmps.getD 27 undef, ac.tmps.getD 28 undef, ac.tmps.getD 29 undef, ac.tmps.getD 30 undef, ac.tmps.getD 31 undef, ac.tmps.getD 32 undef, ac.tmps.getD 33 undef, ac.tmps.getD 34 undef, ac.tmps.getD 35 undef, ac.tmps.getD 36 undef, ac.tmps.getD 37 undef, ac.tmps.getD 38 undef, ac.tmps.getD 39 undef, ac.tmps.getD 40 undef, ac.tmps.getD 41 undef, ac.tmps.getD 42 undef, ac.tmps.getD 43 undef, ac.tmps.getD 44 undef, ac.tmps.getD 45 undef, ac.tmps.getD 46 undef, ac.tmps.getD 47 undef, ac.tmps.getD 48 undef, ac.tmps.getD 49 undef, ac.tmps.getD 50 undef, ac.tmps.getD 51 undef, ac.tmps.getD 52 undef, ac.tmps.getD 53 undef, ac.tmps.getD 54 undef, .string nm, .agg (exC (colX nm) N0).toArray, ac.tmps.getD 57 undef, ac.tmps.getD 58 undef, ac.tmps.getD 59 undef, ac.tmps.getD 60 undef, ac.tmps.getD 61 undef, .string nm, .agg (exC (colX nm) N0).toArray, ac.tmps.getD 64 undef, ac.tmps.getD 65 undef, ac.tmps.getD 66 undef, ac.tmps.getD 67 undef, ac.tmps.getD 68 undef, ac.tmps.getD 69 undef, ac.tmps.getD 70 undef, ac.tmps.getD 71 undef, ac.tmps.getD 72 undef, ac.tmps.getD 73 undef, ac.tmps.getD 74 undef, ac.tmps.getD 75 undef, ac.tmps.getD 76 undef, ac.tmps.getD 77 undef, ac.tmps.getD 78 undef, ac.tmps.getD 79 undef, ac.tmps.getD 80 undef, ac.tmps.getD 81 undef, ac.tmps.getD 82 undef, ac.tmps.getD 83 undef, ac.tmps.getD 84 undef, ac.tmps.getD 85 undef, ac.tmps.getD 86 undef, ac.tmps.getD 87 undef, ac.tmps.getD 88 undef, ac.tmps.getD 89 undef, ac.tmps.getD 90 undef, ac.tmps.getD 91 undef, ac.tmps.getD 92 undef, ac.tmps.getD 93 undef, ac.tmps.getD 94 undef, ac.tmps.getD 95 undef, ac.tmps.getD 96 undef, ac.tmps.getD 97 undef, ac.tmps.getD 98 undef, ac.tmps.getD 99 undef, ac.tmps.getD 100 undef, ac.tmps.getD 101 undef, ac.tmps.getD 102 undef, ac.tmps.getD 103 undef, ac.tmps.getD 104 undef, ac.tmps.getD 105 undef, ac.tmps.getD 106 undef, ac.tmps.getD 107 undef, ac.tmps.getD 108 undef, ac.tmps.getD 109 undef, ac.tmps.getD 110 undef, ac.tmps.getD 111 undef, ac.tmps.getD 112 undef, ac.tmps.getD 113 undef, ac.tmps.getD 114 undef, ac.tmps.getD 115 undef, ac.tmps.getD 116 undef, ac.tmps.getD 117 undef, ac.tmps.getD 118 undef, ac.tmps.getD 119 undef, ac.tmps.getD 120 undef, ac.tmps.getD 121 undef, ac.tmps.getD 122 undef, ac.tmps.getD 123 undef, ac.tmps.getD 124 undef, ac.tmps.getD 125 undef, ac.tmps.getD 126 undef, ac.tmps.getD 127 undef], []⟩ → Below Wd.heap.size Wd X → GG 3 #[true, true, true, true, true, true, true, true, true, true, true, true, true, true, false, false, false] ac X := by
    intro ac X ha GD
    obtain ⟨u, rfl⟩ : ∃ u : Nat → Value, ac = ⟨#[u 0, u 1, .int .i64 at_, u 3, u 4, u 5, u 6, .pointer (some ⟨bt, 0, none⟩), .slice (some ⟨ga, 0, none⟩) 4 ca, .slice (some ⟨gb, 0, none⟩) 4 cb, .int .i64 (k : Int), .pointer (some ⟨bx, 0, none⟩), u 12, u 13, u 14, u 15, u 16, u 17, u 18, u 19, u 20, u 21, u 22, u 23, u 24, u 25, u 26, u 27, u 28, u 29, u 30, u 31, u 32, u 33, u 34, u 35, u 36, u 37, u 38, u 39, u 40, u 41, u 42, u 43, u 44, u 45, u 46, u 47, u 48, u 49, u 50, u 51, u 52, u 53, u 54, .string nm, .agg (exC (colX nm) N0).toArray, u 57, u 58, u 59, u 60, u 61, .string nm, .agg (exC (colX nm) N0).toArray, u 64, u 65, u 66, u 67, u 68, u 69, u 70, u 71, u 72, u 73, u 74, u 75, u 76, u 77, u 78, u 79, u 80, u 81, u 82, u 83, u 84, u 85, u 86, u 87, u 88, u 89, u 90, u 91, u 92, u 93, u 94, u 95, u 96, u 97, u 98, u 99, u 100, u 101, u 102, u 103, u 104, u 105, u 106, u 107, u 108, u 109, u 110, u 111, u 112, u 113, u 114, u 115, u 116, u 117, u 118, u 119, u 120, u 121, u 122, u 123, u 124, u 125, u 126, u 127], []⟩ := ⟨fun i => ac.tmps.getD i undef, ha⟩
    clear ha
    refine unhide HIN _ _ _ _ ?_
    have hHeld : (SNm bt gc k nm) X := (unhide hN).call GD
    refine wpAnyH_ready (rs := [14, 15]) (by kernel_rfl) (by simp) ?_
    refine AllReadyH.cons rfl (fun K20024 hK20024 => ?_) ?_
    · go_simp
      go_wp2_with (go_at_call 26; refine (twoL_any _ (colX nm) (colX nm) _ _ _ rfl rfl).mono ?_; rintro e X2 ⟨gy, rfl, hrgy, hb⟩)
      refine hK20024.out _ _ ?hs20024 (fun hH20024 => ?_)
      case hs20024 => exact hHeld.call hb
      clear hHeld
      have hHeld := hH20024; clear hH20024 hK20024 K20024
      refine unhide HOUT _ _ _ _ ?_
      exact unhide C3 _ _ _ (by kernel_rfl) (GD.trans (hb.mono GD.size)) hrgy
    refine AllReadyH.cons rfl (fun K20025 hK20025 => ?_) AllReadyH.nil
    · go_simp
      have hb := below_new X (.cells (exC (.leaf 0 S0 Z4) N0).toArray 31)
      have rb : Hid (Blk X.heap.size (exC (.leaf 0 S0 Z4) N0).toArray 31 (X.alloc (.cells (exC (.leaf 0 S0 Z4) N0).toArray 31))) := hide (Blk.new X (exC (.leaf 0 S0 Z4) N0).toArray 31)
      have hge : Hid (GeB Wd.heap.size X.heap.size (X.alloc (.cells (exC (.leaf 0 S0 Z4) N0).toArray 31))) := hide GD.size
      refine hK20025.out _ _ ?hs20025 (fun hH20025 => ?_)
      case hs20025 => exact hHeld.call hb
      clear hHeld
      have hHeld := hH20025; clear hH20025 hK20025 K20025
      refine unhide HOUT _ _ _ _ ?_
      exact unhide C23_ _ _ _ (by kernel_rfl) (GD.trans (hb.mono GD.size)) rb hge
  have C2 := hide C2
  have C13_ : ∀ (ac : Act) (by_ : Nat) (X : World), ac = ⟨#[ac.tmps.getD 0 undef, ac.tmps.getD 1 undef, .int .i64 at_, ac.tmps.getD 3 undef, ac.tmps.getD 4 undef, ac.tmps.getD 5 undef, ac.tmps.getD 6 undef, .pointer (some ⟨bt, 0, none⟩), .slice (some ⟨ga, 0, none⟩) 4 ca, .slice (some ⟨gb, 0, none⟩) 4 cb, .int .i64 (k : Int), .pointer (some ⟨bx, 0, none⟩), .pointer (some ⟨by_, 0, none⟩), ac.tmps.getD 13 undef, ac.tmps.getD 14 undef, ac.tmps.getD 15 undef, ac.tmps.getD 16 undef, ac.tmps.getD 17 undef, ac.tmps.getD 18 undef, ac.tmps.getD 19 undef, ac.tmps.getD 20 undef, ac.tmps.getD 21 undef, ac.tmps.getD 22 undef, ac.tmps.getD 23 undef, ac.tmps.getD 24 undef, ac.tmps.getD 25 undef, ac.tmps.getD 26 undef, ac.tmps.getD 27 undef, ac.tmps.getD 28 undef, ac.tmps.getD 29 undef, ac.tmps.getD 30 undef, ac.tmps.getD 31 undef, ac.tmps.getD 32 undef, ac.tmps.getD 33 undef, ac.tmps.getD 34 undef, ac.tmps.getD 35 undef, ac.tmps.getD 36 undef, ac.tmps.getD 37 undef, ac.tmps.getD 38 undef, ac.tmps.getD 39 undef, ac.tmps.getD 40 undef, ac.tmps.getD 41 undef, ac.tmps.getD 42 undef, ac.tmps.getD 43 undef, ac.tmps.getD 44 undef, ac.tmps.getD 45 undef, ac.tmps.getD 46 undef, ac.tmps.getD 47 undef, ac.tmps.getD 48 undef, ac.tmps.getD 49 undef, ac.tmps.getD 50 undef, ac.tmps.getD 51 undef, ac.tmps.getD 52 undef, ac.tmps.getD 53 undef, ac.tmps.getD 54 undef, .string nm, .agg (exC (colX nm) N0).toArray, ac.tmps.getD 57 undef, ac.tmps.getD 58 undef, ac.tmps.getD 59 undef, ac.tmps.getD 60 undef, ac.tmps.getD 61 undef, .string nm, ac.tmps.getD 63 undef, ac.tmps.getD 64 undef, ac.tmps.getD 65 undef, ac.tmps.getD 66 undef, ac.tmps.getD 67 undef, ac.tmps.getD 68 undef, ac.tmps.getD 69 undef, ac.tmps.getD 70 undef, ac.tmps.getD 71 undef, ac.tmps.getD 72 undef, ac.tmps.getD 73 undef, ac.tmps.getD 74 undef, ac.tmps.getD 75 undef, ac.tmps.getD 76 undef, ac.tmps.getD 77 undef, ac.tmps.getD 78 undef, ac.tmps.getD 79 undef, ac.tmps.getD 80 undef, ac.tmps.getD 81 undef, ac.tmps.getD 82 undef, ac.tmps.getD 83 undef, ac.tmps.getD 84 undef, ac.tmps.getD 85 undef, ac.tmps.getD 86 undef, ac.tmps.getD 87 undef, ac.tmps.getD 88 undef, ac.tmps.getD 89 undef, ac.tmps.getD 90 undef, ac.tmps.getD 91 undef, ac.tmps.getD 92 undef, ac.tmps.getD 93 undef, ac.tmps.getD 94 undef, ac.tmps.getD 95 undef, ac.tmps.getD 96 undef, ac.tmps.getD 97 undef, ac.tmps.getD 98 undef, ac.tmps.getD 99 undef, ac.tmps.getD 100 undef, ac.tmps.getD 101 undef, ac.tmps.getD 102 undef, ac.tmps.getD 103 undef, ac.tmps.getD 104 undef, ac.tmps.getD 105 undef, ac.tmps.getD 106 undef, ac.tmps.getD 107 undef, ac.tmps.getD 108 undef, ac.tmps.getD 109 undef, ac.tmps.getD 110 undef, ac.tmps.getD 111 undef, ac.tmps.getD 112 undef, ac.tmps.getD 113 undef, ac.tmps.getD 114 undef, ac.tmps.getD 115 undef, ac.tmps.getD 116 undef, ac.tmps.getD 117 undef, ac.tmps.getD 118 undef, ac.tmps.getD 119 undef, ac.tmps.getD 120 undef, ac.tmps.getD 121 undef, ac.tmps.getD 122 undef, ac.tmps.getD 123 undef, ac.tmps.getD 124 undef, ac.tmps.getD 125 undef, ac.tmps.getD 126 undef, ac.tmps.getD 127 undef], []⟩ → Below Wd.heap.size Wd X → Hid (Blk by_ (exC (.leaf 0 S0 Z4) N0).toArray 31 X) → Hid (GeB Wd.heap.size by_ X) → GG 3 #[true, true, true, true, true, true, true, true, true, true, true, true, true, false, false, true, false] ac X := by
    intro ac by_ X ha GD rb hge
    obtain ⟨u, rfl⟩ : ∃ u : Nat → Value, ac = ⟨#[u 0, u 1, .int .i64 at_, u 3, u 4, u 5, u 6, .pointer (some ⟨bt, 0, none⟩), .slice (some ⟨ga, 0, none⟩) 4 ca, .slice (some ⟨gb, 0, none⟩) 4 cb, .int .i64 (k : Int), .pointer (some ⟨bx, 0, none⟩), .pointer (some ⟨by_, 0, none⟩), u 13, u 14, u 15, u 16, u 17, u 18, u 19, u 20, u 21, u 22, u 23, u 24, u 25, u 26, u 27, u 28, u 29, u 30, u 31, u 32, u 33, u 34, u 35, u 36, u 37, u 38, u 39, u 40, u 41, u 42, u 43, u 44, u 45, u 46, u 47, u 48, u 49, u 50, u 51, u 52, u 53, u 54, .string nm, .agg (exC (colX nm) N0).toArray, u 57, u 58, u 59, u 60, u 61, .string nm, u 63, u 64, u 65, u 66, u 67, u 68, u 69, u 70, u 71, u 72, u 73, u 74, u 75, u 76, u 77, u 78, u 79, u 80, u 81, u 82, u 83, u 84, u 85, u 86, u 87, u 88, u 89, u 90, u 91, u 92, u 93, u 94, u 95, u 96, u 97, u 98, u 99, u 100, u 101, u 102, u 103, u 104, u 105, u 106, u 107, u 108, u 109, u 110, u 111, u 112, u 113, u 114, u 115, u 116, u 117, u 118, u 119, u 120, u 121, u 122, u 123, u 124, u 125, u 126, u 127], []⟩ := ⟨fun i => ac.tmps.getD i undef, ha⟩
    clear ha
    refine unhide HIN _ _ _ _ ?_
    have hHeld : (SNm bt gc k nm) X := (unhide hN).call GD
    refine wpAnyH_ready (rs := [13]) (by kernel_rfl) (by simp) ?_
    refine AllReadyH.cons rfl (fun K20026 hK20026 => ?_) AllReadyH.nil
    go_simp
    go_wp2_with (go_at_call 27; refine (colL_any _ _).mono ?_; rintro e X2 ⟨rfl, hb⟩)
    refine hK20026.out _ _ ?hs20026 (fun hH20026 => ?_)
    case hs20026 => exact hHeld.call hb
    clear hHeld
    have hHeld := hH20026; clear hH20026 hK20026 K20026
    refine unhide HOUT _ _ _ _ ?_
    exact unhide C23_ _ by_ _ (by kernel_rfl) (GD.trans (hb.mono GD.size)) (hide ((unhide rb).call hb)) (hide ((unhide hge).call hb))
  have C13_ := hide C13_
  have C1 : ∀ (ac : Act) (X : World), ac = ⟨#[ac.tmps.getD 0 undef, ac.tmps.getD 1 undef, .int .i64 at_, ac.tmps.getD 3 undef, ac.tmps.getD 4 undef, ac.tmps.getD 5 undef, ac.tmps.getD 6 undef, .pointer (some ⟨bt, 0, none⟩), .slice (some ⟨ga, 0, none⟩) 4 ca, .slice (some ⟨gb, 0, none⟩) 4 cb, .int .i64 (k : Int), .pointer (some ⟨bx, 0, none⟩), ac.tmps.getD 12 undef, ac.tmps.getD 13 undef, ac.tmps.getD 14 undef, ac.tmps.getD 15 undef, ac.tmps.getD 16 undef, ac.tmps.getD 17 undef, ac.tmps.getD 18 undef, ac.tmps.getD 19 undef, ac.tmps.getD 20 undef, ac.tmps.getD 21 undef, ac.tmps.getD 22 undef, ac.tmps.getD 23 undef, ac.tmps.getD 24 undef, ac.tmps.getD 25 undef, ac.tmps.getD 26 undef, ac.tmps.getD 27 undef, ac.tmps.getD 28 undef, ac.tmps.getD 29 undef, ac.tmps.getD 30 undef, ac.tmps.getD 31 undef, ac.tmps.getD 32 undef, ac.tmps.getD 33 undef, ac.tmps.getD 34 undef, ac.tmps.getD 35 undef, ac.tmps.getD 36 undef, ac.tmps.getD 37 undef, ac.tmps.getD 38 undef, ac.tmps.getD 39 undef, ac.tmps.getD 40 undef, ac.tmps.getD 41 undef, ac.tmps.getD 42 undef, ac.tmps.getD 43 undef, ac.tmps.getD 44 undef, ac.tmps.getD 45 undef, ac.tmps.getD 46 undef, ac.tmps.getD 47 undef, ac.tmps.getD 48 undef, ac.tmps.getD 49 undef, ac.tmps.getD 50 undef, ac.tmps.getD 51 undef, ac.tmps.getD 52 undef, ac.tmps.getD 53 undef, ac.tmps.getD 54 undef, .string nm, .agg (exC (colX nm) N0).toArray, ac.tmps.getD 57 undef, ac.tmps.getD 58 undef, ac.tmps.getD 59 undef, ac.tmps.getD 60 undef, ac.tmps.getD 61 undef, .string nm, ac.tmps.getD 63 undef, ac.tmps.getD 64 undef, ac.tmps.getD 65 undef, ac.tmps.getD 66 undef, ac.tmps.getD 67 undef, ac.tmps.getD 68 undef, ac.tmps.getD 69 undef, ac.tmps.getD 70 undef, ac.tmps.getD 71 undef, ac.tmps.getD 72 undef, ac.tmps.getD 73 undef, ac.tmps.getD 74 undef, ac.tmps.getD 75 undef, ac.tmps.getD 76 undef, ac.tmps.getD 77 undef, ac.tmps.getD 78 undef, ac.tmps.getD 79 undef, ac.tmps.getD 80 undef, ac.tmps.getD 81 undef, ac.tmps.getD 82 undef, ac.tmps.getD 83 undef, ac.tmps.getD 84 undef, ac.tmps.getD 85 undef, ac.tmps.getD 86 undef, ac.tmps.getD 87 undef, ac.tmps.getD 88 undef, ac.tmps.getD 89 undef, ac.tmps.getD 90 undef, ac.tmps.getD 91 undef, ac.tmps.getD 92 undef, ac.tmps.getD 93 undef, ac.tmps.getD 94 undef, ac.tmps.getD 95 undef, ac.tmps.getD 96 undef, ac.tmps.getD 97 undef, ac.tmps.getD 98 undef, ac.tmps.getD 99 undef, ac.tmps.getD 100 undef, ac.tmps.getD 101 undef, ac.tmps.getD 102 undef, ac.tmps.getD 103 undef, ac.tmps.getD 104 undef, ac.tmps.getD 105 undef, ac.tmps.getD 106 undef, ac.tmps.getD 107 undef, ac.tmps.getD 108 undef, ac.tmps.getD 109 undef, ac.tmps.getD 110 undef, ac.tmps.getD 111 undef, ac.tmps.getD 112 undef, ac.tmps.getD 113 undef, ac.tmps.getD 114 undef, ac.tmps.getD 115 undef, ac.tmps.getD 116 undef, ac.tmps.getD 117 undef, ac.tmps.getD 118 undef, ac.tmps.getD 119 undef, ac.tmps.getD 120 undef, ac.tmps.getD 121 undef, ac.tmps.getD 122 undef, ac.tmps.getD 123 undef, ac.tmps.getD 124 undef, ac.tmps.getD 125 undef, ac.tmps.getD 126 undef, ac.tmps.getD 127 undef], []⟩ → Below Wd.heap.size Wd X → GG 4 #[true, true, true, true, true, true, true, true, true, true, true, true, true, false, false, false, false] ac X := by
    intro ac X ha GD
    obtain ⟨u, rfl⟩ : ∃ u : Nat → Value, ac = ⟨#[u 0, u 1, .int .i64 at_, u 3, u 4, u 5, u 6, .pointer (some ⟨bt, 0, none⟩), .slice (some ⟨ga, 0, none⟩) 4 ca, .slice (some ⟨gb, 0, none⟩) 4 cb, .int .i64 (k : Int), .pointer (some ⟨bx, 0, none⟩), u 12, u 13, u 14, u 15, u 16, u 17, u 18, u 19, u 20, u 21, u 22, u 23, u 24, u 25, u 26, u 27, u 28, u 29, u 30, u 31, u 32, u 33, u 34, u 35, u 36, u 37, u 38, u 39, u 40, u 41, u 42, u 43, u 44, u 45, u 46, u 47, u 48, u 49, u 50, u 51, u 52, u 53, u 54, .string nm, .agg (exC (colX nm) N0).toArray, u 57, u 58, u 59, u 60, u 61, .string nm, u 63, u 64, u 65, u 66, u 67, u 68, u 69, u 70, u 71, u 72, u 73, u 74, u 75, u 76, u 77, u 78, u 79, u 80, u 81, u 82, u 83, u 84, u 85, u 86, u 87, u 88, u 89, u 90, u 91, u 92, u 93, u 94, u 95, u 96, u 97, u 98, u 99, u 100, u 101, u 102, u 103, u 104, u 105, u 106, u 107, u 108, u 109, u 110, u 111, u 112, u 113, u 114, u 115, u 116, u 117, u 118, u 119, u 120, u 121, u 122, u 123, u 124, u 125, u 126, u 127], []⟩ := ⟨fun i => ac.tmps.getD i undef, ha⟩
    clear ha
    refine unhide HIN _ _ _ _ ?_
    have hHeld : (SNm bt gc k nm) X := (unhide hN).call GD
    refine wpAnyH_ready (rs := [13, 15]) (by kernel_rfl) (by simp) ?_
    refine AllReadyH.cons rfl (fun K20027 hK20027 => ?_) ?_
    · go_simp
      go_wp2_with (go_at_call 27; refine (colL_any _ _).mono ?_; rintro e X2 ⟨rfl, hb⟩)
      refine hK20027.out _ _ ?hs20027 (fun hH20027 => ?_)
      case hs20027 => exact hHeld.call hb
      clear hHeld
      have hHeld := hH20027; clear hH20027 hK20027 K20027
      refine unhide HOUT _ _ _ _ ?_
      exact unhide C2 _  _ (by kernel_rfl) (GD.trans (hb.mono GD.size)) 
    refine AllReadyH.cons rfl (fun K20028 hK20028 => ?_) AllReadyH.nil
    · go_simp
      have hb := below_new X (.cells (exC (.leaf 0 S0 Z4) N0).toArray 31)
      have rb : Hid (Blk X.heap.size (exC (.leaf 0 S0 Z4) N0).toArray 31 (X.alloc (.cells (exC (.leaf 0 S0 Z4) N0).toArray 31))) := hide (Blk.new X (exC (.leaf 0 S0 Z4) N0).toArray 31)
      have hge : Hid (GeB Wd.heap.size X.heap.size (X.alloc (.cells (exC (.leaf 0 S0 Z4) N0).toArray 31))) := hide GD.size
      refine hK20028.out _ _ ?hs20028 (fun hH20028 => ?_)
      case hs20028 => exact hHeld.call hb
      clear hHeld
      have hHeld := hH20028; clear hH20028 hK20028 K20028
      refine unhide HOUT _ _ _ _ ?_
      exact unhide C13_ _ _ _ (by kernel_rfl) (GD.trans (hb.mono GD.size)) rb hge
  have C1 := hide C1
  have C03_ : ∀ (ac : Act) (by_ : Nat) (X : World), ac = ⟨#[ac.tmps.getD 0 undef, ac.tmps.getD 1 undef, .int .i64 at_, ac.tmps.getD 3 undef, ac.tmps.getD 4 undef, ac.tmps.getD 5 undef, ac.tmps.getD 6 undef, .pointer (some ⟨bt, 0, none⟩), .slice (some ⟨ga, 0, none⟩) 4 ca, .slice (some ⟨gb, 0, none⟩) 4 cb, .int .i64 (k : Int), .pointer (some ⟨bx, 0, none⟩), .pointer (some ⟨by_, 0, none⟩), ac.tmps.getD 13 undef, ac.tmps.getD 14 undef, ac.tmps.getD 15 undef, ac.tmps.getD 16 undef, ac.tmps.getD 17 undef, ac.tmps.getD 18 undef, ac.tmps.getD 19 undef, ac.tmps.getD 20 undef, ac.tmps.getD 21 undef, ac.tmps.getD 22 undef, ac.tmps.getD 23 undef, ac.tmps.getD 24 undef, ac.tmps.getD 25 undef, ac.tmps.getD 26 undef, ac.tmps.getD 27 undef, ac.tmps.getD 28 undef, ac.tmps.getD 29 undef, ac.tmps.getD 30 undef, ac.tmps.getD 31 undef, ac.tmps.getD 32 undef, ac.tmps.getD 33 undef, ac.tmps.getD 34 undef, ac.tmps.getD 35 undef, ac.tmps.getD 36 undef, ac.tmps.getD 37 undef, ac.tmps.getD 38 undef, ac.tmps.getD 39 undef, ac.tmps.getD 40 undef, ac.tmps.getD 41 undef, ac.tmps.getD 42 undef, ac.tmps.getD 43 undef, ac.tmps.getD 44 undef, ac.tmps.getD 45 undef, ac.tmps.getD 46 undef, ac.tmps.getD 47 undef, ac.tmps.getD 48 undef, ac.tmps.getD 49 undef, ac.tmps.getD 50 undef, ac.tmps.getD 51 undef, ac.tmps.getD 52 undef, ac.tmps.getD 53 undef, ac.tmps.getD 54 undef, .string nm, ac.tmps.getD 56 undef, ac.tmps.getD 57 undef, ac.tmps.getD 58 undef, ac.tmps.getD 59 undef, ac.tmps.getD 60 undef, ac.tmps.getD 61 undef, .string nm, ac.tmps.getD 63 undef, ac.tmps.getD 64 undef, ac.tmps.getD 65 undef, ac.tmps.getD 66 undef, ac.tmps.getD 67 undef, ac.tmps.getD 68 undef, ac.tmps.getD 69 undef, ac.tmps.getD 70 undef, ac.tmps.getD 71 undef, ac.tmps.getD 72 undef, ac.tmps.getD 73 undef, ac.tmps.getD 74 undef, ac.tmps.getD 75 undef, ac.tmps.getD 76 undef, ac.tmps.getD 77 undef, ac.tmps.getD 78 undef, ac.tmps.getD 79 undef, ac.tmps.getD 80 undef, ac.tmps.getD 81 undef, ac.tmps.getD 82 undef, ac.tmps.getD 83 undef, ac.tmps.getD 84 undef, ac.tmps.getD 85 undef, ac.tmps.getD 86 undef, ac.tmps.getD 87 undef, ac.tmps.getD 88 undef, ac.tmps.getD 89 undef, ac.tmps.getD 90 undef, ac.tmps.getD 91 undef, ac.tmps.getD 92 undef, ac.tmps.getD 93 undef, ac.tmps.getD 94 undef, ac.tmps.getD 95 undef, ac.tmps.getD 96 undef, ac.tmps.getD 97 undef, ac.tmps.getD 98 undef, ac.tmps.getD 99 undef, ac.tmps.getD 100 undef, ac.tmps.getD 101 undef, ac.tmps.getD 102 undef, ac.tmps.getD 103 undef, ac.tmps.getD 104 undef, ac.tmps.getD 105 undef, ac.tmps.getD 106 undef, ac.tmps.getD 107 undef, ac.tmps.getD 108 undef, ac.tmps.getD 109 undef, ac.tmps.getD 110 undef, ac.tmps.getD 111 undef, ac.tmps.getD 112 undef, ac.tmps.getD 113 undef, ac.tmps.getD 114 undef, ac.tmps.getD 115 undef, ac.tmps.getD 116 undef, ac.tmps.getD 117 undef, ac.tmps.getD 118 undef, ac.tmps.getD 119 undef, ac.tmps.getD 120 undef, ac.tmps.getD 121 undef, ac.tmps.getD 122 undef, ac.tmps.getD 123 undef, ac.tmps.getD 124 undef, ac.tmps.getD 125 undef, ac.tmps.getD 126 undef, ac.tmps.getD 127 undef], []⟩ → Below Wd.heap.size Wd X → Hid (Blk by_ (exC (.leaf 0 S0 Z4) N0).toArray 31 X) → Hid (GeB Wd.heap.size by_ X) → GG 4 #[true, true, true, true, true, true, false, true, true, true, true, true, true, false, false, true, false] ac X := by
    intro ac by_ X ha GD rb hge
    obtain ⟨u, rfl⟩ : ∃ u : Nat → Value, ac = ⟨#[u 0, u 1, .int .i64 at_, u 3, u 4, u 5, u 6, .pointer (some ⟨bt, 0, none⟩), .slice (some ⟨ga, 0, none⟩) 4 ca, .slice (some ⟨gb, 0, none⟩) 4 cb, .int .i64 (k : Int), .pointer (some ⟨bx, 0, none⟩), .pointer (some ⟨by_, 0, none⟩), u 13, u 14, u 15, u 16, u 17, u 18, u 19, u 20, u 21, u 22, u 23, u 24, u 25, u 26, u 27, u 28, u 29, u 30, u 31, u 32, u 33, u 34, u 35, u 36, u 37, u 38, u 39, u 40, u 41, u 42, u 43, u 44, u 45, u 46, u 47, u 48, u 49, u 50, u 51, u 52, u 53, u 54, .string nm, u 56, u 57, u 58, u 59, u 60, u 61, .string nm, u 63, u 64, u 65, u 66, u 67, u 68, u 69, u 70, u 71, u 72, u 73, u 74, u 75, u 76, u 77, u 78, u 79, u 80, u 81, u 82, u 83, u 84, u 85, u 86, u 87, u 88, u 89, u 90, u 91, u 92, u 93, u 94, u 95, u 96, u 97, u 98, u 99, u 100, u 101, u 102, u 103, u 104, u 105, u 106, u 107, u 108, u 109, u 110, u 111, u 112, u 113, u 114, u 115, u 116, u 117, u 118, u 119, u 120, u 121, u 122, u 123, u 124, u 125, u 126, u 127], []⟩ := ⟨fun i => ac.tmps.getD i undef, ha⟩
    clear ha
    refine unhide HIN _ _ _ _ ?_
    have hHeld : (SNm bt gc k nm) X := (unhide hN).call GD
    refine wpAnyH_ready (rs := [6]) (by kernel_rfl) (by simp) ?_
    refine AllReadyH.cons rfl (fun K20029 hK20029 => ?_) AllReadyH.nil
    go_simp
    go_wp2_with (go_at_call 27; refine (colL_any _ _).mono ?_; rintro e X2 ⟨rfl, hb⟩)
    refine hK20029.out _ _ ?hs20029 (fun hH20029 => ?_)
    case hs20029 => exact hHeld.call hb
    clear hHeld
    have hHeld := hH20029; clear hH20029 hK20029 K20029
    refine unhide HOUT _ _ _ _ ?_
    exact unhide C13_ _ by_ _ (by kernel_rfl) (GD.trans (hb.mono GD.size)) (hide ((unhide rb).call hb)) (hide ((unhide hge).call hb))
  have C03_ := hide C03_
  have C0 : ∀ (ac : Act) (X : World), ac = ⟨#[ac.tmps.getD 0 undef, ac.tmps.getD 1 undef, .int .i64 at_, ac.tmps.getD 3 undef, ac.tmps.getD 4 undef, ac.tmps.getD 5 undef, ac.tmps.getD 6 undef, .pointer (some ⟨bt, 0, none⟩), .slice (some ⟨ga, 0, none⟩) 4 ca, .slice (some ⟨gb, 0, none⟩) 4 cb, .int .i64 (k : Int), .pointer (some ⟨bx, 0, none⟩), ac.tmps.getD 12 undef, ac.tmps.getD 13 undef, ac.tmps.getD 14 undef, ac.tmps.getD 15 undef, ac.tmps.getD 16 undef, ac.tmps.getD 17 undef, ac.tmps.getD 18 undef, ac.tmps.getD 19 undef, ac.tmps.getD 20 undef, ac.tmps.getD 21 undef, ac.tmps.getD 22 undef, ac.tmps.getD 23 undef, ac.tmps.getD 24 undef, ac.tmps.getD 25 undef, ac.tmps.getD 26 undef, ac.tmps.getD 27 undef, ac.tmps.getD 28 undef, ac.tmps.getD 29 undef, ac.tmps.getD 30 undef, ac.tmps.getD 31 undef, ac.tmps.getD 32 undef, ac.tmps.getD 33 undef, ac.tmps.getD 34 undef, ac.tmps.getD 35 undef, ac.tmps.getD 36 undef, ac.tmps.getD 37 undef, ac.tmps.getD 38 undef, ac.tmps.getD 39 undef, ac.tmps.getD 40 undef, ac.tmps.getD 41 undef, ac.tmps.getD 42 undef, ac.tmps.getD 43 undef, ac.tmps.getD 44 undef, ac.tmps.getD 45 undef, ac.tmps.getD 46 undef, ac.tmps.getD 47 undef, ac.tmps.getD 48 undef, ac.tmps.getD 49 undef, ac.tmps.getD 50 undef, ac.tmps.getD 51 undef, ac.tmps.getD 52 undef, ac.tmps.getD 53 undef, ac.tmps.getD 54 undef, .string nm, ac.tmps.getD 56 undef, ac.tmps.getD 57 undef, ac.tmps.getD 58 undef, ac.tmps.getD 59 undef, ac.tmps.getD 60 undef, ac.tmps.getD 61 undef, .string nm, ac.tmps.getD 63 undef, ac.tmps.getD 64 undef, ac.tmps.getD 65 undef, ac.tmps.getD 66 undef, ac.tmps.getD 67 undef, ac.tmps.getD 68 undef, ac.tmps.getD 69 undef, ac.tmps.getD 70 undef, ac.tmps.getD 71 undef, ac.tmps.getD 72 undef, ac.tmps.getD 73 undef, ac.tmps.getD 74 undef, ac.tmps.getD 75 undef, ac.tmps.getD 76 undef, ac.tmps.getD 77 undef, ac.tmps.getD 78 undef, ac.tmps.getD 79 undef, ac.tmps.getD 80 undef, ac.tmps.getD 81 undef, ac.tmps.getD 82 undef, ac.tmps.getD 83 undef, ac.tmps.getD 84 undef, ac.tmps.getD 85 undef, ac.tmps.getD 86 undef, ac.tmps.getD 87 undef, ac.tmps.getD 88 undef, ac.tmps.getD 89 undef, ac.tmps.getD 90 undef, ac.tmps.getD 91 undef, ac.tmps.getD 92 undef, ac.tmps.getD 93 undef, ac.tmps.getD 94 undef, ac.tmps.getD 95 undef, ac.tmps.getD 96 undef, ac.tmps.getD 97 undef, ac.tmps.getD 98 undef, ac.tmps.getD 99 undef, ac.tmps.getD 100 undef, ac.tmps.getD 101 undef, ac.tmps.getD 102 undef, ac.tmps.getD 103 undef, ac.tmps.getD 104 undef, ac.tmps.getD 105 undef, ac.tmps.getD 106 undef, ac.tmps.getD 107 undef, ac.tmps.getD 108 undef, ac.tmps.getD 109 undef, ac.tmps.getD 110 undef, ac.tmps.getD 111 undef, ac.tmps.getD 112 undef, ac.tmps.getD 113 undef, ac.tmps.getD 114 undef, ac.tmps.getD 115 undef, ac.tmps.getD 116 undef, ac.tmps.getD 117 undef, ac.tmps.getD 118 undef, ac.tmps.getD 119 undef, ac.tmps.getD 120 undef, ac.tmps.getD 121 undef, ac.tmps.getD 122 undef, ac.tmps.getD 123 undef, ac.tmps.getD 124 undef, ac.tmps.getD 125 undef, ac.tmps.getD 126 undef, ac.tmps.getD 127 undef], []⟩ → Below Wd.heap.size Wd X → GG 5 #[true, true, true, true, true, true, false, true, true, true, true, true, true, false, false, false, false] ac X := by
    intro ac X ha GD
    obtain ⟨u, rfl⟩ : ∃ u : Nat → Value, ac = ⟨#[u 0, u 1, .int .i64 at_, u 3, u 4, u 5, u 6, .pointer (some ⟨bt, 0, none⟩), .slice (some ⟨ga, 0, none⟩) 4 ca, .slice (some ⟨gb, 0, none⟩) 4 cb, .int .i64 (k : Int), .pointer (some ⟨bx, 0, none⟩), u 12, u 13, u 14, u 15, u 16, u 17, u 18, u 19, u 20, u 21, u 22, u 23, u 24, u 25, u 26, u 27, u 28, u 29, u 30, u 31, u 32, u 33, u 34, u 35, u 36, u 37, u 38, u 39, u 40, u 41, u 42, u 43, u 44, u 45, u 46, u 47, u 48, u 49, u 50, u 51, u 52, u 53, u 54, .string nm, u 56, u 57, u 58, u 59, u 60, u 61, .string nm, u 63, u 64, u 65, u 66, u 67, u 68, u 69, u 70, u 71, u 72, u 73, u 74, u 75, u 76, u 77, u 78, u 79, u 80, u 81, u 82, u 83, u 84, u 85, u 86, u 87, u 88, u 89, u 90, u 91, u 92, u 93, u 94, u 95, u 96, u 97, u 98, u 99, u 100, u 101, u 102, u 103, u 104, u 105, u 106, u 107, u 108, u 109, u 110, u 111, u 112, u 113, u 114, u 115, u 116, u 117, u 118, u 119, u 120, u 121, u 122, u 123, u 124, u 125, u 126, u 127], []⟩ := ⟨fun i => ac.tmps.getD i undef, ha⟩
    clear ha
    refine unhide HIN _ _ _ _ ?_
    have hHeld : (SNm bt gc k nm) X := (unhide hN).call GD
    refine wpAnyH_ready (rs := [6, 15]) (by kernel_rfl) (by simp) ?_
    refine AllReadyH.cons rfl (fun K20030 hK20030 => ?_) ?_
    · go_simp
      go_wp2_with (go_at_call 27; refine (colL_any _ _).mono ?_; rintro e X2 ⟨rfl, hb⟩)
      refine hK20030.out _ _ ?hs20030 (fun hH20030 => ?_)
      case hs20030 => exact hHeld.call hb
      clear hHeld
      have hHeld := hH20030; clear hH20030 hK20030 K20030
      refine unhide HOUT _ _ _ _ ?_
      exact unhide C1 _  _ (by kernel_rfl) (GD.trans (hb.mono GD.size)) 
    refine AllReadyH.cons rfl (fun K20031 hK20031 => ?_) AllReadyH.nil
    · go_simp
      have hb := below_new X (.cells (exC (.leaf 0 S0 Z4) N0).toArray 31)
      have rb : Hid (Blk X.heap.size (exC (.leaf 0 S0 Z4) N0).toArray 31 (X.alloc (.cells (exC (.leaf 0 S0 Z4) N0).toArray 31))) := hide (Blk.new X (exC (.leaf 0 S0 Z4) N0).toArray 31)
      have hge : Hid (GeB Wd.heap.size X.heap.size (X.alloc (.cells (exC (.leaf 0 S0 Z4) N0).toArray 31))) := hide GD.size
      refine hK20031.out _ _ ?hs20031 (fun hH20031 => ?_)
      case hs20031 => exact hHeld.call hb
      clear hHeld
      have hHeld := hH20031; clear hH20031 hK20031 K20031
      refine unhide HOUT _ _ _ _ ?_
      exact unhide C03_ _ _ _ (by kernel_rfl) (GD.trans (hb.mono GD.size)) rb hge
  have C0 := hide C0
  exact unhide C0 _ _ (by kernel_rfl) (Below.refl _ _)
end Go.Proofs.Ytliefgkhpgigaaa

namespace Go.Proofs.Ytliefgkhpgigaaa
open Go.RowKit Go.Shelf
set_option linter.unusedSimpArgs false
set_option linter.unusedVariables false

set_option maxHeartbeats 32000000 in
set_option maxRecDepth 100000 in
theorem smE {r0 r1 r2 r3 r4 r5 r6 r7 rest : Code} (hc : Try.f11.body = some (.seq r0 (.seq r1 (.seq r2 (.seq r3 (.seq r4 (.seq r5 (.seq r6 (.seq r7 (rest)))))))))) (w : World) (gc bt ga ca gb cb k : Nat) (at_ : Int) (la lb : List V4) (nm : ByteArray) (bx gx by_ gy : Nat) (p1 p2 p3 : Int) (p4 : ByteArray) (s1 s2 s3 : Int) (s4 : ByteArray) (x : V4) (hla : la.length = 4) (hlb : lb.length = 4) (hMa : Hid (∀ v ∈ la, MkV v)) (hMb : Hid (∀ v ∈ lb, MkV v)) (hva : valFrom nm cols4 la = some x) (hxa : Hid (evalR cols4 la (oneX 5 (colX nm)) = ((p1, p2, p3, p4), 0))) (hxb : Hid (evalR cols4 lb (oneX 5 (colX nm)) = ((p1, p2, p3, p4), 0))) (hya : Hid (evalR cols4 la (twoX 9 (colX nm) (colX nm)) = ((s1, s2, s3, s4), 0))) (hyb : Hid (evalR cols4 lb (twoX 9 (colX nm) (colX nm)) = ((s1, s2, s3, s4), 0))) (hyr : Hid (rcmpV 9 x x = (s1, s2, s3, s4))) (hxm : MkV x) (ac : Act) (X : World) (ha : ac = ⟨#[ac.tmps.getD 0 undef, ac.tmps.getD 1 undef, .int .i64 at_, ac.tmps.getD 3 undef, ac.tmps.getD 4 undef, ac.tmps.getD 5 undef, ac.tmps.getD 6 undef, .pointer (some ⟨bt, 0, none⟩), .slice (some ⟨ga, 0, none⟩) 4 ca, .slice (some ⟨gb, 0, none⟩) 4 cb, .int .i64 (k : Int), .pointer (some ⟨bx, 0, none⟩), .pointer (some ⟨by_, 0, none⟩), ac.tmps.getD 13 undef, ac.tmps.getD 14 undef, ac.tmps.getD 15 undef, ac.tmps.getD 16 undef, ac.tmps.getD 17 undef, ac.tmps.getD 18 undef, ac.tmps.getD 19 undef, ac.tmps.getD 20 undef, ac.tmps.getD 21 undef, ac.tmps.getD 22 undef, ac.tmps.getD 23 undef, ac.tmps.getD 24 undef, ac.tmps.getD 25 undef, ac.tmps.getD 26 undef, ac.tmps.getD 27 undef, ac.tmps.getD 28 undef, ac.tmps.getD 29 undef, ac.tmps.getD 30 undef, ac.tmps.getD 31 undef, ac.tmps.getD 32 undef, ac.tmps.getD 33 undef, ac.tmps.getD 34 undef, ac.tmps.getD 35 undef, ac.tmps.getD 36 undef, ac.tmps.getD 37 undef, ac.tmps.getD 38 undef, ac.tmps.getD 39 undef, ac.tmps.getD 40 undef, ac.tmps.getD 41 undef, ac.tmps.getD 42 undef, ac.tmps.getD 43 undef, ac.tmps.getD 44 undef, ac.tmps.getD 45 undef, ac.tmps.getD 46 undef, ac.tmps.getD 47 undef, ac.tmps.getD 48 undef, ac.tmps.getD 49 undef, ac.tmps.getD 50 undef, ac.tmps.getD 51 undef, ac.tmps.getD 52 undef, ac.tmps.getD 53 undef, ac.tmps.getD 54 undef, ac.tmps.getD 55 undef, ac.tmps.getD 56 undef, ac.tmps.getD 57 undef, ac.tmps.getD 58 undef, ac.tmps.getD 59 undef, ac.tmps.getD 60 undef, ac.tmps.getD 61 undef, ac.tmps.getD 62 undef, ac.tmps.getD 63 undef, ac.tmps.getD 64 undef, ac.tmps.getD 65 undef, ac.tmps.getD 66 undef, ac.tmps.getD 67 undef, ac.tmps.getD 68 undef, ac.tmps.getD 69 undef, ac.tmps.getD 70 undef, ac.tmps.getD 71 undef, ac.tmps.getD 72 undef, ac.tmps.getD 73 undef, ac.tmps.getD 74 undef, ac.tmps.getD 75 undef, ac.tmps.getD 76 undef, ac.tmps.getD 77 undef, ac.tmps.getD 78 undef, ac.tmps.getD 79 undef, ac.tmps.getD 80 undef, ac.tmps.getD 81 undef, ac.tmps.getD 82 undef, ac.tmps.getD 83 undef, ac.tmps.getD 84 undef, ac.tmps.getD 85 undef, ac.tmps.getD 86 undef, ac.tmps.getD 87 undef, ac.tmps.getD 88 undef, ac.tmps.getD 89 undef, ac.tmps.getD 90 undef, ac.tmps.getD 91 undef, ac.tmps.getD 92 undef, ac.tmps.getD 93 undef, ac.tmps.getD 94 undef, ac.tmps.getD 95 undef, ac.tmps.getD 96 undef, ac.tmps.getD 97 undef, ac.tmps.getD 98 undef, ac.tmps.getD 99 undef, ac.tmps.getD 100 undef, ac.tmps.getD 101 undef, ac.tmps.getD 102 undef, ac.tmps.getD 103 undef, ac.tmps.getD 104 undef, ac.tmps.getD 105 undef, ac.tmps.getD 106 undef, ac.tmps.getD 107 undef, ac.tmps.getD 108 undef, ac.tmps.getD 109 undef, ac.tmps.getD 110 undef, ac.tmps.getD 111 undef, ac.tmps.getD 112 undef, ac.tmps.getD 113 undef, ac.tmps.getD 114 undef, ac.tmps.getD 115 undef, ac.tmps.getD 116 undef, ac.tmps.getD 117 undef, ac.tmps.getD 118 undef, ac.tmps.getD 119 undef, ac.tmps.getD 120 undef, ac.tmps.getD 121 undef, ac.tmps.getD 122 undef, ac.tmps.getD 123 undef, ac.tmps.getD 124 undef, ac.tmps.getD 125 undef, ac.tmps.getD 126 undef, ac.tmps.getD 127 undef], []⟩) (G : Hid (Grown w X)) (hC : Hid (ColsOf (.slice (some ⟨gc, 0, none⟩) 4 4) cols4 X)) (hT : Hid (Blk bt #[.string ⟨#[116]⟩, .slice (some ⟨gc, 0, none⟩) 4 4, .int .i64 0, N0, .int .i64 0, .string S0, .int .i64 0, .int .i64 0, .int .i64 0, .string S0, N0, N0] 34 X)) (hRa : Hid (RowB ga la X)) (hRb : Hid (RowB gb lb X)) (hX : Hid (Blk bx #[.int .i64 5, .string S0, .int .i64 0, .int .i64 0, .int .i64 0, .string S0, .slice (some ⟨gx, 0, none⟩) 1 1] 31 X)) (hrx : Hid (Rep (oneX 5 (colX nm)) (.slice (some ⟨gx, 0, none⟩) 1 1) X)) (hY : Hid (Blk by_ #[.int .i64 9, .string S0, .int .i64 0, .int .i64 0, .int .i64 0, .string S0, .slice (some ⟨gy, 0, none⟩) 2 2] 31 X)) (hry : Hid (Rep (twoX 9 (colX nm) (colX nm)) (.slice (some ⟨gy, 0, none⟩) 2 2) X)) : rest.wp Try.prog (bodyPost Try.prog Try.f11 (fun e w' => e = .returned (.bool true) ∧ Below w.heap.size w w')) ac X := by
  obtain ⟨u, rfl⟩ : ∃ u : Nat → Value, ac = ⟨#[u 0, u 1, .int .i64 at_, u 3, u 4, u 5, u 6, .pointer (some ⟨bt, 0, none⟩), .slice (some ⟨ga, 0, none⟩) 4 ca, .slice (some ⟨gb, 0, none⟩) 4 cb, .int .i64 (k : Int), .pointer (some ⟨bx, 0, none⟩), .pointer (some ⟨by_, 0, none⟩), u 13, u 14, u 15, u 16, u 17, u 18, u 19, u 20, u 21, u 22, u 23, u 24, u 25, u 26, u 27, u 28, u 29, u 30, u 31, u 32, u 33, u 34, u 35, u 36, u 37, u 38, u 39, u 40, u 41, u 42, u 43, u 44, u 45, u 46, u 47, u 48, u 49, u 50, u 51, u 52, u 53, u 54, u 55, u 56, u 57, u 58, u 59, u 60, u 61, u 62, u 63, u 64, u 65, u 66, u 67, u 68, u 69, u 70, u 71, u 72, u 73, u 74, u 75, u 76, u 77, u 78, u 79, u 80, u 81, u 82, u 83, u 84, u 85, u 86, u 87, u 88, u 89, u 90, u 91, u 92, u 93, u 94, u 95, u 96, u 97, u 98, u 99, u 100, u 101, u 102, u 103, u 104, u 105, u 106, u 107, u 108, u 109, u 110, u 111, u 112, u 113, u 114, u 115, u 116, u 117, u 118, u 119, u 120, u 121, u 122, u 123, u 124, u 125, u 126, u 127], []⟩ := ⟨fun i => ac.tmps.getD i undef, ha⟩
  clear ha
  unfold Try.f11 at hc
  cases hc
  obtain ⟨a0, a1, a2, a3, rfl⟩ : ∃ q0 q1 q2 q3, la = [q0, q1, q2, q3] := by
    match la, hla with
    | [q0, q1, q2, q3], _ => exact ⟨q0, q1, q2, q3, rfl⟩
  obtain ⟨b0, b1, b2, b3, rfl⟩ : ∃ q0 q1 q2 q3, lb = [q0, q1, q2, q3] := by
    match lb, hlb with
    | [q0, q1, q2, q3], _ => exact ⟨q0, q1, q2, q3, rfl⟩
  have C1 := hide (fun (W : World) h1 h2 h3 => evalT_any ⟨#[116]⟩ (.slice (some ⟨gc, 0, none⟩) 4 4) cols4 (some ⟨ga, 0, none⟩) [a0, a1, a2, a3] ca (oneX 5 (colX nm)) (.slice (some ⟨gx, 0, none⟩) 1 1) ((p1, p2, p3, p4), 0) W (unhide hxa) h1 h2 (fun v hv => (unhide hMa v hv).ok) (show 2 ≤ 1000 by decide) h3 (ok_one (ok_col _)))
  have C2 := hide (fun (W : World) h1 h2 h3 => evalT_any ⟨#[116]⟩ (.slice (some ⟨gc, 0, none⟩) 4 4) cols4 (some ⟨gb, 0, none⟩) [b0, b1, b2, b3] cb (oneX 5 (colX nm)) (.slice (some ⟨gx, 0, none⟩) 1 1) ((p1, p2, p3, p4), 0) W (unhide hxb) h1 h2 (fun v hv => (unhide hMb v hv).ok) (show 2 ≤ 1000 by decide) h3 (ok_one (ok_col _)))
  have C3 := hide (fun (W : World) h1 h2 h3 => evalT_any ⟨#[116]⟩ (.slice (some ⟨gc, 0, none⟩) 4 4) cols4 (some ⟨ga, 0, none⟩) [a0, a1, a2, a3] ca (twoX 9 (colX nm) (colX nm)) (.slice (some ⟨gy, 0, none⟩) 2 2) ((s1, s2, s3, s4), 0) W (unhide hya) h1 h2 (fun v hv => (unhide hMa v hv).ok) (show 2 ≤ 1000 by decide) h3 (ok_two (ok_col _) (ok_col _)))
  have C4 := hide (fun (W : World) h1 h2 h3 => evalT_any ⟨#[116]⟩ (.slice (some ⟨gc, 0, none⟩) 4 4) cols4 (some ⟨gb, 0, none⟩) [b0, b1, b2, b3] cb (twoX 9 (colX nm) (colX nm)) (.slice (some ⟨gy, 0, none⟩) 2 2) ((s1, s2, s3, s4), 0) W (unhide hyb) h1 h2 (fun v hv => (unhide hMb v hv).ok) (show 2 ≤ 1000 by decide) h3 (ok_two (ok_col _) (ok_col _)))
  have C5 := hide (fun (W : World) h1 h2 h3 => ((unhide hyr) ▸ rEval_eq (.string ⟨#[116]⟩) (.int .i64 0) N0 (.int .i64 0) (.string S0) (.int .i64 0) (.int .i64 0) (.int .i64 0) (.string S0) N0 N0 gc 4 cols4 (some ⟨ga, 0, none⟩) [a0, a1, a2, a3] ca nm x (.slice (some ⟨gy, 0, none⟩) 2 2) W hva (ok_dec_in hxm) h1 h2 h3 : Calls Try.prog 20 #[.agg #[.string ⟨#[116]⟩, .slice (some ⟨gc, 0, none⟩) 4 4, .int .i64 0, N0, .int .i64 0, .string S0, .int .i64 0, .int .i64 0, .int .i64 0, .string S0, N0, N0], .slice (some ⟨ga, 0, none⟩) 4 ca, .agg (exC (twoX 9 (colX nm) (colX nm)) (.slice (some ⟨gy, 0, none⟩) 2 2)).toArray] W (FinV ((s1, s2, s3, s4), 0) W)))
  clear hxa hxb hya hyb hyr hva hxm hMa hMb hla hlb
  have lt_ := (unhide hT).lt
  have t0 := (unhide hT).cell 0
  have t1 := (unhide hT).cell 1
  have t2 := (unhide hT).cell 2
  have t3 := (unhide hT).cell 3
  have t4 := (unhide hT).cell 4
  have t5 := (unhide hT).cell 5
  have t6 := (unhide hT).cell 6
  have t7 := (unhide hT).cell 7
  have t8 := (unhide hT).cell 8
  have t9 := (unhide hT).cell 9
  have t10 := (unhide hT).cell 10
  have t11 := (unhide hT).cell 11
  have lx_ := (unhide hX).lt
  have y0 := (unhide hX).cell 0
  have y1 := (unhide hX).cell 1
  have y2 := (unhide hX).cell 2
  have y3 := (unhide hX).cell 3
  have y4 := (unhide hX).cell 4
  have y5 := (unhide hX).cell 5
  have y6 := (unhide hX).cell 6
  simp at t0 t1 t2 t3 t4 t5 t6 t7 t8 t9 t10 t11 y0 y1 y2 y3 y4 y5 y6
  go_wp2_with fail
  clear lt_ lx_ t0 t1 t2 t3 t4 t5 t6 t7 t8 t9 t10 t11 y0 y1 y2 y3 y4 y5 y6
  refine (unhide C1 _ (unhide hC) (unhide hRa).row (unhide hrx)).mono ?_
  rintro e Y0 ⟨rfl, hb⟩
  have hz := below_new Y0 (.cells #[.int .i64 p1, .int .i64 p2, .int .i64 p3, .string p4] 28)
  replace G := hide (((unhide G).call hb).call hz)
  replace hC := hide (((unhide hC).call hb).call hz)
  replace hT := hide (((unhide hT).call hb).call hz)
  replace hRa := hide (((unhide hRa).call hb).call hz)
  replace hRb := hide (((unhide hRb).call hb).call hz)
  replace hX := hide (((unhide hX).call hb).call hz)
  replace hrx := hide (((unhide hrx).call hb).call hz)
  replace hY := hide (((unhide hY).call hb).call hz)
  replace hry := hide (((unhide hry).call hb).call hz)
  have D0 := hide (Blk.new Y0 #[.int .i64 p1, .int .i64 p2, .int .i64 p3, .string p4] 28)
  clear hb hz
  have lt_ := (unhide hT).lt
  have t0 := (unhide hT).cell 0
  have t1 := (unhide hT).cell 1
  have t2 := (unhide hT).cell 2
  have t3 := (unhide hT).cell 3
  have t4 := (unhide hT).cell 4
  have t5 := (unhide hT).cell 5
  have t6 := (unhide hT).cell 6
  have t7 := (unhide hT).cell 7
  have t8 := (unhide hT).cell 8
  have t9 := (unhide hT).cell 9
  have t10 := (unhide hT).cell 10
  have t11 := (unhide hT).cell 11
  have lx_ := (unhide hX).lt
  have y0 := (unhide hX).cell 0
  have y1 := (unhide hX).cell 1
  have y2 := (unhide hX).cell 2
  have y3 := (unhide hX).cell 3
  have y4 := (unhide hX).cell 4
  have y5 := (unhide hX).cell 5
  have y6 := (unhide hX).cell 6
  simp at t0 t1 t2 t3 t4 t5 t6 t7 t8 t9 t10 t11 y0 y1 y2 y3 y4 y5 y6
  go_wp2_with fail
  generalize Y0.alloc (.cells #[.int .i64 p1, .int .i64 p2, .int .i64 p3, .string p4] 28) = Z0 at *
  generalize Y0.heap.size = d0 at *
  clear lt_ lx_ t0 t1 t2 t3 t4 t5 t6 t7 t8 t9 t10 t11 y0 y1 y2 y3 y4 y5 y6
  refine (unhide C2 _ (unhide hC) (unhide hRb).row (unhide hrx)).mono ?_
  rintro e Y1 ⟨rfl, hb⟩
  have hz := below_new Y1 (.cells #[.int .i64 p1, .int .i64 p2, .int .i64 p3, .string p4] 28)
  replace G := hide (((unhide G).call hb).call hz)
  replace hC := hide (((unhide hC).call hb).call hz)
  replace hT := hide (((unhide hT).call hb).call hz)
  replace hRa := hide (((unhide hRa).call hb).call hz)
  replace hRb := hide (((unhide hRb).call hb).call hz)
  replace hX := hide (((unhide hX).call hb).call hz)
  replace hrx := hide (((unhide hrx).call hb).call hz)
  replace hY := hide (((unhide hY).call hb).call hz)
  replace hry := hide (((unhide hry).call hb).call hz)
  replace D0 := hide (((unhide D0).call hb).call hz)
  have D1 := hide (Blk.new Y1 #[.int .i64 p1, .int .i64 p2, .int .i64 p3, .string p4] 28)
  clear hb hz
  have lt_ := (unhide hT).lt
  have t0 := (unhide hT).cell 0
  have t1 := (unhide hT).cell 1
  have t2 := (unhide hT).cell 2
  have t3 := (unhide hT).cell 3
  have t4 := (unhide hT).cell 4
  have t5 := (unhide hT).cell 5
  have t6 := (unhide hT).cell 6
  have t7 := (unhide hT).cell 7
  have t8 := (unhide hT).cell 8
  have t9 := (unhide hT).cell 9
  have t10 := (unhide hT).cell 10
  have t11 := (unhide hT).cell 11
  have lx_ := (unhide hY).lt
  have y0 := (unhide hY).cell 0
  have y1 := (unhide hY).cell 1
  have y2 := (unhide hY).cell 2
  have y3 := (unhide hY).cell 3
  have y4 := (unhide hY).cell 4
  have y5 := (unhide hY).cell 5
  have y6 := (unhide hY).cell 6
  simp at t0 t1 t2 t3 t4 t5 t6 t7 t8 t9 t10 t11 y0 y1 y2 y3 y4 y5 y6
  go_wp2_with fail
  generalize Y1.alloc (.cells #[.int .i64 p1, .int .i64 p2, .int .i64 p3, .string p4] 28) = Z1 at *
  generalize Y1.heap.size = d1 at *
  clear lt_ lx_ t0 t1 t2 t3 t4 t5 t6 t7 t8 t9 t10 t11 y0 y1 y2 y3 y4 y5 y6
  refine (unhide C3 _ (unhide hC) (unhide hRa).row (unhide hry)).mono ?_
  rintro e Y2 ⟨rfl, hb⟩
  have hz := below_new Y2 (.cells #[.int .i64 s1, .int .i64 s2, .int .i64 s3, .string s4] 28)
  replace G := hide (((unhide G).call hb).call hz)
  replace hC := hide (((unhide hC).call hb).call hz)
  replace hT := hide (((unhide hT).call hb).call hz)
  replace hRa := hide (((unhide hRa).call hb).call hz)
  replace hRb := hide (((unhide hRb).call hb).call hz)
  replace hX := hide (((unhide hX).call hb).call hz)
  replace hrx := hide (((unhide hrx).call hb).call hz)
  replace hY := hide (((unhide hY).call hb).call hz)
  replace hry := hide (((unhide hry).call hb).call hz)
  replace D0 := hide (((unhide D0).call hb).call hz)
  replace D1 := hide (((unhide D1).call hb).call hz)
  have D2 := hide (Blk.new Y2 #[.int .i64 s1, .int .i64 s2, .int .i64 s3, .string s4] 28)
  clear hb hz
  have lt_ := (unhide hT).lt
  have t0 := (unhide hT).cell 0
  have t1 := (unhide hT).cell 1
  have t2 := (unhide hT).cell 2
  have t3 := (unhide hT).cell 3
  have t4 := (unhide hT).cell 4
  have t5 := (unhide hT).cell 5
  have t6 := (unhide hT).cell 6
  have t7 := (unhide hT).cell 7
  have t8 := (unhide hT).cell 8
  have t9 := (unhide hT).cell 9
  have t10 := (unhide hT).cell 10
  have t11 := (unhide hT).cell 11
  have lx_ := (unhide hY).lt
  have y0 := (unhide hY).cell 0
  have y1 := (unhide hY).cell 1
  have y2 := (unhide hY).cell 2
  have y3 := (unhide hY).cell 3
  have y4 := (unhide hY).cell 4
  have y5 := (unhide hY).cell 5
  have y6 := (unhide hY).cell 6
  simp at t0 t1 t2 t3 t4 t5 t6 t7 t8 t9 t10 t11 y0 y1 y2 y3 y4 y5 y6
  go_wp2_with fail
  generalize Y2.alloc (.cells #[.int .i64 s1, .int .i64 s2, .int .i64 s3, .string s4] 28) = Z2 at *
  generalize Y2.heap.size = d2 at *
  clear lt_ lx_ t0 t1 t2 t3 t4 t5 t6 t7 t8 t9 t10 t11 y0 y1 y2 y3 y4 y5 y6
  refine (unhide C4 _ (unhide hC) (unhide hRb).row (unhide hry)).mono ?_
  rintro e Y3 ⟨rfl, hb⟩
  have hz := below_new Y3 (.cells #[.int .i64 s1, .int .i64 s2, .int .i64 s3, .string s4] 28)
  replace G := hide (((unhide G).call hb).call hz)
  replace hC := hide (((unhide hC).call hb).call hz)
  replace hT := hide (((unhide hT).call hb).call hz)
  replace hRa := hide (((unhide hRa).call hb).call hz)
  replace hRb := hide (((unhide hRb).call hb).call hz)
  replace hX := hide (((unhide hX).call hb).call hz)
  replace hrx := hide (((unhide hrx).call hb).call hz)
  replace hY := hide (((unhide hY).call hb).call hz)
  replace hry := hide (((unhide hry).call hb).call hz)
  replace D0 := hide (((unhide D0).call hb).call hz)
  replace D1 := hide (((unhide D1).call hb).call hz)
  replace D2 := hide (((unhide D2).call hb).call hz)
  have D3 := hide (Blk.new Y3 #[.int .i64 s1, .int .i64 s2, .int .i64 s3, .string s4] 28)
  clear hb hz
  have lt_ := (unhide hT).lt
  have t0 := (unhide hT).cell 0
  have t1 := (unhide hT).cell 1
  have t2 := (unhide hT).cell 2
  have t3 := (unhide hT).cell 3
  have t4 := (unhide hT).cell 4
  have t5 := (unhide hT).cell 5
  have t6 := (unhide hT).cell 6
  have t7 := (unhide hT).cell 7
  have t8 := (unhide hT).cell 8
  have t9 := (unhide hT).cell 9
  have t10 := (unhide hT).cell 10
  have t11 := (unhide hT).cell 11
  have lx_ := (unhide hY).lt
  have y0 := (unhide hY).cell 0
  have y1 := (unhide hY).cell 1
  have y2 := (unhide hY).cell 2
  have y3 := (unhide hY).cell 3
  have y4 := (unhide hY).cell 4
  have y5 := (unhide hY).cell 5
  have y6 := (unhide hY).cell 6
  simp at t0 t1 t2 t3 t4 t5 t6 t7 t8 t9 t10 t11 y0 y1 y2 y3 y4 y5 y6
  go_wp2_with fail
  generalize Y3.alloc (.cells #[.int .i64 s1, .int .i64 s2, .int .i64 s3, .string s4] 28) = Z3 at *
  generalize Y3.heap.size = d3 at *
  clear lt_ lx_ t0 t1 t2 t3 t4 t5 t6 t7 t8 t9 t10 t11 y0 y1 y2 y3 y4 y5 y6
  refine (unhide C5 _ (unhide hC) (unhide hRa).row (unhide hry)).mono ?_
  rintro e Y4 ⟨rfl, hb⟩
  have hz := below_new Y4 (.cells #[.int .i64 s1, .int .i64 s2, .int .i64 s3, .string s4] 28)
  replace G := hide (((unhide G).call hb).call hz)
  replace hC := hide (((unhide hC).call hb).call hz)
  replace hT := hide (((unhide hT).call hb).call hz)
  replace hRa := hide (((unhide hRa).call hb).call hz)
  replace hRb := hide (((unhide hRb).call hb).call hz)
  replace hX := hide (((unhide hX).call hb).call hz)
  replace hrx := hide (((unhide hrx).call hb).call hz)
  replace hY := hide (((unhide hY).call hb).call hz)
  replace hry := hide (((unhide hry).call hb).call hz)
  replace D0 := hide (((unhide D0).call hb).call hz)
  replace D1 := hide (((unhide D1).call hb).call hz)
  replace D2 := hide (((unhide D2).call hb).call hz)
  replace D3 := hide (((unhide D3).call hb).call hz)
  have D4 := hide (Blk.new Y4 #[.int .i64 s1, .int .i64 s2, .int .i64 s3, .string s4] 28)
  clear hb hz
  have ld0 := (unhide D0).lt
  have w00 := (unhide D0).cell 0
  have w01 := (unhide D0).cell 1
  have w02 := (unhide D0).cell 2
  have w03 := (unhide D0).cell 3
  have ld1 := (unhide D1).lt
  have w10 := (unhide D1).cell 0
  have w11 := (unhide D1).cell 1
  have w12 := (unhide D1).cell 2
  have w13 := (unhide D1).cell 3
  have ld2 := (unhide D2).lt
  have w20 := (unhide D2).cell 0
  have w21 := (unhide D2).cell 1
  have w22 := (unhide D2).cell 2
  have w23 := (unhide D2).cell 3
  have ld3 := (unhide D3).lt
  have w30 := (unhide D3).cell 0
  have w31 := (unhide D3).cell 1
  have w32 := (unhide D3).cell 2
  have w33 := (unhide D3).cell 3
  have ld4 := (unhide D4).lt
  have w40 := (unhide D4).cell 0
  have w41 := (unhide D4).cell 1
  have w42 := (unhide D4).cell 2
  have w43 := (unhide D4).cell 3
  simp at w00 w01 w02 w03 w10 w11 w12 w13 w20 w21 w22 w23 w30 w31 w32 w33 w40 w41 w42 w43
  go_wp2_with fail
  go_ret
  exact ⟨by simp, unhide G⟩
end Go.Proofs.Ytliefgkhpgigaaa

namespace Go.Proofs.Ytliefgkhpgigaaa
open Go.RowKit Go.Shelf
set_option linter.unusedSimpArgs false
set_option linter.unusedVariables false

set_option maxHeartbeats 32000000 in
set_option maxRecDepth 100000 in
theorem evalSame_walk (v0 : Value) (zs : List Int) (v1 : Value) (ys : List Int) (at_ : Int) (w2 : Is64 at_) (w : World) (h0 : Ints v0 zs w) (h1 : Ints v1 ys w) :
    Calls Try.prog 11 #[v0, v1, .int .i64 at_] w fun e w' => e = .returned (.bool true) ∧ Below w.heap.size w w' := by
  obtain ⟨p, np, rfl, hz⟩ := h0.parts
  obtain ⟨q, nq, rfl, hy⟩ := h1.parts
  have hq0 := Int.emod_nonneg at_ (show (4 : Int) ≠ 0 by decide)
  have hq1 := Int.emod_lt_of_pos at_ (show (0 : Int) < 4 by decide)
  obtain ⟨k, hk⟩ : ∃ k : Nat, at_ % 4 = (k : Int) := ⟨(at_ % 4).toNat, by omega⟩
  have hk4 : k < 4 := by omega
  have CW : Hid (∀ W, Calls Try.prog 29 #[.int .i64 at_, .int .i64 4] W fun e W' => e = .returned (.int .i64 (k : Int)) ∧ W' = W) := hide (fun W => hk ▸ within4_any at_ 4 W w2 (by decide))
  clear hk hq0 hq1 w2 h0 h1
  replace hz := hide hz
  replace hy := hide hy
  go_enter Try.func11, Try.ntmps11
  go_wp2_with fail
  refine (known4_any _).mono ?_
  rintro e W1 ⟨rfl, hb⟩
  have G : Hid (Grown w W1) := hb
  replace hz := hide ((unhide hz).call hb)
  replace hy := hide ((unhide hy).call hb)
  clear hb
  go_wp2_with fail
  refine (colsL_any _).mono ?_
  rintro e W2 ⟨gc, rfl, hC, hb⟩
  have hT := hide (Blk.new W2 #[.string ⟨#[116]⟩, .slice (some ⟨gc, 0, none⟩) 4 4, .int .i64 0, .slice none 0 0, .int .i64 0, .string ⟨#[]⟩, .int .i64 0, .int .i64 0, .int .i64 0, .string ⟨#[]⟩, .slice none 0 0, .slice none 0 0] 34)
  have gg := below_new W2 (.cells #[.string ⟨#[116]⟩, .slice (some ⟨gc, 0, none⟩) 4 4, .int .i64 0, .slice none 0 0, .int .i64 0, .string ⟨#[]⟩, .int .i64 0, .int .i64 0, .int .i64 0, .string ⟨#[]⟩, .slice none 0 0, .slice none 0 0] 34)
  replace G := hide (((unhide G).call hb).call gg)
  replace hz := hide (((unhide hz).call hb).call gg)
  replace hy := hide (((unhide hy).call hb).call gg)
  have hgc : gc < W2.heap.size + 1 := by
    obtain ⟨g', c', e1, l1, _⟩ := hC
    cases e1
    omega
  have hbt : W2.heap.size < W2.heap.size + 1 := by omega
  have hwn : w.heap.size ≤ W2.heap.size + 1 := by
    have := Below.size (unhide G)
    simpa using this
  have hn : (W2.alloc (.cells #[.string ⟨#[116]⟩, .slice (some ⟨gc, 0, none⟩) 4 4, .int .i64 0, .slice none 0 0, .int .i64 0, .string ⟨#[]⟩, .int .i64 0, .int .i64 0, .int .i64 0, .string ⟨#[]⟩, .slice none 0 0, .slice none 0 0] 34)).heap.size = W2.heap.size + 1 := by simp
  replace hC := hide (hC.call gg)
  clear hb gg
  go_wp2_with fail
  generalize W2.alloc (.cells #[.string ⟨#[116]⟩, .slice (some ⟨gc, 0, none⟩) 4 4, .int .i64 0, .slice none 0 0, .int .i64 0, .string ⟨#[]⟩, .int .i64 0, .int .i64 0, .int .i64 0, .string ⟨#[]⟩, .slice none 0 0, .slice none 0 0] 34) = X at *
  generalize hn0 : W2.heap.size + 1 = n0 at *
  generalize W2.heap.size = bt at *
  rename_i K4 hk4'
  refine smA rfl w n0 gc bt p q zs ys np nq at_ K4 _ (hide ?_) _ X (by kernel_rfl) G hC hT hz hy (hide (Nat.le_of_eq hn.symm))
  clear G hC hT hz hy
  intro ac ga ca la gb cb lb X ha G hC hT hz hy hRa hMa hga hRb hMb hgb
  refine hk4' _ _ ?_
  clear hk4'
  obtain ⟨hla, hmA⟩ := unhide hMa
  obtain ⟨hlb, hmB⟩ := unhide hMb
  have hga2 : n0 ≤ ga := unhide hga
  have hgb2 : ga + 1 ≤ gb := unhide hgb
  have hka : k < la.length := by omega
  have hkb : k < lb.length := by omega
  obtain ⟨x, hx⟩ : ∃ x, x = la[k] := ⟨_, rfl⟩
  have hxg : la[k]? = some x := by rw [List.getElem?_eq_getElem hka, hx]
  have hxm : MkV x := hx ▸ hmA _ (List.getElem_mem hka)
  obtain ⟨nm, hnm⟩ : ∃ n, NMk k = n := ⟨_, rfl⟩
  have va := nmk_val k la hla hk4
  rw [hnm, ← hx] at va
  have hl2 : (lb.set k x).length = 4 := by simpa using hlb
  have vb := nmk_val k (lb.set k x) hl2 hk4
  rw [hnm] at vb
  simp only [List.getElem_set_self] at vb
  have hm2 : ∀ v ∈ lb.set k x, MkV v := fun v hv => by
    rcases List.mem_or_eq_of_mem_set hv with h | h
    · exact hmB v h
    · exact h ▸ hxm
  obtain ⟨⟨p1, p2, p3, p4⟩, hp⟩ : ∃ v, NU x = v := ⟨_, rfl⟩
  obtain ⟨⟨s1, s2, s3, s4⟩, hs⟩ : ∃ v, EQ x x = v := ⟨_, rfl⟩
  have ea := hide (hp ▸ ev_nul (ev_col va.1))
  have eb := hide (hp ▸ ev_nul (ev_col vb.1))
  have fa := hide (hs ▸ ev_eq9 (ev_col va.1) (ev_col va.1))
  have fb := hide (hs ▸ ev_eq9 (ev_col vb.1) (ev_col vb.1))
  have fr := hide ((eq_self x).symm.trans hs)
  obtain ⟨x1, x2, x3, x4⟩ := x
  refine wp_seq_k ?_
  intro K5 hk5
  obtain ⟨u, rfl⟩ : ∃ u : Nat → Value, ac = ⟨#[.slice p zs.length np, .slice q ys.length nq, .int .i64 at_, u 3, u 4, u 5, u 6, .pointer (some ⟨bt, 0, none⟩), .slice (some ⟨ga, 0, none⟩) 4 ca, .slice (some ⟨gb, 0, none⟩) 4 cb, u 10, u 11, u 12, u 13, u 14, u 15, u 16, u 17, u 18, u 19, u 20, u 21, u 22, u 23, u 24, u 25, u 26, u 27, u 28, u 29, u 30, u 31, u 32, u 33, u 34, u 35, u 36, u 37, u 38, u 39, u 40, u 41, u 42, u 43, u 44, u 45, u 46, u 47, u 48, u 49, u 50, u 51, u 52, u 53, u 54, u 55, u 56, u 57, u 58, u 59, u 60, u 61, u 62, u 63, u 64, u 65, u 66, u 67, u 68, u 69, u 70, u 71, u 72, u 73, u 74, u 75, u 76, u 77, u 78, u 79, u 80, u 81, u 82, u 83, u 84, u 85, u 86, u 87, u 88, u 89, u 90, u 91, u 92, u 93, u 94, u 95, u 96, u 97, u 98, u 99, u 100, u 101, u 102, u 103, u 104, u 105, u 106, u 107, u 108, u 109, u 110, u 111, u 112, u 113, u 114, u 115, u 116, u 117, u 118, u 119, u 120, u 121, u 122, u 123, u 124, u 125, u 126, u 127], []⟩ := ⟨fun i => ac.tmps.getD i undef, ha⟩
  refine smK rfl w n0 gc bt ga ca gb cb k hk4 at_ la lb CW K5 _ (hide ?_) _ X (by kernel_rfl) G hC hT hRa hRb
  clear G hC hT hz hy hRa hRb ha
  intro ac X ha G hC hT hRa hRb
  refine hk5 _ _ ?_
  clear hk5
  refine wp_seq_k ?_
  intro K6 hk6
  refine smS rfl w n0 gc bt ga ca gb cb k hk4 at_ la lb x1 x2 x3 x4 hla hlb hxg hgc hbt hga2 hgb2 hwn K6 _ (hide ?_) ac X ha G hC hT hRa hRb
  clear G hC hT hRa hRb ha
  intro ac X ha G hC hT hRa hRb
  refine hk6 _ _ ?_
  clear hk6
  refine wp_seq_k ?_
  intro K7 hk7
  refine smX rfl w n0 gc bt ga ca gb cb k hk4 at_ la (lb.set k (x1, x2, x3, x4)) nm hnm K7 _ (hide ?_) ac X ha G hC hT hRa hRb
  clear G hC hT hRa hRb ha
  intro ac bx gx X ha G hC hT hRa hRb hX hrx
  refine hk7 _ _ ?_
  clear hk7
  refine wp_seq_k ?_
  intro K8 hk8
  refine smY rfl w n0 gc bt ga ca gb cb k hk4 at_ la (lb.set k (x1, x2, x3, x4)) nm hnm bx gx K8 _ (hide ?_) ac X ha G hC hT hRa hRb hX hrx
  clear G hC hT hRa hRb ha hX hrx
  intro ac by_ gy X ha G hC hT hRa hRb hX hrx hY hry
  refine hk8 _ _ ?_
  exact smE rfl w gc bt ga ca gb cb k at_ la (lb.set k (x1, x2, x3, x4)) nm bx gx by_ gy p1 p2 p3 p4 s1 s2 s3 s4 (x1, x2, x3, x4) hla hl2 (hide hmA) (hide hm2) va.2 ea eb fa fb fr hxm ac X ha G hC hT hRa hRb hX hrx hY hry
end Go.Proofs.Ytliefgkhpgigaaa

namespace Go.Proofs.Ytliefgkhpgigaaa
open Go.ChangeShapes Go.WideShapes Go.ChangeAt Go.RowKit
set_option linter.unusedVariables false

theorem is64_litQ {n : Int} (h : (Lit.int .i64 n).wf = true) : Is64 n := bounds_i64 h
theorem laidOut : laidOutB Try.prog = true := by kernel_rfl
theorem cellsInt : Try.prog.cellsOf 3 = 1 := by kernel_rfl
set_option maxRecDepth 100000 in
theorem ints_of {H : Type} {enc : TypeId × Value → H} {W : World} {base : Nat} {v : Value} {d : DataW H} {p : List MemPlace} (hval : Value.okWide Try.prog W .any base 22 v) (h : DataW.Trod enc Try.prog W 0 (fun _ => true) true 22 v d p) : ∃ zs, Ints v zs W := by
  obtain ⟨a0, len, cap, rfl⟩ := okWide_slice Try.underlying22 hval
  obtain ⟨fuel, hf⟩ := h
  rcases open_ints Try.underlying22 Try.underlying3 cellsInt hf with ⟨hcs, hx⟩ | ⟨a, len', cap', zs, hcs, _, hl, hm, hz, hx, hcell, hwz⟩
  · simp [Value.cells] at hcs
    obtain ⟨rfl, rfl, rfl⟩ := hcs
    exact ⟨[], .inl ⟨rfl, rfl⟩⟩
  · simp [Value.cells] at hcs
    obtain ⟨rfl, rfl, rfl⟩ := hcs
    simp only [if_true] at hz
    have hl2 : (zs.take len).length = len := by rw [List.length_take]; omega
    refine ⟨zs.take len, .inr ⟨a, cap, by rw [hl2], by rw [hl2]; exact Nat.le_trans hl hm, fun i hi => ?_⟩⟩
    rw [hl2] at hi
    have hi' : i < zs.length := by omega
    have hc := hcell i hi'
    have e : zs.getD i 0 = (zs.take len)[i]'(by rw [hl2]; exact hi) := by simp [List.getD, hi']
    rw [e] at hc
    refine ⟨hc, World.block_lt_of_cell? W _ hc, ?_⟩
    have hw := hwz (zs[i]) (List.getElem_mem hi')
    have e2 : (zs.take len)[i]'(by rw [hl2]; exact hi) = zs[i] := by simp
    rw [e2]
    exact is64_litQ hw
end Go.Proofs.Ytliefgkhpgigaaa

