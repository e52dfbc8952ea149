/-
  What package eval's Eval returns.
-/
import Derived.Test.YtliefgkhpgigaaaEV
import Derived.Test.YtliefgkhpgigaaaEU
namespace Go.Proofs.Ytliefgkhpgigaaa
open Go.RowKit
set_option linter.unusedSimpArgs false
set_option linter.unusedVariables false

abbrev evalR (cs : List C3) (vs : List V4) (e : Ex) : V4 × Int := foldF Z4 (valF cs vs) e
theorem below_4 (w : World) (o1 o2 o3 o4 : Obj) : Below w.heap.size w ((((w.alloc o1).alloc o2).alloc o3).alloc o4) :=
  ((((Below.refl _ w).alloc (Nat.le_refl _) _).alloc (by simp) _).alloc (by simp; omega) _).alloc (by simp; omega) _
set_option maxHeartbeats 2000000 in
set_option maxRecDepth 100000 in
theorem eval_any (t0 t2 t3 t4 t5 t6 t7 t8 t9 t10 t11 v : Value) (cs : List C3) (p : Option Addr) (vs : List V4) (rcap : Nat) (e0 : Ex) (lv0 : Value) (w : World) (hv : ColsOf v cs w) (hr : RowOf p vs w) (hvs : ∀ v ∈ vs, OkV v) (hD : e0.deep ≤ 1000) (hR : Rep e0 lv0 w) (hE : ExOk e0) :
    Calls Try.prog 19 #[Tab t0 v t2 t3 t4 t5 t6 t7 t8 t9 t10 t11, .slice p vs.length rcap, .agg (exC e0 lv0).toArray] w (FinV (evalR cs vs e0) w) := by
  have h4 := below_4 w (.cells #[t0, v, t2, t3, t4, t5, t6, t7, t8, t9, t10, t11] 34) (.cells #[.slice p vs.length rcap] 42) (.cells (exC e0 lv0).toArray 31) (.cells (vC Z4).toArray 28)
  have k1 : ((((w.alloc (.cells #[t0, v, t2, t3, t4, t5, t6, t7, t8, t9, t10, t11] 34)).alloc (.cells #[.slice p vs.length rcap] 42)).alloc (.cells (exC e0 lv0).toArray 31)).alloc (.cells (vC Z4).toArray 28)).heap[w.heap.size]? = some (.cells #[t0, v, t2, t3, t4, t5, t6, t7, t8, t9, t10, t11] 34 (0, 0)) :=
    (Below.heap_alloc _ _ _ (by simp; try omega)).trans ((Below.heap_alloc _ _ _ (by simp; try omega)).trans ((Below.heap_alloc _ _ _ (by simp; try omega)).trans (World.alloc_heap_new w _)))
  have k2 : ((((w.alloc (.cells #[t0, v, t2, t3, t4, t5, t6, t7, t8, t9, t10, t11] 34)).alloc (.cells #[.slice p vs.length rcap] 42)).alloc (.cells (exC e0 lv0).toArray 31)).alloc (.cells (vC Z4).toArray 28)).heap[w.heap.size + 1]? = some (.cells #[.slice p vs.length rcap] 42 (0, 0)) := by
    have := World.alloc_heap_new (w.alloc (.cells #[t0, v, t2, t3, t4, t5, t6, t7, t8, t9, t10, t11] 34)) (.cells #[.slice p vs.length rcap] 42)
    rw [World.size_alloc] at this
    exact (Below.heap_alloc _ _ _ (by simp; try omega)).trans ((Below.heap_alloc _ _ _ (by simp; try omega)).trans this)
  have k4 := World.alloc_heap_new (((w.alloc (.cells #[t0, v, t2, t3, t4, t5, t6, t7, t8, t9, t10, t11] 34)).alloc (.cells #[.slice p vs.length rcap] 42)).alloc (.cells (exC e0 lv0).toArray 31)) (.cells (vC Z4).toArray 28)
  rw [World.size_alloc, World.size_alloc, World.size_alloc] at k4
  have C := hide (foldV_eval t0 t2 t3 t4 t5 t6 t7 t8 t9 t10 t11 v cs p vs rcap w.heap.size (w.heap.size + 1) e0 lv0 _ (hv.call h4) (hr.call h4) hvs hD (hR.call h4) hE k1 _ k2)
  have hok := (fold_ok cs vs hvs e0 hE).2.2.2
  have CC := hide (fun W => clone_any (foldF Z4 (valF cs vs) e0).1.2.2.2 W hok)
  have H4 := hide h4
  have K4 := hide k4
  clear hv hr hvs hD hR hE k1 k2 k4 h4 hok
  show Calls _ _ _ _ (FinV (foldF Z4 (valF cs vs) e0) w)
  generalize foldF Z4 (valF cs vs) e0 = r at *
  obtain ⟨⟨r1, r2, r3, r4⟩, re⟩ := r
  go_enter Try.func19, Try.ntmps19
  go_wp2_with fail
  refine (unhide C).mono ?_
  rintro e W1 ⟨rfl, hb1⟩
  clear C
  have hB1 := (unhide H4).trans (hb1.mono (unhide H4).size)
  have hk1 := (hb1.block (w.heap.size + 1 + 1 + 1) (by simp)).trans (unhide K4)
  have hl1 := (Array.getElem?_eq_some_iff.1 hk1).1
  have HB1 := hide hB1
  have HK1 := hide hk1
  clear hb1 hB1 hk1 H4 K4
  go_wp2_with fail
  refine (unhide CC _).mono ?_
  rintro e W2 ⟨rfl, hb2⟩
  clear CC
  have hB2 := ((unhide HB1).alloc (unhide HB1).size (.cells #[.int .i64 r1, .int .i64 r2, .int .i64 r3, .string r4] 28)).trans (hb2.mono (Nat.le_trans (unhide HB1).size (by simp)))
  have hn1 := (hb2.block (w.heap.size + 1 + 1 + 1) (by simp; omega)).trans ((Below.heap_alloc _ _ _ hl1).trans (unhide HK1))
  have hm1 := (hb2.block W1.heap.size (by simp)).trans (World.alloc_heap_new W1 _)
  have hn2 := (Array.getElem?_eq_some_iff.1 hn1).1
  have hm2 := (Array.getElem?_eq_some_iff.1 hm1).1
  have hne : ¬ W1.heap.size = w.heap.size + 1 + 1 + 1 := by omega
  have hne2 : ¬ w.heap.size + 1 + 1 + 1 = W1.heap.size := by omega
  have y0 := cell_of_row _ _ 0 _ _ _ hn1
  have y1 := cell_of_row _ _ 1 _ _ _ hn1
  have y2 := cell_of_row _ _ 2 _ _ _ hn1
  have y3 := cell_of_row _ _ 3 _ _ _ hn1
  have x0 := cell_of_row _ _ 0 _ _ _ hm1
  have x1 := cell_of_row _ _ 1 _ _ _ hm1
  have x2 := cell_of_row _ _ 2 _ _ _ hm1
  have x3 := cell_of_row _ _ 3 _ _ _ hm1
  have fz : ∀ j, W2.frozen? ⟨w.heap.size + 1 + 1 + 1, j, none⟩ = false := fun j => by simp [World.frozen?, hn1]
  have fx : ∀ j, W2.frozen? ⟨W1.heap.size, j, none⟩ = false := fun j => by simp [World.frozen?, hm1]
  have fz0 := fz 0
  have fz1 := fz 1
  have fz2 := fz 2
  have fz3 := fz 3
  have fx0 := fx 0
  have fx1 := fx 1
  have fx2 := fx 2
  have fx3 := fx 3
  simp at y0 y1 y2 y3 x0 x1 x2 x3
  have HB2 := hide hB2
  clear fz fx hn1 hm1 hb2 hB2 HK1
  go_wp2_with fail
  refine bodyPost_ret (v := .tuple #[.agg (vC (r1, r2, r3, r4)).toArray, .int .i64 re]) (by simp [results, Try.results19, go_sem, y0, y1, y2, y3, hn2, hne, hne2]) rfl ⟨rfl, ?_⟩
  have hB := (unhide HB2).setCell (p := ⟨W1.heap.size, 3, none⟩) (unhide HB1).size (.string r4)
  exact (((hB.setCell (p := ⟨w.heap.size + 1 + 1 + 1, 0, none⟩) (by simp; omega) _).setCell (p := ⟨w.heap.size + 1 + 1 + 1, 1, none⟩) (by simp; omega) _).setCell (p := ⟨w.heap.size + 1 + 1 + 1, 2, none⟩) (by simp; omega) _).setCell (p := ⟨w.heap.size + 1 + 1 + 1, 3, none⟩) (by simp; omega) _
end Go.Proofs.Ytliefgkhpgigaaa
