/-
  What package eval's valueOf returns, of any answers of what it calls.
-/
import Derived.Test.YtliefgkhpgigaaaEQ
import Derived.Test.YtliefgkhpgigaaaER
namespace Go.Proofs.Ytliefgkhpgigaaa
open Go.RowKit
set_option linter.unusedSimpArgs false
set_option linter.unusedVariables false

theorem below_5 (w : World) (o1 o2 o3 o4 o5 : Obj) : Below w.heap.size w (((((w.alloc o1).alloc o2).alloc o3).alloc o4).alloc o5) :=
  (((((Below.refl _ w).alloc (Nat.le_refl _) _).alloc (by simp) _).alloc (by simp; omega) _).alloc (by simp; omega) _).alloc (by simp; omega) _
def valueR (k : Int) (v : V4) (col rc : V4 × Int) (t : Int) : V4 × Int := if k = 1 then (v, 0) else if k = 2 then col else if k = 4 ∨ k = 6 ∨ k = 7 ∨ k = 8 then rc else (valT t, 0)
set_option maxHeartbeats 1000000 in
theorem valueOf_1 (t0 t2 t3 t4 t5 t6 t7 t8 t9 t10 t11 v lr : Value) (p : Option Addr) (rn rcap : Nat) (nm vt : ByteArray) (v1 v2 v3 : Int) (a b : V4) (w : World) :
    Calls Try.prog 46 #[Tab t0 v t2 t3 t4 t5 t6 t7 t8 t9 t10 t11, .slice p rn rcap, .agg #[.int .i64 1, .string nm, .int .i64 v1, .int .i64 v2, .int .i64 v3, .string vt, lr], .agg (vC a).toArray, .agg (vC b).toArray] w (FinV ((v1, v2, v3, vt), 0) w) := by
  go_enter Try.func46, Try.ntmps46
  go_wp2_with fail
  refine bodyPost_ret (v := .tuple #[.agg (vC (v1, v2, v3, vt)).toArray, .int .i64 0]) (by simp [results, Try.results46, go_sem]) rfl ⟨rfl, ?_⟩
  exact below_5 w _ _ _ _ _
set_option maxHeartbeats 1000000 in
theorem valueOf_2 (t0 t2 t3 t4 t5 t6 t7 t8 t9 t10 t11 v lr : Value) (p : Option Addr) (rn rcap : Nat) (nm vt : ByteArray) (v1 v2 v3 : Int) (a b : V4) (w : World) (r : V4 × Int) (hC : ∀ W, Below w.heap.size w W → Calls Try.prog 65 #[Tab t0 v t2 t3 t4 t5 t6 t7 t8 t9 t10 t11, .slice p rn rcap, .string nm] W (FinV r W)) :
    Calls Try.prog 46 #[Tab t0 v t2 t3 t4 t5 t6 t7 t8 t9 t10 t11, .slice p rn rcap, .agg #[.int .i64 2, .string nm, .int .i64 v1, .int .i64 v2, .int .i64 v3, .string vt, lr], .agg (vC a).toArray, .agg (vC b).toArray] w (FinV r w) := by
  have H5 := hide (below_5 w (.cells #[t0, v, t2, t3, t4, t5, t6, t7, t8, t9, t10, t11] 34) (.cells #[.int .i64 2, .string nm, .int .i64 v1, .int .i64 v2, .int .i64 v3, .string vt, lr] 31) (.cells (vC a).toArray 28) (.cells (vC b).toArray 28) (.cells (vC Z4).toArray 28))
  have hnew := World.alloc_heap_new ((((w.alloc (.cells #[t0, v, t2, t3, t4, t5, t6, t7, t8, t9, t10, t11] 34)).alloc (.cells #[.int .i64 2, .string nm, .int .i64 v1, .int .i64 v2, .int .i64 v3, .string vt, lr] 31)).alloc (.cells (vC a).toArray 28)).alloc (.cells (vC b).toArray 28)) (.cells (vC Z4).toArray 28)
  rw [World.size_alloc, World.size_alloc, World.size_alloc, World.size_alloc] at hnew
  have HN := hide hnew
  clear hnew
  have C := hide hC
  clear hC
  obtain ⟨⟨r1, r2, r3, r4⟩, re⟩ := r
  go_enter Try.func46, Try.ntmps46
  go_wp2_with (go_at_call 65; refine (unhide C _ (unhide H5)).mono ?_; rintro e W1 ⟨rfl, hb1⟩; have hn1 := (hb1.block (w.heap.size + 1 + 1 + 1 + 1) (by simp)).trans (unhide HN); have hn2 := (Array.getElem?_eq_some_iff.1 hn1).1; have y0 := cell_of_row _ _ 0 _ _ _ hn1; have y1 := cell_of_row _ _ 1 _ _ _ hn1; have y2 := cell_of_row _ _ 2 _ _ _ hn1; have y3 := cell_of_row _ _ 3 _ _ _ hn1; have fz : ∀ j, W1.frozen? ⟨w.heap.size + 1 + 1 + 1 + 1, j, none⟩ = false := (fun j => by simp [World.frozen?, hn1]); have fz0 := fz 0; have fz1 := fz 1; have fz2 := fz 2; have fz3 := fz 3; clear fz; simp at y0 y1 y2 y3)
  refine bodyPost_ret (v := .tuple #[.agg (vC (r1, r2, r3, r4)).toArray, .int .i64 re]) (by simp [results, Try.results46, go_sem, y0, y1, y2, y3, hn2]) rfl ⟨rfl, ?_⟩
  have hB := (unhide H5).trans (hb1.mono (unhide H5).size)
  exact (((hB.setCell (p := ⟨w.heap.size + 1 + 1 + 1 + 1, 0, none⟩) (by simp; omega) _).setCell (p := ⟨w.heap.size + 1 + 1 + 1 + 1, 1, none⟩) (by simp; omega) _).setCell (p := ⟨w.heap.size + 1 + 1 + 1 + 1, 2, none⟩) (by simp; omega) _).setCell (p := ⟨w.heap.size + 1 + 1 + 1 + 1, 3, none⟩) (by simp; omega) _
set_option maxHeartbeats 1000000 in
theorem valueOf_4 (t0 t2 t3 t4 t5 t6 t7 t8 t9 t10 t11 v lr : Value) (p : Option Addr) (rn rcap : Nat) (nm vt : ByteArray) (v1 v2 v3 : Int) (a b : V4) (w : World) (r : V4 × Int) (hC : ∀ W, Calls Try.prog 66 #[.int .i64 4, .agg (vC a).toArray, .agg (vC b).toArray] W (FinV r W)) :
    Calls Try.prog 46 #[Tab t0 v t2 t3 t4 t5 t6 t7 t8 t9 t10 t11, .slice p rn rcap, .agg #[.int .i64 4, .string nm, .int .i64 v1, .int .i64 v2, .int .i64 v3, .string vt, lr], .agg (vC a).toArray, .agg (vC b).toArray] w (FinV r w) := by
  have H5 := hide (below_5 w (.cells #[t0, v, t2, t3, t4, t5, t6, t7, t8, t9, t10, t11] 34) (.cells #[.int .i64 4, .string nm, .int .i64 v1, .int .i64 v2, .int .i64 v3, .string vt, lr] 31) (.cells (vC a).toArray 28) (.cells (vC b).toArray 28) (.cells (vC Z4).toArray 28))
  have hnew := World.alloc_heap_new ((((w.alloc (.cells #[t0, v, t2, t3, t4, t5, t6, t7, t8, t9, t10, t11] 34)).alloc (.cells #[.int .i64 4, .string nm, .int .i64 v1, .int .i64 v2, .int .i64 v3, .string vt, lr] 31)).alloc (.cells (vC a).toArray 28)).alloc (.cells (vC b).toArray 28)) (.cells (vC Z4).toArray 28)
  rw [World.size_alloc, World.size_alloc, World.size_alloc, World.size_alloc] at hnew
  have HN := hide hnew
  clear hnew
  have C := hide hC
  clear hC
  obtain ⟨⟨r1, r2, r3, r4⟩, re⟩ := r
  go_enter Try.func46, Try.ntmps46
  go_wp2_with (go_at_call 66; refine (unhide C _).mono ?_; rintro e W1 ⟨rfl, hb1⟩; have hn1 := (hb1.block (w.heap.size + 1 + 1 + 1 + 1) (by simp)).trans (unhide HN); have hn2 := (Array.getElem?_eq_some_iff.1 hn1).1; have y0 := cell_of_row _ _ 0 _ _ _ hn1; have y1 := cell_of_row _ _ 1 _ _ _ hn1; have y2 := cell_of_row _ _ 2 _ _ _ hn1; have y3 := cell_of_row _ _ 3 _ _ _ hn1; have fz : ∀ j, W1.frozen? ⟨w.heap.size + 1 + 1 + 1 + 1, j, none⟩ = false := (fun j => by simp [World.frozen?, hn1]); have fz0 := fz 0; have fz1 := fz 1; have fz2 := fz 2; have fz3 := fz 3; clear fz; simp at y0 y1 y2 y3)
  refine bodyPost_ret (v := .tuple #[.agg (vC (r1, r2, r3, r4)).toArray, .int .i64 re]) (by simp [results, Try.results46, go_sem, y0, y1, y2, y3, hn2]) rfl ⟨rfl, ?_⟩
  have hB := (unhide H5).trans (hb1.mono (unhide H5).size)
  exact (((hB.setCell (p := ⟨w.heap.size + 1 + 1 + 1 + 1, 0, none⟩) (by simp; omega) _).setCell (p := ⟨w.heap.size + 1 + 1 + 1 + 1, 1, none⟩) (by simp; omega) _).setCell (p := ⟨w.heap.size + 1 + 1 + 1 + 1, 2, none⟩) (by simp; omega) _).setCell (p := ⟨w.heap.size + 1 + 1 + 1 + 1, 3, none⟩) (by simp; omega) _
set_option maxHeartbeats 1000000 in
theorem valueOf_6 (t0 t2 t3 t4 t5 t6 t7 t8 t9 t10 t11 v lr : Value) (p : Option Addr) (rn rcap : Nat) (nm vt : ByteArray) (v1 v2 v3 : Int) (a b : V4) (w : World) (r : V4 × Int) (hC : ∀ W, Calls Try.prog 66 #[.int .i64 6, .agg (vC a).toArray, .agg (vC b).toArray] W (FinV r W)) :
    Calls Try.prog 46 #[Tab t0 v t2 t3 t4 t5 t6 t7 t8 t9 t10 t11, .slice p rn rcap, .agg #[.int .i64 6, .string nm, .int .i64 v1, .int .i64 v2, .int .i64 v3, .string vt, lr], .agg (vC a).toArray, .agg (vC b).toArray] w (FinV r w) := by
  have H5 := hide (below_5 w (.cells #[t0, v, t2, t3, t4, t5, t6, t7, t8, t9, t10, t11] 34) (.cells #[.int .i64 6, .string nm, .int .i64 v1, .int .i64 v2, .int .i64 v3, .string vt, lr] 31) (.cells (vC a).toArray 28) (.cells (vC b).toArray 28) (.cells (vC Z4).toArray 28))
  have hnew := World.alloc_heap_new ((((w.alloc (.cells #[t0, v, t2, t3, t4, t5, t6, t7, t8, t9, t10, t11] 34)).alloc (.cells #[.int .i64 6, .string nm, .int .i64 v1, .int .i64 v2, .int .i64 v3, .string vt, lr] 31)).alloc (.cells (vC a).toArray 28)).alloc (.cells (vC b).toArray 28)) (.cells (vC Z4).toArray 28)
  rw [World.size_alloc, World.size_alloc, World.size_alloc, World.size_alloc] at hnew
  have HN := hide hnew
  clear hnew
  have C := hide hC
  clear hC
  obtain ⟨⟨r1, r2, r3, r4⟩, re⟩ := r
  go_enter Try.func46, Try.ntmps46
  go_wp2_with (go_at_call 66; refine (unhide C _).mono ?_; rintro e W1 ⟨rfl, hb1⟩; have hn1 := (hb1.block (w.heap.size + 1 + 1 + 1 + 1) (by simp)).trans (unhide HN); have hn2 := (Array.getElem?_eq_some_iff.1 hn1).1; have y0 := cell_of_row _ _ 0 _ _ _ hn1; have y1 := cell_of_row _ _ 1 _ _ _ hn1; have y2 := cell_of_row _ _ 2 _ _ _ hn1; have y3 := cell_of_row _ _ 3 _ _ _ hn1; have fz : ∀ j, W1.frozen? ⟨w.heap.size + 1 + 1 + 1 + 1, j, none⟩ = false := (fun j => by simp [World.frozen?, hn1]); have fz0 := fz 0; have fz1 := fz 1; have fz2 := fz 2; have fz3 := fz 3; clear fz; simp at y0 y1 y2 y3)
  refine bodyPost_ret (v := .tuple #[.agg (vC (r1, r2, r3, r4)).toArray, .int .i64 re]) (by simp [results, Try.results46, go_sem, y0, y1, y2, y3, hn2]) rfl ⟨rfl, ?_⟩
  have hB := (unhide H5).trans (hb1.mono (unhide H5).size)
  exact (((hB.setCell (p := ⟨w.heap.size + 1 + 1 + 1 + 1, 0, none⟩) (by simp; omega) _).setCell (p := ⟨w.heap.size + 1 + 1 + 1 + 1, 1, none⟩) (by simp; omega) _).setCell (p := ⟨w.heap.size + 1 + 1 + 1 + 1, 2, none⟩) (by simp; omega) _).setCell (p := ⟨w.heap.size + 1 + 1 + 1 + 1, 3, none⟩) (by simp; omega) _
set_option maxHeartbeats 1000000 in
theorem valueOf_7 (t0 t2 t3 t4 t5 t6 t7 t8 t9 t10 t11 v lr : Value) (p : Option Addr) (rn rcap : Nat) (nm vt : ByteArray) (v1 v2 v3 : Int) (a b : V4) (w : World) (r : V4 × Int) (hC : ∀ W, Calls Try.prog 66 #[.int .i64 7, .agg (vC a).toArray, .agg (vC b).toArray] W (FinV r W)) :
    Calls Try.prog 46 #[Tab t0 v t2 t3 t4 t5 t6 t7 t8 t9 t10 t11, .slice p rn rcap, .agg #[.int .i64 7, .string nm, .int .i64 v1, .int .i64 v2, .int .i64 v3, .string vt, lr], .agg (vC a).toArray, .agg (vC b).toArray] w (FinV r w) := by
  have H5 := hide (below_5 w (.cells #[t0, v, t2, t3, t4, t5, t6, t7, t8, t9, t10, t11] 34) (.cells #[.int .i64 7, .string nm, .int .i64 v1, .int .i64 v2, .int .i64 v3, .string vt, lr] 31) (.cells (vC a).toArray 28) (.cells (vC b).toArray 28) (.cells (vC Z4).toArray 28))
  have hnew := World.alloc_heap_new ((((w.alloc (.cells #[t0, v, t2, t3, t4, t5, t6, t7, t8, t9, t10, t11] 34)).alloc (.cells #[.int .i64 7, .string nm, .int .i64 v1, .int .i64 v2, .int .i64 v3, .string vt, lr] 31)).alloc (.cells (vC a).toArray 28)).alloc (.cells (vC b).toArray 28)) (.cells (vC Z4).toArray 28)
  rw [World.size_alloc, World.size_alloc, World.size_alloc, World.size_alloc] at hnew
  have HN := hide hnew
  clear hnew
  have C := hide hC
  clear hC
  obtain ⟨⟨r1, r2, r3, r4⟩, re⟩ := r
  go_enter Try.func46, Try.ntmps46
  go_wp2_with (go_at_call 66; refine (unhide C _).mono ?_; rintro e W1 ⟨rfl, hb1⟩; have hn1 := (hb1.block (w.heap.size + 1 + 1 + 1 + 1) (by simp)).trans (unhide HN); have hn2 := (Array.getElem?_eq_some_iff.1 hn1).1; have y0 := cell_of_row _ _ 0 _ _ _ hn1; have y1 := cell_of_row _ _ 1 _ _ _ hn1; have y2 := cell_of_row _ _ 2 _ _ _ hn1; have y3 := cell_of_row _ _ 3 _ _ _ hn1; have fz : ∀ j, W1.frozen? ⟨w.heap.size + 1 + 1 + 1 + 1, j, none⟩ = false := (fun j => by simp [World.frozen?, hn1]); have fz0 := fz 0; have fz1 := fz 1; have fz2 := fz 2; have fz3 := fz 3; clear fz; simp at y0 y1 y2 y3)
  refine bodyPost_ret (v := .tuple #[.agg (vC (r1, r2, r3, r4)).toArray, .int .i64 re]) (by simp [results, Try.results46, go_sem, y0, y1, y2, y3, hn2]) rfl ⟨rfl, ?_⟩
  have hB := (unhide H5).trans (hb1.mono (unhide H5).size)
  exact (((hB.setCell (p := ⟨w.heap.size + 1 + 1 + 1 + 1, 0, none⟩) (by simp; omega) _).setCell (p := ⟨w.heap.size + 1 + 1 + 1 + 1, 1, none⟩) (by simp; omega) _).setCell (p := ⟨w.heap.size + 1 + 1 + 1 + 1, 2, none⟩) (by simp; omega) _).setCell (p := ⟨w.heap.size + 1 + 1 + 1 + 1, 3, none⟩) (by simp; omega) _
set_option maxHeartbeats 1000000 in
theorem valueOf_8 (t0 t2 t3 t4 t5 t6 t7 t8 t9 t10 t11 v lr : Value) (p : Option Addr) (rn rcap : Nat) (nm vt : ByteArray) (v1 v2 v3 : Int) (a b : V4) (w : World) (r : V4 × Int) (hC : ∀ W, Calls Try.prog 66 #[.int .i64 8, .agg (vC a).toArray, .agg (vC b).toArray] W (FinV r W)) :
    Calls Try.prog 46 #[Tab t0 v t2 t3 t4 t5 t6 t7 t8 t9 t10 t11, .slice p rn rcap, .agg #[.int .i64 8, .string nm, .int .i64 v1, .int .i64 v2, .int .i64 v3, .string vt, lr], .agg (vC a).toArray, .agg (vC b).toArray] w (FinV r w) := by
  have H5 := hide (below_5 w (.cells #[t0, v, t2, t3, t4, t5, t6, t7, t8, t9, t10, t11] 34) (.cells #[.int .i64 8, .string nm, .int .i64 v1, .int .i64 v2, .int .i64 v3, .string vt, lr] 31) (.cells (vC a).toArray 28) (.cells (vC b).toArray 28) (.cells (vC Z4).toArray 28))
  have hnew := World.alloc_heap_new ((((w.alloc (.cells #[t0, v, t2, t3, t4, t5, t6, t7, t8, t9, t10, t11] 34)).alloc (.cells #[.int .i64 8, .string nm, .int .i64 v1, .int .i64 v2, .int .i64 v3, .string vt, lr] 31)).alloc (.cells (vC a).toArray 28)).alloc (.cells (vC b).toArray 28)) (.cells (vC Z4).toArray 28)
  rw [World.size_alloc, World.size_alloc, World.size_alloc, World.size_alloc] at hnew
  have HN := hide hnew
  clear hnew
  have C := hide hC
  clear hC
  obtain ⟨⟨r1, r2, r3, r4⟩, re⟩ := r
  go_enter Try.func46, Try.ntmps46
  go_wp2_with (go_at_call 66; refine (unhide C _).mono ?_; rintro e W1 ⟨rfl, hb1⟩; have hn1 := (hb1.block (w.heap.size + 1 + 1 + 1 + 1) (by simp)).trans (unhide HN); have hn2 := (Array.getElem?_eq_some_iff.1 hn1).1; have y0 := cell_of_row _ _ 0 _ _ _ hn1; have y1 := cell_of_row _ _ 1 _ _ _ hn1; have y2 := cell_of_row _ _ 2 _ _ _ hn1; have y3 := cell_of_row _ _ 3 _ _ _ hn1; have fz : ∀ j, W1.frozen? ⟨w.heap.size + 1 + 1 + 1 + 1, j, none⟩ = false := (fun j => by simp [World.frozen?, hn1]); have fz0 := fz 0; have fz1 := fz 1; have fz2 := fz 2; have fz3 := fz 3; clear fz; simp at y0 y1 y2 y3)
  refine bodyPost_ret (v := .tuple #[.agg (vC (r1, r2, r3, r4)).toArray, .int .i64 re]) (by simp [results, Try.results46, go_sem, y0, y1, y2, y3, hn2]) rfl ⟨rfl, ?_⟩
  have hB := (unhide H5).trans (hb1.mono (unhide H5).size)
  exact (((hB.setCell (p := ⟨w.heap.size + 1 + 1 + 1 + 1, 0, none⟩) (by simp; omega) _).setCell (p := ⟨w.heap.size + 1 + 1 + 1 + 1, 1, none⟩) (by simp; omega) _).setCell (p := ⟨w.heap.size + 1 + 1 + 1 + 1, 2, none⟩) (by simp; omega) _).setCell (p := ⟨w.heap.size + 1 + 1 + 1 + 1, 3, none⟩) (by simp; omega) _
set_option maxHeartbeats 1000000 in
theorem valueOf_t (t0 t2 t3 t4 t5 t6 t7 t8 t9 t10 t11 v lr : Value) (p : Option Addr) (rn rcap : Nat) (nm vt : ByteArray) (v1 v2 v3 : Int) (a b : V4) (w : World) (k t : Int) (hk : k ≠ 1 ∧ k ≠ 2 ∧ k ≠ 4 ∧ k ≠ 6 ∧ k ≠ 7 ∧ k ≠ 8) (hC : ∀ W, Calls Try.prog 68 #[.int .i64 k, .agg (vC a).toArray, .agg (vC b).toArray] W fun e W' => e = .returned (.int .i64 t) ∧ Below W.heap.size W W') :
    Calls Try.prog 46 #[Tab t0 v t2 t3 t4 t5 t6 t7 t8 t9 t10 t11, .slice p rn rcap, .agg #[.int .i64 k, .string nm, .int .i64 v1, .int .i64 v2, .int .i64 v3, .string vt, lr], .agg (vC a).toArray, .agg (vC b).toArray] w (FinV (valT t, 0) w) := by
  have H5 := hide (below_5 w (.cells #[t0, v, t2, t3, t4, t5, t6, t7, t8, t9, t10, t11] 34) (.cells #[.int .i64 k, .string nm, .int .i64 v1, .int .i64 v2, .int .i64 v3, .string vt, lr] 31) (.cells (vC a).toArray 28) (.cells (vC b).toArray 28) (.cells (vC Z4).toArray 28))
  have hnew := World.alloc_heap_new ((((w.alloc (.cells #[t0, v, t2, t3, t4, t5, t6, t7, t8, t9, t10, t11] 34)).alloc (.cells #[.int .i64 k, .string nm, .int .i64 v1, .int .i64 v2, .int .i64 v3, .string vt, lr] 31)).alloc (.cells (vC a).toArray 28)).alloc (.cells (vC b).toArray 28)) (.cells (vC Z4).toArray 28)
  rw [World.size_alloc, World.size_alloc, World.size_alloc, World.size_alloc] at hnew
  have HN := hide hnew
  clear hnew
  have C := hide hC
  have CV := hide (fun W => valueOfTruth_any t W)
  have h1 : (k == 1) = false := beq_eq_false_iff_ne.2 (by omega)
  have h2 : (k == 2) = false := beq_eq_false_iff_ne.2 (by omega)
  have h4 : (k == 4) = false := beq_eq_false_iff_ne.2 (by omega)
  have h6 : (k == 6) = false := beq_eq_false_iff_ne.2 (by omega)
  have h7 : (k == 7) = false := beq_eq_false_iff_ne.2 (by omega)
  have h8 : (k == 8) = false := beq_eq_false_iff_ne.2 (by omega)
  clear hC hk
  generalize valT t = r at *
  obtain ⟨r1, r2, r3, r4⟩ := r
  go_enter Try.func46, Try.ntmps46
  go_wp2_with fail
  refine (unhide C _).mono ?_
  rintro e W0 ⟨rfl, hb0⟩
  have HB0 := hide hb0
  clear hb0
  go_wp2_with fail
  refine (unhide CV _).mono ?_
  rintro e W1 ⟨rfl, hb1⟩
  have hb1 := (unhide HB0).trans (hb1.mono (unhide HB0).size)
  have hn1 := (hb1.block (w.heap.size + 1 + 1 + 1 + 1) (by simp)).trans (unhide HN); have hn2 := (Array.getElem?_eq_some_iff.1 hn1).1; have y0 := cell_of_row _ _ 0 _ _ _ hn1; have y1 := cell_of_row _ _ 1 _ _ _ hn1; have y2 := cell_of_row _ _ 2 _ _ _ hn1; have y3 := cell_of_row _ _ 3 _ _ _ hn1; have fz : ∀ j, W1.frozen? ⟨w.heap.size + 1 + 1 + 1 + 1, j, none⟩ = false := (fun j => by simp [World.frozen?, hn1]); have fz0 := fz 0; have fz1 := fz 1; have fz2 := fz 2; have fz3 := fz 3; clear fz; simp at y0 y1 y2 y3
  go_wp2_with fail
  refine bodyPost_ret (v := .tuple #[.agg (vC (r1, r2, r3, r4)).toArray, .int .i64 0]) (by simp [results, Try.results46, go_sem, y0, y1, y2, y3, hn2]) rfl ⟨rfl, ?_⟩
  have hB := (unhide H5).trans (hb1.mono (unhide H5).size)
  exact (((hB.setCell (p := ⟨w.heap.size + 1 + 1 + 1 + 1, 0, none⟩) (by simp; omega) _).setCell (p := ⟨w.heap.size + 1 + 1 + 1 + 1, 1, none⟩) (by simp; omega) _).setCell (p := ⟨w.heap.size + 1 + 1 + 1 + 1, 2, none⟩) (by simp; omega) _).setCell (p := ⟨w.heap.size + 1 + 1 + 1 + 1, 3, none⟩) (by simp; omega) _
theorem valueOf_of (t0 t2 t3 t4 t5 t6 t7 t8 t9 t10 t11 v lr : Value) (p : Option Addr) (rn rcap : Nat) (nm vt : ByteArray) (v1 v2 v3 : Int) (a b : V4) (w : World) (k t : Int) (col rc : V4 × Int) (hCol : k = 2 → ∀ W, Below w.heap.size w W → Calls Try.prog 65 #[Tab t0 v t2 t3 t4 t5 t6 t7 t8 t9 t10 t11, .slice p rn rcap, .string nm] W (FinV col W))
    (hRec : ∀ W, Calls Try.prog 66 #[.int .i64 k, .agg (vC a).toArray, .agg (vC b).toArray] W (FinV rc W))
    (hTru : ∀ W, Calls Try.prog 68 #[.int .i64 k, .agg (vC a).toArray, .agg (vC b).toArray] W fun e W' => e = .returned (.int .i64 t) ∧ Below W.heap.size W W') :
    Calls Try.prog 46 #[Tab t0 v t2 t3 t4 t5 t6 t7 t8 t9 t10 t11, .slice p rn rcap, .agg #[.int .i64 k, .string nm, .int .i64 v1, .int .i64 v2, .int .i64 v3, .string vt, lr], .agg (vC a).toArray, .agg (vC b).toArray] w (FinV (valueR k (v1, v2, v3, vt) col rc t) w) := by
  unfold valueR
  by_cases h1 : k = 1
  · rw [if_pos h1]; subst h1; exact valueOf_1 t0 t2 t3 t4 t5 t6 t7 t8 t9 t10 t11 v lr p rn rcap nm vt v1 v2 v3 a b w
  rw [if_neg h1]
  by_cases h2 : k = 2
  · rw [if_pos h2]; have h := hCol h2; subst h2; exact valueOf_2 t0 t2 t3 t4 t5 t6 t7 t8 t9 t10 t11 v lr p rn rcap nm vt v1 v2 v3 a b w _ h
  rw [if_neg h2]
  by_cases h3 : k = 4 ∨ k = 6 ∨ k = 7 ∨ k = 8
  · rw [if_pos h3]
    rcases h3 with rfl | rfl | rfl | rfl
    · exact valueOf_4 t0 t2 t3 t4 t5 t6 t7 t8 t9 t10 t11 v lr p rn rcap nm vt v1 v2 v3 a b w _ hRec
    · exact valueOf_6 t0 t2 t3 t4 t5 t6 t7 t8 t9 t10 t11 v lr p rn rcap nm vt v1 v2 v3 a b w _ hRec
    · exact valueOf_7 t0 t2 t3 t4 t5 t6 t7 t8 t9 t10 t11 v lr p rn rcap nm vt v1 v2 v3 a b w _ hRec
    · exact valueOf_8 t0 t2 t3 t4 t5 t6 t7 t8 t9 t10 t11 v lr p rn rcap nm vt v1 v2 v3 a b w _ hRec
  rw [if_neg h3]
  exact valueOf_t t0 t2 t3 t4 t5 t6 t7 t8 t9 t10 t11 v lr p rn rcap nm vt v1 v2 v3 a b w k t (by omega) hTru
end Go.Proofs.Ytliefgkhpgigaaa
