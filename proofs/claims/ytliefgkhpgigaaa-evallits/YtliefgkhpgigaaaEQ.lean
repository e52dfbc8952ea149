/-
  What package eval's Eval hands to fold: valueOf, over a table and a row that lie in variables.
-/
import Derived.Test.YtliefgkhpgigaaaEP
namespace Go.Proofs.Ytliefgkhpgigaaa
open Go.RowKit
set_option linter.unusedSimpArgs false
set_option linter.unusedVariables false

set_option maxHeartbeats 1000000 in
/-- of any answer of valueOf -/
theorem evalC_of (t0 t2 t3 t4 t5 t6 t7 t8 t9 t10 t11 v lr : Value) (p : Option Addr) (rn rcap : Nat) (k : Int) (nm vt : ByteArray) (v1 v2 v3 : Int) (a b r : V4) (er : Int) (bt br : Nat) (w : World)
    (hbt : w.heap[bt]? = some (.cells #[t0, v, t2, t3, t4, t5, t6, t7, t8, t9, t10, t11] 34 (0, 0))) (T : TypeId) (hbr : w.heap[br]? = some (.cells #[.slice p rn rcap] T (0, 0)))
    (hC : ∀ W, Below w.heap.size w W → Calls Try.prog 46 #[Tab t0 v t2 t3 t4 t5 t6 t7 t8 t9 t10 t11, .slice p rn rcap, .agg #[.int .i64 k, .string nm, .int .i64 v1, .int .i64 v2, .int .i64 v3, .string vt, lr], .agg (vC a).toArray, .agg (vC b).toArray] W fun e W' => e = .returned (.tuple #[.agg (vC r).toArray, .int .i64 er]) ∧ Below W.heap.size W W') :
    Calls Try.prog 45 #[.agg #[.int .i64 k, .string nm, .int .i64 v1, .int .i64 v2, .int .i64 v3, .string vt, lr], .agg (vC a).toArray, .agg (vC b).toArray, .pointer (some ⟨bt, 0, none⟩), .pointer (some ⟨br, 0, none⟩)] w fun x W' => x = .returned (.tuple #[.agg (vC r).toArray, .int .i64 er]) ∧ Below w.heap.size w W' := by
  have hlt := (Array.getElem?_eq_some_iff.1 hbt).1
  have hlr := (Array.getElem?_eq_some_iff.1 hbr).1
  have C := hide hC
  clear hC
  have c0 := cell_of_row w _ 0 _ _ _ hbt
  have c1 := cell_of_row w _ 1 _ _ _ hbt
  have c2 := cell_of_row w _ 2 _ _ _ hbt
  have c3 := cell_of_row w _ 3 _ _ _ hbt
  have c4 := cell_of_row w _ 4 _ _ _ hbt
  have c5 := cell_of_row w _ 5 _ _ _ hbt
  have c6 := cell_of_row w _ 6 _ _ _ hbt
  have c7 := cell_of_row w _ 7 _ _ _ hbt
  have c8 := cell_of_row w _ 8 _ _ _ hbt
  have c9 := cell_of_row w _ 9 _ _ _ hbt
  have c10 := cell_of_row w _ 10 _ _ _ hbt
  have c11 := cell_of_row w _ 11 _ _ _ hbt
  have d0 := cell_of_row w _ 0 _ _ _ hbr
  simp at c0 c1 c2 c3 c4 c5 c6 c7 c8 c9 c10 c11 d0
  clear hbt hbr
  have h4 : Below w.heap.size w ((((w.alloc (.cells #[.int .i64 k, .string nm, .int .i64 v1, .int .i64 v2, .int .i64 v3, .string vt, lr] 31)).alloc (.cells (vC a).toArray 28)).alloc (.cells (vC b).toArray 28)).alloc (.cells (vC Z4).toArray 28)) :=
    ((((Below.refl _ w).alloc (Nat.le_refl _) _).alloc (by simp) _).alloc (by simp; omega) _).alloc (by simp; omega) _
  have hnew := World.alloc_heap_new (((w.alloc (.cells #[.int .i64 k, .string nm, .int .i64 v1, .int .i64 v2, .int .i64 v3, .string vt, lr] 31)).alloc (.cells (vC a).toArray 28)).alloc (.cells (vC b).toArray 28)) (.cells (vC Z4).toArray 28)
  rw [World.size_alloc, World.size_alloc, World.size_alloc] at hnew
  have l1 : bt < w.heap.size + 1 := by omega
  have l2 : bt < w.heap.size + 1 + 1 := by omega
  have l3 : bt < w.heap.size + 1 + 1 + 1 := by omega
  have m1 : br < w.heap.size + 1 := by omega
  have m2 : br < w.heap.size + 1 + 1 := by omega
  have m3 : br < w.heap.size + 1 + 1 + 1 := by omega
  have H4 := hide h4
  have HN := hide hnew
  clear h4 hnew
  go_enter Try.func45, Try.ntmps45
  go_wp2_with (go_at_call 46; refine (unhide C _ (unhide H4)).mono ?_; rintro e W1 ⟨rfl, hb1⟩; have hn1 := (hb1.block (w.heap.size + 1 + 1 + 1) (by simp)).trans (unhide HN); have hn2 := (Array.getElem?_eq_some_iff.1 hn1).1; have y0 := cell_of_row _ _ 0 _ _ _ hn1; have y1 := cell_of_row _ _ 1 _ _ _ hn1; have y2 := cell_of_row _ _ 2 _ _ _ hn1; have y3 := cell_of_row _ _ 3 _ _ _ hn1; have fz : ∀ j, W1.frozen? ⟨w.heap.size + 1 + 1 + 1, j, none⟩ = false := (fun j => by simp [World.frozen?, hn1]); have fz0 := fz 0; have fz1 := fz 1; have fz2 := fz 2; have fz3 := fz 3; clear fz; simp at y0 y1 y2 y3)
  refine bodyPost_ret (v := .tuple #[.agg (vC r).toArray, .int .i64 er]) (by simp [results, Try.results45, go_sem, y0, y1, y2, y3, hn2]) rfl ⟨rfl, ?_⟩
  have hB := (unhide H4).trans (hb1.mono (unhide H4).size)
  exact (((hB.setCell (p := ⟨w.heap.size + 1 + 1 + 1, 0, none⟩) (by simp; omega) _).setCell (p := ⟨w.heap.size + 1 + 1 + 1, 1, none⟩) (by simp; omega) _).setCell (p := ⟨w.heap.size + 1 + 1 + 1, 2, none⟩) (by simp; omega) _).setCell (p := ⟨w.heap.size + 1 + 1 + 1, 3, none⟩) (by simp; omega) _
end Go.Proofs.Ytliefgkhpgigaaa
