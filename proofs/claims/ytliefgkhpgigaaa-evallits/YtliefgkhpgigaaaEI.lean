/-
  What package eval's Type returns: the fold of its types.
-/
import Derived.Test.YtliefgkhpgigaaaEH
namespace Go.Proofs.Ytliefgkhpgigaaa
open Go.RowKit
set_option linter.unusedSimpArgs false
set_option linter.unusedVariables false

abbrev typeF (cs : List C3) (r : Ex) (a b : Int) : Int × Int := typeR cs r.k r.nm r.v.1 a b
set_option maxHeartbeats 1000000 in
theorem typeC_any (t0 t2 t3 t4 t5 t6 t7 t8 t9 t10 t11 v lr : Value) (cs : List C3) (k : Int) (nm vt : ByteArray) (v1 v2 v3 a b : Int) (bt : Nat) (w : World) (hv : ColsOf v cs w) (hbt : w.heap[bt]? = some (.cells #[t0, v, t2, t3, t4, t5, t6, t7, t8, t9, t10, t11] 34 (0, 0))) :
    Calls Try.prog 37 #[.agg #[.int .i64 k, .string nm, .int .i64 v1, .int .i64 v2, .int .i64 v3, .string vt, lr], .int .i64 a, .int .i64 b, .pointer (some ⟨bt, 0, none⟩)] w fun x W' => x = .returned (.tuple #[.int .i64 (typeR cs k nm v1 a b).1, .int .i64 (typeR cs k nm v1 a b).2]) ∧ Below w.heap.size w W' := by
  have hlt := (Array.getElem?_eq_some_iff.1 hbt).1
  have h1 : Below w.heap.size w (w.alloc (.cells #[.int .i64 k, .string nm, .int .i64 v1, .int .i64 v2, .int .i64 v3, .string vt, lr] 31)) := (Below.refl _ w).alloc (Nat.le_refl _) _
  have C := hide (typeOf_any t0 t2 t3 t4 t5 t6 t7 t8 t9 t10 t11 v lr cs nm vt v1 v2 v3 a b _ k (hv.call h1))
  have c0 := cell_of_row w _ 0 _ _ _ hbt
  have c1 := cell_of_row w _ 1 _ _ _ hbt
  have c2 := cell_of_row w _ 2 _ _ _ hbt
  have c3 := cell_of_row w _ 3 _ _ _ hbt
  have c4 := cell_of_row w _ 4 _ _ _ hbt
  have c5 := cell_of_row w _ 5 _ _ _ hbt
  have c6 := cell_of_row w _ 6 _ _ _ hbt
  have c7 := cell_of_row w _ 7 _ _ _ hbt
  have c8 := cell_of_row w _ 8 _ _ _ hbt
  have c9 := cell_of_row w _ 9 _ _ _ hbt
  have c10 := cell_of_row w _ 10 _ _ _ hbt
  have c11 := cell_of_row w _ 11 _ _ _ hbt
  simp at c0 c1 c2 c3 c4 c5 c6 c7 c8 c9 c10 c11
  generalize typeR cs k nm v1 a b = tr at *
  clear hv hbt
  go_enter Try.func37, Try.ntmps37
  go_wp2_with (go_at_call 38; refine (unhide C).mono ?_; rintro e W1 ⟨rfl, hb1⟩)
  go_ret2
  exact ⟨rfl, h1.trans (hb1.mono h1.size)⟩

theorem typeC_of (t0 t2 t3 t4 t5 t6 t7 t8 t9 t10 t11 v : Value) (cs : List C3) (bt : Nat) (w : World) (hv : ColsOf v cs w) (hbt : w.heap[bt]? = some (.cells #[t0, v, t2, t3, t4, t5, t6, t7, t8, t9, t10, t11] 34 (0, 0))) : Hid (HOf (typeF cs) (fun _ => True) bt w) := by
  show ∀ _, _
  intro r lr a b W _ _ hb
  exact typeC_any t0 t2 t3 t4 t5 t6 t7 t8 t9 t10 t11 v lr cs r.k r.nm r.v.2.2.2 r.v.1 r.v.2.1 r.v.2.2.1 a b bt W (hv.call hb) ((hb.block _ (Array.getElem?_eq_some_iff.1 hbt).1).trans hbt)
set_option maxHeartbeats 1000000 in
theorem type_any (t0 t2 t3 t4 t5 t6 t7 t8 t9 t10 t11 v lv0 : Value) (cs : List C3) (e0 : Ex) (w : World) (hv : ColsOf v cs w) (hD : e0.deep ≤ 1000) (hR : Rep e0 lv0 w) :
    Calls Try.prog 16 #[Tab t0 v t2 t3 t4 t5 t6 t7 t8 t9 t10 t11, .agg (exC e0 lv0).toArray] w (Fin (foldF 0 (typeF cs) e0) w) := by
  have h2 := below_two w (.cells #[t0, v, t2, t3, t4, t5, t6, t7, t8, t9, t10, t11] 34) (.cells (exC e0 lv0).toArray 31)
  have hbt : ((w.alloc (.cells #[t0, v, t2, t3, t4, t5, t6, t7, t8, t9, t10, t11] 34)).alloc (.cells (exC e0 lv0).toArray 31)).heap[w.heap.size]? = some (.cells #[t0, v, t2, t3, t4, t5, t6, t7, t8, t9, t10, t11] 34 (0, 0)) := (Below.heap_alloc _ _ _ (by simp)).trans (World.alloc_heap_new w _)
  have C := hide (foldI_any (typeF cs) (fun _ => True) (fun _ _ _ _ => trivial) w.heap.size e0 lv0 _ hD (hR.call h2) trivial (typeC_of t0 t2 t3 t4 t5 t6 t7 t8 t9 t10 t11 v cs w.heap.size _ (hv.call h2) hbt))
  clear hbt hv hR
  generalize foldF 0 (typeF cs) e0 = tr at *
  go_enter Try.func16, Try.ntmps16
  go_wp2_with (go_at_call 36; refine (unhide C).mono ?_; rintro e W1 ⟨rfl, hb1⟩)
  go_ret2
  exact ⟨rfl, h2.trans (hb1.mono h2.size)⟩
end Go.Proofs.Ytliefgkhpgigaaa
