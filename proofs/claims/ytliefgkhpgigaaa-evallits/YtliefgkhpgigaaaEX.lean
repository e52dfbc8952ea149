/-
  What package eval's Holds returns.
-/
import Derived.Test.YtliefgkhpgigaaaEW
namespace Go.Proofs.Ytliefgkhpgigaaa
open Go.RowKit
set_option linter.unusedSimpArgs false
set_option linter.unusedVariables false

def holdsV (r : V4 × Int) : Bool × Bool × Int := (truV r.1 == 1, r.1.1 != 0, r.2)
def holdsR (cs : List C3) (vs : List V4) (e : Ex) : Bool × Bool × Int := if e.k = 0 then (true, true, 0) else holdsV (evalR cs vs e)
def Fin3 (r : Bool × Bool × Int) (w : World) (e : Ending) (W : World) : Prop := e = .returned (.tuple #[.bool r.1, .bool r.2.1, .int .i64 r.2.2]) ∧ Below w.heap.size w W
theorem hs_call {w : World} {b : Nat} {o : Obj} {X Y : World} (h : Below w.heap.size w X ∧ X.heap[b]? = some o) (hb : Below X.heap.size X Y) : Below w.heap.size w Y ∧ Y.heap[b]? = some o :=
  ⟨h.1.trans (hb.mono h.1.size), (hb.block _ (Array.getElem?_eq_some_iff.1 h.2).1).trans h.2⟩
set_option maxHeartbeats 1000000 in
theorem holds_0 (t0 t2 t3 t4 t5 t6 t7 t8 t9 t10 t11 v row : Value) (e0 : Ex) (lv0 : Value) (w : World) (hk : e0.k = 0) :
    Calls Try.prog 22 #[Tab t0 v t2 t3 t4 t5 t6 t7 t8 t9 t10 t11, row, .agg (exC e0 lv0).toArray] w (Fin3 (true, true, 0) w) := by
  have hk0 : (e0.k == 0) = true := by rw [hk]; rfl
  clear hk
  go_enter Try.func22, Try.ntmps22
  go_wp2_with fail
  refine bodyPost_ret (v := .tuple #[.bool true, .bool true, .int .i64 0]) (by simp [results, Try.results22, go_sem]) rfl ⟨rfl, below_2 w _ _⟩
set_option maxHeartbeats 2000000 in
set_option maxRecDepth 100000 in
theorem holds_of (t0 t2 t3 t4 t5 t6 t7 t8 t9 t10 t11 v row : Value) (e0 : Ex) (lv0 : Value) (r : V4 × Int) (w : World) (hk : e0.k ≠ 0) (hC : ∀ W, Below w.heap.size w W → Calls Try.prog 19 #[Tab t0 v t2 t3 t4 t5 t6 t7 t8 t9 t10 t11, row, .agg (exC e0 lv0).toArray] W (FinV r W)) :
    Calls Try.prog 22 #[Tab t0 v t2 t3 t4 t5 t6 t7 t8 t9 t10 t11, row, .agg (exC e0 lv0).toArray] w (Fin3 (holdsV r) w) := by
  have hk : (e0.k == 0) = false := beq_eq_false_iff_ne.2 hk
  have CT := hide (fun W => truthOf_any r.1 W)
  have C := hide hC
  clear hC
  obtain ⟨⟨r1, r2, r3, r4⟩, re⟩ := r
  unfold holdsV
  generalize truV (r1, r2, r3, r4) = tv at *
  have h2 := below_2 w (.cells #[t0, v, t2, t3, t4, t5, t6, t7, t8, t9, t10, t11] 34) (.cells (exC e0 lv0).toArray 31)
  have H2 := hide h2
  clear h2
  go_enter Try.func22, Try.ntmps22
  go_wp2_with fail
  refine (unhide C _ (unhide H2)).mono ?_
  rintro e W1 ⟨rfl, hb1⟩
  clear C
  have HB1 := hide ((unhide H2).trans (hb1.mono (unhide H2).size))
  clear hb1 H2
  go_wp2_with fail
  rename_i hrest
  have hS0 := hide (⟨(unhide HB1).alloc (unhide HB1).size _, World.alloc_heap_new W1 (.cells #[.int .i64 r1, .int .i64 r2, .int .i64 r3, .string r4] 28)⟩ : Below w.heap.size w (W1.alloc (.cells #[.int .i64 r1, .int .i64 r2, .int .i64 r3, .string r4] 28)) ∧ (W1.alloc (.cells #[.int .i64 r1, .int .i64 r2, .int .i64 r3, .string r4] 28)).heap[W1.heap.size]? = some (.cells #[.int .i64 r1, .int .i64 r2, .int .i64 r3, .string r4] 28 (0, 0)))
  refine wp_region_noPanic ?_
  refine wp_region_held_drew (S := (fun X => Below w.heap.size w X ∧ X.heap[W1.heap.size]? = some (.cells #[.int .i64 r1, .int .i64 r2, .int .i64 r3, .string r4] 28 (0, 0)))) (by kernel_rfl) (hs_call (unhide hS0) (Below.refl _ _).drew) (fun hHeld => ?_)
  clear hS0
  revert hHeld
  generalize World.drew _ = Wd
  intro hHeld
  refine wpAnyH_take (i := 0) (oi := ?oi20001) (v := ?v20001) ?hi20001 (by kernel_rfl) (by kernel_rfl) (by kernel_rfl) (fun _ _ _ h => h) (Or.inl ⟨?hw20001, ?hy20001⟩) (by assumption) ?rest20001
  case hi20001 => (simp only [List.getElem?_toArray, List.getElem?_cons_zero]; rfl)
  case hw20001 => rfl
  case hy20001 => first | (intro wx hSw; obtain ⟨-, ha⟩ := hSw; have x0 := cell_of_row _ _ 0 _ _ _ ha; have x1 := cell_of_row _ _ 1 _ _ _ ha; have x2 := cell_of_row _ _ 2 _ _ _ ha; have x3 := cell_of_row _ _ 3 _ _ _ ha; simp at x0 x1 x2 x3; go_simp; done) | (intro wx hSw; obtain ⟨-, ha⟩ := hSw; have x0 := cell_of_row _ _ 0 _ _ _ ha; have x1 := cell_of_row _ _ 1 _ _ _ ha; have x2 := cell_of_row _ _ 2 _ _ _ ha; have x3 := cell_of_row _ _ 3 _ _ _ ha; simp at x0 x1 x2 x3; go_simp; with_reducible rfl)
  simp only [Act.put, List.setIfInBounds_toArray, List.set_cons_zero, List.set_cons_succ]
  refine wpAnyH_take (i := 3) (oi := ?oi20002) (v := ?v20002) ?hi20002 (by kernel_rfl) (by kernel_rfl) (by kernel_rfl) (fun _ _ _ h => h) (Or.inl ⟨?hw20002, ?hy20002⟩) (by assumption) ?rest20002
  case hi20002 => (simp only [List.getElem?_toArray, List.getElem?_cons_zero, List.getElem?_cons_succ]; rfl)
  case hw20002 => rfl
  case hy20002 => first | (intro wx hSw; go_simp; done) | (intro wx hSw; go_simp; with_reducible rfl)
  simp only [Act.put, List.setIfInBounds_toArray, List.set_cons_zero, List.set_cons_succ]
  refine wpAnyH_take (i := 4) (oi := ?oi20003) (v := ?v20003) ?hi20003 (by kernel_rfl) (by kernel_rfl) (by kernel_rfl) (fun _ _ _ h => h) (Or.inl ⟨?hw20003, ?hy20003⟩) (by assumption) ?rest20003
  case hi20003 => (simp only [List.getElem?_toArray, List.getElem?_cons_zero, List.getElem?_cons_succ]; rfl)
  case hw20003 => rfl
  case hy20003 => first | (intro wx hSw; obtain ⟨-, ha⟩ := hSw; have x0 := cell_of_row _ _ 0 _ _ _ ha; have x1 := cell_of_row _ _ 1 _ _ _ ha; have x2 := cell_of_row _ _ 2 _ _ _ ha; have x3 := cell_of_row _ _ 3 _ _ _ ha; simp at x0 x1 x2 x3; go_simp; done) | (intro wx hSw; obtain ⟨-, ha⟩ := hSw; have x0 := cell_of_row _ _ 0 _ _ _ ha; have x1 := cell_of_row _ _ 1 _ _ _ ha; have x2 := cell_of_row _ _ 2 _ _ _ ha; have x3 := cell_of_row _ _ 3 _ _ _ ha; simp at x0 x1 x2 x3; go_simp; with_reducible rfl)
  simp only [Act.put, List.setIfInBounds_toArray, List.set_cons_zero, List.set_cons_succ]
  refine wpAnyH_take (i := 5) (oi := ?oi20004) (v := ?v20004) ?hi20004 (by kernel_rfl) (by kernel_rfl) (by kernel_rfl) (fun _ _ _ h => h) (Or.inl ⟨?hw20004, ?hy20004⟩) (by assumption) ?rest20004
  case hi20004 => (simp only [List.getElem?_toArray, List.getElem?_cons_zero, List.getElem?_cons_succ]; rfl)
  case hw20004 => rfl
  case hy20004 => first | (intro wx hSw; go_simp; done) | (intro wx hSw; go_simp; with_reducible rfl)
  simp only [Act.put, List.setIfInBounds_toArray, List.set_cons_zero, List.set_cons_succ]
  refine wpAnyH_take (i := 6) (oi := ?oi20005) (v := ?v20005) ?hi20005 (by kernel_rfl) (by kernel_rfl) (by kernel_rfl) (fun _ _ _ h => h) (Or.inl ⟨?hw20005, ?hy20005⟩) (by assumption) ?rest20005
  case hi20005 => (simp only [List.getElem?_toArray, List.getElem?_cons_zero, List.getElem?_cons_succ]; rfl)
  case hw20005 => rfl
  case hy20005 => first | (intro wx hSw; go_simp; done) | (intro wx hSw; go_simp; with_reducible rfl)
  simp only [Act.put, List.setIfInBounds_toArray, List.set_cons_zero, List.set_cons_succ]
  have hW1 := hide hHeld
  refine wpAnyH_ready (rs := [1]) (by kernel_rfl) (by simp) ?_
  refine AllReadyH.cons rfl (fun K20006 hK20006 => ?_) AllReadyH.nil
  go_simp
  go_wp2_with (go_at_call 52; refine (unhide CT _).mono ?_; rintro e W2 ⟨rfl, hb2⟩)
  refine hK20006.out _ _ ?hs20006 (fun hHeld20006 => ?_)
  case hs20006 => exact hs_call (unhide hW1) hb2
  clear hHeld
  have hHeld := hHeld20006; clear hHeld20006 hK20006 K20006
  clear hb2 hW1
  refine wpAnyH_take (i := 2) (oi := ?oi20007) (v := ?v20007) ?hi20007 (by kernel_rfl) (by kernel_rfl) (by kernel_rfl) (fun _ _ _ h => h) (Or.inl ⟨?hw20007, ?hy20007⟩) (by assumption) ?rest20007
  case hi20007 => (simp only [List.getElem?_toArray, List.getElem?_cons_zero, List.getElem?_cons_succ]; rfl)
  case hw20007 => rfl
  case hy20007 => first | (intro wx hSw; go_simp; done) | (intro wx hSw; go_simp; with_reducible rfl)
  simp only [Act.put, List.setIfInBounds_toArray, List.set_cons_zero, List.set_cons_succ]
  refine wpAnyH_take (i := 7) (oi := ?oi20008) (v := ?v20008) ?hi20008 (by kernel_rfl) (by kernel_rfl) (by kernel_rfl) (fun _ _ _ h => h) (Or.inl ⟨?hw20008, ?hy20008⟩) (by assumption) ?rest20008
  case hi20008 => (simp only [List.getElem?_toArray, List.getElem?_cons_zero, List.getElem?_cons_succ]; rfl)
  case hw20008 => rfl
  case hy20008 => first | (intro wx hSw; go_simp; done) | (intro wx hSw; go_simp; with_reducible rfl)
  simp only [Act.put, List.setIfInBounds_toArray, List.set_cons_zero, List.set_cons_succ]
  refine wpAnyH_take (i := 8) (oi := ?oi20009) (v := ?v20009) ?hi20009 (by kernel_rfl) (by kernel_rfl) (by kernel_rfl) (fun _ _ _ h => h) (Or.inl ⟨?hw20009, ?hy20009⟩) (by assumption) ?rest20009
  case hi20009 => (simp only [List.getElem?_toArray, List.getElem?_cons_zero, List.getElem?_cons_succ]; rfl)
  case hw20009 => rfl
  case hy20009 => first | (intro wx hSw; go_simp; done) | (intro wx hSw; go_simp; with_reducible rfl)
  simp only [Act.put, List.setIfInBounds_toArray, List.set_cons_zero, List.set_cons_succ]
  refine wpAnyH_take (i := 9) (oi := ?oi20010) (v := ?v20010) ?hi20010 (by kernel_rfl) (by kernel_rfl) (by kernel_rfl) (fun _ _ _ h => h) (Or.inl ⟨?hw20010, ?hy20010⟩) (by assumption) ?rest20010
  case hi20010 => (simp only [List.getElem?_toArray, List.getElem?_cons_zero, List.getElem?_cons_succ]; rfl)
  case hw20010 => rfl
  case hy20010 => first | (intro wx hSw; go_simp; done) | (intro wx hSw; go_simp; with_reducible rfl)
  simp only [Act.put, List.setIfInBounds_toArray, List.set_cons_zero, List.set_cons_succ]
  refine wpAnyH_done (by kernel_rfl) ?_ _
  refine NoPanic.normal ?_
  refine hrest _ _ ?_
  clear hrest
  go_wp2_with fail
  refine bodyPost_ret (v := .tuple #[.bool (tv == 1), .bool (r1 != 0), .int .i64 re]) (by simp [results, Try.results22, go_sem]) rfl ⟨rfl, hHeld.1⟩
theorem holds_any (t0 t2 t3 t4 t5 t6 t7 t8 t9 t10 t11 v : Value) (cs : List C3) (p : Option Addr) (vs : List V4) (rcap : Nat) (e0 : Ex) (lv0 : Value) (w : World) (hv : ColsOf v cs w) (hr : RowOf p vs w) (hvs : ∀ v ∈ vs, OkV v) (hD : e0.deep ≤ 1000) (hR : Rep e0 lv0 w) (hE : ExOk e0) :
    Calls Try.prog 22 #[Tab t0 v t2 t3 t4 t5 t6 t7 t8 t9 t10 t11, .slice p vs.length rcap, .agg (exC e0 lv0).toArray] w (Fin3 (holdsR cs vs e0) w) := by
  unfold holdsR
  by_cases hk : e0.k = 0
  · rw [if_pos hk]; exact holds_0 t0 t2 t3 t4 t5 t6 t7 t8 t9 t10 t11 v _ e0 lv0 w hk
  · rw [if_neg hk]
    exact holds_of t0 t2 t3 t4 t5 t6 t7 t8 t9 t10 t11 v _ e0 lv0 _ w hk (fun W hW => eval_any t0 t2 t3 t4 t5 t6 t7 t8 t9 t10 t11 v cs p vs rcap e0 lv0 W (hv.call hW) (hr.call hW) hvs hD (hR.call hW) hE)
end Go.Proofs.Ytliefgkhpgigaaa
