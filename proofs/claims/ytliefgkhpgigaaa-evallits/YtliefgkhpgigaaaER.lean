/-
  What package eval's truthFrom returns, of any answer of compared.
-/
import Derived.Test.YtliefgkhpgigaaaEO
namespace Go.Proofs.Ytliefgkhpgigaaa
open Go.RowKit
set_option linter.unusedSimpArgs false
set_option linter.unusedVariables false

theorem truV_in (v : V4) : -1 ≤ truV v ∧ truV v ≤ 1 := by
  unfold truV truI
  split
  · omega
  · split <;> omega
theorem ret_i {x y : Int} (h : x = y) : Ending.returned (.int .i64 x) = .returned (.int .i64 y) := by rw [h]
theorem below_2 (w : World) (o1 o2 : Obj) : Below w.heap.size w ((w.alloc o1).alloc o2) := ((Below.refl _ w).alloc (Nat.le_refl _) _).alloc (by simp) _
def truR (k : Int) (a b : V4) (cm : Int) : Int :=
  if k = 3 then -truV a else if k = 13 then min (truV a) (truV b) else if k = 14 then max (truV a) (truV b) else if k = 5 then truI (a.1 == 0)
  else if k = 9 ∨ k = 10 ∨ k = 11 ∨ k = 12 then cm else 0
set_option maxHeartbeats 1000000 in
theorem truthFrom_3 (a b : V4) (w : World) : Calls Try.prog 68 #[.int .i64 3, .agg (vC a).toArray, .agg (vC b).toArray] w fun e W => e = .returned (.int .i64 (-truV a)) ∧ Below w.heap.size w W := by
  have CA := hide (fun W => truthOf_any a W)
  have hi := truV_in a
  have hw : IntKind.i64.wrap (-truV a) = -truV a := IntWalk.i64_in _ (by omega)
  generalize truV a = ta at *
  go_enter Try.func68, Try.ntmps68
  go_wp2_with (go_at_call 52; refine (unhide CA _).mono ?_; rintro e W1 ⟨rfl, hb1⟩)
  go_ret
  exact ⟨rfl, (below_2 w _ _).trans (hb1.mono (below_2 w _ _).size)⟩
set_option maxHeartbeats 1000000 in
theorem truthFrom_5 (a b : V4) (w : World) : Calls Try.prog 68 #[.int .i64 5, .agg (vC a).toArray, .agg (vC b).toArray] w fun e W => e = .returned (.int .i64 (truI (a.1 == 0))) ∧ Below w.heap.size w W := by
  have CA := hide (fun W => truthIf_any (a.1 == 0) W)
  generalize truI (a.1 == 0) = ta at *
  go_enter Try.func68, Try.ntmps68
  go_wp2_with (go_at_call 72; refine (unhide CA _).mono ?_; rintro e W1 ⟨rfl, rfl⟩)
  go_ret
  exact ⟨rfl, below_2 w _ _⟩
set_option maxHeartbeats 1000000 in
theorem truthFrom_o (a b : V4) (w : World) (k : Int) (hk : k ≠ 3 ∧ k ≠ 5 ∧ k ≠ 9 ∧ k ≠ 10 ∧ k ≠ 11 ∧ k ≠ 12 ∧ k ≠ 13 ∧ k ≠ 14) : Calls Try.prog 68 #[.int .i64 k, .agg (vC a).toArray, .agg (vC b).toArray] w fun e W => e = .returned (.int .i64 0) ∧ Below w.heap.size w W := by
  have h3 : (k == 3) = false := beq_eq_false_iff_ne.2 (by omega)
  have h5 : (k == 5) = false := beq_eq_false_iff_ne.2 (by omega)
  have h9 : (k == 9) = false := beq_eq_false_iff_ne.2 (by omega)
  have h10 : (k == 10) = false := beq_eq_false_iff_ne.2 (by omega)
  have h11 : (k == 11) = false := beq_eq_false_iff_ne.2 (by omega)
  have h12 : (k == 12) = false := beq_eq_false_iff_ne.2 (by omega)
  have h13 : (k == 13) = false := beq_eq_false_iff_ne.2 (by omega)
  have h14 : (k == 14) = false := beq_eq_false_iff_ne.2 (by omega)
  clear hk
  go_enter Try.func68, Try.ntmps68
  go_wp2
  go_ret
  exact ⟨rfl, below_2 w _ _⟩
set_option maxHeartbeats 1000000 in
theorem truthFrom_c (a b : V4) (w : World) (k cm : Int) (hk : k = 9 ∨ k = 10 ∨ k = 11 ∨ k = 12) (hC : ∀ W, Calls Try.prog 80 #[.int .i64 k, .agg (vC a).toArray, .agg (vC b).toArray] W fun e W' => e = .returned (.int .i64 cm) ∧ Below W.heap.size W W') : Calls Try.prog 68 #[.int .i64 k, .agg (vC a).toArray, .agg (vC b).toArray] w fun e W => e = .returned (.int .i64 cm) ∧ Below w.heap.size w W := by
  have C := hide hC
  clear hC
  rcases hk with rfl | rfl | rfl | rfl
  all_goals
    go_enter Try.func68, Try.ntmps68
    go_wp2_with (go_at_call 80; refine (unhide C _).mono ?_; rintro e W1 ⟨rfl, hb1⟩)
    go_ret
    exact ⟨rfl, (below_2 w _ _).trans (hb1.mono (below_2 w _ _).size)⟩
theorem bb_call {w : World} {a b : V4} {X Y : World} (h : Below w.heap.size w X ∧ X.heap[w.heap.size]? = some (.cells (vC a).toArray 28 (0, 0)) ∧ X.heap[w.heap.size + 1]? = some (.cells (vC b).toArray 28 (0, 0))) (hb : Below X.heap.size X Y) :
    Below w.heap.size w Y ∧ Y.heap[w.heap.size]? = some (.cells (vC a).toArray 28 (0, 0)) ∧ Y.heap[w.heap.size + 1]? = some (.cells (vC b).toArray 28 (0, 0)) :=
  ⟨h.1.trans (hb.mono h.1.size), (hb.block _ (Array.getElem?_eq_some_iff.1 h.2.1).1).trans h.2.1, (hb.block _ (Array.getElem?_eq_some_iff.1 h.2.2).1).trans h.2.2⟩
theorem bb_new (w : World) (a b : V4) : Below w.heap.size w ((w.alloc (.cells (vC a).toArray 28)).alloc (.cells (vC b).toArray 28)) ∧ ((w.alloc (.cells (vC a).toArray 28)).alloc (.cells (vC b).toArray 28)).heap[w.heap.size]? = some (.cells (vC a).toArray 28 (0, 0)) ∧ ((w.alloc (.cells (vC a).toArray 28)).alloc (.cells (vC b).toArray 28)).heap[w.heap.size + 1]? = some (.cells (vC b).toArray 28 (0, 0)) := by
  refine ⟨below_2 w _ _, (Below.heap_alloc _ _ _ (by simp)).trans (World.alloc_heap_new w _), ?_⟩
  have := World.alloc_heap_new (w.alloc (.cells (vC a).toArray 28)) (.cells (vC b).toArray 28)
  rwa [World.size_alloc] at this
set_option maxHeartbeats 1000000 in
set_option maxRecDepth 100000 in
theorem truthFrom_13 (a b : V4) (w : World) : Calls Try.prog 68 #[.int .i64 13, .agg (vC a).toArray, .agg (vC b).toArray] w fun e W => e = .returned (.int .i64 (min (truV a) (truV b))) ∧ Below w.heap.size w W := by
  have CA := hide (fun W => truthOf_any a W)
  have CB := hide (fun W => truthOf_any b W)
  generalize truV a = ta at *
  generalize truV b = tb at *
  have hS := bb_new w a b
  go_enter Try.func68, Try.ntmps68
  go_wp2_with fail
  rename_i hrest
  have hS0 := hide hS
  refine wp_region_noPanic ?_
  refine wp_region_held_drew (S := (fun X => Below w.heap.size w X ∧ X.heap[w.heap.size]? = some (.cells (vC a).toArray 28 (0, 0)) ∧ X.heap[w.heap.size + 1]? = some (.cells (vC b).toArray 28 (0, 0)))) (by kernel_rfl) (bb_call (unhide hS0) (Below.refl _ _).drew) (fun hHeld => ?_)
  clear hS0
  revert hHeld
  generalize World.drew _ = Wd
  intro hHeld
  refine wpAnyH_take (i := 0) (oi := ?oi20001) (v := ?v20001) ?hi20001 (by kernel_rfl) (by kernel_rfl) (by kernel_rfl) (fun _ _ _ h => h) (Or.inl ⟨?hw20001, ?hy20001⟩) (by assumption) ?rest20001
  case hi20001 => (simp only [List.getElem?_toArray, List.getElem?_cons_zero]; rfl)
  case hw20001 => rfl
  case hy20001 => first | (intro wx hSw; obtain ⟨-, ha, hb⟩ := hSw; have x0 := cell_of_row _ _ 0 _ _ _ ha; have y0 := cell_of_row _ _ 0 _ _ _ hb; have x1 := cell_of_row _ _ 1 _ _ _ ha; have y1 := cell_of_row _ _ 1 _ _ _ hb; have x2 := cell_of_row _ _ 2 _ _ _ ha; have y2 := cell_of_row _ _ 2 _ _ _ hb; have x3 := cell_of_row _ _ 3 _ _ _ ha; have y3 := cell_of_row _ _ 3 _ _ _ hb; simp at x0 x1 x2 x3 y0 y1 y2 y3; go_simp; done) | (intro wx hSw; obtain ⟨-, ha, hb⟩ := hSw; have x0 := cell_of_row _ _ 0 _ _ _ ha; have y0 := cell_of_row _ _ 0 _ _ _ hb; have x1 := cell_of_row _ _ 1 _ _ _ ha; have y1 := cell_of_row _ _ 1 _ _ _ hb; have x2 := cell_of_row _ _ 2 _ _ _ ha; have y2 := cell_of_row _ _ 2 _ _ _ hb; have x3 := cell_of_row _ _ 3 _ _ _ ha; have y3 := cell_of_row _ _ 3 _ _ _ hb; simp at x0 x1 x2 x3 y0 y1 y2 y3; go_simp; with_reducible rfl)
  simp only [Act.put, List.setIfInBounds_toArray, List.set_cons_zero, List.set_cons_succ]
  refine wpAnyH_take (i := 2) (oi := ?oi20002) (v := ?v20002) ?hi20002 (by kernel_rfl) (by kernel_rfl) (by kernel_rfl) (fun _ _ _ h => h) (Or.inl ⟨?hw20002, ?hy20002⟩) (by assumption) ?rest20002
  case hi20002 => (simp only [List.getElem?_toArray, List.getElem?_cons_zero, List.getElem?_cons_succ]; rfl)
  case hw20002 => rfl
  case hy20002 => first | (intro wx hSw; obtain ⟨-, ha, hb⟩ := hSw; have x0 := cell_of_row _ _ 0 _ _ _ ha; have y0 := cell_of_row _ _ 0 _ _ _ hb; have x1 := cell_of_row _ _ 1 _ _ _ ha; have y1 := cell_of_row _ _ 1 _ _ _ hb; have x2 := cell_of_row _ _ 2 _ _ _ ha; have y2 := cell_of_row _ _ 2 _ _ _ hb; have x3 := cell_of_row _ _ 3 _ _ _ ha; have y3 := cell_of_row _ _ 3 _ _ _ hb; simp at x0 x1 x2 x3 y0 y1 y2 y3; go_simp; done) | (intro wx hSw; obtain ⟨-, ha, hb⟩ := hSw; have x0 := cell_of_row _ _ 0 _ _ _ ha; have y0 := cell_of_row _ _ 0 _ _ _ hb; have x1 := cell_of_row _ _ 1 _ _ _ ha; have y1 := cell_of_row _ _ 1 _ _ _ hb; have x2 := cell_of_row _ _ 2 _ _ _ ha; have y2 := cell_of_row _ _ 2 _ _ _ hb; have x3 := cell_of_row _ _ 3 _ _ _ ha; have y3 := cell_of_row _ _ 3 _ _ _ hb; simp at x0 x1 x2 x3 y0 y1 y2 y3; go_simp; with_reducible rfl)
  simp only [Act.put, List.setIfInBounds_toArray, List.set_cons_zero, List.set_cons_succ]
  have hW1 := hide hHeld
  refine wpAnyH_ready (rs := [1]) (by kernel_rfl) (by simp) ?_
  refine AllReadyH.cons rfl (fun K20003 hK20003 => ?_) AllReadyH.nil
  go_simp
  go_wp2_with (go_at_call 52; refine (unhide CA _).mono ?_; rintro e W1 ⟨rfl, hb1⟩)
  refine hK20003.out _ _ ?hs20003 (fun hHeld20003 => ?_)
  case hs20003 => exact bb_call (unhide hW1) hb1
  clear hHeld
  have hHeld := hHeld20003; clear hHeld20003 hK20003 K20003
  clear hb1 hW1
  have hW2 := hide hHeld
  refine wpAnyH_ready (rs := [3]) (by kernel_rfl) (by simp) ?_
  refine AllReadyH.cons rfl (fun K20004 hK20004 => ?_) AllReadyH.nil
  go_simp
  go_wp2_with (go_at_call 52; refine (unhide CB _).mono ?_; rintro e W2 ⟨rfl, hb2⟩)
  refine hK20004.out _ _ ?hs20004 (fun hHeld20004 => ?_)
  case hs20004 => exact bb_call (unhide hW2) hb2
  clear hHeld
  have hHeld := hHeld20004; clear hHeld20004 hK20004 K20004
  clear hb2 hW2
  refine wpAnyH_take (i := 4) (oi := ?oi20005) (v := ?v20005) ?hi20005 (by kernel_rfl) (by kernel_rfl) (by kernel_rfl) (fun _ _ _ h => h) (Or.inl ⟨?hw20005, ?hy20005⟩) (by assumption) ?rest20005
  case hi20005 => (simp only [List.getElem?_toArray, List.getElem?_cons_zero, List.getElem?_cons_succ]; rfl)
  case hw20005 => rfl
  case hy20005 => first | (intro wx hSw; go_simp; done) | (intro wx hSw; go_simp; with_reducible rfl)
  simp only [Act.put, List.setIfInBounds_toArray, List.set_cons_zero, List.set_cons_succ]
  refine wpAnyH_take (i := 5) (oi := ?oi20006) (v := ?v20006) ?hi20006 (by kernel_rfl) (by kernel_rfl) (by kernel_rfl) (fun _ _ _ h => h) (Or.inl ⟨?hw20006, ?hy20006⟩) (by assumption) ?rest20006
  case hi20006 => (simp only [List.getElem?_toArray, List.getElem?_cons_zero, List.getElem?_cons_succ]; rfl)
  case hw20006 => rfl
  case hy20006 => first | (intro wx hSw; go_simp; done) | (intro wx hSw; go_simp; with_reducible rfl)
  simp only [Act.put, List.setIfInBounds_toArray, List.set_cons_zero, List.set_cons_succ]
  refine wpAnyH_done (by kernel_rfl) ?_ _
  refine NoPanic.normal ?_
  refine hrest _ _ ?_
  clear hrest
  go_wp2_with fail
  all_goals
    go_ret
    exact ⟨ret_i (by omega), hHeld.1⟩
set_option maxHeartbeats 1000000 in
set_option maxRecDepth 100000 in
theorem truthFrom_14 (a b : V4) (w : World) : Calls Try.prog 68 #[.int .i64 14, .agg (vC a).toArray, .agg (vC b).toArray] w fun e W => e = .returned (.int .i64 (max (truV a) (truV b))) ∧ Below w.heap.size w W := by
  have CA := hide (fun W => truthOf_any a W)
  have CB := hide (fun W => truthOf_any b W)
  generalize truV a = ta at *
  generalize truV b = tb at *
  have hS := bb_new w a b
  go_enter Try.func68, Try.ntmps68
  go_wp2_with fail
  rename_i hrest
  have hS0 := hide hS
  refine wp_region_noPanic ?_
  refine wp_region_held_drew (S := (fun X => Below w.heap.size w X ∧ X.heap[w.heap.size]? = some (.cells (vC a).toArray 28 (0, 0)) ∧ X.heap[w.heap.size + 1]? = some (.cells (vC b).toArray 28 (0, 0)))) (by kernel_rfl) (bb_call (unhide hS0) (Below.refl _ _).drew) (fun hHeld => ?_)
  clear hS0
  revert hHeld
  generalize World.drew _ = Wd
  intro hHeld
  refine wpAnyH_take (i := 0) (oi := ?oi20007) (v := ?v20007) ?hi20007 (by kernel_rfl) (by kernel_rfl) (by kernel_rfl) (fun _ _ _ h => h) (Or.inl ⟨?hw20007, ?hy20007⟩) (by assumption) ?rest20007
  case hi20007 => (simp only [List.getElem?_toArray, List.getElem?_cons_zero]; rfl)
  case hw20007 => rfl
  case hy20007 => first | (intro wx hSw; obtain ⟨-, ha, hb⟩ := hSw; have x0 := cell_of_row _ _ 0 _ _ _ ha; have y0 := cell_of_row _ _ 0 _ _ _ hb; have x1 := cell_of_row _ _ 1 _ _ _ ha; have y1 := cell_of_row _ _ 1 _ _ _ hb; have x2 := cell_of_row _ _ 2 _ _ _ ha; have y2 := cell_of_row _ _ 2 _ _ _ hb; have x3 := cell_of_row _ _ 3 _ _ _ ha; have y3 := cell_of_row _ _ 3 _ _ _ hb; simp at x0 x1 x2 x3 y0 y1 y2 y3; go_simp; done) | (intro wx hSw; obtain ⟨-, ha, hb⟩ := hSw; have x0 := cell_of_row _ _ 0 _ _ _ ha; have y0 := cell_of_row _ _ 0 _ _ _ hb; have x1 := cell_of_row _ _ 1 _ _ _ ha; have y1 := cell_of_row _ _ 1 _ _ _ hb; have x2 := cell_of_row _ _ 2 _ _ _ ha; have y2 := cell_of_row _ _ 2 _ _ _ hb; have x3 := cell_of_row _ _ 3 _ _ _ ha; have y3 := cell_of_row _ _ 3 _ _ _ hb; simp at x0 x1 x2 x3 y0 y1 y2 y3; go_simp; with_reducible rfl)
  simp only [Act.put, List.setIfInBounds_toArray, List.set_cons_zero, List.set_cons_succ]
  refine wpAnyH_take (i := 2) (oi := ?oi20008) (v := ?v20008) ?hi20008 (by kernel_rfl) (by kernel_rfl) (by kernel_rfl) (fun _ _ _ h => h) (Or.inl ⟨?hw20008, ?hy20008⟩) (by assumption) ?rest20008
  case hi20008 => (simp only [List.getElem?_toArray, List.getElem?_cons_zero, List.getElem?_cons_succ]; rfl)
  case hw20008 => rfl
  case hy20008 => first | (intro wx hSw; obtain ⟨-, ha, hb⟩ := hSw; have x0 := cell_of_row _ _ 0 _ _ _ ha; have y0 := cell_of_row _ _ 0 _ _ _ hb; have x1 := cell_of_row _ _ 1 _ _ _ ha; have y1 := cell_of_row _ _ 1 _ _ _ hb; have x2 := cell_of_row _ _ 2 _ _ _ ha; have y2 := cell_of_row _ _ 2 _ _ _ hb; have x3 := cell_of_row _ _ 3 _ _ _ ha; have y3 := cell_of_row _ _ 3 _ _ _ hb; simp at x0 x1 x2 x3 y0 y1 y2 y3; go_simp; done) | (intro wx hSw; obtain ⟨-, ha, hb⟩ := hSw; have x0 := cell_of_row _ _ 0 _ _ _ ha; have y0 := cell_of_row _ _ 0 _ _ _ hb; have x1 := cell_of_row _ _ 1 _ _ _ ha; have y1 := cell_of_row _ _ 1 _ _ _ hb; have x2 := cell_of_row _ _ 2 _ _ _ ha; have y2 := cell_of_row _ _ 2 _ _ _ hb; have x3 := cell_of_row _ _ 3 _ _ _ ha; have y3 := cell_of_row _ _ 3 _ _ _ hb; simp at x0 x1 x2 x3 y0 y1 y2 y3; go_simp; with_reducible rfl)
  simp only [Act.put, List.setIfInBounds_toArray, List.set_cons_zero, List.set_cons_succ]
  have hW1 := hide hHeld
  refine wpAnyH_ready (rs := [1]) (by kernel_rfl) (by simp) ?_
  refine AllReadyH.cons rfl (fun K20009 hK20009 => ?_) AllReadyH.nil
  go_simp
  go_wp2_with (go_at_call 52; refine (unhide CA _).mono ?_; rintro e W1 ⟨rfl, hb1⟩)
  refine hK20009.out _ _ ?hs20009 (fun hHeld20009 => ?_)
  case hs20009 => exact bb_call (unhide hW1) hb1
  clear hHeld
  have hHeld := hHeld20009; clear hHeld20009 hK20009 K20009
  clear hb1 hW1
  have hW2 := hide hHeld
  refine wpAnyH_ready (rs := [3]) (by kernel_rfl) (by simp) ?_
  refine AllReadyH.cons rfl (fun K20010 hK20010 => ?_) AllReadyH.nil
  go_simp
  go_wp2_with (go_at_call 52; refine (unhide CB _).mono ?_; rintro e W2 ⟨rfl, hb2⟩)
  refine hK20010.out _ _ ?hs20010 (fun hHeld20010 => ?_)
  case hs20010 => exact bb_call (unhide hW2) hb2
  clear hHeld
  have hHeld := hHeld20010; clear hHeld20010 hK20010 K20010
  clear hb2 hW2
  refine wpAnyH_take (i := 4) (oi := ?oi20011) (v := ?v20011) ?hi20011 (by kernel_rfl) (by kernel_rfl) (by kernel_rfl) (fun _ _ _ h => h) (Or.inl ⟨?hw20011, ?hy20011⟩) (by assumption) ?rest20011
  case hi20011 => (simp only [List.getElem?_toArray, List.getElem?_cons_zero, List.getElem?_cons_succ]; rfl)
  case hw20011 => rfl
  case hy20011 => first | (intro wx hSw; go_simp; done) | (intro wx hSw; go_simp; with_reducible rfl)
  simp only [Act.put, List.setIfInBounds_toArray, List.set_cons_zero, List.set_cons_succ]
  refine wpAnyH_take (i := 5) (oi := ?oi20012) (v := ?v20012) ?hi20012 (by kernel_rfl) (by kernel_rfl) (by kernel_rfl) (fun _ _ _ h => h) (Or.inl ⟨?hw20012, ?hy20012⟩) (by assumption) ?rest20012
  case hi20012 => (simp only [List.getElem?_toArray, List.getElem?_cons_zero, List.getElem?_cons_succ]; rfl)
  case hw20012 => rfl
  case hy20012 => first | (intro wx hSw; go_simp; done) | (intro wx hSw; go_simp; with_reducible rfl)
  simp only [Act.put, List.setIfInBounds_toArray, List.set_cons_zero, List.set_cons_succ]
  refine wpAnyH_done (by kernel_rfl) ?_ _
  refine NoPanic.normal ?_
  refine hrest _ _ ?_
  clear hrest
  go_wp2_with fail
  all_goals
    go_ret
    exact ⟨ret_i (by omega), hHeld.1⟩
theorem truthFrom_any (a b : V4) (w : World) (k cm : Int) (hC : ∀ W, Calls Try.prog 80 #[.int .i64 k, .agg (vC a).toArray, .agg (vC b).toArray] W fun e W' => e = .returned (.int .i64 cm) ∧ Below W.heap.size W W') : Calls Try.prog 68 #[.int .i64 k, .agg (vC a).toArray, .agg (vC b).toArray] w fun e W => e = .returned (.int .i64 (truR k a b cm)) ∧ Below w.heap.size w W := by
  by_cases h3 : k = 3
  · subst h3; exact truthFrom_3 a b w
  by_cases h13 : k = 13
  · subst h13; exact truthFrom_13 a b w
  by_cases h14 : k = 14
  · subst h14; exact truthFrom_14 a b w
  by_cases h5 : k = 5
  · subst h5; exact truthFrom_5 a b w
  unfold truR
  rw [if_neg h3, if_neg h13, if_neg h14, if_neg h5]
  by_cases hc : k = 9 ∨ k = 10 ∨ k = 11 ∨ k = 12
  · rw [if_pos hc]; exact truthFrom_c a b w k cm hc hC
  · rw [if_neg hc]; exact truthFrom_o a b w k (by omega)
end Go.Proofs.Ytliefgkhpgigaaa
