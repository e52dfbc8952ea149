/-
  The pass through package eval's fold of values from its second label where no child is left.
-/
import Derived.Test.YtliefgkhpgigaaaEJ
namespace Go.Proofs.Ytliefgkhpgigaaa
open Go.RowKit
set_option linter.unusedSimpArgs false
set_option linter.unusedVariables false

section
variable {w : World} {Pd : Ex → Prop} {Pv : V4 → Prop} {xc : Array Value} {W : World}
/-- the top frame taken off -/
theorem StV.pop {s0 : List (Fr V4)} {tp : Fr V4} {g cap : Nat} (h : StV w Pd Pv (s0 ++ [tp]) (.slice (some ⟨g, 0, none⟩) (s0.length + 1) cap) xc W) : StV w Pd Pv s0 (.slice (some ⟨g, 0, none⟩) s0.length cap) xc W := by
  refine ⟨⟨cellsV_len s0, ?_⟩, h.box, h.res, h.below, fun r hr => h.rep r (by simp [hr]), fun i r hr => h.deep i r ?_, h.seven⟩
  · rcases h.row.2 with ⟨hv, _⟩ | ⟨g', cap', cur, hv, hge, hgb, h1, h2, h3, ht⟩
    · cases hv
    · simp only [Value.slice.injEq, Option.some.injEq, Addr.mk.injEq] at hv
      obtain ⟨⟨hg, _⟩, _, hc⟩ := hv
      subst hg; subst hc
      refine .inr ⟨g, cap, cur, rfl, hge, hgb, by simp at h1; omega, h2, h3, ?_⟩
      have : cur.toList.take (s0.length * 16) = (cur.toList.take ((s0 ++ [tp]).length * 16)).take (s0.length * 16) := by
        rw [List.take_take]; congr 1; simp
      rw [this, ht, cellsV_snoc, List.take_append_of_le_length (by rw [cellsV_len]; exact Nat.le_refl _), List.take_of_length_le (by rw [cellsV_len]; exact Nat.le_refl _)]
  · have hi : i < s0.length := by
      rcases Nat.lt_or_ge i s0.length with h | h
      · exact h
      · rw [List.getElem?_eq_none h] at hr; cases hr
    rw [List.getElem?_append_left hi]; exact hr
theorem StV.bare {st : List (Fr V4)} {v : Value} (h : StV w Pd Pv st v xc W) : StV w Pd (fun _ => True) st v xc W := ⟨h.row, h.box, h.res, h.below, fun r hr => ⟨(h.rep r hr).1, (h.rep r hr).2.1, trivial, trivial⟩, h.deep, h.seven⟩
theorem StV.full {st : List (Fr V4)} {v : Value} (h : StV w Pd (fun _ => True) st v xc W) (hv : ∀ r ∈ st, Pv r.a ∧ Pv r.b) : StV w Pd Pv st v xc W := ⟨h.row, h.box, h.res, h.below, fun r hr => ⟨(h.rep r hr).1, (h.rep r hr).2.1, hv r hr⟩, h.deep, h.seven⟩
/-- a cell of the top frame turned -/
theorem StV.put {s1 : List (Fr V4)} {q q' : Fr V4} {g n cap : Nat} (h : StV w Pd (fun _ => True) (s1 ++ [q]) (.slice (some ⟨g, 0, none⟩) n cap) xc W) (j : Nat) (hj : j < 16) (y : Value) (hq : frV q' = (frV q).set j y) (he : q'.e = q.e) (hl : q'.lv = q.lv) :
    StV w Pd (fun _ => True) (s1 ++ [q']) (.slice (some ⟨g, 0, none⟩) n cap) xc (W.setCell ⟨g, s1.length * 16 + j, none⟩ y) := by
  have hlen : (s1 ++ [q']).length = (s1 ++ [q]).length := by simp
  obtain ⟨hl0, (⟨hv, _⟩ | ⟨g', cap', cur, hv, hge, hgb, h1, h2, h3, ht⟩)⟩ := h.row
  · cases hv
  · cases hv
    refine ⟨⟨cellsV_len _, ?_⟩, (Below.heap_setCell _ _ _ _ (by simp; omega)).trans h.box, (Below.heap_setCell _ _ _ _ (by simp; omega)).trans h.res, h.below.setCell (p := ⟨g, s1.length * 16 + j, none⟩) (by simp; omega) y, ?_, ?_, h.seven⟩
    · refine .inr ⟨g, cap, cur.setIfInBounds (s1.length * 16 + j) y, by rw [hlen], hge, heapSet hgb _ y, by rw [hlen]; exact h1, h2, by simpa using h3, ?_⟩
      rw [Array.toList_setIfInBounds, hlen, List.take_set, ht, cellsV_snoc, cellsV_snoc, hq, List.set_append_right _ _ (by rw [cellsV_len]; omega), cellsV_len, show s1.length * 16 + j - s1.length * 16 = j by omega]
    · intro r hr
      rcases List.mem_append.1 hr with hr | hr
      · exact h.rep r (by simp [hr])
      · simp at hr; subst hr; rw [he, hl]; exact ⟨(h.rep q (by simp)).1, (h.rep q (by simp)).2.1, trivial, trivial⟩
    · intro i r hr
      by_cases hi : i < s1.length
      · rw [List.getElem?_append_left hi] at hr
        exact h.deep i r (by rw [List.getElem?_append_left hi]; exact hr)
      · rw [List.getElem?_append_right (by omega)] at hr
        have h0 : i - s1.length = 0 := by
          cases hj' : i - s1.length with
          | zero => rfl
          | succ j' => rw [hj'] at hr; simp at hr
        rw [h0] at hr; simp at hr; subst hr; rw [he]
        exact h.deep i q (by rw [List.getElem?_append_right (by omega), h0]; rfl)
theorem StV.putA {s1 : List (Fr V4)} {pe : Ex} {pl : Value} {pd : Nat} {pa pb : V4} {g n cap : Nat} (h : StV w Pd (fun _ => True) (s1 ++ [⟨pe, pl, pd, pa, pb⟩]) (.slice (some ⟨g, 0, none⟩) n cap) xc W) (r : V4) :
    StV w Pd (fun _ => True) (s1 ++ [⟨pe, pl, pd, r, pb⟩]) (.slice (some ⟨g, 0, none⟩) n cap) xc ((((W.setCell ⟨g, s1.length * 16 + 8, none⟩ (.int .i64 r.1)).setCell ⟨g, s1.length * 16 + 9, none⟩ (.int .i64 r.2.1)).setCell ⟨g, s1.length * 16 + 10, none⟩ (.int .i64 r.2.2.1)).setCell ⟨g, s1.length * 16 + 11, none⟩ (.string r.2.2.2)) :=
  (((h.put (q' := ⟨pe, pl, pd, (r.1, pa.2), pb⟩) 8 (by decide) _ rfl rfl rfl).put (q' := ⟨pe, pl, pd, (r.1, r.2.1, pa.2.2), pb⟩) 9 (by decide) _ rfl rfl rfl).put (q' := ⟨pe, pl, pd, (r.1, r.2.1, r.2.2.1, pa.2.2.2), pb⟩) 10 (by decide) _ rfl rfl rfl).put (q' := ⟨pe, pl, pd, r, pb⟩) 11 (by decide) _ rfl rfl rfl
theorem StV.putB {s1 : List (Fr V4)} {pe : Ex} {pl : Value} {pd : Nat} {pa pb : V4} {g n cap : Nat} (h : StV w Pd (fun _ => True) (s1 ++ [⟨pe, pl, pd, pa, pb⟩]) (.slice (some ⟨g, 0, none⟩) n cap) xc W) (r : V4) :
    StV w Pd (fun _ => True) (s1 ++ [⟨pe, pl, pd, pa, r⟩]) (.slice (some ⟨g, 0, none⟩) n cap) xc ((((W.setCell ⟨g, s1.length * 16 + 12, none⟩ (.int .i64 r.1)).setCell ⟨g, s1.length * 16 + 13, none⟩ (.int .i64 r.2.1)).setCell ⟨g, s1.length * 16 + 14, none⟩ (.int .i64 r.2.2.1)).setCell ⟨g, s1.length * 16 + 15, none⟩ (.string r.2.2.2)) :=
  (((h.put (q' := ⟨pe, pl, pd, pa, (r.1, pb.2)⟩) 12 (by decide) _ rfl rfl rfl).put (q' := ⟨pe, pl, pd, pa, (r.1, r.2.1, pb.2.2)⟩) 13 (by decide) _ rfl rfl rfl).put (q' := ⟨pe, pl, pd, pa, (r.1, r.2.1, r.2.2.1, pb.2.2.2)⟩) 14 (by decide) _ rfl rfl rfl).put (q' := ⟨pe, pl, pd, pa, r⟩) 15 (by decide) _ rfl rfl rfl
theorem StV.else4 {st : List (Fr V4)} {v : Value} (h : StV w Pd Pv st v xc W) {b : Nat} (hb : w.heap.size + 2 ≤ b) (hne : v.ownBlock ≠ some b) (y0 y1 y2 y3 : Value) : StV w Pd Pv st v xc ((((W.setCell ⟨b, 0, none⟩ y0).setCell ⟨b, 1, none⟩ y1).setCell ⟨b, 2, none⟩ y2).setCell ⟨b, 3, none⟩ y3) :=
  (((h.else hb hne 0 y0).else hb hne 1 y1).else hb hne 2 y2).else hb hne 3 y3
end
theorem heapSet4 {W : World} {b : Nat} {x0 x1 x2 x3 : Value} {T : TypeId} (h : W.heap[b]? = some (.cells #[x0, x1, x2, x3] T (0, 0))) (y0 y1 y2 y3 : Value) : ((((W.setCell ⟨b, 0, none⟩ y0).setCell ⟨b, 1, none⟩ y1).setCell ⟨b, 2, none⟩ y2).setCell ⟨b, 3, none⟩ y3).heap[b]? = some (.cells #[y0, y1, y2, y3] T (0, 0)) :=
  heapSet (heapSet (heapSet (heapSet h 0 y0) 1 y1) 2 y2) 3 y3
theorem StV.under {w : World} {Pd : Ex → Prop} {Pv : V4 → Prop} {st : List (Fr V4)} {g n cap : Nat} {xc : Array Value} {W : World} (h : StV w Pd Pv st (.slice (some ⟨g, 0, none⟩) n cap) xc W) : g < W.heap.size := by
  rcases h.row.2 with ⟨hv, _⟩ | ⟨g', cap', cur, hv, hge, hgb, h1, h2, h3, ht⟩
  · cases hv
  · cases hv; exact (Array.getElem?_eq_some_iff.1 hgb).1
theorem anyH_weaken {P : Program} {md : Region.Mode} {ops : Array Oper} {Q : Exit → Act → World → Prop} {S T : World → Prop} (hST : ∀ w, S w → T w) :
    ∀ (fuel : Nat) (listed : Array Bool) (a : Act) (w : World), wpAnyH P md ops Q S fuel listed a w → wpAnyH P md ops Q T fuel listed a w
  | 0, _, _, _, h => h
  | fuel + 1, _, _, _, h => ⟨h.1, fun i hi => wpOp_mono (fun a' w' h' => ⟨hST _ h'.1, anyH_weaken hST fuel _ a' w' h'.2⟩) (h.2 i hi)⟩
theorem own_ne {g n cap b : Nat} (h : g < b) : (Value.slice (some ⟨g, 0, none⟩) n cap).ownBlock ≠ some b := by
  intro e; have e2 : some g = some b := e; simp at e2; omega

set_option maxHeartbeats 2000000 in
set_option maxRecDepth 100000 in
theorem pass1dV (f : Ex → V4 → V4 → V4 × Int) (Pd : Ex → Prop) (Pv : V4 → Prop) (bt br : Nat) (e0 : Ex) (lv0 : Value) (w : World) (n : Nat) (W : World) (r0 c : Code) (hc : Try.f44.body = some (.seq r0 (.scope c))) (u : Nat → Value) (HOF : Hid (HOfV f Pd Pv bt br w))
    (s0 : List (Fr V4)) (e : Ex) (p : Option Addr) (d m cp g cap : Nat) (ra rb r : V4) (er : Int) (xc : Array Value)
    (hS : StV w Pd Pv (s0 ++ [⟨e, .slice p m cp, d, ra, rb⟩]) (.slice (some ⟨g, 0, none⟩) (s0.length + 1) cap) xc W)
    (hK : Hid (∀ r ∈ s0, r.kid ≠ none)) (hU : Hid (up Z4 f s0.reverse (fin Z4 (r, er)) = foldF Z4 f e0)) (hn : Hid (n = 1 + (s0.map Fr.rem).sum))
    (hf : Hid (f e ra rb = (r, er))) (hPr : Hid (Pv r)) (hmd : m ≤ d) (hm2 : m ≤ 2) (hRe : Hid (Rep e (.slice p m cp) w)) (hPe : Hid (Pd e ∧ Pv ra ∧ Pv rb)) (hk1000 : s0.length ≤ 1000) :
    ∃ rest, findLabel c 1 = some (.seq .skip rest) ∧ rest.wp Try.prog (Exit.jumps (fun l' a' w' => ∃ n', n' < n ∧ J44 w bt br e0 lv0 Pd Pv f l' n' a' w') (PQV f e0 w)) ⟨#[.agg (exC e0 lv0).toArray, .func (.func 45) #[] #[.pointer (some ⟨bt, 0, none⟩), .pointer (some ⟨br, 0, none⟩)], .pointer (some ⟨w.heap.size, 0, none⟩), undef, .pointer (some ⟨w.heap.size + 1, 0, none⟩), .int .i64 0, .slice (some ⟨g, 0, none⟩) (s0.length + 1) cap, u 7, u 8, u 9, u 10, u 11, u 12, u 13, u 14, u 15, u 16, u 17, u 18, u 19, u 20, u 21, u 22, u 23, u 24, u 25, u 26, u 27, u 28, u 29, u 30, u 31, u 32, u 33, u 34, u 35, u 36, u 37, u 38, u 39, u 40, u 41, u 42, u 43, u 44, u 45, u 46, u 47, u 48, u 49, u 50, u 51, u 52, u 53, u 54, u 55, u 56, u 57, u 58, u 59, u 60, u 61, u 62, u 63, u 64, u 65, u 66, u 67, u 68, u 69, u 70, u 71, u 72, u 73, u 74, u 75, u 76, u 77, u 78, u 79, u 80, u 81, u 82, u 83, u 84, u 85, u 86, u 87, u 88, u 89, u 90, u 91, u 92, u 93, u 94, u 95, u 96, u 97], []⟩ W := by
  unfold Try.f44 at hc
  cases hc
  refine ⟨_, rfl, ?_⟩
  have HS := hide hS
  clear hS
  have e1 : IntKind.i64.wrap ((s0.length : Int) + 1 - 1) = (s0.length : Int) := IntWalk.i64_in _ (by omega) |>.trans (by omega)
  have hmin : min (m : Int) 2 = m := by omega
  have hdi : ¬ (d : Int) < m := by omega
  go_wp2_with fail
  rename_i hrest
  refine wp_region_noPanic ?_
  refine wp_region_held_drew (S := (fun X => ∃ xq, StV w Pd Pv (s0 ++ [⟨e, .slice p m cp, d, ra, rb⟩]) (.slice (some ⟨g, 0, none⟩) (s0.length + 1) cap) xq X)) (by kernel_rfl) (⟨_, (unhide HS).call (Below.refl _ _).drew⟩) (fun hHeld => ?_)
  clear HS
  revert hHeld
  generalize World.drew _ = Wd
  intro hHeld
  refine wpAnyH_take (i := 0) (oi := ?oi20001) (v := ?v20001) ?hi20001 (by kernel_rfl) (by kernel_rfl) (by kernel_rfl) (fun _ _ _ h => h) (Or.inl ⟨?hw20001, ?hy20001⟩) (by assumption) ?rest20001
  case hi20001 => (simp only [List.getElem?_toArray, List.getElem?_cons_zero]; rfl)
  case hw20001 => rfl
  case hy20001 => first | (intro wx hSw; go_simp; done) | (intro wx hSw; go_simp; with_reducible rfl)
  simp only [Act.put, List.setIfInBounds_toArray, List.set_cons_zero, List.set_cons_succ]
  refine wpAnyH_take (i := 4) (oi := ?oi20002) (v := ?v20002) ?hi20002 (by kernel_rfl) (by kernel_rfl) (by kernel_rfl) (fun _ _ _ h => h) (Or.inl ⟨?hw20002, ?hy20002⟩) (by assumption) ?rest20002
  case hi20002 => (simp only [List.getElem?_toArray, List.getElem?_cons_zero, List.getElem?_cons_succ]; rfl)
  case hw20002 => rfl
  case hy20002 => first | (intro wx hSw; go_simp; done) | (intro wx hSw; go_simp; with_reducible rfl)
  simp only [Act.put, List.setIfInBounds_toArray, List.set_cons_zero, List.set_cons_succ]
  refine wpAnyH_take (i := 1) (oi := ?oi20003) (v := ?v20003) ?hi20003 (by kernel_rfl) (by kernel_rfl) (by kernel_rfl) (fun _ _ _ h => h) (Or.inl ⟨?hw20003, ?hy20003⟩) (by assumption) ?rest20003
  case hi20003 => (simp only [List.getElem?_toArray, List.getElem?_cons_zero, List.getElem?_cons_succ]; rfl)
  case hw20003 => rfl
  case hy20003 => first | (intro wx hSw; go_simp; done) | (intro wx hSw; go_simp; with_reducible rfl)
  simp only [Act.put, List.setIfInBounds_toArray, List.set_cons_zero, List.set_cons_succ]
  refine wpAnyH_take (i := 5) (oi := ?oi20004) (v := ?v20004) ?hi20004 (by kernel_rfl) (by kernel_rfl) (by kernel_rfl) (fun _ _ _ h => h) (Or.inl ⟨?hw20004, ?hy20004⟩) (by assumption) ?rest20004
  case hi20004 => (simp only [List.getElem?_toArray, List.getElem?_cons_zero, List.getElem?_cons_succ]; rfl)
  case hw20004 => rfl
  case hy20004 => first | (intro wx hSw; go_simp; done) | (intro wx hSw; go_simp; with_reducible rfl)
  simp only [Act.put, List.setIfInBounds_toArray, List.set_cons_zero, List.set_cons_succ]
  refine wpAnyH_take (i := 2) (oi := ?oi20005) (v := ?v20005) ?hi20005 (by kernel_rfl) (by kernel_rfl) (by kernel_rfl) (fun _ _ _ h => h) (Or.inl ⟨?hw20005, ?hy20005⟩) (by assumption) ?rest20005
  case hi20005 => (simp only [List.getElem?_toArray, List.getElem?_cons_zero, List.getElem?_cons_succ]; rfl)
  case hw20005 => rfl
  case hy20005 => first | (intro wx hSw; go_simp; done) | (intro wx hSw; go_simp; with_reducible rfl)
  simp only [Act.put, List.setIfInBounds_toArray, List.set_cons_zero, List.set_cons_succ]
  refine wpAnyH_take (i := 6) (oi := ?oi20006) (v := ?v20006) ?hi20006 (by kernel_rfl) (by kernel_rfl) (by kernel_rfl) (fun _ _ _ h => h) (Or.inl ⟨?hw20006, ?hy20006⟩) (by assumption) ?rest20006
  case hi20006 => (simp only [List.getElem?_toArray, List.getElem?_cons_zero, List.getElem?_cons_succ]; rfl)
  case hw20006 => rfl
  case hy20006 => first | (intro wx hSw; go_simp; done) | (intro wx hSw; go_simp; with_reducible rfl)
  simp only [Act.put, List.setIfInBounds_toArray, List.set_cons_zero, List.set_cons_succ]
  refine wpAnyH_take (i := 7) (oi := ?oi20007) (v := ?v20007) ?hi20007 (by kernel_rfl) (by kernel_rfl) (by kernel_rfl) (fun _ _ _ h => h) (Or.inl ⟨?hw20007, ?hy20007⟩) (by assumption) ?rest20007
  case hi20007 => (simp only [List.getElem?_toArray, List.getElem?_cons_zero, List.getElem?_cons_succ]; rfl)
  case hw20007 => rfl
  case hy20007 => first | (intro wx hSw; go_simp; done) | (intro wx hSw; go_simp; with_reducible rfl)
  simp only [Act.put, List.setIfInBounds_toArray, List.set_cons_zero, List.set_cons_succ]
  refine wpAnyH_take (i := 3) (oi := ?oi20008) (v := ?v20008) ?hi20008 (by kernel_rfl) (by kernel_rfl) (by kernel_rfl) (fun _ _ _ h => h) (Or.inl ⟨?hw20008, ?hy20008⟩) (by assumption) ?rest20008
  case hi20008 => (simp only [List.getElem?_toArray, List.getElem?_cons_zero, List.getElem?_cons_succ]; rfl)
  case hw20008 => rfl
  case hy20008 => first | (intro wx hSw; obtain ⟨xq, hq⟩ := hSw; have c6 := (hq.at s0 _ [] rfl 6 (by decide)).1; have c7 := (hq.at s0 _ [] rfl 7 (by decide)).1; simp at c6 c7; go_simp; done) | (intro wx hSw; obtain ⟨xq, hq⟩ := hSw; have c6 := (hq.at s0 _ [] rfl 6 (by decide)).1; have c7 := (hq.at s0 _ [] rfl 7 (by decide)).1; simp at c6 c7; go_simp; with_reducible rfl)
  simp only [Act.put, List.setIfInBounds_toArray, List.set_cons_zero, List.set_cons_succ]
  refine wpAnyH_take (i := 8) (oi := ?oi20009) (v := ?v20009) ?hi20009 (by kernel_rfl) (by kernel_rfl) (by kernel_rfl) (fun _ _ _ h => h) (Or.inl ⟨?hw20009, ?hy20009⟩) (by assumption) ?rest20009
  case hi20009 => (simp only [List.getElem?_toArray, List.getElem?_cons_zero, List.getElem?_cons_succ]; rfl)
  case hw20009 => rfl
  case hy20009 => first | (intro wx hSw; obtain ⟨xq, hq⟩ := hSw; have c6 := (hq.at s0 _ [] rfl 6 (by decide)).1; have c7 := (hq.at s0 _ [] rfl 7 (by decide)).1; simp at c6 c7; go_simp; done) | (intro wx hSw; obtain ⟨xq, hq⟩ := hSw; have c6 := (hq.at s0 _ [] rfl 6 (by decide)).1; have c7 := (hq.at s0 _ [] rfl 7 (by decide)).1; simp at c6 c7; go_simp; with_reducible rfl)
  simp only [Act.put, List.setIfInBounds_toArray, List.set_cons_zero, List.set_cons_succ]
  refine wpAnyH_take (i := 9) (oi := ?oi20010) (v := ?v20010) ?hi20010 (by kernel_rfl) (by kernel_rfl) (by kernel_rfl) (fun _ _ _ h => h) (Or.inl ⟨?hw20010, ?hy20010⟩) (by assumption) ?rest20010
  case hi20010 => (simp only [List.getElem?_toArray, List.getElem?_cons_zero, List.getElem?_cons_succ]; rfl)
  case hw20010 => rfl
  case hy20010 => first | (intro wx hSw; go_simp; done) | (intro wx hSw; go_simp; with_reducible rfl)
  simp only [Act.put, List.setIfInBounds_toArray, List.set_cons_zero, List.set_cons_succ]
  refine wpAnyH_take (i := 10) (oi := ?oi20011) (v := ?v20011) ?hi20011 (by kernel_rfl) (by kernel_rfl) (by kernel_rfl) (fun _ _ _ h => h) (Or.inl ⟨?hw20011, ?hy20011⟩) (by assumption) ?rest20011
  case hi20011 => (simp only [List.getElem?_toArray, List.getElem?_cons_zero, List.getElem?_cons_succ]; rfl)
  case hw20011 => rfl
  case hy20011 => first | (intro wx hSw; go_simp; done) | (intro wx hSw; go_simp; with_reducible rfl)
  simp only [Act.put, List.setIfInBounds_toArray, List.set_cons_zero, List.set_cons_succ]
  refine wpAnyH_take (i := 11) (oi := ?oi20012) (v := ?v20012) ?hi20012 (by kernel_rfl) (by kernel_rfl) (by kernel_rfl) (fun _ _ _ h => h) (Or.inl ⟨?hw20012, ?hy20012⟩) (by assumption) ?rest20012
  case hi20012 => (simp only [List.getElem?_toArray, List.getElem?_cons_zero, List.getElem?_cons_succ]; rfl)
  case hw20012 => rfl
  case hy20012 => first | (intro wx hSw; go_simp; done) | (intro wx hSw; go_simp; with_reducible rfl)
  simp only [Act.put, List.setIfInBounds_toArray, List.set_cons_zero, List.set_cons_succ]
  refine wpAnyH_done (by kernel_rfl) ?_ _
  refine NoPanic.normal ?_
  refine hrest _ _ ?_
  clear hrest
  have hS4 := hide hHeld
  clear hHeld
  go_wp2_with fail
  rename_i hrest
  refine wp_region_noPanic ?_
  refine wp_region_held_drew (S := (fun X => ∃ xq, StV w Pd Pv (s0 ++ [⟨e, .slice p m cp, d, ra, rb⟩]) (.slice (some ⟨g, 0, none⟩) (s0.length + 1) cap) xq X)) (by kernel_rfl) (⟨_, (unhide hS4).choose_spec.call (Below.refl _ _).drew⟩) (fun hHeld => ?_)
  clear hS4
  revert hHeld
  generalize World.drew _ = We
  intro hHeld
  refine wpAnyH_take (i := 0) (oi := ?oi20013) (v := ?v20013) ?hi20013 (by kernel_rfl) (by kernel_rfl) (by kernel_rfl) (fun _ _ _ h => h) (Or.inl ⟨?hw20013, ?hy20013⟩) (by assumption) ?rest20013
  case hi20013 => (simp only [List.getElem?_toArray, List.getElem?_cons_zero]; rfl)
  case hw20013 => rfl
  case hy20013 => first | (intro wx hSw; go_simp; done) | (intro wx hSw; go_simp; with_reducible rfl)
  simp only [Act.put, List.setIfInBounds_toArray, List.set_cons_zero, List.set_cons_succ]
  refine wpAnyH_take (i := 1) (oi := ?oi20014) (v := ?v20014) ?hi20014 (by kernel_rfl) (by kernel_rfl) (by kernel_rfl) (fun _ _ _ h => h) (Or.inl ⟨?hw20014, ?hy20014⟩) (by assumption) ?rest20014
  case hi20014 => (simp only [List.getElem?_toArray, List.getElem?_cons_zero, List.getElem?_cons_succ]; rfl)
  case hw20014 => rfl
  case hy20014 => first | (intro wx hSw; go_simp; done) | (intro wx hSw; go_simp; with_reducible rfl)
  simp only [Act.put, List.setIfInBounds_toArray, List.set_cons_zero, List.set_cons_succ]
  refine wpAnyH_take (i := 5) (oi := ?oi20015) (v := ?v20015) ?hi20015 (by kernel_rfl) (by kernel_rfl) (by kernel_rfl) (fun _ _ _ h => h) (Or.inl ⟨?hw20015, ?hy20015⟩) (by assumption) ?rest20015
  case hi20015 => (simp only [List.getElem?_toArray, List.getElem?_cons_zero, List.getElem?_cons_succ]; rfl)
  case hw20015 => rfl
  case hy20015 => first | (intro wx hSw; go_simp; done) | (intro wx hSw; go_simp; with_reducible rfl)
  simp only [Act.put, List.setIfInBounds_toArray, List.set_cons_zero, List.set_cons_succ]
  refine wpAnyH_take (i := 10) (oi := ?oi20016) (v := ?v20016) ?hi20016 (by kernel_rfl) (by kernel_rfl) (by kernel_rfl) (fun _ _ _ h => h) (Or.inl ⟨?hw20016, ?hy20016⟩) (by assumption) ?rest20016
  case hi20016 => (simp only [List.getElem?_toArray, List.getElem?_cons_zero, List.getElem?_cons_succ]; rfl)
  case hw20016 => rfl
  case hy20016 => first | (intro wx hSw; go_simp; done) | (intro wx hSw; go_simp; with_reducible rfl)
  simp only [Act.put, List.setIfInBounds_toArray, List.set_cons_zero, List.set_cons_succ]
  refine wpAnyH_take (i := 2) (oi := ?oi20017) (v := ?v20017) ?hi20017 (by kernel_rfl) (by kernel_rfl) (by kernel_rfl) (fun _ _ _ h => h) (Or.inl ⟨?hw20017, ?hy20017⟩) (by assumption) ?rest20017
  case hi20017 => (simp only [List.getElem?_toArray, List.getElem?_cons_zero, List.getElem?_cons_succ]; rfl)
  case hw20017 => rfl
  case hy20017 => first | (intro wx hSw; go_simp; done) | (intro wx hSw; go_simp; with_reducible rfl)
  simp only [Act.put, List.setIfInBounds_toArray, List.set_cons_zero, List.set_cons_succ]
  refine wpAnyH_take (i := 6) (oi := ?oi20018) (v := ?v20018) ?hi20018 (by kernel_rfl) (by kernel_rfl) (by kernel_rfl) (fun _ _ _ h => h) (Or.inl ⟨?hw20018, ?hy20018⟩) (by assumption) ?rest20018
  case hi20018 => (simp only [List.getElem?_toArray, List.getElem?_cons_zero, List.getElem?_cons_succ]; rfl)
  case hw20018 => rfl
  case hy20018 => first | (intro wx hSw; go_simp; done) | (intro wx hSw; go_simp; with_reducible rfl)
  simp only [Act.put, List.setIfInBounds_toArray, List.set_cons_zero, List.set_cons_succ]
  refine wpAnyH_take (i := 11) (oi := ?oi20019) (v := ?v20019) ?hi20019 (by kernel_rfl) (by kernel_rfl) (by kernel_rfl) (fun _ _ _ h => h) (Or.inl ⟨?hw20019, ?hy20019⟩) (by assumption) ?rest20019
  case hi20019 => (simp only [List.getElem?_toArray, List.getElem?_cons_zero, List.getElem?_cons_succ]; rfl)
  case hw20019 => rfl
  case hy20019 => first | (intro wx hSw; go_simp; done) | (intro wx hSw; go_simp; with_reducible rfl)
  simp only [Act.put, List.setIfInBounds_toArray, List.set_cons_zero, List.set_cons_succ]
  refine wpAnyH_take (i := 3) (oi := ?oi20020) (v := ?v20020) ?hi20020 (by kernel_rfl) (by kernel_rfl) (by kernel_rfl) (fun _ _ _ h => h) (Or.inl ⟨?hw20020, ?hy20020⟩) (by assumption) ?rest20020
  case hi20020 => (simp only [List.getElem?_toArray, List.getElem?_cons_zero, List.getElem?_cons_succ]; rfl)
  case hw20020 => rfl
  case hy20020 => first | (intro wx hSw; go_simp; done) | (intro wx hSw; go_simp; with_reducible rfl)
  simp only [Act.put, List.setIfInBounds_toArray, List.set_cons_zero, List.set_cons_succ]
  refine wpAnyH_take (i := 7) (oi := ?oi20021) (v := ?v20021) ?hi20021 (by kernel_rfl) (by kernel_rfl) (by kernel_rfl) (fun _ _ _ h => h) (Or.inl ⟨?hw20021, ?hy20021⟩) (by assumption) ?rest20021
  case hi20021 => (simp only [List.getElem?_toArray, List.getElem?_cons_zero, List.getElem?_cons_succ]; rfl)
  case hw20021 => rfl
  case hy20021 => first | (intro wx hSw; go_simp; done) | (intro wx hSw; go_simp; with_reducible rfl)
  simp only [Act.put, List.setIfInBounds_toArray, List.set_cons_zero, List.set_cons_succ]
  refine wpAnyH_take (i := 12) (oi := ?oi20022) (v := ?v20022) ?hi20022 (by kernel_rfl) (by kernel_rfl) (by kernel_rfl) (fun _ _ _ h => h) (Or.inl ⟨?hw20022, ?hy20022⟩) (by assumption) ?rest20022
  case hi20022 => (simp only [List.getElem?_toArray, List.getElem?_cons_zero, List.getElem?_cons_succ]; rfl)
  case hw20022 => rfl
  case hy20022 => first | (intro wx hSw; go_simp; done) | (intro wx hSw; go_simp; with_reducible rfl)
  simp only [Act.put, List.setIfInBounds_toArray, List.set_cons_zero, List.set_cons_succ]
  refine wpAnyH_take (i := 8) (oi := ?oi20023) (v := ?v20023) ?hi20023 (by kernel_rfl) (by kernel_rfl) (by kernel_rfl) (fun _ _ _ h => h) (Or.inl ⟨?hw20023, ?hy20023⟩) (by assumption) ?rest20023
  case hi20023 => (simp only [List.getElem?_toArray, List.getElem?_cons_zero, List.getElem?_cons_succ]; rfl)
  case hw20023 => rfl
  case hy20023 => first | (intro wx hSw; go_simp; done) | (intro wx hSw; go_simp; with_reducible rfl)
  simp only [Act.put, List.setIfInBounds_toArray, List.set_cons_zero, List.set_cons_succ]
  refine wpAnyH_take (i := 13) (oi := ?oi20024) (v := ?v20024) ?hi20024 (by kernel_rfl) (by kernel_rfl) (by kernel_rfl) (fun _ _ _ h => h) (Or.inl ⟨?hw20024, ?hy20024⟩) (by assumption) ?rest20024
  case hi20024 => (simp only [List.getElem?_toArray, List.getElem?_cons_zero, List.getElem?_cons_succ]; rfl)
  case hw20024 => rfl
  case hy20024 => first | (intro wx hSw; go_simp; done) | (intro wx hSw; go_simp; with_reducible rfl)
  simp only [Act.put, List.setIfInBounds_toArray, List.set_cons_zero, List.set_cons_succ]
  refine wpAnyH_take (i := 4) (oi := ?oi20025) (v := ?v20025) ?hi20025 (by kernel_rfl) (by kernel_rfl) (by kernel_rfl) (fun _ _ _ h => h) (Or.inl ⟨?hw20025, ?hy20025⟩) (by assumption) ?rest20025
  case hi20025 => (simp only [List.getElem?_toArray, List.getElem?_cons_zero, List.getElem?_cons_succ]; rfl)
  case hw20025 => rfl
  case hy20025 => first | (intro wx hSw; obtain ⟨xq, hq⟩ := hSw; have c0 := (hq.at s0 _ [] rfl 0 (by decide)).1; have c1 := (hq.at s0 _ [] rfl 1 (by decide)).1; have c2 := (hq.at s0 _ [] rfl 2 (by decide)).1; have c3 := (hq.at s0 _ [] rfl 3 (by decide)).1; have c4 := (hq.at s0 _ [] rfl 4 (by decide)).1; have c5 := (hq.at s0 _ [] rfl 5 (by decide)).1; have c6 := (hq.at s0 _ [] rfl 6 (by decide)).1; have c7 := (hq.at s0 _ [] rfl 7 (by decide)).1; have c8 := (hq.at s0 _ [] rfl 8 (by decide)).1; have c9 := (hq.at s0 _ [] rfl 9 (by decide)).1; have c10 := (hq.at s0 _ [] rfl 10 (by decide)).1; have c11 := (hq.at s0 _ [] rfl 11 (by decide)).1; have c12 := (hq.at s0 _ [] rfl 12 (by decide)).1; have c13 := (hq.at s0 _ [] rfl 13 (by decide)).1; have c14 := (hq.at s0 _ [] rfl 14 (by decide)).1; have c15 := (hq.at s0 _ [] rfl 15 (by decide)).1; simp at c0 c1 c2 c3 c4 c5 c6 c7 c8 c9 c10 c11 c12 c13 c14 c15; go_simp; done) | (intro wx hSw; obtain ⟨xq, hq⟩ := hSw; have c0 := (hq.at s0 _ [] rfl 0 (by decide)).1; have c1 := (hq.at s0 _ [] rfl 1 (by decide)).1; have c2 := (hq.at s0 _ [] rfl 2 (by decide)).1; have c3 := (hq.at s0 _ [] rfl 3 (by decide)).1; have c4 := (hq.at s0 _ [] rfl 4 (by decide)).1; have c5 := (hq.at s0 _ [] rfl 5 (by decide)).1; have c6 := (hq.at s0 _ [] rfl 6 (by decide)).1; have c7 := (hq.at s0 _ [] rfl 7 (by decide)).1; have c8 := (hq.at s0 _ [] rfl 8 (by decide)).1; have c9 := (hq.at s0 _ [] rfl 9 (by decide)).1; have c10 := (hq.at s0 _ [] rfl 10 (by decide)).1; have c11 := (hq.at s0 _ [] rfl 11 (by decide)).1; have c12 := (hq.at s0 _ [] rfl 12 (by decide)).1; have c13 := (hq.at s0 _ [] rfl 13 (by decide)).1; have c14 := (hq.at s0 _ [] rfl 14 (by decide)).1; have c15 := (hq.at s0 _ [] rfl 15 (by decide)).1; simp at c0 c1 c2 c3 c4 c5 c6 c7 c8 c9 c10 c11 c12 c13 c14 c15; go_simp; with_reducible rfl)
  simp only [Act.put, List.setIfInBounds_toArray, List.set_cons_zero, List.set_cons_succ]
  refine wpAnyH_take (i := 9) (oi := ?oi20026) (v := ?v20026) ?hi20026 (by kernel_rfl) (by kernel_rfl) (by kernel_rfl) (fun _ _ _ h => h) (Or.inl ⟨?hw20026, ?hy20026⟩) (by assumption) ?rest20026
  case hi20026 => (simp only [List.getElem?_toArray, List.getElem?_cons_zero, List.getElem?_cons_succ]; rfl)
  case hw20026 => rfl
  case hy20026 => first | (intro wx hSw; obtain ⟨xq, hq⟩ := hSw; have c0 := (hq.at s0 _ [] rfl 0 (by decide)).1; have c1 := (hq.at s0 _ [] rfl 1 (by decide)).1; have c2 := (hq.at s0 _ [] rfl 2 (by decide)).1; have c3 := (hq.at s0 _ [] rfl 3 (by decide)).1; have c4 := (hq.at s0 _ [] rfl 4 (by decide)).1; have c5 := (hq.at s0 _ [] rfl 5 (by decide)).1; have c6 := (hq.at s0 _ [] rfl 6 (by decide)).1; have c7 := (hq.at s0 _ [] rfl 7 (by decide)).1; have c8 := (hq.at s0 _ [] rfl 8 (by decide)).1; have c9 := (hq.at s0 _ [] rfl 9 (by decide)).1; have c10 := (hq.at s0 _ [] rfl 10 (by decide)).1; have c11 := (hq.at s0 _ [] rfl 11 (by decide)).1; have c12 := (hq.at s0 _ [] rfl 12 (by decide)).1; have c13 := (hq.at s0 _ [] rfl 13 (by decide)).1; have c14 := (hq.at s0 _ [] rfl 14 (by decide)).1; have c15 := (hq.at s0 _ [] rfl 15 (by decide)).1; simp at c0 c1 c2 c3 c4 c5 c6 c7 c8 c9 c10 c11 c12 c13 c14 c15; go_simp; done) | (intro wx hSw; obtain ⟨xq, hq⟩ := hSw; have c0 := (hq.at s0 _ [] rfl 0 (by decide)).1; have c1 := (hq.at s0 _ [] rfl 1 (by decide)).1; have c2 := (hq.at s0 _ [] rfl 2 (by decide)).1; have c3 := (hq.at s0 _ [] rfl 3 (by decide)).1; have c4 := (hq.at s0 _ [] rfl 4 (by decide)).1; have c5 := (hq.at s0 _ [] rfl 5 (by decide)).1; have c6 := (hq.at s0 _ [] rfl 6 (by decide)).1; have c7 := (hq.at s0 _ [] rfl 7 (by decide)).1; have c8 := (hq.at s0 _ [] rfl 8 (by decide)).1; have c9 := (hq.at s0 _ [] rfl 9 (by decide)).1; have c10 := (hq.at s0 _ [] rfl 10 (by decide)).1; have c11 := (hq.at s0 _ [] rfl 11 (by decide)).1; have c12 := (hq.at s0 _ [] rfl 12 (by decide)).1; have c13 := (hq.at s0 _ [] rfl 13 (by decide)).1; have c14 := (hq.at s0 _ [] rfl 14 (by decide)).1; have c15 := (hq.at s0 _ [] rfl 15 (by decide)).1; simp at c0 c1 c2 c3 c4 c5 c6 c7 c8 c9 c10 c11 c12 c13 c14 c15; go_simp; with_reducible rfl)
  simp only [Act.put, List.setIfInBounds_toArray, List.set_cons_zero, List.set_cons_succ]
  refine wpAnyH_take (i := 14) (oi := ?oi20027) (v := ?v20027) ?hi20027 (by kernel_rfl) (by kernel_rfl) (by kernel_rfl) (fun _ _ _ h => h) (Or.inl ⟨?hw20027, ?hy20027⟩) (by assumption) ?rest20027
  case hi20027 => (simp only [List.getElem?_toArray, List.getElem?_cons_zero, List.getElem?_cons_succ]; rfl)
  case hw20027 => rfl
  case hy20027 => first | (intro wx hSw; obtain ⟨xq, hq⟩ := hSw; have c0 := (hq.at s0 _ [] rfl 0 (by decide)).1; have c1 := (hq.at s0 _ [] rfl 1 (by decide)).1; have c2 := (hq.at s0 _ [] rfl 2 (by decide)).1; have c3 := (hq.at s0 _ [] rfl 3 (by decide)).1; have c4 := (hq.at s0 _ [] rfl 4 (by decide)).1; have c5 := (hq.at s0 _ [] rfl 5 (by decide)).1; have c6 := (hq.at s0 _ [] rfl 6 (by decide)).1; have c7 := (hq.at s0 _ [] rfl 7 (by decide)).1; have c8 := (hq.at s0 _ [] rfl 8 (by decide)).1; have c9 := (hq.at s0 _ [] rfl 9 (by decide)).1; have c10 := (hq.at s0 _ [] rfl 10 (by decide)).1; have c11 := (hq.at s0 _ [] rfl 11 (by decide)).1; have c12 := (hq.at s0 _ [] rfl 12 (by decide)).1; have c13 := (hq.at s0 _ [] rfl 13 (by decide)).1; have c14 := (hq.at s0 _ [] rfl 14 (by decide)).1; have c15 := (hq.at s0 _ [] rfl 15 (by decide)).1; simp at c0 c1 c2 c3 c4 c5 c6 c7 c8 c9 c10 c11 c12 c13 c14 c15; go_simp; done) | (intro wx hSw; obtain ⟨xq, hq⟩ := hSw; have c0 := (hq.at s0 _ [] rfl 0 (by decide)).1; have c1 := (hq.at s0 _ [] rfl 1 (by decide)).1; have c2 := (hq.at s0 _ [] rfl 2 (by decide)).1; have c3 := (hq.at s0 _ [] rfl 3 (by decide)).1; have c4 := (hq.at s0 _ [] rfl 4 (by decide)).1; have c5 := (hq.at s0 _ [] rfl 5 (by decide)).1; have c6 := (hq.at s0 _ [] rfl 6 (by decide)).1; have c7 := (hq.at s0 _ [] rfl 7 (by decide)).1; have c8 := (hq.at s0 _ [] rfl 8 (by decide)).1; have c9 := (hq.at s0 _ [] rfl 9 (by decide)).1; have c10 := (hq.at s0 _ [] rfl 10 (by decide)).1; have c11 := (hq.at s0 _ [] rfl 11 (by decide)).1; have c12 := (hq.at s0 _ [] rfl 12 (by decide)).1; have c13 := (hq.at s0 _ [] rfl 13 (by decide)).1; have c14 := (hq.at s0 _ [] rfl 14 (by decide)).1; have c15 := (hq.at s0 _ [] rfl 15 (by decide)).1; simp at c0 c1 c2 c3 c4 c5 c6 c7 c8 c9 c10 c11 c12 c13 c14 c15; go_simp; with_reducible rfl)
  simp only [Act.put, List.setIfInBounds_toArray, List.set_cons_zero, List.set_cons_succ]
  have hW5 := hide hHeld
  refine wpAnyH_ready (rs := [15, 19]) (by kernel_rfl) (by simp) ?_
  refine AllReadyH.cons rfl (fun K20028 hK20028 => ?_) ?_
  · go_simp
    go_wp2_with (go_at_call 45; refine (unhide HOF e (.slice p m cp) ra rb _ (unhide hPe).1 (unhide hPe).2.1 (unhide hPe).2.2 (unhide hRe) (unhide hW5).choose_spec.below).mono ?_; rw [unhide hf]; rintro x W5 ⟨rfl, hb5⟩)
    refine hK20028.out _ _ ?hs20028 (fun hHeld20028 => ?_)
    case hs20028 => exact ⟨_, (unhide hW5).choose_spec.call hb5⟩
    clear hHeld
    have hHeld := hHeld20028; clear hHeld20028 hK20028 K20028
    refine wpAnyH_take (i := 16) (oi := ?oi20029) (v := ?v20029) ?hi20029 (by kernel_rfl) (by kernel_rfl) (by kernel_rfl) (fun _ _ _ h => h) (Or.inl ⟨?hw20029, ?hy20029⟩) (by assumption) ?rest20029
    case hi20029 => (simp only [List.getElem?_toArray, List.getElem?_cons_zero, List.getElem?_cons_succ]; rfl)
    case hw20029 => rfl
    case hy20029 => first | (intro wx hSw; go_simp; done) | (intro wx hSw; go_simp; with_reducible rfl)
    simp only [Act.put, List.setIfInBounds_toArray, List.set_cons_zero, List.set_cons_succ]
    refine wpAnyH_take (i := 17) (oi := ?oi20030) (v := ?v20030) ?hi20030 (by kernel_rfl) (by kernel_rfl) (by kernel_rfl) (fun _ _ _ h => h) (Or.inl ⟨?hw20030, ?hy20030⟩) (by assumption) ?rest20030
    case hi20030 => (simp only [List.getElem?_toArray, List.getElem?_cons_zero, List.getElem?_cons_succ]; rfl)
    case hw20030 => rfl
    case hy20030 => first | (intro wx hSw; go_simp; done) | (intro wx hSw; go_simp; with_reducible rfl)
    simp only [Act.put, List.setIfInBounds_toArray, List.set_cons_zero, List.set_cons_succ]
    refine wpAnyH_take (i := 18) (oi := ?oi20031) (v := ?v20031) ?hi20031 (by kernel_rfl) (by kernel_rfl) (by kernel_rfl) (fun _ _ _ h => h) (Or.inl ⟨?hw20031, ?hy20031⟩) (by assumption) ?rest20031
    case hi20031 => (simp only [List.getElem?_toArray, List.getElem?_cons_zero, List.getElem?_cons_succ]; rfl)
    case hw20031 => rfl
    case hy20031 => first | (intro wx hSw; go_simp; done) | (intro wx hSw; go_simp; with_reducible rfl)
    simp only [Act.put, List.setIfInBounds_toArray, List.set_cons_zero, List.set_cons_succ]
    have hW6 := hide hHeld
    refine wpAnyH_ready (rs := [19]) (by kernel_rfl) (by simp) ?_
    refine AllReadyH.cons rfl (fun K20032 hK20032 => ?_) AllReadyH.nil
    go_simp
    refine hK20032.out _ _ ?hs20032 (fun hHeld20032 => ?_)
    case hs20032 => exact ⟨_, (unhide hW6).choose_spec.call ((Below.refl _ _).alloc (Nat.le_refl _) _)⟩
    clear hHeld
    have hHeld := hHeld20032; clear hHeld20032 hK20032 K20032
    have hge8 := (unhide hW6).choose_spec.size
    have hne8 := (unhide hW6).choose_spec.under
    clear hb5 hW5
    refine wpAnyH_ready (rs := [20]) (by kernel_rfl) (by simp) ?_
    refine AllReadyH.cons rfl (fun K20033 hK20033 => ?_) AllReadyH.nil
    go_simp
    refine hK20033.out _ _ ?hs20033 (fun hHeld20033 => ?_)
    case hs20033 => exact ⟨_, (unhide hW6).choose_spec.call ((Below.refl _ _).alloc (Nat.le_refl _) _)⟩
    clear hHeld
    have hHeld := hHeld20033; clear hHeld20033 hK20033 K20033
    have hz9 := World.alloc_heap_new W5 (.cells #[.int .i64 r.1, .int .i64 r.2.1, .int .i64 r.2.2.1, .string r.2.2.2] 28)
    refine anyH_weaken (S := (fun X => (∃ xq, StV w Pd Pv (s0 ++ [⟨e, .slice p m cp, d, ra, rb⟩]) (.slice (some ⟨g, 0, none⟩) (s0.length + 1) cap) xq X) ∧ X.heap[W5.heap.size]? = some (.cells #[.int .i64 r.1, .int .i64 r.2.1, .int .i64 r.2.2.1, .string r.2.2.2] 28 (0, 0)))) (fun _ h => h.1) _ _ _ _ ?_
    replace hHeld := And.intro hHeld hz9
    clear hz9
    refine wpAnyH_take (i := 21) (oi := ?oi20034) (v := ?v20034) ?hi20034 (by kernel_rfl) (by kernel_rfl) (by kernel_rfl) (fun _ _ _ h => h) (Or.inl ⟨?hw20034, ?hy20034⟩) (by assumption) ?rest20034
    case hi20034 => (simp only [List.getElem?_toArray, List.getElem?_cons_zero, List.getElem?_cons_succ]; rfl)
    case hw20034 => rfl
    case hy20034 => first | (intro wx hSw; go_simp; done) | (intro wx hSw; go_simp; with_reducible rfl)
    simp only [Act.put, List.setIfInBounds_toArray, List.set_cons_zero, List.set_cons_succ]
    refine wpAnyH_done (by kernel_rfl) ?_ _
    refine NoPanic.normal ?_
    refine hrest _ _ ?_
    clear hW6
    clear hrest
    revert hHeld
    generalize World.alloc _ _ = Wz
    intro hHeld
    generalize W5.heap.size = b8 at *
    obtain ⟨hS6, hb8⟩ := hHeld
    obtain ⟨xq, hq6⟩ := hS6
    have HB8 := hide hb8
    have hl8 := (Array.getElem?_eq_some_iff.1 hb8).1
    have t0 := cell_of_row _ _ 0 _ _ _ hb8
    have t1 := cell_of_row _ _ 1 _ _ _ hb8
    have t2 := cell_of_row _ _ 2 _ _ _ hb8
    have t3 := cell_of_row _ _ 3 _ _ _ hb8
    simp at t0 t1 t2 t3
    have hres := hq6.res
    have hlr := (Array.getElem?_eq_some_iff.1 hres).1
    have q0 := cell_of_row _ _ 0 _ _ _ hres
    have q1 := cell_of_row _ _ 1 _ _ _ hres
    have q2 := cell_of_row _ _ 2 _ _ _ hres
    have q3 := cell_of_row _ _ 3 _ _ _ hres
    simp at q0 q1 q2 q3
    have fr : ∀ j, Wz.frozen? ⟨w.heap.size + 1, j, none⟩ = false := fun j => by simp [World.frozen?, hres]
    have fr0 := fr 0
    have fr1 := fr 1
    have fr2 := fr 2
    have fr3 := fr 3
    clear fr hres hb8
    by_cases her : er = 0
    · subst her
      have hB0 := hq6.below
      have HP := hide hq6.pop
      clear hq6
      rcases List.eq_nil_or_concat s0 with rfl | ⟨s1, pr, hs01⟩
      · have hBl := hide ((((hB0.setCell (p := ⟨w.heap.size + 1, 0, none⟩) (Nat.le_succ _) (.int .i64 r.1)).setCell (p := ⟨w.heap.size + 1, 1, none⟩) (Nat.le_succ _) (.int .i64 r.2.1)).setCell (p := ⟨w.heap.size + 1, 2, none⟩) (Nat.le_succ _) (.int .i64 r.2.2.1)).setCell (p := ⟨w.heap.size + 1, 3, none⟩) (Nat.le_succ _) (.string r.2.2.2))
        clear hB0 HB8 HP
        go_wp2_with fail
        have hU2 := unhide hU
        refine bodyPost_ret (v := .tuple #[.agg #[.int .i64 r.1, .int .i64 r.2.1, .int .i64 r.2.2.1, .string r.2.2.2], .int .i64 0]) (by simp [results, Try.results44, go_sem, q0, q1, q2, q3, hlr]) rfl ⟨?_, unhide hBl⟩
        rw [← hU2]; rfl
      · rw [List.concat_eq_append] at hs01
        subst hs01
        clear t0 t1 t2 t3 q0 q1 q2 q3 fr0 fr1 fr2 fr3 hlr hB0
        have hl1 : (s1 ++ [pr]).length = s1.length + 1 := by simp
        have hcap : s1.length + 1 ≤ cap := by
          rcases (unhide HP).row.2 with ⟨hv, _⟩ | ⟨g', cap', cur, hv, _, _, h1, _⟩
          · cases hv
          · cases hv; rw [hl1] at h1; exact h1
        rw [hl1] at HP e1 hk1000 ⊢
        clear e1
        have hcapi : (s1.length : Int) + 1 ≤ cap := by omega
        have e2 : IntKind.i64.wrap ((s1.length : Int) + 1 + 1 - 1) = (s1.length : Int) + 1 := IntWalk.i64_in _ (by omega) |>.trans (by omega)
        have e3 : IntKind.i64.wrap ((s1.length : Int) + 1 - 1) = (s1.length : Int) := IntWalk.i64_in _ (by omega) |>.trans (by omega)
        have hz : ((s1.length : Int) + 1 == 0) = false := beq_eq_false_iff_ne.2 (by omega)
        have hkp := unhide hK pr (by simp)
        have hd2 := kid_d hkp
        obtain ⟨ck, hck⟩ : ∃ ck, pr.kid = some ck := by
          cases hh : pr.kid with
          | none => exact absurd hh hkp
          | some ck => exact ⟨ck, rfl⟩
        have hrp := rem_put hck r
        have HRP := hide hrp
        clear hkp hrp hck
        obtain ⟨pe, pl, pd, pa, pb⟩ := pr
        go_wp2_with fail
        rename_i hrest
        have hd01 : pd = 0 ∨ pd = 1 := by have h : pd < 2 := hd2; omega
        rcases hd01 with rfl | rfl
        · have HPW := hide ((unhide HP).call (Below.refl _ _).drew)
          have hB9 := hide (((Below.refl _ _).drew.block b8 hl8).trans (unhide HB8))
          refine wp_region_noPanic ?_
          refine wp_region_held_drew (S := (fun X => (∃ xq q, q.d = 0 ∧ StV w Pd (fun _ => True) (s1 ++ [q]) (.slice (some ⟨g, 0, none⟩) (s1.length + 1) cap) xq X) ∧ X.heap[b8]? = some (.cells #[.int .i64 r.1, .int .i64 r.2.1, .int .i64 r.2.2.1, .string r.2.2.2] 28 (0, 0)))) (by kernel_rfl) (⟨⟨_, ⟨pe, pl, 0, pa, pb⟩, rfl, (unhide HPW).bare⟩, unhide hB9⟩) (fun hHeld => ?_)
          clear HP
          revert HPW hB9 hHeld
          generalize World.drew _ = Wf
          intro HPW hB9 hHeld
          refine wpAnyH_take (i := 0) (oi := ?oi20035) (v := ?v20035) ?hi20035 (by kernel_rfl) (by kernel_rfl) (by kernel_rfl) (fun _ _ _ h => h) (Or.inl ⟨?hw20035, ?hy20035⟩) (by assumption) ?rest20035
          case hi20035 => (simp only [List.getElem?_toArray, List.getElem?_cons_zero]; rfl)
          case hw20035 => rfl
          case hy20035 => first | (intro wx hSw; go_simp; done) | (intro wx hSw; go_simp; with_reducible rfl)
          simp only [Act.put, List.setIfInBounds_toArray, List.set_cons_zero, List.set_cons_succ]
          refine wpAnyH_take (i := 1) (oi := ?oi20036) (v := ?v20036) ?hi20036 (by kernel_rfl) (by kernel_rfl) (by kernel_rfl) (fun _ _ _ h => h) (Or.inl ⟨?hw20036, ?hy20036⟩) (by assumption) ?rest20036
          case hi20036 => (simp only [List.getElem?_toArray, List.getElem?_cons_zero, List.getElem?_cons_succ]; rfl)
          case hw20036 => rfl
          case hy20036 => first | (intro wx hSw; go_simp; done) | (intro wx hSw; go_simp; with_reducible rfl)
          simp only [Act.put, List.setIfInBounds_toArray, List.set_cons_zero, List.set_cons_succ]
          refine wpAnyH_take (i := 5) (oi := ?oi20037) (v := ?v20037) ?hi20037 (by kernel_rfl) (by kernel_rfl) (by kernel_rfl) (fun _ _ _ h => h) (Or.inl ⟨?hw20037, ?hy20037⟩) (by assumption) ?rest20037
          case hi20037 => (simp only [List.getElem?_toArray, List.getElem?_cons_zero, List.getElem?_cons_succ]; rfl)
          case hw20037 => rfl
          case hy20037 => first | (intro wx hSw; obtain ⟨-, hb9⟩ := hSw; have t0 := cell_of_row _ _ 0 _ _ _ hb9; have t1 := cell_of_row _ _ 1 _ _ _ hb9; have t2 := cell_of_row _ _ 2 _ _ _ hb9; have t3 := cell_of_row _ _ 3 _ _ _ hb9; simp at t0 t1 t2 t3; go_simp; done) | (intro wx hSw; obtain ⟨-, hb9⟩ := hSw; have t0 := cell_of_row _ _ 0 _ _ _ hb9; have t1 := cell_of_row _ _ 1 _ _ _ hb9; have t2 := cell_of_row _ _ 2 _ _ _ hb9; have t3 := cell_of_row _ _ 3 _ _ _ hb9; simp at t0 t1 t2 t3; go_simp; with_reducible rfl)
          simp only [Act.put, List.setIfInBounds_toArray, List.set_cons_zero, List.set_cons_succ]
          refine wpAnyH_take (i := 2) (oi := ?oi20038) (v := ?v20038) ?hi20038 (by kernel_rfl) (by kernel_rfl) (by kernel_rfl) (fun _ _ _ h => h) (Or.inl ⟨?hw20038, ?hy20038⟩) (by assumption) ?rest20038
          case hi20038 => (simp only [List.getElem?_toArray, List.getElem?_cons_zero, List.getElem?_cons_succ]; rfl)
          case hw20038 => rfl
          case hy20038 => first | (intro wx hSw; go_simp; done) | (intro wx hSw; go_simp; with_reducible rfl)
          simp only [Act.put, List.setIfInBounds_toArray, List.set_cons_zero, List.set_cons_succ]
          refine wpAnyH_take (i := 6) (oi := ?oi20039) (v := ?v20039) ?hi20039 (by kernel_rfl) (by kernel_rfl) (by kernel_rfl) (fun _ _ _ h => h) (Or.inl ⟨?hw20039, ?hy20039⟩) (by assumption) ?rest20039
          case hi20039 => (simp only [List.getElem?_toArray, List.getElem?_cons_zero, List.getElem?_cons_succ]; rfl)
          case hw20039 => rfl
          case hy20039 => first | (intro wx hSw; go_simp; done) | (intro wx hSw; go_simp; with_reducible rfl)
          simp only [Act.put, List.setIfInBounds_toArray, List.set_cons_zero, List.set_cons_succ]
          refine wpAnyH_take (i := 3) (oi := ?oi20040) (v := ?v20040) ?hi20040 (by kernel_rfl) (by kernel_rfl) (by kernel_rfl) (fun _ _ _ h => h) (Or.inl ⟨?hw20040, ?hy20040⟩) (by assumption) ?rest20040
          case hi20040 => (simp only [List.getElem?_toArray, List.getElem?_cons_zero, List.getElem?_cons_succ]; rfl)
          case hw20040 => rfl
          case hy20040 => first | (intro wx hSw; go_simp; done) | (intro wx hSw; go_simp; with_reducible rfl)
          simp only [Act.put, List.setIfInBounds_toArray, List.set_cons_zero, List.set_cons_succ]
          refine wpAnyH_take (i := 7) (oi := ?oi20041) (v := ?v20041) ?hi20041 (by kernel_rfl) (by kernel_rfl) (by kernel_rfl) (fun _ _ _ h => h) (Or.inl ⟨?hw20041, ?hy20041⟩) (by assumption) ?rest20041
          case hi20041 => (simp only [List.getElem?_toArray, List.getElem?_cons_zero, List.getElem?_cons_succ]; rfl)
          case hw20041 => rfl
          case hy20041 => first | (intro wx hSw; go_simp; done) | (intro wx hSw; go_simp; with_reducible rfl)
          simp only [Act.put, List.setIfInBounds_toArray, List.set_cons_zero, List.set_cons_succ]
          refine wpAnyH_take (i := 4) (oi := ?oi20042) (v := ?v20042) ?hi20042 (by kernel_rfl) (by kernel_rfl) (by kernel_rfl) (fun _ _ _ h => h) (Or.inl ⟨?hw20042, ?hy20042⟩) (by assumption) ?rest20042
          case hi20042 => (simp only [List.getElem?_toArray, List.getElem?_cons_zero, List.getElem?_cons_succ]; rfl)
          case hw20042 => rfl
          case hy20042 => first | (intro wx hSw; obtain ⟨⟨xq, q, hqd, hq⟩, -⟩ := hSw; have c7 := (hq.at s1 _ [] rfl 7 (by decide)).1; simp at c7; rw [hqd] at c7; go_simp; done) | (intro wx hSw; obtain ⟨⟨xq, q, hqd, hq⟩, -⟩ := hSw; have c7 := (hq.at s1 _ [] rfl 7 (by decide)).1; simp at c7; rw [hqd] at c7; go_simp; with_reducible rfl)
          simp only [Act.put, List.setIfInBounds_toArray, List.set_cons_zero, List.set_cons_succ]
          refine wpAnyH_take (i := 8) (oi := ?oi20043) (v := ?v20043) ?hi20043 (by kernel_rfl) (by kernel_rfl) (by kernel_rfl) (fun _ _ _ h => h) (Or.inl ⟨?hw20043, ?hy20043⟩) (by assumption) ?rest20043
          case hi20043 => (simp only [List.getElem?_toArray, List.getElem?_cons_zero, List.getElem?_cons_succ]; rfl)
          case hw20043 => rfl
          case hy20043 => first | (intro wx hSw; go_simp; done) | (intro wx hSw; go_simp; with_reducible rfl)
          simp only [Act.put, List.setIfInBounds_toArray, List.set_cons_zero, List.set_cons_succ]
          obtain ⟨a0, b0⟩ := (unhide HPW).at s1 _ [] rfl 8 (by decide)
          obtain ⟨a1, b1⟩ := (unhide HPW).at s1 _ [] rfl 9 (by decide)
          obtain ⟨a2, b2⟩ := (unhide HPW).at s1 _ [] rfl 10 (by decide)
          obtain ⟨a3, b3⟩ := (unhide HPW).at s1 _ [] rfl 11 (by decide)
          simp at a0 a1 a2 a3
          rw [show s1.length * 16 + 9 = s1.length * 16 + 8 + 1 by omega] at a1 b1
          rw [show s1.length * 16 + 10 = s1.length * 16 + 8 + 2 by omega] at a2 b2
          rw [show s1.length * 16 + 11 = s1.length * 16 + 8 + 3 by omega] at a3 b3
          have hput := (unhide HPW).bare.putA r
          rw [show s1.length * 16 + 9 = s1.length * 16 + 8 + 1 by omega, show s1.length * 16 + 10 = s1.length * 16 + 8 + 2 by omega, show s1.length * 16 + 11 = s1.length * 16 + 8 + 3 by omega] at hput
          refine wpAnyH_ready (rs := [9]) (by kernel_rfl) (by simp) ?_
          refine AllReadyH.cons rfl (fun K20044 hK20044 => ?_) AllReadyH.nil
          go_simp
          refine hK20044.out _ _ ?hs20044 (fun hHeld20044 => ?_)
          case hs20044 => exact ⟨⟨_, ⟨pe, pl, 0, r, pb⟩, rfl, hput⟩, (Below.heap_setCell _ _ _ _ (by simp; omega)).trans ((Below.heap_setCell _ _ _ _ (by simp; omega)).trans ((Below.heap_setCell _ _ _ _ (by simp; omega)).trans ((Below.heap_setCell _ _ _ _ (by simp; omega)).trans (unhide hB9))))⟩
          clear hHeld
          have hHeld := hHeld20044; clear hHeld20044 hK20044 K20044
          refine wpAnyH_done (by kernel_rfl) ?_ _
          refine NoPanic.normal ?_
          refine hrest _ _ ?_
          clear hrest a0 a1 a2 a3 b0 b1 b2 b3 hHeld hB9
          obtain ⟨k7, f7⟩ := hput.at s1 _ [] rfl 7 (by decide)
          have hput2 := hput.put (q' := ⟨pe, pl, 1, r, pb⟩) 7 (by decide) (.int .i64 1) rfl rfl rfl
          have HPA := hide (unhide HPW).rep
          have HP2 := hide hput2
          clear hput hput2 HPW
          revert k7 f7 HP2
          generalize World.setCell (World.setCell (World.setCell (World.setCell Wf _ _) _ _) _ _) _ _ = Wg
          intro k7 f7 HP2
          simp at k7
          go_wp2_with fail
          go_step3
          have hU2 := unhide hU
          have hn2 := unhide hn
          have hrp := unhide HRP
          have hvv : ∀ x ∈ s1 ++ [(⟨pe, pl, 1, r, pb⟩ : Fr V4)], Pv x.a ∧ Pv x.b := by
            intro x hx
            rcases List.mem_append.1 hx with hx | hx
            · exact (unhide HPA x (by simp [hx])).2.2
            · have h9 := (unhide HPA ⟨pe, pl, 0, pa, pb⟩ (by simp)).2.2
              simp at hx; subst hx; exact ⟨unhide hPr, h9.2⟩
          refine ⟨(Fr.remTop (⟨pe, pl, 1, r, pb⟩ : Fr V4)) + (s1.map Fr.rem).sum, ?_, J44.intro _ (s1 ++ [⟨pe, pl, 1, r, pb⟩]) _ _ rfl ((unhide HP2).full hvv) (.inr ⟨rfl, s1, ⟨pe, pl, 1, r, pb⟩, rfl, fun x hx => unhide hK x (by simp [hx]), ?_, rfl⟩)⟩
          · have e9 : (Fr.remTop (⟨pe, pl, 1, r, pb⟩ : Fr V4)) = Fr.rem (⟨pe, pl, 0, pa, pb⟩ : Fr V4) := hrp
            rw [e9, hn2, List.map_append, List.sum_append]
            simp
            omega
          · rw [List.reverse_append] at hU2
            exact hU2
        · have HPW := hide ((unhide HP).call (Below.refl _ _).drew)
          have hB9 := hide (((Below.refl _ _).drew.block b8 hl8).trans (unhide HB8))
          refine wp_region_noPanic ?_
          refine wp_region_held_drew (S := (fun X => (∃ xq q, q.d = 1 ∧ StV w Pd (fun _ => True) (s1 ++ [q]) (.slice (some ⟨g, 0, none⟩) (s1.length + 1) cap) xq X) ∧ X.heap[b8]? = some (.cells #[.int .i64 r.1, .int .i64 r.2.1, .int .i64 r.2.2.1, .string r.2.2.2] 28 (0, 0)))) (by kernel_rfl) (⟨⟨_, ⟨pe, pl, 1, pa, pb⟩, rfl, (unhide HPW).bare⟩, unhide hB9⟩) (fun hHeld => ?_)
          clear HP
          revert HPW hB9 hHeld
          generalize World.drew _ = Wf
          intro HPW hB9 hHeld
          refine wpAnyH_take (i := 0) (oi := ?oi20045) (v := ?v20045) ?hi20045 (by kernel_rfl) (by kernel_rfl) (by kernel_rfl) (fun _ _ _ h => h) (Or.inl ⟨?hw20045, ?hy20045⟩) (by assumption) ?rest20045
          case hi20045 => (simp only [List.getElem?_toArray, List.getElem?_cons_zero]; rfl)
          case hw20045 => rfl
          case hy20045 => first | (intro wx hSw; go_simp; done) | (intro wx hSw; go_simp; with_reducible rfl)
          simp only [Act.put, List.setIfInBounds_toArray, List.set_cons_zero, List.set_cons_succ]
          refine wpAnyH_take (i := 1) (oi := ?oi20046) (v := ?v20046) ?hi20046 (by kernel_rfl) (by kernel_rfl) (by kernel_rfl) (fun _ _ _ h => h) (Or.inl ⟨?hw20046, ?hy20046⟩) (by assumption) ?rest20046
          case hi20046 => (simp only [List.getElem?_toArray, List.getElem?_cons_zero, List.getElem?_cons_succ]; rfl)
          case hw20046 => rfl
          case hy20046 => first | (intro wx hSw; go_simp; done) | (intro wx hSw; go_simp; with_reducible rfl)
          simp only [Act.put, List.setIfInBounds_toArray, List.set_cons_zero, List.set_cons_succ]
          refine wpAnyH_take (i := 5) (oi := ?oi20047) (v := ?v20047) ?hi20047 (by kernel_rfl) (by kernel_rfl) (by kernel_rfl) (fun _ _ _ h => h) (Or.inl ⟨?hw20047, ?hy20047⟩) (by assumption) ?rest20047
          case hi20047 => (simp only [List.getElem?_toArray, List.getElem?_cons_zero, List.getElem?_cons_succ]; rfl)
          case hw20047 => rfl
          case hy20047 => first | (intro wx hSw; obtain ⟨-, hb9⟩ := hSw; have t0 := cell_of_row _ _ 0 _ _ _ hb9; have t1 := cell_of_row _ _ 1 _ _ _ hb9; have t2 := cell_of_row _ _ 2 _ _ _ hb9; have t3 := cell_of_row _ _ 3 _ _ _ hb9; simp at t0 t1 t2 t3; go_simp; done) | (intro wx hSw; obtain ⟨-, hb9⟩ := hSw; have t0 := cell_of_row _ _ 0 _ _ _ hb9; have t1 := cell_of_row _ _ 1 _ _ _ hb9; have t2 := cell_of_row _ _ 2 _ _ _ hb9; have t3 := cell_of_row _ _ 3 _ _ _ hb9; simp at t0 t1 t2 t3; go_simp; with_reducible rfl)
          simp only [Act.put, List.setIfInBounds_toArray, List.set_cons_zero, List.set_cons_succ]
          refine wpAnyH_take (i := 2) (oi := ?oi20048) (v := ?v20048) ?hi20048 (by kernel_rfl) (by kernel_rfl) (by kernel_rfl) (fun _ _ _ h => h) (Or.inl ⟨?hw20048, ?hy20048⟩) (by assumption) ?rest20048
          case hi20048 => (simp only [List.getElem?_toArray, List.getElem?_cons_zero, List.getElem?_cons_succ]; rfl)
          case hw20048 => rfl
          case hy20048 => first | (intro wx hSw; go_simp; done) | (intro wx hSw; go_simp; with_reducible rfl)
          simp only [Act.put, List.setIfInBounds_toArray, List.set_cons_zero, List.set_cons_succ]
          refine wpAnyH_take (i := 6) (oi := ?oi20049) (v := ?v20049) ?hi20049 (by kernel_rfl) (by kernel_rfl) (by kernel_rfl) (fun _ _ _ h => h) (Or.inl ⟨?hw20049, ?hy20049⟩) (by assumption) ?rest20049
          case hi20049 => (simp only [List.getElem?_toArray, List.getElem?_cons_zero, List.getElem?_cons_succ]; rfl)
          case hw20049 => rfl
          case hy20049 => first | (intro wx hSw; go_simp; done) | (intro wx hSw; go_simp; with_reducible rfl)
          simp only [Act.put, List.setIfInBounds_toArray, List.set_cons_zero, List.set_cons_succ]
          refine wpAnyH_take (i := 3) (oi := ?oi20050) (v := ?v20050) ?hi20050 (by kernel_rfl) (by kernel_rfl) (by kernel_rfl) (fun _ _ _ h => h) (Or.inl ⟨?hw20050, ?hy20050⟩) (by assumption) ?rest20050
          case hi20050 => (simp only [List.getElem?_toArray, List.getElem?_cons_zero, List.getElem?_cons_succ]; rfl)
          case hw20050 => rfl
          case hy20050 => first | (intro wx hSw; go_simp; done) | (intro wx hSw; go_simp; with_reducible rfl)
          simp only [Act.put, List.setIfInBounds_toArray, List.set_cons_zero, List.set_cons_succ]
          refine wpAnyH_take (i := 7) (oi := ?oi20051) (v := ?v20051) ?hi20051 (by kernel_rfl) (by kernel_rfl) (by kernel_rfl) (fun _ _ _ h => h) (Or.inl ⟨?hw20051, ?hy20051⟩) (by assumption) ?rest20051
          case hi20051 => (simp only [List.getElem?_toArray, List.getElem?_cons_zero, List.getElem?_cons_succ]; rfl)
          case hw20051 => rfl
          case hy20051 => first | (intro wx hSw; go_simp; done) | (intro wx hSw; go_simp; with_reducible rfl)
          simp only [Act.put, List.setIfInBounds_toArray, List.set_cons_zero, List.set_cons_succ]
          refine wpAnyH_take (i := 4) (oi := ?oi20052) (v := ?v20052) ?hi20052 (by kernel_rfl) (by kernel_rfl) (by kernel_rfl) (fun _ _ _ h => h) (Or.inl ⟨?hw20052, ?hy20052⟩) (by assumption) ?rest20052
          case hi20052 => (simp only [List.getElem?_toArray, List.getElem?_cons_zero, List.getElem?_cons_succ]; rfl)
          case hw20052 => rfl
          case hy20052 => first | (intro wx hSw; obtain ⟨⟨xq, q, hqd, hq⟩, -⟩ := hSw; have c7 := (hq.at s1 _ [] rfl 7 (by decide)).1; simp at c7; rw [hqd] at c7; go_simp; done) | (intro wx hSw; obtain ⟨⟨xq, q, hqd, hq⟩, -⟩ := hSw; have c7 := (hq.at s1 _ [] rfl 7 (by decide)).1; simp at c7; rw [hqd] at c7; go_simp; with_reducible rfl)
          simp only [Act.put, List.setIfInBounds_toArray, List.set_cons_zero, List.set_cons_succ]
          refine wpAnyH_take (i := 8) (oi := ?oi20053) (v := ?v20053) ?hi20053 (by kernel_rfl) (by kernel_rfl) (by kernel_rfl) (fun _ _ _ h => h) (Or.inl ⟨?hw20053, ?hy20053⟩) (by assumption) ?rest20053
          case hi20053 => (simp only [List.getElem?_toArray, List.getElem?_cons_zero, List.getElem?_cons_succ]; rfl)
          case hw20053 => rfl
          case hy20053 => first | (intro wx hSw; go_simp; done) | (intro wx hSw; go_simp; with_reducible rfl)
          simp only [Act.put, List.setIfInBounds_toArray, List.set_cons_zero, List.set_cons_succ]
          obtain ⟨a0, b0⟩ := (unhide HPW).at s1 _ [] rfl 12 (by decide)
          obtain ⟨a1, b1⟩ := (unhide HPW).at s1 _ [] rfl 13 (by decide)
          obtain ⟨a2, b2⟩ := (unhide HPW).at s1 _ [] rfl 14 (by decide)
          obtain ⟨a3, b3⟩ := (unhide HPW).at s1 _ [] rfl 15 (by decide)
          simp at a0 a1 a2 a3
          rw [show s1.length * 16 + 12 = s1.length * 16 + 8 + 4 by omega] at a0 b0
          rw [show s1.length * 16 + 13 = s1.length * 16 + 8 + 4 + 1 by omega] at a1 b1
          rw [show s1.length * 16 + 14 = s1.length * 16 + 8 + 4 + 2 by omega] at a2 b2
          rw [show s1.length * 16 + 15 = s1.length * 16 + 8 + 4 + 3 by omega] at a3 b3
          have hput := (unhide HPW).bare.putB r
          rw [show s1.length * 16 + 12 = s1.length * 16 + 8 + 4 by omega, show s1.length * 16 + 13 = s1.length * 16 + 8 + 4 + 1 by omega, show s1.length * 16 + 14 = s1.length * 16 + 8 + 4 + 2 by omega, show s1.length * 16 + 15 = s1.length * 16 + 8 + 4 + 3 by omega] at hput
          refine wpAnyH_ready (rs := [9]) (by kernel_rfl) (by simp) ?_
          refine AllReadyH.cons rfl (fun K20054 hK20054 => ?_) AllReadyH.nil
          go_simp
          refine hK20054.out _ _ ?hs20054 (fun hHeld20054 => ?_)
          case hs20054 => exact ⟨⟨_, ⟨pe, pl, 1, pa, r⟩, rfl, hput⟩, (Below.heap_setCell _ _ _ _ (by simp; omega)).trans ((Below.heap_setCell _ _ _ _ (by simp; omega)).trans ((Below.heap_setCell _ _ _ _ (by simp; omega)).trans ((Below.heap_setCell _ _ _ _ (by simp; omega)).trans (unhide hB9))))⟩
          clear hHeld
          have hHeld := hHeld20054; clear hHeld20054 hK20054 K20054
          refine wpAnyH_done (by kernel_rfl) ?_ _
          refine NoPanic.normal ?_
          refine hrest _ _ ?_
          clear hrest a0 a1 a2 a3 b0 b1 b2 b3 hHeld hB9
          obtain ⟨k7, f7⟩ := hput.at s1 _ [] rfl 7 (by decide)
          have hput2 := hput.put (q' := ⟨pe, pl, 2, pa, r⟩) 7 (by decide) (.int .i64 2) rfl rfl rfl
          have HPA := hide (unhide HPW).rep
          have HP2 := hide hput2
          clear hput hput2 HPW
          revert k7 f7 HP2
          generalize World.setCell (World.setCell (World.setCell (World.setCell Wf _ _) _ _) _ _) _ _ = Wg
          intro k7 f7 HP2
          simp at k7
          go_wp2_with fail
          go_step3
          have hU2 := unhide hU
          have hn2 := unhide hn
          have hrp := unhide HRP
          have hvv : ∀ x ∈ s1 ++ [(⟨pe, pl, 2, pa, r⟩ : Fr V4)], Pv x.a ∧ Pv x.b := by
            intro x hx
            rcases List.mem_append.1 hx with hx | hx
            · exact (unhide HPA x (by simp [hx])).2.2
            · have h9 := (unhide HPA ⟨pe, pl, 1, pa, pb⟩ (by simp)).2.2
              simp at hx; subst hx; exact ⟨h9.1, unhide hPr⟩
          refine ⟨(Fr.remTop (⟨pe, pl, 2, pa, r⟩ : Fr V4)) + (s1.map Fr.rem).sum, ?_, J44.intro _ (s1 ++ [⟨pe, pl, 2, pa, r⟩]) _ _ rfl ((unhide HP2).full hvv) (.inr ⟨rfl, s1, ⟨pe, pl, 2, pa, r⟩, rfl, fun x hx => unhide hK x (by simp [hx]), ?_, rfl⟩)⟩
          · have e9 : (Fr.remTop (⟨pe, pl, 2, pa, r⟩ : Fr V4)) = Fr.rem (⟨pe, pl, 1, pa, pb⟩ : Fr V4) := hrp
            rw [e9, hn2, List.map_append, List.sum_append]
            simp
            omega
          · rw [List.reverse_append] at hU2
            exact hU2
    · have hne : (er != 0) = true := bne_iff_ne.2 her
      have hB0 := hq6.below
      have hBl := hide (((((hB0.setCell (p := ⟨w.heap.size + 1, 0, none⟩) (Nat.le_succ _) (.int .i64 0)).setCell (p := ⟨w.heap.size + 1, 1, none⟩) (Nat.le_succ _) (.int .i64 0)).setCell (p := ⟨w.heap.size + 1, 2, none⟩) (Nat.le_succ _) (.int .i64 0)).setCell (p := ⟨w.heap.size + 1, 3, none⟩) (Nat.le_succ _) (.string ⟨#[]⟩)).alloc (by simp; exact hB0.size) (.cells #[.int .i64 0, .int .i64 0, .int .i64 0, .string ⟨#[]⟩] 28))
      clear hB0 HB8 hq6
      go_wp2_with fail
      have hU2 := unhide hU
      unfold fin at hU2
      rw [if_neg her, up_err Z4 f _ _ her] at hU2
      refine bodyPost_ret (v := .tuple #[.agg #[.int .i64 0, .int .i64 0, .int .i64 0, .string ⟨#[]⟩], .int .i64 er]) (by simp [results, Try.results44, go_sem, q0, q1, q2, q3, hlr]) rfl ⟨?_, ?_⟩
      · rw [← hU2]
      · exact unhide hBl
  refine AllReadyH.cons rfl (fun K20055 hK20055 => ?_) AllReadyH.nil
  go_simp
  refine hK20055.out _ _ ?hs20055 (fun hHeld20055 => ?_)
  case hs20055 => exact ⟨_, (unhide hW5).choose_spec.call ((Below.refl _ _).alloc (Nat.le_refl _) _)⟩
  clear hHeld
  have hHeld := hHeld20055; clear hHeld20055 hK20055 K20055
  have hz7 := hide (World.alloc_heap_new We (.cells #[.int .i64 0, .int .i64 0, .int .i64 0, .string ⟨#[]⟩] 28))
  have hge8 := (unhide hW5).choose_spec.size
  have hne8 := (unhide hW5).choose_spec.under
  clear hW5
  have hW5 := hide hHeld
  refine wpAnyH_ready (rs := [15]) (by kernel_rfl) (by simp) ?_
  refine AllReadyH.cons rfl (fun K20056 hK20056 => ?_) AllReadyH.nil
  go_simp
  go_wp2_with (go_at_call 45; refine (unhide HOF e (.slice p m cp) ra rb _ (unhide hPe).1 (unhide hPe).2.1 (unhide hPe).2.2 (unhide hRe) (unhide hW5).choose_spec.below).mono ?_; rw [unhide hf]; rintro x W5 ⟨rfl, hb5⟩)
  refine hK20056.out _ _ ?hs20056 (fun hHeld20056 => ?_)
  case hs20056 => exact ⟨_, (unhide hW5).choose_spec.call hb5⟩
  clear hHeld
  have hHeld := hHeld20056; clear hHeld20056 hK20056 K20056
  have hz8 := (hb5.block _ (by simp)).trans (unhide hz7)
  clear hb5 hW5 hz7
  have hl8 := (Array.getElem?_eq_some_iff.1 hz8).1
  have t0 := cell_of_row _ _ 0 _ _ _ hz8
  have t1 := cell_of_row _ _ 1 _ _ _ hz8
  have t2 := cell_of_row _ _ 2 _ _ _ hz8
  have t3 := cell_of_row _ _ 3 _ _ _ hz8
  simp at t0 t1 t2 t3
  have f8 : ∀ j, W5.frozen? ⟨We.heap.size, j, none⟩ = false := fun j => by simp [World.frozen?, hz8]
  have f80 := f8 0
  have f81 := f8 1
  have f82 := f8 2
  have f83 := f8 3
  clear f8
  refine wpAnyH_take (i := 16) (oi := ?oi20057) (v := ?v20057) ?hi20057 (by kernel_rfl) (by kernel_rfl) (by kernel_rfl) (fun _ _ _ h => h) (Or.inl ⟨?hw20057, ?hy20057⟩) (by assumption) ?rest20057
  case hi20057 => (simp only [List.getElem?_toArray, List.getElem?_cons_zero, List.getElem?_cons_succ]; rfl)
  case hw20057 => rfl
  case hy20057 => first | (intro wx hSw; go_simp; done) | (intro wx hSw; go_simp; with_reducible rfl)
  simp only [Act.put, List.setIfInBounds_toArray, List.set_cons_zero, List.set_cons_succ]
  refine wpAnyH_take (i := 17) (oi := ?oi20058) (v := ?v20058) ?hi20058 (by kernel_rfl) (by kernel_rfl) (by kernel_rfl) (fun _ _ _ h => h) (Or.inl ⟨?hw20058, ?hy20058⟩) (by assumption) ?rest20058
  case hi20058 => (simp only [List.getElem?_toArray, List.getElem?_cons_zero, List.getElem?_cons_succ]; rfl)
  case hw20058 => rfl
  case hy20058 => first | (intro wx hSw; go_simp; done) | (intro wx hSw; go_simp; with_reducible rfl)
  simp only [Act.put, List.setIfInBounds_toArray, List.set_cons_zero, List.set_cons_succ]
  refine wpAnyH_take (i := 18) (oi := ?oi20059) (v := ?v20059) ?hi20059 (by kernel_rfl) (by kernel_rfl) (by kernel_rfl) (fun _ _ _ h => h) (Or.inl ⟨?hw20059, ?hy20059⟩) (by assumption) ?rest20059
  case hi20059 => (simp only [List.getElem?_toArray, List.getElem?_cons_zero, List.getElem?_cons_succ]; rfl)
  case hw20059 => rfl
  case hy20059 => first | (intro wx hSw; go_simp; done) | (intro wx hSw; go_simp; with_reducible rfl)
  simp only [Act.put, List.setIfInBounds_toArray, List.set_cons_zero, List.set_cons_succ]
  have hW7 := hide hHeld
  refine wpAnyH_ready (rs := [20]) (by kernel_rfl) (by simp) ?_
  refine AllReadyH.cons rfl (fun K20060 hK20060 => ?_) AllReadyH.nil
  go_simp
  refine hK20060.out _ _ ?hs20060 (fun hHeld20060 => ?_)
  case hs20060 => exact ⟨_, (unhide hW7).choose_spec.else4 hge8 (own_ne hne8) _ _ _ _⟩
  clear hHeld
  have hHeld := hHeld20060; clear hHeld20060 hK20060 K20060
  have hz9 := heapSet4 hz8 (.int .i64 r.1) (.int .i64 r.2.1) (.int .i64 r.2.2.1) (.string r.2.2.2)
  clear hW7 hz8 hl8 t0 t1 t2 t3 f80 f81 f82 f83
  refine anyH_weaken (S := (fun X => (∃ xq, StV w Pd Pv (s0 ++ [⟨e, .slice p m cp, d, ra, rb⟩]) (.slice (some ⟨g, 0, none⟩) (s0.length + 1) cap) xq X) ∧ X.heap[We.heap.size]? = some (.cells #[.int .i64 r.1, .int .i64 r.2.1, .int .i64 r.2.2.1, .string r.2.2.2] 28 (0, 0)))) (fun _ h => h.1) _ _ _ _ ?_
  replace hHeld := And.intro hHeld hz9
  clear hz9
  refine wpAnyH_take (i := 21) (oi := ?oi20061) (v := ?v20061) ?hi20061 (by kernel_rfl) (by kernel_rfl) (by kernel_rfl) (fun _ _ _ h => h) (Or.inl ⟨?hw20061, ?hy20061⟩) (by assumption) ?rest20061
  case hi20061 => (simp only [List.getElem?_toArray, List.getElem?_cons_zero, List.getElem?_cons_succ]; rfl)
  case hw20061 => rfl
  case hy20061 => first | (intro wx hSw; go_simp; done) | (intro wx hSw; go_simp; with_reducible rfl)
  simp only [Act.put, List.setIfInBounds_toArray, List.set_cons_zero, List.set_cons_succ]
  refine wpAnyH_done (by kernel_rfl) ?_ _
  refine NoPanic.normal ?_
  refine hrest _ _ ?_
  clear hrest
  revert hHeld
  generalize World.setCell _ _ _ = Wz
  intro hHeld
  generalize We.heap.size = b8 at *
  obtain ⟨hS6, hb8⟩ := hHeld
  obtain ⟨xq, hq6⟩ := hS6
  have HB8 := hide hb8
  have hl8 := (Array.getElem?_eq_some_iff.1 hb8).1
  have t0 := cell_of_row _ _ 0 _ _ _ hb8
  have t1 := cell_of_row _ _ 1 _ _ _ hb8
  have t2 := cell_of_row _ _ 2 _ _ _ hb8
  have t3 := cell_of_row _ _ 3 _ _ _ hb8
  simp at t0 t1 t2 t3
  have hres := hq6.res
  have hlr := (Array.getElem?_eq_some_iff.1 hres).1
  have q0 := cell_of_row _ _ 0 _ _ _ hres
  have q1 := cell_of_row _ _ 1 _ _ _ hres
  have q2 := cell_of_row _ _ 2 _ _ _ hres
  have q3 := cell_of_row _ _ 3 _ _ _ hres
  simp at q0 q1 q2 q3
  have fr : ∀ j, Wz.frozen? ⟨w.heap.size + 1, j, none⟩ = false := fun j => by simp [World.frozen?, hres]
  have fr0 := fr 0
  have fr1 := fr 1
  have fr2 := fr 2
  have fr3 := fr 3
  clear fr hres hb8
  by_cases her : er = 0
  · subst her
    have hB0 := hq6.below
    have HP := hide hq6.pop
    clear hq6
    rcases List.eq_nil_or_concat s0 with rfl | ⟨s1, pr, hs01⟩
    · have hBl := hide ((((hB0.setCell (p := ⟨w.heap.size + 1, 0, none⟩) (Nat.le_succ _) (.int .i64 r.1)).setCell (p := ⟨w.heap.size + 1, 1, none⟩) (Nat.le_succ _) (.int .i64 r.2.1)).setCell (p := ⟨w.heap.size + 1, 2, none⟩) (Nat.le_succ _) (.int .i64 r.2.2.1)).setCell (p := ⟨w.heap.size + 1, 3, none⟩) (Nat.le_succ _) (.string r.2.2.2))
      clear hB0 HB8 HP
      go_wp2_with fail
      have hU2 := unhide hU
      refine bodyPost_ret (v := .tuple #[.agg #[.int .i64 r.1, .int .i64 r.2.1, .int .i64 r.2.2.1, .string r.2.2.2], .int .i64 0]) (by simp [results, Try.results44, go_sem, q0, q1, q2, q3, hlr]) rfl ⟨?_, unhide hBl⟩
      rw [← hU2]; rfl
    · rw [List.concat_eq_append] at hs01
      subst hs01
      clear t0 t1 t2 t3 q0 q1 q2 q3 fr0 fr1 fr2 fr3 hlr hB0
      have hl1 : (s1 ++ [pr]).length = s1.length + 1 := by simp
      have hcap : s1.length + 1 ≤ cap := by
        rcases (unhide HP).row.2 with ⟨hv, _⟩ | ⟨g', cap', cur, hv, _, _, h1, _⟩
        · cases hv
        · cases hv; rw [hl1] at h1; exact h1
      rw [hl1] at HP e1 hk1000 ⊢
      clear e1
      have hcapi : (s1.length : Int) + 1 ≤ cap := by omega
      have e2 : IntKind.i64.wrap ((s1.length : Int) + 1 + 1 - 1) = (s1.length : Int) + 1 := IntWalk.i64_in _ (by omega) |>.trans (by omega)
      have e3 : IntKind.i64.wrap ((s1.length : Int) + 1 - 1) = (s1.length : Int) := IntWalk.i64_in _ (by omega) |>.trans (by omega)
      have hz : ((s1.length : Int) + 1 == 0) = false := beq_eq_false_iff_ne.2 (by omega)
      have hkp := unhide hK pr (by simp)
      have hd2 := kid_d hkp
      obtain ⟨ck, hck⟩ : ∃ ck, pr.kid = some ck := by
        cases hh : pr.kid with
        | none => exact absurd hh hkp
        | some ck => exact ⟨ck, rfl⟩
      have hrp := rem_put hck r
      have HRP := hide hrp
      clear hkp hrp hck
      obtain ⟨pe, pl, pd, pa, pb⟩ := pr
      go_wp2_with fail
      rename_i hrest
      have hd01 : pd = 0 ∨ pd = 1 := by have h : pd < 2 := hd2; omega
      rcases hd01 with rfl | rfl
      · have HPW := hide ((unhide HP).call (Below.refl _ _).drew)
        have hB9 := hide (((Below.refl _ _).drew.block b8 hl8).trans (unhide HB8))
        refine wp_region_noPanic ?_
        refine wp_region_held_drew (S := (fun X => (∃ xq q, q.d = 0 ∧ StV w Pd (fun _ => True) (s1 ++ [q]) (.slice (some ⟨g, 0, none⟩) (s1.length + 1) cap) xq X) ∧ X.heap[b8]? = some (.cells #[.int .i64 r.1, .int .i64 r.2.1, .int .i64 r.2.2.1, .string r.2.2.2] 28 (0, 0)))) (by kernel_rfl) (⟨⟨_, ⟨pe, pl, 0, pa, pb⟩, rfl, (unhide HPW).bare⟩, unhide hB9⟩) (fun hHeld => ?_)
        clear HP
        revert HPW hB9 hHeld
        generalize World.drew _ = Wf
        intro HPW hB9 hHeld
        refine wpAnyH_take (i := 0) (oi := ?oi20062) (v := ?v20062) ?hi20062 (by kernel_rfl) (by kernel_rfl) (by kernel_rfl) (fun _ _ _ h => h) (Or.inl ⟨?hw20062, ?hy20062⟩) (by assumption) ?rest20062
        case hi20062 => (simp only [List.getElem?_toArray, List.getElem?_cons_zero]; rfl)
        case hw20062 => rfl
        case hy20062 => first | (intro wx hSw; go_simp; done) | (intro wx hSw; go_simp; with_reducible rfl)
        simp only [Act.put, List.setIfInBounds_toArray, List.set_cons_zero, List.set_cons_succ]
        refine wpAnyH_take (i := 1) (oi := ?oi20063) (v := ?v20063) ?hi20063 (by kernel_rfl) (by kernel_rfl) (by kernel_rfl) (fun _ _ _ h => h) (Or.inl ⟨?hw20063, ?hy20063⟩) (by assumption) ?rest20063
        case hi20063 => (simp only [List.getElem?_toArray, List.getElem?_cons_zero, List.getElem?_cons_succ]; rfl)
        case hw20063 => rfl
        case hy20063 => first | (intro wx hSw; go_simp; done) | (intro wx hSw; go_simp; with_reducible rfl)
        simp only [Act.put, List.setIfInBounds_toArray, List.set_cons_zero, List.set_cons_succ]
        refine wpAnyH_take (i := 5) (oi := ?oi20064) (v := ?v20064) ?hi20064 (by kernel_rfl) (by kernel_rfl) (by kernel_rfl) (fun _ _ _ h => h) (Or.inl ⟨?hw20064, ?hy20064⟩) (by assumption) ?rest20064
        case hi20064 => (simp only [List.getElem?_toArray, List.getElem?_cons_zero, List.getElem?_cons_succ]; rfl)
        case hw20064 => rfl
        case hy20064 => first | (intro wx hSw; obtain ⟨-, hb9⟩ := hSw; have t0 := cell_of_row _ _ 0 _ _ _ hb9; have t1 := cell_of_row _ _ 1 _ _ _ hb9; have t2 := cell_of_row _ _ 2 _ _ _ hb9; have t3 := cell_of_row _ _ 3 _ _ _ hb9; simp at t0 t1 t2 t3; go_simp; done) | (intro wx hSw; obtain ⟨-, hb9⟩ := hSw; have t0 := cell_of_row _ _ 0 _ _ _ hb9; have t1 := cell_of_row _ _ 1 _ _ _ hb9; have t2 := cell_of_row _ _ 2 _ _ _ hb9; have t3 := cell_of_row _ _ 3 _ _ _ hb9; simp at t0 t1 t2 t3; go_simp; with_reducible rfl)
        simp only [Act.put, List.setIfInBounds_toArray, List.set_cons_zero, List.set_cons_succ]
        refine wpAnyH_take (i := 2) (oi := ?oi20065) (v := ?v20065) ?hi20065 (by kernel_rfl) (by kernel_rfl) (by kernel_rfl) (fun _ _ _ h => h) (Or.inl ⟨?hw20065, ?hy20065⟩) (by assumption) ?rest20065
        case hi20065 => (simp only [List.getElem?_toArray, List.getElem?_cons_zero, List.getElem?_cons_succ]; rfl)
        case hw20065 => rfl
        case hy20065 => first | (intro wx hSw; go_simp; done) | (intro wx hSw; go_simp; with_reducible rfl)
        simp only [Act.put, List.setIfInBounds_toArray, List.set_cons_zero, List.set_cons_succ]
        refine wpAnyH_take (i := 6) (oi := ?oi20066) (v := ?v20066) ?hi20066 (by kernel_rfl) (by kernel_rfl) (by kernel_rfl) (fun _ _ _ h => h) (Or.inl ⟨?hw20066, ?hy20066⟩) (by assumption) ?rest20066
        case hi20066 => (simp only [List.getElem?_toArray, List.getElem?_cons_zero, List.getElem?_cons_succ]; rfl)
        case hw20066 => rfl
        case hy20066 => first | (intro wx hSw; go_simp; done) | (intro wx hSw; go_simp; with_reducible rfl)
        simp only [Act.put, List.setIfInBounds_toArray, List.set_cons_zero, List.set_cons_succ]
        refine wpAnyH_take (i := 3) (oi := ?oi20067) (v := ?v20067) ?hi20067 (by kernel_rfl) (by kernel_rfl) (by kernel_rfl) (fun _ _ _ h => h) (Or.inl ⟨?hw20067, ?hy20067⟩) (by assumption) ?rest20067
        case hi20067 => (simp only [List.getElem?_toArray, List.getElem?_cons_zero, List.getElem?_cons_succ]; rfl)
        case hw20067 => rfl
        case hy20067 => first | (intro wx hSw; go_simp; done) | (intro wx hSw; go_simp; with_reducible rfl)
        simp only [Act.put, List.setIfInBounds_toArray, List.set_cons_zero, List.set_cons_succ]
        refine wpAnyH_take (i := 7) (oi := ?oi20068) (v := ?v20068) ?hi20068 (by kernel_rfl) (by kernel_rfl) (by kernel_rfl) (fun _ _ _ h => h) (Or.inl ⟨?hw20068, ?hy20068⟩) (by assumption) ?rest20068
        case hi20068 => (simp only [List.getElem?_toArray, List.getElem?_cons_zero, List.getElem?_cons_succ]; rfl)
        case hw20068 => rfl
        case hy20068 => first | (intro wx hSw; go_simp; done) | (intro wx hSw; go_simp; with_reducible rfl)
        simp only [Act.put, List.setIfInBounds_toArray, List.set_cons_zero, List.set_cons_succ]
        refine wpAnyH_take (i := 4) (oi := ?oi20069) (v := ?v20069) ?hi20069 (by kernel_rfl) (by kernel_rfl) (by kernel_rfl) (fun _ _ _ h => h) (Or.inl ⟨?hw20069, ?hy20069⟩) (by assumption) ?rest20069
        case hi20069 => (simp only [List.getElem?_toArray, List.getElem?_cons_zero, List.getElem?_cons_succ]; rfl)
        case hw20069 => rfl
        case hy20069 => first | (intro wx hSw; obtain ⟨⟨xq, q, hqd, hq⟩, -⟩ := hSw; have c7 := (hq.at s1 _ [] rfl 7 (by decide)).1; simp at c7; rw [hqd] at c7; go_simp; done) | (intro wx hSw; obtain ⟨⟨xq, q, hqd, hq⟩, -⟩ := hSw; have c7 := (hq.at s1 _ [] rfl 7 (by decide)).1; simp at c7; rw [hqd] at c7; go_simp; with_reducible rfl)
        simp only [Act.put, List.setIfInBounds_toArray, List.set_cons_zero, List.set_cons_succ]
        refine wpAnyH_take (i := 8) (oi := ?oi20070) (v := ?v20070) ?hi20070 (by kernel_rfl) (by kernel_rfl) (by kernel_rfl) (fun _ _ _ h => h) (Or.inl ⟨?hw20070, ?hy20070⟩) (by assumption) ?rest20070
        case hi20070 => (simp only [List.getElem?_toArray, List.getElem?_cons_zero, List.getElem?_cons_succ]; rfl)
        case hw20070 => rfl
        case hy20070 => first | (intro wx hSw; go_simp; done) | (intro wx hSw; go_simp; with_reducible rfl)
        simp only [Act.put, List.setIfInBounds_toArray, List.set_cons_zero, List.set_cons_succ]
        obtain ⟨a0, b0⟩ := (unhide HPW).at s1 _ [] rfl 8 (by decide)
        obtain ⟨a1, b1⟩ := (unhide HPW).at s1 _ [] rfl 9 (by decide)
        obtain ⟨a2, b2⟩ := (unhide HPW).at s1 _ [] rfl 10 (by decide)
        obtain ⟨a3, b3⟩ := (unhide HPW).at s1 _ [] rfl 11 (by decide)
        simp at a0 a1 a2 a3
        rw [show s1.length * 16 + 9 = s1.length * 16 + 8 + 1 by omega] at a1 b1
        rw [show s1.length * 16 + 10 = s1.length * 16 + 8 + 2 by omega] at a2 b2
        rw [show s1.length * 16 + 11 = s1.length * 16 + 8 + 3 by omega] at a3 b3
        have hput := (unhide HPW).bare.putA r
        rw [show s1.length * 16 + 9 = s1.length * 16 + 8 + 1 by omega, show s1.length * 16 + 10 = s1.length * 16 + 8 + 2 by omega, show s1.length * 16 + 11 = s1.length * 16 + 8 + 3 by omega] at hput
        refine wpAnyH_ready (rs := [9]) (by kernel_rfl) (by simp) ?_
        refine AllReadyH.cons rfl (fun K20071 hK20071 => ?_) AllReadyH.nil
        go_simp
        refine hK20071.out _ _ ?hs20071 (fun hHeld20071 => ?_)
        case hs20071 => exact ⟨⟨_, ⟨pe, pl, 0, r, pb⟩, rfl, hput⟩, (Below.heap_setCell _ _ _ _ (by simp; omega)).trans ((Below.heap_setCell _ _ _ _ (by simp; omega)).trans ((Below.heap_setCell _ _ _ _ (by simp; omega)).trans ((Below.heap_setCell _ _ _ _ (by simp; omega)).trans (unhide hB9))))⟩
        clear hHeld
        have hHeld := hHeld20071; clear hHeld20071 hK20071 K20071
        refine wpAnyH_done (by kernel_rfl) ?_ _
        refine NoPanic.normal ?_
        refine hrest _ _ ?_
        clear hrest a0 a1 a2 a3 b0 b1 b2 b3 hHeld hB9
        obtain ⟨k7, f7⟩ := hput.at s1 _ [] rfl 7 (by decide)
        have hput2 := hput.put (q' := ⟨pe, pl, 1, r, pb⟩) 7 (by decide) (.int .i64 1) rfl rfl rfl
        have HPA := hide (unhide HPW).rep
        have HP2 := hide hput2
        clear hput hput2 HPW
        revert k7 f7 HP2
        generalize World.setCell (World.setCell (World.setCell (World.setCell Wf _ _) _ _) _ _) _ _ = Wg
        intro k7 f7 HP2
        simp at k7
        go_wp2_with fail
        go_step3
        have hU2 := unhide hU
        have hn2 := unhide hn
        have hrp := unhide HRP
        have hvv : ∀ x ∈ s1 ++ [(⟨pe, pl, 1, r, pb⟩ : Fr V4)], Pv x.a ∧ Pv x.b := by
          intro x hx
          rcases List.mem_append.1 hx with hx | hx
          · exact (unhide HPA x (by simp [hx])).2.2
          · have h9 := (unhide HPA ⟨pe, pl, 0, pa, pb⟩ (by simp)).2.2
            simp at hx; subst hx; exact ⟨unhide hPr, h9.2⟩
        refine ⟨(Fr.remTop (⟨pe, pl, 1, r, pb⟩ : Fr V4)) + (s1.map Fr.rem).sum, ?_, J44.intro _ (s1 ++ [⟨pe, pl, 1, r, pb⟩]) _ _ rfl ((unhide HP2).full hvv) (.inr ⟨rfl, s1, ⟨pe, pl, 1, r, pb⟩, rfl, fun x hx => unhide hK x (by simp [hx]), ?_, rfl⟩)⟩
        · have e9 : (Fr.remTop (⟨pe, pl, 1, r, pb⟩ : Fr V4)) = Fr.rem (⟨pe, pl, 0, pa, pb⟩ : Fr V4) := hrp
          rw [e9, hn2, List.map_append, List.sum_append]
          simp
          omega
        · rw [List.reverse_append] at hU2
          exact hU2
      · have HPW := hide ((unhide HP).call (Below.refl _ _).drew)
        have hB9 := hide (((Below.refl _ _).drew.block b8 hl8).trans (unhide HB8))
        refine wp_region_noPanic ?_
        refine wp_region_held_drew (S := (fun X => (∃ xq q, q.d = 1 ∧ StV w Pd (fun _ => True) (s1 ++ [q]) (.slice (some ⟨g, 0, none⟩) (s1.length + 1) cap) xq X) ∧ X.heap[b8]? = some (.cells #[.int .i64 r.1, .int .i64 r.2.1, .int .i64 r.2.2.1, .string r.2.2.2] 28 (0, 0)))) (by kernel_rfl) (⟨⟨_, ⟨pe, pl, 1, pa, pb⟩, rfl, (unhide HPW).bare⟩, unhide hB9⟩) (fun hHeld => ?_)
        clear HP
        revert HPW hB9 hHeld
        generalize World.drew _ = Wf
        intro HPW hB9 hHeld
        refine wpAnyH_take (i := 0) (oi := ?oi20072) (v := ?v20072) ?hi20072 (by kernel_rfl) (by kernel_rfl) (by kernel_rfl) (fun _ _ _ h => h) (Or.inl ⟨?hw20072, ?hy20072⟩) (by assumption) ?rest20072
        case hi20072 => (simp only [List.getElem?_toArray, List.getElem?_cons_zero]; rfl)
        case hw20072 => rfl
        case hy20072 => first | (intro wx hSw; go_simp; done) | (intro wx hSw; go_simp; with_reducible rfl)
        simp only [Act.put, List.setIfInBounds_toArray, List.set_cons_zero, List.set_cons_succ]
        refine wpAnyH_take (i := 1) (oi := ?oi20073) (v := ?v20073) ?hi20073 (by kernel_rfl) (by kernel_rfl) (by kernel_rfl) (fun _ _ _ h => h) (Or.inl ⟨?hw20073, ?hy20073⟩) (by assumption) ?rest20073
        case hi20073 => (simp only [List.getElem?_toArray, List.getElem?_cons_zero, List.getElem?_cons_succ]; rfl)
        case hw20073 => rfl
        case hy20073 => first | (intro wx hSw; go_simp; done) | (intro wx hSw; go_simp; with_reducible rfl)
        simp only [Act.put, List.setIfInBounds_toArray, List.set_cons_zero, List.set_cons_succ]
        refine wpAnyH_take (i := 5) (oi := ?oi20074) (v := ?v20074) ?hi20074 (by kernel_rfl) (by kernel_rfl) (by kernel_rfl) (fun _ _ _ h => h) (Or.inl ⟨?hw20074, ?hy20074⟩) (by assumption) ?rest20074
        case hi20074 => (simp only [List.getElem?_toArray, List.getElem?_cons_zero, List.getElem?_cons_succ]; rfl)
        case hw20074 => rfl
        case hy20074 => first | (intro wx hSw; obtain ⟨-, hb9⟩ := hSw; have t0 := cell_of_row _ _ 0 _ _ _ hb9; have t1 := cell_of_row _ _ 1 _ _ _ hb9; have t2 := cell_of_row _ _ 2 _ _ _ hb9; have t3 := cell_of_row _ _ 3 _ _ _ hb9; simp at t0 t1 t2 t3; go_simp; done) | (intro wx hSw; obtain ⟨-, hb9⟩ := hSw; have t0 := cell_of_row _ _ 0 _ _ _ hb9; have t1 := cell_of_row _ _ 1 _ _ _ hb9; have t2 := cell_of_row _ _ 2 _ _ _ hb9; have t3 := cell_of_row _ _ 3 _ _ _ hb9; simp at t0 t1 t2 t3; go_simp; with_reducible rfl)
        simp only [Act.put, List.setIfInBounds_toArray, List.set_cons_zero, List.set_cons_succ]
        refine wpAnyH_take (i := 2) (oi := ?oi20075) (v := ?v20075) ?hi20075 (by kernel_rfl) (by kernel_rfl) (by kernel_rfl) (fun _ _ _ h => h) (Or.inl ⟨?hw20075, ?hy20075⟩) (by assumption) ?rest20075
        case hi20075 => (simp only [List.getElem?_toArray, List.getElem?_cons_zero, List.getElem?_cons_succ]; rfl)
        case hw20075 => rfl
        case hy20075 => first | (intro wx hSw; go_simp; done) | (intro wx hSw; go_simp; with_reducible rfl)
        simp only [Act.put, List.setIfInBounds_toArray, List.set_cons_zero, List.set_cons_succ]
        refine wpAnyH_take (i := 6) (oi := ?oi20076) (v := ?v20076) ?hi20076 (by kernel_rfl) (by kernel_rfl) (by kernel_rfl) (fun _ _ _ h => h) (Or.inl ⟨?hw20076, ?hy20076⟩) (by assumption) ?rest20076
        case hi20076 => (simp only [List.getElem?_toArray, List.getElem?_cons_zero, List.getElem?_cons_succ]; rfl)
        case hw20076 => rfl
        case hy20076 => first | (intro wx hSw; go_simp; done) | (intro wx hSw; go_simp; with_reducible rfl)
        simp only [Act.put, List.setIfInBounds_toArray, List.set_cons_zero, List.set_cons_succ]
        refine wpAnyH_take (i := 3) (oi := ?oi20077) (v := ?v20077) ?hi20077 (by kernel_rfl) (by kernel_rfl) (by kernel_rfl) (fun _ _ _ h => h) (Or.inl ⟨?hw20077, ?hy20077⟩) (by assumption) ?rest20077
        case hi20077 => (simp only [List.getElem?_toArray, List.getElem?_cons_zero, List.getElem?_cons_succ]; rfl)
        case hw20077 => rfl
        case hy20077 => first | (intro wx hSw; go_simp; done) | (intro wx hSw; go_simp; with_reducible rfl)
        simp only [Act.put, List.setIfInBounds_toArray, List.set_cons_zero, List.set_cons_succ]
        refine wpAnyH_take (i := 7) (oi := ?oi20078) (v := ?v20078) ?hi20078 (by kernel_rfl) (by kernel_rfl) (by kernel_rfl) (fun _ _ _ h => h) (Or.inl ⟨?hw20078, ?hy20078⟩) (by assumption) ?rest20078
        case hi20078 => (simp only [List.getElem?_toArray, List.getElem?_cons_zero, List.getElem?_cons_succ]; rfl)
        case hw20078 => rfl
        case hy20078 => first | (intro wx hSw; go_simp; done) | (intro wx hSw; go_simp; with_reducible rfl)
        simp only [Act.put, List.setIfInBounds_toArray, List.set_cons_zero, List.set_cons_succ]
        refine wpAnyH_take (i := 4) (oi := ?oi20079) (v := ?v20079) ?hi20079 (by kernel_rfl) (by kernel_rfl) (by kernel_rfl) (fun _ _ _ h => h) (Or.inl ⟨?hw20079, ?hy20079⟩) (by assumption) ?rest20079
        case hi20079 => (simp only [List.getElem?_toArray, List.getElem?_cons_zero, List.getElem?_cons_succ]; rfl)
        case hw20079 => rfl
        case hy20079 => first | (intro wx hSw; obtain ⟨⟨xq, q, hqd, hq⟩, -⟩ := hSw; have c7 := (hq.at s1 _ [] rfl 7 (by decide)).1; simp at c7; rw [hqd] at c7; go_simp; done) | (intro wx hSw; obtain ⟨⟨xq, q, hqd, hq⟩, -⟩ := hSw; have c7 := (hq.at s1 _ [] rfl 7 (by decide)).1; simp at c7; rw [hqd] at c7; go_simp; with_reducible rfl)
        simp only [Act.put, List.setIfInBounds_toArray, List.set_cons_zero, List.set_cons_succ]
        refine wpAnyH_take (i := 8) (oi := ?oi20080) (v := ?v20080) ?hi20080 (by kernel_rfl) (by kernel_rfl) (by kernel_rfl) (fun _ _ _ h => h) (Or.inl ⟨?hw20080, ?hy20080⟩) (by assumption) ?rest20080
        case hi20080 => (simp only [List.getElem?_toArray, List.getElem?_cons_zero, List.getElem?_cons_succ]; rfl)
        case hw20080 => rfl
        case hy20080 => first | (intro wx hSw; go_simp; done) | (intro wx hSw; go_simp; with_reducible rfl)
        simp only [Act.put, List.setIfInBounds_toArray, List.set_cons_zero, List.set_cons_succ]
        obtain ⟨a0, b0⟩ := (unhide HPW).at s1 _ [] rfl 12 (by decide)
        obtain ⟨a1, b1⟩ := (unhide HPW).at s1 _ [] rfl 13 (by decide)
        obtain ⟨a2, b2⟩ := (unhide HPW).at s1 _ [] rfl 14 (by decide)
        obtain ⟨a3, b3⟩ := (unhide HPW).at s1 _ [] rfl 15 (by decide)
        simp at a0 a1 a2 a3
        rw [show s1.length * 16 + 12 = s1.length * 16 + 8 + 4 by omega] at a0 b0
        rw [show s1.length * 16 + 13 = s1.length * 16 + 8 + 4 + 1 by omega] at a1 b1
        rw [show s1.length * 16 + 14 = s1.length * 16 + 8 + 4 + 2 by omega] at a2 b2
        rw [show s1.length * 16 + 15 = s1.length * 16 + 8 + 4 + 3 by omega] at a3 b3
        have hput := (unhide HPW).bare.putB r
        rw [show s1.length * 16 + 12 = s1.length * 16 + 8 + 4 by omega, show s1.length * 16 + 13 = s1.length * 16 + 8 + 4 + 1 by omega, show s1.length * 16 + 14 = s1.length * 16 + 8 + 4 + 2 by omega, show s1.length * 16 + 15 = s1.length * 16 + 8 + 4 + 3 by omega] at hput
        refine wpAnyH_ready (rs := [9]) (by kernel_rfl) (by simp) ?_
        refine AllReadyH.cons rfl (fun K20081 hK20081 => ?_) AllReadyH.nil
        go_simp
        refine hK20081.out _ _ ?hs20081 (fun hHeld20081 => ?_)
        case hs20081 => exact ⟨⟨_, ⟨pe, pl, 1, pa, r⟩, rfl, hput⟩, (Below.heap_setCell _ _ _ _ (by simp; omega)).trans ((Below.heap_setCell _ _ _ _ (by simp; omega)).trans ((Below.heap_setCell _ _ _ _ (by simp; omega)).trans ((Below.heap_setCell _ _ _ _ (by simp; omega)).trans (unhide hB9))))⟩
        clear hHeld
        have hHeld := hHeld20081; clear hHeld20081 hK20081 K20081
        refine wpAnyH_done (by kernel_rfl) ?_ _
        refine NoPanic.normal ?_
        refine hrest _ _ ?_
        clear hrest a0 a1 a2 a3 b0 b1 b2 b3 hHeld hB9
        obtain ⟨k7, f7⟩ := hput.at s1 _ [] rfl 7 (by decide)
        have hput2 := hput.put (q' := ⟨pe, pl, 2, pa, r⟩) 7 (by decide) (.int .i64 2) rfl rfl rfl
        have HPA := hide (unhide HPW).rep
        have HP2 := hide hput2
        clear hput hput2 HPW
        revert k7 f7 HP2
        generalize World.setCell (World.setCell (World.setCell (World.setCell Wf _ _) _ _) _ _) _ _ = Wg
        intro k7 f7 HP2
        simp at k7
        go_wp2_with fail
        go_step3
        have hU2 := unhide hU
        have hn2 := unhide hn
        have hrp := unhide HRP
        have hvv : ∀ x ∈ s1 ++ [(⟨pe, pl, 2, pa, r⟩ : Fr V4)], Pv x.a ∧ Pv x.b := by
          intro x hx
          rcases List.mem_append.1 hx with hx | hx
          · exact (unhide HPA x (by simp [hx])).2.2
          · have h9 := (unhide HPA ⟨pe, pl, 1, pa, pb⟩ (by simp)).2.2
            simp at hx; subst hx; exact ⟨h9.1, unhide hPr⟩
        refine ⟨(Fr.remTop (⟨pe, pl, 2, pa, r⟩ : Fr V4)) + (s1.map Fr.rem).sum, ?_, J44.intro _ (s1 ++ [⟨pe, pl, 2, pa, r⟩]) _ _ rfl ((unhide HP2).full hvv) (.inr ⟨rfl, s1, ⟨pe, pl, 2, pa, r⟩, rfl, fun x hx => unhide hK x (by simp [hx]), ?_, rfl⟩)⟩
        · have e9 : (Fr.remTop (⟨pe, pl, 2, pa, r⟩ : Fr V4)) = Fr.rem (⟨pe, pl, 1, pa, pb⟩ : Fr V4) := hrp
          rw [e9, hn2, List.map_append, List.sum_append]
          simp
          omega
        · rw [List.reverse_append] at hU2
          exact hU2
  · have hne : (er != 0) = true := bne_iff_ne.2 her
    have hB0 := hq6.below
    have hBl := hide (((((hB0.setCell (p := ⟨w.heap.size + 1, 0, none⟩) (Nat.le_succ _) (.int .i64 0)).setCell (p := ⟨w.heap.size + 1, 1, none⟩) (Nat.le_succ _) (.int .i64 0)).setCell (p := ⟨w.heap.size + 1, 2, none⟩) (Nat.le_succ _) (.int .i64 0)).setCell (p := ⟨w.heap.size + 1, 3, none⟩) (Nat.le_succ _) (.string ⟨#[]⟩)).alloc (by simp; exact hB0.size) (.cells #[.int .i64 0, .int .i64 0, .int .i64 0, .string ⟨#[]⟩] 28))
    clear hB0 HB8 hq6
    go_wp2_with fail
    have hU2 := unhide hU
    unfold fin at hU2
    rw [if_neg her, up_err Z4 f _ _ her] at hU2
    refine bodyPost_ret (v := .tuple #[.agg #[.int .i64 0, .int .i64 0, .int .i64 0, .string ⟨#[]⟩], .int .i64 er]) (by simp [results, Try.results44, go_sem, q0, q1, q2, q3, hlr]) rfl ⟨?_, ?_⟩
    · rw [← hU2]
    · exact unhide hBl
end Go.Proofs.Ytliefgkhpgigaaa
