/-
  The pass through package eval's fold of ints from its second label where no child is left.
-/
import Derived.Test.YtliefgkhpgigaaaEB
namespace Go.Proofs.Ytliefgkhpgigaaa
open Go.RowKit
set_option linter.unusedSimpArgs false
set_option linter.unusedVariables false

/-- the top frame taken off -/
theorem St.pop {w : World} {Pd : Ex → Prop} {s0 : List (Fr Int)} {tp : Fr Int} {g cap : Nat} {xc : Array Value} {W : World} (h : St w Pd (s0 ++ [tp]) (.slice (some ⟨g, 0, none⟩) (s0.length + 1) cap) xc W) : St w Pd s0 (.slice (some ⟨g, 0, none⟩) s0.length cap) xc W := by
  refine ⟨⟨cellsF_len s0, ?_⟩, h.box, h.below, fun r hr => h.rep r (by simp [hr]), fun i r hr => h.deep i r ?_, h.seven⟩
  · rcases h.row.2 with ⟨hv, _⟩ | ⟨g', cap', cur, hv, hge, hgb, h1, h2, h3, ht⟩
    · cases hv
    · simp only [Value.slice.injEq, Option.some.injEq, Addr.mk.injEq] at hv
      obtain ⟨⟨hg, _⟩, _, hc⟩ := hv
      subst hg; subst hc
      refine .inr ⟨g, cap, cur, rfl, hge, hgb, by simp at h1; omega, h2, h3, ?_⟩
      have : cur.toList.take (s0.length * 10) = (cur.toList.take ((s0 ++ [tp]).length * 10)).take (s0.length * 10) := by
        rw [List.take_take]; congr 1; simp
      rw [this, ht, cellsF_snoc, List.take_append_of_le_length (by rw [cellsF_len]; exact Nat.le_refl _), List.take_of_length_le (by rw [cellsF_len]; exact Nat.le_refl _)]
  · have hi : i < s0.length := by
      rcases Nat.lt_or_ge i s0.length with h | h
      · exact h
      · rw [List.getElem?_eq_none h] at hr; cases hr
    rw [List.getElem?_append_left hi]; exact hr
/-- a cell of the top frame turned -/
theorem St.put {w : World} {Pd : Ex → Prop} {s1 : List (Fr Int)} {q q' : Fr Int} {g n cap : Nat} {xc : Array Value} {W : World} (h : St w Pd (s1 ++ [q]) (.slice (some ⟨g, 0, none⟩) n cap) xc W) (j : Nat) (hj : j < 10) (y : Value) (hq : frC q' = (frC q).set j y) (he : q'.e = q.e) (hl : q'.lv = q.lv) :
    St w Pd (s1 ++ [q']) (.slice (some ⟨g, 0, none⟩) n cap) xc (W.setCell ⟨g, s1.length * 10 + j, none⟩ y) := by
  have hlen : (s1 ++ [q']).length = (s1 ++ [q]).length := by simp
  obtain ⟨hl0, (⟨hv, _⟩ | ⟨g', cap', cur, hv, hge, hgb, h1, h2, h3, ht⟩)⟩ := h.row
  · cases hv
  · cases hv
    refine ⟨⟨cellsF_len _, ?_⟩, (Below.heap_setCell _ _ _ _ (by simp; omega)).trans h.box, h.below.setCell (p := ⟨g, s1.length * 10 + j, none⟩) (by simp; omega) y, ?_, ?_, h.seven⟩
    · refine .inr ⟨g, cap, cur.setIfInBounds (s1.length * 10 + j) y, by rw [hlen], hge, heapSet hgb _ y, by rw [hlen]; exact h1, h2, by simpa using h3, ?_⟩
      rw [Array.toList_setIfInBounds, hlen, List.take_set, ht, cellsF_snoc, cellsF_snoc, hq, List.set_append_right _ _ (by rw [cellsF_len]; omega), cellsF_len, show s1.length * 10 + j - s1.length * 10 = j by omega]
    · intro r hr
      rcases List.mem_append.1 hr with hr | hr
      · exact h.rep r (by simp [hr])
      · simp at hr; subst hr; rw [he, hl]; exact h.rep q (by simp)
    · intro i r hr
      by_cases hi : i < s1.length
      · rw [List.getElem?_append_left hi] at hr
        exact h.deep i r (by rw [List.getElem?_append_left hi]; exact hr)
      · rw [List.getElem?_append_right (by omega)] at hr
        have h0 : i - s1.length = 0 := by
          cases hj' : i - s1.length with
          | zero => rfl
          | succ j' => rw [hj'] at hr; simp at hr
        rw [h0] at hr; simp at hr; subst hr; rw [he]
        exact h.deep i q (by rw [List.getElem?_append_right (by omega), h0]; rfl)

set_option maxHeartbeats 1000000 in
set_option maxRecDepth 100000 in
theorem pass1d (f : Ex → Int → Int → Int × Int) (Pd : Ex → Prop) (bt : Nat) (e0 : Ex) (lv0 : Value) (w : World) (n : Nat) (W : World) (r0 c : Code) (hc : Try.f36.body = some (.seq r0 (.scope c))) (u : Nat → Value) (HOF : Hid (HOf f Pd bt w))
    (s0 : List (Fr Int)) (e : Ex) (p : Option Addr) (d m cp g cap : Nat) (ra rb r er : Int) (xc : Array Value)
    (hS : St w Pd (s0 ++ [⟨e, .slice p m cp, d, ra, rb⟩]) (.slice (some ⟨g, 0, none⟩) (s0.length + 1) cap) xc W)
    (hK : Hid (∀ r ∈ s0, r.kid ≠ none)) (hU : Hid (up 0 f s0.reverse (fin 0 (r, er)) = foldF 0 f e0)) (hn : Hid (n = 1 + (s0.map Fr.rem).sum))
    (hf : Hid (f e ra rb = (r, er))) (hmd : m ≤ d) (hm2 : m ≤ 2) (hRe : Hid (Rep e (.slice p m cp) w)) (hPe : Hid (Pd e)) (hk1000 : s0.length ≤ 1000) :
    ∃ rest, findLabel c 1 = some (.seq .skip rest) ∧ rest.wp Try.prog (Exit.jumps (fun l' a' w' => ∃ n', n' < n ∧ J36 w bt e0 lv0 Pd f l' n' a' w') (PQ f e0 w)) ⟨#[.agg (exC e0 lv0).toArray, .func (.func 37) #[] #[.pointer (some ⟨bt, 0, none⟩)], .pointer (some ⟨w.heap.size, 0, none⟩), undef, .int .i64 0, .int .i64 0, .slice (some ⟨g, 0, none⟩) (s0.length + 1) cap, u 7, u 8, u 9, u 10, u 11, u 12, u 13, u 14, u 15, u 16, u 17, u 18, u 19, u 20, u 21, u 22, u 23, u 24, u 25, u 26, u 27, u 28, u 29, u 30, u 31, u 32, u 33, u 34, u 35, u 36, u 37, u 38, u 39, u 40, u 41, u 42, u 43, u 44, u 45, u 46, u 47, u 48, u 49, u 50, u 51, u 52, u 53, u 54, u 55, u 56, u 57, u 58, u 59, u 60, u 61, u 62, u 63, u 64, u 65, u 66, u 67, u 68, u 69, u 70, u 71, u 72, u 73, u 74, u 75, u 76, u 77, u 78, u 79, u 80, u 81, u 82, u 83, u 84, u 85, u 86, u 87, u 88, u 89, u 90, u 91, u 92, u 93, u 94, u 95, u 96, u 97], []⟩ W := by
  unfold Try.f36 at hc
  cases hc
  refine ⟨_, rfl, ?_⟩
  have HS := hide hS
  clear hS
  have e1 : IntKind.i64.wrap ((s0.length : Int) + 1 - 1) = (s0.length : Int) := IntWalk.i64_in _ (by omega) |>.trans (by omega)
  have hmin : min (m : Int) 2 = m := by omega
  have hdi : ¬ (d : Int) < m := by omega
  go_wp2_with fail
  rename_i hrest
  refine wp_region_noPanic ?_
  refine wp_region_held_drew (S := (fun X => ∃ xq, St w Pd (s0 ++ [⟨e, .slice p m cp, d, ra, rb⟩]) (.slice (some ⟨g, 0, none⟩) (s0.length + 1) cap) xq X)) (by kernel_rfl) (⟨_, (unhide HS).call (Below.refl _ _).drew⟩) (fun hHeld => ?_)
  clear HS
  revert hHeld
  generalize World.drew _ = Wd
  intro hHeld
  refine wpAnyH_take (i := 0) (oi := ?oi20001) (v := ?v20001) ?hi20001 (by kernel_rfl) (by kernel_rfl) (by kernel_rfl) (fun _ _ _ h => h) (Or.inl ⟨?hw20001, ?hy20001⟩) (by assumption) ?rest20001
  case hi20001 => (simp only [List.getElem?_toArray, List.getElem?_cons_zero]; rfl)
  case hw20001 => rfl
  case hy20001 => first | (intro wx hSw; go_simp; done) | (intro wx hSw; go_simp; with_reducible rfl)
  simp only [Act.put, List.setIfInBounds_toArray, List.set_cons_zero, List.set_cons_succ]
  refine wpAnyH_take (i := 4) (oi := ?oi20002) (v := ?v20002) ?hi20002 (by kernel_rfl) (by kernel_rfl) (by kernel_rfl) (fun _ _ _ h => h) (Or.inl ⟨?hw20002, ?hy20002⟩) (by assumption) ?rest20002
  case hi20002 => (simp only [List.getElem?_toArray, List.getElem?_cons_zero, List.getElem?_cons_succ]; rfl)
  case hw20002 => rfl
  case hy20002 => first | (intro wx hSw; go_simp; done) | (intro wx hSw; go_simp; with_reducible rfl)
  simp only [Act.put, List.setIfInBounds_toArray, List.set_cons_zero, List.set_cons_succ]
  refine wpAnyH_take (i := 1) (oi := ?oi20003) (v := ?v20003) ?hi20003 (by kernel_rfl) (by kernel_rfl) (by kernel_rfl) (fun _ _ _ h => h) (Or.inl ⟨?hw20003, ?hy20003⟩) (by assumption) ?rest20003
  case hi20003 => (simp only [List.getElem?_toArray, List.getElem?_cons_zero, List.getElem?_cons_succ]; rfl)
  case hw20003 => rfl
  case hy20003 => first | (intro wx hSw; go_simp; done) | (intro wx hSw; go_simp; with_reducible rfl)
  simp only [Act.put, List.setIfInBounds_toArray, List.set_cons_zero, List.set_cons_succ]
  refine wpAnyH_take (i := 5) (oi := ?oi20004) (v := ?v20004) ?hi20004 (by kernel_rfl) (by kernel_rfl) (by kernel_rfl) (fun _ _ _ h => h) (Or.inl ⟨?hw20004, ?hy20004⟩) (by assumption) ?rest20004
  case hi20004 => (simp only [List.getElem?_toArray, List.getElem?_cons_zero, List.getElem?_cons_succ]; rfl)
  case hw20004 => rfl
  case hy20004 => first | (intro wx hSw; go_simp; done) | (intro wx hSw; go_simp; with_reducible rfl)
  simp only [Act.put, List.setIfInBounds_toArray, List.set_cons_zero, List.set_cons_succ]
  refine wpAnyH_take (i := 2) (oi := ?oi20005) (v := ?v20005) ?hi20005 (by kernel_rfl) (by kernel_rfl) (by kernel_rfl) (fun _ _ _ h => h) (Or.inl ⟨?hw20005, ?hy20005⟩) (by assumption) ?rest20005
  case hi20005 => (simp only [List.getElem?_toArray, List.getElem?_cons_zero, List.getElem?_cons_succ]; rfl)
  case hw20005 => rfl
  case hy20005 => first | (intro wx hSw; go_simp; done) | (intro wx hSw; go_simp; with_reducible rfl)
  simp only [Act.put, List.setIfInBounds_toArray, List.set_cons_zero, List.set_cons_succ]
  refine wpAnyH_take (i := 6) (oi := ?oi20006) (v := ?v20006) ?hi20006 (by kernel_rfl) (by kernel_rfl) (by kernel_rfl) (fun _ _ _ h => h) (Or.inl ⟨?hw20006, ?hy20006⟩) (by assumption) ?rest20006
  case hi20006 => (simp only [List.getElem?_toArray, List.getElem?_cons_zero, List.getElem?_cons_succ]; rfl)
  case hw20006 => rfl
  case hy20006 => first | (intro wx hSw; go_simp; done) | (intro wx hSw; go_simp; with_reducible rfl)
  simp only [Act.put, List.setIfInBounds_toArray, List.set_cons_zero, List.set_cons_succ]
  refine wpAnyH_take (i := 7) (oi := ?oi20007) (v := ?v20007) ?hi20007 (by kernel_rfl) (by kernel_rfl) (by kernel_rfl) (fun _ _ _ h => h) (Or.inl ⟨?hw20007, ?hy20007⟩) (by assumption) ?rest20007
  case hi20007 => (simp only [List.getElem?_toArray, List.getElem?_cons_zero, List.getElem?_cons_succ]; rfl)
  case hw20007 => rfl
  case hy20007 => first | (intro wx hSw; go_simp; done) | (intro wx hSw; go_simp; with_reducible rfl)
  simp only [Act.put, List.setIfInBounds_toArray, List.set_cons_zero, List.set_cons_succ]
  refine wpAnyH_take (i := 3) (oi := ?oi20008) (v := ?v20008) ?hi20008 (by kernel_rfl) (by kernel_rfl) (by kernel_rfl) (fun _ _ _ h => h) (Or.inl ⟨?hw20008, ?hy20008⟩) (by assumption) ?rest20008
  case hi20008 => (simp only [List.getElem?_toArray, List.getElem?_cons_zero, List.getElem?_cons_succ]; rfl)
  case hw20008 => rfl
  case hy20008 => first | (intro wx hSw; obtain ⟨xq, hq⟩ := hSw; have c6 := (hq.at s0 _ [] rfl 6 (by decide)).1; have c7 := (hq.at s0 _ [] rfl 7 (by decide)).1; simp at c6 c7; go_simp; done) | (intro wx hSw; obtain ⟨xq, hq⟩ := hSw; have c6 := (hq.at s0 _ [] rfl 6 (by decide)).1; have c7 := (hq.at s0 _ [] rfl 7 (by decide)).1; simp at c6 c7; go_simp; with_reducible rfl)
  simp only [Act.put, List.setIfInBounds_toArray, List.set_cons_zero, List.set_cons_succ]
  refine wpAnyH_take (i := 8) (oi := ?oi20009) (v := ?v20009) ?hi20009 (by kernel_rfl) (by kernel_rfl) (by kernel_rfl) (fun _ _ _ h => h) (Or.inl ⟨?hw20009, ?hy20009⟩) (by assumption) ?rest20009
  case hi20009 => (simp only [List.getElem?_toArray, List.getElem?_cons_zero, List.getElem?_cons_succ]; rfl)
  case hw20009 => rfl
  case hy20009 => first | (intro wx hSw; obtain ⟨xq, hq⟩ := hSw; have c6 := (hq.at s0 _ [] rfl 6 (by decide)).1; have c7 := (hq.at s0 _ [] rfl 7 (by decide)).1; simp at c6 c7; go_simp; done) | (intro wx hSw; obtain ⟨xq, hq⟩ := hSw; have c6 := (hq.at s0 _ [] rfl 6 (by decide)).1; have c7 := (hq.at s0 _ [] rfl 7 (by decide)).1; simp at c6 c7; go_simp; with_reducible rfl)
  simp only [Act.put, List.setIfInBounds_toArray, List.set_cons_zero, List.set_cons_succ]
  refine wpAnyH_take (i := 9) (oi := ?oi20010) (v := ?v20010) ?hi20010 (by kernel_rfl) (by kernel_rfl) (by kernel_rfl) (fun _ _ _ h => h) (Or.inl ⟨?hw20010, ?hy20010⟩) (by assumption) ?rest20010
  case hi20010 => (simp only [List.getElem?_toArray, List.getElem?_cons_zero, List.getElem?_cons_succ]; rfl)
  case hw20010 => rfl
  case hy20010 => first | (intro wx hSw; go_simp; done) | (intro wx hSw; go_simp; with_reducible rfl)
  simp only [Act.put, List.setIfInBounds_toArray, List.set_cons_zero, List.set_cons_succ]
  refine wpAnyH_take (i := 10) (oi := ?oi20011) (v := ?v20011) ?hi20011 (by kernel_rfl) (by kernel_rfl) (by kernel_rfl) (fun _ _ _ h => h) (Or.inl ⟨?hw20011, ?hy20011⟩) (by assumption) ?rest20011
  case hi20011 => (simp only [List.getElem?_toArray, List.getElem?_cons_zero, List.getElem?_cons_succ]; rfl)
  case hw20011 => rfl
  case hy20011 => first | (intro wx hSw; go_simp; done) | (intro wx hSw; go_simp; with_reducible rfl)
  simp only [Act.put, List.setIfInBounds_toArray, List.set_cons_zero, List.set_cons_succ]
  refine wpAnyH_take (i := 11) (oi := ?oi20012) (v := ?v20012) ?hi20012 (by kernel_rfl) (by kernel_rfl) (by kernel_rfl) (fun _ _ _ h => h) (Or.inl ⟨?hw20012, ?hy20012⟩) (by assumption) ?rest20012
  case hi20012 => (simp only [List.getElem?_toArray, List.getElem?_cons_zero, List.getElem?_cons_succ]; rfl)
  case hw20012 => rfl
  case hy20012 => first | (intro wx hSw; go_simp; done) | (intro wx hSw; go_simp; with_reducible rfl)
  simp only [Act.put, List.setIfInBounds_toArray, List.set_cons_zero, List.set_cons_succ]
  refine wpAnyH_done (by kernel_rfl) ?_ _
  refine NoPanic.normal ?_
  refine hrest _ _ ?_
  clear hrest
  have hS4 := hide hHeld
  clear hHeld
  go_wp2_with fail
  rename_i hrest
  refine wp_region_noPanic ?_
  refine wp_region_held_drew (S := (fun X => ∃ xq, St w Pd (s0 ++ [⟨e, .slice p m cp, d, ra, rb⟩]) (.slice (some ⟨g, 0, none⟩) (s0.length + 1) cap) xq X)) (by kernel_rfl) (⟨_, (unhide hS4).choose_spec.call (Below.refl _ _).drew⟩) (fun hHeld => ?_)
  clear hS4
  revert hHeld
  generalize World.drew _ = We
  intro hHeld
  refine wpAnyH_take (i := 0) (oi := ?oi20013) (v := ?v20013) ?hi20013 (by kernel_rfl) (by kernel_rfl) (by kernel_rfl) (fun _ _ _ h => h) (Or.inl ⟨?hw20013, ?hy20013⟩) (by assumption) ?rest20013
  case hi20013 => (simp only [List.getElem?_toArray, List.getElem?_cons_zero]; rfl)
  case hw20013 => rfl
  case hy20013 => first | (intro wx hSw; go_simp; done) | (intro wx hSw; go_simp; with_reducible rfl)
  simp only [Act.put, List.setIfInBounds_toArray, List.set_cons_zero, List.set_cons_succ]
  refine wpAnyH_take (i := 1) (oi := ?oi20014) (v := ?v20014) ?hi20014 (by kernel_rfl) (by kernel_rfl) (by kernel_rfl) (fun _ _ _ h => h) (Or.inl ⟨?hw20014, ?hy20014⟩) (by assumption) ?rest20014
  case hi20014 => (simp only [List.getElem?_toArray, List.getElem?_cons_zero, List.getElem?_cons_succ]; rfl)
  case hw20014 => rfl
  case hy20014 => first | (intro wx hSw; go_simp; done) | (intro wx hSw; go_simp; with_reducible rfl)
  simp only [Act.put, List.setIfInBounds_toArray, List.set_cons_zero, List.set_cons_succ]
  refine wpAnyH_take (i := 5) (oi := ?oi20015) (v := ?v20015) ?hi20015 (by kernel_rfl) (by kernel_rfl) (by kernel_rfl) (fun _ _ _ h => h) (Or.inl ⟨?hw20015, ?hy20015⟩) (by assumption) ?rest20015
  case hi20015 => (simp only [List.getElem?_toArray, List.getElem?_cons_zero, List.getElem?_cons_succ]; rfl)
  case hw20015 => rfl
  case hy20015 => first | (intro wx hSw; go_simp; done) | (intro wx hSw; go_simp; with_reducible rfl)
  simp only [Act.put, List.setIfInBounds_toArray, List.set_cons_zero, List.set_cons_succ]
  refine wpAnyH_take (i := 10) (oi := ?oi20016) (v := ?v20016) ?hi20016 (by kernel_rfl) (by kernel_rfl) (by kernel_rfl) (fun _ _ _ h => h) (Or.inl ⟨?hw20016, ?hy20016⟩) (by assumption) ?rest20016
  case hi20016 => (simp only [List.getElem?_toArray, List.getElem?_cons_zero, List.getElem?_cons_succ]; rfl)
  case hw20016 => rfl
  case hy20016 => first | (intro wx hSw; go_simp; done) | (intro wx hSw; go_simp; with_reducible rfl)
  simp only [Act.put, List.setIfInBounds_toArray, List.set_cons_zero, List.set_cons_succ]
  refine wpAnyH_take (i := 2) (oi := ?oi20017) (v := ?v20017) ?hi20017 (by kernel_rfl) (by kernel_rfl) (by kernel_rfl) (fun _ _ _ h => h) (Or.inl ⟨?hw20017, ?hy20017⟩) (by assumption) ?rest20017
  case hi20017 => (simp only [List.getElem?_toArray, List.getElem?_cons_zero, List.getElem?_cons_succ]; rfl)
  case hw20017 => rfl
  case hy20017 => first | (intro wx hSw; go_simp; done) | (intro wx hSw; go_simp; with_reducible rfl)
  simp only [Act.put, List.setIfInBounds_toArray, List.set_cons_zero, List.set_cons_succ]
  refine wpAnyH_take (i := 6) (oi := ?oi20018) (v := ?v20018) ?hi20018 (by kernel_rfl) (by kernel_rfl) (by kernel_rfl) (fun _ _ _ h => h) (Or.inl ⟨?hw20018, ?hy20018⟩) (by assumption) ?rest20018
  case hi20018 => (simp only [List.getElem?_toArray, List.getElem?_cons_zero, List.getElem?_cons_succ]; rfl)
  case hw20018 => rfl
  case hy20018 => first | (intro wx hSw; go_simp; done) | (intro wx hSw; go_simp; with_reducible rfl)
  simp only [Act.put, List.setIfInBounds_toArray, List.set_cons_zero, List.set_cons_succ]
  refine wpAnyH_take (i := 11) (oi := ?oi20019) (v := ?v20019) ?hi20019 (by kernel_rfl) (by kernel_rfl) (by kernel_rfl) (fun _ _ _ h => h) (Or.inl ⟨?hw20019, ?hy20019⟩) (by assumption) ?rest20019
  case hi20019 => (simp only [List.getElem?_toArray, List.getElem?_cons_zero, List.getElem?_cons_succ]; rfl)
  case hw20019 => rfl
  case hy20019 => first | (intro wx hSw; go_simp; done) | (intro wx hSw; go_simp; with_reducible rfl)
  simp only [Act.put, List.setIfInBounds_toArray, List.set_cons_zero, List.set_cons_succ]
  refine wpAnyH_take (i := 3) (oi := ?oi20020) (v := ?v20020) ?hi20020 (by kernel_rfl) (by kernel_rfl) (by kernel_rfl) (fun _ _ _ h => h) (Or.inl ⟨?hw20020, ?hy20020⟩) (by assumption) ?rest20020
  case hi20020 => (simp only [List.getElem?_toArray, List.getElem?_cons_zero, List.getElem?_cons_succ]; rfl)
  case hw20020 => rfl
  case hy20020 => first | (intro wx hSw; go_simp; done) | (intro wx hSw; go_simp; with_reducible rfl)
  simp only [Act.put, List.setIfInBounds_toArray, List.set_cons_zero, List.set_cons_succ]
  refine wpAnyH_take (i := 7) (oi := ?oi20021) (v := ?v20021) ?hi20021 (by kernel_rfl) (by kernel_rfl) (by kernel_rfl) (fun _ _ _ h => h) (Or.inl ⟨?hw20021, ?hy20021⟩) (by assumption) ?rest20021
  case hi20021 => (simp only [List.getElem?_toArray, List.getElem?_cons_zero, List.getElem?_cons_succ]; rfl)
  case hw20021 => rfl
  case hy20021 => first | (intro wx hSw; go_simp; done) | (intro wx hSw; go_simp; with_reducible rfl)
  simp only [Act.put, List.setIfInBounds_toArray, List.set_cons_zero, List.set_cons_succ]
  refine wpAnyH_take (i := 12) (oi := ?oi20022) (v := ?v20022) ?hi20022 (by kernel_rfl) (by kernel_rfl) (by kernel_rfl) (fun _ _ _ h => h) (Or.inl ⟨?hw20022, ?hy20022⟩) (by assumption) ?rest20022
  case hi20022 => (simp only [List.getElem?_toArray, List.getElem?_cons_zero, List.getElem?_cons_succ]; rfl)
  case hw20022 => rfl
  case hy20022 => first | (intro wx hSw; go_simp; done) | (intro wx hSw; go_simp; with_reducible rfl)
  simp only [Act.put, List.setIfInBounds_toArray, List.set_cons_zero, List.set_cons_succ]
  refine wpAnyH_take (i := 8) (oi := ?oi20023) (v := ?v20023) ?hi20023 (by kernel_rfl) (by kernel_rfl) (by kernel_rfl) (fun _ _ _ h => h) (Or.inl ⟨?hw20023, ?hy20023⟩) (by assumption) ?rest20023
  case hi20023 => (simp only [List.getElem?_toArray, List.getElem?_cons_zero, List.getElem?_cons_succ]; rfl)
  case hw20023 => rfl
  case hy20023 => first | (intro wx hSw; go_simp; done) | (intro wx hSw; go_simp; with_reducible rfl)
  simp only [Act.put, List.setIfInBounds_toArray, List.set_cons_zero, List.set_cons_succ]
  refine wpAnyH_take (i := 13) (oi := ?oi20024) (v := ?v20024) ?hi20024 (by kernel_rfl) (by kernel_rfl) (by kernel_rfl) (fun _ _ _ h => h) (Or.inl ⟨?hw20024, ?hy20024⟩) (by assumption) ?rest20024
  case hi20024 => (simp only [List.getElem?_toArray, List.getElem?_cons_zero, List.getElem?_cons_succ]; rfl)
  case hw20024 => rfl
  case hy20024 => first | (intro wx hSw; go_simp; done) | (intro wx hSw; go_simp; with_reducible rfl)
  simp only [Act.put, List.setIfInBounds_toArray, List.set_cons_zero, List.set_cons_succ]
  refine wpAnyH_take (i := 4) (oi := ?oi20025) (v := ?v20025) ?hi20025 (by kernel_rfl) (by kernel_rfl) (by kernel_rfl) (fun _ _ _ h => h) (Or.inl ⟨?hw20025, ?hy20025⟩) (by assumption) ?rest20025
  case hi20025 => (simp only [List.getElem?_toArray, List.getElem?_cons_zero, List.getElem?_cons_succ]; rfl)
  case hw20025 => rfl
  case hy20025 => first | (intro wx hSw; obtain ⟨xq, hq⟩ := hSw; have c0 := (hq.at s0 _ [] rfl 0 (by decide)).1; have c1 := (hq.at s0 _ [] rfl 1 (by decide)).1; have c2 := (hq.at s0 _ [] rfl 2 (by decide)).1; have c3 := (hq.at s0 _ [] rfl 3 (by decide)).1; have c4 := (hq.at s0 _ [] rfl 4 (by decide)).1; have c5 := (hq.at s0 _ [] rfl 5 (by decide)).1; have c6 := (hq.at s0 _ [] rfl 6 (by decide)).1; have c7 := (hq.at s0 _ [] rfl 7 (by decide)).1; have c8 := (hq.at s0 _ [] rfl 8 (by decide)).1; have c9 := (hq.at s0 _ [] rfl 9 (by decide)).1; simp at c0 c1 c2 c3 c4 c5 c6 c7 c8 c9; go_simp; done) | (intro wx hSw; obtain ⟨xq, hq⟩ := hSw; have c0 := (hq.at s0 _ [] rfl 0 (by decide)).1; have c1 := (hq.at s0 _ [] rfl 1 (by decide)).1; have c2 := (hq.at s0 _ [] rfl 2 (by decide)).1; have c3 := (hq.at s0 _ [] rfl 3 (by decide)).1; have c4 := (hq.at s0 _ [] rfl 4 (by decide)).1; have c5 := (hq.at s0 _ [] rfl 5 (by decide)).1; have c6 := (hq.at s0 _ [] rfl 6 (by decide)).1; have c7 := (hq.at s0 _ [] rfl 7 (by decide)).1; have c8 := (hq.at s0 _ [] rfl 8 (by decide)).1; have c9 := (hq.at s0 _ [] rfl 9 (by decide)).1; simp at c0 c1 c2 c3 c4 c5 c6 c7 c8 c9; go_simp; with_reducible rfl)
  simp only [Act.put, List.setIfInBounds_toArray, List.set_cons_zero, List.set_cons_succ]
  refine wpAnyH_take (i := 9) (oi := ?oi20026) (v := ?v20026) ?hi20026 (by kernel_rfl) (by kernel_rfl) (by kernel_rfl) (fun _ _ _ h => h) (Or.inl ⟨?hw20026, ?hy20026⟩) (by assumption) ?rest20026
  case hi20026 => (simp only [List.getElem?_toArray, List.getElem?_cons_zero, List.getElem?_cons_succ]; rfl)
  case hw20026 => rfl
  case hy20026 => first | (intro wx hSw; obtain ⟨xq, hq⟩ := hSw; have c0 := (hq.at s0 _ [] rfl 0 (by decide)).1; have c1 := (hq.at s0 _ [] rfl 1 (by decide)).1; have c2 := (hq.at s0 _ [] rfl 2 (by decide)).1; have c3 := (hq.at s0 _ [] rfl 3 (by decide)).1; have c4 := (hq.at s0 _ [] rfl 4 (by decide)).1; have c5 := (hq.at s0 _ [] rfl 5 (by decide)).1; have c6 := (hq.at s0 _ [] rfl 6 (by decide)).1; have c7 := (hq.at s0 _ [] rfl 7 (by decide)).1; have c8 := (hq.at s0 _ [] rfl 8 (by decide)).1; have c9 := (hq.at s0 _ [] rfl 9 (by decide)).1; simp at c0 c1 c2 c3 c4 c5 c6 c7 c8 c9; go_simp; done) | (intro wx hSw; obtain ⟨xq, hq⟩ := hSw; have c0 := (hq.at s0 _ [] rfl 0 (by decide)).1; have c1 := (hq.at s0 _ [] rfl 1 (by decide)).1; have c2 := (hq.at s0 _ [] rfl 2 (by decide)).1; have c3 := (hq.at s0 _ [] rfl 3 (by decide)).1; have c4 := (hq.at s0 _ [] rfl 4 (by decide)).1; have c5 := (hq.at s0 _ [] rfl 5 (by decide)).1; have c6 := (hq.at s0 _ [] rfl 6 (by decide)).1; have c7 := (hq.at s0 _ [] rfl 7 (by decide)).1; have c8 := (hq.at s0 _ [] rfl 8 (by decide)).1; have c9 := (hq.at s0 _ [] rfl 9 (by decide)).1; simp at c0 c1 c2 c3 c4 c5 c6 c7 c8 c9; go_simp; with_reducible rfl)
  simp only [Act.put, List.setIfInBounds_toArray, List.set_cons_zero, List.set_cons_succ]
  refine wpAnyH_take (i := 14) (oi := ?oi20027) (v := ?v20027) ?hi20027 (by kernel_rfl) (by kernel_rfl) (by kernel_rfl) (fun _ _ _ h => h) (Or.inl ⟨?hw20027, ?hy20027⟩) (by assumption) ?rest20027
  case hi20027 => (simp only [List.getElem?_toArray, List.getElem?_cons_zero, List.getElem?_cons_succ]; rfl)
  case hw20027 => rfl
  case hy20027 => first | (intro wx hSw; obtain ⟨xq, hq⟩ := hSw; have c0 := (hq.at s0 _ [] rfl 0 (by decide)).1; have c1 := (hq.at s0 _ [] rfl 1 (by decide)).1; have c2 := (hq.at s0 _ [] rfl 2 (by decide)).1; have c3 := (hq.at s0 _ [] rfl 3 (by decide)).1; have c4 := (hq.at s0 _ [] rfl 4 (by decide)).1; have c5 := (hq.at s0 _ [] rfl 5 (by decide)).1; have c6 := (hq.at s0 _ [] rfl 6 (by decide)).1; have c7 := (hq.at s0 _ [] rfl 7 (by decide)).1; have c8 := (hq.at s0 _ [] rfl 8 (by decide)).1; have c9 := (hq.at s0 _ [] rfl 9 (by decide)).1; simp at c0 c1 c2 c3 c4 c5 c6 c7 c8 c9; go_simp; done) | (intro wx hSw; obtain ⟨xq, hq⟩ := hSw; have c0 := (hq.at s0 _ [] rfl 0 (by decide)).1; have c1 := (hq.at s0 _ [] rfl 1 (by decide)).1; have c2 := (hq.at s0 _ [] rfl 2 (by decide)).1; have c3 := (hq.at s0 _ [] rfl 3 (by decide)).1; have c4 := (hq.at s0 _ [] rfl 4 (by decide)).1; have c5 := (hq.at s0 _ [] rfl 5 (by decide)).1; have c6 := (hq.at s0 _ [] rfl 6 (by decide)).1; have c7 := (hq.at s0 _ [] rfl 7 (by decide)).1; have c8 := (hq.at s0 _ [] rfl 8 (by decide)).1; have c9 := (hq.at s0 _ [] rfl 9 (by decide)).1; simp at c0 c1 c2 c3 c4 c5 c6 c7 c8 c9; go_simp; with_reducible rfl)
  simp only [Act.put, List.setIfInBounds_toArray, List.set_cons_zero, List.set_cons_succ]
  have hW5 := hide hHeld
  refine wpAnyH_ready (rs := [15]) (by kernel_rfl) (by simp) ?_
  refine AllReadyH.cons rfl (fun K20028 hK20028 => ?_) AllReadyH.nil
  go_simp
  go_wp2_with (go_at_call 37; refine (unhide HOF e (.slice p m cp) ra rb _ (unhide hPe) (unhide hRe) (unhide hW5).choose_spec.below).mono ?_; rw [unhide hf]; rintro x W5 ⟨rfl, hb5⟩)
  refine hK20028.out _ _ ?hs20028 (fun hHeld20028 => ?_)
  case hs20028 => exact ⟨_, (unhide hW5).choose_spec.call hb5⟩
  clear hHeld
  have hHeld := hHeld20028; clear hHeld20028 hK20028 K20028
  clear hb5 hW5
  refine wpAnyH_take (i := 16) (oi := ?oi20029) (v := ?v20029) ?hi20029 (by kernel_rfl) (by kernel_rfl) (by kernel_rfl) (fun _ _ _ h => h) (Or.inl ⟨?hw20029, ?hy20029⟩) (by assumption) ?rest20029
  case hi20029 => (simp only [List.getElem?_toArray, List.getElem?_cons_zero, List.getElem?_cons_succ]; rfl)
  case hw20029 => rfl
  case hy20029 => first | (intro wx hSw; go_simp; done) | (intro wx hSw; go_simp; with_reducible rfl)
  simp only [Act.put, List.setIfInBounds_toArray, List.set_cons_zero, List.set_cons_succ]
  refine wpAnyH_take (i := 17) (oi := ?oi20030) (v := ?v20030) ?hi20030 (by kernel_rfl) (by kernel_rfl) (by kernel_rfl) (fun _ _ _ h => h) (Or.inl ⟨?hw20030, ?hy20030⟩) (by assumption) ?rest20030
  case hi20030 => (simp only [List.getElem?_toArray, List.getElem?_cons_zero, List.getElem?_cons_succ]; rfl)
  case hw20030 => rfl
  case hy20030 => first | (intro wx hSw; go_simp; done) | (intro wx hSw; go_simp; with_reducible rfl)
  simp only [Act.put, List.setIfInBounds_toArray, List.set_cons_zero, List.set_cons_succ]
  refine wpAnyH_take (i := 18) (oi := ?oi20031) (v := ?v20031) ?hi20031 (by kernel_rfl) (by kernel_rfl) (by kernel_rfl) (fun _ _ _ h => h) (Or.inl ⟨?hw20031, ?hy20031⟩) (by assumption) ?rest20031
  case hi20031 => (simp only [List.getElem?_toArray, List.getElem?_cons_zero, List.getElem?_cons_succ]; rfl)
  case hw20031 => rfl
  case hy20031 => first | (intro wx hSw; go_simp; done) | (intro wx hSw; go_simp; with_reducible rfl)
  simp only [Act.put, List.setIfInBounds_toArray, List.set_cons_zero, List.set_cons_succ]
  refine wpAnyH_take (i := 19) (oi := ?oi20032) (v := ?v20032) ?hi20032 (by kernel_rfl) (by kernel_rfl) (by kernel_rfl) (fun _ _ _ h => h) (Or.inl ⟨?hw20032, ?hy20032⟩) (by assumption) ?rest20032
  case hi20032 => (simp only [List.getElem?_toArray, List.getElem?_cons_zero, List.getElem?_cons_succ]; rfl)
  case hw20032 => rfl
  case hy20032 => first | (intro wx hSw; go_simp; done) | (intro wx hSw; go_simp; with_reducible rfl)
  simp only [Act.put, List.setIfInBounds_toArray, List.set_cons_zero, List.set_cons_succ]
  refine wpAnyH_take (i := 20) (oi := ?oi20033) (v := ?v20033) ?hi20033 (by kernel_rfl) (by kernel_rfl) (by kernel_rfl) (fun _ _ _ h => h) (Or.inl ⟨?hw20033, ?hy20033⟩) (by assumption) ?rest20033
  case hi20033 => (simp only [List.getElem?_toArray, List.getElem?_cons_zero, List.getElem?_cons_succ]; rfl)
  case hw20033 => rfl
  case hy20033 => first | (intro wx hSw; go_simp; done) | (intro wx hSw; go_simp; with_reducible rfl)
  simp only [Act.put, List.setIfInBounds_toArray, List.set_cons_zero, List.set_cons_succ]
  refine wpAnyH_done (by kernel_rfl) ?_ _
  refine NoPanic.normal ?_
  refine hrest _ _ ?_
  clear hrest
  have hS6 := hide hHeld
  clear hHeld
  by_cases her : er = 0
  · subst her
    obtain ⟨xq, hq6⟩ := unhide hS6
    have HP := hide hq6.pop
    clear hq6 hS6
    rcases List.eq_nil_or_concat s0 with rfl | ⟨s1, pr, hs01⟩
    · go_wp2_with fail
      have hU2 := unhide hU
      refine bodyPost_ret (v := .tuple #[.int .i64 r, .int .i64 0]) (by simp [results, Try.results36, go_sem]) rfl ⟨?_, (unhide HP).below⟩
      rw [← hU2]; rfl
    · rw [List.concat_eq_append] at hs01
      subst hs01
      have hl1 : (s1 ++ [pr]).length = s1.length + 1 := by simp
      have hcap : s1.length + 1 ≤ cap := by
        rcases (unhide HP).row.2 with ⟨hv, _⟩ | ⟨g', cap', cur, hv, _, _, h1, _⟩
        · cases hv
        · cases hv; rw [hl1] at h1; exact h1
      rw [hl1] at HP e1 hk1000 ⊢
      clear e1
      have hcapi : (s1.length : Int) + 1 ≤ cap := by omega
      have e2 : IntKind.i64.wrap ((s1.length : Int) + 1 + 1 - 1) = (s1.length : Int) + 1 := IntWalk.i64_in _ (by omega) |>.trans (by omega)
      have e3 : IntKind.i64.wrap ((s1.length : Int) + 1 - 1) = (s1.length : Int) := IntWalk.i64_in _ (by omega) |>.trans (by omega)
      have hz : ((s1.length : Int) + 1 == 0) = false := beq_eq_false_iff_ne.2 (by omega)
      have hkp := unhide hK pr (by simp)
      have hd2 := kid_d hkp
      obtain ⟨ck, hck⟩ : ∃ ck, pr.kid = some ck := by
        cases hh : pr.kid with
        | none => exact absurd hh hkp
        | some ck => exact ⟨ck, rfl⟩
      have hrp := rem_put hck r
      have HRP := hide hrp
      clear hkp hrp hck
      obtain ⟨pe, pl, pd, pa, pb⟩ := pr
      go_wp2_with fail
      rename_i hrest
      have hd01 : pd = 0 ∨ pd = 1 := by have h : pd < 2 := hd2; omega
      rcases hd01 with rfl | rfl
      · have HPW := hide ((unhide HP).call (Below.refl _ _).drew)
        refine wp_region_noPanic ?_
        refine wp_region_held_drew (S := (fun X => ∃ xq q, q.d = 0 ∧ St w Pd (s1 ++ [q]) (.slice (some ⟨g, 0, none⟩) (s1.length + 1) cap) xq X)) (by kernel_rfl) (⟨_, ⟨pe, pl, 0, pa, pb⟩, rfl, unhide HPW⟩) (fun hHeld => ?_)
        clear HP
        revert HPW hHeld
        generalize World.drew _ = Wf
        intro HPW hHeld
        refine wpAnyH_take (i := 0) (oi := ?oi20034) (v := ?v20034) ?hi20034 (by kernel_rfl) (by kernel_rfl) (by kernel_rfl) (fun _ _ _ h => h) (Or.inl ⟨?hw20034, ?hy20034⟩) (by assumption) ?rest20034
        case hi20034 => (simp only [List.getElem?_toArray, List.getElem?_cons_zero]; rfl)
        case hw20034 => rfl
        case hy20034 => first | (intro wx hSw; go_simp; done) | (intro wx hSw; go_simp; with_reducible rfl)
        simp only [Act.put, List.setIfInBounds_toArray, List.set_cons_zero, List.set_cons_succ]
        refine wpAnyH_take (i := 1) (oi := ?oi20035) (v := ?v20035) ?hi20035 (by kernel_rfl) (by kernel_rfl) (by kernel_rfl) (fun _ _ _ h => h) (Or.inl ⟨?hw20035, ?hy20035⟩) (by assumption) ?rest20035
        case hi20035 => (simp only [List.getElem?_toArray, List.getElem?_cons_zero, List.getElem?_cons_succ]; rfl)
        case hw20035 => rfl
        case hy20035 => first | (intro wx hSw; go_simp; done) | (intro wx hSw; go_simp; with_reducible rfl)
        simp only [Act.put, List.setIfInBounds_toArray, List.set_cons_zero, List.set_cons_succ]
        refine wpAnyH_take (i := 5) (oi := ?oi20036) (v := ?v20036) ?hi20036 (by kernel_rfl) (by kernel_rfl) (by kernel_rfl) (fun _ _ _ h => h) (Or.inl ⟨?hw20036, ?hy20036⟩) (by assumption) ?rest20036
        case hi20036 => (simp only [List.getElem?_toArray, List.getElem?_cons_zero, List.getElem?_cons_succ]; rfl)
        case hw20036 => rfl
        case hy20036 => first | (intro wx hSw; go_simp; done) | (intro wx hSw; go_simp; with_reducible rfl)
        simp only [Act.put, List.setIfInBounds_toArray, List.set_cons_zero, List.set_cons_succ]
        refine wpAnyH_take (i := 2) (oi := ?oi20037) (v := ?v20037) ?hi20037 (by kernel_rfl) (by kernel_rfl) (by kernel_rfl) (fun _ _ _ h => h) (Or.inl ⟨?hw20037, ?hy20037⟩) (by assumption) ?rest20037
        case hi20037 => (simp only [List.getElem?_toArray, List.getElem?_cons_zero, List.getElem?_cons_succ]; rfl)
        case hw20037 => rfl
        case hy20037 => first | (intro wx hSw; go_simp; done) | (intro wx hSw; go_simp; with_reducible rfl)
        simp only [Act.put, List.setIfInBounds_toArray, List.set_cons_zero, List.set_cons_succ]
        refine wpAnyH_take (i := 6) (oi := ?oi20038) (v := ?v20038) ?hi20038 (by kernel_rfl) (by kernel_rfl) (by kernel_rfl) (fun _ _ _ h => h) (Or.inl ⟨?hw20038, ?hy20038⟩) (by assumption) ?rest20038
        case hi20038 => (simp only [List.getElem?_toArray, List.getElem?_cons_zero, List.getElem?_cons_succ]; rfl)
        case hw20038 => rfl
        case hy20038 => first | (intro wx hSw; go_simp; done) | (intro wx hSw; go_simp; with_reducible rfl)
        simp only [Act.put, List.setIfInBounds_toArray, List.set_cons_zero, List.set_cons_succ]
        refine wpAnyH_take (i := 3) (oi := ?oi20039) (v := ?v20039) ?hi20039 (by kernel_rfl) (by kernel_rfl) (by kernel_rfl) (fun _ _ _ h => h) (Or.inl ⟨?hw20039, ?hy20039⟩) (by assumption) ?rest20039
        case hi20039 => (simp only [List.getElem?_toArray, List.getElem?_cons_zero, List.getElem?_cons_succ]; rfl)
        case hw20039 => rfl
        case hy20039 => first | (intro wx hSw; go_simp; done) | (intro wx hSw; go_simp; with_reducible rfl)
        simp only [Act.put, List.setIfInBounds_toArray, List.set_cons_zero, List.set_cons_succ]
        refine wpAnyH_take (i := 7) (oi := ?oi20040) (v := ?v20040) ?hi20040 (by kernel_rfl) (by kernel_rfl) (by kernel_rfl) (fun _ _ _ h => h) (Or.inl ⟨?hw20040, ?hy20040⟩) (by assumption) ?rest20040
        case hi20040 => (simp only [List.getElem?_toArray, List.getElem?_cons_zero, List.getElem?_cons_succ]; rfl)
        case hw20040 => rfl
        case hy20040 => first | (intro wx hSw; go_simp; done) | (intro wx hSw; go_simp; with_reducible rfl)
        simp only [Act.put, List.setIfInBounds_toArray, List.set_cons_zero, List.set_cons_succ]
        refine wpAnyH_take (i := 4) (oi := ?oi20041) (v := ?v20041) ?hi20041 (by kernel_rfl) (by kernel_rfl) (by kernel_rfl) (fun _ _ _ h => h) (Or.inl ⟨?hw20041, ?hy20041⟩) (by assumption) ?rest20041
        case hi20041 => (simp only [List.getElem?_toArray, List.getElem?_cons_zero, List.getElem?_cons_succ]; rfl)
        case hw20041 => rfl
        case hy20041 => first | (intro wx hSw; obtain ⟨xq, q, hqd, hq⟩ := hSw; have c7 := (hq.at s1 _ [] rfl 7 (by decide)).1; simp at c7; rw [hqd] at c7; go_simp; done) | (intro wx hSw; obtain ⟨xq, q, hqd, hq⟩ := hSw; have c7 := (hq.at s1 _ [] rfl 7 (by decide)).1; simp at c7; rw [hqd] at c7; go_simp; with_reducible rfl)
        simp only [Act.put, List.setIfInBounds_toArray, List.set_cons_zero, List.set_cons_succ]
        refine wpAnyH_take (i := 8) (oi := ?oi20042) (v := ?v20042) ?hi20042 (by kernel_rfl) (by kernel_rfl) (by kernel_rfl) (fun _ _ _ h => h) (Or.inl ⟨?hw20042, ?hy20042⟩) (by assumption) ?rest20042
        case hi20042 => (simp only [List.getElem?_toArray, List.getElem?_cons_zero, List.getElem?_cons_succ]; rfl)
        case hw20042 => rfl
        case hy20042 => first | (intro wx hSw; go_simp; done) | (intro wx hSw; go_simp; with_reducible rfl)
        simp only [Act.put, List.setIfInBounds_toArray, List.set_cons_zero, List.set_cons_succ]
        have ha8 := (unhide HPW).at s1 _ [] rfl 8 (by decide)
        obtain ⟨h8c, h8f⟩ := ha8
        simp at h8c
        have hput := (unhide HPW).put (q' := ⟨pe, pl, 0, r, pb⟩) 8 (by decide) (.int .i64 r) rfl rfl rfl
        refine wpAnyH_ready (rs := [9]) (by kernel_rfl) (by simp) ?_
        refine AllReadyH.cons rfl (fun K20043 hK20043 => ?_) AllReadyH.nil
        go_simp
        refine hK20043.out _ _ ?hs20043 (fun hHeld20043 => ?_)
        case hs20043 => exact ⟨_, ⟨pe, pl, 0, r, pb⟩, rfl, hput⟩
        clear hHeld
        have hHeld := hHeld20043; clear hHeld20043 hK20043 K20043
        refine wpAnyH_done (by kernel_rfl) ?_ _
        refine NoPanic.normal ?_
        refine hrest _ _ ?_
        clear hrest h8c h8f hHeld
        have HPT := hide hput
        obtain ⟨k7, f7⟩ := hput.at s1 _ [] rfl 7 (by decide)
        have hput2 := hput.put (q' := ⟨pe, pl, 1, r, pb⟩) 7 (by decide) (.int .i64 1) rfl rfl rfl
        have HP2 := hide hput2
        clear hput hput2 HPW
        revert k7 f7 HP2
        generalize Wf.setCell _ _ = Wg
        intro k7 f7 HP2
        simp at k7
        go_wp2_with fail
        go_step3
        have hU2 := unhide hU
        have hn2 := unhide hn
        have hrp := unhide HRP
        refine ⟨(Fr.remTop (⟨pe, pl, 1, r, pb⟩ : Fr Int)) + (s1.map Fr.rem).sum, ?_, J36.intro _ (s1 ++ [⟨pe, pl, 1, r, pb⟩]) _ _ rfl (unhide HP2) (.inr ⟨rfl, s1, ⟨pe, pl, 1, r, pb⟩, rfl, fun x hx => unhide hK x (by simp [hx]), ?_, rfl⟩)⟩
        · have e9 : (Fr.remTop (⟨pe, pl, 1, r, pb⟩ : Fr Int)) = Fr.rem (⟨pe, pl, 0, pa, pb⟩ : Fr Int) := hrp
          rw [e9, hn2, List.map_append, List.sum_append]
          simp
          omega
        · rw [List.reverse_append] at hU2
          exact hU2
      · have HPW := hide ((unhide HP).call (Below.refl _ _).drew)
        refine wp_region_noPanic ?_
        refine wp_region_held_drew (S := (fun X => ∃ xq q, q.d = 1 ∧ St w Pd (s1 ++ [q]) (.slice (some ⟨g, 0, none⟩) (s1.length + 1) cap) xq X)) (by kernel_rfl) (⟨_, ⟨pe, pl, 1, pa, pb⟩, rfl, unhide HPW⟩) (fun hHeld => ?_)
        clear HP
        revert HPW hHeld
        generalize World.drew _ = Wf
        intro HPW hHeld
        refine wpAnyH_take (i := 0) (oi := ?oi20044) (v := ?v20044) ?hi20044 (by kernel_rfl) (by kernel_rfl) (by kernel_rfl) (fun _ _ _ h => h) (Or.inl ⟨?hw20044, ?hy20044⟩) (by assumption) ?rest20044
        case hi20044 => (simp only [List.getElem?_toArray, List.getElem?_cons_zero]; rfl)
        case hw20044 => rfl
        case hy20044 => first | (intro wx hSw; go_simp; done) | (intro wx hSw; go_simp; with_reducible rfl)
        simp only [Act.put, List.setIfInBounds_toArray, List.set_cons_zero, List.set_cons_succ]
        refine wpAnyH_take (i := 1) (oi := ?oi20045) (v := ?v20045) ?hi20045 (by kernel_rfl) (by kernel_rfl) (by kernel_rfl) (fun _ _ _ h => h) (Or.inl ⟨?hw20045, ?hy20045⟩) (by assumption) ?rest20045
        case hi20045 => (simp only [List.getElem?_toArray, List.getElem?_cons_zero, List.getElem?_cons_succ]; rfl)
        case hw20045 => rfl
        case hy20045 => first | (intro wx hSw; go_simp; done) | (intro wx hSw; go_simp; with_reducible rfl)
        simp only [Act.put, List.setIfInBounds_toArray, List.set_cons_zero, List.set_cons_succ]
        refine wpAnyH_take (i := 5) (oi := ?oi20046) (v := ?v20046) ?hi20046 (by kernel_rfl) (by kernel_rfl) (by kernel_rfl) (fun _ _ _ h => h) (Or.inl ⟨?hw20046, ?hy20046⟩) (by assumption) ?rest20046
        case hi20046 => (simp only [List.getElem?_toArray, List.getElem?_cons_zero, List.getElem?_cons_succ]; rfl)
        case hw20046 => rfl
        case hy20046 => first | (intro wx hSw; go_simp; done) | (intro wx hSw; go_simp; with_reducible rfl)
        simp only [Act.put, List.setIfInBounds_toArray, List.set_cons_zero, List.set_cons_succ]
        refine wpAnyH_take (i := 2) (oi := ?oi20047) (v := ?v20047) ?hi20047 (by kernel_rfl) (by kernel_rfl) (by kernel_rfl) (fun _ _ _ h => h) (Or.inl ⟨?hw20047, ?hy20047⟩) (by assumption) ?rest20047
        case hi20047 => (simp only [List.getElem?_toArray, List.getElem?_cons_zero, List.getElem?_cons_succ]; rfl)
        case hw20047 => rfl
        case hy20047 => first | (intro wx hSw; go_simp; done) | (intro wx hSw; go_simp; with_reducible rfl)
        simp only [Act.put, List.setIfInBounds_toArray, List.set_cons_zero, List.set_cons_succ]
        refine wpAnyH_take (i := 6) (oi := ?oi20048) (v := ?v20048) ?hi20048 (by kernel_rfl) (by kernel_rfl) (by kernel_rfl) (fun _ _ _ h => h) (Or.inl ⟨?hw20048, ?hy20048⟩) (by assumption) ?rest20048
        case hi20048 => (simp only [List.getElem?_toArray, List.getElem?_cons_zero, List.getElem?_cons_succ]; rfl)
        case hw20048 => rfl
        case hy20048 => first | (intro wx hSw; go_simp; done) | (intro wx hSw; go_simp; with_reducible rfl)
        simp only [Act.put, List.setIfInBounds_toArray, List.set_cons_zero, List.set_cons_succ]
        refine wpAnyH_take (i := 3) (oi := ?oi20049) (v := ?v20049) ?hi20049 (by kernel_rfl) (by kernel_rfl) (by kernel_rfl) (fun _ _ _ h => h) (Or.inl ⟨?hw20049, ?hy20049⟩) (by assumption) ?rest20049
        case hi20049 => (simp only [List.getElem?_toArray, List.getElem?_cons_zero, List.getElem?_cons_succ]; rfl)
        case hw20049 => rfl
        case hy20049 => first | (intro wx hSw; go_simp; done) | (intro wx hSw; go_simp; with_reducible rfl)
        simp only [Act.put, List.setIfInBounds_toArray, List.set_cons_zero, List.set_cons_succ]
        refine wpAnyH_take (i := 7) (oi := ?oi20050) (v := ?v20050) ?hi20050 (by kernel_rfl) (by kernel_rfl) (by kernel_rfl) (fun _ _ _ h => h) (Or.inl ⟨?hw20050, ?hy20050⟩) (by assumption) ?rest20050
        case hi20050 => (simp only [List.getElem?_toArray, List.getElem?_cons_zero, List.getElem?_cons_succ]; rfl)
        case hw20050 => rfl
        case hy20050 => first | (intro wx hSw; go_simp; done) | (intro wx hSw; go_simp; with_reducible rfl)
        simp only [Act.put, List.setIfInBounds_toArray, List.set_cons_zero, List.set_cons_succ]
        refine wpAnyH_take (i := 4) (oi := ?oi20051) (v := ?v20051) ?hi20051 (by kernel_rfl) (by kernel_rfl) (by kernel_rfl) (fun _ _ _ h => h) (Or.inl ⟨?hw20051, ?hy20051⟩) (by assumption) ?rest20051
        case hi20051 => (simp only [List.getElem?_toArray, List.getElem?_cons_zero, List.getElem?_cons_succ]; rfl)
        case hw20051 => rfl
        case hy20051 => first | (intro wx hSw; obtain ⟨xq, q, hqd, hq⟩ := hSw; have c7 := (hq.at s1 _ [] rfl 7 (by decide)).1; simp at c7; rw [hqd] at c7; go_simp; done) | (intro wx hSw; obtain ⟨xq, q, hqd, hq⟩ := hSw; have c7 := (hq.at s1 _ [] rfl 7 (by decide)).1; simp at c7; rw [hqd] at c7; go_simp; with_reducible rfl)
        simp only [Act.put, List.setIfInBounds_toArray, List.set_cons_zero, List.set_cons_succ]
        refine wpAnyH_take (i := 8) (oi := ?oi20052) (v := ?v20052) ?hi20052 (by kernel_rfl) (by kernel_rfl) (by kernel_rfl) (fun _ _ _ h => h) (Or.inl ⟨?hw20052, ?hy20052⟩) (by assumption) ?rest20052
        case hi20052 => (simp only [List.getElem?_toArray, List.getElem?_cons_zero, List.getElem?_cons_succ]; rfl)
        case hw20052 => rfl
        case hy20052 => first | (intro wx hSw; go_simp; done) | (intro wx hSw; go_simp; with_reducible rfl)
        simp only [Act.put, List.setIfInBounds_toArray, List.set_cons_zero, List.set_cons_succ]
        have ha8 := (unhide HPW).at s1 _ [] rfl 9 (by decide)
        rw [show s1.length * 10 + 9 = s1.length * 10 + 8 + 1 by omega] at ha8
        obtain ⟨h8c, h8f⟩ := ha8
        simp at h8c
        have hput := (unhide HPW).put (q' := ⟨pe, pl, 1, pa, r⟩) 9 (by decide) (.int .i64 r) rfl rfl rfl
        rw [show s1.length * 10 + 9 = s1.length * 10 + 8 + 1 by omega] at hput
        refine wpAnyH_ready (rs := [9]) (by kernel_rfl) (by simp) ?_
        refine AllReadyH.cons rfl (fun K20053 hK20053 => ?_) AllReadyH.nil
        go_simp
        refine hK20053.out _ _ ?hs20053 (fun hHeld20053 => ?_)
        case hs20053 => exact ⟨_, ⟨pe, pl, 1, pa, r⟩, rfl, hput⟩
        clear hHeld
        have hHeld := hHeld20053; clear hHeld20053 hK20053 K20053
        refine wpAnyH_done (by kernel_rfl) ?_ _
        refine NoPanic.normal ?_
        refine hrest _ _ ?_
        clear hrest h8c h8f hHeld
        have HPT := hide hput
        obtain ⟨k7, f7⟩ := hput.at s1 _ [] rfl 7 (by decide)
        have hput2 := hput.put (q' := ⟨pe, pl, 2, pa, r⟩) 7 (by decide) (.int .i64 2) rfl rfl rfl
        have HP2 := hide hput2
        clear hput hput2 HPW
        revert k7 f7 HP2
        generalize Wf.setCell _ _ = Wg
        intro k7 f7 HP2
        simp at k7
        go_wp2_with fail
        go_step3
        have hU2 := unhide hU
        have hn2 := unhide hn
        have hrp := unhide HRP
        refine ⟨(Fr.remTop (⟨pe, pl, 2, pa, r⟩ : Fr Int)) + (s1.map Fr.rem).sum, ?_, J36.intro _ (s1 ++ [⟨pe, pl, 2, pa, r⟩]) _ _ rfl (unhide HP2) (.inr ⟨rfl, s1, ⟨pe, pl, 2, pa, r⟩, rfl, fun x hx => unhide hK x (by simp [hx]), ?_, rfl⟩)⟩
        · have e9 : (Fr.remTop (⟨pe, pl, 2, pa, r⟩ : Fr Int)) = Fr.rem (⟨pe, pl, 1, pa, pb⟩ : Fr Int) := hrp
          rw [e9, hn2, List.map_append, List.sum_append]
          simp
          omega
        · rw [List.reverse_append] at hU2
          exact hU2
  · have hne : (er != 0) = true := bne_iff_ne.2 her
    go_wp2_with fail
    have hU2 := unhide hU
    unfold fin at hU2
    rw [if_neg her, up_err 0 f _ _ her] at hU2
    refine bodyPost_ret (v := .tuple #[.int .i64 0, .int .i64 er]) (by simp [results, Try.results36, go_sem]) rfl ⟨?_, (unhide hS6).choose_spec.below⟩
    rw [← hU2]
end Go.Proofs.Ytliefgkhpgigaaa
