/-
  What the statements' function Row returns: a list of values that may be, ten at most.
-/
import Derived.Test.YtbpjejjbgdikdaaT3
import Derived.Test.YtbpjejjbgdikdaaT4
import Derived.Test.YtbpjejjbgdikdaaS16
namespace Go.Proofs.Ytbpjejjbgdikdaa
open Go.RowKit Go.Shelf
set_option linter.unusedSimpArgs false
set_option linter.unusedVariables false

/-- a list of numbers that came in -/
def Ints (v : Value) (zs : List Int) (W : World) : Prop := (v = .slice none 0 0 ∧ zs = []) ∨
  ∃ a cap, v = .slice (some a) zs.length cap ∧ zs.length ≤ maxLen ∧ (∀ i (h : i < zs.length), W.cell? (a.add i) = some (.int .i64 zs[i]) ∧ (a.add i).block < W.heap.size ∧ Is64 zs[i])
def cellsL (l : List VV) : List Value := l.flatMap cellsV
theorem cellsL_snoc (l : List VV) (x : VV) : cellsL (l ++ [x]) = cellsL l ++ cellsV x := by simp [cellsL]
theorem cellsL_len (l : List VV) : (cellsL l).length = l.length * 4 := by
  induction l with
  | nil => rfl
  | cons x l ih => simp [cellsL] at ih ⊢; omega
theorem cellsL_at : ∀ (l : List VV) (i : Nat) (h : i < l.length), (cellsL l)[i * 4]? = some (.int .i64 l[i].1) ∧ (cellsL l)[i * 4 + 1]? = some (.int .i64 l[i].2.1) ∧ (cellsL l)[i * 4 + 2]? = some (.int .i64 l[i].2.2.1) ∧ (cellsL l)[i * 4 + 3]? = some (.string l[i].2.2.2)
  | x :: l, 0, _ => ⟨rfl, rfl, rfl, rfl⟩
  | x :: l, i + 1, h => by
    have ih := cellsL_at l i (by simpa using h)
    have e : cellsL (x :: l) = cellsV x ++ cellsL l := rfl
    have hl : (cellsV x).length = 4 := rfl
    rw [e]
    refine ⟨?_, ?_, ?_, ?_⟩
    · rw [List.getElem?_append_right (by rw [hl]; omega), hl, show (i + 1) * 4 - 4 = i * 4 by omega]; exact ih.1
    · rw [List.getElem?_append_right (by rw [hl]; omega), hl, show (i + 1) * 4 + 1 - 4 = i * 4 + 1 by omega]; exact ih.2.1
    · rw [List.getElem?_append_right (by rw [hl]; omega), hl, show (i + 1) * 4 + 2 - 4 = i * 4 + 2 by omega]; exact ih.2.2.1
    · rw [List.getElem?_append_right (by rw [hl]; omega), hl, show (i + 1) * 4 + 3 - 4 = i * 4 + 3 by omega]; exact ih.2.2.2
/-- a row of values lies as a slice of them -/
theorem sliceOf_row {W : World} {B : Nat} {v : Value} {l : List VV} (h : W.ownsRow B 24 4 v l.length (cellsL l)) : SliceOf v l W := by
  rcases h.2 with ⟨rfl, h0⟩ | ⟨g, cap, cur, rfl, _, hgb, _, _, _, ht⟩
  · exact .inl ⟨rfl, List.length_eq_zero_iff.1 h0⟩
  · refine .inr ⟨g, cap, rfl, (Array.getElem?_eq_some_iff.1 hgb).1, fun i hi => ?_⟩
    have hc : ∀ j, j < l.length * 4 → W.cell? ⟨g, j, none⟩ = (cellsL l)[j]? := by
      intro j hj
      rw [cell_of_row W g j cur _ _ hgb, ← ht, List.getElem?_take_of_lt hj]; simp
    obtain ⟨a1, a2, a3, a4⟩ := cellsL_at l i hi
    exact ⟨(hc _ (by omega)).trans a1, (hc _ (by omega)).trans a2, (hc _ (by omega)).trans a3, (hc _ (by omega)).trans a4⟩
/-- a row's growth, held from below -/
theorem below_row4 {w wr w1 : World} {v : Value} {k n : Nat} {xs : List Value} {T : TypeId} {o : Obj} (hB : Below w.heap.size w wr) (hrow : wr.ownsRow w.heap.size T n v k xs) (hg : (wr.alloc o).grownBy w1 v.ownBlock) : Below w.heap.size w w1 := by
  refine (hB.alloc hB.size o).grown hg (Nat.le_trans hB.size (by simp)) ?_
  intro j e
  rcases hrow.2 with ⟨rfl, _⟩ | ⟨g, cap, cur, rfl, hge, _⟩
  · cases e
  · simp [Value.ownBlock] at e; omega
theorem owns_call {w W W' : World} {v : Value} {k n : Nat} {xs : List Value} {T : TypeId} (h : W.ownsRow w.heap.size T n v k xs) (hb : Below W.heap.size W W') : W'.ownsRow w.heap.size T n v k xs := by
  refine ⟨h.1, ?_⟩
  rcases h.2 with h0 | ⟨g, cap, cur, hv, hge, hgb, rest⟩
  · exact .inl h0
  · exact .inr ⟨g, cap, cur, hv, hge, (hb.block g (Array.getElem?_eq_some_iff.1 hgb).1).trans hgb, rest⟩
theorem cells_four_new (W : World) (x y z u : Value) (T : TypeId) : ∀ j v, [x, y, z, u][j]? = some v → (W.alloc (.cells #[x, y, z, u] T)).cell? (Addr.add ⟨W.heap.size, 0, none⟩ j) = some v := by
  intro j v h
  have hc := cell_of_row _ W.heap.size j _ _ _ (World.alloc_heap_new W (.cells #[x, y, z, u] T))
  match j, h with
  | 0, h => exact hc.trans h
  | 1, h => exact hc.trans h
  | 2, h => exact hc.trans h
  | 3, h => exact hc.trans h

/-- what Row returns and leaves -/
def LRow (w : World) (e : Ending) (W : World) : Prop := ∃ v, e = .returned v ∧ ∃ l : List VV, l.length ≤ 10 ∧ (∀ x ∈ l, VOk x) ∧ SliceOf v l W ∧ Below w.heap.size w W

set_option maxRecDepth 100000 in
set_option maxHeartbeats 2000000 in
theorem lrow_some (a : Addr) (cap : Nat) (zs : List Int) (s : ByteArray) (w : World) (hs : s.size ≤ 100) (hzl : zs.length ≤ maxLen) (hz : ∀ i (h : i < zs.length), w.cell? (a.add i) = some (.int .i64 zs[i]) ∧ (a.add i).block < w.heap.size ∧ Is64 zs[i]) :
    Calls Try.prog 19 #[.slice (some a) zs.length cap, .string s] w (LRow w) := by
  obtain ⟨i0, hi, hz0, hz1, hz2⟩ := info_parts info_val
  go_enter Try.func19, Try.ntmps19
  go_wp2
  go_loopw [5, 6] (fun v i wr => ∃ l : List VV, l.length ≤ 10 ∧ (∀ x ∈ l, VOk x) ∧ i = .int .i64 (l.length : Int) ∧ wr.ownsRow w.heap.size 24 4 v l.length (cellsL l) ∧ Below w.heap.size w wr)
    (fun v i wr => 10 - (intOf i).toNat)
  case atStart => exact ⟨[], by decide, (fun x hx => by cases hx), rfl, World.ownsRow_nil _ _ _ _, Below.refl _ _⟩
  case round =>
    obtain ⟨l, hl10, hok, rfl, hrow, hB⟩ := hrel
    have hsz := hB.size
    have HOK := hide hok
    clear hok
    by_cases hk : l.length < zs.length
    · have hki : (l.length : Int) < zs.length := by omega
      by_cases h10 : l.length < 10
      · have h10i : (l.length : Int) < 10 := by omega
        obtain ⟨hc, hblk, hi64⟩ := hz l.length hk
        have hcr : wr.cell? (a.add l.length) = some (.int .i64 zs[l.length]) := (hB.cell hblk).trans hc
        generalize zs[l.length] = z at *
        obtain ⟨m, hm⟩ : ∃ m, m = z % 1099511627776 := ⟨_, rfl⟩
        have WI := hide (fun W => within2_at hi64 (by decide) hm.symm W)
        have hm0 : 0 ≤ m ∧ m < 1099511627776 := by omega
        have hn1 := Int.emod_nonneg m (show ((s.size : Int) + 1) ≠ 0 by omega)
        have hn2 := Int.emod_lt_of_pos m (show 0 < ((s.size : Int) + 1) by omega)
        obtain ⟨j, hj⟩ : ∃ j : Nat, (j : Int) = m % ((s.size : Int) + 1) := ⟨(m % ((s.size : Int) + 1)).toNat, by omega⟩
        have hjs : j ≤ s.size := by omega
        have WJ := hide (fun W => within2_at (x := m) (n := (s.size : Int) + 1) (by unfold Is64; omega) (by omega) hj.symm W)
        have e0 : m.tdiv 300 = m / 300 := Int.tdiv_eq_ediv_of_nonneg (by omega)
        have hq : 0 ≤ m.tdiv 300 ∧ m.tdiv 300 < 10000000000 := by omega
        have e1 : IntKind.i64.wrap (m.tdiv 300) = m.tdiv 300 := IntWalk.i64_in _ (by omega)
        have e2 : IntKind.i64.wrap (m.tdiv 300 - 5000) = m.tdiv 300 - 5000 := IntWalk.i64_in _ (by omega)
        have MK := hide (fun W => make_any m (m.tdiv 300 - 5000) (s.extract 0 j) W (by unfold Is64; omega) (by unfold Is64; omega) (by rw [ByteArray.size_extract]; omega))
        clear hz hc hm hj e0 hi64 hn1 hn2
        go_wp2_with fail
        refine (unhide WI _).mono ?_
        rintro e wq1 ⟨rfl, rfl⟩
        go_wp2_with fail
        refine (unhide WJ _).mono ?_
        rintro e wq2 ⟨rfl, rfl⟩
        go_wp2_with fail
        refine (unhide MK _).mono ?_
        rintro e w2 ⟨⟨n, sc, t, ok, rfl⟩, hb2⟩
        have HN := hide ok
        have hrow2 := owns_call hrow hb2
        have hB2 := hB.trans (hb2.mono hsz)
        have hsz2 := hB2.size
        clear ok hb2 hrow
        generalize m % 6 = kd at *
        go_wp2_with (at_builtin; refine wpList_append_lies _ rfl _ _ 31 rfl w.heap.size 24 i0 _ 4 40 Try.underlying31 hi hz0 hz1 hz2 rfl (by decide) u5 _ _ rfl (hrow2.alloc _) ⟨w2.heap.size, 0, none⟩ 1 1 [.int .i64 kd, .int .i64 n, .int .i64 sc, .string t] rfl rfl (cells_four_new w2 _ _ _ _ _) (by simp [Value.oneCell']) (by decide) (by unfold maxLen; omega) (by omega) (by simp; omega) _ rfl ?_; intro g cp w3 hown3 hgrow3 hat3 _)
        refine ⟨⟨l ++ [(kd, n, sc, t)], by simp; omega, ?_, by simp, ?_, below_row4 hB2 hrow2 hgrow3⟩, by simp [intOf]; omega⟩
        · intro x hx
          rcases List.mem_append.1 hx with hx | hx
          · exact unhide HOK x hx
          · simp at hx; subst hx; exact unhide HN
        · rw [cellsL_snoc]; simpa using hown3
      · have h10i : ¬ (l.length : Int) < 10 := by omega
        go_wp2_with fail
        go_ret
        exact ⟨_, rfl, l, hl10, unhide HOK, sliceOf_row hrow, hB⟩
    · have hki : ¬ (l.length : Int) < zs.length := by omega
      go_wp2_with fail
      go_ret
      exact ⟨_, rfl, l, hl10, unhide HOK, sliceOf_row hrow, hB⟩

set_option maxHeartbeats 1000000 in
theorem lrow_nil (s : ByteArray) (w : World) :
    Calls Try.prog 19 #[.slice none 0 0, .string s] w (LRow w) := by
  go_enter Try.func19, Try.ntmps19
  go_wp2
  go_loopw [5, 6] (fun v i wr => v = .slice none 0 0 ∧ i = .int .i64 0 ∧ wr = w) (fun v i wr => 10 - (intOf i).toNat)
  case atStart => exact ⟨rfl, rfl, rfl⟩
  case round =>
    obtain ⟨rfl, rfl, rfl⟩ := hrel
    go_wp2_with fail
    go_ret
    exact ⟨_, rfl, [], by decide, (fun x hx => by cases hx), .inl ⟨rfl, rfl⟩, Below.refl _ _⟩
theorem lrow_any (v : Value) (zs : List Int) (s : ByteArray) (w : World) (hs : s.size ≤ 100) (h : Ints v zs w) :
    Calls Try.prog 19 #[v, .string s] w (LRow w) := by
  rcases h with ⟨rfl, rfl⟩ | ⟨a, cap, rfl, h1, h2⟩
  · exact lrow_nil s w
  · exact lrow_some a cap zs s w hs h1 h2
theorem ints_call {v : Value} {zs : List Int} {W W' : World} (h : Ints v zs W) (hb : Below W.heap.size W W') : Ints v zs W' := by
  rcases h with h | ⟨a, cap, rfl, h1, h2⟩
  · exact .inl h
  · exact .inr ⟨a, cap, rfl, h1, fun i hi => ⟨(hb.cell (h2 i hi).2.1).trans (h2 i hi).1, Nat.lt_of_lt_of_le (h2 i hi).2.1 hb.size, (h2 i hi).2.2⟩⟩
theorem sliceOf_call {v : Value} {l : List VV} {W W' : World} (h : SliceOf v l W) (hb : Below W.heap.size W W') : SliceOf v l W' := by
  rcases h with h | ⟨g, cap, rfl, h1, h2⟩
  · exact .inl h
  · refine .inr ⟨g, cap, rfl, Nat.lt_of_lt_of_le h1 hb.size, fun i hi => ?_⟩
    have h := h2 i hi
    exact ⟨(hb.cell (p := ⟨g, i * 4, none⟩) h1).trans h.1, (hb.cell (p := ⟨g, i * 4 + 1, none⟩) h1).trans h.2.1, (hb.cell (p := ⟨g, i * 4 + 2, none⟩) h1).trans h.2.2.1, (hb.cell (p := ⟨g, i * 4 + 3, none⟩) h1).trans h.2.2.2⟩
end Go.Proofs.Ytbpjejjbgdikdaa
