/-
  What the statements' function Row returns: a row of values that may be, one for each column.
-/
import Derived.Test.YtliefgkhpgigaaaEVD
import Derived.Test.YtliefgkhpgigaaaH5
namespace Go.Proofs.Ytliefgkhpgigaaa
open Go.RowKit Go.Shelf
set_option linter.unusedSimpArgs false
set_option linter.unusedVariables false

theorem info_v4 : (Try.prog.info? 28).map (fun i => (i.zero, i.size, i.bytes)) = some (some (.agg #[.int .i64 0, .int .i64 0, .int .i64 0, .string ByteArray.empty]), 4, 40) := by kernel_rfl
/-- a list of numbers that came in -/
def IntsP (p : Option Addr) (zs : List Int) (W : World) : Prop := zs.length ≤ maxLen ∧ ∀ i (h : i < zs.length), ∃ a, p = some a ∧ W.cell? (a.add i) = some (.int .i64 zs[i]) ∧ (a.add i).block < W.heap.size ∧ Is64 zs[i]
/-- likewise, as a value -/
def Ints (v : Value) (zs : List Int) (W : World) : Prop := (v = .slice none 0 0 ∧ zs = []) ∨
  ∃ a cap, v = .slice (some a) zs.length cap ∧ zs.length ≤ maxLen ∧ (∀ i (h : i < zs.length), W.cell? (a.add i) = some (.int .i64 zs[i]) ∧ (a.add i).block < W.heap.size ∧ Is64 zs[i])
theorem Ints.parts {v : Value} {zs : List Int} {W : World} (h : Ints v zs W) : ∃ p cap, v = .slice p zs.length cap ∧ IntsP p zs W := by
  rcases h with ⟨rfl, rfl⟩ | ⟨a, cap, rfl, h1, h2⟩
  · exact ⟨none, 0, rfl, by simp, fun i hi => absurd hi (by simp)⟩
  · exact ⟨some a, cap, rfl, h1, fun i hi => ⟨a, rfl, h2 i hi⟩⟩
theorem IntsP.call {p : Option Addr} {zs : List Int} {W W' : World} (h : IntsP p zs W) (hb : Below W.heap.size W W') : IntsP p zs W' := by
  refine ⟨h.1, fun i hi => ?_⟩
  obtain ⟨a, h1, h2, h3, h4⟩ := h.2 i hi
  exact ⟨a, h1, (hb.cell h3).trans h2, Nat.lt_of_lt_of_le h3 hb.size, h4⟩
/-- a value that Make may make -/
def MkV (v : V4) : Prop := Ok v.1 v.2.1 v.2.2.1 v.2.2.2
theorem MkV.ok {v : V4} (h : MkV v) : OkV v := ⟨h.2.2.1, h.2.2.2.1, fun h3 => h.2.2.2.2.2 (by omega), Nat.le_trans h.2.2.2.2.1 (by decide)⟩
theorem mkZ : MkV Z4 := ok_null
theorem rowC_snoc : ∀ (l : List V4) (x : V4), rowC (l ++ [x]) = rowC l ++ vC x
  | [], x => by simp [rowC]
  | y :: l, x => by simp [rowC, rowC_snoc l x]
theorem rowC_len : ∀ l : List V4, (rowC l).length = l.length * 4
  | [] => rfl
  | x :: l => by simp [rowC, rowC_len l]; omega
theorem owns_call4 {B : Nat} {W W' : World} {v : Value} {k n : Nat} {xs : List Value} {T : TypeId} (h : W.ownsRow B T n v k xs) (hb : Below W.heap.size W W') : W'.ownsRow B T n v k xs := by
  refine ⟨h.1, ?_⟩
  rcases h.2 with h0 | ⟨g, cap, cur, hv, hge, hgb, rest⟩
  · exact .inl h0
  · exact .inr ⟨g, cap, cur, hv, hge, (hb.block g (Array.getElem?_eq_some_iff.1 hgb).1).trans hgb, rest⟩
theorem below_rowG {w wr w1 : World} {v : Value} {k n : Nat} {xs : List Value} {T : TypeId} {o : Obj} (hB : Below w.heap.size w wr) (hrow : wr.ownsRow w.heap.size T n v k xs) (hg : (wr.alloc o).grownBy w1 v.ownBlock) : Below w.heap.size w w1 := by
  refine (hB.alloc hB.size o).grown hg (Nat.le_trans hB.size (by simp)) ?_
  intro j e
  rcases hrow.2 with ⟨rfl, _⟩ | ⟨g, cap, cur, rfl, hge, _⟩
  · cases e
  · simp [Value.ownBlock] at e; omega
theorem cells_four_new4 (W : World) (x y z u : Value) (T : TypeId) : ∀ j v, [x, y, z, u][j]? = some v → (W.alloc (.cells #[x, y, z, u] T)).cell? (Addr.add ⟨W.heap.size, 0, none⟩ j) = some v := by
  intro j v h
  have hc := cell_of_row _ W.heap.size j _ _ _ (World.alloc_heap_new W (.cells #[x, y, z, u] T))
  match j, h with
  | 0, h => exact hc.trans h
  | 1, h => exact hc.trans h
  | 2, h => exact hc.trans h
  | 3, h => exact hc.trans h
theorem cells_four_at (W : World) (n : Nat) (hn : W.heap.size = n) (x y z u : Value) (T : TypeId) : ∀ j v, [x, y, z, u][j]? = some v → (W.alloc (.cells #[x, y, z, u] T)).cell? (Addr.add ⟨n, 0, none⟩ j) = some v := hn ▸ cells_four_new4 W x y z u T
/-- a row that is owned lies as a row -/
theorem row_own {B : Nat} {W : World} {v : Value} {l : List V4} (hl : l.length ≤ 1000) (h : W.ownsRow B 28 4 v l.length (rowC l)) (h0 : l ≠ []) : ∃ g cap cur, v = .slice (some ⟨g, 0, none⟩) l.length cap ∧ B ≤ g ∧ W.heap[g]? = some (.cells cur 28 (0, 0)) ∧ (∀ j, j < l.length * 4 → cur[j]? = (rowC l)[j]?) ∧ RowOf (some ⟨g, 0, none⟩) l W := by
  rcases h.2 with ⟨rfl, h1⟩ | ⟨g, cap, cur, rfl, hge, hgb, _, _, _, ht⟩
  · exact absurd (List.length_eq_zero_iff.1 h1) h0
  · have hc : ∀ j, j < l.length * 4 → cur[j]? = (rowC l)[j]? := by
      intro j hj
      rw [← ht, List.getElem?_take_of_lt hj]; simp
    refine ⟨g, cap, cur, rfl, hge, hgb, hc, hl, fun i hi => ⟨g, rfl, (Array.getElem?_eq_some_iff.1 hgb).1, ?_⟩⟩
    obtain ⟨a1, a2, a3, a4⟩ := rowC_at l i hi
    exact ⟨(cell_of_row W g _ cur _ _ hgb).trans ((hc _ (by omega)).trans a1), (cell_of_row W g _ cur _ _ hgb).trans ((hc _ (by omega)).trans a2), (cell_of_row W g _ cur _ _ hgb).trans ((hc _ (by omega)).trans a3), (cell_of_row W g _ cur _ _ hgb).trans ((hc _ (by omega)).trans a4)⟩
/-- what Row returns and leaves -/
def Row4 (n : Nat) (w : World) (e : Ending) (W : World) : Prop := ∃ v, e = .returned v ∧ ∃ l : List V4, l.length = n ∧ (∀ x ∈ l, MkV x) ∧ W.ownsRow (w.heap.size + 1) 28 4 v l.length (rowC l) ∧ Below w.heap.size w W

set_option maxRecDepth 100000 in
set_option maxHeartbeats 8000000 in
theorem row4_any (t0 t2 t3 t4 t5 t6 t7 t8 t9 t10 t11 : Value) (g cap : Nat) (cs : List C3) (p : Option Addr) (ncap : Nat) (zs : List Int) (s : ByteArray) (w : World) (hC : ColsOf (.slice (some ⟨g, 0, none⟩) cs.length cap) cs w) (hty : ∀ i (h : i < cs.length), 0 ≤ cs[i].2.1 ∧ cs[i].2.1 ≤ 5) (hz : IntsP p zs w) (hs : s.size ≤ 100) :
    Calls Try.prog 18 #[.agg #[t0, .slice (some ⟨g, 0, none⟩) cs.length cap, t2, t3, t4, t5, t6, t7, t8, t9, t10, t11], .slice p zs.length ncap, .string s] w (Row4 cs.length w) := by
  obtain ⟨i0, hi, hz0, hz1, hz2⟩ := infoParts info_v4
  obtain ⟨g', cap', hv, hgl, hcl, hca⟩ := hC
  cases hv
  go_enter Try.func18, Try.ntmps18
  go_wp2
  have hbox := Blk.new w #[t0, .slice (some ⟨g, 0, none⟩) cs.length cap, t2, t3, t4, t5, t6, t7, t8, t9, t10, t11] 34
  have hb0 := below_new w (.cells #[t0, .slice (some ⟨g, 0, none⟩) cs.length cap, t2, t3, t4, t5, t6, t7, t8, t9, t10, t11] 34)
  have hsz0 : (w.alloc (.cells #[t0, .slice (some ⟨g, 0, none⟩) cs.length cap, t2, t3, t4, t5, t6, t7, t8, t9, t10, t11] 34)).heap.size = w.heap.size + 1 := by simp
  generalize w.alloc (.cells #[t0, .slice (some ⟨g, 0, none⟩) cs.length cap, t2, t3, t4, t5, t6, t7, t8, t9, t10, t11] 34) = W0 at *
  have HZ := hide hz
  have HT := hide hty
  have HC := hide hca
  have HB0 := hide hb0
  clear hz hty hca hb0
  go_loopw [7, 8] (fun v i wr => ∃ l : List V4, l.length ≤ cs.length ∧ Hid (∀ x ∈ l, MkV x) ∧ i = .int .i64 (l.length : Int) ∧ wr.ownsRow W0.heap.size 28 4 v l.length (rowC l) ∧ Below W0.heap.size W0 wr)
    (fun v i wr => cs.length - (intOf i).toNat)
  case atStart => exact ⟨[], Nat.zero_le _, hide (fun x hx => by cases hx), rfl, World.ownsRow_nil _ _ _ _, Below.refl _ _⟩
  case round =>
    obtain ⟨l, hlc, HOK, rfl, hrow, hB⟩ := hrel
    have hsz := hB.size
    have lbx := hbox.lt
    have hbw := hB.block w.heap.size lbx
    have tb1 : wr.cell? ⟨w.heap.size, 1, none⟩ = some (.slice (some ⟨g, 0, none⟩) cs.length cap) := (hB.cell (p := ⟨w.heap.size, 1, none⟩) lbx).trans (hbox.cell 1)
    have hw8 : IntKind.i64.wrap ((l.length : Int) + 1) = (l.length : Int) + 1 := IntWalk.i64_in _ (by omega)
    by_cases hk : l.length < cs.length
    · have hki : (l.length : Int) < cs.length := by omega
      have hgw : Below w.heap.size w wr := (unhide HB0).trans (hB.mono (unhide HB0).size)
      have ct : wr.cell? ⟨g, l.length * 3 + 1, none⟩ = some (.int .i64 cs[l.length].2.1) := (hgw.cell (p := ⟨g, l.length * 3 + 1, none⟩) hgl).trans (unhide HC l.length hk).2.1
      obtain ⟨ty0, ty5⟩ := unhide HT l.length hk
      generalize cs[l.length].2.1 = ty at ct ty0 ty5
      by_cases hn : l.length < zs.length
      · have hni : (l.length : Int) < zs.length := by omega
        obtain ⟨a, rfl, hc, hblk, hi64⟩ := (unhide HZ).2 l.length hn
        have hcr : wr.cell? (a.add l.length) = some (.int .i64 zs[l.length]) := (hgw.cell hblk).trans hc
        have hzl := (unhide HZ).1
        generalize zs[l.length] = z at *
        obtain ⟨m, hm⟩ : ∃ m, m = z % 1099511627776 := ⟨_, rfl⟩
        have WI := hide (fun W => (hm ▸ within4_any z 1099511627776 W hi64 (by decide) : Calls Try.prog 29 #[.int .i64 z, .int .i64 1099511627776] W fun e W' => e = .returned (.int .i64 m) ∧ W' = W))
        have hm0 : 0 ≤ m ∧ m < 1099511627776 := by omega
        clear hm hc hi64
        have e1 : IntKind.i64.wrap (m / 7) = m / 7 := IntWalk.i64_in _ (by omega)
        have e3 : IntKind.i64.wrap (6 * (m / 7 % 30)) = 6 * (m / 7 % 30) := IntWalk.i64_in _ (by omega)
        have e4 : IntKind.i64.wrap (ty + 6 * (m / 7 % 30)) = ty + 6 * (m / 7 % 30) := IntWalk.i64_in _ (by omega)
        have e5 : IntKind.i64.wrap (m / 50) = m / 50 := IntWalk.i64_in _ (by omega)
        have e6 : IntKind.i64.wrap (m / 50 % 200 - 100) = m / 50 % 200 - 100 := IntWalk.i64_in _ (by omega)
        have MK := hide (fun W => make_any (ty + 6 * (m / 7 % 30)) (m / 50 % 200 - 100) s W (by unfold Is64; omega) (by unfold Is64; omega) (by omega))
        by_cases h7 : 0 < m % 7
        · go_wp2_with fail
          refine (unhide WI _).mono ?_
          rintro e wq ⟨rfl, rfl⟩
          have lw : w.heap.size < wq.heap.size := by omega
          have lg : g < wq.heap.size := Nat.lt_of_lt_of_le hgl hgw.size
          have bz := below_new wq (.cells #[.int .i64 0, .int .i64 0, .int .i64 0, .string ⟨#[]⟩] 28)
          have tb2 : (wq.alloc (.cells #[.int .i64 0, .int .i64 0, .int .i64 0, .string ⟨#[]⟩] 28)).cell? ⟨w.heap.size, 1, none⟩ = some (.slice (some ⟨g, 0, none⟩) cs.length cap) := (bz.cell (p := ⟨w.heap.size, 1, none⟩) lw).trans tb1
          have ct2 : (wq.alloc (.cells #[.int .i64 0, .int .i64 0, .int .i64 0, .string ⟨#[]⟩] 28)).cell? ⟨g, l.length * 3 + 1, none⟩ = some (.int .i64 ty) := (bz.cell (p := ⟨g, l.length * 3 + 1, none⟩) lg).trans ct
          go_wp2_with fail
          refine (unhide MK _).mono ?_
          rintro e w2 ⟨⟨n1, sc1, s1, ok, rfl⟩, hb2⟩
          generalize (ty + 6 * (m / 7 % 30)) % 6 = kd at *
          have hbx := (Blk.new wq #[.int .i64 0, .int .i64 0, .int .i64 0, .string ⟨#[]⟩] 28).call hb2
          have lbz := hbx.lt
          have z0 := hbx.cell 0
          have z1 := hbx.cell 1
          have z2 := hbx.cell 2
          have z3 := hbx.cell 3
          have f0 := hbx.froz 0
          have f1 := hbx.froz 1
          have f2 := hbx.froz 2
          have f3 := hbx.froz 3
          simp at z0 z1 z2 z3
          have RE : Blk wq.heap.size #[.int .i64 kd, .int .i64 n1, .int .i64 sc1, .string s1] 28 ((((w2.setCell ⟨wq.heap.size, 0, none⟩ (.int .i64 kd)).setCell ⟨wq.heap.size, 1, none⟩ (.int .i64 n1)).setCell ⟨wq.heap.size, 2, none⟩ (.int .i64 sc1)).setCell ⟨wq.heap.size, 3, none⟩ (.string s1)) := heapSet4 hbx (.int .i64 kd) (.int .i64 n1) (.int .i64 sc1) (.string s1)
          have r0 := RE.cell 0
          have r1 := RE.cell 1
          have r2 := RE.cell 2
          have r3 := RE.cell 3
          simp at r0 r1 r2 r3
          have bw2 : Below wq.heap.size wq w2 := bz.trans (hb2.mono bz.size)
          have bw3 : Below wq.heap.size wq ((((w2.setCell ⟨wq.heap.size, 0, none⟩ (.int .i64 kd)).setCell ⟨wq.heap.size, 1, none⟩ (.int .i64 n1)).setCell ⟨wq.heap.size, 2, none⟩ (.int .i64 sc1)).setCell ⟨wq.heap.size, 3, none⟩ (.string s1)) := (((bw2.setCell (p := ⟨wq.heap.size, 0, none⟩) (Nat.le_refl _) _).setCell (p := ⟨wq.heap.size, 1, none⟩) (Nat.le_refl _) _).setCell (p := ⟨wq.heap.size, 2, none⟩) (Nat.le_refl _) _).setCell (p := ⟨wq.heap.size, 3, none⟩) (Nat.le_refl _) _
          have row3 := owns_call4 hrow bw3
          have hB3 := hB.trans (bw3.mono hsz)
          have lB3 := hB3.size
          have HN := hide ok
          clear hb2 bz RE bw2 bw3 hbx MK ok
          go_wp2_with (at_builtin; refine wpList_append_lies _ rfl _ _ 42 rfl W0.heap.size 28 i0 _ 4 40 Try.underlying42 hi hz0 hz1 hz2 rfl (by decide) u7 _ _ rfl (row3.alloc _) ⟨w2.heap.size, 0, none⟩ 1 1 [.int .i64 kd, .int .i64 n1, .int .i64 sc1, .string s1] rfl rfl (cells_four_at ((((w2.setCell ⟨wq.heap.size, 0, none⟩ (.int .i64 kd)).setCell ⟨wq.heap.size, 1, none⟩ (.int .i64 n1)).setCell ⟨wq.heap.size, 2, none⟩ (.int .i64 sc1)).setCell ⟨wq.heap.size, 3, none⟩ (.string s1)) _ (by simp) _ _ _ _ _) (by simp [Value.oneCell']) (by decide) (by unfold maxLen; omega) (by omega) (by simp; omega) _ rfl ?_; intro g2 cp2 w4 hown4 hgrow4 hat4 _)
          refine ⟨⟨l ++ [(kd, n1, sc1, s1)], by simp; omega, ?_, by simp, ?_, below_rowG hB3 row3 hgrow4⟩, by simp [intOf]; omega⟩
          · refine hide (fun x hx => ?_)
            rcases List.mem_append.1 hx with hx | hx
            · exact unhide HOK x hx
            · simp at hx; subst hx; exact unhide HN
          · rw [rowC_snoc]; simpa using hown4
        · go_wp2_with fail
          refine (unhide WI _).mono ?_
          rintro e wq ⟨rfl, rfl⟩
          have bz := below_new wq (.cells #[.int .i64 0, .int .i64 0, .int .i64 0, .string ⟨#[]⟩] 28)
          have row2 := owns_call4 hrow bz
          have hB2 := hB.trans (bz.mono hsz)
          have lB2 := hB2.size
          clear bz
          go_wp2_with (at_builtin; refine wpList_append_lies _ rfl _ _ 42 rfl W0.heap.size 28 i0 _ 4 40 Try.underlying42 hi hz0 hz1 hz2 rfl (by decide) u7 _ _ rfl (row2.alloc _) ⟨wq.heap.size + 1, 0, none⟩ 1 1 [.int .i64 0, .int .i64 0, .int .i64 0, .string ⟨#[]⟩] rfl rfl (cells_four_at (wq.alloc (.cells #[.int .i64 0, .int .i64 0, .int .i64 0, .string ⟨#[]⟩] 28)) _ (by simp) _ _ _ _ _) (by simp [Value.oneCell']) (by decide) (by unfold maxLen; omega) (by omega) (by simp; omega) _ rfl ?_; intro g2 cp2 w4 hown4 hgrow4 hat4 _)
          refine ⟨⟨l ++ [Z4], by simp; omega, ?_, by simp, ?_, below_rowG hB2 row2 hgrow4⟩, by simp [intOf]; omega⟩
          · refine hide (fun x hx => ?_)
            rcases List.mem_append.1 hx with hx | hx
            · exact unhide HOK x hx
            · simp at hx; subst hx; exact mkZ
          · rw [rowC_snoc]; simpa using hown4
      · have hni : ¬ (l.length : Int) < zs.length := by omega
        have hm0 : 0 ≤ (l.length : Int) ∧ (l.length : Int) < 1099511627776 := by omega
        have e1 : IntKind.i64.wrap ((l.length : Int) / 7) = (l.length : Int) / 7 := IntWalk.i64_in _ (by omega)
        have e3 : IntKind.i64.wrap (6 * ((l.length : Int) / 7 % 30)) = 6 * ((l.length : Int) / 7 % 30) := IntWalk.i64_in _ (by omega)
        have e4 : IntKind.i64.wrap (ty + 6 * ((l.length : Int) / 7 % 30)) = ty + 6 * ((l.length : Int) / 7 % 30) := IntWalk.i64_in _ (by omega)
        have e5 : IntKind.i64.wrap ((l.length : Int) / 50) = (l.length : Int) / 50 := IntWalk.i64_in _ (by omega)
        have e6 : IntKind.i64.wrap ((l.length : Int) / 50 % 200 - 100) = (l.length : Int) / 50 % 200 - 100 := IntWalk.i64_in _ (by omega)
        have MK := hide (fun W => make_any (ty + 6 * ((l.length : Int) / 7 % 30)) ((l.length : Int) / 50 % 200 - 100) s W (by unfold Is64; omega) (by unfold Is64; omega) (by omega))
        by_cases h7 : 0 < (l.length : Int) % 7
        · have lw : w.heap.size < wr.heap.size := by omega
          have lg : g < wr.heap.size := Nat.lt_of_lt_of_le hgl hgw.size
          have bz := below_new wr (.cells #[.int .i64 0, .int .i64 0, .int .i64 0, .string ⟨#[]⟩] 28)
          have tb2 : (wr.alloc (.cells #[.int .i64 0, .int .i64 0, .int .i64 0, .string ⟨#[]⟩] 28)).cell? ⟨w.heap.size, 1, none⟩ = some (.slice (some ⟨g, 0, none⟩) cs.length cap) := (bz.cell (p := ⟨w.heap.size, 1, none⟩) lw).trans tb1
          have ct2 : (wr.alloc (.cells #[.int .i64 0, .int .i64 0, .int .i64 0, .string ⟨#[]⟩] 28)).cell? ⟨g, l.length * 3 + 1, none⟩ = some (.int .i64 ty) := (bz.cell (p := ⟨g, l.length * 3 + 1, none⟩) lg).trans ct
          go_wp2_with fail
          refine (unhide MK _).mono ?_
          rintro e w2 ⟨⟨n1, sc1, s1, ok, rfl⟩, hb2⟩
          generalize (ty + 6 * ((l.length : Int) / 7 % 30)) % 6 = kd at *
          have hbx := (Blk.new wr #[.int .i64 0, .int .i64 0, .int .i64 0, .string ⟨#[]⟩] 28).call hb2
          have lbz := hbx.lt
          have z0 := hbx.cell 0
          have z1 := hbx.cell 1
          have z2 := hbx.cell 2
          have z3 := hbx.cell 3
          have f0 := hbx.froz 0
          have f1 := hbx.froz 1
          have f2 := hbx.froz 2
          have f3 := hbx.froz 3
          simp at z0 z1 z2 z3
          have RE : Blk wr.heap.size #[.int .i64 kd, .int .i64 n1, .int .i64 sc1, .string s1] 28 ((((w2.setCell ⟨wr.heap.size, 0, none⟩ (.int .i64 kd)).setCell ⟨wr.heap.size, 1, none⟩ (.int .i64 n1)).setCell ⟨wr.heap.size, 2, none⟩ (.int .i64 sc1)).setCell ⟨wr.heap.size, 3, none⟩ (.string s1)) := heapSet4 hbx (.int .i64 kd) (.int .i64 n1) (.int .i64 sc1) (.string s1)
          have r0 := RE.cell 0
          have r1 := RE.cell 1
          have r2 := RE.cell 2
          have r3 := RE.cell 3
          simp at r0 r1 r2 r3
          have bw2 : Below wr.heap.size wr w2 := bz.trans (hb2.mono bz.size)
          have bw3 : Below wr.heap.size wr ((((w2.setCell ⟨wr.heap.size, 0, none⟩ (.int .i64 kd)).setCell ⟨wr.heap.size, 1, none⟩ (.int .i64 n1)).setCell ⟨wr.heap.size, 2, none⟩ (.int .i64 sc1)).setCell ⟨wr.heap.size, 3, none⟩ (.string s1)) := (((bw2.setCell (p := ⟨wr.heap.size, 0, none⟩) (Nat.le_refl _) _).setCell (p := ⟨wr.heap.size, 1, none⟩) (Nat.le_refl _) _).setCell (p := ⟨wr.heap.size, 2, none⟩) (Nat.le_refl _) _).setCell (p := ⟨wr.heap.size, 3, none⟩) (Nat.le_refl _) _
          have row3 := owns_call4 hrow bw3
          have hB3 := hB.trans (bw3.mono hsz)
          have lB3 := hB3.size
          have HN := hide ok
          clear hb2 bz RE bw2 bw3 hbx MK ok
          go_wp2_with (at_builtin; refine wpList_append_lies _ rfl _ _ 42 rfl W0.heap.size 28 i0 _ 4 40 Try.underlying42 hi hz0 hz1 hz2 rfl (by decide) u7 _ _ rfl (row3.alloc _) ⟨w2.heap.size, 0, none⟩ 1 1 [.int .i64 kd, .int .i64 n1, .int .i64 sc1, .string s1] rfl rfl (cells_four_at ((((w2.setCell ⟨wr.heap.size, 0, none⟩ (.int .i64 kd)).setCell ⟨wr.heap.size, 1, none⟩ (.int .i64 n1)).setCell ⟨wr.heap.size, 2, none⟩ (.int .i64 sc1)).setCell ⟨wr.heap.size, 3, none⟩ (.string s1)) _ (by simp) _ _ _ _ _) (by simp [Value.oneCell']) (by decide) (by unfold maxLen; omega) (by omega) (by simp; omega) _ rfl ?_; intro g2 cp2 w4 hown4 hgrow4 hat4 _)
          refine ⟨⟨l ++ [(kd, n1, sc1, s1)], by simp; omega, ?_, by simp, ?_, below_rowG hB3 row3 hgrow4⟩, by simp [intOf]; omega⟩
          · refine hide (fun x hx => ?_)
            rcases List.mem_append.1 hx with hx | hx
            · exact unhide HOK x hx
            · simp at hx; subst hx; exact unhide HN
          · rw [rowC_snoc]; simpa using hown4
        · have bz := below_new wr (.cells #[.int .i64 0, .int .i64 0, .int .i64 0, .string ⟨#[]⟩] 28)
          have row2 := owns_call4 hrow bz
          have hB2 := hB.trans (bz.mono hsz)
          have lB2 := hB2.size
          clear bz
          go_wp2_with (at_builtin; refine wpList_append_lies _ rfl _ _ 42 rfl W0.heap.size 28 i0 _ 4 40 Try.underlying42 hi hz0 hz1 hz2 rfl (by decide) u7 _ _ rfl (row2.alloc _) ⟨wr.heap.size + 1, 0, none⟩ 1 1 [.int .i64 0, .int .i64 0, .int .i64 0, .string ⟨#[]⟩] rfl rfl (cells_four_at (wr.alloc (.cells #[.int .i64 0, .int .i64 0, .int .i64 0, .string ⟨#[]⟩] 28)) _ (by simp) _ _ _ _ _) (by simp [Value.oneCell']) (by decide) (by unfold maxLen; omega) (by omega) (by simp; omega) _ rfl ?_; intro g2 cp2 w4 hown4 hgrow4 hat4 _)
          refine ⟨⟨l ++ [Z4], by simp; omega, ?_, by simp, ?_, below_rowG hB2 row2 hgrow4⟩, by simp [intOf]; omega⟩
          · refine hide (fun x hx => ?_)
            rcases List.mem_append.1 hx with hx | hx
            · exact unhide HOK x hx
            · simp at hx; subst hx; exact mkZ
          · rw [rowC_snoc]; simpa using hown4
    · have hki : ¬ (l.length : Int) < cs.length := by omega
      go_wp2_with fail
      go_ret
      have hle : l.length = cs.length := by omega
      refine ⟨_, rfl, l, hle, unhide HOK, ?_, (unhide HB0).trans (hB.mono (unhide HB0).size)⟩
      rw [← hsz0]
      exact hrow
end Go.Proofs.Ytliefgkhpgigaaa
