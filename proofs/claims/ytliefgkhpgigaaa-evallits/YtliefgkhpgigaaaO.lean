/-
  What val.Order returns, for every two values whose scales are 0 to 6.
-/
import Derived.Test.YtliefgkhpgigaaaB
import Derived.Test.YtliefgkhpgigaaaF
import Derived.Deep.RegionHeld3
import Derived.Deep.DrawnRows
import Derived.Laws.EntriesVeiled
import Derived.LoopN
namespace Go.Proofs.Ytliefgkhpgigaaa
open Go.RowKit
set_option linter.unusedSimpArgs false
set_option linter.unusedVariables false
attribute [local go_sem ↓] Go.wp_at_zero Go.wp_at_succ

def wholeN (n s : Int) : Int := n.tdiv (pw s)
def millN (n s : Int) : Int := wrap64 (n.tmod (pw s) * pw (6 - s))
def ordV (k n s : Int) (t : ByteArray) (k' n' s' : Int) (t' : ByteArray) : Int :=
  if cmpI k k' ≠ 0 then cmpI k k' else if cmpI (wholeN n s) (wholeN n' s') ≠ 0 then cmpI (wholeN n s) (wholeN n' s') else
  if cmpI (millN n s) (millN n' s') ≠ 0 then cmpI (millN n s) (millN n' s') else cmpS t t'

theorem whole_c (k n s : Int) (t : ByteArray) (w : World) (hn : Is64 n) :
    Calls Try.prog 101 #[V k n s t] w fun e w' => e = .returned (.int .i64 (wholeN n s)) ∧ Below w.heap.size w w' := whole_any k n s t w hn
theorem mill_c (k n s : Int) (t : ByteArray) (w : World) (hs : 0 ≤ s ∧ s ≤ 6) :
    Calls Try.prog 102 #[V k n s t] w fun e w' => e = .returned (.int .i64 (millN n s)) ∧ Below w.heap.size w w' := millionths_any k n s t w hs

def Sx (w : World) (c0 c1 c2 c3 c4 c5 c6 c7 : Value) (W : World) : Prop := Below w.heap.size w W ∧ w.heap.size + 2 ≤ W.heap.size ∧
      W.cell? ⟨w.heap.size, 0, none⟩ = some c0 ∧ W.cell? ⟨w.heap.size, 1, none⟩ = some c1 ∧ W.cell? ⟨w.heap.size, 2, none⟩ = some c2 ∧ W.cell? ⟨w.heap.size, 3, none⟩ = some c3 ∧ W.cell? ⟨w.heap.size + 1, 0, none⟩ = some c4 ∧ W.cell? ⟨w.heap.size + 1, 1, none⟩ = some c5 ∧ W.cell? ⟨w.heap.size + 1, 2, none⟩ = some c6 ∧ W.cell? ⟨w.heap.size + 1, 3, none⟩ = some c7
theorem sx_below {w W w1 : World} {B : Nat} {c0 c1 c2 c3 c4 c5 c6 c7 : Value} (h : Sx w c0 c1 c2 c3 c4 c5 c6 c7 W) (hB : w.heap.size + 2 ≤ B) (hb : Below B W w1) :
    Sx w c0 c1 c2 c3 c4 c5 c6 c7 w1 := by
  obtain ⟨h0, h1, d0, d1, d2, d3, d4, d5, d6, d7⟩ := h
  refine ⟨h0.trans (hb.mono (by omega)), by have := hb.size; omega, ?_, ?_, ?_, ?_, ?_, ?_, ?_, ?_⟩
  · rw [hb.cell (by show w.heap.size < _; omega)]; exact d0
  · rw [hb.cell (by show w.heap.size < _; omega)]; exact d1
  · rw [hb.cell (by show w.heap.size < _; omega)]; exact d2
  · rw [hb.cell (by show w.heap.size < _; omega)]; exact d3
  · rw [hb.cell (by show w.heap.size + 1 < _; omega)]; exact d4
  · rw [hb.cell (by show w.heap.size + 1 < _; omega)]; exact d5
  · rw [hb.cell (by show w.heap.size + 1 < _; omega)]; exact d6
  · rw [hb.cell (by show w.heap.size + 1 < _; omega)]; exact d7
theorem sx_call {w W w1 : World} {c0 c1 c2 c3 c4 c5 c6 c7 : Value} (h : Sx w c0 c1 c2 c3 c4 c5 c6 c7 W) (hb : Below W.heap.size W w1) : Sx w c0 c1 c2 c3 c4 c5 c6 c7 w1 :=
  sx_below h h.2.1 hb
theorem sx_alloc {w W : World} {c0 c1 c2 c3 c4 c5 c6 c7 : Value} (h : Sx w c0 c1 c2 c3 c4 c5 c6 c7 W) (o : Obj) : Sx w c0 c1 c2 c3 c4 c5 c6 c7 (W.alloc o) :=
  sx_call h ((Below.refl _ _).alloc (Nat.le_refl _) _)

theorem ord1 {k n s : Int} {t : ByteArray} {k' n' s' : Int} {t' : ByteArray} (h : cmpI k k' ≠ 0) : ordV k n s t k' n' s' t' = cmpI k k' := by unfold ordV; rw [if_pos h]
theorem ord2 {k n s : Int} {t : ByteArray} {k' n' s' : Int} {t' : ByteArray} (h : cmpI k k' = 0) (h2 : cmpI (wholeN n s) (wholeN n' s') ≠ 0) : ordV k n s t k' n' s' t' = cmpI (wholeN n s) (wholeN n' s') := by
  unfold ordV; rw [if_neg (by simpa using h), if_pos h2]
theorem ord3 {k n s : Int} {t : ByteArray} {k' n' s' : Int} {t' : ByteArray} (h : cmpI k k' = 0) (h2 : cmpI (wholeN n s) (wholeN n' s') = 0) (h3 : cmpI (millN n s) (millN n' s') ≠ 0) :
    ordV k n s t k' n' s' t' = cmpI (millN n s) (millN n' s') := by
  unfold ordV; rw [if_neg (by simpa using h), if_neg (by simpa using h2), if_pos h3]
theorem ord4 {k n s : Int} {t : ByteArray} {k' n' s' : Int} {t' : ByteArray} (h : cmpI k k' = 0) (h2 : cmpI (wholeN n s) (wholeN n' s') = 0) (h3 : cmpI (millN n s) (millN n' s') = 0) :
    ordV k n s t k' n' s' t' = cmpS t t' := by
  unfold ordV; rw [if_neg (by simpa using h), if_neg (by simpa using h2), if_neg (by simpa using h3)]

set_option maxRecDepth 100000 in
set_option maxHeartbeats 4000000 in
theorem order_any (k n s : Int) (t : ByteArray) (k' n' s' : Int) (t' : ByteArray) (w : World) (hn : Is64 n) (hn' : Is64 n') (hs : 0 ≤ s ∧ s ≤ 6) (hs' : 0 ≤ s' ∧ s' ≤ 6) :
    Calls Try.prog 97 #[V k n s t, V k' n' s' t'] w fun e w' => e = .returned (.int .i64 (ordV k n s t k' n' s' t')) ∧ Below w.heap.size w w' := by
  have HN : Hid (Is64 n ∧ Is64 n' ∧ (0 ≤ s ∧ s ≤ 6) ∧ (0 ≤ s' ∧ s' ≤ 6)) := ⟨hn, hn', hs, hs'⟩
  clear hn hn' hs hs'
  go_enter Try.func97, Try.ntmps97
  go_wp2
  rename_i Q1 K1 hrest
  have HREST : Hid (∀ (b : Nat) (W : World), Four b (Value.func (Fn.func 100) #[Value.agg #[Value.int IntKind.i64 k, Value.int IntKind.i64 k']] #[]) (Value.func (Fn.func 100) #[Value.agg #[Value.int IntKind.i64 (wholeN n s), Value.int IntKind.i64 (wholeN n' s')]] #[]) (Value.func (Fn.func 100) #[Value.agg #[Value.int IntKind.i64 (millN n s), Value.int IntKind.i64 (millN n' s')]] #[]) (Value.func (Fn.func 103) #[Value.agg #[Value.string t, Value.string t']] #[]) W → Below w.heap.size w W → K1 ⟨#[V k n s t, V k' n' s' t', Value.pointer (some ⟨w.heap.size, 0, none⟩), Value.pointer (some ⟨w.heap.size + 1, 0, none⟩), Value.int IntKind.i64 0,
        Value.pointer (some ⟨b, 0, none⟩), undef, undef, undef,
        Value.pointer (some ⟨w.heap.size, 0, none⟩), Value.int IntKind.i64 k, Value.pointer (some ⟨w.heap.size + 1, 0, none⟩), Value.int IntKind.i64 k',
        Value.agg #[Value.int IntKind.i64 k, Value.int IntKind.i64 k'], (Value.func (Fn.func 100) #[Value.agg #[Value.int IntKind.i64 k, Value.int IntKind.i64 k']] #[]), (Value.agg #[Value.int IntKind.i64 k, Value.int IntKind.i64 n, Value.int IntKind.i64 s, Value.string t]), Value.int IntKind.i64 (wholeN n s), (Value.agg #[Value.int IntKind.i64 k', Value.int IntKind.i64 n', Value.int IntKind.i64 s', Value.string t']), Value.int IntKind.i64 (wholeN n' s'),
        Value.agg #[Value.int IntKind.i64 (wholeN n s), Value.int IntKind.i64 (wholeN n' s')], (Value.func (Fn.func 100) #[Value.agg #[Value.int IntKind.i64 (wholeN n s), Value.int IntKind.i64 (wholeN n' s')]] #[]), (Value.agg #[Value.int IntKind.i64 k, Value.int IntKind.i64 n, Value.int IntKind.i64 s, Value.string t]), Value.int IntKind.i64 (millN n s), (Value.agg #[Value.int IntKind.i64 k', Value.int IntKind.i64 n', Value.int IntKind.i64 s', Value.string t']), Value.int IntKind.i64 (millN n' s'),
        Value.agg #[Value.int IntKind.i64 (millN n s), Value.int IntKind.i64 (millN n' s')], (Value.func (Fn.func 100) #[Value.agg #[Value.int IntKind.i64 (millN n s), Value.int IntKind.i64 (millN n' s')]] #[]),
        Value.pointer (some ⟨w.heap.size, 3, none⟩), Value.string t, Value.pointer (some ⟨w.heap.size + 1, 3, none⟩), Value.string t',
        Value.agg #[Value.string t, Value.string t'], (Value.func (Fn.func 103) #[Value.agg #[Value.string t, Value.string t']] #[]),
        Value.agg #[(Value.func (Fn.func 100) #[Value.agg #[Value.int IntKind.i64 k, Value.int IntKind.i64 k']] #[]), (Value.func (Fn.func 100) #[Value.agg #[Value.int IntKind.i64 (wholeN n s), Value.int IntKind.i64 (wholeN n' s')]] #[]), (Value.func (Fn.func 100) #[Value.agg #[Value.int IntKind.i64 (millN n s), Value.int IntKind.i64 (millN n' s')]] #[]), (Value.func (Fn.func 103) #[Value.agg #[Value.string t, Value.string t']] #[])],
        undef, undef, undef, undef, undef, undef, undef, undef, undef, undef], []⟩ W) := by
    intro b W hF hW
    refine hrest _ _ ?_
    clear hrest
    have hWs := hW.size
    have HW : Hid (Below w.heap.size w W) := hW
    clear hW
    obtain ⟨hF0, hF1, hF2, hF3, hF4, -, -, -, -⟩ := hF
    have i0 : ∀ wx : World, (Instr.index 138 (.agg #[(Value.func (Fn.func 100) #[Value.agg #[Value.int IntKind.i64 k, Value.int IntKind.i64 k']] #[]), (Value.func (Fn.func 100) #[Value.agg #[Value.int IntKind.i64 (wholeN n s), Value.int IntKind.i64 (wholeN n' s')]] #[]), (Value.func (Fn.func 100) #[Value.agg #[Value.int IntKind.i64 (millN n s), Value.int IntKind.i64 (millN n' s')]] #[]), (Value.func (Fn.func 103) #[Value.agg #[Value.string t, Value.string t']] #[])]) (.int .i64 0)).run Try.prog wx = .ok (Value.func (Fn.func 100) #[Value.agg #[Value.int IntKind.i64 k, Value.int IntKind.i64 k']] #[]) wx := fun _ => by kernel_rfl
    have i1 : ∀ wx : World, (Instr.index 138 (.agg #[(Value.func (Fn.func 100) #[Value.agg #[Value.int IntKind.i64 k, Value.int IntKind.i64 k']] #[]), (Value.func (Fn.func 100) #[Value.agg #[Value.int IntKind.i64 (wholeN n s), Value.int IntKind.i64 (wholeN n' s')]] #[]), (Value.func (Fn.func 100) #[Value.agg #[Value.int IntKind.i64 (millN n s), Value.int IntKind.i64 (millN n' s')]] #[]), (Value.func (Fn.func 103) #[Value.agg #[Value.string t, Value.string t']] #[])]) (.int .i64 1)).run Try.prog wx = .ok (Value.func (Fn.func 100) #[Value.agg #[Value.int IntKind.i64 (wholeN n s), Value.int IntKind.i64 (wholeN n' s')]] #[]) wx := fun _ => by kernel_rfl
    have i2 : ∀ wx : World, (Instr.index 138 (.agg #[(Value.func (Fn.func 100) #[Value.agg #[Value.int IntKind.i64 k, Value.int IntKind.i64 k']] #[]), (Value.func (Fn.func 100) #[Value.agg #[Value.int IntKind.i64 (wholeN n s), Value.int IntKind.i64 (wholeN n' s')]] #[]), (Value.func (Fn.func 100) #[Value.agg #[Value.int IntKind.i64 (millN n s), Value.int IntKind.i64 (millN n' s')]] #[]), (Value.func (Fn.func 103) #[Value.agg #[Value.string t, Value.string t']] #[])]) (.int .i64 2)).run Try.prog wx = .ok (Value.func (Fn.func 100) #[Value.agg #[Value.int IntKind.i64 (millN n s), Value.int IntKind.i64 (millN n' s')]] #[]) wx := fun _ => by kernel_rfl
    have i3 : ∀ wx : World, (Instr.index 138 (.agg #[(Value.func (Fn.func 100) #[Value.agg #[Value.int IntKind.i64 k, Value.int IntKind.i64 k']] #[]), (Value.func (Fn.func 100) #[Value.agg #[Value.int IntKind.i64 (wholeN n s), Value.int IntKind.i64 (wholeN n' s')]] #[]), (Value.func (Fn.func 100) #[Value.agg #[Value.int IntKind.i64 (millN n s), Value.int IntKind.i64 (millN n' s')]] #[]), (Value.func (Fn.func 103) #[Value.agg #[Value.string t, Value.string t']] #[])]) (.int .i64 3)).run Try.prog wx = .ok (Value.func (Fn.func 103) #[Value.agg #[Value.string t, Value.string t']] #[]) wx := fun _ => by kernel_rfl
    obtain ⟨o1, ho1⟩ : ∃ o, o = cmpI k k' := ⟨_, rfl⟩
    have C1 : Hid (∀ Wx : World, Calls Try.prog 100 #[.agg #[.int .i64 k, .int .i64 k']] Wx fun e w' => e = .returned (.int .i64 o1) ∧ Below Wx.heap.size Wx w') := by
      rw [ho1]; exact fun Wx => sideInt_any _ _ Wx
    have HO1 : Hid (o1 = cmpI k k') := ho1
    clear ho1
    obtain ⟨o2, ho2⟩ : ∃ o, o = cmpI (wholeN n s) (wholeN n' s') := ⟨_, rfl⟩
    have C2 : Hid (∀ Wx : World, Calls Try.prog 100 #[.agg #[.int .i64 (wholeN n s), .int .i64 (wholeN n' s')]] Wx fun e w' => e = .returned (.int .i64 o2) ∧ Below Wx.heap.size Wx w') := by
      rw [ho2]; exact fun Wx => sideInt_any _ _ Wx
    have HO2 : Hid (o2 = cmpI (wholeN n s) (wholeN n' s')) := ho2
    clear ho2
    obtain ⟨o3, ho3⟩ : ∃ o, o = cmpI (millN n s) (millN n' s') := ⟨_, rfl⟩
    have C3 : Hid (∀ Wx : World, Calls Try.prog 100 #[.agg #[.int .i64 (millN n s), .int .i64 (millN n' s')]] Wx fun e w' => e = .returned (.int .i64 o3) ∧ Below Wx.heap.size Wx w') := by
      rw [ho3]; exact fun Wx => sideInt_any _ _ Wx
    have HO3 : Hid (o3 = cmpI (millN n s) (millN n' s')) := ho3
    clear ho3
    obtain ⟨o4, ho4⟩ : ∃ o, o = cmpS t t' := ⟨_, rfl⟩
    have C4 : Hid (∀ Wx : World, Calls Try.prog 103 #[.agg #[.string t, .string t']] Wx fun e w' => e = .returned (.int .i64 o4) ∧ Below Wx.heap.size Wx w') := by
      rw [ho4]; exact fun Wx => sideStr_any _ _ Wx
    have HO4 : Hid (o4 = cmpS t t') := ho4
    clear ho4
    by_cases hn1 : o1 ≠ 0
    · have hB1 : (o1 != 0) = true := bne_iff_ne.2 hn1
      have HE1 : Hid (o1 = ordV k n s t k' n' s' t') := (HO1.out).trans (ord1 (HO1.out ▸ hn1)).symm
      clear hn1
      go_wp2
      refine wp_loop_rounds 5 ?_
      rw [rounds_succ]
      go_wp2_with fail
      refine (C1.out _).mono ?_
      rintro e w1 ⟨rfl, hb1⟩
      have hz1 := hb1.size
      go_wp2_with fail
      go_ret
      exact ⟨ret_int (HE1.out), HW.out.trans (hb1.mono (by omega))⟩
    have HZ1 : Hid (o1 = 0) := Classical.byContradiction hn1
    have hB1 : (o1 != 0) = false := by simpa using hn1
    clear hn1
    by_cases hn2 : o2 ≠ 0
    · have hB2 : (o2 != 0) = true := bne_iff_ne.2 hn2
      have HE2 : Hid (o2 = ordV k n s t k' n' s' t') := (HO2.out).trans (ord2 (HO1.out ▸ HZ1.out) (HO2.out ▸ hn2)).symm
      clear hn2
      go_wp2
      refine wp_loop_rounds 5 ?_
      rw [rounds_succ]
      go_wp2_with fail
      refine (C1.out _).mono ?_
      rintro e w1 ⟨rfl, hb1⟩
      have hz1 := hb1.size
      go_wp2_with fail
      rw [rounds_succ]
      go_wp2_with fail
      refine (C2.out _).mono ?_
      rintro e w2 ⟨rfl, hb2⟩
      have hz2 := hb2.size
      go_wp2_with fail
      go_ret
      exact ⟨ret_int (HE2.out), HW.out.trans ((hb1.mono (by omega)).trans (hb2.mono (by omega)))⟩
    have HZ2 : Hid (o2 = 0) := Classical.byContradiction hn2
    have hB2 : (o2 != 0) = false := by simpa using hn2
    clear hn2
    by_cases hn3 : o3 ≠ 0
    · have hB3 : (o3 != 0) = true := bne_iff_ne.2 hn3
      have HE3 : Hid (o3 = ordV k n s t k' n' s' t') := (HO3.out).trans (ord3 (HO1.out ▸ HZ1.out) (HO2.out ▸ HZ2.out) (HO3.out ▸ hn3)).symm
      clear hn3
      go_wp2
      refine wp_loop_rounds 5 ?_
      rw [rounds_succ]
      go_wp2_with fail
      refine (C1.out _).mono ?_
      rintro e w1 ⟨rfl, hb1⟩
      have hz1 := hb1.size
      go_wp2_with fail
      rw [rounds_succ]
      go_wp2_with fail
      refine (C2.out _).mono ?_
      rintro e w2 ⟨rfl, hb2⟩
      have hz2 := hb2.size
      go_wp2_with fail
      rw [rounds_succ]
      go_wp2_with fail
      refine (C3.out _).mono ?_
      rintro e w3 ⟨rfl, hb3⟩
      have hz3 := hb3.size
      go_wp2_with fail
      go_ret
      exact ⟨ret_int (HE3.out), HW.out.trans (((hb1.mono (by omega)).trans (hb2.mono (by omega))).trans (hb3.mono (by omega)))⟩
    have HZ3 : Hid (o3 = 0) := Classical.byContradiction hn3
    have hB3 : (o3 != 0) = false := by simpa using hn3
    clear hn3
    have HE4 : Hid (o4 = ordV k n s t k' n' s' t') := (HO4.out).trans (ord4 (HO1.out ▸ HZ1.out) (HO2.out ▸ HZ2.out) (HO3.out ▸ HZ3.out)).symm
    by_cases hn4 : o4 ≠ 0
    · have hB4 : (o4 != 0) = true := bne_iff_ne.2 hn4
      clear hn4
      go_wp2
      refine wp_loop_rounds 5 ?_
      rw [rounds_succ]
      go_wp2_with fail
      refine (C1.out _).mono ?_
      rintro e w1 ⟨rfl, hb1⟩
      have hz1 := hb1.size
      go_wp2_with fail
      rw [rounds_succ]
      go_wp2_with fail
      refine (C2.out _).mono ?_
      rintro e w2 ⟨rfl, hb2⟩
      have hz2 := hb2.size
      go_wp2_with fail
      rw [rounds_succ]
      go_wp2_with fail
      refine (C3.out _).mono ?_
      rintro e w3 ⟨rfl, hb3⟩
      have hz3 := hb3.size
      go_wp2_with fail
      rw [rounds_succ]
      go_wp2_with fail
      refine (C4.out _).mono ?_
      rintro e w4 ⟨rfl, hb4⟩
      have hz4 := hb4.size
      go_wp2_with fail
      go_ret
      exact ⟨ret_int (HE4.out), HW.out.trans ((((hb1.mono (by omega)).trans (hb2.mono (by omega))).trans (hb3.mono (by omega))).trans (hb4.mono (by omega)))⟩
    have HZ4 : Hid (o4 = 0) := Classical.byContradiction hn4
    have hB4 : (o4 != 0) = false := by simpa using hn4
    clear hn4
    go_wp2
    refine wp_loop_rounds 5 ?_
    rw [rounds_succ]
    go_wp2_with fail
    refine (C1.out _).mono ?_
    rintro e w1 ⟨rfl, hb1⟩
    have hz1 := hb1.size
    go_wp2_with fail
    rw [rounds_succ]
    go_wp2_with fail
    refine (C2.out _).mono ?_
    rintro e w2 ⟨rfl, hb2⟩
    have hz2 := hb2.size
    go_wp2_with fail
    rw [rounds_succ]
    go_wp2_with fail
    refine (C3.out _).mono ?_
    rintro e w3 ⟨rfl, hb3⟩
    have hz3 := hb3.size
    go_wp2_with fail
    rw [rounds_succ]
    go_wp2_with fail
    refine (C4.out _).mono ?_
    rintro e w4 ⟨rfl, hb4⟩
    have hz4 := hb4.size
    go_wp2_with fail
    rw [rounds_succ]
    go_wp2_with fail
    go_ret
    exact ⟨ret_int (HZ4.out.symm.trans HE4.out), HW.out.trans ((((hb1.mono (by omega)).trans (hb2.mono (by omega))).trans (hb3.mono (by omega))).trans (hb4.mono (by omega)))⟩
  clear hrest
  refine wp_region_noPanic ?_
  refine wp_region_held_drew (S := Sx w (.int .i64 k) (.int .i64 n) (.int .i64 s) (.string t) (.int .i64 k') (.int .i64 n') (.int .i64 s') (.string t')) (by kernel_rfl) ?_ (fun hHeld => ?_)
  · refine ⟨(((Below.refl _ _).alloc (Nat.le_refl _) _).alloc (by simp) _).drew, ?_, ?_, ?_, ?_, ?_, ?_, ?_, ?_, ?_⟩ <;> go_simp
  refine wpAnyH_take (i := 0) (oi := ?oi1) (v := ?v1) ?hi1 (by kernel_rfl) (by kernel_rfl) (by kernel_rfl) (fun _ _ _ h => h) (Or.inl ⟨?hw1, ?hy1⟩) (by assumption) ?rest1
  case hi1 => (simp only [List.getElem?_toArray, List.getElem?_cons_zero]; rfl)
  case hw1 => rfl
  case hy1 => first | (intro wx hSw; obtain ⟨_, _, e0, e1, e2, e3, e4, e5, e6, e7⟩ := hSw; go_simp; done) | (intro wx hSw; obtain ⟨_, _, e0, e1, e2, e3, e4, e5, e6, e7⟩ := hSw; go_simp; with_reducible rfl)
  simp only [Act.put, List.setIfInBounds_toArray, List.set_cons_zero, List.set_cons_succ]
  refine wpAnyH_take (i := 1) (oi := ?oi2) (v := ?v2) ?hi2 (by kernel_rfl) (by kernel_rfl) (by kernel_rfl) (fun _ _ _ h => h) (Or.inl ⟨?hw2, ?hy2⟩) (by assumption) ?rest2
  case hi2 => (simp only [List.getElem?_toArray, List.getElem?_cons_zero, List.getElem?_cons_succ]; rfl)
  case hw2 => rfl
  case hy2 => first | (intro wx hSw; obtain ⟨_, _, e0, e1, e2, e3, e4, e5, e6, e7⟩ := hSw; go_simp; done) | (intro wx hSw; obtain ⟨_, _, e0, e1, e2, e3, e4, e5, e6, e7⟩ := hSw; go_simp; with_reducible rfl)
  simp only [Act.put, List.setIfInBounds_toArray, List.set_cons_zero, List.set_cons_succ]
  refine wpAnyH_take (i := 2) (oi := ?oi3) (v := ?v3) ?hi3 (by kernel_rfl) (by kernel_rfl) (by kernel_rfl) (fun _ _ _ h => h) (Or.inl ⟨?hw3, ?hy3⟩) (by assumption) ?rest3
  case hi3 => (simp only [List.getElem?_toArray, List.getElem?_cons_zero, List.getElem?_cons_succ]; rfl)
  case hw3 => rfl
  case hy3 => first | (intro wx hSw; obtain ⟨_, _, e0, e1, e2, e3, e4, e5, e6, e7⟩ := hSw; go_simp; done) | (intro wx hSw; obtain ⟨_, _, e0, e1, e2, e3, e4, e5, e6, e7⟩ := hSw; go_simp; with_reducible rfl)
  simp only [Act.put, List.setIfInBounds_toArray, List.set_cons_zero, List.set_cons_succ]
  refine wpAnyH_take (i := 3) (oi := ?oi4) (v := ?v4) ?hi4 (by kernel_rfl) (by kernel_rfl) (by kernel_rfl) (fun _ _ _ h => h) (Or.inl ⟨?hw4, ?hy4⟩) (by assumption) ?rest4
  case hi4 => (simp only [List.getElem?_toArray, List.getElem?_cons_zero, List.getElem?_cons_succ]; rfl)
  case hw4 => rfl
  case hy4 => first | (intro wx hSw; obtain ⟨_, _, e0, e1, e2, e3, e4, e5, e6, e7⟩ := hSw; go_simp; done) | (intro wx hSw; obtain ⟨_, _, e0, e1, e2, e3, e4, e5, e6, e7⟩ := hSw; go_simp; with_reducible rfl)
  simp only [Act.put, List.setIfInBounds_toArray, List.set_cons_zero, List.set_cons_succ]
  refine wpAnyH_take (i := 4) (oi := ?oi5) (v := ?v5) ?hi5 (by kernel_rfl) (by kernel_rfl) (by kernel_rfl) (fun _ _ _ h => h) (Or.inl ⟨?hw5, ?hy5⟩) (by assumption) ?rest5
  case hi5 => (simp only [List.getElem?_toArray, List.getElem?_cons_zero, List.getElem?_cons_succ]; rfl)
  case hw5 => rfl
  case hy5 => first | (intro wx hSw; obtain ⟨_, _, e0, e1, e2, e3, e4, e5, e6, e7⟩ := hSw; go_simp; done) | (intro wx hSw; obtain ⟨_, _, e0, e1, e2, e3, e4, e5, e6, e7⟩ := hSw; go_simp; with_reducible rfl)
  simp only [Act.put, List.setIfInBounds_toArray, List.set_cons_zero, List.set_cons_succ]
  refine wpAnyH_take (i := 5) (oi := ?oi6) (v := ?v6) ?hi6 (by kernel_rfl) (by kernel_rfl) (by kernel_rfl) (fun _ _ _ h => h) (Or.inl ⟨?hw6, ?hy6⟩) (by assumption) ?rest6
  case hi6 => (simp only [List.getElem?_toArray, List.getElem?_cons_zero, List.getElem?_cons_succ]; rfl)
  case hw6 => rfl
  case hy6 => first | (intro wx hSw; obtain ⟨_, _, e0, e1, e2, e3, e4, e5, e6, e7⟩ := hSw; go_simp; done) | (intro wx hSw; obtain ⟨_, _, e0, e1, e2, e3, e4, e5, e6, e7⟩ := hSw; go_simp; with_reducible rfl)
  simp only [Act.put, List.setIfInBounds_toArray, List.set_cons_zero, List.set_cons_succ]
  refine wpAnyH_take (i := 6) (oi := ?oi7) (v := ?v7) ?hi7 (by kernel_rfl) (by kernel_rfl) (by kernel_rfl) (fun _ _ _ h => h) (Or.inl ⟨?hw7, ?hy7⟩) (by assumption) ?rest7
  case hi7 => (simp only [List.getElem?_toArray, List.getElem?_cons_zero, List.getElem?_cons_succ]; rfl)
  case hw7 => rfl
  case hy7 => first | (intro wx hSw; obtain ⟨_, _, e0, e1, e2, e3, e4, e5, e6, e7⟩ := hSw; go_simp; done) | (intro wx hSw; obtain ⟨_, _, e0, e1, e2, e3, e4, e5, e6, e7⟩ := hSw; go_simp; with_reducible rfl)
  simp only [Act.put, List.setIfInBounds_toArray, List.set_cons_zero, List.set_cons_succ]
  refine wpAnyH_take (i := 8) (oi := ?oi8) (v := ?v8) ?hi8 (by kernel_rfl) (by kernel_rfl) (by kernel_rfl) (fun _ _ _ h => h) (Or.inl ⟨?hw8, ?hy8⟩) (by assumption) ?rest8
  case hi8 => (simp only [List.getElem?_toArray, List.getElem?_cons_zero, List.getElem?_cons_succ]; rfl)
  case hw8 => rfl
  case hy8 => first | (intro wx hSw; obtain ⟨_, _, e0, e1, e2, e3, e4, e5, e6, e7⟩ := hSw; go_simp; done) | (intro wx hSw; obtain ⟨_, _, e0, e1, e2, e3, e4, e5, e6, e7⟩ := hSw; go_simp; with_reducible rfl)
  simp only [Act.put, List.setIfInBounds_toArray, List.set_cons_zero, List.set_cons_succ]
  refine wpAnyH_take (i := 12) (oi := ?oi9) (v := ?v9) ?hi9 (by kernel_rfl) (by kernel_rfl) (by kernel_rfl) (fun _ _ _ h => h) (Or.inl ⟨?hw9, ?hy9⟩) (by assumption) ?rest9
  case hi9 => (simp only [List.getElem?_toArray, List.getElem?_cons_zero, List.getElem?_cons_succ]; rfl)
  case hw9 => rfl
  case hy9 => first | (intro wx hSw; obtain ⟨_, _, e0, e1, e2, e3, e4, e5, e6, e7⟩ := hSw; go_simp; done) | (intro wx hSw; obtain ⟨_, _, e0, e1, e2, e3, e4, e5, e6, e7⟩ := hSw; go_simp; with_reducible rfl)
  simp only [Act.put, List.setIfInBounds_toArray, List.set_cons_zero, List.set_cons_succ]
  refine wpAnyH_take (i := 14) (oi := ?oi10) (v := ?v10) ?hi10 (by kernel_rfl) (by kernel_rfl) (by kernel_rfl) (fun _ _ _ h => h) (Or.inl ⟨?hw10, ?hy10⟩) (by assumption) ?rest10
  case hi10 => (simp only [List.getElem?_toArray, List.getElem?_cons_zero, List.getElem?_cons_succ]; rfl)
  case hw10 => rfl
  case hy10 => first | (intro wx hSw; obtain ⟨_, _, e0, e1, e2, e3, e4, e5, e6, e7⟩ := hSw; go_simp; done) | (intro wx hSw; obtain ⟨_, _, e0, e1, e2, e3, e4, e5, e6, e7⟩ := hSw; go_simp; with_reducible rfl)
  simp only [Act.put, List.setIfInBounds_toArray, List.set_cons_zero, List.set_cons_succ]
  refine wpAnyH_take (i := 18) (oi := ?oi11) (v := ?v11) ?hi11 (by kernel_rfl) (by kernel_rfl) (by kernel_rfl) (fun _ _ _ h => h) (Or.inl ⟨?hw11, ?hy11⟩) (by assumption) ?rest11
  case hi11 => (simp only [List.getElem?_toArray, List.getElem?_cons_zero, List.getElem?_cons_succ]; rfl)
  case hw11 => rfl
  case hy11 => first | (intro wx hSw; obtain ⟨_, _, e0, e1, e2, e3, e4, e5, e6, e7⟩ := hSw; go_simp; done) | (intro wx hSw; obtain ⟨_, _, e0, e1, e2, e3, e4, e5, e6, e7⟩ := hSw; go_simp; with_reducible rfl)
  simp only [Act.put, List.setIfInBounds_toArray, List.set_cons_zero, List.set_cons_succ]
  refine wpAnyH_take (i := 19) (oi := ?oi12) (v := ?v12) ?hi12 (by kernel_rfl) (by kernel_rfl) (by kernel_rfl) (fun _ _ _ h => h) (Or.inl ⟨?hw12, ?hy12⟩) (by assumption) ?rest12
  case hi12 => (simp only [List.getElem?_toArray, List.getElem?_cons_zero, List.getElem?_cons_succ]; rfl)
  case hw12 => rfl
  case hy12 => first | (intro wx hSw; obtain ⟨_, _, e0, e1, e2, e3, e4, e5, e6, e7⟩ := hSw; go_simp; done) | (intro wx hSw; obtain ⟨_, _, e0, e1, e2, e3, e4, e5, e6, e7⟩ := hSw; go_simp; with_reducible rfl)
  simp only [Act.put, List.setIfInBounds_toArray, List.set_cons_zero, List.set_cons_succ]
  refine wpAnyH_take (i := 20) (oi := ?oi13) (v := ?v13) ?hi13 (by kernel_rfl) (by kernel_rfl) (by kernel_rfl) (fun _ _ _ h => h) (Or.inl ⟨?hw13, ?hy13⟩) (by assumption) ?rest13
  case hi13 => (simp only [List.getElem?_toArray, List.getElem?_cons_zero, List.getElem?_cons_succ]; rfl)
  case hw13 => rfl
  case hy13 => first | (intro wx hSw; obtain ⟨_, _, e0, e1, e2, e3, e4, e5, e6, e7⟩ := hSw; go_simp; done) | (intro wx hSw; obtain ⟨_, _, e0, e1, e2, e3, e4, e5, e6, e7⟩ := hSw; go_simp; with_reducible rfl)
  simp only [Act.put, List.setIfInBounds_toArray, List.set_cons_zero, List.set_cons_succ]
  refine wpAnyH_take (i := 21) (oi := ?oi14) (v := ?v14) ?hi14 (by kernel_rfl) (by kernel_rfl) (by kernel_rfl) (fun _ _ _ h => h) (Or.inl ⟨?hw14, ?hy14⟩) (by assumption) ?rest14
  case hi14 => (simp only [List.getElem?_toArray, List.getElem?_cons_zero, List.getElem?_cons_succ]; rfl)
  case hw14 => rfl
  case hy14 => first | (intro wx hSw; obtain ⟨_, _, e0, e1, e2, e3, e4, e5, e6, e7⟩ := hSw; go_simp; done) | (intro wx hSw; obtain ⟨_, _, e0, e1, e2, e3, e4, e5, e6, e7⟩ := hSw; go_simp; with_reducible rfl)
  simp only [Act.put, List.setIfInBounds_toArray, List.set_cons_zero, List.set_cons_succ]
  refine wpAnyH_take (i := 22) (oi := ?oi15) (v := ?v15) ?hi15 (by kernel_rfl) (by kernel_rfl) (by kernel_rfl) (fun _ _ _ h => h) (Or.inl ⟨?hw15, ?hy15⟩) (by assumption) ?rest15
  case hi15 => (simp only [List.getElem?_toArray, List.getElem?_cons_zero, List.getElem?_cons_succ]; rfl)
  case hw15 => rfl
  case hy15 => first | (intro wx hSw; obtain ⟨_, _, e0, e1, e2, e3, e4, e5, e6, e7⟩ := hSw; go_simp; done) | (intro wx hSw; obtain ⟨_, _, e0, e1, e2, e3, e4, e5, e6, e7⟩ := hSw; go_simp; with_reducible rfl)
  simp only [Act.put, List.setIfInBounds_toArray, List.set_cons_zero, List.set_cons_succ]
  refine wpAnyH_take (i := 23) (oi := ?oi16) (v := ?v16) ?hi16 (by kernel_rfl) (by kernel_rfl) (by kernel_rfl) (fun _ _ _ h => h) (Or.inl ⟨?hw16, ?hy16⟩) (by assumption) ?rest16
  case hi16 => (simp only [List.getElem?_toArray, List.getElem?_cons_zero, List.getElem?_cons_succ]; rfl)
  case hw16 => rfl
  case hy16 => first | (intro wx hSw; obtain ⟨_, _, e0, e1, e2, e3, e4, e5, e6, e7⟩ := hSw; go_simp; done) | (intro wx hSw; obtain ⟨_, _, e0, e1, e2, e3, e4, e5, e6, e7⟩ := hSw; go_simp; with_reducible rfl)
  simp only [Act.put, List.setIfInBounds_toArray, List.set_cons_zero, List.set_cons_succ]
  revert hHeld
  generalize World.drew _ = W0
  intro hHeld
  refine wpAnyH_ready (rs := [7, 25]) (by kernel_rfl) (by simp) ?_
  refine AllReadyH.cons rfl (fun K17 hK17 => ?_) (AllReadyH.cons rfl (fun K17 hK17 => ?_) AllReadyH.nil)
  · go_simp
    go_wp2_with (go_at_call 101; refine (whole_c k n s t _ HN.out.1).mono ?_; rintro e wc17 ⟨rfl, hb⟩)
    refine hK17.out _ _ (sx_call hHeld hb) (fun hHeld17 => ?_)
    clear hK17 K17 hb hHeld
    have hHeld := hHeld17; clear hHeld17
    refine wpAnyH_ready (rs := [9, 25]) (by kernel_rfl) (by simp) ?_
    refine AllReadyH.cons rfl (fun K18 hK18 => ?_) (AllReadyH.cons rfl (fun K18 hK18 => ?_) AllReadyH.nil)
    · go_simp
      go_wp2_with (go_at_call 101; refine (whole_c k' n' s' t' _ HN.out.2.1).mono ?_; rintro e wc18 ⟨rfl, hb⟩)
      refine hK18.out _ _ (sx_call hHeld hb) (fun hHeld18 => ?_)
      clear hK18 K18 hb hHeld
      have hHeld := hHeld18; clear hHeld18
      refine wpAnyH_take (i := 10) (oi := ?oi19) (v := ?v19) ?hi19 (by kernel_rfl) (by kernel_rfl) (by kernel_rfl) (fun _ _ _ h => h) (Or.inl ⟨?hw19, ?hy19⟩) (by assumption) ?rest19
      case hi19 => (simp only [List.getElem?_toArray, List.getElem?_cons_zero, List.getElem?_cons_succ]; rfl)
      case hw19 => rfl
      case hy19 => first | (intro wx hSw; obtain ⟨_, _, e0, e1, e2, e3, e4, e5, e6, e7⟩ := hSw; go_simp; done) | (intro wx hSw; obtain ⟨_, _, e0, e1, e2, e3, e4, e5, e6, e7⟩ := hSw; go_simp; with_reducible rfl)
      simp only [Act.put, List.setIfInBounds_toArray, List.set_cons_zero, List.set_cons_succ]
      refine wpAnyH_take (i := 11) (oi := ?oi20) (v := ?v20) ?hi20 (by kernel_rfl) (by kernel_rfl) (by kernel_rfl) (fun _ _ _ h => h) (Or.inl ⟨?hw20, ?hy20⟩) (by assumption) ?rest20
      case hi20 => (simp only [List.getElem?_toArray, List.getElem?_cons_zero, List.getElem?_cons_succ]; rfl)
      case hw20 => rfl
      case hy20 => first | (intro wx hSw; obtain ⟨_, _, e0, e1, e2, e3, e4, e5, e6, e7⟩ := hSw; go_simp; done) | (intro wx hSw; obtain ⟨_, _, e0, e1, e2, e3, e4, e5, e6, e7⟩ := hSw; go_simp; with_reducible rfl)
      simp only [Act.put, List.setIfInBounds_toArray, List.set_cons_zero, List.set_cons_succ]
      refine wpAnyH_ready (rs := [13, 25]) (by kernel_rfl) (by simp) ?_
      refine AllReadyH.cons rfl (fun K21 hK21 => ?_) (AllReadyH.cons rfl (fun K21 hK21 => ?_) AllReadyH.nil)
      · go_simp
        go_wp2_with (go_at_call 102; refine (mill_c k n s t _ HN.out.2.2.1).mono ?_; rintro e wc21 ⟨rfl, hb⟩)
        refine hK21.out _ _ (sx_call hHeld hb) (fun hHeld21 => ?_)
        clear hK21 K21 hb hHeld
        have hHeld := hHeld21; clear hHeld21
        refine wpAnyH_ready (rs := [15, 25]) (by kernel_rfl) (by simp) ?_
        refine AllReadyH.cons rfl (fun K22 hK22 => ?_) (AllReadyH.cons rfl (fun K22 hK22 => ?_) AllReadyH.nil)
        · go_simp
          go_wp2_with (go_at_call 102; refine (mill_c k' n' s' t' _ HN.out.2.2.2).mono ?_; rintro e wc22 ⟨rfl, hb⟩)
          refine hK22.out _ _ (sx_call hHeld hb) (fun hHeld22 => ?_)
          clear hK22 K22 hb hHeld
          have hHeld := hHeld22; clear hHeld22
          refine wpAnyH_take (i := 16) (oi := ?oi23) (v := ?v23) ?hi23 (by kernel_rfl) (by kernel_rfl) (by kernel_rfl) (fun _ _ _ h => h) (Or.inl ⟨?hw23, ?hy23⟩) (by assumption) ?rest23
          case hi23 => (simp only [List.getElem?_toArray, List.getElem?_cons_zero, List.getElem?_cons_succ]; rfl)
          case hw23 => rfl
          case hy23 => first | (intro wx hSw; obtain ⟨_, _, e0, e1, e2, e3, e4, e5, e6, e7⟩ := hSw; go_simp; done) | (intro wx hSw; obtain ⟨_, _, e0, e1, e2, e3, e4, e5, e6, e7⟩ := hSw; go_simp; with_reducible rfl)
          simp only [Act.put, List.setIfInBounds_toArray, List.set_cons_zero, List.set_cons_succ]
          refine wpAnyH_take (i := 17) (oi := ?oi24) (v := ?v24) ?hi24 (by kernel_rfl) (by kernel_rfl) (by kernel_rfl) (fun _ _ _ h => h) (Or.inl ⟨?hw24, ?hy24⟩) (by assumption) ?rest24
          case hi24 => (simp only [List.getElem?_toArray, List.getElem?_cons_zero, List.getElem?_cons_succ]; rfl)
          case hw24 => rfl
          case hy24 => first | (intro wx hSw; obtain ⟨_, _, e0, e1, e2, e3, e4, e5, e6, e7⟩ := hSw; go_simp; done) | (intro wx hSw; obtain ⟨_, _, e0, e1, e2, e3, e4, e5, e6, e7⟩ := hSw; go_simp; with_reducible rfl)
          simp only [Act.put, List.setIfInBounds_toArray, List.set_cons_zero, List.set_cons_succ]
          refine wpAnyH_take (i := 24) (oi := ?oi25) (v := ?v25) ?hi25 (by kernel_rfl) (by kernel_rfl) (by kernel_rfl) (fun _ _ _ h => h) (Or.inl ⟨?hw25, ?hy25⟩) (by assumption) ?rest25
          case hi25 => (simp only [List.getElem?_toArray, List.getElem?_cons_zero, List.getElem?_cons_succ]; rfl)
          case hw25 => rfl
          case hy25 => first | (intro wx hSw; obtain ⟨_, _, e0, e1, e2, e3, e4, e5, e6, e7⟩ := hSw; go_simp; done) | (intro wx hSw; obtain ⟨_, _, e0, e1, e2, e3, e4, e5, e6, e7⟩ := hSw; go_simp; with_reducible rfl)
          simp only [Act.put, List.setIfInBounds_toArray, List.set_cons_zero, List.set_cons_succ]
          refine wpAnyH_ready (rs := [25]) (by kernel_rfl) (by simp) ?_
          refine AllReadyH.cons rfl (fun K26 hK26 => ?_) AllReadyH.nil
          go_simp
          refine hK26.out _ _ (sx_alloc hHeld _) (fun hHeld26 => ?_)
          have hF := four_alloc .nilFunc .nilFunc .nilFunc .nilFunc 138 wc22
          have hbz : w.heap.size + 2 ≤ wc22.heap.size := hHeld.2.1
          clear hK26 K26 hHeld
          have hHeld := hHeld26; clear hHeld26
          refine wpAnyH_ready (rs := [26]) (by kernel_rfl) (by simp) ?_
          refine AllReadyH.cons rfl (fun K27 hK27 => ?_) AllReadyH.nil
          have hFF := hF
          obtain ⟨hF0, hF1, hF2, hF3, hF4, hF5, hF6, hF7, hF8⟩ := hF
          go_simp
          refine hK27.out _ _ ?hs27 (fun hHeld27 => ?_)
          case hs27 => exact sx_below hHeld hbz (below_alloc_alloc wc22 _ _)
          refine wpAnyH_done (by kernel_rfl) ?_ _
          refine NoPanic.normal ?_
          exact HREST.out _ _ (four_alloc _ _ _ _ _ wc22) hHeld27.1
        · go_simp
          refine hK22.out _ _ (sx_alloc hHeld _) (fun hHeld22 => ?_)
          have hF := four_alloc .nilFunc .nilFunc .nilFunc .nilFunc 138 wc21
          have hbz : w.heap.size + 2 ≤ wc21.heap.size := hHeld.2.1
          clear hK22 K22 hHeld
          have hHeld := hHeld22; clear hHeld22
          refine wpAnyH_ready (rs := [15]) (by kernel_rfl) (by simp) ?_
          refine AllReadyH.cons rfl (fun K28 hK28 => ?_) AllReadyH.nil
          go_simp
          go_wp2_with (go_at_call 102; refine (mill_c k' n' s' t' _ HN.out.2.2.2).mono ?_; rintro e wc28 ⟨rfl, hb⟩)
          refine hK28.out _ _ (sx_call hHeld hb) (fun hHeld28 => ?_)
          replace hF := four_call hF hb
          clear hK28 K28 hb hHeld
          have hHeld := hHeld28; clear hHeld28
          refine wpAnyH_take (i := 16) (oi := ?oi29) (v := ?v29) ?hi29 (by kernel_rfl) (by kernel_rfl) (by kernel_rfl) (fun _ _ _ h => h) (Or.inl ⟨?hw29, ?hy29⟩) (by assumption) ?rest29
          case hi29 => (simp only [List.getElem?_toArray, List.getElem?_cons_zero, List.getElem?_cons_succ]; rfl)
          case hw29 => rfl
          case hy29 => first | (intro wx hSw; obtain ⟨_, _, e0, e1, e2, e3, e4, e5, e6, e7⟩ := hSw; go_simp; done) | (intro wx hSw; obtain ⟨_, _, e0, e1, e2, e3, e4, e5, e6, e7⟩ := hSw; go_simp; with_reducible rfl)
          simp only [Act.put, List.setIfInBounds_toArray, List.set_cons_zero, List.set_cons_succ]
          refine wpAnyH_take (i := 17) (oi := ?oi30) (v := ?v30) ?hi30 (by kernel_rfl) (by kernel_rfl) (by kernel_rfl) (fun _ _ _ h => h) (Or.inl ⟨?hw30, ?hy30⟩) (by assumption) ?rest30
          case hi30 => (simp only [List.getElem?_toArray, List.getElem?_cons_zero, List.getElem?_cons_succ]; rfl)
          case hw30 => rfl
          case hy30 => first | (intro wx hSw; obtain ⟨_, _, e0, e1, e2, e3, e4, e5, e6, e7⟩ := hSw; go_simp; done) | (intro wx hSw; obtain ⟨_, _, e0, e1, e2, e3, e4, e5, e6, e7⟩ := hSw; go_simp; with_reducible rfl)
          simp only [Act.put, List.setIfInBounds_toArray, List.set_cons_zero, List.set_cons_succ]
          refine wpAnyH_take (i := 24) (oi := ?oi31) (v := ?v31) ?hi31 (by kernel_rfl) (by kernel_rfl) (by kernel_rfl) (fun _ _ _ h => h) (Or.inl ⟨?hw31, ?hy31⟩) (by assumption) ?rest31
          case hi31 => (simp only [List.getElem?_toArray, List.getElem?_cons_zero, List.getElem?_cons_succ]; rfl)
          case hw31 => rfl
          case hy31 => first | (intro wx hSw; obtain ⟨_, _, e0, e1, e2, e3, e4, e5, e6, e7⟩ := hSw; go_simp; done) | (intro wx hSw; obtain ⟨_, _, e0, e1, e2, e3, e4, e5, e6, e7⟩ := hSw; go_simp; with_reducible rfl)
          simp only [Act.put, List.setIfInBounds_toArray, List.set_cons_zero, List.set_cons_succ]
          refine wpAnyH_ready (rs := [26]) (by kernel_rfl) (by simp) ?_
          refine AllReadyH.cons rfl (fun K32 hK32 => ?_) AllReadyH.nil
          have hFF := hF
          obtain ⟨hF0, hF1, hF2, hF3, hF4, hF5, hF6, hF7, hF8⟩ := hF
          go_simp
          refine hK32.out _ _ ?hs32 (fun hHeld32 => ?_)
          case hs32 => exact sx_below hHeld hbz (below_set4 wc21.heap.size wc28 _ _ _ _)
          refine wpAnyH_done (by kernel_rfl) ?_ _
          refine NoPanic.normal ?_
          exact HREST.out _ _ (four_set hFF _ _ _ _) hHeld32.1
      · go_simp
        refine hK21.out _ _ (sx_alloc hHeld _) (fun hHeld21 => ?_)
        have hF := four_alloc .nilFunc .nilFunc .nilFunc .nilFunc 138 wc18
        have hbz : w.heap.size + 2 ≤ wc18.heap.size := hHeld.2.1
        clear hK21 K21 hHeld
        have hHeld := hHeld21; clear hHeld21
        refine wpAnyH_ready (rs := [13]) (by kernel_rfl) (by simp) ?_
        refine AllReadyH.cons rfl (fun K33 hK33 => ?_) AllReadyH.nil
        go_simp
        go_wp2_with (go_at_call 102; refine (mill_c k n s t _ HN.out.2.2.1).mono ?_; rintro e wc33 ⟨rfl, hb⟩)
        refine hK33.out _ _ (sx_call hHeld hb) (fun hHeld33 => ?_)
        replace hF := four_call hF hb
        clear hK33 K33 hb hHeld
        have hHeld := hHeld33; clear hHeld33
        refine wpAnyH_ready (rs := [15]) (by kernel_rfl) (by simp) ?_
        refine AllReadyH.cons rfl (fun K34 hK34 => ?_) AllReadyH.nil
        go_simp
        go_wp2_with (go_at_call 102; refine (mill_c k' n' s' t' _ HN.out.2.2.2).mono ?_; rintro e wc34 ⟨rfl, hb⟩)
        refine hK34.out _ _ (sx_call hHeld hb) (fun hHeld34 => ?_)
        replace hF := four_call hF hb
        clear hK34 K34 hb hHeld
        have hHeld := hHeld34; clear hHeld34
        refine wpAnyH_take (i := 16) (oi := ?oi35) (v := ?v35) ?hi35 (by kernel_rfl) (by kernel_rfl) (by kernel_rfl) (fun _ _ _ h => h) (Or.inl ⟨?hw35, ?hy35⟩) (by assumption) ?rest35
        case hi35 => (simp only [List.getElem?_toArray, List.getElem?_cons_zero, List.getElem?_cons_succ]; rfl)
        case hw35 => rfl
        case hy35 => first | (intro wx hSw; obtain ⟨_, _, e0, e1, e2, e3, e4, e5, e6, e7⟩ := hSw; go_simp; done) | (intro wx hSw; obtain ⟨_, _, e0, e1, e2, e3, e4, e5, e6, e7⟩ := hSw; go_simp; with_reducible rfl)
        simp only [Act.put, List.setIfInBounds_toArray, List.set_cons_zero, List.set_cons_succ]
        refine wpAnyH_take (i := 17) (oi := ?oi36) (v := ?v36) ?hi36 (by kernel_rfl) (by kernel_rfl) (by kernel_rfl) (fun _ _ _ h => h) (Or.inl ⟨?hw36, ?hy36⟩) (by assumption) ?rest36
        case hi36 => (simp only [List.getElem?_toArray, List.getElem?_cons_zero, List.getElem?_cons_succ]; rfl)
        case hw36 => rfl
        case hy36 => first | (intro wx hSw; obtain ⟨_, _, e0, e1, e2, e3, e4, e5, e6, e7⟩ := hSw; go_simp; done) | (intro wx hSw; obtain ⟨_, _, e0, e1, e2, e3, e4, e5, e6, e7⟩ := hSw; go_simp; with_reducible rfl)
        simp only [Act.put, List.setIfInBounds_toArray, List.set_cons_zero, List.set_cons_succ]
        refine wpAnyH_take (i := 24) (oi := ?oi37) (v := ?v37) ?hi37 (by kernel_rfl) (by kernel_rfl) (by kernel_rfl) (fun _ _ _ h => h) (Or.inl ⟨?hw37, ?hy37⟩) (by assumption) ?rest37
        case hi37 => (simp only [List.getElem?_toArray, List.getElem?_cons_zero, List.getElem?_cons_succ]; rfl)
        case hw37 => rfl
        case hy37 => first | (intro wx hSw; obtain ⟨_, _, e0, e1, e2, e3, e4, e5, e6, e7⟩ := hSw; go_simp; done) | (intro wx hSw; obtain ⟨_, _, e0, e1, e2, e3, e4, e5, e6, e7⟩ := hSw; go_simp; with_reducible rfl)
        simp only [Act.put, List.setIfInBounds_toArray, List.set_cons_zero, List.set_cons_succ]
        refine wpAnyH_ready (rs := [26]) (by kernel_rfl) (by simp) ?_
        refine AllReadyH.cons rfl (fun K38 hK38 => ?_) AllReadyH.nil
        have hFF := hF
        obtain ⟨hF0, hF1, hF2, hF3, hF4, hF5, hF6, hF7, hF8⟩ := hF
        go_simp
        refine hK38.out _ _ ?hs38 (fun hHeld38 => ?_)
        case hs38 => exact sx_below hHeld hbz (below_set4 wc18.heap.size wc34 _ _ _ _)
        refine wpAnyH_done (by kernel_rfl) ?_ _
        refine NoPanic.normal ?_
        exact HREST.out _ _ (four_set hFF _ _ _ _) hHeld38.1
    · go_simp
      refine hK18.out _ _ (sx_alloc hHeld _) (fun hHeld18 => ?_)
      have hF := four_alloc .nilFunc .nilFunc .nilFunc .nilFunc 138 wc17
      have hbz : w.heap.size + 2 ≤ wc17.heap.size := hHeld.2.1
      clear hK18 K18 hHeld
      have hHeld := hHeld18; clear hHeld18
      refine wpAnyH_ready (rs := [9]) (by kernel_rfl) (by simp) ?_
      refine AllReadyH.cons rfl (fun K39 hK39 => ?_) AllReadyH.nil
      go_simp
      go_wp2_with (go_at_call 101; refine (whole_c k' n' s' t' _ HN.out.2.1).mono ?_; rintro e wc39 ⟨rfl, hb⟩)
      refine hK39.out _ _ (sx_call hHeld hb) (fun hHeld39 => ?_)
      replace hF := four_call hF hb
      clear hK39 K39 hb hHeld
      have hHeld := hHeld39; clear hHeld39
      refine wpAnyH_take (i := 10) (oi := ?oi40) (v := ?v40) ?hi40 (by kernel_rfl) (by kernel_rfl) (by kernel_rfl) (fun _ _ _ h => h) (Or.inl ⟨?hw40, ?hy40⟩) (by assumption) ?rest40
      case hi40 => (simp only [List.getElem?_toArray, List.getElem?_cons_zero, List.getElem?_cons_succ]; rfl)
      case hw40 => rfl
      case hy40 => first | (intro wx hSw; obtain ⟨_, _, e0, e1, e2, e3, e4, e5, e6, e7⟩ := hSw; go_simp; done) | (intro wx hSw; obtain ⟨_, _, e0, e1, e2, e3, e4, e5, e6, e7⟩ := hSw; go_simp; with_reducible rfl)
      simp only [Act.put, List.setIfInBounds_toArray, List.set_cons_zero, List.set_cons_succ]
      refine wpAnyH_take (i := 11) (oi := ?oi41) (v := ?v41) ?hi41 (by kernel_rfl) (by kernel_rfl) (by kernel_rfl) (fun _ _ _ h => h) (Or.inl ⟨?hw41, ?hy41⟩) (by assumption) ?rest41
      case hi41 => (simp only [List.getElem?_toArray, List.getElem?_cons_zero, List.getElem?_cons_succ]; rfl)
      case hw41 => rfl
      case hy41 => first | (intro wx hSw; obtain ⟨_, _, e0, e1, e2, e3, e4, e5, e6, e7⟩ := hSw; go_simp; done) | (intro wx hSw; obtain ⟨_, _, e0, e1, e2, e3, e4, e5, e6, e7⟩ := hSw; go_simp; with_reducible rfl)
      simp only [Act.put, List.setIfInBounds_toArray, List.set_cons_zero, List.set_cons_succ]
      refine wpAnyH_ready (rs := [13]) (by kernel_rfl) (by simp) ?_
      refine AllReadyH.cons rfl (fun K42 hK42 => ?_) AllReadyH.nil
      go_simp
      go_wp2_with (go_at_call 102; refine (mill_c k n s t _ HN.out.2.2.1).mono ?_; rintro e wc42 ⟨rfl, hb⟩)
      refine hK42.out _ _ (sx_call hHeld hb) (fun hHeld42 => ?_)
      replace hF := four_call hF hb
      clear hK42 K42 hb hHeld
      have hHeld := hHeld42; clear hHeld42
      refine wpAnyH_ready (rs := [15]) (by kernel_rfl) (by simp) ?_
      refine AllReadyH.cons rfl (fun K43 hK43 => ?_) AllReadyH.nil
      go_simp
      go_wp2_with (go_at_call 102; refine (mill_c k' n' s' t' _ HN.out.2.2.2).mono ?_; rintro e wc43 ⟨rfl, hb⟩)
      refine hK43.out _ _ (sx_call hHeld hb) (fun hHeld43 => ?_)
      replace hF := four_call hF hb
      clear hK43 K43 hb hHeld
      have hHeld := hHeld43; clear hHeld43
      refine wpAnyH_take (i := 16) (oi := ?oi44) (v := ?v44) ?hi44 (by kernel_rfl) (by kernel_rfl) (by kernel_rfl) (fun _ _ _ h => h) (Or.inl ⟨?hw44, ?hy44⟩) (by assumption) ?rest44
      case hi44 => (simp only [List.getElem?_toArray, List.getElem?_cons_zero, List.getElem?_cons_succ]; rfl)
      case hw44 => rfl
      case hy44 => first | (intro wx hSw; obtain ⟨_, _, e0, e1, e2, e3, e4, e5, e6, e7⟩ := hSw; go_simp; done) | (intro wx hSw; obtain ⟨_, _, e0, e1, e2, e3, e4, e5, e6, e7⟩ := hSw; go_simp; with_reducible rfl)
      simp only [Act.put, List.setIfInBounds_toArray, List.set_cons_zero, List.set_cons_succ]
      refine wpAnyH_take (i := 17) (oi := ?oi45) (v := ?v45) ?hi45 (by kernel_rfl) (by kernel_rfl) (by kernel_rfl) (fun _ _ _ h => h) (Or.inl ⟨?hw45, ?hy45⟩) (by assumption) ?rest45
      case hi45 => (simp only [List.getElem?_toArray, List.getElem?_cons_zero, List.getElem?_cons_succ]; rfl)
      case hw45 => rfl
      case hy45 => first | (intro wx hSw; obtain ⟨_, _, e0, e1, e2, e3, e4, e5, e6, e7⟩ := hSw; go_simp; done) | (intro wx hSw; obtain ⟨_, _, e0, e1, e2, e3, e4, e5, e6, e7⟩ := hSw; go_simp; with_reducible rfl)
      simp only [Act.put, List.setIfInBounds_toArray, List.set_cons_zero, List.set_cons_succ]
      refine wpAnyH_take (i := 24) (oi := ?oi46) (v := ?v46) ?hi46 (by kernel_rfl) (by kernel_rfl) (by kernel_rfl) (fun _ _ _ h => h) (Or.inl ⟨?hw46, ?hy46⟩) (by assumption) ?rest46
      case hi46 => (simp only [List.getElem?_toArray, List.getElem?_cons_zero, List.getElem?_cons_succ]; rfl)
      case hw46 => rfl
      case hy46 => first | (intro wx hSw; obtain ⟨_, _, e0, e1, e2, e3, e4, e5, e6, e7⟩ := hSw; go_simp; done) | (intro wx hSw; obtain ⟨_, _, e0, e1, e2, e3, e4, e5, e6, e7⟩ := hSw; go_simp; with_reducible rfl)
      simp only [Act.put, List.setIfInBounds_toArray, List.set_cons_zero, List.set_cons_succ]
      refine wpAnyH_ready (rs := [26]) (by kernel_rfl) (by simp) ?_
      refine AllReadyH.cons rfl (fun K47 hK47 => ?_) AllReadyH.nil
      have hFF := hF
      obtain ⟨hF0, hF1, hF2, hF3, hF4, hF5, hF6, hF7, hF8⟩ := hF
      go_simp
      refine hK47.out _ _ ?hs47 (fun hHeld47 => ?_)
      case hs47 => exact sx_below hHeld hbz (below_set4 wc17.heap.size wc43 _ _ _ _)
      refine wpAnyH_done (by kernel_rfl) ?_ _
      refine NoPanic.normal ?_
      exact HREST.out _ _ (four_set hFF _ _ _ _) hHeld47.1
  · go_simp
    refine hK17.out _ _ (sx_alloc hHeld _) (fun hHeld17 => ?_)
    have hF := four_alloc .nilFunc .nilFunc .nilFunc .nilFunc 138 W0
    have hbz : w.heap.size + 2 ≤ W0.heap.size := hHeld.2.1
    clear hK17 K17 hHeld
    have hHeld := hHeld17; clear hHeld17
    refine wpAnyH_ready (rs := [7]) (by kernel_rfl) (by simp) ?_
    refine AllReadyH.cons rfl (fun K48 hK48 => ?_) AllReadyH.nil
    go_simp
    go_wp2_with (go_at_call 101; refine (whole_c k n s t _ HN.out.1).mono ?_; rintro e wc48 ⟨rfl, hb⟩)
    refine hK48.out _ _ (sx_call hHeld hb) (fun hHeld48 => ?_)
    replace hF := four_call hF hb
    clear hK48 K48 hb hHeld
    have hHeld := hHeld48; clear hHeld48
    refine wpAnyH_ready (rs := [9]) (by kernel_rfl) (by simp) ?_
    refine AllReadyH.cons rfl (fun K49 hK49 => ?_) AllReadyH.nil
    go_simp
    go_wp2_with (go_at_call 101; refine (whole_c k' n' s' t' _ HN.out.2.1).mono ?_; rintro e wc49 ⟨rfl, hb⟩)
    refine hK49.out _ _ (sx_call hHeld hb) (fun hHeld49 => ?_)
    replace hF := four_call hF hb
    clear hK49 K49 hb hHeld
    have hHeld := hHeld49; clear hHeld49
    refine wpAnyH_take (i := 10) (oi := ?oi50) (v := ?v50) ?hi50 (by kernel_rfl) (by kernel_rfl) (by kernel_rfl) (fun _ _ _ h => h) (Or.inl ⟨?hw50, ?hy50⟩) (by assumption) ?rest50
    case hi50 => (simp only [List.getElem?_toArray, List.getElem?_cons_zero, List.getElem?_cons_succ]; rfl)
    case hw50 => rfl
    case hy50 => first | (intro wx hSw; obtain ⟨_, _, e0, e1, e2, e3, e4, e5, e6, e7⟩ := hSw; go_simp; done) | (intro wx hSw; obtain ⟨_, _, e0, e1, e2, e3, e4, e5, e6, e7⟩ := hSw; go_simp; with_reducible rfl)
    simp only [Act.put, List.setIfInBounds_toArray, List.set_cons_zero, List.set_cons_succ]
    refine wpAnyH_take (i := 11) (oi := ?oi51) (v := ?v51) ?hi51 (by kernel_rfl) (by kernel_rfl) (by kernel_rfl) (fun _ _ _ h => h) (Or.inl ⟨?hw51, ?hy51⟩) (by assumption) ?rest51
    case hi51 => (simp only [List.getElem?_toArray, List.getElem?_cons_zero, List.getElem?_cons_succ]; rfl)
    case hw51 => rfl
    case hy51 => first | (intro wx hSw; obtain ⟨_, _, e0, e1, e2, e3, e4, e5, e6, e7⟩ := hSw; go_simp; done) | (intro wx hSw; obtain ⟨_, _, e0, e1, e2, e3, e4, e5, e6, e7⟩ := hSw; go_simp; with_reducible rfl)
    simp only [Act.put, List.setIfInBounds_toArray, List.set_cons_zero, List.set_cons_succ]
    refine wpAnyH_ready (rs := [13]) (by kernel_rfl) (by simp) ?_
    refine AllReadyH.cons rfl (fun K52 hK52 => ?_) AllReadyH.nil
    go_simp
    go_wp2_with (go_at_call 102; refine (mill_c k n s t _ HN.out.2.2.1).mono ?_; rintro e wc52 ⟨rfl, hb⟩)
    refine hK52.out _ _ (sx_call hHeld hb) (fun hHeld52 => ?_)
    replace hF := four_call hF hb
    clear hK52 K52 hb hHeld
    have hHeld := hHeld52; clear hHeld52
    refine wpAnyH_ready (rs := [15]) (by kernel_rfl) (by simp) ?_
    refine AllReadyH.cons rfl (fun K53 hK53 => ?_) AllReadyH.nil
    go_simp
    go_wp2_with (go_at_call 102; refine (mill_c k' n' s' t' _ HN.out.2.2.2).mono ?_; rintro e wc53 ⟨rfl, hb⟩)
    refine hK53.out _ _ (sx_call hHeld hb) (fun hHeld53 => ?_)
    replace hF := four_call hF hb
    clear hK53 K53 hb hHeld
    have hHeld := hHeld53; clear hHeld53
    refine wpAnyH_take (i := 16) (oi := ?oi54) (v := ?v54) ?hi54 (by kernel_rfl) (by kernel_rfl) (by kernel_rfl) (fun _ _ _ h => h) (Or.inl ⟨?hw54, ?hy54⟩) (by assumption) ?rest54
    case hi54 => (simp only [List.getElem?_toArray, List.getElem?_cons_zero, List.getElem?_cons_succ]; rfl)
    case hw54 => rfl
    case hy54 => first | (intro wx hSw; obtain ⟨_, _, e0, e1, e2, e3, e4, e5, e6, e7⟩ := hSw; go_simp; done) | (intro wx hSw; obtain ⟨_, _, e0, e1, e2, e3, e4, e5, e6, e7⟩ := hSw; go_simp; with_reducible rfl)
    simp only [Act.put, List.setIfInBounds_toArray, List.set_cons_zero, List.set_cons_succ]
    refine wpAnyH_take (i := 17) (oi := ?oi55) (v := ?v55) ?hi55 (by kernel_rfl) (by kernel_rfl) (by kernel_rfl) (fun _ _ _ h => h) (Or.inl ⟨?hw55, ?hy55⟩) (by assumption) ?rest55
    case hi55 => (simp only [List.getElem?_toArray, List.getElem?_cons_zero, List.getElem?_cons_succ]; rfl)
    case hw55 => rfl
    case hy55 => first | (intro wx hSw; obtain ⟨_, _, e0, e1, e2, e3, e4, e5, e6, e7⟩ := hSw; go_simp; done) | (intro wx hSw; obtain ⟨_, _, e0, e1, e2, e3, e4, e5, e6, e7⟩ := hSw; go_simp; with_reducible rfl)
    simp only [Act.put, List.setIfInBounds_toArray, List.set_cons_zero, List.set_cons_succ]
    refine wpAnyH_take (i := 24) (oi := ?oi56) (v := ?v56) ?hi56 (by kernel_rfl) (by kernel_rfl) (by kernel_rfl) (fun _ _ _ h => h) (Or.inl ⟨?hw56, ?hy56⟩) (by assumption) ?rest56
    case hi56 => (simp only [List.getElem?_toArray, List.getElem?_cons_zero, List.getElem?_cons_succ]; rfl)
    case hw56 => rfl
    case hy56 => first | (intro wx hSw; obtain ⟨_, _, e0, e1, e2, e3, e4, e5, e6, e7⟩ := hSw; go_simp; done) | (intro wx hSw; obtain ⟨_, _, e0, e1, e2, e3, e4, e5, e6, e7⟩ := hSw; go_simp; with_reducible rfl)
    simp only [Act.put, List.setIfInBounds_toArray, List.set_cons_zero, List.set_cons_succ]
    refine wpAnyH_ready (rs := [26]) (by kernel_rfl) (by simp) ?_
    refine AllReadyH.cons rfl (fun K57 hK57 => ?_) AllReadyH.nil
    have hFF := hF
    obtain ⟨hF0, hF1, hF2, hF3, hF4, hF5, hF6, hF7, hF8⟩ := hF
    go_simp
    refine hK57.out _ _ ?hs57 (fun hHeld57 => ?_)
    case hs57 => exact sx_below hHeld hbz (below_set4 W0.heap.size wc53 _ _ _ _)
    refine wpAnyH_done (by kernel_rfl) ?_ _
    refine NoPanic.normal ?_
    exact HREST.out _ _ (four_set hFF _ _ _ _) hHeld57.1
end Go.Proofs.Ytliefgkhpgigaaa
