/-
  What a row has of a column of a name: package eval's ofColumn of values.
-/
import Derived.Test.YtliefgkhpgigaaaEO
namespace Go.Proofs.Ytliefgkhpgigaaa
open Go.RowKit
set_option linter.unusedSimpArgs false
set_option linter.unusedVariables false

/-- a row's values, as they lie -/
def ValAt (g i : Nat) (c : V4) (W : World) : Prop := W.cell? ⟨g, i * 4, none⟩ = some (.int .i64 c.1) ∧ W.cell? ⟨g, i * 4 + 1, none⟩ = some (.int .i64 c.2.1) ∧ W.cell? ⟨g, i * 4 + 2, none⟩ = some (.int .i64 c.2.2.1) ∧ W.cell? ⟨g, i * 4 + 3, none⟩ = some (.string c.2.2.2)
def RowOf (p : Option Addr) (vs : List V4) (W : World) : Prop := vs.length ≤ 1000 ∧ ∀ i (h : i < vs.length), ∃ g, p = some ⟨g, 0, none⟩ ∧ g < W.heap.size ∧ ValAt g i vs[i] W
theorem RowOf.call {p : Option Addr} {vs : List V4} {W W' : World} (h : RowOf p vs W) (hb : Below W.heap.size W W') : RowOf p vs W' := by
  refine ⟨h.1, fun i hi => ?_⟩
  obtain ⟨g, h1, h2, h3⟩ := h.2 i hi
  exact ⟨g, h1, Nat.lt_of_lt_of_le h2 hb.size, (hb.cell (p := ⟨g, i * 4, none⟩) h2).trans h3.1, (hb.cell (p := ⟨g, i * 4 + 1, none⟩) h2).trans h3.2.1, (hb.cell (p := ⟨g, i * 4 + 2, none⟩) h2).trans h3.2.2.1, (hb.cell (p := ⟨g, i * 4 + 3, none⟩) h2).trans h3.2.2.2⟩
def valFrom (nm : ByteArray) : List C3 → List V4 → Option V4
  | c :: l, v :: vs => if c.1.toList == nm.toList then some v else valFrom nm l vs
  | _, _ => none
def valR (nm : ByteArray) (cs : List C3) (vs : List V4) : V4 × Int := match valFrom nm cs vs with
  | some v => (v, 0)
  | none => (Z4, 4)
theorem valFrom_nil (nm : ByteArray) (cs : List C3) : valFrom nm cs [] = none := by cases cs <;> rfl

set_option maxHeartbeats 1000000 in
set_option maxRecDepth 100000 in
theorem ofColV_any (t0 t2 t3 t4 t5 t6 t7 t8 t9 t10 t11 v : Value) (cs : List C3) (p : Option Addr) (vs : List V4) (rcap : Nat) (nm : ByteArray) (w : World) (hv : ColsOf v cs w) (hr : RowOf p vs w) :
    Calls Try.prog 65 #[Tab t0 v t2 t3 t4 t5 t6 t7 t8 t9 t10 t11, .slice p vs.length rcap, .string nm] w (FinV (valR nm cs vs) w) := by
  obtain ⟨g, cap, rfl, hg, h1000, hc⟩ := hv
  obtain ⟨hr1000, hrv⟩ := hr
  have HC := hide hc
  have HR := hide hrv
  clear hc hrv
  go_enter Try.func65, Try.ntmps65
  go_wp2
  go_loopw [14] (fun i wr => ∃ k : Nat, k ≤ cs.length ∧ i = .int .i64 (k : Int) ∧ Hid (valFrom nm (cs.drop k) (vs.drop k) = valFrom nm cs vs) ∧ wr.heap[w.heap.size + 1]? = some (.cells #[.int .i64 0, .int .i64 0, .int .i64 0, .string ⟨#[]⟩] 28 (0, 0)) ∧ Below w.heap.size w wr) (fun i _ => cs.length - (intOf i).toNat)
  case atStart =>
    refine ⟨0, Nat.zero_le _, rfl, rfl, ?_, ((Below.refl _ w).alloc (Nat.le_refl _) _).alloc (by simp) _⟩
    have := World.alloc_heap_new (w.alloc (.cells #[t0, .slice (some ⟨g, 0, none⟩) cs.length cap, t2, t3, t4, t5, t6, t7, t8, t9, t10, t11] 34)) (.cells #[.int .i64 0, .int .i64 0, .int .i64 0, .string ⟨#[]⟩] 28)
    rwa [World.size_alloc] at this
  case round =>
    obtain ⟨k, hk, rfl, HF, hbox, hB⟩ := hrel
    have hlt9 := (Array.getElem?_eq_some_iff.1 hbox).1
    have r0 := cell_of_row wr _ 0 _ _ _ hbox
    have r1 := cell_of_row wr _ 1 _ _ _ hbox
    have r2 := cell_of_row wr _ 2 _ _ _ hbox
    have r3 := cell_of_row wr _ 3 _ _ _ hbox
    have f0 : ∀ j, wr.frozen? ⟨w.heap.size + 1, j, none⟩ = false := fun j => by simp [World.frozen?, hbox]
    have f1 := f0 0
    have f2 := f0 1
    have f3 := f0 2
    have f4 := f0 3
    clear f0
    simp at r0 r1 r2 r3
    have hgw : g < wr.heap.size := Nat.lt_of_lt_of_le hg hB.size
    have hne : g ≠ w.heap.size + 1 := by omega
    by_cases hlt : k < cs.length
    · have hlti : (k : Int) < cs.length := by omega
      obtain ⟨c0, c1, c2⟩ := unhide HC k hlt
      have d0 := (hB.cell (p := ⟨g, k * 3, none⟩) hg).trans c0
      have d1 := (hB.cell (p := ⟨g, k * 3 + 1, none⟩) hg).trans c1
      have d2 := (hB.cell (p := ⟨g, k * 3 + 2, none⟩) hg).trans c2
      have hdr : cs.drop k = cs[k] :: cs.drop (k + 1) := List.drop_eq_getElem_cons hlt
      clear c0 c1 c2
      by_cases hvl : k < vs.length
      · have hvli : (k : Int) < vs.length := by omega
        have hdv : vs.drop k = vs[k] :: vs.drop (k + 1) := List.drop_eq_getElem_cons hvl
        have HD : Hid (valFrom nm (cs.drop k) (vs.drop k) = if cs[k].1.toList == nm.toList then some vs[k] else valFrom nm (cs.drop (k + 1)) (vs.drop (k + 1))) := by show _ = _; rw [hdr, hdv]; rfl
        obtain ⟨gr, rfl, hgr, b0, b1, b2, b3⟩ := unhide HR k hvl
        have v0 := (hB.cell (p := ⟨gr, k * 4, none⟩) hgr).trans b0
        have v1 := (hB.cell (p := ⟨gr, k * 4 + 1, none⟩) hgr).trans b1
        have v2 := (hB.cell (p := ⟨gr, k * 4 + 2, none⟩) hgr).trans b2
        have v3 := (hB.cell (p := ⟨gr, k * 4 + 3, none⟩) hgr).trans b3
        have hgrw : gr < wr.heap.size := Nat.lt_of_lt_of_le hgr hB.size
        clear b0 b1 b2 b3 hdr hdv
        generalize cs[k] = x at *
        generalize vs[k] = y at *
        cases hx : (x.1.toList == nm.toList)
        · go_wp2_with fail
          go_roundw
          case rel =>
            refine ⟨k + 1, by omega, by go_num, ?_, ?_, hB.alloc hB.size _⟩
            · have h1 := HD.out
              rw [hx, HF.out] at h1
              exact h1.symm
            · exact (Below.heap_alloc wr _ _ hlt9).trans hbox
          case measure => simp [intOf]; omega
        · have hR : Hid (valR nm cs vs = (y, 0)) := by
            show _ = _
            have h1 := HD.out
            rw [hx, HF.out] at h1
            unfold valR
            rw [h1]; rfl
          go_wp2_with fail
          refine bodyPost_ret (v := .tuple #[.agg (vC y).toArray, .int .i64 0]) (by simp [results, Try.results65, go_sem, r0, r1, r2, r3, hlt9]) rfl ⟨by rw [hR.out], ?_⟩
          exact ((((hB.setCell (p := ⟨w.heap.size + 1, 0, none⟩) (Nat.le_succ _) _).setCell (p := ⟨w.heap.size + 1, 1, none⟩) (Nat.le_succ _) _).setCell (p := ⟨w.heap.size + 1, 2, none⟩) (Nat.le_succ _) _).setCell (p := ⟨w.heap.size + 1, 3, none⟩) (Nat.le_succ _) _).alloc (by simp; exact hB.size) _
      · have hvli : ¬ (k : Int) < vs.length := by omega
        have e1 : vs.drop k = [] := List.drop_eq_nil_of_le (by omega)
        have e2 : vs.drop (k + 1) = [] := List.drop_eq_nil_of_le (by omega)
        have HN : Hid (valFrom nm (cs.drop (k + 1)) (vs.drop (k + 1)) = valFrom nm cs vs) := by
          show _ = _
          rw [← HF.out, e1, e2, valFrom_nil, valFrom_nil]
        clear hdr e1 e2
        generalize cs[k] = x at *
        cases hx : (x.1.toList == nm.toList)
        all_goals
          go_wp2_with fail
          go_roundw
          case rel => exact ⟨k + 1, by omega, by go_num, HN, (Below.heap_alloc wr _ _ hlt9).trans hbox, hB.alloc hB.size _⟩
          case measure => simp [intOf]; omega
    · obtain rfl : k = cs.length := by omega
      have hR : Hid (valR nm cs vs = (Z4, 4)) := by
        show _ = _
        have h1 := HF.out
        rw [List.drop_length] at h1
        unfold valR
        rw [← h1]; rfl
      go_wp2_with fail
      refine bodyPost_ret (v := .tuple #[.agg (vC Z4).toArray, .int .i64 4]) (by simp [results, Try.results65, go_sem, r0, r1, r2, r3, hlt9]) rfl ⟨by rw [hR.out], ?_⟩
      exact ((((hB.setCell (p := ⟨w.heap.size + 1, 0, none⟩) (Nat.le_succ _) _).setCell (p := ⟨w.heap.size + 1, 1, none⟩) (Nat.le_succ _) _).setCell (p := ⟨w.heap.size + 1, 2, none⟩) (Nat.le_succ _) _).setCell (p := ⟨w.heap.size + 1, 3, none⟩) (Nat.le_succ _) _).alloc (by simp; exact hB.size) _
end Go.Proofs.Ytliefgkhpgigaaa
