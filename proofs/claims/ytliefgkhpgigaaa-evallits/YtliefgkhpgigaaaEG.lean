/-
  What package eval's small functions over types return; what a column's name finds.
-/
import Derived.Test.YtliefgkhpgigaaaEA
import Derived.Test.YtliefgkhpgigaaaM
import Derived.Test.YtliefgkhpgigaaaRows
import Derived.WalkKit
import Derived.WalkSpells
import Derived.RangeFuncBox
namespace Go.Proofs.Ytliefgkhpgigaaa
open Go.RowKit
set_option linter.unusedSimpArgs false
set_option linter.unusedVariables false

def logB (k : Int) : Bool := k == 0 || k == 1
def numBt (k : Int) : Bool := k == 0 || (k == 2 || k == 3)
def matchB (a b : Int) : Bool := a == b || (a == 0 || b == 0)
def notN (a b : Int) : Int := if a == 0 then b else a
def typeIfR (p : Bool) (k : Int) : Int × Int := if p then (k, 0) else (0, 5)
set_option maxHeartbeats 400000 in
theorem logical_any (k : Int) (w : World) : Calls Try.prog 59 #[.int .i64 k] w fun e w' => e = .returned (.bool (logB k)) ∧ w' = w := by
  unfold logB
  cases h : (k == 0)
  · go_enter Try.func59, Try.ntmps59
    go_wp2
    go_ret
    exact ⟨ret_bool (by simp), rfl⟩
  · go_enter Try.func59, Try.ntmps59
    go_wp2
    go_ret
    exact ⟨ret_bool (by simp), rfl⟩
set_option maxHeartbeats 400000 in
theorem enumeric_any (k : Int) (w : World) : Calls Try.prog 60 #[.int .i64 k] w fun e w' => e = .returned (.bool (numBt k)) ∧ w' = w := by
  unfold numBt
  cases h : (k == 0)
  · cases h2 : (k == 2)
    all_goals
      go_enter Try.func60, Try.ntmps60
      go_wp2
      go_ret
      exact ⟨ret_bool (by simp), rfl⟩
  · go_enter Try.func60, Try.ntmps60
    go_wp2
    go_ret
    exact ⟨ret_bool (by simp), rfl⟩
set_option maxHeartbeats 400000 in
theorem match_any (a b : Int) (w : World) : Calls Try.prog 61 #[.int .i64 a, .int .i64 b] w fun e w' => e = .returned (.bool (matchB a b)) ∧ w' = w := by
  unfold matchB
  cases h : (a == b)
  · cases h2 : (a == 0)
    all_goals
      go_enter Try.func61, Try.ntmps61
      go_wp2
      go_ret
      exact ⟨ret_bool (by simp), rfl⟩
  · go_enter Try.func61, Try.ntmps61
    go_wp2
    go_ret
    exact ⟨ret_bool (by simp), rfl⟩
set_option maxHeartbeats 400000 in
theorem notNull_any (a b : Int) (w : World) : Calls Try.prog 62 #[.int .i64 a, .int .i64 b] w fun e w' => e = .returned (.int .i64 (notN a b)) ∧ w' = w := by
  unfold notN
  cases h : (a == 0)
  · go_enter Try.func62, Try.ntmps62
    go_wp2
    go_ret
    exact ⟨rfl, rfl⟩
  · go_enter Try.func62, Try.ntmps62
    go_wp2
    go_ret
    exact ⟨rfl, rfl⟩
theorem tup_ii2 {a b c d : Int} (h1 : a = b) (h2 : c = d) : Ending.returned (.tuple #[.int .i64 a, .int .i64 c]) = .returned (.tuple #[.int .i64 b, .int .i64 d]) := by rw [h1, h2]
set_option maxHeartbeats 400000 in
theorem typeIf_any (p : Bool) (k : Int) (w : World) : Calls Try.prog 58 #[.bool p, .int .i64 k] w fun e w' => e = .returned (.tuple #[.int .i64 (typeIfR p k).1, .int .i64 (typeIfR p k).2]) ∧ w' = w := by
  unfold typeIfR
  cases p
  · go_enter Try.func58, Try.ntmps58
    go_wp2
    go_ret2
    exact ⟨rfl, rfl⟩
  · go_enter Try.func58, Try.ntmps58
    go_wp2
    go_ret2
    exact ⟨rfl, rfl⟩

abbrev C3 := ByteArray × Int × Bool
/-- a table's columns, as they lie -/
def ColAt (g i : Nat) (c : C3) (W : World) : Prop := W.cell? ⟨g, i * 3, none⟩ = some (.string c.1) ∧ W.cell? ⟨g, i * 3 + 1, none⟩ = some (.int .i64 c.2.1) ∧ W.cell? ⟨g, i * 3 + 2, none⟩ = some (.bool c.2.2)
def ColsOf (v : Value) (cs : List C3) (W : World) : Prop := ∃ g cap, v = .slice (some ⟨g, 0, none⟩) cs.length cap ∧ g < W.heap.size ∧ cs.length ≤ 1000 ∧ ∀ i (h : i < cs.length), ColAt g i cs[i] W
theorem ColsOf.call {v : Value} {cs : List C3} {W W' : World} (h : ColsOf v cs W) (hb : Below W.heap.size W W') : ColsOf v cs W' := by
  obtain ⟨g, cap, h1, h2, h3, h4⟩ := h
  exact ⟨g, cap, h1, Nat.lt_of_lt_of_le h2 hb.size, h3, fun i hi => ⟨(hb.cell (p := ⟨g, i * 3, none⟩) h2).trans (h4 i hi).1, (hb.cell (p := ⟨g, i * 3 + 1, none⟩) h2).trans (h4 i hi).2.1, (hb.cell (p := ⟨g, i * 3 + 2, none⟩) h2).trans (h4 i hi).2.2⟩⟩
/-- the first column of a name from a place on -/
def colFrom (nm : ByteArray) : List C3 → Option C3
  | [] => none
  | c :: l => if c.1.toList == nm.toList then some c else colFrom nm l
def colR (nm : ByteArray) (cs : List C3) : C3 × Int := match colFrom nm cs with
  | some c => (c, 0)
  | none => ((⟨#[]⟩, 0, false), 4)
/-- a table: its columns are its second cell -/
abbrev Tab (t0 v t2 t3 t4 t5 t6 t7 t8 t9 t10 t11 : Value) : Value := .agg #[t0, v, t2, t3, t4, t5, t6, t7, t8, t9, t10, t11]

set_option maxHeartbeats 1000000 in
set_option maxRecDepth 100000 in
theorem ofColC_any (t0 t2 t3 t4 t5 t6 t7 t8 t9 t10 t11 v : Value) (cs : List C3) (nm : ByteArray) (w : World) (hv : ColsOf v cs w) :
    Calls Try.prog 57 #[Tab t0 v t2 t3 t4 t5 t6 t7 t8 t9 t10 t11, v, .string nm] w fun e W => e = .returned (.tuple #[.agg #[.string (colR nm cs).1.1, .int .i64 (colR nm cs).1.2.1, .bool (colR nm cs).1.2.2], .int .i64 (colR nm cs).2]) ∧ Below w.heap.size w W := by
  obtain ⟨g, cap, rfl, hg, h1000, hc⟩ := hv
  have HC := hide hc
  clear hc
  go_enter Try.func57, Try.ntmps57
  go_wp2
  go_loopw [14] (fun i wr => ∃ k : Nat, k ≤ cs.length ∧ i = .int .i64 (k : Int) ∧ Hid (colFrom nm (cs.drop k) = colFrom nm cs) ∧ wr.heap[w.heap.size + 1]? = some (.cells #[.string ⟨#[]⟩, .int .i64 0, .bool false] 63 (0, 0)) ∧ Below w.heap.size w wr) (fun i _ => cs.length - (intOf i).toNat)
  case atStart =>
    refine ⟨0, Nat.zero_le _, rfl, rfl, ?_, ((Below.refl _ w).alloc (Nat.le_refl _) _).alloc (by simp) _⟩
    have := World.alloc_heap_new (w.alloc (.cells #[t0, .slice (some ⟨g, 0, none⟩) cs.length cap, t2, t3, t4, t5, t6, t7, t8, t9, t10, t11] 34)) (.cells #[.string ⟨#[]⟩, .int .i64 0, .bool false] 63)
    rwa [World.size_alloc] at this
  case round =>
    obtain ⟨k, hk, rfl, HF, hbox, hB⟩ := hrel
    have hlt9 := (Array.getElem?_eq_some_iff.1 hbox).1
    have r0 := cell_of_row wr _ 0 _ _ _ hbox
    have r1 := cell_of_row wr _ 1 _ _ _ hbox
    have r2 := cell_of_row wr _ 2 _ _ _ hbox
    have f0 : ∀ j, wr.frozen? ⟨w.heap.size + 1, j, none⟩ = false := fun j => by simp [World.frozen?, hbox]
    have f1 := f0 0
    have f2 := f0 1
    have f3 := f0 2
    clear f0
    simp at r0 r1 r2
    have hgw : g < wr.heap.size := Nat.lt_of_lt_of_le hg hB.size
    have hne : g ≠ w.heap.size + 1 := by omega
    by_cases hlt : k < cs.length
    · have hlti : (k : Int) < cs.length := by omega
      obtain ⟨c0, c1, c2⟩ := unhide HC k hlt
      have d0 := (hB.cell (p := ⟨g, k * 3, none⟩) hg).trans c0
      have d1 := (hB.cell (p := ⟨g, k * 3 + 1, none⟩) hg).trans c1
      have d2 := (hB.cell (p := ⟨g, k * 3 + 2, none⟩) hg).trans c2
      have hdr : cs.drop k = cs[k] :: cs.drop (k + 1) := List.drop_eq_getElem_cons hlt
      have HD : Hid (colFrom nm (cs.drop k) = if cs[k].1.toList == nm.toList then some cs[k] else colFrom nm (cs.drop (k + 1))) := by show _ = _; rw [hdr]; rfl
      clear c0 c1 c2 hdr
      generalize cs[k] = x at *
      cases hx : (x.1.toList == nm.toList)
      · go_wp2_with fail
        go_roundw
        case rel =>
          refine ⟨k + 1, by omega, by go_num, ?_, ?_, hB.alloc hB.size _⟩
          · have h1 := HD.out
            rw [hx, HF.out] at h1
            exact h1.symm
          · exact (Below.heap_alloc wr _ _ hlt9).trans hbox
        case measure => simp [intOf]; omega
      · have hR : Hid (colR nm cs = (x, 0)) := by
          show _ = _
          have h1 := HD.out
          rw [hx, HF.out] at h1
          unfold colR
          rw [h1]; rfl
        go_wp2_with fail
        refine bodyPost_ret (v := .tuple #[.agg #[.string x.1, .int .i64 x.2.1, .bool x.2.2], .int .i64 0]) (by simp [results, Try.results57, go_sem, r0, r1, r2, hlt9]) rfl ⟨by rw [hR.out], ?_⟩
        exact (((hB.setCell (p := ⟨w.heap.size + 1, 0, none⟩) (Nat.le_succ _) _).setCell (p := ⟨w.heap.size + 1, 1, none⟩) (Nat.le_succ _) _).setCell (p := ⟨w.heap.size + 1, 2, none⟩) (Nat.le_succ _) _).alloc (by simp; exact hB.size) _
    · obtain rfl : k = cs.length := by omega
      have hR : Hid (colR nm cs = ((⟨#[]⟩, 0, false), 4)) := by
        show _ = _
        have h1 := HF.out
        rw [List.drop_length] at h1
        unfold colR
        rw [← h1]; rfl
      go_wp2_with fail
      refine bodyPost_ret (v := .tuple #[.agg #[.string ⟨#[]⟩, .int .i64 0, .bool false], .int .i64 4]) (by simp [results, Try.results57, go_sem, r0, r1, r2, hlt9]) rfl ⟨by rw [hR.out], ?_⟩
      exact (((hB.setCell (p := ⟨w.heap.size + 1, 0, none⟩) (Nat.le_succ _) _).setCell (p := ⟨w.heap.size + 1, 1, none⟩) (Nat.le_succ _) _).setCell (p := ⟨w.heap.size + 1, 2, none⟩) (Nat.le_succ _) _).alloc (by simp; exact hB.size) _
end Go.Proofs.Ytliefgkhpgigaaa
