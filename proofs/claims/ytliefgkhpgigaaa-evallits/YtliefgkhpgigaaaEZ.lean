/-
  What the statements' own small functions return (chapter 4): tables, truths, expressions.
-/
import Derived.Test.YtliefgkhpgigaaaEX
import Derived.Test.YtliefgkhpgigaaaEI
namespace Go.Proofs.Ytliefgkhpgigaaa
open Go.RowKit
set_option linter.unusedSimpArgs false
set_option linter.unusedVariables false

/-- a block and what lies in it -/
def Blk (b : Nat) (cs : Array Value) (T : TypeId) (W : World) : Prop := W.heap[b]? = some (.cells cs T (0, 0))
theorem Blk.call {b : Nat} {cs : Array Value} {T : TypeId} {W W' : World} (h : Blk b cs T W) (hb : Below W.heap.size W W') : Blk b cs T W' := (hb.block _ (Array.getElem?_eq_some_iff.1 h).1).trans h
theorem Blk.lt {b : Nat} {cs : Array Value} {T : TypeId} {W : World} (h : Blk b cs T W) : b < W.heap.size := (Array.getElem?_eq_some_iff.1 h).1
theorem Blk.cell {b : Nat} {cs : Array Value} {T : TypeId} {W : World} (h : Blk b cs T W) (j : Nat) : W.cell? ⟨b, j, none⟩ = cs[j]? := cell_of_row W _ j cs _ _ h
theorem Blk.froz {b : Nat} {cs : Array Value} {T : TypeId} {W : World} (h : Blk b cs T W) (j : Nat) : W.frozen? ⟨b, j, none⟩ = false := by
  unfold Blk at h; simp [World.frozen?, h]
theorem Blk.new (W : World) (cs : Array Value) (T : TypeId) : Blk W.heap.size cs T (W.alloc (.cells cs T)) := World.alloc_heap_new W _
theorem below_new (W : World) (o : Obj) : Below W.heap.size W (W.alloc o) := (Below.refl _ W).alloc (Nat.le_refl _) _
/-- Below, carried on -/
def Grown (w W : World) : Prop := Below w.heap.size w W
theorem Grown.call {w W W' : World} (h : Grown w W) (hb : Below W.heap.size W W') : Grown w W' := Below.trans h (hb.mono (Below.size h))
theorem cells_of {g o : Nat} {A : Array Value} {T : TypeId} {W : World} (h : Blk g A T W) {cs : List Value} (hA : (A.toList.drop o).take cs.length = cs) : CellsAt g o cs W := by
  refine ⟨h.lt, fun j hj => ?_⟩
  have h2 : ((A.toList.drop o).take cs.length)[j]? = cs[j]? := congrArg (fun l => l[j]?) hA
  rw [List.getElem?_take_of_lt hj] at h2
  rw [h.cell, ← Array.getElem?_toList, ← List.getElem?_drop]
  exact h2
def colC : List C3 → List Value
  | [] => []
  | c :: l => .string c.1 :: .int .i64 c.2.1 :: .bool c.2.2 :: colC l
theorem colC_at : ∀ (cs : List C3) (i : Nat) (h : i < cs.length), (colC cs)[i * 3]? = some (.string cs[i].1) ∧ (colC cs)[i * 3 + 1]? = some (.int .i64 cs[i].2.1) ∧ (colC cs)[i * 3 + 2]? = some (.bool cs[i].2.2)
  | c :: l, 0, _ => ⟨rfl, rfl, rfl⟩
  | c :: l, i + 1, h => by
    have := colC_at l i (by simpa using h)
    rw [show (i + 1) * 3 = i * 3 + 3 by omega]
    exact this
theorem cols_of {g cap : Nat} {cs : List C3} {A : Array Value} {T : TypeId} {W : World} (h : Blk g A T W) (hA : A.toList = colC cs) (hl : cs.length ≤ 1000) : ColsOf (.slice (some ⟨g, 0, none⟩) cs.length cap) cs W := by
  refine ⟨g, cap, rfl, h.lt, hl, fun i hi => ?_⟩
  have := colC_at cs i hi
  refine ⟨?_, ?_, ?_⟩
  · rw [h.cell, ← Array.getElem?_toList, hA]; exact this.1
  · rw [h.cell, ← Array.getElem?_toList, hA]; exact this.2.1
  · rw [h.cell, ← Array.getElem?_toList, hA]; exact this.2.2
def rowC : List V4 → List Value
  | [] => []
  | v :: l => .int .i64 v.1 :: .int .i64 v.2.1 :: .int .i64 v.2.2.1 :: .string v.2.2.2 :: rowC l
theorem rowC_at : ∀ (vs : List V4) (i : Nat) (h : i < vs.length), (rowC vs)[i * 4]? = some (.int .i64 vs[i].1) ∧ (rowC vs)[i * 4 + 1]? = some (.int .i64 vs[i].2.1) ∧ (rowC vs)[i * 4 + 2]? = some (.int .i64 vs[i].2.2.1) ∧ (rowC vs)[i * 4 + 3]? = some (.string vs[i].2.2.2)
  | c :: l, 0, _ => ⟨rfl, rfl, rfl, rfl⟩
  | c :: l, i + 1, h => by
    have := rowC_at l i (by simpa using h)
    rw [show (i + 1) * 4 = i * 4 + 4 by omega]
    exact this
theorem row_of {g : Nat} {vs : List V4} {A : Array Value} {T : TypeId} {W : World} (h : Blk g A T W) (hA : A.toList = rowC vs) (hl : vs.length ≤ 1000) : RowOf (some ⟨g, 0, none⟩) vs W := by
  refine ⟨hl, fun i hi => ⟨g, rfl, h.lt, ?_⟩⟩
  have := rowC_at vs i hi
  refine ⟨?_, ?_, ?_, ?_⟩
  · rw [h.cell, ← Array.getElem?_toList, hA]; exact this.1
  · rw [h.cell, ← Array.getElem?_toList, hA]; exact this.2.1
  · rw [h.cell, ← Array.getElem?_toList, hA]; exact this.2.2.1
  · rw [h.cell, ← Array.getElem?_toList, hA]; exact this.2.2.2
abbrev S0 : ByteArray := ⟨#[]⟩
abbrev N0 : Value := .slice none 0 0
/-- a table without more than a name and columns -/
abbrev TabN (nm : ByteArray) (v : Value) : Value := Tab (.string nm) v (.int .i64 0) N0 (.int .i64 0) (.string S0) (.int .i64 0) (.int .i64 0) (.int .i64 0) (.string S0) N0 N0
abbrev colX (s : ByteArray) : Ex := .leaf 2 s Z4
abbrev twoX (k : Int) (a b : Ex) : Ex := .two k S0 Z4 a b
abbrev oneX (k : Int) (a : Ex) : Ex := .one k S0 Z4 a
abbrev cols4 : List C3 := [(⟨#[97]⟩, 2, false), (⟨#[98]⟩, 2, false), (⟨#[99]⟩, 1, false), (⟨#[100]⟩, 1, false)]
set_option maxHeartbeats 1000000 in
theorem colL_any (s : ByteArray) (w : World) : Calls Try.prog 27 #[.string s] w fun e W => e = .returned (.agg (exC (colX s) N0).toArray) ∧ Below w.heap.size w W := by
  go_enter Try.func27, Try.ntmps27
  go_wp2_with fail
  refine bodyPost_ret (v := .agg #[.int .i64 2, .string s, .int .i64 0, .int .i64 0, .int .i64 0, .string S0, N0]) (by simp [results, Try.results27, go_sem]) rfl ⟨rfl, ?_⟩
  exact below_new w _
set_option maxHeartbeats 1000000 in
theorem twoL_any (k : Int) (ea eb : Ex) (la lb : Value) (w : World) (ha : Rep ea la w) (hb : Rep eb lb w) : Calls Try.prog 26 #[.int .i64 k, .agg (exC ea la).toArray, .agg (exC eb lb).toArray] w fun e W => ∃ g, e = .returned (.agg (exC (twoX k ea eb) (.slice (some ⟨g, 0, none⟩) 2 2)).toArray) ∧ Rep (twoX k ea eb) (.slice (some ⟨g, 0, none⟩) 2 2) W ∧ Below w.heap.size w W := by
  have HA := hide ha
  have HB := hide hb
  clear ha hb
  go_enter Try.func26, Try.ntmps26
  go_wp2_with fail
  refine bodyPost_ret (v := .agg #[.int .i64 k, .string S0, .int .i64 0, .int .i64 0, .int .i64 0, .string S0, .slice (some ⟨w.heap.size + 1 + 1 + 1, 0, none⟩) 2 2]) (by simp [results, Try.results26, go_sem]) rfl ⟨w.heap.size + 1 + 1 + 1, rfl, ?_, below_4 w _ _ _ _⟩
  have hB := below_4 w (.cells (exC ea la).toArray 31) (.cells (exC eb lb).toArray 31) (.cells #[.int .i64 k, .string S0, .int .i64 0, .int .i64 0, .int .i64 0, .string S0, .slice (some ⟨w.heap.size + 1 + 1 + 1, 0, none⟩) 2 2] 31) (.cells (exC ea la ++ exC eb lb).toArray 31)
  have hn := Blk.new (((w.alloc (.cells (exC ea la).toArray 31)).alloc (.cells (exC eb lb).toArray 31)).alloc (.cells #[.int .i64 k, .string S0, .int .i64 0, .int .i64 0, .int .i64 0, .string S0, .slice (some ⟨w.heap.size + 1 + 1 + 1, 0, none⟩) 2 2] 31)) (exC ea la ++ exC eb lb).toArray 31
  rw [World.size_alloc, World.size_alloc, World.size_alloc] at hn
  exact ⟨_, _, la, lb, rfl, cells_of hn rfl, cells_of hn rfl, (unhide HA).call hB, (unhide HB).call hB⟩
set_option maxHeartbeats 1000000 in
theorem notL_any (ea : Ex) (la : Value) (w : World) (ha : Rep ea la w) : Calls Try.prog 28 #[.agg (exC ea la).toArray] w fun e W => ∃ g, e = .returned (.agg (exC (oneX 3 ea) (.slice (some ⟨g, 0, none⟩) 1 1)).toArray) ∧ Rep (oneX 3 ea) (.slice (some ⟨g, 0, none⟩) 1 1) W ∧ Below w.heap.size w W := by
  have HA := hide ha
  clear ha
  go_enter Try.func28, Try.ntmps28
  go_wp2_with fail
  have hB := ((below_new w (.cells (exC ea la).toArray 31)).alloc (by simp) (.cells #[.int .i64 3, .string S0, .int .i64 0, .int .i64 0, .int .i64 0, .string S0, .slice (some ⟨w.heap.size + 1 + 1, 0, none⟩) 1 1] 31)).alloc (by simp; omega) (.cells (exC ea la).toArray 31)
  refine bodyPost_ret (v := .agg #[.int .i64 3, .string S0, .int .i64 0, .int .i64 0, .int .i64 0, .string S0, .slice (some ⟨w.heap.size + 1 + 1, 0, none⟩) 1 1]) (by simp [results, Try.results28, go_sem]) rfl ⟨w.heap.size + 1 + 1, rfl, ?_, hB⟩
  have hn := Blk.new ((w.alloc (.cells (exC ea la).toArray 31)).alloc (.cells #[.int .i64 3, .string S0, .int .i64 0, .int .i64 0, .int .i64 0, .string S0, .slice (some ⟨w.heap.size + 1 + 1, 0, none⟩) 1 1] 31)) (exC ea la).toArray 31
  rw [World.size_alloc, World.size_alloc] at hn
  exact ⟨_, _, la, rfl, cells_of hn rfl, (unhide HA).call hB⟩
set_option maxHeartbeats 1000000 in
theorem colsL_any (w : World) : Calls Try.prog 24 #[] w fun e W => ∃ g, e = .returned (TabN ⟨#[116]⟩ (.slice (some ⟨g, 0, none⟩) 4 4)) ∧ ColsOf (.slice (some ⟨g, 0, none⟩) 4 4) cols4 W ∧ Below w.heap.size w W := by
  go_enter Try.func24, Try.ntmps24
  go_wp2_with fail
  have hB := (below_new w (.cells #[.string ⟨#[116]⟩, .slice (some ⟨w.heap.size + 1, 0, none⟩) 4 4, .int .i64 0, N0, .int .i64 0, .string S0, .int .i64 0, .int .i64 0, .int .i64 0, .string S0, N0, N0] 34)).alloc (by simp) (.cells (colC cols4).toArray 63)
  refine bodyPost_ret (v := .agg #[.string ⟨#[116]⟩, .slice (some ⟨w.heap.size + 1, 0, none⟩) 4 4, .int .i64 0, N0, .int .i64 0, .string S0, .int .i64 0, .int .i64 0, .int .i64 0, .string S0, N0, N0]) (by simp [results, Try.results24, go_sem]) rfl ⟨w.heap.size + 1, rfl, ?_, hB⟩
  have hn := Blk.new (w.alloc (.cells #[.string ⟨#[116]⟩, .slice (some ⟨w.heap.size + 1, 0, none⟩) 4 4, .int .i64 0, N0, .int .i64 0, .string S0, .int .i64 0, .int .i64 0, .int .i64 0, .string S0, N0, N0] 34)) (colC cols4).toArray 63
  rw [World.size_alloc] at hn
  exact cols_of hn rfl (by decide)
theorem within4_any (x n : Int) (w : World) (hx : Is64 x) (hn : 0 < n ∧ n ≤ 9223372036854775807) :
    Calls Try.prog 29 #[.int .i64 x, .int .i64 n] w fun e w' => e = .returned (.int .i64 (x % n)) ∧ w' = w := by
  have hb := Int.emod_lt_of_pos x hn.1
  have hb' := Int.emod_nonneg x (show n ≠ 0 by omega)
  have hlt := tmod_lt x n hn.1
  have hge := tmod_ge x n hn.1
  have H1 : Hid (x.tmod n < 0 → x.tmod n + n = x % n ∧ -n < x.tmod n) := hlt
  have H2 : Hid (0 ≤ x.tmod n → x.tmod n = x % n) := hge
  clear hlt hge
  go_enter Try.func29, Try.ntmps29
  go_wp2
  · go_ret
    refine ⟨ret_int ?_, rfl⟩
    have := H1.out ‹_›
    rw [this.1]; exact wrap64_is _ (by unfold Is64; omega)
  · go_ret
    exact ⟨ret_int (H2.out ‹_›), rfl⟩
def truthV (m : Int) : V4 := if m = 0 then (1, 1, 0, S0) else if m = 1 then (1, 0, 0, S0) else Z4
theorem truthV_ok (m : Int) : OkV (truthV m) := by
  unfold truthV
  split
  · exact ⟨is64_n _ (by decide), by decide, fun h => by simp at h, by decide⟩
  · split
    · exact ⟨is64_n _ (by decide), by decide, fun h => by simp at h, by decide⟩
    · exact okZ
set_option maxHeartbeats 1000000 in
theorem truthL_any (n : Int) (w : World) (hn : Is64 n) : Calls Try.prog 25 #[.int .i64 n] w fun e W => e = .returned (.agg (vC (truthV (n % 3))).toArray) ∧ Below w.heap.size w W := by
  have CW := hide (fun W => within4_any n 3 W hn (by decide))
  have h0 := Int.emod_nonneg n (show (3 : Int) ≠ 0 by decide)
  have h3 := Int.emod_lt_of_pos n (show (0 : Int) < 3 by decide)
  have hm : n % 3 = 0 ∨ n % 3 = 1 ∨ n % 3 = 2 := by omega
  generalize n % 3 = m at *
  clear h0 h3
  have hB := (below_new w (.cells (vC Z4).toArray 28)).alloc (by simp) (.cells (rowC [(1, 1, 0, S0), (1, 0, 0, S0), Z4]).toArray 28)
  have HB := hide hB
  clear hB
  rcases hm with rfl | rfl | rfl
  · go_enter Try.func25, Try.ntmps25
    go_wp2_with (go_at_call 29; refine (unhide CW _).mono ?_; rintro e W1 ⟨rfl, rfl⟩)
    refine bodyPost_ret (v := .agg (vC (1, 1, 0, S0)).toArray) (by simp [results, Try.results25, go_sem]) rfl ⟨rfl, ?_⟩
    exact (below_new w _).alloc (by simp) _
  · go_enter Try.func25, Try.ntmps25
    go_wp2_with (go_at_call 29; refine (unhide CW _).mono ?_; rintro e W1 ⟨rfl, rfl⟩)
    refine bodyPost_ret (v := .agg (vC (1, 0, 0, S0)).toArray) (by simp [results, Try.results25, go_sem]) rfl ⟨rfl, ?_⟩
    exact (below_new w _).alloc (by simp) _
  · go_enter Try.func25, Try.ntmps25
    go_wp2_with (go_at_call 29; refine (unhide CW _).mono ?_; rintro e W1 ⟨rfl, rfl⟩)
    refine bodyPost_ret (v := .agg (vC Z4).toArray) (by simp [results, Try.results25, go_sem]) rfl ⟨rfl, ?_⟩
    exact (below_new w _).alloc (by simp) _
end Go.Proofs.Ytliefgkhpgigaaa
