/-
  federationlaw3's Table: what it calls.
-/
import Derived.Test.YtliefgkhpgigaaaVRw
namespace Go.Proofs.Ytliefgkhpgigaaa
open Go.RowKit Go.Shelf
set_option linter.unusedSimpArgs false
set_option linter.unusedVariables false

theorem within3_any (x n : Int) (w : World) (hx : Is64 x) (hn : 0 < n ∧ n ≤ 9223372036854775807) :
    Calls Try.prog 34 #[.int .i64 x, .int .i64 n] w fun e w' => e = .returned (.int .i64 (x % n)) ∧ w' = w := by
  have hb := Int.emod_lt_of_pos x hn.1
  have hb' := Int.emod_nonneg x (show n ≠ 0 by omega)
  have hlt := tmod_lt x n hn.1
  have hge := tmod_ge x n hn.1
  have H1 : Hid (x.tmod n < 0 → x.tmod n + n = x % n ∧ -n < x.tmod n) := hlt
  have H2 : Hid (0 ≤ x.tmod n → x.tmod n = x % n) := hge
  clear hlt hge
  go_enter Try.func34, Try.ntmps34
  go_wp2
  · go_ret
    refine ⟨ret_int ?_, rfl⟩
    have := H1.out ‹_›
    rw [this.1]; exact wrap64_is _ (by unfold Is64; omega)
  · go_ret
    exact ⟨ret_int (H2.out ‹_›), rfl⟩
set_option maxRecDepth 100000 in
theorem nameL_any (n : Int) (w : World) (hn : Is64 n) : Calls Try.prog 33 #[.int .i64 n] w fun e W => ∃ s : ByteArray, e = .returned (.string s) ∧ Below w.heap.size w W := by
  have h0 := Int.emod_nonneg n (show (4 : Int) ≠ 0 by decide)
  have h1 := Int.emod_lt_of_pos n (show (0 : Int) < 4 by decide)
  have hm : n % 4 = 0 ∨ n % 4 = 1 ∨ n % 4 = 2 ∨ n % 4 = 3 := by omega
  have CW := hide (fun W => within3_any n 4 W hn (by decide))
  generalize n % 4 = m at *
  clear h0 h1
  go_enter Try.func33, Try.ntmps33
  go_wp2_with fail
  refine (unhide CW _).mono ?_
  rintro e W1 ⟨rfl, rfl⟩
  have hb := Blk.new w #[.string ⟨#[116]⟩, .string ⟨#[117]⟩, .string ⟨#[119, 95, 49]⟩, .string ⟨#[116, 119, 101, 108, 118, 101, 95, 98, 121, 116, 101, 115]⟩] 9
  have gb := below_new w (.cells #[.string ⟨#[116]⟩, .string ⟨#[117]⟩, .string ⟨#[119, 95, 49]⟩, .string ⟨#[116, 119, 101, 108, 118, 101, 95, 98, 121, 116, 101, 115]⟩] 9)
  have lb := hb.lt
  have c0 := hb.cell 0
  have c1 := hb.cell 1
  have c2 := hb.cell 2
  have c3 := hb.cell 3
  simp at c0 c1 c2 c3
  rcases hm with rfl | rfl | rfl | rfl
  all_goals
    go_wp2_with fail
    go_ret
    exact ⟨_, rfl, gb⟩
set_option maxRecDepth 100000 in
theorem colsN_any (w : World) : Calls Try.prog 35 #[] w fun e W => ∃ g, e = .returned (.slice (some ⟨g, 0, none⟩) 6 6) ∧ Hid (Blk g #[.string ⟨#[97]⟩, .string ⟨#[98]⟩, .string ⟨#[99]⟩, .string ⟨#[100]⟩, .string ⟨#[101]⟩, .string ⟨#[102]⟩] 9 W) ∧ Below w.heap.size w W := by
  go_enter Try.func35, Try.ntmps35
  go_wp2_with fail
  go_ret
  exact ⟨_, rfl, hide (Blk.new w #[.string ⟨#[97]⟩, .string ⟨#[98]⟩, .string ⟨#[99]⟩, .string ⟨#[100]⟩, .string ⟨#[101]⟩, .string ⟨#[102]⟩] 9), below_new _ _⟩
theorem one_nil (w : World) : Calls Try.prog 15 #[.slice none 0 0] w fun e W => e = .returned (.agg #[.int .i64 0, .string ⟨#[]⟩, .int .i64 0, .int .i64 0, .int .i64 0, .string ⟨#[]⟩, .slice none 0 0]) ∧ Below w.heap.size w W := by
  go_enter Try.func15, Try.ntmps15
  go_wp2_with fail
  exact bodyPost_ret (v := .agg #[.int .i64 0, .string ⟨#[]⟩, .int .i64 0, .int .i64 0, .int .i64 0, .string ⟨#[]⟩, .slice none 0 0]) (by simp [results, Try.results15, go_sem]) rfl ⟨rfl, below_new _ _⟩
theorem info_col : (Try.prog.info? 63).map (fun i => (i.zero, i.size, i.bytes)) = some (some (.agg #[.string ByteArray.empty, .int .i64 0, .bool false]), 3, 32) := by kernel_rfl
theorem info_int : (Try.prog.info? 3).map (fun i => (i.zero, i.size, i.bytes)) = some (some (.int .i64 0), 1, 8) := by kernel_rfl
theorem info_link : (Try.prog.info? 78).map (fun i => (i.zero, i.size, i.bytes)) = some (some (.agg #[.int .i64 0, .string ByteArray.empty]), 2, 24) := by kernel_rfl
/-- a table as it is being made -/
abbrev tbl (s0 : ByteArray) (cv kv uv lv : Value) : Array Value := #[.string s0, cv, kv, uv, .int .i64 0, .string ⟨#[]⟩, .int .i64 0, .int .i64 0, .int .i64 0, .string ⟨#[]⟩, .slice none 0 0, lv]
def nmK : Nat → ByteArray
  | 0 => ⟨#[97]⟩
  | 1 => ⟨#[98]⟩
  | 2 => ⟨#[99]⟩
  | _ => ⟨#[100]⟩
/-- columns that Table may make -/
def ColsL (l : List C3) : Prop := ∀ i (h : i < l.length), l[i].1 = nmK i ∧ 1 ≤ l[i].2.1 ∧ l[i].2.1 ≤ 5
theorem colsL_snoc {l : List C3} {c : C3} (h : ColsL l) (h1 : c.1 = nmK l.length) (h2 : 1 ≤ c.2.1 ∧ c.2.1 ≤ 5) : ColsL (l ++ [c]) := by
  intro i hi
  by_cases hl : i < l.length
  · rw [List.getElem_append_left hl]; exact h i hl
  · have e : i = l.length := by simp at hi; omega
    subst e
    rw [List.getElem_append_right (Nat.le_refl _)]
    simpa using ⟨h1, h2⟩
theorem colC_snoc : ∀ (l : List C3) (c : C3), colC (l ++ [c]) = colC l ++ [.string c.1, .int .i64 c.2.1, .bool c.2.2]
  | [], c => by simp [colC]
  | y :: l, c => by simp [colC, colC_snoc l c]
theorem colC_len : ∀ l : List C3, (colC l).length = l.length * 3
  | [] => rfl
  | x :: l => by simp [colC, colC_len l]; omega
theorem blk_base {b B : Nat} {cs : Array Value} {T : TypeId} {W W' : World} (h : Blk b cs T W) (hb : Below B W W') (hl : b < B) : Blk b cs T W' := (hb.block b hl).trans h
theorem owns_set {B b : Nat} {W : World} {v : Value} {k n : Nat} {xs : List Value} {T : TypeId} (h : W.ownsRow B T n v k xs) (hb : b < B) (j : Nat) (y : Value) : (W.setCell ⟨b, j, none⟩ y).ownsRow B T n v k xs := by
  refine ⟨h.1, ?_⟩
  rcases h.2 with h0 | ⟨g, cap, cur, hv, hge, hgb, rest⟩
  · exact .inl h0
  · exact .inr ⟨g, cap, cur, hv, hge, (Below.heap_setCell _ _ _ _ (by simp; omega)).trans hgb, rest⟩
def OwC (B : Nat) (cv : Value) (l : List C3) (X : World) : Prop := X.ownsRow B 63 3 cv l.length (colC l)
theorem OwC.call {B : Nat} {cv : Value} {l : List C3} {W W' : World} (h : OwC B cv l W) (hb : Below W.heap.size W W') : OwC B cv l W' := owns_call4 h hb
theorem cells_three_at (W : World) (n : Nat) (hn : W.heap.size = n) (x y z : Value) (T : TypeId) : ∀ j v, [x, y, z][j]? = some v → (W.alloc (.cells #[x, y, z] T)).cell? (Addr.add ⟨n, 0, none⟩ j) = some v := by
  intro j v h
  subst hn
  have hc := cell_of_row _ W.heap.size j _ _ _ (World.alloc_heap_new W (.cells #[x, y, z] T))
  match j, h with
  | 0, h => exact hc.trans h
  | 1, h => exact hc.trans h
  | 2, h => exact hc.trans h
def LeN (n : Nat) (X : World) : Prop := n ≤ X.heap.size
theorem LeN.call {n : Nat} {W W' : World} (h : LeN n W) (hb : Below W.heap.size W W') : LeN n W' := Nat.le_trans h hb.size
end Go.Proofs.Ytliefgkhpgigaaa
