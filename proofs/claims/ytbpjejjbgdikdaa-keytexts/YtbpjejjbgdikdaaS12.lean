/-
  What package key's Row returns: how many values, and each one's key.
-/
import Derived.Test.YtbpjejjbgdikdaaS6
namespace Go.Proofs.Ytbpjejjbgdikdaa
open Go.RowKit
set_option linter.unusedSimpArgs false
set_option linter.unusedVariables false

/-- a value: its kind, number, scale, text -/
abbrev VV := Int × Int × Int × ByteArray
abbrev VOk (x : VV) : Prop := Ok x.1 x.2.1 x.2.2.1 x.2.2.2
abbrev keyV (x : VV) : List Int := keyN x.1 x.2.1 x.2.2.1 x.2.2.2
abbrev cellsV (x : VV) : List Value := [.int .i64 x.1, .int .i64 x.2.1, .int .i64 x.2.2.1, .string x.2.2.2]
abbrev Vx (x : VV) : Value := V x.1 x.2.1 x.2.2.1 x.2.2.2
def keysV (l : List VV) : List Int := l.flatMap keyV
def rowN (l : List VV) : List Int := (l.length : Int) :: keysV l

/-- a slice's value at i is x -/
def ValAt (g : Nat) (i : Nat) (x : VV) (W : World) : Prop :=
  W.cell? ⟨g, i * 4, none⟩ = some (.int .i64 x.1) ∧ W.cell? ⟨g, i * 4 + 1, none⟩ = some (.int .i64 x.2.1) ∧ W.cell? ⟨g, i * 4 + 2, none⟩ = some (.int .i64 x.2.2.1) ∧ W.cell? ⟨g, i * 4 + 3, none⟩ = some (.string x.2.2.2)
def Vals (g : Nat) (l : List VV) (W : World) : Prop := ∀ i (h : i < l.length), ValAt g i l[i] W
theorem keysV_snoc (l : List VV) (x : VV) : keysV (l ++ [x]) = keysV l ++ keyV x := by simp [keysV]
theorem esc_len' (l : List UInt8) : (escL l).length ≤ 2 * l.length := escL_len l
theorem keyN_len {k n s : Int} {t : ByteArray} (h : t.size ≤ 40) : (keyN k n s t).length ≤ 100 := by
  have := escL_len t.data.toList
  have hs : t.data.toList.length = t.size := by simp
  unfold keyN
  split
  · simp
  split
  · simp [beK_len]
  split
  · simp [beK_len]
  split
  · simp [markL]; omega
  · simp
theorem keysV_len (l : List VV) (h : ∀ x ∈ l, VOk x) : (keysV l).length ≤ 100 * l.length := by
  induction l with
  | nil => simp [keysV]
  | cons x l ih =>
    have h1 := keyN_len (k := x.1) (n := x.2.1) (s := x.2.2.1) (h x (by simp)).2.2.2.2.1
    have h2 := ih (fun y hy => h y (by simp [hy]))
    have h3 : (keyV x).length ≤ 100 := h1
    simp only [keysV, List.flatMap_cons, List.length_append, List.length_cons] at *
    omega

set_option maxRecDepth 100000 in
set_option maxHeartbeats 2000000 in
theorem row_some (l : List VV) (hl : l.length ≤ 10) (hok : ∀ x ∈ l, VOk x) (g cap : Nat) (w : World) (hg : g < w.heap.size) (hv : Vals g l w) :
    Calls Try.prog 20 #[.slice (some ⟨g, 0, none⟩) l.length cap] w fun e w' => e = .returned (.string (strOfNums (rowN l))) ∧ Below w.heap.size w w' := by
  have hm : ((l.length : Int)) % 256 = (l.length : Int) := by omega
  go_enter Try.func20, Try.ntmps20
  go_wp2
  go_loopw [3, 12] (fun v i W => ∃ (k : Nat) (gb cb : Nat), k ≤ l.length ∧ i = .int .i64 (k : Int) ∧ v = .slice (some ⟨gb, 0, none⟩) (1 + (keysV (l.take k)).length) cb ∧ W.ownsRow w.heap.size 5 1 v (1 + (keysV (l.take k)).length) (I8 ((l.length : Int) :: keysV (l.take k))) ∧ Below w.heap.size w W)
    (fun v i W => l.length - (intOf i).toNat)
  case atStart =>
    refine ⟨0, w.heap.size, 1, by omega, rfl, rfl, ⟨by simp [keysV], .inr ⟨w.heap.size, 1, #[.int .u8 (l.length : Int)], by simp [keysV], Nat.le_refl _, World.alloc_heap_new w _, by simp [keysV], by decide, by simp, by simp [keysV]⟩⟩, (Below.refl _ _).alloc (Nat.le_refl _) _⟩
  case round =>
    obtain ⟨k, gb, cb, hk, rfl, rfl, hrow, hB⟩ := hrel
    by_cases hlt : k < l.length
    · have hx := hv k hlt
      have hox := hok l[k] (List.getElem_mem hlt)
      have hkl := keysV_len (l.take k) (fun y hy => hok y (List.mem_of_mem_take hy))
      have hkl2 : (keysV (l.take k)).length ≤ 1000 := by
        have : (l.take k).length ≤ 10 := by simp; omega
        omega
      clear hkl
      have hsn : keysV (l.take (k + 1)) = keysV (l.take k) ++ keyV l[k] := by rw [List.take_succ_eq_append_getElem hlt, keysV_snoc]
      have HS := hide hsn
      clear hsn
      generalize l[k] = x at *
      obtain ⟨x0, x1, x2, x3⟩ := x
      obtain ⟨v0, v1, v2, v3⟩ := hx
      have q0 := (hB.cell (p := ⟨g, k * 4, none⟩) hg).trans v0
      have q1 := (hB.cell (p := ⟨g, k * 4 + 1, none⟩) hg).trans v1
      have q2 := (hB.cell (p := ⟨g, k * 4 + 2, none⟩) hg).trans v2
      have q3 := (hB.cell (p := ⟨g, k * 4 + 3, none⟩) hg).trans v3
      have hbs := hB.size
      go_wp2_with (go_at_call 27; refine (appendKey_any w.heap.size (some ⟨gb, 0, none⟩) _ cb _ x0 x1 x2 x3 _ (hrow.alloc _) (by simp; omega) (by omega) hox).mono ?_; rintro e W1 ⟨g1, c1, rfl, hown1, hgr1, hat1⟩)
      have e1 : 1 + (keysV (l.take (k + 1))).length = 1 + (keysV (l.take k)).length + (keyN x0 x1 x2 x3).length := by rw [unhide HS, List.length_append]; have hk : (keyV (x0, x1, x2, x3)).length = (keyN x0 x1 x2 x3).length := rfl; omega
      have e2 : I8 ((l.length : Int) :: keysV (l.take (k + 1))) = I8 ((l.length : Int) :: keysV (l.take k)) ++ I8 (keyN x0 x1 x2 x3) := by rw [unhide HS]; simp
      refine ⟨⟨k + 1, g1, c1, by omega, by go_num, by rw [e1], by rw [e1, e2]; exact hown1, ?_⟩, by simp [intOf]; omega⟩
      refine (hB.alloc hbs _).grown hgr1 (by simp; omega) (fun j e => ?_)
      rcases hrow.form (by omega) with ⟨g', c', hv', hge, _⟩
      cases hv'; cases e; exact hge
    · have hall : l.take k = l := List.take_of_length_le (by omega)
      have e1 : 1 + (keysV l).length = ((l.length : Int) :: keysV l).length := by simp; omega
      have hrun : (convert 49 9 (.slice (some ⟨gb, 0, none⟩) (1 + (keysV (l.take k)).length) cb)).run Try.prog wr = .ok (.string (strOfNums (rowN l))) wr := by
        rw [hall, e1] at hrow
        rw [hall, e1]
        exact run_string_row hrow
      clear hall e1
      go_wp2
      go_ret
      exact ⟨rfl, hB⟩

set_option maxRecDepth 100000 in
set_option maxHeartbeats 1000000 in
theorem row_nil (w : World) :
    Calls Try.prog 20 #[.slice none 0 0] w fun e w' => e = .returned (.string (strOfNums (rowN []))) ∧ Below w.heap.size w w' := by
  have hrow : (w.alloc (.cells #[.int .u8 0] 5)).ownsRow w.heap.size 5 1 (.slice (some ⟨w.heap.size, 0, none⟩) 1 1) 1 (I8 [0]) :=
    ⟨rfl, .inr ⟨w.heap.size, 1, #[.int .u8 0], rfl, Nat.le_refl _, World.alloc_heap_new w _, by decide, by decide, rfl, rfl⟩⟩
  have hrun : (convert 49 9 (.slice (some ⟨w.heap.size, 0, none⟩) 1 1)).run Try.prog (w.alloc (.cells #[.int .u8 0] 5)) = .ok (.string (strOfNums (rowN []))) (w.alloc (.cells #[.int .u8 0] 5)) := run_string_row (ns := [0]) hrow
  go_enter Try.func20, Try.ntmps20
  go_wp2
  refine wp_loop_rounds 1 ?_
  rw [rounds_succ]
  go_wp2
  go_ret
  exact ⟨rfl, (Below.refl _ _).alloc (Nat.le_refl _) _⟩
/-- a slice of values lies in memory -/
def SliceOf (v : Value) (l : List VV) (W : World) : Prop := (v = .slice none 0 0 ∧ l = []) ∨ ∃ g cap, v = .slice (some ⟨g, 0, none⟩) l.length cap ∧ g < W.heap.size ∧ Vals g l W
theorem row_any (l : List VV) (hl : l.length ≤ 10) (hok : ∀ x ∈ l, VOk x) (v : Value) (w : World) (hv : SliceOf v l w) :
    Calls Try.prog 20 #[v] w fun e w' => e = .returned (.string (strOfNums (rowN l))) ∧ Below w.heap.size w w' := by
  rcases hv with ⟨rfl, rfl⟩ | ⟨g, cap, rfl, hg, hv⟩
  · exact row_nil w
  · exact row_some l hl hok g cap w hg hv
end Go.Proofs.Ytbpjejjbgdikdaa
