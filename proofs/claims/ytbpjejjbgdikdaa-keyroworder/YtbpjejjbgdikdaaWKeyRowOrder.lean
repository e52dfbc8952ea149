/-
  The walk of the law KeyRowOrder.
-/
import Derived.Test.YtbpjejjbgdikdaaT3
import Derived.Test.YtbpjejjbgdikdaaT4
import Derived.Test.YtbpjejjbgdikdaaS12
import Derived.Deep.RegionHeld3
namespace Go.Proofs.Ytbpjejjbgdikdaa
open Go.RowKit
set_option linter.unusedSimpArgs false
set_option linter.unusedVariables false

/-- a block of cells that may be written -/
def Blk (g : Nat) (cs : Array Value) (W : World) : Prop := W.heap[g]? = some (.cells cs 24 (0, 0))
theorem Blk.lt {g : Nat} {cs : Array Value} {W : World} (h : Blk g cs W) : g < W.heap.size := (Array.getElem?_eq_some_iff.1 h).1
theorem Blk.call {g : Nat} {cs : Array Value} {W W' : World} (h : Blk g cs W) (hb : Below W.heap.size W W') : Blk g cs W' := (hb.block g h.lt).trans h
theorem Blk.cell {g : Nat} {cs : Array Value} {W : World} (h : Blk g cs W) (j : Nat) : W.cell? ⟨g, j, none⟩ = cs[j]? := cell_of_row W g j cs _ _ h
theorem Blk.frozen {g : Nat} {cs : Array Value} {W : World} (h : Blk g cs W) (j : Nat) : W.frozen? ⟨g, j, none⟩ = false := frozen_row h j
theorem Blk.set {g : Nat} {cs : Array Value} {W : World} (h : Blk g cs W) (j : Nat) (y : Value) : Blk g (cs.setIfInBounds j y) (W.setCell ⟨g, j, none⟩ y) := heap_set_row h j y
theorem Blk.far {g c j : Nat} {cs : Array Value} {W : World} (h : Blk g cs W) (hne : g ≠ c) (y : Value) : Blk g cs (W.setCell ⟨c, j, none⟩ y) := (Below.heap_setCell _ _ _ _ hne).trans h
theorem Blk.new (W : World) (cs : Array Value) : Blk W.heap.size cs (W.alloc (.cells cs 24)) := World.alloc_heap_new W _
theorem Blk.more {g : Nat} {cs : Array Value} {W : World} (h : Blk g cs W) (o : Obj) : Blk g cs (W.alloc o) := h.call ((Below.refl _ _).alloc (Nat.le_refl _) _)
theorem Blk.vals2 {g : Nat} {n : Int} {t : ByteArray} {W : World} (h : Blk g #[.int .i64 2, .int .i64 n, .int .i64 0, .string ⟨#[]⟩, .int .i64 4, .int .i64 0, .int .i64 0, .string t] W) : Vals g [(2, n, 0, ⟨#[]⟩), (4, 0, 0, t)] W := by
  intro i hi
  have hc := h.cell
  match i, hi with
  | 0, _ => exact ⟨hc 0, hc 1, hc 2, hc 3⟩
  | 1, _ => exact ⟨hc 4, hc 5, hc 6, hc 7⟩
def SB (w : World) (b1 b2 : Nat) (c1 c2 : Array Value) (W : World) : Prop := Below w.heap.size w W ∧ Blk b1 c1 W ∧ Blk b2 c2 W
theorem sb_call {w : World} {b1 b2 : Nat} {c1 c2 : Array Value} {W W' : World} (h : SB w b1 b2 c1 c2 W) (hb : Below W.heap.size W W') : SB w b1 b2 c1 c2 W' :=
  ⟨h.1.trans (hb.mono h.1.size), h.2.1.call hb, h.2.2.call hb⟩
/-- rows of two values are in the order of the first ones, then of the second ones -/
theorem row_less {x x' y y' : VV} (hx : VOk x) (hx' : VOk x') (hy : VOk y) (hy' : VOk y') (o o' : Int) (ho : rordV x.1 x.2.1 x.2.2.1 x.2.2.2 y.1 y.2.1 y.2.2.1 y.2.2.2 = o) (ho' : rordV x'.1 x'.2.1 x'.2.2.1 x'.2.2.2 y'.1 y'.2.1 y'.2.2.1 y'.2.2.2 = o') :
    Op.bytesLess (strOfNums (rowN [x, x'])).toList (strOfNums (rowN [y, y'])).toList = decide ((if o = 0 then o' else o) < 0) ∧
    ((strOfNums (rowN [x, x'])).toList == (strOfNums (rowN [y, y'])).toList) = decide ((if o = 0 then o' else o) = 0) := by
  have e : ∀ a b : VV, (strOfNums (rowN [a, b])).toList = 2 :: (nb (keyV a) ++ (nb (keyV b) ++ [])) := by
    intro a b; rw [ByteArray.toList_eq]; simp [strOfNums, rowN, keysV]
  rw [e, e]
  constructor
  · simp only [Op.bytesLess, UInt8.lt_irrefl, decide_false, Bool.false_or, beq_self_eq_true, Bool.true_and]
    rw [key_less hx hy, key_less hx' hy', ho, ho']
    by_cases h0 : o = 0
    · subst h0; simp only [Int.lt_irrefl, if_false, if_true]
      by_cases h1 : o' < 0
      · rw [if_pos h1, decide_eq_true h1]
      · rw [if_neg h1, decide_eq_false h1]; split <;> rfl
    · rw [if_neg h0, if_neg h0]
      by_cases h1 : o < 0
      · rw [if_pos h1, decide_eq_true h1]
      · rw [if_neg h1, decide_eq_false h1]
  · by_cases h : (if o = 0 then o' else o) = 0
    · rw [decide_eq_true h]
      have h0 : o = 0 := by by_cases h0 : o = 0; exact h0; rw [if_neg h0] at h; exact h
      rw [if_pos h0] at h
      obtain ⟨a1, a2, a3, a4⟩ := rord_zero hx hy (ho.trans h0)
      obtain ⟨b1, b2, b3, b4⟩ := rord_zero hx' hy' (ho'.trans h)
      have ex : x = y := by
        obtain ⟨p1, p2, p3, p4⟩ := x; obtain ⟨q1, q2, q3, q4⟩ := y; simp only at a1 a2 a3 a4; subst a1; subst a2; subst a3; subst a4; rfl
      have ex' : x' = y' := by
        obtain ⟨p1, p2, p3, p4⟩ := x'; obtain ⟨q1, q2, q3, q4⟩ := y'; simp only at b1 b2 b3 b4; subst b1; subst b2; subst b3; subst b4; rfl
      rw [ex, ex']; simp
    · rw [decide_eq_false h, beq_eq_false_iff_ne]
      intro e2
      injection e2 with _ e3
      obtain ⟨⟨a1, a2, a3, a4⟩, e4⟩ := key_inj hx hy _ _ e3
      obtain ⟨⟨b1, b2, b3, b4⟩, _⟩ := key_inj hx' hy' _ _ e4
      apply h
      rw [a1, a2, a3, a4, rord_self hy] at ho
      rw [b1, b2, b3, b4, rord_self hy'] at ho'
      rw [if_pos ho.symm]; exact ho'.symm
theorem row2_any (g : Nat) (n : Int) (t : ByteArray) (W : World) (h1 : Ok 2 n 0 ⟨#[]⟩) (h2 : Ok 4 0 0 t) (h : Blk g #[.int .i64 2, .int .i64 n, .int .i64 0, .string ⟨#[]⟩, .int .i64 4, .int .i64 0, .int .i64 0, .string t] W) :
    Calls Try.prog 20 #[.slice (some ⟨g, 0, none⟩) 2 2] W fun e w' => e = .returned (.string (strOfNums (rowN [(2, n, 0, ⟨#[]⟩), (4, 0, 0, t)]))) ∧ Below W.heap.size W w' :=
  row_some [(2, n, 0, ⟨#[]⟩), (4, 0, 0, t)] (by simp) (by
    intro x hx
    simp only [List.mem_cons, List.not_mem_nil, or_false] at hx
    rcases hx with rfl | rfl
    · exact h1
    · exact h2) g 2 W h.lt h.vals2
theorem field3 (k n s : Int) (t : ByteArray) (w : World) : (Instr.field 24 (V k n s t) 3).run Try.prog w = .ok (.string t) w := by kernel_rfl
attribute [local go_sem] field3
theorem ok_made4 {e : Ending} (h : Made e 4) : ∃ n s t, Ok 4 0 0 t ∧ e = .returned (V 4 n s t) := by
  obtain ⟨n, s, t, ok, he⟩ := h
  obtain rfl := ok_num ok (by decide)
  obtain rfl := ok_flat ok (by decide)
  exact ⟨_, _, t, ok, he⟩

set_option maxHeartbeats 4000000 in
set_option maxRecDepth 100000 in
theorem rows_walk1 (a b c d p q i j : Int) (s t : ByteArray) (w : World) (hs : s.size ≤ 60) (ht : t.size ≤ 60) (hp : 0 ≤ p ∧ p < 9) (hq : 0 ≤ q ∧ q < 9)
    (WA : Hid (∀ W, Calls Try.prog 17 #[.int .i64 a, .int .i64 9] W fun e w' => e = .returned (.int .i64 p) ∧ w' = W))
    (WB : Hid (∀ W, Calls Try.prog 17 #[.int .i64 b, .int .i64 9] W fun e w' => e = .returned (.int .i64 q) ∧ w' = W))
    (WC : Hid (∀ W, Calls Try.prog 17 #[.int .i64 c, .int .i64 3] W fun e w' => e = .returned (.int .i64 i) ∧ w' = W))
    (WD : Hid (∀ W, Calls Try.prog 17 #[.int .i64 d, .int .i64 3] W fun e w' => e = .returned (.int .i64 j) ∧ w' = W))
    (MS : Hid (∀ W, Calls Try.prog 13 #[.int .i64 4, .int .i64 0, .string s] W fun e w' => Made e 4 ∧ Below W.heap.size W w'))
    (MT : Hid (∀ W, Calls Try.prog 13 #[.int .i64 4, .int .i64 0, .string t] W fun e w' => Made e 4 ∧ Below W.heap.size W w'))
    (hi : (i == 0) = true) (hj : (j == 0) = true) :
    Calls Try.prog 8 #[.int .i64 a, .int .i64 b, .int .i64 c, .int .i64 d, .string s, .string t] w fun e w' => e = .returned (.bool true) ∧ Below w.heap.size w w' := by
  have hL := hide (Below.refl w.heap.size w)
  go_enter Try.func8, Try.ntmps8
  go_wp2_with fail
  refine (known_any _).mono ?_
  rintro e w1 ⟨rfl, hb1⟩
  replace hL := hide ((unhide hL).trans (hb1.mono (unhide hL).size))
  clear hb1
  go_wp2_with fail
  refine (unhide WA _).mono ?_
  rintro e wq1 ⟨rfl, rfl⟩
  go_wp2_with fail
  refine (unhide MS _).mono ?_
  rintro e w2 ⟨hmade, hb2⟩
  obtain ⟨sn, ss, xt, okx, rfl⟩ := ok_made4 hmade
  have OX := hide okx
  replace hL := hide ((unhide hL).trans (hb2.mono (unhide hL).size))
  clear hb2 okx hmade
  have hX := hide (Blk.new w2 #[.int .i64 2, .int .i64 p, .int .i64 0, .string ⟨#[]⟩, .int .i64 4, .int .i64 0, .int .i64 0, .string xt])
  replace hL := hide ((unhide hL).alloc (unhide hL).size (.cells #[.int .i64 2, .int .i64 p, .int .i64 0, .string ⟨#[]⟩, .int .i64 4, .int .i64 0, .int .i64 0, .string xt] 24))
  go_wp2_with fail
  refine (unhide WB _).mono ?_
  rintro e wq2 ⟨rfl, rfl⟩
  go_wp2_with fail
  refine (unhide MT _).mono ?_
  rintro e w3 ⟨hmade, hb3⟩
  obtain ⟨tn, ts, yt, oky, rfl⟩ := ok_made4 hmade
  have OY := hide oky
  replace hX := hide ((unhide hX).call hb3)
  replace hL := hide ((unhide hL).trans (hb3.mono (unhide hL).size))
  clear hb3 oky hmade
  have hlt := (unhide hX).lt
  go_wp2_with fail
  refine (unhide WC _).mono ?_
  rintro e wq3 ⟨rfl, rfl⟩
  have hX1 := hide ((unhide hX).more (.cells #[.int .i64 2, .int .i64 q, .int .i64 0, .string ⟨#[]⟩, .int .i64 4, .int .i64 0, .int .i64 0, .string yt] 24))
  have x0 := (unhide hX1).cell 0
  have x1 := (unhide hX1).cell 1
  have x2 := (unhide hX1).cell 2
  have x3 := (unhide hX1).cell 3
  simp at x0 x1 x2 x3
  go_wp2_with fail
  clear x0 x1 x2 x3 hX1
  refine (unhide WD _).mono ?_
  rintro e wq4 ⟨rfl, rfl⟩
  have hX1 := hide ((unhide hX).more (.cells #[.int .i64 2, .int .i64 p, .int .i64 0, .string ⟨#[]⟩, .int .i64 4, .int .i64 0, .int .i64 0, .string yt] 24))
  have x4 := (unhide hX1).cell 4
  have x5 := (unhide hX1).cell 5
  have x6 := (unhide hX1).cell 6
  have x7 := (unhide hX1).cell 7
  simp at x4 x5 x6 x7
  go_wp2_with fail
  clear x4 x5 x6 x7 hX1
  replace hX := hide ((unhide hX).more (.cells #[.int .i64 2, .int .i64 p, .int .i64 0, .string ⟨#[]⟩, .int .i64 4, .int .i64 0, .int .i64 0, .string xt] 24))
  have hY := hide (Blk.new w3 #[.int .i64 2, .int .i64 p, .int .i64 0, .string ⟨#[]⟩, .int .i64 4, .int .i64 0, .int .i64 0, .string xt])
  replace hL := hide ((unhide hL).alloc (unhide hL).size (.cells #[.int .i64 2, .int .i64 p, .int .i64 0, .string ⟨#[]⟩, .int .i64 4, .int .i64 0, .int .i64 0, .string xt] 24))
  clear hlt WA WB WC WD MS MT
  have hS := hide (show SB w w2.heap.size w3.heap.size #[.int .i64 2, .int .i64 p, .int .i64 0, .string ⟨#[]⟩, .int .i64 4, .int .i64 0, .int .i64 0, .string xt] #[.int .i64 2, .int .i64 p, .int .i64 0, .string ⟨#[]⟩, .int .i64 4, .int .i64 0, .int .i64 0, .string xt] (w3.alloc (.cells #[.int .i64 2, .int .i64 p, .int .i64 0, .string ⟨#[]⟩, .int .i64 4, .int .i64 0, .int .i64 0, .string xt] 24)) from ⟨unhide hL, unhide hX, unhide hY⟩)
  clear hX hY hL
  have o1 : Ok 2 p 0 ⟨#[]⟩ := ok_int (by unfold Is64; omega)
  have o2 : Ok 2 p 0 ⟨#[]⟩ := ok_int (by unfold Is64; omega)
  have o3 : Ok 4 0 0 xt := unhide OX
  have o4 : Ok 4 0 0 xt := unhide OX
  obtain ⟨o, ho⟩ : ∃ o, rordV 2 p 0 ⟨#[]⟩ 2 p 0 ⟨#[]⟩ = o := ⟨_, rfl⟩
  obtain ⟨o', ho'⟩ : ∃ o, rordV 4 0 0 xt 4 0 0 xt = o := ⟨_, rfl⟩
  obtain ⟨hle, hsa⟩ := row_less (x := (2, p, 0, ⟨#[]⟩)) (x' := (4, 0, 0, xt)) (y := (2, p, 0, ⟨#[]⟩)) (y' := (4, 0, 0, xt)) o1 o3 o2 o4 o o' ho ho'
  have RA := hide (fun W => rorder_any 2 p 0 ⟨#[]⟩ 2 p 0 ⟨#[]⟩ W (ok_dec_in o1) (ok_dec_in o2))
  have RB := hide (fun W => rorder_any 4 0 0 xt 4 0 0 xt W (ok_dec_in o3) (ok_dec_in o4))
  rw [ho] at RA
  rw [ho'] at RB
  have RX := hide (fun W (h : Blk w2.heap.size #[.int .i64 2, .int .i64 p, .int .i64 0, .string ⟨#[]⟩, .int .i64 4, .int .i64 0, .int .i64 0, .string xt] W) => row2_any w2.heap.size p xt W o1 o3 h)
  have RY := hide (fun W (h : Blk w3.heap.size #[.int .i64 2, .int .i64 p, .int .i64 0, .string ⟨#[]⟩, .int .i64 4, .int .i64 0, .int .i64 0, .string xt] W) => row2_any w3.heap.size p xt W o2 o4 h)
  obtain ⟨rx, hrx⟩ : ∃ r, r = strOfNums (rowN [(2, p, 0, ⟨#[]⟩), (4, 0, 0, xt)]) := ⟨_, rfl⟩
  obtain ⟨ry, hry⟩ : ∃ r, r = strOfNums (rowN [(2, p, 0, ⟨#[]⟩), (4, 0, 0, xt)]) := ⟨_, rfl⟩
  rw [← hrx] at hle hsa RX
  first | rw [← hry] at hle hsa RY | rw [← hrx] at RY
  have HLE := hide hle
  have HSA := hide hsa
  clear hrx hry ho ho' o1 o2 o3 o4 hle hsa
  rename_i hrest
  refine wp_region_noPanic ?_
  refine wp_region_held_drew (S := SB w w2.heap.size w3.heap.size #[.int .i64 2, .int .i64 p, .int .i64 0, .string ⟨#[]⟩, .int .i64 4, .int .i64 0, .int .i64 0, .string xt] #[.int .i64 2, .int .i64 p, .int .i64 0, .string ⟨#[]⟩, .int .i64 4, .int .i64 0, .int .i64 0, .string xt]) (by kernel_rfl) (sb_call (unhide hS) (Below.refl _ _).drew) (fun hHeld => ?_)
  clear hS
  revert hHeld
  generalize World.drew _ = WdhS
  intro hHeld
  refine wpAnyH_take (i := 0) (oi := ?oi20001) (v := ?v20001) ?hi20001 (by kernel_rfl) (by kernel_rfl) (by kernel_rfl) (fun _ _ _ h => h) (Or.inl ⟨?hw20001, ?hy20001⟩) (by assumption) ?rest20001
  case hi20001 => (simp only [List.getElem?_toArray, List.getElem?_cons_zero]; rfl)
  case hw20001 => rfl
  case hy20001 => first | (intro wx hSw; go_simp; done) | (intro wx hSw; go_simp; with_reducible rfl)
  simp only [Act.put, List.setIfInBounds_toArray, List.set_cons_zero, List.set_cons_succ]
  refine wpAnyH_take (i := 3) (oi := ?oi20002) (v := ?v20002) ?hi20002 (by kernel_rfl) (by kernel_rfl) (by kernel_rfl) (fun _ _ _ h => h) (Or.inl ⟨?hw20002, ?hy20002⟩) (by assumption) ?rest20002
  case hi20002 => (simp only [List.getElem?_toArray, List.getElem?_cons_zero, List.getElem?_cons_succ]; rfl)
  case hw20002 => rfl
  case hy20002 => first | (intro wx hSw; go_simp; done) | (intro wx hSw; go_simp; with_reducible rfl)
  simp only [Act.put, List.setIfInBounds_toArray, List.set_cons_zero, List.set_cons_succ]
  refine wpAnyH_take (i := 1) (oi := ?oi20003) (v := ?v20003) ?hi20003 (by kernel_rfl) (by kernel_rfl) (by kernel_rfl) (fun _ _ _ h => h) (Or.inl ⟨?hw20003, ?hy20003⟩) (by assumption) ?rest20003
  case hi20003 => (simp only [List.getElem?_toArray, List.getElem?_cons_zero, List.getElem?_cons_succ]; rfl)
  case hw20003 => rfl
  case hy20003 => first | (intro wx hSw; go_simp; done) | (intro wx hSw; go_simp; with_reducible rfl)
  simp only [Act.put, List.setIfInBounds_toArray, List.set_cons_zero, List.set_cons_succ]
  refine wpAnyH_take (i := 4) (oi := ?oi20004) (v := ?v20004) ?hi20004 (by kernel_rfl) (by kernel_rfl) (by kernel_rfl) (fun _ _ _ h => h) (Or.inl ⟨?hw20004, ?hy20004⟩) (by assumption) ?rest20004
  case hi20004 => (simp only [List.getElem?_toArray, List.getElem?_cons_zero, List.getElem?_cons_succ]; rfl)
  case hw20004 => rfl
  case hy20004 => first | (intro wx hSw; go_simp; done) | (intro wx hSw; go_simp; with_reducible rfl)
  simp only [Act.put, List.setIfInBounds_toArray, List.set_cons_zero, List.set_cons_succ]
  refine wpAnyH_take (i := 2) (oi := ?oi20005) (v := ?v20005) ?hi20005 (by kernel_rfl) (by kernel_rfl) (by kernel_rfl) (fun _ _ _ h => h) (Or.inl ⟨?hw20005, ?hy20005⟩) (by assumption) ?rest20005
  case hi20005 => (simp only [List.getElem?_toArray, List.getElem?_cons_zero, List.getElem?_cons_succ]; rfl)
  case hw20005 => rfl
  case hy20005 => first | (intro wx hSw; obtain ⟨-, hbx, hby⟩ := hSw; have x0 := hbx.cell 0; have y0 := hby.cell 0; have x1 := hbx.cell 1; have y1 := hby.cell 1; have x2 := hbx.cell 2; have y2 := hby.cell 2; have x3 := hbx.cell 3; have y3 := hby.cell 3; have x4 := hbx.cell 4; have y4 := hby.cell 4; have x5 := hbx.cell 5; have y5 := hby.cell 5; have x6 := hbx.cell 6; have y6 := hby.cell 6; have x7 := hbx.cell 7; have y7 := hby.cell 7; simp at x0 x1 x2 x3 x4 x5 x6 x7 y0 y1 y2 y3 y4 y5 y6 y7; go_simp; done) | (intro wx hSw; obtain ⟨-, hbx, hby⟩ := hSw; have x0 := hbx.cell 0; have y0 := hby.cell 0; have x1 := hbx.cell 1; have y1 := hby.cell 1; have x2 := hbx.cell 2; have y2 := hby.cell 2; have x3 := hbx.cell 3; have y3 := hby.cell 3; have x4 := hbx.cell 4; have y4 := hby.cell 4; have x5 := hbx.cell 5; have y5 := hby.cell 5; have x6 := hbx.cell 6; have y6 := hby.cell 6; have x7 := hbx.cell 7; have y7 := hby.cell 7; simp at x0 x1 x2 x3 x4 x5 x6 x7 y0 y1 y2 y3 y4 y5 y6 y7; go_simp; with_reducible rfl)
  simp only [Act.put, List.setIfInBounds_toArray, List.set_cons_zero, List.set_cons_succ]
  refine wpAnyH_take (i := 5) (oi := ?oi20006) (v := ?v20006) ?hi20006 (by kernel_rfl) (by kernel_rfl) (by kernel_rfl) (fun _ _ _ h => h) (Or.inl ⟨?hw20006, ?hy20006⟩) (by assumption) ?rest20006
  case hi20006 => (simp only [List.getElem?_toArray, List.getElem?_cons_zero, List.getElem?_cons_succ]; rfl)
  case hw20006 => rfl
  case hy20006 => first | (intro wx hSw; obtain ⟨-, hbx, hby⟩ := hSw; have x0 := hbx.cell 0; have y0 := hby.cell 0; have x1 := hbx.cell 1; have y1 := hby.cell 1; have x2 := hbx.cell 2; have y2 := hby.cell 2; have x3 := hbx.cell 3; have y3 := hby.cell 3; have x4 := hbx.cell 4; have y4 := hby.cell 4; have x5 := hbx.cell 5; have y5 := hby.cell 5; have x6 := hbx.cell 6; have y6 := hby.cell 6; have x7 := hbx.cell 7; have y7 := hby.cell 7; simp at x0 x1 x2 x3 x4 x5 x6 x7 y0 y1 y2 y3 y4 y5 y6 y7; go_simp; done) | (intro wx hSw; obtain ⟨-, hbx, hby⟩ := hSw; have x0 := hbx.cell 0; have y0 := hby.cell 0; have x1 := hbx.cell 1; have y1 := hby.cell 1; have x2 := hbx.cell 2; have y2 := hby.cell 2; have x3 := hbx.cell 3; have y3 := hby.cell 3; have x4 := hbx.cell 4; have y4 := hby.cell 4; have x5 := hbx.cell 5; have y5 := hby.cell 5; have x6 := hbx.cell 6; have y6 := hby.cell 6; have x7 := hbx.cell 7; have y7 := hby.cell 7; simp at x0 x1 x2 x3 x4 x5 x6 x7 y0 y1 y2 y3 y4 y5 y6 y7; go_simp; with_reducible rfl)
  simp only [Act.put, List.setIfInBounds_toArray, List.set_cons_zero, List.set_cons_succ]
  have hW := hide hHeld
  refine wpAnyH_ready (rs := [6]) (by kernel_rfl) (by simp) ?_
  refine AllReadyH.cons rfl (fun K20007 hK20007 => ?_) AllReadyH.nil
  go_simp
  go_wp2_with (go_at_call 18; refine (unhide RA _).mono ?_; rintro e wchS ⟨rfl, hb⟩)
  refine hK20007.out _ _ ?hs20007 (fun hHeld20007 => ?_)
  case hs20007 => exact sb_call (unhide hW) hb
  clear hHeld
  have hHeld := hHeld20007; clear hHeld20007 hK20007 K20007
  clear hb hW
  refine wpAnyH_take (i := 7) (oi := ?oi20008) (v := ?v20008) ?hi20008 (by kernel_rfl) (by kernel_rfl) (by kernel_rfl) (fun _ _ _ h => h) (Or.inl ⟨?hw20008, ?hy20008⟩) (by assumption) ?rest20008
  case hi20008 => (simp only [List.getElem?_toArray, List.getElem?_cons_zero, List.getElem?_cons_succ]; rfl)
  case hw20008 => rfl
  case hy20008 => first | (intro wx hSw; go_simp; done) | (intro wx hSw; go_simp; with_reducible rfl)
  simp only [Act.put, List.setIfInBounds_toArray, List.set_cons_zero, List.set_cons_succ]
  refine wpAnyH_done (by kernel_rfl) ?_ _
  refine NoPanic.normal ?_
  refine hrest _ _ ?_
  clear hrest
  have hS := hide hHeld
  clear hHeld
  by_cases ho0 : o = 0
  · subst ho0
    rw [if_pos rfl] at HLE HSA
    go_wp2_with fail
    rename_i hrest
    refine wp_region_noPanic ?_
    refine wp_region_held_drew (S := SB w w2.heap.size w3.heap.size #[.int .i64 2, .int .i64 p, .int .i64 0, .string ⟨#[]⟩, .int .i64 4, .int .i64 0, .int .i64 0, .string xt] #[.int .i64 2, .int .i64 p, .int .i64 0, .string ⟨#[]⟩, .int .i64 4, .int .i64 0, .int .i64 0, .string xt]) (by kernel_rfl) (sb_call (unhide hS) (Below.refl _ _).drew) (fun hHeld => ?_)
    clear hS
    revert hHeld
    generalize World.drew _ = WdhS
    intro hHeld
    refine wpAnyH_take (i := 0) (oi := ?oi20009) (v := ?v20009) ?hi20009 (by kernel_rfl) (by kernel_rfl) (by kernel_rfl) (fun _ _ _ h => h) (Or.inl ⟨?hw20009, ?hy20009⟩) (by assumption) ?rest20009
    case hi20009 => (simp only [List.getElem?_toArray, List.getElem?_cons_zero]; rfl)
    case hw20009 => rfl
    case hy20009 => first | (intro wx hSw; go_simp; done) | (intro wx hSw; go_simp; with_reducible rfl)
    simp only [Act.put, List.setIfInBounds_toArray, List.set_cons_zero, List.set_cons_succ]
    refine wpAnyH_take (i := 3) (oi := ?oi20010) (v := ?v20010) ?hi20010 (by kernel_rfl) (by kernel_rfl) (by kernel_rfl) (fun _ _ _ h => h) (Or.inl ⟨?hw20010, ?hy20010⟩) (by assumption) ?rest20010
    case hi20010 => (simp only [List.getElem?_toArray, List.getElem?_cons_zero, List.getElem?_cons_succ]; rfl)
    case hw20010 => rfl
    case hy20010 => first | (intro wx hSw; go_simp; done) | (intro wx hSw; go_simp; with_reducible rfl)
    simp only [Act.put, List.setIfInBounds_toArray, List.set_cons_zero, List.set_cons_succ]
    refine wpAnyH_take (i := 1) (oi := ?oi20011) (v := ?v20011) ?hi20011 (by kernel_rfl) (by kernel_rfl) (by kernel_rfl) (fun _ _ _ h => h) (Or.inl ⟨?hw20011, ?hy20011⟩) (by assumption) ?rest20011
    case hi20011 => (simp only [List.getElem?_toArray, List.getElem?_cons_zero, List.getElem?_cons_succ]; rfl)
    case hw20011 => rfl
    case hy20011 => first | (intro wx hSw; go_simp; done) | (intro wx hSw; go_simp; with_reducible rfl)
    simp only [Act.put, List.setIfInBounds_toArray, List.set_cons_zero, List.set_cons_succ]
    refine wpAnyH_take (i := 4) (oi := ?oi20012) (v := ?v20012) ?hi20012 (by kernel_rfl) (by kernel_rfl) (by kernel_rfl) (fun _ _ _ h => h) (Or.inl ⟨?hw20012, ?hy20012⟩) (by assumption) ?rest20012
    case hi20012 => (simp only [List.getElem?_toArray, List.getElem?_cons_zero, List.getElem?_cons_succ]; rfl)
    case hw20012 => rfl
    case hy20012 => first | (intro wx hSw; go_simp; done) | (intro wx hSw; go_simp; with_reducible rfl)
    simp only [Act.put, List.setIfInBounds_toArray, List.set_cons_zero, List.set_cons_succ]
    refine wpAnyH_take (i := 2) (oi := ?oi20013) (v := ?v20013) ?hi20013 (by kernel_rfl) (by kernel_rfl) (by kernel_rfl) (fun _ _ _ h => h) (Or.inl ⟨?hw20013, ?hy20013⟩) (by assumption) ?rest20013
    case hi20013 => (simp only [List.getElem?_toArray, List.getElem?_cons_zero, List.getElem?_cons_succ]; rfl)
    case hw20013 => rfl
    case hy20013 => first | (intro wx hSw; obtain ⟨-, hbx, hby⟩ := hSw; have x0 := hbx.cell 0; have y0 := hby.cell 0; have x1 := hbx.cell 1; have y1 := hby.cell 1; have x2 := hbx.cell 2; have y2 := hby.cell 2; have x3 := hbx.cell 3; have y3 := hby.cell 3; have x4 := hbx.cell 4; have y4 := hby.cell 4; have x5 := hbx.cell 5; have y5 := hby.cell 5; have x6 := hbx.cell 6; have y6 := hby.cell 6; have x7 := hbx.cell 7; have y7 := hby.cell 7; simp at x0 x1 x2 x3 x4 x5 x6 x7 y0 y1 y2 y3 y4 y5 y6 y7; go_simp; done) | (intro wx hSw; obtain ⟨-, hbx, hby⟩ := hSw; have x0 := hbx.cell 0; have y0 := hby.cell 0; have x1 := hbx.cell 1; have y1 := hby.cell 1; have x2 := hbx.cell 2; have y2 := hby.cell 2; have x3 := hbx.cell 3; have y3 := hby.cell 3; have x4 := hbx.cell 4; have y4 := hby.cell 4; have x5 := hbx.cell 5; have y5 := hby.cell 5; have x6 := hbx.cell 6; have y6 := hby.cell 6; have x7 := hbx.cell 7; have y7 := hby.cell 7; simp at x0 x1 x2 x3 x4 x5 x6 x7 y0 y1 y2 y3 y4 y5 y6 y7; go_simp; with_reducible rfl)
    simp only [Act.put, List.setIfInBounds_toArray, List.set_cons_zero, List.set_cons_succ]
    refine wpAnyH_take (i := 5) (oi := ?oi20014) (v := ?v20014) ?hi20014 (by kernel_rfl) (by kernel_rfl) (by kernel_rfl) (fun _ _ _ h => h) (Or.inl ⟨?hw20014, ?hy20014⟩) (by assumption) ?rest20014
    case hi20014 => (simp only [List.getElem?_toArray, List.getElem?_cons_zero, List.getElem?_cons_succ]; rfl)
    case hw20014 => rfl
    case hy20014 => first | (intro wx hSw; obtain ⟨-, hbx, hby⟩ := hSw; have x0 := hbx.cell 0; have y0 := hby.cell 0; have x1 := hbx.cell 1; have y1 := hby.cell 1; have x2 := hbx.cell 2; have y2 := hby.cell 2; have x3 := hbx.cell 3; have y3 := hby.cell 3; have x4 := hbx.cell 4; have y4 := hby.cell 4; have x5 := hbx.cell 5; have y5 := hby.cell 5; have x6 := hbx.cell 6; have y6 := hby.cell 6; have x7 := hbx.cell 7; have y7 := hby.cell 7; simp at x0 x1 x2 x3 x4 x5 x6 x7 y0 y1 y2 y3 y4 y5 y6 y7; go_simp; done) | (intro wx hSw; obtain ⟨-, hbx, hby⟩ := hSw; have x0 := hbx.cell 0; have y0 := hby.cell 0; have x1 := hbx.cell 1; have y1 := hby.cell 1; have x2 := hbx.cell 2; have y2 := hby.cell 2; have x3 := hbx.cell 3; have y3 := hby.cell 3; have x4 := hbx.cell 4; have y4 := hby.cell 4; have x5 := hbx.cell 5; have y5 := hby.cell 5; have x6 := hbx.cell 6; have y6 := hby.cell 6; have x7 := hbx.cell 7; have y7 := hby.cell 7; simp at x0 x1 x2 x3 x4 x5 x6 x7 y0 y1 y2 y3 y4 y5 y6 y7; go_simp; with_reducible rfl)
    simp only [Act.put, List.setIfInBounds_toArray, List.set_cons_zero, List.set_cons_succ]
    have hW := hide hHeld
    refine wpAnyH_ready (rs := [6]) (by kernel_rfl) (by simp) ?_
    refine AllReadyH.cons rfl (fun K20015 hK20015 => ?_) AllReadyH.nil
    go_simp
    go_wp2_with (go_at_call 18; refine (unhide RB _).mono ?_; rintro e wchS ⟨rfl, hb⟩)
    refine hK20015.out _ _ ?hs20015 (fun hHeld20015 => ?_)
    case hs20015 => exact sb_call (unhide hW) hb
    clear hHeld
    have hHeld := hHeld20015; clear hHeld20015 hK20015 K20015
    clear hb hW
    refine wpAnyH_take (i := 7) (oi := ?oi20016) (v := ?v20016) ?hi20016 (by kernel_rfl) (by kernel_rfl) (by kernel_rfl) (fun _ _ _ h => h) (Or.inl ⟨?hw20016, ?hy20016⟩) (by assumption) ?rest20016
    case hi20016 => (simp only [List.getElem?_toArray, List.getElem?_cons_zero, List.getElem?_cons_succ]; rfl)
    case hw20016 => rfl
    case hy20016 => first | (intro wx hSw; go_simp; done) | (intro wx hSw; go_simp; with_reducible rfl)
    simp only [Act.put, List.setIfInBounds_toArray, List.set_cons_zero, List.set_cons_succ]
    refine wpAnyH_done (by kernel_rfl) ?_ _
    refine NoPanic.normal ?_
    refine hrest _ _ ?_
    clear hrest
    have hS := hide hHeld
    clear hHeld
    go_wp2_with fail
    refine (unhide RX _ (unhide hS).2.1).mono ?_
    rintro e w7 ⟨rfl, hb⟩
    replace hS := hide (sb_call (unhide hS) hb)
    clear hb
    go_wp2_with fail
    refine (unhide RY _ (unhide hS).2.2).mono ?_
    rintro e w8 ⟨rfl, hb⟩
    replace hS := hide (sb_call (unhide hS) hb)
    clear hb RX RY
    have hsa := unhide HSA
    have hle := unhide HLE
    rw [beq_self_eq_true] at hsa
    rw [less_self] at hle
    have g : o' = 0 := of_decide_eq_true hsa.symm
    clear HLE HSA hsa hle
    have hne : (o' == 0) = true := beq_iff_eq.2 g
    have hno : ¬ o' < 0 := by omega
    have hself := less_self rx.toList
    go_wp2_with fail
    go_ret
    exact ⟨rfl, (unhide hS).1⟩
  · rw [if_neg ho0] at HLE HSA
    have hob : (o == 0) = false := beq_eq_false_iff_ne.2 ho0
    go_wp2_with fail
    refine (unhide RX _ (unhide hS).2.1).mono ?_
    rintro e w7 ⟨rfl, hb⟩
    replace hS := hide (sb_call (unhide hS) hb)
    clear hb
    go_wp2_with fail
    refine (unhide RY _ (unhide hS).2.2).mono ?_
    rintro e w8 ⟨rfl, hb⟩
    replace hS := hide (sb_call (unhide hS) hb)
    clear hb RX RY
    have hsa := unhide HSA
    have hle := unhide HLE
    rw [beq_self_eq_true] at hsa
    rw [less_self] at hle
    have g : o = 0 := of_decide_eq_true hsa.symm
    clear HLE HSA hsa hle
    have hne : (o == 0) = true := beq_iff_eq.2 g
    have hno : ¬ o < 0 := by omega
    have hself := less_self rx.toList
    go_wp2_with fail
    go_ret
    exact ⟨rfl, (unhide hS).1⟩

set_option maxHeartbeats 4000000 in
set_option maxRecDepth 100000 in
theorem rows_walk2 (a b c d p q i j : Int) (s t : ByteArray) (w : World) (hs : s.size ≤ 60) (ht : t.size ≤ 60) (hp : 0 ≤ p ∧ p < 9) (hq : 0 ≤ q ∧ q < 9)
    (WA : Hid (∀ W, Calls Try.prog 17 #[.int .i64 a, .int .i64 9] W fun e w' => e = .returned (.int .i64 p) ∧ w' = W))
    (WB : Hid (∀ W, Calls Try.prog 17 #[.int .i64 b, .int .i64 9] W fun e w' => e = .returned (.int .i64 q) ∧ w' = W))
    (WC : Hid (∀ W, Calls Try.prog 17 #[.int .i64 c, .int .i64 3] W fun e w' => e = .returned (.int .i64 i) ∧ w' = W))
    (WD : Hid (∀ W, Calls Try.prog 17 #[.int .i64 d, .int .i64 3] W fun e w' => e = .returned (.int .i64 j) ∧ w' = W))
    (MS : Hid (∀ W, Calls Try.prog 13 #[.int .i64 4, .int .i64 0, .string s] W fun e w' => Made e 4 ∧ Below W.heap.size W w'))
    (MT : Hid (∀ W, Calls Try.prog 13 #[.int .i64 4, .int .i64 0, .string t] W fun e w' => Made e 4 ∧ Below W.heap.size W w'))
    (hi : (i == 0) = true) (hj : (j == 0) = false) :
    Calls Try.prog 8 #[.int .i64 a, .int .i64 b, .int .i64 c, .int .i64 d, .string s, .string t] w fun e w' => e = .returned (.bool true) ∧ Below w.heap.size w w' := by
  have hL := hide (Below.refl w.heap.size w)
  go_enter Try.func8, Try.ntmps8
  go_wp2_with fail
  refine (known_any _).mono ?_
  rintro e w1 ⟨rfl, hb1⟩
  replace hL := hide ((unhide hL).trans (hb1.mono (unhide hL).size))
  clear hb1
  go_wp2_with fail
  refine (unhide WA _).mono ?_
  rintro e wq1 ⟨rfl, rfl⟩
  go_wp2_with fail
  refine (unhide MS _).mono ?_
  rintro e w2 ⟨hmade, hb2⟩
  obtain ⟨sn, ss, xt, okx, rfl⟩ := ok_made4 hmade
  have OX := hide okx
  replace hL := hide ((unhide hL).trans (hb2.mono (unhide hL).size))
  clear hb2 okx hmade
  have hX := hide (Blk.new w2 #[.int .i64 2, .int .i64 p, .int .i64 0, .string ⟨#[]⟩, .int .i64 4, .int .i64 0, .int .i64 0, .string xt])
  replace hL := hide ((unhide hL).alloc (unhide hL).size (.cells #[.int .i64 2, .int .i64 p, .int .i64 0, .string ⟨#[]⟩, .int .i64 4, .int .i64 0, .int .i64 0, .string xt] 24))
  go_wp2_with fail
  refine (unhide WB _).mono ?_
  rintro e wq2 ⟨rfl, rfl⟩
  go_wp2_with fail
  refine (unhide MT _).mono ?_
  rintro e w3 ⟨hmade, hb3⟩
  obtain ⟨tn, ts, yt, oky, rfl⟩ := ok_made4 hmade
  have OY := hide oky
  replace hX := hide ((unhide hX).call hb3)
  replace hL := hide ((unhide hL).trans (hb3.mono (unhide hL).size))
  clear hb3 oky hmade
  have hlt := (unhide hX).lt
  go_wp2_with fail
  refine (unhide WC _).mono ?_
  rintro e wq3 ⟨rfl, rfl⟩
  have hX1 := hide ((unhide hX).more (.cells #[.int .i64 2, .int .i64 q, .int .i64 0, .string ⟨#[]⟩, .int .i64 4, .int .i64 0, .int .i64 0, .string yt] 24))
  have x0 := (unhide hX1).cell 0
  have x1 := (unhide hX1).cell 1
  have x2 := (unhide hX1).cell 2
  have x3 := (unhide hX1).cell 3
  simp at x0 x1 x2 x3
  go_wp2_with fail
  clear x0 x1 x2 x3 hX1
  refine (unhide WD _).mono ?_
  rintro e wq4 ⟨rfl, rfl⟩
  go_wp2_with fail
  replace hX := hide ((unhide hX).more (.cells #[.int .i64 2, .int .i64 p, .int .i64 0, .string ⟨#[]⟩, .int .i64 4, .int .i64 0, .int .i64 0, .string yt] 24))
  have hY := hide (Blk.new w3 #[.int .i64 2, .int .i64 p, .int .i64 0, .string ⟨#[]⟩, .int .i64 4, .int .i64 0, .int .i64 0, .string yt])
  replace hL := hide ((unhide hL).alloc (unhide hL).size (.cells #[.int .i64 2, .int .i64 p, .int .i64 0, .string ⟨#[]⟩, .int .i64 4, .int .i64 0, .int .i64 0, .string yt] 24))
  clear hlt WA WB WC WD MS MT
  have hS := hide (show SB w w2.heap.size w3.heap.size #[.int .i64 2, .int .i64 p, .int .i64 0, .string ⟨#[]⟩, .int .i64 4, .int .i64 0, .int .i64 0, .string xt] #[.int .i64 2, .int .i64 p, .int .i64 0, .string ⟨#[]⟩, .int .i64 4, .int .i64 0, .int .i64 0, .string yt] (w3.alloc (.cells #[.int .i64 2, .int .i64 p, .int .i64 0, .string ⟨#[]⟩, .int .i64 4, .int .i64 0, .int .i64 0, .string yt] 24)) from ⟨unhide hL, unhide hX, unhide hY⟩)
  clear hX hY hL
  have o1 : Ok 2 p 0 ⟨#[]⟩ := ok_int (by unfold Is64; omega)
  have o2 : Ok 2 p 0 ⟨#[]⟩ := ok_int (by unfold Is64; omega)
  have o3 : Ok 4 0 0 xt := unhide OX
  have o4 : Ok 4 0 0 yt := unhide OY
  obtain ⟨o, ho⟩ : ∃ o, rordV 2 p 0 ⟨#[]⟩ 2 p 0 ⟨#[]⟩ = o := ⟨_, rfl⟩
  obtain ⟨o', ho'⟩ : ∃ o, rordV 4 0 0 xt 4 0 0 yt = o := ⟨_, rfl⟩
  obtain ⟨hle, hsa⟩ := row_less (x := (2, p, 0, ⟨#[]⟩)) (x' := (4, 0, 0, xt)) (y := (2, p, 0, ⟨#[]⟩)) (y' := (4, 0, 0, yt)) o1 o3 o2 o4 o o' ho ho'
  have RA := hide (fun W => rorder_any 2 p 0 ⟨#[]⟩ 2 p 0 ⟨#[]⟩ W (ok_dec_in o1) (ok_dec_in o2))
  have RB := hide (fun W => rorder_any 4 0 0 xt 4 0 0 yt W (ok_dec_in o3) (ok_dec_in o4))
  rw [ho] at RA
  rw [ho'] at RB
  have RX := hide (fun W (h : Blk w2.heap.size #[.int .i64 2, .int .i64 p, .int .i64 0, .string ⟨#[]⟩, .int .i64 4, .int .i64 0, .int .i64 0, .string xt] W) => row2_any w2.heap.size p xt W o1 o3 h)
  have RY := hide (fun W (h : Blk w3.heap.size #[.int .i64 2, .int .i64 p, .int .i64 0, .string ⟨#[]⟩, .int .i64 4, .int .i64 0, .int .i64 0, .string yt] W) => row2_any w3.heap.size p yt W o2 o4 h)
  obtain ⟨rx, hrx⟩ : ∃ r, r = strOfNums (rowN [(2, p, 0, ⟨#[]⟩), (4, 0, 0, xt)]) := ⟨_, rfl⟩
  obtain ⟨ry, hry⟩ : ∃ r, r = strOfNums (rowN [(2, p, 0, ⟨#[]⟩), (4, 0, 0, yt)]) := ⟨_, rfl⟩
  rw [← hrx] at hle hsa RX
  first | rw [← hry] at hle hsa RY | rw [← hrx] at RY
  have HLE := hide hle
  have HSA := hide hsa
  clear hrx hry ho ho' o1 o2 o3 o4 hle hsa
  rename_i hrest
  refine wp_region_noPanic ?_
  refine wp_region_held_drew (S := SB w w2.heap.size w3.heap.size #[.int .i64 2, .int .i64 p, .int .i64 0, .string ⟨#[]⟩, .int .i64 4, .int .i64 0, .int .i64 0, .string xt] #[.int .i64 2, .int .i64 p, .int .i64 0, .string ⟨#[]⟩, .int .i64 4, .int .i64 0, .int .i64 0, .string yt]) (by kernel_rfl) (sb_call (unhide hS) (Below.refl _ _).drew) (fun hHeld => ?_)
  clear hS
  revert hHeld
  generalize World.drew _ = WdhS
  intro hHeld
  refine wpAnyH_take (i := 0) (oi := ?oi20017) (v := ?v20017) ?hi20017 (by kernel_rfl) (by kernel_rfl) (by kernel_rfl) (fun _ _ _ h => h) (Or.inl ⟨?hw20017, ?hy20017⟩) (by assumption) ?rest20017
  case hi20017 => (simp only [List.getElem?_toArray, List.getElem?_cons_zero]; rfl)
  case hw20017 => rfl
  case hy20017 => first | (intro wx hSw; go_simp; done) | (intro wx hSw; go_simp; with_reducible rfl)
  simp only [Act.put, List.setIfInBounds_toArray, List.set_cons_zero, List.set_cons_succ]
  refine wpAnyH_take (i := 3) (oi := ?oi20018) (v := ?v20018) ?hi20018 (by kernel_rfl) (by kernel_rfl) (by kernel_rfl) (fun _ _ _ h => h) (Or.inl ⟨?hw20018, ?hy20018⟩) (by assumption) ?rest20018
  case hi20018 => (simp only [List.getElem?_toArray, List.getElem?_cons_zero, List.getElem?_cons_succ]; rfl)
  case hw20018 => rfl
  case hy20018 => first | (intro wx hSw; go_simp; done) | (intro wx hSw; go_simp; with_reducible rfl)
  simp only [Act.put, List.setIfInBounds_toArray, List.set_cons_zero, List.set_cons_succ]
  refine wpAnyH_take (i := 1) (oi := ?oi20019) (v := ?v20019) ?hi20019 (by kernel_rfl) (by kernel_rfl) (by kernel_rfl) (fun _ _ _ h => h) (Or.inl ⟨?hw20019, ?hy20019⟩) (by assumption) ?rest20019
  case hi20019 => (simp only [List.getElem?_toArray, List.getElem?_cons_zero, List.getElem?_cons_succ]; rfl)
  case hw20019 => rfl
  case hy20019 => first | (intro wx hSw; go_simp; done) | (intro wx hSw; go_simp; with_reducible rfl)
  simp only [Act.put, List.setIfInBounds_toArray, List.set_cons_zero, List.set_cons_succ]
  refine wpAnyH_take (i := 4) (oi := ?oi20020) (v := ?v20020) ?hi20020 (by kernel_rfl) (by kernel_rfl) (by kernel_rfl) (fun _ _ _ h => h) (Or.inl ⟨?hw20020, ?hy20020⟩) (by assumption) ?rest20020
  case hi20020 => (simp only [List.getElem?_toArray, List.getElem?_cons_zero, List.getElem?_cons_succ]; rfl)
  case hw20020 => rfl
  case hy20020 => first | (intro wx hSw; go_simp; done) | (intro wx hSw; go_simp; with_reducible rfl)
  simp only [Act.put, List.setIfInBounds_toArray, List.set_cons_zero, List.set_cons_succ]
  refine wpAnyH_take (i := 2) (oi := ?oi20021) (v := ?v20021) ?hi20021 (by kernel_rfl) (by kernel_rfl) (by kernel_rfl) (fun _ _ _ h => h) (Or.inl ⟨?hw20021, ?hy20021⟩) (by assumption) ?rest20021
  case hi20021 => (simp only [List.getElem?_toArray, List.getElem?_cons_zero, List.getElem?_cons_succ]; rfl)
  case hw20021 => rfl
  case hy20021 => first | (intro wx hSw; obtain ⟨-, hbx, hby⟩ := hSw; have x0 := hbx.cell 0; have y0 := hby.cell 0; have x1 := hbx.cell 1; have y1 := hby.cell 1; have x2 := hbx.cell 2; have y2 := hby.cell 2; have x3 := hbx.cell 3; have y3 := hby.cell 3; have x4 := hbx.cell 4; have y4 := hby.cell 4; have x5 := hbx.cell 5; have y5 := hby.cell 5; have x6 := hbx.cell 6; have y6 := hby.cell 6; have x7 := hbx.cell 7; have y7 := hby.cell 7; simp at x0 x1 x2 x3 x4 x5 x6 x7 y0 y1 y2 y3 y4 y5 y6 y7; go_simp; done) | (intro wx hSw; obtain ⟨-, hbx, hby⟩ := hSw; have x0 := hbx.cell 0; have y0 := hby.cell 0; have x1 := hbx.cell 1; have y1 := hby.cell 1; have x2 := hbx.cell 2; have y2 := hby.cell 2; have x3 := hbx.cell 3; have y3 := hby.cell 3; have x4 := hbx.cell 4; have y4 := hby.cell 4; have x5 := hbx.cell 5; have y5 := hby.cell 5; have x6 := hbx.cell 6; have y6 := hby.cell 6; have x7 := hbx.cell 7; have y7 := hby.cell 7; simp at x0 x1 x2 x3 x4 x5 x6 x7 y0 y1 y2 y3 y4 y5 y6 y7; go_simp; with_reducible rfl)
  simp only [Act.put, List.setIfInBounds_toArray, List.set_cons_zero, List.set_cons_succ]
  refine wpAnyH_take (i := 5) (oi := ?oi20022) (v := ?v20022) ?hi20022 (by kernel_rfl) (by kernel_rfl) (by kernel_rfl) (fun _ _ _ h => h) (Or.inl ⟨?hw20022, ?hy20022⟩) (by assumption) ?rest20022
  case hi20022 => (simp only [List.getElem?_toArray, List.getElem?_cons_zero, List.getElem?_cons_succ]; rfl)
  case hw20022 => rfl
  case hy20022 => first | (intro wx hSw; obtain ⟨-, hbx, hby⟩ := hSw; have x0 := hbx.cell 0; have y0 := hby.cell 0; have x1 := hbx.cell 1; have y1 := hby.cell 1; have x2 := hbx.cell 2; have y2 := hby.cell 2; have x3 := hbx.cell 3; have y3 := hby.cell 3; have x4 := hbx.cell 4; have y4 := hby.cell 4; have x5 := hbx.cell 5; have y5 := hby.cell 5; have x6 := hbx.cell 6; have y6 := hby.cell 6; have x7 := hbx.cell 7; have y7 := hby.cell 7; simp at x0 x1 x2 x3 x4 x5 x6 x7 y0 y1 y2 y3 y4 y5 y6 y7; go_simp; done) | (intro wx hSw; obtain ⟨-, hbx, hby⟩ := hSw; have x0 := hbx.cell 0; have y0 := hby.cell 0; have x1 := hbx.cell 1; have y1 := hby.cell 1; have x2 := hbx.cell 2; have y2 := hby.cell 2; have x3 := hbx.cell 3; have y3 := hby.cell 3; have x4 := hbx.cell 4; have y4 := hby.cell 4; have x5 := hbx.cell 5; have y5 := hby.cell 5; have x6 := hbx.cell 6; have y6 := hby.cell 6; have x7 := hbx.cell 7; have y7 := hby.cell 7; simp at x0 x1 x2 x3 x4 x5 x6 x7 y0 y1 y2 y3 y4 y5 y6 y7; go_simp; with_reducible rfl)
  simp only [Act.put, List.setIfInBounds_toArray, List.set_cons_zero, List.set_cons_succ]
  have hW := hide hHeld
  refine wpAnyH_ready (rs := [6]) (by kernel_rfl) (by simp) ?_
  refine AllReadyH.cons rfl (fun K20023 hK20023 => ?_) AllReadyH.nil
  go_simp
  go_wp2_with (go_at_call 18; refine (unhide RA _).mono ?_; rintro e wchS ⟨rfl, hb⟩)
  refine hK20023.out _ _ ?hs20023 (fun hHeld20023 => ?_)
  case hs20023 => exact sb_call (unhide hW) hb
  clear hHeld
  have hHeld := hHeld20023; clear hHeld20023 hK20023 K20023
  clear hb hW
  refine wpAnyH_take (i := 7) (oi := ?oi20024) (v := ?v20024) ?hi20024 (by kernel_rfl) (by kernel_rfl) (by kernel_rfl) (fun _ _ _ h => h) (Or.inl ⟨?hw20024, ?hy20024⟩) (by assumption) ?rest20024
  case hi20024 => (simp only [List.getElem?_toArray, List.getElem?_cons_zero, List.getElem?_cons_succ]; rfl)
  case hw20024 => rfl
  case hy20024 => first | (intro wx hSw; go_simp; done) | (intro wx hSw; go_simp; with_reducible rfl)
  simp only [Act.put, List.setIfInBounds_toArray, List.set_cons_zero, List.set_cons_succ]
  refine wpAnyH_done (by kernel_rfl) ?_ _
  refine NoPanic.normal ?_
  refine hrest _ _ ?_
  clear hrest
  have hS := hide hHeld
  clear hHeld
  by_cases ho0 : o = 0
  · subst ho0
    rw [if_pos rfl] at HLE HSA
    go_wp2_with fail
    rename_i hrest
    refine wp_region_noPanic ?_
    refine wp_region_held_drew (S := SB w w2.heap.size w3.heap.size #[.int .i64 2, .int .i64 p, .int .i64 0, .string ⟨#[]⟩, .int .i64 4, .int .i64 0, .int .i64 0, .string xt] #[.int .i64 2, .int .i64 p, .int .i64 0, .string ⟨#[]⟩, .int .i64 4, .int .i64 0, .int .i64 0, .string yt]) (by kernel_rfl) (sb_call (unhide hS) (Below.refl _ _).drew) (fun hHeld => ?_)
    clear hS
    revert hHeld
    generalize World.drew _ = WdhS
    intro hHeld
    refine wpAnyH_take (i := 0) (oi := ?oi20025) (v := ?v20025) ?hi20025 (by kernel_rfl) (by kernel_rfl) (by kernel_rfl) (fun _ _ _ h => h) (Or.inl ⟨?hw20025, ?hy20025⟩) (by assumption) ?rest20025
    case hi20025 => (simp only [List.getElem?_toArray, List.getElem?_cons_zero]; rfl)
    case hw20025 => rfl
    case hy20025 => first | (intro wx hSw; go_simp; done) | (intro wx hSw; go_simp; with_reducible rfl)
    simp only [Act.put, List.setIfInBounds_toArray, List.set_cons_zero, List.set_cons_succ]
    refine wpAnyH_take (i := 3) (oi := ?oi20026) (v := ?v20026) ?hi20026 (by kernel_rfl) (by kernel_rfl) (by kernel_rfl) (fun _ _ _ h => h) (Or.inl ⟨?hw20026, ?hy20026⟩) (by assumption) ?rest20026
    case hi20026 => (simp only [List.getElem?_toArray, List.getElem?_cons_zero, List.getElem?_cons_succ]; rfl)
    case hw20026 => rfl
    case hy20026 => first | (intro wx hSw; go_simp; done) | (intro wx hSw; go_simp; with_reducible rfl)
    simp only [Act.put, List.setIfInBounds_toArray, List.set_cons_zero, List.set_cons_succ]
    refine wpAnyH_take (i := 1) (oi := ?oi20027) (v := ?v20027) ?hi20027 (by kernel_rfl) (by kernel_rfl) (by kernel_rfl) (fun _ _ _ h => h) (Or.inl ⟨?hw20027, ?hy20027⟩) (by assumption) ?rest20027
    case hi20027 => (simp only [List.getElem?_toArray, List.getElem?_cons_zero, List.getElem?_cons_succ]; rfl)
    case hw20027 => rfl
    case hy20027 => first | (intro wx hSw; go_simp; done) | (intro wx hSw; go_simp; with_reducible rfl)
    simp only [Act.put, List.setIfInBounds_toArray, List.set_cons_zero, List.set_cons_succ]
    refine wpAnyH_take (i := 4) (oi := ?oi20028) (v := ?v20028) ?hi20028 (by kernel_rfl) (by kernel_rfl) (by kernel_rfl) (fun _ _ _ h => h) (Or.inl ⟨?hw20028, ?hy20028⟩) (by assumption) ?rest20028
    case hi20028 => (simp only [List.getElem?_toArray, List.getElem?_cons_zero, List.getElem?_cons_succ]; rfl)
    case hw20028 => rfl
    case hy20028 => first | (intro wx hSw; go_simp; done) | (intro wx hSw; go_simp; with_reducible rfl)
    simp only [Act.put, List.setIfInBounds_toArray, List.set_cons_zero, List.set_cons_succ]
    refine wpAnyH_take (i := 2) (oi := ?oi20029) (v := ?v20029) ?hi20029 (by kernel_rfl) (by kernel_rfl) (by kernel_rfl) (fun _ _ _ h => h) (Or.inl ⟨?hw20029, ?hy20029⟩) (by assumption) ?rest20029
    case hi20029 => (simp only [List.getElem?_toArray, List.getElem?_cons_zero, List.getElem?_cons_succ]; rfl)
    case hw20029 => rfl
    case hy20029 => first | (intro wx hSw; obtain ⟨-, hbx, hby⟩ := hSw; have x0 := hbx.cell 0; have y0 := hby.cell 0; have x1 := hbx.cell 1; have y1 := hby.cell 1; have x2 := hbx.cell 2; have y2 := hby.cell 2; have x3 := hbx.cell 3; have y3 := hby.cell 3; have x4 := hbx.cell 4; have y4 := hby.cell 4; have x5 := hbx.cell 5; have y5 := hby.cell 5; have x6 := hbx.cell 6; have y6 := hby.cell 6; have x7 := hbx.cell 7; have y7 := hby.cell 7; simp at x0 x1 x2 x3 x4 x5 x6 x7 y0 y1 y2 y3 y4 y5 y6 y7; go_simp; done) | (intro wx hSw; obtain ⟨-, hbx, hby⟩ := hSw; have x0 := hbx.cell 0; have y0 := hby.cell 0; have x1 := hbx.cell 1; have y1 := hby.cell 1; have x2 := hbx.cell 2; have y2 := hby.cell 2; have x3 := hbx.cell 3; have y3 := hby.cell 3; have x4 := hbx.cell 4; have y4 := hby.cell 4; have x5 := hbx.cell 5; have y5 := hby.cell 5; have x6 := hbx.cell 6; have y6 := hby.cell 6; have x7 := hbx.cell 7; have y7 := hby.cell 7; simp at x0 x1 x2 x3 x4 x5 x6 x7 y0 y1 y2 y3 y4 y5 y6 y7; go_simp; with_reducible rfl)
    simp only [Act.put, List.setIfInBounds_toArray, List.set_cons_zero, List.set_cons_succ]
    refine wpAnyH_take (i := 5) (oi := ?oi20030) (v := ?v20030) ?hi20030 (by kernel_rfl) (by kernel_rfl) (by kernel_rfl) (fun _ _ _ h => h) (Or.inl ⟨?hw20030, ?hy20030⟩) (by assumption) ?rest20030
    case hi20030 => (simp only [List.getElem?_toArray, List.getElem?_cons_zero, List.getElem?_cons_succ]; rfl)
    case hw20030 => rfl
    case hy20030 => first | (intro wx hSw; obtain ⟨-, hbx, hby⟩ := hSw; have x0 := hbx.cell 0; have y0 := hby.cell 0; have x1 := hbx.cell 1; have y1 := hby.cell 1; have x2 := hbx.cell 2; have y2 := hby.cell 2; have x3 := hbx.cell 3; have y3 := hby.cell 3; have x4 := hbx.cell 4; have y4 := hby.cell 4; have x5 := hbx.cell 5; have y5 := hby.cell 5; have x6 := hbx.cell 6; have y6 := hby.cell 6; have x7 := hbx.cell 7; have y7 := hby.cell 7; simp at x0 x1 x2 x3 x4 x5 x6 x7 y0 y1 y2 y3 y4 y5 y6 y7; go_simp; done) | (intro wx hSw; obtain ⟨-, hbx, hby⟩ := hSw; have x0 := hbx.cell 0; have y0 := hby.cell 0; have x1 := hbx.cell 1; have y1 := hby.cell 1; have x2 := hbx.cell 2; have y2 := hby.cell 2; have x3 := hbx.cell 3; have y3 := hby.cell 3; have x4 := hbx.cell 4; have y4 := hby.cell 4; have x5 := hbx.cell 5; have y5 := hby.cell 5; have x6 := hbx.cell 6; have y6 := hby.cell 6; have x7 := hbx.cell 7; have y7 := hby.cell 7; simp at x0 x1 x2 x3 x4 x5 x6 x7 y0 y1 y2 y3 y4 y5 y6 y7; go_simp; with_reducible rfl)
    simp only [Act.put, List.setIfInBounds_toArray, List.set_cons_zero, List.set_cons_succ]
    have hW := hide hHeld
    refine wpAnyH_ready (rs := [6]) (by kernel_rfl) (by simp) ?_
    refine AllReadyH.cons rfl (fun K20031 hK20031 => ?_) AllReadyH.nil
    go_simp
    go_wp2_with (go_at_call 18; refine (unhide RB _).mono ?_; rintro e wchS ⟨rfl, hb⟩)
    refine hK20031.out _ _ ?hs20031 (fun hHeld20031 => ?_)
    case hs20031 => exact sb_call (unhide hW) hb
    clear hHeld
    have hHeld := hHeld20031; clear hHeld20031 hK20031 K20031
    clear hb hW
    refine wpAnyH_take (i := 7) (oi := ?oi20032) (v := ?v20032) ?hi20032 (by kernel_rfl) (by kernel_rfl) (by kernel_rfl) (fun _ _ _ h => h) (Or.inl ⟨?hw20032, ?hy20032⟩) (by assumption) ?rest20032
    case hi20032 => (simp only [List.getElem?_toArray, List.getElem?_cons_zero, List.getElem?_cons_succ]; rfl)
    case hw20032 => rfl
    case hy20032 => first | (intro wx hSw; go_simp; done) | (intro wx hSw; go_simp; with_reducible rfl)
    simp only [Act.put, List.setIfInBounds_toArray, List.set_cons_zero, List.set_cons_succ]
    refine wpAnyH_done (by kernel_rfl) ?_ _
    refine NoPanic.normal ?_
    refine hrest _ _ ?_
    clear hrest
    have hS := hide hHeld
    clear hHeld
    go_wp2_with fail
    refine (unhide RX _ (unhide hS).2.1).mono ?_
    rintro e w7 ⟨rfl, hb⟩
    replace hS := hide (sb_call (unhide hS) hb)
    clear hb
    go_wp2_with fail
    refine (unhide RY _ (unhide hS).2.2).mono ?_
    rintro e w8 ⟨rfl, hb⟩
    replace hS := hide (sb_call (unhide hS) hb)
    clear hb RX RY
    have hle := unhide HLE
    have hsa := unhide HSA
    clear HLE HSA
    rcases Int.lt_trichotomy o' 0 with g | g | g
    · rw [decide_eq_true g] at hle
      rw [decide_eq_false (show ¬ o' = 0 by omega)] at hsa
      have hne : (o' == 0) = false := beq_eq_false_iff_ne.2 (by omega)
      go_wp2_with fail
      go_ret
      exact ⟨rfl, (unhide hS).1⟩
    · rw [decide_eq_false (show ¬ o' < 0 by omega)] at hle
      rw [decide_eq_true g] at hsa
      have hne : (o' == 0) = true := beq_iff_eq.2 g
      have hno : ¬ o' < 0 := by omega
      go_wp2_with fail
      go_ret
      first | exact ⟨rfl, (unhide hS).1⟩ | (refine ⟨ret_bool ?_, (unhide hS).1⟩; first | (simp; done) | (simp; omega) | (simp [*]; done) | (simp [*]; omega))
    · rw [decide_eq_false (show ¬ o' < 0 by omega)] at hle
      rw [decide_eq_false (show ¬ o' = 0 by omega)] at hsa
      have hne : (o' == 0) = false := beq_eq_false_iff_ne.2 (by omega)
      have hno : ¬ o' < 0 := by omega
      go_wp2_with fail
      go_ret
      first | exact ⟨rfl, (unhide hS).1⟩ | (refine ⟨ret_bool ?_, (unhide hS).1⟩; first | (simp; done) | (simp; omega) | (simp [*]; done) | (simp [*]; omega))
  · rw [if_neg ho0] at HLE HSA
    have hob : (o == 0) = false := beq_eq_false_iff_ne.2 ho0
    go_wp2_with fail
    refine (unhide RX _ (unhide hS).2.1).mono ?_
    rintro e w7 ⟨rfl, hb⟩
    replace hS := hide (sb_call (unhide hS) hb)
    clear hb
    go_wp2_with fail
    refine (unhide RY _ (unhide hS).2.2).mono ?_
    rintro e w8 ⟨rfl, hb⟩
    replace hS := hide (sb_call (unhide hS) hb)
    clear hb RX RY
    have hle := unhide HLE
    have hsa := unhide HSA
    clear HLE HSA
    rcases Int.lt_trichotomy o 0 with g | g | g
    · rw [decide_eq_true g] at hle
      rw [decide_eq_false (show ¬ o = 0 by omega)] at hsa
      have hne : (o == 0) = false := beq_eq_false_iff_ne.2 (by omega)
      go_wp2_with fail
      go_ret
      exact ⟨rfl, (unhide hS).1⟩
    · rw [decide_eq_false (show ¬ o < 0 by omega)] at hle
      rw [decide_eq_true g] at hsa
      have hne : (o == 0) = true := beq_iff_eq.2 g
      have hno : ¬ o < 0 := by omega
      go_wp2_with fail
      go_ret
      first | exact ⟨rfl, (unhide hS).1⟩ | (refine ⟨ret_bool ?_, (unhide hS).1⟩; first | (simp; done) | (simp; omega) | (simp [*]; done) | (simp [*]; omega))
    · rw [decide_eq_false (show ¬ o < 0 by omega)] at hle
      rw [decide_eq_false (show ¬ o = 0 by omega)] at hsa
      have hne : (o == 0) = false := beq_eq_false_iff_ne.2 (by omega)
      have hno : ¬ o < 0 := by omega
      go_wp2_with fail
      go_ret
      first | exact ⟨rfl, (unhide hS).1⟩ | (refine ⟨ret_bool ?_, (unhide hS).1⟩; first | (simp; done) | (simp; omega) | (simp [*]; done) | (simp [*]; omega))

set_option maxHeartbeats 4000000 in
set_option maxRecDepth 100000 in
theorem rows_walk3 (a b c d p q i j : Int) (s t : ByteArray) (w : World) (hs : s.size ≤ 60) (ht : t.size ≤ 60) (hp : 0 ≤ p ∧ p < 9) (hq : 0 ≤ q ∧ q < 9)
    (WA : Hid (∀ W, Calls Try.prog 17 #[.int .i64 a, .int .i64 9] W fun e w' => e = .returned (.int .i64 p) ∧ w' = W))
    (WB : Hid (∀ W, Calls Try.prog 17 #[.int .i64 b, .int .i64 9] W fun e w' => e = .returned (.int .i64 q) ∧ w' = W))
    (WC : Hid (∀ W, Calls Try.prog 17 #[.int .i64 c, .int .i64 3] W fun e w' => e = .returned (.int .i64 i) ∧ w' = W))
    (WD : Hid (∀ W, Calls Try.prog 17 #[.int .i64 d, .int .i64 3] W fun e w' => e = .returned (.int .i64 j) ∧ w' = W))
    (MS : Hid (∀ W, Calls Try.prog 13 #[.int .i64 4, .int .i64 0, .string s] W fun e w' => Made e 4 ∧ Below W.heap.size W w'))
    (MT : Hid (∀ W, Calls Try.prog 13 #[.int .i64 4, .int .i64 0, .string t] W fun e w' => Made e 4 ∧ Below W.heap.size W w'))
    (hi : (i == 0) = false) (hj : (j == 0) = true) :
    Calls Try.prog 8 #[.int .i64 a, .int .i64 b, .int .i64 c, .int .i64 d, .string s, .string t] w fun e w' => e = .returned (.bool true) ∧ Below w.heap.size w w' := by
  have hL := hide (Below.refl w.heap.size w)
  go_enter Try.func8, Try.ntmps8
  go_wp2_with fail
  refine (known_any _).mono ?_
  rintro e w1 ⟨rfl, hb1⟩
  replace hL := hide ((unhide hL).trans (hb1.mono (unhide hL).size))
  clear hb1
  go_wp2_with fail
  refine (unhide WA _).mono ?_
  rintro e wq1 ⟨rfl, rfl⟩
  go_wp2_with fail
  refine (unhide MS _).mono ?_
  rintro e w2 ⟨hmade, hb2⟩
  obtain ⟨sn, ss, xt, okx, rfl⟩ := ok_made4 hmade
  have OX := hide okx
  replace hL := hide ((unhide hL).trans (hb2.mono (unhide hL).size))
  clear hb2 okx hmade
  have hX := hide (Blk.new w2 #[.int .i64 2, .int .i64 p, .int .i64 0, .string ⟨#[]⟩, .int .i64 4, .int .i64 0, .int .i64 0, .string xt])
  replace hL := hide ((unhide hL).alloc (unhide hL).size (.cells #[.int .i64 2, .int .i64 p, .int .i64 0, .string ⟨#[]⟩, .int .i64 4, .int .i64 0, .int .i64 0, .string xt] 24))
  go_wp2_with fail
  refine (unhide WB _).mono ?_
  rintro e wq2 ⟨rfl, rfl⟩
  go_wp2_with fail
  refine (unhide MT _).mono ?_
  rintro e w3 ⟨hmade, hb3⟩
  obtain ⟨tn, ts, yt, oky, rfl⟩ := ok_made4 hmade
  have OY := hide oky
  replace hX := hide ((unhide hX).call hb3)
  replace hL := hide ((unhide hL).trans (hb3.mono (unhide hL).size))
  clear hb3 oky hmade
  have hlt := (unhide hX).lt
  go_wp2_with fail
  refine (unhide WC _).mono ?_
  rintro e wq3 ⟨rfl, rfl⟩
  go_wp2_with fail
  refine (unhide WD _).mono ?_
  rintro e wq4 ⟨rfl, rfl⟩
  have hX1 := hide ((unhide hX).more (.cells #[.int .i64 2, .int .i64 q, .int .i64 0, .string ⟨#[]⟩, .int .i64 4, .int .i64 0, .int .i64 0, .string yt] 24))
  have x4 := (unhide hX1).cell 4
  have x5 := (unhide hX1).cell 5
  have x6 := (unhide hX1).cell 6
  have x7 := (unhide hX1).cell 7
  simp at x4 x5 x6 x7
  go_wp2_with fail
  clear x4 x5 x6 x7 hX1
  replace hX := hide ((unhide hX).more (.cells #[.int .i64 2, .int .i64 q, .int .i64 0, .string ⟨#[]⟩, .int .i64 4, .int .i64 0, .int .i64 0, .string xt] 24))
  have hY := hide (Blk.new w3 #[.int .i64 2, .int .i64 q, .int .i64 0, .string ⟨#[]⟩, .int .i64 4, .int .i64 0, .int .i64 0, .string xt])
  replace hL := hide ((unhide hL).alloc (unhide hL).size (.cells #[.int .i64 2, .int .i64 q, .int .i64 0, .string ⟨#[]⟩, .int .i64 4, .int .i64 0, .int .i64 0, .string xt] 24))
  clear hlt WA WB WC WD MS MT
  have hS := hide (show SB w w2.heap.size w3.heap.size #[.int .i64 2, .int .i64 p, .int .i64 0, .string ⟨#[]⟩, .int .i64 4, .int .i64 0, .int .i64 0, .string xt] #[.int .i64 2, .int .i64 q, .int .i64 0, .string ⟨#[]⟩, .int .i64 4, .int .i64 0, .int .i64 0, .string xt] (w3.alloc (.cells #[.int .i64 2, .int .i64 q, .int .i64 0, .string ⟨#[]⟩, .int .i64 4, .int .i64 0, .int .i64 0, .string xt] 24)) from ⟨unhide hL, unhide hX, unhide hY⟩)
  clear hX hY hL
  have o1 : Ok 2 p 0 ⟨#[]⟩ := ok_int (by unfold Is64; omega)
  have o2 : Ok 2 q 0 ⟨#[]⟩ := ok_int (by unfold Is64; omega)
  have o3 : Ok 4 0 0 xt := unhide OX
  have o4 : Ok 4 0 0 xt := unhide OX
  obtain ⟨o, ho⟩ : ∃ o, rordV 2 p 0 ⟨#[]⟩ 2 q 0 ⟨#[]⟩ = o := ⟨_, rfl⟩
  obtain ⟨o', ho'⟩ : ∃ o, rordV 4 0 0 xt 4 0 0 xt = o := ⟨_, rfl⟩
  obtain ⟨hle, hsa⟩ := row_less (x := (2, p, 0, ⟨#[]⟩)) (x' := (4, 0, 0, xt)) (y := (2, q, 0, ⟨#[]⟩)) (y' := (4, 0, 0, xt)) o1 o3 o2 o4 o o' ho ho'
  have RA := hide (fun W => rorder_any 2 p 0 ⟨#[]⟩ 2 q 0 ⟨#[]⟩ W (ok_dec_in o1) (ok_dec_in o2))
  have RB := hide (fun W => rorder_any 4 0 0 xt 4 0 0 xt W (ok_dec_in o3) (ok_dec_in o4))
  rw [ho] at RA
  rw [ho'] at RB
  have RX := hide (fun W (h : Blk w2.heap.size #[.int .i64 2, .int .i64 p, .int .i64 0, .string ⟨#[]⟩, .int .i64 4, .int .i64 0, .int .i64 0, .string xt] W) => row2_any w2.heap.size p xt W o1 o3 h)
  have RY := hide (fun W (h : Blk w3.heap.size #[.int .i64 2, .int .i64 q, .int .i64 0, .string ⟨#[]⟩, .int .i64 4, .int .i64 0, .int .i64 0, .string xt] W) => row2_any w3.heap.size q xt W o2 o4 h)
  obtain ⟨rx, hrx⟩ : ∃ r, r = strOfNums (rowN [(2, p, 0, ⟨#[]⟩), (4, 0, 0, xt)]) := ⟨_, rfl⟩
  obtain ⟨ry, hry⟩ : ∃ r, r = strOfNums (rowN [(2, q, 0, ⟨#[]⟩), (4, 0, 0, xt)]) := ⟨_, rfl⟩
  rw [← hrx] at hle hsa RX
  first | rw [← hry] at hle hsa RY | rw [← hrx] at RY
  have HLE := hide hle
  have HSA := hide hsa
  clear hrx hry ho ho' o1 o2 o3 o4 hle hsa
  rename_i hrest
  refine wp_region_noPanic ?_
  refine wp_region_held_drew (S := SB w w2.heap.size w3.heap.size #[.int .i64 2, .int .i64 p, .int .i64 0, .string ⟨#[]⟩, .int .i64 4, .int .i64 0, .int .i64 0, .string xt] #[.int .i64 2, .int .i64 q, .int .i64 0, .string ⟨#[]⟩, .int .i64 4, .int .i64 0, .int .i64 0, .string xt]) (by kernel_rfl) (sb_call (unhide hS) (Below.refl _ _).drew) (fun hHeld => ?_)
  clear hS
  revert hHeld
  generalize World.drew _ = WdhS
  intro hHeld
  refine wpAnyH_take (i := 0) (oi := ?oi20033) (v := ?v20033) ?hi20033 (by kernel_rfl) (by kernel_rfl) (by kernel_rfl) (fun _ _ _ h => h) (Or.inl ⟨?hw20033, ?hy20033⟩) (by assumption) ?rest20033
  case hi20033 => (simp only [List.getElem?_toArray, List.getElem?_cons_zero]; rfl)
  case hw20033 => rfl
  case hy20033 => first | (intro wx hSw; go_simp; done) | (intro wx hSw; go_simp; with_reducible rfl)
  simp only [Act.put, List.setIfInBounds_toArray, List.set_cons_zero, List.set_cons_succ]
  refine wpAnyH_take (i := 3) (oi := ?oi20034) (v := ?v20034) ?hi20034 (by kernel_rfl) (by kernel_rfl) (by kernel_rfl) (fun _ _ _ h => h) (Or.inl ⟨?hw20034, ?hy20034⟩) (by assumption) ?rest20034
  case hi20034 => (simp only [List.getElem?_toArray, List.getElem?_cons_zero, List.getElem?_cons_succ]; rfl)
  case hw20034 => rfl
  case hy20034 => first | (intro wx hSw; go_simp; done) | (intro wx hSw; go_simp; with_reducible rfl)
  simp only [Act.put, List.setIfInBounds_toArray, List.set_cons_zero, List.set_cons_succ]
  refine wpAnyH_take (i := 1) (oi := ?oi20035) (v := ?v20035) ?hi20035 (by kernel_rfl) (by kernel_rfl) (by kernel_rfl) (fun _ _ _ h => h) (Or.inl ⟨?hw20035, ?hy20035⟩) (by assumption) ?rest20035
  case hi20035 => (simp only [List.getElem?_toArray, List.getElem?_cons_zero, List.getElem?_cons_succ]; rfl)
  case hw20035 => rfl
  case hy20035 => first | (intro wx hSw; go_simp; done) | (intro wx hSw; go_simp; with_reducible rfl)
  simp only [Act.put, List.setIfInBounds_toArray, List.set_cons_zero, List.set_cons_succ]
  refine wpAnyH_take (i := 4) (oi := ?oi20036) (v := ?v20036) ?hi20036 (by kernel_rfl) (by kernel_rfl) (by kernel_rfl) (fun _ _ _ h => h) (Or.inl ⟨?hw20036, ?hy20036⟩) (by assumption) ?rest20036
  case hi20036 => (simp only [List.getElem?_toArray, List.getElem?_cons_zero, List.getElem?_cons_succ]; rfl)
  case hw20036 => rfl
  case hy20036 => first | (intro wx hSw; go_simp; done) | (intro wx hSw; go_simp; with_reducible rfl)
  simp only [Act.put, List.setIfInBounds_toArray, List.set_cons_zero, List.set_cons_succ]
  refine wpAnyH_take (i := 2) (oi := ?oi20037) (v := ?v20037) ?hi20037 (by kernel_rfl) (by kernel_rfl) (by kernel_rfl) (fun _ _ _ h => h) (Or.inl ⟨?hw20037, ?hy20037⟩) (by assumption) ?rest20037
  case hi20037 => (simp only [List.getElem?_toArray, List.getElem?_cons_zero, List.getElem?_cons_succ]; rfl)
  case hw20037 => rfl
  case hy20037 => first | (intro wx hSw; obtain ⟨-, hbx, hby⟩ := hSw; have x0 := hbx.cell 0; have y0 := hby.cell 0; have x1 := hbx.cell 1; have y1 := hby.cell 1; have x2 := hbx.cell 2; have y2 := hby.cell 2; have x3 := hbx.cell 3; have y3 := hby.cell 3; have x4 := hbx.cell 4; have y4 := hby.cell 4; have x5 := hbx.cell 5; have y5 := hby.cell 5; have x6 := hbx.cell 6; have y6 := hby.cell 6; have x7 := hbx.cell 7; have y7 := hby.cell 7; simp at x0 x1 x2 x3 x4 x5 x6 x7 y0 y1 y2 y3 y4 y5 y6 y7; go_simp; done) | (intro wx hSw; obtain ⟨-, hbx, hby⟩ := hSw; have x0 := hbx.cell 0; have y0 := hby.cell 0; have x1 := hbx.cell 1; have y1 := hby.cell 1; have x2 := hbx.cell 2; have y2 := hby.cell 2; have x3 := hbx.cell 3; have y3 := hby.cell 3; have x4 := hbx.cell 4; have y4 := hby.cell 4; have x5 := hbx.cell 5; have y5 := hby.cell 5; have x6 := hbx.cell 6; have y6 := hby.cell 6; have x7 := hbx.cell 7; have y7 := hby.cell 7; simp at x0 x1 x2 x3 x4 x5 x6 x7 y0 y1 y2 y3 y4 y5 y6 y7; go_simp; with_reducible rfl)
  simp only [Act.put, List.setIfInBounds_toArray, List.set_cons_zero, List.set_cons_succ]
  refine wpAnyH_take (i := 5) (oi := ?oi20038) (v := ?v20038) ?hi20038 (by kernel_rfl) (by kernel_rfl) (by kernel_rfl) (fun _ _ _ h => h) (Or.inl ⟨?hw20038, ?hy20038⟩) (by assumption) ?rest20038
  case hi20038 => (simp only [List.getElem?_toArray, List.getElem?_cons_zero, List.getElem?_cons_succ]; rfl)
  case hw20038 => rfl
  case hy20038 => first | (intro wx hSw; obtain ⟨-, hbx, hby⟩ := hSw; have x0 := hbx.cell 0; have y0 := hby.cell 0; have x1 := hbx.cell 1; have y1 := hby.cell 1; have x2 := hbx.cell 2; have y2 := hby.cell 2; have x3 := hbx.cell 3; have y3 := hby.cell 3; have x4 := hbx.cell 4; have y4 := hby.cell 4; have x5 := hbx.cell 5; have y5 := hby.cell 5; have x6 := hbx.cell 6; have y6 := hby.cell 6; have x7 := hbx.cell 7; have y7 := hby.cell 7; simp at x0 x1 x2 x3 x4 x5 x6 x7 y0 y1 y2 y3 y4 y5 y6 y7; go_simp; done) | (intro wx hSw; obtain ⟨-, hbx, hby⟩ := hSw; have x0 := hbx.cell 0; have y0 := hby.cell 0; have x1 := hbx.cell 1; have y1 := hby.cell 1; have x2 := hbx.cell 2; have y2 := hby.cell 2; have x3 := hbx.cell 3; have y3 := hby.cell 3; have x4 := hbx.cell 4; have y4 := hby.cell 4; have x5 := hbx.cell 5; have y5 := hby.cell 5; have x6 := hbx.cell 6; have y6 := hby.cell 6; have x7 := hbx.cell 7; have y7 := hby.cell 7; simp at x0 x1 x2 x3 x4 x5 x6 x7 y0 y1 y2 y3 y4 y5 y6 y7; go_simp; with_reducible rfl)
  simp only [Act.put, List.setIfInBounds_toArray, List.set_cons_zero, List.set_cons_succ]
  have hW := hide hHeld
  refine wpAnyH_ready (rs := [6]) (by kernel_rfl) (by simp) ?_
  refine AllReadyH.cons rfl (fun K20039 hK20039 => ?_) AllReadyH.nil
  go_simp
  go_wp2_with (go_at_call 18; refine (unhide RA _).mono ?_; rintro e wchS ⟨rfl, hb⟩)
  refine hK20039.out _ _ ?hs20039 (fun hHeld20039 => ?_)
  case hs20039 => exact sb_call (unhide hW) hb
  clear hHeld
  have hHeld := hHeld20039; clear hHeld20039 hK20039 K20039
  clear hb hW
  refine wpAnyH_take (i := 7) (oi := ?oi20040) (v := ?v20040) ?hi20040 (by kernel_rfl) (by kernel_rfl) (by kernel_rfl) (fun _ _ _ h => h) (Or.inl ⟨?hw20040, ?hy20040⟩) (by assumption) ?rest20040
  case hi20040 => (simp only [List.getElem?_toArray, List.getElem?_cons_zero, List.getElem?_cons_succ]; rfl)
  case hw20040 => rfl
  case hy20040 => first | (intro wx hSw; go_simp; done) | (intro wx hSw; go_simp; with_reducible rfl)
  simp only [Act.put, List.setIfInBounds_toArray, List.set_cons_zero, List.set_cons_succ]
  refine wpAnyH_done (by kernel_rfl) ?_ _
  refine NoPanic.normal ?_
  refine hrest _ _ ?_
  clear hrest
  have hS := hide hHeld
  clear hHeld
  by_cases ho0 : o = 0
  · subst ho0
    rw [if_pos rfl] at HLE HSA
    go_wp2_with fail
    rename_i hrest
    refine wp_region_noPanic ?_
    refine wp_region_held_drew (S := SB w w2.heap.size w3.heap.size #[.int .i64 2, .int .i64 p, .int .i64 0, .string ⟨#[]⟩, .int .i64 4, .int .i64 0, .int .i64 0, .string xt] #[.int .i64 2, .int .i64 q, .int .i64 0, .string ⟨#[]⟩, .int .i64 4, .int .i64 0, .int .i64 0, .string xt]) (by kernel_rfl) (sb_call (unhide hS) (Below.refl _ _).drew) (fun hHeld => ?_)
    clear hS
    revert hHeld
    generalize World.drew _ = WdhS
    intro hHeld
    refine wpAnyH_take (i := 0) (oi := ?oi20041) (v := ?v20041) ?hi20041 (by kernel_rfl) (by kernel_rfl) (by kernel_rfl) (fun _ _ _ h => h) (Or.inl ⟨?hw20041, ?hy20041⟩) (by assumption) ?rest20041
    case hi20041 => (simp only [List.getElem?_toArray, List.getElem?_cons_zero]; rfl)
    case hw20041 => rfl
    case hy20041 => first | (intro wx hSw; go_simp; done) | (intro wx hSw; go_simp; with_reducible rfl)
    simp only [Act.put, List.setIfInBounds_toArray, List.set_cons_zero, List.set_cons_succ]
    refine wpAnyH_take (i := 3) (oi := ?oi20042) (v := ?v20042) ?hi20042 (by kernel_rfl) (by kernel_rfl) (by kernel_rfl) (fun _ _ _ h => h) (Or.inl ⟨?hw20042, ?hy20042⟩) (by assumption) ?rest20042
    case hi20042 => (simp only [List.getElem?_toArray, List.getElem?_cons_zero, List.getElem?_cons_succ]; rfl)
    case hw20042 => rfl
    case hy20042 => first | (intro wx hSw; go_simp; done) | (intro wx hSw; go_simp; with_reducible rfl)
    simp only [Act.put, List.setIfInBounds_toArray, List.set_cons_zero, List.set_cons_succ]
    refine wpAnyH_take (i := 1) (oi := ?oi20043) (v := ?v20043) ?hi20043 (by kernel_rfl) (by kernel_rfl) (by kernel_rfl) (fun _ _ _ h => h) (Or.inl ⟨?hw20043, ?hy20043⟩) (by assumption) ?rest20043
    case hi20043 => (simp only [List.getElem?_toArray, List.getElem?_cons_zero, List.getElem?_cons_succ]; rfl)
    case hw20043 => rfl
    case hy20043 => first | (intro wx hSw; go_simp; done) | (intro wx hSw; go_simp; with_reducible rfl)
    simp only [Act.put, List.setIfInBounds_toArray, List.set_cons_zero, List.set_cons_succ]
    refine wpAnyH_take (i := 4) (oi := ?oi20044) (v := ?v20044) ?hi20044 (by kernel_rfl) (by kernel_rfl) (by kernel_rfl) (fun _ _ _ h => h) (Or.inl ⟨?hw20044, ?hy20044⟩) (by assumption) ?rest20044
    case hi20044 => (simp only [List.getElem?_toArray, List.getElem?_cons_zero, List.getElem?_cons_succ]; rfl)
    case hw20044 => rfl
    case hy20044 => first | (intro wx hSw; go_simp; done) | (intro wx hSw; go_simp; with_reducible rfl)
    simp only [Act.put, List.setIfInBounds_toArray, List.set_cons_zero, List.set_cons_succ]
    refine wpAnyH_take (i := 2) (oi := ?oi20045) (v := ?v20045) ?hi20045 (by kernel_rfl) (by kernel_rfl) (by kernel_rfl) (fun _ _ _ h => h) (Or.inl ⟨?hw20045, ?hy20045⟩) (by assumption) ?rest20045
    case hi20045 => (simp only [List.getElem?_toArray, List.getElem?_cons_zero, List.getElem?_cons_succ]; rfl)
    case hw20045 => rfl
    case hy20045 => first | (intro wx hSw; obtain ⟨-, hbx, hby⟩ := hSw; have x0 := hbx.cell 0; have y0 := hby.cell 0; have x1 := hbx.cell 1; have y1 := hby.cell 1; have x2 := hbx.cell 2; have y2 := hby.cell 2; have x3 := hbx.cell 3; have y3 := hby.cell 3; have x4 := hbx.cell 4; have y4 := hby.cell 4; have x5 := hbx.cell 5; have y5 := hby.cell 5; have x6 := hbx.cell 6; have y6 := hby.cell 6; have x7 := hbx.cell 7; have y7 := hby.cell 7; simp at x0 x1 x2 x3 x4 x5 x6 x7 y0 y1 y2 y3 y4 y5 y6 y7; go_simp; done) | (intro wx hSw; obtain ⟨-, hbx, hby⟩ := hSw; have x0 := hbx.cell 0; have y0 := hby.cell 0; have x1 := hbx.cell 1; have y1 := hby.cell 1; have x2 := hbx.cell 2; have y2 := hby.cell 2; have x3 := hbx.cell 3; have y3 := hby.cell 3; have x4 := hbx.cell 4; have y4 := hby.cell 4; have x5 := hbx.cell 5; have y5 := hby.cell 5; have x6 := hbx.cell 6; have y6 := hby.cell 6; have x7 := hbx.cell 7; have y7 := hby.cell 7; simp at x0 x1 x2 x3 x4 x5 x6 x7 y0 y1 y2 y3 y4 y5 y6 y7; go_simp; with_reducible rfl)
    simp only [Act.put, List.setIfInBounds_toArray, List.set_cons_zero, List.set_cons_succ]
    refine wpAnyH_take (i := 5) (oi := ?oi20046) (v := ?v20046) ?hi20046 (by kernel_rfl) (by kernel_rfl) (by kernel_rfl) (fun _ _ _ h => h) (Or.inl ⟨?hw20046, ?hy20046⟩) (by assumption) ?rest20046
    case hi20046 => (simp only [List.getElem?_toArray, List.getElem?_cons_zero, List.getElem?_cons_succ]; rfl)
    case hw20046 => rfl
    case hy20046 => first | (intro wx hSw; obtain ⟨-, hbx, hby⟩ := hSw; have x0 := hbx.cell 0; have y0 := hby.cell 0; have x1 := hbx.cell 1; have y1 := hby.cell 1; have x2 := hbx.cell 2; have y2 := hby.cell 2; have x3 := hbx.cell 3; have y3 := hby.cell 3; have x4 := hbx.cell 4; have y4 := hby.cell 4; have x5 := hbx.cell 5; have y5 := hby.cell 5; have x6 := hbx.cell 6; have y6 := hby.cell 6; have x7 := hbx.cell 7; have y7 := hby.cell 7; simp at x0 x1 x2 x3 x4 x5 x6 x7 y0 y1 y2 y3 y4 y5 y6 y7; go_simp; done) | (intro wx hSw; obtain ⟨-, hbx, hby⟩ := hSw; have x0 := hbx.cell 0; have y0 := hby.cell 0; have x1 := hbx.cell 1; have y1 := hby.cell 1; have x2 := hbx.cell 2; have y2 := hby.cell 2; have x3 := hbx.cell 3; have y3 := hby.cell 3; have x4 := hbx.cell 4; have y4 := hby.cell 4; have x5 := hbx.cell 5; have y5 := hby.cell 5; have x6 := hbx.cell 6; have y6 := hby.cell 6; have x7 := hbx.cell 7; have y7 := hby.cell 7; simp at x0 x1 x2 x3 x4 x5 x6 x7 y0 y1 y2 y3 y4 y5 y6 y7; go_simp; with_reducible rfl)
    simp only [Act.put, List.setIfInBounds_toArray, List.set_cons_zero, List.set_cons_succ]
    have hW := hide hHeld
    refine wpAnyH_ready (rs := [6]) (by kernel_rfl) (by simp) ?_
    refine AllReadyH.cons rfl (fun K20047 hK20047 => ?_) AllReadyH.nil
    go_simp
    go_wp2_with (go_at_call 18; refine (unhide RB _).mono ?_; rintro e wchS ⟨rfl, hb⟩)
    refine hK20047.out _ _ ?hs20047 (fun hHeld20047 => ?_)
    case hs20047 => exact sb_call (unhide hW) hb
    clear hHeld
    have hHeld := hHeld20047; clear hHeld20047 hK20047 K20047
    clear hb hW
    refine wpAnyH_take (i := 7) (oi := ?oi20048) (v := ?v20048) ?hi20048 (by kernel_rfl) (by kernel_rfl) (by kernel_rfl) (fun _ _ _ h => h) (Or.inl ⟨?hw20048, ?hy20048⟩) (by assumption) ?rest20048
    case hi20048 => (simp only [List.getElem?_toArray, List.getElem?_cons_zero, List.getElem?_cons_succ]; rfl)
    case hw20048 => rfl
    case hy20048 => first | (intro wx hSw; go_simp; done) | (intro wx hSw; go_simp; with_reducible rfl)
    simp only [Act.put, List.setIfInBounds_toArray, List.set_cons_zero, List.set_cons_succ]
    refine wpAnyH_done (by kernel_rfl) ?_ _
    refine NoPanic.normal ?_
    refine hrest _ _ ?_
    clear hrest
    have hS := hide hHeld
    clear hHeld
    go_wp2_with fail
    refine (unhide RX _ (unhide hS).2.1).mono ?_
    rintro e w7 ⟨rfl, hb⟩
    replace hS := hide (sb_call (unhide hS) hb)
    clear hb
    go_wp2_with fail
    refine (unhide RY _ (unhide hS).2.2).mono ?_
    rintro e w8 ⟨rfl, hb⟩
    replace hS := hide (sb_call (unhide hS) hb)
    clear hb RX RY
    have hle := unhide HLE
    have hsa := unhide HSA
    clear HLE HSA
    rcases Int.lt_trichotomy o' 0 with g | g | g
    · rw [decide_eq_true g] at hle
      rw [decide_eq_false (show ¬ o' = 0 by omega)] at hsa
      have hne : (o' == 0) = false := beq_eq_false_iff_ne.2 (by omega)
      go_wp2_with fail
      go_ret
      exact ⟨rfl, (unhide hS).1⟩
    · rw [decide_eq_false (show ¬ o' < 0 by omega)] at hle
      rw [decide_eq_true g] at hsa
      have hne : (o' == 0) = true := beq_iff_eq.2 g
      have hno : ¬ o' < 0 := by omega
      go_wp2_with fail
      go_ret
      first | exact ⟨rfl, (unhide hS).1⟩ | (refine ⟨ret_bool ?_, (unhide hS).1⟩; first | (simp; done) | (simp; omega) | (simp [*]; done) | (simp [*]; omega))
    · rw [decide_eq_false (show ¬ o' < 0 by omega)] at hle
      rw [decide_eq_false (show ¬ o' = 0 by omega)] at hsa
      have hne : (o' == 0) = false := beq_eq_false_iff_ne.2 (by omega)
      have hno : ¬ o' < 0 := by omega
      go_wp2_with fail
      go_ret
      first | exact ⟨rfl, (unhide hS).1⟩ | (refine ⟨ret_bool ?_, (unhide hS).1⟩; first | (simp; done) | (simp; omega) | (simp [*]; done) | (simp [*]; omega))
  · rw [if_neg ho0] at HLE HSA
    have hob : (o == 0) = false := beq_eq_false_iff_ne.2 ho0
    go_wp2_with fail
    refine (unhide RX _ (unhide hS).2.1).mono ?_
    rintro e w7 ⟨rfl, hb⟩
    replace hS := hide (sb_call (unhide hS) hb)
    clear hb
    go_wp2_with fail
    refine (unhide RY _ (unhide hS).2.2).mono ?_
    rintro e w8 ⟨rfl, hb⟩
    replace hS := hide (sb_call (unhide hS) hb)
    clear hb RX RY
    have hle := unhide HLE
    have hsa := unhide HSA
    clear HLE HSA
    rcases Int.lt_trichotomy o 0 with g | g | g
    · rw [decide_eq_true g] at hle
      rw [decide_eq_false (show ¬ o = 0 by omega)] at hsa
      have hne : (o == 0) = false := beq_eq_false_iff_ne.2 (by omega)
      go_wp2_with fail
      go_ret
      exact ⟨rfl, (unhide hS).1⟩
    · rw [decide_eq_false (show ¬ o < 0 by omega)] at hle
      rw [decide_eq_true g] at hsa
      have hne : (o == 0) = true := beq_iff_eq.2 g
      have hno : ¬ o < 0 := by omega
      go_wp2_with fail
      go_ret
      first | exact ⟨rfl, (unhide hS).1⟩ | (refine ⟨ret_bool ?_, (unhide hS).1⟩; first | (simp; done) | (simp; omega) | (simp [*]; done) | (simp [*]; omega))
    · rw [decide_eq_false (show ¬ o < 0 by omega)] at hle
      rw [decide_eq_false (show ¬ o = 0 by omega)] at hsa
      have hne : (o == 0) = false := beq_eq_false_iff_ne.2 (by omega)
      have hno : ¬ o < 0 := by omega
      go_wp2_with fail
      go_ret
      first | exact ⟨rfl, (unhide hS).1⟩ | (refine ⟨ret_bool ?_, (unhide hS).1⟩; first | (simp; done) | (simp; omega) | (simp [*]; done) | (simp [*]; omega))

set_option maxHeartbeats 4000000 in
set_option maxRecDepth 100000 in
theorem rows_walk4 (a b c d p q i j : Int) (s t : ByteArray) (w : World) (hs : s.size ≤ 60) (ht : t.size ≤ 60) (hp : 0 ≤ p ∧ p < 9) (hq : 0 ≤ q ∧ q < 9)
    (WA : Hid (∀ W, Calls Try.prog 17 #[.int .i64 a, .int .i64 9] W fun e w' => e = .returned (.int .i64 p) ∧ w' = W))
    (WB : Hid (∀ W, Calls Try.prog 17 #[.int .i64 b, .int .i64 9] W fun e w' => e = .returned (.int .i64 q) ∧ w' = W))
    (WC : Hid (∀ W, Calls Try.prog 17 #[.int .i64 c, .int .i64 3] W fun e w' => e = .returned (.int .i64 i) ∧ w' = W))
    (WD : Hid (∀ W, Calls Try.prog 17 #[.int .i64 d, .int .i64 3] W fun e w' => e = .returned (.int .i64 j) ∧ w' = W))
    (MS : Hid (∀ W, Calls Try.prog 13 #[.int .i64 4, .int .i64 0, .string s] W fun e w' => Made e 4 ∧ Below W.heap.size W w'))
    (MT : Hid (∀ W, Calls Try.prog 13 #[.int .i64 4, .int .i64 0, .string t] W fun e w' => Made e 4 ∧ Below W.heap.size W w'))
    (hi : (i == 0) = false) (hj : (j == 0) = false) :
    Calls Try.prog 8 #[.int .i64 a, .int .i64 b, .int .i64 c, .int .i64 d, .string s, .string t] w fun e w' => e = .returned (.bool true) ∧ Below w.heap.size w w' := by
  have hL := hide (Below.refl w.heap.size w)
  go_enter Try.func8, Try.ntmps8
  go_wp2_with fail
  refine (known_any _).mono ?_
  rintro e w1 ⟨rfl, hb1⟩
  replace hL := hide ((unhide hL).trans (hb1.mono (unhide hL).size))
  clear hb1
  go_wp2_with fail
  refine (unhide WA _).mono ?_
  rintro e wq1 ⟨rfl, rfl⟩
  go_wp2_with fail
  refine (unhide MS _).mono ?_
  rintro e w2 ⟨hmade, hb2⟩
  obtain ⟨sn, ss, xt, okx, rfl⟩ := ok_made4 hmade
  have OX := hide okx
  replace hL := hide ((unhide hL).trans (hb2.mono (unhide hL).size))
  clear hb2 okx hmade
  have hX := hide (Blk.new w2 #[.int .i64 2, .int .i64 p, .int .i64 0, .string ⟨#[]⟩, .int .i64 4, .int .i64 0, .int .i64 0, .string xt])
  replace hL := hide ((unhide hL).alloc (unhide hL).size (.cells #[.int .i64 2, .int .i64 p, .int .i64 0, .string ⟨#[]⟩, .int .i64 4, .int .i64 0, .int .i64 0, .string xt] 24))
  go_wp2_with fail
  refine (unhide WB _).mono ?_
  rintro e wq2 ⟨rfl, rfl⟩
  go_wp2_with fail
  refine (unhide MT _).mono ?_
  rintro e w3 ⟨hmade, hb3⟩
  obtain ⟨tn, ts, yt, oky, rfl⟩ := ok_made4 hmade
  have OY := hide oky
  replace hX := hide ((unhide hX).call hb3)
  replace hL := hide ((unhide hL).trans (hb3.mono (unhide hL).size))
  clear hb3 oky hmade
  have hlt := (unhide hX).lt
  go_wp2_with fail
  refine (unhide WC _).mono ?_
  rintro e wq3 ⟨rfl, rfl⟩
  go_wp2_with fail
  refine (unhide WD _).mono ?_
  rintro e wq4 ⟨rfl, rfl⟩
  go_wp2_with fail
  replace hX := hide ((unhide hX).more (.cells #[.int .i64 2, .int .i64 q, .int .i64 0, .string ⟨#[]⟩, .int .i64 4, .int .i64 0, .int .i64 0, .string yt] 24))
  have hY := hide (Blk.new w3 #[.int .i64 2, .int .i64 q, .int .i64 0, .string ⟨#[]⟩, .int .i64 4, .int .i64 0, .int .i64 0, .string yt])
  replace hL := hide ((unhide hL).alloc (unhide hL).size (.cells #[.int .i64 2, .int .i64 q, .int .i64 0, .string ⟨#[]⟩, .int .i64 4, .int .i64 0, .int .i64 0, .string yt] 24))
  clear hlt WA WB WC WD MS MT
  have hS := hide (show SB w w2.heap.size w3.heap.size #[.int .i64 2, .int .i64 p, .int .i64 0, .string ⟨#[]⟩, .int .i64 4, .int .i64 0, .int .i64 0, .string xt] #[.int .i64 2, .int .i64 q, .int .i64 0, .string ⟨#[]⟩, .int .i64 4, .int .i64 0, .int .i64 0, .string yt] (w3.alloc (.cells #[.int .i64 2, .int .i64 q, .int .i64 0, .string ⟨#[]⟩, .int .i64 4, .int .i64 0, .int .i64 0, .string yt] 24)) from ⟨unhide hL, unhide hX, unhide hY⟩)
  clear hX hY hL
  have o1 : Ok 2 p 0 ⟨#[]⟩ := ok_int (by unfold Is64; omega)
  have o2 : Ok 2 q 0 ⟨#[]⟩ := ok_int (by unfold Is64; omega)
  have o3 : Ok 4 0 0 xt := unhide OX
  have o4 : Ok 4 0 0 yt := unhide OY
  obtain ⟨o, ho⟩ : ∃ o, rordV 2 p 0 ⟨#[]⟩ 2 q 0 ⟨#[]⟩ = o := ⟨_, rfl⟩
  obtain ⟨o', ho'⟩ : ∃ o, rordV 4 0 0 xt 4 0 0 yt = o := ⟨_, rfl⟩
  obtain ⟨hle, hsa⟩ := row_less (x := (2, p, 0, ⟨#[]⟩)) (x' := (4, 0, 0, xt)) (y := (2, q, 0, ⟨#[]⟩)) (y' := (4, 0, 0, yt)) o1 o3 o2 o4 o o' ho ho'
  have RA := hide (fun W => rorder_any 2 p 0 ⟨#[]⟩ 2 q 0 ⟨#[]⟩ W (ok_dec_in o1) (ok_dec_in o2))
  have RB := hide (fun W => rorder_any 4 0 0 xt 4 0 0 yt W (ok_dec_in o3) (ok_dec_in o4))
  rw [ho] at RA
  rw [ho'] at RB
  have RX := hide (fun W (h : Blk w2.heap.size #[.int .i64 2, .int .i64 p, .int .i64 0, .string ⟨#[]⟩, .int .i64 4, .int .i64 0, .int .i64 0, .string xt] W) => row2_any w2.heap.size p xt W o1 o3 h)
  have RY := hide (fun W (h : Blk w3.heap.size #[.int .i64 2, .int .i64 q, .int .i64 0, .string ⟨#[]⟩, .int .i64 4, .int .i64 0, .int .i64 0, .string yt] W) => row2_any w3.heap.size q yt W o2 o4 h)
  obtain ⟨rx, hrx⟩ : ∃ r, r = strOfNums (rowN [(2, p, 0, ⟨#[]⟩), (4, 0, 0, xt)]) := ⟨_, rfl⟩
  obtain ⟨ry, hry⟩ : ∃ r, r = strOfNums (rowN [(2, q, 0, ⟨#[]⟩), (4, 0, 0, yt)]) := ⟨_, rfl⟩
  rw [← hrx] at hle hsa RX
  first | rw [← hry] at hle hsa RY | rw [← hrx] at RY
  have HLE := hide hle
  have HSA := hide hsa
  clear hrx hry ho ho' o1 o2 o3 o4 hle hsa
  rename_i hrest
  refine wp_region_noPanic ?_
  refine wp_region_held_drew (S := SB w w2.heap.size w3.heap.size #[.int .i64 2, .int .i64 p, .int .i64 0, .string ⟨#[]⟩, .int .i64 4, .int .i64 0, .int .i64 0, .string xt] #[.int .i64 2, .int .i64 q, .int .i64 0, .string ⟨#[]⟩, .int .i64 4, .int .i64 0, .int .i64 0, .string yt]) (by kernel_rfl) (sb_call (unhide hS) (Below.refl _ _).drew) (fun hHeld => ?_)
  clear hS
  revert hHeld
  generalize World.drew _ = WdhS
  intro hHeld
  refine wpAnyH_take (i := 0) (oi := ?oi20049) (v := ?v20049) ?hi20049 (by kernel_rfl) (by kernel_rfl) (by kernel_rfl) (fun _ _ _ h => h) (Or.inl ⟨?hw20049, ?hy20049⟩) (by assumption) ?rest20049
  case hi20049 => (simp only [List.getElem?_toArray, List.getElem?_cons_zero]; rfl)
  case hw20049 => rfl
  case hy20049 => first | (intro wx hSw; go_simp; done) | (intro wx hSw; go_simp; with_reducible rfl)
  simp only [Act.put, List.setIfInBounds_toArray, List.set_cons_zero, List.set_cons_succ]
  refine wpAnyH_take (i := 3) (oi := ?oi20050) (v := ?v20050) ?hi20050 (by kernel_rfl) (by kernel_rfl) (by kernel_rfl) (fun _ _ _ h => h) (Or.inl ⟨?hw20050, ?hy20050⟩) (by assumption) ?rest20050
  case hi20050 => (simp only [List.getElem?_toArray, List.getElem?_cons_zero, List.getElem?_cons_succ]; rfl)
  case hw20050 => rfl
  case hy20050 => first | (intro wx hSw; go_simp; done) | (intro wx hSw; go_simp; with_reducible rfl)
  simp only [Act.put, List.setIfInBounds_toArray, List.set_cons_zero, List.set_cons_succ]
  refine wpAnyH_take (i := 1) (oi := ?oi20051) (v := ?v20051) ?hi20051 (by kernel_rfl) (by kernel_rfl) (by kernel_rfl) (fun _ _ _ h => h) (Or.inl ⟨?hw20051, ?hy20051⟩) (by assumption) ?rest20051
  case hi20051 => (simp only [List.getElem?_toArray, List.getElem?_cons_zero, List.getElem?_cons_succ]; rfl)
  case hw20051 => rfl
  case hy20051 => first | (intro wx hSw; go_simp; done) | (intro wx hSw; go_simp; with_reducible rfl)
  simp only [Act.put, List.setIfInBounds_toArray, List.set_cons_zero, List.set_cons_succ]
  refine wpAnyH_take (i := 4) (oi := ?oi20052) (v := ?v20052) ?hi20052 (by kernel_rfl) (by kernel_rfl) (by kernel_rfl) (fun _ _ _ h => h) (Or.inl ⟨?hw20052, ?hy20052⟩) (by assumption) ?rest20052
  case hi20052 => (simp only [List.getElem?_toArray, List.getElem?_cons_zero, List.getElem?_cons_succ]; rfl)
  case hw20052 => rfl
  case hy20052 => first | (intro wx hSw; go_simp; done) | (intro wx hSw; go_simp; with_reducible rfl)
  simp only [Act.put, List.setIfInBounds_toArray, List.set_cons_zero, List.set_cons_succ]
  refine wpAnyH_take (i := 2) (oi := ?oi20053) (v := ?v20053) ?hi20053 (by kernel_rfl) (by kernel_rfl) (by kernel_rfl) (fun _ _ _ h => h) (Or.inl ⟨?hw20053, ?hy20053⟩) (by assumption) ?rest20053
  case hi20053 => (simp only [List.getElem?_toArray, List.getElem?_cons_zero, List.getElem?_cons_succ]; rfl)
  case hw20053 => rfl
  case hy20053 => first | (intro wx hSw; obtain ⟨-, hbx, hby⟩ := hSw; have x0 := hbx.cell 0; have y0 := hby.cell 0; have x1 := hbx.cell 1; have y1 := hby.cell 1; have x2 := hbx.cell 2; have y2 := hby.cell 2; have x3 := hbx.cell 3; have y3 := hby.cell 3; have x4 := hbx.cell 4; have y4 := hby.cell 4; have x5 := hbx.cell 5; have y5 := hby.cell 5; have x6 := hbx.cell 6; have y6 := hby.cell 6; have x7 := hbx.cell 7; have y7 := hby.cell 7; simp at x0 x1 x2 x3 x4 x5 x6 x7 y0 y1 y2 y3 y4 y5 y6 y7; go_simp; done) | (intro wx hSw; obtain ⟨-, hbx, hby⟩ := hSw; have x0 := hbx.cell 0; have y0 := hby.cell 0; have x1 := hbx.cell 1; have y1 := hby.cell 1; have x2 := hbx.cell 2; have y2 := hby.cell 2; have x3 := hbx.cell 3; have y3 := hby.cell 3; have x4 := hbx.cell 4; have y4 := hby.cell 4; have x5 := hbx.cell 5; have y5 := hby.cell 5; have x6 := hbx.cell 6; have y6 := hby.cell 6; have x7 := hbx.cell 7; have y7 := hby.cell 7; simp at x0 x1 x2 x3 x4 x5 x6 x7 y0 y1 y2 y3 y4 y5 y6 y7; go_simp; with_reducible rfl)
  simp only [Act.put, List.setIfInBounds_toArray, List.set_cons_zero, List.set_cons_succ]
  refine wpAnyH_take (i := 5) (oi := ?oi20054) (v := ?v20054) ?hi20054 (by kernel_rfl) (by kernel_rfl) (by kernel_rfl) (fun _ _ _ h => h) (Or.inl ⟨?hw20054, ?hy20054⟩) (by assumption) ?rest20054
  case hi20054 => (simp only [List.getElem?_toArray, List.getElem?_cons_zero, List.getElem?_cons_succ]; rfl)
  case hw20054 => rfl
  case hy20054 => first | (intro wx hSw; obtain ⟨-, hbx, hby⟩ := hSw; have x0 := hbx.cell 0; have y0 := hby.cell 0; have x1 := hbx.cell 1; have y1 := hby.cell 1; have x2 := hbx.cell 2; have y2 := hby.cell 2; have x3 := hbx.cell 3; have y3 := hby.cell 3; have x4 := hbx.cell 4; have y4 := hby.cell 4; have x5 := hbx.cell 5; have y5 := hby.cell 5; have x6 := hbx.cell 6; have y6 := hby.cell 6; have x7 := hbx.cell 7; have y7 := hby.cell 7; simp at x0 x1 x2 x3 x4 x5 x6 x7 y0 y1 y2 y3 y4 y5 y6 y7; go_simp; done) | (intro wx hSw; obtain ⟨-, hbx, hby⟩ := hSw; have x0 := hbx.cell 0; have y0 := hby.cell 0; have x1 := hbx.cell 1; have y1 := hby.cell 1; have x2 := hbx.cell 2; have y2 := hby.cell 2; have x3 := hbx.cell 3; have y3 := hby.cell 3; have x4 := hbx.cell 4; have y4 := hby.cell 4; have x5 := hbx.cell 5; have y5 := hby.cell 5; have x6 := hbx.cell 6; have y6 := hby.cell 6; have x7 := hbx.cell 7; have y7 := hby.cell 7; simp at x0 x1 x2 x3 x4 x5 x6 x7 y0 y1 y2 y3 y4 y5 y6 y7; go_simp; with_reducible rfl)
  simp only [Act.put, List.setIfInBounds_toArray, List.set_cons_zero, List.set_cons_succ]
  have hW := hide hHeld
  refine wpAnyH_ready (rs := [6]) (by kernel_rfl) (by simp) ?_
  refine AllReadyH.cons rfl (fun K20055 hK20055 => ?_) AllReadyH.nil
  go_simp
  go_wp2_with (go_at_call 18; refine (unhide RA _).mono ?_; rintro e wchS ⟨rfl, hb⟩)
  refine hK20055.out _ _ ?hs20055 (fun hHeld20055 => ?_)
  case hs20055 => exact sb_call (unhide hW) hb
  clear hHeld
  have hHeld := hHeld20055; clear hHeld20055 hK20055 K20055
  clear hb hW
  refine wpAnyH_take (i := 7) (oi := ?oi20056) (v := ?v20056) ?hi20056 (by kernel_rfl) (by kernel_rfl) (by kernel_rfl) (fun _ _ _ h => h) (Or.inl ⟨?hw20056, ?hy20056⟩) (by assumption) ?rest20056
  case hi20056 => (simp only [List.getElem?_toArray, List.getElem?_cons_zero, List.getElem?_cons_succ]; rfl)
  case hw20056 => rfl
  case hy20056 => first | (intro wx hSw; go_simp; done) | (intro wx hSw; go_simp; with_reducible rfl)
  simp only [Act.put, List.setIfInBounds_toArray, List.set_cons_zero, List.set_cons_succ]
  refine wpAnyH_done (by kernel_rfl) ?_ _
  refine NoPanic.normal ?_
  refine hrest _ _ ?_
  clear hrest
  have hS := hide hHeld
  clear hHeld
  by_cases ho0 : o = 0
  · subst ho0
    rw [if_pos rfl] at HLE HSA
    go_wp2_with fail
    rename_i hrest
    refine wp_region_noPanic ?_
    refine wp_region_held_drew (S := SB w w2.heap.size w3.heap.size #[.int .i64 2, .int .i64 p, .int .i64 0, .string ⟨#[]⟩, .int .i64 4, .int .i64 0, .int .i64 0, .string xt] #[.int .i64 2, .int .i64 q, .int .i64 0, .string ⟨#[]⟩, .int .i64 4, .int .i64 0, .int .i64 0, .string yt]) (by kernel_rfl) (sb_call (unhide hS) (Below.refl _ _).drew) (fun hHeld => ?_)
    clear hS
    revert hHeld
    generalize World.drew _ = WdhS
    intro hHeld
    refine wpAnyH_take (i := 0) (oi := ?oi20057) (v := ?v20057) ?hi20057 (by kernel_rfl) (by kernel_rfl) (by kernel_rfl) (fun _ _ _ h => h) (Or.inl ⟨?hw20057, ?hy20057⟩) (by assumption) ?rest20057
    case hi20057 => (simp only [List.getElem?_toArray, List.getElem?_cons_zero]; rfl)
    case hw20057 => rfl
    case hy20057 => first | (intro wx hSw; go_simp; done) | (intro wx hSw; go_simp; with_reducible rfl)
    simp only [Act.put, List.setIfInBounds_toArray, List.set_cons_zero, List.set_cons_succ]
    refine wpAnyH_take (i := 3) (oi := ?oi20058) (v := ?v20058) ?hi20058 (by kernel_rfl) (by kernel_rfl) (by kernel_rfl) (fun _ _ _ h => h) (Or.inl ⟨?hw20058, ?hy20058⟩) (by assumption) ?rest20058
    case hi20058 => (simp only [List.getElem?_toArray, List.getElem?_cons_zero, List.getElem?_cons_succ]; rfl)
    case hw20058 => rfl
    case hy20058 => first | (intro wx hSw; go_simp; done) | (intro wx hSw; go_simp; with_reducible rfl)
    simp only [Act.put, List.setIfInBounds_toArray, List.set_cons_zero, List.set_cons_succ]
    refine wpAnyH_take (i := 1) (oi := ?oi20059) (v := ?v20059) ?hi20059 (by kernel_rfl) (by kernel_rfl) (by kernel_rfl) (fun _ _ _ h => h) (Or.inl ⟨?hw20059, ?hy20059⟩) (by assumption) ?rest20059
    case hi20059 => (simp only [List.getElem?_toArray, List.getElem?_cons_zero, List.getElem?_cons_succ]; rfl)
    case hw20059 => rfl
    case hy20059 => first | (intro wx hSw; go_simp; done) | (intro wx hSw; go_simp; with_reducible rfl)
    simp only [Act.put, List.setIfInBounds_toArray, List.set_cons_zero, List.set_cons_succ]
    refine wpAnyH_take (i := 4) (oi := ?oi20060) (v := ?v20060) ?hi20060 (by kernel_rfl) (by kernel_rfl) (by kernel_rfl) (fun _ _ _ h => h) (Or.inl ⟨?hw20060, ?hy20060⟩) (by assumption) ?rest20060
    case hi20060 => (simp only [List.getElem?_toArray, List.getElem?_cons_zero, List.getElem?_cons_succ]; rfl)
    case hw20060 => rfl
    case hy20060 => first | (intro wx hSw; go_simp; done) | (intro wx hSw; go_simp; with_reducible rfl)
    simp only [Act.put, List.setIfInBounds_toArray, List.set_cons_zero, List.set_cons_succ]
    refine wpAnyH_take (i := 2) (oi := ?oi20061) (v := ?v20061) ?hi20061 (by kernel_rfl) (by kernel_rfl) (by kernel_rfl) (fun _ _ _ h => h) (Or.inl ⟨?hw20061, ?hy20061⟩) (by assumption) ?rest20061
    case hi20061 => (simp only [List.getElem?_toArray, List.getElem?_cons_zero, List.getElem?_cons_succ]; rfl)
    case hw20061 => rfl
    case hy20061 => first | (intro wx hSw; obtain ⟨-, hbx, hby⟩ := hSw; have x0 := hbx.cell 0; have y0 := hby.cell 0; have x1 := hbx.cell 1; have y1 := hby.cell 1; have x2 := hbx.cell 2; have y2 := hby.cell 2; have x3 := hbx.cell 3; have y3 := hby.cell 3; have x4 := hbx.cell 4; have y4 := hby.cell 4; have x5 := hbx.cell 5; have y5 := hby.cell 5; have x6 := hbx.cell 6; have y6 := hby.cell 6; have x7 := hbx.cell 7; have y7 := hby.cell 7; simp at x0 x1 x2 x3 x4 x5 x6 x7 y0 y1 y2 y3 y4 y5 y6 y7; go_simp; done) | (intro wx hSw; obtain ⟨-, hbx, hby⟩ := hSw; have x0 := hbx.cell 0; have y0 := hby.cell 0; have x1 := hbx.cell 1; have y1 := hby.cell 1; have x2 := hbx.cell 2; have y2 := hby.cell 2; have x3 := hbx.cell 3; have y3 := hby.cell 3; have x4 := hbx.cell 4; have y4 := hby.cell 4; have x5 := hbx.cell 5; have y5 := hby.cell 5; have x6 := hbx.cell 6; have y6 := hby.cell 6; have x7 := hbx.cell 7; have y7 := hby.cell 7; simp at x0 x1 x2 x3 x4 x5 x6 x7 y0 y1 y2 y3 y4 y5 y6 y7; go_simp; with_reducible rfl)
    simp only [Act.put, List.setIfInBounds_toArray, List.set_cons_zero, List.set_cons_succ]
    refine wpAnyH_take (i := 5) (oi := ?oi20062) (v := ?v20062) ?hi20062 (by kernel_rfl) (by kernel_rfl) (by kernel_rfl) (fun _ _ _ h => h) (Or.inl ⟨?hw20062, ?hy20062⟩) (by assumption) ?rest20062
    case hi20062 => (simp only [List.getElem?_toArray, List.getElem?_cons_zero, List.getElem?_cons_succ]; rfl)
    case hw20062 => rfl
    case hy20062 => first | (intro wx hSw; obtain ⟨-, hbx, hby⟩ := hSw; have x0 := hbx.cell 0; have y0 := hby.cell 0; have x1 := hbx.cell 1; have y1 := hby.cell 1; have x2 := hbx.cell 2; have y2 := hby.cell 2; have x3 := hbx.cell 3; have y3 := hby.cell 3; have x4 := hbx.cell 4; have y4 := hby.cell 4; have x5 := hbx.cell 5; have y5 := hby.cell 5; have x6 := hbx.cell 6; have y6 := hby.cell 6; have x7 := hbx.cell 7; have y7 := hby.cell 7; simp at x0 x1 x2 x3 x4 x5 x6 x7 y0 y1 y2 y3 y4 y5 y6 y7; go_simp; done) | (intro wx hSw; obtain ⟨-, hbx, hby⟩ := hSw; have x0 := hbx.cell 0; have y0 := hby.cell 0; have x1 := hbx.cell 1; have y1 := hby.cell 1; have x2 := hbx.cell 2; have y2 := hby.cell 2; have x3 := hbx.cell 3; have y3 := hby.cell 3; have x4 := hbx.cell 4; have y4 := hby.cell 4; have x5 := hbx.cell 5; have y5 := hby.cell 5; have x6 := hbx.cell 6; have y6 := hby.cell 6; have x7 := hbx.cell 7; have y7 := hby.cell 7; simp at x0 x1 x2 x3 x4 x5 x6 x7 y0 y1 y2 y3 y4 y5 y6 y7; go_simp; with_reducible rfl)
    simp only [Act.put, List.setIfInBounds_toArray, List.set_cons_zero, List.set_cons_succ]
    have hW := hide hHeld
    refine wpAnyH_ready (rs := [6]) (by kernel_rfl) (by simp) ?_
    refine AllReadyH.cons rfl (fun K20063 hK20063 => ?_) AllReadyH.nil
    go_simp
    go_wp2_with (go_at_call 18; refine (unhide RB _).mono ?_; rintro e wchS ⟨rfl, hb⟩)
    refine hK20063.out _ _ ?hs20063 (fun hHeld20063 => ?_)
    case hs20063 => exact sb_call (unhide hW) hb
    clear hHeld
    have hHeld := hHeld20063; clear hHeld20063 hK20063 K20063
    clear hb hW
    refine wpAnyH_take (i := 7) (oi := ?oi20064) (v := ?v20064) ?hi20064 (by kernel_rfl) (by kernel_rfl) (by kernel_rfl) (fun _ _ _ h => h) (Or.inl ⟨?hw20064, ?hy20064⟩) (by assumption) ?rest20064
    case hi20064 => (simp only [List.getElem?_toArray, List.getElem?_cons_zero, List.getElem?_cons_succ]; rfl)
    case hw20064 => rfl
    case hy20064 => first | (intro wx hSw; go_simp; done) | (intro wx hSw; go_simp; with_reducible rfl)
    simp only [Act.put, List.setIfInBounds_toArray, List.set_cons_zero, List.set_cons_succ]
    refine wpAnyH_done (by kernel_rfl) ?_ _
    refine NoPanic.normal ?_
    refine hrest _ _ ?_
    clear hrest
    have hS := hide hHeld
    clear hHeld
    go_wp2_with fail
    refine (unhide RX _ (unhide hS).2.1).mono ?_
    rintro e w7 ⟨rfl, hb⟩
    replace hS := hide (sb_call (unhide hS) hb)
    clear hb
    go_wp2_with fail
    refine (unhide RY _ (unhide hS).2.2).mono ?_
    rintro e w8 ⟨rfl, hb⟩
    replace hS := hide (sb_call (unhide hS) hb)
    clear hb RX RY
    have hle := unhide HLE
    have hsa := unhide HSA
    clear HLE HSA
    rcases Int.lt_trichotomy o' 0 with g | g | g
    · rw [decide_eq_true g] at hle
      rw [decide_eq_false (show ¬ o' = 0 by omega)] at hsa
      have hne : (o' == 0) = false := beq_eq_false_iff_ne.2 (by omega)
      go_wp2_with fail
      go_ret
      exact ⟨rfl, (unhide hS).1⟩
    · rw [decide_eq_false (show ¬ o' < 0 by omega)] at hle
      rw [decide_eq_true g] at hsa
      have hne : (o' == 0) = true := beq_iff_eq.2 g
      have hno : ¬ o' < 0 := by omega
      go_wp2_with fail
      go_ret
      first | exact ⟨rfl, (unhide hS).1⟩ | (refine ⟨ret_bool ?_, (unhide hS).1⟩; first | (simp; done) | (simp; omega) | (simp [*]; done) | (simp [*]; omega))
    · rw [decide_eq_false (show ¬ o' < 0 by omega)] at hle
      rw [decide_eq_false (show ¬ o' = 0 by omega)] at hsa
      have hne : (o' == 0) = false := beq_eq_false_iff_ne.2 (by omega)
      have hno : ¬ o' < 0 := by omega
      go_wp2_with fail
      go_ret
      first | exact ⟨rfl, (unhide hS).1⟩ | (refine ⟨ret_bool ?_, (unhide hS).1⟩; first | (simp; done) | (simp; omega) | (simp [*]; done) | (simp [*]; omega))
  · rw [if_neg ho0] at HLE HSA
    have hob : (o == 0) = false := beq_eq_false_iff_ne.2 ho0
    go_wp2_with fail
    refine (unhide RX _ (unhide hS).2.1).mono ?_
    rintro e w7 ⟨rfl, hb⟩
    replace hS := hide (sb_call (unhide hS) hb)
    clear hb
    go_wp2_with fail
    refine (unhide RY _ (unhide hS).2.2).mono ?_
    rintro e w8 ⟨rfl, hb⟩
    replace hS := hide (sb_call (unhide hS) hb)
    clear hb RX RY
    have hle := unhide HLE
    have hsa := unhide HSA
    clear HLE HSA
    rcases Int.lt_trichotomy o 0 with g | g | g
    · rw [decide_eq_true g] at hle
      rw [decide_eq_false (show ¬ o = 0 by omega)] at hsa
      have hne : (o == 0) = false := beq_eq_false_iff_ne.2 (by omega)
      go_wp2_with fail
      go_ret
      exact ⟨rfl, (unhide hS).1⟩
    · rw [decide_eq_false (show ¬ o < 0 by omega)] at hle
      rw [decide_eq_true g] at hsa
      have hne : (o == 0) = true := beq_iff_eq.2 g
      have hno : ¬ o < 0 := by omega
      go_wp2_with fail
      go_ret
      first | exact ⟨rfl, (unhide hS).1⟩ | (refine ⟨ret_bool ?_, (unhide hS).1⟩; first | (simp; done) | (simp; omega) | (simp [*]; done) | (simp [*]; omega))
    · rw [decide_eq_false (show ¬ o < 0 by omega)] at hle
      rw [decide_eq_false (show ¬ o = 0 by omega)] at hsa
      have hne : (o == 0) = false := beq_eq_false_iff_ne.2 (by omega)
      have hno : ¬ o < 0 := by omega
      go_wp2_with fail
      go_ret
      first | exact ⟨rfl, (unhide hS).1⟩ | (refine ⟨ret_bool ?_, (unhide hS).1⟩; first | (simp; done) | (simp; omega) | (simp [*]; done) | (simp [*]; omega))


set_option maxHeartbeats 1000000 in
theorem rows_long (a b c d : Int) (s t : ByteArray) (w : World) (h : (60 : Int) < s.size ∨ (60 : Int) < t.size) :
    Calls Try.prog 8 #[.int .i64 a, .int .i64 b, .int .i64 c, .int .i64 d, .string s, .string t] w fun e w' => e = .returned (.bool true) ∧ Below w.heap.size w w' := by
  by_cases h1 : (60 : Int) < s.size
  · clear h
    go_enter Try.func8, Try.ntmps8
    go_wp2_with fail
    refine (known_any _).mono ?_
    rintro e w1 ⟨rfl, hb1⟩
    go_wp2_with fail
    go_ret
    exact ⟨rfl, hb1⟩
  · have h2 : (60 : Int) < t.size := by rcases h with h | h; exact absurd h h1; exact h
    clear h
    go_enter Try.func8, Try.ntmps8
    go_wp2_with fail
    refine (known_any _).mono ?_
    rintro e w1 ⟨rfl, hb1⟩
    go_wp2_with fail
    go_ret
    exact ⟨rfl, hb1⟩
theorem keyRowOrder_walk (a b c d : Int) (s t : ByteArray) (wa : (Lit.int .i64 a).wf = true) (wb : (Lit.int .i64 b).wf = true) (wc : (Lit.int .i64 c).wf = true) (wd : (Lit.int .i64 d).wf = true) (hs : s.size ≤ maxLen) (ht : t.size ≤ maxLen) (w : World) :
    Calls Try.prog 8 #[.int .i64 a, .int .i64 b, .int .i64 c, .int .i64 d, .string s, .string t] w fun e w' => e = .returned (.bool true) ∧ Below w.heap.size w w' := by
  unfold maxLen at hs ht
  by_cases h : s.size ≤ 60 ∧ t.size ≤ 60
  · have ha := is64_lit wa
    have hb := is64_lit wb
    have hc := is64_lit wc
    have hd := is64_lit wd
    have i4 : Is64 4 := by unfold Is64; omega
    have i0 : Is64 0 := by unfold Is64; omega
    cases h1 : ((c % 3) == 0) <;> cases h2 : ((d % 3) == 0)
    · exact rows_walk4 a b c d (a % 9) (b % 9) (c % 3) (d % 3) s t w h.1 h.2 (by omega) (by omega) (fun W => within2_any a 9 W ha (by decide)) (fun W => within2_any b 9 W hb (by decide)) (fun W => within2_any c 3 W hc (by decide)) (fun W => within2_any d 3 W hd (by decide)) (fun W => make_any 4 0 s W i4 i0 hs) (fun W => make_any 4 0 t W i4 i0 ht) h1 h2
    · exact rows_walk3 a b c d (a % 9) (b % 9) (c % 3) (d % 3) s t w h.1 h.2 (by omega) (by omega) (fun W => within2_any a 9 W ha (by decide)) (fun W => within2_any b 9 W hb (by decide)) (fun W => within2_any c 3 W hc (by decide)) (fun W => within2_any d 3 W hd (by decide)) (fun W => make_any 4 0 s W i4 i0 hs) (fun W => make_any 4 0 t W i4 i0 ht) h1 h2
    · exact rows_walk2 a b c d (a % 9) (b % 9) (c % 3) (d % 3) s t w h.1 h.2 (by omega) (by omega) (fun W => within2_any a 9 W ha (by decide)) (fun W => within2_any b 9 W hb (by decide)) (fun W => within2_any c 3 W hc (by decide)) (fun W => within2_any d 3 W hd (by decide)) (fun W => make_any 4 0 s W i4 i0 hs) (fun W => make_any 4 0 t W i4 i0 ht) h1 h2
    · exact rows_walk1 a b c d (a % 9) (b % 9) (c % 3) (d % 3) s t w h.1 h.2 (by omega) (by omega) (fun W => within2_any a 9 W ha (by decide)) (fun W => within2_any b 9 W hb (by decide)) (fun W => within2_any c 3 W hc (by decide)) (fun W => within2_any d 3 W hd (by decide)) (fun W => make_any 4 0 s W i4 i0 hs) (fun W => make_any 4 0 t W i4 i0 ht) h1 h2
  · exact rows_long a b c d s t w (by omega)
end Go.Proofs.Ytbpjejjbgdikdaa
