/-
  The walk of the law ValRight.
-/
import Derived.Test.YtofeecalpofklaaWI0
import Derived.Test.YtofeecalpofklaaU
import Derived.Test.YtofeecalpofklaaY
import Derived.Test.YtofeecalpofklaaRR
import Derived.Test.YtofeecalpofklaaG
namespace Go.Proofs.Ytofeecalpofklaa
open Go.RowKit
set_option linter.unusedSimpArgs false
set_option linter.unusedVariables false

theorem ok_normed {k n s : Int} {t : ByteArray} (h : Ok k n s t) : nN k n s = n ∧ nS k n s = s := by
  unfold nN nS
  by_cases h3 : k = 3
  · subst h3; rw [if_pos rfl, if_pos rfl]; exact normed_done (rd_is (ok_rd h)).1
  · rw [if_neg h3, if_neg h3]; exact ⟨rfl, rfl⟩
theorem s2_mk {w : World} {a b : Nat} {x0 x1 x2 x3 y0 y1 y2 y3 : Value} {W : World} (h : Below w.heap.size w W) (h1 : Four a x0 x1 x2 x3 W) (h2 : Four b y0 y1 y2 y3 W) : S2 w a b x0 x1 x2 x3 y0 y1 y2 y3 W.drew :=
  ⟨h.drew, four_drew h1, four_drew h2⟩
theorem ok_size {k n s : Int} {t : ByteArray} (h : Ok k n s t) : t.size ≤ 40 := h.2.2.2.2.1
theorem ok_s64 {k n s : Int} {t : ByteArray} (h : Ok k n s t) : Is64 s := by have := ok_scale h; unfold Is64; omega
theorem four_set1 {b : Nat} {x0 x1 x2 x3 : Value} {W : World} (h : Four b x0 x1 x2 x3 W) (y : Value) : Four b x0 y x2 x3 (W.setCell ⟨b, 1, none⟩ y) := by
  obtain ⟨h0, h1, h2, h3, h4, h5, h6, h7, h8⟩ := h
  refine ⟨by simpa using h0, ?_, ?_, ?_, ?_, ?_, ?_, ?_, ?_⟩ <;> go_simp
theorem four_set2 {b : Nat} {x0 x1 x2 x3 : Value} {W : World} (h : Four b x0 x1 x2 x3 W) (y : Value) : Four b x0 x1 y x3 (W.setCell ⟨b, 2, none⟩ y) := by
  obtain ⟨h0, h1, h2, h3, h4, h5, h6, h7, h8⟩ := h
  refine ⟨by simpa using h0, ?_, ?_, ?_, ?_, ?_, ?_, ?_, ?_⟩ <;> go_simp
theorem four_set3 {b : Nat} {x0 x1 x2 x3 : Value} {W : World} (h : Four b x0 x1 x2 x3 W) (y : Value) : Four b x0 x1 x2 y (W.setCell ⟨b, 3, none⟩ y) := by
  obtain ⟨h0, h1, h2, h3, h4, h5, h6, h7, h8⟩ := h
  refine ⟨by simpa using h0, ?_, ?_, ?_, ?_, ?_, ?_, ?_, ?_⟩ <;> go_simp

abbrev rowR0 (v : Int) : Array Value := #[.int .i64 (-1), .int .i64 0, .int .i64 1, .int .i64 2, .int .i64 3, .int .i64 4, .int .i64 5, .int .i64 6, .int .i64 v]
theorem rowR0_at (v : Int) (i : Nat) (hi : i < 9) (hv : Is64 v) : ∃ y : Int, (rowR0 v)[i]? = some (.int .i64 y) ∧ Is64 y := by
  match i, hi with
  | 0, _ => exact ⟨_, rfl, by unfold Is64; omega⟩
  | 1, _ => exact ⟨_, rfl, by unfold Is64; omega⟩
  | 2, _ => exact ⟨_, rfl, by unfold Is64; omega⟩
  | 3, _ => exact ⟨_, rfl, by unfold Is64; omega⟩
  | 4, _ => exact ⟨_, rfl, by unfold Is64; omega⟩
  | 5, _ => exact ⟨_, rfl, by unfold Is64; omega⟩
  | 6, _ => exact ⟨_, rfl, by unfold Is64; omega⟩
  | 7, _ => exact ⟨_, rfl, by unfold Is64; omega⟩
  | 8, _ => exact ⟨_, rfl, by exact hv⟩

abbrev rowR1 (v : Int) : Array Value := #[.int .i64 0, .int .i64 1, .int .i64 2, .int .i64 (-1), .int .i64 10, .int .i64 999999999999999, .int .i64 1000000000000000, .int .i64 (-1000000000000000), .int .i64 v]
theorem rowR1_at (v : Int) (i : Nat) (hi : i < 9) (hv : Is64 v) : ∃ y : Int, (rowR1 v)[i]? = some (.int .i64 y) ∧ Is64 y := by
  match i, hi with
  | 0, _ => exact ⟨_, rfl, by unfold Is64; omega⟩
  | 1, _ => exact ⟨_, rfl, by unfold Is64; omega⟩
  | 2, _ => exact ⟨_, rfl, by unfold Is64; omega⟩
  | 3, _ => exact ⟨_, rfl, by unfold Is64; omega⟩
  | 4, _ => exact ⟨_, rfl, by unfold Is64; omega⟩
  | 5, _ => exact ⟨_, rfl, by unfold Is64; omega⟩
  | 6, _ => exact ⟨_, rfl, by unfold Is64; omega⟩
  | 7, _ => exact ⟨_, rfl, by unfold Is64; omega⟩
  | 8, _ => exact ⟨_, rfl, by exact hv⟩

abbrev rowR2 (v : Int) : Array Value := #[.int .i64 (-1), .int .i64 0, .int .i64 1, .int .i64 6, .int .i64 7, .int .i64 v]
theorem rowR2_at (v : Int) (i : Nat) (hi : i < 6) (hv : Is64 v) : ∃ y : Int, (rowR2 v)[i]? = some (.int .i64 y) ∧ Is64 y := by
  match i, hi with
  | 0, _ => exact ⟨_, rfl, by unfold Is64; omega⟩
  | 1, _ => exact ⟨_, rfl, by unfold Is64; omega⟩
  | 2, _ => exact ⟨_, rfl, by unfold Is64; omega⟩
  | 3, _ => exact ⟨_, rfl, by unfold Is64; omega⟩
  | 4, _ => exact ⟨_, rfl, by unfold Is64; omega⟩
  | 5, _ => exact ⟨_, rfl, by exact hv⟩

set_option maxHeartbeats 8000000 in
set_option maxRecDepth 100000 in
theorem right_w0 (rk rn rs kind n which v y : Int) (i : Nat) (rt s : ByteArray) (w : World) (hs : s.size ≤ 100) (hrt : rt.size ≤ 100) (hrn : Hid (Is64 rn)) (hrs : Hid (Is64 rs))
    (MX : Hid (∀ W, Calls Try.prog 11 #[.int .i64 kind, .int .i64 n, .string s] W fun e w' => Made e (kind % 6) ∧ Below W.heap.size W w'))
    (WI : Hid (∀ W, Calls Try.prog 14 #[.int .i64 which, .int .i64 4] W fun e w' => e = .returned (.int .i64 0) ∧ w' = W)) (WV : Hid (∀ W, Calls Try.prog 14 #[.int .i64 v, .int .i64 9] W fun e w' => e = .returned (.int .i64 (i : Int)) ∧ w' = W)) (hi : (i : Int) < 9) (hrow : (#[.int .i64 (-1), .int .i64 0, .int .i64 1, .int .i64 2, .int .i64 3, .int .i64 4, .int .i64 5, .int .i64 6, .int .i64 v] : Array Value)[i]? = some (.int .i64 y)) (hy : Hid (Is64 y)) :
    Calls Try.prog 3 #[V rk rn rs rt, .int .i64 kind, .int .i64 n, .string s, .int .i64 which, .int .i64 v] w fun e w' => e = .returned (.bool true) ∧ Below w.heap.size w w' := by
  have hR := hide (four_alloc (.int .i64 rk) (.int .i64 rn) (.int .i64 rs) (.string rt) 23 w)
  have hL := hide ((Below.refl w.heap.size w).alloc (Nat.le_refl _) (.cells #[.int .i64 rk, .int .i64 rn, .int .i64 rs, .string rt] 23))
  have QR := hide (fun W => right_any rk rn rs rt W (by unfold maxLen; omega))
  have QS := hide (fun W => rright_any rk rn rs rt W (by unfold maxLen; omega))
  have QN := hide (fun W => norm_any rk rn rs rt W (unhide hrn) (unhide hrs))
  have QM := hide (fun W => rnorm_any rk rn rs rt W (unhide hrn) (unhide hrs))
  generalize rightB rk rn rs rt = r2 at *
  generalize nN rk rn rs = m2 at *
  generalize nS rk rn rs = c2 at *
  go_enter Try.func3, Try.ntmps3
  go_wp2_with fail
  refine (known_any _).mono ?_
  rintro e w1 ⟨rfl, hb1⟩
  replace hR := hide (four_call (unhide hR) hb1)
  replace hL := hide ((unhide hL).trans (hb1.mono (unhide hL).size))
  clear hb1
  obtain ⟨-, b0, b1, b2, b3, -⟩ := unhide hR
  go_wp2_with fail
  clear b0 b1 b2 b3
  refine (unhide MX _).mono ?_
  rintro e w2 ⟨⟨xn, xs, xt, okx, rfl⟩, hb2⟩
  have OX := hide okx
  replace hR := hide (four_call (unhide hR) hb2)
  replace hL := hide ((unhide hL).trans (hb2.mono (unhide hL).size))
  have hxt := ok_size okx
  have HLT := hide (unhide hR).1
  clear hb2 okx MX
  generalize kind % 6 = kx at *
  have hX := hide (four_alloc (.int .i64 kx) (.int .i64 xn) (.int .i64 xs) (.string xt) 23 w2)
  replace hR := hide (four_more (unhide hR) (.cells #[.int .i64 kx, .int .i64 xn, .int .i64 xs, .string xt] 23))
  replace hL := hide ((unhide hL).alloc (unhide hL).size (.cells #[.int .i64 kx, .int .i64 xn, .int .i64 xs, .string xt] 23))
  have XR := hide (fun W => right_any kx xn xs xt W (by have := ok_size (unhide OX); unfold maxLen; omega))
  have XN := hide (fun W => norm_any kx xn xs xt W (ok_64 (unhide OX)) (ok_s64 (unhide OX)))
  rw [(unhide OX).2.1] at XR
  rw [(ok_normed (unhide OX)).1, (ok_normed (unhide OX)).2] at XN
  have bx : w2.heap.size = w2.heap.size := rfl
  clear bx
  go_wp2_with fail
  rename_i Q1 K1 hrest
  refine wp_region_noPanic ?_
  refine wp_region_held_drew (S := S2 w w2.heap.size w.heap.size (.int .i64 kx) (.int .i64 xn) (.int .i64 xs) (.string xt) (.int .i64 rk) (.int .i64 rn) (.int .i64 rs) (.string rt)) (by kernel_rfl) (s2_mk (unhide hL) (unhide hX) (unhide hR)) (fun hHeld => ?_)
  revert hHeld
  generalize World.drew _ = Wd
  intro hHeld
  refine wpAnyH_take (i := 0) (oi := ?oi1001) (v := ?v1001) ?hi1001 (by kernel_rfl) (by kernel_rfl) (by kernel_rfl) (fun _ _ _ h => h) (Or.inl ⟨?hw1001, ?hy1001⟩) (by assumption) ?rest1001
  case hi1001 => (simp only [List.getElem?_toArray, List.getElem?_cons_zero]; rfl)
  case hw1001 => rfl
  case hy1001 => first | (intro wx hSw; obtain ⟨-, ⟨-, a0, a1, a2, a3, -⟩, ⟨-, b0, b1, b2, b3, -⟩⟩ := hSw; go_simp; done) | (intro wx hSw; obtain ⟨-, ⟨-, a0, a1, a2, a3, -⟩, ⟨-, b0, b1, b2, b3, -⟩⟩ := hSw; go_simp; with_reducible rfl)
  simp only [Act.put, List.setIfInBounds_toArray, List.set_cons_zero, List.set_cons_succ]
  refine wpAnyH_ready (rs := [1]) (by kernel_rfl) (by simp) ?_
  refine AllReadyH.cons rfl (fun K1002 hK1002 => ?_) AllReadyH.nil
  go_simp
  go_wp2_with (go_at_call 12; refine (unhide XR _).mono ?_; rintro e wc1002 ⟨rfl, hb1002⟩)
  refine hK1002.out _ _ ?hs1002 (fun hHeld1002 => ?_)
  case hs1002 => exact s2_call hHeld hb1002
  clear hHeld
  have hHeld := hHeld1002; clear hHeld1002 hK1002 K1002 hb1002
  refine wpAnyH_take (i := 2) (oi := ?oi1003) (v := ?v1003) ?hi1003 (by kernel_rfl) (by kernel_rfl) (by kernel_rfl) (fun _ _ _ h => h) (Or.inl ⟨?hw1003, ?hy1003⟩) (by assumption) ?rest1003
  case hi1003 => (simp only [List.getElem?_toArray, List.getElem?_cons_zero, List.getElem?_cons_succ]; rfl)
  case hw1003 => rfl
  case hy1003 => first | (intro wx hSw; obtain ⟨-, ⟨-, a0, a1, a2, a3, -⟩, ⟨-, b0, b1, b2, b3, -⟩⟩ := hSw; go_simp; done) | (intro wx hSw; obtain ⟨-, ⟨-, a0, a1, a2, a3, -⟩, ⟨-, b0, b1, b2, b3, -⟩⟩ := hSw; go_simp; with_reducible rfl)
  simp only [Act.put, List.setIfInBounds_toArray, List.set_cons_zero, List.set_cons_succ]
  refine wpAnyH_take (i := 3) (oi := ?oi1004) (v := ?v1004) ?hi1004 (by kernel_rfl) (by kernel_rfl) (by kernel_rfl) (fun _ _ _ h => h) (Or.inl ⟨?hw1004, ?hy1004⟩) (by assumption) ?rest1004
  case hi1004 => (simp only [List.getElem?_toArray, List.getElem?_cons_zero, List.getElem?_cons_succ]; rfl)
  case hw1004 => rfl
  case hy1004 => first | (intro wx hSw; obtain ⟨-, ⟨-, a0, a1, a2, a3, -⟩, ⟨-, b0, b1, b2, b3, -⟩⟩ := hSw; go_simp; done) | (intro wx hSw; obtain ⟨-, ⟨-, a0, a1, a2, a3, -⟩, ⟨-, b0, b1, b2, b3, -⟩⟩ := hSw; go_simp; with_reducible rfl)
  simp only [Act.put, List.setIfInBounds_toArray, List.set_cons_zero, List.set_cons_succ]
  refine wpAnyH_take (i := 4) (oi := ?oi1005) (v := ?v1005) ?hi1005 (by kernel_rfl) (by kernel_rfl) (by kernel_rfl) (fun _ _ _ h => h) (Or.inl ⟨?hw1005, ?hy1005⟩) (by assumption) ?rest1005
  case hi1005 => (simp only [List.getElem?_toArray, List.getElem?_cons_zero, List.getElem?_cons_succ]; rfl)
  case hw1005 => rfl
  case hy1005 => first | (intro wx hSw; obtain ⟨-, ⟨-, a0, a1, a2, a3, -⟩, ⟨-, b0, b1, b2, b3, -⟩⟩ := hSw; go_simp; done) | (intro wx hSw; obtain ⟨-, ⟨-, a0, a1, a2, a3, -⟩, ⟨-, b0, b1, b2, b3, -⟩⟩ := hSw; go_simp; with_reducible rfl)
  simp only [Act.put, List.setIfInBounds_toArray, List.set_cons_zero, List.set_cons_succ]
  refine wpAnyH_take (i := 6) (oi := ?oi1006) (v := ?v1006) ?hi1006 (by kernel_rfl) (by kernel_rfl) (by kernel_rfl) (fun _ _ _ h => h) (Or.inl ⟨?hw1006, ?hy1006⟩) (by assumption) ?rest1006
  case hi1006 => (simp only [List.getElem?_toArray, List.getElem?_cons_zero, List.getElem?_cons_succ]; rfl)
  case hw1006 => rfl
  case hy1006 => first | (intro wx hSw; obtain ⟨-, ⟨-, a0, a1, a2, a3, -⟩, ⟨-, b0, b1, b2, b3, -⟩⟩ := hSw; go_simp; done) | (intro wx hSw; obtain ⟨-, ⟨-, a0, a1, a2, a3, -⟩, ⟨-, b0, b1, b2, b3, -⟩⟩ := hSw; go_simp; with_reducible rfl)
  simp only [Act.put, List.setIfInBounds_toArray, List.set_cons_zero, List.set_cons_succ]
  refine wpAnyH_ready (rs := [5]) (by kernel_rfl) (by simp) ?_
  refine AllReadyH.cons rfl (fun K1007 hK1007 => ?_) AllReadyH.nil
  go_simp
  go_wp2_with (go_at_call 13; refine (unhide XN _).mono ?_; rintro e wc1007 ⟨rfl, hb1007⟩)
  refine hK1007.out _ _ ?hs1007 (fun hHeld1007 => ?_)
  case hs1007 => exact s2_call hHeld hb1007
  clear hHeld
  have hHeld := hHeld1007; clear hHeld1007 hK1007 K1007 hb1007
  refine wpAnyH_take (i := 7) (oi := ?oi1008) (v := ?v1008) ?hi1008 (by kernel_rfl) (by kernel_rfl) (by kernel_rfl) (fun _ _ _ h => h) (Or.inl ⟨?hw1008, ?hy1008⟩) (by assumption) ?rest1008
  case hi1008 => (simp only [List.getElem?_toArray, List.getElem?_cons_zero, List.getElem?_cons_succ]; rfl)
  case hw1008 => rfl
  case hy1008 => first | (intro wx hSw; obtain ⟨-, ⟨-, a0, a1, a2, a3, -⟩, ⟨-, b0, b1, b2, b3, -⟩⟩ := hSw; go_simp; done) | (intro wx hSw; obtain ⟨-, ⟨-, a0, a1, a2, a3, -⟩, ⟨-, b0, b1, b2, b3, -⟩⟩ := hSw; go_simp; with_reducible rfl)
  simp only [Act.put, List.setIfInBounds_toArray, List.set_cons_zero, List.set_cons_succ]
  refine wpAnyH_take (i := 8) (oi := ?oi1009) (v := ?v1009) ?hi1009 (by kernel_rfl) (by kernel_rfl) (by kernel_rfl) (fun _ _ _ h => h) (Or.inl ⟨?hw1009, ?hy1009⟩) (by assumption) ?rest1009
  case hi1009 => (simp only [List.getElem?_toArray, List.getElem?_cons_zero, List.getElem?_cons_succ]; rfl)
  case hw1009 => rfl
  case hy1009 => first | (intro wx hSw; obtain ⟨-, ⟨-, a0, a1, a2, a3, -⟩, ⟨-, b0, b1, b2, b3, -⟩⟩ := hSw; go_simp; done) | (intro wx hSw; obtain ⟨-, ⟨-, a0, a1, a2, a3, -⟩, ⟨-, b0, b1, b2, b3, -⟩⟩ := hSw; go_simp; with_reducible rfl)
  simp only [Act.put, List.setIfInBounds_toArray, List.set_cons_zero, List.set_cons_succ]
  refine wpAnyH_done (by kernel_rfl) ?_ _
  refine NoPanic.normal ?_
  refine hrest _ _ ?_
  clear hrest hX hR hL XR XN
  have hL := hide hHeld.1
  have hX := hide hHeld.2.1
  have hR := hide hHeld.2.2
  clear hHeld
  rename_i W6
  go_wp2_with fail
  refine (unhide WI _).mono ?_
  rintro e wq ⟨rfl, rfl⟩
  replace hX := hide (four_more (unhide hX) (.cells (rowR0 v) 3))
  replace hR := hide (four_more (unhide hR) (.cells (rowR0 v) 3))
  replace hL := hide ((unhide hL).alloc (unhide hL).size (.cells (rowR0 v) 3))
  obtain ⟨-, a0, a1, a2, a3, f0, f1, f2, f3⟩ := unhide hX
  go_wp2_with (go_at_call 14; refine (unhide WV _).mono ?_; rintro e wv ⟨rfl, rfl⟩)
  clear a0 a1 a2 a3 f0 f1 f2 f3
  replace hX := hide (four_set0 (unhide hX) (.int .i64 y))
  replace hR := hide (four_other0 (i := 0) (show w2.heap.size ≠ w.heap.size from Nat.ne_of_gt (unhide HLT)) (unhide hR) (.int .i64 y))
  replace hL := hide (below_set0 (c := w2.heap.size) (i := 0) (unhide hL) (Nat.le_of_lt (unhide HLT)) (.int .i64 y))
  have XR := hide (fun W => right_any y xn xs xt W (by unfold maxLen; omega))
  have XS := hide (fun W => rright_any y xn xs xt W (by unfold maxLen; omega))
  have XN := hide (fun W => norm_any y xn xs xt W (ok_64 (unhide OX)) (ok_s64 (unhide OX)))
  have XM := hide (fun W => rnorm_any y xn xs xt W (ok_64 (unhide OX)) (ok_s64 (unhide OX)))
  generalize rightB y xn xs xt = r1 at *
  generalize nN y xn xs = m1 at *
  generalize nS y xn xs = c1 at *
  rename_i hrest
  refine wp_region_noPanic ?_
  refine wp_region_held_drew (S := S2 w w2.heap.size w.heap.size (.int .i64 y) (.int .i64 xn) (.int .i64 xs) (.string xt) (.int .i64 rk) (.int .i64 rn) (.int .i64 rs) (.string rt)) (by kernel_rfl) (s2_mk (unhide hL) (unhide hX) (unhide hR)) (fun hHeld => ?_)
  revert hHeld
  generalize World.drew _ = Wd
  intro hHeld
  refine wpAnyH_take (i := 0) (oi := ?oi1010) (v := ?v1010) ?hi1010 (by kernel_rfl) (by kernel_rfl) (by kernel_rfl) (fun _ _ _ h => h) (Or.inl ⟨?hw1010, ?hy1010⟩) (by assumption) ?rest1010
  case hi1010 => (simp only [List.getElem?_toArray, List.getElem?_cons_zero]; rfl)
  case hw1010 => rfl
  case hy1010 => first | (intro wx hSw; obtain ⟨-, ⟨-, a0, a1, a2, a3, -⟩, ⟨-, b0, b1, b2, b3, -⟩⟩ := hSw; go_simp; done) | (intro wx hSw; obtain ⟨-, ⟨-, a0, a1, a2, a3, -⟩, ⟨-, b0, b1, b2, b3, -⟩⟩ := hSw; go_simp; with_reducible rfl)
  simp only [Act.put, List.setIfInBounds_toArray, List.set_cons_zero, List.set_cons_succ]
  refine wpAnyH_take (i := 2) (oi := ?oi1011) (v := ?v1011) ?hi1011 (by kernel_rfl) (by kernel_rfl) (by kernel_rfl) (fun _ _ _ h => h) (Or.inl ⟨?hw1011, ?hy1011⟩) (by assumption) ?rest1011
  case hi1011 => (simp only [List.getElem?_toArray, List.getElem?_cons_zero, List.getElem?_cons_succ]; rfl)
  case hw1011 => rfl
  case hy1011 => first | (intro wx hSw; obtain ⟨-, ⟨-, a0, a1, a2, a3, -⟩, ⟨-, b0, b1, b2, b3, -⟩⟩ := hSw; go_simp; done) | (intro wx hSw; obtain ⟨-, ⟨-, a0, a1, a2, a3, -⟩, ⟨-, b0, b1, b2, b3, -⟩⟩ := hSw; go_simp; with_reducible rfl)
  simp only [Act.put, List.setIfInBounds_toArray, List.set_cons_zero, List.set_cons_succ]
  refine wpAnyH_ready (rs := [1]) (by kernel_rfl) (by simp) ?_
  refine AllReadyH.cons rfl (fun K1012 hK1012 => ?_) AllReadyH.nil
  go_simp
  go_wp2_with (go_at_call 12; refine (unhide XR _).mono ?_; rintro e wc1012 ⟨rfl, hb1012⟩)
  refine hK1012.out _ _ ?hs1012 (fun hHeld1012 => ?_)
  case hs1012 => exact s2_call hHeld hb1012
  clear hHeld
  have hHeld := hHeld1012; clear hHeld1012 hK1012 K1012 hb1012
  refine wpAnyH_ready (rs := [3]) (by kernel_rfl) (by simp) ?_
  refine AllReadyH.cons rfl (fun K1013 hK1013 => ?_) AllReadyH.nil
  go_simp
  go_wp2_with (go_at_call 15; refine (unhide XS _).mono ?_; rintro e wc1013 ⟨rfl, hb1013⟩)
  refine hK1013.out _ _ ?hs1013 (fun hHeld1013 => ?_)
  case hs1013 => exact s2_call hHeld hb1013
  clear hHeld
  have hHeld := hHeld1013; clear hHeld1013 hK1013 K1013 hb1013
  refine wpAnyH_take (i := 4) (oi := ?oi1014) (v := ?v1014) ?hi1014 (by kernel_rfl) (by kernel_rfl) (by kernel_rfl) (fun _ _ _ h => h) (Or.inl ⟨?hw1014, ?hy1014⟩) (by assumption) ?rest1014
  case hi1014 => (simp only [List.getElem?_toArray, List.getElem?_cons_zero, List.getElem?_cons_succ]; rfl)
  case hw1014 => rfl
  case hy1014 => first | (intro wx hSw; obtain ⟨-, ⟨-, a0, a1, a2, a3, -⟩, ⟨-, b0, b1, b2, b3, -⟩⟩ := hSw; go_simp; done) | (intro wx hSw; obtain ⟨-, ⟨-, a0, a1, a2, a3, -⟩, ⟨-, b0, b1, b2, b3, -⟩⟩ := hSw; go_simp; with_reducible rfl)
  simp only [Act.put, List.setIfInBounds_toArray, List.set_cons_zero, List.set_cons_succ]
  refine wpAnyH_take (i := 5) (oi := ?oi1015) (v := ?v1015) ?hi1015 (by kernel_rfl) (by kernel_rfl) (by kernel_rfl) (fun _ _ _ h => h) (Or.inl ⟨?hw1015, ?hy1015⟩) (by assumption) ?rest1015
  case hi1015 => (simp only [List.getElem?_toArray, List.getElem?_cons_zero, List.getElem?_cons_succ]; rfl)
  case hw1015 => rfl
  case hy1015 => first | (intro wx hSw; obtain ⟨-, ⟨-, a0, a1, a2, a3, -⟩, ⟨-, b0, b1, b2, b3, -⟩⟩ := hSw; go_simp; done) | (intro wx hSw; obtain ⟨-, ⟨-, a0, a1, a2, a3, -⟩, ⟨-, b0, b1, b2, b3, -⟩⟩ := hSw; go_simp; with_reducible rfl)
  simp only [Act.put, List.setIfInBounds_toArray, List.set_cons_zero, List.set_cons_succ]
  refine wpAnyH_take (i := 6) (oi := ?oi1016) (v := ?v1016) ?hi1016 (by kernel_rfl) (by kernel_rfl) (by kernel_rfl) (fun _ _ _ h => h) (Or.inl ⟨?hw1016, ?hy1016⟩) (by assumption) ?rest1016
  case hi1016 => (simp only [List.getElem?_toArray, List.getElem?_cons_zero, List.getElem?_cons_succ]; rfl)
  case hw1016 => rfl
  case hy1016 => first | (intro wx hSw; obtain ⟨-, ⟨-, a0, a1, a2, a3, -⟩, ⟨-, b0, b1, b2, b3, -⟩⟩ := hSw; go_simp; done) | (intro wx hSw; obtain ⟨-, ⟨-, a0, a1, a2, a3, -⟩, ⟨-, b0, b1, b2, b3, -⟩⟩ := hSw; go_simp; with_reducible rfl)
  simp only [Act.put, List.setIfInBounds_toArray, List.set_cons_zero, List.set_cons_succ]
  refine wpAnyH_take (i := 8) (oi := ?oi1017) (v := ?v1017) ?hi1017 (by kernel_rfl) (by kernel_rfl) (by kernel_rfl) (fun _ _ _ h => h) (Or.inl ⟨?hw1017, ?hy1017⟩) (by assumption) ?rest1017
  case hi1017 => (simp only [List.getElem?_toArray, List.getElem?_cons_zero, List.getElem?_cons_succ]; rfl)
  case hw1017 => rfl
  case hy1017 => first | (intro wx hSw; obtain ⟨-, ⟨-, a0, a1, a2, a3, -⟩, ⟨-, b0, b1, b2, b3, -⟩⟩ := hSw; go_simp; done) | (intro wx hSw; obtain ⟨-, ⟨-, a0, a1, a2, a3, -⟩, ⟨-, b0, b1, b2, b3, -⟩⟩ := hSw; go_simp; with_reducible rfl)
  simp only [Act.put, List.setIfInBounds_toArray, List.set_cons_zero, List.set_cons_succ]
  refine wpAnyH_ready (rs := [7]) (by kernel_rfl) (by simp) ?_
  refine AllReadyH.cons rfl (fun K1018 hK1018 => ?_) AllReadyH.nil
  go_simp
  go_wp2_with (go_at_call 12; refine (unhide QR _).mono ?_; rintro e wc1018 ⟨rfl, hb1018⟩)
  refine hK1018.out _ _ ?hs1018 (fun hHeld1018 => ?_)
  case hs1018 => exact s2_call hHeld hb1018
  clear hHeld
  have hHeld := hHeld1018; clear hHeld1018 hK1018 K1018 hb1018
  refine wpAnyH_ready (rs := [9]) (by kernel_rfl) (by simp) ?_
  refine AllReadyH.cons rfl (fun K1019 hK1019 => ?_) AllReadyH.nil
  go_simp
  go_wp2_with (go_at_call 15; refine (unhide QS _).mono ?_; rintro e wc1019 ⟨rfl, hb1019⟩)
  refine hK1019.out _ _ ?hs1019 (fun hHeld1019 => ?_)
  case hs1019 => exact s2_call hHeld hb1019
  clear hHeld
  have hHeld := hHeld1019; clear hHeld1019 hK1019 K1019 hb1019
  refine wpAnyH_take (i := 10) (oi := ?oi1020) (v := ?v1020) ?hi1020 (by kernel_rfl) (by kernel_rfl) (by kernel_rfl) (fun _ _ _ h => h) (Or.inl ⟨?hw1020, ?hy1020⟩) (by assumption) ?rest1020
  case hi1020 => (simp only [List.getElem?_toArray, List.getElem?_cons_zero, List.getElem?_cons_succ]; rfl)
  case hw1020 => rfl
  case hy1020 => first | (intro wx hSw; obtain ⟨-, ⟨-, a0, a1, a2, a3, -⟩, ⟨-, b0, b1, b2, b3, -⟩⟩ := hSw; go_simp; done) | (intro wx hSw; obtain ⟨-, ⟨-, a0, a1, a2, a3, -⟩, ⟨-, b0, b1, b2, b3, -⟩⟩ := hSw; go_simp; with_reducible rfl)
  simp only [Act.put, List.setIfInBounds_toArray, List.set_cons_zero, List.set_cons_succ]
  refine wpAnyH_take (i := 11) (oi := ?oi1021) (v := ?v1021) ?hi1021 (by kernel_rfl) (by kernel_rfl) (by kernel_rfl) (fun _ _ _ h => h) (Or.inl ⟨?hw1021, ?hy1021⟩) (by assumption) ?rest1021
  case hi1021 => (simp only [List.getElem?_toArray, List.getElem?_cons_zero, List.getElem?_cons_succ]; rfl)
  case hw1021 => rfl
  case hy1021 => first | (intro wx hSw; obtain ⟨-, ⟨-, a0, a1, a2, a3, -⟩, ⟨-, b0, b1, b2, b3, -⟩⟩ := hSw; go_simp; done) | (intro wx hSw; obtain ⟨-, ⟨-, a0, a1, a2, a3, -⟩, ⟨-, b0, b1, b2, b3, -⟩⟩ := hSw; go_simp; with_reducible rfl)
  simp only [Act.put, List.setIfInBounds_toArray, List.set_cons_zero, List.set_cons_succ]
  refine wpAnyH_take (i := 12) (oi := ?oi1022) (v := ?v1022) ?hi1022 (by kernel_rfl) (by kernel_rfl) (by kernel_rfl) (fun _ _ _ h => h) (Or.inl ⟨?hw1022, ?hy1022⟩) (by assumption) ?rest1022
  case hi1022 => (simp only [List.getElem?_toArray, List.getElem?_cons_zero, List.getElem?_cons_succ]; rfl)
  case hw1022 => rfl
  case hy1022 => first | (intro wx hSw; obtain ⟨-, ⟨-, a0, a1, a2, a3, -⟩, ⟨-, b0, b1, b2, b3, -⟩⟩ := hSw; go_simp; done) | (intro wx hSw; obtain ⟨-, ⟨-, a0, a1, a2, a3, -⟩, ⟨-, b0, b1, b2, b3, -⟩⟩ := hSw; go_simp; with_reducible rfl)
  simp only [Act.put, List.setIfInBounds_toArray, List.set_cons_zero, List.set_cons_succ]
  refine wpAnyH_take (i := 13) (oi := ?oi1023) (v := ?v1023) ?hi1023 (by kernel_rfl) (by kernel_rfl) (by kernel_rfl) (fun _ _ _ h => h) (Or.inl ⟨?hw1023, ?hy1023⟩) (by assumption) ?rest1023
  case hi1023 => (simp only [List.getElem?_toArray, List.getElem?_cons_zero, List.getElem?_cons_succ]; rfl)
  case hw1023 => rfl
  case hy1023 => first | (intro wx hSw; obtain ⟨-, ⟨-, a0, a1, a2, a3, -⟩, ⟨-, b0, b1, b2, b3, -⟩⟩ := hSw; go_simp; done) | (intro wx hSw; obtain ⟨-, ⟨-, a0, a1, a2, a3, -⟩, ⟨-, b0, b1, b2, b3, -⟩⟩ := hSw; go_simp; with_reducible rfl)
  simp only [Act.put, List.setIfInBounds_toArray, List.set_cons_zero, List.set_cons_succ]
  refine wpAnyH_take (i := 15) (oi := ?oi1024) (v := ?v1024) ?hi1024 (by kernel_rfl) (by kernel_rfl) (by kernel_rfl) (fun _ _ _ h => h) (Or.inl ⟨?hw1024, ?hy1024⟩) (by assumption) ?rest1024
  case hi1024 => (simp only [List.getElem?_toArray, List.getElem?_cons_zero, List.getElem?_cons_succ]; rfl)
  case hw1024 => rfl
  case hy1024 => first | (intro wx hSw; obtain ⟨-, ⟨-, a0, a1, a2, a3, -⟩, ⟨-, b0, b1, b2, b3, -⟩⟩ := hSw; go_simp; done) | (intro wx hSw; obtain ⟨-, ⟨-, a0, a1, a2, a3, -⟩, ⟨-, b0, b1, b2, b3, -⟩⟩ := hSw; go_simp; with_reducible rfl)
  simp only [Act.put, List.setIfInBounds_toArray, List.set_cons_zero, List.set_cons_succ]
  refine wpAnyH_ready (rs := [14]) (by kernel_rfl) (by simp) ?_
  refine AllReadyH.cons rfl (fun K1025 hK1025 => ?_) AllReadyH.nil
  go_simp
  go_wp2_with (go_at_call 13; refine (unhide XN _).mono ?_; rintro e wc1025 ⟨rfl, hb1025⟩)
  refine hK1025.out _ _ ?hs1025 (fun hHeld1025 => ?_)
  case hs1025 => exact s2_call hHeld hb1025
  clear hHeld
  have hHeld := hHeld1025; clear hHeld1025 hK1025 K1025 hb1025
  refine wpAnyH_ready (rs := [16]) (by kernel_rfl) (by simp) ?_
  refine AllReadyH.cons rfl (fun K1026 hK1026 => ?_) AllReadyH.nil
  go_simp
  go_wp2_with (go_at_call 16; refine (unhide XM _).mono ?_; rintro e wc1026 ⟨rfl, hb1026⟩)
  refine hK1026.out _ _ ?hs1026 (fun hHeld1026 => ?_)
  case hs1026 => exact s2_call hHeld hb1026
  clear hHeld
  have hHeld := hHeld1026; clear hHeld1026 hK1026 K1026 hb1026
  refine wpAnyH_take (i := 17) (oi := ?oi1027) (v := ?v1027) ?hi1027 (by kernel_rfl) (by kernel_rfl) (by kernel_rfl) (fun _ _ _ h => h) (Or.inl ⟨?hw1027, ?hy1027⟩) (by assumption) ?rest1027
  case hi1027 => (simp only [List.getElem?_toArray, List.getElem?_cons_zero, List.getElem?_cons_succ]; rfl)
  case hw1027 => rfl
  case hy1027 => first | (intro wx hSw; obtain ⟨-, ⟨-, a0, a1, a2, a3, -⟩, ⟨-, b0, b1, b2, b3, -⟩⟩ := hSw; go_simp; done) | (intro wx hSw; obtain ⟨-, ⟨-, a0, a1, a2, a3, -⟩, ⟨-, b0, b1, b2, b3, -⟩⟩ := hSw; go_simp; with_reducible rfl)
  simp only [Act.put, List.setIfInBounds_toArray, List.set_cons_zero, List.set_cons_succ]
  refine wpAnyH_take (i := 18) (oi := ?oi1028) (v := ?v1028) ?hi1028 (by kernel_rfl) (by kernel_rfl) (by kernel_rfl) (fun _ _ _ h => h) (Or.inl ⟨?hw1028, ?hy1028⟩) (by assumption) ?rest1028
  case hi1028 => (simp only [List.getElem?_toArray, List.getElem?_cons_zero, List.getElem?_cons_succ]; rfl)
  case hw1028 => rfl
  case hy1028 => first | (intro wx hSw; obtain ⟨-, ⟨-, a0, a1, a2, a3, -⟩, ⟨-, b0, b1, b2, b3, -⟩⟩ := hSw; go_simp; done) | (intro wx hSw; obtain ⟨-, ⟨-, a0, a1, a2, a3, -⟩, ⟨-, b0, b1, b2, b3, -⟩⟩ := hSw; go_simp; with_reducible rfl)
  simp only [Act.put, List.setIfInBounds_toArray, List.set_cons_zero, List.set_cons_succ]
  refine wpAnyH_take (i := 19) (oi := ?oi1029) (v := ?v1029) ?hi1029 (by kernel_rfl) (by kernel_rfl) (by kernel_rfl) (fun _ _ _ h => h) (Or.inl ⟨?hw1029, ?hy1029⟩) (by assumption) ?rest1029
  case hi1029 => (simp only [List.getElem?_toArray, List.getElem?_cons_zero, List.getElem?_cons_succ]; rfl)
  case hw1029 => rfl
  case hy1029 => first | (intro wx hSw; obtain ⟨-, ⟨-, a0, a1, a2, a3, -⟩, ⟨-, b0, b1, b2, b3, -⟩⟩ := hSw; go_simp; done) | (intro wx hSw; obtain ⟨-, ⟨-, a0, a1, a2, a3, -⟩, ⟨-, b0, b1, b2, b3, -⟩⟩ := hSw; go_simp; with_reducible rfl)
  simp only [Act.put, List.setIfInBounds_toArray, List.set_cons_zero, List.set_cons_succ]
  refine wpAnyH_take (i := 20) (oi := ?oi1030) (v := ?v1030) ?hi1030 (by kernel_rfl) (by kernel_rfl) (by kernel_rfl) (fun _ _ _ h => h) (Or.inl ⟨?hw1030, ?hy1030⟩) (by assumption) ?rest1030
  case hi1030 => (simp only [List.getElem?_toArray, List.getElem?_cons_zero, List.getElem?_cons_succ]; rfl)
  case hw1030 => rfl
  case hy1030 => first | (intro wx hSw; obtain ⟨-, ⟨-, a0, a1, a2, a3, -⟩, ⟨-, b0, b1, b2, b3, -⟩⟩ := hSw; go_simp; done) | (intro wx hSw; obtain ⟨-, ⟨-, a0, a1, a2, a3, -⟩, ⟨-, b0, b1, b2, b3, -⟩⟩ := hSw; go_simp; with_reducible rfl)
  simp only [Act.put, List.setIfInBounds_toArray, List.set_cons_zero, List.set_cons_succ]
  refine wpAnyH_take (i := 22) (oi := ?oi1031) (v := ?v1031) ?hi1031 (by kernel_rfl) (by kernel_rfl) (by kernel_rfl) (fun _ _ _ h => h) (Or.inl ⟨?hw1031, ?hy1031⟩) (by assumption) ?rest1031
  case hi1031 => (simp only [List.getElem?_toArray, List.getElem?_cons_zero, List.getElem?_cons_succ]; rfl)
  case hw1031 => rfl
  case hy1031 => first | (intro wx hSw; obtain ⟨-, ⟨-, a0, a1, a2, a3, -⟩, ⟨-, b0, b1, b2, b3, -⟩⟩ := hSw; go_simp; done) | (intro wx hSw; obtain ⟨-, ⟨-, a0, a1, a2, a3, -⟩, ⟨-, b0, b1, b2, b3, -⟩⟩ := hSw; go_simp; with_reducible rfl)
  simp only [Act.put, List.setIfInBounds_toArray, List.set_cons_zero, List.set_cons_succ]
  refine wpAnyH_ready (rs := [21]) (by kernel_rfl) (by simp) ?_
  refine AllReadyH.cons rfl (fun K1032 hK1032 => ?_) AllReadyH.nil
  go_simp
  go_wp2_with (go_at_call 13; refine (unhide QN _).mono ?_; rintro e wc1032 ⟨rfl, hb1032⟩)
  refine hK1032.out _ _ ?hs1032 (fun hHeld1032 => ?_)
  case hs1032 => exact s2_call hHeld hb1032
  clear hHeld
  have hHeld := hHeld1032; clear hHeld1032 hK1032 K1032 hb1032
  refine wpAnyH_ready (rs := [23]) (by kernel_rfl) (by simp) ?_
  refine AllReadyH.cons rfl (fun K1033 hK1033 => ?_) AllReadyH.nil
  go_simp
  go_wp2_with (go_at_call 16; refine (unhide QM _).mono ?_; rintro e wc1033 ⟨rfl, hb1033⟩)
  refine hK1033.out _ _ ?hs1033 (fun hHeld1033 => ?_)
  case hs1033 => exact s2_call hHeld hb1033
  clear hHeld
  have hHeld := hHeld1033; clear hHeld1033 hK1033 K1033 hb1033
  refine wpAnyH_take (i := 24) (oi := ?oi1034) (v := ?v1034) ?hi1034 (by kernel_rfl) (by kernel_rfl) (by kernel_rfl) (fun _ _ _ h => h) (Or.inl ⟨?hw1034, ?hy1034⟩) (by assumption) ?rest1034
  case hi1034 => (simp only [List.getElem?_toArray, List.getElem?_cons_zero, List.getElem?_cons_succ]; rfl)
  case hw1034 => rfl
  case hy1034 => first | (intro wx hSw; obtain ⟨-, ⟨-, a0, a1, a2, a3, -⟩, ⟨-, b0, b1, b2, b3, -⟩⟩ := hSw; go_simp; done) | (intro wx hSw; obtain ⟨-, ⟨-, a0, a1, a2, a3, -⟩, ⟨-, b0, b1, b2, b3, -⟩⟩ := hSw; go_simp; with_reducible rfl)
  simp only [Act.put, List.setIfInBounds_toArray, List.set_cons_zero, List.set_cons_succ]
  refine wpAnyH_take (i := 25) (oi := ?oi1035) (v := ?v1035) ?hi1035 (by kernel_rfl) (by kernel_rfl) (by kernel_rfl) (fun _ _ _ h => h) (Or.inl ⟨?hw1035, ?hy1035⟩) (by assumption) ?rest1035
  case hi1035 => (simp only [List.getElem?_toArray, List.getElem?_cons_zero, List.getElem?_cons_succ]; rfl)
  case hw1035 => rfl
  case hy1035 => first | (intro wx hSw; obtain ⟨-, ⟨-, a0, a1, a2, a3, -⟩, ⟨-, b0, b1, b2, b3, -⟩⟩ := hSw; go_simp; done) | (intro wx hSw; obtain ⟨-, ⟨-, a0, a1, a2, a3, -⟩, ⟨-, b0, b1, b2, b3, -⟩⟩ := hSw; go_simp; with_reducible rfl)
  simp only [Act.put, List.setIfInBounds_toArray, List.set_cons_zero, List.set_cons_succ]
  refine wpAnyH_take (i := 26) (oi := ?oi1036) (v := ?v1036) ?hi1036 (by kernel_rfl) (by kernel_rfl) (by kernel_rfl) (fun _ _ _ h => h) (Or.inl ⟨?hw1036, ?hy1036⟩) (by assumption) ?rest1036
  case hi1036 => (simp only [List.getElem?_toArray, List.getElem?_cons_zero, List.getElem?_cons_succ]; rfl)
  case hw1036 => rfl
  case hy1036 => first | (intro wx hSw; obtain ⟨-, ⟨-, a0, a1, a2, a3, -⟩, ⟨-, b0, b1, b2, b3, -⟩⟩ := hSw; go_simp; done) | (intro wx hSw; obtain ⟨-, ⟨-, a0, a1, a2, a3, -⟩, ⟨-, b0, b1, b2, b3, -⟩⟩ := hSw; go_simp; with_reducible rfl)
  simp only [Act.put, List.setIfInBounds_toArray, List.set_cons_zero, List.set_cons_succ]
  refine wpAnyH_done (by kernel_rfl) ?_ _
  refine NoPanic.normal ?_
  refine hrest _ _ ?_
  have HW := hide hHeld.1
  clear hHeld hrest
  go_wp2_with fail
  go_ret
  exact ⟨rfl, unhide HW⟩

set_option maxHeartbeats 8000000 in
set_option maxRecDepth 100000 in
theorem right_w1 (rk rn rs kind n which v y : Int) (i : Nat) (rt s : ByteArray) (w : World) (hs : s.size ≤ 100) (hrt : rt.size ≤ 100) (hrn : Hid (Is64 rn)) (hrs : Hid (Is64 rs))
    (MX : Hid (∀ W, Calls Try.prog 11 #[.int .i64 kind, .int .i64 n, .string s] W fun e w' => Made e (kind % 6) ∧ Below W.heap.size W w'))
    (WI : Hid (∀ W, Calls Try.prog 14 #[.int .i64 which, .int .i64 4] W fun e w' => e = .returned (.int .i64 1) ∧ w' = W)) (WV : Hid (∀ W, Calls Try.prog 14 #[.int .i64 v, .int .i64 9] W fun e w' => e = .returned (.int .i64 (i : Int)) ∧ w' = W)) (hi : (i : Int) < 9) (hrow : (#[.int .i64 0, .int .i64 1, .int .i64 2, .int .i64 (-1), .int .i64 10, .int .i64 999999999999999, .int .i64 1000000000000000, .int .i64 (-1000000000000000), .int .i64 v] : Array Value)[i]? = some (.int .i64 y)) (hy : Hid (Is64 y)) :
    Calls Try.prog 3 #[V rk rn rs rt, .int .i64 kind, .int .i64 n, .string s, .int .i64 which, .int .i64 v] w fun e w' => e = .returned (.bool true) ∧ Below w.heap.size w w' := by
  have hR := hide (four_alloc (.int .i64 rk) (.int .i64 rn) (.int .i64 rs) (.string rt) 23 w)
  have hL := hide ((Below.refl w.heap.size w).alloc (Nat.le_refl _) (.cells #[.int .i64 rk, .int .i64 rn, .int .i64 rs, .string rt] 23))
  have QR := hide (fun W => right_any rk rn rs rt W (by unfold maxLen; omega))
  have QS := hide (fun W => rright_any rk rn rs rt W (by unfold maxLen; omega))
  have QN := hide (fun W => norm_any rk rn rs rt W (unhide hrn) (unhide hrs))
  have QM := hide (fun W => rnorm_any rk rn rs rt W (unhide hrn) (unhide hrs))
  generalize rightB rk rn rs rt = r2 at *
  generalize nN rk rn rs = m2 at *
  generalize nS rk rn rs = c2 at *
  go_enter Try.func3, Try.ntmps3
  go_wp2_with fail
  refine (known_any _).mono ?_
  rintro e w1 ⟨rfl, hb1⟩
  replace hR := hide (four_call (unhide hR) hb1)
  replace hL := hide ((unhide hL).trans (hb1.mono (unhide hL).size))
  clear hb1
  obtain ⟨-, b0, b1, b2, b3, -⟩ := unhide hR
  go_wp2_with fail
  clear b0 b1 b2 b3
  refine (unhide MX _).mono ?_
  rintro e w2 ⟨⟨xn, xs, xt, okx, rfl⟩, hb2⟩
  have OX := hide okx
  replace hR := hide (four_call (unhide hR) hb2)
  replace hL := hide ((unhide hL).trans (hb2.mono (unhide hL).size))
  have hxt := ok_size okx
  have HLT := hide (unhide hR).1
  clear hb2 okx MX
  generalize kind % 6 = kx at *
  have hX := hide (four_alloc (.int .i64 kx) (.int .i64 xn) (.int .i64 xs) (.string xt) 23 w2)
  replace hR := hide (four_more (unhide hR) (.cells #[.int .i64 kx, .int .i64 xn, .int .i64 xs, .string xt] 23))
  replace hL := hide ((unhide hL).alloc (unhide hL).size (.cells #[.int .i64 kx, .int .i64 xn, .int .i64 xs, .string xt] 23))
  have XR := hide (fun W => right_any kx xn xs xt W (by have := ok_size (unhide OX); unfold maxLen; omega))
  have XN := hide (fun W => norm_any kx xn xs xt W (ok_64 (unhide OX)) (ok_s64 (unhide OX)))
  rw [(unhide OX).2.1] at XR
  rw [(ok_normed (unhide OX)).1, (ok_normed (unhide OX)).2] at XN
  have bx : w2.heap.size = w2.heap.size := rfl
  clear bx
  go_wp2_with fail
  rename_i Q1 K1 hrest
  refine wp_region_noPanic ?_
  refine wp_region_held_drew (S := S2 w w2.heap.size w.heap.size (.int .i64 kx) (.int .i64 xn) (.int .i64 xs) (.string xt) (.int .i64 rk) (.int .i64 rn) (.int .i64 rs) (.string rt)) (by kernel_rfl) (s2_mk (unhide hL) (unhide hX) (unhide hR)) (fun hHeld => ?_)
  revert hHeld
  generalize World.drew _ = Wd
  intro hHeld
  refine wpAnyH_take (i := 0) (oi := ?oi1037) (v := ?v1037) ?hi1037 (by kernel_rfl) (by kernel_rfl) (by kernel_rfl) (fun _ _ _ h => h) (Or.inl ⟨?hw1037, ?hy1037⟩) (by assumption) ?rest1037
  case hi1037 => (simp only [List.getElem?_toArray, List.getElem?_cons_zero]; rfl)
  case hw1037 => rfl
  case hy1037 => first | (intro wx hSw; obtain ⟨-, ⟨-, a0, a1, a2, a3, -⟩, ⟨-, b0, b1, b2, b3, -⟩⟩ := hSw; go_simp; done) | (intro wx hSw; obtain ⟨-, ⟨-, a0, a1, a2, a3, -⟩, ⟨-, b0, b1, b2, b3, -⟩⟩ := hSw; go_simp; with_reducible rfl)
  simp only [Act.put, List.setIfInBounds_toArray, List.set_cons_zero, List.set_cons_succ]
  refine wpAnyH_ready (rs := [1]) (by kernel_rfl) (by simp) ?_
  refine AllReadyH.cons rfl (fun K1038 hK1038 => ?_) AllReadyH.nil
  go_simp
  go_wp2_with (go_at_call 12; refine (unhide XR _).mono ?_; rintro e wc1038 ⟨rfl, hb1038⟩)
  refine hK1038.out _ _ ?hs1038 (fun hHeld1038 => ?_)
  case hs1038 => exact s2_call hHeld hb1038
  clear hHeld
  have hHeld := hHeld1038; clear hHeld1038 hK1038 K1038 hb1038
  refine wpAnyH_take (i := 2) (oi := ?oi1039) (v := ?v1039) ?hi1039 (by kernel_rfl) (by kernel_rfl) (by kernel_rfl) (fun _ _ _ h => h) (Or.inl ⟨?hw1039, ?hy1039⟩) (by assumption) ?rest1039
  case hi1039 => (simp only [List.getElem?_toArray, List.getElem?_cons_zero, List.getElem?_cons_succ]; rfl)
  case hw1039 => rfl
  case hy1039 => first | (intro wx hSw; obtain ⟨-, ⟨-, a0, a1, a2, a3, -⟩, ⟨-, b0, b1, b2, b3, -⟩⟩ := hSw; go_simp; done) | (intro wx hSw; obtain ⟨-, ⟨-, a0, a1, a2, a3, -⟩, ⟨-, b0, b1, b2, b3, -⟩⟩ := hSw; go_simp; with_reducible rfl)
  simp only [Act.put, List.setIfInBounds_toArray, List.set_cons_zero, List.set_cons_succ]
  refine wpAnyH_take (i := 3) (oi := ?oi1040) (v := ?v1040) ?hi1040 (by kernel_rfl) (by kernel_rfl) (by kernel_rfl) (fun _ _ _ h => h) (Or.inl ⟨?hw1040, ?hy1040⟩) (by assumption) ?rest1040
  case hi1040 => (simp only [List.getElem?_toArray, List.getElem?_cons_zero, List.getElem?_cons_succ]; rfl)
  case hw1040 => rfl
  case hy1040 => first | (intro wx hSw; obtain ⟨-, ⟨-, a0, a1, a2, a3, -⟩, ⟨-, b0, b1, b2, b3, -⟩⟩ := hSw; go_simp; done) | (intro wx hSw; obtain ⟨-, ⟨-, a0, a1, a2, a3, -⟩, ⟨-, b0, b1, b2, b3, -⟩⟩ := hSw; go_simp; with_reducible rfl)
  simp only [Act.put, List.setIfInBounds_toArray, List.set_cons_zero, List.set_cons_succ]
  refine wpAnyH_take (i := 4) (oi := ?oi1041) (v := ?v1041) ?hi1041 (by kernel_rfl) (by kernel_rfl) (by kernel_rfl) (fun _ _ _ h => h) (Or.inl ⟨?hw1041, ?hy1041⟩) (by assumption) ?rest1041
  case hi1041 => (simp only [List.getElem?_toArray, List.getElem?_cons_zero, List.getElem?_cons_succ]; rfl)
  case hw1041 => rfl
  case hy1041 => first | (intro wx hSw; obtain ⟨-, ⟨-, a0, a1, a2, a3, -⟩, ⟨-, b0, b1, b2, b3, -⟩⟩ := hSw; go_simp; done) | (intro wx hSw; obtain ⟨-, ⟨-, a0, a1, a2, a3, -⟩, ⟨-, b0, b1, b2, b3, -⟩⟩ := hSw; go_simp; with_reducible rfl)
  simp only [Act.put, List.setIfInBounds_toArray, List.set_cons_zero, List.set_cons_succ]
  refine wpAnyH_take (i := 6) (oi := ?oi1042) (v := ?v1042) ?hi1042 (by kernel_rfl) (by kernel_rfl) (by kernel_rfl) (fun _ _ _ h => h) (Or.inl ⟨?hw1042, ?hy1042⟩) (by assumption) ?rest1042
  case hi1042 => (simp only [List.getElem?_toArray, List.getElem?_cons_zero, List.getElem?_cons_succ]; rfl)
  case hw1042 => rfl
  case hy1042 => first | (intro wx hSw; obtain ⟨-, ⟨-, a0, a1, a2, a3, -⟩, ⟨-, b0, b1, b2, b3, -⟩⟩ := hSw; go_simp; done) | (intro wx hSw; obtain ⟨-, ⟨-, a0, a1, a2, a3, -⟩, ⟨-, b0, b1, b2, b3, -⟩⟩ := hSw; go_simp; with_reducible rfl)
  simp only [Act.put, List.setIfInBounds_toArray, List.set_cons_zero, List.set_cons_succ]
  refine wpAnyH_ready (rs := [5]) (by kernel_rfl) (by simp) ?_
  refine AllReadyH.cons rfl (fun K1043 hK1043 => ?_) AllReadyH.nil
  go_simp
  go_wp2_with (go_at_call 13; refine (unhide XN _).mono ?_; rintro e wc1043 ⟨rfl, hb1043⟩)
  refine hK1043.out _ _ ?hs1043 (fun hHeld1043 => ?_)
  case hs1043 => exact s2_call hHeld hb1043
  clear hHeld
  have hHeld := hHeld1043; clear hHeld1043 hK1043 K1043 hb1043
  refine wpAnyH_take (i := 7) (oi := ?oi1044) (v := ?v1044) ?hi1044 (by kernel_rfl) (by kernel_rfl) (by kernel_rfl) (fun _ _ _ h => h) (Or.inl ⟨?hw1044, ?hy1044⟩) (by assumption) ?rest1044
  case hi1044 => (simp only [List.getElem?_toArray, List.getElem?_cons_zero, List.getElem?_cons_succ]; rfl)
  case hw1044 => rfl
  case hy1044 => first | (intro wx hSw; obtain ⟨-, ⟨-, a0, a1, a2, a3, -⟩, ⟨-, b0, b1, b2, b3, -⟩⟩ := hSw; go_simp; done) | (intro wx hSw; obtain ⟨-, ⟨-, a0, a1, a2, a3, -⟩, ⟨-, b0, b1, b2, b3, -⟩⟩ := hSw; go_simp; with_reducible rfl)
  simp only [Act.put, List.setIfInBounds_toArray, List.set_cons_zero, List.set_cons_succ]
  refine wpAnyH_take (i := 8) (oi := ?oi1045) (v := ?v1045) ?hi1045 (by kernel_rfl) (by kernel_rfl) (by kernel_rfl) (fun _ _ _ h => h) (Or.inl ⟨?hw1045, ?hy1045⟩) (by assumption) ?rest1045
  case hi1045 => (simp only [List.getElem?_toArray, List.getElem?_cons_zero, List.getElem?_cons_succ]; rfl)
  case hw1045 => rfl
  case hy1045 => first | (intro wx hSw; obtain ⟨-, ⟨-, a0, a1, a2, a3, -⟩, ⟨-, b0, b1, b2, b3, -⟩⟩ := hSw; go_simp; done) | (intro wx hSw; obtain ⟨-, ⟨-, a0, a1, a2, a3, -⟩, ⟨-, b0, b1, b2, b3, -⟩⟩ := hSw; go_simp; with_reducible rfl)
  simp only [Act.put, List.setIfInBounds_toArray, List.set_cons_zero, List.set_cons_succ]
  refine wpAnyH_done (by kernel_rfl) ?_ _
  refine NoPanic.normal ?_
  refine hrest _ _ ?_
  clear hrest hX hR hL XR XN
  have hL := hide hHeld.1
  have hX := hide hHeld.2.1
  have hR := hide hHeld.2.2
  clear hHeld
  rename_i W6
  go_wp2_with fail
  refine (unhide WI _).mono ?_
  rintro e wq ⟨rfl, rfl⟩
  replace hX := hide (four_more (unhide hX) (.cells (rowR1 v) 3))
  replace hR := hide (four_more (unhide hR) (.cells (rowR1 v) 3))
  replace hL := hide ((unhide hL).alloc (unhide hL).size (.cells (rowR1 v) 3))
  obtain ⟨-, a0, a1, a2, a3, f0, f1, f2, f3⟩ := unhide hX
  go_wp2_with (go_at_call 14; refine (unhide WV _).mono ?_; rintro e wv ⟨rfl, rfl⟩)
  clear a0 a1 a2 a3 f0 f1 f2 f3
  replace hX := hide (four_set1 (unhide hX) (.int .i64 y))
  replace hR := hide (four_other0 (i := 1) (show w2.heap.size ≠ w.heap.size from Nat.ne_of_gt (unhide HLT)) (unhide hR) (.int .i64 y))
  replace hL := hide (below_set0 (c := w2.heap.size) (i := 1) (unhide hL) (Nat.le_of_lt (unhide HLT)) (.int .i64 y))
  have XR := hide (fun W => right_any kx y xs xt W (by unfold maxLen; omega))
  have XS := hide (fun W => rright_any kx y xs xt W (by unfold maxLen; omega))
  have XN := hide (fun W => norm_any kx y xs xt W (unhide hy) (ok_s64 (unhide OX)))
  have XM := hide (fun W => rnorm_any kx y xs xt W (unhide hy) (ok_s64 (unhide OX)))
  generalize rightB kx y xs xt = r1 at *
  generalize nN kx y xs = m1 at *
  generalize nS kx y xs = c1 at *
  rename_i hrest
  refine wp_region_noPanic ?_
  refine wp_region_held_drew (S := S2 w w2.heap.size w.heap.size (.int .i64 kx) (.int .i64 y) (.int .i64 xs) (.string xt) (.int .i64 rk) (.int .i64 rn) (.int .i64 rs) (.string rt)) (by kernel_rfl) (s2_mk (unhide hL) (unhide hX) (unhide hR)) (fun hHeld => ?_)
  revert hHeld
  generalize World.drew _ = Wd
  intro hHeld
  refine wpAnyH_take (i := 0) (oi := ?oi1046) (v := ?v1046) ?hi1046 (by kernel_rfl) (by kernel_rfl) (by kernel_rfl) (fun _ _ _ h => h) (Or.inl ⟨?hw1046, ?hy1046⟩) (by assumption) ?rest1046
  case hi1046 => (simp only [List.getElem?_toArray, List.getElem?_cons_zero]; rfl)
  case hw1046 => rfl
  case hy1046 => first | (intro wx hSw; obtain ⟨-, ⟨-, a0, a1, a2, a3, -⟩, ⟨-, b0, b1, b2, b3, -⟩⟩ := hSw; go_simp; done) | (intro wx hSw; obtain ⟨-, ⟨-, a0, a1, a2, a3, -⟩, ⟨-, b0, b1, b2, b3, -⟩⟩ := hSw; go_simp; with_reducible rfl)
  simp only [Act.put, List.setIfInBounds_toArray, List.set_cons_zero, List.set_cons_succ]
  refine wpAnyH_take (i := 2) (oi := ?oi1047) (v := ?v1047) ?hi1047 (by kernel_rfl) (by kernel_rfl) (by kernel_rfl) (fun _ _ _ h => h) (Or.inl ⟨?hw1047, ?hy1047⟩) (by assumption) ?rest1047
  case hi1047 => (simp only [List.getElem?_toArray, List.getElem?_cons_zero, List.getElem?_cons_succ]; rfl)
  case hw1047 => rfl
  case hy1047 => first | (intro wx hSw; obtain ⟨-, ⟨-, a0, a1, a2, a3, -⟩, ⟨-, b0, b1, b2, b3, -⟩⟩ := hSw; go_simp; done) | (intro wx hSw; obtain ⟨-, ⟨-, a0, a1, a2, a3, -⟩, ⟨-, b0, b1, b2, b3, -⟩⟩ := hSw; go_simp; with_reducible rfl)
  simp only [Act.put, List.setIfInBounds_toArray, List.set_cons_zero, List.set_cons_succ]
  refine wpAnyH_ready (rs := [1]) (by kernel_rfl) (by simp) ?_
  refine AllReadyH.cons rfl (fun K1048 hK1048 => ?_) AllReadyH.nil
  go_simp
  go_wp2_with (go_at_call 12; refine (unhide XR _).mono ?_; rintro e wc1048 ⟨rfl, hb1048⟩)
  refine hK1048.out _ _ ?hs1048 (fun hHeld1048 => ?_)
  case hs1048 => exact s2_call hHeld hb1048
  clear hHeld
  have hHeld := hHeld1048; clear hHeld1048 hK1048 K1048 hb1048
  refine wpAnyH_ready (rs := [3]) (by kernel_rfl) (by simp) ?_
  refine AllReadyH.cons rfl (fun K1049 hK1049 => ?_) AllReadyH.nil
  go_simp
  go_wp2_with (go_at_call 15; refine (unhide XS _).mono ?_; rintro e wc1049 ⟨rfl, hb1049⟩)
  refine hK1049.out _ _ ?hs1049 (fun hHeld1049 => ?_)
  case hs1049 => exact s2_call hHeld hb1049
  clear hHeld
  have hHeld := hHeld1049; clear hHeld1049 hK1049 K1049 hb1049
  refine wpAnyH_take (i := 4) (oi := ?oi1050) (v := ?v1050) ?hi1050 (by kernel_rfl) (by kernel_rfl) (by kernel_rfl) (fun _ _ _ h => h) (Or.inl ⟨?hw1050, ?hy1050⟩) (by assumption) ?rest1050
  case hi1050 => (simp only [List.getElem?_toArray, List.getElem?_cons_zero, List.getElem?_cons_succ]; rfl)
  case hw1050 => rfl
  case hy1050 => first | (intro wx hSw; obtain ⟨-, ⟨-, a0, a1, a2, a3, -⟩, ⟨-, b0, b1, b2, b3, -⟩⟩ := hSw; go_simp; done) | (intro wx hSw; obtain ⟨-, ⟨-, a0, a1, a2, a3, -⟩, ⟨-, b0, b1, b2, b3, -⟩⟩ := hSw; go_simp; with_reducible rfl)
  simp only [Act.put, List.setIfInBounds_toArray, List.set_cons_zero, List.set_cons_succ]
  refine wpAnyH_take (i := 5) (oi := ?oi1051) (v := ?v1051) ?hi1051 (by kernel_rfl) (by kernel_rfl) (by kernel_rfl) (fun _ _ _ h => h) (Or.inl ⟨?hw1051, ?hy1051⟩) (by assumption) ?rest1051
  case hi1051 => (simp only [List.getElem?_toArray, List.getElem?_cons_zero, List.getElem?_cons_succ]; rfl)
  case hw1051 => rfl
  case hy1051 => first | (intro wx hSw; obtain ⟨-, ⟨-, a0, a1, a2, a3, -⟩, ⟨-, b0, b1, b2, b3, -⟩⟩ := hSw; go_simp; done) | (intro wx hSw; obtain ⟨-, ⟨-, a0, a1, a2, a3, -⟩, ⟨-, b0, b1, b2, b3, -⟩⟩ := hSw; go_simp; with_reducible rfl)
  simp only [Act.put, List.setIfInBounds_toArray, List.set_cons_zero, List.set_cons_succ]
  refine wpAnyH_take (i := 6) (oi := ?oi1052) (v := ?v1052) ?hi1052 (by kernel_rfl) (by kernel_rfl) (by kernel_rfl) (fun _ _ _ h => h) (Or.inl ⟨?hw1052, ?hy1052⟩) (by assumption) ?rest1052
  case hi1052 => (simp only [List.getElem?_toArray, List.getElem?_cons_zero, List.getElem?_cons_succ]; rfl)
  case hw1052 => rfl
  case hy1052 => first | (intro wx hSw; obtain ⟨-, ⟨-, a0, a1, a2, a3, -⟩, ⟨-, b0, b1, b2, b3, -⟩⟩ := hSw; go_simp; done) | (intro wx hSw; obtain ⟨-, ⟨-, a0, a1, a2, a3, -⟩, ⟨-, b0, b1, b2, b3, -⟩⟩ := hSw; go_simp; with_reducible rfl)
  simp only [Act.put, List.setIfInBounds_toArray, List.set_cons_zero, List.set_cons_succ]
  refine wpAnyH_take (i := 8) (oi := ?oi1053) (v := ?v1053) ?hi1053 (by kernel_rfl) (by kernel_rfl) (by kernel_rfl) (fun _ _ _ h => h) (Or.inl ⟨?hw1053, ?hy1053⟩) (by assumption) ?rest1053
  case hi1053 => (simp only [List.getElem?_toArray, List.getElem?_cons_zero, List.getElem?_cons_succ]; rfl)
  case hw1053 => rfl
  case hy1053 => first | (intro wx hSw; obtain ⟨-, ⟨-, a0, a1, a2, a3, -⟩, ⟨-, b0, b1, b2, b3, -⟩⟩ := hSw; go_simp; done) | (intro wx hSw; obtain ⟨-, ⟨-, a0, a1, a2, a3, -⟩, ⟨-, b0, b1, b2, b3, -⟩⟩ := hSw; go_simp; with_reducible rfl)
  simp only [Act.put, List.setIfInBounds_toArray, List.set_cons_zero, List.set_cons_succ]
  refine wpAnyH_ready (rs := [7]) (by kernel_rfl) (by simp) ?_
  refine AllReadyH.cons rfl (fun K1054 hK1054 => ?_) AllReadyH.nil
  go_simp
  go_wp2_with (go_at_call 12; refine (unhide QR _).mono ?_; rintro e wc1054 ⟨rfl, hb1054⟩)
  refine hK1054.out _ _ ?hs1054 (fun hHeld1054 => ?_)
  case hs1054 => exact s2_call hHeld hb1054
  clear hHeld
  have hHeld := hHeld1054; clear hHeld1054 hK1054 K1054 hb1054
  refine wpAnyH_ready (rs := [9]) (by kernel_rfl) (by simp) ?_
  refine AllReadyH.cons rfl (fun K1055 hK1055 => ?_) AllReadyH.nil
  go_simp
  go_wp2_with (go_at_call 15; refine (unhide QS _).mono ?_; rintro e wc1055 ⟨rfl, hb1055⟩)
  refine hK1055.out _ _ ?hs1055 (fun hHeld1055 => ?_)
  case hs1055 => exact s2_call hHeld hb1055
  clear hHeld
  have hHeld := hHeld1055; clear hHeld1055 hK1055 K1055 hb1055
  refine wpAnyH_take (i := 10) (oi := ?oi1056) (v := ?v1056) ?hi1056 (by kernel_rfl) (by kernel_rfl) (by kernel_rfl) (fun _ _ _ h => h) (Or.inl ⟨?hw1056, ?hy1056⟩) (by assumption) ?rest1056
  case hi1056 => (simp only [List.getElem?_toArray, List.getElem?_cons_zero, List.getElem?_cons_succ]; rfl)
  case hw1056 => rfl
  case hy1056 => first | (intro wx hSw; obtain ⟨-, ⟨-, a0, a1, a2, a3, -⟩, ⟨-, b0, b1, b2, b3, -⟩⟩ := hSw; go_simp; done) | (intro wx hSw; obtain ⟨-, ⟨-, a0, a1, a2, a3, -⟩, ⟨-, b0, b1, b2, b3, -⟩⟩ := hSw; go_simp; with_reducible rfl)
  simp only [Act.put, List.setIfInBounds_toArray, List.set_cons_zero, List.set_cons_succ]
  refine wpAnyH_take (i := 11) (oi := ?oi1057) (v := ?v1057) ?hi1057 (by kernel_rfl) (by kernel_rfl) (by kernel_rfl) (fun _ _ _ h => h) (Or.inl ⟨?hw1057, ?hy1057⟩) (by assumption) ?rest1057
  case hi1057 => (simp only [List.getElem?_toArray, List.getElem?_cons_zero, List.getElem?_cons_succ]; rfl)
  case hw1057 => rfl
  case hy1057 => first | (intro wx hSw; obtain ⟨-, ⟨-, a0, a1, a2, a3, -⟩, ⟨-, b0, b1, b2, b3, -⟩⟩ := hSw; go_simp; done) | (intro wx hSw; obtain ⟨-, ⟨-, a0, a1, a2, a3, -⟩, ⟨-, b0, b1, b2, b3, -⟩⟩ := hSw; go_simp; with_reducible rfl)
  simp only [Act.put, List.setIfInBounds_toArray, List.set_cons_zero, List.set_cons_succ]
  refine wpAnyH_take (i := 12) (oi := ?oi1058) (v := ?v1058) ?hi1058 (by kernel_rfl) (by kernel_rfl) (by kernel_rfl) (fun _ _ _ h => h) (Or.inl ⟨?hw1058, ?hy1058⟩) (by assumption) ?rest1058
  case hi1058 => (simp only [List.getElem?_toArray, List.getElem?_cons_zero, List.getElem?_cons_succ]; rfl)
  case hw1058 => rfl
  case hy1058 => first | (intro wx hSw; obtain ⟨-, ⟨-, a0, a1, a2, a3, -⟩, ⟨-, b0, b1, b2, b3, -⟩⟩ := hSw; go_simp; done) | (intro wx hSw; obtain ⟨-, ⟨-, a0, a1, a2, a3, -⟩, ⟨-, b0, b1, b2, b3, -⟩⟩ := hSw; go_simp; with_reducible rfl)
  simp only [Act.put, List.setIfInBounds_toArray, List.set_cons_zero, List.set_cons_succ]
  refine wpAnyH_take (i := 13) (oi := ?oi1059) (v := ?v1059) ?hi1059 (by kernel_rfl) (by kernel_rfl) (by kernel_rfl) (fun _ _ _ h => h) (Or.inl ⟨?hw1059, ?hy1059⟩) (by assumption) ?rest1059
  case hi1059 => (simp only [List.getElem?_toArray, List.getElem?_cons_zero, List.getElem?_cons_succ]; rfl)
  case hw1059 => rfl
  case hy1059 => first | (intro wx hSw; obtain ⟨-, ⟨-, a0, a1, a2, a3, -⟩, ⟨-, b0, b1, b2, b3, -⟩⟩ := hSw; go_simp; done) | (intro wx hSw; obtain ⟨-, ⟨-, a0, a1, a2, a3, -⟩, ⟨-, b0, b1, b2, b3, -⟩⟩ := hSw; go_simp; with_reducible rfl)
  simp only [Act.put, List.setIfInBounds_toArray, List.set_cons_zero, List.set_cons_succ]
  refine wpAnyH_take (i := 15) (oi := ?oi1060) (v := ?v1060) ?hi1060 (by kernel_rfl) (by kernel_rfl) (by kernel_rfl) (fun _ _ _ h => h) (Or.inl ⟨?hw1060, ?hy1060⟩) (by assumption) ?rest1060
  case hi1060 => (simp only [List.getElem?_toArray, List.getElem?_cons_zero, List.getElem?_cons_succ]; rfl)
  case hw1060 => rfl
  case hy1060 => first | (intro wx hSw; obtain ⟨-, ⟨-, a0, a1, a2, a3, -⟩, ⟨-, b0, b1, b2, b3, -⟩⟩ := hSw; go_simp; done) | (intro wx hSw; obtain ⟨-, ⟨-, a0, a1, a2, a3, -⟩, ⟨-, b0, b1, b2, b3, -⟩⟩ := hSw; go_simp; with_reducible rfl)
  simp only [Act.put, List.setIfInBounds_toArray, List.set_cons_zero, List.set_cons_succ]
  refine wpAnyH_ready (rs := [14]) (by kernel_rfl) (by simp) ?_
  refine AllReadyH.cons rfl (fun K1061 hK1061 => ?_) AllReadyH.nil
  go_simp
  go_wp2_with (go_at_call 13; refine (unhide XN _).mono ?_; rintro e wc1061 ⟨rfl, hb1061⟩)
  refine hK1061.out _ _ ?hs1061 (fun hHeld1061 => ?_)
  case hs1061 => exact s2_call hHeld hb1061
  clear hHeld
  have hHeld := hHeld1061; clear hHeld1061 hK1061 K1061 hb1061
  refine wpAnyH_ready (rs := [16]) (by kernel_rfl) (by simp) ?_
  refine AllReadyH.cons rfl (fun K1062 hK1062 => ?_) AllReadyH.nil
  go_simp
  go_wp2_with (go_at_call 16; refine (unhide XM _).mono ?_; rintro e wc1062 ⟨rfl, hb1062⟩)
  refine hK1062.out _ _ ?hs1062 (fun hHeld1062 => ?_)
  case hs1062 => exact s2_call hHeld hb1062
  clear hHeld
  have hHeld := hHeld1062; clear hHeld1062 hK1062 K1062 hb1062
  refine wpAnyH_take (i := 17) (oi := ?oi1063) (v := ?v1063) ?hi1063 (by kernel_rfl) (by kernel_rfl) (by kernel_rfl) (fun _ _ _ h => h) (Or.inl ⟨?hw1063, ?hy1063⟩) (by assumption) ?rest1063
  case hi1063 => (simp only [List.getElem?_toArray, List.getElem?_cons_zero, List.getElem?_cons_succ]; rfl)
  case hw1063 => rfl
  case hy1063 => first | (intro wx hSw; obtain ⟨-, ⟨-, a0, a1, a2, a3, -⟩, ⟨-, b0, b1, b2, b3, -⟩⟩ := hSw; go_simp; done) | (intro wx hSw; obtain ⟨-, ⟨-, a0, a1, a2, a3, -⟩, ⟨-, b0, b1, b2, b3, -⟩⟩ := hSw; go_simp; with_reducible rfl)
  simp only [Act.put, List.setIfInBounds_toArray, List.set_cons_zero, List.set_cons_succ]
  refine wpAnyH_take (i := 18) (oi := ?oi1064) (v := ?v1064) ?hi1064 (by kernel_rfl) (by kernel_rfl) (by kernel_rfl) (fun _ _ _ h => h) (Or.inl ⟨?hw1064, ?hy1064⟩) (by assumption) ?rest1064
  case hi1064 => (simp only [List.getElem?_toArray, List.getElem?_cons_zero, List.getElem?_cons_succ]; rfl)
  case hw1064 => rfl
  case hy1064 => first | (intro wx hSw; obtain ⟨-, ⟨-, a0, a1, a2, a3, -⟩, ⟨-, b0, b1, b2, b3, -⟩⟩ := hSw; go_simp; done) | (intro wx hSw; obtain ⟨-, ⟨-, a0, a1, a2, a3, -⟩, ⟨-, b0, b1, b2, b3, -⟩⟩ := hSw; go_simp; with_reducible rfl)
  simp only [Act.put, List.setIfInBounds_toArray, List.set_cons_zero, List.set_cons_succ]
  refine wpAnyH_take (i := 19) (oi := ?oi1065) (v := ?v1065) ?hi1065 (by kernel_rfl) (by kernel_rfl) (by kernel_rfl) (fun _ _ _ h => h) (Or.inl ⟨?hw1065, ?hy1065⟩) (by assumption) ?rest1065
  case hi1065 => (simp only [List.getElem?_toArray, List.getElem?_cons_zero, List.getElem?_cons_succ]; rfl)
  case hw1065 => rfl
  case hy1065 => first | (intro wx hSw; obtain ⟨-, ⟨-, a0, a1, a2, a3, -⟩, ⟨-, b0, b1, b2, b3, -⟩⟩ := hSw; go_simp; done) | (intro wx hSw; obtain ⟨-, ⟨-, a0, a1, a2, a3, -⟩, ⟨-, b0, b1, b2, b3, -⟩⟩ := hSw; go_simp; with_reducible rfl)
  simp only [Act.put, List.setIfInBounds_toArray, List.set_cons_zero, List.set_cons_succ]
  refine wpAnyH_take (i := 20) (oi := ?oi1066) (v := ?v1066) ?hi1066 (by kernel_rfl) (by kernel_rfl) (by kernel_rfl) (fun _ _ _ h => h) (Or.inl ⟨?hw1066, ?hy1066⟩) (by assumption) ?rest1066
  case hi1066 => (simp only [List.getElem?_toArray, List.getElem?_cons_zero, List.getElem?_cons_succ]; rfl)
  case hw1066 => rfl
  case hy1066 => first | (intro wx hSw; obtain ⟨-, ⟨-, a0, a1, a2, a3, -⟩, ⟨-, b0, b1, b2, b3, -⟩⟩ := hSw; go_simp; done) | (intro wx hSw; obtain ⟨-, ⟨-, a0, a1, a2, a3, -⟩, ⟨-, b0, b1, b2, b3, -⟩⟩ := hSw; go_simp; with_reducible rfl)
  simp only [Act.put, List.setIfInBounds_toArray, List.set_cons_zero, List.set_cons_succ]
  refine wpAnyH_take (i := 22) (oi := ?oi1067) (v := ?v1067) ?hi1067 (by kernel_rfl) (by kernel_rfl) (by kernel_rfl) (fun _ _ _ h => h) (Or.inl ⟨?hw1067, ?hy1067⟩) (by assumption) ?rest1067
  case hi1067 => (simp only [List.getElem?_toArray, List.getElem?_cons_zero, List.getElem?_cons_succ]; rfl)
  case hw1067 => rfl
  case hy1067 => first | (intro wx hSw; obtain ⟨-, ⟨-, a0, a1, a2, a3, -⟩, ⟨-, b0, b1, b2, b3, -⟩⟩ := hSw; go_simp; done) | (intro wx hSw; obtain ⟨-, ⟨-, a0, a1, a2, a3, -⟩, ⟨-, b0, b1, b2, b3, -⟩⟩ := hSw; go_simp; with_reducible rfl)
  simp only [Act.put, List.setIfInBounds_toArray, List.set_cons_zero, List.set_cons_succ]
  refine wpAnyH_ready (rs := [21]) (by kernel_rfl) (by simp) ?_
  refine AllReadyH.cons rfl (fun K1068 hK1068 => ?_) AllReadyH.nil
  go_simp
  go_wp2_with (go_at_call 13; refine (unhide QN _).mono ?_; rintro e wc1068 ⟨rfl, hb1068⟩)
  refine hK1068.out _ _ ?hs1068 (fun hHeld1068 => ?_)
  case hs1068 => exact s2_call hHeld hb1068
  clear hHeld
  have hHeld := hHeld1068; clear hHeld1068 hK1068 K1068 hb1068
  refine wpAnyH_ready (rs := [23]) (by kernel_rfl) (by simp) ?_
  refine AllReadyH.cons rfl (fun K1069 hK1069 => ?_) AllReadyH.nil
  go_simp
  go_wp2_with (go_at_call 16; refine (unhide QM _).mono ?_; rintro e wc1069 ⟨rfl, hb1069⟩)
  refine hK1069.out _ _ ?hs1069 (fun hHeld1069 => ?_)
  case hs1069 => exact s2_call hHeld hb1069
  clear hHeld
  have hHeld := hHeld1069; clear hHeld1069 hK1069 K1069 hb1069
  refine wpAnyH_take (i := 24) (oi := ?oi1070) (v := ?v1070) ?hi1070 (by kernel_rfl) (by kernel_rfl) (by kernel_rfl) (fun _ _ _ h => h) (Or.inl ⟨?hw1070, ?hy1070⟩) (by assumption) ?rest1070
  case hi1070 => (simp only [List.getElem?_toArray, List.getElem?_cons_zero, List.getElem?_cons_succ]; rfl)
  case hw1070 => rfl
  case hy1070 => first | (intro wx hSw; obtain ⟨-, ⟨-, a0, a1, a2, a3, -⟩, ⟨-, b0, b1, b2, b3, -⟩⟩ := hSw; go_simp; done) | (intro wx hSw; obtain ⟨-, ⟨-, a0, a1, a2, a3, -⟩, ⟨-, b0, b1, b2, b3, -⟩⟩ := hSw; go_simp; with_reducible rfl)
  simp only [Act.put, List.setIfInBounds_toArray, List.set_cons_zero, List.set_cons_succ]
  refine wpAnyH_take (i := 25) (oi := ?oi1071) (v := ?v1071) ?hi1071 (by kernel_rfl) (by kernel_rfl) (by kernel_rfl) (fun _ _ _ h => h) (Or.inl ⟨?hw1071, ?hy1071⟩) (by assumption) ?rest1071
  case hi1071 => (simp only [List.getElem?_toArray, List.getElem?_cons_zero, List.getElem?_cons_succ]; rfl)
  case hw1071 => rfl
  case hy1071 => first | (intro wx hSw; obtain ⟨-, ⟨-, a0, a1, a2, a3, -⟩, ⟨-, b0, b1, b2, b3, -⟩⟩ := hSw; go_simp; done) | (intro wx hSw; obtain ⟨-, ⟨-, a0, a1, a2, a3, -⟩, ⟨-, b0, b1, b2, b3, -⟩⟩ := hSw; go_simp; with_reducible rfl)
  simp only [Act.put, List.setIfInBounds_toArray, List.set_cons_zero, List.set_cons_succ]
  refine wpAnyH_take (i := 26) (oi := ?oi1072) (v := ?v1072) ?hi1072 (by kernel_rfl) (by kernel_rfl) (by kernel_rfl) (fun _ _ _ h => h) (Or.inl ⟨?hw1072, ?hy1072⟩) (by assumption) ?rest1072
  case hi1072 => (simp only [List.getElem?_toArray, List.getElem?_cons_zero, List.getElem?_cons_succ]; rfl)
  case hw1072 => rfl
  case hy1072 => first | (intro wx hSw; obtain ⟨-, ⟨-, a0, a1, a2, a3, -⟩, ⟨-, b0, b1, b2, b3, -⟩⟩ := hSw; go_simp; done) | (intro wx hSw; obtain ⟨-, ⟨-, a0, a1, a2, a3, -⟩, ⟨-, b0, b1, b2, b3, -⟩⟩ := hSw; go_simp; with_reducible rfl)
  simp only [Act.put, List.setIfInBounds_toArray, List.set_cons_zero, List.set_cons_succ]
  refine wpAnyH_done (by kernel_rfl) ?_ _
  refine NoPanic.normal ?_
  refine hrest _ _ ?_
  have HW := hide hHeld.1
  clear hHeld hrest
  go_wp2_with fail
  go_ret
  exact ⟨rfl, unhide HW⟩

set_option maxHeartbeats 8000000 in
set_option maxRecDepth 100000 in
theorem right_w2 (rk rn rs kind n which v y : Int) (i : Nat) (rt s : ByteArray) (w : World) (hs : s.size ≤ 100) (hrt : rt.size ≤ 100) (hrn : Hid (Is64 rn)) (hrs : Hid (Is64 rs))
    (MX : Hid (∀ W, Calls Try.prog 11 #[.int .i64 kind, .int .i64 n, .string s] W fun e w' => Made e (kind % 6) ∧ Below W.heap.size W w'))
    (WI : Hid (∀ W, Calls Try.prog 14 #[.int .i64 which, .int .i64 4] W fun e w' => e = .returned (.int .i64 2) ∧ w' = W)) (WV : Hid (∀ W, Calls Try.prog 14 #[.int .i64 v, .int .i64 6] W fun e w' => e = .returned (.int .i64 (i : Int)) ∧ w' = W)) (hi : (i : Int) < 6) (hrow : (#[.int .i64 (-1), .int .i64 0, .int .i64 1, .int .i64 6, .int .i64 7, .int .i64 v] : Array Value)[i]? = some (.int .i64 y)) (hy : Hid (Is64 y)) :
    Calls Try.prog 3 #[V rk rn rs rt, .int .i64 kind, .int .i64 n, .string s, .int .i64 which, .int .i64 v] w fun e w' => e = .returned (.bool true) ∧ Below w.heap.size w w' := by
  have hR := hide (four_alloc (.int .i64 rk) (.int .i64 rn) (.int .i64 rs) (.string rt) 23 w)
  have hL := hide ((Below.refl w.heap.size w).alloc (Nat.le_refl _) (.cells #[.int .i64 rk, .int .i64 rn, .int .i64 rs, .string rt] 23))
  have QR := hide (fun W => right_any rk rn rs rt W (by unfold maxLen; omega))
  have QS := hide (fun W => rright_any rk rn rs rt W (by unfold maxLen; omega))
  have QN := hide (fun W => norm_any rk rn rs rt W (unhide hrn) (unhide hrs))
  have QM := hide (fun W => rnorm_any rk rn rs rt W (unhide hrn) (unhide hrs))
  generalize rightB rk rn rs rt = r2 at *
  generalize nN rk rn rs = m2 at *
  generalize nS rk rn rs = c2 at *
  go_enter Try.func3, Try.ntmps3
  go_wp2_with fail
  refine (known_any _).mono ?_
  rintro e w1 ⟨rfl, hb1⟩
  replace hR := hide (four_call (unhide hR) hb1)
  replace hL := hide ((unhide hL).trans (hb1.mono (unhide hL).size))
  clear hb1
  obtain ⟨-, b0, b1, b2, b3, -⟩ := unhide hR
  go_wp2_with fail
  clear b0 b1 b2 b3
  refine (unhide MX _).mono ?_
  rintro e w2 ⟨⟨xn, xs, xt, okx, rfl⟩, hb2⟩
  have OX := hide okx
  replace hR := hide (four_call (unhide hR) hb2)
  replace hL := hide ((unhide hL).trans (hb2.mono (unhide hL).size))
  have hxt := ok_size okx
  have HLT := hide (unhide hR).1
  clear hb2 okx MX
  generalize kind % 6 = kx at *
  have hX := hide (four_alloc (.int .i64 kx) (.int .i64 xn) (.int .i64 xs) (.string xt) 23 w2)
  replace hR := hide (four_more (unhide hR) (.cells #[.int .i64 kx, .int .i64 xn, .int .i64 xs, .string xt] 23))
  replace hL := hide ((unhide hL).alloc (unhide hL).size (.cells #[.int .i64 kx, .int .i64 xn, .int .i64 xs, .string xt] 23))
  have XR := hide (fun W => right_any kx xn xs xt W (by have := ok_size (unhide OX); unfold maxLen; omega))
  have XN := hide (fun W => norm_any kx xn xs xt W (ok_64 (unhide OX)) (ok_s64 (unhide OX)))
  rw [(unhide OX).2.1] at XR
  rw [(ok_normed (unhide OX)).1, (ok_normed (unhide OX)).2] at XN
  have bx : w2.heap.size = w2.heap.size := rfl
  clear bx
  go_wp2_with fail
  rename_i Q1 K1 hrest
  refine wp_region_noPanic ?_
  refine wp_region_held_drew (S := S2 w w2.heap.size w.heap.size (.int .i64 kx) (.int .i64 xn) (.int .i64 xs) (.string xt) (.int .i64 rk) (.int .i64 rn) (.int .i64 rs) (.string rt)) (by kernel_rfl) (s2_mk (unhide hL) (unhide hX) (unhide hR)) (fun hHeld => ?_)
  revert hHeld
  generalize World.drew _ = Wd
  intro hHeld
  refine wpAnyH_take (i := 0) (oi := ?oi1073) (v := ?v1073) ?hi1073 (by kernel_rfl) (by kernel_rfl) (by kernel_rfl) (fun _ _ _ h => h) (Or.inl ⟨?hw1073, ?hy1073⟩) (by assumption) ?rest1073
  case hi1073 => (simp only [List.getElem?_toArray, List.getElem?_cons_zero]; rfl)
  case hw1073 => rfl
  case hy1073 => first | (intro wx hSw; obtain ⟨-, ⟨-, a0, a1, a2, a3, -⟩, ⟨-, b0, b1, b2, b3, -⟩⟩ := hSw; go_simp; done) | (intro wx hSw; obtain ⟨-, ⟨-, a0, a1, a2, a3, -⟩, ⟨-, b0, b1, b2, b3, -⟩⟩ := hSw; go_simp; with_reducible rfl)
  simp only [Act.put, List.setIfInBounds_toArray, List.set_cons_zero, List.set_cons_succ]
  refine wpAnyH_ready (rs := [1]) (by kernel_rfl) (by simp) ?_
  refine AllReadyH.cons rfl (fun K1074 hK1074 => ?_) AllReadyH.nil
  go_simp
  go_wp2_with (go_at_call 12; refine (unhide XR _).mono ?_; rintro e wc1074 ⟨rfl, hb1074⟩)
  refine hK1074.out _ _ ?hs1074 (fun hHeld1074 => ?_)
  case hs1074 => exact s2_call hHeld hb1074
  clear hHeld
  have hHeld := hHeld1074; clear hHeld1074 hK1074 K1074 hb1074
  refine wpAnyH_take (i := 2) (oi := ?oi1075) (v := ?v1075) ?hi1075 (by kernel_rfl) (by kernel_rfl) (by kernel_rfl) (fun _ _ _ h => h) (Or.inl ⟨?hw1075, ?hy1075⟩) (by assumption) ?rest1075
  case hi1075 => (simp only [List.getElem?_toArray, List.getElem?_cons_zero, List.getElem?_cons_succ]; rfl)
  case hw1075 => rfl
  case hy1075 => first | (intro wx hSw; obtain ⟨-, ⟨-, a0, a1, a2, a3, -⟩, ⟨-, b0, b1, b2, b3, -⟩⟩ := hSw; go_simp; done) | (intro wx hSw; obtain ⟨-, ⟨-, a0, a1, a2, a3, -⟩, ⟨-, b0, b1, b2, b3, -⟩⟩ := hSw; go_simp; with_reducible rfl)
  simp only [Act.put, List.setIfInBounds_toArray, List.set_cons_zero, List.set_cons_succ]
  refine wpAnyH_take (i := 3) (oi := ?oi1076) (v := ?v1076) ?hi1076 (by kernel_rfl) (by kernel_rfl) (by kernel_rfl) (fun _ _ _ h => h) (Or.inl ⟨?hw1076, ?hy1076⟩) (by assumption) ?rest1076
  case hi1076 => (simp only [List.getElem?_toArray, List.getElem?_cons_zero, List.getElem?_cons_succ]; rfl)
  case hw1076 => rfl
  case hy1076 => first | (intro wx hSw; obtain ⟨-, ⟨-, a0, a1, a2, a3, -⟩, ⟨-, b0, b1, b2, b3, -⟩⟩ := hSw; go_simp; done) | (intro wx hSw; obtain ⟨-, ⟨-, a0, a1, a2, a3, -⟩, ⟨-, b0, b1, b2, b3, -⟩⟩ := hSw; go_simp; with_reducible rfl)
  simp only [Act.put, List.setIfInBounds_toArray, List.set_cons_zero, List.set_cons_succ]
  refine wpAnyH_take (i := 4) (oi := ?oi1077) (v := ?v1077) ?hi1077 (by kernel_rfl) (by kernel_rfl) (by kernel_rfl) (fun _ _ _ h => h) (Or.inl ⟨?hw1077, ?hy1077⟩) (by assumption) ?rest1077
  case hi1077 => (simp only [List.getElem?_toArray, List.getElem?_cons_zero, List.getElem?_cons_succ]; rfl)
  case hw1077 => rfl
  case hy1077 => first | (intro wx hSw; obtain ⟨-, ⟨-, a0, a1, a2, a3, -⟩, ⟨-, b0, b1, b2, b3, -⟩⟩ := hSw; go_simp; done) | (intro wx hSw; obtain ⟨-, ⟨-, a0, a1, a2, a3, -⟩, ⟨-, b0, b1, b2, b3, -⟩⟩ := hSw; go_simp; with_reducible rfl)
  simp only [Act.put, List.setIfInBounds_toArray, List.set_cons_zero, List.set_cons_succ]
  refine wpAnyH_take (i := 6) (oi := ?oi1078) (v := ?v1078) ?hi1078 (by kernel_rfl) (by kernel_rfl) (by kernel_rfl) (fun _ _ _ h => h) (Or.inl ⟨?hw1078, ?hy1078⟩) (by assumption) ?rest1078
  case hi1078 => (simp only [List.getElem?_toArray, List.getElem?_cons_zero, List.getElem?_cons_succ]; rfl)
  case hw1078 => rfl
  case hy1078 => first | (intro wx hSw; obtain ⟨-, ⟨-, a0, a1, a2, a3, -⟩, ⟨-, b0, b1, b2, b3, -⟩⟩ := hSw; go_simp; done) | (intro wx hSw; obtain ⟨-, ⟨-, a0, a1, a2, a3, -⟩, ⟨-, b0, b1, b2, b3, -⟩⟩ := hSw; go_simp; with_reducible rfl)
  simp only [Act.put, List.setIfInBounds_toArray, List.set_cons_zero, List.set_cons_succ]
  refine wpAnyH_ready (rs := [5]) (by kernel_rfl) (by simp) ?_
  refine AllReadyH.cons rfl (fun K1079 hK1079 => ?_) AllReadyH.nil
  go_simp
  go_wp2_with (go_at_call 13; refine (unhide XN _).mono ?_; rintro e wc1079 ⟨rfl, hb1079⟩)
  refine hK1079.out _ _ ?hs1079 (fun hHeld1079 => ?_)
  case hs1079 => exact s2_call hHeld hb1079
  clear hHeld
  have hHeld := hHeld1079; clear hHeld1079 hK1079 K1079 hb1079
  refine wpAnyH_take (i := 7) (oi := ?oi1080) (v := ?v1080) ?hi1080 (by kernel_rfl) (by kernel_rfl) (by kernel_rfl) (fun _ _ _ h => h) (Or.inl ⟨?hw1080, ?hy1080⟩) (by assumption) ?rest1080
  case hi1080 => (simp only [List.getElem?_toArray, List.getElem?_cons_zero, List.getElem?_cons_succ]; rfl)
  case hw1080 => rfl
  case hy1080 => first | (intro wx hSw; obtain ⟨-, ⟨-, a0, a1, a2, a3, -⟩, ⟨-, b0, b1, b2, b3, -⟩⟩ := hSw; go_simp; done) | (intro wx hSw; obtain ⟨-, ⟨-, a0, a1, a2, a3, -⟩, ⟨-, b0, b1, b2, b3, -⟩⟩ := hSw; go_simp; with_reducible rfl)
  simp only [Act.put, List.setIfInBounds_toArray, List.set_cons_zero, List.set_cons_succ]
  refine wpAnyH_take (i := 8) (oi := ?oi1081) (v := ?v1081) ?hi1081 (by kernel_rfl) (by kernel_rfl) (by kernel_rfl) (fun _ _ _ h => h) (Or.inl ⟨?hw1081, ?hy1081⟩) (by assumption) ?rest1081
  case hi1081 => (simp only [List.getElem?_toArray, List.getElem?_cons_zero, List.getElem?_cons_succ]; rfl)
  case hw1081 => rfl
  case hy1081 => first | (intro wx hSw; obtain ⟨-, ⟨-, a0, a1, a2, a3, -⟩, ⟨-, b0, b1, b2, b3, -⟩⟩ := hSw; go_simp; done) | (intro wx hSw; obtain ⟨-, ⟨-, a0, a1, a2, a3, -⟩, ⟨-, b0, b1, b2, b3, -⟩⟩ := hSw; go_simp; with_reducible rfl)
  simp only [Act.put, List.setIfInBounds_toArray, List.set_cons_zero, List.set_cons_succ]
  refine wpAnyH_done (by kernel_rfl) ?_ _
  refine NoPanic.normal ?_
  refine hrest _ _ ?_
  clear hrest hX hR hL XR XN
  have hL := hide hHeld.1
  have hX := hide hHeld.2.1
  have hR := hide hHeld.2.2
  clear hHeld
  rename_i W6
  go_wp2_with fail
  refine (unhide WI _).mono ?_
  rintro e wq ⟨rfl, rfl⟩
  replace hX := hide (four_more (unhide hX) (.cells (rowR2 v) 3))
  replace hR := hide (four_more (unhide hR) (.cells (rowR2 v) 3))
  replace hL := hide ((unhide hL).alloc (unhide hL).size (.cells (rowR2 v) 3))
  obtain ⟨-, a0, a1, a2, a3, f0, f1, f2, f3⟩ := unhide hX
  go_wp2_with (go_at_call 14; refine (unhide WV _).mono ?_; rintro e wv ⟨rfl, rfl⟩)
  clear a0 a1 a2 a3 f0 f1 f2 f3
  replace hX := hide (four_set2 (unhide hX) (.int .i64 y))
  replace hR := hide (four_other0 (i := 2) (show w2.heap.size ≠ w.heap.size from Nat.ne_of_gt (unhide HLT)) (unhide hR) (.int .i64 y))
  replace hL := hide (below_set0 (c := w2.heap.size) (i := 2) (unhide hL) (Nat.le_of_lt (unhide HLT)) (.int .i64 y))
  have XR := hide (fun W => right_any kx xn y xt W (by unfold maxLen; omega))
  have XS := hide (fun W => rright_any kx xn y xt W (by unfold maxLen; omega))
  have XN := hide (fun W => norm_any kx xn y xt W (ok_64 (unhide OX)) (unhide hy))
  have XM := hide (fun W => rnorm_any kx xn y xt W (ok_64 (unhide OX)) (unhide hy))
  generalize rightB kx xn y xt = r1 at *
  generalize nN kx xn y = m1 at *
  generalize nS kx xn y = c1 at *
  rename_i hrest
  refine wp_region_noPanic ?_
  refine wp_region_held_drew (S := S2 w w2.heap.size w.heap.size (.int .i64 kx) (.int .i64 xn) (.int .i64 y) (.string xt) (.int .i64 rk) (.int .i64 rn) (.int .i64 rs) (.string rt)) (by kernel_rfl) (s2_mk (unhide hL) (unhide hX) (unhide hR)) (fun hHeld => ?_)
  revert hHeld
  generalize World.drew _ = Wd
  intro hHeld
  refine wpAnyH_take (i := 0) (oi := ?oi1082) (v := ?v1082) ?hi1082 (by kernel_rfl) (by kernel_rfl) (by kernel_rfl) (fun _ _ _ h => h) (Or.inl ⟨?hw1082, ?hy1082⟩) (by assumption) ?rest1082
  case hi1082 => (simp only [List.getElem?_toArray, List.getElem?_cons_zero]; rfl)
  case hw1082 => rfl
  case hy1082 => first | (intro wx hSw; obtain ⟨-, ⟨-, a0, a1, a2, a3, -⟩, ⟨-, b0, b1, b2, b3, -⟩⟩ := hSw; go_simp; done) | (intro wx hSw; obtain ⟨-, ⟨-, a0, a1, a2, a3, -⟩, ⟨-, b0, b1, b2, b3, -⟩⟩ := hSw; go_simp; with_reducible rfl)
  simp only [Act.put, List.setIfInBounds_toArray, List.set_cons_zero, List.set_cons_succ]
  refine wpAnyH_take (i := 2) (oi := ?oi1083) (v := ?v1083) ?hi1083 (by kernel_rfl) (by kernel_rfl) (by kernel_rfl) (fun _ _ _ h => h) (Or.inl ⟨?hw1083, ?hy1083⟩) (by assumption) ?rest1083
  case hi1083 => (simp only [List.getElem?_toArray, List.getElem?_cons_zero, List.getElem?_cons_succ]; rfl)
  case hw1083 => rfl
  case hy1083 => first | (intro wx hSw; obtain ⟨-, ⟨-, a0, a1, a2, a3, -⟩, ⟨-, b0, b1, b2, b3, -⟩⟩ := hSw; go_simp; done) | (intro wx hSw; obtain ⟨-, ⟨-, a0, a1, a2, a3, -⟩, ⟨-, b0, b1, b2, b3, -⟩⟩ := hSw; go_simp; with_reducible rfl)
  simp only [Act.put, List.setIfInBounds_toArray, List.set_cons_zero, List.set_cons_succ]
  refine wpAnyH_ready (rs := [1]) (by kernel_rfl) (by simp) ?_
  refine AllReadyH.cons rfl (fun K1084 hK1084 => ?_) AllReadyH.nil
  go_simp
  go_wp2_with (go_at_call 12; refine (unhide XR _).mono ?_; rintro e wc1084 ⟨rfl, hb1084⟩)
  refine hK1084.out _ _ ?hs1084 (fun hHeld1084 => ?_)
  case hs1084 => exact s2_call hHeld hb1084
  clear hHeld
  have hHeld := hHeld1084; clear hHeld1084 hK1084 K1084 hb1084
  refine wpAnyH_ready (rs := [3]) (by kernel_rfl) (by simp) ?_
  refine AllReadyH.cons rfl (fun K1085 hK1085 => ?_) AllReadyH.nil
  go_simp
  go_wp2_with (go_at_call 15; refine (unhide XS _).mono ?_; rintro e wc1085 ⟨rfl, hb1085⟩)
  refine hK1085.out _ _ ?hs1085 (fun hHeld1085 => ?_)
  case hs1085 => exact s2_call hHeld hb1085
  clear hHeld
  have hHeld := hHeld1085; clear hHeld1085 hK1085 K1085 hb1085
  refine wpAnyH_take (i := 4) (oi := ?oi1086) (v := ?v1086) ?hi1086 (by kernel_rfl) (by kernel_rfl) (by kernel_rfl) (fun _ _ _ h => h) (Or.inl ⟨?hw1086, ?hy1086⟩) (by assumption) ?rest1086
  case hi1086 => (simp only [List.getElem?_toArray, List.getElem?_cons_zero, List.getElem?_cons_succ]; rfl)
  case hw1086 => rfl
  case hy1086 => first | (intro wx hSw; obtain ⟨-, ⟨-, a0, a1, a2, a3, -⟩, ⟨-, b0, b1, b2, b3, -⟩⟩ := hSw; go_simp; done) | (intro wx hSw; obtain ⟨-, ⟨-, a0, a1, a2, a3, -⟩, ⟨-, b0, b1, b2, b3, -⟩⟩ := hSw; go_simp; with_reducible rfl)
  simp only [Act.put, List.setIfInBounds_toArray, List.set_cons_zero, List.set_cons_succ]
  refine wpAnyH_take (i := 5) (oi := ?oi1087) (v := ?v1087) ?hi1087 (by kernel_rfl) (by kernel_rfl) (by kernel_rfl) (fun _ _ _ h => h) (Or.inl ⟨?hw1087, ?hy1087⟩) (by assumption) ?rest1087
  case hi1087 => (simp only [List.getElem?_toArray, List.getElem?_cons_zero, List.getElem?_cons_succ]; rfl)
  case hw1087 => rfl
  case hy1087 => first | (intro wx hSw; obtain ⟨-, ⟨-, a0, a1, a2, a3, -⟩, ⟨-, b0, b1, b2, b3, -⟩⟩ := hSw; go_simp; done) | (intro wx hSw; obtain ⟨-, ⟨-, a0, a1, a2, a3, -⟩, ⟨-, b0, b1, b2, b3, -⟩⟩ := hSw; go_simp; with_reducible rfl)
  simp only [Act.put, List.setIfInBounds_toArray, List.set_cons_zero, List.set_cons_succ]
  refine wpAnyH_take (i := 6) (oi := ?oi1088) (v := ?v1088) ?hi1088 (by kernel_rfl) (by kernel_rfl) (by kernel_rfl) (fun _ _ _ h => h) (Or.inl ⟨?hw1088, ?hy1088⟩) (by assumption) ?rest1088
  case hi1088 => (simp only [List.getElem?_toArray, List.getElem?_cons_zero, List.getElem?_cons_succ]; rfl)
  case hw1088 => rfl
  case hy1088 => first | (intro wx hSw; obtain ⟨-, ⟨-, a0, a1, a2, a3, -⟩, ⟨-, b0, b1, b2, b3, -⟩⟩ := hSw; go_simp; done) | (intro wx hSw; obtain ⟨-, ⟨-, a0, a1, a2, a3, -⟩, ⟨-, b0, b1, b2, b3, -⟩⟩ := hSw; go_simp; with_reducible rfl)
  simp only [Act.put, List.setIfInBounds_toArray, List.set_cons_zero, List.set_cons_succ]
  refine wpAnyH_take (i := 8) (oi := ?oi1089) (v := ?v1089) ?hi1089 (by kernel_rfl) (by kernel_rfl) (by kernel_rfl) (fun _ _ _ h => h) (Or.inl ⟨?hw1089, ?hy1089⟩) (by assumption) ?rest1089
  case hi1089 => (simp only [List.getElem?_toArray, List.getElem?_cons_zero, List.getElem?_cons_succ]; rfl)
  case hw1089 => rfl
  case hy1089 => first | (intro wx hSw; obtain ⟨-, ⟨-, a0, a1, a2, a3, -⟩, ⟨-, b0, b1, b2, b3, -⟩⟩ := hSw; go_simp; done) | (intro wx hSw; obtain ⟨-, ⟨-, a0, a1, a2, a3, -⟩, ⟨-, b0, b1, b2, b3, -⟩⟩ := hSw; go_simp; with_reducible rfl)
  simp only [Act.put, List.setIfInBounds_toArray, List.set_cons_zero, List.set_cons_succ]
  refine wpAnyH_ready (rs := [7]) (by kernel_rfl) (by simp) ?_
  refine AllReadyH.cons rfl (fun K1090 hK1090 => ?_) AllReadyH.nil
  go_simp
  go_wp2_with (go_at_call 12; refine (unhide QR _).mono ?_; rintro e wc1090 ⟨rfl, hb1090⟩)
  refine hK1090.out _ _ ?hs1090 (fun hHeld1090 => ?_)
  case hs1090 => exact s2_call hHeld hb1090
  clear hHeld
  have hHeld := hHeld1090; clear hHeld1090 hK1090 K1090 hb1090
  refine wpAnyH_ready (rs := [9]) (by kernel_rfl) (by simp) ?_
  refine AllReadyH.cons rfl (fun K1091 hK1091 => ?_) AllReadyH.nil
  go_simp
  go_wp2_with (go_at_call 15; refine (unhide QS _).mono ?_; rintro e wc1091 ⟨rfl, hb1091⟩)
  refine hK1091.out _ _ ?hs1091 (fun hHeld1091 => ?_)
  case hs1091 => exact s2_call hHeld hb1091
  clear hHeld
  have hHeld := hHeld1091; clear hHeld1091 hK1091 K1091 hb1091
  refine wpAnyH_take (i := 10) (oi := ?oi1092) (v := ?v1092) ?hi1092 (by kernel_rfl) (by kernel_rfl) (by kernel_rfl) (fun _ _ _ h => h) (Or.inl ⟨?hw1092, ?hy1092⟩) (by assumption) ?rest1092
  case hi1092 => (simp only [List.getElem?_toArray, List.getElem?_cons_zero, List.getElem?_cons_succ]; rfl)
  case hw1092 => rfl
  case hy1092 => first | (intro wx hSw; obtain ⟨-, ⟨-, a0, a1, a2, a3, -⟩, ⟨-, b0, b1, b2, b3, -⟩⟩ := hSw; go_simp; done) | (intro wx hSw; obtain ⟨-, ⟨-, a0, a1, a2, a3, -⟩, ⟨-, b0, b1, b2, b3, -⟩⟩ := hSw; go_simp; with_reducible rfl)
  simp only [Act.put, List.setIfInBounds_toArray, List.set_cons_zero, List.set_cons_succ]
  refine wpAnyH_take (i := 11) (oi := ?oi1093) (v := ?v1093) ?hi1093 (by kernel_rfl) (by kernel_rfl) (by kernel_rfl) (fun _ _ _ h => h) (Or.inl ⟨?hw1093, ?hy1093⟩) (by assumption) ?rest1093
  case hi1093 => (simp only [List.getElem?_toArray, List.getElem?_cons_zero, List.getElem?_cons_succ]; rfl)
  case hw1093 => rfl
  case hy1093 => first | (intro wx hSw; obtain ⟨-, ⟨-, a0, a1, a2, a3, -⟩, ⟨-, b0, b1, b2, b3, -⟩⟩ := hSw; go_simp; done) | (intro wx hSw; obtain ⟨-, ⟨-, a0, a1, a2, a3, -⟩, ⟨-, b0, b1, b2, b3, -⟩⟩ := hSw; go_simp; with_reducible rfl)
  simp only [Act.put, List.setIfInBounds_toArray, List.set_cons_zero, List.set_cons_succ]
  refine wpAnyH_take (i := 12) (oi := ?oi1094) (v := ?v1094) ?hi1094 (by kernel_rfl) (by kernel_rfl) (by kernel_rfl) (fun _ _ _ h => h) (Or.inl ⟨?hw1094, ?hy1094⟩) (by assumption) ?rest1094
  case hi1094 => (simp only [List.getElem?_toArray, List.getElem?_cons_zero, List.getElem?_cons_succ]; rfl)
  case hw1094 => rfl
  case hy1094 => first | (intro wx hSw; obtain ⟨-, ⟨-, a0, a1, a2, a3, -⟩, ⟨-, b0, b1, b2, b3, -⟩⟩ := hSw; go_simp; done) | (intro wx hSw; obtain ⟨-, ⟨-, a0, a1, a2, a3, -⟩, ⟨-, b0, b1, b2, b3, -⟩⟩ := hSw; go_simp; with_reducible rfl)
  simp only [Act.put, List.setIfInBounds_toArray, List.set_cons_zero, List.set_cons_succ]
  refine wpAnyH_take (i := 13) (oi := ?oi1095) (v := ?v1095) ?hi1095 (by kernel_rfl) (by kernel_rfl) (by kernel_rfl) (fun _ _ _ h => h) (Or.inl ⟨?hw1095, ?hy1095⟩) (by assumption) ?rest1095
  case hi1095 => (simp only [List.getElem?_toArray, List.getElem?_cons_zero, List.getElem?_cons_succ]; rfl)
  case hw1095 => rfl
  case hy1095 => first | (intro wx hSw; obtain ⟨-, ⟨-, a0, a1, a2, a3, -⟩, ⟨-, b0, b1, b2, b3, -⟩⟩ := hSw; go_simp; done) | (intro wx hSw; obtain ⟨-, ⟨-, a0, a1, a2, a3, -⟩, ⟨-, b0, b1, b2, b3, -⟩⟩ := hSw; go_simp; with_reducible rfl)
  simp only [Act.put, List.setIfInBounds_toArray, List.set_cons_zero, List.set_cons_succ]
  refine wpAnyH_take (i := 15) (oi := ?oi1096) (v := ?v1096) ?hi1096 (by kernel_rfl) (by kernel_rfl) (by kernel_rfl) (fun _ _ _ h => h) (Or.inl ⟨?hw1096, ?hy1096⟩) (by assumption) ?rest1096
  case hi1096 => (simp only [List.getElem?_toArray, List.getElem?_cons_zero, List.getElem?_cons_succ]; rfl)
  case hw1096 => rfl
  case hy1096 => first | (intro wx hSw; obtain ⟨-, ⟨-, a0, a1, a2, a3, -⟩, ⟨-, b0, b1, b2, b3, -⟩⟩ := hSw; go_simp; done) | (intro wx hSw; obtain ⟨-, ⟨-, a0, a1, a2, a3, -⟩, ⟨-, b0, b1, b2, b3, -⟩⟩ := hSw; go_simp; with_reducible rfl)
  simp only [Act.put, List.setIfInBounds_toArray, List.set_cons_zero, List.set_cons_succ]
  refine wpAnyH_ready (rs := [14]) (by kernel_rfl) (by simp) ?_
  refine AllReadyH.cons rfl (fun K1097 hK1097 => ?_) AllReadyH.nil
  go_simp
  go_wp2_with (go_at_call 13; refine (unhide XN _).mono ?_; rintro e wc1097 ⟨rfl, hb1097⟩)
  refine hK1097.out _ _ ?hs1097 (fun hHeld1097 => ?_)
  case hs1097 => exact s2_call hHeld hb1097
  clear hHeld
  have hHeld := hHeld1097; clear hHeld1097 hK1097 K1097 hb1097
  refine wpAnyH_ready (rs := [16]) (by kernel_rfl) (by simp) ?_
  refine AllReadyH.cons rfl (fun K1098 hK1098 => ?_) AllReadyH.nil
  go_simp
  go_wp2_with (go_at_call 16; refine (unhide XM _).mono ?_; rintro e wc1098 ⟨rfl, hb1098⟩)
  refine hK1098.out _ _ ?hs1098 (fun hHeld1098 => ?_)
  case hs1098 => exact s2_call hHeld hb1098
  clear hHeld
  have hHeld := hHeld1098; clear hHeld1098 hK1098 K1098 hb1098
  refine wpAnyH_take (i := 17) (oi := ?oi1099) (v := ?v1099) ?hi1099 (by kernel_rfl) (by kernel_rfl) (by kernel_rfl) (fun _ _ _ h => h) (Or.inl ⟨?hw1099, ?hy1099⟩) (by assumption) ?rest1099
  case hi1099 => (simp only [List.getElem?_toArray, List.getElem?_cons_zero, List.getElem?_cons_succ]; rfl)
  case hw1099 => rfl
  case hy1099 => first | (intro wx hSw; obtain ⟨-, ⟨-, a0, a1, a2, a3, -⟩, ⟨-, b0, b1, b2, b3, -⟩⟩ := hSw; go_simp; done) | (intro wx hSw; obtain ⟨-, ⟨-, a0, a1, a2, a3, -⟩, ⟨-, b0, b1, b2, b3, -⟩⟩ := hSw; go_simp; with_reducible rfl)
  simp only [Act.put, List.setIfInBounds_toArray, List.set_cons_zero, List.set_cons_succ]
  refine wpAnyH_take (i := 18) (oi := ?oi1100) (v := ?v1100) ?hi1100 (by kernel_rfl) (by kernel_rfl) (by kernel_rfl) (fun _ _ _ h => h) (Or.inl ⟨?hw1100, ?hy1100⟩) (by assumption) ?rest1100
  case hi1100 => (simp only [List.getElem?_toArray, List.getElem?_cons_zero, List.getElem?_cons_succ]; rfl)
  case hw1100 => rfl
  case hy1100 => first | (intro wx hSw; obtain ⟨-, ⟨-, a0, a1, a2, a3, -⟩, ⟨-, b0, b1, b2, b3, -⟩⟩ := hSw; go_simp; done) | (intro wx hSw; obtain ⟨-, ⟨-, a0, a1, a2, a3, -⟩, ⟨-, b0, b1, b2, b3, -⟩⟩ := hSw; go_simp; with_reducible rfl)
  simp only [Act.put, List.setIfInBounds_toArray, List.set_cons_zero, List.set_cons_succ]
  refine wpAnyH_take (i := 19) (oi := ?oi1101) (v := ?v1101) ?hi1101 (by kernel_rfl) (by kernel_rfl) (by kernel_rfl) (fun _ _ _ h => h) (Or.inl ⟨?hw1101, ?hy1101⟩) (by assumption) ?rest1101
  case hi1101 => (simp only [List.getElem?_toArray, List.getElem?_cons_zero, List.getElem?_cons_succ]; rfl)
  case hw1101 => rfl
  case hy1101 => first | (intro wx hSw; obtain ⟨-, ⟨-, a0, a1, a2, a3, -⟩, ⟨-, b0, b1, b2, b3, -⟩⟩ := hSw; go_simp; done) | (intro wx hSw; obtain ⟨-, ⟨-, a0, a1, a2, a3, -⟩, ⟨-, b0, b1, b2, b3, -⟩⟩ := hSw; go_simp; with_reducible rfl)
  simp only [Act.put, List.setIfInBounds_toArray, List.set_cons_zero, List.set_cons_succ]
  refine wpAnyH_take (i := 20) (oi := ?oi1102) (v := ?v1102) ?hi1102 (by kernel_rfl) (by kernel_rfl) (by kernel_rfl) (fun _ _ _ h => h) (Or.inl ⟨?hw1102, ?hy1102⟩) (by assumption) ?rest1102
  case hi1102 => (simp only [List.getElem?_toArray, List.getElem?_cons_zero, List.getElem?_cons_succ]; rfl)
  case hw1102 => rfl
  case hy1102 => first | (intro wx hSw; obtain ⟨-, ⟨-, a0, a1, a2, a3, -⟩, ⟨-, b0, b1, b2, b3, -⟩⟩ := hSw; go_simp; done) | (intro wx hSw; obtain ⟨-, ⟨-, a0, a1, a2, a3, -⟩, ⟨-, b0, b1, b2, b3, -⟩⟩ := hSw; go_simp; with_reducible rfl)
  simp only [Act.put, List.setIfInBounds_toArray, List.set_cons_zero, List.set_cons_succ]
  refine wpAnyH_take (i := 22) (oi := ?oi1103) (v := ?v1103) ?hi1103 (by kernel_rfl) (by kernel_rfl) (by kernel_rfl) (fun _ _ _ h => h) (Or.inl ⟨?hw1103, ?hy1103⟩) (by assumption) ?rest1103
  case hi1103 => (simp only [List.getElem?_toArray, List.getElem?_cons_zero, List.getElem?_cons_succ]; rfl)
  case hw1103 => rfl
  case hy1103 => first | (intro wx hSw; obtain ⟨-, ⟨-, a0, a1, a2, a3, -⟩, ⟨-, b0, b1, b2, b3, -⟩⟩ := hSw; go_simp; done) | (intro wx hSw; obtain ⟨-, ⟨-, a0, a1, a2, a3, -⟩, ⟨-, b0, b1, b2, b3, -⟩⟩ := hSw; go_simp; with_reducible rfl)
  simp only [Act.put, List.setIfInBounds_toArray, List.set_cons_zero, List.set_cons_succ]
  refine wpAnyH_ready (rs := [21]) (by kernel_rfl) (by simp) ?_
  refine AllReadyH.cons rfl (fun K1104 hK1104 => ?_) AllReadyH.nil
  go_simp
  go_wp2_with (go_at_call 13; refine (unhide QN _).mono ?_; rintro e wc1104 ⟨rfl, hb1104⟩)
  refine hK1104.out _ _ ?hs1104 (fun hHeld1104 => ?_)
  case hs1104 => exact s2_call hHeld hb1104
  clear hHeld
  have hHeld := hHeld1104; clear hHeld1104 hK1104 K1104 hb1104
  refine wpAnyH_ready (rs := [23]) (by kernel_rfl) (by simp) ?_
  refine AllReadyH.cons rfl (fun K1105 hK1105 => ?_) AllReadyH.nil
  go_simp
  go_wp2_with (go_at_call 16; refine (unhide QM _).mono ?_; rintro e wc1105 ⟨rfl, hb1105⟩)
  refine hK1105.out _ _ ?hs1105 (fun hHeld1105 => ?_)
  case hs1105 => exact s2_call hHeld hb1105
  clear hHeld
  have hHeld := hHeld1105; clear hHeld1105 hK1105 K1105 hb1105
  refine wpAnyH_take (i := 24) (oi := ?oi1106) (v := ?v1106) ?hi1106 (by kernel_rfl) (by kernel_rfl) (by kernel_rfl) (fun _ _ _ h => h) (Or.inl ⟨?hw1106, ?hy1106⟩) (by assumption) ?rest1106
  case hi1106 => (simp only [List.getElem?_toArray, List.getElem?_cons_zero, List.getElem?_cons_succ]; rfl)
  case hw1106 => rfl
  case hy1106 => first | (intro wx hSw; obtain ⟨-, ⟨-, a0, a1, a2, a3, -⟩, ⟨-, b0, b1, b2, b3, -⟩⟩ := hSw; go_simp; done) | (intro wx hSw; obtain ⟨-, ⟨-, a0, a1, a2, a3, -⟩, ⟨-, b0, b1, b2, b3, -⟩⟩ := hSw; go_simp; with_reducible rfl)
  simp only [Act.put, List.setIfInBounds_toArray, List.set_cons_zero, List.set_cons_succ]
  refine wpAnyH_take (i := 25) (oi := ?oi1107) (v := ?v1107) ?hi1107 (by kernel_rfl) (by kernel_rfl) (by kernel_rfl) (fun _ _ _ h => h) (Or.inl ⟨?hw1107, ?hy1107⟩) (by assumption) ?rest1107
  case hi1107 => (simp only [List.getElem?_toArray, List.getElem?_cons_zero, List.getElem?_cons_succ]; rfl)
  case hw1107 => rfl
  case hy1107 => first | (intro wx hSw; obtain ⟨-, ⟨-, a0, a1, a2, a3, -⟩, ⟨-, b0, b1, b2, b3, -⟩⟩ := hSw; go_simp; done) | (intro wx hSw; obtain ⟨-, ⟨-, a0, a1, a2, a3, -⟩, ⟨-, b0, b1, b2, b3, -⟩⟩ := hSw; go_simp; with_reducible rfl)
  simp only [Act.put, List.setIfInBounds_toArray, List.set_cons_zero, List.set_cons_succ]
  refine wpAnyH_take (i := 26) (oi := ?oi1108) (v := ?v1108) ?hi1108 (by kernel_rfl) (by kernel_rfl) (by kernel_rfl) (fun _ _ _ h => h) (Or.inl ⟨?hw1108, ?hy1108⟩) (by assumption) ?rest1108
  case hi1108 => (simp only [List.getElem?_toArray, List.getElem?_cons_zero, List.getElem?_cons_succ]; rfl)
  case hw1108 => rfl
  case hy1108 => first | (intro wx hSw; obtain ⟨-, ⟨-, a0, a1, a2, a3, -⟩, ⟨-, b0, b1, b2, b3, -⟩⟩ := hSw; go_simp; done) | (intro wx hSw; obtain ⟨-, ⟨-, a0, a1, a2, a3, -⟩, ⟨-, b0, b1, b2, b3, -⟩⟩ := hSw; go_simp; with_reducible rfl)
  simp only [Act.put, List.setIfInBounds_toArray, List.set_cons_zero, List.set_cons_succ]
  refine wpAnyH_done (by kernel_rfl) ?_ _
  refine NoPanic.normal ?_
  refine hrest _ _ ?_
  have HW := hide hHeld.1
  clear hHeld hrest
  go_wp2_with fail
  go_ret
  exact ⟨rfl, unhide HW⟩

set_option maxHeartbeats 8000000 in
set_option maxRecDepth 100000 in
theorem right_w3 (rk rn rs kind n which v y : Int) (i : Nat) (rt s : ByteArray) (w : World) (hs : s.size ≤ 100) (hrt : rt.size ≤ 100) (hrn : Hid (Is64 rn)) (hrs : Hid (Is64 rs))
    (MX : Hid (∀ W, Calls Try.prog 11 #[.int .i64 kind, .int .i64 n, .string s] W fun e w' => Made e (kind % 6) ∧ Below W.heap.size W w'))
    (WI : Hid (∀ W, Calls Try.prog 14 #[.int .i64 which, .int .i64 4] W fun e w' => e = .returned (.int .i64 3) ∧ w' = W)) :
    Calls Try.prog 3 #[V rk rn rs rt, .int .i64 kind, .int .i64 n, .string s, .int .i64 which, .int .i64 v] w fun e w' => e = .returned (.bool true) ∧ Below w.heap.size w w' := by
  have hR := hide (four_alloc (.int .i64 rk) (.int .i64 rn) (.int .i64 rs) (.string rt) 23 w)
  have hL := hide ((Below.refl w.heap.size w).alloc (Nat.le_refl _) (.cells #[.int .i64 rk, .int .i64 rn, .int .i64 rs, .string rt] 23))
  have QR := hide (fun W => right_any rk rn rs rt W (by unfold maxLen; omega))
  have QS := hide (fun W => rright_any rk rn rs rt W (by unfold maxLen; omega))
  have QN := hide (fun W => norm_any rk rn rs rt W (unhide hrn) (unhide hrs))
  have QM := hide (fun W => rnorm_any rk rn rs rt W (unhide hrn) (unhide hrs))
  generalize rightB rk rn rs rt = r2 at *
  generalize nN rk rn rs = m2 at *
  generalize nS rk rn rs = c2 at *
  go_enter Try.func3, Try.ntmps3
  go_wp2_with fail
  refine (known_any _).mono ?_
  rintro e w1 ⟨rfl, hb1⟩
  replace hR := hide (four_call (unhide hR) hb1)
  replace hL := hide ((unhide hL).trans (hb1.mono (unhide hL).size))
  clear hb1
  obtain ⟨-, b0, b1, b2, b3, -⟩ := unhide hR
  go_wp2_with fail
  clear b0 b1 b2 b3
  refine (unhide MX _).mono ?_
  rintro e w2 ⟨⟨xn, xs, xt, okx, rfl⟩, hb2⟩
  have OX := hide okx
  replace hR := hide (four_call (unhide hR) hb2)
  replace hL := hide ((unhide hL).trans (hb2.mono (unhide hL).size))
  have hxt := ok_size okx
  have HLT := hide (unhide hR).1
  clear hb2 okx MX
  generalize kind % 6 = kx at *
  have hX := hide (four_alloc (.int .i64 kx) (.int .i64 xn) (.int .i64 xs) (.string xt) 23 w2)
  replace hR := hide (four_more (unhide hR) (.cells #[.int .i64 kx, .int .i64 xn, .int .i64 xs, .string xt] 23))
  replace hL := hide ((unhide hL).alloc (unhide hL).size (.cells #[.int .i64 kx, .int .i64 xn, .int .i64 xs, .string xt] 23))
  have XR := hide (fun W => right_any kx xn xs xt W (by have := ok_size (unhide OX); unfold maxLen; omega))
  have XN := hide (fun W => norm_any kx xn xs xt W (ok_64 (unhide OX)) (ok_s64 (unhide OX)))
  rw [(unhide OX).2.1] at XR
  rw [(ok_normed (unhide OX)).1, (ok_normed (unhide OX)).2] at XN
  have bx : w2.heap.size = w2.heap.size := rfl
  clear bx
  go_wp2_with fail
  rename_i Q1 K1 hrest
  refine wp_region_noPanic ?_
  refine wp_region_held_drew (S := S2 w w2.heap.size w.heap.size (.int .i64 kx) (.int .i64 xn) (.int .i64 xs) (.string xt) (.int .i64 rk) (.int .i64 rn) (.int .i64 rs) (.string rt)) (by kernel_rfl) (s2_mk (unhide hL) (unhide hX) (unhide hR)) (fun hHeld => ?_)
  revert hHeld
  generalize World.drew _ = Wd
  intro hHeld
  refine wpAnyH_take (i := 0) (oi := ?oi1109) (v := ?v1109) ?hi1109 (by kernel_rfl) (by kernel_rfl) (by kernel_rfl) (fun _ _ _ h => h) (Or.inl ⟨?hw1109, ?hy1109⟩) (by assumption) ?rest1109
  case hi1109 => (simp only [List.getElem?_toArray, List.getElem?_cons_zero]; rfl)
  case hw1109 => rfl
  case hy1109 => first | (intro wx hSw; obtain ⟨-, ⟨-, a0, a1, a2, a3, -⟩, ⟨-, b0, b1, b2, b3, -⟩⟩ := hSw; go_simp; done) | (intro wx hSw; obtain ⟨-, ⟨-, a0, a1, a2, a3, -⟩, ⟨-, b0, b1, b2, b3, -⟩⟩ := hSw; go_simp; with_reducible rfl)
  simp only [Act.put, List.setIfInBounds_toArray, List.set_cons_zero, List.set_cons_succ]
  refine wpAnyH_ready (rs := [1]) (by kernel_rfl) (by simp) ?_
  refine AllReadyH.cons rfl (fun K1110 hK1110 => ?_) AllReadyH.nil
  go_simp
  go_wp2_with (go_at_call 12; refine (unhide XR _).mono ?_; rintro e wc1110 ⟨rfl, hb1110⟩)
  refine hK1110.out _ _ ?hs1110 (fun hHeld1110 => ?_)
  case hs1110 => exact s2_call hHeld hb1110
  clear hHeld
  have hHeld := hHeld1110; clear hHeld1110 hK1110 K1110 hb1110
  refine wpAnyH_take (i := 2) (oi := ?oi1111) (v := ?v1111) ?hi1111 (by kernel_rfl) (by kernel_rfl) (by kernel_rfl) (fun _ _ _ h => h) (Or.inl ⟨?hw1111, ?hy1111⟩) (by assumption) ?rest1111
  case hi1111 => (simp only [List.getElem?_toArray, List.getElem?_cons_zero, List.getElem?_cons_succ]; rfl)
  case hw1111 => rfl
  case hy1111 => first | (intro wx hSw; obtain ⟨-, ⟨-, a0, a1, a2, a3, -⟩, ⟨-, b0, b1, b2, b3, -⟩⟩ := hSw; go_simp; done) | (intro wx hSw; obtain ⟨-, ⟨-, a0, a1, a2, a3, -⟩, ⟨-, b0, b1, b2, b3, -⟩⟩ := hSw; go_simp; with_reducible rfl)
  simp only [Act.put, List.setIfInBounds_toArray, List.set_cons_zero, List.set_cons_succ]
  refine wpAnyH_take (i := 3) (oi := ?oi1112) (v := ?v1112) ?hi1112 (by kernel_rfl) (by kernel_rfl) (by kernel_rfl) (fun _ _ _ h => h) (Or.inl ⟨?hw1112, ?hy1112⟩) (by assumption) ?rest1112
  case hi1112 => (simp only [List.getElem?_toArray, List.getElem?_cons_zero, List.getElem?_cons_succ]; rfl)
  case hw1112 => rfl
  case hy1112 => first | (intro wx hSw; obtain ⟨-, ⟨-, a0, a1, a2, a3, -⟩, ⟨-, b0, b1, b2, b3, -⟩⟩ := hSw; go_simp; done) | (intro wx hSw; obtain ⟨-, ⟨-, a0, a1, a2, a3, -⟩, ⟨-, b0, b1, b2, b3, -⟩⟩ := hSw; go_simp; with_reducible rfl)
  simp only [Act.put, List.setIfInBounds_toArray, List.set_cons_zero, List.set_cons_succ]
  refine wpAnyH_take (i := 4) (oi := ?oi1113) (v := ?v1113) ?hi1113 (by kernel_rfl) (by kernel_rfl) (by kernel_rfl) (fun _ _ _ h => h) (Or.inl ⟨?hw1113, ?hy1113⟩) (by assumption) ?rest1113
  case hi1113 => (simp only [List.getElem?_toArray, List.getElem?_cons_zero, List.getElem?_cons_succ]; rfl)
  case hw1113 => rfl
  case hy1113 => first | (intro wx hSw; obtain ⟨-, ⟨-, a0, a1, a2, a3, -⟩, ⟨-, b0, b1, b2, b3, -⟩⟩ := hSw; go_simp; done) | (intro wx hSw; obtain ⟨-, ⟨-, a0, a1, a2, a3, -⟩, ⟨-, b0, b1, b2, b3, -⟩⟩ := hSw; go_simp; with_reducible rfl)
  simp only [Act.put, List.setIfInBounds_toArray, List.set_cons_zero, List.set_cons_succ]
  refine wpAnyH_take (i := 6) (oi := ?oi1114) (v := ?v1114) ?hi1114 (by kernel_rfl) (by kernel_rfl) (by kernel_rfl) (fun _ _ _ h => h) (Or.inl ⟨?hw1114, ?hy1114⟩) (by assumption) ?rest1114
  case hi1114 => (simp only [List.getElem?_toArray, List.getElem?_cons_zero, List.getElem?_cons_succ]; rfl)
  case hw1114 => rfl
  case hy1114 => first | (intro wx hSw; obtain ⟨-, ⟨-, a0, a1, a2, a3, -⟩, ⟨-, b0, b1, b2, b3, -⟩⟩ := hSw; go_simp; done) | (intro wx hSw; obtain ⟨-, ⟨-, a0, a1, a2, a3, -⟩, ⟨-, b0, b1, b2, b3, -⟩⟩ := hSw; go_simp; with_reducible rfl)
  simp only [Act.put, List.setIfInBounds_toArray, List.set_cons_zero, List.set_cons_succ]
  refine wpAnyH_ready (rs := [5]) (by kernel_rfl) (by simp) ?_
  refine AllReadyH.cons rfl (fun K1115 hK1115 => ?_) AllReadyH.nil
  go_simp
  go_wp2_with (go_at_call 13; refine (unhide XN _).mono ?_; rintro e wc1115 ⟨rfl, hb1115⟩)
  refine hK1115.out _ _ ?hs1115 (fun hHeld1115 => ?_)
  case hs1115 => exact s2_call hHeld hb1115
  clear hHeld
  have hHeld := hHeld1115; clear hHeld1115 hK1115 K1115 hb1115
  refine wpAnyH_take (i := 7) (oi := ?oi1116) (v := ?v1116) ?hi1116 (by kernel_rfl) (by kernel_rfl) (by kernel_rfl) (fun _ _ _ h => h) (Or.inl ⟨?hw1116, ?hy1116⟩) (by assumption) ?rest1116
  case hi1116 => (simp only [List.getElem?_toArray, List.getElem?_cons_zero, List.getElem?_cons_succ]; rfl)
  case hw1116 => rfl
  case hy1116 => first | (intro wx hSw; obtain ⟨-, ⟨-, a0, a1, a2, a3, -⟩, ⟨-, b0, b1, b2, b3, -⟩⟩ := hSw; go_simp; done) | (intro wx hSw; obtain ⟨-, ⟨-, a0, a1, a2, a3, -⟩, ⟨-, b0, b1, b2, b3, -⟩⟩ := hSw; go_simp; with_reducible rfl)
  simp only [Act.put, List.setIfInBounds_toArray, List.set_cons_zero, List.set_cons_succ]
  refine wpAnyH_take (i := 8) (oi := ?oi1117) (v := ?v1117) ?hi1117 (by kernel_rfl) (by kernel_rfl) (by kernel_rfl) (fun _ _ _ h => h) (Or.inl ⟨?hw1117, ?hy1117⟩) (by assumption) ?rest1117
  case hi1117 => (simp only [List.getElem?_toArray, List.getElem?_cons_zero, List.getElem?_cons_succ]; rfl)
  case hw1117 => rfl
  case hy1117 => first | (intro wx hSw; obtain ⟨-, ⟨-, a0, a1, a2, a3, -⟩, ⟨-, b0, b1, b2, b3, -⟩⟩ := hSw; go_simp; done) | (intro wx hSw; obtain ⟨-, ⟨-, a0, a1, a2, a3, -⟩, ⟨-, b0, b1, b2, b3, -⟩⟩ := hSw; go_simp; with_reducible rfl)
  simp only [Act.put, List.setIfInBounds_toArray, List.set_cons_zero, List.set_cons_succ]
  refine wpAnyH_done (by kernel_rfl) ?_ _
  refine NoPanic.normal ?_
  refine hrest _ _ ?_
  clear hrest hX hR hL XR XN
  have hL := hide hHeld.1
  have hX := hide hHeld.2.1
  have hR := hide hHeld.2.2
  clear hHeld
  rename_i W6
  go_wp2_with fail
  refine (unhide WI _).mono ?_
  rintro e wq ⟨rfl, rfl⟩
  obtain ⟨-, a0, a1, a2, a3, f0, f1, f2, f3⟩ := unhide hX
  go_wp2_with fail
  clear a0 a1 a2 a3 f0 f1 f2 f3
  replace hX := hide (four_set3 (unhide hX) (.string (xt ++ s)))
  replace hR := hide (four_other0 (i := 3) (show w2.heap.size ≠ w.heap.size from Nat.ne_of_gt (unhide HLT)) (unhide hR) (.string (xt ++ s)))
  replace hL := hide (below_set0 (c := w2.heap.size) (i := 3) (unhide hL) (Nat.le_of_lt (unhide HLT)) (.string (xt ++ s)))
  have XR := hide (fun W => right_any kx xn xs (xt ++ s) W (by rw [ByteArray.size_append]; unfold maxLen; omega))
  have XS := hide (fun W => rright_any kx xn xs (xt ++ s) W (by rw [ByteArray.size_append]; unfold maxLen; omega))
  have XN := hide (fun W => norm_any kx xn xs (xt ++ s) W (ok_64 (unhide OX)) (ok_s64 (unhide OX)))
  have XM := hide (fun W => rnorm_any kx xn xs (xt ++ s) W (ok_64 (unhide OX)) (ok_s64 (unhide OX)))
  generalize rightB kx xn xs (xt ++ s) = r1 at *
  generalize nN kx xn xs = m1 at *
  generalize nS kx xn xs = c1 at *
  rename_i hrest
  refine wp_region_noPanic ?_
  refine wp_region_held_drew (S := S2 w w2.heap.size w.heap.size (.int .i64 kx) (.int .i64 xn) (.int .i64 xs) (.string (xt ++ s)) (.int .i64 rk) (.int .i64 rn) (.int .i64 rs) (.string rt)) (by kernel_rfl) (s2_mk (unhide hL) (unhide hX) (unhide hR)) (fun hHeld => ?_)
  revert hHeld
  generalize World.drew _ = Wd
  intro hHeld
  refine wpAnyH_take (i := 0) (oi := ?oi1118) (v := ?v1118) ?hi1118 (by kernel_rfl) (by kernel_rfl) (by kernel_rfl) (fun _ _ _ h => h) (Or.inl ⟨?hw1118, ?hy1118⟩) (by assumption) ?rest1118
  case hi1118 => (simp only [List.getElem?_toArray, List.getElem?_cons_zero]; rfl)
  case hw1118 => rfl
  case hy1118 => first | (intro wx hSw; obtain ⟨-, ⟨-, a0, a1, a2, a3, -⟩, ⟨-, b0, b1, b2, b3, -⟩⟩ := hSw; go_simp; done) | (intro wx hSw; obtain ⟨-, ⟨-, a0, a1, a2, a3, -⟩, ⟨-, b0, b1, b2, b3, -⟩⟩ := hSw; go_simp; with_reducible rfl)
  simp only [Act.put, List.setIfInBounds_toArray, List.set_cons_zero, List.set_cons_succ]
  refine wpAnyH_take (i := 2) (oi := ?oi1119) (v := ?v1119) ?hi1119 (by kernel_rfl) (by kernel_rfl) (by kernel_rfl) (fun _ _ _ h => h) (Or.inl ⟨?hw1119, ?hy1119⟩) (by assumption) ?rest1119
  case hi1119 => (simp only [List.getElem?_toArray, List.getElem?_cons_zero, List.getElem?_cons_succ]; rfl)
  case hw1119 => rfl
  case hy1119 => first | (intro wx hSw; obtain ⟨-, ⟨-, a0, a1, a2, a3, -⟩, ⟨-, b0, b1, b2, b3, -⟩⟩ := hSw; go_simp; done) | (intro wx hSw; obtain ⟨-, ⟨-, a0, a1, a2, a3, -⟩, ⟨-, b0, b1, b2, b3, -⟩⟩ := hSw; go_simp; with_reducible rfl)
  simp only [Act.put, List.setIfInBounds_toArray, List.set_cons_zero, List.set_cons_succ]
  refine wpAnyH_ready (rs := [1]) (by kernel_rfl) (by simp) ?_
  refine AllReadyH.cons rfl (fun K1120 hK1120 => ?_) AllReadyH.nil
  go_simp
  go_wp2_with (go_at_call 12; refine (unhide XR _).mono ?_; rintro e wc1120 ⟨rfl, hb1120⟩)
  refine hK1120.out _ _ ?hs1120 (fun hHeld1120 => ?_)
  case hs1120 => exact s2_call hHeld hb1120
  clear hHeld
  have hHeld := hHeld1120; clear hHeld1120 hK1120 K1120 hb1120
  refine wpAnyH_ready (rs := [3]) (by kernel_rfl) (by simp) ?_
  refine AllReadyH.cons rfl (fun K1121 hK1121 => ?_) AllReadyH.nil
  go_simp
  go_wp2_with (go_at_call 15; refine (unhide XS _).mono ?_; rintro e wc1121 ⟨rfl, hb1121⟩)
  refine hK1121.out _ _ ?hs1121 (fun hHeld1121 => ?_)
  case hs1121 => exact s2_call hHeld hb1121
  clear hHeld
  have hHeld := hHeld1121; clear hHeld1121 hK1121 K1121 hb1121
  refine wpAnyH_take (i := 4) (oi := ?oi1122) (v := ?v1122) ?hi1122 (by kernel_rfl) (by kernel_rfl) (by kernel_rfl) (fun _ _ _ h => h) (Or.inl ⟨?hw1122, ?hy1122⟩) (by assumption) ?rest1122
  case hi1122 => (simp only [List.getElem?_toArray, List.getElem?_cons_zero, List.getElem?_cons_succ]; rfl)
  case hw1122 => rfl
  case hy1122 => first | (intro wx hSw; obtain ⟨-, ⟨-, a0, a1, a2, a3, -⟩, ⟨-, b0, b1, b2, b3, -⟩⟩ := hSw; go_simp; done) | (intro wx hSw; obtain ⟨-, ⟨-, a0, a1, a2, a3, -⟩, ⟨-, b0, b1, b2, b3, -⟩⟩ := hSw; go_simp; with_reducible rfl)
  simp only [Act.put, List.setIfInBounds_toArray, List.set_cons_zero, List.set_cons_succ]
  refine wpAnyH_take (i := 5) (oi := ?oi1123) (v := ?v1123) ?hi1123 (by kernel_rfl) (by kernel_rfl) (by kernel_rfl) (fun _ _ _ h => h) (Or.inl ⟨?hw1123, ?hy1123⟩) (by assumption) ?rest1123
  case hi1123 => (simp only [List.getElem?_toArray, List.getElem?_cons_zero, List.getElem?_cons_succ]; rfl)
  case hw1123 => rfl
  case hy1123 => first | (intro wx hSw; obtain ⟨-, ⟨-, a0, a1, a2, a3, -⟩, ⟨-, b0, b1, b2, b3, -⟩⟩ := hSw; go_simp; done) | (intro wx hSw; obtain ⟨-, ⟨-, a0, a1, a2, a3, -⟩, ⟨-, b0, b1, b2, b3, -⟩⟩ := hSw; go_simp; with_reducible rfl)
  simp only [Act.put, List.setIfInBounds_toArray, List.set_cons_zero, List.set_cons_succ]
  refine wpAnyH_take (i := 6) (oi := ?oi1124) (v := ?v1124) ?hi1124 (by kernel_rfl) (by kernel_rfl) (by kernel_rfl) (fun _ _ _ h => h) (Or.inl ⟨?hw1124, ?hy1124⟩) (by assumption) ?rest1124
  case hi1124 => (simp only [List.getElem?_toArray, List.getElem?_cons_zero, List.getElem?_cons_succ]; rfl)
  case hw1124 => rfl
  case hy1124 => first | (intro wx hSw; obtain ⟨-, ⟨-, a0, a1, a2, a3, -⟩, ⟨-, b0, b1, b2, b3, -⟩⟩ := hSw; go_simp; done) | (intro wx hSw; obtain ⟨-, ⟨-, a0, a1, a2, a3, -⟩, ⟨-, b0, b1, b2, b3, -⟩⟩ := hSw; go_simp; with_reducible rfl)
  simp only [Act.put, List.setIfInBounds_toArray, List.set_cons_zero, List.set_cons_succ]
  refine wpAnyH_take (i := 8) (oi := ?oi1125) (v := ?v1125) ?hi1125 (by kernel_rfl) (by kernel_rfl) (by kernel_rfl) (fun _ _ _ h => h) (Or.inl ⟨?hw1125, ?hy1125⟩) (by assumption) ?rest1125
  case hi1125 => (simp only [List.getElem?_toArray, List.getElem?_cons_zero, List.getElem?_cons_succ]; rfl)
  case hw1125 => rfl
  case hy1125 => first | (intro wx hSw; obtain ⟨-, ⟨-, a0, a1, a2, a3, -⟩, ⟨-, b0, b1, b2, b3, -⟩⟩ := hSw; go_simp; done) | (intro wx hSw; obtain ⟨-, ⟨-, a0, a1, a2, a3, -⟩, ⟨-, b0, b1, b2, b3, -⟩⟩ := hSw; go_simp; with_reducible rfl)
  simp only [Act.put, List.setIfInBounds_toArray, List.set_cons_zero, List.set_cons_succ]
  refine wpAnyH_ready (rs := [7]) (by kernel_rfl) (by simp) ?_
  refine AllReadyH.cons rfl (fun K1126 hK1126 => ?_) AllReadyH.nil
  go_simp
  go_wp2_with (go_at_call 12; refine (unhide QR _).mono ?_; rintro e wc1126 ⟨rfl, hb1126⟩)
  refine hK1126.out _ _ ?hs1126 (fun hHeld1126 => ?_)
  case hs1126 => exact s2_call hHeld hb1126
  clear hHeld
  have hHeld := hHeld1126; clear hHeld1126 hK1126 K1126 hb1126
  refine wpAnyH_ready (rs := [9]) (by kernel_rfl) (by simp) ?_
  refine AllReadyH.cons rfl (fun K1127 hK1127 => ?_) AllReadyH.nil
  go_simp
  go_wp2_with (go_at_call 15; refine (unhide QS _).mono ?_; rintro e wc1127 ⟨rfl, hb1127⟩)
  refine hK1127.out _ _ ?hs1127 (fun hHeld1127 => ?_)
  case hs1127 => exact s2_call hHeld hb1127
  clear hHeld
  have hHeld := hHeld1127; clear hHeld1127 hK1127 K1127 hb1127
  refine wpAnyH_take (i := 10) (oi := ?oi1128) (v := ?v1128) ?hi1128 (by kernel_rfl) (by kernel_rfl) (by kernel_rfl) (fun _ _ _ h => h) (Or.inl ⟨?hw1128, ?hy1128⟩) (by assumption) ?rest1128
  case hi1128 => (simp only [List.getElem?_toArray, List.getElem?_cons_zero, List.getElem?_cons_succ]; rfl)
  case hw1128 => rfl
  case hy1128 => first | (intro wx hSw; obtain ⟨-, ⟨-, a0, a1, a2, a3, -⟩, ⟨-, b0, b1, b2, b3, -⟩⟩ := hSw; go_simp; done) | (intro wx hSw; obtain ⟨-, ⟨-, a0, a1, a2, a3, -⟩, ⟨-, b0, b1, b2, b3, -⟩⟩ := hSw; go_simp; with_reducible rfl)
  simp only [Act.put, List.setIfInBounds_toArray, List.set_cons_zero, List.set_cons_succ]
  refine wpAnyH_take (i := 11) (oi := ?oi1129) (v := ?v1129) ?hi1129 (by kernel_rfl) (by kernel_rfl) (by kernel_rfl) (fun _ _ _ h => h) (Or.inl ⟨?hw1129, ?hy1129⟩) (by assumption) ?rest1129
  case hi1129 => (simp only [List.getElem?_toArray, List.getElem?_cons_zero, List.getElem?_cons_succ]; rfl)
  case hw1129 => rfl
  case hy1129 => first | (intro wx hSw; obtain ⟨-, ⟨-, a0, a1, a2, a3, -⟩, ⟨-, b0, b1, b2, b3, -⟩⟩ := hSw; go_simp; done) | (intro wx hSw; obtain ⟨-, ⟨-, a0, a1, a2, a3, -⟩, ⟨-, b0, b1, b2, b3, -⟩⟩ := hSw; go_simp; with_reducible rfl)
  simp only [Act.put, List.setIfInBounds_toArray, List.set_cons_zero, List.set_cons_succ]
  refine wpAnyH_take (i := 12) (oi := ?oi1130) (v := ?v1130) ?hi1130 (by kernel_rfl) (by kernel_rfl) (by kernel_rfl) (fun _ _ _ h => h) (Or.inl ⟨?hw1130, ?hy1130⟩) (by assumption) ?rest1130
  case hi1130 => (simp only [List.getElem?_toArray, List.getElem?_cons_zero, List.getElem?_cons_succ]; rfl)
  case hw1130 => rfl
  case hy1130 => first | (intro wx hSw; obtain ⟨-, ⟨-, a0, a1, a2, a3, -⟩, ⟨-, b0, b1, b2, b3, -⟩⟩ := hSw; go_simp; done) | (intro wx hSw; obtain ⟨-, ⟨-, a0, a1, a2, a3, -⟩, ⟨-, b0, b1, b2, b3, -⟩⟩ := hSw; go_simp; with_reducible rfl)
  simp only [Act.put, List.setIfInBounds_toArray, List.set_cons_zero, List.set_cons_succ]
  refine wpAnyH_take (i := 13) (oi := ?oi1131) (v := ?v1131) ?hi1131 (by kernel_rfl) (by kernel_rfl) (by kernel_rfl) (fun _ _ _ h => h) (Or.inl ⟨?hw1131, ?hy1131⟩) (by assumption) ?rest1131
  case hi1131 => (simp only [List.getElem?_toArray, List.getElem?_cons_zero, List.getElem?_cons_succ]; rfl)
  case hw1131 => rfl
  case hy1131 => first | (intro wx hSw; obtain ⟨-, ⟨-, a0, a1, a2, a3, -⟩, ⟨-, b0, b1, b2, b3, -⟩⟩ := hSw; go_simp; done) | (intro wx hSw; obtain ⟨-, ⟨-, a0, a1, a2, a3, -⟩, ⟨-, b0, b1, b2, b3, -⟩⟩ := hSw; go_simp; with_reducible rfl)
  simp only [Act.put, List.setIfInBounds_toArray, List.set_cons_zero, List.set_cons_succ]
  refine wpAnyH_take (i := 15) (oi := ?oi1132) (v := ?v1132) ?hi1132 (by kernel_rfl) (by kernel_rfl) (by kernel_rfl) (fun _ _ _ h => h) (Or.inl ⟨?hw1132, ?hy1132⟩) (by assumption) ?rest1132
  case hi1132 => (simp only [List.getElem?_toArray, List.getElem?_cons_zero, List.getElem?_cons_succ]; rfl)
  case hw1132 => rfl
  case hy1132 => first | (intro wx hSw; obtain ⟨-, ⟨-, a0, a1, a2, a3, -⟩, ⟨-, b0, b1, b2, b3, -⟩⟩ := hSw; go_simp; done) | (intro wx hSw; obtain ⟨-, ⟨-, a0, a1, a2, a3, -⟩, ⟨-, b0, b1, b2, b3, -⟩⟩ := hSw; go_simp; with_reducible rfl)
  simp only [Act.put, List.setIfInBounds_toArray, List.set_cons_zero, List.set_cons_succ]
  refine wpAnyH_ready (rs := [14]) (by kernel_rfl) (by simp) ?_
  refine AllReadyH.cons rfl (fun K1133 hK1133 => ?_) AllReadyH.nil
  go_simp
  go_wp2_with (go_at_call 13; refine (unhide XN _).mono ?_; rintro e wc1133 ⟨rfl, hb1133⟩)
  refine hK1133.out _ _ ?hs1133 (fun hHeld1133 => ?_)
  case hs1133 => exact s2_call hHeld hb1133
  clear hHeld
  have hHeld := hHeld1133; clear hHeld1133 hK1133 K1133 hb1133
  refine wpAnyH_ready (rs := [16]) (by kernel_rfl) (by simp) ?_
  refine AllReadyH.cons rfl (fun K1134 hK1134 => ?_) AllReadyH.nil
  go_simp
  go_wp2_with (go_at_call 16; refine (unhide XM _).mono ?_; rintro e wc1134 ⟨rfl, hb1134⟩)
  refine hK1134.out _ _ ?hs1134 (fun hHeld1134 => ?_)
  case hs1134 => exact s2_call hHeld hb1134
  clear hHeld
  have hHeld := hHeld1134; clear hHeld1134 hK1134 K1134 hb1134
  refine wpAnyH_take (i := 17) (oi := ?oi1135) (v := ?v1135) ?hi1135 (by kernel_rfl) (by kernel_rfl) (by kernel_rfl) (fun _ _ _ h => h) (Or.inl ⟨?hw1135, ?hy1135⟩) (by assumption) ?rest1135
  case hi1135 => (simp only [List.getElem?_toArray, List.getElem?_cons_zero, List.getElem?_cons_succ]; rfl)
  case hw1135 => rfl
  case hy1135 => first | (intro wx hSw; obtain ⟨-, ⟨-, a0, a1, a2, a3, -⟩, ⟨-, b0, b1, b2, b3, -⟩⟩ := hSw; go_simp; done) | (intro wx hSw; obtain ⟨-, ⟨-, a0, a1, a2, a3, -⟩, ⟨-, b0, b1, b2, b3, -⟩⟩ := hSw; go_simp; with_reducible rfl)
  simp only [Act.put, List.setIfInBounds_toArray, List.set_cons_zero, List.set_cons_succ]
  refine wpAnyH_take (i := 18) (oi := ?oi1136) (v := ?v1136) ?hi1136 (by kernel_rfl) (by kernel_rfl) (by kernel_rfl) (fun _ _ _ h => h) (Or.inl ⟨?hw1136, ?hy1136⟩) (by assumption) ?rest1136
  case hi1136 => (simp only [List.getElem?_toArray, List.getElem?_cons_zero, List.getElem?_cons_succ]; rfl)
  case hw1136 => rfl
  case hy1136 => first | (intro wx hSw; obtain ⟨-, ⟨-, a0, a1, a2, a3, -⟩, ⟨-, b0, b1, b2, b3, -⟩⟩ := hSw; go_simp; done) | (intro wx hSw; obtain ⟨-, ⟨-, a0, a1, a2, a3, -⟩, ⟨-, b0, b1, b2, b3, -⟩⟩ := hSw; go_simp; with_reducible rfl)
  simp only [Act.put, List.setIfInBounds_toArray, List.set_cons_zero, List.set_cons_succ]
  refine wpAnyH_take (i := 19) (oi := ?oi1137) (v := ?v1137) ?hi1137 (by kernel_rfl) (by kernel_rfl) (by kernel_rfl) (fun _ _ _ h => h) (Or.inl ⟨?hw1137, ?hy1137⟩) (by assumption) ?rest1137
  case hi1137 => (simp only [List.getElem?_toArray, List.getElem?_cons_zero, List.getElem?_cons_succ]; rfl)
  case hw1137 => rfl
  case hy1137 => first | (intro wx hSw; obtain ⟨-, ⟨-, a0, a1, a2, a3, -⟩, ⟨-, b0, b1, b2, b3, -⟩⟩ := hSw; go_simp; done) | (intro wx hSw; obtain ⟨-, ⟨-, a0, a1, a2, a3, -⟩, ⟨-, b0, b1, b2, b3, -⟩⟩ := hSw; go_simp; with_reducible rfl)
  simp only [Act.put, List.setIfInBounds_toArray, List.set_cons_zero, List.set_cons_succ]
  refine wpAnyH_take (i := 20) (oi := ?oi1138) (v := ?v1138) ?hi1138 (by kernel_rfl) (by kernel_rfl) (by kernel_rfl) (fun _ _ _ h => h) (Or.inl ⟨?hw1138, ?hy1138⟩) (by assumption) ?rest1138
  case hi1138 => (simp only [List.getElem?_toArray, List.getElem?_cons_zero, List.getElem?_cons_succ]; rfl)
  case hw1138 => rfl
  case hy1138 => first | (intro wx hSw; obtain ⟨-, ⟨-, a0, a1, a2, a3, -⟩, ⟨-, b0, b1, b2, b3, -⟩⟩ := hSw; go_simp; done) | (intro wx hSw; obtain ⟨-, ⟨-, a0, a1, a2, a3, -⟩, ⟨-, b0, b1, b2, b3, -⟩⟩ := hSw; go_simp; with_reducible rfl)
  simp only [Act.put, List.setIfInBounds_toArray, List.set_cons_zero, List.set_cons_succ]
  refine wpAnyH_take (i := 22) (oi := ?oi1139) (v := ?v1139) ?hi1139 (by kernel_rfl) (by kernel_rfl) (by kernel_rfl) (fun _ _ _ h => h) (Or.inl ⟨?hw1139, ?hy1139⟩) (by assumption) ?rest1139
  case hi1139 => (simp only [List.getElem?_toArray, List.getElem?_cons_zero, List.getElem?_cons_succ]; rfl)
  case hw1139 => rfl
  case hy1139 => first | (intro wx hSw; obtain ⟨-, ⟨-, a0, a1, a2, a3, -⟩, ⟨-, b0, b1, b2, b3, -⟩⟩ := hSw; go_simp; done) | (intro wx hSw; obtain ⟨-, ⟨-, a0, a1, a2, a3, -⟩, ⟨-, b0, b1, b2, b3, -⟩⟩ := hSw; go_simp; with_reducible rfl)
  simp only [Act.put, List.setIfInBounds_toArray, List.set_cons_zero, List.set_cons_succ]
  refine wpAnyH_ready (rs := [21]) (by kernel_rfl) (by simp) ?_
  refine AllReadyH.cons rfl (fun K1140 hK1140 => ?_) AllReadyH.nil
  go_simp
  go_wp2_with (go_at_call 13; refine (unhide QN _).mono ?_; rintro e wc1140 ⟨rfl, hb1140⟩)
  refine hK1140.out _ _ ?hs1140 (fun hHeld1140 => ?_)
  case hs1140 => exact s2_call hHeld hb1140
  clear hHeld
  have hHeld := hHeld1140; clear hHeld1140 hK1140 K1140 hb1140
  refine wpAnyH_ready (rs := [23]) (by kernel_rfl) (by simp) ?_
  refine AllReadyH.cons rfl (fun K1141 hK1141 => ?_) AllReadyH.nil
  go_simp
  go_wp2_with (go_at_call 16; refine (unhide QM _).mono ?_; rintro e wc1141 ⟨rfl, hb1141⟩)
  refine hK1141.out _ _ ?hs1141 (fun hHeld1141 => ?_)
  case hs1141 => exact s2_call hHeld hb1141
  clear hHeld
  have hHeld := hHeld1141; clear hHeld1141 hK1141 K1141 hb1141
  refine wpAnyH_take (i := 24) (oi := ?oi1142) (v := ?v1142) ?hi1142 (by kernel_rfl) (by kernel_rfl) (by kernel_rfl) (fun _ _ _ h => h) (Or.inl ⟨?hw1142, ?hy1142⟩) (by assumption) ?rest1142
  case hi1142 => (simp only [List.getElem?_toArray, List.getElem?_cons_zero, List.getElem?_cons_succ]; rfl)
  case hw1142 => rfl
  case hy1142 => first | (intro wx hSw; obtain ⟨-, ⟨-, a0, a1, a2, a3, -⟩, ⟨-, b0, b1, b2, b3, -⟩⟩ := hSw; go_simp; done) | (intro wx hSw; obtain ⟨-, ⟨-, a0, a1, a2, a3, -⟩, ⟨-, b0, b1, b2, b3, -⟩⟩ := hSw; go_simp; with_reducible rfl)
  simp only [Act.put, List.setIfInBounds_toArray, List.set_cons_zero, List.set_cons_succ]
  refine wpAnyH_take (i := 25) (oi := ?oi1143) (v := ?v1143) ?hi1143 (by kernel_rfl) (by kernel_rfl) (by kernel_rfl) (fun _ _ _ h => h) (Or.inl ⟨?hw1143, ?hy1143⟩) (by assumption) ?rest1143
  case hi1143 => (simp only [List.getElem?_toArray, List.getElem?_cons_zero, List.getElem?_cons_succ]; rfl)
  case hw1143 => rfl
  case hy1143 => first | (intro wx hSw; obtain ⟨-, ⟨-, a0, a1, a2, a3, -⟩, ⟨-, b0, b1, b2, b3, -⟩⟩ := hSw; go_simp; done) | (intro wx hSw; obtain ⟨-, ⟨-, a0, a1, a2, a3, -⟩, ⟨-, b0, b1, b2, b3, -⟩⟩ := hSw; go_simp; with_reducible rfl)
  simp only [Act.put, List.setIfInBounds_toArray, List.set_cons_zero, List.set_cons_succ]
  refine wpAnyH_take (i := 26) (oi := ?oi1144) (v := ?v1144) ?hi1144 (by kernel_rfl) (by kernel_rfl) (by kernel_rfl) (fun _ _ _ h => h) (Or.inl ⟨?hw1144, ?hy1144⟩) (by assumption) ?rest1144
  case hi1144 => (simp only [List.getElem?_toArray, List.getElem?_cons_zero, List.getElem?_cons_succ]; rfl)
  case hw1144 => rfl
  case hy1144 => first | (intro wx hSw; obtain ⟨-, ⟨-, a0, a1, a2, a3, -⟩, ⟨-, b0, b1, b2, b3, -⟩⟩ := hSw; go_simp; done) | (intro wx hSw; obtain ⟨-, ⟨-, a0, a1, a2, a3, -⟩, ⟨-, b0, b1, b2, b3, -⟩⟩ := hSw; go_simp; with_reducible rfl)
  simp only [Act.put, List.setIfInBounds_toArray, List.set_cons_zero, List.set_cons_succ]
  refine wpAnyH_done (by kernel_rfl) ?_ _
  refine NoPanic.normal ?_
  refine hrest _ _ ?_
  have HW := hide hHeld.1
  clear hHeld hrest
  go_wp2_with fail
  go_ret
  exact ⟨rfl, unhide HW⟩

set_option maxHeartbeats 1000000 in
theorem right_long (rk rn rs kind n which v : Int) (rt s : ByteArray) (w : World) (h : (100 : Int) < s.size ∨ (100 : Int) < rt.size) :
    Calls Try.prog 3 #[V rk rn rs rt, .int .i64 kind, .int .i64 n, .string s, .int .i64 which, .int .i64 v] w fun e w' => e = .returned (.bool true) ∧ Below w.heap.size w w' := by
  have hR := hide (four_alloc (.int .i64 rk) (.int .i64 rn) (.int .i64 rs) (.string rt) 23 w)
  have hL := hide ((Below.refl w.heap.size w).alloc (Nat.le_refl _) (.cells #[.int .i64 rk, .int .i64 rn, .int .i64 rs, .string rt] 23))
  by_cases h1 : (100 : Int) < s.size
  · clear h
    go_enter Try.func3, Try.ntmps3
    go_wp2_with fail
    refine (known_any _).mono ?_
    rintro e w1 ⟨rfl, hb1⟩
    replace hL := hide ((unhide hL).trans (hb1.mono (unhide hL).size))
    clear hb1 hR
    go_wp2_with fail
    go_ret
    exact ⟨rfl, unhide hL⟩
  · have h2 : (100 : Int) < rt.size := by rcases h with h | h; exact absurd h h1; exact h
    clear h
    go_enter Try.func3, Try.ntmps3
    go_wp2_with fail
    refine (known_any _).mono ?_
    rintro e w1 ⟨rfl, hb1⟩
    replace hR := hide (four_call (unhide hR) hb1)
    replace hL := hide ((unhide hL).trans (hb1.mono (unhide hL).size))
    clear hb1
    obtain ⟨-, b0, b1, b2, b3, -⟩ := unhide hR
    go_wp2_with fail
    go_ret
    exact ⟨rfl, unhide hL⟩
theorem valRight_walk (rk rn rs : Int) (rt : ByteArray) (kind n : Int) (s : ByteArray) (which v : Int) (wrn : (Lit.int .i64 rn).wf = true) (wrs : (Lit.int .i64 rs).wf = true) (hrt : rt.size ≤ maxLen)
    (wk : (Lit.int .i64 kind).wf = true) (wn : (Lit.int .i64 n).wf = true) (hs : s.size ≤ maxLen) (ww : (Lit.int .i64 which).wf = true) (wv : (Lit.int .i64 v).wf = true) (w : World) :
    Calls Try.prog 3 #[V rk rn rs rt, .int .i64 kind, .int .i64 n, .string s, .int .i64 which, .int .i64 v] w fun e w' => e = .returned (.bool true) ∧ Below w.heap.size w w' := by
  unfold maxLen at hs hrt
  by_cases h : s.size ≤ 100 ∧ rt.size ≤ 100
  · have MX := fun W => make_any kind n s W (is64_wf wk) (is64_wf wn) hs
    have h4 : which % 4 = 0 ∨ which % 4 = 1 ∨ which % 4 = 2 ∨ which % 4 = 3 := by omega
    obtain ⟨i9, hi9⟩ : ∃ i : Nat, v % 9 = (i : Int) := ⟨(v % 9).toNat, by omega⟩
    obtain ⟨i6, hi6⟩ : ∃ i : Nat, v % 6 = (i : Int) := ⟨(v % 6).toNat, by omega⟩
    have V9 := fun W => within1_at (is64_wf wv) (by decide) hi9 W
    have V6 := fun W => within1_at (is64_wf wv) (by decide) hi6 W
    rcases h4 with g | g | g | g
    · obtain ⟨y, hy1, hy2⟩ := rowR0_at v i9 (by omega) (is64_wf wv)
      exact right_w0 rk rn rs kind n which v y i9 rt s w h.1 h.2 (is64_wf wrn) (is64_wf wrs) MX (fun W => within1_at (is64_wf ww) (by decide) g W) V9 (by omega) hy1 hy2
    · obtain ⟨y, hy1, hy2⟩ := rowR1_at v i9 (by omega) (is64_wf wv)
      exact right_w1 rk rn rs kind n which v y i9 rt s w h.1 h.2 (is64_wf wrn) (is64_wf wrs) MX (fun W => within1_at (is64_wf ww) (by decide) g W) V9 (by omega) hy1 hy2
    · obtain ⟨y, hy1, hy2⟩ := rowR2_at v i6 (by omega) (is64_wf wv)
      exact right_w2 rk rn rs kind n which v y i6 rt s w h.1 h.2 (is64_wf wrn) (is64_wf wrs) MX (fun W => within1_at (is64_wf ww) (by decide) g W) V6 (by omega) hy1 hy2
    · exact right_w3 rk rn rs kind n which v 0 0 rt s w h.1 h.2 (is64_wf wrn) (is64_wf wrs) MX (fun W => within1_at (is64_wf ww) (by decide) g W)
  · exact right_long rk rn rs kind n which v rt s w (by omega)
end Go.Proofs.Ytofeecalpofklaa
