/-
  The walk of the law ValNulls.
-/
import Derived.Test.YtofeecalpofklaaWI0
import Derived.Test.YtofeecalpofklaaU
namespace Go.Proofs.Ytofeecalpofklaa
open Go.RowKit
set_option linter.unusedSimpArgs false
set_option linter.unusedVariables false

def nullE (k : Int) : Int := if idB k = true then 0 else 5
theorem reck_of {o : Int} (h : o = 6 ∨ o = 7 ∨ o = 8) : reckB o = true := by rcases h with rfl | rfl | rfl <;> decide
theorem null_right (o k n s : Int) (t : ByteArray) (ho : o = 6 ∨ o = 7 ∨ o = 8) (h : Ok k n s t) (W : World) :
    Calls Try.prog 23 #[.int .i64 o, V k n s t, V 0 0 0 EZ] W fun e w' => e = .returned (.tuple #[V 0 0 0 EZ, .int .i64 (nullE k)]) ∧ Below W.heap.size W w' := by
  refine (reckon_any o k n s t 0 0 0 EZ W (ok_64 h) (by unfold Is64; omega) (fun h3 => ⟨ok_scale h, ok_empty h (by omega)⟩) (fun h3 => absurd h3 (by decide))).mono (fun e w' hh => ⟨hh.1.trans ?_, hh.2⟩)
  rw [if_neg (by omega)]
  refine recV_eq ?_
  unfold nullE
  cases hi : idB k
  · rw [if_neg (by decide)]; exact rec_b (reck_of ho) hi
  · rw [if_pos rfl]; exact rec_d (reck_of ho) hi (by decide) (Or.inr rfl)
theorem null_left (o k n s : Int) (t : ByteArray) (ho : o = 6 ∨ o = 7 ∨ o = 8) (h : Ok k n s t) (W : World) :
    Calls Try.prog 23 #[.int .i64 o, V 0 0 0 EZ, V k n s t] W fun e w' => e = .returned (.tuple #[V 0 0 0 EZ, .int .i64 (nullE k)]) ∧ Below W.heap.size W w' := by
  refine (reckon_any o 0 0 0 EZ k n s t W (by unfold Is64; omega) (ok_64 h) (fun h3 => absurd h3 (by decide)) (fun h3 => ⟨ok_scale h, ok_empty h (by omega)⟩)).mono (fun e w' hh => ⟨hh.1.trans ?_, hh.2⟩)
  rw [if_neg (by omega)]
  refine recV_eq ?_
  unfold nullE
  cases hi : idB k
  · rw [if_neg (by decide)]; exact rec_c (reck_of ho) (by decide) hi
  · rw [if_pos rfl]; exact rec_d (reck_of ho) (by decide) hi (Or.inl rfl)
theorem null_neg (k n s : Int) (t : ByteArray) (h : Ok k n s t) (W : World) :
    Calls Try.prog 23 #[.int .i64 4, V 0 0 0 EZ, V k n s t] W fun e w' => e = .returned (.tuple #[V 0 0 0 EZ, .int .i64 0]) ∧ Below W.heap.size W w' := by
  refine (reckon_any 4 0 0 0 EZ k n s t W (by unfold Is64; omega) (ok_64 h) (fun h3 => absurd h3 (by decide)) (fun h3 => ⟨ok_scale h, ok_empty h (by omega)⟩)).mono (fun e w' hh => ⟨hh.1.trans ?_, hh.2⟩)
  rw [if_pos rfl]
  exact recV_eq (rec_d (by decide) (by decide) (by decide) (Or.inl rfl))
theorem unlike (o : Int) (ho : o = 6 ∨ o = 7 ∨ o = 8) (W : World) :
    Calls Try.prog 23 #[.int .i64 o, V 2 1 0 EZ, V 3 1 0 EZ] W fun e w' => e = .returned (.tuple #[V 0 0 0 EZ, .int .i64 5]) ∧ Below W.heap.size W w' := by
  refine (reckon_any o 2 1 0 EZ 3 1 0 EZ W (by unfold Is64; omega) (by unfold Is64; omega) (fun h3 => absurd h3 (by decide)) (fun h3 => ⟨by decide, rfl⟩)).mono (fun e w' hh => ⟨hh.1.trans ?_, hh.2⟩)
  rw [if_neg (by omega)]
  exact recV_eq (rec_f (reck_of ho) (by decide) (by decide) (by decide) (by decide) (by decide))

set_option maxHeartbeats 8000000 in
set_option maxRecDepth 100000 in
theorem nulls_6 (kind n op : Int) (s : ByteArray) (w : World) (hs : s.size ≤ 100)
    (MX : Hid (∀ W, Calls Try.prog 11 #[.int .i64 kind, .int .i64 n, .string s] W fun e w' => Made e (kind % 6) ∧ Below W.heap.size W w'))
    (WI : Hid (∀ W, Calls Try.prog 14 #[.int .i64 op, .int .i64 3] W fun e w' => e = .returned (.int .i64 0) ∧ w' = W)) :
    Calls Try.prog 6 #[.int .i64 kind, .int .i64 n, .string s, .int .i64 op] w fun e w' => e = .returned (.bool true) ∧ Below w.heap.size w w' := by
  have hL := hide (Below.refl w.heap.size w)
  go_enter Try.func6, Try.ntmps6
  go_wp2_with fail
  refine (known_any _).mono ?_
  rintro e w1 ⟨rfl, hb1⟩
  replace hL := hide ((unhide hL).trans (hb1.mono (unhide hL).size))
  clear hb1
  go_wp2_with fail
  refine (unhide MX _).mono ?_
  rintro e w2 ⟨⟨xn, xs, xt, okx, rfl⟩, hb2⟩
  have OX := hide okx
  replace hL := hide ((unhide hL).trans (hb2.mono (unhide hL).size))
  clear hb2 okx
  generalize kind % 6 = k at *
  have hX := hide (four_more (four_alloc (.int .i64 k) (.int .i64 xn) (.int .i64 xs) (.string xt) 23 w2) (.cells #[.int .i64 6, .int .i64 7, .int .i64 8] 3))
  replace hL := hide (((unhide hL).alloc (unhide hL).size (.cells #[.int .i64 k, .int .i64 xn, .int .i64 xs, .string xt] 23)).alloc (Nat.le_trans (unhide hL).size (by simp)) (.cells #[.int .i64 6, .int .i64 7, .int .i64 8] 3))
  go_wp2_with fail
  refine (unhide WI _).mono ?_
  rintro e wq ⟨rfl, rfl⟩
  have HNE := hide (rfl : nullE k = nullE k)
  have C1 := hide (fun W => null_right 6 k xn xs xt (by decide) (unhide OX) W)
  have C2 := hide (fun W => null_left 6 k xn xs xt (by decide) (unhide OX) W)
  have C3 := hide (fun W => null_neg k xn xs xt (unhide OX) W)
  have C4 := hide (fun W => unlike 6 (by decide) W)
  obtain ⟨ne, hne⟩ : ∃ ne, ne = nullE k := ⟨_, rfl⟩
  rw [← hne] at C1 C2
  have HN := hide hne
  clear hne HNE
  go_wp2_with fail
  refine (unhide C1 _).mono ?_
  rintro e w3 ⟨rfl, hb3⟩
  replace hX := hide (four_more (four_call (unhide hX) hb3) (.cells #[.int .i64 0, .int .i64 0, .int .i64 0, .string EZ] 23))
  have hv := hide (four_alloc (.int .i64 0) (.int .i64 0) (.int .i64 0) (.string EZ) 23 w3)
  replace hL := hide (((unhide hL).trans (hb3.mono (unhide hL).size)).alloc (Nat.le_trans (unhide hL).size hb3.size) (.cells #[.int .i64 0, .int .i64 0, .int .i64 0, .string EZ] 23))
  clear hb3
  obtain ⟨-, x0, x1, x2, x3, -⟩ := unhide hX
  go_wp2_with fail
  refine (unhide C2 _).mono ?_
  clear x0 x1 x2 x3
  rintro e w4 ⟨rfl, hb4⟩
  replace hX := hide (four_more (four_call (unhide hX) hb4) (.cells #[.int .i64 0, .int .i64 0, .int .i64 0, .string EZ] 23))
  replace hv := hide (four_more (four_call (unhide hv) hb4) (.cells #[.int .i64 0, .int .i64 0, .int .i64 0, .string EZ] 23))
  have hw := hide (four_alloc (.int .i64 0) (.int .i64 0) (.int .i64 0) (.string EZ) 23 w4)
  replace hL := hide (((unhide hL).trans (hb4.mono (unhide hL).size)).alloc (Nat.le_trans (unhide hL).size hb4.size) (.cells #[.int .i64 0, .int .i64 0, .int .i64 0, .string EZ] 23))
  clear hb4
  obtain ⟨-, x0, x1, x2, x3, -⟩ := unhide hX
  go_wp2_with fail
  refine (unhide C3 _).mono ?_
  clear x0 x1 x2 x3
  rintro e w5 ⟨rfl, hb5⟩
  replace hX := hide (four_more (four_call (unhide hX) hb5) (.cells #[.int .i64 0, .int .i64 0, .int .i64 0, .string EZ] 23))
  replace hv := hide (four_more (four_call (unhide hv) hb5) (.cells #[.int .i64 0, .int .i64 0, .int .i64 0, .string EZ] 23))
  replace hw := hide (four_more (four_call (unhide hw) hb5) (.cells #[.int .i64 0, .int .i64 0, .int .i64 0, .string EZ] 23))
  have hu := hide (four_alloc (.int .i64 0) (.int .i64 0) (.int .i64 0) (.string EZ) 23 w5)
  replace hL := hide (((unhide hL).trans (hb5.mono (unhide hL).size)).alloc (Nat.le_trans (unhide hL).size hb5.size) (.cells #[.int .i64 0, .int .i64 0, .int .i64 0, .string EZ] 23))
  clear hb5
  obtain ⟨-, x0, x1, x2, x3, -⟩ := unhide hX
  go_wp2_with fail
  refine (unhide C4 _).mono ?_
  clear x0 x1 x2 x3
  rintro e w6 ⟨rfl, hb6⟩
  replace hX := hide (four_more (four_call (unhide hX) hb6) (.cells #[.int .i64 0, .int .i64 0, .int .i64 0, .string EZ] 23))
  replace hv := hide (four_more (four_call (unhide hv) hb6) (.cells #[.int .i64 0, .int .i64 0, .int .i64 0, .string EZ] 23))
  replace hw := hide (four_more (four_call (unhide hw) hb6) (.cells #[.int .i64 0, .int .i64 0, .int .i64 0, .string EZ] 23))
  replace hu := hide (four_more (four_call (unhide hu) hb6) (.cells #[.int .i64 0, .int .i64 0, .int .i64 0, .string EZ] 23))
  have hz := hide (four_alloc (.int .i64 0) (.int .i64 0) (.int .i64 0) (.string EZ) 23 w6)
  replace hL := hide (((unhide hL).trans (hb6.mono (unhide hL).size)).alloc (Nat.le_trans (unhide hL).size hb6.size) (.cells #[.int .i64 0, .int .i64 0, .int .i64 0, .string EZ] 23))
  clear hb6
  obtain ⟨-, x0, -⟩ := unhide hX
  obtain ⟨-, p0, p1, p2, p3, -⟩ := unhide hv
  obtain ⟨-, q0, q1, q2, q3, -⟩ := unhide hw
  obtain ⟨-, r0, r1, r2, r3, -⟩ := unhide hu
  have hk := (unhide OX).1
  have hcase : k = 0 ∨ k = 1 ∨ k = 2 ∨ k = 3 ∨ k = 4 ∨ k = 5 := by omega
  have hne := unhide HN
  clear hk OX HN MX C1 C2 C3 C4 WI hX hv hw hu hz
  rcases hcase with rfl | rfl | rfl | rfl | rfl | rfl
  all_goals
    first | (have h5 : ne = 0 := hne.trans (by decide); subst h5; clear hne) | (have h5 : ne = 5 := hne.trans (by decide); subst h5; clear hne)
    go_wp2_with fail
    go_ret
    exact ⟨rfl, unhide hL⟩

set_option maxHeartbeats 8000000 in
set_option maxRecDepth 100000 in
theorem nulls_7 (kind n op : Int) (s : ByteArray) (w : World) (hs : s.size ≤ 100)
    (MX : Hid (∀ W, Calls Try.prog 11 #[.int .i64 kind, .int .i64 n, .string s] W fun e w' => Made e (kind % 6) ∧ Below W.heap.size W w'))
    (WI : Hid (∀ W, Calls Try.prog 14 #[.int .i64 op, .int .i64 3] W fun e w' => e = .returned (.int .i64 1) ∧ w' = W)) :
    Calls Try.prog 6 #[.int .i64 kind, .int .i64 n, .string s, .int .i64 op] w fun e w' => e = .returned (.bool true) ∧ Below w.heap.size w w' := by
  have hL := hide (Below.refl w.heap.size w)
  go_enter Try.func6, Try.ntmps6
  go_wp2_with fail
  refine (known_any _).mono ?_
  rintro e w1 ⟨rfl, hb1⟩
  replace hL := hide ((unhide hL).trans (hb1.mono (unhide hL).size))
  clear hb1
  go_wp2_with fail
  refine (unhide MX _).mono ?_
  rintro e w2 ⟨⟨xn, xs, xt, okx, rfl⟩, hb2⟩
  have OX := hide okx
  replace hL := hide ((unhide hL).trans (hb2.mono (unhide hL).size))
  clear hb2 okx
  generalize kind % 6 = k at *
  have hX := hide (four_more (four_alloc (.int .i64 k) (.int .i64 xn) (.int .i64 xs) (.string xt) 23 w2) (.cells #[.int .i64 6, .int .i64 7, .int .i64 8] 3))
  replace hL := hide (((unhide hL).alloc (unhide hL).size (.cells #[.int .i64 k, .int .i64 xn, .int .i64 xs, .string xt] 23)).alloc (Nat.le_trans (unhide hL).size (by simp)) (.cells #[.int .i64 6, .int .i64 7, .int .i64 8] 3))
  go_wp2_with fail
  refine (unhide WI _).mono ?_
  rintro e wq ⟨rfl, rfl⟩
  have HNE := hide (rfl : nullE k = nullE k)
  have C1 := hide (fun W => null_right 7 k xn xs xt (by decide) (unhide OX) W)
  have C2 := hide (fun W => null_left 7 k xn xs xt (by decide) (unhide OX) W)
  have C3 := hide (fun W => null_neg k xn xs xt (unhide OX) W)
  have C4 := hide (fun W => unlike 7 (by decide) W)
  obtain ⟨ne, hne⟩ : ∃ ne, ne = nullE k := ⟨_, rfl⟩
  rw [← hne] at C1 C2
  have HN := hide hne
  clear hne HNE
  go_wp2_with fail
  refine (unhide C1 _).mono ?_
  rintro e w3 ⟨rfl, hb3⟩
  replace hX := hide (four_more (four_call (unhide hX) hb3) (.cells #[.int .i64 0, .int .i64 0, .int .i64 0, .string EZ] 23))
  have hv := hide (four_alloc (.int .i64 0) (.int .i64 0) (.int .i64 0) (.string EZ) 23 w3)
  replace hL := hide (((unhide hL).trans (hb3.mono (unhide hL).size)).alloc (Nat.le_trans (unhide hL).size hb3.size) (.cells #[.int .i64 0, .int .i64 0, .int .i64 0, .string EZ] 23))
  clear hb3
  obtain ⟨-, x0, x1, x2, x3, -⟩ := unhide hX
  go_wp2_with fail
  refine (unhide C2 _).mono ?_
  clear x0 x1 x2 x3
  rintro e w4 ⟨rfl, hb4⟩
  replace hX := hide (four_more (four_call (unhide hX) hb4) (.cells #[.int .i64 0, .int .i64 0, .int .i64 0, .string EZ] 23))
  replace hv := hide (four_more (four_call (unhide hv) hb4) (.cells #[.int .i64 0, .int .i64 0, .int .i64 0, .string EZ] 23))
  have hw := hide (four_alloc (.int .i64 0) (.int .i64 0) (.int .i64 0) (.string EZ) 23 w4)
  replace hL := hide (((unhide hL).trans (hb4.mono (unhide hL).size)).alloc (Nat.le_trans (unhide hL).size hb4.size) (.cells #[.int .i64 0, .int .i64 0, .int .i64 0, .string EZ] 23))
  clear hb4
  obtain ⟨-, x0, x1, x2, x3, -⟩ := unhide hX
  go_wp2_with fail
  refine (unhide C3 _).mono ?_
  clear x0 x1 x2 x3
  rintro e w5 ⟨rfl, hb5⟩
  replace hX := hide (four_more (four_call (unhide hX) hb5) (.cells #[.int .i64 0, .int .i64 0, .int .i64 0, .string EZ] 23))
  replace hv := hide (four_more (four_call (unhide hv) hb5) (.cells #[.int .i64 0, .int .i64 0, .int .i64 0, .string EZ] 23))
  replace hw := hide (four_more (four_call (unhide hw) hb5) (.cells #[.int .i64 0, .int .i64 0, .int .i64 0, .string EZ] 23))
  have hu := hide (four_alloc (.int .i64 0) (.int .i64 0) (.int .i64 0) (.string EZ) 23 w5)
  replace hL := hide (((unhide hL).trans (hb5.mono (unhide hL).size)).alloc (Nat.le_trans (unhide hL).size hb5.size) (.cells #[.int .i64 0, .int .i64 0, .int .i64 0, .string EZ] 23))
  clear hb5
  obtain ⟨-, x0, x1, x2, x3, -⟩ := unhide hX
  go_wp2_with fail
  refine (unhide C4 _).mono ?_
  clear x0 x1 x2 x3
  rintro e w6 ⟨rfl, hb6⟩
  replace hX := hide (four_more (four_call (unhide hX) hb6) (.cells #[.int .i64 0, .int .i64 0, .int .i64 0, .string EZ] 23))
  replace hv := hide (four_more (four_call (unhide hv) hb6) (.cells #[.int .i64 0, .int .i64 0, .int .i64 0, .string EZ] 23))
  replace hw := hide (four_more (four_call (unhide hw) hb6) (.cells #[.int .i64 0, .int .i64 0, .int .i64 0, .string EZ] 23))
  replace hu := hide (four_more (four_call (unhide hu) hb6) (.cells #[.int .i64 0, .int .i64 0, .int .i64 0, .string EZ] 23))
  have hz := hide (four_alloc (.int .i64 0) (.int .i64 0) (.int .i64 0) (.string EZ) 23 w6)
  replace hL := hide (((unhide hL).trans (hb6.mono (unhide hL).size)).alloc (Nat.le_trans (unhide hL).size hb6.size) (.cells #[.int .i64 0, .int .i64 0, .int .i64 0, .string EZ] 23))
  clear hb6
  obtain ⟨-, x0, -⟩ := unhide hX
  obtain ⟨-, p0, p1, p2, p3, -⟩ := unhide hv
  obtain ⟨-, q0, q1, q2, q3, -⟩ := unhide hw
  obtain ⟨-, r0, r1, r2, r3, -⟩ := unhide hu
  have hk := (unhide OX).1
  have hcase : k = 0 ∨ k = 1 ∨ k = 2 ∨ k = 3 ∨ k = 4 ∨ k = 5 := by omega
  have hne := unhide HN
  clear hk OX HN MX C1 C2 C3 C4 WI hX hv hw hu hz
  rcases hcase with rfl | rfl | rfl | rfl | rfl | rfl
  all_goals
    first | (have h5 : ne = 0 := hne.trans (by decide); subst h5; clear hne) | (have h5 : ne = 5 := hne.trans (by decide); subst h5; clear hne)
    go_wp2_with fail
    go_ret
    exact ⟨rfl, unhide hL⟩

set_option maxHeartbeats 8000000 in
set_option maxRecDepth 100000 in
theorem nulls_8 (kind n op : Int) (s : ByteArray) (w : World) (hs : s.size ≤ 100)
    (MX : Hid (∀ W, Calls Try.prog 11 #[.int .i64 kind, .int .i64 n, .string s] W fun e w' => Made e (kind % 6) ∧ Below W.heap.size W w'))
    (WI : Hid (∀ W, Calls Try.prog 14 #[.int .i64 op, .int .i64 3] W fun e w' => e = .returned (.int .i64 2) ∧ w' = W)) :
    Calls Try.prog 6 #[.int .i64 kind, .int .i64 n, .string s, .int .i64 op] w fun e w' => e = .returned (.bool true) ∧ Below w.heap.size w w' := by
  have hL := hide (Below.refl w.heap.size w)
  go_enter Try.func6, Try.ntmps6
  go_wp2_with fail
  refine (known_any _).mono ?_
  rintro e w1 ⟨rfl, hb1⟩
  replace hL := hide ((unhide hL).trans (hb1.mono (unhide hL).size))
  clear hb1
  go_wp2_with fail
  refine (unhide MX _).mono ?_
  rintro e w2 ⟨⟨xn, xs, xt, okx, rfl⟩, hb2⟩
  have OX := hide okx
  replace hL := hide ((unhide hL).trans (hb2.mono (unhide hL).size))
  clear hb2 okx
  generalize kind % 6 = k at *
  have hX := hide (four_more (four_alloc (.int .i64 k) (.int .i64 xn) (.int .i64 xs) (.string xt) 23 w2) (.cells #[.int .i64 6, .int .i64 7, .int .i64 8] 3))
  replace hL := hide (((unhide hL).alloc (unhide hL).size (.cells #[.int .i64 k, .int .i64 xn, .int .i64 xs, .string xt] 23)).alloc (Nat.le_trans (unhide hL).size (by simp)) (.cells #[.int .i64 6, .int .i64 7, .int .i64 8] 3))
  go_wp2_with fail
  refine (unhide WI _).mono ?_
  rintro e wq ⟨rfl, rfl⟩
  have HNE := hide (rfl : nullE k = nullE k)
  have C1 := hide (fun W => null_right 8 k xn xs xt (by decide) (unhide OX) W)
  have C2 := hide (fun W => null_left 8 k xn xs xt (by decide) (unhide OX) W)
  have C3 := hide (fun W => null_neg k xn xs xt (unhide OX) W)
  have C4 := hide (fun W => unlike 8 (by decide) W)
  obtain ⟨ne, hne⟩ : ∃ ne, ne = nullE k := ⟨_, rfl⟩
  rw [← hne] at C1 C2
  have HN := hide hne
  clear hne HNE
  go_wp2_with fail
  refine (unhide C1 _).mono ?_
  rintro e w3 ⟨rfl, hb3⟩
  replace hX := hide (four_more (four_call (unhide hX) hb3) (.cells #[.int .i64 0, .int .i64 0, .int .i64 0, .string EZ] 23))
  have hv := hide (four_alloc (.int .i64 0) (.int .i64 0) (.int .i64 0) (.string EZ) 23 w3)
  replace hL := hide (((unhide hL).trans (hb3.mono (unhide hL).size)).alloc (Nat.le_trans (unhide hL).size hb3.size) (.cells #[.int .i64 0, .int .i64 0, .int .i64 0, .string EZ] 23))
  clear hb3
  obtain ⟨-, x0, x1, x2, x3, -⟩ := unhide hX
  go_wp2_with fail
  refine (unhide C2 _).mono ?_
  clear x0 x1 x2 x3
  rintro e w4 ⟨rfl, hb4⟩
  replace hX := hide (four_more (four_call (unhide hX) hb4) (.cells #[.int .i64 0, .int .i64 0, .int .i64 0, .string EZ] 23))
  replace hv := hide (four_more (four_call (unhide hv) hb4) (.cells #[.int .i64 0, .int .i64 0, .int .i64 0, .string EZ] 23))
  have hw := hide (four_alloc (.int .i64 0) (.int .i64 0) (.int .i64 0) (.string EZ) 23 w4)
  replace hL := hide (((unhide hL).trans (hb4.mono (unhide hL).size)).alloc (Nat.le_trans (unhide hL).size hb4.size) (.cells #[.int .i64 0, .int .i64 0, .int .i64 0, .string EZ] 23))
  clear hb4
  obtain ⟨-, x0, x1, x2, x3, -⟩ := unhide hX
  go_wp2_with fail
  refine (unhide C3 _).mono ?_
  clear x0 x1 x2 x3
  rintro e w5 ⟨rfl, hb5⟩
  replace hX := hide (four_more (four_call (unhide hX) hb5) (.cells #[.int .i64 0, .int .i64 0, .int .i64 0, .string EZ] 23))
  replace hv := hide (four_more (four_call (unhide hv) hb5) (.cells #[.int .i64 0, .int .i64 0, .int .i64 0, .string EZ] 23))
  replace hw := hide (four_more (four_call (unhide hw) hb5) (.cells #[.int .i64 0, .int .i64 0, .int .i64 0, .string EZ] 23))
  have hu := hide (four_alloc (.int .i64 0) (.int .i64 0) (.int .i64 0) (.string EZ) 23 w5)
  replace hL := hide (((unhide hL).trans (hb5.mono (unhide hL).size)).alloc (Nat.le_trans (unhide hL).size hb5.size) (.cells #[.int .i64 0, .int .i64 0, .int .i64 0, .string EZ] 23))
  clear hb5
  obtain ⟨-, x0, x1, x2, x3, -⟩ := unhide hX
  go_wp2_with fail
  refine (unhide C4 _).mono ?_
  clear x0 x1 x2 x3
  rintro e w6 ⟨rfl, hb6⟩
  replace hX := hide (four_more (four_call (unhide hX) hb6) (.cells #[.int .i64 0, .int .i64 0, .int .i64 0, .string EZ] 23))
  replace hv := hide (four_more (four_call (unhide hv) hb6) (.cells #[.int .i64 0, .int .i64 0, .int .i64 0, .string EZ] 23))
  replace hw := hide (four_more (four_call (unhide hw) hb6) (.cells #[.int .i64 0, .int .i64 0, .int .i64 0, .string EZ] 23))
  replace hu := hide (four_more (four_call (unhide hu) hb6) (.cells #[.int .i64 0, .int .i64 0, .int .i64 0, .string EZ] 23))
  have hz := hide (four_alloc (.int .i64 0) (.int .i64 0) (.int .i64 0) (.string EZ) 23 w6)
  replace hL := hide (((unhide hL).trans (hb6.mono (unhide hL).size)).alloc (Nat.le_trans (unhide hL).size hb6.size) (.cells #[.int .i64 0, .int .i64 0, .int .i64 0, .string EZ] 23))
  clear hb6
  obtain ⟨-, x0, -⟩ := unhide hX
  obtain ⟨-, p0, p1, p2, p3, -⟩ := unhide hv
  obtain ⟨-, q0, q1, q2, q3, -⟩ := unhide hw
  obtain ⟨-, r0, r1, r2, r3, -⟩ := unhide hu
  have hk := (unhide OX).1
  have hcase : k = 0 ∨ k = 1 ∨ k = 2 ∨ k = 3 ∨ k = 4 ∨ k = 5 := by omega
  have hne := unhide HN
  clear hk OX HN MX C1 C2 C3 C4 WI hX hv hw hu hz
  rcases hcase with rfl | rfl | rfl | rfl | rfl | rfl
  all_goals
    first | (have h5 : ne = 0 := hne.trans (by decide); subst h5; clear hne) | (have h5 : ne = 5 := hne.trans (by decide); subst h5; clear hne)
    go_wp2_with fail
    go_ret
    exact ⟨rfl, unhide hL⟩

set_option maxHeartbeats 1000000 in
theorem nulls_long (kind n op : Int) (s : ByteArray) (w : World) (h : (100 : Int) < s.size) :
    Calls Try.prog 6 #[.int .i64 kind, .int .i64 n, .string s, .int .i64 op] w fun e w' => e = .returned (.bool true) ∧ Below w.heap.size w w' := by
  go_enter Try.func6, Try.ntmps6
  go_wp2_with fail
  refine (known_any _).mono ?_
  rintro e w1 ⟨rfl, hb1⟩
  go_wp2_with fail
  go_ret
  exact ⟨rfl, hb1⟩

theorem valNulls_walk (kind n : Int) (s : ByteArray) (op : Int) (wk : (Lit.int .i64 kind).wf = true) (wn : (Lit.int .i64 n).wf = true) (hs : s.size ≤ maxLen) (wo : (Lit.int .i64 op).wf = true) (w : World) :
    Calls Try.prog 6 #[.int .i64 kind, .int .i64 n, .string s, .int .i64 op] w fun e w' => e = .returned (.bool true) ∧ Below w.heap.size w w' := by
  unfold maxLen at hs
  by_cases h : s.size ≤ 100
  · have MX := fun W => make_any kind n s W (is64_wf wk) (is64_wf wn) hs
    have h3 : op % 3 = 0 ∨ op % 3 = 1 ∨ op % 3 = 2 := by omega
    rcases h3 with g | g | g
    · exact nulls_6 kind n op s w h MX (fun W => within1_at (is64_wf wo) (by decide) g W)
    · exact nulls_7 kind n op s w h MX (fun W => within1_at (is64_wf wo) (by decide) g W)
    · exact nulls_8 kind n op s w h MX (fun W => within1_at (is64_wf wo) (by decide) g W)
  · exact nulls_long kind n op s w (by omega)
end Go.Proofs.Ytofeecalpofklaa
