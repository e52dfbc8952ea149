/-
  What val.Less, val.Same return, and that the statements' own function known returns true.
-/
import Derived.Test.YtofeecalpofklaaO
import Derived.Test.YtofeecalpofklaaN
namespace Go.Proofs.Ytofeecalpofklaa
open Go.RowKit
set_option linter.unusedSimpArgs false
set_option linter.unusedVariables false

def oneK (k k' : Int) : Bool := k != 0 && k == k'
theorem oneKind_c (k n s : Int) (t : ByteArray) (k' n' s' : Int) (t' : ByteArray) (w : World) :
    Calls Try.prog 33 #[V k n s t, V k' n' s' t'] w fun e w' => e = .returned (.bool (oneK k k')) ∧ Below w.heap.size w w' := ofOneKind_any k n s t k' n' s' t' w
theorem tup_bb {a b c d : Bool} (h1 : a = b) (h2 : c = d) : Ending.returned (.tuple #[.bool a, .bool c]) = .returned (.tuple #[.bool b, .bool d]) := by rw [h1, h2]

set_option maxHeartbeats 800000 in
theorem less_any (k n s : Int) (t : ByteArray) (k' n' s' : Int) (t' : ByteArray) (w : World) (hn : Is64 n) (hn' : Is64 n') (hs : 0 ≤ s ∧ s ≤ 6) (hs' : 0 ≤ s' ∧ s' ≤ 6) :
    Calls Try.prog 18 #[V k n s t, V k' n' s' t'] w fun e w' =>
      e = .returned (.tuple #[.bool (oneK k k' && decide (ordV k n s t k' n' s' t' < 0)), .bool (oneK k k')]) ∧ Below w.heap.size w w' := by
  have CO := hide (fun W => order_any k n s t k' n' s' t' W hn hn' hs hs')
  have CK := hide (fun W => oneKind_c k n s t k' n' s' t' W)
  clear hn hn' hs hs'
  generalize ordV k n s t k' n' s' t' = o at *
  cases hk : oneK k k'
  all_goals
    rw [hk] at CK
    clear hk
    go_enter Try.func18, Try.ntmps18
    go_wp2_with fail
    refine (unhide CK _).mono ?_
    rintro e w1 ⟨rfl, hb1⟩
    have hz1 := hb1.size
    have HB1 := hide hb1
    obtain ⟨hc1, hf1⟩ := bcell hb1
    clear hb1
    simp at hz1
    go_wp2_with fail
  · go_ret2
    exact ⟨tup_bb rfl rfl, (((Below.refl _ _).alloc (Nat.le_refl _) _).alloc (by simp) _).trans ((unhide HB1).mono (by simp; omega))⟩
  · refine (unhide CO _).mono ?_
    rintro e w2 ⟨rfl, hb2⟩
    go_wp2_with fail
    go_ret2
    exact ⟨tup_bb rfl rfl, ((((Below.refl _ _).alloc (Nat.le_refl _) _).alloc (by simp) _).trans ((unhide HB1).mono (by simp; omega))).trans (hb2.mono (by omega))⟩

set_option maxHeartbeats 800000 in
theorem same_any (k n s : Int) (t : ByteArray) (k' n' s' : Int) (t' : ByteArray) (w : World) (hn : Is64 n) (hn' : Is64 n') (hs : 0 ≤ s ∧ s ≤ 6) (hs' : 0 ≤ s' ∧ s' ≤ 6) :
    Calls Try.prog 19 #[V k n s t, V k' n' s' t'] w fun e w' =>
      e = .returned (.tuple #[.bool (oneK k k' && (ordV k n s t k' n' s' t' == 0)), .bool (oneK k k')]) ∧ Below w.heap.size w w' := by
  have CO := hide (fun W => order_any k n s t k' n' s' t' W hn hn' hs hs')
  have CK := hide (fun W => oneKind_c k n s t k' n' s' t' W)
  clear hn hn' hs hs'
  generalize ordV k n s t k' n' s' t' = o at *
  cases hk : oneK k k'
  all_goals
    rw [hk] at CK
    clear hk
    go_enter Try.func19, Try.ntmps19
    go_wp2_with fail
    refine (unhide CK _).mono ?_
    rintro e w1 ⟨rfl, hb1⟩
    have hz1 := hb1.size
    have HB1 := hide hb1
    obtain ⟨hc1, hf1⟩ := bcell hb1
    clear hb1
    simp at hz1
    go_wp2_with fail
  · go_ret2
    exact ⟨tup_bb rfl rfl, (((Below.refl _ _).alloc (Nat.le_refl _) _).alloc (by simp) _).trans ((unhide HB1).mono (by simp; omega))⟩
  · refine (unhide CO _).mono ?_
    rintro e w2 ⟨rfl, hb2⟩
    go_wp2_with fail
    go_ret2
    exact ⟨tup_bb rfl rfl, ((((Below.refl _ _).alloc (Nat.le_refl _) _).alloc (by simp) _).trans ((unhide HB1).mono (by simp; omega))).trans (hb2.mono (by omega))⟩

theorem is64_lit {n : Int} (h : inI n = true) : Is64 n := is64_of h
abbrev EZ : ByteArray := ⟨#[]⟩
theorem less_a (w : World) : Calls Try.prog 18 #[V 2 1 0 EZ, V 2 2 0 EZ] w fun e w' => e = .returned (.tuple #[.bool true, .bool true]) ∧ Below w.heap.size w w' :=
  (less_any 2 1 0 EZ 2 2 0 EZ w (is64_lit (by decide +kernel)) (is64_lit (by decide +kernel)) (by decide) (by decide)).mono (fun _ _ h => ⟨h.1.trans (tup_bb (by decide +kernel) (by decide +kernel)), h.2⟩)
theorem less_b (w : World) : Calls Try.prog 18 #[V 2 1 0 EZ, V 0 0 0 EZ] w fun e w' => e = .returned (.tuple #[.bool false, .bool false]) ∧ Below w.heap.size w w' :=
  (less_any 2 1 0 EZ 0 0 0 EZ w (is64_lit (by decide +kernel)) (is64_lit (by decide +kernel)) (by decide) (by decide)).mono (fun _ _ h => ⟨h.1.trans (tup_bb (by decide +kernel) (by decide +kernel)), h.2⟩)
theorem order_a (w : World) : Calls Try.prog 17 #[V 2 1 0 EZ, V 2 2 0 EZ] w fun e w' => e = .returned (.int .i64 (-1)) ∧ Below w.heap.size w w' :=
  (order_any 2 1 0 EZ 2 2 0 EZ w (is64_lit (by decide +kernel)) (is64_lit (by decide +kernel)) (by decide) (by decide)).mono (fun _ _ h => ⟨h.1.trans (ret_int (by decide +kernel)), h.2⟩)
theorem right_a (w : World) : Calls Try.prog 12 #[V 2 1 0 EZ] w fun e w' => e = .returned (.bool true) ∧ Below w.heap.size w w' :=
  (right_any 2 1 0 EZ w (by decide)).mono (fun _ _ h => ⟨h.1.trans (ret_bool (by decide +kernel)), h.2⟩)
theorem recV_eq {r : (Int × Int × Int) × Int} {a b c d : Int} (h : r = ((a, b, c), d)) : Ending.returned (recV r) = .returned (.tuple #[V a b c E0, .int .i64 d]) := (retR h).symm
theorem reckon_a (w : World) : Calls Try.prog 23 #[.int .i64 7, V 2 1 0 EZ, V 2 2 0 EZ] w fun e w' => e = .returned (.tuple #[V 2 3 0 E0, .int .i64 0]) ∧ Below w.heap.size w w' :=
  (reckon_any 7 2 1 0 EZ 2 2 0 EZ w (is64_lit (by decide +kernel)) (is64_lit (by decide +kernel)) (by decide) (by decide)).mono (fun _ _ h => ⟨h.1.trans (recV_eq (by decide +kernel)), h.2⟩)
theorem norm_a (w : World) : Calls Try.prog 13 #[V 3 150 2 EZ] w fun e w' => e = .returned (V 3 15 1 EZ) ∧ Below w.heap.size w w' :=
  (norm_any 3 150 2 EZ w (is64_lit (by decide +kernel)) (is64_lit (by decide +kernel))).mono (fun _ _ h => ⟨h.1.trans (retV (by decide +kernel) (by decide +kernel)), h.2⟩)

set_option maxHeartbeats 2000000 in
set_option maxRecDepth 100000 in
theorem known_any (w : World) :
    Calls Try.prog 10 #[] w fun e w' => e = .returned (.bool true) ∧ Below w.heap.size w w' := by
  have hfld : ∀ wx : World, (Instr.field 23 (V 3 15 1 EZ) 1).run Try.prog wx = .ok (.int .i64 15) wx := fun _ => by kernel_rfl
  go_enter Try.func10, Try.ntmps10
  go_wp2_with fail
  refine (less_a _).mono ?_
  rintro e w1 ⟨rfl, hb1⟩
  have hA := four_more (four_alloc (.int .i64 2) (.int .i64 1) (.int .i64 0) (.string EZ) 23 w) (.cells #[.int .i64 2, .int .i64 2, .int .i64 0, .string EZ] 23)
  have hB := four_alloc (.int .i64 2) (.int .i64 2) (.int .i64 0) (.string EZ) 23 (w.alloc (.cells #[.int .i64 2, .int .i64 1, .int .i64 0, .string EZ] 23))
  rw [World.size_alloc] at hB
  have hL := ((((Below.refl _ w).alloc (Nat.le_refl _) (.cells #[.int .i64 2, .int .i64 1, .int .i64 0, .string EZ] 23)).alloc (by simp) (.cells #[.int .i64 2, .int .i64 2, .int .i64 0, .string EZ] 23)).trans (hb1.mono (by simp; omega)))
  replace hA := hide (four_call hA hb1)
  replace hB := hide (four_call hB hb1)
  replace hL := hide hL
  clear hb1
  obtain ⟨-, a0, a1, a2, a3, -⟩ := unhide hA
  obtain ⟨-, b0, b1, b2, b3, -⟩ := unhide hB
  go_wp2_with fail
  refine (less_b _).mono ?_
  rintro e w2 ⟨rfl, hb2⟩
  clear a0 a1 a2 a3 b0 b1 b2 b3
  replace hA := hide (four_call (unhide hA) hb2)
  replace hB := hide (four_call (unhide hB) hb2)
  replace hL := hide ((unhide hL).trans (hb2.mono (unhide hL).size))
  clear hb2
  obtain ⟨-, a0, a1, a2, a3, -⟩ := unhide hA
  obtain ⟨-, b0, b1, b2, b3, -⟩ := unhide hB
  go_wp2_with fail
  refine (reckon_a _).mono ?_
  rintro e w3 ⟨rfl, hb3⟩
  clear a0 a1 a2 a3 b0 b1 b2 b3
  replace hA := hide (four_more (four_call (unhide hA) hb3) (.cells #[.int .i64 2, .int .i64 3, .int .i64 0, .string E0] 23))
  replace hB := hide (four_more (four_call (unhide hB) hb3) (.cells #[.int .i64 2, .int .i64 3, .int .i64 0, .string E0] 23))
  have hC := hide (four_alloc (.int .i64 2) (.int .i64 3) (.int .i64 0) (.string E0) 23 w3)
  replace hL := hide (((unhide hL).trans (hb3.mono (unhide hL).size)).alloc (Nat.le_trans (unhide hL).size hb3.size) (.cells #[.int .i64 2, .int .i64 3, .int .i64 0, .string E0] 23))
  clear hb3
  obtain ⟨-, a0, a1, a2, a3, -⟩ := unhide hA
  obtain ⟨-, b0, b1, b2, b3, -⟩ := unhide hB
  obtain ⟨-, c0, c1, c2, c3, -⟩ := unhide hC
  go_wp2_with fail
  refine (right_a _).mono ?_
  rintro e w4 ⟨rfl, hb4⟩
  clear a0 a1 a2 a3 b0 b1 b2 b3 c0 c1 c2 c3
  replace hA := hide (four_call (unhide hA) hb4)
  replace hB := hide (four_call (unhide hB) hb4)
  replace hC := hide (four_call (unhide hC) hb4)
  replace hL := hide ((unhide hL).trans (hb4.mono (unhide hL).size))
  clear hb4
  obtain ⟨-, a0, a1, a2, a3, -⟩ := unhide hA
  obtain ⟨-, b0, b1, b2, b3, -⟩ := unhide hB
  obtain ⟨-, c0, c1, c2, c3, -⟩ := unhide hC
  go_wp2_with fail
  refine (order_a _).mono ?_
  rintro e w5 ⟨rfl, hb5⟩
  clear a0 a1 a2 a3 b0 b1 b2 b3 c0 c1 c2 c3
  replace hA := hide (four_call (unhide hA) hb5)
  replace hB := hide (four_call (unhide hB) hb5)
  replace hC := hide (four_call (unhide hC) hb5)
  replace hL := hide ((unhide hL).trans (hb5.mono (unhide hL).size))
  clear hb5
  obtain ⟨-, a0, a1, a2, a3, -⟩ := unhide hA
  obtain ⟨-, b0, b1, b2, b3, -⟩ := unhide hB
  obtain ⟨-, c0, c1, c2, c3, -⟩ := unhide hC
  go_wp2_with fail
  refine (norm_a _).mono ?_
  rintro e w6 ⟨rfl, hb6⟩
  clear a0 a1 a2 a3 b0 b1 b2 b3 c0 c1 c2 c3
  replace hA := hide (four_call (unhide hA) hb6)
  replace hB := hide (four_call (unhide hB) hb6)
  replace hC := hide (four_call (unhide hC) hb6)
  replace hL := hide ((unhide hL).trans (hb6.mono (unhide hL).size))
  clear hb6
  obtain ⟨-, a0, a1, a2, a3, -⟩ := unhide hA
  obtain ⟨-, b0, b1, b2, b3, -⟩ := unhide hB
  obtain ⟨-, c0, c1, c2, c3, -⟩ := unhide hC
  go_wp2_with fail
  go_ret
  exact ⟨rfl, unhide hL⟩
end Go.Proofs.Ytofeecalpofklaa
