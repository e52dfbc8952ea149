/-
  What the reference's function Reckon returns, by its cases.
-/
import Derived.Test.YtphnpcidndmlnaaZ3
namespace Go.Proofs.Ytphnpcidndmlnaa
open Go.RowKit
set_option linter.unusedSimpArgs false
set_option linter.unusedVariables false

theorem rnum_at (k n s : Int) (t : ByteArray) {b : Bool} (h : (k == 0 || k == 2 || k == 3) = b) (W : World) :
    Calls Try.prog 53 #[V k n s t] W fun e w' => e = .returned (.bool b) ∧ Below W.heap.size W w' := h ▸ rnumber_any k n s t W

set_option maxHeartbeats 2000000 in
set_option maxRecDepth 100000 in
theorem rk_no (k kx ky xn xs yn ys : Int) (xt yt : ByteArray) (w : World) (h4 : (k == 4) = false) (h6 : (k != 6) = true) (h7 : (k != 7) = true) (h8 : (k != 8) = true) :
    Calls Try.prog 30 #[.int .i64 k, V kx xn xs xt, V ky yn ys yt] w fun e w' => e = .returned (.tuple #[V 0 0 0 ⟨#[]⟩, .int .i64 5]) ∧ Below w.heap.size w w' := by
  have hA := hide (four_more (four_more (four_alloc (.int .i64 kx) (.int .i64 xn) (.int .i64 xs) (.string xt) 28 w) (.cells #[.int .i64 ky, .int .i64 yn, .int .i64 ys, .string yt] 28)) (.cells #[.int .i64 0, .int .i64 0, .int .i64 0, .string ⟨#[]⟩] 28))
  have hB := four_more (four_alloc (.int .i64 ky) (.int .i64 yn) (.int .i64 ys) (.string yt) 28 (w.alloc (.cells #[.int .i64 kx, .int .i64 xn, .int .i64 xs, .string xt] 28))) (.cells #[.int .i64 0, .int .i64 0, .int .i64 0, .string ⟨#[]⟩] 28)
  have hR := four_alloc (.int .i64 0) (.int .i64 0) (.int .i64 0) (.string ⟨#[]⟩) 28 ((w.alloc (.cells #[.int .i64 kx, .int .i64 xn, .int .i64 xs, .string xt] 28)).alloc (.cells #[.int .i64 ky, .int .i64 yn, .int .i64 ys, .string yt] 28))
  simp only [World.size_alloc] at hB hR
  replace hB := hide hB
  replace hR := hide hR
  have hL := hide ((((Below.refl _ w).alloc (Nat.le_refl _) (.cells #[.int .i64 kx, .int .i64 xn, .int .i64 xs, .string xt] 28)).alloc (by simp) (.cells #[.int .i64 ky, .int .i64 yn, .int .i64 ys, .string yt] 28)).alloc (by simp; omega) (.cells #[.int .i64 0, .int .i64 0, .int .i64 0, .string ⟨#[]⟩] 28))
  go_enter Try.func30, Try.ntmps30
  clear hA hB hR
  go_wp2_with fail
  exact bodyPost_ret (v := .tuple #[V 0 0 0 ⟨#[]⟩, .int .i64 5]) (by simp [results, Try.results30, go_sem]) rfl ⟨rfl, unhide hL⟩

set_option maxHeartbeats 2000000 in
set_option maxRecDepth 100000 in
theorem rk_6a (kx ky xn xs yn ys : Int) (xt yt : ByteArray) (w : World) (ha : (kx == 0 || kx == 2 || kx == 3) = false) :
    Calls Try.prog 30 #[.int .i64 6, V kx xn xs xt, V ky yn ys yt] w fun e w' => e = .returned (.tuple #[V 0 0 0 ⟨#[]⟩, .int .i64 5]) ∧ Below w.heap.size w w' := by
  have hA := hide (four_more (four_more (four_alloc (.int .i64 kx) (.int .i64 xn) (.int .i64 xs) (.string xt) 28 w) (.cells #[.int .i64 ky, .int .i64 yn, .int .i64 ys, .string yt] 28)) (.cells #[.int .i64 0, .int .i64 0, .int .i64 0, .string ⟨#[]⟩] 28))
  have hB := four_more (four_alloc (.int .i64 ky) (.int .i64 yn) (.int .i64 ys) (.string yt) 28 (w.alloc (.cells #[.int .i64 kx, .int .i64 xn, .int .i64 xs, .string xt] 28))) (.cells #[.int .i64 0, .int .i64 0, .int .i64 0, .string ⟨#[]⟩] 28)
  have hR := four_alloc (.int .i64 0) (.int .i64 0) (.int .i64 0) (.string ⟨#[]⟩) 28 ((w.alloc (.cells #[.int .i64 kx, .int .i64 xn, .int .i64 xs, .string xt] 28)).alloc (.cells #[.int .i64 ky, .int .i64 yn, .int .i64 ys, .string yt] 28))
  simp only [World.size_alloc] at hB hR
  replace hB := hide hB
  replace hR := hide hR
  have hL := hide ((((Below.refl _ w).alloc (Nat.le_refl _) (.cells #[.int .i64 kx, .int .i64 xn, .int .i64 xs, .string xt] 28)).alloc (by simp) (.cells #[.int .i64 ky, .int .i64 yn, .int .i64 ys, .string yt] 28)).alloc (by simp; omega) (.cells #[.int .i64 0, .int .i64 0, .int .i64 0, .string ⟨#[]⟩] 28))
  go_enter Try.func30, Try.ntmps30
  go_wp2_with fail
  refine (rnum_at _ _ _ _ ha _).mono ?_
  rintro e w9 ⟨rfl, hb9⟩
  replace hA := hide (four_call (unhide hA) hb9)
  replace hB := hide (four_call (unhide hB) hb9)
  replace hR := hide (four_call (unhide hR) hb9)
  replace hL := hide ((unhide hL).trans (hb9.mono (unhide hL).size))
  clear hb9
  clear hA hB
  obtain ⟨-, r0, r1, r2, r3, r4, r5, r6, r7⟩ := unhide hR
  go_wp2_with fail
  exact bodyPost_ret (v := .tuple #[V 0 0 0 ⟨#[]⟩, .int .i64 5]) (by simp [results, Try.results30, go_sem, r0, r1, r2, r3]) rfl ⟨rfl, (unhide hL).trans ((below_set4 (w.heap.size + 1 + 1) _ _ _ _ _).mono (by omega))⟩

set_option maxHeartbeats 2000000 in
set_option maxRecDepth 100000 in
theorem rk_6b (kx ky xn xs yn ys : Int) (xt yt : ByteArray) (w : World) (ha : (kx == 0 || kx == 2 || kx == 3) = true) (hb : (ky == 0 || ky == 2 || ky == 3) = false) :
    Calls Try.prog 30 #[.int .i64 6, V kx xn xs xt, V ky yn ys yt] w fun e w' => e = .returned (.tuple #[V 0 0 0 ⟨#[]⟩, .int .i64 5]) ∧ Below w.heap.size w w' := by
  have hA := hide (four_more (four_more (four_alloc (.int .i64 kx) (.int .i64 xn) (.int .i64 xs) (.string xt) 28 w) (.cells #[.int .i64 ky, .int .i64 yn, .int .i64 ys, .string yt] 28)) (.cells #[.int .i64 0, .int .i64 0, .int .i64 0, .string ⟨#[]⟩] 28))
  have hB := four_more (four_alloc (.int .i64 ky) (.int .i64 yn) (.int .i64 ys) (.string yt) 28 (w.alloc (.cells #[.int .i64 kx, .int .i64 xn, .int .i64 xs, .string xt] 28))) (.cells #[.int .i64 0, .int .i64 0, .int .i64 0, .string ⟨#[]⟩] 28)
  have hR := four_alloc (.int .i64 0) (.int .i64 0) (.int .i64 0) (.string ⟨#[]⟩) 28 ((w.alloc (.cells #[.int .i64 kx, .int .i64 xn, .int .i64 xs, .string xt] 28)).alloc (.cells #[.int .i64 ky, .int .i64 yn, .int .i64 ys, .string yt] 28))
  simp only [World.size_alloc] at hB hR
  replace hB := hide hB
  replace hR := hide hR
  have hL := hide ((((Below.refl _ w).alloc (Nat.le_refl _) (.cells #[.int .i64 kx, .int .i64 xn, .int .i64 xs, .string xt] 28)).alloc (by simp) (.cells #[.int .i64 ky, .int .i64 yn, .int .i64 ys, .string yt] 28)).alloc (by simp; omega) (.cells #[.int .i64 0, .int .i64 0, .int .i64 0, .string ⟨#[]⟩] 28))
  go_enter Try.func30, Try.ntmps30
  go_wp2_with fail
  refine (rnum_at _ _ _ _ ha _).mono ?_
  rintro e w10 ⟨rfl, hb10⟩
  replace hA := hide (four_call (unhide hA) hb10)
  replace hB := hide (four_call (unhide hB) hb10)
  replace hR := hide (four_call (unhide hR) hb10)
  replace hL := hide ((unhide hL).trans (hb10.mono (unhide hL).size))
  clear hb10
  obtain ⟨-, b0, b1, b2, b3, b4, b5, b6, b7⟩ := unhide hB
  go_wp2_with fail
  clear b0 b1 b2 b3 b4 b5 b6 b7
  refine (rnum_at _ _ _ _ hb _).mono ?_
  rintro e w11 ⟨rfl, hb11⟩
  replace hA := hide (four_call (unhide hA) hb11)
  replace hB := hide (four_call (unhide hB) hb11)
  replace hR := hide (four_call (unhide hR) hb11)
  replace hL := hide ((unhide hL).trans (hb11.mono (unhide hL).size))
  clear hb11
  clear hA hB
  obtain ⟨-, r0, r1, r2, r3, r4, r5, r6, r7⟩ := unhide hR
  go_wp2_with fail
  exact bodyPost_ret (v := .tuple #[V 0 0 0 ⟨#[]⟩, .int .i64 5]) (by simp [results, Try.results30, go_sem, r0, r1, r2, r3]) rfl ⟨rfl, (unhide hL).trans ((below_set4 (w.heap.size + 1 + 1) _ _ _ _ _).mono (by omega))⟩

set_option maxHeartbeats 2000000 in
set_option maxRecDepth 100000 in
theorem rk_6c (ky xn xs yn ys : Int) (xt yt : ByteArray) (w : World) (hb : (ky == 0 || ky == 2 || ky == 3) = true) :
    Calls Try.prog 30 #[.int .i64 6, V 0 xn xs xt, V ky yn ys yt] w fun e w' => e = .returned (.tuple #[V 0 0 0 ⟨#[]⟩, .int .i64 0]) ∧ Below w.heap.size w w' := by
  have hA := hide (four_more (four_more (four_alloc (.int .i64 0) (.int .i64 xn) (.int .i64 xs) (.string xt) 28 w) (.cells #[.int .i64 ky, .int .i64 yn, .int .i64 ys, .string yt] 28)) (.cells #[.int .i64 0, .int .i64 0, .int .i64 0, .string ⟨#[]⟩] 28))
  have hB := four_more (four_alloc (.int .i64 ky) (.int .i64 yn) (.int .i64 ys) (.string yt) 28 (w.alloc (.cells #[.int .i64 0, .int .i64 xn, .int .i64 xs, .string xt] 28))) (.cells #[.int .i64 0, .int .i64 0, .int .i64 0, .string ⟨#[]⟩] 28)
  have hR := four_alloc (.int .i64 0) (.int .i64 0) (.int .i64 0) (.string ⟨#[]⟩) 28 ((w.alloc (.cells #[.int .i64 0, .int .i64 xn, .int .i64 xs, .string xt] 28)).alloc (.cells #[.int .i64 ky, .int .i64 yn, .int .i64 ys, .string yt] 28))
  simp only [World.size_alloc] at hB hR
  replace hB := hide hB
  replace hR := hide hR
  have hL := hide ((((Below.refl _ w).alloc (Nat.le_refl _) (.cells #[.int .i64 0, .int .i64 xn, .int .i64 xs, .string xt] 28)).alloc (by simp) (.cells #[.int .i64 ky, .int .i64 yn, .int .i64 ys, .string yt] 28)).alloc (by simp; omega) (.cells #[.int .i64 0, .int .i64 0, .int .i64 0, .string ⟨#[]⟩] 28))
  go_enter Try.func30, Try.ntmps30
  go_wp2_with fail
  refine (rnum_at _ _ _ _ (by decide : ((0 : Int) == 0 || (0 : Int) == 2 || (0 : Int) == 3) = true) _).mono ?_
  rintro e w12 ⟨rfl, hb12⟩
  replace hA := hide (four_call (unhide hA) hb12)
  replace hB := hide (four_call (unhide hB) hb12)
  replace hR := hide (four_call (unhide hR) hb12)
  replace hL := hide ((unhide hL).trans (hb12.mono (unhide hL).size))
  clear hb12
  obtain ⟨-, b0, b1, b2, b3, b4, b5, b6, b7⟩ := unhide hB
  go_wp2_with fail
  clear b0 b1 b2 b3 b4 b5 b6 b7
  refine (rnum_at _ _ _ _ hb _).mono ?_
  rintro e w13 ⟨rfl, hb13⟩
  replace hA := hide (four_call (unhide hA) hb13)
  replace hB := hide (four_call (unhide hB) hb13)
  replace hR := hide (four_call (unhide hR) hb13)
  replace hL := hide ((unhide hL).trans (hb13.mono (unhide hL).size))
  clear hb13
  obtain ⟨-, a0, a1, a2, a3, a4, a5, a6, a7⟩ := unhide hA
  obtain ⟨-, b0, b1, b2, b3, b4, b5, b6, b7⟩ := unhide hB
  obtain ⟨-, r0, r1, r2, r3, r4, r5, r6, r7⟩ := unhide hR
  go_wp2_with fail
  exact bodyPost_ret (v := .tuple #[V 0 0 0 ⟨#[]⟩, .int .i64 0]) (by simp [results, Try.results30, go_sem, r0, r1, r2, r3]) rfl ⟨rfl, (unhide hL).trans ((below_set4 (w.heap.size + 1 + 1) _ _ _ _ _).mono (by omega))⟩

set_option maxHeartbeats 2000000 in
set_option maxRecDepth 100000 in
theorem rk_6d (kx xn xs yn ys : Int) (xt yt : ByteArray) (w : World) (ha : (kx == 0 || kx == 2 || kx == 3) = true) (h0 : (kx == 0) = false) :
    Calls Try.prog 30 #[.int .i64 6, V kx xn xs xt, V 0 yn ys yt] w fun e w' => e = .returned (.tuple #[V 0 0 0 ⟨#[]⟩, .int .i64 0]) ∧ Below w.heap.size w w' := by
  have hA := hide (four_more (four_more (four_alloc (.int .i64 kx) (.int .i64 xn) (.int .i64 xs) (.string xt) 28 w) (.cells #[.int .i64 0, .int .i64 yn, .int .i64 ys, .string yt] 28)) (.cells #[.int .i64 0, .int .i64 0, .int .i64 0, .string ⟨#[]⟩] 28))
  have hB := four_more (four_alloc (.int .i64 0) (.int .i64 yn) (.int .i64 ys) (.string yt) 28 (w.alloc (.cells #[.int .i64 kx, .int .i64 xn, .int .i64 xs, .string xt] 28))) (.cells #[.int .i64 0, .int .i64 0, .int .i64 0, .string ⟨#[]⟩] 28)
  have hR := four_alloc (.int .i64 0) (.int .i64 0) (.int .i64 0) (.string ⟨#[]⟩) 28 ((w.alloc (.cells #[.int .i64 kx, .int .i64 xn, .int .i64 xs, .string xt] 28)).alloc (.cells #[.int .i64 0, .int .i64 yn, .int .i64 ys, .string yt] 28))
  simp only [World.size_alloc] at hB hR
  replace hB := hide hB
  replace hR := hide hR
  have hL := hide ((((Below.refl _ w).alloc (Nat.le_refl _) (.cells #[.int .i64 kx, .int .i64 xn, .int .i64 xs, .string xt] 28)).alloc (by simp) (.cells #[.int .i64 0, .int .i64 yn, .int .i64 ys, .string yt] 28)).alloc (by simp; omega) (.cells #[.int .i64 0, .int .i64 0, .int .i64 0, .string ⟨#[]⟩] 28))
  go_enter Try.func30, Try.ntmps30
  go_wp2_with fail
  refine (rnum_at _ _ _ _ ha _).mono ?_
  rintro e w14 ⟨rfl, hb14⟩
  replace hA := hide (four_call (unhide hA) hb14)
  replace hB := hide (four_call (unhide hB) hb14)
  replace hR := hide (four_call (unhide hR) hb14)
  replace hL := hide ((unhide hL).trans (hb14.mono (unhide hL).size))
  clear hb14
  obtain ⟨-, b0, b1, b2, b3, b4, b5, b6, b7⟩ := unhide hB
  go_wp2_with fail
  clear b0 b1 b2 b3 b4 b5 b6 b7
  refine (rnum_at _ _ _ _ (by decide : ((0 : Int) == 0 || (0 : Int) == 2 || (0 : Int) == 3) = true) _).mono ?_
  rintro e w15 ⟨rfl, hb15⟩
  replace hA := hide (four_call (unhide hA) hb15)
  replace hB := hide (four_call (unhide hB) hb15)
  replace hR := hide (four_call (unhide hR) hb15)
  replace hL := hide ((unhide hL).trans (hb15.mono (unhide hL).size))
  clear hb15
  obtain ⟨-, a0, a1, a2, a3, a4, a5, a6, a7⟩ := unhide hA
  obtain ⟨-, b0, b1, b2, b3, b4, b5, b6, b7⟩ := unhide hB
  obtain ⟨-, r0, r1, r2, r3, r4, r5, r6, r7⟩ := unhide hR
  go_wp2_with fail
  exact bodyPost_ret (v := .tuple #[V 0 0 0 ⟨#[]⟩, .int .i64 0]) (by simp [results, Try.results30, go_sem, r0, r1, r2, r3]) rfl ⟨rfl, (unhide hL).trans ((below_set4 (w.heap.size + 1 + 1) _ _ _ _ _).mono (by omega))⟩

set_option maxHeartbeats 2000000 in
set_option maxRecDepth 100000 in
theorem rk_6e2 (xn xs yn ys : Int) (xt yt : ByteArray) (w : World) :
    Calls Try.prog 30 #[.int .i64 6, V 2 xn xs xt, V 3 yn ys yt] w fun e w' => e = .returned (.tuple #[V 0 0 0 ⟨#[]⟩, .int .i64 5]) ∧ Below w.heap.size w w' := by
  have hA := hide (four_more (four_more (four_alloc (.int .i64 2) (.int .i64 xn) (.int .i64 xs) (.string xt) 28 w) (.cells #[.int .i64 3, .int .i64 yn, .int .i64 ys, .string yt] 28)) (.cells #[.int .i64 0, .int .i64 0, .int .i64 0, .string ⟨#[]⟩] 28))
  have hB := four_more (four_alloc (.int .i64 3) (.int .i64 yn) (.int .i64 ys) (.string yt) 28 (w.alloc (.cells #[.int .i64 2, .int .i64 xn, .int .i64 xs, .string xt] 28))) (.cells #[.int .i64 0, .int .i64 0, .int .i64 0, .string ⟨#[]⟩] 28)
  have hR := four_alloc (.int .i64 0) (.int .i64 0) (.int .i64 0) (.string ⟨#[]⟩) 28 ((w.alloc (.cells #[.int .i64 2, .int .i64 xn, .int .i64 xs, .string xt] 28)).alloc (.cells #[.int .i64 3, .int .i64 yn, .int .i64 ys, .string yt] 28))
  simp only [World.size_alloc] at hB hR
  replace hB := hide hB
  replace hR := hide hR
  have hL := hide ((((Below.refl _ w).alloc (Nat.le_refl _) (.cells #[.int .i64 2, .int .i64 xn, .int .i64 xs, .string xt] 28)).alloc (by simp) (.cells #[.int .i64 3, .int .i64 yn, .int .i64 ys, .string yt] 28)).alloc (by simp; omega) (.cells #[.int .i64 0, .int .i64 0, .int .i64 0, .string ⟨#[]⟩] 28))
  go_enter Try.func30, Try.ntmps30
  go_wp2_with fail
  refine (rnum_at _ _ _ _ rfl _).mono ?_
  rintro e w16 ⟨rfl, hb16⟩
  replace hA := hide (four_call (unhide hA) hb16)
  replace hB := hide (four_call (unhide hB) hb16)
  replace hR := hide (four_call (unhide hR) hb16)
  replace hL := hide ((unhide hL).trans (hb16.mono (unhide hL).size))
  clear hb16
  obtain ⟨-, b0, b1, b2, b3, b4, b5, b6, b7⟩ := unhide hB
  go_wp2_with fail
  clear b0 b1 b2 b3 b4 b5 b6 b7
  refine (rnum_at _ _ _ _ rfl _).mono ?_
  rintro e w17 ⟨rfl, hb17⟩
  replace hA := hide (four_call (unhide hA) hb17)
  replace hB := hide (four_call (unhide hB) hb17)
  replace hR := hide (four_call (unhide hR) hb17)
  replace hL := hide ((unhide hL).trans (hb17.mono (unhide hL).size))
  clear hb17
  obtain ⟨-, a0, a1, a2, a3, a4, a5, a6, a7⟩ := unhide hA
  obtain ⟨-, b0, b1, b2, b3, b4, b5, b6, b7⟩ := unhide hB
  obtain ⟨-, r0, r1, r2, r3, r4, r5, r6, r7⟩ := unhide hR
  go_wp2_with fail
  exact bodyPost_ret (v := .tuple #[V 0 0 0 ⟨#[]⟩, .int .i64 5]) (by simp [results, Try.results30, go_sem, r0, r1, r2, r3]) rfl ⟨rfl, (unhide hL).trans ((below_set4 (w.heap.size + 1 + 1) _ _ _ _ _).mono (by omega))⟩

set_option maxHeartbeats 2000000 in
set_option maxRecDepth 100000 in
theorem rk_6e3 (xn xs yn ys : Int) (xt yt : ByteArray) (w : World) :
    Calls Try.prog 30 #[.int .i64 6, V 3 xn xs xt, V 2 yn ys yt] w fun e w' => e = .returned (.tuple #[V 0 0 0 ⟨#[]⟩, .int .i64 5]) ∧ Below w.heap.size w w' := by
  have hA := hide (four_more (four_more (four_alloc (.int .i64 3) (.int .i64 xn) (.int .i64 xs) (.string xt) 28 w) (.cells #[.int .i64 2, .int .i64 yn, .int .i64 ys, .string yt] 28)) (.cells #[.int .i64 0, .int .i64 0, .int .i64 0, .string ⟨#[]⟩] 28))
  have hB := four_more (four_alloc (.int .i64 2) (.int .i64 yn) (.int .i64 ys) (.string yt) 28 (w.alloc (.cells #[.int .i64 3, .int .i64 xn, .int .i64 xs, .string xt] 28))) (.cells #[.int .i64 0, .int .i64 0, .int .i64 0, .string ⟨#[]⟩] 28)
  have hR := four_alloc (.int .i64 0) (.int .i64 0) (.int .i64 0) (.string ⟨#[]⟩) 28 ((w.alloc (.cells #[.int .i64 3, .int .i64 xn, .int .i64 xs, .string xt] 28)).alloc (.cells #[.int .i64 2, .int .i64 yn, .int .i64 ys, .string yt] 28))
  simp only [World.size_alloc] at hB hR
  replace hB := hide hB
  replace hR := hide hR
  have hL := hide ((((Below.refl _ w).alloc (Nat.le_refl _) (.cells #[.int .i64 3, .int .i64 xn, .int .i64 xs, .string xt] 28)).alloc (by simp) (.cells #[.int .i64 2, .int .i64 yn, .int .i64 ys, .string yt] 28)).alloc (by simp; omega) (.cells #[.int .i64 0, .int .i64 0, .int .i64 0, .string ⟨#[]⟩] 28))
  go_enter Try.func30, Try.ntmps30
  go_wp2_with fail
  refine (rnum_at _ _ _ _ rfl _).mono ?_
  rintro e w18 ⟨rfl, hb18⟩
  replace hA := hide (four_call (unhide hA) hb18)
  replace hB := hide (four_call (unhide hB) hb18)
  replace hR := hide (four_call (unhide hR) hb18)
  replace hL := hide ((unhide hL).trans (hb18.mono (unhide hL).size))
  clear hb18
  obtain ⟨-, b0, b1, b2, b3, b4, b5, b6, b7⟩ := unhide hB
  go_wp2_with fail
  clear b0 b1 b2 b3 b4 b5 b6 b7
  refine (rnum_at _ _ _ _ rfl _).mono ?_
  rintro e w19 ⟨rfl, hb19⟩
  replace hA := hide (four_call (unhide hA) hb19)
  replace hB := hide (four_call (unhide hB) hb19)
  replace hR := hide (four_call (unhide hR) hb19)
  replace hL := hide ((unhide hL).trans (hb19.mono (unhide hL).size))
  clear hb19
  obtain ⟨-, a0, a1, a2, a3, a4, a5, a6, a7⟩ := unhide hA
  obtain ⟨-, b0, b1, b2, b3, b4, b5, b6, b7⟩ := unhide hB
  obtain ⟨-, r0, r1, r2, r3, r4, r5, r6, r7⟩ := unhide hR
  go_wp2_with fail
  exact bodyPost_ret (v := .tuple #[V 0 0 0 ⟨#[]⟩, .int .i64 5]) (by simp [results, Try.results30, go_sem, r0, r1, r2, r3]) rfl ⟨rfl, (unhide hL).trans ((below_set4 (w.heap.size + 1 + 1) _ _ _ _ _).mono (by omega))⟩

set_option maxHeartbeats 2000000 in
set_option maxRecDepth 100000 in
theorem rk_6f (ik je jn js xn xs yn ys : Int) (xt yt : ByteArray) (w : World) (CI : Hid (∀ W, Calls Try.prog 54 #[.int .i64 6, .int .i64 xn, .int .i64 yn] W fun e w' => e = .returned (.tuple #[V ik jn js ⟨#[]⟩, .int .i64 je]) ∧ Below W.heap.size W w')) :
    Calls Try.prog 30 #[.int .i64 6, V 2 xn xs xt, V 2 yn ys yt] w fun e w' => e = .returned (.tuple #[V ik jn js ⟨#[]⟩, .int .i64 je]) ∧ Below w.heap.size w w' := by
  have hA := hide (four_more (four_more (four_alloc (.int .i64 2) (.int .i64 xn) (.int .i64 xs) (.string xt) 28 w) (.cells #[.int .i64 2, .int .i64 yn, .int .i64 ys, .string yt] 28)) (.cells #[.int .i64 0, .int .i64 0, .int .i64 0, .string ⟨#[]⟩] 28))
  have hB := four_more (four_alloc (.int .i64 2) (.int .i64 yn) (.int .i64 ys) (.string yt) 28 (w.alloc (.cells #[.int .i64 2, .int .i64 xn, .int .i64 xs, .string xt] 28))) (.cells #[.int .i64 0, .int .i64 0, .int .i64 0, .string ⟨#[]⟩] 28)
  have hR := four_alloc (.int .i64 0) (.int .i64 0) (.int .i64 0) (.string ⟨#[]⟩) 28 ((w.alloc (.cells #[.int .i64 2, .int .i64 xn, .int .i64 xs, .string xt] 28)).alloc (.cells #[.int .i64 2, .int .i64 yn, .int .i64 ys, .string yt] 28))
  simp only [World.size_alloc] at hB hR
  replace hB := hide hB
  replace hR := hide hR
  have hL := hide ((((Below.refl _ w).alloc (Nat.le_refl _) (.cells #[.int .i64 2, .int .i64 xn, .int .i64 xs, .string xt] 28)).alloc (by simp) (.cells #[.int .i64 2, .int .i64 yn, .int .i64 ys, .string yt] 28)).alloc (by simp; omega) (.cells #[.int .i64 0, .int .i64 0, .int .i64 0, .string ⟨#[]⟩] 28))
  go_enter Try.func30, Try.ntmps30
  go_wp2_with fail
  refine (rnum_at _ _ _ _ rfl _).mono ?_
  rintro e w20 ⟨rfl, hb20⟩
  replace hA := hide (four_call (unhide hA) hb20)
  replace hB := hide (four_call (unhide hB) hb20)
  replace hR := hide (four_call (unhide hR) hb20)
  replace hL := hide ((unhide hL).trans (hb20.mono (unhide hL).size))
  clear hb20
  obtain ⟨-, b0, b1, b2, b3, b4, b5, b6, b7⟩ := unhide hB
  go_wp2_with fail
  clear b0 b1 b2 b3 b4 b5 b6 b7
  refine (rnum_at _ _ _ _ rfl _).mono ?_
  rintro e w21 ⟨rfl, hb21⟩
  replace hA := hide (four_call (unhide hA) hb21)
  replace hB := hide (four_call (unhide hB) hb21)
  replace hR := hide (four_call (unhide hR) hb21)
  replace hL := hide ((unhide hL).trans (hb21.mono (unhide hL).size))
  clear hb21
  obtain ⟨-, a0, a1, a2, a3, a4, a5, a6, a7⟩ := unhide hA
  obtain ⟨-, b0, b1, b2, b3, b4, b5, b6, b7⟩ := unhide hB
  go_wp2_with fail
  clear a0 a1 a2 a3 a4 a5 a6 a7 b0 b1 b2 b3 b4 b5 b6 b7
  refine (unhide CI _).mono ?_
  rintro e w22 ⟨rfl, hb22⟩
  replace hR := hide (four_call (unhide hR) hb22)
  replace hL := hide ((unhide hL).trans (hb22.mono (unhide hL).size))
  clear hb22
  clear hA hB
  obtain ⟨-, r0, r1, r2, r3, r4, r5, r6, r7⟩ := unhide hR
  go_wp2_with fail
  exact bodyPost_ret (v := .tuple #[V ik jn js ⟨#[]⟩, .int .i64 je]) (by simp [results, Try.results30, go_sem, r0, r1, r2, r3]) rfl ⟨rfl, (unhide hL).trans ((below_set4 (w.heap.size + 1 + 1) _ _ _ _ _).mono (by omega))⟩

set_option maxHeartbeats 2000000 in
set_option maxRecDepth 100000 in
theorem rk_6g (ik je jn js xn xs yn ys : Int) (w : World) (CI : Hid (∀ W, Calls Try.prog 55 #[.int .i64 6, V 3 xn xs ⟨#[]⟩, V 3 yn ys ⟨#[]⟩] W fun e w' => e = .returned (.tuple #[V ik jn js ⟨#[]⟩, .int .i64 je]) ∧ Below W.heap.size W w')) :
    Calls Try.prog 30 #[.int .i64 6, V 3 xn xs ⟨#[]⟩, V 3 yn ys ⟨#[]⟩] w fun e w' => e = .returned (.tuple #[V ik jn js ⟨#[]⟩, .int .i64 je]) ∧ Below w.heap.size w w' := by
  have hA := hide (four_more (four_more (four_alloc (.int .i64 3) (.int .i64 xn) (.int .i64 xs) (.string ⟨#[]⟩) 28 w) (.cells #[.int .i64 3, .int .i64 yn, .int .i64 ys, .string ⟨#[]⟩] 28)) (.cells #[.int .i64 0, .int .i64 0, .int .i64 0, .string ⟨#[]⟩] 28))
  have hB := four_more (four_alloc (.int .i64 3) (.int .i64 yn) (.int .i64 ys) (.string ⟨#[]⟩) 28 (w.alloc (.cells #[.int .i64 3, .int .i64 xn, .int .i64 xs, .string ⟨#[]⟩] 28))) (.cells #[.int .i64 0, .int .i64 0, .int .i64 0, .string ⟨#[]⟩] 28)
  have hR := four_alloc (.int .i64 0) (.int .i64 0) (.int .i64 0) (.string ⟨#[]⟩) 28 ((w.alloc (.cells #[.int .i64 3, .int .i64 xn, .int .i64 xs, .string ⟨#[]⟩] 28)).alloc (.cells #[.int .i64 3, .int .i64 yn, .int .i64 ys, .string ⟨#[]⟩] 28))
  simp only [World.size_alloc] at hB hR
  replace hB := hide hB
  replace hR := hide hR
  have hL := hide ((((Below.refl _ w).alloc (Nat.le_refl _) (.cells #[.int .i64 3, .int .i64 xn, .int .i64 xs, .string ⟨#[]⟩] 28)).alloc (by simp) (.cells #[.int .i64 3, .int .i64 yn, .int .i64 ys, .string ⟨#[]⟩] 28)).alloc (by simp; omega) (.cells #[.int .i64 0, .int .i64 0, .int .i64 0, .string ⟨#[]⟩] 28))
  go_enter Try.func30, Try.ntmps30
  go_wp2_with fail
  refine (rnum_at _ _ _ _ rfl _).mono ?_
  rintro e w23 ⟨rfl, hb23⟩
  replace hA := hide (four_call (unhide hA) hb23)
  replace hB := hide (four_call (unhide hB) hb23)
  replace hR := hide (four_call (unhide hR) hb23)
  replace hL := hide ((unhide hL).trans (hb23.mono (unhide hL).size))
  clear hb23
  obtain ⟨-, b0, b1, b2, b3, b4, b5, b6, b7⟩ := unhide hB
  go_wp2_with fail
  clear b0 b1 b2 b3 b4 b5 b6 b7
  refine (rnum_at _ _ _ _ rfl _).mono ?_
  rintro e w24 ⟨rfl, hb24⟩
  replace hA := hide (four_call (unhide hA) hb24)
  replace hB := hide (four_call (unhide hB) hb24)
  replace hR := hide (four_call (unhide hR) hb24)
  replace hL := hide ((unhide hL).trans (hb24.mono (unhide hL).size))
  clear hb24
  obtain ⟨-, a0, a1, a2, a3, a4, a5, a6, a7⟩ := unhide hA
  obtain ⟨-, b0, b1, b2, b3, b4, b5, b6, b7⟩ := unhide hB
  go_wp2_with fail
  clear a0 a1 a2 a3 a4 a5 a6 a7 b0 b1 b2 b3 b4 b5 b6 b7
  refine (unhide CI _).mono ?_
  rintro e w25 ⟨rfl, hb25⟩
  replace hR := hide (four_call (unhide hR) hb25)
  replace hL := hide ((unhide hL).trans (hb25.mono (unhide hL).size))
  clear hb25
  clear hA hB
  obtain ⟨-, r0, r1, r2, r3, r4, r5, r6, r7⟩ := unhide hR
  go_wp2_with fail
  exact bodyPost_ret (v := .tuple #[V ik jn js ⟨#[]⟩, .int .i64 je]) (by simp [results, Try.results30, go_sem, r0, r1, r2, r3]) rfl ⟨rfl, (unhide hL).trans ((below_set4 (w.heap.size + 1 + 1) _ _ _ _ _).mono (by omega))⟩

set_option maxHeartbeats 2000000 in
set_option maxRecDepth 100000 in
theorem rk_7a (kx ky xn xs yn ys : Int) (xt yt : ByteArray) (w : World) (ha : (kx == 0 || kx == 2 || kx == 3) = false) :
    Calls Try.prog 30 #[.int .i64 7, V kx xn xs xt, V ky yn ys yt] w fun e w' => e = .returned (.tuple #[V 0 0 0 ⟨#[]⟩, .int .i64 5]) ∧ Below w.heap.size w w' := by
  have hA := hide (four_more (four_more (four_alloc (.int .i64 kx) (.int .i64 xn) (.int .i64 xs) (.string xt) 28 w) (.cells #[.int .i64 ky, .int .i64 yn, .int .i64 ys, .string yt] 28)) (.cells #[.int .i64 0, .int .i64 0, .int .i64 0, .string ⟨#[]⟩] 28))
  have hB := four_more (four_alloc (.int .i64 ky) (.int .i64 yn) (.int .i64 ys) (.string yt) 28 (w.alloc (.cells #[.int .i64 kx, .int .i64 xn, .int .i64 xs, .string xt] 28))) (.cells #[.int .i64 0, .int .i64 0, .int .i64 0, .string ⟨#[]⟩] 28)
  have hR := four_alloc (.int .i64 0) (.int .i64 0) (.int .i64 0) (.string ⟨#[]⟩) 28 ((w.alloc (.cells #[.int .i64 kx, .int .i64 xn, .int .i64 xs, .string xt] 28)).alloc (.cells #[.int .i64 ky, .int .i64 yn, .int .i64 ys, .string yt] 28))
  simp only [World.size_alloc] at hB hR
  replace hB := hide hB
  replace hR := hide hR
  have hL := hide ((((Below.refl _ w).alloc (Nat.le_refl _) (.cells #[.int .i64 kx, .int .i64 xn, .int .i64 xs, .string xt] 28)).alloc (by simp) (.cells #[.int .i64 ky, .int .i64 yn, .int .i64 ys, .string yt] 28)).alloc (by simp; omega) (.cells #[.int .i64 0, .int .i64 0, .int .i64 0, .string ⟨#[]⟩] 28))
  go_enter Try.func30, Try.ntmps30
  go_wp2_with fail
  refine (rnum_at _ _ _ _ ha _).mono ?_
  rintro e w26 ⟨rfl, hb26⟩
  replace hA := hide (four_call (unhide hA) hb26)
  replace hB := hide (four_call (unhide hB) hb26)
  replace hR := hide (four_call (unhide hR) hb26)
  replace hL := hide ((unhide hL).trans (hb26.mono (unhide hL).size))
  clear hb26
  clear hA hB
  obtain ⟨-, r0, r1, r2, r3, r4, r5, r6, r7⟩ := unhide hR
  go_wp2_with fail
  exact bodyPost_ret (v := .tuple #[V 0 0 0 ⟨#[]⟩, .int .i64 5]) (by simp [results, Try.results30, go_sem, r0, r1, r2, r3]) rfl ⟨rfl, (unhide hL).trans ((below_set4 (w.heap.size + 1 + 1) _ _ _ _ _).mono (by omega))⟩

set_option maxHeartbeats 2000000 in
set_option maxRecDepth 100000 in
theorem rk_7b (kx ky xn xs yn ys : Int) (xt yt : ByteArray) (w : World) (ha : (kx == 0 || kx == 2 || kx == 3) = true) (hb : (ky == 0 || ky == 2 || ky == 3) = false) :
    Calls Try.prog 30 #[.int .i64 7, V kx xn xs xt, V ky yn ys yt] w fun e w' => e = .returned (.tuple #[V 0 0 0 ⟨#[]⟩, .int .i64 5]) ∧ Below w.heap.size w w' := by
  have hA := hide (four_more (four_more (four_alloc (.int .i64 kx) (.int .i64 xn) (.int .i64 xs) (.string xt) 28 w) (.cells #[.int .i64 ky, .int .i64 yn, .int .i64 ys, .string yt] 28)) (.cells #[.int .i64 0, .int .i64 0, .int .i64 0, .string ⟨#[]⟩] 28))
  have hB := four_more (four_alloc (.int .i64 ky) (.int .i64 yn) (.int .i64 ys) (.string yt) 28 (w.alloc (.cells #[.int .i64 kx, .int .i64 xn, .int .i64 xs, .string xt] 28))) (.cells #[.int .i64 0, .int .i64 0, .int .i64 0, .string ⟨#[]⟩] 28)
  have hR := four_alloc (.int .i64 0) (.int .i64 0) (.int .i64 0) (.string ⟨#[]⟩) 28 ((w.alloc (.cells #[.int .i64 kx, .int .i64 xn, .int .i64 xs, .string xt] 28)).alloc (.cells #[.int .i64 ky, .int .i64 yn, .int .i64 ys, .string yt] 28))
  simp only [World.size_alloc] at hB hR
  replace hB := hide hB
  replace hR := hide hR
  have hL := hide ((((Below.refl _ w).alloc (Nat.le_refl _) (.cells #[.int .i64 kx, .int .i64 xn, .int .i64 xs, .string xt] 28)).alloc (by simp) (.cells #[.int .i64 ky, .int .i64 yn, .int .i64 ys, .string yt] 28)).alloc (by simp; omega) (.cells #[.int .i64 0, .int .i64 0, .int .i64 0, .string ⟨#[]⟩] 28))
  go_enter Try.func30, Try.ntmps30
  go_wp2_with fail
  refine (rnum_at _ _ _ _ ha _).mono ?_
  rintro e w27 ⟨rfl, hb27⟩
  replace hA := hide (four_call (unhide hA) hb27)
  replace hB := hide (four_call (unhide hB) hb27)
  replace hR := hide (four_call (unhide hR) hb27)
  replace hL := hide ((unhide hL).trans (hb27.mono (unhide hL).size))
  clear hb27
  obtain ⟨-, b0, b1, b2, b3, b4, b5, b6, b7⟩ := unhide hB
  go_wp2_with fail
  clear b0 b1 b2 b3 b4 b5 b6 b7
  refine (rnum_at _ _ _ _ hb _).mono ?_
  rintro e w28 ⟨rfl, hb28⟩
  replace hA := hide (four_call (unhide hA) hb28)
  replace hB := hide (four_call (unhide hB) hb28)
  replace hR := hide (four_call (unhide hR) hb28)
  replace hL := hide ((unhide hL).trans (hb28.mono (unhide hL).size))
  clear hb28
  clear hA hB
  obtain ⟨-, r0, r1, r2, r3, r4, r5, r6, r7⟩ := unhide hR
  go_wp2_with fail
  exact bodyPost_ret (v := .tuple #[V 0 0 0 ⟨#[]⟩, .int .i64 5]) (by simp [results, Try.results30, go_sem, r0, r1, r2, r3]) rfl ⟨rfl, (unhide hL).trans ((below_set4 (w.heap.size + 1 + 1) _ _ _ _ _).mono (by omega))⟩

set_option maxHeartbeats 2000000 in
set_option maxRecDepth 100000 in
theorem rk_7c (ky xn xs yn ys : Int) (xt yt : ByteArray) (w : World) (hb : (ky == 0 || ky == 2 || ky == 3) = true) :
    Calls Try.prog 30 #[.int .i64 7, V 0 xn xs xt, V ky yn ys yt] w fun e w' => e = .returned (.tuple #[V 0 0 0 ⟨#[]⟩, .int .i64 0]) ∧ Below w.heap.size w w' := by
  have hA := hide (four_more (four_more (four_alloc (.int .i64 0) (.int .i64 xn) (.int .i64 xs) (.string xt) 28 w) (.cells #[.int .i64 ky, .int .i64 yn, .int .i64 ys, .string yt] 28)) (.cells #[.int .i64 0, .int .i64 0, .int .i64 0, .string ⟨#[]⟩] 28))
  have hB := four_more (four_alloc (.int .i64 ky) (.int .i64 yn) (.int .i64 ys) (.string yt) 28 (w.alloc (.cells #[.int .i64 0, .int .i64 xn, .int .i64 xs, .string xt] 28))) (.cells #[.int .i64 0, .int .i64 0, .int .i64 0, .string ⟨#[]⟩] 28)
  have hR := four_alloc (.int .i64 0) (.int .i64 0) (.int .i64 0) (.string ⟨#[]⟩) 28 ((w.alloc (.cells #[.int .i64 0, .int .i64 xn, .int .i64 xs, .string xt] 28)).alloc (.cells #[.int .i64 ky, .int .i64 yn, .int .i64 ys, .string yt] 28))
  simp only [World.size_alloc] at hB hR
  replace hB := hide hB
  replace hR := hide hR
  have hL := hide ((((Below.refl _ w).alloc (Nat.le_refl _) (.cells #[.int .i64 0, .int .i64 xn, .int .i64 xs, .string xt] 28)).alloc (by simp) (.cells #[.int .i64 ky, .int .i64 yn, .int .i64 ys, .string yt] 28)).alloc (by simp; omega) (.cells #[.int .i64 0, .int .i64 0, .int .i64 0, .string ⟨#[]⟩] 28))
  go_enter Try.func30, Try.ntmps30
  go_wp2_with fail
  refine (rnum_at _ _ _ _ (by decide : ((0 : Int) == 0 || (0 : Int) == 2 || (0 : Int) == 3) = true) _).mono ?_
  rintro e w29 ⟨rfl, hb29⟩
  replace hA := hide (four_call (unhide hA) hb29)
  replace hB := hide (four_call (unhide hB) hb29)
  replace hR := hide (four_call (unhide hR) hb29)
  replace hL := hide ((unhide hL).trans (hb29.mono (unhide hL).size))
  clear hb29
  obtain ⟨-, b0, b1, b2, b3, b4, b5, b6, b7⟩ := unhide hB
  go_wp2_with fail
  clear b0 b1 b2 b3 b4 b5 b6 b7
  refine (rnum_at _ _ _ _ hb _).mono ?_
  rintro e w30 ⟨rfl, hb30⟩
  replace hA := hide (four_call (unhide hA) hb30)
  replace hB := hide (four_call (unhide hB) hb30)
  replace hR := hide (four_call (unhide hR) hb30)
  replace hL := hide ((unhide hL).trans (hb30.mono (unhide hL).size))
  clear hb30
  obtain ⟨-, a0, a1, a2, a3, a4, a5, a6, a7⟩ := unhide hA
  obtain ⟨-, b0, b1, b2, b3, b4, b5, b6, b7⟩ := unhide hB
  obtain ⟨-, r0, r1, r2, r3, r4, r5, r6, r7⟩ := unhide hR
  go_wp2_with fail
  exact bodyPost_ret (v := .tuple #[V 0 0 0 ⟨#[]⟩, .int .i64 0]) (by simp [results, Try.results30, go_sem, r0, r1, r2, r3]) rfl ⟨rfl, (unhide hL).trans ((below_set4 (w.heap.size + 1 + 1) _ _ _ _ _).mono (by omega))⟩

set_option maxHeartbeats 2000000 in
set_option maxRecDepth 100000 in
theorem rk_7d (kx xn xs yn ys : Int) (xt yt : ByteArray) (w : World) (ha : (kx == 0 || kx == 2 || kx == 3) = true) (h0 : (kx == 0) = false) :
    Calls Try.prog 30 #[.int .i64 7, V kx xn xs xt, V 0 yn ys yt] w fun e w' => e = .returned (.tuple #[V 0 0 0 ⟨#[]⟩, .int .i64 0]) ∧ Below w.heap.size w w' := by
  have hA := hide (four_more (four_more (four_alloc (.int .i64 kx) (.int .i64 xn) (.int .i64 xs) (.string xt) 28 w) (.cells #[.int .i64 0, .int .i64 yn, .int .i64 ys, .string yt] 28)) (.cells #[.int .i64 0, .int .i64 0, .int .i64 0, .string ⟨#[]⟩] 28))
  have hB := four_more (four_alloc (.int .i64 0) (.int .i64 yn) (.int .i64 ys) (.string yt) 28 (w.alloc (.cells #[.int .i64 kx, .int .i64 xn, .int .i64 xs, .string xt] 28))) (.cells #[.int .i64 0, .int .i64 0, .int .i64 0, .string ⟨#[]⟩] 28)
  have hR := four_alloc (.int .i64 0) (.int .i64 0) (.int .i64 0) (.string ⟨#[]⟩) 28 ((w.alloc (.cells #[.int .i64 kx, .int .i64 xn, .int .i64 xs, .string xt] 28)).alloc (.cells #[.int .i64 0, .int .i64 yn, .int .i64 ys, .string yt] 28))
  simp only [World.size_alloc] at hB hR
  replace hB := hide hB
  replace hR := hide hR
  have hL := hide ((((Below.refl _ w).alloc (Nat.le_refl _) (.cells #[.int .i64 kx, .int .i64 xn, .int .i64 xs, .string xt] 28)).alloc (by simp) (.cells #[.int .i64 0, .int .i64 yn, .int .i64 ys, .string yt] 28)).alloc (by simp; omega) (.cells #[.int .i64 0, .int .i64 0, .int .i64 0, .string ⟨#[]⟩] 28))
  go_enter Try.func30, Try.ntmps30
  go_wp2_with fail
  refine (rnum_at _ _ _ _ ha _).mono ?_
  rintro e w31 ⟨rfl, hb31⟩
  replace hA := hide (four_call (unhide hA) hb31)
  replace hB := hide (four_call (unhide hB) hb31)
  replace hR := hide (four_call (unhide hR) hb31)
  replace hL := hide ((unhide hL).trans (hb31.mono (unhide hL).size))
  clear hb31
  obtain ⟨-, b0, b1, b2, b3, b4, b5, b6, b7⟩ := unhide hB
  go_wp2_with fail
  clear b0 b1 b2 b3 b4 b5 b6 b7
  refine (rnum_at _ _ _ _ (by decide : ((0 : Int) == 0 || (0 : Int) == 2 || (0 : Int) == 3) = true) _).mono ?_
  rintro e w32 ⟨rfl, hb32⟩
  replace hA := hide (four_call (unhide hA) hb32)
  replace hB := hide (four_call (unhide hB) hb32)
  replace hR := hide (four_call (unhide hR) hb32)
  replace hL := hide ((unhide hL).trans (hb32.mono (unhide hL).size))
  clear hb32
  obtain ⟨-, a0, a1, a2, a3, a4, a5, a6, a7⟩ := unhide hA
  obtain ⟨-, b0, b1, b2, b3, b4, b5, b6, b7⟩ := unhide hB
  obtain ⟨-, r0, r1, r2, r3, r4, r5, r6, r7⟩ := unhide hR
  go_wp2_with fail
  exact bodyPost_ret (v := .tuple #[V 0 0 0 ⟨#[]⟩, .int .i64 0]) (by simp [results, Try.results30, go_sem, r0, r1, r2, r3]) rfl ⟨rfl, (unhide hL).trans ((below_set4 (w.heap.size + 1 + 1) _ _ _ _ _).mono (by omega))⟩

set_option maxHeartbeats 2000000 in
set_option maxRecDepth 100000 in
theorem rk_7e2 (xn xs yn ys : Int) (xt yt : ByteArray) (w : World) :
    Calls Try.prog 30 #[.int .i64 7, V 2 xn xs xt, V 3 yn ys yt] w fun e w' => e = .returned (.tuple #[V 0 0 0 ⟨#[]⟩, .int .i64 5]) ∧ Below w.heap.size w w' := by
  have hA := hide (four_more (four_more (four_alloc (.int .i64 2) (.int .i64 xn) (.int .i64 xs) (.string xt) 28 w) (.cells #[.int .i64 3, .int .i64 yn, .int .i64 ys, .string yt] 28)) (.cells #[.int .i64 0, .int .i64 0, .int .i64 0, .string ⟨#[]⟩] 28))
  have hB := four_more (four_alloc (.int .i64 3) (.int .i64 yn) (.int .i64 ys) (.string yt) 28 (w.alloc (.cells #[.int .i64 2, .int .i64 xn, .int .i64 xs, .string xt] 28))) (.cells #[.int .i64 0, .int .i64 0, .int .i64 0, .string ⟨#[]⟩] 28)
  have hR := four_alloc (.int .i64 0) (.int .i64 0) (.int .i64 0) (.string ⟨#[]⟩) 28 ((w.alloc (.cells #[.int .i64 2, .int .i64 xn, .int .i64 xs, .string xt] 28)).alloc (.cells #[.int .i64 3, .int .i64 yn, .int .i64 ys, .string yt] 28))
  simp only [World.size_alloc] at hB hR
  replace hB := hide hB
  replace hR := hide hR
  have hL := hide ((((Below.refl _ w).alloc (Nat.le_refl _) (.cells #[.int .i64 2, .int .i64 xn, .int .i64 xs, .string xt] 28)).alloc (by simp) (.cells #[.int .i64 3, .int .i64 yn, .int .i64 ys, .string yt] 28)).alloc (by simp; omega) (.cells #[.int .i64 0, .int .i64 0, .int .i64 0, .string ⟨#[]⟩] 28))
  go_enter Try.func30, Try.ntmps30
  go_wp2_with fail
  refine (rnum_at _ _ _ _ rfl _).mono ?_
  rintro e w33 ⟨rfl, hb33⟩
  replace hA := hide (four_call (unhide hA) hb33)
  replace hB := hide (four_call (unhide hB) hb33)
  replace hR := hide (four_call (unhide hR) hb33)
  replace hL := hide ((unhide hL).trans (hb33.mono (unhide hL).size))
  clear hb33
  obtain ⟨-, b0, b1, b2, b3, b4, b5, b6, b7⟩ := unhide hB
  go_wp2_with fail
  clear b0 b1 b2 b3 b4 b5 b6 b7
  refine (rnum_at _ _ _ _ rfl _).mono ?_
  rintro e w34 ⟨rfl, hb34⟩
  replace hA := hide (four_call (unhide hA) hb34)
  replace hB := hide (four_call (unhide hB) hb34)
  replace hR := hide (four_call (unhide hR) hb34)
  replace hL := hide ((unhide hL).trans (hb34.mono (unhide hL).size))
  clear hb34
  obtain ⟨-, a0, a1, a2, a3, a4, a5, a6, a7⟩ := unhide hA
  obtain ⟨-, b0, b1, b2, b3, b4, b5, b6, b7⟩ := unhide hB
  obtain ⟨-, r0, r1, r2, r3, r4, r5, r6, r7⟩ := unhide hR
  go_wp2_with fail
  exact bodyPost_ret (v := .tuple #[V 0 0 0 ⟨#[]⟩, .int .i64 5]) (by simp [results, Try.results30, go_sem, r0, r1, r2, r3]) rfl ⟨rfl, (unhide hL).trans ((below_set4 (w.heap.size + 1 + 1) _ _ _ _ _).mono (by omega))⟩

set_option maxHeartbeats 2000000 in
set_option maxRecDepth 100000 in
theorem rk_7e3 (xn xs yn ys : Int) (xt yt : ByteArray) (w : World) :
    Calls Try.prog 30 #[.int .i64 7, V 3 xn xs xt, V 2 yn ys yt] w fun e w' => e = .returned (.tuple #[V 0 0 0 ⟨#[]⟩, .int .i64 5]) ∧ Below w.heap.size w w' := by
  have hA := hide (four_more (four_more (four_alloc (.int .i64 3) (.int .i64 xn) (.int .i64 xs) (.string xt) 28 w) (.cells #[.int .i64 2, .int .i64 yn, .int .i64 ys, .string yt] 28)) (.cells #[.int .i64 0, .int .i64 0, .int .i64 0, .string ⟨#[]⟩] 28))
  have hB := four_more (four_alloc (.int .i64 2) (.int .i64 yn) (.int .i64 ys) (.string yt) 28 (w.alloc (.cells #[.int .i64 3, .int .i64 xn, .int .i64 xs, .string xt] 28))) (.cells #[.int .i64 0, .int .i64 0, .int .i64 0, .string ⟨#[]⟩] 28)
  have hR := four_alloc (.int .i64 0) (.int .i64 0) (.int .i64 0) (.string ⟨#[]⟩) 28 ((w.alloc (.cells #[.int .i64 3, .int .i64 xn, .int .i64 xs, .string xt] 28)).alloc (.cells #[.int .i64 2, .int .i64 yn, .int .i64 ys, .string yt] 28))
  simp only [World.size_alloc] at hB hR
  replace hB := hide hB
  replace hR := hide hR
  have hL := hide ((((Below.refl _ w).alloc (Nat.le_refl _) (.cells #[.int .i64 3, .int .i64 xn, .int .i64 xs, .string xt] 28)).alloc (by simp) (.cells #[.int .i64 2, .int .i64 yn, .int .i64 ys, .string yt] 28)).alloc (by simp; omega) (.cells #[.int .i64 0, .int .i64 0, .int .i64 0, .string ⟨#[]⟩] 28))
  go_enter Try.func30, Try.ntmps30
  go_wp2_with fail
  refine (rnum_at _ _ _ _ rfl _).mono ?_
  rintro e w35 ⟨rfl, hb35⟩
  replace hA := hide (four_call (unhide hA) hb35)
  replace hB := hide (four_call (unhide hB) hb35)
  replace hR := hide (four_call (unhide hR) hb35)
  replace hL := hide ((unhide hL).trans (hb35.mono (unhide hL).size))
  clear hb35
  obtain ⟨-, b0, b1, b2, b3, b4, b5, b6, b7⟩ := unhide hB
  go_wp2_with fail
  clear b0 b1 b2 b3 b4 b5 b6 b7
  refine (rnum_at _ _ _ _ rfl _).mono ?_
  rintro e w36 ⟨rfl, hb36⟩
  replace hA := hide (four_call (unhide hA) hb36)
  replace hB := hide (four_call (unhide hB) hb36)
  replace hR := hide (four_call (unhide hR) hb36)
  replace hL := hide ((unhide hL).trans (hb36.mono (unhide hL).size))
  clear hb36
  obtain ⟨-, a0, a1, a2, a3, a4, a5, a6, a7⟩ := unhide hA
  obtain ⟨-, b0, b1, b2, b3, b4, b5, b6, b7⟩ := unhide hB
  obtain ⟨-, r0, r1, r2, r3, r4, r5, r6, r7⟩ := unhide hR
  go_wp2_with fail
  exact bodyPost_ret (v := .tuple #[V 0 0 0 ⟨#[]⟩, .int .i64 5]) (by simp [results, Try.results30, go_sem, r0, r1, r2, r3]) rfl ⟨rfl, (unhide hL).trans ((below_set4 (w.heap.size + 1 + 1) _ _ _ _ _).mono (by omega))⟩

set_option maxHeartbeats 2000000 in
set_option maxRecDepth 100000 in
theorem rk_7f (ik je jn js xn xs yn ys : Int) (xt yt : ByteArray) (w : World) (CI : Hid (∀ W, Calls Try.prog 54 #[.int .i64 7, .int .i64 xn, .int .i64 yn] W fun e w' => e = .returned (.tuple #[V ik jn js ⟨#[]⟩, .int .i64 je]) ∧ Below W.heap.size W w')) :
    Calls Try.prog 30 #[.int .i64 7, V 2 xn xs xt, V 2 yn ys yt] w fun e w' => e = .returned (.tuple #[V ik jn js ⟨#[]⟩, .int .i64 je]) ∧ Below w.heap.size w w' := by
  have hA := hide (four_more (four_more (four_alloc (.int .i64 2) (.int .i64 xn) (.int .i64 xs) (.string xt) 28 w) (.cells #[.int .i64 2, .int .i64 yn, .int .i64 ys, .string yt] 28)) (.cells #[.int .i64 0, .int .i64 0, .int .i64 0, .string ⟨#[]⟩] 28))
  have hB := four_more (four_alloc (.int .i64 2) (.int .i64 yn) (.int .i64 ys) (.string yt) 28 (w.alloc (.cells #[.int .i64 2, .int .i64 xn, .int .i64 xs, .string xt] 28))) (.cells #[.int .i64 0, .int .i64 0, .int .i64 0, .string ⟨#[]⟩] 28)
  have hR := four_alloc (.int .i64 0) (.int .i64 0) (.int .i64 0) (.string ⟨#[]⟩) 28 ((w.alloc (.cells #[.int .i64 2, .int .i64 xn, .int .i64 xs, .string xt] 28)).alloc (.cells #[.int .i64 2, .int .i64 yn, .int .i64 ys, .string yt] 28))
  simp only [World.size_alloc] at hB hR
  replace hB := hide hB
  replace hR := hide hR
  have hL := hide ((((Below.refl _ w).alloc (Nat.le_refl _) (.cells #[.int .i64 2, .int .i64 xn, .int .i64 xs, .string xt] 28)).alloc (by simp) (.cells #[.int .i64 2, .int .i64 yn, .int .i64 ys, .string yt] 28)).alloc (by simp; omega) (.cells #[.int .i64 0, .int .i64 0, .int .i64 0, .string ⟨#[]⟩] 28))
  go_enter Try.func30, Try.ntmps30
  go_wp2_with fail
  refine (rnum_at _ _ _ _ rfl _).mono ?_
  rintro e w37 ⟨rfl, hb37⟩
  replace hA := hide (four_call (unhide hA) hb37)
  replace hB := hide (four_call (unhide hB) hb37)
  replace hR := hide (four_call (unhide hR) hb37)
  replace hL := hide ((unhide hL).trans (hb37.mono (unhide hL).size))
  clear hb37
  obtain ⟨-, b0, b1, b2, b3, b4, b5, b6, b7⟩ := unhide hB
  go_wp2_with fail
  clear b0 b1 b2 b3 b4 b5 b6 b7
  refine (rnum_at _ _ _ _ rfl _).mono ?_
  rintro e w38 ⟨rfl, hb38⟩
  replace hA := hide (four_call (unhide hA) hb38)
  replace hB := hide (four_call (unhide hB) hb38)
  replace hR := hide (four_call (unhide hR) hb38)
  replace hL := hide ((unhide hL).trans (hb38.mono (unhide hL).size))
  clear hb38
  obtain ⟨-, a0, a1, a2, a3, a4, a5, a6, a7⟩ := unhide hA
  obtain ⟨-, b0, b1, b2, b3, b4, b5, b6, b7⟩ := unhide hB
  go_wp2_with fail
  clear a0 a1 a2 a3 a4 a5 a6 a7 b0 b1 b2 b3 b4 b5 b6 b7
  refine (unhide CI _).mono ?_
  rintro e w39 ⟨rfl, hb39⟩
  replace hR := hide (four_call (unhide hR) hb39)
  replace hL := hide ((unhide hL).trans (hb39.mono (unhide hL).size))
  clear hb39
  clear hA hB
  obtain ⟨-, r0, r1, r2, r3, r4, r5, r6, r7⟩ := unhide hR
  go_wp2_with fail
  exact bodyPost_ret (v := .tuple #[V ik jn js ⟨#[]⟩, .int .i64 je]) (by simp [results, Try.results30, go_sem, r0, r1, r2, r3]) rfl ⟨rfl, (unhide hL).trans ((below_set4 (w.heap.size + 1 + 1) _ _ _ _ _).mono (by omega))⟩

set_option maxHeartbeats 2000000 in
set_option maxRecDepth 100000 in
theorem rk_7g (ik je jn js xn xs yn ys : Int) (w : World) (CI : Hid (∀ W, Calls Try.prog 55 #[.int .i64 7, V 3 xn xs ⟨#[]⟩, V 3 yn ys ⟨#[]⟩] W fun e w' => e = .returned (.tuple #[V ik jn js ⟨#[]⟩, .int .i64 je]) ∧ Below W.heap.size W w')) :
    Calls Try.prog 30 #[.int .i64 7, V 3 xn xs ⟨#[]⟩, V 3 yn ys ⟨#[]⟩] w fun e w' => e = .returned (.tuple #[V ik jn js ⟨#[]⟩, .int .i64 je]) ∧ Below w.heap.size w w' := by
  have hA := hide (four_more (four_more (four_alloc (.int .i64 3) (.int .i64 xn) (.int .i64 xs) (.string ⟨#[]⟩) 28 w) (.cells #[.int .i64 3, .int .i64 yn, .int .i64 ys, .string ⟨#[]⟩] 28)) (.cells #[.int .i64 0, .int .i64 0, .int .i64 0, .string ⟨#[]⟩] 28))
  have hB := four_more (four_alloc (.int .i64 3) (.int .i64 yn) (.int .i64 ys) (.string ⟨#[]⟩) 28 (w.alloc (.cells #[.int .i64 3, .int .i64 xn, .int .i64 xs, .string ⟨#[]⟩] 28))) (.cells #[.int .i64 0, .int .i64 0, .int .i64 0, .string ⟨#[]⟩] 28)
  have hR := four_alloc (.int .i64 0) (.int .i64 0) (.int .i64 0) (.string ⟨#[]⟩) 28 ((w.alloc (.cells #[.int .i64 3, .int .i64 xn, .int .i64 xs, .string ⟨#[]⟩] 28)).alloc (.cells #[.int .i64 3, .int .i64 yn, .int .i64 ys, .string ⟨#[]⟩] 28))
  simp only [World.size_alloc] at hB hR
  replace hB := hide hB
  replace hR := hide hR
  have hL := hide ((((Below.refl _ w).alloc (Nat.le_refl _) (.cells #[.int .i64 3, .int .i64 xn, .int .i64 xs, .string ⟨#[]⟩] 28)).alloc (by simp) (.cells #[.int .i64 3, .int .i64 yn, .int .i64 ys, .string ⟨#[]⟩] 28)).alloc (by simp; omega) (.cells #[.int .i64 0, .int .i64 0, .int .i64 0, .string ⟨#[]⟩] 28))
  go_enter Try.func30, Try.ntmps30
  go_wp2_with fail
  refine (rnum_at _ _ _ _ rfl _).mono ?_
  rintro e w40 ⟨rfl, hb40⟩
  replace hA := hide (four_call (unhide hA) hb40)
  replace hB := hide (four_call (unhide hB) hb40)
  replace hR := hide (four_call (unhide hR) hb40)
  replace hL := hide ((unhide hL).trans (hb40.mono (unhide hL).size))
  clear hb40
  obtain ⟨-, b0, b1, b2, b3, b4, b5, b6, b7⟩ := unhide hB
  go_wp2_with fail
  clear b0 b1 b2 b3 b4 b5 b6 b7
  refine (rnum_at _ _ _ _ rfl _).mono ?_
  rintro e w41 ⟨rfl, hb41⟩
  replace hA := hide (four_call (unhide hA) hb41)
  replace hB := hide (four_call (unhide hB) hb41)
  replace hR := hide (four_call (unhide hR) hb41)
  replace hL := hide ((unhide hL).trans (hb41.mono (unhide hL).size))
  clear hb41
  obtain ⟨-, a0, a1, a2, a3, a4, a5, a6, a7⟩ := unhide hA
  obtain ⟨-, b0, b1, b2, b3, b4, b5, b6, b7⟩ := unhide hB
  go_wp2_with fail
  clear a0 a1 a2 a3 a4 a5 a6 a7 b0 b1 b2 b3 b4 b5 b6 b7
  refine (unhide CI _).mono ?_
  rintro e w42 ⟨rfl, hb42⟩
  replace hR := hide (four_call (unhide hR) hb42)
  replace hL := hide ((unhide hL).trans (hb42.mono (unhide hL).size))
  clear hb42
  clear hA hB
  obtain ⟨-, r0, r1, r2, r3, r4, r5, r6, r7⟩ := unhide hR
  go_wp2_with fail
  exact bodyPost_ret (v := .tuple #[V ik jn js ⟨#[]⟩, .int .i64 je]) (by simp [results, Try.results30, go_sem, r0, r1, r2, r3]) rfl ⟨rfl, (unhide hL).trans ((below_set4 (w.heap.size + 1 + 1) _ _ _ _ _).mono (by omega))⟩

set_option maxHeartbeats 2000000 in
set_option maxRecDepth 100000 in
theorem rk_8a (kx ky xn xs yn ys : Int) (xt yt : ByteArray) (w : World) (ha : (kx == 0 || kx == 2 || kx == 3) = false) :
    Calls Try.prog 30 #[.int .i64 8, V kx xn xs xt, V ky yn ys yt] w fun e w' => e = .returned (.tuple #[V 0 0 0 ⟨#[]⟩, .int .i64 5]) ∧ Below w.heap.size w w' := by
  have hA := hide (four_more (four_more (four_alloc (.int .i64 kx) (.int .i64 xn) (.int .i64 xs) (.string xt) 28 w) (.cells #[.int .i64 ky, .int .i64 yn, .int .i64 ys, .string yt] 28)) (.cells #[.int .i64 0, .int .i64 0, .int .i64 0, .string ⟨#[]⟩] 28))
  have hB := four_more (four_alloc (.int .i64 ky) (.int .i64 yn) (.int .i64 ys) (.string yt) 28 (w.alloc (.cells #[.int .i64 kx, .int .i64 xn, .int .i64 xs, .string xt] 28))) (.cells #[.int .i64 0, .int .i64 0, .int .i64 0, .string ⟨#[]⟩] 28)
  have hR := four_alloc (.int .i64 0) (.int .i64 0) (.int .i64 0) (.string ⟨#[]⟩) 28 ((w.alloc (.cells #[.int .i64 kx, .int .i64 xn, .int .i64 xs, .string xt] 28)).alloc (.cells #[.int .i64 ky, .int .i64 yn, .int .i64 ys, .string yt] 28))
  simp only [World.size_alloc] at hB hR
  replace hB := hide hB
  replace hR := hide hR
  have hL := hide ((((Below.refl _ w).alloc (Nat.le_refl _) (.cells #[.int .i64 kx, .int .i64 xn, .int .i64 xs, .string xt] 28)).alloc (by simp) (.cells #[.int .i64 ky, .int .i64 yn, .int .i64 ys, .string yt] 28)).alloc (by simp; omega) (.cells #[.int .i64 0, .int .i64 0, .int .i64 0, .string ⟨#[]⟩] 28))
  go_enter Try.func30, Try.ntmps30
  go_wp2_with fail
  refine (rnum_at _ _ _ _ ha _).mono ?_
  rintro e w43 ⟨rfl, hb43⟩
  replace hA := hide (four_call (unhide hA) hb43)
  replace hB := hide (four_call (unhide hB) hb43)
  replace hR := hide (four_call (unhide hR) hb43)
  replace hL := hide ((unhide hL).trans (hb43.mono (unhide hL).size))
  clear hb43
  clear hA hB
  obtain ⟨-, r0, r1, r2, r3, r4, r5, r6, r7⟩ := unhide hR
  go_wp2_with fail
  exact bodyPost_ret (v := .tuple #[V 0 0 0 ⟨#[]⟩, .int .i64 5]) (by simp [results, Try.results30, go_sem, r0, r1, r2, r3]) rfl ⟨rfl, (unhide hL).trans ((below_set4 (w.heap.size + 1 + 1) _ _ _ _ _).mono (by omega))⟩

set_option maxHeartbeats 2000000 in
set_option maxRecDepth 100000 in
theorem rk_8b (kx ky xn xs yn ys : Int) (xt yt : ByteArray) (w : World) (ha : (kx == 0 || kx == 2 || kx == 3) = true) (hb : (ky == 0 || ky == 2 || ky == 3) = false) :
    Calls Try.prog 30 #[.int .i64 8, V kx xn xs xt, V ky yn ys yt] w fun e w' => e = .returned (.tuple #[V 0 0 0 ⟨#[]⟩, .int .i64 5]) ∧ Below w.heap.size w w' := by
  have hA := hide (four_more (four_more (four_alloc (.int .i64 kx) (.int .i64 xn) (.int .i64 xs) (.string xt) 28 w) (.cells #[.int .i64 ky, .int .i64 yn, .int .i64 ys, .string yt] 28)) (.cells #[.int .i64 0, .int .i64 0, .int .i64 0, .string ⟨#[]⟩] 28))
  have hB := four_more (four_alloc (.int .i64 ky) (.int .i64 yn) (.int .i64 ys) (.string yt) 28 (w.alloc (.cells #[.int .i64 kx, .int .i64 xn, .int .i64 xs, .string xt] 28))) (.cells #[.int .i64 0, .int .i64 0, .int .i64 0, .string ⟨#[]⟩] 28)
  have hR := four_alloc (.int .i64 0) (.int .i64 0) (.int .i64 0) (.string ⟨#[]⟩) 28 ((w.alloc (.cells #[.int .i64 kx, .int .i64 xn, .int .i64 xs, .string xt] 28)).alloc (.cells #[.int .i64 ky, .int .i64 yn, .int .i64 ys, .string yt] 28))
  simp only [World.size_alloc] at hB hR
  replace hB := hide hB
  replace hR := hide hR
  have hL := hide ((((Below.refl _ w).alloc (Nat.le_refl _) (.cells #[.int .i64 kx, .int .i64 xn, .int .i64 xs, .string xt] 28)).alloc (by simp) (.cells #[.int .i64 ky, .int .i64 yn, .int .i64 ys, .string yt] 28)).alloc (by simp; omega) (.cells #[.int .i64 0, .int .i64 0, .int .i64 0, .string ⟨#[]⟩] 28))
  go_enter Try.func30, Try.ntmps30
  go_wp2_with fail
  refine (rnum_at _ _ _ _ ha _).mono ?_
  rintro e w44 ⟨rfl, hb44⟩
  replace hA := hide (four_call (unhide hA) hb44)
  replace hB := hide (four_call (unhide hB) hb44)
  replace hR := hide (four_call (unhide hR) hb44)
  replace hL := hide ((unhide hL).trans (hb44.mono (unhide hL).size))
  clear hb44
  obtain ⟨-, b0, b1, b2, b3, b4, b5, b6, b7⟩ := unhide hB
  go_wp2_with fail
  clear b0 b1 b2 b3 b4 b5 b6 b7
  refine (rnum_at _ _ _ _ hb _).mono ?_
  rintro e w45 ⟨rfl, hb45⟩
  replace hA := hide (four_call (unhide hA) hb45)
  replace hB := hide (four_call (unhide hB) hb45)
  replace hR := hide (four_call (unhide hR) hb45)
  replace hL := hide ((unhide hL).trans (hb45.mono (unhide hL).size))
  clear hb45
  clear hA hB
  obtain ⟨-, r0, r1, r2, r3, r4, r5, r6, r7⟩ := unhide hR
  go_wp2_with fail
  exact bodyPost_ret (v := .tuple #[V 0 0 0 ⟨#[]⟩, .int .i64 5]) (by simp [results, Try.results30, go_sem, r0, r1, r2, r3]) rfl ⟨rfl, (unhide hL).trans ((below_set4 (w.heap.size + 1 + 1) _ _ _ _ _).mono (by omega))⟩

set_option maxHeartbeats 2000000 in
set_option maxRecDepth 100000 in
theorem rk_8c (ky xn xs yn ys : Int) (xt yt : ByteArray) (w : World) (hb : (ky == 0 || ky == 2 || ky == 3) = true) :
    Calls Try.prog 30 #[.int .i64 8, V 0 xn xs xt, V ky yn ys yt] w fun e w' => e = .returned (.tuple #[V 0 0 0 ⟨#[]⟩, .int .i64 0]) ∧ Below w.heap.size w w' := by
  have hA := hide (four_more (four_more (four_alloc (.int .i64 0) (.int .i64 xn) (.int .i64 xs) (.string xt) 28 w) (.cells #[.int .i64 ky, .int .i64 yn, .int .i64 ys, .string yt] 28)) (.cells #[.int .i64 0, .int .i64 0, .int .i64 0, .string ⟨#[]⟩] 28))
  have hB := four_more (four_alloc (.int .i64 ky) (.int .i64 yn) (.int .i64 ys) (.string yt) 28 (w.alloc (.cells #[.int .i64 0, .int .i64 xn, .int .i64 xs, .string xt] 28))) (.cells #[.int .i64 0, .int .i64 0, .int .i64 0, .string ⟨#[]⟩] 28)
  have hR := four_alloc (.int .i64 0) (.int .i64 0) (.int .i64 0) (.string ⟨#[]⟩) 28 ((w.alloc (.cells #[.int .i64 0, .int .i64 xn, .int .i64 xs, .string xt] 28)).alloc (.cells #[.int .i64 ky, .int .i64 yn, .int .i64 ys, .string yt] 28))
  simp only [World.size_alloc] at hB hR
  replace hB := hide hB
  replace hR := hide hR
  have hL := hide ((((Below.refl _ w).alloc (Nat.le_refl _) (.cells #[.int .i64 0, .int .i64 xn, .int .i64 xs, .string xt] 28)).alloc (by simp) (.cells #[.int .i64 ky, .int .i64 yn, .int .i64 ys, .string yt] 28)).alloc (by simp; omega) (.cells #[.int .i64 0, .int .i64 0, .int .i64 0, .string ⟨#[]⟩] 28))
  go_enter Try.func30, Try.ntmps30
  go_wp2_with fail
  refine (rnum_at _ _ _ _ (by decide : ((0 : Int) == 0 || (0 : Int) == 2 || (0 : Int) == 3) = true) _).mono ?_
  rintro e w46 ⟨rfl, hb46⟩
  replace hA := hide (four_call (unhide hA) hb46)
  replace hB := hide (four_call (unhide hB) hb46)
  replace hR := hide (four_call (unhide hR) hb46)
  replace hL := hide ((unhide hL).trans (hb46.mono (unhide hL).size))
  clear hb46
  obtain ⟨-, b0, b1, b2, b3, b4, b5, b6, b7⟩ := unhide hB
  go_wp2_with fail
  clear b0 b1 b2 b3 b4 b5 b6 b7
  refine (rnum_at _ _ _ _ hb _).mono ?_
  rintro e w47 ⟨rfl, hb47⟩
  replace hA := hide (four_call (unhide hA) hb47)
  replace hB := hide (four_call (unhide hB) hb47)
  replace hR := hide (four_call (unhide hR) hb47)
  replace hL := hide ((unhide hL).trans (hb47.mono (unhide hL).size))
  clear hb47
  obtain ⟨-, a0, a1, a2, a3, a4, a5, a6, a7⟩ := unhide hA
  obtain ⟨-, b0, b1, b2, b3, b4, b5, b6, b7⟩ := unhide hB
  obtain ⟨-, r0, r1, r2, r3, r4, r5, r6, r7⟩ := unhide hR
  go_wp2_with fail
  exact bodyPost_ret (v := .tuple #[V 0 0 0 ⟨#[]⟩, .int .i64 0]) (by simp [results, Try.results30, go_sem, r0, r1, r2, r3]) rfl ⟨rfl, (unhide hL).trans ((below_set4 (w.heap.size + 1 + 1) _ _ _ _ _).mono (by omega))⟩

set_option maxHeartbeats 2000000 in
set_option maxRecDepth 100000 in
theorem rk_8d (kx xn xs yn ys : Int) (xt yt : ByteArray) (w : World) (ha : (kx == 0 || kx == 2 || kx == 3) = true) (h0 : (kx == 0) = false) :
    Calls Try.prog 30 #[.int .i64 8, V kx xn xs xt, V 0 yn ys yt] w fun e w' => e = .returned (.tuple #[V 0 0 0 ⟨#[]⟩, .int .i64 0]) ∧ Below w.heap.size w w' := by
  have hA := hide (four_more (four_more (four_alloc (.int .i64 kx) (.int .i64 xn) (.int .i64 xs) (.string xt) 28 w) (.cells #[.int .i64 0, .int .i64 yn, .int .i64 ys, .string yt] 28)) (.cells #[.int .i64 0, .int .i64 0, .int .i64 0, .string ⟨#[]⟩] 28))
  have hB := four_more (four_alloc (.int .i64 0) (.int .i64 yn) (.int .i64 ys) (.string yt) 28 (w.alloc (.cells #[.int .i64 kx, .int .i64 xn, .int .i64 xs, .string xt] 28))) (.cells #[.int .i64 0, .int .i64 0, .int .i64 0, .string ⟨#[]⟩] 28)
  have hR := four_alloc (.int .i64 0) (.int .i64 0) (.int .i64 0) (.string ⟨#[]⟩) 28 ((w.alloc (.cells #[.int .i64 kx, .int .i64 xn, .int .i64 xs, .string xt] 28)).alloc (.cells #[.int .i64 0, .int .i64 yn, .int .i64 ys, .string yt] 28))
  simp only [World.size_alloc] at hB hR
  replace hB := hide hB
  replace hR := hide hR
  have hL := hide ((((Below.refl _ w).alloc (Nat.le_refl _) (.cells #[.int .i64 kx, .int .i64 xn, .int .i64 xs, .string xt] 28)).alloc (by simp) (.cells #[.int .i64 0, .int .i64 yn, .int .i64 ys, .string yt] 28)).alloc (by simp; omega) (.cells #[.int .i64 0, .int .i64 0, .int .i64 0, .string ⟨#[]⟩] 28))
  go_enter Try.func30, Try.ntmps30
  go_wp2_with fail
  refine (rnum_at _ _ _ _ ha _).mono ?_
  rintro e w48 ⟨rfl, hb48⟩
  replace hA := hide (four_call (unhide hA) hb48)
  replace hB := hide (four_call (unhide hB) hb48)
  replace hR := hide (four_call (unhide hR) hb48)
  replace hL := hide ((unhide hL).trans (hb48.mono (unhide hL).size))
  clear hb48
  obtain ⟨-, b0, b1, b2, b3, b4, b5, b6, b7⟩ := unhide hB
  go_wp2_with fail
  clear b0 b1 b2 b3 b4 b5 b6 b7
  refine (rnum_at _ _ _ _ (by decide : ((0 : Int) == 0 || (0 : Int) == 2 || (0 : Int) == 3) = true) _).mono ?_
  rintro e w49 ⟨rfl, hb49⟩
  replace hA := hide (four_call (unhide hA) hb49)
  replace hB := hide (four_call (unhide hB) hb49)
  replace hR := hide (four_call (unhide hR) hb49)
  replace hL := hide ((unhide hL).trans (hb49.mono (unhide hL).size))
  clear hb49
  obtain ⟨-, a0, a1, a2, a3, a4, a5, a6, a7⟩ := unhide hA
  obtain ⟨-, b0, b1, b2, b3, b4, b5, b6, b7⟩ := unhide hB
  obtain ⟨-, r0, r1, r2, r3, r4, r5, r6, r7⟩ := unhide hR
  go_wp2_with fail
  exact bodyPost_ret (v := .tuple #[V 0 0 0 ⟨#[]⟩, .int .i64 0]) (by simp [results, Try.results30, go_sem, r0, r1, r2, r3]) rfl ⟨rfl, (unhide hL).trans ((below_set4 (w.heap.size + 1 + 1) _ _ _ _ _).mono (by omega))⟩

set_option maxHeartbeats 2000000 in
set_option maxRecDepth 100000 in
theorem rk_8e2 (xn xs yn ys : Int) (xt yt : ByteArray) (w : World) :
    Calls Try.prog 30 #[.int .i64 8, V 2 xn xs xt, V 3 yn ys yt] w fun e w' => e = .returned (.tuple #[V 0 0 0 ⟨#[]⟩, .int .i64 5]) ∧ Below w.heap.size w w' := by
  have hA := hide (four_more (four_more (four_alloc (.int .i64 2) (.int .i64 xn) (.int .i64 xs) (.string xt) 28 w) (.cells #[.int .i64 3, .int .i64 yn, .int .i64 ys, .string yt] 28)) (.cells #[.int .i64 0, .int .i64 0, .int .i64 0, .string ⟨#[]⟩] 28))
  have hB := four_more (four_alloc (.int .i64 3) (.int .i64 yn) (.int .i64 ys) (.string yt) 28 (w.alloc (.cells #[.int .i64 2, .int .i64 xn, .int .i64 xs, .string xt] 28))) (.cells #[.int .i64 0, .int .i64 0, .int .i64 0, .string ⟨#[]⟩] 28)
  have hR := four_alloc (.int .i64 0) (.int .i64 0) (.int .i64 0) (.string ⟨#[]⟩) 28 ((w.alloc (.cells #[.int .i64 2, .int .i64 xn, .int .i64 xs, .string xt] 28)).alloc (.cells #[.int .i64 3, .int .i64 yn, .int .i64 ys, .string yt] 28))
  simp only [World.size_alloc] at hB hR
  replace hB := hide hB
  replace hR := hide hR
  have hL := hide ((((Below.refl _ w).alloc (Nat.le_refl _) (.cells #[.int .i64 2, .int .i64 xn, .int .i64 xs, .string xt] 28)).alloc (by simp) (.cells #[.int .i64 3, .int .i64 yn, .int .i64 ys, .string yt] 28)).alloc (by simp; omega) (.cells #[.int .i64 0, .int .i64 0, .int .i64 0, .string ⟨#[]⟩] 28))
  go_enter Try.func30, Try.ntmps30
  go_wp2_with fail
  refine (rnum_at _ _ _ _ rfl _).mono ?_
  rintro e w50 ⟨rfl, hb50⟩
  replace hA := hide (four_call (unhide hA) hb50)
  replace hB := hide (four_call (unhide hB) hb50)
  replace hR := hide (four_call (unhide hR) hb50)
  replace hL := hide ((unhide hL).trans (hb50.mono (unhide hL).size))
  clear hb50
  obtain ⟨-, b0, b1, b2, b3, b4, b5, b6, b7⟩ := unhide hB
  go_wp2_with fail
  clear b0 b1 b2 b3 b4 b5 b6 b7
  refine (rnum_at _ _ _ _ rfl _).mono ?_
  rintro e w51 ⟨rfl, hb51⟩
  replace hA := hide (four_call (unhide hA) hb51)
  replace hB := hide (four_call (unhide hB) hb51)
  replace hR := hide (four_call (unhide hR) hb51)
  replace hL := hide ((unhide hL).trans (hb51.mono (unhide hL).size))
  clear hb51
  obtain ⟨-, a0, a1, a2, a3, a4, a5, a6, a7⟩ := unhide hA
  obtain ⟨-, b0, b1, b2, b3, b4, b5, b6, b7⟩ := unhide hB
  obtain ⟨-, r0, r1, r2, r3, r4, r5, r6, r7⟩ := unhide hR
  go_wp2_with fail
  exact bodyPost_ret (v := .tuple #[V 0 0 0 ⟨#[]⟩, .int .i64 5]) (by simp [results, Try.results30, go_sem, r0, r1, r2, r3]) rfl ⟨rfl, (unhide hL).trans ((below_set4 (w.heap.size + 1 + 1) _ _ _ _ _).mono (by omega))⟩

set_option maxHeartbeats 2000000 in
set_option maxRecDepth 100000 in
theorem rk_8e3 (xn xs yn ys : Int) (xt yt : ByteArray) (w : World) :
    Calls Try.prog 30 #[.int .i64 8, V 3 xn xs xt, V 2 yn ys yt] w fun e w' => e = .returned (.tuple #[V 0 0 0 ⟨#[]⟩, .int .i64 5]) ∧ Below w.heap.size w w' := by
  have hA := hide (four_more (four_more (four_alloc (.int .i64 3) (.int .i64 xn) (.int .i64 xs) (.string xt) 28 w) (.cells #[.int .i64 2, .int .i64 yn, .int .i64 ys, .string yt] 28)) (.cells #[.int .i64 0, .int .i64 0, .int .i64 0, .string ⟨#[]⟩] 28))
  have hB := four_more (four_alloc (.int .i64 2) (.int .i64 yn) (.int .i64 ys) (.string yt) 28 (w.alloc (.cells #[.int .i64 3, .int .i64 xn, .int .i64 xs, .string xt] 28))) (.cells #[.int .i64 0, .int .i64 0, .int .i64 0, .string ⟨#[]⟩] 28)
  have hR := four_alloc (.int .i64 0) (.int .i64 0) (.int .i64 0) (.string ⟨#[]⟩) 28 ((w.alloc (.cells #[.int .i64 3, .int .i64 xn, .int .i64 xs, .string xt] 28)).alloc (.cells #[.int .i64 2, .int .i64 yn, .int .i64 ys, .string yt] 28))
  simp only [World.size_alloc] at hB hR
  replace hB := hide hB
  replace hR := hide hR
  have hL := hide ((((Below.refl _ w).alloc (Nat.le_refl _) (.cells #[.int .i64 3, .int .i64 xn, .int .i64 xs, .string xt] 28)).alloc (by simp) (.cells #[.int .i64 2, .int .i64 yn, .int .i64 ys, .string yt] 28)).alloc (by simp; omega) (.cells #[.int .i64 0, .int .i64 0, .int .i64 0, .string ⟨#[]⟩] 28))
  go_enter Try.func30, Try.ntmps30
  go_wp2_with fail
  refine (rnum_at _ _ _ _ rfl _).mono ?_
  rintro e w52 ⟨rfl, hb52⟩
  replace hA := hide (four_call (unhide hA) hb52)
  replace hB := hide (four_call (unhide hB) hb52)
  replace hR := hide (four_call (unhide hR) hb52)
  replace hL := hide ((unhide hL).trans (hb52.mono (unhide hL).size))
  clear hb52
  obtain ⟨-, b0, b1, b2, b3, b4, b5, b6, b7⟩ := unhide hB
  go_wp2_with fail
  clear b0 b1 b2 b3 b4 b5 b6 b7
  refine (rnum_at _ _ _ _ rfl _).mono ?_
  rintro e w53 ⟨rfl, hb53⟩
  replace hA := hide (four_call (unhide hA) hb53)
  replace hB := hide (four_call (unhide hB) hb53)
  replace hR := hide (four_call (unhide hR) hb53)
  replace hL := hide ((unhide hL).trans (hb53.mono (unhide hL).size))
  clear hb53
  obtain ⟨-, a0, a1, a2, a3, a4, a5, a6, a7⟩ := unhide hA
  obtain ⟨-, b0, b1, b2, b3, b4, b5, b6, b7⟩ := unhide hB
  obtain ⟨-, r0, r1, r2, r3, r4, r5, r6, r7⟩ := unhide hR
  go_wp2_with fail
  exact bodyPost_ret (v := .tuple #[V 0 0 0 ⟨#[]⟩, .int .i64 5]) (by simp [results, Try.results30, go_sem, r0, r1, r2, r3]) rfl ⟨rfl, (unhide hL).trans ((below_set4 (w.heap.size + 1 + 1) _ _ _ _ _).mono (by omega))⟩

set_option maxHeartbeats 2000000 in
set_option maxRecDepth 100000 in
theorem rk_8f (ik je jn js xn xs yn ys : Int) (xt yt : ByteArray) (w : World) (CI : Hid (∀ W, Calls Try.prog 54 #[.int .i64 8, .int .i64 xn, .int .i64 yn] W fun e w' => e = .returned (.tuple #[V ik jn js ⟨#[]⟩, .int .i64 je]) ∧ Below W.heap.size W w')) :
    Calls Try.prog 30 #[.int .i64 8, V 2 xn xs xt, V 2 yn ys yt] w fun e w' => e = .returned (.tuple #[V ik jn js ⟨#[]⟩, .int .i64 je]) ∧ Below w.heap.size w w' := by
  have hA := hide (four_more (four_more (four_alloc (.int .i64 2) (.int .i64 xn) (.int .i64 xs) (.string xt) 28 w) (.cells #[.int .i64 2, .int .i64 yn, .int .i64 ys, .string yt] 28)) (.cells #[.int .i64 0, .int .i64 0, .int .i64 0, .string ⟨#[]⟩] 28))
  have hB := four_more (four_alloc (.int .i64 2) (.int .i64 yn) (.int .i64 ys) (.string yt) 28 (w.alloc (.cells #[.int .i64 2, .int .i64 xn, .int .i64 xs, .string xt] 28))) (.cells #[.int .i64 0, .int .i64 0, .int .i64 0, .string ⟨#[]⟩] 28)
  have hR := four_alloc (.int .i64 0) (.int .i64 0) (.int .i64 0) (.string ⟨#[]⟩) 28 ((w.alloc (.cells #[.int .i64 2, .int .i64 xn, .int .i64 xs, .string xt] 28)).alloc (.cells #[.int .i64 2, .int .i64 yn, .int .i64 ys, .string yt] 28))
  simp only [World.size_alloc] at hB hR
  replace hB := hide hB
  replace hR := hide hR
  have hL := hide ((((Below.refl _ w).alloc (Nat.le_refl _) (.cells #[.int .i64 2, .int .i64 xn, .int .i64 xs, .string xt] 28)).alloc (by simp) (.cells #[.int .i64 2, .int .i64 yn, .int .i64 ys, .string yt] 28)).alloc (by simp; omega) (.cells #[.int .i64 0, .int .i64 0, .int .i64 0, .string ⟨#[]⟩] 28))
  go_enter Try.func30, Try.ntmps30
  go_wp2_with fail
  refine (rnum_at _ _ _ _ rfl _).mono ?_
  rintro e w54 ⟨rfl, hb54⟩
  replace hA := hide (four_call (unhide hA) hb54)
  replace hB := hide (four_call (unhide hB) hb54)
  replace hR := hide (four_call (unhide hR) hb54)
  replace hL := hide ((unhide hL).trans (hb54.mono (unhide hL).size))
  clear hb54
  obtain ⟨-, b0, b1, b2, b3, b4, b5, b6, b7⟩ := unhide hB
  go_wp2_with fail
  clear b0 b1 b2 b3 b4 b5 b6 b7
  refine (rnum_at _ _ _ _ rfl _).mono ?_
  rintro e w55 ⟨rfl, hb55⟩
  replace hA := hide (four_call (unhide hA) hb55)
  replace hB := hide (four_call (unhide hB) hb55)
  replace hR := hide (four_call (unhide hR) hb55)
  replace hL := hide ((unhide hL).trans (hb55.mono (unhide hL).size))
  clear hb55
  obtain ⟨-, a0, a1, a2, a3, a4, a5, a6, a7⟩ := unhide hA
  obtain ⟨-, b0, b1, b2, b3, b4, b5, b6, b7⟩ := unhide hB
  go_wp2_with fail
  clear a0 a1 a2 a3 a4 a5 a6 a7 b0 b1 b2 b3 b4 b5 b6 b7
  refine (unhide CI _).mono ?_
  rintro e w56 ⟨rfl, hb56⟩
  replace hR := hide (four_call (unhide hR) hb56)
  replace hL := hide ((unhide hL).trans (hb56.mono (unhide hL).size))
  clear hb56
  clear hA hB
  obtain ⟨-, r0, r1, r2, r3, r4, r5, r6, r7⟩ := unhide hR
  go_wp2_with fail
  exact bodyPost_ret (v := .tuple #[V ik jn js ⟨#[]⟩, .int .i64 je]) (by simp [results, Try.results30, go_sem, r0, r1, r2, r3]) rfl ⟨rfl, (unhide hL).trans ((below_set4 (w.heap.size + 1 + 1) _ _ _ _ _).mono (by omega))⟩

set_option maxHeartbeats 2000000 in
set_option maxRecDepth 100000 in
theorem rk_8g (ik je jn js xn xs yn ys : Int) (w : World) (CI : Hid (∀ W, Calls Try.prog 55 #[.int .i64 8, V 3 xn xs ⟨#[]⟩, V 3 yn ys ⟨#[]⟩] W fun e w' => e = .returned (.tuple #[V ik jn js ⟨#[]⟩, .int .i64 je]) ∧ Below W.heap.size W w')) :
    Calls Try.prog 30 #[.int .i64 8, V 3 xn xs ⟨#[]⟩, V 3 yn ys ⟨#[]⟩] w fun e w' => e = .returned (.tuple #[V ik jn js ⟨#[]⟩, .int .i64 je]) ∧ Below w.heap.size w w' := by
  have hA := hide (four_more (four_more (four_alloc (.int .i64 3) (.int .i64 xn) (.int .i64 xs) (.string ⟨#[]⟩) 28 w) (.cells #[.int .i64 3, .int .i64 yn, .int .i64 ys, .string ⟨#[]⟩] 28)) (.cells #[.int .i64 0, .int .i64 0, .int .i64 0, .string ⟨#[]⟩] 28))
  have hB := four_more (four_alloc (.int .i64 3) (.int .i64 yn) (.int .i64 ys) (.string ⟨#[]⟩) 28 (w.alloc (.cells #[.int .i64 3, .int .i64 xn, .int .i64 xs, .string ⟨#[]⟩] 28))) (.cells #[.int .i64 0, .int .i64 0, .int .i64 0, .string ⟨#[]⟩] 28)
  have hR := four_alloc (.int .i64 0) (.int .i64 0) (.int .i64 0) (.string ⟨#[]⟩) 28 ((w.alloc (.cells #[.int .i64 3, .int .i64 xn, .int .i64 xs, .string ⟨#[]⟩] 28)).alloc (.cells #[.int .i64 3, .int .i64 yn, .int .i64 ys, .string ⟨#[]⟩] 28))
  simp only [World.size_alloc] at hB hR
  replace hB := hide hB
  replace hR := hide hR
  have hL := hide ((((Below.refl _ w).alloc (Nat.le_refl _) (.cells #[.int .i64 3, .int .i64 xn, .int .i64 xs, .string ⟨#[]⟩] 28)).alloc (by simp) (.cells #[.int .i64 3, .int .i64 yn, .int .i64 ys, .string ⟨#[]⟩] 28)).alloc (by simp; omega) (.cells #[.int .i64 0, .int .i64 0, .int .i64 0, .string ⟨#[]⟩] 28))
  go_enter Try.func30, Try.ntmps30
  go_wp2_with fail
  refine (rnum_at _ _ _ _ rfl _).mono ?_
  rintro e w57 ⟨rfl, hb57⟩
  replace hA := hide (four_call (unhide hA) hb57)
  replace hB := hide (four_call (unhide hB) hb57)
  replace hR := hide (four_call (unhide hR) hb57)
  replace hL := hide ((unhide hL).trans (hb57.mono (unhide hL).size))
  clear hb57
  obtain ⟨-, b0, b1, b2, b3, b4, b5, b6, b7⟩ := unhide hB
  go_wp2_with fail
  clear b0 b1 b2 b3 b4 b5 b6 b7
  refine (rnum_at _ _ _ _ rfl _).mono ?_
  rintro e w58 ⟨rfl, hb58⟩
  replace hA := hide (four_call (unhide hA) hb58)
  replace hB := hide (four_call (unhide hB) hb58)
  replace hR := hide (four_call (unhide hR) hb58)
  replace hL := hide ((unhide hL).trans (hb58.mono (unhide hL).size))
  clear hb58
  obtain ⟨-, a0, a1, a2, a3, a4, a5, a6, a7⟩ := unhide hA
  obtain ⟨-, b0, b1, b2, b3, b4, b5, b6, b7⟩ := unhide hB
  go_wp2_with fail
  clear a0 a1 a2 a3 a4 a5 a6 a7 b0 b1 b2 b3 b4 b5 b6 b7
  refine (unhide CI _).mono ?_
  rintro e w59 ⟨rfl, hb59⟩
  replace hR := hide (four_call (unhide hR) hb59)
  replace hL := hide ((unhide hL).trans (hb59.mono (unhide hL).size))
  clear hb59
  clear hA hB
  obtain ⟨-, r0, r1, r2, r3, r4, r5, r6, r7⟩ := unhide hR
  go_wp2_with fail
  exact bodyPost_ret (v := .tuple #[V ik jn js ⟨#[]⟩, .int .i64 je]) (by simp [results, Try.results30, go_sem, r0, r1, r2, r3]) rfl ⟨rfl, (unhide hL).trans ((below_set4 (w.heap.size + 1 + 1) _ _ _ _ _).mono (by omega))⟩

set_option maxHeartbeats 2000000 in
set_option maxRecDepth 100000 in
theorem rk_4a (kx ky xn xs yn ys : Int) (xt yt : ByteArray) (w : World) (h2 : (kx == 2) = false) (h3 : (kx == 3) = false) (h0 : (kx == 0) = false) :
    Calls Try.prog 30 #[.int .i64 4, V kx xn xs xt, V ky yn ys yt] w fun e w' => e = .returned (.tuple #[V 0 0 0 ⟨#[]⟩, .int .i64 5]) ∧ Below w.heap.size w w' := by
  have hA := hide (four_more (four_more (four_alloc (.int .i64 kx) (.int .i64 xn) (.int .i64 xs) (.string xt) 28 w) (.cells #[.int .i64 kx, .int .i64 xn, .int .i64 xs, .string xt] 28)) (.cells #[.int .i64 0, .int .i64 0, .int .i64 0, .string ⟨#[]⟩] 28))
  have hB := four_more (four_alloc (.int .i64 kx) (.int .i64 xn) (.int .i64 xs) (.string xt) 28 (w.alloc (.cells #[.int .i64 kx, .int .i64 xn, .int .i64 xs, .string xt] 28))) (.cells #[.int .i64 0, .int .i64 0, .int .i64 0, .string ⟨#[]⟩] 28)
  have hR := four_alloc (.int .i64 0) (.int .i64 0) (.int .i64 0) (.string ⟨#[]⟩) 28 ((w.alloc (.cells #[.int .i64 kx, .int .i64 xn, .int .i64 xs, .string xt] 28)).alloc (.cells #[.int .i64 kx, .int .i64 xn, .int .i64 xs, .string xt] 28))
  simp only [World.size_alloc] at hB hR
  replace hB := hide hB
  replace hR := hide hR
  have hL := hide ((((Below.refl _ w).alloc (Nat.le_refl _) (.cells #[.int .i64 kx, .int .i64 xn, .int .i64 xs, .string xt] 28)).alloc (by simp) (.cells #[.int .i64 kx, .int .i64 xn, .int .i64 xs, .string xt] 28)).alloc (by simp; omega) (.cells #[.int .i64 0, .int .i64 0, .int .i64 0, .string ⟨#[]⟩] 28))
  go_enter Try.func30, Try.ntmps30
  go_wp2_with fail
  refine (rnum_at _ _ _ _ (by rw [h0, h2, h3]; rfl : (kx == 0 || kx == 2 || kx == 3) = false) _).mono ?_
  rintro e w60 ⟨rfl, hb60⟩
  replace hA := hide (four_call (unhide hA) hb60)
  replace hB := hide (four_call (unhide hB) hb60)
  replace hR := hide (four_call (unhide hR) hb60)
  replace hL := hide ((unhide hL).trans (hb60.mono (unhide hL).size))
  clear hb60
  clear hA hB
  obtain ⟨-, r0, r1, r2, r3, r4, r5, r6, r7⟩ := unhide hR
  go_wp2_with fail
  exact bodyPost_ret (v := .tuple #[V 0 0 0 ⟨#[]⟩, .int .i64 5]) (by simp [results, Try.results30, go_sem, r0, r1, r2, r3]) rfl ⟨rfl, (unhide hL).trans ((below_set4 (w.heap.size + 1 + 1) _ _ _ _ _).mono (by omega))⟩

set_option maxHeartbeats 2000000 in
set_option maxRecDepth 100000 in
theorem rk_4b (ky xn xs yn ys : Int) (xt yt : ByteArray) (w : World) :
    Calls Try.prog 30 #[.int .i64 4, V 0 xn xs xt, V ky yn ys yt] w fun e w' => e = .returned (.tuple #[V 0 0 0 ⟨#[]⟩, .int .i64 0]) ∧ Below w.heap.size w w' := by
  have hA := hide (four_more (four_more (four_alloc (.int .i64 0) (.int .i64 xn) (.int .i64 xs) (.string xt) 28 w) (.cells #[.int .i64 0, .int .i64 xn, .int .i64 xs, .string xt] 28)) (.cells #[.int .i64 0, .int .i64 0, .int .i64 0, .string ⟨#[]⟩] 28))
  have hB := four_more (four_alloc (.int .i64 0) (.int .i64 xn) (.int .i64 xs) (.string xt) 28 (w.alloc (.cells #[.int .i64 0, .int .i64 xn, .int .i64 xs, .string xt] 28))) (.cells #[.int .i64 0, .int .i64 0, .int .i64 0, .string ⟨#[]⟩] 28)
  have hR := four_alloc (.int .i64 0) (.int .i64 0) (.int .i64 0) (.string ⟨#[]⟩) 28 ((w.alloc (.cells #[.int .i64 0, .int .i64 xn, .int .i64 xs, .string xt] 28)).alloc (.cells #[.int .i64 0, .int .i64 xn, .int .i64 xs, .string xt] 28))
  simp only [World.size_alloc] at hB hR
  replace hB := hide hB
  replace hR := hide hR
  have hL := hide ((((Below.refl _ w).alloc (Nat.le_refl _) (.cells #[.int .i64 0, .int .i64 xn, .int .i64 xs, .string xt] 28)).alloc (by simp) (.cells #[.int .i64 0, .int .i64 xn, .int .i64 xs, .string xt] 28)).alloc (by simp; omega) (.cells #[.int .i64 0, .int .i64 0, .int .i64 0, .string ⟨#[]⟩] 28))
  go_enter Try.func30, Try.ntmps30
  go_wp2_with fail
  refine (rnum_at _ _ _ _ rfl _).mono ?_
  rintro e w61 ⟨rfl, hb61⟩
  replace hA := hide (four_call (unhide hA) hb61)
  replace hB := hide (four_call (unhide hB) hb61)
  replace hR := hide (four_call (unhide hR) hb61)
  replace hL := hide ((unhide hL).trans (hb61.mono (unhide hL).size))
  clear hb61
  obtain ⟨-, b0, b1, b2, b3, b4, b5, b6, b7⟩ := unhide hB
  go_wp2_with fail
  clear b0 b1 b2 b3 b4 b5 b6 b7
  refine (rnum_at _ _ _ _ rfl _).mono ?_
  rintro e w62 ⟨rfl, hb62⟩
  replace hA := hide (four_call (unhide hA) hb62)
  replace hB := hide (four_call (unhide hB) hb62)
  replace hR := hide (four_call (unhide hR) hb62)
  replace hL := hide ((unhide hL).trans (hb62.mono (unhide hL).size))
  clear hb62
  obtain ⟨-, a0, a1, a2, a3, a4, a5, a6, a7⟩ := unhide hA
  obtain ⟨-, b0, b1, b2, b3, b4, b5, b6, b7⟩ := unhide hB
  obtain ⟨-, r0, r1, r2, r3, r4, r5, r6, r7⟩ := unhide hR
  go_wp2_with fail
  exact bodyPost_ret (v := .tuple #[V 0 0 0 ⟨#[]⟩, .int .i64 0]) (by simp [results, Try.results30, go_sem, r0, r1, r2, r3]) rfl ⟨rfl, (unhide hL).trans ((below_set4 (w.heap.size + 1 + 1) _ _ _ _ _).mono (by omega))⟩

set_option maxHeartbeats 2000000 in
set_option maxRecDepth 100000 in
theorem rk_4c (ik je jn js ky xn xs yn ys : Int) (xt yt : ByteArray) (w : World) (CI : Hid (∀ W, Calls Try.prog 54 #[.int .i64 8, .int .i64 0, .int .i64 xn] W fun e w' => e = .returned (.tuple #[V ik jn js ⟨#[]⟩, .int .i64 je]) ∧ Below W.heap.size W w')) :
    Calls Try.prog 30 #[.int .i64 4, V 2 xn xs xt, V ky yn ys yt] w fun e w' => e = .returned (.tuple #[V ik jn js ⟨#[]⟩, .int .i64 je]) ∧ Below w.heap.size w w' := by
  have hA := hide (four_more (four_more (four_alloc (.int .i64 2) (.int .i64 0) (.int .i64 0) (.string ⟨#[]⟩) 28 w) (.cells #[.int .i64 2, .int .i64 xn, .int .i64 xs, .string xt] 28)) (.cells #[.int .i64 0, .int .i64 0, .int .i64 0, .string ⟨#[]⟩] 28))
  have hB := four_more (four_alloc (.int .i64 2) (.int .i64 xn) (.int .i64 xs) (.string xt) 28 (w.alloc (.cells #[.int .i64 2, .int .i64 0, .int .i64 0, .string ⟨#[]⟩] 28))) (.cells #[.int .i64 0, .int .i64 0, .int .i64 0, .string ⟨#[]⟩] 28)
  have hR := four_alloc (.int .i64 0) (.int .i64 0) (.int .i64 0) (.string ⟨#[]⟩) 28 ((w.alloc (.cells #[.int .i64 2, .int .i64 0, .int .i64 0, .string ⟨#[]⟩] 28)).alloc (.cells #[.int .i64 2, .int .i64 xn, .int .i64 xs, .string xt] 28))
  simp only [World.size_alloc] at hB hR
  replace hB := hide hB
  replace hR := hide hR
  have hL := hide ((((Below.refl _ w).alloc (Nat.le_refl _) (.cells #[.int .i64 2, .int .i64 0, .int .i64 0, .string ⟨#[]⟩] 28)).alloc (by simp) (.cells #[.int .i64 2, .int .i64 xn, .int .i64 xs, .string xt] 28)).alloc (by simp; omega) (.cells #[.int .i64 0, .int .i64 0, .int .i64 0, .string ⟨#[]⟩] 28))
  go_enter Try.func30, Try.ntmps30
  go_wp2_with fail
  refine (rnum_at _ _ _ _ rfl _).mono ?_
  rintro e w63 ⟨rfl, hb63⟩
  replace hA := hide (four_call (unhide hA) hb63)
  replace hB := hide (four_call (unhide hB) hb63)
  replace hR := hide (four_call (unhide hR) hb63)
  replace hL := hide ((unhide hL).trans (hb63.mono (unhide hL).size))
  clear hb63
  obtain ⟨-, b0, b1, b2, b3, b4, b5, b6, b7⟩ := unhide hB
  go_wp2_with fail
  clear b0 b1 b2 b3 b4 b5 b6 b7
  refine (rnum_at _ _ _ _ rfl _).mono ?_
  rintro e w64 ⟨rfl, hb64⟩
  replace hA := hide (four_call (unhide hA) hb64)
  replace hB := hide (four_call (unhide hB) hb64)
  replace hR := hide (four_call (unhide hR) hb64)
  replace hL := hide ((unhide hL).trans (hb64.mono (unhide hL).size))
  clear hb64
  obtain ⟨-, a0, a1, a2, a3, a4, a5, a6, a7⟩ := unhide hA
  obtain ⟨-, b0, b1, b2, b3, b4, b5, b6, b7⟩ := unhide hB
  go_wp2_with fail
  clear a0 a1 a2 a3 a4 a5 a6 a7 b0 b1 b2 b3 b4 b5 b6 b7
  refine (unhide CI _).mono ?_
  rintro e w65 ⟨rfl, hb65⟩
  replace hR := hide (four_call (unhide hR) hb65)
  replace hL := hide ((unhide hL).trans (hb65.mono (unhide hL).size))
  clear hb65
  clear hA hB
  obtain ⟨-, r0, r1, r2, r3, r4, r5, r6, r7⟩ := unhide hR
  go_wp2_with fail
  exact bodyPost_ret (v := .tuple #[V ik jn js ⟨#[]⟩, .int .i64 je]) (by simp [results, Try.results30, go_sem, r0, r1, r2, r3]) rfl ⟨rfl, (unhide hL).trans ((below_set4 (w.heap.size + 1 + 1) _ _ _ _ _).mono (by omega))⟩

set_option maxHeartbeats 2000000 in
set_option maxRecDepth 100000 in
theorem rk_4d (ik je jn js ky xn xs yn ys : Int) (yt : ByteArray) (w : World) (CI : Hid (∀ W, Calls Try.prog 55 #[.int .i64 8, V 3 0 0 ⟨#[]⟩, V 3 xn xs ⟨#[]⟩] W fun e w' => e = .returned (.tuple #[V ik jn js ⟨#[]⟩, .int .i64 je]) ∧ Below W.heap.size W w')) :
    Calls Try.prog 30 #[.int .i64 4, V 3 xn xs ⟨#[]⟩, V ky yn ys yt] w fun e w' => e = .returned (.tuple #[V ik jn js ⟨#[]⟩, .int .i64 je]) ∧ Below w.heap.size w w' := by
  have hA := hide (four_more (four_more (four_alloc (.int .i64 3) (.int .i64 0) (.int .i64 0) (.string ⟨#[]⟩) 28 w) (.cells #[.int .i64 3, .int .i64 xn, .int .i64 xs, .string ⟨#[]⟩] 28)) (.cells #[.int .i64 0, .int .i64 0, .int .i64 0, .string ⟨#[]⟩] 28))
  have hB := four_more (four_alloc (.int .i64 3) (.int .i64 xn) (.int .i64 xs) (.string ⟨#[]⟩) 28 (w.alloc (.cells #[.int .i64 3, .int .i64 0, .int .i64 0, .string ⟨#[]⟩] 28))) (.cells #[.int .i64 0, .int .i64 0, .int .i64 0, .string ⟨#[]⟩] 28)
  have hR := four_alloc (.int .i64 0) (.int .i64 0) (.int .i64 0) (.string ⟨#[]⟩) 28 ((w.alloc (.cells #[.int .i64 3, .int .i64 0, .int .i64 0, .string ⟨#[]⟩] 28)).alloc (.cells #[.int .i64 3, .int .i64 xn, .int .i64 xs, .string ⟨#[]⟩] 28))
  simp only [World.size_alloc] at hB hR
  replace hB := hide hB
  replace hR := hide hR
  have hL := hide ((((Below.refl _ w).alloc (Nat.le_refl _) (.cells #[.int .i64 3, .int .i64 0, .int .i64 0, .string ⟨#[]⟩] 28)).alloc (by simp) (.cells #[.int .i64 3, .int .i64 xn, .int .i64 xs, .string ⟨#[]⟩] 28)).alloc (by simp; omega) (.cells #[.int .i64 0, .int .i64 0, .int .i64 0, .string ⟨#[]⟩] 28))
  go_enter Try.func30, Try.ntmps30
  go_wp2_with fail
  refine (rnum_at _ _ _ _ rfl _).mono ?_
  rintro e w66 ⟨rfl, hb66⟩
  replace hA := hide (four_call (unhide hA) hb66)
  replace hB := hide (four_call (unhide hB) hb66)
  replace hR := hide (four_call (unhide hR) hb66)
  replace hL := hide ((unhide hL).trans (hb66.mono (unhide hL).size))
  clear hb66
  obtain ⟨-, b0, b1, b2, b3, b4, b5, b6, b7⟩ := unhide hB
  go_wp2_with fail
  clear b0 b1 b2 b3 b4 b5 b6 b7
  refine (rnum_at _ _ _ _ rfl _).mono ?_
  rintro e w67 ⟨rfl, hb67⟩
  replace hA := hide (four_call (unhide hA) hb67)
  replace hB := hide (four_call (unhide hB) hb67)
  replace hR := hide (four_call (unhide hR) hb67)
  replace hL := hide ((unhide hL).trans (hb67.mono (unhide hL).size))
  clear hb67
  obtain ⟨-, a0, a1, a2, a3, a4, a5, a6, a7⟩ := unhide hA
  obtain ⟨-, b0, b1, b2, b3, b4, b5, b6, b7⟩ := unhide hB
  go_wp2_with fail
  clear a0 a1 a2 a3 a4 a5 a6 a7 b0 b1 b2 b3 b4 b5 b6 b7
  refine (unhide CI _).mono ?_
  rintro e w68 ⟨rfl, hb68⟩
  replace hR := hide (four_call (unhide hR) hb68)
  replace hL := hide ((unhide hL).trans (hb68.mono (unhide hL).size))
  clear hb68
  clear hA hB
  obtain ⟨-, r0, r1, r2, r3, r4, r5, r6, r7⟩ := unhide hR
  go_wp2_with fail
  exact bodyPost_ret (v := .tuple #[V ik jn js ⟨#[]⟩, .int .i64 je]) (by simp [results, Try.results30, go_sem, r0, r1, r2, r3]) rfl ⟨rfl, (unhide hL).trans ((below_set4 (w.heap.size + 1 + 1) _ _ _ _ _).mono (by omega))⟩
end Go.Proofs.Ytphnpcidndmlnaa
