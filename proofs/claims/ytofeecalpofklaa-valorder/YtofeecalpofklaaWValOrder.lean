/-
  The walk of the law ValOrder.
-/
import Derived.Test.YtofeecalpofklaaWI0
import Derived.Test.YtofeecalpofklaaU2
namespace Go.Proofs.Ytofeecalpofklaa
open Go.RowKit
set_option linter.unusedSimpArgs false
set_option linter.unusedVariables false

theorem ord_three {k n s : Int} {t : ByteArray} {k' n' s' : Int} {t' : ByteArray} (h : Ok k n s t) (h' : Ok k' n' s' t') :
    ordV k n s t k' n' s' t' = -1 ∨ ordV k n s t k' n' s' t' = 0 ∨ ordV k n s t k' n' s' t' = 1 := by
  rw [ord_lex h h']; unfold lex3
  split
  · exact cmpI_3 _ _
  · split
    · exact cmpI_3 _ _
    · rcases cmpS_cases t t' with h | h | h
      · exact Or.inl h.1
      · exact Or.inr (Or.inl h.1)
      · exact Or.inr (Or.inr h.1)

/-- what is known of three values -/
def Three (kx xn xs : Int) (xt : ByteArray) (ky yn ys : Int) (yt : ByteArray) (kz zn zs : Int) (zt : ByteArray) (o p q : Int) (lb sb kb : Bool) : Prop :=
  (∀ W, Calls Try.prog 17 #[V kx xn xs xt, V ky yn ys yt] W fun e w' => e = .returned (.int .i64 o) ∧ Below W.heap.size W w') ∧
  (∀ W, Calls Try.prog 18 #[V kx xn xs xt, V ky yn ys yt] W fun e w' => e = .returned (.tuple #[.bool lb, .bool kb]) ∧ Below W.heap.size W w') ∧
  (∀ W, Calls Try.prog 19 #[V kx xn xs xt, V ky yn ys yt] W fun e w' => e = .returned (.tuple #[.bool sb, .bool kb]) ∧ Below W.heap.size W w') ∧
  (∀ W, Calls Try.prog 20 #[V kx xn xs xt, V ky yn ys yt] W fun e w' => e = .returned (.tuple #[.bool lb, .bool kb]) ∧ Below W.heap.size W w') ∧
  (∀ W, Calls Try.prog 21 #[V kx xn xs xt, V ky yn ys yt] W fun e w' => e = .returned (.tuple #[.bool sb, .bool kb]) ∧ Below W.heap.size W w') ∧
  (∀ W, Calls Try.prog 22 #[V kx xn xs xt, V ky yn ys yt] W fun e w' => e = .returned (.int .i64 o) ∧ Below W.heap.size W w') ∧
  (∀ W, Calls Try.prog 17 #[V ky yn ys yt, V kx xn xs xt] W fun e w' => e = .returned (.int .i64 (-o)) ∧ Below W.heap.size W w') ∧
  (∀ W, Calls Try.prog 17 #[V kx xn xs xt, V kx xn xs xt] W fun e w' => e = .returned (.int .i64 0) ∧ Below W.heap.size W w') ∧
  (∀ W, Calls Try.prog 17 #[V ky yn ys yt, V kz zn zs zt] W fun e w' => e = .returned (.int .i64 p) ∧ Below W.heap.size W w') ∧
  (∀ W, Calls Try.prog 17 #[V kx xn xs xt, V kz zn zs zt] W fun e w' => e = .returned (.int .i64 q) ∧ Below W.heap.size W w') ∧
  ((o = 1) ∨ ((o = -1 ∨ o = 0) ∧ (0 < p ∨ (p ≤ 0 ∧ q ≤ 0))))
theorem three_are {kx xn xs : Int} {xt : ByteArray} {ky yn ys : Int} {yt : ByteArray} {kz zn zs : Int} {zt : ByteArray} (hx : Ok kx xn xs xt) (hy : Ok ky yn ys yt) (hz : Ok kz zn zs zt) :
    ∃ o p q lb sb kb, Three kx xn xs xt ky yn ys yt kz zn zs zt o p q lb sb kb := by
  refine ⟨ordV kx xn xs xt ky yn ys yt, ordV ky yn ys yt kz zn zs zt, ordV kx xn xs xt kz zn zs zt, oneK kx ky && decide (ordV kx xn xs xt ky yn ys yt < 0), oneK kx ky && (ordV kx xn xs xt ky yn ys yt == 0), oneK kx ky,
    fun W => order_any _ _ _ _ _ _ _ _ W (ok_64 hx) (ok_64 hy) (ok_scale hx) (ok_scale hy),
    fun W => less_any _ _ _ _ _ _ _ _ W (ok_64 hx) (ok_64 hy) (ok_scale hx) (ok_scale hy),
    fun W => same_any _ _ _ _ _ _ _ _ W (ok_64 hx) (ok_64 hy) (ok_scale hx) (ok_scale hy),
    fun W => ?_, fun W => ?_, fun W => ?_, fun W => ?_, fun W => ?_,
    fun W => order_any _ _ _ _ _ _ _ _ W (ok_64 hy) (ok_64 hz) (ok_scale hy) (ok_scale hz),
    fun W => order_any _ _ _ _ _ _ _ _ W (ok_64 hx) (ok_64 hz) (ok_scale hx) (ok_scale hz), ?_⟩
  · have := rless_any kx xn xs xt ky yn ys yt W (ok_dec_in hx) (ok_dec_in hy)
    rw [rord_ord hx hy] at this; exact this
  · have := rsame_any kx xn xs xt ky yn ys yt W (ok_dec_in hx) (ok_dec_in hy)
    rw [rord_ord hx hy] at this; exact this
  · have := rorder_any kx xn xs xt ky yn ys yt W (ok_dec_in hx) (ok_dec_in hy)
    rw [rord_ord hx hy] at this; exact this
  · have := order_any ky yn ys yt kx xn xs xt W (ok_64 hy) (ok_64 hx) (ok_scale hy) (ok_scale hx)
    rw [ord_anti hx hy] at this; exact this
  · have := order_any kx xn xs xt kx xn xs xt W (ok_64 hx) (ok_64 hx) (ok_scale hx) (ok_scale hx)
    rw [ord_self hx] at this; exact this
  · have h1 := ord_three hx hy
    have h2 := @ord_trans _ _ _ _ _ _ _ _ _ _ _ _ hx hy hz
    omega

set_option maxHeartbeats 8000000 in
set_option maxRecDepth 100000 in
theorem order_walk (a n b m c k : Int) (s t : ByteArray) (w : World) (hs : s.size ≤ 100) (ht : t.size ≤ 100)
    (MX : Hid (∀ W, Calls Try.prog 11 #[.int .i64 a, .int .i64 n, .string s] W fun e w' => Made e (a % 6) ∧ Below W.heap.size W w'))
    (MY : Hid (∀ W, Calls Try.prog 11 #[.int .i64 b, .int .i64 m, .string t] W fun e w' => Made e (b % 6) ∧ Below W.heap.size W w'))
    (MZ : Hid (∀ W u, u.size ≤ 9223372036854775807 → Calls Try.prog 11 #[.int .i64 c, .int .i64 k, .string u] W fun e w' => Made e (c % 6) ∧ Below W.heap.size W w')) :
    Calls Try.prog 4 #[.int .i64 a, .int .i64 n, .int .i64 b, .int .i64 m, .int .i64 c, .int .i64 k, .string s, .string t] w fun e w' => e = .returned (.bool true) ∧ Below w.heap.size w w' := by
  have hL := hide (Below.refl w.heap.size w)
  go_enter Try.func4, Try.ntmps4
  go_wp2_with fail
  refine (known_any _).mono ?_
  rintro e w1 ⟨rfl, hb1⟩
  replace hL := hide ((unhide hL).trans (hb1.mono (unhide hL).size))
  clear hb1
  go_wp2_with fail
  refine (unhide MX _).mono ?_
  rintro e w2 ⟨⟨xn, xs, xt, okx, rfl⟩, hb2⟩
  have OX := hide okx
  replace hL := hide ((unhide hL).trans (hb2.mono (unhide hL).size))
  clear hb2 okx
  go_wp2_with fail
  refine (unhide MY _).mono ?_
  rintro e w3 ⟨⟨yn, ys, yt, oky, rfl⟩, hb3⟩
  have OY := hide oky
  replace hL := hide ((unhide hL).trans (hb3.mono (unhide hL).size))
  clear hb3 oky
  go_wp2_with fail
  refine (unhide MZ _ _ ?_).mono ?_
  · simp; omega
  rintro e w4 ⟨⟨zn, zs, zt, okz, rfl⟩, hb4⟩
  have OZ := hide okz
  replace hL := hide ((unhide hL).trans (hb4.mono (unhide hL).size))
  clear hb4 okz
  generalize a % 6 = kx at *
  generalize b % 6 = ky at *
  generalize c % 6 = kz at *
  obtain ⟨o, p, q, lb, sb, kb, hT⟩ := three_are (unhide OX) (unhide OY) (unhide OZ)
  have HT := hide hT
  clear hT OX OY OZ MX MY MZ
  have hX := hide (four_more (four_more (four_alloc (.int .i64 kx) (.int .i64 xn) (.int .i64 xs) (.string xt) 23 w4) (.cells #[.int .i64 ky, .int .i64 yn, .int .i64 ys, .string yt] 23)) (.cells #[.int .i64 kz, .int .i64 zn, .int .i64 zs, .string zt] 23))
  have hY := four_more (four_alloc (.int .i64 ky) (.int .i64 yn) (.int .i64 ys) (.string yt) 23 (w4.alloc (.cells #[.int .i64 kx, .int .i64 xn, .int .i64 xs, .string xt] 23))) (.cells #[.int .i64 kz, .int .i64 zn, .int .i64 zs, .string zt] 23)
  have hZ := four_alloc (.int .i64 kz) (.int .i64 zn) (.int .i64 zs) (.string zt) 23 ((w4.alloc (.cells #[.int .i64 kx, .int .i64 xn, .int .i64 xs, .string xt] 23)).alloc (.cells #[.int .i64 ky, .int .i64 yn, .int .i64 ys, .string yt] 23))
  simp only [World.size_alloc] at hY hZ
  replace hY := hide hY
  replace hZ := hide hZ
  replace hL := hide ((((unhide hL).alloc (unhide hL).size (.cells #[.int .i64 kx, .int .i64 xn, .int .i64 xs, .string xt] 23)).alloc (Nat.le_trans (unhide hL).size (by simp)) (.cells #[.int .i64 ky, .int .i64 yn, .int .i64 ys, .string yt] 23)).alloc (Nat.le_trans (unhide hL).size (by simp; omega)) (.cells #[.int .i64 kz, .int .i64 zn, .int .i64 zs, .string zt] 23))
  go_wp2_with fail
  refine ((unhide HT).1 _).mono ?_
  rintro e w5 ⟨rfl, hb5⟩
  replace hX := hide (four_call (unhide hX) hb5)
  replace hY := hide (four_call (unhide hY) hb5)
  replace hZ := hide (four_call (unhide hZ) hb5)
  replace hL := hide ((unhide hL).trans (hb5.mono (unhide hL).size))
  clear hb5
  obtain ⟨-, x0, x1, x2, x3, -⟩ := unhide hX
  obtain ⟨-, y0, y1, y2, y3, -⟩ := unhide hY
  go_wp2_with fail
  refine ((unhide HT).2.1 _).mono ?_
  rintro e w6 ⟨rfl, hb6⟩
  clear x0 x1 x2 x3 y0 y1 y2 y3
  replace hX := hide (four_call (unhide hX) hb6)
  replace hY := hide (four_call (unhide hY) hb6)
  replace hZ := hide (four_call (unhide hZ) hb6)
  replace hL := hide ((unhide hL).trans (hb6.mono (unhide hL).size))
  clear hb6
  obtain ⟨-, x0, x1, x2, x3, -⟩ := unhide hX
  obtain ⟨-, y0, y1, y2, y3, -⟩ := unhide hY
  go_wp2_with fail
  refine ((unhide HT).2.2.1 _).mono ?_
  rintro e w7 ⟨rfl, hb7⟩
  clear x0 x1 x2 x3 y0 y1 y2 y3
  replace hX := hide (four_call (unhide hX) hb7)
  replace hY := hide (four_call (unhide hY) hb7)
  replace hZ := hide (four_call (unhide hZ) hb7)
  replace hL := hide ((unhide hL).trans (hb7.mono (unhide hL).size))
  clear hb7
  obtain ⟨-, x0, x1, x2, x3, -⟩ := unhide hX
  obtain ⟨-, y0, y1, y2, y3, -⟩ := unhide hY
  go_wp2_with fail
  refine ((unhide HT).2.2.2.1 _).mono ?_
  rintro e w8 ⟨rfl, hb8⟩
  clear x0 x1 x2 x3 y0 y1 y2 y3
  replace hX := hide (four_call (unhide hX) hb8)
  replace hY := hide (four_call (unhide hY) hb8)
  replace hZ := hide (four_call (unhide hZ) hb8)
  replace hL := hide ((unhide hL).trans (hb8.mono (unhide hL).size))
  clear hb8
  obtain ⟨-, x0, x1, x2, x3, -⟩ := unhide hX
  obtain ⟨-, y0, y1, y2, y3, -⟩ := unhide hY
  go_wp2_with fail
  refine ((unhide HT).2.2.2.2.1 _).mono ?_
  rintro e w9 ⟨rfl, hb9⟩
  clear x0 x1 x2 x3 y0 y1 y2 y3
  replace hX := hide (four_call (unhide hX) hb9)
  replace hY := hide (four_call (unhide hY) hb9)
  replace hZ := hide (four_call (unhide hZ) hb9)
  replace hL := hide ((unhide hL).trans (hb9.mono (unhide hL).size))
  clear hb9
  have hcase := (unhide HT).2.2.2.2.2.2.2.2.2.2
  rcases hcase with ho | ⟨ho, hpq⟩
  · subst ho
    obtain ⟨-, x0, x1, x2, x3, -⟩ := unhide hX
    obtain ⟨-, y0, y1, y2, y3, -⟩ := unhide hY
    go_wp2_with fail
    refine ((unhide HT).2.2.2.2.2.1 _).mono ?_
    rintro e w10 ⟨rfl, hb10⟩
    clear x0 x1 x2 x3 y0 y1 y2 y3
    replace hX := hide (four_call (unhide hX) hb10)
    replace hY := hide (four_call (unhide hY) hb10)
    replace hZ := hide (four_call (unhide hZ) hb10)
    replace hL := hide ((unhide hL).trans (hb10.mono (unhide hL).size))
    clear hb10
    obtain ⟨-, x0, x1, x2, x3, -⟩ := unhide hX
    obtain ⟨-, y0, y1, y2, y3, -⟩ := unhide hY
    go_wp2_with fail
    refine ((unhide HT).2.2.2.2.2.2.1 _).mono ?_
    rintro e w11 ⟨rfl, hb11⟩
    clear x0 x1 x2 x3 y0 y1 y2 y3
    replace hX := hide (four_call (unhide hX) hb11)
    replace hY := hide (four_call (unhide hY) hb11)
    replace hZ := hide (four_call (unhide hZ) hb11)
    replace hL := hide ((unhide hL).trans (hb11.mono (unhide hL).size))
    clear hb11
    obtain ⟨-, x0, x1, x2, x3, -⟩ := unhide hX
    go_wp2_with fail
    refine ((unhide HT).2.2.2.2.2.2.2.1 _).mono ?_
    rintro e w12 ⟨rfl, hb12⟩
    clear x0 x1 x2 x3
    replace hX := hide (four_call (unhide hX) hb12)
    replace hY := hide (four_call (unhide hY) hb12)
    replace hZ := hide (four_call (unhide hZ) hb12)
    replace hL := hide ((unhide hL).trans (hb12.mono (unhide hL).size))
    clear hb12
    go_wp2_with fail
    go_ret
    exact ⟨by simp, unhide hL⟩
  · rcases hpq with hp | ⟨hp, hq⟩ <;> rcases ho with rfl | rfl
    · skip
      obtain ⟨-, x0, x1, x2, x3, -⟩ := unhide hX
      obtain ⟨-, y0, y1, y2, y3, -⟩ := unhide hY
      go_wp2_with fail
      refine ((unhide HT).2.2.2.2.2.1 _).mono ?_
      rintro e w10 ⟨rfl, hb10⟩
      clear x0 x1 x2 x3 y0 y1 y2 y3
      replace hX := hide (four_call (unhide hX) hb10)
      replace hY := hide (four_call (unhide hY) hb10)
      replace hZ := hide (four_call (unhide hZ) hb10)
      replace hL := hide ((unhide hL).trans (hb10.mono (unhide hL).size))
      clear hb10
      obtain ⟨-, x0, x1, x2, x3, -⟩ := unhide hX
      obtain ⟨-, y0, y1, y2, y3, -⟩ := unhide hY
      go_wp2_with fail
      refine ((unhide HT).2.2.2.2.2.2.1 _).mono ?_
      rintro e w11 ⟨rfl, hb11⟩
      clear x0 x1 x2 x3 y0 y1 y2 y3
      replace hX := hide (four_call (unhide hX) hb11)
      replace hY := hide (four_call (unhide hY) hb11)
      replace hZ := hide (four_call (unhide hZ) hb11)
      replace hL := hide ((unhide hL).trans (hb11.mono (unhide hL).size))
      clear hb11
      obtain ⟨-, x0, x1, x2, x3, -⟩ := unhide hX
      go_wp2_with fail
      refine ((unhide HT).2.2.2.2.2.2.2.1 _).mono ?_
      rintro e w12 ⟨rfl, hb12⟩
      clear x0 x1 x2 x3
      replace hX := hide (four_call (unhide hX) hb12)
      replace hY := hide (four_call (unhide hY) hb12)
      replace hZ := hide (four_call (unhide hZ) hb12)
      replace hL := hide ((unhide hL).trans (hb12.mono (unhide hL).size))
      clear hb12
      obtain ⟨-, y0, y1, y2, y3, -⟩ := unhide hY
      obtain ⟨-, z0, z1, z2, z3, -⟩ := unhide hZ
      go_wp2_with fail
      refine ((unhide HT).2.2.2.2.2.2.2.2.1 _).mono ?_
      rintro e w13 ⟨rfl, hb13⟩
      clear y0 y1 y2 y3 z0 z1 z2 z3
      replace hX := hide (four_call (unhide hX) hb13)
      replace hY := hide (four_call (unhide hY) hb13)
      replace hZ := hide (four_call (unhide hZ) hb13)
      replace hL := hide ((unhide hL).trans (hb13.mono (unhide hL).size))
      clear hb13
      go_wp2_with fail
      go_ret
      exact ⟨by simp, unhide hL⟩
    · skip
      obtain ⟨-, x0, x1, x2, x3, -⟩ := unhide hX
      obtain ⟨-, y0, y1, y2, y3, -⟩ := unhide hY
      go_wp2_with fail
      refine ((unhide HT).2.2.2.2.2.1 _).mono ?_
      rintro e w10 ⟨rfl, hb10⟩
      clear x0 x1 x2 x3 y0 y1 y2 y3
      replace hX := hide (four_call (unhide hX) hb10)
      replace hY := hide (four_call (unhide hY) hb10)
      replace hZ := hide (four_call (unhide hZ) hb10)
      replace hL := hide ((unhide hL).trans (hb10.mono (unhide hL).size))
      clear hb10
      obtain ⟨-, x0, x1, x2, x3, -⟩ := unhide hX
      obtain ⟨-, y0, y1, y2, y3, -⟩ := unhide hY
      go_wp2_with fail
      refine ((unhide HT).2.2.2.2.2.2.1 _).mono ?_
      rintro e w11 ⟨rfl, hb11⟩
      clear x0 x1 x2 x3 y0 y1 y2 y3
      replace hX := hide (four_call (unhide hX) hb11)
      replace hY := hide (four_call (unhide hY) hb11)
      replace hZ := hide (four_call (unhide hZ) hb11)
      replace hL := hide ((unhide hL).trans (hb11.mono (unhide hL).size))
      clear hb11
      obtain ⟨-, x0, x1, x2, x3, -⟩ := unhide hX
      go_wp2_with fail
      refine ((unhide HT).2.2.2.2.2.2.2.1 _).mono ?_
      rintro e w12 ⟨rfl, hb12⟩
      clear x0 x1 x2 x3
      replace hX := hide (four_call (unhide hX) hb12)
      replace hY := hide (four_call (unhide hY) hb12)
      replace hZ := hide (four_call (unhide hZ) hb12)
      replace hL := hide ((unhide hL).trans (hb12.mono (unhide hL).size))
      clear hb12
      obtain ⟨-, y0, y1, y2, y3, -⟩ := unhide hY
      obtain ⟨-, z0, z1, z2, z3, -⟩ := unhide hZ
      go_wp2_with fail
      refine ((unhide HT).2.2.2.2.2.2.2.2.1 _).mono ?_
      rintro e w13 ⟨rfl, hb13⟩
      clear y0 y1 y2 y3 z0 z1 z2 z3
      replace hX := hide (four_call (unhide hX) hb13)
      replace hY := hide (four_call (unhide hY) hb13)
      replace hZ := hide (four_call (unhide hZ) hb13)
      replace hL := hide ((unhide hL).trans (hb13.mono (unhide hL).size))
      clear hb13
      go_wp2_with fail
      go_ret
      exact ⟨by simp, unhide hL⟩
    · skip
      obtain ⟨-, x0, x1, x2, x3, -⟩ := unhide hX
      obtain ⟨-, y0, y1, y2, y3, -⟩ := unhide hY
      go_wp2_with fail
      refine ((unhide HT).2.2.2.2.2.1 _).mono ?_
      rintro e w10 ⟨rfl, hb10⟩
      clear x0 x1 x2 x3 y0 y1 y2 y3
      replace hX := hide (four_call (unhide hX) hb10)
      replace hY := hide (four_call (unhide hY) hb10)
      replace hZ := hide (four_call (unhide hZ) hb10)
      replace hL := hide ((unhide hL).trans (hb10.mono (unhide hL).size))
      clear hb10
      obtain ⟨-, x0, x1, x2, x3, -⟩ := unhide hX
      obtain ⟨-, y0, y1, y2, y3, -⟩ := unhide hY
      go_wp2_with fail
      refine ((unhide HT).2.2.2.2.2.2.1 _).mono ?_
      rintro e w11 ⟨rfl, hb11⟩
      clear x0 x1 x2 x3 y0 y1 y2 y3
      replace hX := hide (four_call (unhide hX) hb11)
      replace hY := hide (four_call (unhide hY) hb11)
      replace hZ := hide (four_call (unhide hZ) hb11)
      replace hL := hide ((unhide hL).trans (hb11.mono (unhide hL).size))
      clear hb11
      obtain ⟨-, x0, x1, x2, x3, -⟩ := unhide hX
      go_wp2_with fail
      refine ((unhide HT).2.2.2.2.2.2.2.1 _).mono ?_
      rintro e w12 ⟨rfl, hb12⟩
      clear x0 x1 x2 x3
      replace hX := hide (four_call (unhide hX) hb12)
      replace hY := hide (four_call (unhide hY) hb12)
      replace hZ := hide (four_call (unhide hZ) hb12)
      replace hL := hide ((unhide hL).trans (hb12.mono (unhide hL).size))
      clear hb12
      obtain ⟨-, y0, y1, y2, y3, -⟩ := unhide hY
      obtain ⟨-, z0, z1, z2, z3, -⟩ := unhide hZ
      go_wp2_with fail
      refine ((unhide HT).2.2.2.2.2.2.2.2.1 _).mono ?_
      rintro e w13 ⟨rfl, hb13⟩
      clear y0 y1 y2 y3 z0 z1 z2 z3
      replace hX := hide (four_call (unhide hX) hb13)
      replace hY := hide (four_call (unhide hY) hb13)
      replace hZ := hide (four_call (unhide hZ) hb13)
      replace hL := hide ((unhide hL).trans (hb13.mono (unhide hL).size))
      clear hb13
      obtain ⟨-, x0, x1, x2, x3, -⟩ := unhide hX
      obtain ⟨-, z0, z1, z2, z3, -⟩ := unhide hZ
      go_wp2_with fail
      refine ((unhide HT).2.2.2.2.2.2.2.2.2.1 _).mono ?_
      rintro e w14 ⟨rfl, hb14⟩
      clear x0 x1 x2 x3 z0 z1 z2 z3
      replace hX := hide (four_call (unhide hX) hb14)
      replace hY := hide (four_call (unhide hY) hb14)
      replace hZ := hide (four_call (unhide hZ) hb14)
      replace hL := hide ((unhide hL).trans (hb14.mono (unhide hL).size))
      clear hb14
      go_wp2_with fail
      go_ret
      exact ⟨by simp, unhide hL⟩
    · skip
      obtain ⟨-, x0, x1, x2, x3, -⟩ := unhide hX
      obtain ⟨-, y0, y1, y2, y3, -⟩ := unhide hY
      go_wp2_with fail
      refine ((unhide HT).2.2.2.2.2.1 _).mono ?_
      rintro e w10 ⟨rfl, hb10⟩
      clear x0 x1 x2 x3 y0 y1 y2 y3
      replace hX := hide (four_call (unhide hX) hb10)
      replace hY := hide (four_call (unhide hY) hb10)
      replace hZ := hide (four_call (unhide hZ) hb10)
      replace hL := hide ((unhide hL).trans (hb10.mono (unhide hL).size))
      clear hb10
      obtain ⟨-, x0, x1, x2, x3, -⟩ := unhide hX
      obtain ⟨-, y0, y1, y2, y3, -⟩ := unhide hY
      go_wp2_with fail
      refine ((unhide HT).2.2.2.2.2.2.1 _).mono ?_
      rintro e w11 ⟨rfl, hb11⟩
      clear x0 x1 x2 x3 y0 y1 y2 y3
      replace hX := hide (four_call (unhide hX) hb11)
      replace hY := hide (four_call (unhide hY) hb11)
      replace hZ := hide (four_call (unhide hZ) hb11)
      replace hL := hide ((unhide hL).trans (hb11.mono (unhide hL).size))
      clear hb11
      obtain ⟨-, x0, x1, x2, x3, -⟩ := unhide hX
      go_wp2_with fail
      refine ((unhide HT).2.2.2.2.2.2.2.1 _).mono ?_
      rintro e w12 ⟨rfl, hb12⟩
      clear x0 x1 x2 x3
      replace hX := hide (four_call (unhide hX) hb12)
      replace hY := hide (four_call (unhide hY) hb12)
      replace hZ := hide (four_call (unhide hZ) hb12)
      replace hL := hide ((unhide hL).trans (hb12.mono (unhide hL).size))
      clear hb12
      obtain ⟨-, y0, y1, y2, y3, -⟩ := unhide hY
      obtain ⟨-, z0, z1, z2, z3, -⟩ := unhide hZ
      go_wp2_with fail
      refine ((unhide HT).2.2.2.2.2.2.2.2.1 _).mono ?_
      rintro e w13 ⟨rfl, hb13⟩
      clear y0 y1 y2 y3 z0 z1 z2 z3
      replace hX := hide (four_call (unhide hX) hb13)
      replace hY := hide (four_call (unhide hY) hb13)
      replace hZ := hide (four_call (unhide hZ) hb13)
      replace hL := hide ((unhide hL).trans (hb13.mono (unhide hL).size))
      clear hb13
      obtain ⟨-, x0, x1, x2, x3, -⟩ := unhide hX
      obtain ⟨-, z0, z1, z2, z3, -⟩ := unhide hZ
      go_wp2_with fail
      refine ((unhide HT).2.2.2.2.2.2.2.2.2.1 _).mono ?_
      rintro e w14 ⟨rfl, hb14⟩
      clear x0 x1 x2 x3 z0 z1 z2 z3
      replace hX := hide (four_call (unhide hX) hb14)
      replace hY := hide (four_call (unhide hY) hb14)
      replace hZ := hide (four_call (unhide hZ) hb14)
      replace hL := hide ((unhide hL).trans (hb14.mono (unhide hL).size))
      clear hb14
      go_wp2_with fail
      go_ret
      exact ⟨by simp, unhide hL⟩

set_option maxHeartbeats 1000000 in
theorem order_long (a n b m c k : Int) (s t : ByteArray) (w : World) (h : (100 : Int) < s.size ∨ (100 : Int) < t.size) :
    Calls Try.prog 4 #[.int .i64 a, .int .i64 n, .int .i64 b, .int .i64 m, .int .i64 c, .int .i64 k, .string s, .string t] w fun e w' => e = .returned (.bool true) ∧ Below w.heap.size w w' := by
  by_cases h1 : (100 : Int) < s.size
  · clear h
    go_enter Try.func4, Try.ntmps4
    go_wp2_with fail
    refine (known_any _).mono ?_
    rintro e w1 ⟨rfl, hb1⟩
    go_wp2_with fail
    go_ret
    exact ⟨rfl, hb1⟩
  · have h2 : (100 : Int) < t.size := by rcases h with h | h; exact absurd h h1; exact h
    clear h
    go_enter Try.func4, Try.ntmps4
    go_wp2_with fail
    refine (known_any _).mono ?_
    rintro e w1 ⟨rfl, hb1⟩
    go_wp2_with fail
    go_ret
    exact ⟨rfl, hb1⟩

theorem valOrder_walk (a n b m c k : Int) (s t : ByteArray) (wa : (Lit.int .i64 a).wf = true) (wn : (Lit.int .i64 n).wf = true) (wb : (Lit.int .i64 b).wf = true) (wm : (Lit.int .i64 m).wf = true) (wc : (Lit.int .i64 c).wf = true) (wk : (Lit.int .i64 k).wf = true) (hs : s.size ≤ maxLen) (ht : t.size ≤ maxLen) (w : World) :
    Calls Try.prog 4 #[.int .i64 a, .int .i64 n, .int .i64 b, .int .i64 m, .int .i64 c, .int .i64 k, .string s, .string t] w fun e w' => e = .returned (.bool true) ∧ Below w.heap.size w w' := by
  unfold maxLen at hs ht
  by_cases h : s.size ≤ 100 ∧ t.size ≤ 100
  · exact order_walk a n b m c k s t w h.1 h.2 (fun W => make_any a n s W (is64_wf wa) (is64_wf wn) hs) (fun W => make_any b m t W (is64_wf wb) (is64_wf wm) ht) (fun W u hu => make_any c k u W (is64_wf wc) (is64_wf wk) hu)
  · exact order_long a n b m c k s t w (by omega)
end Go.Proofs.Ytofeecalpofklaa
