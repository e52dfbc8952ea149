/-
  The walk of the law ValKinds.
-/
import Derived.Test.YtofeecalpofklaaWI0
import Derived.Test.YtofeecalpofklaaU
namespace Go.Proofs.Ytofeecalpofklaa
open Go.RowKit
set_option linter.unusedSimpArgs false
set_option linter.unusedVariables false

theorem less_ne {x y : List UInt8} (h : Op.bytesLess x y = true) : (x == y) = false := by
  cases g : (x == y)
  · rfl
  · have : x = y := by simpa using g
    rw [this, bytesLess_self] at h; cases h

set_option maxHeartbeats 4000000 in
set_option maxRecDepth 100000 in
theorem kinds_walk (a n b m : Int) (s t : ByteArray) (w : World) (hs : s.size ≤ 100) (ht : t.size ≤ 100)
    (MX : Hid (∀ W, Calls Try.prog 11 #[.int .i64 a, .int .i64 n, .string s] W fun e w' => Made e (a % 6) ∧ Below W.heap.size W w'))
    (MY : Hid (∀ W, Calls Try.prog 11 #[.int .i64 b, .int .i64 m, .string t] W fun e w' => Made e (b % 6) ∧ Below W.heap.size W w')) :
    Calls Try.prog 9 #[.int .i64 a, .int .i64 n, .int .i64 b, .int .i64 m, .string s, .string t] w fun e w' => e = .returned (.bool true) ∧ Below w.heap.size w w' := by
  have hL := hide (Below.refl w.heap.size w)
  go_enter Try.func9, Try.ntmps9
  go_wp2_with fail
  refine (known_any _).mono ?_
  rintro e w1 ⟨rfl, hb1⟩
  replace hL := hide ((unhide hL).trans (hb1.mono (unhide hL).size))
  clear hb1
  go_wp2_with fail
  refine (unhide MX _).mono ?_
  rintro e w2 ⟨⟨xn, xs, xt, okx, rfl⟩, hb2⟩
  have OX := hide okx
  replace hL := hide ((unhide hL).trans (hb2.mono (unhide hL).size))
  clear hb2 okx
  go_wp2_with fail
  refine (unhide MY _).mono ?_
  rintro e w3 ⟨⟨yn, ys, yt, oky, rfl⟩, hb3⟩
  have OY := hide oky
  replace hL := hide ((unhide hL).trans (hb3.mono (unhide hL).size))
  clear hb3 oky
  generalize a % 6 = k at *
  generalize b % 6 = k' at *
  have hX := hide (four_more (four_alloc (.int .i64 k) (.int .i64 xn) (.int .i64 xs) (.string xt) 23 w3) (.cells #[.int .i64 k', .int .i64 yn, .int .i64 ys, .string yt] 23))
  have hY := four_alloc (.int .i64 k') (.int .i64 yn) (.int .i64 ys) (.string yt) 23 (w3.alloc (.cells #[.int .i64 k, .int .i64 xn, .int .i64 xs, .string xt] 23))
  rw [World.size_alloc] at hY
  replace hY := hide hY
  replace hL := hide (((unhide hL).alloc (unhide hL).size (.cells #[.int .i64 k, .int .i64 xn, .int .i64 xs, .string xt] 23)).alloc (Nat.le_trans (unhide hL).size (by simp)) (.cells #[.int .i64 k', .int .i64 yn, .int .i64 ys, .string yt] 23))
  have CO := hide (fun W => order_any k xn xs xt k' yn ys yt W (ok_64 (unhide OX)) (ok_64 (unhide OY)) (ok_scale (unhide OX)) (ok_scale (unhide OY)))
  have KA := kinds_are (unhide OX) (unhide OY)
  generalize ordV k xn xs xt k' yn ys yt = c at *
  replace KA := hide KA
  go_wp2_with fail
  refine (unhide CO _).mono ?_
  rintro e w4 ⟨rfl, hb4⟩
  replace hX := hide (four_call (unhide hX) hb4)
  replace hY := hide (four_call (unhide hY) hb4)
  replace hL := hide ((unhide hL).trans (hb4.mono (unhide hL).size))
  clear hb4 CO MX MY OX OY
  obtain ⟨-, x0, x1, x2, x3, -⟩ := unhide hX
  obtain ⟨-, y0, y1, y2, y3, -⟩ := unhide hY
  clear hX hY
  have KB := unhide KA
  clear KA
  unfold KindsAre at KB
  rcases KB with ⟨g1, rfl⟩ | ⟨g1, rfl⟩ | ⟨rfl, g1, g2⟩ | ⟨rfl, g1, g2⟩ | ⟨rfl, rfl, rfl, rfl, rfl, rfl⟩ | ⟨rfl, rfl, rfl, rfl, g2⟩
  · have hne : (k != k') = true := bne_iff_ne.2 (by omega)
    go_wp2_with fail
    go_ret
    exact ⟨rfl, unhide hL⟩
  · have hne : (k != k') = true := bne_iff_ne.2 (by omega)
    have hlt : ¬ k < k' := by omega
    go_wp2_with fail
    go_ret
    first | exact ⟨rfl, unhide hL⟩ | (refine ⟨ret_bool ?_, unhide hL⟩; first | (simp; done) | (simp; omega) | (simp [*]; done))
  · have hne : (k' != k') = false := by simp
    rcases g2 with ⟨rfl, g3⟩ | ⟨rfl, g3, g4⟩ | ⟨rfl, g3, g4⟩
    · have g4 := less_ne g3
      rcases g1 with rfl | rfl
      all_goals
        go_wp2_with fail
        go_ret
        first | exact ⟨rfl, unhide hL⟩ | (refine ⟨ret_bool ?_, unhide hL⟩; first | (simp; done) | (simp; omega) | (simp [*]; done))
    all_goals
      rcases g1 with rfl | rfl
      all_goals
        go_wp2_with fail
        go_ret
        first | exact ⟨rfl, unhide hL⟩ | (refine ⟨ret_bool ?_, unhide hL⟩; first | (simp; done) | (simp; omega) | (simp [*]; done))
  · have hne : (k' != k') = false := by simp
    rcases g1 with rfl | rfl <;> rcases g2 with ⟨rfl, g3⟩ | ⟨rfl, rfl⟩ | ⟨rfl, g3⟩
    all_goals
      go_wp2_with fail
      go_ret
      first | exact ⟨rfl, unhide hL⟩ | (refine ⟨ret_bool ?_, unhide hL⟩; first | (simp; done) | (simp; omega) | (simp [*]; done))
  · go_wp2_with fail
    go_ret
    first | exact ⟨rfl, unhide hL⟩ | (refine ⟨ret_bool ?_, unhide hL⟩; first | (simp; done) | (simp; omega) | (simp [*]; done))
  · rcases g2 with ⟨rfl, rfl, rfl⟩ | ⟨rfl | rfl, g3 | g3⟩
    all_goals
      go_wp2_with fail
      all_goals
        go_ret
        first | exact ⟨rfl, unhide hL⟩ | (refine ⟨ret_bool ?_, unhide hL⟩; first | (simp; done) | (simp; omega) | (simp [*]; done))

set_option maxHeartbeats 1000000 in
theorem kinds_long (a n b m : Int) (s t : ByteArray) (w : World) (h : (100 : Int) < s.size ∨ (100 : Int) < t.size) :
    Calls Try.prog 9 #[.int .i64 a, .int .i64 n, .int .i64 b, .int .i64 m, .string s, .string t] w fun e w' => e = .returned (.bool true) ∧ Below w.heap.size w w' := by
  by_cases h1 : (100 : Int) < s.size
  · clear h
    go_enter Try.func9, Try.ntmps9
    go_wp2_with fail
    refine (known_any _).mono ?_
    rintro e w1 ⟨rfl, hb1⟩
    go_wp2_with fail
    go_ret
    exact ⟨rfl, hb1⟩
  · have h2 : (100 : Int) < t.size := by rcases h with h | h; exact absurd h h1; exact h
    clear h
    go_enter Try.func9, Try.ntmps9
    go_wp2_with fail
    refine (known_any _).mono ?_
    rintro e w1 ⟨rfl, hb1⟩
    go_wp2_with fail
    go_ret
    exact ⟨rfl, hb1⟩

theorem valKinds_walk (a n b m : Int) (s t : ByteArray) (wa : (Lit.int .i64 a).wf = true) (wn : (Lit.int .i64 n).wf = true) (wb : (Lit.int .i64 b).wf = true) (wm : (Lit.int .i64 m).wf = true) (hs : s.size ≤ maxLen) (ht : t.size ≤ maxLen) (w : World) :
    Calls Try.prog 9 #[.int .i64 a, .int .i64 n, .int .i64 b, .int .i64 m, .string s, .string t] w fun e w' => e = .returned (.bool true) ∧ Below w.heap.size w w' := by
  unfold maxLen at hs ht
  by_cases h : s.size ≤ 100 ∧ t.size ≤ 100
  · exact kinds_walk a n b m s t w h.1 h.2 (fun W => make_any a n s W (is64_wf wa) (is64_wf wn) hs) (fun W => make_any b m t W (is64_wf wb) (is64_wf wm) ht)
  · exact kinds_long a n b m s t w (by omega)
end Go.Proofs.Ytofeecalpofklaa
