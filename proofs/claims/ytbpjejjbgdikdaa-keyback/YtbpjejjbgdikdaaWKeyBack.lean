/-
  The walk of the law KeyBack.
-/
import Derived.Test.YtbpjejjbgdikdaaT3
import Derived.Test.YtbpjejjbgdikdaaT6
namespace Go.Proofs.Ytbpjejjbgdikdaa
open Go.RowKit
set_option linter.unusedSimpArgs false
set_option linter.unusedVariables false

theorem keyB_size {k n s : Int} {t : ByteArray} (h : Ok k n s t) : (keyB k n s t).size ≤ 100 := by
  rw [keyB_len]; exact keyN_len h.2.2.2.2.1
theorem str_list (t : ByteArray) : Str t.data.toList = t := by simp
theorem app_str (k n s : Int) (t more : ByteArray) : keyB k n s t ++ more = Str (nb (keyN k n s t) ++ more.data.toList) := by
  apply ByteArray.ext
  rw [ByteArray.data_append]
  simp [keyB_str]
theorem readKey_back {k n s : Int} {t : ByteArray} (h : Ok k n s t) (more : ByteArray) (hm : more.size ≤ 1000) (w : World) :
    Calls Try.prog 15 #[.string (keyB k n s t ++ more)] w fun e W => e = .returned (.tuple #[V k n s t, .int .i64 ((keyB k n s t).size : Int), .bool true]) ∧ Below w.heap.size w W := by
  have hr := rkey_back h more.data.toList
  have hl := keyN_len (k := k) (n := n) (s := s) h.2.2.2.2.1
  have h1 := readKey_yes _ (by simp; omega) hr w
  rw [app_str]
  have e1 : ((nb (keyN k n s t) ++ more.data.toList).length - more.data.toList.length : Nat) = (keyB k n s t).size := by rw [keyB_len]; simp
  rw [e1] at h1
  simp only [str_list] at h1
  exact h1

set_option maxHeartbeats 1000000 in
set_option maxRecDepth 100000 in
theorem back_walk (kind n : Int) (s more : ByteArray) (w : World) (hs : s.size ≤ 100) (hm : more.size ≤ 100)
    (MX : Hid (∀ W, Calls Try.prog 13 #[.int .i64 kind, .int .i64 n, .string s] W fun e w' => Made e (kind % 6) ∧ Below W.heap.size W w')) :
    Calls Try.prog 3 #[.int .i64 kind, .int .i64 n, .string s, .string more] w fun e w' => e = .returned (.bool true) ∧ Below w.heap.size w w' := by
  have hL := hide (Below.refl w.heap.size w)
  go_enter Try.func3, Try.ntmps3
  go_wp2_with fail
  refine (known_any _).mono ?_
  rintro e w1 ⟨rfl, hb1⟩
  replace hL := hide ((unhide hL).trans (hb1.mono (unhide hL).size))
  clear hb1
  go_wp2_with fail
  refine (unhide MX _).mono ?_
  rintro e w2 ⟨⟨xn, xs, xt, okx, rfl⟩, hb2⟩
  replace hL := hide ((unhide hL).trans (hb2.mono (unhide hL).size))
  clear hb2 MX
  generalize kind % 6 = kx at *
  have KX := hide (fun W => key_any kx xn xs xt W okx)
  have RX := hide (fun W => rKey_any kx xn xs xt W okx)
  have BX := hide (fun W => readKey_back okx more (by omega) W)
  have hks := keyB_size okx
  clear okx
  generalize keyB kx xn xs xt = kb at *
  have hX := hide (four_alloc (.int .i64 kx) (.int .i64 xn) (.int .i64 xs) (.string xt) 24 w2)
  replace hL := hide ((unhide hL).alloc (unhide hL).size (.cells #[.int .i64 kx, .int .i64 xn, .int .i64 xs, .string xt] 24))
  go_wp2_with fail
  refine (unhide KX _).mono ?_
  rintro e w3 ⟨rfl, hb3⟩
  replace hX := hide (four_call (unhide hX) hb3)
  replace hL := hide ((unhide hL).trans (hb3.mono (unhide hL).size))
  clear hb3 KX
  go_wp2_with fail
  refine (unhide BX _).mono ?_
  rintro e w4 ⟨rfl, hb4⟩
  replace hX := hide (four_call (unhide hX) hb4)
  replace hL := hide ((unhide hL).trans (hb4.mono (unhide hL).size))
  clear hb4 BX
  replace hX := hide (four_more (unhide hX) (.cells #[.int .i64 kx, .int .i64 xn, .int .i64 xs, .string xt] 24))
  have hY := hide (four_alloc (.int .i64 kx) (.int .i64 xn) (.int .i64 xs) (.string xt) 24 w4)
  replace hL := hide ((unhide hL).alloc (unhide hL).size (.cells #[.int .i64 kx, .int .i64 xn, .int .i64 xs, .string xt] 24))
  obtain ⟨-, x0, x1, x2, x3, -⟩ := unhide hX
  go_wp2_with fail
  refine (unhide RX _).mono ?_
  rintro e w5 ⟨rfl, hb5⟩
  clear x0 x1 x2 x3
  replace hX := hide (four_call (unhide hX) hb5)
  replace hY := hide (four_call (unhide hY) hb5)
  replace hL := hide ((unhide hL).trans (hb5.mono (unhide hL).size))
  clear hb5 RX
  obtain ⟨-, x0, x1, x2, x3, -⟩ := unhide hX
  obtain ⟨-, y0, y1, y2, y3, -⟩ := unhide hY
  clear hX hY
  go_wp2_with fail
  go_ret
  exact ⟨rfl, unhide hL⟩

set_option maxHeartbeats 1000000 in
theorem back_long (kind n : Int) (s more : ByteArray) (w : World) (h : (100 : Int) < s.size ∨ (100 : Int) < more.size) :
    Calls Try.prog 3 #[.int .i64 kind, .int .i64 n, .string s, .string more] w fun e w' => e = .returned (.bool true) ∧ Below w.heap.size w w' := by
  by_cases h1 : (100 : Int) < s.size
  · clear h
    go_enter Try.func3, Try.ntmps3
    go_wp2_with fail
    refine (known_any _).mono ?_
    rintro e w1 ⟨rfl, hb1⟩
    go_wp2_with fail
    go_ret
    exact ⟨rfl, hb1⟩
  · have h2 : (100 : Int) < more.size := by rcases h with h | h; exact absurd h h1; exact h
    clear h
    go_enter Try.func3, Try.ntmps3
    go_wp2_with fail
    refine (known_any _).mono ?_
    rintro e w1 ⟨rfl, hb1⟩
    go_wp2_with fail
    go_ret
    exact ⟨rfl, hb1⟩
theorem keyBack_walk (kind n : Int) (s more : ByteArray) (wk : (Lit.int .i64 kind).wf = true) (wn : (Lit.int .i64 n).wf = true) (hs : s.size ≤ maxLen) (hm : more.size ≤ maxLen) (w : World) :
    Calls Try.prog 3 #[.int .i64 kind, .int .i64 n, .string s, .string more] w fun e w' => e = .returned (.bool true) ∧ Below w.heap.size w w' := by
  unfold maxLen at hs hm
  by_cases h : s.size ≤ 100 ∧ more.size ≤ 100
  · exact back_walk kind n s more w h.1 h.2 (fun W => make_any kind n s W (is64_lit wk) (is64_lit wn) hs)
  · exact back_long kind n s more w (by omega)
end Go.Proofs.Ytbpjejjbgdikdaa
