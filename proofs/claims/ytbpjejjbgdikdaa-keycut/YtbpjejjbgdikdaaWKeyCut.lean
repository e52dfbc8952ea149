/-
  The walk of the law KeyCut.
-/
import Derived.Test.YtbpjejjbgdikdaaT9
namespace Go.Proofs.Ytbpjejjbgdikdaa
open Go.RowKit
set_option linter.unusedSimpArgs false
set_option linter.unusedVariables false

theorem keyB_size {k n s : Int} {t : ByteArray} (h : Ok k n s t) : (keyB k n s t).size ≤ 100 ∧ 1 ≤ (keyB k n s t).size := by
  rw [keyB_len]; exact ⟨keyN_len h.2.2.2.2.1, key_pos _ _ _ _⟩
theorem rowB_size (l : List VV) (h10 : l.length ≤ 10) (hok : ∀ x ∈ l, VOk x) : (strOfNums (rowN l)).size ≤ 1001 ∧ 1 ≤ (strOfNums (rowN l)).size := by
  have hk := keys_small l h10 hok
  rw [rowB_str, str_size, List.length_cons]; omega
theorem cut_of (c : Int) (n : Nat) (hn : 1 ≤ n) : ∃ j : Nat, (j : Int) = c % (n : Int) ∧ j < n := by
  have h1 := Int.emod_nonneg c (show (n : Int) ≠ 0 by omega)
  have h2 := Int.emod_lt_of_pos c (show 0 < (n : Int) by omega)
  exact ⟨(c % (n : Int)).toNat, by omega, by omega⟩

set_option maxHeartbeats 1000000 in
set_option maxRecDepth 100000 in
theorem cut_walk (kind n cut : Int) (s : ByteArray) (v : Value) (zs : List Int) (w : World) (hs : s.size ≤ 60) (hc : Is64 cut) (hz : Hid (Ints v zs w))
    (MX : Hid (∀ W, Calls Try.prog 13 #[.int .i64 kind, .int .i64 n, .string s] W fun e w' => Made e (kind % 6) ∧ Below W.heap.size W w')) :
    Calls Try.prog 10 #[.int .i64 kind, .int .i64 n, .string s, .int .i64 cut, v] w fun e w' => e = .returned (.bool true) ∧ Below w.heap.size w w' := by
  have hL := hide (Below.refl w.heap.size w)
  go_enter Try.func10, Try.ntmps10
  go_wp2_with fail
  refine (known_any _).mono ?_
  rintro e w1 ⟨rfl, hb1⟩
  replace hL := hide ((unhide hL).trans (hb1.mono (unhide hL).size))
  clear hb1
  go_wp2_with fail
  refine (unhide MX _).mono ?_
  rintro e w2 ⟨⟨xn, xs, xt, okx, rfl⟩, hb2⟩
  replace hL := hide ((unhide hL).trans (hb2.mono (unhide hL).size))
  clear hb2 MX
  generalize kind % 6 = kx at *
  obtain ⟨j, hj, hjl⟩ := cut_of cut (keyB kx xn xs xt).size (keyB_size okx).2
  have hks := keyB_size okx
  have KX := hide (fun W => key_any kx xn xs xt W okx)
  have CX := hide (fun W => readKey_cut okx j hjl W)
  have WJ := hide (fun W => within2_at (n := ((keyB kx xn xs xt).size : Int)) hc (by omega) hj.symm W)
  clear hj okx
  generalize keyB kx xn xs xt = kb at *
  have hk0 : ((kb.size : Int) == 0) = false := beq_eq_false_iff_ne.2 (by omega)
  go_wp2_with fail
  refine (unhide KX _).mono ?_
  rintro e w3 ⟨rfl, hb3⟩
  replace hL := hide ((unhide hL).trans (hb3.mono (unhide hL).size))
  clear hb3 KX
  go_wp2_with fail
  refine (unhide WJ _).mono ?_
  rintro e wq ⟨rfl, rfl⟩
  go_wp2_with fail
  refine (unhide CX _).mono ?_
  rintro e w4 ⟨rfl, hb4⟩
  replace hL := hide ((unhide hL).trans (hb4.mono (unhide hL).size))
  clear hb4 CX WJ
  have hV := hide (four_alloc (.int .i64 0) (.int .i64 0) (.int .i64 0) (.string ⟨#[]⟩) 24 w4)
  replace hL := hide ((unhide hL).alloc (unhide hL).size (.cells #[.int .i64 0, .int .i64 0, .int .i64 0, .string ⟨#[]⟩] 24))
  have LR := hide (lrow_any v zs s (w4.alloc (.cells #[.int .i64 0, .int .i64 0, .int .i64 0, .string ⟨#[]⟩] 24)) (by omega) (ints_call (unhide hz) (unhide hL)))
  go_wp2_with fail
  refine (unhide LR).mono ?_
  rintro e w5 ⟨lv, rfl, l, h10, hok, hsl, hb5⟩
  replace hV := hide (four_call (unhide hV) hb5)
  replace hL := hide ((unhide hL).trans (hb5.mono (unhide hL).size))
  clear hb5 LR
  obtain ⟨i, hi, hil⟩ := cut_of cut (strOfNums (rowN l)).size (rowB_size l h10 hok).2
  have hrs := rowB_size l h10 hok
  have RX := hide (row_any l h10 hok lv w5 hsl)
  have CR := hide (fun W => readRow_cut l h10 hok i hil W)
  have WK := hide (fun W => within2_at (n := ((strOfNums (rowN l)).size : Int)) hc (by omega) hi.symm W)
  clear hi hok hsl
  generalize strOfNums (rowN l) = rb at *
  have hr0 : ((rb.size : Int) == 0) = false := beq_eq_false_iff_ne.2 (by omega)
  go_wp2_with fail
  refine (unhide RX).mono ?_
  rintro e w6 ⟨rfl, hb6⟩
  replace hV := hide (four_call (unhide hV) hb6)
  replace hL := hide ((unhide hL).trans (hb6.mono (unhide hL).size))
  clear hb6 RX
  go_wp2_with fail
  refine (unhide WK _).mono ?_
  rintro e wq2 ⟨rfl, rfl⟩
  go_wp2_with fail
  refine (unhide CR _).mono ?_
  rintro e w7 ⟨rfl, hb7⟩
  replace hV := hide (four_call (unhide hV) hb7)
  replace hL := hide ((unhide hL).trans (hb7.mono (unhide hL).size))
  clear hb7 CR WK
  obtain ⟨-, x0, x1, x2, x3, -⟩ := unhide hV
  clear hV
  go_wp2_with fail
  go_ret
  exact ⟨rfl, unhide hL⟩
set_option maxHeartbeats 1000000 in
theorem cut_long (kind n cut : Int) (s : ByteArray) (v : Value) (w : World) (h1 : (60 : Int) < s.size) :
    Calls Try.prog 10 #[.int .i64 kind, .int .i64 n, .string s, .int .i64 cut, v] w fun e w' => e = .returned (.bool true) ∧ Below w.heap.size w w' := by
  go_enter Try.func10, Try.ntmps10
  go_wp2_with fail
  refine (known_any _).mono ?_
  rintro e w1 ⟨rfl, hb1⟩
  go_wp2_with fail
  go_ret
  exact ⟨rfl, hb1⟩
theorem keyCut_walk (kind n : Int) (s : ByteArray) (cut : Int) (v : Value) (zs : List Int) (wk : (Lit.int .i64 kind).wf = true) (wn : (Lit.int .i64 n).wf = true) (hs : s.size ≤ maxLen) (wc : (Lit.int .i64 cut).wf = true) (w : World) (hz : Ints v zs w) :
    Calls Try.prog 10 #[.int .i64 kind, .int .i64 n, .string s, .int .i64 cut, v] w fun e w' => e = .returned (.bool true) ∧ Below w.heap.size w w' := by
  unfold maxLen at hs
  by_cases h : s.size ≤ 60
  · exact cut_walk kind n cut s v zs w h (is64_lit wc) hz (fun W => make_any kind n s W (is64_lit wk) (is64_lit wn) hs)
  · exact cut_long kind n cut s v w (by omega)
end Go.Proofs.Ytbpjejjbgdikdaa
