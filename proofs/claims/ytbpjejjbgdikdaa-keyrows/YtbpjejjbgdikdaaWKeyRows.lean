/-
  The walk of the law KeyRows.
-/
import Derived.Test.YtbpjejjbgdikdaaT10
namespace Go.Proofs.Ytbpjejjbgdikdaa
open Go.RowKit
set_option linter.unusedSimpArgs false
set_option linter.unusedVariables false

theorem rowB_le (l : List VV) (h10 : l.length ≤ 10) (hok : ∀ x ∈ l, VOk x) : (strOfNums (rowN l)).size ≤ 1001 := by
  have hk := keys_small l h10 hok
  rw [rowB_str, str_size, List.length_cons]; omega
/-- what ReadRow says of a row with more behind -/
theorem readRow_behind (l : List VV) (h10 : l.length ≤ 10) (hok : ∀ x ∈ l, VOk x) (more : ByteArray) (hm : more.size ≤ 60) (w : World) :
    Calls Try.prog 21 #[.string (strOfNums (rowN l) ++ more)] w fun e W => ∃ v, e = .returned (.tuple #[v, .bool (more.toList == [])]) ∧ Below w.heap.size w W := by
  by_cases hne : more.data.toList = []
  · have e0 : more = ⟨#[]⟩ := ByteArray.ext (Array.toList_inj.1 hne)
    subst e0
    have e1 : strOfNums (rowN l) ++ ⟨#[]⟩ = strOfNums (rowN l) := by apply ByteArray.ext; rw [ByteArray.data_append]; simp
    have e2 : ((⟨#[]⟩ : ByteArray).toList == []) = true := by rw [ByteArray.toList_eq]; rfl
    rw [e1, e2]
    refine (readRow_back l h10 hok w).mono ?_
    rintro e W ⟨v, rfl, _, hB⟩
    exact ⟨v, rfl, hB⟩
  · refine (readRow_more l h10 hok more (by omega) hne w).mono ?_
    rintro e W ⟨rfl, hB⟩
    refine ⟨.slice none 0 0, ?_, hB⟩
    have : (more.toList == []) = false := by rw [ByteArray.toList_eq, beq_eq_false_iff_ne]; exact hne
    rw [this]

set_option maxHeartbeats 1000000 in
set_option maxRecDepth 100000 in
theorem rows_walk (s more : ByteArray) (v : Value) (zs : List Int) (w : World) (hs : s.size ≤ 60) (hm : more.size ≤ 60) (hz : Hid (Ints v zs w)) :
    Calls Try.prog 5 #[v, .string s, .string more] w fun e w' => e = .returned (.bool true) ∧ Below w.heap.size w w' := by
  have hL := hide (Below.refl w.heap.size w)
  go_enter Try.func5, Try.ntmps5
  go_wp2_with fail
  refine (known_any _).mono ?_
  rintro e w1 ⟨rfl, hb1⟩
  replace hL := hide ((unhide hL).trans (hb1.mono (unhide hL).size))
  clear hb1
  have LR := hide (lrow_any v zs s w1 (by omega) (ints_call (unhide hz) (unhide hL)))
  go_wp2_with fail
  refine (unhide LR).mono ?_
  rintro e w2 ⟨lv, rfl, l, h10, hok, hsl, hb2⟩
  have HS := hide hsl
  replace hL := hide ((unhide hL).trans (hb2.mono (unhide hL).size))
  clear hb2 LR hsl hz
  have hrs := rowB_le l h10 hok
  have RX := hide (fun W h => row_any l h10 hok lv W h)
  have RR1 := hide (fun W h => rRow_any l h10 hok lv W h)
  have BR := hide (fun W => readRow_back l h10 hok W)
  have BM := hide (fun W => readRow_behind l h10 hok more hm W)
  have RS := hide (fun (u : Value) W h h' => rRows_any l h10 lv u W h h')
  clear hok
  generalize strOfNums (rowN l) = rb at *
  go_wp2_with fail
  refine (unhide RX _ (unhide HS)).mono ?_
  rintro e w3 ⟨rfl, hb3⟩
  replace HS := hide (sliceOf_call (unhide HS) hb3)
  replace hL := hide ((unhide hL).trans (hb3.mono (unhide hL).size))
  clear hb3 RX
  go_wp2_with fail
  refine (unhide BR _).mono ?_
  rintro e w4 ⟨mv, rfl, hms, hb4⟩
  have HM := hide hms
  replace HS := hide (sliceOf_call (unhide HS) hb4)
  replace hL := hide ((unhide hL).trans (hb4.mono (unhide hL).size))
  clear hb4 BR hms
  go_wp2_with fail
  refine (unhide BM _).mono ?_
  rintro e w5 ⟨nv, rfl, hb5⟩
  replace HS := hide (sliceOf_call (unhide HS) hb5)
  replace HM := hide (sliceOf_call (unhide HM) hb5)
  replace hL := hide ((unhide hL).trans (hb5.mono (unhide hL).size))
  clear hb5 BM
  go_wp2_with fail
  refine (unhide RR1 _ (unhide HS)).mono ?_
  rintro e w6 ⟨rfl, hb6⟩
  replace HS := hide (sliceOf_call (unhide HS) hb6)
  replace HM := hide (sliceOf_call (unhide HM) hb6)
  replace hL := hide ((unhide hL).trans (hb6.mono (unhide hL).size))
  clear hb6 RR1
  go_wp2_with fail
  refine (unhide RS mv _ (unhide HS) (unhide HM)).mono ?_
  rintro e w7 ⟨rfl, hb7⟩
  replace hL := hide ((unhide hL).trans (hb7.mono (unhide hL).size))
  clear hb7 RS HS HM
  go_wp2_with fail
  go_ret
  first | exact ⟨rfl, unhide hL⟩ | (refine ⟨ret_bool ?_, unhide hL⟩; first | (simp; done) | (simp [*]; done))
set_option maxHeartbeats 1000000 in
theorem rowsl_long (s more : ByteArray) (v : Value) (w : World) (h : (60 : Int) < s.size ∨ (60 : Int) < more.size) :
    Calls Try.prog 5 #[v, .string s, .string more] w fun e w' => e = .returned (.bool true) ∧ Below w.heap.size w w' := by
  by_cases h1 : (60 : Int) < s.size
  · clear h
    go_enter Try.func5, Try.ntmps5
    go_wp2_with fail
    refine (known_any _).mono ?_
    rintro e w1 ⟨rfl, hb1⟩
    go_wp2_with fail
    go_ret
    exact ⟨rfl, hb1⟩
  · have h2 : (60 : Int) < more.size := by rcases h with h | h; exact absurd h h1; exact h
    clear h
    go_enter Try.func5, Try.ntmps5
    go_wp2_with fail
    refine (known_any _).mono ?_
    rintro e w1 ⟨rfl, hb1⟩
    go_wp2_with fail
    go_ret
    exact ⟨rfl, hb1⟩
theorem keyRows_walk (v : Value) (zs : List Int) (s more : ByteArray) (hs : s.size ≤ maxLen) (hm : more.size ≤ maxLen) (w : World) (hz : Ints v zs w) :
    Calls Try.prog 5 #[v, .string s, .string more] w fun e w' => e = .returned (.bool true) ∧ Below w.heap.size w w' := by
  unfold maxLen at hs hm
  by_cases h : s.size ≤ 60 ∧ more.size ≤ 60
  · exact rows_walk s more v zs w h.1 h.2 hz
  · exact rowsl_long s more v w (by omega)
end Go.Proofs.Ytbpjejjbgdikdaa
