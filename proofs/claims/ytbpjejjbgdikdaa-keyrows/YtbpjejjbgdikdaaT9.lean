/-
  What ReadRow returns of a row, of one that is cut off; what the reference's Row and Rows return.
-/
import Derived.Test.YtbpjejjbgdikdaaT8
import Derived.Test.YtbpjejjbgdikdaaT6
namespace Go.Proofs.Ytbpjejjbgdikdaa
open Go.RowKit Go.Shelf
set_option linter.unusedSimpArgs false
set_option linter.unusedVariables false

set_option maxRecDepth 100000 in
set_option maxHeartbeats 1000000 in
theorem readRow_empty (w : World) :
    Calls Try.prog 21 #[.string ⟨#[]⟩] w fun e W => e = .returned (.tuple #[.slice none 0 0, .bool false]) ∧ Below w.heap.size w W := by
  go_enter Try.func21, Try.ntmps21
  go_wp2
  exact bodyPost_ret (v := .tuple #[.slice none 0 0, .bool false]) (by simp [results, Try.results21, go_sem]) rfl ⟨rfl, ((Below.refl _ w).alloc (Nat.le_refl _) _).alloc (by simp) _⟩
/-- a row that came of Row is read as it was -/
theorem readRow_back (l : List VV) (h10 : l.length ≤ 10) (hok : ∀ x ∈ l, VOk x) (w : World) :
    Calls Try.prog 21 #[.string (strOfNums (rowN l))] w fun e W => ∃ v, e = .returned (.tuple #[v, .bool true]) ∧ SliceOf v l W ∧ Below w.heap.size w W := by
  rw [rowB_str]
  have hk := keys_small l h10 hok
  refine (callsIn_wide.1 (readRow_in (u8 (l.length : Int)) (nb (keysV l)) (by omega) (by rw [u8_len l h10]; exact h10) w)).mono ?_
  have hr := row_is l h10 hok [] (by simp)
  rw [List.append_nil, decide_eq_true rfl] at hr
  rintro e W ⟨hB, (⟨h, _⟩ | ⟨_, v, rfl, hrow⟩)⟩
  · rw [hr] at h; cases h
  · rw [rows_whole l h10 hok, List.length_map, cells_toR] at hrow
    exact ⟨v, rfl, sliceOf_row hrow, hB⟩
/-- with more behind it is none -/
theorem readRow_more (l : List VV) (h10 : l.length ≤ 10) (hok : ∀ x ∈ l, VOk x) (more : ByteArray) (hm : more.size ≤ 1000) (hne : more.data.toList ≠ []) (w : World) :
    Calls Try.prog 21 #[.string (strOfNums (rowN l) ++ more)] w fun e W => e = .returned (.tuple #[.slice none 0 0, .bool false]) ∧ Below w.heap.size w W := by
  have e1 : strOfNums (rowN l) ++ more = Str (u8 (l.length : Int) :: (nb (keysV l) ++ more.data.toList)) := by
    apply ByteArray.ext
    rw [ByteArray.data_append, rowB_str]
    simp
  rw [e1]
  have hk := keys_small l h10 hok
  refine (callsIn_wide.1 (readRow_in (u8 (l.length : Int)) (nb (keysV l) ++ more.data.toList) (by simp at hk ⊢; omega) (by rw [u8_len l h10]; exact h10) w)).mono ?_
  have hr := row_is l h10 hok more.data.toList (by simpa using hm)
  rw [decide_eq_false hne] at hr
  rintro e W ⟨hB, (⟨_, rfl⟩ | ⟨h, _⟩)⟩
  · exact ⟨rfl, hB⟩
  · rw [hr] at h; cases h
/-- cut off it is none -/
theorem readRow_cut (l : List VV) (h10 : l.length ≤ 10) (hok : ∀ x ∈ l, VOk x) (c : Nat) (hc : c < (strOfNums (rowN l)).size) (w : World) :
    Calls Try.prog 21 #[.string ((strOfNums (rowN l)).extract 0 c)] w fun e W => e = .returned (.tuple #[.slice none 0 0, .bool false]) ∧ Below w.heap.size w W := by
  have hk := keys_small l h10 hok
  have hsz : (strOfNums (rowN l)).size = (nb (keysV l)).length + 1 := by rw [rowB_str, str_size]; rfl
  cases c with
  | zero =>
    have e1 : (strOfNums (rowN l)).extract 0 0 = ⟨#[]⟩ := by apply ByteArray.ext; apply Array.toList_inj.1; rw [extract_data']; rfl
    rw [e1]
    exact readRow_empty w
  | succ c =>
    have e1 : (strOfNums (rowN l)).extract 0 (c + 1) = Str (u8 (l.length : Int) :: (nb (keysV l)).take c) := by
      apply ByteArray.ext; apply Array.toList_inj.1; rw [extract_data', rowB_str]; rfl
    rw [e1]
    refine (callsIn_wide.1 (readRow_in (u8 (l.length : Int)) ((nb (keysV l)).take c) (by rw [List.length_take]; omega) (by rw [u8_len l h10]; exact h10) w)).mono ?_
    have hr := row_cut l h10 hok c (by omega)
    rintro e W ⟨hB, (⟨_, rfl⟩ | ⟨h, _⟩)⟩
    · exact ⟨rfl, hB⟩
    · rw [hr] at h; cases h
theorem readKey_cut {k n s : Int} {t : ByteArray} (h : Ok k n s t) (c : Nat) (hc : c < (keyB k n s t).size) (w : World) :
    Calls Try.prog 15 #[.string ((keyB k n s t).extract 0 c)] w fun e W => e = .returned (.tuple #[V 0 0 0 ⟨#[]⟩, .int .i64 0, .bool false]) ∧ Below w.heap.size w W := by
  have hl := keyN_len (k := k) (n := n) (s := s) h.2.2.2.2.1
  rw [keyB_len] at hc
  have e1 : (keyB k n s t).extract 0 c = Str ((nb (keyN k n s t)).take c) := by
    apply ByteArray.ext; apply Array.toList_inj.1; rw [extract_data', keyB_str]
  rw [e1]
  exact readKey_no _ (by rw [List.length_take]; simp; omega) (key_cut h c (by simpa using hc)) w

theorem strOf_nil : strOfNums [] = ⟨#[]⟩ := rfl
set_option maxRecDepth 100000 in
set_option maxHeartbeats 1000000 in
theorem rRow_some (l : List VV) (h10 : l.length ≤ 10) (hok : ∀ x ∈ l, VOk x) (g cap : Nat) (w : World) (hg : g < w.heap.size) (hv : Vals g l w) :
    Calls Try.prog 22 #[.slice (some ⟨g, 0, none⟩) l.length cap] w fun e w' => e = .returned (.string (strOfNums (rowN l))) ∧ Below w.heap.size w w' := by
  have hm : ((l.length : Int)) % 256 = (l.length : Int) := by omega
  have hr := run_str1 w (l.length : Int)
  have HV := hide hv
  have HOK := hide hok
  have HR := hide (show rowN l = (l.length : Int) :: keysV (l.take l.length) from by rw [List.take_length]; rfl)
  clear hv hok
  go_enter Try.func22, Try.ntmps22
  go_wp2
  clear hr
  go_loopw [3, 4] (fun q i W => ∃ k : Nat, k ≤ l.length ∧ i = .int .i64 (k : Int) ∧ q = .string (strOfNums ((l.length : Int) :: keysV (l.take k))) ∧ Below w.heap.size w W) (fun _ i _ => l.length - (intOf i).toNat)
  case atStart => exact ⟨0, Nat.zero_le _, rfl, rfl, (Below.refl _ w).alloc (Nat.le_refl _) _⟩
  case round =>
    obtain ⟨k, hk, rfl, rfl, hB⟩ := hrel
    by_cases hlt : k < l.length
    · have hlti : (k : Int) < l.length := by omega
      obtain ⟨c0, c1, c2, c3⟩ := unhide HV k hlt
      have d0 := (hB.cell (p := ⟨g, k * 4, none⟩) hg).trans c0
      have d1 := (hB.cell (p := ⟨g, k * 4 + 1, none⟩) hg).trans c1
      have d2 := (hB.cell (p := ⟨g, k * 4 + 2, none⟩) hg).trans c2
      have d3 := (hB.cell (p := ⟨g, k * 4 + 3, none⟩) hg).trans c3
      have hx := unhide HOK l[k] (List.getElem_mem hlt)
      have KX := hide (fun W => rKey_any _ _ _ _ W hx)
      have hsn : Hid (keysV (l.take (k + 1)) = keysV (l.take k) ++ keyV l[k]) := by
        show _ = _
        rw [List.take_succ_eq_append_getElem hlt, keysV_snoc]
      have hap := str_app ((l.length : Int) :: keysV (l.take k)) (keyV l[k])
      have hs1 : (strOfNums ((l.length : Int) :: keysV (l.take k))).size ≤ 1001 := by
        rw [strOfNums_size, List.length_cons]
        have := keysV_len (l.take k) (fun x hx => unhide HOK x (List.mem_of_mem_take hx))
        rw [List.length_take] at this; omega
      have hs2 : (strOfNums (keyV l[k])).size ≤ 100 := by rw [strOfNums_size]; exact keyN_len hx.2.2.2.2.1
      have hkb : Hid (keyB l[k].1 l[k].2.1 l[k].2.2.1 l[k].2.2.2 = strOfNums (keyV l[k])) := rfl
      clear hx c0 c1 c2 c3
      generalize l[k] = x at *
      rw [hkb.out] at KX
      generalize strOfNums (keyV x) = kx at *
      go_wp2_with (go_at_call 16; refine (unhide KX _).mono ?_; rintro e w2 ⟨rfl, hb2⟩)
      go_roundw
      case rel => exact ⟨k + 1, by omega, by go_num, by rw [hsn.out, ← List.cons_append, ← hap], hB.trans (hb2.mono hB.size)⟩
      case measure => simp [intOf]; omega
    · obtain rfl : k = l.length := by omega
      rw [(unhide HR).symm]
      go_wp2_with fail
      go_ret
      exact ⟨rfl, hB⟩
set_option maxHeartbeats 1000000 in
theorem rRow_nil (w : World) :
    Calls Try.prog 22 #[.slice none 0 0] w fun e w' => e = .returned (.string (strOfNums (rowN []))) ∧ Below w.heap.size w w' := by
  have hr := run_str1 w 0
  have HR := hide (show rowN [] = [(0 : Int)] from rfl)
  go_enter Try.func22, Try.ntmps22
  go_wp2
  clear hr
  go_loopw [3, 4] (fun q i W => i = .int .i64 0 ∧ q = .string (strOfNums [0]) ∧ Below w.heap.size w W) (fun _ i _ => 10 - (intOf i).toNat)
  case atStart => exact ⟨rfl, rfl, (Below.refl _ w).alloc (Nat.le_refl _) _⟩
  case round =>
    obtain ⟨rfl, rfl, hB⟩ := hrel
    go_wp2_with fail
    go_ret
    exact ⟨rfl, hB⟩
theorem rRow_any (l : List VV) (hl : l.length ≤ 10) (hok : ∀ x ∈ l, VOk x) (v : Value) (w : World) (hv : SliceOf v l w) :
    Calls Try.prog 22 #[v] w fun e w' => e = .returned (.string (strOfNums (rowN l))) ∧ Below w.heap.size w w' := by
  rcases hv with ⟨rfl, rfl⟩ | ⟨g, cap, rfl, hg, hv⟩
  · exact rRow_nil w
  · exact rRow_some l hl hok g cap w hg hv
end Go.Proofs.Ytbpjejjbgdikdaa
