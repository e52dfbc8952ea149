/-
  What the reference's function Key returns of a decimal, and of any value that may be: the value's bytes.
-/
import Derived.Test.YtbpjejjbgdikdaaT5
import Derived.Test.YtbpjejjbgdikdaaH3
import Derived.Test.YtbpjejjbgdikdaaU0
import Derived.Deep.RegionHeld3
import Derived.Deep.DrawnRows
namespace Go.Proofs.Ytbpjejjbgdikdaa
open Go.RowKit Go.Shelf
set_option linter.unusedSimpArgs false
set_option linter.unusedVariables false

theorem ret_strB {a b : ByteArray} (h : a = b) : Ending.returned (.string a) = .returned (.string b) := by rw [h]
theorem run_str4_at {W : World} {b : Nat} {x y z u : Int} (h : W.heap[b]? = some (.cells #[.int .u8 x, .int .u8 y, .int .u8 z, .int .u8 u] 5 (0, 0))) : (convert 49 9 (.slice (some ⟨b, 0, none⟩) 4 4)).run Try.prog W = .ok (.string (strOfNums [x, y, z, u])) W :=
  run_string_row (ns := [x, y, z, u]) (B := 0) (cap := 4) ⟨rfl, .inr ⟨b, 4, #[.int .u8 x, .int .u8 y, .int .u8 z, .int .u8 u], rfl, Nat.zero_le _, h, Nat.le_refl _, by unfold maxLen; omega, rfl, rfl⟩⟩

set_option maxRecDepth 100000 in
set_option maxHeartbeats 2000000 in
theorem rKey3 (n s : Int) (t : ByteArray) (w : World) (hn : n.natAbs < 1000000000000000) (h0 : 0 ≤ s) (h6 : s ≤ 6) :
    Calls Try.prog 16 #[V 3 n s t] w fun e w' => e = .returned (.string (strOfNums (3 :: (beK 56 (fl n s + 9223372036854775808) 8 ++ beK 24 (fr n s) 4)))) ∧ Below w.heap.size w w' := by
  have hfb := fl_bd (s := s) hn
  have hff := fr_bd (n := n) h0 h6
  have hr := run_str1 (w.alloc (.cells #[.int .i64 3, .int .i64 n, .int .i64 s, .string t] 24)) 3
  rw [World.size_alloc] at hr
  have hs1 : (strOfNums [3]).size = 1 := rfl
  have C := hide (fun W => rnum_any (fl n s) (by unfold Is64; omega) W)
  have CP := hide (fun W => parts_any 3 n s t W hn h0 h6)
  have hs2 : (strOfNums (beK 56 (fl n s + 9223372036854775808) 8)).size = 8 := by rw [strOfNums_size, beK_len]
  have ha := str_app [3] (beK 56 (fl n s + 9223372036854775808) 8)
  have hb4 : beK 24 (fr n s) 4 = [fr n s / 16777216 % 256, fr n s / 65536 % 256, fr n s / 256 % 256, fr n s % 256] := by simp [beK, List.range_succ]
  have ha2 := str_app (3 :: beK 56 (fl n s + 9223372036854775808) 8) [fr n s / 16777216 % 256, fr n s / 65536 % 256, fr n s / 256 % 256, fr n s % 256]
  have hs3 : (strOfNums (3 :: beK 56 (fl n s + 9223372036854775808) 8)).size = 9 := by rw [strOfNums_size]; simp [beK_len]
  have hs4 : (strOfNums [fr n s / 16777216 % 256, fr n s / 65536 % 256, fr n s / 256 % 256, fr n s % 256]).size = 4 := rfl
  rw [hb4]
  generalize beK 56 (fl n s + 9223372036854775808) 8 = xs at *
  generalize fl n s = f at *
  generalize fr n s = g at *
  clear hb4
  go_enter Try.func16, Try.ntmps16
  go_wp2_with (go_at_call 31; refine (unhide CP _).mono ?_; rintro e W1 ⟨rfl, hb1⟩)
  rename_i hrest
  have hL : Below w.heap.size w W1 := (((Below.refl _ w).alloc (Nat.le_refl _) _).alloc (by simp) _).trans (hb1.mono (by simp; omega))
  replace hL := hide hL.drew
  clear hb1 CP hr
  refine wp_region_noPanic ?_
  refine wp_region_held_drew (S := fun W => True) (by kernel_rfl) (trivial) (fun hHeld => ?_)
  revert hL
  generalize World.drew _ = Wd
  intro hL
  refine wpAnyH_take (i := 0) (oi := ?oi20001) (v := ?v20001) ?hi20001 (by kernel_rfl) (by kernel_rfl) (by kernel_rfl) (fun _ _ _ h => h) (Or.inl ⟨?hw20001, ?hy20001⟩) (by assumption) ?rest20001
  case hi20001 => (simp only [List.getElem?_toArray, List.getElem?_cons_zero]; rfl)
  case hw20001 => rfl
  case hy20001 => first | (intro wx hSw; go_simp; done) | (intro wx hSw; go_simp; with_reducible rfl)
  simp only [Act.put, List.setIfInBounds_toArray, List.set_cons_zero, List.set_cons_succ]
  refine wpAnyH_take (i := 1) (oi := ?oi20002) (v := ?v20002) ?hi20002 (by kernel_rfl) (by kernel_rfl) (by kernel_rfl) (fun _ _ _ h => h) (Or.inl ⟨?hw20002, ?hy20002⟩) (by assumption) ?rest20002
  case hi20002 => (simp only [List.getElem?_toArray, List.getElem?_cons_zero, List.getElem?_cons_succ]; rfl)
  case hw20002 => rfl
  case hy20002 => first | (intro wx hSw; go_simp; done) | (intro wx hSw; go_simp; with_reducible rfl)
  simp only [Act.put, List.setIfInBounds_toArray, List.set_cons_zero, List.set_cons_succ]
  refine wpAnyH_take (i := 4) (oi := ?oi20003) (v := ?v20003) ?hi20003 (by kernel_rfl) (by kernel_rfl) (by kernel_rfl) (fun _ _ _ h => h) (Or.inl ⟨?hw20003, ?hy20003⟩) (by assumption) ?rest20003
  case hi20003 => (simp only [List.getElem?_toArray, List.getElem?_cons_zero, List.getElem?_cons_succ]; rfl)
  case hw20003 => rfl
  case hy20003 => first | (intro wx hSw; go_simp; done) | (intro wx hSw; go_simp; with_reducible rfl)
  simp only [Act.put, List.setIfInBounds_toArray, List.set_cons_zero, List.set_cons_succ]
  refine wpAnyH_take (i := 5) (oi := ?oi20004) (v := ?v20004) ?hi20004 (by kernel_rfl) (by kernel_rfl) (by kernel_rfl) (fun _ _ _ h => h) (Or.inl ⟨?hw20004, ?hy20004⟩) (by assumption) ?rest20004
  case hi20004 => (simp only [List.getElem?_toArray, List.getElem?_cons_zero, List.getElem?_cons_succ]; rfl)
  case hw20004 => rfl
  case hy20004 => first | (intro wx hSw; go_simp; done) | (intro wx hSw; go_simp; with_reducible rfl)
  simp only [Act.put, List.setIfInBounds_toArray, List.set_cons_zero, List.set_cons_succ]
  refine wpAnyH_take (i := 6) (oi := ?oi20005) (v := ?v20005) ?hi20005 (by kernel_rfl) (by kernel_rfl) (by kernel_rfl) (fun _ _ _ h => h) (Or.inl ⟨?hw20005, ?hy20005⟩) (by assumption) ?rest20005
  case hi20005 => (simp only [List.getElem?_toArray, List.getElem?_cons_zero, List.getElem?_cons_succ]; rfl)
  case hw20005 => rfl
  case hy20005 => first | (intro wx hSw; go_simp; done) | (intro wx hSw; go_simp; with_reducible rfl)
  simp only [Act.put, List.setIfInBounds_toArray, List.set_cons_zero, List.set_cons_succ]
  refine wpAnyH_take (i := 7) (oi := ?oi20006) (v := ?v20006) ?hi20006 (by kernel_rfl) (by kernel_rfl) (by kernel_rfl) (fun _ _ _ h => h) (Or.inl ⟨?hw20006, ?hy20006⟩) (by assumption) ?rest20006
  case hi20006 => (simp only [List.getElem?_toArray, List.getElem?_cons_zero, List.getElem?_cons_succ]; rfl)
  case hw20006 => rfl
  case hy20006 => first | (intro wx hSw; go_simp; done) | (intro wx hSw; go_simp; with_reducible rfl)
  simp only [Act.put, List.setIfInBounds_toArray, List.set_cons_zero, List.set_cons_succ]
  refine wpAnyH_take (i := 8) (oi := ?oi20007) (v := ?v20007) ?hi20007 (by kernel_rfl) (by kernel_rfl) (by kernel_rfl) (fun _ _ _ h => h) (Or.inl ⟨?hw20007, ?hy20007⟩) (by assumption) ?rest20007
  case hi20007 => (simp only [List.getElem?_toArray, List.getElem?_cons_zero, List.getElem?_cons_succ]; rfl)
  case hw20007 => rfl
  case hy20007 => first | (intro wx hSw; go_simp; done) | (intro wx hSw; go_simp; with_reducible rfl)
  simp only [Act.put, List.setIfInBounds_toArray, List.set_cons_zero, List.set_cons_succ]
  refine wpAnyH_take (i := 9) (oi := ?oi20008) (v := ?v20008) ?hi20008 (by kernel_rfl) (by kernel_rfl) (by kernel_rfl) (fun _ _ _ h => h) (Or.inl ⟨?hw20008, ?hy20008⟩) (by assumption) ?rest20008
  case hi20008 => (simp only [List.getElem?_toArray, List.getElem?_cons_zero, List.getElem?_cons_succ]; rfl)
  case hw20008 => rfl
  case hy20008 => first | (intro wx hSw; go_simp; done) | (intro wx hSw; go_simp; with_reducible rfl)
  simp only [Act.put, List.setIfInBounds_toArray, List.set_cons_zero, List.set_cons_succ]
  refine wpAnyH_take (i := 10) (oi := ?oi20009) (v := ?v20009) ?hi20009 (by kernel_rfl) (by kernel_rfl) (by kernel_rfl) (fun _ _ _ h => h) (Or.inl ⟨?hw20009, ?hy20009⟩) (by assumption) ?rest20009
  case hi20009 => (simp only [List.getElem?_toArray, List.getElem?_cons_zero, List.getElem?_cons_succ]; rfl)
  case hw20009 => rfl
  case hy20009 => first | (intro wx hSw; go_simp; done) | (intro wx hSw; go_simp; with_reducible rfl)
  simp only [Act.put, List.setIfInBounds_toArray, List.set_cons_zero, List.set_cons_succ]
  refine wpAnyH_take (i := 11) (oi := ?oi20010) (v := ?v20010) ?hi20010 (by kernel_rfl) (by kernel_rfl) (by kernel_rfl) (fun _ _ _ h => h) (Or.inl ⟨?hw20010, ?hy20010⟩) (by assumption) ?rest20010
  case hi20010 => (simp only [List.getElem?_toArray, List.getElem?_cons_zero, List.getElem?_cons_succ]; rfl)
  case hw20010 => rfl
  case hy20010 => first | (intro wx hSw; go_simp; done) | (intro wx hSw; go_simp; with_reducible rfl)
  simp only [Act.put, List.setIfInBounds_toArray, List.set_cons_zero, List.set_cons_succ]
  refine wpAnyH_take (i := 12) (oi := ?oi20011) (v := ?v20011) ?hi20011 (by kernel_rfl) (by kernel_rfl) (by kernel_rfl) (fun _ _ _ h => h) (Or.inl ⟨?hw20011, ?hy20011⟩) (by assumption) ?rest20011
  case hi20011 => (simp only [List.getElem?_toArray, List.getElem?_cons_zero, List.getElem?_cons_succ]; rfl)
  case hw20011 => rfl
  case hy20011 => first | (intro wx hSw; go_simp; done) | (intro wx hSw; go_simp; with_reducible rfl)
  simp only [Act.put, List.setIfInBounds_toArray, List.set_cons_zero, List.set_cons_succ]
  refine wpAnyH_take (i := 13) (oi := ?oi20012) (v := ?v20012) ?hi20012 (by kernel_rfl) (by kernel_rfl) (by kernel_rfl) (fun _ _ _ h => h) (Or.inl ⟨?hw20012, ?hy20012⟩) (by assumption) ?rest20012
  case hi20012 => (simp only [List.getElem?_toArray, List.getElem?_cons_zero, List.getElem?_cons_succ]; rfl)
  case hw20012 => rfl
  case hy20012 => first | (intro wx hSw; go_simp; done) | (intro wx hSw; go_simp; with_reducible rfl)
  simp only [Act.put, List.setIfInBounds_toArray, List.set_cons_zero, List.set_cons_succ]
  refine wpAnyH_take (i := 14) (oi := ?oi20013) (v := ?v20013) ?hi20013 (by kernel_rfl) (by kernel_rfl) (by kernel_rfl) (fun _ _ _ h => h) (Or.inl ⟨?hw20013, ?hy20013⟩) (by assumption) ?rest20013
  case hi20013 => (simp only [List.getElem?_toArray, List.getElem?_cons_zero, List.getElem?_cons_succ]; rfl)
  case hw20013 => rfl
  case hy20013 => first | (intro wx hSw; go_simp; done) | (intro wx hSw; go_simp; with_reducible rfl)
  simp only [Act.put, List.setIfInBounds_toArray, List.set_cons_zero, List.set_cons_succ]
  refine wpAnyH_ready (rs := [2, 15]) (by kernel_rfl) (by simp) ?_
  refine AllReadyH.cons rfl (fun K20014 hK20014 => ?_) ?_
  · go_simp
    go_wp2_with (go_at_call 30; refine (unhide C _).mono ?_; rintro e W2 ⟨rfl, hb2⟩)
    have hL2 := hide ((unhide hL).trans (hb2.mono (unhide hL).size))
    refine hK20014.out _ _ ?hs20014 (fun hHeld20014 => ?_)
    case hs20014 => exact trivial
    clear hHeld
    have hHeld := hHeld20014; clear hHeld20014 hK20014 K20014
    refine wpAnyH_take (i := 3) (oi := ?oi20015) (v := ?v20015) ?hi20015 (by kernel_rfl) (by kernel_rfl) (by kernel_rfl) (fun _ _ _ h => h) (Or.inl ⟨?hw20015, ?hy20015⟩) (by assumption) ?rest20015
    case hi20015 => (simp only [List.getElem?_toArray, List.getElem?_cons_zero, List.getElem?_cons_succ]; rfl)
    case hw20015 => rfl
    case hy20015 => first | (intro wx hSw; go_simp; done) | (intro wx hSw; go_simp; with_reducible rfl)
    simp only [Act.put, List.setIfInBounds_toArray, List.set_cons_zero, List.set_cons_succ]
    refine wpAnyH_ready (rs := [15]) (by kernel_rfl) (by simp) ?_
    refine AllReadyH.cons rfl (fun K20016 hK20016 => ?_) AllReadyH.nil
    go_simp
    refine hK20016.out _ _ ?hs20016 (fun hHeld20016 => ?_)
    case hs20016 => exact trivial
    clear hHeld
    have hHeld := hHeld20016; clear hHeld20016 hK20016 K20016
    refine wpAnyH_weaken (S := (fun W => W.heap[W2.heap.size]? = some (.cells #[.int .u8 (g / 16777216 % 256), .int .u8 (g / 65536 % 256), .int .u8 (g / 256 % 256), .int .u8 (g % 256)] 5 (0, 0)))) (fun _ _ => trivial) _ _ _ _ ?_
    clear hHeld
    have hHeld := World.alloc_heap_new W2 (.cells #[.int .u8 (g / 16777216 % 256), .int .u8 (g / 65536 % 256), .int .u8 (g / 256 % 256), .int .u8 (g % 256)] 5)
    refine wpAnyH_take (i := 16) (oi := ?oi20017) (v := ?v20017) ?hi20017 (by kernel_rfl) (by kernel_rfl) (by kernel_rfl) (fun _ _ _ h => h) (Or.inl ⟨?hw20017, ?hy20017⟩) (by assumption) ?rest20017
    case hi20017 => (simp only [List.getElem?_toArray, List.getElem?_cons_zero, List.getElem?_cons_succ]; rfl)
    case hw20017 => rfl
    case hy20017 => first | (intro wx hSw; have hr4 := run_str4_at hSw; go_simp; done) | (intro wx hSw; have hr4 := run_str4_at hSw; go_simp; with_reducible rfl)
    simp only [Act.put, List.setIfInBounds_toArray, List.set_cons_zero, List.set_cons_succ]
    refine wpAnyH_take (i := 17) (oi := ?oi20018) (v := ?v20018) ?hi20018 (by kernel_rfl) (by kernel_rfl) (by kernel_rfl) (fun _ _ _ h => h) (Or.inl ⟨?hw20018, ?hy20018⟩) (by assumption) ?rest20018
    case hi20018 => (simp only [List.getElem?_toArray, List.getElem?_cons_zero, List.getElem?_cons_succ]; rfl)
    case hw20018 => rfl
    case hy20018 => first | (intro wx hSw; go_simp; done) | (intro wx hSw; go_simp; with_reducible rfl)
    simp only [Act.put, List.setIfInBounds_toArray, List.set_cons_zero, List.set_cons_succ]
    refine wpAnyH_take (i := 18) (oi := ?oi20019) (v := ?v20019) ?hi20019 (by kernel_rfl) (by kernel_rfl) (by kernel_rfl) (fun _ _ _ h => h) (Or.inl ⟨?hw20019, ?hy20019⟩) (by assumption) ?rest20019
    case hi20019 => (simp only [List.getElem?_toArray, List.getElem?_cons_zero, List.getElem?_cons_succ]; rfl)
    case hw20019 => rfl
    case hy20019 => first | (intro wx hSw; go_simp; done) | (intro wx hSw; go_simp; with_reducible rfl)
    simp only [Act.put, List.setIfInBounds_toArray, List.set_cons_zero, List.set_cons_succ]
    refine wpAnyH_done (by kernel_rfl) ?_ _
    refine NoPanic.normal ?_
    refine hrest _ _ ?_
    clear hHeld
    go_wp2_with fail
    go_ret
    refine ⟨ret_strB ?_, ((unhide hL2).alloc (unhide hL2).size _)⟩
    simp
  refine AllReadyH.cons rfl (fun K20020 hK20020 => ?_) AllReadyH.nil
  go_simp
  refine hK20020.out _ _ ?hs20020 (fun hHeld20020 => ?_)
  case hs20020 => exact trivial
  clear hHeld
  have hHeld := hHeld20020; clear hHeld20020 hK20020 K20020
  refine wpAnyH_weaken (S := (fun W => W.heap[Wd.heap.size]? = some (.cells #[.int .u8 (g / 16777216 % 256), .int .u8 (g / 65536 % 256), .int .u8 (g / 256 % 256), .int .u8 (g % 256)] 5 (0, 0)))) (fun _ _ => trivial) _ _ _ _ ?_
  clear hHeld
  have hHeld := World.alloc_heap_new Wd (.cells #[.int .u8 (g / 16777216 % 256), .int .u8 (g / 65536 % 256), .int .u8 (g / 256 % 256), .int .u8 (g % 256)] 5)
  refine wpAnyH_take (i := 16) (oi := ?oi20021) (v := ?v20021) ?hi20021 (by kernel_rfl) (by kernel_rfl) (by kernel_rfl) (fun _ _ _ h => h) (Or.inl ⟨?hw20021, ?hy20021⟩) (by assumption) ?rest20021
  case hi20021 => (simp only [List.getElem?_toArray, List.getElem?_cons_zero, List.getElem?_cons_succ]; rfl)
  case hw20021 => rfl
  case hy20021 => first | (intro wx hSw; have hr4 := run_str4_at hSw; go_simp; done) | (intro wx hSw; have hr4 := run_str4_at hSw; go_simp; with_reducible rfl)
  simp only [Act.put, List.setIfInBounds_toArray, List.set_cons_zero, List.set_cons_succ]
  have hW := hide hHeld
  refine wpAnyH_ready (rs := [2]) (by kernel_rfl) (by simp) ?_
  refine AllReadyH.cons rfl (fun K20022 hK20022 => ?_) AllReadyH.nil
  go_simp
  go_wp2_with (go_at_call 30; refine (unhide C _).mono ?_; rintro e W2 ⟨rfl, hb2⟩)
  refine hK20022.out _ _ ?hs20022 (fun hHeld20022 => ?_)
  case hs20022 => exact ((hb2.block _ (by simp)).trans (unhide hW))
  clear hHeld
  have hHeld := hHeld20022; clear hHeld20022 hK20022 K20022
  refine wpAnyH_take (i := 3) (oi := ?oi20023) (v := ?v20023) ?hi20023 (by kernel_rfl) (by kernel_rfl) (by kernel_rfl) (fun _ _ _ h => h) (Or.inl ⟨?hw20023, ?hy20023⟩) (by assumption) ?rest20023
  case hi20023 => (simp only [List.getElem?_toArray, List.getElem?_cons_zero, List.getElem?_cons_succ]; rfl)
  case hw20023 => rfl
  case hy20023 => first | (intro wx hSw; go_simp; done) | (intro wx hSw; go_simp; with_reducible rfl)
  simp only [Act.put, List.setIfInBounds_toArray, List.set_cons_zero, List.set_cons_succ]
  refine wpAnyH_take (i := 17) (oi := ?oi20024) (v := ?v20024) ?hi20024 (by kernel_rfl) (by kernel_rfl) (by kernel_rfl) (fun _ _ _ h => h) (Or.inl ⟨?hw20024, ?hy20024⟩) (by assumption) ?rest20024
  case hi20024 => (simp only [List.getElem?_toArray, List.getElem?_cons_zero, List.getElem?_cons_succ]; rfl)
  case hw20024 => rfl
  case hy20024 => first | (intro wx hSw; go_simp; done) | (intro wx hSw; go_simp; with_reducible rfl)
  simp only [Act.put, List.setIfInBounds_toArray, List.set_cons_zero, List.set_cons_succ]
  refine wpAnyH_take (i := 18) (oi := ?oi20025) (v := ?v20025) ?hi20025 (by kernel_rfl) (by kernel_rfl) (by kernel_rfl) (fun _ _ _ h => h) (Or.inl ⟨?hw20025, ?hy20025⟩) (by assumption) ?rest20025
  case hi20025 => (simp only [List.getElem?_toArray, List.getElem?_cons_zero, List.getElem?_cons_succ]; rfl)
  case hw20025 => rfl
  case hy20025 => first | (intro wx hSw; go_simp; done) | (intro wx hSw; go_simp; with_reducible rfl)
  simp only [Act.put, List.setIfInBounds_toArray, List.set_cons_zero, List.set_cons_succ]
  refine wpAnyH_done (by kernel_rfl) ?_ _
  refine NoPanic.normal ?_
  refine hrest _ _ ?_
  have hL2 := ((unhide hL).alloc (unhide hL).size (.cells #[.int .u8 (g / 16777216 % 256), .int .u8 (g / 65536 % 256), .int .u8 (g / 256 % 256), .int .u8 (g % 256)] 5)).trans (hb2.mono (Nat.le_trans (unhide hL).size (by simp)))
  clear hHeld hW
  go_wp2_with fail
  go_ret
  refine ⟨ret_strB ?_, hL2⟩
  simp

/-- the reference's key of a value that may be is ours -/
theorem rKey_any (kd n s : Int) (t : ByteArray) (w : World) (hok : Ok kd n s t) :
    Calls Try.prog 16 #[V kd n s t] w fun e w' => e = .returned (.string (keyB kd n s t)) ∧ Below w.heap.size w w' := by
  have hkd := hok.1
  have ht := hok.2.2.2.2.1
  have hd : kd = 0 ∨ kd = 1 ∨ kd = 2 ∨ kd = 3 ∨ kd = 4 ∨ kd = 5 := by omega
  rcases hd with rfl | rfl | rfl | rfl | rfl | rfl
  · exact rKey0 n s t w
  · have hn : n = 0 ∨ n = 1 := by have := hok.2.1; unfold rightB at this; simp at this; omega
    exact rKey1 n s t w (by omega)
  · exact rKey2 n s t w (ok_64 hok)
  · exact rKey3 n s t w (rd_is (ok_rd hok)).2 (ok_scale hok).1 (ok_scale hok).2
  · exact rKey4 n s t w (by omega)
  · exact rKey5 n s t w (by omega)
end Go.Proofs.Ytbpjejjbgdikdaa
