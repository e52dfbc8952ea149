/-
  What the reference's functions text and Key return: a text's bytes, a value's.
-/
import Derived.Test.YtbpjejjbgdikdaaT4
import Derived.Test.YtbpjejjbgdikdaaX
import Derived.Deep.RegionHeld3
namespace Go.Proofs.Ytbpjejjbgdikdaa
open Go.RowKit Go.Shelf
set_option linter.unusedSimpArgs false
set_option linter.unusedVariables false

theorem cells_two_new (W : World) (x y : Value) (T : TypeId) : ∀ j u, [x, y][j]? = some u → (W.alloc (.cells #[x, y] T)).cell? (Addr.add ⟨W.heap.size, 0, none⟩ j) = some u := by
  intro j u h
  have hc := cell_of_row _ W.heap.size j _ _ _ (World.alloc_heap_new W (.cells #[x, y] T))
  match j, h with
  | 0, h => exact hc.trans h
  | 1, h => exact hc.trans h
theorem run_string_ml {W : World} {B g cap : Nat} {ml xs : List Int} (hm : ml = xs ++ [0, 1]) (h : W.ownsRow B 5 1 (.slice (some ⟨g, 0, none⟩) (xs.length + 2) cap) (xs.length + 2) (I8 xs ++ [.int .u8 0, .int .u8 1])) :
    (convert 49 9 (.slice (some ⟨g, 0, none⟩) (xs.length + 2) cap)).run Try.prog W = .ok (.string (strOfNums ml)) W := by
  have hl : ml.length = xs.length + 2 := by rw [hm]; simp
  have h1 : W.ownsRow B 5 1 (.slice (some ⟨g, 0, none⟩) ml.length cap) ml.length (I8 ml) := by
    rw [hl, hm]; simpa using h
  have h2 := run_string_row h1
  rw [hl] at h2
  exact h2

set_option maxRecDepth 100000 in
set_option maxHeartbeats 2000000 in
theorem rtextR_ml (t : ByteArray) (ht : t.size ≤ 1000000) (ml : List Int) (hm : Hid (ml = escL t.data.toList ++ [0, 1])) (w : World) :
    Calls Try.prog 32 #[.string t] w fun e w' => e = .returned (.string (strOfNums ml)) ∧ Below w.heap.size w w' := by
  obtain ⟨i0, hi, hz0, hz1, hz2⟩ := info_parts info_byte
  go_enter Try.func32, Try.ntmps32
  go_wp2
  go_loopw [3, 4] (fun v i wr => ∃ k : Nat, k ≤ t.size ∧ i = .int .i64 (k : Int) ∧ wr.ownsRow w.heap.size 5 1 v (escL (t.data.toList.take k)).length (I8 (escL (t.data.toList.take k))) ∧ Below w.heap.size w wr)
    (fun v i wr => t.size - (intOf i).toNat)
  case atStart => exact ⟨0, by omega, rfl, World.ownsRow_nil _ _ _ _, Below.refl _ _⟩
  case round =>
    obtain ⟨k, hk, rfl, hrow, hB⟩ := hrel
    have hsz := hB.size
    by_cases h8 : k < t.size
    · have hlen : (escL (t.data.toList.take k)).length ≤ 2 * k := by
        have := escL_len (t.data.toList.take k); simp at this; omega
      have hsn : Hid (escL (t.data.toList.take (k + 1)) = escL (t.data.toList.take k) ++ esc t[k]) := by show _ = _; rw [take_one t k h8, escL_snoc]
      generalize escL (t.data.toList.take k) = xs at *
      by_cases hz : t[k] = 0
      · have hzb : (t[k].toNat : Int) = 0 := (byte_zero _).2 hz
        have he : Hid (esc t[k] = [0] ++ [255]) := by show _ = _; unfold esc; rw [if_pos hz]; rfl
        clear hz
        go_wp2_with (at_builtin; first
          | (refine wpList_append_lies _ rfl _ _ 49 rfl w.heap.size 5 i0 (.int .u8 0) 1 1 Try.underlying49 hi hz0 hz1 hz2 rfl (by decide) u3 _ _ rfl (hrow.alloc _) ⟨wr.heap.size, 0, none⟩ 1 1 [.int .u8 0] rfl rfl (by simpa using cell_one_new wr _ _) (by simp [Value.oneCell']) (by decide) (by unfold maxLen; omega) (by omega) (by simp; omega) _ rfl ?_; intro g cap w1 hown1 hgrow1 hat1 _; have hB1 := below_row hB hrow hgrow1; have hsz1 := hB1.size)
          | (refine wpList_append_lies _ rfl _ _ 49 rfl w.heap.size 5 i0 (.int .u8 0) 1 1 Try.underlying49 hi hz0 hz1 hz2 rfl (by decide) _ _ _ rfl (hown1.alloc _) ⟨w1.heap.size, 0, none⟩ 1 1 [.int .u8 255] rfl rfl (by simpa using cell_one_new w1 _ _) (by simp [Value.oneCell']) (by decide) (by unfold maxLen; omega) (by omega) (by simp; omega) _ rfl ?_; intro g2 cap2 w2 hown2 hgrow2 hat2 _))
        exact ⟨⟨k + 1, by omega, by go_num, by rw [hsn.out, he.out]; simpa using hown2, below_row hB1 hown1 hgrow2⟩, by simp [intOf]; omega⟩
      · have hzb : ((t[k].toNat : Int) == 0) = false := by rw [beq_eq_false_iff_ne]; exact fun h => hz ((byte_zero _).1 h)
        have he : Hid (esc t[k] = [(t[k].toNat : Int)]) := by show _ = _; unfold esc; rw [if_neg hz]
        clear hz
        go_wp2_with (at_builtin; refine wpList_append_lies _ rfl _ _ 49 rfl w.heap.size 5 i0 (.int .u8 0) 1 1 Try.underlying49 hi hz0 hz1 hz2 rfl (by decide) u3 _ _ rfl (hrow.alloc _) ⟨wr.heap.size, 0, none⟩ 1 1 [.int .u8 (t[k].toNat : Int)] rfl rfl (by simpa using cell_one_new wr _ _) (by simp [Value.oneCell']) (by decide) (by unfold maxLen; omega) (by omega) (by simp; omega) _ rfl ?_; intro g cap w1 hown1 hgrow1 hat1 _)
        exact ⟨⟨k + 1, by omega, by go_num, by rw [hsn.out, he.out]; simpa using hown1, below_row hB hrow hgrow1⟩, by simp [intOf]; omega⟩
    · obtain rfl : k = t.size := by omega
      have hlen : (escL t.data.toList).length ≤ 2 * t.size := by
        have := escL_len t.data.toList; simpa using this
      have htk : t.data.toList.take t.size = t.data.toList := List.take_of_length_le (by simp)
      rw [htk] at hrow
      generalize escL t.data.toList = xs at *
      go_wp2_with (at_builtin; refine wpList_append_lies _ rfl _ _ 49 rfl w.heap.size 5 i0 (.int .u8 0) 1 1 Try.underlying49 hi hz0 hz1 hz2 rfl (by decide) u3 _ _ rfl (hrow.alloc _) ⟨wr.heap.size, 0, none⟩ 2 2 [.int .u8 0, .int .u8 1] rfl rfl (cells_two_new wr _ _ _) (by simp [Value.oneCell']) (by decide) (by unfold maxLen; omega) (by omega) (by simp; omega) _ rfl ?_; intro g cap w1 hown1 hgrow1 hat1 _; have hrun := run_string_ml (unhide hm) hown1)
      go_ret
      exact ⟨rfl, below_row hB hrow hgrow1⟩
theorem rtextR_any (t : ByteArray) (ht : t.size ≤ 1000000) (w : World) :
    Calls Try.prog 32 #[.string t] w fun e w' => e = .returned (.string (strOfNums (markL t))) ∧ Below w.heap.size w w' := rtextR_ml t ht _ rfl w

theorem str_app (a b : List Int) : strOfNums a ++ strOfNums b = strOfNums (a ++ b) := by
  apply ByteArray.ext
  rw [ByteArray.data_append]
  simp [strOfNums]
theorem run_str1 (W : World) (x : Int) : (convert 49 9 (.slice (some ⟨W.heap.size, 0, none⟩) 1 1)).run Try.prog (W.alloc (.cells #[.int .u8 x] 5)) = .ok (.string (strOfNums [x])) (W.alloc (.cells #[.int .u8 x] 5)) :=
  run_string_row (ns := [x]) (B := 0) (cap := 1) ⟨rfl, .inr ⟨W.heap.size, 1, #[.int .u8 x], rfl, Nat.zero_le _, World.alloc_heap_new W _, Nat.le_refl _, by unfold maxLen; omega, rfl, rfl⟩⟩
theorem run_str4 (W : World) (a b c d : Int) : (convert 49 9 (.slice (some ⟨W.heap.size, 0, none⟩) 4 4)).run Try.prog (W.alloc (.cells #[.int .u8 a, .int .u8 b, .int .u8 c, .int .u8 d] 5)) = .ok (.string (strOfNums [a, b, c, d])) (W.alloc (.cells #[.int .u8 a, .int .u8 b, .int .u8 c, .int .u8 d] 5)) :=
  run_string_row (ns := [a, b, c, d]) (B := 0) (cap := 4) ⟨rfl, .inr ⟨W.heap.size, 4, #[.int .u8 a, .int .u8 b, .int .u8 c, .int .u8 d], rfl, Nat.zero_le _, World.alloc_heap_new W _, Nat.le_refl _, by unfold maxLen; omega, rfl, rfl⟩⟩

set_option maxRecDepth 100000 in
set_option maxHeartbeats 1000000 in
theorem rKey0 (n s : Int) (t : ByteArray) (w : World) :
    Calls Try.prog 16 #[V 0 n s t] w fun e w' => e = .returned (.string (strOfNums [0])) ∧ Below w.heap.size w w' := by
  have hr := run_str1 (w.alloc (.cells #[.int .i64 0, .int .i64 n, .int .i64 s, .string t] 24)) 0
  rw [World.size_alloc] at hr
  go_enter Try.func16, Try.ntmps16
  go_wp2
  go_ret
  exact ⟨rfl, ((Below.refl _ w).alloc (Nat.le_refl _) _).alloc (by simp) _⟩
set_option maxRecDepth 100000 in
set_option maxHeartbeats 1000000 in
theorem rKey1 (n s : Int) (t : ByteArray) (w : World) (hn : 0 ≤ n ∧ n < 256) :
    Calls Try.prog 16 #[V 1 n s t] w fun e w' => e = .returned (.string (strOfNums [1, n])) ∧ Below w.heap.size w w' := by
  have hr := run_str1 (w.alloc (.cells #[.int .i64 1, .int .i64 n, .int .i64 s, .string t] 24)) 1
  have hr2 := run_str1 ((w.alloc (.cells #[.int .i64 1, .int .i64 n, .int .i64 s, .string t] 24)).alloc (.cells #[.int .u8 1] 5)) n
  rw [World.size_alloc] at hr
  rw [World.size_alloc, World.size_alloc] at hr2
  have hm : n % 256 = n := by omega
  have ha := str_app [1] [n]
  go_enter Try.func16, Try.ntmps16
  go_wp2
  go_ret
  exact ⟨rfl, (((Below.refl _ w).alloc (Nat.le_refl _) _).alloc (by simp) _).alloc (by simp; omega) _⟩
set_option maxRecDepth 100000 in
set_option maxHeartbeats 1000000 in
theorem rKey2 (n s : Int) (t : ByteArray) (w : World) (hn : Is64 n) :
    Calls Try.prog 16 #[V 2 n s t] w fun e w' => e = .returned (.string (strOfNums (2 :: beK 56 (n + 9223372036854775808) 8))) ∧ Below w.heap.size w w' := by
  have hr := run_str1 (w.alloc (.cells #[.int .i64 2, .int .i64 n, .int .i64 s, .string t] 24)) 2
  rw [World.size_alloc] at hr
  have hs1 : (strOfNums [2]).size = 1 := rfl
  have ha := str_app [2] (beK 56 (n + 9223372036854775808) 8)
  have C := hide (fun W => rnum_any n hn W)
  have hs2 : (strOfNums (beK 56 (n + 9223372036854775808) 8)).size = 8 := by rw [strOfNums_size, beK_len]
  generalize beK 56 (n + 9223372036854775808) 8 = xs at *
  go_enter Try.func16, Try.ntmps16
  go_wp2_with (go_at_call 30; refine (unhide C _).mono ?_; rintro e W1 ⟨rfl, hb1⟩)
  go_ret
  refine ⟨rfl, ?_⟩
  have hB := ((Below.refl _ w).alloc (Nat.le_refl _) (.cells #[.int .i64 2, .int .i64 n, .int .i64 s, .string t] 24)).alloc (by simp) (.cells #[.int .u8 2] 5)
  exact hB.trans (hb1.mono hB.size)
set_option maxRecDepth 100000 in
set_option maxHeartbeats 1000000 in
theorem rKey4 (n s : Int) (t : ByteArray) (w : World) (ht : t.size ≤ 1000000) :
    Calls Try.prog 16 #[V 4 n s t] w fun e w' => e = .returned (.string (strOfNums (4 :: markL t))) ∧ Below w.heap.size w w' := by
  have hr := run_str1 (w.alloc (.cells #[.int .i64 4, .int .i64 n, .int .i64 s, .string t] 24)) 4
  rw [World.size_alloc] at hr
  have hs1 : (strOfNums [4]).size = 1 := rfl
  have ha := str_app [4] (markL t)
  have C := hide (fun W => rtextR_any t ht W)
  have hs2 : (strOfNums (markL t)).size ≤ 3000000 := by
    rw [strOfNums_size]; have := escL_len t.data.toList; simp [markL] at this ⊢; omega
  generalize markL t = xs at *
  go_enter Try.func16, Try.ntmps16
  go_wp2_with (go_at_call 32; refine (unhide C _).mono ?_; rintro e W1 ⟨rfl, hb1⟩)
  go_ret
  refine ⟨rfl, ?_⟩
  have hB := ((Below.refl _ w).alloc (Nat.le_refl _) (.cells #[.int .i64 4, .int .i64 n, .int .i64 s, .string t] 24)).alloc (by simp) (.cells #[.int .u8 4] 5)
  exact hB.trans (hb1.mono hB.size)
set_option maxRecDepth 100000 in
set_option maxHeartbeats 1000000 in
theorem rKey5 (n s : Int) (t : ByteArray) (w : World) (ht : t.size ≤ 1000000) :
    Calls Try.prog 16 #[V 5 n s t] w fun e w' => e = .returned (.string (strOfNums (5 :: markL t))) ∧ Below w.heap.size w w' := by
  have hr := run_str1 (w.alloc (.cells #[.int .i64 5, .int .i64 n, .int .i64 s, .string t] 24)) 5
  rw [World.size_alloc] at hr
  have hs1 : (strOfNums [5]).size = 1 := rfl
  have ha := str_app [5] (markL t)
  have C := hide (fun W => rtextR_any t ht W)
  have hs2 : (strOfNums (markL t)).size ≤ 3000000 := by
    rw [strOfNums_size]; have := escL_len t.data.toList; simp [markL] at this ⊢; omega
  generalize markL t = xs at *
  go_enter Try.func16, Try.ntmps16
  go_wp2_with (go_at_call 32; refine (unhide C _).mono ?_; rintro e W1 ⟨rfl, hb1⟩)
  go_ret
  refine ⟨rfl, ?_⟩
  have hB := ((Below.refl _ w).alloc (Nat.le_refl _) (.cells #[.int .i64 5, .int .i64 n, .int .i64 s, .string t] 24)).alloc (by simp) (.cells #[.int .u8 5] 5)
  exact hB.trans (hb1.mono hB.size)
/-
set_option maxRecDepth 100000 in
set_option maxHeartbeats 2000000 in
theorem rKey3 (n s : Int) (t : ByteArray) (w : World) (hn : n.natAbs < 1000000000000000) (h0 : 0 ≤ s) (h6 : s ≤ 6) :
    Calls Try.prog 16 #[V 3 n s t] w fun e w' => e = .returned (.string (strOfNums (3 :: (beK 56 (fl n s + 9223372036854775808) 8 ++ beK 24 (fr n s) 4)))) ∧ Below w.heap.size w w' := by
  have hfb := fl_bd (s := s) hn
  have hff := fr_bd (n := n) h0 h6
  have hr := run_str1 (w.alloc (.cells #[.int .i64 3, .int .i64 n, .int .i64 s, .string t] 24)) 3
  rw [World.size_alloc] at hr
  have hs1 : (strOfNums [3]).size = 1 := rfl
  have C := hide (fun W => rnum_any (fl n s) (by unfold Is64; omega) W)
  have CP := hide (fun W => parts_any 3 n s t W hn h0 h6)
  have hs2 : (strOfNums (beK 56 (fl n s + 9223372036854775808) 8)).size = 8 := by rw [strOfNums_size, beK_len]
  have ha := str_app [3] (beK 56 (fl n s + 9223372036854775808) 8)
  have hb4 : beK 24 (fr n s) 4 = [fr n s / 16777216 % 256, fr n s / 65536 % 256, fr n s / 256 % 256, fr n s % 256] := by simp [beK, List.range_succ]
  have ha2 := str_app (3 :: beK 56 (fl n s + 9223372036854775808) 8) [fr n s / 16777216 % 256, fr n s / 65536 % 256, fr n s / 256 % 256, fr n s % 256]
  have hs3 : (strOfNums (3 :: beK 56 (fl n s + 9223372036854775808) 8)).size = 9 := by rw [strOfNums_size]; simp [beK_len]
  have hs4 : (strOfNums [fr n s / 16777216 % 256, fr n s / 65536 % 256, fr n s / 256 % 256, fr n s % 256]).size = 4 := rfl
  rw [hb4]
  generalize beK 56 (fl n s + 9223372036854775808) 8 = xs at *
  generalize fl n s = f at *
  generalize fr n s = g at *
  clear hb4
  go_enter Try.func16, Try.ntmps16
  go_wp2_with (go_at_call 31; refine (unhide CP _).mono ?_; rintro e W1 ⟨rfl, hb1⟩)
  --STOP
-/
end Go.Proofs.Ytbpjejjbgdikdaa
