/-
  The walk of the law KeySizes.
-/
import Derived.Test.YtbpjejjbgdikdaaT3
import Derived.Deep.RegionHeld3
import Derived.Deep.DrawnRows
namespace Go.Proofs.Ytbpjejjbgdikdaa
open Go.RowKit
set_option linter.unusedSimpArgs false
set_option linter.unusedVariables false

abbrev sizes6 : Array Value := #[.int .i64 1, .int .i64 2, .int .i64 9, .int .i64 13, .int .i64 3, .int .i64 3]
def size6 : Nat → Int
  | 0 => 1
  | 1 => 2
  | 2 => 9
  | 3 => 13
  | _ => 3
theorem size6_at (i : Nat) (hi : i < 6) : sizes6[i]? = some (.int .i64 (size6 i)) ∧ 1 ≤ size6 i ∧ size6 i ≤ 13 := by
  match i, hi with
  | 0, _ => exact ⟨rfl, by decide, by decide⟩
  | 1, _ => exact ⟨rfl, by decide, by decide⟩
  | 2, _ => exact ⟨rfl, by decide, by decide⟩
  | 3, _ => exact ⟨rfl, by decide, by decide⟩
  | 4, _ => exact ⟨rfl, by decide, by decide⟩
  | 5, _ => exact ⟨rfl, by decide, by decide⟩
theorem key_size {i : Nat} {n s : Int} {t : ByteArray} (h : Ok (i : Int) n s t) : ((keyB (i : Int) n s t).size : Int) = size6 i + (escL t.data.toList).length := by
  rw [keyB_len]
  have h1 := h.1
  have hi : i = 0 ∨ i = 1 ∨ i = 2 ∨ i = 3 ∨ i = 4 ∨ i = 5 := by omega
  rcases hi with rfl | rfl | rfl | rfl | rfl | rfl
  · obtain rfl := ok_empty h (by decide)
    simp [keyN, size6, escL]
  · obtain rfl := ok_empty h (by decide)
    simp [keyN, size6, escL]
  · obtain rfl := ok_empty h (by decide)
    simp [keyN, size6, escL, beK_len]
  · obtain rfl := ok_empty h (by decide)
    simp [keyN, size6, escL, beK_len]
  · have : keyN ((4 : Nat) : Int) n s t = 4 :: markL t := rfl
    rw [this]; simp [size6, markL]; omega
  · have : keyN ((5 : Nat) : Int) n s t = 5 :: markL t := rfl
    rw [this]; simp [size6, markL]; omega
def SZ (w : World) (bx : Nat) (x0 x1 x2 x3 : Value) (W : World) : Prop := Below w.heap.size w W ∧ Four bx x0 x1 x2 x3 W
theorem sz_new {w W : World} {bx : Nat} {x0 x1 x2 x3 : Value} (h : SZ w bx x0 x1 x2 x3 W) (o : Obj) : SZ w bx x0 x1 x2 x3 (W.alloc o) := ⟨h.1.alloc h.1.size _, four_more h.2 _⟩

set_option maxHeartbeats 2000000 in
set_option maxRecDepth 100000 in
theorem sizes_walk (kind n : Int) (i : Nat) (s : ByteArray) (w : World) (hs : s.size ≤ 100) (hi : i < 6)
    (MX : Hid (∀ W, Calls Try.prog 13 #[.int .i64 kind, .int .i64 n, .string s] W fun e w' => Made e (i : Int) ∧ Below W.heap.size W w')) :
    Calls Try.prog 9 #[.int .i64 kind, .int .i64 n, .string s] w fun e w' => e = .returned (.bool true) ∧ Below w.heap.size w w' := by
  have hL := hide (Below.refl w.heap.size w)
  have hii : (i : Int) < 6 := by omega
  obtain ⟨hat, hb0, hb1⟩ := size6_at i hi
  have HAT := hide hat
  clear hat
  go_enter Try.func9, Try.ntmps9
  go_wp2_with fail
  refine (known_any _).mono ?_
  rintro e w1 ⟨rfl, hb1⟩
  replace hL := hide ((unhide hL).trans (hb1.mono (unhide hL).size))
  clear hb1
  go_wp2_with fail
  refine (unhide MX _).mono ?_
  rintro e w2 ⟨⟨xn, xs, xt, okx, rfl⟩, hb2⟩
  replace hL := hide ((unhide hL).trans (hb2.mono (unhide hL).size))
  clear hb2 MX
  have KX := hide (fun W => key_any (i : Int) xn xs xt W okx)
  have KZ := hide (key_size okx)
  have hxt : xt.size ≤ 40 := okx.2.2.2.2.1
  have hel := escL_len xt.data.toList
  clear okx
  generalize keyB (i : Int) xn xs xt = kb at *
  have hS := hide (show SZ w w2.heap.size (.int .i64 (i : Int)) (.int .i64 xn) (.int .i64 xs) (.string xt) (w2.alloc (.cells #[.int .i64 (i : Int), .int .i64 xn, .int .i64 xs, .string xt] 24)) from ⟨(unhide hL).alloc (unhide hL).size _, four_alloc _ _ _ _ _ _⟩)
  clear hL
  go_wp2_with fail
  rename_i hrest
  refine wp_region_noPanic ?_
  refine wp_region_held_drew (S := SZ w w2.heap.size (.int .i64 (i : Int)) (.int .i64 xn) (.int .i64 xs) (.string xt)) (by kernel_rfl) (⟨(unhide hS).1.drew, four_drew (unhide hS).2⟩) (fun hHeld => ?_)
  clear hS
  revert hHeld
  generalize World.drew _ = Wd
  intro hHeld
  refine wpAnyH_take (i := 1) (oi := ?oi20001) (v := ?v20001) ?hi20001 (by kernel_rfl) (by kernel_rfl) (by kernel_rfl) (fun _ _ _ h => h) (Or.inl ⟨?hw20001, ?hy20001⟩) (by assumption) ?rest20001
  case hi20001 => (simp only [List.getElem?_toArray, List.getElem?_cons_zero, List.getElem?_cons_succ]; rfl)
  case hw20001 => rfl
  case hy20001 => first | (intro wx hSw; obtain ⟨-, -, a0, a1, a2, a3, -⟩ := hSw; go_simp; done) | (intro wx hSw; obtain ⟨-, -, a0, a1, a2, a3, -⟩ := hSw; go_simp; with_reducible rfl)
  simp only [Act.put, List.setIfInBounds_toArray, List.set_cons_zero, List.set_cons_succ]
  refine wpAnyH_take (i := 2) (oi := ?oi20002) (v := ?v20002) ?hi20002 (by kernel_rfl) (by kernel_rfl) (by kernel_rfl) (fun _ _ _ h => h) (Or.inl ⟨?hw20002, ?hy20002⟩) (by assumption) ?rest20002
  case hi20002 => (simp only [List.getElem?_toArray, List.getElem?_cons_zero, List.getElem?_cons_succ]; rfl)
  case hw20002 => rfl
  case hy20002 => first | (intro wx hSw; obtain ⟨-, -, a0, a1, a2, a3, -⟩ := hSw; go_simp; done) | (intro wx hSw; obtain ⟨-, -, a0, a1, a2, a3, -⟩ := hSw; go_simp; with_reducible rfl)
  simp only [Act.put, List.setIfInBounds_toArray, List.set_cons_zero, List.set_cons_succ]
  refine wpAnyH_take (i := 5) (oi := ?oi20003) (v := ?v20003) ?hi20003 (by kernel_rfl) (by kernel_rfl) (by kernel_rfl) (fun _ _ _ h => h) (Or.inl ⟨?hw20003, ?hy20003⟩) (by assumption) ?rest20003
  case hi20003 => (simp only [List.getElem?_toArray, List.getElem?_cons_zero, List.getElem?_cons_succ]; rfl)
  case hw20003 => rfl
  case hy20003 => first | (intro wx hSw; obtain ⟨-, -, a0, a1, a2, a3, -⟩ := hSw; go_simp; done) | (intro wx hSw; obtain ⟨-, -, a0, a1, a2, a3, -⟩ := hSw; go_simp; with_reducible rfl)
  simp only [Act.put, List.setIfInBounds_toArray, List.set_cons_zero, List.set_cons_succ]
  refine wpAnyH_take (i := 6) (oi := ?oi20004) (v := ?v20004) ?hi20004 (by kernel_rfl) (by kernel_rfl) (by kernel_rfl) (fun _ _ _ h => h) (Or.inl ⟨?hw20004, ?hy20004⟩) (by assumption) ?rest20004
  case hi20004 => (simp only [List.getElem?_toArray, List.getElem?_cons_zero, List.getElem?_cons_succ]; rfl)
  case hw20004 => rfl
  case hy20004 => first | (intro wx hSw; obtain ⟨-, -, a0, a1, a2, a3, -⟩ := hSw; go_simp; done) | (intro wx hSw; obtain ⟨-, -, a0, a1, a2, a3, -⟩ := hSw; go_simp; with_reducible rfl)
  simp only [Act.put, List.setIfInBounds_toArray, List.set_cons_zero, List.set_cons_succ]
  refine wpAnyH_take (i := 7) (oi := ?oi20005) (v := ?v20005) ?hi20005 (by kernel_rfl) (by kernel_rfl) (by kernel_rfl) (fun _ _ _ h => h) (Or.inl ⟨?hw20005, ?hy20005⟩) (by assumption) ?rest20005
  case hi20005 => (simp only [List.getElem?_toArray, List.getElem?_cons_zero, List.getElem?_cons_succ]; rfl)
  case hw20005 => rfl
  case hy20005 => first | (intro wx hSw; obtain ⟨-, -, a0, a1, a2, a3, -⟩ := hSw; go_simp; done) | (intro wx hSw; obtain ⟨-, -, a0, a1, a2, a3, -⟩ := hSw; go_simp; with_reducible rfl)
  simp only [Act.put, List.setIfInBounds_toArray, List.set_cons_zero, List.set_cons_succ]
  have hW := hide hHeld
  refine wpAnyH_ready (rs := [0]) (by kernel_rfl) (by simp) ?_
  refine AllReadyH.cons rfl (fun K20006 hK20006 => ?_) AllReadyH.nil
  go_simp
  refine hK20006.out _ _ ?hs20006 (fun hHeld20006 => ?_)
  case hs20006 => exact sz_new (unhide hW) _
  clear hHeld
  have hHeld := hHeld20006; clear hHeld20006 hK20006 K20006
  refine wpAnyH_weaken (S := (fun W => SZ w w2.heap.size (.int .i64 (i : Int)) (.int .i64 xn) (.int .i64 xs) (.string xt) W ∧ W.cell? ⟨Wd.heap.size, i, none⟩ = some (.int .i64 (size6 i)))) (fun _ h => h.1) _ _ _ _ ?_
  have hHeld2 : (fun W => SZ w w2.heap.size (.int .i64 (i : Int)) (.int .i64 xn) (.int .i64 xs) (.string xt) W ∧ W.cell? ⟨Wd.heap.size, i, none⟩ = some (.int .i64 (size6 i))) (Wd.alloc (.cells sizes6 3)) := ⟨hHeld, (World.cell?_alloc_mark Wd sizes6 3 (0, 0) i).trans (unhide HAT)⟩
  clear hHeld hW
  have hHeld := hHeld2
  clear hHeld2
  refine wpAnyH_take (i := 3) (oi := ?oi20007) (v := ?v20007) ?hi20007 (by kernel_rfl) (by kernel_rfl) (by kernel_rfl) (fun _ _ _ h => h) (Or.inl ⟨?hw20007, ?hy20007⟩) (by assumption) ?rest20007
  case hi20007 => (simp only [List.getElem?_toArray, List.getElem?_cons_zero, List.getElem?_cons_succ]; rfl)
  case hw20007 => rfl
  case hy20007 => first | (intro wx hSw; obtain ⟨⟨-, -, a0, a1, a2, a3, -⟩, b0⟩ := hSw; go_simp; done) | (intro wx hSw; obtain ⟨⟨-, -, a0, a1, a2, a3, -⟩, b0⟩ := hSw; go_simp; with_reducible rfl)
  simp only [Act.put, List.setIfInBounds_toArray, List.set_cons_zero, List.set_cons_succ]
  refine wpAnyH_take (i := 4) (oi := ?oi20008) (v := ?v20008) ?hi20008 (by kernel_rfl) (by kernel_rfl) (by kernel_rfl) (fun _ _ _ h => h) (Or.inl ⟨?hw20008, ?hy20008⟩) (by assumption) ?rest20008
  case hi20008 => (simp only [List.getElem?_toArray, List.getElem?_cons_zero, List.getElem?_cons_succ]; rfl)
  case hw20008 => rfl
  case hy20008 => first | (intro wx hSw; obtain ⟨⟨-, -, a0, a1, a2, a3, -⟩, b0⟩ := hSw; go_simp; done) | (intro wx hSw; obtain ⟨⟨-, -, a0, a1, a2, a3, -⟩, b0⟩ := hSw; go_simp; with_reducible rfl)
  simp only [Act.put, List.setIfInBounds_toArray, List.set_cons_zero, List.set_cons_succ]
  refine wpAnyH_take (i := 8) (oi := ?oi20009) (v := ?v20009) ?hi20009 (by kernel_rfl) (by kernel_rfl) (by kernel_rfl) (fun _ _ _ h => h) (Or.inl ⟨?hw20009, ?hy20009⟩) (by assumption) ?rest20009
  case hi20009 => (simp only [List.getElem?_toArray, List.getElem?_cons_zero, List.getElem?_cons_succ]; rfl)
  case hw20009 => rfl
  case hy20009 => first | (intro wx hSw; obtain ⟨⟨-, -, a0, a1, a2, a3, -⟩, b0⟩ := hSw; go_simp; done) | (intro wx hSw; obtain ⟨⟨-, -, a0, a1, a2, a3, -⟩, b0⟩ := hSw; go_simp; with_reducible rfl)
  simp only [Act.put, List.setIfInBounds_toArray, List.set_cons_zero, List.set_cons_succ]
  refine wpAnyH_take (i := 9) (oi := ?oi20010) (v := ?v20010) ?hi20010 (by kernel_rfl) (by kernel_rfl) (by kernel_rfl) (fun _ _ _ h => h) (Or.inl ⟨?hw20010, ?hy20010⟩) (by assumption) ?rest20010
  case hi20010 => (simp only [List.getElem?_toArray, List.getElem?_cons_zero, List.getElem?_cons_succ]; rfl)
  case hw20010 => rfl
  case hy20010 => first | (intro wx hSw; obtain ⟨⟨-, -, a0, a1, a2, a3, -⟩, b0⟩ := hSw; go_simp; done) | (intro wx hSw; obtain ⟨⟨-, -, a0, a1, a2, a3, -⟩, b0⟩ := hSw; go_simp; with_reducible rfl)
  simp only [Act.put, List.setIfInBounds_toArray, List.set_cons_zero, List.set_cons_succ]
  refine wpAnyH_done (by kernel_rfl) ?_ _
  refine NoPanic.normal ?_
  refine hrest _ _ ?_
  clear hrest
  have hS := hide hHeld.1
  clear hHeld
  generalize Wd.alloc _ = W3 at *
  go_wp2_with fail
  have hS0 := hide (unhide hS).2
  go_loopw [8, 9] (fun q p wr => ∃ k : Nat, k ≤ xt.size ∧ p = .int .i64 (k : Int) ∧ q = .int .i64 (size6 i + (xt.size : Int) + ((escL (xt.data.toList.take k)).length - (k : Int))) ∧ Hid (SZ w w2.heap.size (.int .i64 (i : Int)) (.int .i64 xn) (.int .i64 xs) (.string xt) wr)) (fun _ p _ => xt.size - (intOf p).toNat)
  case atStart => exact ⟨0, by omega, rfl, by simp [escL]; exact IntWalk.i64_in _ (by omega), hS⟩
  case round =>
    clear hS hS0
    obtain ⟨k, hk, rfl, rfl, HS⟩ := hrel
    obtain ⟨-, -, a0, a1, a2, a3, -⟩ := unhide HS
    by_cases hlt : k < xt.size
    · have hlti : (k : Int) < xt.size := by omega
      have hlen := escL_len (xt.data.toList.take k)
      rw [List.length_take] at hlen
      have hsn : Hid (escL (xt.data.toList.take (k + 1)) = escL (xt.data.toList.take k) ++ esc xt[k]) := by show _ = _; rw [take_one xt k hlt, escL_snoc]
      generalize escL (xt.data.toList.take k) = es at *
      by_cases hz : xt[k] = 0
      · have hzb : (xt[k].toNat : Int) = 0 := (byte_zero _).2 hz
        have he : Hid ((esc xt[k]).length = 2) := by show _ = _; unfold esc; rw [if_pos hz]; rfl
        clear hz
        go_wp2_with fail
        go_roundw
        case rel => exact ⟨k + 1, by omega, by go_num, by rw [hsn.out, List.length_append, he.out]; go_num, HS⟩
        case measure => simp [intOf]; omega
      · have hzb : ((xt[k].toNat : Int) == 0) = false := by rw [beq_eq_false_iff_ne]; exact fun h => hz ((byte_zero _).1 h)
        have he : Hid ((esc xt[k]).length = 1) := by show _ = _; unfold esc; rw [if_neg hz]; rfl
        clear hz
        go_wp2_with fail
        go_roundw
        case rel => exact ⟨k + 1, by omega, by go_num, by rw [hsn.out, List.length_append, he.out]; go_num, HS⟩
        case measure => simp [intOf]; omega
    · obtain rfl : k = xt.size := by omega
      have htk : xt.data.toList.take xt.size = xt.data.toList := List.take_of_length_le (by simp)
      rw [htk] at *
      go_wp2_with (go_at_call 14; refine (unhide KX _).mono ?_; rintro e w5 ⟨rfl, hb5⟩)
      go_ret
      refine ⟨ret_bool ?_, (unhide HS).1.trans (hb5.mono (unhide HS).1.size)⟩
      have := unhide KZ
      simp
      omega
set_option maxHeartbeats 1000000 in
theorem sizes_long (kind n : Int) (s : ByteArray) (w : World) (h1 : (100 : Int) < s.size) :
    Calls Try.prog 9 #[.int .i64 kind, .int .i64 n, .string s] w fun e w' => e = .returned (.bool true) ∧ Below w.heap.size w w' := by
  go_enter Try.func9, Try.ntmps9
  go_wp2_with fail
  refine (known_any _).mono ?_
  rintro e w1 ⟨rfl, hb1⟩
  go_wp2_with fail
  go_ret
  exact ⟨rfl, hb1⟩
theorem keySizes_walk (kind n : Int) (s : ByteArray) (wk : (Lit.int .i64 kind).wf = true) (wn : (Lit.int .i64 n).wf = true) (hs : s.size ≤ maxLen) (w : World) :
    Calls Try.prog 9 #[.int .i64 kind, .int .i64 n, .string s] w fun e w' => e = .returned (.bool true) ∧ Below w.heap.size w w' := by
  unfold maxLen at hs
  by_cases h : s.size ≤ 100
  · exact sizes_walk kind n (kind % 6).toNat s w h (by omega) (fun W => by rw [show (((kind % 6).toNat : Nat) : Int) = kind % 6 by omega]; exact make_any kind n s W (is64_lit wk) (is64_lit wn) hs)
  · exact sizes_long kind n s w (by omega)
end Go.Proofs.Ytbpjejjbgdikdaa
