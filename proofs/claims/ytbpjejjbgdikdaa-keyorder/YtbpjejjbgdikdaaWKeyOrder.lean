/-
  The walk of the law KeyOrder.
-/
import Derived.Test.YtbpjejjbgdikdaaT3
import Derived.Deep.RegionHeld3
namespace Go.Proofs.Ytbpjejjbgdikdaa
open Go.RowKit
set_option linter.unusedSimpArgs false
set_option linter.unusedVariables false

/-- what lies: x's block, a list of two values -/
def SL (w : World) (bx g : Nat) (x : VV) (l : List VV) (W : World) : Prop := Below w.heap.size w W ∧ Four bx (.int .i64 x.1) (.int .i64 x.2.1) (.int .i64 x.2.2.1) (.string x.2.2.2) W ∧ g < W.heap.size ∧ Vals g l W
def SO (w : World) (bx g k : Nat) (x y : VV) (l : List VV) (W : World) : Prop := SL w bx g x l W ∧ ValAt g k y W
theorem valAt_call {g k : Nat} {y : VV} {W W' : World} (h : ValAt g k y W) (hg : g < W.heap.size) (hb : Below W.heap.size W W') : ValAt g k y W' :=
  ⟨(hb.cell (p := ⟨g, k * 4, none⟩) hg).trans h.1, (hb.cell (p := ⟨g, k * 4 + 1, none⟩) hg).trans h.2.1, (hb.cell (p := ⟨g, k * 4 + 2, none⟩) hg).trans h.2.2.1, (hb.cell (p := ⟨g, k * 4 + 3, none⟩) hg).trans h.2.2.2⟩
theorem vals_call {g : Nat} {l : List VV} {W W' : World} (h : Vals g l W) (hg : g < W.heap.size) (hb : Below W.heap.size W W') : Vals g l W' := fun i hi => valAt_call (h i hi) hg hb
theorem vals_new2 (W : World) (y z : VV) : W.heap.size < (W.alloc (.cells #[.int .i64 y.1, .int .i64 y.2.1, .int .i64 y.2.2.1, .string y.2.2.2, .int .i64 z.1, .int .i64 z.2.1, .int .i64 z.2.2.1, .string z.2.2.2] 24)).heap.size ∧
    Vals W.heap.size [y, z] (W.alloc (.cells #[.int .i64 y.1, .int .i64 y.2.1, .int .i64 y.2.2.1, .string y.2.2.2, .int .i64 z.1, .int .i64 z.2.1, .int .i64 z.2.2.1, .string z.2.2.2] 24)) := by
  refine ⟨by simp, fun i hi => ?_⟩
  have hc := fun j => cell_of_row _ W.heap.size j _ _ _ (World.alloc_heap_new W (.cells #[.int .i64 y.1, .int .i64 y.2.1, .int .i64 y.2.2.1, .string y.2.2.2, .int .i64 z.1, .int .i64 z.2.1, .int .i64 z.2.2.1, .string z.2.2.2] 24))
  match i, hi with
  | 0, _ => exact ⟨hc 0, hc 1, hc 2, hc 3⟩
  | 1, _ => exact ⟨hc 4, hc 5, hc 6, hc 7⟩
theorem pick2 {P : VV → Prop} {y z : VV} (hy : P y) (hz : P z) (k : Nat) (hk : k < 2) : ∃ v, [y, z][k]? = some v ∧ P v := by
  match k, hk with
  | 0, _ => exact ⟨y, rfl, hy⟩
  | 1, _ => exact ⟨z, rfl, hz⟩
theorem so_of {w : World} {bx g k : Nat} {x y : VV} {l : List VV} {W : World} (h : SL w bx g x l W) (hl : l[k]? = some y) : SO w bx g k x y l W := by
  obtain ⟨h1, h2⟩ := List.getElem?_eq_some_iff.1 hl
  exact ⟨h, h2 ▸ h.2.2.2 k h1⟩
theorem sl_call {w : World} {bx g : Nat} {x : VV} {l : List VV} {W W' : World} (h : SL w bx g x l W) (hb : Below W.heap.size W W') : SL w bx g x l W' :=
  ⟨h.1.trans (hb.mono h.1.size), four_call h.2.1 hb, Nat.lt_of_lt_of_le h.2.2.1 hb.size, vals_call h.2.2.2 h.2.2.1 hb⟩
theorem so_call {w : World} {bx g k : Nat} {x y : VV} {l : List VV} {W W' : World} (h : SO w bx g k x y l W) (hb : Below W.heap.size W W') : SO w bx g k x y l W' :=
  ⟨sl_call h.1 hb, valAt_call h.2 h.1.2.2.1 hb⟩
/-- no key is a front of another one -/
theorem key_front {k n s : Int} {t : ByteArray} {k' n' s' : Int} {t' : ByteArray} (h : Ok k n s t) (h' : Ok k' n' s' t') (hl : (keyB k n s t).size ≤ (keyB k' n' s' t').size) (ho : rordV k n s t k' n' s' t' ≠ 0) :
    (((keyB k' n' s' t').extract 0 (keyB k n s t).size).toList == (keyB k n s t).toList) = false := by
  rw [beq_eq_false_iff_ne]
  intro e
  rw [ByteArray.toList_eq, ByteArray.toList_eq, extract_data', keyB_str, keyB_str] at e
  have e2 : nb (keyN k n s t) ++ (nb (keyN k' n' s' t')).drop (Str (nb (keyN k n s t))).size = nb (keyN k' n' s' t') ++ [] := by
    rw [List.append_nil]
    conv => rhs; rw [← List.take_append_drop (Str (nb (keyN k n s t))).size (nb (keyN k' n' s' t'))]
    congr 1
    exact e.symm
  obtain ⟨⟨rfl, rfl, rfl, rfl⟩, _⟩ := key_inj h h' _ _ e2
  exact ho (rord_self h)

set_option maxHeartbeats 2000000 in
set_option maxRecDepth 100000 in
theorem order_walk (a n b m j : Int) (s t : ByteArray) (w : World) (hs : s.size ≤ 100) (ht : t.size ≤ 100) (hj : 0 ≤ j ∧ j < 40)
    (MX : Hid (∀ W, Calls Try.prog 13 #[.int .i64 a, .int .i64 n, .string s] W fun e w' => Made e (a % 6) ∧ Below W.heap.size W w'))
    (MY : Hid (∀ W, Calls Try.prog 13 #[.int .i64 b, .int .i64 m, .string t] W fun e w' => Made e (b % 6) ∧ Below W.heap.size W w'))
    (WI : Hid (∀ W, Calls Try.prog 17 #[.int .i64 b, .int .i64 40] W fun e w' => e = .returned (.int .i64 j) ∧ w' = W))
    (MZ : Hid (∀ W, Calls Try.prog 13 #[.int .i64 (a.tmod 6 + 6 * j), .int .i64 m, .string t] W fun e w' => Made e ((a.tmod 6 + 6 * j) % 6) ∧ Below W.heap.size W w')) :
    Calls Try.prog 4 #[.int .i64 a, .int .i64 n, .int .i64 b, .int .i64 m, .string s, .string t] w fun e w' => e = .returned (.bool true) ∧ Below w.heap.size w w' := by
  have hL := hide (Below.refl w.heap.size w)
  have ht6 : -6 < a.tmod 6 ∧ a.tmod 6 < 6 := ⟨by have := Int.lt_tmod_of_pos a (show (0 : Int) < 6 by decide); omega, Int.tmod_lt_of_pos a (by decide)⟩
  have e1 : IntKind.i64.wrap (6 * j) = 6 * j := IntWalk.i64_in _ (by omega)
  have e2 : IntKind.i64.wrap (a.tmod 6 + 6 * j) = a.tmod 6 + 6 * j := IntWalk.i64_in _ (by omega)
  have e3 : IntKind.i64.wrap (a.tmod 6) = a.tmod 6 := IntWalk.i64_in _ (by omega)
  go_enter Try.func4, Try.ntmps4
  go_wp2_with fail
  refine (known_any _).mono ?_
  rintro e w1 ⟨rfl, hb1⟩
  replace hL := hide ((unhide hL).trans (hb1.mono (unhide hL).size))
  clear hb1
  go_wp2_with fail
  refine (unhide MX _).mono ?_
  rintro e w2 ⟨⟨xn, xs, xt, okx, rfl⟩, hb2⟩
  have OX := hide okx
  replace hL := hide ((unhide hL).trans (hb2.mono (unhide hL).size))
  clear hb2 okx
  go_wp2_with fail
  refine (unhide MY _).mono ?_
  rintro e w3 ⟨⟨yn, ys, yt, oky, rfl⟩, hb3⟩
  have OY := hide oky
  replace hL := hide ((unhide hL).trans (hb3.mono (unhide hL).size))
  clear hb3 oky
  go_wp2_with fail
  refine (unhide WI _).mono ?_
  rintro e w4 ⟨rfl, rfl⟩
  go_wp2_with fail
  refine (unhide MZ _).mono ?_
  rintro e w5 ⟨⟨zn, zs, zt, okz, rfl⟩, hb5⟩
  have OZ := hide okz
  replace hL := hide ((unhide hL).trans (hb5.mono (unhide hL).size))
  clear hb5 okz MX MY MZ WI e1 e2 e3
  generalize a % 6 = kx at *
  generalize b % 6 = ky at *
  generalize (a.tmod 6 + 6 * j) % 6 = kz at *
  go_wp2_with fail
  have hX := four_more (four_more (four_more (four_alloc (.int .i64 kx) (.int .i64 xn) (.int .i64 xs) (.string xt) 24 w5) (.cells #[.int .i64 ky, .int .i64 yn, .int .i64 ys, .string yt] 24)) (.cells #[.int .i64 kz, .int .i64 zn, .int .i64 zs, .string zt] 24)) (.cells #[.int .i64 ky, .int .i64 yn, .int .i64 ys, .string yt, .int .i64 kz, .int .i64 zn, .int .i64 zs, .string zt] 24)
  have hV := vals_new2 (((w5.alloc (.cells #[.int .i64 kx, .int .i64 xn, .int .i64 xs, .string xt] 24)).alloc (.cells #[.int .i64 ky, .int .i64 yn, .int .i64 ys, .string yt] 24)).alloc (.cells #[.int .i64 kz, .int .i64 zn, .int .i64 zs, .string zt] 24)) (ky, yn, ys, yt) (kz, zn, zs, zt)
  simp only [World.size_alloc] at hV
  have hS : Hid (SL w w5.heap.size (w5.heap.size + 1 + 1 + 1) (kx, xn, xs, xt) [(ky, yn, ys, yt), (kz, zn, zs, zt)] ((((w5.alloc (.cells #[.int .i64 kx, .int .i64 xn, .int .i64 xs, .string xt] 24)).alloc (.cells #[.int .i64 ky, .int .i64 yn, .int .i64 ys, .string yt] 24)).alloc (.cells #[.int .i64 kz, .int .i64 zn, .int .i64 zs, .string zt] 24)).alloc (.cells #[.int .i64 ky, .int .i64 yn, .int .i64 ys, .string yt, .int .i64 kz, .int .i64 zn, .int .i64 zs, .string zt] 24))) :=
    ⟨((((unhide hL).alloc (unhide hL).size _).alloc (Nat.le_trans (unhide hL).size (by simp)) _).alloc (Nat.le_trans (unhide hL).size (by simp; omega)) _).alloc (Nat.le_trans (unhide hL).size (by simp; omega)) _, hX, by simp, hV.2⟩
  clear hX hV hL
  have AT := hide (fun k (hk : k < 2) => pick2 (P := VOk) (y := (ky, yn, ys, yt)) (z := (kz, zn, zs, zt)) (unhide OY) (unhide OZ) k hk)
  go_loopw [17] (fun i wr => ∃ k : Nat, k ≤ 2 ∧ i = .int .i64 k ∧ Hid (SL w w5.heap.size (w5.heap.size + 1 + 1 + 1) (kx, xn, xs, xt) [(ky, yn, ys, yt), (kz, zn, zs, zt)] wr)) (fun i _ => 2 - (intOf i).toNat)
  case atStart => exact ⟨0, by decide, rfl, hS⟩
  case round =>
    clear hS
    obtain ⟨k, hk, rfl, HS⟩ := hrel
    by_cases hlt : k < 2
    · have hlt2 : (k : Int) < 2 := by omega
      obtain ⟨⟨k', n', s', t'⟩, hat, oky⟩ := unhide AT k hlt
      have KX := hide (fun W => key_any kx xn xs xt W (unhide OX))
      have KY := hide (fun W => key_any k' n' s' t' W oky)
      have RO := hide (fun W => rorder_any kx xn xs xt k' n' s' t' W (ok_dec_in (unhide OX)) (ok_dec_in oky))
      have hless := keyB_less (unhide OX) oky
      have hsame := keyB_same (unhide OX) oky
      have hfront := key_front (unhide OX) oky
      have hS0 := hide (so_of (unhide HS) hat)
      clear HS hat oky
      generalize keyB kx xn xs xt = kb at *
      generalize keyB k' n' s' t' = kc at *
      generalize rordV kx xn xs xt k' n' s' t' = o at *
      have HF := hide hfront
      have HLE := hide hless
      have HSA := hide hsame
      clear hless hsame hfront
      go_wp2_with fail
      rename_i hrest
      refine wp_region_noPanic ?_
      refine wp_region_held_drew (S := SO w w5.heap.size (w5.heap.size + 1 + 1 + 1) k (kx, xn, xs, xt) (k', n', s', t') [(ky, yn, ys, yt), (kz, zn, zs, zt)]) (by kernel_rfl) (so_call (unhide hS0) (Below.refl _ _).drew) (fun hHeld => ?_)
      revert hHeld
      generalize World.drew _ = Wd
      intro hHeld
      refine wpAnyH_take (i := 0) (oi := ?oi1001) (v := ?v1001) ?hi1001 (by kernel_rfl) (by kernel_rfl) (by kernel_rfl) (fun _ _ _ h => h) (Or.inl ⟨?hw1001, ?hy1001⟩) (by assumption) ?rest1001
      case hi1001 => (simp only [List.getElem?_toArray, List.getElem?_cons_zero]; rfl)
      case hw1001 => rfl
      case hy1001 => first | (intro wx hSw; obtain ⟨⟨-, ⟨-, a0, a1, a2, a3, -⟩, -⟩, ⟨b0, b1, b2, b3⟩⟩ := hSw; go_simp; done) | (intro wx hSw; obtain ⟨⟨-, ⟨-, a0, a1, a2, a3, -⟩, -⟩, ⟨b0, b1, b2, b3⟩⟩ := hSw; go_simp; with_reducible rfl)
      simp only [Act.put, List.setIfInBounds_toArray, List.set_cons_zero, List.set_cons_succ]
      refine wpAnyH_take (i := 2) (oi := ?oi1002) (v := ?v1002) ?hi1002 (by kernel_rfl) (by kernel_rfl) (by kernel_rfl) (fun _ _ _ h => h) (Or.inl ⟨?hw1002, ?hy1002⟩) (by assumption) ?rest1002
      case hi1002 => (simp only [List.getElem?_toArray, List.getElem?_cons_zero, List.getElem?_cons_succ]; rfl)
      case hw1002 => rfl
      case hy1002 => first | (intro wx hSw; obtain ⟨⟨-, ⟨-, a0, a1, a2, a3, -⟩, -⟩, ⟨b0, b1, b2, b3⟩⟩ := hSw; go_simp; done) | (intro wx hSw; obtain ⟨⟨-, ⟨-, a0, a1, a2, a3, -⟩, -⟩, ⟨b0, b1, b2, b3⟩⟩ := hSw; go_simp; with_reducible rfl)
      simp only [Act.put, List.setIfInBounds_toArray, List.set_cons_zero, List.set_cons_succ]
      refine wpAnyH_take (i := 3) (oi := ?oi1003) (v := ?v1003) ?hi1003 (by kernel_rfl) (by kernel_rfl) (by kernel_rfl) (fun _ _ _ h => h) (Or.inl ⟨?hw1003, ?hy1003⟩) (by assumption) ?rest1003
      case hi1003 => (simp only [List.getElem?_toArray, List.getElem?_cons_zero, List.getElem?_cons_succ]; rfl)
      case hw1003 => rfl
      case hy1003 => first | (intro wx hSw; obtain ⟨⟨-, ⟨-, a0, a1, a2, a3, -⟩, -⟩, ⟨b0, b1, b2, b3⟩⟩ := hSw; go_simp; done) | (intro wx hSw; obtain ⟨⟨-, ⟨-, a0, a1, a2, a3, -⟩, -⟩, ⟨b0, b1, b2, b3⟩⟩ := hSw; go_simp; with_reducible rfl)
      simp only [Act.put, List.setIfInBounds_toArray, List.set_cons_zero, List.set_cons_succ]
      refine wpAnyH_take (i := 4) (oi := ?oi1004) (v := ?v1004) ?hi1004 (by kernel_rfl) (by kernel_rfl) (by kernel_rfl) (fun _ _ _ h => h) (Or.inl ⟨?hw1004, ?hy1004⟩) (by assumption) ?rest1004
      case hi1004 => (simp only [List.getElem?_toArray, List.getElem?_cons_zero, List.getElem?_cons_succ]; rfl)
      case hw1004 => rfl
      case hy1004 => first | (intro wx hSw; obtain ⟨⟨-, ⟨-, a0, a1, a2, a3, -⟩, -⟩, ⟨b0, b1, b2, b3⟩⟩ := hSw; go_simp; done) | (intro wx hSw; obtain ⟨⟨-, ⟨-, a0, a1, a2, a3, -⟩, -⟩, ⟨b0, b1, b2, b3⟩⟩ := hSw; go_simp; with_reducible rfl)
      simp only [Act.put, List.setIfInBounds_toArray, List.set_cons_zero, List.set_cons_succ]
      refine wpAnyH_take (i := 5) (oi := ?oi1005) (v := ?v1005) ?hi1005 (by kernel_rfl) (by kernel_rfl) (by kernel_rfl) (fun _ _ _ h => h) (Or.inl ⟨?hw1005, ?hy1005⟩) (by assumption) ?rest1005
      case hi1005 => (simp only [List.getElem?_toArray, List.getElem?_cons_zero, List.getElem?_cons_succ]; rfl)
      case hw1005 => rfl
      case hy1005 => first | (intro wx hSw; obtain ⟨⟨-, ⟨-, a0, a1, a2, a3, -⟩, -⟩, ⟨b0, b1, b2, b3⟩⟩ := hSw; go_simp; done) | (intro wx hSw; obtain ⟨⟨-, ⟨-, a0, a1, a2, a3, -⟩, -⟩, ⟨b0, b1, b2, b3⟩⟩ := hSw; go_simp; with_reducible rfl)
      simp only [Act.put, List.setIfInBounds_toArray, List.set_cons_zero, List.set_cons_succ]
      refine wpAnyH_ready (rs := [1]) (by kernel_rfl) (by simp) ?_
      refine AllReadyH.cons rfl (fun K1006 hK1006 => ?_) AllReadyH.nil
      go_simp
      go_wp2_with (go_at_call 14; refine (unhide KX _).mono ?_; rintro e wc1006 ⟨rfl, hb1006⟩)
      refine hK1006.out _ _ ?hs1006 (fun hHeld1006 => ?_)
      case hs1006 => exact so_call hHeld hb1006
      clear hHeld
      have hHeld := hHeld1006; clear hHeld1006 hK1006 K1006 hb1006
      refine wpAnyH_ready (rs := [6]) (by kernel_rfl) (by simp) ?_
      refine AllReadyH.cons rfl (fun K1007 hK1007 => ?_) AllReadyH.nil
      go_simp
      go_wp2_with (go_at_call 14; refine (unhide KY _).mono ?_; rintro e wc1007 ⟨rfl, hb1007⟩)
      refine hK1007.out _ _ ?hs1007 (fun hHeld1007 => ?_)
      case hs1007 => exact so_call hHeld hb1007
      clear hHeld
      have hHeld := hHeld1007; clear hHeld1007 hK1007 K1007 hb1007
      refine wpAnyH_take (i := 7) (oi := ?oi1008) (v := ?v1008) ?hi1008 (by kernel_rfl) (by kernel_rfl) (by kernel_rfl) (fun _ _ _ h => h) (Or.inl ⟨?hw1008, ?hy1008⟩) (by assumption) ?rest1008
      case hi1008 => (simp only [List.getElem?_toArray, List.getElem?_cons_zero, List.getElem?_cons_succ]; rfl)
      case hw1008 => rfl
      case hy1008 => first | (intro wx hSw; obtain ⟨⟨-, ⟨-, a0, a1, a2, a3, -⟩, -⟩, ⟨b0, b1, b2, b3⟩⟩ := hSw; go_simp; done) | (intro wx hSw; obtain ⟨⟨-, ⟨-, a0, a1, a2, a3, -⟩, -⟩, ⟨b0, b1, b2, b3⟩⟩ := hSw; go_simp; with_reducible rfl)
      simp only [Act.put, List.setIfInBounds_toArray, List.set_cons_zero, List.set_cons_succ]
      refine wpAnyH_take (i := 8) (oi := ?oi1009) (v := ?v1009) ?hi1009 (by kernel_rfl) (by kernel_rfl) (by kernel_rfl) (fun _ _ _ h => h) (Or.inl ⟨?hw1009, ?hy1009⟩) (by assumption) ?rest1009
      case hi1009 => (simp only [List.getElem?_toArray, List.getElem?_cons_zero, List.getElem?_cons_succ]; rfl)
      case hw1009 => rfl
      case hy1009 => first | (intro wx hSw; obtain ⟨⟨-, ⟨-, a0, a1, a2, a3, -⟩, -⟩, ⟨b0, b1, b2, b3⟩⟩ := hSw; go_simp; done) | (intro wx hSw; obtain ⟨⟨-, ⟨-, a0, a1, a2, a3, -⟩, -⟩, ⟨b0, b1, b2, b3⟩⟩ := hSw; go_simp; with_reducible rfl)
      simp only [Act.put, List.setIfInBounds_toArray, List.set_cons_zero, List.set_cons_succ]
      refine wpAnyH_done (by kernel_rfl) ?_ _
      refine NoPanic.normal ?_
      refine hrest _ _ ?_
      clear hrest hS0
      have hS1 := hide hHeld
      clear hHeld
      go_wp2_with fail
      rename_i hrest
      refine wp_region_noPanic ?_
      refine wp_region_held_drew (S := SO w w5.heap.size (w5.heap.size + 1 + 1 + 1) k (kx, xn, xs, xt) (k', n', s', t') [(ky, yn, ys, yt), (kz, zn, zs, zt)]) (by kernel_rfl) (so_call (unhide hS1) (Below.refl _ _).drew) (fun hHeld => ?_)
      revert hHeld
      generalize World.drew _ = Wd
      intro hHeld
      refine wpAnyH_take (i := 0) (oi := ?oi1010) (v := ?v1010) ?hi1010 (by kernel_rfl) (by kernel_rfl) (by kernel_rfl) (fun _ _ _ h => h) (Or.inl ⟨?hw1010, ?hy1010⟩) (by assumption) ?rest1010
      case hi1010 => (simp only [List.getElem?_toArray, List.getElem?_cons_zero]; rfl)
      case hw1010 => rfl
      case hy1010 => first | (intro wx hSw; obtain ⟨⟨-, ⟨-, a0, a1, a2, a3, -⟩, -⟩, ⟨b0, b1, b2, b3⟩⟩ := hSw; go_simp; done) | (intro wx hSw; obtain ⟨⟨-, ⟨-, a0, a1, a2, a3, -⟩, -⟩, ⟨b0, b1, b2, b3⟩⟩ := hSw; go_simp; with_reducible rfl)
      simp only [Act.put, List.setIfInBounds_toArray, List.set_cons_zero, List.set_cons_succ]
      refine wpAnyH_take (i := 1) (oi := ?oi1011) (v := ?v1011) ?hi1011 (by kernel_rfl) (by kernel_rfl) (by kernel_rfl) (fun _ _ _ h => h) (Or.inl ⟨?hw1011, ?hy1011⟩) (by assumption) ?rest1011
      case hi1011 => (simp only [List.getElem?_toArray, List.getElem?_cons_zero, List.getElem?_cons_succ]; rfl)
      case hw1011 => rfl
      case hy1011 => first | (intro wx hSw; obtain ⟨⟨-, ⟨-, a0, a1, a2, a3, -⟩, -⟩, ⟨b0, b1, b2, b3⟩⟩ := hSw; go_simp; done) | (intro wx hSw; obtain ⟨⟨-, ⟨-, a0, a1, a2, a3, -⟩, -⟩, ⟨b0, b1, b2, b3⟩⟩ := hSw; go_simp; with_reducible rfl)
      simp only [Act.put, List.setIfInBounds_toArray, List.set_cons_zero, List.set_cons_succ]
      refine wpAnyH_take (i := 2) (oi := ?oi1012) (v := ?v1012) ?hi1012 (by kernel_rfl) (by kernel_rfl) (by kernel_rfl) (fun _ _ _ h => h) (Or.inl ⟨?hw1012, ?hy1012⟩) (by assumption) ?rest1012
      case hi1012 => (simp only [List.getElem?_toArray, List.getElem?_cons_zero, List.getElem?_cons_succ]; rfl)
      case hw1012 => rfl
      case hy1012 => first | (intro wx hSw; obtain ⟨⟨-, ⟨-, a0, a1, a2, a3, -⟩, -⟩, ⟨b0, b1, b2, b3⟩⟩ := hSw; go_simp; done) | (intro wx hSw; obtain ⟨⟨-, ⟨-, a0, a1, a2, a3, -⟩, -⟩, ⟨b0, b1, b2, b3⟩⟩ := hSw; go_simp; with_reducible rfl)
      simp only [Act.put, List.setIfInBounds_toArray, List.set_cons_zero, List.set_cons_succ]
      refine wpAnyH_take (i := 3) (oi := ?oi1013) (v := ?v1013) ?hi1013 (by kernel_rfl) (by kernel_rfl) (by kernel_rfl) (fun _ _ _ h => h) (Or.inl ⟨?hw1013, ?hy1013⟩) (by assumption) ?rest1013
      case hi1013 => (simp only [List.getElem?_toArray, List.getElem?_cons_zero, List.getElem?_cons_succ]; rfl)
      case hw1013 => rfl
      case hy1013 => first | (intro wx hSw; obtain ⟨⟨-, ⟨-, a0, a1, a2, a3, -⟩, -⟩, ⟨b0, b1, b2, b3⟩⟩ := hSw; go_simp; done) | (intro wx hSw; obtain ⟨⟨-, ⟨-, a0, a1, a2, a3, -⟩, -⟩, ⟨b0, b1, b2, b3⟩⟩ := hSw; go_simp; with_reducible rfl)
      simp only [Act.put, List.setIfInBounds_toArray, List.set_cons_zero, List.set_cons_succ]
      refine wpAnyH_take (i := 4) (oi := ?oi1014) (v := ?v1014) ?hi1014 (by kernel_rfl) (by kernel_rfl) (by kernel_rfl) (fun _ _ _ h => h) (Or.inl ⟨?hw1014, ?hy1014⟩) (by assumption) ?rest1014
      case hi1014 => (simp only [List.getElem?_toArray, List.getElem?_cons_zero, List.getElem?_cons_succ]; rfl)
      case hw1014 => rfl
      case hy1014 => first | (intro wx hSw; obtain ⟨⟨-, ⟨-, a0, a1, a2, a3, -⟩, -⟩, ⟨b0, b1, b2, b3⟩⟩ := hSw; go_simp; done) | (intro wx hSw; obtain ⟨⟨-, ⟨-, a0, a1, a2, a3, -⟩, -⟩, ⟨b0, b1, b2, b3⟩⟩ := hSw; go_simp; with_reducible rfl)
      simp only [Act.put, List.setIfInBounds_toArray, List.set_cons_zero, List.set_cons_succ]
      refine wpAnyH_ready (rs := [5]) (by kernel_rfl) (by simp) ?_
      refine AllReadyH.cons rfl (fun K1015 hK1015 => ?_) AllReadyH.nil
      go_simp
      go_wp2_with (go_at_call 18; refine (unhide RO _).mono ?_; rintro e wc1015 ⟨rfl, hb1015⟩)
      refine hK1015.out _ _ ?hs1015 (fun hHeld1015 => ?_)
      case hs1015 => exact so_call hHeld hb1015
      clear hHeld
      have hHeld := hHeld1015; clear hHeld1015 hK1015 K1015 hb1015
      refine wpAnyH_take (i := 6) (oi := ?oi1016) (v := ?v1016) ?hi1016 (by kernel_rfl) (by kernel_rfl) (by kernel_rfl) (fun _ _ _ h => h) (Or.inl ⟨?hw1016, ?hy1016⟩) (by assumption) ?rest1016
      case hi1016 => (simp only [List.getElem?_toArray, List.getElem?_cons_zero, List.getElem?_cons_succ]; rfl)
      case hw1016 => rfl
      case hy1016 => first | (intro wx hSw; obtain ⟨⟨-, ⟨-, a0, a1, a2, a3, -⟩, -⟩, ⟨b0, b1, b2, b3⟩⟩ := hSw; go_simp; done) | (intro wx hSw; obtain ⟨⟨-, ⟨-, a0, a1, a2, a3, -⟩, -⟩, ⟨b0, b1, b2, b3⟩⟩ := hSw; go_simp; with_reducible rfl)
      simp only [Act.put, List.setIfInBounds_toArray, List.set_cons_zero, List.set_cons_succ]
      refine wpAnyH_done (by kernel_rfl) ?_ _
      refine NoPanic.normal ?_
      refine hrest _ _ ?_
      clear hrest hS1
      have HS := hide hHeld.1
      clear hHeld
      have hle := unhide HLE
      have hsa := unhide HSA
      clear HLE HSA KX KY RO
      rcases Int.lt_trichotomy o 0 with ho | ho | ho
      · rw [decide_eq_true ho] at hle
        rw [decide_eq_false (show ¬ o = 0 by omega)] at hsa
        have hne : (o == 0) = false := beq_eq_false_iff_ne.2 (by omega)
        have hne2 : (o != 0) = true := bne_iff_ne.2 (by omega)
        by_cases hsz : kb.size ≤ kc.size
        · have hfr := unhide HF hsz (by omega)
          have hszi : (kb.size : Int) ≤ kc.size := by omega
          go_wp2_with fail
          go_roundw
          case rel => exact ⟨k + 1, by omega, by go_num, HS⟩
          case measure => simp [intOf]; omega
        · have hszi : ¬ (kb.size : Int) ≤ kc.size := by omega
          go_wp2_with fail
          go_roundw
          case rel => exact ⟨k + 1, by omega, by go_num, HS⟩
          case measure => simp [intOf]; omega
      · subst ho
        rw [decide_eq_false (by decide)] at hle
        rw [decide_eq_true rfl] at hsa
        go_wp2_with fail
        go_roundw
        case rel => exact ⟨k + 1, by omega, by go_num, HS⟩
        case measure => simp [intOf]; omega
      · have hno : ¬ o < 0 := by omega
        rw [decide_eq_false hno] at hle
        rw [decide_eq_false (show ¬ o = 0 by omega)] at hsa
        have hne : (o == 0) = false := beq_eq_false_iff_ne.2 (by omega)
        have hne2 : (o != 0) = true := bne_iff_ne.2 (by omega)
        by_cases hsz : kb.size ≤ kc.size
        · have hfr := unhide HF hsz (by omega)
          have hszi : (kb.size : Int) ≤ kc.size := by omega
          go_wp2_with fail
          go_roundw
          case rel => exact ⟨k + 1, by omega, by go_num, HS⟩
          case measure => simp [intOf]; omega
        · have hszi : ¬ (kb.size : Int) ≤ kc.size := by omega
          go_wp2_with fail
          go_roundw
          case rel => exact ⟨k + 1, by omega, by go_num, HS⟩
          case measure => simp [intOf]; omega
    · go_wp2_with fail
      go_ret
      exact ⟨rfl, (unhide HS).1⟩
set_option maxHeartbeats 1000000 in
theorem order_long (a n b m : Int) (s t : ByteArray) (w : World) (h : (100 : Int) < s.size ∨ (100 : Int) < t.size) :
    Calls Try.prog 4 #[.int .i64 a, .int .i64 n, .int .i64 b, .int .i64 m, .string s, .string t] w fun e w' => e = .returned (.bool true) ∧ Below w.heap.size w w' := by
  by_cases h1 : (100 : Int) < s.size
  · clear h
    go_enter Try.func4, Try.ntmps4
    go_wp2_with fail
    refine (known_any _).mono ?_
    rintro e w1 ⟨rfl, hb1⟩
    go_wp2_with fail
    go_ret
    exact ⟨rfl, hb1⟩
  · have h2 : (100 : Int) < t.size := by rcases h with h | h; exact absurd h h1; exact h
    clear h
    go_enter Try.func4, Try.ntmps4
    go_wp2_with fail
    refine (known_any _).mono ?_
    rintro e w1 ⟨rfl, hb1⟩
    go_wp2_with fail
    go_ret
    exact ⟨rfl, hb1⟩
theorem keyOrder_walk (a n b m : Int) (s t : ByteArray) (wa : (Lit.int .i64 a).wf = true) (wn : (Lit.int .i64 n).wf = true) (wb : (Lit.int .i64 b).wf = true) (wm : (Lit.int .i64 m).wf = true) (hs : s.size ≤ maxLen) (ht : t.size ≤ maxLen) (w : World) :
    Calls Try.prog 4 #[.int .i64 a, .int .i64 n, .int .i64 b, .int .i64 m, .string s, .string t] w fun e w' => e = .returned (.bool true) ∧ Below w.heap.size w w' := by
  unfold maxLen at hs ht
  have ht6 : -6 < a.tmod 6 ∧ a.tmod 6 < 6 := ⟨by have := Int.lt_tmod_of_pos a (show (0 : Int) < 6 by decide); omega, Int.tmod_lt_of_pos a (by decide)⟩
  by_cases h : s.size ≤ 100 ∧ t.size ≤ 100
  · exact order_walk a n b m (b % 40) s t w h.1 h.2 (by omega) (fun W => make_any a n s W (is64_lit wa) (is64_lit wn) hs) (fun W => make_any b m t W (is64_lit wb) (is64_lit wm) ht)
      (fun W => within2_any b 40 W (is64_lit wb) (by decide)) (fun W => make_any _ m t W (by unfold Is64; omega) (is64_lit wm) ht)
  · exact order_long a n b m s t w (by omega)
end Go.Proofs.Ytbpjejjbgdikdaa
