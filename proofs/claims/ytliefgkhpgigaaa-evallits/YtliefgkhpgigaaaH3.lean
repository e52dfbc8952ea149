/-
  What the statements' own function Make returns, of kind 3: a decimal, normed.
-/
import Derived.Test.YtliefgkhpgigaaaH2
import Derived.Test.YtliefgkhpgigaaaD0
import Derived.Deep.RegionHeld3
import Derived.Deep.DrawnRows
import Derived.Laws.IdiomStrings
namespace Go.Proofs.Ytliefgkhpgigaaa
open Go.RowKit
set_option linter.unusedSimpArgs false
set_option linter.unusedVariables false

theorem ok_dec {n s : Int} (hn : n.natAbs < 1000000000000000) (h0 : 0 ≤ s) (h6 : s ≤ 6) : Ok 3 (normN n s) (normC n s) ⟨#[]⟩ := by
  obtain ⟨h1, h2, h3, h4⟩ := norm_normed n s h0
  refine ⟨by decide, ?_, by unfold Is64; omega, by omega, by decide, fun _ => rfl⟩
  unfold rightB; rw [if_neg (by decide), if_neg (by decide), if_neg (by decide), if_pos rfl, rd_normed h1 h2 (by omega) (by omega)]; decide +kernel

/-- what holds of a stronger condition on worlds holds of a weaker one -/
theorem wpAnyH_weaken {P : Program} {md : Region.Mode} {ops : Array Oper} {Q : Exit → Act → World → Prop} {S T : World → Prop} (hST : ∀ w, S w → T w) :
    ∀ (fuel : Nat) (listed : Array Bool) (a : Act) (w : World), wpAnyH P md ops Q S fuel listed a w → wpAnyH P md ops Q T fuel listed a w
  | 0, _, _, _, h => h
  | fuel + 1, _, _, _, h => ⟨h.1, fun i hi => wpOp_mono (fun a' w' h' => ⟨hST _ h'.1, wpAnyH_weaken hST fuel _ a' w' h'.2⟩) (h.2 i hi)⟩

abbrev row6 (n a b : Int) : Array Value := #[.int .i64 (n.tmod 1000000000000000), .int .i64 (a - 1000), .int .i64 999999999999999, .int .i64 (-999999999999999), .int .i64 1, .int .i64 (b * 1000 - 20000)]
theorem row6_at (n a b : Int) (i : Nat) (hi : i < 6) (ha0 : 0 ≤ a) (ha1 : a < 2000) (hb0 : 0 ≤ b) (hb1 : b < 50) : ∃ x : Int, (row6 n a b)[i]? = some (.int .i64 x) ∧ x.natAbs < 1000000000000000 := by
  match i, hi with
  | 0, _ => exact ⟨_, rfl, by have := Int.natAbs_tmod n 1000000000000000; rw [this]; exact Nat.mod_lt _ (by decide)⟩
  | 1, _ => exact ⟨_, rfl, by omega⟩
  | 2, _ => exact ⟨_, rfl, by decide⟩
  | 3, _ => exact ⟨_, rfl, by decide⟩
  | 4, _ => exact ⟨_, rfl, by decide⟩
  | 5, _ => exact ⟨_, rfl, by omega⟩

theorem cellNew (w : World) (n a b x : Int) (i : Nat) (o r : Obj) (h : (row6 n a b)[i]? = some (.int .i64 x)) :
    ((((w.alloc r).alloc o).alloc (.cells (row6 n a b) 3)).drew).cell? ⟨w.heap.size + 1 + 1, i, none⟩ = some (.int .i64 x) := by
  have h1 := World.cell?_alloc_mark ((w.alloc r).alloc o) (row6 n a b) 3 (0, 0) i
  rw [World.size_alloc, World.size_alloc] at h1
  rw [World.cell?_drew]; exact h1.trans h

set_option maxHeartbeats 4000000 in
set_option maxRecDepth 100000 in
theorem make3 (kind n : Int) (s : ByteArray) (w : World) (hk : Is64 kind) (hn : Is64 n) (hj : kind % 6 = 3) :
    Calls Try.prog 43 #[.int .i64 kind, .int .i64 n, .string s] w fun e w' => Made e 3 ∧ Below w.heap.size w w' := by
  have C := hide (fun W => within1_at hk (by decide) hj W)
  obtain ⟨a, ha⟩ : ∃ a, a = n % 2000 := ⟨_, rfl⟩
  have DA := hide (fun W => within1_at hn (by decide) ha.symm W)
  obtain ⟨b, hb⟩ : ∃ b, b = n % 50 := ⟨_, rfl⟩
  have DB := hide (fun W => within1_at hn (by decide) hb.symm W)
  have hq := tdiv_bd hk 6 (by decide)
  obtain ⟨i, hi⟩ : ∃ i : Nat, (kind.tdiv 6) % 6 = (i : Int) := ⟨((kind.tdiv 6) % 6).toNat, by omega⟩
  have E := hide (fun W => within1_at hq (by decide) hi W)
  have hq2 := tdiv_bd hk 36 (by decide)
  obtain ⟨c, hc⟩ : ∃ c, c = (kind.tdiv 36) % 7 := ⟨_, rfl⟩
  have F := hide (fun W => within1_at hq2 (by decide) hc.symm W)
  have hw : wrap64 (kind.tdiv 6) = kind.tdiv 6 := wrap64_is _ hq
  have hw2 : wrap64 (kind.tdiv 36) = kind.tdiv 36 := wrap64_is _ hq2
  have ha0 : 0 ≤ a := by omega
  have ha1 : a < 2000 := by omega
  have hb0 : 0 ≤ b := by omega
  have hb1 : b < 50 := by omega
  have hc0 : 0 ≤ c := by omega
  have hc1 : c ≤ 6 := by omega
  have hi6 : i < 6 := by omega
  have hi6i : (i : Int) < 6 := by omega
  obtain ⟨x, hx, hxb⟩ := row6_at n a b i hi6 ha0 ha1 hb0 hb1
  have HX := hide hx
  have HXB := hide hxb
  have e1 : IntKind.i64.wrap (a - 1000) = a - 1000 := IntWalk.i64_in _ (by omega)
  have e2 : IntKind.i64.wrap (b * 1000) = b * 1000 := IntWalk.i64_in _ (by omega)
  have e3 : IntKind.i64.wrap (b * 1000 - 20000) = b * 1000 - 20000 := IntWalk.i64_in _ (by omega)
  have e4 : IntKind.i64.wrap (kind.tdiv 6) = kind.tdiv 6 := IntWalk.i64_in _ (by unfold Is64 at hq; omega)
  have e5 : IntKind.i64.wrap (kind.tdiv 36) = kind.tdiv 36 := IntWalk.i64_in _ (by unfold Is64 at hq2; omega)
  have hxi : Is64 x := by unfold Is64; omega
  have hci : Is64 c := by unfold Is64; omega
  have N := hide (fun W => rnorm_any 3 x c ⟨#[]⟩ W hxi hci)
  have OK := hide (ok_dec hxb hc0 hc1)
  clear hj hi ha hb hc hq hq2 hn hx hxb hxi hci hw hw2
  go_enter Try.func43, Try.ntmps43
  go_wp2_with (go_at_call_of 63 (Value.int IntKind.i64 kind); refine (unhide C _).mono ?_; rintro e w' ⟨rfl, rfl⟩)
  refine wp_region_noPanic ?_
  refine wp_region_held_drew (S := fun _ => True) (by kernel_rfl) trivial (fun hHeld => ?_)
  refine wpAnyH_take (i := 0) (oi := ?oi2001) (v := ?v2001) ?hi2001 (by kernel_rfl) (by kernel_rfl) (by kernel_rfl) (fun _ _ _ h => h) (Or.inl ⟨?hw2001, ?hy2001⟩) (by assumption) ?rest2001
  case hi2001 => (simp only [List.getElem?_toArray, List.getElem?_cons_zero]; rfl)
  case hw2001 => rfl
  case hy2001 => first | (intro wx hSw; go_simp; done) | (intro wx hSw; go_simp; with_reducible rfl)
  simp only [Act.put, List.setIfInBounds_toArray, List.set_cons_zero, List.set_cons_succ]
  refine wpAnyH_take (i := 1) (oi := ?oi2002) (v := ?v2002) ?hi2002 (by kernel_rfl) (by kernel_rfl) (by kernel_rfl) (fun _ _ _ h => h) (Or.inl ⟨?hw2002, ?hy2002⟩) (by assumption) ?rest2002
  case hi2002 => (simp only [List.getElem?_toArray, List.getElem?_cons_zero, List.getElem?_cons_succ]; rfl)
  case hw2002 => rfl
  case hy2002 => first | (intro wx hSw; go_simp; done) | (intro wx hSw; go_simp; with_reducible rfl)
  simp only [Act.put, List.setIfInBounds_toArray, List.set_cons_zero, List.set_cons_succ]
  refine wpAnyH_take (i := 2) (oi := ?oi2003) (v := ?v2003) ?hi2003 (by kernel_rfl) (by kernel_rfl) (by kernel_rfl) (fun _ _ _ h => h) (Or.inl ⟨?hw2003, ?hy2003⟩) (by assumption) ?rest2003
  case hi2003 => (simp only [List.getElem?_toArray, List.getElem?_cons_zero, List.getElem?_cons_succ]; rfl)
  case hw2003 => rfl
  case hy2003 => first | (intro wx hSw; go_simp; done) | (intro wx hSw; go_simp; with_reducible rfl)
  simp only [Act.put, List.setIfInBounds_toArray, List.set_cons_zero, List.set_cons_succ]
  refine wpAnyH_take (i := 5) (oi := ?oi2004) (v := ?v2004) ?hi2004 (by kernel_rfl) (by kernel_rfl) (by kernel_rfl) (fun _ _ _ h => h) (Or.inl ⟨?hw2004, ?hy2004⟩) (by assumption) ?rest2004
  case hi2004 => (simp only [List.getElem?_toArray, List.getElem?_cons_zero, List.getElem?_cons_succ]; rfl)
  case hw2004 => rfl
  case hy2004 => first | (intro wx hSw; go_simp; done) | (intro wx hSw; go_simp; with_reducible rfl)
  simp only [Act.put, List.setIfInBounds_toArray, List.set_cons_zero, List.set_cons_succ]
  refine wpAnyH_take (i := 10) (oi := ?oi2005) (v := ?v2005) ?hi2005 (by kernel_rfl) (by kernel_rfl) (by kernel_rfl) (fun _ _ _ h => h) (Or.inl ⟨?hw2005, ?hy2005⟩) (by assumption) ?rest2005
  case hi2005 => (simp only [List.getElem?_toArray, List.getElem?_cons_zero, List.getElem?_cons_succ]; rfl)
  case hw2005 => rfl
  case hy2005 => first | (intro wx hSw; go_simp; done) | (intro wx hSw; go_simp; with_reducible rfl)
  simp only [Act.put, List.setIfInBounds_toArray, List.set_cons_zero, List.set_cons_succ]
  refine wpAnyH_take (i := 11) (oi := ?oi2006) (v := ?v2006) ?hi2006 (by kernel_rfl) (by kernel_rfl) (by kernel_rfl) (fun _ _ _ h => h) (Or.inl ⟨?hw2006, ?hy2006⟩) (by assumption) ?rest2006
  case hi2006 => (simp only [List.getElem?_toArray, List.getElem?_cons_zero, List.getElem?_cons_succ]; rfl)
  case hw2006 => rfl
  case hy2006 => first | (intro wx hSw; go_simp; done) | (intro wx hSw; go_simp; with_reducible rfl)
  simp only [Act.put, List.setIfInBounds_toArray, List.set_cons_zero, List.set_cons_succ]
  refine wpAnyH_take (i := 15) (oi := ?oi2007) (v := ?v2007) ?hi2007 (by kernel_rfl) (by kernel_rfl) (by kernel_rfl) (fun _ _ _ h => h) (Or.inl ⟨?hw2007, ?hy2007⟩) (by assumption) ?rest2007
  case hi2007 => (simp only [List.getElem?_toArray, List.getElem?_cons_zero, List.getElem?_cons_succ]; rfl)
  case hw2007 => rfl
  case hy2007 => first | (intro wx hSw; go_simp; done) | (intro wx hSw; go_simp; with_reducible rfl)
  simp only [Act.put, List.setIfInBounds_toArray, List.set_cons_zero, List.set_cons_succ]
  refine wpAnyH_take (i := 16) (oi := ?oi2008) (v := ?v2008) ?hi2008 (by kernel_rfl) (by kernel_rfl) (by kernel_rfl) (fun _ _ _ h => h) (Or.inl ⟨?hw2008, ?hy2008⟩) (by assumption) ?rest2008
  case hi2008 => (simp only [List.getElem?_toArray, List.getElem?_cons_zero, List.getElem?_cons_succ]; rfl)
  case hw2008 => rfl
  case hy2008 => first | (intro wx hSw; go_simp; done) | (intro wx hSw; go_simp; with_reducible rfl)
  simp only [Act.put, List.setIfInBounds_toArray, List.set_cons_zero, List.set_cons_succ]
  refine wpAnyH_ready (rs := [3]) (by kernel_rfl) (by simp) ?_
  refine AllReadyH.cons rfl (fun K2009 hK2009 => ?_) AllReadyH.nil
  go_simp
  go_wp2_with (go_at_call 63; refine (unhide DA _).mono ?_; rintro e wc2009 ⟨rfl, rfl⟩)
  refine hK2009.out _ _ ?hs2009 (fun hHeld2009 => ?_)
  case hs2009 => exact by assumption
  clear hHeld
  have hHeld := hHeld2009; clear hHeld2009 hK2009 K2009
  refine wpAnyH_take (i := 4) (oi := ?oi2010) (v := ?v2010) ?hi2010 (by kernel_rfl) (by kernel_rfl) (by kernel_rfl) (fun _ _ _ h => h) (Or.inl ⟨?hw2010, ?hy2010⟩) (by assumption) ?rest2010
  case hi2010 => (simp only [List.getElem?_toArray, List.getElem?_cons_zero, List.getElem?_cons_succ]; rfl)
  case hw2010 => rfl
  case hy2010 => first | (intro wx hSw; go_simp; done) | (intro wx hSw; go_simp; with_reducible rfl)
  simp only [Act.put, List.setIfInBounds_toArray, List.set_cons_zero, List.set_cons_succ]
  refine wpAnyH_ready (rs := [6]) (by kernel_rfl) (by simp) ?_
  refine AllReadyH.cons rfl (fun K2011 hK2011 => ?_) AllReadyH.nil
  go_simp
  go_wp2_with (go_at_call 63; refine (unhide DB _).mono ?_; rintro e wc2011 ⟨rfl, rfl⟩)
  refine hK2011.out _ _ ?hs2011 (fun hHeld2011 => ?_)
  case hs2011 => exact by assumption
  clear hHeld
  have hHeld := hHeld2011; clear hHeld2011 hK2011 K2011
  refine wpAnyH_take (i := 7) (oi := ?oi2012) (v := ?v2012) ?hi2012 (by kernel_rfl) (by kernel_rfl) (by kernel_rfl) (fun _ _ _ h => h) (Or.inl ⟨?hw2012, ?hy2012⟩) (by assumption) ?rest2012
  case hi2012 => (simp only [List.getElem?_toArray, List.getElem?_cons_zero, List.getElem?_cons_succ]; rfl)
  case hw2012 => rfl
  case hy2012 => first | (intro wx hSw; go_simp; done) | (intro wx hSw; go_simp; with_reducible rfl)
  simp only [Act.put, List.setIfInBounds_toArray, List.set_cons_zero, List.set_cons_succ]
  refine wpAnyH_take (i := 8) (oi := ?oi2013) (v := ?v2013) ?hi2013 (by kernel_rfl) (by kernel_rfl) (by kernel_rfl) (fun _ _ _ h => h) (Or.inl ⟨?hw2013, ?hy2013⟩) (by assumption) ?rest2013
  case hi2013 => (simp only [List.getElem?_toArray, List.getElem?_cons_zero, List.getElem?_cons_succ]; rfl)
  case hw2013 => rfl
  case hy2013 => first | (intro wx hSw; go_simp; done) | (intro wx hSw; go_simp; with_reducible rfl)
  simp only [Act.put, List.setIfInBounds_toArray, List.set_cons_zero, List.set_cons_succ]
  refine wpAnyH_ready (rs := [9, 12]) (by kernel_rfl) (by simp) ?_
  refine AllReadyH.cons rfl (fun K2014 hK2014 => ?_) ?_
  · go_simp
    refine hK2014.out _ _ ?hs2014 (fun hHeld2014 => ?_)
    case hs2014 => exact trivial
    clear hHeld
    have hHeld := hHeld2014; clear hHeld2014 hK2014 K2014
    refine wpAnyH_weaken (S := (fun W => W.cell? ⟨w.heap.size + 1 + 1, i, none⟩ = some (Value.int IntKind.i64 x))) (fun _ _ => trivial) _ _ _ _ ?_
    clear hHeld
    have hHeld := cellNew w n a b x i (.cells #[.int .i64 3, .int .i64 0, .int .i64 0, .string ⟨#[]⟩] 28) (.cells #[.int .i64 0, .int .i64 0, .int .i64 0, .string ⟨#[]⟩] 28) (unhide HX)
    refine wpAnyH_ready (rs := [12]) (by kernel_rfl) (by simp) ?_
    refine AllReadyH.cons rfl (fun K2116 hK2116 => ?_) AllReadyH.nil
    go_simp
    go_wp2_with (go_at_call 63; refine (unhide E _).mono ?_; rintro e wc2116 ⟨rfl, rfl⟩)
    refine hK2116.out _ _ ?hs2116 (fun hHeld2116 => ?_)
    case hs2116 => exact by assumption
    clear hHeld
    have hHeld := hHeld2116; clear hHeld2116 hK2116 K2116
    refine wpAnyH_take (i := 13) (oi := ?oi2117) (v := ?v2117) ?hi2117 (by kernel_rfl) (by kernel_rfl) (by kernel_rfl) (fun _ _ _ h => h) (Or.inl ⟨?hw2117, ?hy2117⟩) (by assumption) ?rest2117
    case hi2117 => (simp only [List.getElem?_toArray, List.getElem?_cons_zero, List.getElem?_cons_succ]; rfl)
    case hw2117 => rfl
    case hy2117 => first | (intro wx hSw; go_simp; done) | (intro wx hSw; go_simp; with_reducible rfl)
    simp only [Act.put, List.setIfInBounds_toArray, List.set_cons_zero, List.set_cons_succ]
    refine wpAnyH_take (i := 14) (oi := ?oi2118) (v := ?v2118) ?hi2118 (by kernel_rfl) (by kernel_rfl) (by kernel_rfl) (fun _ _ _ h => h) (Or.inl ⟨?hw2118, ?hy2118⟩) (by assumption) ?rest2118
    case hi2118 => (simp only [List.getElem?_toArray, List.getElem?_cons_zero, List.getElem?_cons_succ]; rfl)
    case hw2118 => rfl
    case hy2118 => first | (intro wx hSw; go_simp; done) | (intro wx hSw; go_simp; with_reducible rfl)
    simp only [Act.put, List.setIfInBounds_toArray, List.set_cons_zero, List.set_cons_succ]
    refine wpAnyH_take (i := 18) (oi := ?oi2119) (v := ?v2119) ?hi2119 (by kernel_rfl) (by kernel_rfl) (by kernel_rfl) (fun _ _ _ h => h) (Or.inl ⟨?hw2119, ?hy2119⟩) (by assumption) ?rest2119
    case hi2119 => (simp only [List.getElem?_toArray, List.getElem?_cons_zero, List.getElem?_cons_succ]; rfl)
    case hw2119 => rfl
    case hy2119 => first | (intro wx hSw; go_simp; done) | (intro wx hSw; go_simp; with_reducible rfl)
    simp only [Act.put, List.setIfInBounds_toArray, List.set_cons_zero, List.set_cons_succ]
    refine wpAnyH_ready (rs := [17]) (by kernel_rfl) (by simp) ?_
    refine AllReadyH.cons rfl (fun K2120 hK2120 => ?_) AllReadyH.nil
    go_simp
    go_wp2_with (go_at_call 63; refine (unhide F _).mono ?_; rintro e wc2120 ⟨rfl, rfl⟩)
    refine hK2120.out _ _ ?hs2120 (fun hHeld2120 => ?_)
    case hs2120 => exact by assumption
    clear hHeld
    have hHeld := hHeld2120; clear hHeld2120 hK2120 K2120
    refine wpAnyH_ready (rs := [19]) (by kernel_rfl) (by simp) ?_
    refine AllReadyH.cons rfl (fun K2121 hK2121 => ?_) AllReadyH.nil
    go_simp
    refine hK2121.out _ _ ?hs2121 (fun hHeld2121 => ?_)
    case hs2121 => exact cellNew w n a b x i _ _ (unhide HX)
    clear hHeld
    have hHeld := hHeld2121; clear hHeld2121 hK2121 K2121
    refine wpAnyH_take (i := 20) (oi := ?oi2122) (v := ?v2122) ?hi2122 (by kernel_rfl) (by kernel_rfl) (by kernel_rfl) (fun _ _ _ h => h) (Or.inl ⟨?hw2122, ?hy2122⟩) (by assumption) ?rest2122
    case hi2122 => (simp only [List.getElem?_toArray, List.getElem?_cons_zero, List.getElem?_cons_succ]; rfl)
    case hw2122 => rfl
    case hy2122 => first | (intro wx hSw; go_simp; done) | (intro wx hSw; go_simp; with_reducible rfl)
    simp only [Act.put, List.setIfInBounds_toArray, List.set_cons_zero, List.set_cons_succ]
    refine wpAnyH_ready (rs := [21]) (by kernel_rfl) (by simp) ?_
    refine AllReadyH.cons rfl (fun K2123 hK2123 => ?_) AllReadyH.nil
    go_simp
    refine hK2123.out _ _ ?hs2123 (fun hHeld2123 => ?_)
    case hs2123 => exact cellNew w n a b x i _ _ (unhide HX)
    clear hHeld
    have hHeld := hHeld2123; clear hHeld2123 hK2123 K2123
    refine wpAnyH_done (by kernel_rfl) ?_ _
    refine NoPanic.normal ?_
    clear hHeld
    go_wp2_with fail
    have hF := four_drew (four_more (four_more (four_alloc (.int .i64 0) (.int .i64 0) (.int .i64 0) (.string ⟨#[]⟩) 28 w) (.cells #[.int .i64 3, .int .i64 x, .int .i64 c, .string ⟨#[]⟩] 28)) (.cells (row6 n a b) 3))
    have hG := four_drew (four_more (four_alloc (.int .i64 3) (.int .i64 x) (.int .i64 c) (.string ⟨#[]⟩) 28 (w.alloc (.cells #[.int .i64 0, .int .i64 0, .int .i64 0, .string ⟨#[]⟩] 28))) (.cells (row6 n a b) 3))
    rw [World.size_alloc] at hG
    have hL := ((((Below.refl _ w).alloc (Nat.le_refl _) (.cells #[.int .i64 0, .int .i64 0, .int .i64 0, .string ⟨#[]⟩] 28)).alloc (by simp) (.cells #[.int .i64 3, .int .i64 x, .int .i64 c, .string ⟨#[]⟩] 28)).alloc (by simp; omega) (.cells (row6 n a b) 3)).drew
    refine (unhide N _).mono ?_
    rintro e w1 ⟨rfl, hb1⟩
    replace hF := four_call hF hb1
    replace hG := four_call hG hb1
    replace hL := hide (hL.trans (hb1.mono hL.size))
    clear hb1
    obtain ⟨f0, f1, f2, f3, f4, f5, f6, f7, f8⟩ := hF
    obtain ⟨g0, g1, g2, g3, g4, g5, g6, g7, g8⟩ := hG
    go_wp2_with fail
    exact bodyPost_ret (v := V 3 (normN x c) (normC x c) ⟨#[]⟩) (by simp [results, Try.results43, go_sem, f1, f2, f3, f4, nN, nS]) rfl ⟨⟨_, _, _, unhide OK, rfl⟩, ((unhide hL).trans ((below_set4 (w.heap.size + 1) _ _ _ _ _).mono (Nat.le_succ _))).trans (below_set4 w.heap.size _ _ _ _ _)⟩
  refine AllReadyH.cons rfl (fun K2224 hK2224 => ?_) AllReadyH.nil
  · go_simp
    go_wp2_with (go_at_call 63; refine (unhide E _).mono ?_; rintro e wc2224 ⟨rfl, rfl⟩)
    refine hK2224.out _ _ ?hs2224 (fun hHeld2224 => ?_)
    case hs2224 => exact by assumption
    clear hHeld
    have hHeld := hHeld2224; clear hHeld2224 hK2224 K2224
    refine wpAnyH_ready (rs := [9, 17]) (by kernel_rfl) (by simp) ?_
    refine AllReadyH.cons rfl (fun K2325 hK2325 => ?_) ?_
    · go_simp
      refine hK2325.out _ _ ?hs2325 (fun hHeld2325 => ?_)
      case hs2325 => exact trivial
      clear hHeld
      have hHeld := hHeld2325; clear hHeld2325 hK2325 K2325
      refine wpAnyH_weaken (S := (fun W => W.cell? ⟨w.heap.size + 1 + 1, i, none⟩ = some (Value.int IntKind.i64 x))) (fun _ _ => trivial) _ _ _ _ ?_
      clear hHeld
      have hHeld := cellNew w n a b x i (.cells #[.int .i64 3, .int .i64 0, .int .i64 0, .string ⟨#[]⟩] 28) (.cells #[.int .i64 0, .int .i64 0, .int .i64 0, .string ⟨#[]⟩] 28) (unhide HX)
      refine wpAnyH_take (i := 13) (oi := ?oi2427) (v := ?v2427) ?hi2427 (by kernel_rfl) (by kernel_rfl) (by kernel_rfl) (fun _ _ _ h => h) (Or.inl ⟨?hw2427, ?hy2427⟩) (by assumption) ?rest2427
      case hi2427 => (simp only [List.getElem?_toArray, List.getElem?_cons_zero, List.getElem?_cons_succ]; rfl)
      case hw2427 => rfl
      case hy2427 => first | (intro wx hSw; go_simp; done) | (intro wx hSw; go_simp; with_reducible rfl)
      simp only [Act.put, List.setIfInBounds_toArray, List.set_cons_zero, List.set_cons_succ]
      refine wpAnyH_take (i := 14) (oi := ?oi2428) (v := ?v2428) ?hi2428 (by kernel_rfl) (by kernel_rfl) (by kernel_rfl) (fun _ _ _ h => h) (Or.inl ⟨?hw2428, ?hy2428⟩) (by assumption) ?rest2428
      case hi2428 => (simp only [List.getElem?_toArray, List.getElem?_cons_zero, List.getElem?_cons_succ]; rfl)
      case hw2428 => rfl
      case hy2428 => first | (intro wx hSw; go_simp; done) | (intro wx hSw; go_simp; with_reducible rfl)
      simp only [Act.put, List.setIfInBounds_toArray, List.set_cons_zero, List.set_cons_succ]
      refine wpAnyH_take (i := 18) (oi := ?oi2429) (v := ?v2429) ?hi2429 (by kernel_rfl) (by kernel_rfl) (by kernel_rfl) (fun _ _ _ h => h) (Or.inl ⟨?hw2429, ?hy2429⟩) (by assumption) ?rest2429
      case hi2429 => (simp only [List.getElem?_toArray, List.getElem?_cons_zero, List.getElem?_cons_succ]; rfl)
      case hw2429 => rfl
      case hy2429 => first | (intro wx hSw; go_simp; done) | (intro wx hSw; go_simp; with_reducible rfl)
      simp only [Act.put, List.setIfInBounds_toArray, List.set_cons_zero, List.set_cons_succ]
      refine wpAnyH_ready (rs := [17]) (by kernel_rfl) (by simp) ?_
      refine AllReadyH.cons rfl (fun K2430 hK2430 => ?_) AllReadyH.nil
      go_simp
      go_wp2_with (go_at_call 63; refine (unhide F _).mono ?_; rintro e wc2430 ⟨rfl, rfl⟩)
      refine hK2430.out _ _ ?hs2430 (fun hHeld2430 => ?_)
      case hs2430 => exact by assumption
      clear hHeld
      have hHeld := hHeld2430; clear hHeld2430 hK2430 K2430
      refine wpAnyH_ready (rs := [19]) (by kernel_rfl) (by simp) ?_
      refine AllReadyH.cons rfl (fun K2431 hK2431 => ?_) AllReadyH.nil
      go_simp
      refine hK2431.out _ _ ?hs2431 (fun hHeld2431 => ?_)
      case hs2431 => exact cellNew w n a b x i _ _ (unhide HX)
      clear hHeld
      have hHeld := hHeld2431; clear hHeld2431 hK2431 K2431
      refine wpAnyH_take (i := 20) (oi := ?oi2432) (v := ?v2432) ?hi2432 (by kernel_rfl) (by kernel_rfl) (by kernel_rfl) (fun _ _ _ h => h) (Or.inl ⟨?hw2432, ?hy2432⟩) (by assumption) ?rest2432
      case hi2432 => (simp only [List.getElem?_toArray, List.getElem?_cons_zero, List.getElem?_cons_succ]; rfl)
      case hw2432 => rfl
      case hy2432 => first | (intro wx hSw; go_simp; done) | (intro wx hSw; go_simp; with_reducible rfl)
      simp only [Act.put, List.setIfInBounds_toArray, List.set_cons_zero, List.set_cons_succ]
      refine wpAnyH_ready (rs := [21]) (by kernel_rfl) (by simp) ?_
      refine AllReadyH.cons rfl (fun K2433 hK2433 => ?_) AllReadyH.nil
      go_simp
      refine hK2433.out _ _ ?hs2433 (fun hHeld2433 => ?_)
      case hs2433 => exact cellNew w n a b x i _ _ (unhide HX)
      clear hHeld
      have hHeld := hHeld2433; clear hHeld2433 hK2433 K2433
      refine wpAnyH_done (by kernel_rfl) ?_ _
      refine NoPanic.normal ?_
      clear hHeld
      go_wp2_with fail
      have hF := four_drew (four_more (four_more (four_alloc (.int .i64 0) (.int .i64 0) (.int .i64 0) (.string ⟨#[]⟩) 28 w) (.cells #[.int .i64 3, .int .i64 x, .int .i64 c, .string ⟨#[]⟩] 28)) (.cells (row6 n a b) 3))
      have hG := four_drew (four_more (four_alloc (.int .i64 3) (.int .i64 x) (.int .i64 c) (.string ⟨#[]⟩) 28 (w.alloc (.cells #[.int .i64 0, .int .i64 0, .int .i64 0, .string ⟨#[]⟩] 28))) (.cells (row6 n a b) 3))
      rw [World.size_alloc] at hG
      have hL := ((((Below.refl _ w).alloc (Nat.le_refl _) (.cells #[.int .i64 0, .int .i64 0, .int .i64 0, .string ⟨#[]⟩] 28)).alloc (by simp) (.cells #[.int .i64 3, .int .i64 x, .int .i64 c, .string ⟨#[]⟩] 28)).alloc (by simp; omega) (.cells (row6 n a b) 3)).drew
      refine (unhide N _).mono ?_
      rintro e w1 ⟨rfl, hb1⟩
      replace hF := four_call hF hb1
      replace hG := four_call hG hb1
      replace hL := hide (hL.trans (hb1.mono hL.size))
      clear hb1
      obtain ⟨f0, f1, f2, f3, f4, f5, f6, f7, f8⟩ := hF
      obtain ⟨g0, g1, g2, g3, g4, g5, g6, g7, g8⟩ := hG
      go_wp2_with fail
      exact bodyPost_ret (v := V 3 (normN x c) (normC x c) ⟨#[]⟩) (by simp [results, Try.results43, go_sem, f1, f2, f3, f4, nN, nS]) rfl ⟨⟨_, _, _, unhide OK, rfl⟩, ((unhide hL).trans ((below_set4 (w.heap.size + 1) _ _ _ _ _).mono (Nat.le_succ _))).trans (below_set4 w.heap.size _ _ _ _ _)⟩
    refine AllReadyH.cons rfl (fun K2534 hK2534 => ?_) AllReadyH.nil
    · go_simp
      go_wp2_with (go_at_call 63; refine (unhide F _).mono ?_; rintro e wc2534 ⟨rfl, rfl⟩)
      refine hK2534.out _ _ ?hs2534 (fun hHeld2534 => ?_)
      case hs2534 => exact by assumption
      clear hHeld
      have hHeld := hHeld2534; clear hHeld2534 hK2534 K2534
      refine wpAnyH_ready (rs := [9]) (by kernel_rfl) (by simp) ?_
      refine AllReadyH.cons rfl (fun K2635 hK2635 => ?_) AllReadyH.nil
      go_simp
      refine hK2635.out _ _ ?hs2635 (fun hHeld2635 => ?_)
      case hs2635 => exact trivial
      clear hHeld
      have hHeld := hHeld2635; clear hHeld2635 hK2635 K2635
      refine wpAnyH_weaken (S := (fun W => W.cell? ⟨w.heap.size + 1 + 1, i, none⟩ = some (Value.int IntKind.i64 x))) (fun _ _ => trivial) _ _ _ _ ?_
      clear hHeld
      have hHeld := cellNew w n a b x i (.cells #[.int .i64 3, .int .i64 0, .int .i64 0, .string ⟨#[]⟩] 28) (.cells #[.int .i64 0, .int .i64 0, .int .i64 0, .string ⟨#[]⟩] 28) (unhide HX)
      refine wpAnyH_take (i := 13) (oi := ?oi2637) (v := ?v2637) ?hi2637 (by kernel_rfl) (by kernel_rfl) (by kernel_rfl) (fun _ _ _ h => h) (Or.inl ⟨?hw2637, ?hy2637⟩) (by assumption) ?rest2637
      case hi2637 => (simp only [List.getElem?_toArray, List.getElem?_cons_zero, List.getElem?_cons_succ]; rfl)
      case hw2637 => rfl
      case hy2637 => first | (intro wx hSw; go_simp; done) | (intro wx hSw; go_simp; with_reducible rfl)
      simp only [Act.put, List.setIfInBounds_toArray, List.set_cons_zero, List.set_cons_succ]
      refine wpAnyH_take (i := 14) (oi := ?oi2638) (v := ?v2638) ?hi2638 (by kernel_rfl) (by kernel_rfl) (by kernel_rfl) (fun _ _ _ h => h) (Or.inl ⟨?hw2638, ?hy2638⟩) (by assumption) ?rest2638
      case hi2638 => (simp only [List.getElem?_toArray, List.getElem?_cons_zero, List.getElem?_cons_succ]; rfl)
      case hw2638 => rfl
      case hy2638 => first | (intro wx hSw; go_simp; done) | (intro wx hSw; go_simp; with_reducible rfl)
      simp only [Act.put, List.setIfInBounds_toArray, List.set_cons_zero, List.set_cons_succ]
      refine wpAnyH_take (i := 18) (oi := ?oi2639) (v := ?v2639) ?hi2639 (by kernel_rfl) (by kernel_rfl) (by kernel_rfl) (fun _ _ _ h => h) (Or.inl ⟨?hw2639, ?hy2639⟩) (by assumption) ?rest2639
      case hi2639 => (simp only [List.getElem?_toArray, List.getElem?_cons_zero, List.getElem?_cons_succ]; rfl)
      case hw2639 => rfl
      case hy2639 => first | (intro wx hSw; go_simp; done) | (intro wx hSw; go_simp; with_reducible rfl)
      simp only [Act.put, List.setIfInBounds_toArray, List.set_cons_zero, List.set_cons_succ]
      refine wpAnyH_ready (rs := [19]) (by kernel_rfl) (by simp) ?_
      refine AllReadyH.cons rfl (fun K2640 hK2640 => ?_) AllReadyH.nil
      go_simp
      refine hK2640.out _ _ ?hs2640 (fun hHeld2640 => ?_)
      case hs2640 => exact cellNew w n a b x i _ _ (unhide HX)
      clear hHeld
      have hHeld := hHeld2640; clear hHeld2640 hK2640 K2640
      refine wpAnyH_take (i := 20) (oi := ?oi2641) (v := ?v2641) ?hi2641 (by kernel_rfl) (by kernel_rfl) (by kernel_rfl) (fun _ _ _ h => h) (Or.inl ⟨?hw2641, ?hy2641⟩) (by assumption) ?rest2641
      case hi2641 => (simp only [List.getElem?_toArray, List.getElem?_cons_zero, List.getElem?_cons_succ]; rfl)
      case hw2641 => rfl
      case hy2641 => first | (intro wx hSw; go_simp; done) | (intro wx hSw; go_simp; with_reducible rfl)
      simp only [Act.put, List.setIfInBounds_toArray, List.set_cons_zero, List.set_cons_succ]
      refine wpAnyH_ready (rs := [21]) (by kernel_rfl) (by simp) ?_
      refine AllReadyH.cons rfl (fun K2642 hK2642 => ?_) AllReadyH.nil
      go_simp
      refine hK2642.out _ _ ?hs2642 (fun hHeld2642 => ?_)
      case hs2642 => exact cellNew w n a b x i _ _ (unhide HX)
      clear hHeld
      have hHeld := hHeld2642; clear hHeld2642 hK2642 K2642
      refine wpAnyH_done (by kernel_rfl) ?_ _
      refine NoPanic.normal ?_
      clear hHeld
      go_wp2_with fail
      have hF := four_drew (four_more (four_more (four_alloc (.int .i64 0) (.int .i64 0) (.int .i64 0) (.string ⟨#[]⟩) 28 w) (.cells #[.int .i64 3, .int .i64 x, .int .i64 c, .string ⟨#[]⟩] 28)) (.cells (row6 n a b) 3))
      have hG := four_drew (four_more (four_alloc (.int .i64 3) (.int .i64 x) (.int .i64 c) (.string ⟨#[]⟩) 28 (w.alloc (.cells #[.int .i64 0, .int .i64 0, .int .i64 0, .string ⟨#[]⟩] 28))) (.cells (row6 n a b) 3))
      rw [World.size_alloc] at hG
      have hL := ((((Below.refl _ w).alloc (Nat.le_refl _) (.cells #[.int .i64 0, .int .i64 0, .int .i64 0, .string ⟨#[]⟩] 28)).alloc (by simp) (.cells #[.int .i64 3, .int .i64 x, .int .i64 c, .string ⟨#[]⟩] 28)).alloc (by simp; omega) (.cells (row6 n a b) 3)).drew
      refine (unhide N _).mono ?_
      rintro e w1 ⟨rfl, hb1⟩
      replace hF := four_call hF hb1
      replace hG := four_call hG hb1
      replace hL := hide (hL.trans (hb1.mono hL.size))
      clear hb1
      obtain ⟨f0, f1, f2, f3, f4, f5, f6, f7, f8⟩ := hF
      obtain ⟨g0, g1, g2, g3, g4, g5, g6, g7, g8⟩ := hG
      go_wp2_with fail
      exact bodyPost_ret (v := V 3 (normN x c) (normC x c) ⟨#[]⟩) (by simp [results, Try.results43, go_sem, f1, f2, f3, f4, nN, nS]) rfl ⟨⟨_, _, _, unhide OK, rfl⟩, ((unhide hL).trans ((below_set4 (w.heap.size + 1) _ _ _ _ _).mono (Nat.le_succ _))).trans (below_set4 w.heap.size _ _ _ _ _)⟩
end Go.Proofs.Ytliefgkhpgigaaa
