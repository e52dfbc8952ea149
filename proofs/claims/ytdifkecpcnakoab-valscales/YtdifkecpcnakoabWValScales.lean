/-
  The walk of the law ValScales.
-/
import Derived.Test.YtdifkecpcnakoabWI0
import Derived.Test.YtdifkecpcnakoabD
namespace Go.Proofs.Ytdifkecpcnakoab
open Go.RowKit
set_option linter.unusedSimpArgs false
set_option linter.unusedVariables false
attribute [local go_sem ↓] Go.wp_at_zero Go.wp_at_succ

/-- the world has but grown; two values lie in blocks of their own -/
def S2 (w : World) (b c : Nat) (k n s : Int) (t : ByteArray) (k' n' s' : Int) (t' : ByteArray) (W : World) : Prop :=
  Below w.heap.size w W ∧ Four b (.int .i64 k) (.int .i64 n) (.int .i64 s) (.string t) W ∧ Four c (.int .i64 k') (.int .i64 n') (.int .i64 s') (.string t') W
theorem s2_call {w : World} {b c : Nat} {k n s : Int} {t : ByteArray} {k' n' s' : Int} {t' : ByteArray} {W w1 : World} (h : S2 w b c k n s t k' n' s' t' W) (hb : Below W.heap.size W w1) : S2 w b c k n s t k' n' s' t' w1 :=
  ⟨h.1.trans (hb.mono h.1.size), four_call h.2.1 hb, four_call h.2.2 hb⟩

theorem ten_tmod (n : Int) : (10 * n).tmod 10 = 0 := by rw [Int.mul_tmod_right]
theorem ten_tdiv (n : Int) : (10 * n).tdiv 10 = n := by rw [Int.mul_comm]; exact Int.mul_tdiv_cancel _ (by decide)
theorem norm_ten (n s : Int) (hs : 0 ≤ s) : normN (10 * n) (s + 1) = normN n s ∧ normC (10 * n) (s + 1) = normC n s := by
  have h := norm_step (n := 10 * n) (s := s + 1) (by omega) (ten_tmod n)
  rw [ten_tdiv, show s + 1 - 1 = s by omega] at h
  exact ⟨h.1.symm, h.2.symm⟩
theorem rd_ten {n s : Int} (h0 : 0 ≤ s) : rdB (10 * n) (s + 1) = false := by
  unfold rdB; rw [decide_eq_false_iff_not]; omega

set_option maxHeartbeats 4000000 in
set_option maxRecDepth 100000 in
theorem scales0 (n scale more ra rs : Int) (vn vs : Int) (w : World)
    (WA : Hid (∀ W, Calls Try.prog 9 #[.int .i64 n, .int .i64 100000] W fun e w' => e = .returned (.int .i64 ra) ∧ w' = W))
    (WS : Hid (∀ W, Calls Try.prog 9 #[.int .i64 scale, .int .i64 4] W fun e w' => e = .returned (.int .i64 rs) ∧ w' = W))
    (WM : Hid (∀ W, Calls Try.prog 9 #[.int .i64 more, .int .i64 3] W fun e w' => e = .returned (.int .i64 0) ∧ w' = W)) (a1 : 0 ≤ ra) (a2 : ra < 100000)
    (CN : Hid (∀ W, Calls Try.prog 8 #[V 3 (ra - 50000) rs EZ] W fun e w' => e = .returned (V 3 vn vs EZ) ∧ Below W.heap.size W w'))
    (CM : Hid (∀ W, Calls Try.prog 12 #[V 3 vn vs EZ] W fun e w' => e = .returned (V 3 vn vs EZ) ∧ Below W.heap.size W w'))
    (CV : Hid (∀ W, Calls Try.prog 13 #[V 3 vn vs EZ] W fun e w' => e = .returned (.bool true) ∧ Below W.heap.size W w'))
    (CW : Hid (∀ W, Calls Try.prog 13 #[V 3 vn vs EZ] W fun e w' => e = .returned (.bool true) ∧ Below W.heap.size W w')) (b1 : -50000 ≤ vn) (b2 : vn ≤ 50000) (b3 : 0 ≤ vs) (b4 : vs ≤ 3) :
    Calls Try.prog 4 #[.int .i64 n, .int .i64 scale, .int .i64 more] w fun e w' => e = .returned (.bool true) ∧ Below w.heap.size w w' := by
  have hL := hide (Below.refl w.heap.size w)
  go_enter Try.func4, Try.ntmps4
  go_wp2_with fail
  refine (known_any _).mono ?_
  rintro e w1 ⟨rfl, hb1⟩
  replace hL := hide ((unhide hL).trans (hb1.mono (unhide hL).size))
  clear hb1
  go_wp2_with fail
  refine (unhide WA _).mono ?_
  rintro e wq2 ⟨rfl, rfl⟩
  go_wp2_with fail
  refine (unhide WS _).mono ?_
  rintro e wq3 ⟨rfl, rfl⟩
  go_wp2_with fail
  refine (unhide CN _).mono ?_
  rintro e w4 ⟨rfl, hb4⟩
  replace hL := hide ((unhide hL).trans (hb4.mono (unhide hL).size))
  clear hb4
  go_wp2_with fail
  refine wp_loop_rounds 1 ?_
  rw [rounds_succ]
  go_wp2_with fail
  refine (unhide WM _).mono ?_
  rintro e wq5 ⟨rfl, rfl⟩
  go_wp2_with fail
  have hv := hide (four_alloc (.int .i64 3) (.int .i64 vn) (.int .i64 vs) (.string EZ) 24 w4)
  replace hL := hide ((unhide hL).alloc (unhide hL).size (.cells #[.int .i64 3, .int .i64 vn, .int .i64 vs, .string EZ] 24))
  replace hv := hide (four_more (unhide hv) (.cells #[.int .i64 3, .int .i64 vn, .int .i64 vs, .string EZ] 24))
  have hu := hide (four_alloc (.int .i64 3) (.int .i64 vn) (.int .i64 vs) (.string EZ) 24 (w4.alloc (.cells #[.int .i64 3, .int .i64 vn, .int .i64 vs, .string EZ] 24)))
  replace hL := hide ((unhide hL).alloc (unhide hL).size (.cells #[.int .i64 3, .int .i64 vn, .int .i64 vs, .string EZ] 24))
  simp only [World.size_alloc] at hu
  rename_i Q1 K1 hrest
  clear WA WS WM CN
  refine wp_region_noPanic ?_
  refine wp_region_held_drew (S := S2 w _ _ 3 vn vs EZ 3 vn vs EZ) (by kernel_rfl) ⟨(unhide hL).drew, four_drew (unhide hv), four_drew (unhide hu)⟩ (fun hHeld => ?_)
  revert hHeld
  generalize World.drew _ = Wd
  intro hHeld
  refine wpAnyH_take (i := 0) (oi := ?oi1001) (v := ?v1001) ?hi1001 (by kernel_rfl) (by kernel_rfl) (by kernel_rfl) (fun _ _ _ h => h) (Or.inl ⟨?hw1001, ?hy1001⟩) (by assumption) ?rest1001
  case hi1001 => (simp only [List.getElem?_toArray, List.getElem?_cons_zero]; rfl)
  case hw1001 => rfl
  case hy1001 => first | (intro wx hSw; obtain ⟨_, ⟨_, e0, e1, e2, e3, _⟩, ⟨_, e4, e5, e6, e7, _⟩⟩ := hSw; go_simp; done) | (intro wx hSw; obtain ⟨_, ⟨_, e0, e1, e2, e3, _⟩, ⟨_, e4, e5, e6, e7, _⟩⟩ := hSw; go_simp; with_reducible rfl)
  simp only [Act.put, List.setIfInBounds_toArray, List.set_cons_zero, List.set_cons_succ]
  refine wpAnyH_take (i := 2) (oi := ?oi1002) (v := ?v1002) ?hi1002 (by kernel_rfl) (by kernel_rfl) (by kernel_rfl) (fun _ _ _ h => h) (Or.inl ⟨?hw1002, ?hy1002⟩) (by assumption) ?rest1002
  case hi1002 => (simp only [List.getElem?_toArray, List.getElem?_cons_zero, List.getElem?_cons_succ]; rfl)
  case hw1002 => rfl
  case hy1002 => first | (intro wx hSw; obtain ⟨_, ⟨_, e0, e1, e2, e3, _⟩, ⟨_, e4, e5, e6, e7, _⟩⟩ := hSw; go_simp; done) | (intro wx hSw; obtain ⟨_, ⟨_, e0, e1, e2, e3, _⟩, ⟨_, e4, e5, e6, e7, _⟩⟩ := hSw; go_simp; with_reducible rfl)
  simp only [Act.put, List.setIfInBounds_toArray, List.set_cons_zero, List.set_cons_succ]
  refine wpAnyH_ready (rs := [1]) (by kernel_rfl) (by simp) ?_
  refine AllReadyH.cons rfl (fun K1003 hK1003 => ?_) AllReadyH.nil
  go_simp
  go_wp2_with (go_at_call 12; refine (unhide CM _).mono ?_; rintro e wc1003 ⟨rfl, hb1003⟩)
  refine hK1003.out _ _ ?hs1003 (fun hHeld1003 => ?_)
  case hs1003 => exact s2_call hHeld hb1003
  clear hHeld
  have hHeld := hHeld1003; clear hHeld1003 hK1003 K1003 hb1003
  refine wpAnyH_take (i := 3) (oi := ?oi1004) (v := ?v1004) ?hi1004 (by kernel_rfl) (by kernel_rfl) (by kernel_rfl) (fun _ _ _ h => h) (Or.inl ⟨?hw1004, ?hy1004⟩) (by assumption) ?rest1004
  case hi1004 => (simp only [List.getElem?_toArray, List.getElem?_cons_zero, List.getElem?_cons_succ]; rfl)
  case hw1004 => rfl
  case hy1004 => first | (intro wx hSw; obtain ⟨_, ⟨_, e0, e1, e2, e3, _⟩, ⟨_, e4, e5, e6, e7, _⟩⟩ := hSw; go_simp; done) | (intro wx hSw; obtain ⟨_, ⟨_, e0, e1, e2, e3, _⟩, ⟨_, e4, e5, e6, e7, _⟩⟩ := hSw; go_simp; with_reducible rfl)
  simp only [Act.put, List.setIfInBounds_toArray, List.set_cons_zero, List.set_cons_succ]
  refine wpAnyH_take (i := 4) (oi := ?oi1005) (v := ?v1005) ?hi1005 (by kernel_rfl) (by kernel_rfl) (by kernel_rfl) (fun _ _ _ h => h) (Or.inl ⟨?hw1005, ?hy1005⟩) (by assumption) ?rest1005
  case hi1005 => (simp only [List.getElem?_toArray, List.getElem?_cons_zero, List.getElem?_cons_succ]; rfl)
  case hw1005 => rfl
  case hy1005 => first | (intro wx hSw; obtain ⟨_, ⟨_, e0, e1, e2, e3, _⟩, ⟨_, e4, e5, e6, e7, _⟩⟩ := hSw; go_simp; done) | (intro wx hSw; obtain ⟨_, ⟨_, e0, e1, e2, e3, _⟩, ⟨_, e4, e5, e6, e7, _⟩⟩ := hSw; go_simp; with_reducible rfl)
  simp only [Act.put, List.setIfInBounds_toArray, List.set_cons_zero, List.set_cons_succ]
  refine wpAnyH_take (i := 5) (oi := ?oi1006) (v := ?v1006) ?hi1006 (by kernel_rfl) (by kernel_rfl) (by kernel_rfl) (fun _ _ _ h => h) (Or.inl ⟨?hw1006, ?hy1006⟩) (by assumption) ?rest1006
  case hi1006 => (simp only [List.getElem?_toArray, List.getElem?_cons_zero, List.getElem?_cons_succ]; rfl)
  case hw1006 => rfl
  case hy1006 => first | (intro wx hSw; obtain ⟨_, ⟨_, e0, e1, e2, e3, _⟩, ⟨_, e4, e5, e6, e7, _⟩⟩ := hSw; go_simp; done) | (intro wx hSw; obtain ⟨_, ⟨_, e0, e1, e2, e3, _⟩, ⟨_, e4, e5, e6, e7, _⟩⟩ := hSw; go_simp; with_reducible rfl)
  simp only [Act.put, List.setIfInBounds_toArray, List.set_cons_zero, List.set_cons_succ]
  refine wpAnyH_ready (rs := [6]) (by kernel_rfl) (by simp) ?_
  refine AllReadyH.cons rfl (fun K1007 hK1007 => ?_) AllReadyH.nil
  go_simp
  go_wp2_with (go_at_call 13; refine (unhide CV _).mono ?_; rintro e wc1007 ⟨rfl, hb1007⟩)
  refine hK1007.out _ _ ?hs1007 (fun hHeld1007 => ?_)
  case hs1007 => exact s2_call hHeld hb1007
  clear hHeld
  have hHeld := hHeld1007; clear hHeld1007 hK1007 K1007 hb1007
  refine wpAnyH_take (i := 7) (oi := ?oi1008) (v := ?v1008) ?hi1008 (by kernel_rfl) (by kernel_rfl) (by kernel_rfl) (fun _ _ _ h => h) (Or.inl ⟨?hw1008, ?hy1008⟩) (by assumption) ?rest1008
  case hi1008 => (simp only [List.getElem?_toArray, List.getElem?_cons_zero, List.getElem?_cons_succ]; rfl)
  case hw1008 => rfl
  case hy1008 => first | (intro wx hSw; obtain ⟨_, ⟨_, e0, e1, e2, e3, _⟩, ⟨_, e4, e5, e6, e7, _⟩⟩ := hSw; go_simp; done) | (intro wx hSw; obtain ⟨_, ⟨_, e0, e1, e2, e3, _⟩, ⟨_, e4, e5, e6, e7, _⟩⟩ := hSw; go_simp; with_reducible rfl)
  simp only [Act.put, List.setIfInBounds_toArray, List.set_cons_zero, List.set_cons_succ]
  refine wpAnyH_take (i := 8) (oi := ?oi1009) (v := ?v1009) ?hi1009 (by kernel_rfl) (by kernel_rfl) (by kernel_rfl) (fun _ _ _ h => h) (Or.inl ⟨?hw1009, ?hy1009⟩) (by assumption) ?rest1009
  case hi1009 => (simp only [List.getElem?_toArray, List.getElem?_cons_zero, List.getElem?_cons_succ]; rfl)
  case hw1009 => rfl
  case hy1009 => first | (intro wx hSw; obtain ⟨_, ⟨_, e0, e1, e2, e3, _⟩, ⟨_, e4, e5, e6, e7, _⟩⟩ := hSw; go_simp; done) | (intro wx hSw; obtain ⟨_, ⟨_, e0, e1, e2, e3, _⟩, ⟨_, e4, e5, e6, e7, _⟩⟩ := hSw; go_simp; with_reducible rfl)
  simp only [Act.put, List.setIfInBounds_toArray, List.set_cons_zero, List.set_cons_succ]
  refine wpAnyH_take (i := 9) (oi := ?oi1010) (v := ?v1010) ?hi1010 (by kernel_rfl) (by kernel_rfl) (by kernel_rfl) (fun _ _ _ h => h) (Or.inl ⟨?hw1010, ?hy1010⟩) (by assumption) ?rest1010
  case hi1010 => (simp only [List.getElem?_toArray, List.getElem?_cons_zero, List.getElem?_cons_succ]; rfl)
  case hw1010 => rfl
  case hy1010 => first | (intro wx hSw; obtain ⟨_, ⟨_, e0, e1, e2, e3, _⟩, ⟨_, e4, e5, e6, e7, _⟩⟩ := hSw; go_simp; done) | (intro wx hSw; obtain ⟨_, ⟨_, e0, e1, e2, e3, _⟩, ⟨_, e4, e5, e6, e7, _⟩⟩ := hSw; go_simp; with_reducible rfl)
  simp only [Act.put, List.setIfInBounds_toArray, List.set_cons_zero, List.set_cons_succ]
  refine wpAnyH_take (i := 11) (oi := ?oi1011) (v := ?v1011) ?hi1011 (by kernel_rfl) (by kernel_rfl) (by kernel_rfl) (fun _ _ _ h => h) (Or.inl ⟨?hw1011, ?hy1011⟩) (by assumption) ?rest1011
  case hi1011 => (simp only [List.getElem?_toArray, List.getElem?_cons_zero, List.getElem?_cons_succ]; rfl)
  case hw1011 => rfl
  case hy1011 => first | (intro wx hSw; obtain ⟨_, ⟨_, e0, e1, e2, e3, _⟩, ⟨_, e4, e5, e6, e7, _⟩⟩ := hSw; go_simp; done) | (intro wx hSw; obtain ⟨_, ⟨_, e0, e1, e2, e3, _⟩, ⟨_, e4, e5, e6, e7, _⟩⟩ := hSw; go_simp; with_reducible rfl)
  simp only [Act.put, List.setIfInBounds_toArray, List.set_cons_zero, List.set_cons_succ]
  refine wpAnyH_take (i := 12) (oi := ?oi1012) (v := ?v1012) ?hi1012 (by kernel_rfl) (by kernel_rfl) (by kernel_rfl) (fun _ _ _ h => h) (Or.inl ⟨?hw1012, ?hy1012⟩) (by assumption) ?rest1012
  case hi1012 => (simp only [List.getElem?_toArray, List.getElem?_cons_zero, List.getElem?_cons_succ]; rfl)
  case hw1012 => rfl
  case hy1012 => first | (intro wx hSw; obtain ⟨_, ⟨_, e0, e1, e2, e3, _⟩, ⟨_, e4, e5, e6, e7, _⟩⟩ := hSw; go_simp; done) | (intro wx hSw; obtain ⟨_, ⟨_, e0, e1, e2, e3, _⟩, ⟨_, e4, e5, e6, e7, _⟩⟩ := hSw; go_simp; with_reducible rfl)
  simp only [Act.put, List.setIfInBounds_toArray, List.set_cons_zero, List.set_cons_succ]
  refine wpAnyH_take (i := 13) (oi := ?oi1013) (v := ?v1013) ?hi1013 (by kernel_rfl) (by kernel_rfl) (by kernel_rfl) (fun _ _ _ h => h) (Or.inl ⟨?hw1013, ?hy1013⟩) (by assumption) ?rest1013
  case hi1013 => (simp only [List.getElem?_toArray, List.getElem?_cons_zero, List.getElem?_cons_succ]; rfl)
  case hw1013 => rfl
  case hy1013 => first | (intro wx hSw; obtain ⟨_, ⟨_, e0, e1, e2, e3, _⟩, ⟨_, e4, e5, e6, e7, _⟩⟩ := hSw; go_simp; done) | (intro wx hSw; obtain ⟨_, ⟨_, e0, e1, e2, e3, _⟩, ⟨_, e4, e5, e6, e7, _⟩⟩ := hSw; go_simp; with_reducible rfl)
  simp only [Act.put, List.setIfInBounds_toArray, List.set_cons_zero, List.set_cons_succ]
  refine wpAnyH_ready (rs := [10]) (by kernel_rfl) (by simp) ?_
  refine AllReadyH.cons rfl (fun K1014 hK1014 => ?_) AllReadyH.nil
  go_simp
  go_wp2_with (go_at_call 13; refine (unhide CW _).mono ?_; rintro e wc1014 ⟨rfl, hb1014⟩)
  refine hK1014.out _ _ ?hs1014 (fun hHeld1014 => ?_)
  case hs1014 => exact s2_call hHeld hb1014
  clear hHeld
  have hHeld := hHeld1014; clear hHeld1014 hK1014 K1014 hb1014
  refine wpAnyH_take (i := 14) (oi := ?oi1015) (v := ?v1015) ?hi1015 (by kernel_rfl) (by kernel_rfl) (by kernel_rfl) (fun _ _ _ h => h) (Or.inl ⟨?hw1015, ?hy1015⟩) (by assumption) ?rest1015
  case hi1015 => (simp only [List.getElem?_toArray, List.getElem?_cons_zero, List.getElem?_cons_succ]; rfl)
  case hw1015 => rfl
  case hy1015 => first | (intro wx hSw; obtain ⟨_, ⟨_, e0, e1, e2, e3, _⟩, ⟨_, e4, e5, e6, e7, _⟩⟩ := hSw; go_simp; done) | (intro wx hSw; obtain ⟨_, ⟨_, e0, e1, e2, e3, _⟩, ⟨_, e4, e5, e6, e7, _⟩⟩ := hSw; go_simp; with_reducible rfl)
  simp only [Act.put, List.setIfInBounds_toArray, List.set_cons_zero, List.set_cons_succ]
  refine wpAnyH_take (i := 15) (oi := ?oi1016) (v := ?v1016) ?hi1016 (by kernel_rfl) (by kernel_rfl) (by kernel_rfl) (fun _ _ _ h => h) (Or.inl ⟨?hw1016, ?hy1016⟩) (by assumption) ?rest1016
  case hi1016 => (simp only [List.getElem?_toArray, List.getElem?_cons_zero, List.getElem?_cons_succ]; rfl)
  case hw1016 => rfl
  case hy1016 => first | (intro wx hSw; obtain ⟨_, ⟨_, e0, e1, e2, e3, _⟩, ⟨_, e4, e5, e6, e7, _⟩⟩ := hSw; go_simp; done) | (intro wx hSw; obtain ⟨_, ⟨_, e0, e1, e2, e3, _⟩, ⟨_, e4, e5, e6, e7, _⟩⟩ := hSw; go_simp; with_reducible rfl)
  simp only [Act.put, List.setIfInBounds_toArray, List.set_cons_zero, List.set_cons_succ]
  refine wpAnyH_take (i := 16) (oi := ?oi1017) (v := ?v1017) ?hi1017 (by kernel_rfl) (by kernel_rfl) (by kernel_rfl) (fun _ _ _ h => h) (Or.inl ⟨?hw1017, ?hy1017⟩) (by assumption) ?rest1017
  case hi1017 => (simp only [List.getElem?_toArray, List.getElem?_cons_zero, List.getElem?_cons_succ]; rfl)
  case hw1017 => rfl
  case hy1017 => first | (intro wx hSw; obtain ⟨_, ⟨_, e0, e1, e2, e3, _⟩, ⟨_, e4, e5, e6, e7, _⟩⟩ := hSw; go_simp; done) | (intro wx hSw; obtain ⟨_, ⟨_, e0, e1, e2, e3, _⟩, ⟨_, e4, e5, e6, e7, _⟩⟩ := hSw; go_simp; with_reducible rfl)
  simp only [Act.put, List.setIfInBounds_toArray, List.set_cons_zero, List.set_cons_succ]
  refine wpAnyH_done (by kernel_rfl) ?_ _
  refine NoPanic.normal ?_
  refine hrest _ _ ?_
  go_wp2
  go_ret
  exact ⟨rfl, hHeld.1⟩

set_option maxHeartbeats 4000000 in
set_option maxRecDepth 100000 in
theorem scales1Z (n scale more ra rs : Int) (vs : Int) (w : World)
    (WA : Hid (∀ W, Calls Try.prog 9 #[.int .i64 n, .int .i64 100000] W fun e w' => e = .returned (.int .i64 ra) ∧ w' = W))
    (WS : Hid (∀ W, Calls Try.prog 9 #[.int .i64 scale, .int .i64 4] W fun e w' => e = .returned (.int .i64 rs) ∧ w' = W))
    (WM : Hid (∀ W, Calls Try.prog 9 #[.int .i64 more, .int .i64 3] W fun e w' => e = .returned (.int .i64 1) ∧ w' = W)) (a1 : 0 ≤ ra) (a2 : ra < 100000)
    (CN : Hid (∀ W, Calls Try.prog 8 #[V 3 (ra - 50000) rs EZ] W fun e w' => e = .returned (V 3 0 vs EZ) ∧ Below W.heap.size W w'))
    (CM : Hid (∀ W, Calls Try.prog 12 #[V 3 0 (vs + 1) EZ] W fun e w' => e = .returned (V 3 0 vs EZ) ∧ Below W.heap.size W w'))
    (CV : Hid (∀ W, Calls Try.prog 13 #[V 3 0 vs EZ] W fun e w' => e = .returned (.bool true) ∧ Below W.heap.size W w'))
    (CW : Hid (∀ W, Calls Try.prog 13 #[V 3 0 (vs + 1) EZ] W fun e w' => e = .returned (.bool false) ∧ Below W.heap.size W w')) (b3 : 0 ≤ vs) (b4 : vs ≤ 3) (hne : ((vs + 1) == vs) = false) :
    Calls Try.prog 4 #[.int .i64 n, .int .i64 scale, .int .i64 more] w fun e w' => e = .returned (.bool true) ∧ Below w.heap.size w w' := by
  have hL := hide (Below.refl w.heap.size w)
  go_enter Try.func4, Try.ntmps4
  go_wp2_with fail
  refine (known_any _).mono ?_
  rintro e w1 ⟨rfl, hb1⟩
  replace hL := hide ((unhide hL).trans (hb1.mono (unhide hL).size))
  clear hb1
  go_wp2_with fail
  refine (unhide WA _).mono ?_
  rintro e wq2 ⟨rfl, rfl⟩
  go_wp2_with fail
  refine (unhide WS _).mono ?_
  rintro e wq3 ⟨rfl, rfl⟩
  go_wp2_with fail
  refine (unhide CN _).mono ?_
  rintro e w4 ⟨rfl, hb4⟩
  replace hL := hide ((unhide hL).trans (hb4.mono (unhide hL).size))
  clear hb4
  go_wp2_with fail
  refine wp_loop_rounds 2 ?_
  rw [rounds_succ]
  go_wp2_with fail
  refine (unhide WM _).mono ?_
  rintro e wq5 ⟨rfl, rfl⟩
  go_wp2_with fail
  rw [rounds_succ]
  go_wp2_with fail
  refine (unhide WM _).mono ?_
  rintro e wq6 ⟨rfl, rfl⟩
  go_wp2_with fail
  have hv := hide (four_alloc (.int .i64 3) (.int .i64 0) (.int .i64 vs) (.string EZ) 24 w4)
  replace hL := hide ((unhide hL).alloc (unhide hL).size (.cells #[.int .i64 3, .int .i64 0, .int .i64 vs, .string EZ] 24))
  replace hv := hide (four_more (unhide hv) (.cells #[.int .i64 3, .int .i64 0, .int .i64 (vs + 1), .string EZ] 24))
  have hu := hide (four_alloc (.int .i64 3) (.int .i64 0) (.int .i64 (vs + 1)) (.string EZ) 24 (w4.alloc (.cells #[.int .i64 3, .int .i64 0, .int .i64 vs, .string EZ] 24)))
  replace hL := hide ((unhide hL).alloc (unhide hL).size (.cells #[.int .i64 3, .int .i64 0, .int .i64 (vs + 1), .string EZ] 24))
  simp only [World.size_alloc] at hu
  rename_i Q1 K1 hrest
  clear WA WS WM CN
  refine wp_region_noPanic ?_
  refine wp_region_held_drew (S := S2 w _ _ 3 0 vs EZ 3 0 (vs + 1) EZ) (by kernel_rfl) ⟨(unhide hL).drew, four_drew (unhide hv), four_drew (unhide hu)⟩ (fun hHeld => ?_)
  revert hHeld
  generalize World.drew _ = Wd
  intro hHeld
  refine wpAnyH_take (i := 0) (oi := ?oi1018) (v := ?v1018) ?hi1018 (by kernel_rfl) (by kernel_rfl) (by kernel_rfl) (fun _ _ _ h => h) (Or.inl ⟨?hw1018, ?hy1018⟩) (by assumption) ?rest1018
  case hi1018 => (simp only [List.getElem?_toArray, List.getElem?_cons_zero]; rfl)
  case hw1018 => rfl
  case hy1018 => first | (intro wx hSw; obtain ⟨_, ⟨_, e0, e1, e2, e3, _⟩, ⟨_, e4, e5, e6, e7, _⟩⟩ := hSw; go_simp; done) | (intro wx hSw; obtain ⟨_, ⟨_, e0, e1, e2, e3, _⟩, ⟨_, e4, e5, e6, e7, _⟩⟩ := hSw; go_simp; with_reducible rfl)
  simp only [Act.put, List.setIfInBounds_toArray, List.set_cons_zero, List.set_cons_succ]
  refine wpAnyH_take (i := 2) (oi := ?oi1019) (v := ?v1019) ?hi1019 (by kernel_rfl) (by kernel_rfl) (by kernel_rfl) (fun _ _ _ h => h) (Or.inl ⟨?hw1019, ?hy1019⟩) (by assumption) ?rest1019
  case hi1019 => (simp only [List.getElem?_toArray, List.getElem?_cons_zero, List.getElem?_cons_succ]; rfl)
  case hw1019 => rfl
  case hy1019 => first | (intro wx hSw; obtain ⟨_, ⟨_, e0, e1, e2, e3, _⟩, ⟨_, e4, e5, e6, e7, _⟩⟩ := hSw; go_simp; done) | (intro wx hSw; obtain ⟨_, ⟨_, e0, e1, e2, e3, _⟩, ⟨_, e4, e5, e6, e7, _⟩⟩ := hSw; go_simp; with_reducible rfl)
  simp only [Act.put, List.setIfInBounds_toArray, List.set_cons_zero, List.set_cons_succ]
  refine wpAnyH_ready (rs := [1]) (by kernel_rfl) (by simp) ?_
  refine AllReadyH.cons rfl (fun K1020 hK1020 => ?_) AllReadyH.nil
  go_simp
  go_wp2_with (go_at_call 12; refine (unhide CM _).mono ?_; rintro e wc1020 ⟨rfl, hb1020⟩)
  refine hK1020.out _ _ ?hs1020 (fun hHeld1020 => ?_)
  case hs1020 => exact s2_call hHeld hb1020
  clear hHeld
  have hHeld := hHeld1020; clear hHeld1020 hK1020 K1020 hb1020
  refine wpAnyH_take (i := 3) (oi := ?oi1021) (v := ?v1021) ?hi1021 (by kernel_rfl) (by kernel_rfl) (by kernel_rfl) (fun _ _ _ h => h) (Or.inl ⟨?hw1021, ?hy1021⟩) (by assumption) ?rest1021
  case hi1021 => (simp only [List.getElem?_toArray, List.getElem?_cons_zero, List.getElem?_cons_succ]; rfl)
  case hw1021 => rfl
  case hy1021 => first | (intro wx hSw; obtain ⟨_, ⟨_, e0, e1, e2, e3, _⟩, ⟨_, e4, e5, e6, e7, _⟩⟩ := hSw; go_simp; done) | (intro wx hSw; obtain ⟨_, ⟨_, e0, e1, e2, e3, _⟩, ⟨_, e4, e5, e6, e7, _⟩⟩ := hSw; go_simp; with_reducible rfl)
  simp only [Act.put, List.setIfInBounds_toArray, List.set_cons_zero, List.set_cons_succ]
  refine wpAnyH_take (i := 4) (oi := ?oi1022) (v := ?v1022) ?hi1022 (by kernel_rfl) (by kernel_rfl) (by kernel_rfl) (fun _ _ _ h => h) (Or.inl ⟨?hw1022, ?hy1022⟩) (by assumption) ?rest1022
  case hi1022 => (simp only [List.getElem?_toArray, List.getElem?_cons_zero, List.getElem?_cons_succ]; rfl)
  case hw1022 => rfl
  case hy1022 => first | (intro wx hSw; obtain ⟨_, ⟨_, e0, e1, e2, e3, _⟩, ⟨_, e4, e5, e6, e7, _⟩⟩ := hSw; go_simp; done) | (intro wx hSw; obtain ⟨_, ⟨_, e0, e1, e2, e3, _⟩, ⟨_, e4, e5, e6, e7, _⟩⟩ := hSw; go_simp; with_reducible rfl)
  simp only [Act.put, List.setIfInBounds_toArray, List.set_cons_zero, List.set_cons_succ]
  refine wpAnyH_take (i := 5) (oi := ?oi1023) (v := ?v1023) ?hi1023 (by kernel_rfl) (by kernel_rfl) (by kernel_rfl) (fun _ _ _ h => h) (Or.inl ⟨?hw1023, ?hy1023⟩) (by assumption) ?rest1023
  case hi1023 => (simp only [List.getElem?_toArray, List.getElem?_cons_zero, List.getElem?_cons_succ]; rfl)
  case hw1023 => rfl
  case hy1023 => first | (intro wx hSw; obtain ⟨_, ⟨_, e0, e1, e2, e3, _⟩, ⟨_, e4, e5, e6, e7, _⟩⟩ := hSw; go_simp; done) | (intro wx hSw; obtain ⟨_, ⟨_, e0, e1, e2, e3, _⟩, ⟨_, e4, e5, e6, e7, _⟩⟩ := hSw; go_simp; with_reducible rfl)
  simp only [Act.put, List.setIfInBounds_toArray, List.set_cons_zero, List.set_cons_succ]
  refine wpAnyH_ready (rs := [6]) (by kernel_rfl) (by simp) ?_
  refine AllReadyH.cons rfl (fun K1024 hK1024 => ?_) AllReadyH.nil
  go_simp
  go_wp2_with (go_at_call 13; refine (unhide CV _).mono ?_; rintro e wc1024 ⟨rfl, hb1024⟩)
  refine hK1024.out _ _ ?hs1024 (fun hHeld1024 => ?_)
  case hs1024 => exact s2_call hHeld hb1024
  clear hHeld
  have hHeld := hHeld1024; clear hHeld1024 hK1024 K1024 hb1024
  refine wpAnyH_take (i := 7) (oi := ?oi1025) (v := ?v1025) ?hi1025 (by kernel_rfl) (by kernel_rfl) (by kernel_rfl) (fun _ _ _ h => h) (Or.inl ⟨?hw1025, ?hy1025⟩) (by assumption) ?rest1025
  case hi1025 => (simp only [List.getElem?_toArray, List.getElem?_cons_zero, List.getElem?_cons_succ]; rfl)
  case hw1025 => rfl
  case hy1025 => first | (intro wx hSw; obtain ⟨_, ⟨_, e0, e1, e2, e3, _⟩, ⟨_, e4, e5, e6, e7, _⟩⟩ := hSw; go_simp; done) | (intro wx hSw; obtain ⟨_, ⟨_, e0, e1, e2, e3, _⟩, ⟨_, e4, e5, e6, e7, _⟩⟩ := hSw; go_simp; with_reducible rfl)
  simp only [Act.put, List.setIfInBounds_toArray, List.set_cons_zero, List.set_cons_succ]
  refine wpAnyH_take (i := 8) (oi := ?oi1026) (v := ?v1026) ?hi1026 (by kernel_rfl) (by kernel_rfl) (by kernel_rfl) (fun _ _ _ h => h) (Or.inl ⟨?hw1026, ?hy1026⟩) (by assumption) ?rest1026
  case hi1026 => (simp only [List.getElem?_toArray, List.getElem?_cons_zero, List.getElem?_cons_succ]; rfl)
  case hw1026 => rfl
  case hy1026 => first | (intro wx hSw; obtain ⟨_, ⟨_, e0, e1, e2, e3, _⟩, ⟨_, e4, e5, e6, e7, _⟩⟩ := hSw; go_simp; done) | (intro wx hSw; obtain ⟨_, ⟨_, e0, e1, e2, e3, _⟩, ⟨_, e4, e5, e6, e7, _⟩⟩ := hSw; go_simp; with_reducible rfl)
  simp only [Act.put, List.setIfInBounds_toArray, List.set_cons_zero, List.set_cons_succ]
  refine wpAnyH_take (i := 9) (oi := ?oi1027) (v := ?v1027) ?hi1027 (by kernel_rfl) (by kernel_rfl) (by kernel_rfl) (fun _ _ _ h => h) (Or.inl ⟨?hw1027, ?hy1027⟩) (by assumption) ?rest1027
  case hi1027 => (simp only [List.getElem?_toArray, List.getElem?_cons_zero, List.getElem?_cons_succ]; rfl)
  case hw1027 => rfl
  case hy1027 => first | (intro wx hSw; obtain ⟨_, ⟨_, e0, e1, e2, e3, _⟩, ⟨_, e4, e5, e6, e7, _⟩⟩ := hSw; go_simp; done) | (intro wx hSw; obtain ⟨_, ⟨_, e0, e1, e2, e3, _⟩, ⟨_, e4, e5, e6, e7, _⟩⟩ := hSw; go_simp; with_reducible rfl)
  simp only [Act.put, List.setIfInBounds_toArray, List.set_cons_zero, List.set_cons_succ]
  refine wpAnyH_take (i := 11) (oi := ?oi1028) (v := ?v1028) ?hi1028 (by kernel_rfl) (by kernel_rfl) (by kernel_rfl) (fun _ _ _ h => h) (Or.inl ⟨?hw1028, ?hy1028⟩) (by assumption) ?rest1028
  case hi1028 => (simp only [List.getElem?_toArray, List.getElem?_cons_zero, List.getElem?_cons_succ]; rfl)
  case hw1028 => rfl
  case hy1028 => first | (intro wx hSw; obtain ⟨_, ⟨_, e0, e1, e2, e3, _⟩, ⟨_, e4, e5, e6, e7, _⟩⟩ := hSw; go_simp; done) | (intro wx hSw; obtain ⟨_, ⟨_, e0, e1, e2, e3, _⟩, ⟨_, e4, e5, e6, e7, _⟩⟩ := hSw; go_simp; with_reducible rfl)
  simp only [Act.put, List.setIfInBounds_toArray, List.set_cons_zero, List.set_cons_succ]
  refine wpAnyH_take (i := 12) (oi := ?oi1029) (v := ?v1029) ?hi1029 (by kernel_rfl) (by kernel_rfl) (by kernel_rfl) (fun _ _ _ h => h) (Or.inl ⟨?hw1029, ?hy1029⟩) (by assumption) ?rest1029
  case hi1029 => (simp only [List.getElem?_toArray, List.getElem?_cons_zero, List.getElem?_cons_succ]; rfl)
  case hw1029 => rfl
  case hy1029 => first | (intro wx hSw; obtain ⟨_, ⟨_, e0, e1, e2, e3, _⟩, ⟨_, e4, e5, e6, e7, _⟩⟩ := hSw; go_simp; done) | (intro wx hSw; obtain ⟨_, ⟨_, e0, e1, e2, e3, _⟩, ⟨_, e4, e5, e6, e7, _⟩⟩ := hSw; go_simp; with_reducible rfl)
  simp only [Act.put, List.setIfInBounds_toArray, List.set_cons_zero, List.set_cons_succ]
  refine wpAnyH_take (i := 13) (oi := ?oi1030) (v := ?v1030) ?hi1030 (by kernel_rfl) (by kernel_rfl) (by kernel_rfl) (fun _ _ _ h => h) (Or.inl ⟨?hw1030, ?hy1030⟩) (by assumption) ?rest1030
  case hi1030 => (simp only [List.getElem?_toArray, List.getElem?_cons_zero, List.getElem?_cons_succ]; rfl)
  case hw1030 => rfl
  case hy1030 => first | (intro wx hSw; obtain ⟨_, ⟨_, e0, e1, e2, e3, _⟩, ⟨_, e4, e5, e6, e7, _⟩⟩ := hSw; go_simp; done) | (intro wx hSw; obtain ⟨_, ⟨_, e0, e1, e2, e3, _⟩, ⟨_, e4, e5, e6, e7, _⟩⟩ := hSw; go_simp; with_reducible rfl)
  simp only [Act.put, List.setIfInBounds_toArray, List.set_cons_zero, List.set_cons_succ]
  refine wpAnyH_ready (rs := [10]) (by kernel_rfl) (by simp) ?_
  refine AllReadyH.cons rfl (fun K1031 hK1031 => ?_) AllReadyH.nil
  go_simp
  go_wp2_with (go_at_call 13; refine (unhide CW _).mono ?_; rintro e wc1031 ⟨rfl, hb1031⟩)
  refine hK1031.out _ _ ?hs1031 (fun hHeld1031 => ?_)
  case hs1031 => exact s2_call hHeld hb1031
  clear hHeld
  have hHeld := hHeld1031; clear hHeld1031 hK1031 K1031 hb1031
  refine wpAnyH_take (i := 14) (oi := ?oi1032) (v := ?v1032) ?hi1032 (by kernel_rfl) (by kernel_rfl) (by kernel_rfl) (fun _ _ _ h => h) (Or.inl ⟨?hw1032, ?hy1032⟩) (by assumption) ?rest1032
  case hi1032 => (simp only [List.getElem?_toArray, List.getElem?_cons_zero, List.getElem?_cons_succ]; rfl)
  case hw1032 => rfl
  case hy1032 => first | (intro wx hSw; obtain ⟨_, ⟨_, e0, e1, e2, e3, _⟩, ⟨_, e4, e5, e6, e7, _⟩⟩ := hSw; go_simp; done) | (intro wx hSw; obtain ⟨_, ⟨_, e0, e1, e2, e3, _⟩, ⟨_, e4, e5, e6, e7, _⟩⟩ := hSw; go_simp; with_reducible rfl)
  simp only [Act.put, List.setIfInBounds_toArray, List.set_cons_zero, List.set_cons_succ]
  refine wpAnyH_take (i := 15) (oi := ?oi1033) (v := ?v1033) ?hi1033 (by kernel_rfl) (by kernel_rfl) (by kernel_rfl) (fun _ _ _ h => h) (Or.inl ⟨?hw1033, ?hy1033⟩) (by assumption) ?rest1033
  case hi1033 => (simp only [List.getElem?_toArray, List.getElem?_cons_zero, List.getElem?_cons_succ]; rfl)
  case hw1033 => rfl
  case hy1033 => first | (intro wx hSw; obtain ⟨_, ⟨_, e0, e1, e2, e3, _⟩, ⟨_, e4, e5, e6, e7, _⟩⟩ := hSw; go_simp; done) | (intro wx hSw; obtain ⟨_, ⟨_, e0, e1, e2, e3, _⟩, ⟨_, e4, e5, e6, e7, _⟩⟩ := hSw; go_simp; with_reducible rfl)
  simp only [Act.put, List.setIfInBounds_toArray, List.set_cons_zero, List.set_cons_succ]
  refine wpAnyH_take (i := 16) (oi := ?oi1034) (v := ?v1034) ?hi1034 (by kernel_rfl) (by kernel_rfl) (by kernel_rfl) (fun _ _ _ h => h) (Or.inl ⟨?hw1034, ?hy1034⟩) (by assumption) ?rest1034
  case hi1034 => (simp only [List.getElem?_toArray, List.getElem?_cons_zero, List.getElem?_cons_succ]; rfl)
  case hw1034 => rfl
  case hy1034 => first | (intro wx hSw; obtain ⟨_, ⟨_, e0, e1, e2, e3, _⟩, ⟨_, e4, e5, e6, e7, _⟩⟩ := hSw; go_simp; done) | (intro wx hSw; obtain ⟨_, ⟨_, e0, e1, e2, e3, _⟩, ⟨_, e4, e5, e6, e7, _⟩⟩ := hSw; go_simp; with_reducible rfl)
  simp only [Act.put, List.setIfInBounds_toArray, List.set_cons_zero, List.set_cons_succ]
  refine wpAnyH_done (by kernel_rfl) ?_ _
  refine NoPanic.normal ?_
  refine hrest _ _ ?_
  go_wp2
  go_ret
  exact ⟨rfl, hHeld.1⟩

set_option maxHeartbeats 4000000 in
set_option maxRecDepth 100000 in
theorem scales1N (n scale more ra rs : Int) (vn vs : Int) (w : World)
    (WA : Hid (∀ W, Calls Try.prog 9 #[.int .i64 n, .int .i64 100000] W fun e w' => e = .returned (.int .i64 ra) ∧ w' = W))
    (WS : Hid (∀ W, Calls Try.prog 9 #[.int .i64 scale, .int .i64 4] W fun e w' => e = .returned (.int .i64 rs) ∧ w' = W))
    (WM : Hid (∀ W, Calls Try.prog 9 #[.int .i64 more, .int .i64 3] W fun e w' => e = .returned (.int .i64 1) ∧ w' = W)) (a1 : 0 ≤ ra) (a2 : ra < 100000)
    (CN : Hid (∀ W, Calls Try.prog 8 #[V 3 (ra - 50000) rs EZ] W fun e w' => e = .returned (V 3 vn vs EZ) ∧ Below W.heap.size W w'))
    (CM : Hid (∀ W, Calls Try.prog 12 #[V 3 (10 * vn) (vs + 1) EZ] W fun e w' => e = .returned (V 3 vn vs EZ) ∧ Below W.heap.size W w'))
    (CV : Hid (∀ W, Calls Try.prog 13 #[V 3 vn vs EZ] W fun e w' => e = .returned (.bool true) ∧ Below W.heap.size W w'))
    (CW : Hid (∀ W, Calls Try.prog 13 #[V 3 (10 * vn) (vs + 1) EZ] W fun e w' => e = .returned (.bool false) ∧ Below W.heap.size W w')) (b1 : -50000 ≤ vn) (b2 : vn ≤ 50000) (b3 : 0 ≤ vs) (b4 : vs ≤ 3) (hne : ((10 * vn) == vn) = false) :
    Calls Try.prog 4 #[.int .i64 n, .int .i64 scale, .int .i64 more] w fun e w' => e = .returned (.bool true) ∧ Below w.heap.size w w' := by
  have hL := hide (Below.refl w.heap.size w)
  go_enter Try.func4, Try.ntmps4
  go_wp2_with fail
  refine (known_any _).mono ?_
  rintro e w1 ⟨rfl, hb1⟩
  replace hL := hide ((unhide hL).trans (hb1.mono (unhide hL).size))
  clear hb1
  go_wp2_with fail
  refine (unhide WA _).mono ?_
  rintro e wq2 ⟨rfl, rfl⟩
  go_wp2_with fail
  refine (unhide WS _).mono ?_
  rintro e wq3 ⟨rfl, rfl⟩
  go_wp2_with fail
  refine (unhide CN _).mono ?_
  rintro e w4 ⟨rfl, hb4⟩
  replace hL := hide ((unhide hL).trans (hb4.mono (unhide hL).size))
  clear hb4
  go_wp2_with fail
  refine wp_loop_rounds 2 ?_
  rw [rounds_succ]
  go_wp2_with fail
  refine (unhide WM _).mono ?_
  rintro e wq5 ⟨rfl, rfl⟩
  go_wp2_with fail
  rw [rounds_succ]
  go_wp2_with fail
  refine (unhide WM _).mono ?_
  rintro e wq6 ⟨rfl, rfl⟩
  go_wp2_with fail
  have hv := hide (four_alloc (.int .i64 3) (.int .i64 vn) (.int .i64 vs) (.string EZ) 24 w4)
  replace hL := hide ((unhide hL).alloc (unhide hL).size (.cells #[.int .i64 3, .int .i64 vn, .int .i64 vs, .string EZ] 24))
  replace hv := hide (four_more (unhide hv) (.cells #[.int .i64 3, .int .i64 (10 * vn), .int .i64 (vs + 1), .string EZ] 24))
  have hu := hide (four_alloc (.int .i64 3) (.int .i64 (10 * vn)) (.int .i64 (vs + 1)) (.string EZ) 24 (w4.alloc (.cells #[.int .i64 3, .int .i64 vn, .int .i64 vs, .string EZ] 24)))
  replace hL := hide ((unhide hL).alloc (unhide hL).size (.cells #[.int .i64 3, .int .i64 (10 * vn), .int .i64 (vs + 1), .string EZ] 24))
  simp only [World.size_alloc] at hu
  rename_i Q1 K1 hrest
  clear WA WS WM CN
  refine wp_region_noPanic ?_
  refine wp_region_held_drew (S := S2 w _ _ 3 vn vs EZ 3 (10 * vn) (vs + 1) EZ) (by kernel_rfl) ⟨(unhide hL).drew, four_drew (unhide hv), four_drew (unhide hu)⟩ (fun hHeld => ?_)
  revert hHeld
  generalize World.drew _ = Wd
  intro hHeld
  refine wpAnyH_take (i := 0) (oi := ?oi1035) (v := ?v1035) ?hi1035 (by kernel_rfl) (by kernel_rfl) (by kernel_rfl) (fun _ _ _ h => h) (Or.inl ⟨?hw1035, ?hy1035⟩) (by assumption) ?rest1035
  case hi1035 => (simp only [List.getElem?_toArray, List.getElem?_cons_zero]; rfl)
  case hw1035 => rfl
  case hy1035 => first | (intro wx hSw; obtain ⟨_, ⟨_, e0, e1, e2, e3, _⟩, ⟨_, e4, e5, e6, e7, _⟩⟩ := hSw; go_simp; done) | (intro wx hSw; obtain ⟨_, ⟨_, e0, e1, e2, e3, _⟩, ⟨_, e4, e5, e6, e7, _⟩⟩ := hSw; go_simp; with_reducible rfl)
  simp only [Act.put, List.setIfInBounds_toArray, List.set_cons_zero, List.set_cons_succ]
  refine wpAnyH_take (i := 2) (oi := ?oi1036) (v := ?v1036) ?hi1036 (by kernel_rfl) (by kernel_rfl) (by kernel_rfl) (fun _ _ _ h => h) (Or.inl ⟨?hw1036, ?hy1036⟩) (by assumption) ?rest1036
  case hi1036 => (simp only [List.getElem?_toArray, List.getElem?_cons_zero, List.getElem?_cons_succ]; rfl)
  case hw1036 => rfl
  case hy1036 => first | (intro wx hSw; obtain ⟨_, ⟨_, e0, e1, e2, e3, _⟩, ⟨_, e4, e5, e6, e7, _⟩⟩ := hSw; go_simp; done) | (intro wx hSw; obtain ⟨_, ⟨_, e0, e1, e2, e3, _⟩, ⟨_, e4, e5, e6, e7, _⟩⟩ := hSw; go_simp; with_reducible rfl)
  simp only [Act.put, List.setIfInBounds_toArray, List.set_cons_zero, List.set_cons_succ]
  refine wpAnyH_ready (rs := [1]) (by kernel_rfl) (by simp) ?_
  refine AllReadyH.cons rfl (fun K1037 hK1037 => ?_) AllReadyH.nil
  go_simp
  go_wp2_with (go_at_call 12; refine (unhide CM _).mono ?_; rintro e wc1037 ⟨rfl, hb1037⟩)
  refine hK1037.out _ _ ?hs1037 (fun hHeld1037 => ?_)
  case hs1037 => exact s2_call hHeld hb1037
  clear hHeld
  have hHeld := hHeld1037; clear hHeld1037 hK1037 K1037 hb1037
  refine wpAnyH_take (i := 3) (oi := ?oi1038) (v := ?v1038) ?hi1038 (by kernel_rfl) (by kernel_rfl) (by kernel_rfl) (fun _ _ _ h => h) (Or.inl ⟨?hw1038, ?hy1038⟩) (by assumption) ?rest1038
  case hi1038 => (simp only [List.getElem?_toArray, List.getElem?_cons_zero, List.getElem?_cons_succ]; rfl)
  case hw1038 => rfl
  case hy1038 => first | (intro wx hSw; obtain ⟨_, ⟨_, e0, e1, e2, e3, _⟩, ⟨_, e4, e5, e6, e7, _⟩⟩ := hSw; go_simp; done) | (intro wx hSw; obtain ⟨_, ⟨_, e0, e1, e2, e3, _⟩, ⟨_, e4, e5, e6, e7, _⟩⟩ := hSw; go_simp; with_reducible rfl)
  simp only [Act.put, List.setIfInBounds_toArray, List.set_cons_zero, List.set_cons_succ]
  refine wpAnyH_take (i := 4) (oi := ?oi1039) (v := ?v1039) ?hi1039 (by kernel_rfl) (by kernel_rfl) (by kernel_rfl) (fun _ _ _ h => h) (Or.inl ⟨?hw1039, ?hy1039⟩) (by assumption) ?rest1039
  case hi1039 => (simp only [List.getElem?_toArray, List.getElem?_cons_zero, List.getElem?_cons_succ]; rfl)
  case hw1039 => rfl
  case hy1039 => first | (intro wx hSw; obtain ⟨_, ⟨_, e0, e1, e2, e3, _⟩, ⟨_, e4, e5, e6, e7, _⟩⟩ := hSw; go_simp; done) | (intro wx hSw; obtain ⟨_, ⟨_, e0, e1, e2, e3, _⟩, ⟨_, e4, e5, e6, e7, _⟩⟩ := hSw; go_simp; with_reducible rfl)
  simp only [Act.put, List.setIfInBounds_toArray, List.set_cons_zero, List.set_cons_succ]
  refine wpAnyH_take (i := 5) (oi := ?oi1040) (v := ?v1040) ?hi1040 (by kernel_rfl) (by kernel_rfl) (by kernel_rfl) (fun _ _ _ h => h) (Or.inl ⟨?hw1040, ?hy1040⟩) (by assumption) ?rest1040
  case hi1040 => (simp only [List.getElem?_toArray, List.getElem?_cons_zero, List.getElem?_cons_succ]; rfl)
  case hw1040 => rfl
  case hy1040 => first | (intro wx hSw; obtain ⟨_, ⟨_, e0, e1, e2, e3, _⟩, ⟨_, e4, e5, e6, e7, _⟩⟩ := hSw; go_simp; done) | (intro wx hSw; obtain ⟨_, ⟨_, e0, e1, e2, e3, _⟩, ⟨_, e4, e5, e6, e7, _⟩⟩ := hSw; go_simp; with_reducible rfl)
  simp only [Act.put, List.setIfInBounds_toArray, List.set_cons_zero, List.set_cons_succ]
  refine wpAnyH_ready (rs := [6]) (by kernel_rfl) (by simp) ?_
  refine AllReadyH.cons rfl (fun K1041 hK1041 => ?_) AllReadyH.nil
  go_simp
  go_wp2_with (go_at_call 13; refine (unhide CV _).mono ?_; rintro e wc1041 ⟨rfl, hb1041⟩)
  refine hK1041.out _ _ ?hs1041 (fun hHeld1041 => ?_)
  case hs1041 => exact s2_call hHeld hb1041
  clear hHeld
  have hHeld := hHeld1041; clear hHeld1041 hK1041 K1041 hb1041
  refine wpAnyH_take (i := 7) (oi := ?oi1042) (v := ?v1042) ?hi1042 (by kernel_rfl) (by kernel_rfl) (by kernel_rfl) (fun _ _ _ h => h) (Or.inl ⟨?hw1042, ?hy1042⟩) (by assumption) ?rest1042
  case hi1042 => (simp only [List.getElem?_toArray, List.getElem?_cons_zero, List.getElem?_cons_succ]; rfl)
  case hw1042 => rfl
  case hy1042 => first | (intro wx hSw; obtain ⟨_, ⟨_, e0, e1, e2, e3, _⟩, ⟨_, e4, e5, e6, e7, _⟩⟩ := hSw; go_simp; done) | (intro wx hSw; obtain ⟨_, ⟨_, e0, e1, e2, e3, _⟩, ⟨_, e4, e5, e6, e7, _⟩⟩ := hSw; go_simp; with_reducible rfl)
  simp only [Act.put, List.setIfInBounds_toArray, List.set_cons_zero, List.set_cons_succ]
  refine wpAnyH_take (i := 8) (oi := ?oi1043) (v := ?v1043) ?hi1043 (by kernel_rfl) (by kernel_rfl) (by kernel_rfl) (fun _ _ _ h => h) (Or.inl ⟨?hw1043, ?hy1043⟩) (by assumption) ?rest1043
  case hi1043 => (simp only [List.getElem?_toArray, List.getElem?_cons_zero, List.getElem?_cons_succ]; rfl)
  case hw1043 => rfl
  case hy1043 => first | (intro wx hSw; obtain ⟨_, ⟨_, e0, e1, e2, e3, _⟩, ⟨_, e4, e5, e6, e7, _⟩⟩ := hSw; go_simp; done) | (intro wx hSw; obtain ⟨_, ⟨_, e0, e1, e2, e3, _⟩, ⟨_, e4, e5, e6, e7, _⟩⟩ := hSw; go_simp; with_reducible rfl)
  simp only [Act.put, List.setIfInBounds_toArray, List.set_cons_zero, List.set_cons_succ]
  refine wpAnyH_take (i := 9) (oi := ?oi1044) (v := ?v1044) ?hi1044 (by kernel_rfl) (by kernel_rfl) (by kernel_rfl) (fun _ _ _ h => h) (Or.inl ⟨?hw1044, ?hy1044⟩) (by assumption) ?rest1044
  case hi1044 => (simp only [List.getElem?_toArray, List.getElem?_cons_zero, List.getElem?_cons_succ]; rfl)
  case hw1044 => rfl
  case hy1044 => first | (intro wx hSw; obtain ⟨_, ⟨_, e0, e1, e2, e3, _⟩, ⟨_, e4, e5, e6, e7, _⟩⟩ := hSw; go_simp; done) | (intro wx hSw; obtain ⟨_, ⟨_, e0, e1, e2, e3, _⟩, ⟨_, e4, e5, e6, e7, _⟩⟩ := hSw; go_simp; with_reducible rfl)
  simp only [Act.put, List.setIfInBounds_toArray, List.set_cons_zero, List.set_cons_succ]
  refine wpAnyH_take (i := 11) (oi := ?oi1045) (v := ?v1045) ?hi1045 (by kernel_rfl) (by kernel_rfl) (by kernel_rfl) (fun _ _ _ h => h) (Or.inl ⟨?hw1045, ?hy1045⟩) (by assumption) ?rest1045
  case hi1045 => (simp only [List.getElem?_toArray, List.getElem?_cons_zero, List.getElem?_cons_succ]; rfl)
  case hw1045 => rfl
  case hy1045 => first | (intro wx hSw; obtain ⟨_, ⟨_, e0, e1, e2, e3, _⟩, ⟨_, e4, e5, e6, e7, _⟩⟩ := hSw; go_simp; done) | (intro wx hSw; obtain ⟨_, ⟨_, e0, e1, e2, e3, _⟩, ⟨_, e4, e5, e6, e7, _⟩⟩ := hSw; go_simp; with_reducible rfl)
  simp only [Act.put, List.setIfInBounds_toArray, List.set_cons_zero, List.set_cons_succ]
  refine wpAnyH_take (i := 12) (oi := ?oi1046) (v := ?v1046) ?hi1046 (by kernel_rfl) (by kernel_rfl) (by kernel_rfl) (fun _ _ _ h => h) (Or.inl ⟨?hw1046, ?hy1046⟩) (by assumption) ?rest1046
  case hi1046 => (simp only [List.getElem?_toArray, List.getElem?_cons_zero, List.getElem?_cons_succ]; rfl)
  case hw1046 => rfl
  case hy1046 => first | (intro wx hSw; obtain ⟨_, ⟨_, e0, e1, e2, e3, _⟩, ⟨_, e4, e5, e6, e7, _⟩⟩ := hSw; go_simp; done) | (intro wx hSw; obtain ⟨_, ⟨_, e0, e1, e2, e3, _⟩, ⟨_, e4, e5, e6, e7, _⟩⟩ := hSw; go_simp; with_reducible rfl)
  simp only [Act.put, List.setIfInBounds_toArray, List.set_cons_zero, List.set_cons_succ]
  refine wpAnyH_take (i := 13) (oi := ?oi1047) (v := ?v1047) ?hi1047 (by kernel_rfl) (by kernel_rfl) (by kernel_rfl) (fun _ _ _ h => h) (Or.inl ⟨?hw1047, ?hy1047⟩) (by assumption) ?rest1047
  case hi1047 => (simp only [List.getElem?_toArray, List.getElem?_cons_zero, List.getElem?_cons_succ]; rfl)
  case hw1047 => rfl
  case hy1047 => first | (intro wx hSw; obtain ⟨_, ⟨_, e0, e1, e2, e3, _⟩, ⟨_, e4, e5, e6, e7, _⟩⟩ := hSw; go_simp; done) | (intro wx hSw; obtain ⟨_, ⟨_, e0, e1, e2, e3, _⟩, ⟨_, e4, e5, e6, e7, _⟩⟩ := hSw; go_simp; with_reducible rfl)
  simp only [Act.put, List.setIfInBounds_toArray, List.set_cons_zero, List.set_cons_succ]
  refine wpAnyH_ready (rs := [10]) (by kernel_rfl) (by simp) ?_
  refine AllReadyH.cons rfl (fun K1048 hK1048 => ?_) AllReadyH.nil
  go_simp
  go_wp2_with (go_at_call 13; refine (unhide CW _).mono ?_; rintro e wc1048 ⟨rfl, hb1048⟩)
  refine hK1048.out _ _ ?hs1048 (fun hHeld1048 => ?_)
  case hs1048 => exact s2_call hHeld hb1048
  clear hHeld
  have hHeld := hHeld1048; clear hHeld1048 hK1048 K1048 hb1048
  refine wpAnyH_take (i := 14) (oi := ?oi1049) (v := ?v1049) ?hi1049 (by kernel_rfl) (by kernel_rfl) (by kernel_rfl) (fun _ _ _ h => h) (Or.inl ⟨?hw1049, ?hy1049⟩) (by assumption) ?rest1049
  case hi1049 => (simp only [List.getElem?_toArray, List.getElem?_cons_zero, List.getElem?_cons_succ]; rfl)
  case hw1049 => rfl
  case hy1049 => first | (intro wx hSw; obtain ⟨_, ⟨_, e0, e1, e2, e3, _⟩, ⟨_, e4, e5, e6, e7, _⟩⟩ := hSw; go_simp; done) | (intro wx hSw; obtain ⟨_, ⟨_, e0, e1, e2, e3, _⟩, ⟨_, e4, e5, e6, e7, _⟩⟩ := hSw; go_simp; with_reducible rfl)
  simp only [Act.put, List.setIfInBounds_toArray, List.set_cons_zero, List.set_cons_succ]
  refine wpAnyH_take (i := 15) (oi := ?oi1050) (v := ?v1050) ?hi1050 (by kernel_rfl) (by kernel_rfl) (by kernel_rfl) (fun _ _ _ h => h) (Or.inl ⟨?hw1050, ?hy1050⟩) (by assumption) ?rest1050
  case hi1050 => (simp only [List.getElem?_toArray, List.getElem?_cons_zero, List.getElem?_cons_succ]; rfl)
  case hw1050 => rfl
  case hy1050 => first | (intro wx hSw; obtain ⟨_, ⟨_, e0, e1, e2, e3, _⟩, ⟨_, e4, e5, e6, e7, _⟩⟩ := hSw; go_simp; done) | (intro wx hSw; obtain ⟨_, ⟨_, e0, e1, e2, e3, _⟩, ⟨_, e4, e5, e6, e7, _⟩⟩ := hSw; go_simp; with_reducible rfl)
  simp only [Act.put, List.setIfInBounds_toArray, List.set_cons_zero, List.set_cons_succ]
  refine wpAnyH_take (i := 16) (oi := ?oi1051) (v := ?v1051) ?hi1051 (by kernel_rfl) (by kernel_rfl) (by kernel_rfl) (fun _ _ _ h => h) (Or.inl ⟨?hw1051, ?hy1051⟩) (by assumption) ?rest1051
  case hi1051 => (simp only [List.getElem?_toArray, List.getElem?_cons_zero, List.getElem?_cons_succ]; rfl)
  case hw1051 => rfl
  case hy1051 => first | (intro wx hSw; obtain ⟨_, ⟨_, e0, e1, e2, e3, _⟩, ⟨_, e4, e5, e6, e7, _⟩⟩ := hSw; go_simp; done) | (intro wx hSw; obtain ⟨_, ⟨_, e0, e1, e2, e3, _⟩, ⟨_, e4, e5, e6, e7, _⟩⟩ := hSw; go_simp; with_reducible rfl)
  simp only [Act.put, List.setIfInBounds_toArray, List.set_cons_zero, List.set_cons_succ]
  refine wpAnyH_done (by kernel_rfl) ?_ _
  refine NoPanic.normal ?_
  refine hrest _ _ ?_
  go_wp2
  go_ret
  exact ⟨rfl, hHeld.1⟩

set_option maxHeartbeats 4000000 in
set_option maxRecDepth 100000 in
theorem scales2Z (n scale more ra rs : Int) (vs : Int) (w : World)
    (WA : Hid (∀ W, Calls Try.prog 9 #[.int .i64 n, .int .i64 100000] W fun e w' => e = .returned (.int .i64 ra) ∧ w' = W))
    (WS : Hid (∀ W, Calls Try.prog 9 #[.int .i64 scale, .int .i64 4] W fun e w' => e = .returned (.int .i64 rs) ∧ w' = W))
    (WM : Hid (∀ W, Calls Try.prog 9 #[.int .i64 more, .int .i64 3] W fun e w' => e = .returned (.int .i64 2) ∧ w' = W)) (a1 : 0 ≤ ra) (a2 : ra < 100000)
    (CN : Hid (∀ W, Calls Try.prog 8 #[V 3 (ra - 50000) rs EZ] W fun e w' => e = .returned (V 3 0 vs EZ) ∧ Below W.heap.size W w'))
    (CM : Hid (∀ W, Calls Try.prog 12 #[V 3 0 (vs + 1 + 1) EZ] W fun e w' => e = .returned (V 3 0 vs EZ) ∧ Below W.heap.size W w'))
    (CV : Hid (∀ W, Calls Try.prog 13 #[V 3 0 vs EZ] W fun e w' => e = .returned (.bool true) ∧ Below W.heap.size W w'))
    (CW : Hid (∀ W, Calls Try.prog 13 #[V 3 0 (vs + 1 + 1) EZ] W fun e w' => e = .returned (.bool false) ∧ Below W.heap.size W w')) (b3 : 0 ≤ vs) (b4 : vs ≤ 3) (hne : ((vs + 1 + 1) == vs) = false) :
    Calls Try.prog 4 #[.int .i64 n, .int .i64 scale, .int .i64 more] w fun e w' => e = .returned (.bool true) ∧ Below w.heap.size w w' := by
  have hL := hide (Below.refl w.heap.size w)
  go_enter Try.func4, Try.ntmps4
  go_wp2_with fail
  refine (known_any _).mono ?_
  rintro e w1 ⟨rfl, hb1⟩
  replace hL := hide ((unhide hL).trans (hb1.mono (unhide hL).size))
  clear hb1
  go_wp2_with fail
  refine (unhide WA _).mono ?_
  rintro e wq2 ⟨rfl, rfl⟩
  go_wp2_with fail
  refine (unhide WS _).mono ?_
  rintro e wq3 ⟨rfl, rfl⟩
  go_wp2_with fail
  refine (unhide CN _).mono ?_
  rintro e w4 ⟨rfl, hb4⟩
  replace hL := hide ((unhide hL).trans (hb4.mono (unhide hL).size))
  clear hb4
  go_wp2_with fail
  refine wp_loop_rounds 3 ?_
  rw [rounds_succ]
  go_wp2_with fail
  refine (unhide WM _).mono ?_
  rintro e wq5 ⟨rfl, rfl⟩
  go_wp2_with fail
  rw [rounds_succ]
  go_wp2_with fail
  refine (unhide WM _).mono ?_
  rintro e wq6 ⟨rfl, rfl⟩
  go_wp2_with fail
  rw [rounds_succ]
  go_wp2_with fail
  refine (unhide WM _).mono ?_
  rintro e wq7 ⟨rfl, rfl⟩
  go_wp2_with fail
  have hv := hide (four_alloc (.int .i64 3) (.int .i64 0) (.int .i64 vs) (.string EZ) 24 w4)
  replace hL := hide ((unhide hL).alloc (unhide hL).size (.cells #[.int .i64 3, .int .i64 0, .int .i64 vs, .string EZ] 24))
  replace hv := hide (four_more (unhide hv) (.cells #[.int .i64 3, .int .i64 0, .int .i64 (vs + 1 + 1), .string EZ] 24))
  have hu := hide (four_alloc (.int .i64 3) (.int .i64 0) (.int .i64 (vs + 1 + 1)) (.string EZ) 24 (w4.alloc (.cells #[.int .i64 3, .int .i64 0, .int .i64 vs, .string EZ] 24)))
  replace hL := hide ((unhide hL).alloc (unhide hL).size (.cells #[.int .i64 3, .int .i64 0, .int .i64 (vs + 1 + 1), .string EZ] 24))
  simp only [World.size_alloc] at hu
  rename_i Q1 K1 hrest
  clear WA WS WM CN
  refine wp_region_noPanic ?_
  refine wp_region_held_drew (S := S2 w _ _ 3 0 vs EZ 3 0 (vs + 1 + 1) EZ) (by kernel_rfl) ⟨(unhide hL).drew, four_drew (unhide hv), four_drew (unhide hu)⟩ (fun hHeld => ?_)
  revert hHeld
  generalize World.drew _ = Wd
  intro hHeld
  refine wpAnyH_take (i := 0) (oi := ?oi1052) (v := ?v1052) ?hi1052 (by kernel_rfl) (by kernel_rfl) (by kernel_rfl) (fun _ _ _ h => h) (Or.inl ⟨?hw1052, ?hy1052⟩) (by assumption) ?rest1052
  case hi1052 => (simp only [List.getElem?_toArray, List.getElem?_cons_zero]; rfl)
  case hw1052 => rfl
  case hy1052 => first | (intro wx hSw; obtain ⟨_, ⟨_, e0, e1, e2, e3, _⟩, ⟨_, e4, e5, e6, e7, _⟩⟩ := hSw; go_simp; done) | (intro wx hSw; obtain ⟨_, ⟨_, e0, e1, e2, e3, _⟩, ⟨_, e4, e5, e6, e7, _⟩⟩ := hSw; go_simp; with_reducible rfl)
  simp only [Act.put, List.setIfInBounds_toArray, List.set_cons_zero, List.set_cons_succ]
  refine wpAnyH_take (i := 2) (oi := ?oi1053) (v := ?v1053) ?hi1053 (by kernel_rfl) (by kernel_rfl) (by kernel_rfl) (fun _ _ _ h => h) (Or.inl ⟨?hw1053, ?hy1053⟩) (by assumption) ?rest1053
  case hi1053 => (simp only [List.getElem?_toArray, List.getElem?_cons_zero, List.getElem?_cons_succ]; rfl)
  case hw1053 => rfl
  case hy1053 => first | (intro wx hSw; obtain ⟨_, ⟨_, e0, e1, e2, e3, _⟩, ⟨_, e4, e5, e6, e7, _⟩⟩ := hSw; go_simp; done) | (intro wx hSw; obtain ⟨_, ⟨_, e0, e1, e2, e3, _⟩, ⟨_, e4, e5, e6, e7, _⟩⟩ := hSw; go_simp; with_reducible rfl)
  simp only [Act.put, List.setIfInBounds_toArray, List.set_cons_zero, List.set_cons_succ]
  refine wpAnyH_ready (rs := [1]) (by kernel_rfl) (by simp) ?_
  refine AllReadyH.cons rfl (fun K1054 hK1054 => ?_) AllReadyH.nil
  go_simp
  go_wp2_with (go_at_call 12; refine (unhide CM _).mono ?_; rintro e wc1054 ⟨rfl, hb1054⟩)
  refine hK1054.out _ _ ?hs1054 (fun hHeld1054 => ?_)
  case hs1054 => exact s2_call hHeld hb1054
  clear hHeld
  have hHeld := hHeld1054; clear hHeld1054 hK1054 K1054 hb1054
  refine wpAnyH_take (i := 3) (oi := ?oi1055) (v := ?v1055) ?hi1055 (by kernel_rfl) (by kernel_rfl) (by kernel_rfl) (fun _ _ _ h => h) (Or.inl ⟨?hw1055, ?hy1055⟩) (by assumption) ?rest1055
  case hi1055 => (simp only [List.getElem?_toArray, List.getElem?_cons_zero, List.getElem?_cons_succ]; rfl)
  case hw1055 => rfl
  case hy1055 => first | (intro wx hSw; obtain ⟨_, ⟨_, e0, e1, e2, e3, _⟩, ⟨_, e4, e5, e6, e7, _⟩⟩ := hSw; go_simp; done) | (intro wx hSw; obtain ⟨_, ⟨_, e0, e1, e2, e3, _⟩, ⟨_, e4, e5, e6, e7, _⟩⟩ := hSw; go_simp; with_reducible rfl)
  simp only [Act.put, List.setIfInBounds_toArray, List.set_cons_zero, List.set_cons_succ]
  refine wpAnyH_take (i := 4) (oi := ?oi1056) (v := ?v1056) ?hi1056 (by kernel_rfl) (by kernel_rfl) (by kernel_rfl) (fun _ _ _ h => h) (Or.inl ⟨?hw1056, ?hy1056⟩) (by assumption) ?rest1056
  case hi1056 => (simp only [List.getElem?_toArray, List.getElem?_cons_zero, List.getElem?_cons_succ]; rfl)
  case hw1056 => rfl
  case hy1056 => first | (intro wx hSw; obtain ⟨_, ⟨_, e0, e1, e2, e3, _⟩, ⟨_, e4, e5, e6, e7, _⟩⟩ := hSw; go_simp; done) | (intro wx hSw; obtain ⟨_, ⟨_, e0, e1, e2, e3, _⟩, ⟨_, e4, e5, e6, e7, _⟩⟩ := hSw; go_simp; with_reducible rfl)
  simp only [Act.put, List.setIfInBounds_toArray, List.set_cons_zero, List.set_cons_succ]
  refine wpAnyH_take (i := 5) (oi := ?oi1057) (v := ?v1057) ?hi1057 (by kernel_rfl) (by kernel_rfl) (by kernel_rfl) (fun _ _ _ h => h) (Or.inl ⟨?hw1057, ?hy1057⟩) (by assumption) ?rest1057
  case hi1057 => (simp only [List.getElem?_toArray, List.getElem?_cons_zero, List.getElem?_cons_succ]; rfl)
  case hw1057 => rfl
  case hy1057 => first | (intro wx hSw; obtain ⟨_, ⟨_, e0, e1, e2, e3, _⟩, ⟨_, e4, e5, e6, e7, _⟩⟩ := hSw; go_simp; done) | (intro wx hSw; obtain ⟨_, ⟨_, e0, e1, e2, e3, _⟩, ⟨_, e4, e5, e6, e7, _⟩⟩ := hSw; go_simp; with_reducible rfl)
  simp only [Act.put, List.setIfInBounds_toArray, List.set_cons_zero, List.set_cons_succ]
  refine wpAnyH_ready (rs := [6]) (by kernel_rfl) (by simp) ?_
  refine AllReadyH.cons rfl (fun K1058 hK1058 => ?_) AllReadyH.nil
  go_simp
  go_wp2_with (go_at_call 13; refine (unhide CV _).mono ?_; rintro e wc1058 ⟨rfl, hb1058⟩)
  refine hK1058.out _ _ ?hs1058 (fun hHeld1058 => ?_)
  case hs1058 => exact s2_call hHeld hb1058
  clear hHeld
  have hHeld := hHeld1058; clear hHeld1058 hK1058 K1058 hb1058
  refine wpAnyH_take (i := 7) (oi := ?oi1059) (v := ?v1059) ?hi1059 (by kernel_rfl) (by kernel_rfl) (by kernel_rfl) (fun _ _ _ h => h) (Or.inl ⟨?hw1059, ?hy1059⟩) (by assumption) ?rest1059
  case hi1059 => (simp only [List.getElem?_toArray, List.getElem?_cons_zero, List.getElem?_cons_succ]; rfl)
  case hw1059 => rfl
  case hy1059 => first | (intro wx hSw; obtain ⟨_, ⟨_, e0, e1, e2, e3, _⟩, ⟨_, e4, e5, e6, e7, _⟩⟩ := hSw; go_simp; done) | (intro wx hSw; obtain ⟨_, ⟨_, e0, e1, e2, e3, _⟩, ⟨_, e4, e5, e6, e7, _⟩⟩ := hSw; go_simp; with_reducible rfl)
  simp only [Act.put, List.setIfInBounds_toArray, List.set_cons_zero, List.set_cons_succ]
  refine wpAnyH_take (i := 8) (oi := ?oi1060) (v := ?v1060) ?hi1060 (by kernel_rfl) (by kernel_rfl) (by kernel_rfl) (fun _ _ _ h => h) (Or.inl ⟨?hw1060, ?hy1060⟩) (by assumption) ?rest1060
  case hi1060 => (simp only [List.getElem?_toArray, List.getElem?_cons_zero, List.getElem?_cons_succ]; rfl)
  case hw1060 => rfl
  case hy1060 => first | (intro wx hSw; obtain ⟨_, ⟨_, e0, e1, e2, e3, _⟩, ⟨_, e4, e5, e6, e7, _⟩⟩ := hSw; go_simp; done) | (intro wx hSw; obtain ⟨_, ⟨_, e0, e1, e2, e3, _⟩, ⟨_, e4, e5, e6, e7, _⟩⟩ := hSw; go_simp; with_reducible rfl)
  simp only [Act.put, List.setIfInBounds_toArray, List.set_cons_zero, List.set_cons_succ]
  refine wpAnyH_take (i := 9) (oi := ?oi1061) (v := ?v1061) ?hi1061 (by kernel_rfl) (by kernel_rfl) (by kernel_rfl) (fun _ _ _ h => h) (Or.inl ⟨?hw1061, ?hy1061⟩) (by assumption) ?rest1061
  case hi1061 => (simp only [List.getElem?_toArray, List.getElem?_cons_zero, List.getElem?_cons_succ]; rfl)
  case hw1061 => rfl
  case hy1061 => first | (intro wx hSw; obtain ⟨_, ⟨_, e0, e1, e2, e3, _⟩, ⟨_, e4, e5, e6, e7, _⟩⟩ := hSw; go_simp; done) | (intro wx hSw; obtain ⟨_, ⟨_, e0, e1, e2, e3, _⟩, ⟨_, e4, e5, e6, e7, _⟩⟩ := hSw; go_simp; with_reducible rfl)
  simp only [Act.put, List.setIfInBounds_toArray, List.set_cons_zero, List.set_cons_succ]
  refine wpAnyH_take (i := 11) (oi := ?oi1062) (v := ?v1062) ?hi1062 (by kernel_rfl) (by kernel_rfl) (by kernel_rfl) (fun _ _ _ h => h) (Or.inl ⟨?hw1062, ?hy1062⟩) (by assumption) ?rest1062
  case hi1062 => (simp only [List.getElem?_toArray, List.getElem?_cons_zero, List.getElem?_cons_succ]; rfl)
  case hw1062 => rfl
  case hy1062 => first | (intro wx hSw; obtain ⟨_, ⟨_, e0, e1, e2, e3, _⟩, ⟨_, e4, e5, e6, e7, _⟩⟩ := hSw; go_simp; done) | (intro wx hSw; obtain ⟨_, ⟨_, e0, e1, e2, e3, _⟩, ⟨_, e4, e5, e6, e7, _⟩⟩ := hSw; go_simp; with_reducible rfl)
  simp only [Act.put, List.setIfInBounds_toArray, List.set_cons_zero, List.set_cons_succ]
  refine wpAnyH_take (i := 12) (oi := ?oi1063) (v := ?v1063) ?hi1063 (by kernel_rfl) (by kernel_rfl) (by kernel_rfl) (fun _ _ _ h => h) (Or.inl ⟨?hw1063, ?hy1063⟩) (by assumption) ?rest1063
  case hi1063 => (simp only [List.getElem?_toArray, List.getElem?_cons_zero, List.getElem?_cons_succ]; rfl)
  case hw1063 => rfl
  case hy1063 => first | (intro wx hSw; obtain ⟨_, ⟨_, e0, e1, e2, e3, _⟩, ⟨_, e4, e5, e6, e7, _⟩⟩ := hSw; go_simp; done) | (intro wx hSw; obtain ⟨_, ⟨_, e0, e1, e2, e3, _⟩, ⟨_, e4, e5, e6, e7, _⟩⟩ := hSw; go_simp; with_reducible rfl)
  simp only [Act.put, List.setIfInBounds_toArray, List.set_cons_zero, List.set_cons_succ]
  refine wpAnyH_take (i := 13) (oi := ?oi1064) (v := ?v1064) ?hi1064 (by kernel_rfl) (by kernel_rfl) (by kernel_rfl) (fun _ _ _ h => h) (Or.inl ⟨?hw1064, ?hy1064⟩) (by assumption) ?rest1064
  case hi1064 => (simp only [List.getElem?_toArray, List.getElem?_cons_zero, List.getElem?_cons_succ]; rfl)
  case hw1064 => rfl
  case hy1064 => first | (intro wx hSw; obtain ⟨_, ⟨_, e0, e1, e2, e3, _⟩, ⟨_, e4, e5, e6, e7, _⟩⟩ := hSw; go_simp; done) | (intro wx hSw; obtain ⟨_, ⟨_, e0, e1, e2, e3, _⟩, ⟨_, e4, e5, e6, e7, _⟩⟩ := hSw; go_simp; with_reducible rfl)
  simp only [Act.put, List.setIfInBounds_toArray, List.set_cons_zero, List.set_cons_succ]
  refine wpAnyH_ready (rs := [10]) (by kernel_rfl) (by simp) ?_
  refine AllReadyH.cons rfl (fun K1065 hK1065 => ?_) AllReadyH.nil
  go_simp
  go_wp2_with (go_at_call 13; refine (unhide CW _).mono ?_; rintro e wc1065 ⟨rfl, hb1065⟩)
  refine hK1065.out _ _ ?hs1065 (fun hHeld1065 => ?_)
  case hs1065 => exact s2_call hHeld hb1065
  clear hHeld
  have hHeld := hHeld1065; clear hHeld1065 hK1065 K1065 hb1065
  refine wpAnyH_take (i := 14) (oi := ?oi1066) (v := ?v1066) ?hi1066 (by kernel_rfl) (by kernel_rfl) (by kernel_rfl) (fun _ _ _ h => h) (Or.inl ⟨?hw1066, ?hy1066⟩) (by assumption) ?rest1066
  case hi1066 => (simp only [List.getElem?_toArray, List.getElem?_cons_zero, List.getElem?_cons_succ]; rfl)
  case hw1066 => rfl
  case hy1066 => first | (intro wx hSw; obtain ⟨_, ⟨_, e0, e1, e2, e3, _⟩, ⟨_, e4, e5, e6, e7, _⟩⟩ := hSw; go_simp; done) | (intro wx hSw; obtain ⟨_, ⟨_, e0, e1, e2, e3, _⟩, ⟨_, e4, e5, e6, e7, _⟩⟩ := hSw; go_simp; with_reducible rfl)
  simp only [Act.put, List.setIfInBounds_toArray, List.set_cons_zero, List.set_cons_succ]
  refine wpAnyH_take (i := 15) (oi := ?oi1067) (v := ?v1067) ?hi1067 (by kernel_rfl) (by kernel_rfl) (by kernel_rfl) (fun _ _ _ h => h) (Or.inl ⟨?hw1067, ?hy1067⟩) (by assumption) ?rest1067
  case hi1067 => (simp only [List.getElem?_toArray, List.getElem?_cons_zero, List.getElem?_cons_succ]; rfl)
  case hw1067 => rfl
  case hy1067 => first | (intro wx hSw; obtain ⟨_, ⟨_, e0, e1, e2, e3, _⟩, ⟨_, e4, e5, e6, e7, _⟩⟩ := hSw; go_simp; done) | (intro wx hSw; obtain ⟨_, ⟨_, e0, e1, e2, e3, _⟩, ⟨_, e4, e5, e6, e7, _⟩⟩ := hSw; go_simp; with_reducible rfl)
  simp only [Act.put, List.setIfInBounds_toArray, List.set_cons_zero, List.set_cons_succ]
  refine wpAnyH_take (i := 16) (oi := ?oi1068) (v := ?v1068) ?hi1068 (by kernel_rfl) (by kernel_rfl) (by kernel_rfl) (fun _ _ _ h => h) (Or.inl ⟨?hw1068, ?hy1068⟩) (by assumption) ?rest1068
  case hi1068 => (simp only [List.getElem?_toArray, List.getElem?_cons_zero, List.getElem?_cons_succ]; rfl)
  case hw1068 => rfl
  case hy1068 => first | (intro wx hSw; obtain ⟨_, ⟨_, e0, e1, e2, e3, _⟩, ⟨_, e4, e5, e6, e7, _⟩⟩ := hSw; go_simp; done) | (intro wx hSw; obtain ⟨_, ⟨_, e0, e1, e2, e3, _⟩, ⟨_, e4, e5, e6, e7, _⟩⟩ := hSw; go_simp; with_reducible rfl)
  simp only [Act.put, List.setIfInBounds_toArray, List.set_cons_zero, List.set_cons_succ]
  refine wpAnyH_done (by kernel_rfl) ?_ _
  refine NoPanic.normal ?_
  refine hrest _ _ ?_
  go_wp2
  go_ret
  exact ⟨rfl, hHeld.1⟩

set_option maxHeartbeats 4000000 in
set_option maxRecDepth 100000 in
theorem scales2N (n scale more ra rs : Int) (vn vs : Int) (w : World)
    (WA : Hid (∀ W, Calls Try.prog 9 #[.int .i64 n, .int .i64 100000] W fun e w' => e = .returned (.int .i64 ra) ∧ w' = W))
    (WS : Hid (∀ W, Calls Try.prog 9 #[.int .i64 scale, .int .i64 4] W fun e w' => e = .returned (.int .i64 rs) ∧ w' = W))
    (WM : Hid (∀ W, Calls Try.prog 9 #[.int .i64 more, .int .i64 3] W fun e w' => e = .returned (.int .i64 2) ∧ w' = W)) (a1 : 0 ≤ ra) (a2 : ra < 100000)
    (CN : Hid (∀ W, Calls Try.prog 8 #[V 3 (ra - 50000) rs EZ] W fun e w' => e = .returned (V 3 vn vs EZ) ∧ Below W.heap.size W w'))
    (CM : Hid (∀ W, Calls Try.prog 12 #[V 3 (10 * (10 * vn)) (vs + 1 + 1) EZ] W fun e w' => e = .returned (V 3 vn vs EZ) ∧ Below W.heap.size W w'))
    (CV : Hid (∀ W, Calls Try.prog 13 #[V 3 vn vs EZ] W fun e w' => e = .returned (.bool true) ∧ Below W.heap.size W w'))
    (CW : Hid (∀ W, Calls Try.prog 13 #[V 3 (10 * (10 * vn)) (vs + 1 + 1) EZ] W fun e w' => e = .returned (.bool false) ∧ Below W.heap.size W w')) (b1 : -50000 ≤ vn) (b2 : vn ≤ 50000) (b3 : 0 ≤ vs) (b4 : vs ≤ 3) (hne : ((10 * (10 * vn)) == vn) = false) :
    Calls Try.prog 4 #[.int .i64 n, .int .i64 scale, .int .i64 more] w fun e w' => e = .returned (.bool true) ∧ Below w.heap.size w w' := by
  have hL := hide (Below.refl w.heap.size w)
  go_enter Try.func4, Try.ntmps4
  go_wp2_with fail
  refine (known_any _).mono ?_
  rintro e w1 ⟨rfl, hb1⟩
  replace hL := hide ((unhide hL).trans (hb1.mono (unhide hL).size))
  clear hb1
  go_wp2_with fail
  refine (unhide WA _).mono ?_
  rintro e wq2 ⟨rfl, rfl⟩
  go_wp2_with fail
  refine (unhide WS _).mono ?_
  rintro e wq3 ⟨rfl, rfl⟩
  go_wp2_with fail
  refine (unhide CN _).mono ?_
  rintro e w4 ⟨rfl, hb4⟩
  replace hL := hide ((unhide hL).trans (hb4.mono (unhide hL).size))
  clear hb4
  go_wp2_with fail
  refine wp_loop_rounds 3 ?_
  rw [rounds_succ]
  go_wp2_with fail
  refine (unhide WM _).mono ?_
  rintro e wq5 ⟨rfl, rfl⟩
  go_wp2_with fail
  rw [rounds_succ]
  go_wp2_with fail
  refine (unhide WM _).mono ?_
  rintro e wq6 ⟨rfl, rfl⟩
  go_wp2_with fail
  rw [rounds_succ]
  go_wp2_with fail
  refine (unhide WM _).mono ?_
  rintro e wq7 ⟨rfl, rfl⟩
  go_wp2_with fail
  have hv := hide (four_alloc (.int .i64 3) (.int .i64 vn) (.int .i64 vs) (.string EZ) 24 w4)
  replace hL := hide ((unhide hL).alloc (unhide hL).size (.cells #[.int .i64 3, .int .i64 vn, .int .i64 vs, .string EZ] 24))
  replace hv := hide (four_more (unhide hv) (.cells #[.int .i64 3, .int .i64 (10 * (10 * vn)), .int .i64 (vs + 1 + 1), .string EZ] 24))
  have hu := hide (four_alloc (.int .i64 3) (.int .i64 (10 * (10 * vn))) (.int .i64 (vs + 1 + 1)) (.string EZ) 24 (w4.alloc (.cells #[.int .i64 3, .int .i64 vn, .int .i64 vs, .string EZ] 24)))
  replace hL := hide ((unhide hL).alloc (unhide hL).size (.cells #[.int .i64 3, .int .i64 (10 * (10 * vn)), .int .i64 (vs + 1 + 1), .string EZ] 24))
  simp only [World.size_alloc] at hu
  rename_i Q1 K1 hrest
  clear WA WS WM CN
  refine wp_region_noPanic ?_
  refine wp_region_held_drew (S := S2 w _ _ 3 vn vs EZ 3 (10 * (10 * vn)) (vs + 1 + 1) EZ) (by kernel_rfl) ⟨(unhide hL).drew, four_drew (unhide hv), four_drew (unhide hu)⟩ (fun hHeld => ?_)
  revert hHeld
  generalize World.drew _ = Wd
  intro hHeld
  refine wpAnyH_take (i := 0) (oi := ?oi1069) (v := ?v1069) ?hi1069 (by kernel_rfl) (by kernel_rfl) (by kernel_rfl) (fun _ _ _ h => h) (Or.inl ⟨?hw1069, ?hy1069⟩) (by assumption) ?rest1069
  case hi1069 => (simp only [List.getElem?_toArray, List.getElem?_cons_zero]; rfl)
  case hw1069 => rfl
  case hy1069 => first | (intro wx hSw; obtain ⟨_, ⟨_, e0, e1, e2, e3, _⟩, ⟨_, e4, e5, e6, e7, _⟩⟩ := hSw; go_simp; done) | (intro wx hSw; obtain ⟨_, ⟨_, e0, e1, e2, e3, _⟩, ⟨_, e4, e5, e6, e7, _⟩⟩ := hSw; go_simp; with_reducible rfl)
  simp only [Act.put, List.setIfInBounds_toArray, List.set_cons_zero, List.set_cons_succ]
  refine wpAnyH_take (i := 2) (oi := ?oi1070) (v := ?v1070) ?hi1070 (by kernel_rfl) (by kernel_rfl) (by kernel_rfl) (fun _ _ _ h => h) (Or.inl ⟨?hw1070, ?hy1070⟩) (by assumption) ?rest1070
  case hi1070 => (simp only [List.getElem?_toArray, List.getElem?_cons_zero, List.getElem?_cons_succ]; rfl)
  case hw1070 => rfl
  case hy1070 => first | (intro wx hSw; obtain ⟨_, ⟨_, e0, e1, e2, e3, _⟩, ⟨_, e4, e5, e6, e7, _⟩⟩ := hSw; go_simp; done) | (intro wx hSw; obtain ⟨_, ⟨_, e0, e1, e2, e3, _⟩, ⟨_, e4, e5, e6, e7, _⟩⟩ := hSw; go_simp; with_reducible rfl)
  simp only [Act.put, List.setIfInBounds_toArray, List.set_cons_zero, List.set_cons_succ]
  refine wpAnyH_ready (rs := [1]) (by kernel_rfl) (by simp) ?_
  refine AllReadyH.cons rfl (fun K1071 hK1071 => ?_) AllReadyH.nil
  go_simp
  go_wp2_with (go_at_call 12; refine (unhide CM _).mono ?_; rintro e wc1071 ⟨rfl, hb1071⟩)
  refine hK1071.out _ _ ?hs1071 (fun hHeld1071 => ?_)
  case hs1071 => exact s2_call hHeld hb1071
  clear hHeld
  have hHeld := hHeld1071; clear hHeld1071 hK1071 K1071 hb1071
  refine wpAnyH_take (i := 3) (oi := ?oi1072) (v := ?v1072) ?hi1072 (by kernel_rfl) (by kernel_rfl) (by kernel_rfl) (fun _ _ _ h => h) (Or.inl ⟨?hw1072, ?hy1072⟩) (by assumption) ?rest1072
  case hi1072 => (simp only [List.getElem?_toArray, List.getElem?_cons_zero, List.getElem?_cons_succ]; rfl)
  case hw1072 => rfl
  case hy1072 => first | (intro wx hSw; obtain ⟨_, ⟨_, e0, e1, e2, e3, _⟩, ⟨_, e4, e5, e6, e7, _⟩⟩ := hSw; go_simp; done) | (intro wx hSw; obtain ⟨_, ⟨_, e0, e1, e2, e3, _⟩, ⟨_, e4, e5, e6, e7, _⟩⟩ := hSw; go_simp; with_reducible rfl)
  simp only [Act.put, List.setIfInBounds_toArray, List.set_cons_zero, List.set_cons_succ]
  refine wpAnyH_take (i := 4) (oi := ?oi1073) (v := ?v1073) ?hi1073 (by kernel_rfl) (by kernel_rfl) (by kernel_rfl) (fun _ _ _ h => h) (Or.inl ⟨?hw1073, ?hy1073⟩) (by assumption) ?rest1073
  case hi1073 => (simp only [List.getElem?_toArray, List.getElem?_cons_zero, List.getElem?_cons_succ]; rfl)
  case hw1073 => rfl
  case hy1073 => first | (intro wx hSw; obtain ⟨_, ⟨_, e0, e1, e2, e3, _⟩, ⟨_, e4, e5, e6, e7, _⟩⟩ := hSw; go_simp; done) | (intro wx hSw; obtain ⟨_, ⟨_, e0, e1, e2, e3, _⟩, ⟨_, e4, e5, e6, e7, _⟩⟩ := hSw; go_simp; with_reducible rfl)
  simp only [Act.put, List.setIfInBounds_toArray, List.set_cons_zero, List.set_cons_succ]
  refine wpAnyH_take (i := 5) (oi := ?oi1074) (v := ?v1074) ?hi1074 (by kernel_rfl) (by kernel_rfl) (by kernel_rfl) (fun _ _ _ h => h) (Or.inl ⟨?hw1074, ?hy1074⟩) (by assumption) ?rest1074
  case hi1074 => (simp only [List.getElem?_toArray, List.getElem?_cons_zero, List.getElem?_cons_succ]; rfl)
  case hw1074 => rfl
  case hy1074 => first | (intro wx hSw; obtain ⟨_, ⟨_, e0, e1, e2, e3, _⟩, ⟨_, e4, e5, e6, e7, _⟩⟩ := hSw; go_simp; done) | (intro wx hSw; obtain ⟨_, ⟨_, e0, e1, e2, e3, _⟩, ⟨_, e4, e5, e6, e7, _⟩⟩ := hSw; go_simp; with_reducible rfl)
  simp only [Act.put, List.setIfInBounds_toArray, List.set_cons_zero, List.set_cons_succ]
  refine wpAnyH_ready (rs := [6]) (by kernel_rfl) (by simp) ?_
  refine AllReadyH.cons rfl (fun K1075 hK1075 => ?_) AllReadyH.nil
  go_simp
  go_wp2_with (go_at_call 13; refine (unhide CV _).mono ?_; rintro e wc1075 ⟨rfl, hb1075⟩)
  refine hK1075.out _ _ ?hs1075 (fun hHeld1075 => ?_)
  case hs1075 => exact s2_call hHeld hb1075
  clear hHeld
  have hHeld := hHeld1075; clear hHeld1075 hK1075 K1075 hb1075
  refine wpAnyH_take (i := 7) (oi := ?oi1076) (v := ?v1076) ?hi1076 (by kernel_rfl) (by kernel_rfl) (by kernel_rfl) (fun _ _ _ h => h) (Or.inl ⟨?hw1076, ?hy1076⟩) (by assumption) ?rest1076
  case hi1076 => (simp only [List.getElem?_toArray, List.getElem?_cons_zero, List.getElem?_cons_succ]; rfl)
  case hw1076 => rfl
  case hy1076 => first | (intro wx hSw; obtain ⟨_, ⟨_, e0, e1, e2, e3, _⟩, ⟨_, e4, e5, e6, e7, _⟩⟩ := hSw; go_simp; done) | (intro wx hSw; obtain ⟨_, ⟨_, e0, e1, e2, e3, _⟩, ⟨_, e4, e5, e6, e7, _⟩⟩ := hSw; go_simp; with_reducible rfl)
  simp only [Act.put, List.setIfInBounds_toArray, List.set_cons_zero, List.set_cons_succ]
  refine wpAnyH_take (i := 8) (oi := ?oi1077) (v := ?v1077) ?hi1077 (by kernel_rfl) (by kernel_rfl) (by kernel_rfl) (fun _ _ _ h => h) (Or.inl ⟨?hw1077, ?hy1077⟩) (by assumption) ?rest1077
  case hi1077 => (simp only [List.getElem?_toArray, List.getElem?_cons_zero, List.getElem?_cons_succ]; rfl)
  case hw1077 => rfl
  case hy1077 => first | (intro wx hSw; obtain ⟨_, ⟨_, e0, e1, e2, e3, _⟩, ⟨_, e4, e5, e6, e7, _⟩⟩ := hSw; go_simp; done) | (intro wx hSw; obtain ⟨_, ⟨_, e0, e1, e2, e3, _⟩, ⟨_, e4, e5, e6, e7, _⟩⟩ := hSw; go_simp; with_reducible rfl)
  simp only [Act.put, List.setIfInBounds_toArray, List.set_cons_zero, List.set_cons_succ]
  refine wpAnyH_take (i := 9) (oi := ?oi1078) (v := ?v1078) ?hi1078 (by kernel_rfl) (by kernel_rfl) (by kernel_rfl) (fun _ _ _ h => h) (Or.inl ⟨?hw1078, ?hy1078⟩) (by assumption) ?rest1078
  case hi1078 => (simp only [List.getElem?_toArray, List.getElem?_cons_zero, List.getElem?_cons_succ]; rfl)
  case hw1078 => rfl
  case hy1078 => first | (intro wx hSw; obtain ⟨_, ⟨_, e0, e1, e2, e3, _⟩, ⟨_, e4, e5, e6, e7, _⟩⟩ := hSw; go_simp; done) | (intro wx hSw; obtain ⟨_, ⟨_, e0, e1, e2, e3, _⟩, ⟨_, e4, e5, e6, e7, _⟩⟩ := hSw; go_simp; with_reducible rfl)
  simp only [Act.put, List.setIfInBounds_toArray, List.set_cons_zero, List.set_cons_succ]
  refine wpAnyH_take (i := 11) (oi := ?oi1079) (v := ?v1079) ?hi1079 (by kernel_rfl) (by kernel_rfl) (by kernel_rfl) (fun _ _ _ h => h) (Or.inl ⟨?hw1079, ?hy1079⟩) (by assumption) ?rest1079
  case hi1079 => (simp only [List.getElem?_toArray, List.getElem?_cons_zero, List.getElem?_cons_succ]; rfl)
  case hw1079 => rfl
  case hy1079 => first | (intro wx hSw; obtain ⟨_, ⟨_, e0, e1, e2, e3, _⟩, ⟨_, e4, e5, e6, e7, _⟩⟩ := hSw; go_simp; done) | (intro wx hSw; obtain ⟨_, ⟨_, e0, e1, e2, e3, _⟩, ⟨_, e4, e5, e6, e7, _⟩⟩ := hSw; go_simp; with_reducible rfl)
  simp only [Act.put, List.setIfInBounds_toArray, List.set_cons_zero, List.set_cons_succ]
  refine wpAnyH_take (i := 12) (oi := ?oi1080) (v := ?v1080) ?hi1080 (by kernel_rfl) (by kernel_rfl) (by kernel_rfl) (fun _ _ _ h => h) (Or.inl ⟨?hw1080, ?hy1080⟩) (by assumption) ?rest1080
  case hi1080 => (simp only [List.getElem?_toArray, List.getElem?_cons_zero, List.getElem?_cons_succ]; rfl)
  case hw1080 => rfl
  case hy1080 => first | (intro wx hSw; obtain ⟨_, ⟨_, e0, e1, e2, e3, _⟩, ⟨_, e4, e5, e6, e7, _⟩⟩ := hSw; go_simp; done) | (intro wx hSw; obtain ⟨_, ⟨_, e0, e1, e2, e3, _⟩, ⟨_, e4, e5, e6, e7, _⟩⟩ := hSw; go_simp; with_reducible rfl)
  simp only [Act.put, List.setIfInBounds_toArray, List.set_cons_zero, List.set_cons_succ]
  refine wpAnyH_take (i := 13) (oi := ?oi1081) (v := ?v1081) ?hi1081 (by kernel_rfl) (by kernel_rfl) (by kernel_rfl) (fun _ _ _ h => h) (Or.inl ⟨?hw1081, ?hy1081⟩) (by assumption) ?rest1081
  case hi1081 => (simp only [List.getElem?_toArray, List.getElem?_cons_zero, List.getElem?_cons_succ]; rfl)
  case hw1081 => rfl
  case hy1081 => first | (intro wx hSw; obtain ⟨_, ⟨_, e0, e1, e2, e3, _⟩, ⟨_, e4, e5, e6, e7, _⟩⟩ := hSw; go_simp; done) | (intro wx hSw; obtain ⟨_, ⟨_, e0, e1, e2, e3, _⟩, ⟨_, e4, e5, e6, e7, _⟩⟩ := hSw; go_simp; with_reducible rfl)
  simp only [Act.put, List.setIfInBounds_toArray, List.set_cons_zero, List.set_cons_succ]
  refine wpAnyH_ready (rs := [10]) (by kernel_rfl) (by simp) ?_
  refine AllReadyH.cons rfl (fun K1082 hK1082 => ?_) AllReadyH.nil
  go_simp
  go_wp2_with (go_at_call 13; refine (unhide CW _).mono ?_; rintro e wc1082 ⟨rfl, hb1082⟩)
  refine hK1082.out _ _ ?hs1082 (fun hHeld1082 => ?_)
  case hs1082 => exact s2_call hHeld hb1082
  clear hHeld
  have hHeld := hHeld1082; clear hHeld1082 hK1082 K1082 hb1082
  refine wpAnyH_take (i := 14) (oi := ?oi1083) (v := ?v1083) ?hi1083 (by kernel_rfl) (by kernel_rfl) (by kernel_rfl) (fun _ _ _ h => h) (Or.inl ⟨?hw1083, ?hy1083⟩) (by assumption) ?rest1083
  case hi1083 => (simp only [List.getElem?_toArray, List.getElem?_cons_zero, List.getElem?_cons_succ]; rfl)
  case hw1083 => rfl
  case hy1083 => first | (intro wx hSw; obtain ⟨_, ⟨_, e0, e1, e2, e3, _⟩, ⟨_, e4, e5, e6, e7, _⟩⟩ := hSw; go_simp; done) | (intro wx hSw; obtain ⟨_, ⟨_, e0, e1, e2, e3, _⟩, ⟨_, e4, e5, e6, e7, _⟩⟩ := hSw; go_simp; with_reducible rfl)
  simp only [Act.put, List.setIfInBounds_toArray, List.set_cons_zero, List.set_cons_succ]
  refine wpAnyH_take (i := 15) (oi := ?oi1084) (v := ?v1084) ?hi1084 (by kernel_rfl) (by kernel_rfl) (by kernel_rfl) (fun _ _ _ h => h) (Or.inl ⟨?hw1084, ?hy1084⟩) (by assumption) ?rest1084
  case hi1084 => (simp only [List.getElem?_toArray, List.getElem?_cons_zero, List.getElem?_cons_succ]; rfl)
  case hw1084 => rfl
  case hy1084 => first | (intro wx hSw; obtain ⟨_, ⟨_, e0, e1, e2, e3, _⟩, ⟨_, e4, e5, e6, e7, _⟩⟩ := hSw; go_simp; done) | (intro wx hSw; obtain ⟨_, ⟨_, e0, e1, e2, e3, _⟩, ⟨_, e4, e5, e6, e7, _⟩⟩ := hSw; go_simp; with_reducible rfl)
  simp only [Act.put, List.setIfInBounds_toArray, List.set_cons_zero, List.set_cons_succ]
  refine wpAnyH_take (i := 16) (oi := ?oi1085) (v := ?v1085) ?hi1085 (by kernel_rfl) (by kernel_rfl) (by kernel_rfl) (fun _ _ _ h => h) (Or.inl ⟨?hw1085, ?hy1085⟩) (by assumption) ?rest1085
  case hi1085 => (simp only [List.getElem?_toArray, List.getElem?_cons_zero, List.getElem?_cons_succ]; rfl)
  case hw1085 => rfl
  case hy1085 => first | (intro wx hSw; obtain ⟨_, ⟨_, e0, e1, e2, e3, _⟩, ⟨_, e4, e5, e6, e7, _⟩⟩ := hSw; go_simp; done) | (intro wx hSw; obtain ⟨_, ⟨_, e0, e1, e2, e3, _⟩, ⟨_, e4, e5, e6, e7, _⟩⟩ := hSw; go_simp; with_reducible rfl)
  simp only [Act.put, List.setIfInBounds_toArray, List.set_cons_zero, List.set_cons_succ]
  refine wpAnyH_done (by kernel_rfl) ?_ _
  refine NoPanic.normal ?_
  refine hrest _ _ ?_
  go_wp2
  go_ret
  exact ⟨rfl, hHeld.1⟩


theorem beq_no {a b : Int} (h : a ≠ b) : (a == b) = false := beq_eq_false_iff_ne.2 h
theorem right_c (n s : Int) (W : World) (b : Bool) (h : rdB n s = b) : Calls Try.prog 13 #[V 3 n s EZ] W fun e w' => e = .returned (.bool b) ∧ Below W.heap.size W w' :=
  (right_any 3 n s EZ W (by decide)).mono (fun _ _ hh => ⟨hh.1.trans (ret_bool ((right_dec n s).trans h)), hh.2⟩)
theorem norm_c (n s n' s' : Int) (W : World) (hn : Is64 n) (hs : Is64 s) (h : normN n s = n' ∧ normC n s = s') : Calls Try.prog 12 #[V 3 n s EZ] W fun e w' => e = .returned (V 3 n' s' EZ) ∧ Below W.heap.size W w' :=
  (norm_dec n s EZ W hn hs).mono (fun _ _ hh => ⟨hh.1.trans (retV h.1 h.2), hh.2⟩)
theorem valScales_walk (n scale more : Int) (wn : (Lit.int .i64 n).wf = true) (ws : (Lit.int .i64 scale).wf = true) (wm : (Lit.int .i64 more).wf = true) (w : World) :
    Calls Try.prog 4 #[.int .i64 n, .int .i64 scale, .int .i64 more] w fun e w' => e = .returned (.bool true) ∧ Below w.heap.size w w' := by
  have WA := hide (fun W => within_any n 100000 W (is64_wf wn) (by decide))
  have WS := hide (fun W => within_any scale 4 W (is64_wf ws) (by decide))
  have WM := hide (fun W => within_any more 3 W (is64_wf wm) (by decide))
  have a1 := Int.emod_nonneg n (show (100000 : Int) ≠ 0 by decide)
  have a2 := Int.emod_lt_of_pos n (show (0 : Int) < 100000 by decide)
  have c1 := Int.emod_nonneg scale (show (4 : Int) ≠ 0 by decide)
  have c2 := Int.emod_lt_of_pos scale (show (0 : Int) < 4 by decide)
  have d1 := Int.emod_nonneg more (show (3 : Int) ≠ 0 by decide)
  have d2 := Int.emod_lt_of_pos more (show (0 : Int) < 3 by decide)
  generalize n % 100000 = ra at *
  generalize scale % 4 = rs at *
  generalize more % 3 = r at *
  have CN := hide (fun W => rnorm_dec (ra - 50000) rs EZ W (by unfold Is64; omega) (by unfold Is64; omega))
  obtain ⟨hN, b3, b4, b5⟩ := norm_normed (ra - 50000) rs c1
  generalize normN (ra - 50000) rs = vn at *
  generalize normC (ra - 50000) rs = vs at *
  have hd := normed_done hN
  have hR := rd_normed hN b3 (by omega) (by omega)
  have CV := hide (fun W => right_c vn vs W true hR)
  have h1 := norm_ten vn vs b3
  have h2 := norm_ten (10 * vn) (vs + 1) (by omega)
  have hr : r = 0 ∨ r = 1 ∨ r = 2 := by omega
  rcases hr with rfl | rfl | rfl
  · exact scales0 n scale more ra rs vn vs w WA WS WM a1 a2 CN (hide (fun W => norm_c vn vs vn vs W (by unfold Is64; omega) (by unfold Is64; omega) hd)) CV CV (by omega) (by omega) b3 (by omega)
  · have CM := hide (fun W => norm_c (10 * vn) (vs + 1) vn vs W (by unfold Is64; omega) (by unfold Is64; omega) ⟨h1.1.trans hd.1, h1.2.trans hd.2⟩)
    have CW := hide (fun W => right_c (10 * vn) (vs + 1) W false (rd_ten b3))
    by_cases hz : vn = 0
    · subst hz; exact scales1Z n scale more ra rs vs w WA WS WM a1 a2 CN CM CV CW b3 (by omega) (beq_no (by omega))
    · exact scales1N n scale more ra rs vn vs w WA WS WM a1 a2 CN CM CV CW (by omega) (by omega) b3 (by omega) (beq_no (by omega))
  · have CM := hide (fun W => norm_c (10 * (10 * vn)) (vs + 1 + 1) vn vs W (by unfold Is64; omega) (by unfold Is64; omega) ⟨(h2.1.trans h1.1).trans hd.1, (h2.2.trans h1.2).trans hd.2⟩)
    have CW := hide (fun W => right_c (10 * (10 * vn)) (vs + 1 + 1) W false (rd_ten (by omega)))
    by_cases hz : vn = 0
    · subst hz; exact scales2Z n scale more ra rs vs w WA WS WM a1 a2 CN CM CV CW b3 (by omega) (beq_no (by omega))
    · exact scales2N n scale more ra rs vn vs w WA WS WM a1 a2 CN CM CV CW (by omega) (by omega) b3 (by omega) (beq_no (by omega))
end Go.Proofs.Ytdifkecpcnakoab
