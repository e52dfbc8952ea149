/-
  What the reference's functions known, Less, Same return.
-/
import Derived.Test.YtliefgkhpgigaaaX
import Derived.Deep.RegionHeld3
import Derived.Deep.DrawnRows
namespace Go.Proofs.Ytliefgkhpgigaaa
open Go.RowKit
set_option linter.unusedSimpArgs false
set_option linter.unusedVariables false

def rkB (k k' : Int) : Bool := k != 0 && k == k'
set_option maxHeartbeats 400000 in
theorem rknown_any (k n s : Int) (t : ByteArray) (k' n' s' : Int) (t' : ByteArray) (w : World) :
    Calls Try.prog 81 #[V k n s t, V k' n' s' t'] w fun e w' => e = .returned (.bool (rkB k k')) ∧ Below w.heap.size w w' := by
  unfold rkB
  go_enter Try.func81, Try.ntmps81
  go_wp2
  all_goals
    go_ret
    exact ⟨ret_bool (by simp_all), ((Below.refl _ _).alloc (Nat.le_refl _) _).alloc (by simp) _⟩

/-- the world has but grown; two values lie in blocks of their own -/
def S2 (w : World) (a b : Nat) (x0 x1 x2 x3 y0 y1 y2 y3 : Value) (W : World) : Prop :=
  Below w.heap.size w W ∧ Four a x0 x1 x2 x3 W ∧ Four b y0 y1 y2 y3 W
theorem s2_call {w : World} {a b : Nat} {x0 x1 x2 x3 y0 y1 y2 y3 : Value} {W w1 : World} (h : S2 w a b x0 x1 x2 x3 y0 y1 y2 y3 W) (hb : Below W.heap.size W w1) : S2 w a b x0 x1 x2 x3 y0 y1 y2 y3 w1 :=
  ⟨h.1.trans (hb.mono h.1.size), four_call h.2.1 hb, four_call h.2.2 hb⟩
theorem s2_start (w : World) (x0 x1 x2 x3 y0 y1 y2 y3 : Value) (T : TypeId) : S2 w w.heap.size (w.heap.size + 1) x0 x1 x2 x3 y0 y1 y2 y3 (((w.alloc (.cells #[x0, x1, x2, x3] T)).alloc (.cells #[y0, y1, y2, y3] T)).drew) := by
  refine ⟨(((Below.refl _ _).alloc (Nat.le_refl _) _).alloc (by simp) _).drew, four_drew (four_more (four_alloc _ _ _ _ _ _) _), four_drew ?_⟩
  have := four_alloc y0 y1 y2 y3 T (w.alloc (.cells #[x0, x1, x2, x3] T))
  rw [World.size_alloc] at this; exact this
theorem tup_bb' {a b c d : Bool} (h1 : a = b) (h2 : c = d) : Ending.returned (.tuple #[.bool a, .bool c]) = .returned (.tuple #[.bool b, .bool d]) := by rw [h1, h2]

set_option maxHeartbeats 2000000 in
set_option maxRecDepth 100000 in
theorem rless_any (k n s : Int) (t : ByteArray) (k' n' s' : Int) (t' : ByteArray) (w : World) (hA : DecIn k n s) (hB : DecIn k' n' s') :
    Calls Try.prog 70 #[V k n s t, V k' n' s' t'] w fun e w' =>
      e = .returned (.tuple #[.bool (rkB k k' && decide (rordV k n s t k' n' s' t' < 0)), .bool (rkB k k')]) ∧ Below w.heap.size w w' := by
  have CO := hide (fun W => rorder_any k n s t k' n' s' t' W hA hB)
  have CK := hide (fun W => rknown_any k n s t k' n' s' t' W)
  clear hA hB
  generalize rordV k n s t k' n' s' t' = o at *
  cases hk : rkB k k'
  · rw [hk] at CK
    clear hk
    go_enter Try.func70, Try.ntmps70
    go_wp2_with fail
    rename_i Q1 K1 hrest
    refine wp_region_noPanic ?_
    refine wp_region_held_drew (S := S2 w w.heap.size (w.heap.size + 1) (.int .i64 k) (.int .i64 n) (.int .i64 s) (.string t) (.int .i64 k') (.int .i64 n') (.int .i64 s') (.string t')) (by kernel_rfl) (s2_start w _ _ _ _ _ _ _ _ _) (fun hHeld => ?_)
    revert hHeld
    generalize World.drew _ = Wd
    intro hHeld
    refine wpAnyH_take (i := 0) (oi := ?oi1001) (v := ?v1001) ?hi1001 (by kernel_rfl) (by kernel_rfl) (by kernel_rfl) (fun _ _ _ h => h) (Or.inl ⟨?hw1001, ?hy1001⟩) (by assumption) ?rest1001
    case hi1001 => (simp only [List.getElem?_toArray, List.getElem?_cons_zero]; rfl)
    case hw1001 => rfl
    case hy1001 => first | (intro wx hSw; obtain ⟨-, ⟨-, a0, a1, a2, a3, -⟩, ⟨-, b0, b1, b2, b3, -⟩⟩ := hSw; go_simp; done) | (intro wx hSw; obtain ⟨-, ⟨-, a0, a1, a2, a3, -⟩, ⟨-, b0, b1, b2, b3, -⟩⟩ := hSw; go_simp; with_reducible rfl)
    simp only [Act.put, List.setIfInBounds_toArray, List.set_cons_zero, List.set_cons_succ]
    refine wpAnyH_take (i := 1) (oi := ?oi1002) (v := ?v1002) ?hi1002 (by kernel_rfl) (by kernel_rfl) (by kernel_rfl) (fun _ _ _ h => h) (Or.inl ⟨?hw1002, ?hy1002⟩) (by assumption) ?rest1002
    case hi1002 => (simp only [List.getElem?_toArray, List.getElem?_cons_zero, List.getElem?_cons_succ]; rfl)
    case hw1002 => rfl
    case hy1002 => first | (intro wx hSw; obtain ⟨-, ⟨-, a0, a1, a2, a3, -⟩, ⟨-, b0, b1, b2, b3, -⟩⟩ := hSw; go_simp; done) | (intro wx hSw; obtain ⟨-, ⟨-, a0, a1, a2, a3, -⟩, ⟨-, b0, b1, b2, b3, -⟩⟩ := hSw; go_simp; with_reducible rfl)
    simp only [Act.put, List.setIfInBounds_toArray, List.set_cons_zero, List.set_cons_succ]
    refine wpAnyH_take (i := 9) (oi := ?oi1003) (v := ?v1003) ?hi1003 (by kernel_rfl) (by kernel_rfl) (by kernel_rfl) (fun _ _ _ h => h) (Or.inl ⟨?hw1003, ?hy1003⟩) (by assumption) ?rest1003
    case hi1003 => (simp only [List.getElem?_toArray, List.getElem?_cons_zero, List.getElem?_cons_succ]; rfl)
    case hw1003 => rfl
    case hy1003 => first | (intro wx hSw; obtain ⟨-, ⟨-, a0, a1, a2, a3, -⟩, ⟨-, b0, b1, b2, b3, -⟩⟩ := hSw; go_simp; done) | (intro wx hSw; obtain ⟨-, ⟨-, a0, a1, a2, a3, -⟩, ⟨-, b0, b1, b2, b3, -⟩⟩ := hSw; go_simp; with_reducible rfl)
    simp only [Act.put, List.setIfInBounds_toArray, List.set_cons_zero, List.set_cons_succ]
    refine wpAnyH_take (i := 10) (oi := ?oi1004) (v := ?v1004) ?hi1004 (by kernel_rfl) (by kernel_rfl) (by kernel_rfl) (fun _ _ _ h => h) (Or.inl ⟨?hw1004, ?hy1004⟩) (by assumption) ?rest1004
    case hi1004 => (simp only [List.getElem?_toArray, List.getElem?_cons_zero, List.getElem?_cons_succ]; rfl)
    case hw1004 => rfl
    case hy1004 => first | (intro wx hSw; obtain ⟨-, ⟨-, a0, a1, a2, a3, -⟩, ⟨-, b0, b1, b2, b3, -⟩⟩ := hSw; go_simp; done) | (intro wx hSw; obtain ⟨-, ⟨-, a0, a1, a2, a3, -⟩, ⟨-, b0, b1, b2, b3, -⟩⟩ := hSw; go_simp; with_reducible rfl)
    simp only [Act.put, List.setIfInBounds_toArray, List.set_cons_zero, List.set_cons_succ]
    refine wpAnyH_ready (rs := [2]) (by kernel_rfl) (by simp) ?_
    refine AllReadyH.cons rfl (fun K1005 hK1005 => ?_) AllReadyH.nil
    go_simp
    go_wp2_with (go_at_call 81; refine (unhide CK _).mono ?_; rintro e wc1005 ⟨rfl, hb1005⟩)
    refine hK1005.out _ _ ?hs1005 (fun hHeld1005 => ?_)
    case hs1005 => exact s2_call hHeld hb1005
    clear hHeld
    have hHeld := hHeld1005; clear hHeld1005 hK1005 K1005 hb1005
    refine wpAnyH_take (i := 3) (oi := ?oi1006) (v := ?v1006) ?hi1006 (by kernel_rfl) (by kernel_rfl) (by kernel_rfl) (fun _ _ _ h => h) (Or.inl ⟨?hw1006, ?hy1006⟩) (by assumption) ?rest1006
    case hi1006 => (simp only [List.getElem?_toArray, List.getElem?_cons_zero, List.getElem?_cons_succ]; rfl)
    case hw1006 => rfl
    case hy1006 => first | (intro wx hSw; obtain ⟨-, ⟨-, a0, a1, a2, a3, -⟩, ⟨-, b0, b1, b2, b3, -⟩⟩ := hSw; go_simp; done) | (intro wx hSw; obtain ⟨-, ⟨-, a0, a1, a2, a3, -⟩, ⟨-, b0, b1, b2, b3, -⟩⟩ := hSw; go_simp; with_reducible rfl)
    simp only [Act.put, List.setIfInBounds_toArray, List.set_cons_zero, List.set_cons_succ]
    refine wpAnyH_take (i := 4) (oi := ?oi1007) (v := undef) ?hi1007 (by kernel_rfl) (by kernel_rfl) (by kernel_rfl) (fun _ _ _ h => h) (Or.inr ⟨?hw1007, rfl⟩) (by assumption) ?rest1007
    case hi1007 => (simp only [List.getElem?_toArray, List.getElem?_cons_zero, List.getElem?_cons_succ]; rfl)
    case hw1007 => rfl
    simp only [Act.put, List.setIfInBounds_toArray, List.set_cons_zero, List.set_cons_succ]
    refine wpAnyH_take (i := 5) (oi := ?oi1008) (v := undef) ?hi1008 (by kernel_rfl) (by kernel_rfl) (by kernel_rfl) (fun _ _ _ h => h) (Or.inr ⟨?hw1008, rfl⟩) (by assumption) ?rest1008
    case hi1008 => (simp only [List.getElem?_toArray, List.getElem?_cons_zero, List.getElem?_cons_succ]; rfl)
    case hw1008 => rfl
    simp only [Act.put, List.setIfInBounds_toArray, List.set_cons_zero, List.set_cons_succ]
    refine wpAnyH_take (i := 6) (oi := ?oi1009) (v := undef) ?hi1009 (by kernel_rfl) (by kernel_rfl) (by kernel_rfl) (fun _ _ _ h => h) (Or.inr ⟨?hw1009, rfl⟩) (by assumption) ?rest1009
    case hi1009 => (simp only [List.getElem?_toArray, List.getElem?_cons_zero, List.getElem?_cons_succ]; rfl)
    case hw1009 => rfl
    simp only [Act.put, List.setIfInBounds_toArray, List.set_cons_zero, List.set_cons_succ]
    refine wpAnyH_take (i := 7) (oi := ?oi1010) (v := undef) ?hi1010 (by kernel_rfl) (by kernel_rfl) (by kernel_rfl) (fun _ _ _ h => h) (Or.inr ⟨?hw1010, rfl⟩) (by assumption) ?rest1010
    case hi1010 => (simp only [List.getElem?_toArray, List.getElem?_cons_zero, List.getElem?_cons_succ]; rfl)
    case hw1010 => rfl
    simp only [Act.put, List.setIfInBounds_toArray, List.set_cons_zero, List.set_cons_succ]
    refine wpAnyH_take (i := 8) (oi := ?oi1011) (v := ?v1011) ?hi1011 (by kernel_rfl) (by kernel_rfl) (by kernel_rfl) (fun _ _ _ h => h) (Or.inl ⟨?hw1011, ?hy1011⟩) (by assumption) ?rest1011
    case hi1011 => (simp only [List.getElem?_toArray, List.getElem?_cons_zero, List.getElem?_cons_succ]; rfl)
    case hw1011 => rfl
    case hy1011 => first | (intro wx hSw; obtain ⟨-, ⟨-, a0, a1, a2, a3, -⟩, ⟨-, b0, b1, b2, b3, -⟩⟩ := hSw; go_simp; done) | (intro wx hSw; obtain ⟨-, ⟨-, a0, a1, a2, a3, -⟩, ⟨-, b0, b1, b2, b3, -⟩⟩ := hSw; go_simp; with_reducible rfl)
    simp only [Act.put, List.setIfInBounds_toArray, List.set_cons_zero, List.set_cons_succ]
    refine wpAnyH_ready (rs := [11]) (by kernel_rfl) (by simp) ?_
    refine AllReadyH.cons rfl (fun K1012 hK1012 => ?_) AllReadyH.nil
    go_simp
    go_wp2_with (go_at_call 81; refine (unhide CK _).mono ?_; rintro e wc1012 ⟨rfl, hb1012⟩)
    refine hK1012.out _ _ ?hs1012 (fun hHeld1012 => ?_)
    case hs1012 => exact s2_call hHeld hb1012
    clear hHeld
    have hHeld := hHeld1012; clear hHeld1012 hK1012 K1012 hb1012
    refine wpAnyH_take (i := 12) (oi := ?oi1013) (v := ?v1013) ?hi1013 (by kernel_rfl) (by kernel_rfl) (by kernel_rfl) (fun _ _ _ h => h) (Or.inl ⟨?hw1013, ?hy1013⟩) (by assumption) ?rest1013
    case hi1013 => (simp only [List.getElem?_toArray, List.getElem?_cons_zero, List.getElem?_cons_succ]; rfl)
    case hw1013 => rfl
    case hy1013 => first | (intro wx hSw; obtain ⟨-, ⟨-, a0, a1, a2, a3, -⟩, ⟨-, b0, b1, b2, b3, -⟩⟩ := hSw; go_simp; done) | (intro wx hSw; obtain ⟨-, ⟨-, a0, a1, a2, a3, -⟩, ⟨-, b0, b1, b2, b3, -⟩⟩ := hSw; go_simp; with_reducible rfl)
    simp only [Act.put, List.setIfInBounds_toArray, List.set_cons_zero, List.set_cons_succ]
    refine wpAnyH_take (i := 13) (oi := ?oi1014) (v := ?v1014) ?hi1014 (by kernel_rfl) (by kernel_rfl) (by kernel_rfl) (fun _ _ _ h => h) (Or.inl ⟨?hw1014, ?hy1014⟩) (by assumption) ?rest1014
    case hi1014 => (simp only [List.getElem?_toArray, List.getElem?_cons_zero, List.getElem?_cons_succ]; rfl)
    case hw1014 => rfl
    case hy1014 => first | (intro wx hSw; obtain ⟨-, ⟨-, a0, a1, a2, a3, -⟩, ⟨-, b0, b1, b2, b3, -⟩⟩ := hSw; go_simp; done) | (intro wx hSw; obtain ⟨-, ⟨-, a0, a1, a2, a3, -⟩, ⟨-, b0, b1, b2, b3, -⟩⟩ := hSw; go_simp; with_reducible rfl)
    simp only [Act.put, List.setIfInBounds_toArray, List.set_cons_zero, List.set_cons_succ]
    refine wpAnyH_done (by kernel_rfl) ?_ _
    refine NoPanic.normal ?_
    refine hrest _ _ ?_
    have HW := hide hHeld.1
    clear hHeld hrest
    go_wp2_with fail
    go_ret2
    exact ⟨tup_bb' (by simp) rfl, unhide HW⟩
  · rw [hk] at CK
    clear hk
    go_enter Try.func70, Try.ntmps70
    go_wp2_with fail
    rename_i Q1 K1 hrest
    refine wp_region_noPanic ?_
    refine wp_region_held_drew (S := S2 w w.heap.size (w.heap.size + 1) (.int .i64 k) (.int .i64 n) (.int .i64 s) (.string t) (.int .i64 k') (.int .i64 n') (.int .i64 s') (.string t')) (by kernel_rfl) (s2_start w _ _ _ _ _ _ _ _ _) (fun hHeld => ?_)
    revert hHeld
    generalize World.drew _ = Wd
    intro hHeld
    refine wpAnyH_take (i := 0) (oi := ?oi1015) (v := ?v1015) ?hi1015 (by kernel_rfl) (by kernel_rfl) (by kernel_rfl) (fun _ _ _ h => h) (Or.inl ⟨?hw1015, ?hy1015⟩) (by assumption) ?rest1015
    case hi1015 => (simp only [List.getElem?_toArray, List.getElem?_cons_zero]; rfl)
    case hw1015 => rfl
    case hy1015 => first | (intro wx hSw; obtain ⟨-, ⟨-, a0, a1, a2, a3, -⟩, ⟨-, b0, b1, b2, b3, -⟩⟩ := hSw; go_simp; done) | (intro wx hSw; obtain ⟨-, ⟨-, a0, a1, a2, a3, -⟩, ⟨-, b0, b1, b2, b3, -⟩⟩ := hSw; go_simp; with_reducible rfl)
    simp only [Act.put, List.setIfInBounds_toArray, List.set_cons_zero, List.set_cons_succ]
    refine wpAnyH_take (i := 1) (oi := ?oi1016) (v := ?v1016) ?hi1016 (by kernel_rfl) (by kernel_rfl) (by kernel_rfl) (fun _ _ _ h => h) (Or.inl ⟨?hw1016, ?hy1016⟩) (by assumption) ?rest1016
    case hi1016 => (simp only [List.getElem?_toArray, List.getElem?_cons_zero, List.getElem?_cons_succ]; rfl)
    case hw1016 => rfl
    case hy1016 => first | (intro wx hSw; obtain ⟨-, ⟨-, a0, a1, a2, a3, -⟩, ⟨-, b0, b1, b2, b3, -⟩⟩ := hSw; go_simp; done) | (intro wx hSw; obtain ⟨-, ⟨-, a0, a1, a2, a3, -⟩, ⟨-, b0, b1, b2, b3, -⟩⟩ := hSw; go_simp; with_reducible rfl)
    simp only [Act.put, List.setIfInBounds_toArray, List.set_cons_zero, List.set_cons_succ]
    refine wpAnyH_take (i := 9) (oi := ?oi1017) (v := ?v1017) ?hi1017 (by kernel_rfl) (by kernel_rfl) (by kernel_rfl) (fun _ _ _ h => h) (Or.inl ⟨?hw1017, ?hy1017⟩) (by assumption) ?rest1017
    case hi1017 => (simp only [List.getElem?_toArray, List.getElem?_cons_zero, List.getElem?_cons_succ]; rfl)
    case hw1017 => rfl
    case hy1017 => first | (intro wx hSw; obtain ⟨-, ⟨-, a0, a1, a2, a3, -⟩, ⟨-, b0, b1, b2, b3, -⟩⟩ := hSw; go_simp; done) | (intro wx hSw; obtain ⟨-, ⟨-, a0, a1, a2, a3, -⟩, ⟨-, b0, b1, b2, b3, -⟩⟩ := hSw; go_simp; with_reducible rfl)
    simp only [Act.put, List.setIfInBounds_toArray, List.set_cons_zero, List.set_cons_succ]
    refine wpAnyH_take (i := 10) (oi := ?oi1018) (v := ?v1018) ?hi1018 (by kernel_rfl) (by kernel_rfl) (by kernel_rfl) (fun _ _ _ h => h) (Or.inl ⟨?hw1018, ?hy1018⟩) (by assumption) ?rest1018
    case hi1018 => (simp only [List.getElem?_toArray, List.getElem?_cons_zero, List.getElem?_cons_succ]; rfl)
    case hw1018 => rfl
    case hy1018 => first | (intro wx hSw; obtain ⟨-, ⟨-, a0, a1, a2, a3, -⟩, ⟨-, b0, b1, b2, b3, -⟩⟩ := hSw; go_simp; done) | (intro wx hSw; obtain ⟨-, ⟨-, a0, a1, a2, a3, -⟩, ⟨-, b0, b1, b2, b3, -⟩⟩ := hSw; go_simp; with_reducible rfl)
    simp only [Act.put, List.setIfInBounds_toArray, List.set_cons_zero, List.set_cons_succ]
    refine wpAnyH_ready (rs := [2]) (by kernel_rfl) (by simp) ?_
    refine AllReadyH.cons rfl (fun K1019 hK1019 => ?_) AllReadyH.nil
    go_simp
    go_wp2_with (go_at_call 81; refine (unhide CK _).mono ?_; rintro e wc1019 ⟨rfl, hb1019⟩)
    refine hK1019.out _ _ ?hs1019 (fun hHeld1019 => ?_)
    case hs1019 => exact s2_call hHeld hb1019
    clear hHeld
    have hHeld := hHeld1019; clear hHeld1019 hK1019 K1019 hb1019
    refine wpAnyH_take (i := 3) (oi := ?oi1020) (v := ?v1020) ?hi1020 (by kernel_rfl) (by kernel_rfl) (by kernel_rfl) (fun _ _ _ h => h) (Or.inl ⟨?hw1020, ?hy1020⟩) (by assumption) ?rest1020
    case hi1020 => (simp only [List.getElem?_toArray, List.getElem?_cons_zero, List.getElem?_cons_succ]; rfl)
    case hw1020 => rfl
    case hy1020 => first | (intro wx hSw; obtain ⟨-, ⟨-, a0, a1, a2, a3, -⟩, ⟨-, b0, b1, b2, b3, -⟩⟩ := hSw; go_simp; done) | (intro wx hSw; obtain ⟨-, ⟨-, a0, a1, a2, a3, -⟩, ⟨-, b0, b1, b2, b3, -⟩⟩ := hSw; go_simp; with_reducible rfl)
    simp only [Act.put, List.setIfInBounds_toArray, List.set_cons_zero, List.set_cons_succ]
    refine wpAnyH_take (i := 4) (oi := ?oi1021) (v := ?v1021) ?hi1021 (by kernel_rfl) (by kernel_rfl) (by kernel_rfl) (fun _ _ _ h => h) (Or.inl ⟨?hw1021, ?hy1021⟩) (by assumption) ?rest1021
    case hi1021 => (simp only [List.getElem?_toArray, List.getElem?_cons_zero, List.getElem?_cons_succ]; rfl)
    case hw1021 => rfl
    case hy1021 => first | (intro wx hSw; obtain ⟨-, ⟨-, a0, a1, a2, a3, -⟩, ⟨-, b0, b1, b2, b3, -⟩⟩ := hSw; go_simp; done) | (intro wx hSw; obtain ⟨-, ⟨-, a0, a1, a2, a3, -⟩, ⟨-, b0, b1, b2, b3, -⟩⟩ := hSw; go_simp; with_reducible rfl)
    simp only [Act.put, List.setIfInBounds_toArray, List.set_cons_zero, List.set_cons_succ]
    refine wpAnyH_take (i := 5) (oi := ?oi1022) (v := ?v1022) ?hi1022 (by kernel_rfl) (by kernel_rfl) (by kernel_rfl) (fun _ _ _ h => h) (Or.inl ⟨?hw1022, ?hy1022⟩) (by assumption) ?rest1022
    case hi1022 => (simp only [List.getElem?_toArray, List.getElem?_cons_zero, List.getElem?_cons_succ]; rfl)
    case hw1022 => rfl
    case hy1022 => first | (intro wx hSw; obtain ⟨-, ⟨-, a0, a1, a2, a3, -⟩, ⟨-, b0, b1, b2, b3, -⟩⟩ := hSw; go_simp; done) | (intro wx hSw; obtain ⟨-, ⟨-, a0, a1, a2, a3, -⟩, ⟨-, b0, b1, b2, b3, -⟩⟩ := hSw; go_simp; with_reducible rfl)
    simp only [Act.put, List.setIfInBounds_toArray, List.set_cons_zero, List.set_cons_succ]
    refine wpAnyH_ready (rs := [6]) (by kernel_rfl) (by simp) ?_
    refine AllReadyH.cons rfl (fun K1023 hK1023 => ?_) AllReadyH.nil
    go_simp
    go_wp2_with (go_at_call 82; refine (unhide CO _).mono ?_; rintro e wc1023 ⟨rfl, hb1023⟩)
    refine hK1023.out _ _ ?hs1023 (fun hHeld1023 => ?_)
    case hs1023 => exact s2_call hHeld hb1023
    clear hHeld
    have hHeld := hHeld1023; clear hHeld1023 hK1023 K1023 hb1023
    refine wpAnyH_take (i := 7) (oi := ?oi1024) (v := ?v1024) ?hi1024 (by kernel_rfl) (by kernel_rfl) (by kernel_rfl) (fun _ _ _ h => h) (Or.inl ⟨?hw1024, ?hy1024⟩) (by assumption) ?rest1024
    case hi1024 => (simp only [List.getElem?_toArray, List.getElem?_cons_zero, List.getElem?_cons_succ]; rfl)
    case hw1024 => rfl
    case hy1024 => first | (intro wx hSw; obtain ⟨-, ⟨-, a0, a1, a2, a3, -⟩, ⟨-, b0, b1, b2, b3, -⟩⟩ := hSw; go_simp; done) | (intro wx hSw; obtain ⟨-, ⟨-, a0, a1, a2, a3, -⟩, ⟨-, b0, b1, b2, b3, -⟩⟩ := hSw; go_simp; with_reducible rfl)
    simp only [Act.put, List.setIfInBounds_toArray, List.set_cons_zero, List.set_cons_succ]
    refine wpAnyH_take (i := 8) (oi := ?oi1025) (v := ?v1025) ?hi1025 (by kernel_rfl) (by kernel_rfl) (by kernel_rfl) (fun _ _ _ h => h) (Or.inl ⟨?hw1025, ?hy1025⟩) (by assumption) ?rest1025
    case hi1025 => (simp only [List.getElem?_toArray, List.getElem?_cons_zero, List.getElem?_cons_succ]; rfl)
    case hw1025 => rfl
    case hy1025 => first | (intro wx hSw; obtain ⟨-, ⟨-, a0, a1, a2, a3, -⟩, ⟨-, b0, b1, b2, b3, -⟩⟩ := hSw; go_simp; done) | (intro wx hSw; obtain ⟨-, ⟨-, a0, a1, a2, a3, -⟩, ⟨-, b0, b1, b2, b3, -⟩⟩ := hSw; go_simp; with_reducible rfl)
    simp only [Act.put, List.setIfInBounds_toArray, List.set_cons_zero, List.set_cons_succ]
    refine wpAnyH_ready (rs := [11]) (by kernel_rfl) (by simp) ?_
    refine AllReadyH.cons rfl (fun K1026 hK1026 => ?_) AllReadyH.nil
    go_simp
    go_wp2_with (go_at_call 81; refine (unhide CK _).mono ?_; rintro e wc1026 ⟨rfl, hb1026⟩)
    refine hK1026.out _ _ ?hs1026 (fun hHeld1026 => ?_)
    case hs1026 => exact s2_call hHeld hb1026
    clear hHeld
    have hHeld := hHeld1026; clear hHeld1026 hK1026 K1026 hb1026
    refine wpAnyH_take (i := 12) (oi := ?oi1027) (v := ?v1027) ?hi1027 (by kernel_rfl) (by kernel_rfl) (by kernel_rfl) (fun _ _ _ h => h) (Or.inl ⟨?hw1027, ?hy1027⟩) (by assumption) ?rest1027
    case hi1027 => (simp only [List.getElem?_toArray, List.getElem?_cons_zero, List.getElem?_cons_succ]; rfl)
    case hw1027 => rfl
    case hy1027 => first | (intro wx hSw; obtain ⟨-, ⟨-, a0, a1, a2, a3, -⟩, ⟨-, b0, b1, b2, b3, -⟩⟩ := hSw; go_simp; done) | (intro wx hSw; obtain ⟨-, ⟨-, a0, a1, a2, a3, -⟩, ⟨-, b0, b1, b2, b3, -⟩⟩ := hSw; go_simp; with_reducible rfl)
    simp only [Act.put, List.setIfInBounds_toArray, List.set_cons_zero, List.set_cons_succ]
    refine wpAnyH_take (i := 13) (oi := ?oi1028) (v := ?v1028) ?hi1028 (by kernel_rfl) (by kernel_rfl) (by kernel_rfl) (fun _ _ _ h => h) (Or.inl ⟨?hw1028, ?hy1028⟩) (by assumption) ?rest1028
    case hi1028 => (simp only [List.getElem?_toArray, List.getElem?_cons_zero, List.getElem?_cons_succ]; rfl)
    case hw1028 => rfl
    case hy1028 => first | (intro wx hSw; obtain ⟨-, ⟨-, a0, a1, a2, a3, -⟩, ⟨-, b0, b1, b2, b3, -⟩⟩ := hSw; go_simp; done) | (intro wx hSw; obtain ⟨-, ⟨-, a0, a1, a2, a3, -⟩, ⟨-, b0, b1, b2, b3, -⟩⟩ := hSw; go_simp; with_reducible rfl)
    simp only [Act.put, List.setIfInBounds_toArray, List.set_cons_zero, List.set_cons_succ]
    refine wpAnyH_done (by kernel_rfl) ?_ _
    refine NoPanic.normal ?_
    refine hrest _ _ ?_
    have HW := hide hHeld.1
    clear hHeld hrest
    go_wp2_with fail
    go_ret2
    exact ⟨tup_bb' (by simp) rfl, unhide HW⟩

set_option maxHeartbeats 2000000 in
set_option maxRecDepth 100000 in
theorem rsame_any (k n s : Int) (t : ByteArray) (k' n' s' : Int) (t' : ByteArray) (w : World) (hA : DecIn k n s) (hB : DecIn k' n' s') :
    Calls Try.prog 71 #[V k n s t, V k' n' s' t'] w fun e w' =>
      e = .returned (.tuple #[.bool (rkB k k' && (rordV k n s t k' n' s' t' == 0)), .bool (rkB k k')]) ∧ Below w.heap.size w w' := by
  have CO := hide (fun W => rorder_any k n s t k' n' s' t' W hA hB)
  have CK := hide (fun W => rknown_any k n s t k' n' s' t' W)
  clear hA hB
  generalize rordV k n s t k' n' s' t' = o at *
  cases hk : rkB k k'
  · rw [hk] at CK
    clear hk
    go_enter Try.func71, Try.ntmps71
    go_wp2_with fail
    rename_i Q1 K1 hrest
    refine wp_region_noPanic ?_
    refine wp_region_held_drew (S := S2 w w.heap.size (w.heap.size + 1) (.int .i64 k) (.int .i64 n) (.int .i64 s) (.string t) (.int .i64 k') (.int .i64 n') (.int .i64 s') (.string t')) (by kernel_rfl) (s2_start w _ _ _ _ _ _ _ _ _) (fun hHeld => ?_)
    revert hHeld
    generalize World.drew _ = Wd
    intro hHeld
    refine wpAnyH_take (i := 0) (oi := ?oi1029) (v := ?v1029) ?hi1029 (by kernel_rfl) (by kernel_rfl) (by kernel_rfl) (fun _ _ _ h => h) (Or.inl ⟨?hw1029, ?hy1029⟩) (by assumption) ?rest1029
    case hi1029 => (simp only [List.getElem?_toArray, List.getElem?_cons_zero]; rfl)
    case hw1029 => rfl
    case hy1029 => first | (intro wx hSw; obtain ⟨-, ⟨-, a0, a1, a2, a3, -⟩, ⟨-, b0, b1, b2, b3, -⟩⟩ := hSw; go_simp; done) | (intro wx hSw; obtain ⟨-, ⟨-, a0, a1, a2, a3, -⟩, ⟨-, b0, b1, b2, b3, -⟩⟩ := hSw; go_simp; with_reducible rfl)
    simp only [Act.put, List.setIfInBounds_toArray, List.set_cons_zero, List.set_cons_succ]
    refine wpAnyH_take (i := 1) (oi := ?oi1030) (v := ?v1030) ?hi1030 (by kernel_rfl) (by kernel_rfl) (by kernel_rfl) (fun _ _ _ h => h) (Or.inl ⟨?hw1030, ?hy1030⟩) (by assumption) ?rest1030
    case hi1030 => (simp only [List.getElem?_toArray, List.getElem?_cons_zero, List.getElem?_cons_succ]; rfl)
    case hw1030 => rfl
    case hy1030 => first | (intro wx hSw; obtain ⟨-, ⟨-, a0, a1, a2, a3, -⟩, ⟨-, b0, b1, b2, b3, -⟩⟩ := hSw; go_simp; done) | (intro wx hSw; obtain ⟨-, ⟨-, a0, a1, a2, a3, -⟩, ⟨-, b0, b1, b2, b3, -⟩⟩ := hSw; go_simp; with_reducible rfl)
    simp only [Act.put, List.setIfInBounds_toArray, List.set_cons_zero, List.set_cons_succ]
    refine wpAnyH_take (i := 9) (oi := ?oi1031) (v := ?v1031) ?hi1031 (by kernel_rfl) (by kernel_rfl) (by kernel_rfl) (fun _ _ _ h => h) (Or.inl ⟨?hw1031, ?hy1031⟩) (by assumption) ?rest1031
    case hi1031 => (simp only [List.getElem?_toArray, List.getElem?_cons_zero, List.getElem?_cons_succ]; rfl)
    case hw1031 => rfl
    case hy1031 => first | (intro wx hSw; obtain ⟨-, ⟨-, a0, a1, a2, a3, -⟩, ⟨-, b0, b1, b2, b3, -⟩⟩ := hSw; go_simp; done) | (intro wx hSw; obtain ⟨-, ⟨-, a0, a1, a2, a3, -⟩, ⟨-, b0, b1, b2, b3, -⟩⟩ := hSw; go_simp; with_reducible rfl)
    simp only [Act.put, List.setIfInBounds_toArray, List.set_cons_zero, List.set_cons_succ]
    refine wpAnyH_take (i := 10) (oi := ?oi1032) (v := ?v1032) ?hi1032 (by kernel_rfl) (by kernel_rfl) (by kernel_rfl) (fun _ _ _ h => h) (Or.inl ⟨?hw1032, ?hy1032⟩) (by assumption) ?rest1032
    case hi1032 => (simp only [List.getElem?_toArray, List.getElem?_cons_zero, List.getElem?_cons_succ]; rfl)
    case hw1032 => rfl
    case hy1032 => first | (intro wx hSw; obtain ⟨-, ⟨-, a0, a1, a2, a3, -⟩, ⟨-, b0, b1, b2, b3, -⟩⟩ := hSw; go_simp; done) | (intro wx hSw; obtain ⟨-, ⟨-, a0, a1, a2, a3, -⟩, ⟨-, b0, b1, b2, b3, -⟩⟩ := hSw; go_simp; with_reducible rfl)
    simp only [Act.put, List.setIfInBounds_toArray, List.set_cons_zero, List.set_cons_succ]
    refine wpAnyH_ready (rs := [2]) (by kernel_rfl) (by simp) ?_
    refine AllReadyH.cons rfl (fun K1033 hK1033 => ?_) AllReadyH.nil
    go_simp
    go_wp2_with (go_at_call 81; refine (unhide CK _).mono ?_; rintro e wc1033 ⟨rfl, hb1033⟩)
    refine hK1033.out _ _ ?hs1033 (fun hHeld1033 => ?_)
    case hs1033 => exact s2_call hHeld hb1033
    clear hHeld
    have hHeld := hHeld1033; clear hHeld1033 hK1033 K1033 hb1033
    refine wpAnyH_take (i := 3) (oi := ?oi1034) (v := ?v1034) ?hi1034 (by kernel_rfl) (by kernel_rfl) (by kernel_rfl) (fun _ _ _ h => h) (Or.inl ⟨?hw1034, ?hy1034⟩) (by assumption) ?rest1034
    case hi1034 => (simp only [List.getElem?_toArray, List.getElem?_cons_zero, List.getElem?_cons_succ]; rfl)
    case hw1034 => rfl
    case hy1034 => first | (intro wx hSw; obtain ⟨-, ⟨-, a0, a1, a2, a3, -⟩, ⟨-, b0, b1, b2, b3, -⟩⟩ := hSw; go_simp; done) | (intro wx hSw; obtain ⟨-, ⟨-, a0, a1, a2, a3, -⟩, ⟨-, b0, b1, b2, b3, -⟩⟩ := hSw; go_simp; with_reducible rfl)
    simp only [Act.put, List.setIfInBounds_toArray, List.set_cons_zero, List.set_cons_succ]
    refine wpAnyH_take (i := 4) (oi := ?oi1035) (v := undef) ?hi1035 (by kernel_rfl) (by kernel_rfl) (by kernel_rfl) (fun _ _ _ h => h) (Or.inr ⟨?hw1035, rfl⟩) (by assumption) ?rest1035
    case hi1035 => (simp only [List.getElem?_toArray, List.getElem?_cons_zero, List.getElem?_cons_succ]; rfl)
    case hw1035 => rfl
    simp only [Act.put, List.setIfInBounds_toArray, List.set_cons_zero, List.set_cons_succ]
    refine wpAnyH_take (i := 5) (oi := ?oi1036) (v := undef) ?hi1036 (by kernel_rfl) (by kernel_rfl) (by kernel_rfl) (fun _ _ _ h => h) (Or.inr ⟨?hw1036, rfl⟩) (by assumption) ?rest1036
    case hi1036 => (simp only [List.getElem?_toArray, List.getElem?_cons_zero, List.getElem?_cons_succ]; rfl)
    case hw1036 => rfl
    simp only [Act.put, List.setIfInBounds_toArray, List.set_cons_zero, List.set_cons_succ]
    refine wpAnyH_take (i := 6) (oi := ?oi1037) (v := undef) ?hi1037 (by kernel_rfl) (by kernel_rfl) (by kernel_rfl) (fun _ _ _ h => h) (Or.inr ⟨?hw1037, rfl⟩) (by assumption) ?rest1037
    case hi1037 => (simp only [List.getElem?_toArray, List.getElem?_cons_zero, List.getElem?_cons_succ]; rfl)
    case hw1037 => rfl
    simp only [Act.put, List.setIfInBounds_toArray, List.set_cons_zero, List.set_cons_succ]
    refine wpAnyH_take (i := 7) (oi := ?oi1038) (v := undef) ?hi1038 (by kernel_rfl) (by kernel_rfl) (by kernel_rfl) (fun _ _ _ h => h) (Or.inr ⟨?hw1038, rfl⟩) (by assumption) ?rest1038
    case hi1038 => (simp only [List.getElem?_toArray, List.getElem?_cons_zero, List.getElem?_cons_succ]; rfl)
    case hw1038 => rfl
    simp only [Act.put, List.setIfInBounds_toArray, List.set_cons_zero, List.set_cons_succ]
    refine wpAnyH_take (i := 8) (oi := ?oi1039) (v := ?v1039) ?hi1039 (by kernel_rfl) (by kernel_rfl) (by kernel_rfl) (fun _ _ _ h => h) (Or.inl ⟨?hw1039, ?hy1039⟩) (by assumption) ?rest1039
    case hi1039 => (simp only [List.getElem?_toArray, List.getElem?_cons_zero, List.getElem?_cons_succ]; rfl)
    case hw1039 => rfl
    case hy1039 => first | (intro wx hSw; obtain ⟨-, ⟨-, a0, a1, a2, a3, -⟩, ⟨-, b0, b1, b2, b3, -⟩⟩ := hSw; go_simp; done) | (intro wx hSw; obtain ⟨-, ⟨-, a0, a1, a2, a3, -⟩, ⟨-, b0, b1, b2, b3, -⟩⟩ := hSw; go_simp; with_reducible rfl)
    simp only [Act.put, List.setIfInBounds_toArray, List.set_cons_zero, List.set_cons_succ]
    refine wpAnyH_ready (rs := [11]) (by kernel_rfl) (by simp) ?_
    refine AllReadyH.cons rfl (fun K1040 hK1040 => ?_) AllReadyH.nil
    go_simp
    go_wp2_with (go_at_call 81; refine (unhide CK _).mono ?_; rintro e wc1040 ⟨rfl, hb1040⟩)
    refine hK1040.out _ _ ?hs1040 (fun hHeld1040 => ?_)
    case hs1040 => exact s2_call hHeld hb1040
    clear hHeld
    have hHeld := hHeld1040; clear hHeld1040 hK1040 K1040 hb1040
    refine wpAnyH_take (i := 12) (oi := ?oi1041) (v := ?v1041) ?hi1041 (by kernel_rfl) (by kernel_rfl) (by kernel_rfl) (fun _ _ _ h => h) (Or.inl ⟨?hw1041, ?hy1041⟩) (by assumption) ?rest1041
    case hi1041 => (simp only [List.getElem?_toArray, List.getElem?_cons_zero, List.getElem?_cons_succ]; rfl)
    case hw1041 => rfl
    case hy1041 => first | (intro wx hSw; obtain ⟨-, ⟨-, a0, a1, a2, a3, -⟩, ⟨-, b0, b1, b2, b3, -⟩⟩ := hSw; go_simp; done) | (intro wx hSw; obtain ⟨-, ⟨-, a0, a1, a2, a3, -⟩, ⟨-, b0, b1, b2, b3, -⟩⟩ := hSw; go_simp; with_reducible rfl)
    simp only [Act.put, List.setIfInBounds_toArray, List.set_cons_zero, List.set_cons_succ]
    refine wpAnyH_take (i := 13) (oi := ?oi1042) (v := ?v1042) ?hi1042 (by kernel_rfl) (by kernel_rfl) (by kernel_rfl) (fun _ _ _ h => h) (Or.inl ⟨?hw1042, ?hy1042⟩) (by assumption) ?rest1042
    case hi1042 => (simp only [List.getElem?_toArray, List.getElem?_cons_zero, List.getElem?_cons_succ]; rfl)
    case hw1042 => rfl
    case hy1042 => first | (intro wx hSw; obtain ⟨-, ⟨-, a0, a1, a2, a3, -⟩, ⟨-, b0, b1, b2, b3, -⟩⟩ := hSw; go_simp; done) | (intro wx hSw; obtain ⟨-, ⟨-, a0, a1, a2, a3, -⟩, ⟨-, b0, b1, b2, b3, -⟩⟩ := hSw; go_simp; with_reducible rfl)
    simp only [Act.put, List.setIfInBounds_toArray, List.set_cons_zero, List.set_cons_succ]
    refine wpAnyH_done (by kernel_rfl) ?_ _
    refine NoPanic.normal ?_
    refine hrest _ _ ?_
    have HW := hide hHeld.1
    clear hHeld hrest
    go_wp2_with fail
    go_ret2
    exact ⟨tup_bb' (by simp) rfl, unhide HW⟩
  · rw [hk] at CK
    clear hk
    go_enter Try.func71, Try.ntmps71
    go_wp2_with fail
    rename_i Q1 K1 hrest
    refine wp_region_noPanic ?_
    refine wp_region_held_drew (S := S2 w w.heap.size (w.heap.size + 1) (.int .i64 k) (.int .i64 n) (.int .i64 s) (.string t) (.int .i64 k') (.int .i64 n') (.int .i64 s') (.string t')) (by kernel_rfl) (s2_start w _ _ _ _ _ _ _ _ _) (fun hHeld => ?_)
    revert hHeld
    generalize World.drew _ = Wd
    intro hHeld
    refine wpAnyH_take (i := 0) (oi := ?oi1043) (v := ?v1043) ?hi1043 (by kernel_rfl) (by kernel_rfl) (by kernel_rfl) (fun _ _ _ h => h) (Or.inl ⟨?hw1043, ?hy1043⟩) (by assumption) ?rest1043
    case hi1043 => (simp only [List.getElem?_toArray, List.getElem?_cons_zero]; rfl)
    case hw1043 => rfl
    case hy1043 => first | (intro wx hSw; obtain ⟨-, ⟨-, a0, a1, a2, a3, -⟩, ⟨-, b0, b1, b2, b3, -⟩⟩ := hSw; go_simp; done) | (intro wx hSw; obtain ⟨-, ⟨-, a0, a1, a2, a3, -⟩, ⟨-, b0, b1, b2, b3, -⟩⟩ := hSw; go_simp; with_reducible rfl)
    simp only [Act.put, List.setIfInBounds_toArray, List.set_cons_zero, List.set_cons_succ]
    refine wpAnyH_take (i := 1) (oi := ?oi1044) (v := ?v1044) ?hi1044 (by kernel_rfl) (by kernel_rfl) (by kernel_rfl) (fun _ _ _ h => h) (Or.inl ⟨?hw1044, ?hy1044⟩) (by assumption) ?rest1044
    case hi1044 => (simp only [List.getElem?_toArray, List.getElem?_cons_zero, List.getElem?_cons_succ]; rfl)
    case hw1044 => rfl
    case hy1044 => first | (intro wx hSw; obtain ⟨-, ⟨-, a0, a1, a2, a3, -⟩, ⟨-, b0, b1, b2, b3, -⟩⟩ := hSw; go_simp; done) | (intro wx hSw; obtain ⟨-, ⟨-, a0, a1, a2, a3, -⟩, ⟨-, b0, b1, b2, b3, -⟩⟩ := hSw; go_simp; with_reducible rfl)
    simp only [Act.put, List.setIfInBounds_toArray, List.set_cons_zero, List.set_cons_succ]
    refine wpAnyH_take (i := 9) (oi := ?oi1045) (v := ?v1045) ?hi1045 (by kernel_rfl) (by kernel_rfl) (by kernel_rfl) (fun _ _ _ h => h) (Or.inl ⟨?hw1045, ?hy1045⟩) (by assumption) ?rest1045
    case hi1045 => (simp only [List.getElem?_toArray, List.getElem?_cons_zero, List.getElem?_cons_succ]; rfl)
    case hw1045 => rfl
    case hy1045 => first | (intro wx hSw; obtain ⟨-, ⟨-, a0, a1, a2, a3, -⟩, ⟨-, b0, b1, b2, b3, -⟩⟩ := hSw; go_simp; done) | (intro wx hSw; obtain ⟨-, ⟨-, a0, a1, a2, a3, -⟩, ⟨-, b0, b1, b2, b3, -⟩⟩ := hSw; go_simp; with_reducible rfl)
    simp only [Act.put, List.setIfInBounds_toArray, List.set_cons_zero, List.set_cons_succ]
    refine wpAnyH_take (i := 10) (oi := ?oi1046) (v := ?v1046) ?hi1046 (by kernel_rfl) (by kernel_rfl) (by kernel_rfl) (fun _ _ _ h => h) (Or.inl ⟨?hw1046, ?hy1046⟩) (by assumption) ?rest1046
    case hi1046 => (simp only [List.getElem?_toArray, List.getElem?_cons_zero, List.getElem?_cons_succ]; rfl)
    case hw1046 => rfl
    case hy1046 => first | (intro wx hSw; obtain ⟨-, ⟨-, a0, a1, a2, a3, -⟩, ⟨-, b0, b1, b2, b3, -⟩⟩ := hSw; go_simp; done) | (intro wx hSw; obtain ⟨-, ⟨-, a0, a1, a2, a3, -⟩, ⟨-, b0, b1, b2, b3, -⟩⟩ := hSw; go_simp; with_reducible rfl)
    simp only [Act.put, List.setIfInBounds_toArray, List.set_cons_zero, List.set_cons_succ]
    refine wpAnyH_ready (rs := [2]) (by kernel_rfl) (by simp) ?_
    refine AllReadyH.cons rfl (fun K1047 hK1047 => ?_) AllReadyH.nil
    go_simp
    go_wp2_with (go_at_call 81; refine (unhide CK _).mono ?_; rintro e wc1047 ⟨rfl, hb1047⟩)
    refine hK1047.out _ _ ?hs1047 (fun hHeld1047 => ?_)
    case hs1047 => exact s2_call hHeld hb1047
    clear hHeld
    have hHeld := hHeld1047; clear hHeld1047 hK1047 K1047 hb1047
    refine wpAnyH_take (i := 3) (oi := ?oi1048) (v := ?v1048) ?hi1048 (by kernel_rfl) (by kernel_rfl) (by kernel_rfl) (fun _ _ _ h => h) (Or.inl ⟨?hw1048, ?hy1048⟩) (by assumption) ?rest1048
    case hi1048 => (simp only [List.getElem?_toArray, List.getElem?_cons_zero, List.getElem?_cons_succ]; rfl)
    case hw1048 => rfl
    case hy1048 => first | (intro wx hSw; obtain ⟨-, ⟨-, a0, a1, a2, a3, -⟩, ⟨-, b0, b1, b2, b3, -⟩⟩ := hSw; go_simp; done) | (intro wx hSw; obtain ⟨-, ⟨-, a0, a1, a2, a3, -⟩, ⟨-, b0, b1, b2, b3, -⟩⟩ := hSw; go_simp; with_reducible rfl)
    simp only [Act.put, List.setIfInBounds_toArray, List.set_cons_zero, List.set_cons_succ]
    refine wpAnyH_take (i := 4) (oi := ?oi1049) (v := ?v1049) ?hi1049 (by kernel_rfl) (by kernel_rfl) (by kernel_rfl) (fun _ _ _ h => h) (Or.inl ⟨?hw1049, ?hy1049⟩) (by assumption) ?rest1049
    case hi1049 => (simp only [List.getElem?_toArray, List.getElem?_cons_zero, List.getElem?_cons_succ]; rfl)
    case hw1049 => rfl
    case hy1049 => first | (intro wx hSw; obtain ⟨-, ⟨-, a0, a1, a2, a3, -⟩, ⟨-, b0, b1, b2, b3, -⟩⟩ := hSw; go_simp; done) | (intro wx hSw; obtain ⟨-, ⟨-, a0, a1, a2, a3, -⟩, ⟨-, b0, b1, b2, b3, -⟩⟩ := hSw; go_simp; with_reducible rfl)
    simp only [Act.put, List.setIfInBounds_toArray, List.set_cons_zero, List.set_cons_succ]
    refine wpAnyH_take (i := 5) (oi := ?oi1050) (v := ?v1050) ?hi1050 (by kernel_rfl) (by kernel_rfl) (by kernel_rfl) (fun _ _ _ h => h) (Or.inl ⟨?hw1050, ?hy1050⟩) (by assumption) ?rest1050
    case hi1050 => (simp only [List.getElem?_toArray, List.getElem?_cons_zero, List.getElem?_cons_succ]; rfl)
    case hw1050 => rfl
    case hy1050 => first | (intro wx hSw; obtain ⟨-, ⟨-, a0, a1, a2, a3, -⟩, ⟨-, b0, b1, b2, b3, -⟩⟩ := hSw; go_simp; done) | (intro wx hSw; obtain ⟨-, ⟨-, a0, a1, a2, a3, -⟩, ⟨-, b0, b1, b2, b3, -⟩⟩ := hSw; go_simp; with_reducible rfl)
    simp only [Act.put, List.setIfInBounds_toArray, List.set_cons_zero, List.set_cons_succ]
    refine wpAnyH_ready (rs := [6]) (by kernel_rfl) (by simp) ?_
    refine AllReadyH.cons rfl (fun K1051 hK1051 => ?_) AllReadyH.nil
    go_simp
    go_wp2_with (go_at_call 82; refine (unhide CO _).mono ?_; rintro e wc1051 ⟨rfl, hb1051⟩)
    refine hK1051.out _ _ ?hs1051 (fun hHeld1051 => ?_)
    case hs1051 => exact s2_call hHeld hb1051
    clear hHeld
    have hHeld := hHeld1051; clear hHeld1051 hK1051 K1051 hb1051
    refine wpAnyH_take (i := 7) (oi := ?oi1052) (v := ?v1052) ?hi1052 (by kernel_rfl) (by kernel_rfl) (by kernel_rfl) (fun _ _ _ h => h) (Or.inl ⟨?hw1052, ?hy1052⟩) (by assumption) ?rest1052
    case hi1052 => (simp only [List.getElem?_toArray, List.getElem?_cons_zero, List.getElem?_cons_succ]; rfl)
    case hw1052 => rfl
    case hy1052 => first | (intro wx hSw; obtain ⟨-, ⟨-, a0, a1, a2, a3, -⟩, ⟨-, b0, b1, b2, b3, -⟩⟩ := hSw; go_simp; done) | (intro wx hSw; obtain ⟨-, ⟨-, a0, a1, a2, a3, -⟩, ⟨-, b0, b1, b2, b3, -⟩⟩ := hSw; go_simp; with_reducible rfl)
    simp only [Act.put, List.setIfInBounds_toArray, List.set_cons_zero, List.set_cons_succ]
    refine wpAnyH_take (i := 8) (oi := ?oi1053) (v := ?v1053) ?hi1053 (by kernel_rfl) (by kernel_rfl) (by kernel_rfl) (fun _ _ _ h => h) (Or.inl ⟨?hw1053, ?hy1053⟩) (by assumption) ?rest1053
    case hi1053 => (simp only [List.getElem?_toArray, List.getElem?_cons_zero, List.getElem?_cons_succ]; rfl)
    case hw1053 => rfl
    case hy1053 => first | (intro wx hSw; obtain ⟨-, ⟨-, a0, a1, a2, a3, -⟩, ⟨-, b0, b1, b2, b3, -⟩⟩ := hSw; go_simp; done) | (intro wx hSw; obtain ⟨-, ⟨-, a0, a1, a2, a3, -⟩, ⟨-, b0, b1, b2, b3, -⟩⟩ := hSw; go_simp; with_reducible rfl)
    simp only [Act.put, List.setIfInBounds_toArray, List.set_cons_zero, List.set_cons_succ]
    refine wpAnyH_ready (rs := [11]) (by kernel_rfl) (by simp) ?_
    refine AllReadyH.cons rfl (fun K1054 hK1054 => ?_) AllReadyH.nil
    go_simp
    go_wp2_with (go_at_call 81; refine (unhide CK _).mono ?_; rintro e wc1054 ⟨rfl, hb1054⟩)
    refine hK1054.out _ _ ?hs1054 (fun hHeld1054 => ?_)
    case hs1054 => exact s2_call hHeld hb1054
    clear hHeld
    have hHeld := hHeld1054; clear hHeld1054 hK1054 K1054 hb1054
    refine wpAnyH_take (i := 12) (oi := ?oi1055) (v := ?v1055) ?hi1055 (by kernel_rfl) (by kernel_rfl) (by kernel_rfl) (fun _ _ _ h => h) (Or.inl ⟨?hw1055, ?hy1055⟩) (by assumption) ?rest1055
    case hi1055 => (simp only [List.getElem?_toArray, List.getElem?_cons_zero, List.getElem?_cons_succ]; rfl)
    case hw1055 => rfl
    case hy1055 => first | (intro wx hSw; obtain ⟨-, ⟨-, a0, a1, a2, a3, -⟩, ⟨-, b0, b1, b2, b3, -⟩⟩ := hSw; go_simp; done) | (intro wx hSw; obtain ⟨-, ⟨-, a0, a1, a2, a3, -⟩, ⟨-, b0, b1, b2, b3, -⟩⟩ := hSw; go_simp; with_reducible rfl)
    simp only [Act.put, List.setIfInBounds_toArray, List.set_cons_zero, List.set_cons_succ]
    refine wpAnyH_take (i := 13) (oi := ?oi1056) (v := ?v1056) ?hi1056 (by kernel_rfl) (by kernel_rfl) (by kernel_rfl) (fun _ _ _ h => h) (Or.inl ⟨?hw1056, ?hy1056⟩) (by assumption) ?rest1056
    case hi1056 => (simp only [List.getElem?_toArray, List.getElem?_cons_zero, List.getElem?_cons_succ]; rfl)
    case hw1056 => rfl
    case hy1056 => first | (intro wx hSw; obtain ⟨-, ⟨-, a0, a1, a2, a3, -⟩, ⟨-, b0, b1, b2, b3, -⟩⟩ := hSw; go_simp; done) | (intro wx hSw; obtain ⟨-, ⟨-, a0, a1, a2, a3, -⟩, ⟨-, b0, b1, b2, b3, -⟩⟩ := hSw; go_simp; with_reducible rfl)
    simp only [Act.put, List.setIfInBounds_toArray, List.set_cons_zero, List.set_cons_succ]
    refine wpAnyH_done (by kernel_rfl) ?_ _
    refine NoPanic.normal ?_
    refine hrest _ _ ?_
    have HW := hide hHeld.1
    clear hHeld hrest
    go_wp2_with fail
    go_ret2
    exact ⟨tup_bb' (by simp) rfl, unhide HW⟩
end Go.Proofs.Ytliefgkhpgigaaa
