/-
  The walk of the law KeyTexts.
-/
import Derived.Test.YtbpjejjbgdikdaaT3
import Derived.Deep.RegionHeld3
namespace Go.Proofs.Ytbpjejjbgdikdaa
open Go.RowKit
set_option linter.unusedSimpArgs false
set_option linter.unusedVariables false

theorem three (W : World) (s t u : ByteArray) : Four W.heap.size (.int .i64 5) (.int .i64 0) (.int .i64 0) (.string s) ((((W.alloc (.cells #[.int .i64 5, .int .i64 0, .int .i64 0, .string s] 24)).alloc (.cells #[.int .i64 5, .int .i64 0, .int .i64 0, .string t] 24)).alloc (.cells #[.int .i64 5, .int .i64 0, .int .i64 0, .string u] 24)).drew) ∧
    Four (W.heap.size + 1) (.int .i64 5) (.int .i64 0) (.int .i64 0) (.string t) ((((W.alloc (.cells #[.int .i64 5, .int .i64 0, .int .i64 0, .string s] 24)).alloc (.cells #[.int .i64 5, .int .i64 0, .int .i64 0, .string t] 24)).alloc (.cells #[.int .i64 5, .int .i64 0, .int .i64 0, .string u] 24)).drew) ∧
    Four (W.heap.size + 1 + 1) (.int .i64 5) (.int .i64 0) (.int .i64 0) (.string u) ((((W.alloc (.cells #[.int .i64 5, .int .i64 0, .int .i64 0, .string s] 24)).alloc (.cells #[.int .i64 5, .int .i64 0, .int .i64 0, .string t] 24)).alloc (.cells #[.int .i64 5, .int .i64 0, .int .i64 0, .string u] 24)).drew) ∧
    Below W.heap.size W ((((W.alloc (.cells #[.int .i64 5, .int .i64 0, .int .i64 0, .string s] 24)).alloc (.cells #[.int .i64 5, .int .i64 0, .int .i64 0, .string t] 24)).alloc (.cells #[.int .i64 5, .int .i64 0, .int .i64 0, .string u] 24)).drew) := by
  have h1 := four_drew (four_more (four_more (four_alloc (.int .i64 5) (.int .i64 0) (.int .i64 0) (.string s) 24 W) (.cells #[.int .i64 5, .int .i64 0, .int .i64 0, .string t] 24)) (.cells #[.int .i64 5, .int .i64 0, .int .i64 0, .string u] 24))
  have h2 := four_drew (four_more (four_alloc (.int .i64 5) (.int .i64 0) (.int .i64 0) (.string t) 24 (W.alloc (.cells #[.int .i64 5, .int .i64 0, .int .i64 0, .string s] 24))) (.cells #[.int .i64 5, .int .i64 0, .int .i64 0, .string u] 24))
  have h3 := four_drew (four_alloc (.int .i64 5) (.int .i64 0) (.int .i64 0) (.string u) 24 ((W.alloc (.cells #[.int .i64 5, .int .i64 0, .int .i64 0, .string s] 24)).alloc (.cells #[.int .i64 5, .int .i64 0, .int .i64 0, .string t] 24)))
  rw [World.size_alloc] at h2
  rw [World.size_alloc, World.size_alloc] at h3
  exact ⟨h1, h2, h3, ((((Below.refl _ W).alloc (Nat.le_refl _) _).alloc (by simp) _).alloc (by simp; omega) _).drew⟩
def S3 (w : World) (b1 b2 b3 : Nat) (s t u : ByteArray) (W : World) : Prop := Below w.heap.size w W ∧ Four b1 (.int .i64 5) (.int .i64 0) (.int .i64 0) (.string s) W ∧ Four b2 (.int .i64 5) (.int .i64 0) (.int .i64 0) (.string t) W ∧ Four b3 (.int .i64 5) (.int .i64 0) (.int .i64 0) (.string u) W
theorem s3_call {w : World} {b1 b2 b3 : Nat} {s t u : ByteArray} {W W' : World} (h : S3 w b1 b2 b3 s t u W) (hb : Below W.heap.size W W') : S3 w b1 b2 b3 s t u W' :=
  ⟨h.1.trans (hb.mono h.1.size), four_call h.2.1 hb, four_call h.2.2.1 hb, four_call h.2.2.2 hb⟩

set_option maxHeartbeats 8000000 in
set_option maxRecDepth 100000 in
theorem texts_walk (s t : ByteArray) (n : Int) (j : Nat) (w : World) (hs : s.size ≤ 40) (ht : t.size ≤ 40) (hj : j ≤ s.size)
    (kx ky kc : ByteArray)
    (KX : Hid (∀ W, Calls Try.prog 14 #[V 5 0 0 s] W fun e w' => e = .returned (.string kx) ∧ Below W.heap.size W w'))
    (KY : Hid (∀ W, Calls Try.prog 14 #[V 5 0 0 t] W fun e w' => e = .returned (.string ky) ∧ Below W.heap.size W w'))
    (KC : Hid (∀ W, Calls Try.prog 14 #[V 5 0 0 (s.extract 0 j)] W fun e w' => e = .returned (.string kc) ∧ Below W.heap.size W w'))
    (h1 : Op.bytesLess kx.toList ky.toList = Op.bytesLess s.toList t.toList) (h2 : Op.bytesLess kc.toList kx.toList = decide ((j : Int) < (s.size : Int))) (h3 : (s.extract 0 j).size = j)
    (WI : Hid (∀ W, Calls Try.prog 17 #[.int .i64 n, .int .i64 ((s.size : Int) + 1)] W fun e w' => e = .returned (.int .i64 (j : Int)) ∧ w' = W)) :
    Calls Try.prog 7 #[.string s, .string t, .int .i64 n] w fun e w' => e = .returned (.bool true) ∧ Below w.heap.size w w' := by
  have hL := hide (Below.refl w.heap.size w)
  have e1 : IntKind.i64.wrap ((s.size : Int) + 1) = (s.size : Int) + 1 := IntWalk.i64_in _ (by omega)
  go_enter Try.func7, Try.ntmps7
  go_wp2_with fail
  refine (known_any _).mono ?_
  rintro e w1 ⟨rfl, hb1⟩
  replace hL := hide ((unhide hL).trans (hb1.mono (unhide hL).size))
  clear hb1
  go_wp2_with fail
  rename_i Q1 K1 hrest
  have REST : ∀ (p0 p1 p2 : Nat) (W : World), S3 w p0 p1 p2 s t (s.extract 0 j) W → K1 ⟨#[.string s, .string t, .int .i64 n, undef, undef, undef, .bool false, .pointer (some ⟨p0, 0, none⟩), .pointer (some ⟨p1, 0, none⟩), .pointer (some ⟨p2, 0, none⟩), .bool true, .bool false, .string s, .int .i64 (s.size : Int), .bool (decide (40 < (s.size : Int))), .bool (decide (40 < (s.size : Int))), .string t, .int .i64 (t.size : Int), .bool (decide (40 < (t.size : Int))), .bool (decide (40 < (s.size : Int)) || decide (40 < (t.size : Int))), .string s, V 5 0 0 s, .string t, V 5 0 0 t, .string s, .int .i64 n, .string s, .int .i64 (s.size : Int), .int .i64 ((s.size : Int) + 1), .int .i64 (j : Int), .string (s.extract 0 j), V 5 0 0 (s.extract 0 j), undef, undef, undef, undef, undef, undef, undef, undef, undef, undef, undef, undef, undef, undef, undef, undef, undef, undef, undef, undef, undef, undef, undef], []⟩ W := by
    intro p0 p1 p2 W hS3
    refine hrest _ _ ?_
    clear hrest
    go_wp2_with fail
    rename_i hrest
    refine wp_region_noPanic ?_
    refine wp_region_held_drew (S := S3 w p0 p1 p2 s t (s.extract 0 j)) (by kernel_rfl) (s3_call hS3 (Below.refl _ _).drew) (fun hHeld => ?_)
    revert hHeld
    generalize World.drew _ = Wd
    intro hHeld
    refine wpAnyH_take (i := 0) (oi := ?oi1001) (v := ?v1001) ?hi1001 (by kernel_rfl) (by kernel_rfl) (by kernel_rfl) (fun _ _ _ h => h) (Or.inl ⟨?hw1001, ?hy1001⟩) (by assumption) ?rest1001
    case hi1001 => (simp only [List.getElem?_toArray, List.getElem?_cons_zero]; rfl)
    case hw1001 => rfl
    case hy1001 => first | (intro wx hSw; obtain ⟨-, ⟨-, a0, a1, a2, a3, -⟩, ⟨-, b0, b1, b2, b3, -⟩, ⟨-, c0, c1, c2, c3, -⟩⟩ := hSw; go_simp; done) | (intro wx hSw; obtain ⟨-, ⟨-, a0, a1, a2, a3, -⟩, ⟨-, b0, b1, b2, b3, -⟩, ⟨-, c0, c1, c2, c3, -⟩⟩ := hSw; go_simp; with_reducible rfl)
    simp only [Act.put, List.setIfInBounds_toArray, List.set_cons_zero, List.set_cons_succ]
    refine wpAnyH_take (i := 2) (oi := ?oi1002) (v := ?v1002) ?hi1002 (by kernel_rfl) (by kernel_rfl) (by kernel_rfl) (fun _ _ _ h => h) (Or.inl ⟨?hw1002, ?hy1002⟩) (by assumption) ?rest1002
    case hi1002 => (simp only [List.getElem?_toArray, List.getElem?_cons_zero, List.getElem?_cons_succ]; rfl)
    case hw1002 => rfl
    case hy1002 => first | (intro wx hSw; obtain ⟨-, ⟨-, a0, a1, a2, a3, -⟩, ⟨-, b0, b1, b2, b3, -⟩, ⟨-, c0, c1, c2, c3, -⟩⟩ := hSw; go_simp; done) | (intro wx hSw; obtain ⟨-, ⟨-, a0, a1, a2, a3, -⟩, ⟨-, b0, b1, b2, b3, -⟩, ⟨-, c0, c1, c2, c3, -⟩⟩ := hSw; go_simp; with_reducible rfl)
    simp only [Act.put, List.setIfInBounds_toArray, List.set_cons_zero, List.set_cons_succ]
    refine wpAnyH_take (i := 5) (oi := ?oi1003) (v := ?v1003) ?hi1003 (by kernel_rfl) (by kernel_rfl) (by kernel_rfl) (fun _ _ _ h => h) (Or.inl ⟨?hw1003, ?hy1003⟩) (by assumption) ?rest1003
    case hi1003 => (simp only [List.getElem?_toArray, List.getElem?_cons_zero, List.getElem?_cons_succ]; rfl)
    case hw1003 => rfl
    case hy1003 => first | (intro wx hSw; obtain ⟨-, ⟨-, a0, a1, a2, a3, -⟩, ⟨-, b0, b1, b2, b3, -⟩, ⟨-, c0, c1, c2, c3, -⟩⟩ := hSw; go_simp; done) | (intro wx hSw; obtain ⟨-, ⟨-, a0, a1, a2, a3, -⟩, ⟨-, b0, b1, b2, b3, -⟩, ⟨-, c0, c1, c2, c3, -⟩⟩ := hSw; go_simp; with_reducible rfl)
    simp only [Act.put, List.setIfInBounds_toArray, List.set_cons_zero, List.set_cons_succ]
    refine wpAnyH_take (i := 6) (oi := ?oi1004) (v := ?v1004) ?hi1004 (by kernel_rfl) (by kernel_rfl) (by kernel_rfl) (fun _ _ _ h => h) (Or.inl ⟨?hw1004, ?hy1004⟩) (by assumption) ?rest1004
    case hi1004 => (simp only [List.getElem?_toArray, List.getElem?_cons_zero, List.getElem?_cons_succ]; rfl)
    case hw1004 => rfl
    case hy1004 => first | (intro wx hSw; obtain ⟨-, ⟨-, a0, a1, a2, a3, -⟩, ⟨-, b0, b1, b2, b3, -⟩, ⟨-, c0, c1, c2, c3, -⟩⟩ := hSw; go_simp; done) | (intro wx hSw; obtain ⟨-, ⟨-, a0, a1, a2, a3, -⟩, ⟨-, b0, b1, b2, b3, -⟩, ⟨-, c0, c1, c2, c3, -⟩⟩ := hSw; go_simp; with_reducible rfl)
    simp only [Act.put, List.setIfInBounds_toArray, List.set_cons_zero, List.set_cons_succ]
    refine wpAnyH_take (i := 7) (oi := ?oi1005) (v := ?v1005) ?hi1005 (by kernel_rfl) (by kernel_rfl) (by kernel_rfl) (fun _ _ _ h => h) (Or.inl ⟨?hw1005, ?hy1005⟩) (by assumption) ?rest1005
    case hi1005 => (simp only [List.getElem?_toArray, List.getElem?_cons_zero, List.getElem?_cons_succ]; rfl)
    case hw1005 => rfl
    case hy1005 => first | (intro wx hSw; obtain ⟨-, ⟨-, a0, a1, a2, a3, -⟩, ⟨-, b0, b1, b2, b3, -⟩, ⟨-, c0, c1, c2, c3, -⟩⟩ := hSw; go_simp; done) | (intro wx hSw; obtain ⟨-, ⟨-, a0, a1, a2, a3, -⟩, ⟨-, b0, b1, b2, b3, -⟩, ⟨-, c0, c1, c2, c3, -⟩⟩ := hSw; go_simp; with_reducible rfl)
    simp only [Act.put, List.setIfInBounds_toArray, List.set_cons_zero, List.set_cons_succ]
    refine wpAnyH_ready (rs := [1]) (by kernel_rfl) (by simp) ?_
    refine AllReadyH.cons rfl (fun K1006 hK1006 => ?_) AllReadyH.nil
    go_simp
    go_wp2_with (go_at_call 14; refine (unhide KX _).mono ?_; rintro e wc1006 ⟨rfl, hb1006⟩)
    refine hK1006.out _ _ ?hs1006 (fun hHeld1006 => ?_)
    case hs1006 => exact s3_call hHeld hb1006
    clear hHeld
    have hHeld := hHeld1006; clear hHeld1006 hK1006 K1006 hb1006
    refine wpAnyH_ready (rs := [3]) (by kernel_rfl) (by simp) ?_
    refine AllReadyH.cons rfl (fun K1007 hK1007 => ?_) AllReadyH.nil
    go_simp
    go_wp2_with (go_at_call 14; refine (unhide KY _).mono ?_; rintro e wc1007 ⟨rfl, hb1007⟩)
    refine hK1007.out _ _ ?hs1007 (fun hHeld1007 => ?_)
    case hs1007 => exact s3_call hHeld hb1007
    clear hHeld
    have hHeld := hHeld1007; clear hHeld1007 hK1007 K1007 hb1007
    refine wpAnyH_take (i := 4) (oi := ?oi1008) (v := ?v1008) ?hi1008 (by kernel_rfl) (by kernel_rfl) (by kernel_rfl) (fun _ _ _ h => h) (Or.inl ⟨?hw1008, ?hy1008⟩) (by assumption) ?rest1008
    case hi1008 => (simp only [List.getElem?_toArray, List.getElem?_cons_zero, List.getElem?_cons_succ]; rfl)
    case hw1008 => rfl
    case hy1008 => first | (intro wx hSw; obtain ⟨-, ⟨-, a0, a1, a2, a3, -⟩, ⟨-, b0, b1, b2, b3, -⟩, ⟨-, c0, c1, c2, c3, -⟩⟩ := hSw; go_simp; done) | (intro wx hSw; obtain ⟨-, ⟨-, a0, a1, a2, a3, -⟩, ⟨-, b0, b1, b2, b3, -⟩, ⟨-, c0, c1, c2, c3, -⟩⟩ := hSw; go_simp; with_reducible rfl)
    simp only [Act.put, List.setIfInBounds_toArray, List.set_cons_zero, List.set_cons_succ]
    refine wpAnyH_take (i := 8) (oi := ?oi1009) (v := ?v1009) ?hi1009 (by kernel_rfl) (by kernel_rfl) (by kernel_rfl) (fun _ _ _ h => h) (Or.inl ⟨?hw1009, ?hy1009⟩) (by assumption) ?rest1009
    case hi1009 => (simp only [List.getElem?_toArray, List.getElem?_cons_zero, List.getElem?_cons_succ]; rfl)
    case hw1009 => rfl
    case hy1009 => first | (intro wx hSw; obtain ⟨-, ⟨-, a0, a1, a2, a3, -⟩, ⟨-, b0, b1, b2, b3, -⟩, ⟨-, c0, c1, c2, c3, -⟩⟩ := hSw; go_simp; done) | (intro wx hSw; obtain ⟨-, ⟨-, a0, a1, a2, a3, -⟩, ⟨-, b0, b1, b2, b3, -⟩, ⟨-, c0, c1, c2, c3, -⟩⟩ := hSw; go_simp; with_reducible rfl)
    simp only [Act.put, List.setIfInBounds_toArray, List.set_cons_zero, List.set_cons_succ]
    refine wpAnyH_take (i := 9) (oi := ?oi1010) (v := ?v1010) ?hi1010 (by kernel_rfl) (by kernel_rfl) (by kernel_rfl) (fun _ _ _ h => h) (Or.inl ⟨?hw1010, ?hy1010⟩) (by assumption) ?rest1010
    case hi1010 => (simp only [List.getElem?_toArray, List.getElem?_cons_zero, List.getElem?_cons_succ]; rfl)
    case hw1010 => rfl
    case hy1010 => first | (intro wx hSw; obtain ⟨-, ⟨-, a0, a1, a2, a3, -⟩, ⟨-, b0, b1, b2, b3, -⟩, ⟨-, c0, c1, c2, c3, -⟩⟩ := hSw; go_simp; done) | (intro wx hSw; obtain ⟨-, ⟨-, a0, a1, a2, a3, -⟩, ⟨-, b0, b1, b2, b3, -⟩, ⟨-, c0, c1, c2, c3, -⟩⟩ := hSw; go_simp; with_reducible rfl)
    simp only [Act.put, List.setIfInBounds_toArray, List.set_cons_zero, List.set_cons_succ]
    refine wpAnyH_take (i := 10) (oi := ?oi1011) (v := ?v1011) ?hi1011 (by kernel_rfl) (by kernel_rfl) (by kernel_rfl) (fun _ _ _ h => h) (Or.inl ⟨?hw1011, ?hy1011⟩) (by assumption) ?rest1011
    case hi1011 => (simp only [List.getElem?_toArray, List.getElem?_cons_zero, List.getElem?_cons_succ]; rfl)
    case hw1011 => rfl
    case hy1011 => first | (intro wx hSw; obtain ⟨-, ⟨-, a0, a1, a2, a3, -⟩, ⟨-, b0, b1, b2, b3, -⟩, ⟨-, c0, c1, c2, c3, -⟩⟩ := hSw; go_simp; done) | (intro wx hSw; obtain ⟨-, ⟨-, a0, a1, a2, a3, -⟩, ⟨-, b0, b1, b2, b3, -⟩, ⟨-, c0, c1, c2, c3, -⟩⟩ := hSw; go_simp; with_reducible rfl)
    simp only [Act.put, List.setIfInBounds_toArray, List.set_cons_zero, List.set_cons_succ]
    refine wpAnyH_take (i := 12) (oi := ?oi1012) (v := ?v1012) ?hi1012 (by kernel_rfl) (by kernel_rfl) (by kernel_rfl) (fun _ _ _ h => h) (Or.inl ⟨?hw1012, ?hy1012⟩) (by assumption) ?rest1012
    case hi1012 => (simp only [List.getElem?_toArray, List.getElem?_cons_zero, List.getElem?_cons_succ]; rfl)
    case hw1012 => rfl
    case hy1012 => first | (intro wx hSw; obtain ⟨-, ⟨-, a0, a1, a2, a3, -⟩, ⟨-, b0, b1, b2, b3, -⟩, ⟨-, c0, c1, c2, c3, -⟩⟩ := hSw; go_simp; done) | (intro wx hSw; obtain ⟨-, ⟨-, a0, a1, a2, a3, -⟩, ⟨-, b0, b1, b2, b3, -⟩, ⟨-, c0, c1, c2, c3, -⟩⟩ := hSw; go_simp; with_reducible rfl)
    simp only [Act.put, List.setIfInBounds_toArray, List.set_cons_zero, List.set_cons_succ]
    refine wpAnyH_take (i := 15) (oi := ?oi1013) (v := ?v1013) ?hi1013 (by kernel_rfl) (by kernel_rfl) (by kernel_rfl) (fun _ _ _ h => h) (Or.inl ⟨?hw1013, ?hy1013⟩) (by assumption) ?rest1013
    case hi1013 => (simp only [List.getElem?_toArray, List.getElem?_cons_zero, List.getElem?_cons_succ]; rfl)
    case hw1013 => rfl
    case hy1013 => first | (intro wx hSw; obtain ⟨-, ⟨-, a0, a1, a2, a3, -⟩, ⟨-, b0, b1, b2, b3, -⟩, ⟨-, c0, c1, c2, c3, -⟩⟩ := hSw; go_simp; done) | (intro wx hSw; obtain ⟨-, ⟨-, a0, a1, a2, a3, -⟩, ⟨-, b0, b1, b2, b3, -⟩, ⟨-, c0, c1, c2, c3, -⟩⟩ := hSw; go_simp; with_reducible rfl)
    simp only [Act.put, List.setIfInBounds_toArray, List.set_cons_zero, List.set_cons_succ]
    refine wpAnyH_take (i := 16) (oi := ?oi1014) (v := ?v1014) ?hi1014 (by kernel_rfl) (by kernel_rfl) (by kernel_rfl) (fun _ _ _ h => h) (Or.inl ⟨?hw1014, ?hy1014⟩) (by assumption) ?rest1014
    case hi1014 => (simp only [List.getElem?_toArray, List.getElem?_cons_zero, List.getElem?_cons_succ]; rfl)
    case hw1014 => rfl
    case hy1014 => first | (intro wx hSw; obtain ⟨-, ⟨-, a0, a1, a2, a3, -⟩, ⟨-, b0, b1, b2, b3, -⟩, ⟨-, c0, c1, c2, c3, -⟩⟩ := hSw; go_simp; done) | (intro wx hSw; obtain ⟨-, ⟨-, a0, a1, a2, a3, -⟩, ⟨-, b0, b1, b2, b3, -⟩, ⟨-, c0, c1, c2, c3, -⟩⟩ := hSw; go_simp; with_reducible rfl)
    simp only [Act.put, List.setIfInBounds_toArray, List.set_cons_zero, List.set_cons_succ]
    refine wpAnyH_take (i := 17) (oi := ?oi1015) (v := ?v1015) ?hi1015 (by kernel_rfl) (by kernel_rfl) (by kernel_rfl) (fun _ _ _ h => h) (Or.inl ⟨?hw1015, ?hy1015⟩) (by assumption) ?rest1015
    case hi1015 => (simp only [List.getElem?_toArray, List.getElem?_cons_zero, List.getElem?_cons_succ]; rfl)
    case hw1015 => rfl
    case hy1015 => first | (intro wx hSw; obtain ⟨-, ⟨-, a0, a1, a2, a3, -⟩, ⟨-, b0, b1, b2, b3, -⟩, ⟨-, c0, c1, c2, c3, -⟩⟩ := hSw; go_simp; done) | (intro wx hSw; obtain ⟨-, ⟨-, a0, a1, a2, a3, -⟩, ⟨-, b0, b1, b2, b3, -⟩, ⟨-, c0, c1, c2, c3, -⟩⟩ := hSw; go_simp; with_reducible rfl)
    simp only [Act.put, List.setIfInBounds_toArray, List.set_cons_zero, List.set_cons_succ]
    refine wpAnyH_take (i := 18) (oi := ?oi1016) (v := ?v1016) ?hi1016 (by kernel_rfl) (by kernel_rfl) (by kernel_rfl) (fun _ _ _ h => h) (Or.inl ⟨?hw1016, ?hy1016⟩) (by assumption) ?rest1016
    case hi1016 => (simp only [List.getElem?_toArray, List.getElem?_cons_zero, List.getElem?_cons_succ]; rfl)
    case hw1016 => rfl
    case hy1016 => first | (intro wx hSw; obtain ⟨-, ⟨-, a0, a1, a2, a3, -⟩, ⟨-, b0, b1, b2, b3, -⟩, ⟨-, c0, c1, c2, c3, -⟩⟩ := hSw; go_simp; done) | (intro wx hSw; obtain ⟨-, ⟨-, a0, a1, a2, a3, -⟩, ⟨-, b0, b1, b2, b3, -⟩, ⟨-, c0, c1, c2, c3, -⟩⟩ := hSw; go_simp; with_reducible rfl)
    simp only [Act.put, List.setIfInBounds_toArray, List.set_cons_zero, List.set_cons_succ]
    refine wpAnyH_take (i := 19) (oi := ?oi1017) (v := ?v1017) ?hi1017 (by kernel_rfl) (by kernel_rfl) (by kernel_rfl) (fun _ _ _ h => h) (Or.inl ⟨?hw1017, ?hy1017⟩) (by assumption) ?rest1017
    case hi1017 => (simp only [List.getElem?_toArray, List.getElem?_cons_zero, List.getElem?_cons_succ]; rfl)
    case hw1017 => rfl
    case hy1017 => first | (intro wx hSw; obtain ⟨-, ⟨-, a0, a1, a2, a3, -⟩, ⟨-, b0, b1, b2, b3, -⟩, ⟨-, c0, c1, c2, c3, -⟩⟩ := hSw; go_simp; done) | (intro wx hSw; obtain ⟨-, ⟨-, a0, a1, a2, a3, -⟩, ⟨-, b0, b1, b2, b3, -⟩, ⟨-, c0, c1, c2, c3, -⟩⟩ := hSw; go_simp; with_reducible rfl)
    simp only [Act.put, List.setIfInBounds_toArray, List.set_cons_zero, List.set_cons_succ]
    refine wpAnyH_take (i := 20) (oi := ?oi1018) (v := ?v1018) ?hi1018 (by kernel_rfl) (by kernel_rfl) (by kernel_rfl) (fun _ _ _ h => h) (Or.inl ⟨?hw1018, ?hy1018⟩) (by assumption) ?rest1018
    case hi1018 => (simp only [List.getElem?_toArray, List.getElem?_cons_zero, List.getElem?_cons_succ]; rfl)
    case hw1018 => rfl
    case hy1018 => first | (intro wx hSw; obtain ⟨-, ⟨-, a0, a1, a2, a3, -⟩, ⟨-, b0, b1, b2, b3, -⟩, ⟨-, c0, c1, c2, c3, -⟩⟩ := hSw; go_simp; done) | (intro wx hSw; obtain ⟨-, ⟨-, a0, a1, a2, a3, -⟩, ⟨-, b0, b1, b2, b3, -⟩, ⟨-, c0, c1, c2, c3, -⟩⟩ := hSw; go_simp; with_reducible rfl)
    simp only [Act.put, List.setIfInBounds_toArray, List.set_cons_zero, List.set_cons_succ]
    refine wpAnyH_ready (rs := [11]) (by kernel_rfl) (by simp) ?_
    refine AllReadyH.cons rfl (fun K1019 hK1019 => ?_) AllReadyH.nil
    go_simp
    go_wp2_with (go_at_call 14; refine (unhide KC _).mono ?_; rintro e wc1019 ⟨rfl, hb1019⟩)
    refine hK1019.out _ _ ?hs1019 (fun hHeld1019 => ?_)
    case hs1019 => exact s3_call hHeld hb1019
    clear hHeld
    have hHeld := hHeld1019; clear hHeld1019 hK1019 K1019 hb1019
    refine wpAnyH_ready (rs := [13]) (by kernel_rfl) (by simp) ?_
    refine AllReadyH.cons rfl (fun K1020 hK1020 => ?_) AllReadyH.nil
    go_simp
    go_wp2_with (go_at_call 14; refine (unhide KX _).mono ?_; rintro e wc1020 ⟨rfl, hb1020⟩)
    refine hK1020.out _ _ ?hs1020 (fun hHeld1020 => ?_)
    case hs1020 => exact s3_call hHeld hb1020
    clear hHeld
    have hHeld := hHeld1020; clear hHeld1020 hK1020 K1020 hb1020
    refine wpAnyH_take (i := 14) (oi := ?oi1021) (v := ?v1021) ?hi1021 (by kernel_rfl) (by kernel_rfl) (by kernel_rfl) (fun _ _ _ h => h) (Or.inl ⟨?hw1021, ?hy1021⟩) (by assumption) ?rest1021
    case hi1021 => (simp only [List.getElem?_toArray, List.getElem?_cons_zero, List.getElem?_cons_succ]; rfl)
    case hw1021 => rfl
    case hy1021 => first | (intro wx hSw; obtain ⟨-, ⟨-, a0, a1, a2, a3, -⟩, ⟨-, b0, b1, b2, b3, -⟩, ⟨-, c0, c1, c2, c3, -⟩⟩ := hSw; go_simp; done) | (intro wx hSw; obtain ⟨-, ⟨-, a0, a1, a2, a3, -⟩, ⟨-, b0, b1, b2, b3, -⟩, ⟨-, c0, c1, c2, c3, -⟩⟩ := hSw; go_simp; with_reducible rfl)
    simp only [Act.put, List.setIfInBounds_toArray, List.set_cons_zero, List.set_cons_succ]
    refine wpAnyH_take (i := 21) (oi := ?oi1022) (v := ?v1022) ?hi1022 (by kernel_rfl) (by kernel_rfl) (by kernel_rfl) (fun _ _ _ h => h) (Or.inl ⟨?hw1022, ?hy1022⟩) (by assumption) ?rest1022
    case hi1022 => (simp only [List.getElem?_toArray, List.getElem?_cons_zero, List.getElem?_cons_succ]; rfl)
    case hw1022 => rfl
    case hy1022 => first | (intro wx hSw; obtain ⟨-, ⟨-, a0, a1, a2, a3, -⟩, ⟨-, b0, b1, b2, b3, -⟩, ⟨-, c0, c1, c2, c3, -⟩⟩ := hSw; go_simp; done) | (intro wx hSw; obtain ⟨-, ⟨-, a0, a1, a2, a3, -⟩, ⟨-, b0, b1, b2, b3, -⟩, ⟨-, c0, c1, c2, c3, -⟩⟩ := hSw; go_simp; with_reducible rfl)
    simp only [Act.put, List.setIfInBounds_toArray, List.set_cons_zero, List.set_cons_succ]
    refine wpAnyH_take (i := 22) (oi := ?oi1023) (v := ?v1023) ?hi1023 (by kernel_rfl) (by kernel_rfl) (by kernel_rfl) (fun _ _ _ h => h) (Or.inl ⟨?hw1023, ?hy1023⟩) (by assumption) ?rest1023
    case hi1023 => (simp only [List.getElem?_toArray, List.getElem?_cons_zero, List.getElem?_cons_succ]; rfl)
    case hw1023 => rfl
    case hy1023 => first | (intro wx hSw; obtain ⟨-, ⟨-, a0, a1, a2, a3, -⟩, ⟨-, b0, b1, b2, b3, -⟩, ⟨-, c0, c1, c2, c3, -⟩⟩ := hSw; go_simp; done) | (intro wx hSw; obtain ⟨-, ⟨-, a0, a1, a2, a3, -⟩, ⟨-, b0, b1, b2, b3, -⟩, ⟨-, c0, c1, c2, c3, -⟩⟩ := hSw; go_simp; with_reducible rfl)
    simp only [Act.put, List.setIfInBounds_toArray, List.set_cons_zero, List.set_cons_succ]
    refine wpAnyH_take (i := 23) (oi := ?oi1024) (v := ?v1024) ?hi1024 (by kernel_rfl) (by kernel_rfl) (by kernel_rfl) (fun _ _ _ h => h) (Or.inl ⟨?hw1024, ?hy1024⟩) (by assumption) ?rest1024
    case hi1024 => (simp only [List.getElem?_toArray, List.getElem?_cons_zero, List.getElem?_cons_succ]; rfl)
    case hw1024 => rfl
    case hy1024 => first | (intro wx hSw; obtain ⟨-, ⟨-, a0, a1, a2, a3, -⟩, ⟨-, b0, b1, b2, b3, -⟩, ⟨-, c0, c1, c2, c3, -⟩⟩ := hSw; go_simp; done) | (intro wx hSw; obtain ⟨-, ⟨-, a0, a1, a2, a3, -⟩, ⟨-, b0, b1, b2, b3, -⟩, ⟨-, c0, c1, c2, c3, -⟩⟩ := hSw; go_simp; with_reducible rfl)
    simp only [Act.put, List.setIfInBounds_toArray, List.set_cons_zero, List.set_cons_succ]
    refine wpAnyH_done (by kernel_rfl) ?_ _
    refine NoPanic.normal ?_
    refine hrest _ _ ?_
    go_wp2_with fail
    go_ret
    exact ⟨rfl, hHeld.1⟩
  have HREST := hide REST
  clear REST hrest h1 h2 h3 KX KY KC
  refine wp_region_noPanic ?_
  refine wp_region_held_drew (S := fun _ => True) (by kernel_rfl) (trivial) (fun hHeld => ?_)
  refine wpAnyH_take (i := 0) (oi := ?oi20001) (v := ?v20001) ?hi20001 (by kernel_rfl) (by kernel_rfl) (by kernel_rfl) (fun _ _ _ h => h) (Or.inl ⟨?hw20001, ?hy20001⟩) (by assumption) ?rest20001
  case hi20001 => (simp only [List.getElem?_toArray, List.getElem?_cons_zero]; rfl)
  case hw20001 => rfl
  case hy20001 => first | (intro wx hSw; go_simp; done) | (intro wx hSw; go_simp; with_reducible rfl)
  simp only [Act.put, List.setIfInBounds_toArray, List.set_cons_zero, List.set_cons_succ]
  refine wpAnyH_take (i := 2) (oi := ?oi20002) (v := ?v20002) ?hi20002 (by kernel_rfl) (by kernel_rfl) (by kernel_rfl) (fun _ _ _ h => h) (Or.inl ⟨?hw20002, ?hy20002⟩) (by assumption) ?rest20002
  case hi20002 => (simp only [List.getElem?_toArray, List.getElem?_cons_zero, List.getElem?_cons_succ]; rfl)
  case hw20002 => rfl
  case hy20002 => first | (intro wx hSw; go_simp; done) | (intro wx hSw; go_simp; with_reducible rfl)
  simp only [Act.put, List.setIfInBounds_toArray, List.set_cons_zero, List.set_cons_succ]
  refine wpAnyH_take (i := 4) (oi := ?oi20003) (v := ?v20003) ?hi20003 (by kernel_rfl) (by kernel_rfl) (by kernel_rfl) (fun _ _ _ h => h) (Or.inl ⟨?hw20003, ?hy20003⟩) (by assumption) ?rest20003
  case hi20003 => (simp only [List.getElem?_toArray, List.getElem?_cons_zero, List.getElem?_cons_succ]; rfl)
  case hw20003 => rfl
  case hy20003 => first | (intro wx hSw; go_simp; done) | (intro wx hSw; go_simp; with_reducible rfl)
  simp only [Act.put, List.setIfInBounds_toArray, List.set_cons_zero, List.set_cons_succ]
  refine wpAnyH_take (i := 5) (oi := ?oi20004) (v := ?v20004) ?hi20004 (by kernel_rfl) (by kernel_rfl) (by kernel_rfl) (fun _ _ _ h => h) (Or.inl ⟨?hw20004, ?hy20004⟩) (by assumption) ?rest20004
  case hi20004 => (simp only [List.getElem?_toArray, List.getElem?_cons_zero, List.getElem?_cons_succ]; rfl)
  case hw20004 => rfl
  case hy20004 => first | (intro wx hSw; go_simp; done) | (intro wx hSw; go_simp; with_reducible rfl)
  simp only [Act.put, List.setIfInBounds_toArray, List.set_cons_zero, List.set_cons_succ]
  refine wpAnyH_take (i := 6) (oi := ?oi20005) (v := ?v20005) ?hi20005 (by kernel_rfl) (by kernel_rfl) (by kernel_rfl) (fun _ _ _ h => h) (Or.inl ⟨?hw20005, ?hy20005⟩) (by assumption) ?rest20005
  case hi20005 => (simp only [List.getElem?_toArray, List.getElem?_cons_zero, List.getElem?_cons_succ]; rfl)
  case hw20005 => rfl
  case hy20005 => first | (intro wx hSw; go_simp; done) | (intro wx hSw; go_simp; with_reducible rfl)
  simp only [Act.put, List.setIfInBounds_toArray, List.set_cons_zero, List.set_cons_succ]
  refine wpAnyH_take (i := 1) (oi := ?oi20006) (v := ?v20006) ?hi20006 (by kernel_rfl) (by kernel_rfl) (by kernel_rfl) (fun _ _ _ h => h) (Or.inl ⟨?hw20006, ?hy20006⟩) (by assumption) ?rest20006
  case hi20006 => (simp only [List.getElem?_toArray, List.getElem?_cons_zero, List.getElem?_cons_succ]; rfl)
  case hw20006 => rfl
  case hy20006 => first | (intro wx hSw; go_simp; done) | (intro wx hSw; go_simp; with_reducible rfl)
  simp only [Act.put, List.setIfInBounds_toArray, List.set_cons_zero, List.set_cons_succ]
  refine wpAnyH_take (i := 3) (oi := ?oi20007) (v := ?v20007) ?hi20007 (by kernel_rfl) (by kernel_rfl) (by kernel_rfl) (fun _ _ _ h => h) (Or.inl ⟨?hw20007, ?hy20007⟩) (by assumption) ?rest20007
  case hi20007 => (simp only [List.getElem?_toArray, List.getElem?_cons_zero, List.getElem?_cons_succ]; rfl)
  case hw20007 => rfl
  case hy20007 => first | (intro wx hSw; go_simp; done) | (intro wx hSw; go_simp; with_reducible rfl)
  simp only [Act.put, List.setIfInBounds_toArray, List.set_cons_zero, List.set_cons_succ]
  refine wpAnyH_take (i := 7) (oi := ?oi20008) (v := ?v20008) ?hi20008 (by kernel_rfl) (by kernel_rfl) (by kernel_rfl) (fun _ _ _ h => h) (Or.inl ⟨?hw20008, ?hy20008⟩) (by assumption) ?rest20008
  case hi20008 => (simp only [List.getElem?_toArray, List.getElem?_cons_zero, List.getElem?_cons_succ]; rfl)
  case hw20008 => rfl
  case hy20008 => first | (intro wx hSw; go_simp; done) | (intro wx hSw; go_simp; with_reducible rfl)
  simp only [Act.put, List.setIfInBounds_toArray, List.set_cons_zero, List.set_cons_succ]
  refine wpAnyH_take (i := 8) (oi := ?oi20009) (v := ?v20009) ?hi20009 (by kernel_rfl) (by kernel_rfl) (by kernel_rfl) (fun _ _ _ h => h) (Or.inl ⟨?hw20009, ?hy20009⟩) (by assumption) ?rest20009
  case hi20009 => (simp only [List.getElem?_toArray, List.getElem?_cons_zero, List.getElem?_cons_succ]; rfl)
  case hw20009 => rfl
  case hy20009 => first | (intro wx hSw; go_simp; done) | (intro wx hSw; go_simp; with_reducible rfl)
  simp only [Act.put, List.setIfInBounds_toArray, List.set_cons_zero, List.set_cons_succ]
  refine wpAnyH_ready (rs := [9, 12, 13, 14]) (by kernel_rfl) (by simp) ?_
  refine AllReadyH.cons rfl (fun K20010 hK20010 => ?_) ?_
  · go_simp
    go_wp2_with (go_at_call 17; refine (unhide WI _).mono ?_; rintro e w' ⟨rfl, rfl⟩)
    refine hK20010.out _ _ ?hs20010 (fun hHeld20010 => ?_)
    case hs20010 => exact trivial
    clear hHeld
    have hHeld := hHeld20010; clear hHeld20010 hK20010 K20010
    refine wpAnyH_take (i := 10) (oi := ?oi20011) (v := ?v20011) ?hi20011 (by kernel_rfl) (by kernel_rfl) (by kernel_rfl) (fun _ _ _ h => h) (Or.inl ⟨?hw20011, ?hy20011⟩) (by assumption) ?rest20011
    case hi20011 => (simp only [List.getElem?_toArray, List.getElem?_cons_zero, List.getElem?_cons_succ]; rfl)
    case hw20011 => rfl
    case hy20011 => first | (intro wx hSw; go_simp; done) | (intro wx hSw; go_simp; with_reducible rfl)
    simp only [Act.put, List.setIfInBounds_toArray, List.set_cons_zero, List.set_cons_succ]
    refine wpAnyH_take (i := 11) (oi := ?oi20012) (v := ?v20012) ?hi20012 (by kernel_rfl) (by kernel_rfl) (by kernel_rfl) (fun _ _ _ h => h) (Or.inl ⟨?hw20012, ?hy20012⟩) (by assumption) ?rest20012
    case hi20012 => (simp only [List.getElem?_toArray, List.getElem?_cons_zero, List.getElem?_cons_succ]; rfl)
    case hw20012 => rfl
    case hy20012 => first | (intro wx hSw; go_simp; done) | (intro wx hSw; go_simp; with_reducible rfl)
    simp only [Act.put, List.setIfInBounds_toArray, List.set_cons_zero, List.set_cons_succ]
    refine wpAnyH_ready (rs := [12, 13, 14]) (by kernel_rfl) (by simp) ?_
    refine AllReadyH.cons rfl (fun K20013 hK20013 => ?_) ?_
    · go_simp
      refine hK20013.out _ _ ?hs20013 (fun hHeld20013 => ?_)
      case hs20013 => exact trivial
      clear hHeld
      have hHeld := hHeld20013; clear hHeld20013 hK20013 K20013
      refine wpAnyH_ready (rs := [13, 14]) (by kernel_rfl) (by simp) ?_
      refine AllReadyH.cons rfl (fun K20014 hK20014 => ?_) ?_
      · go_simp
        refine hK20014.out _ _ ?hs20014 (fun hHeld20014 => ?_)
        case hs20014 => exact trivial
        clear hHeld
        have hHeld := hHeld20014; clear hHeld20014 hK20014 K20014
        refine wpAnyH_ready (rs := [14]) (by kernel_rfl) (by simp) ?_
        refine AllReadyH.cons rfl (fun K20015 hK20015 => ?_) AllReadyH.nil
        go_simp
        refine hK20015.out _ _ ?hs20015 (fun hHeld20015 => ?_)
        case hs20015 => exact trivial
        clear hHeld
        have hHeld := hHeld20015; clear hHeld20015 hK20015 K20015
        refine wpAnyH_ready (rs := [15]) (by kernel_rfl) (by simp) ?_
        refine AllReadyH.cons rfl (fun K20016 hK20016 => ?_) AllReadyH.nil
        go_simp
        refine hK20016.out _ _ ?hs20016 (fun hHeld20016 => ?_)
        case hs20016 => exact trivial
        clear hHeld
        have hHeld := hHeld20016; clear hHeld20016 hK20016 K20016
        refine wpAnyH_ready (rs := [16]) (by kernel_rfl) (by simp) ?_
        refine AllReadyH.cons rfl (fun K20017 hK20017 => ?_) AllReadyH.nil
        go_simp
        refine hK20017.out _ _ ?hs20017 (fun hHeld20017 => ?_)
        case hs20017 => exact trivial
        clear hHeld
        have hHeld := hHeld20017; clear hHeld20017 hK20017 K20017
        refine wpAnyH_ready (rs := [17]) (by kernel_rfl) (by simp) ?_
        refine AllReadyH.cons rfl (fun K20018 hK20018 => ?_) AllReadyH.nil
        go_simp
        refine hK20018.out _ _ ?hs20018 (fun hHeld20018 => ?_)
        case hs20018 => exact trivial
        clear hHeld
        have hHeld := hHeld20018; clear hHeld20018 hK20018 K20018
        refine wpAnyH_done (by kernel_rfl) ?_ _
        refine NoPanic.normal ?_
        skip
        have TH := three w1 s t (s.extract 0 j)
        exact unhide HREST w1.heap.size (w1.heap.size + 1) (w1.heap.size + 1 + 1) _ ⟨(unhide hL).trans (TH.2.2.2.mono (unhide hL).size), TH.1, TH.2.1, TH.2.2.1⟩
      refine AllReadyH.cons rfl (fun K20019 hK20019 => ?_) AllReadyH.nil
      · go_simp
        refine hK20019.out _ _ ?hs20019 (fun hHeld20019 => ?_)
        case hs20019 => exact trivial
        clear hHeld
        have hHeld := hHeld20019; clear hHeld20019 hK20019 K20019
        refine wpAnyH_ready (rs := [13]) (by kernel_rfl) (by simp) ?_
        refine AllReadyH.cons rfl (fun K20020 hK20020 => ?_) AllReadyH.nil
        go_simp
        refine hK20020.out _ _ ?hs20020 (fun hHeld20020 => ?_)
        case hs20020 => exact trivial
        clear hHeld
        have hHeld := hHeld20020; clear hHeld20020 hK20020 K20020
        refine wpAnyH_ready (rs := [15]) (by kernel_rfl) (by simp) ?_
        refine AllReadyH.cons rfl (fun K20021 hK20021 => ?_) AllReadyH.nil
        go_simp
        refine hK20021.out _ _ ?hs20021 (fun hHeld20021 => ?_)
        case hs20021 => exact trivial
        clear hHeld
        have hHeld := hHeld20021; clear hHeld20021 hK20021 K20021
        refine wpAnyH_ready (rs := [16]) (by kernel_rfl) (by simp) ?_
        refine AllReadyH.cons rfl (fun K20022 hK20022 => ?_) AllReadyH.nil
        go_simp
        refine hK20022.out _ _ ?hs20022 (fun hHeld20022 => ?_)
        case hs20022 => exact trivial
        clear hHeld
        have hHeld := hHeld20022; clear hHeld20022 hK20022 K20022
        refine wpAnyH_ready (rs := [17]) (by kernel_rfl) (by simp) ?_
        refine AllReadyH.cons rfl (fun K20023 hK20023 => ?_) AllReadyH.nil
        go_simp
        refine hK20023.out _ _ ?hs20023 (fun hHeld20023 => ?_)
        case hs20023 => exact trivial
        clear hHeld
        have hHeld := hHeld20023; clear hHeld20023 hK20023 K20023
        refine wpAnyH_done (by kernel_rfl) ?_ _
        refine NoPanic.normal ?_
        skip
        have TH := three w1 s (s.extract 0 j) t
        exact unhide HREST w1.heap.size (w1.heap.size + 1 + 1) (w1.heap.size + 1) _ ⟨(unhide hL).trans (TH.2.2.2.mono (unhide hL).size), TH.1, TH.2.2.1, TH.2.1⟩
    refine AllReadyH.cons rfl (fun K20024 hK20024 => ?_) ?_
    · go_simp
      refine hK20024.out _ _ ?hs20024 (fun hHeld20024 => ?_)
      case hs20024 => exact trivial
      clear hHeld
      have hHeld := hHeld20024; clear hHeld20024 hK20024 K20024
      refine wpAnyH_ready (rs := [12, 14]) (by kernel_rfl) (by simp) ?_
      refine AllReadyH.cons rfl (fun K20025 hK20025 => ?_) ?_
      · go_simp
        refine hK20025.out _ _ ?hs20025 (fun hHeld20025 => ?_)
        case hs20025 => exact trivial
        clear hHeld
        have hHeld := hHeld20025; clear hHeld20025 hK20025 K20025
        refine wpAnyH_ready (rs := [14]) (by kernel_rfl) (by simp) ?_
        refine AllReadyH.cons rfl (fun K20026 hK20026 => ?_) AllReadyH.nil
        go_simp
        refine hK20026.out _ _ ?hs20026 (fun hHeld20026 => ?_)
        case hs20026 => exact trivial
        clear hHeld
        have hHeld := hHeld20026; clear hHeld20026 hK20026 K20026
        refine wpAnyH_ready (rs := [15]) (by kernel_rfl) (by simp) ?_
        refine AllReadyH.cons rfl (fun K20027 hK20027 => ?_) AllReadyH.nil
        go_simp
        refine hK20027.out _ _ ?hs20027 (fun hHeld20027 => ?_)
        case hs20027 => exact trivial
        clear hHeld
        have hHeld := hHeld20027; clear hHeld20027 hK20027 K20027
        refine wpAnyH_ready (rs := [16]) (by kernel_rfl) (by simp) ?_
        refine AllReadyH.cons rfl (fun K20028 hK20028 => ?_) AllReadyH.nil
        go_simp
        refine hK20028.out _ _ ?hs20028 (fun hHeld20028 => ?_)
        case hs20028 => exact trivial
        clear hHeld
        have hHeld := hHeld20028; clear hHeld20028 hK20028 K20028
        refine wpAnyH_ready (rs := [17]) (by kernel_rfl) (by simp) ?_
        refine AllReadyH.cons rfl (fun K20029 hK20029 => ?_) AllReadyH.nil
        go_simp
        refine hK20029.out _ _ ?hs20029 (fun hHeld20029 => ?_)
        case hs20029 => exact trivial
        clear hHeld
        have hHeld := hHeld20029; clear hHeld20029 hK20029 K20029
        refine wpAnyH_done (by kernel_rfl) ?_ _
        refine NoPanic.normal ?_
        skip
        have TH := three w1 t s (s.extract 0 j)
        exact unhide HREST (w1.heap.size + 1) w1.heap.size (w1.heap.size + 1 + 1) _ ⟨(unhide hL).trans (TH.2.2.2.mono (unhide hL).size), TH.2.1, TH.1, TH.2.2.1⟩
      refine AllReadyH.cons rfl (fun K20030 hK20030 => ?_) AllReadyH.nil
      · go_simp
        refine hK20030.out _ _ ?hs20030 (fun hHeld20030 => ?_)
        case hs20030 => exact trivial
        clear hHeld
        have hHeld := hHeld20030; clear hHeld20030 hK20030 K20030
        refine wpAnyH_ready (rs := [12]) (by kernel_rfl) (by simp) ?_
        refine AllReadyH.cons rfl (fun K20031 hK20031 => ?_) AllReadyH.nil
        go_simp
        refine hK20031.out _ _ ?hs20031 (fun hHeld20031 => ?_)
        case hs20031 => exact trivial
        clear hHeld
        have hHeld := hHeld20031; clear hHeld20031 hK20031 K20031
        refine wpAnyH_ready (rs := [15]) (by kernel_rfl) (by simp) ?_
        refine AllReadyH.cons rfl (fun K20032 hK20032 => ?_) AllReadyH.nil
        go_simp
        refine hK20032.out _ _ ?hs20032 (fun hHeld20032 => ?_)
        case hs20032 => exact trivial
        clear hHeld
        have hHeld := hHeld20032; clear hHeld20032 hK20032 K20032
        refine wpAnyH_ready (rs := [16]) (by kernel_rfl) (by simp) ?_
        refine AllReadyH.cons rfl (fun K20033 hK20033 => ?_) AllReadyH.nil
        go_simp
        refine hK20033.out _ _ ?hs20033 (fun hHeld20033 => ?_)
        case hs20033 => exact trivial
        clear hHeld
        have hHeld := hHeld20033; clear hHeld20033 hK20033 K20033
        refine wpAnyH_ready (rs := [17]) (by kernel_rfl) (by simp) ?_
        refine AllReadyH.cons rfl (fun K20034 hK20034 => ?_) AllReadyH.nil
        go_simp
        refine hK20034.out _ _ ?hs20034 (fun hHeld20034 => ?_)
        case hs20034 => exact trivial
        clear hHeld
        have hHeld := hHeld20034; clear hHeld20034 hK20034 K20034
        refine wpAnyH_done (by kernel_rfl) ?_ _
        refine NoPanic.normal ?_
        skip
        have TH := three w1 t (s.extract 0 j) s
        exact unhide HREST (w1.heap.size + 1 + 1) w1.heap.size (w1.heap.size + 1) _ ⟨(unhide hL).trans (TH.2.2.2.mono (unhide hL).size), TH.2.2.1, TH.1, TH.2.1⟩
    refine AllReadyH.cons rfl (fun K20035 hK20035 => ?_) AllReadyH.nil
    · go_simp
      refine hK20035.out _ _ ?hs20035 (fun hHeld20035 => ?_)
      case hs20035 => exact trivial
      clear hHeld
      have hHeld := hHeld20035; clear hHeld20035 hK20035 K20035
      refine wpAnyH_ready (rs := [12, 13]) (by kernel_rfl) (by simp) ?_
      refine AllReadyH.cons rfl (fun K20036 hK20036 => ?_) ?_
      · go_simp
        refine hK20036.out _ _ ?hs20036 (fun hHeld20036 => ?_)
        case hs20036 => exact trivial
        clear hHeld
        have hHeld := hHeld20036; clear hHeld20036 hK20036 K20036
        refine wpAnyH_ready (rs := [13]) (by kernel_rfl) (by simp) ?_
        refine AllReadyH.cons rfl (fun K20037 hK20037 => ?_) AllReadyH.nil
        go_simp
        refine hK20037.out _ _ ?hs20037 (fun hHeld20037 => ?_)
        case hs20037 => exact trivial
        clear hHeld
        have hHeld := hHeld20037; clear hHeld20037 hK20037 K20037
        refine wpAnyH_ready (rs := [15]) (by kernel_rfl) (by simp) ?_
        refine AllReadyH.cons rfl (fun K20038 hK20038 => ?_) AllReadyH.nil
        go_simp
        refine hK20038.out _ _ ?hs20038 (fun hHeld20038 => ?_)
        case hs20038 => exact trivial
        clear hHeld
        have hHeld := hHeld20038; clear hHeld20038 hK20038 K20038
        refine wpAnyH_ready (rs := [16]) (by kernel_rfl) (by simp) ?_
        refine AllReadyH.cons rfl (fun K20039 hK20039 => ?_) AllReadyH.nil
        go_simp
        refine hK20039.out _ _ ?hs20039 (fun hHeld20039 => ?_)
        case hs20039 => exact trivial
        clear hHeld
        have hHeld := hHeld20039; clear hHeld20039 hK20039 K20039
        refine wpAnyH_ready (rs := [17]) (by kernel_rfl) (by simp) ?_
        refine AllReadyH.cons rfl (fun K20040 hK20040 => ?_) AllReadyH.nil
        go_simp
        refine hK20040.out _ _ ?hs20040 (fun hHeld20040 => ?_)
        case hs20040 => exact trivial
        clear hHeld
        have hHeld := hHeld20040; clear hHeld20040 hK20040 K20040
        refine wpAnyH_done (by kernel_rfl) ?_ _
        refine NoPanic.normal ?_
        skip
        have TH := three w1 (s.extract 0 j) s t
        exact unhide HREST (w1.heap.size + 1) (w1.heap.size + 1 + 1) w1.heap.size _ ⟨(unhide hL).trans (TH.2.2.2.mono (unhide hL).size), TH.2.1, TH.2.2.1, TH.1⟩
      refine AllReadyH.cons rfl (fun K20041 hK20041 => ?_) AllReadyH.nil
      · go_simp
        refine hK20041.out _ _ ?hs20041 (fun hHeld20041 => ?_)
        case hs20041 => exact trivial
        clear hHeld
        have hHeld := hHeld20041; clear hHeld20041 hK20041 K20041
        refine wpAnyH_ready (rs := [12]) (by kernel_rfl) (by simp) ?_
        refine AllReadyH.cons rfl (fun K20042 hK20042 => ?_) AllReadyH.nil
        go_simp
        refine hK20042.out _ _ ?hs20042 (fun hHeld20042 => ?_)
        case hs20042 => exact trivial
        clear hHeld
        have hHeld := hHeld20042; clear hHeld20042 hK20042 K20042
        refine wpAnyH_ready (rs := [15]) (by kernel_rfl) (by simp) ?_
        refine AllReadyH.cons rfl (fun K20043 hK20043 => ?_) AllReadyH.nil
        go_simp
        refine hK20043.out _ _ ?hs20043 (fun hHeld20043 => ?_)
        case hs20043 => exact trivial
        clear hHeld
        have hHeld := hHeld20043; clear hHeld20043 hK20043 K20043
        refine wpAnyH_ready (rs := [16]) (by kernel_rfl) (by simp) ?_
        refine AllReadyH.cons rfl (fun K20044 hK20044 => ?_) AllReadyH.nil
        go_simp
        refine hK20044.out _ _ ?hs20044 (fun hHeld20044 => ?_)
        case hs20044 => exact trivial
        clear hHeld
        have hHeld := hHeld20044; clear hHeld20044 hK20044 K20044
        refine wpAnyH_ready (rs := [17]) (by kernel_rfl) (by simp) ?_
        refine AllReadyH.cons rfl (fun K20045 hK20045 => ?_) AllReadyH.nil
        go_simp
        refine hK20045.out _ _ ?hs20045 (fun hHeld20045 => ?_)
        case hs20045 => exact trivial
        clear hHeld
        have hHeld := hHeld20045; clear hHeld20045 hK20045 K20045
        refine wpAnyH_done (by kernel_rfl) ?_ _
        refine NoPanic.normal ?_
        skip
        have TH := three w1 (s.extract 0 j) t s
        exact unhide HREST (w1.heap.size + 1 + 1) (w1.heap.size + 1) w1.heap.size _ ⟨(unhide hL).trans (TH.2.2.2.mono (unhide hL).size), TH.2.2.1, TH.2.1, TH.1⟩
  refine AllReadyH.cons rfl (fun K20046 hK20046 => ?_) ?_
  · go_simp
    refine hK20046.out _ _ ?hs20046 (fun hHeld20046 => ?_)
    case hs20046 => exact trivial
    clear hHeld
    have hHeld := hHeld20046; clear hHeld20046 hK20046 K20046
    refine wpAnyH_ready (rs := [9, 13, 14]) (by kernel_rfl) (by simp) ?_
    refine AllReadyH.cons rfl (fun K20047 hK20047 => ?_) ?_
    · go_simp
      go_wp2_with (go_at_call 17; refine (unhide WI _).mono ?_; rintro e w' ⟨rfl, rfl⟩)
      refine hK20047.out _ _ ?hs20047 (fun hHeld20047 => ?_)
      case hs20047 => exact trivial
      clear hHeld
      have hHeld := hHeld20047; clear hHeld20047 hK20047 K20047
      refine wpAnyH_take (i := 10) (oi := ?oi20048) (v := ?v20048) ?hi20048 (by kernel_rfl) (by kernel_rfl) (by kernel_rfl) (fun _ _ _ h => h) (Or.inl ⟨?hw20048, ?hy20048⟩) (by assumption) ?rest20048
      case hi20048 => (simp only [List.getElem?_toArray, List.getElem?_cons_zero, List.getElem?_cons_succ]; rfl)
      case hw20048 => rfl
      case hy20048 => first | (intro wx hSw; go_simp; done) | (intro wx hSw; go_simp; with_reducible rfl)
      simp only [Act.put, List.setIfInBounds_toArray, List.set_cons_zero, List.set_cons_succ]
      refine wpAnyH_take (i := 11) (oi := ?oi20049) (v := ?v20049) ?hi20049 (by kernel_rfl) (by kernel_rfl) (by kernel_rfl) (fun _ _ _ h => h) (Or.inl ⟨?hw20049, ?hy20049⟩) (by assumption) ?rest20049
      case hi20049 => (simp only [List.getElem?_toArray, List.getElem?_cons_zero, List.getElem?_cons_succ]; rfl)
      case hw20049 => rfl
      case hy20049 => first | (intro wx hSw; go_simp; done) | (intro wx hSw; go_simp; with_reducible rfl)
      simp only [Act.put, List.setIfInBounds_toArray, List.set_cons_zero, List.set_cons_succ]
      refine wpAnyH_ready (rs := [13, 14]) (by kernel_rfl) (by simp) ?_
      refine AllReadyH.cons rfl (fun K20050 hK20050 => ?_) ?_
      · go_simp
        refine hK20050.out _ _ ?hs20050 (fun hHeld20050 => ?_)
        case hs20050 => exact trivial
        clear hHeld
        have hHeld := hHeld20050; clear hHeld20050 hK20050 K20050
        refine wpAnyH_ready (rs := [14]) (by kernel_rfl) (by simp) ?_
        refine AllReadyH.cons rfl (fun K20051 hK20051 => ?_) AllReadyH.nil
        go_simp
        refine hK20051.out _ _ ?hs20051 (fun hHeld20051 => ?_)
        case hs20051 => exact trivial
        clear hHeld
        have hHeld := hHeld20051; clear hHeld20051 hK20051 K20051
        refine wpAnyH_ready (rs := [15]) (by kernel_rfl) (by simp) ?_
        refine AllReadyH.cons rfl (fun K20052 hK20052 => ?_) AllReadyH.nil
        go_simp
        refine hK20052.out _ _ ?hs20052 (fun hHeld20052 => ?_)
        case hs20052 => exact trivial
        clear hHeld
        have hHeld := hHeld20052; clear hHeld20052 hK20052 K20052
        refine wpAnyH_ready (rs := [16]) (by kernel_rfl) (by simp) ?_
        refine AllReadyH.cons rfl (fun K20053 hK20053 => ?_) AllReadyH.nil
        go_simp
        refine hK20053.out _ _ ?hs20053 (fun hHeld20053 => ?_)
        case hs20053 => exact trivial
        clear hHeld
        have hHeld := hHeld20053; clear hHeld20053 hK20053 K20053
        refine wpAnyH_ready (rs := [17]) (by kernel_rfl) (by simp) ?_
        refine AllReadyH.cons rfl (fun K20054 hK20054 => ?_) AllReadyH.nil
        go_simp
        refine hK20054.out _ _ ?hs20054 (fun hHeld20054 => ?_)
        case hs20054 => exact trivial
        clear hHeld
        have hHeld := hHeld20054; clear hHeld20054 hK20054 K20054
        refine wpAnyH_done (by kernel_rfl) ?_ _
        refine NoPanic.normal ?_
        skip
        have TH := three w1 s t (s.extract 0 j)
        exact unhide HREST w1.heap.size (w1.heap.size + 1) (w1.heap.size + 1 + 1) _ ⟨(unhide hL).trans (TH.2.2.2.mono (unhide hL).size), TH.1, TH.2.1, TH.2.2.1⟩
      refine AllReadyH.cons rfl (fun K20055 hK20055 => ?_) AllReadyH.nil
      · go_simp
        refine hK20055.out _ _ ?hs20055 (fun hHeld20055 => ?_)
        case hs20055 => exact trivial
        clear hHeld
        have hHeld := hHeld20055; clear hHeld20055 hK20055 K20055
        refine wpAnyH_ready (rs := [13]) (by kernel_rfl) (by simp) ?_
        refine AllReadyH.cons rfl (fun K20056 hK20056 => ?_) AllReadyH.nil
        go_simp
        refine hK20056.out _ _ ?hs20056 (fun hHeld20056 => ?_)
        case hs20056 => exact trivial
        clear hHeld
        have hHeld := hHeld20056; clear hHeld20056 hK20056 K20056
        refine wpAnyH_ready (rs := [15]) (by kernel_rfl) (by simp) ?_
        refine AllReadyH.cons rfl (fun K20057 hK20057 => ?_) AllReadyH.nil
        go_simp
        refine hK20057.out _ _ ?hs20057 (fun hHeld20057 => ?_)
        case hs20057 => exact trivial
        clear hHeld
        have hHeld := hHeld20057; clear hHeld20057 hK20057 K20057
        refine wpAnyH_ready (rs := [16]) (by kernel_rfl) (by simp) ?_
        refine AllReadyH.cons rfl (fun K20058 hK20058 => ?_) AllReadyH.nil
        go_simp
        refine hK20058.out _ _ ?hs20058 (fun hHeld20058 => ?_)
        case hs20058 => exact trivial
        clear hHeld
        have hHeld := hHeld20058; clear hHeld20058 hK20058 K20058
        refine wpAnyH_ready (rs := [17]) (by kernel_rfl) (by simp) ?_
        refine AllReadyH.cons rfl (fun K20059 hK20059 => ?_) AllReadyH.nil
        go_simp
        refine hK20059.out _ _ ?hs20059 (fun hHeld20059 => ?_)
        case hs20059 => exact trivial
        clear hHeld
        have hHeld := hHeld20059; clear hHeld20059 hK20059 K20059
        refine wpAnyH_done (by kernel_rfl) ?_ _
        refine NoPanic.normal ?_
        skip
        have TH := three w1 s (s.extract 0 j) t
        exact unhide HREST w1.heap.size (w1.heap.size + 1 + 1) (w1.heap.size + 1) _ ⟨(unhide hL).trans (TH.2.2.2.mono (unhide hL).size), TH.1, TH.2.2.1, TH.2.1⟩
    refine AllReadyH.cons rfl (fun K20060 hK20060 => ?_) ?_
    · go_simp
      refine hK20060.out _ _ ?hs20060 (fun hHeld20060 => ?_)
      case hs20060 => exact trivial
      clear hHeld
      have hHeld := hHeld20060; clear hHeld20060 hK20060 K20060
      refine wpAnyH_ready (rs := [9, 14]) (by kernel_rfl) (by simp) ?_
      refine AllReadyH.cons rfl (fun K20061 hK20061 => ?_) ?_
      · go_simp
        go_wp2_with (go_at_call 17; refine (unhide WI _).mono ?_; rintro e w' ⟨rfl, rfl⟩)
        refine hK20061.out _ _ ?hs20061 (fun hHeld20061 => ?_)
        case hs20061 => exact trivial
        clear hHeld
        have hHeld := hHeld20061; clear hHeld20061 hK20061 K20061
        refine wpAnyH_take (i := 10) (oi := ?oi20062) (v := ?v20062) ?hi20062 (by kernel_rfl) (by kernel_rfl) (by kernel_rfl) (fun _ _ _ h => h) (Or.inl ⟨?hw20062, ?hy20062⟩) (by assumption) ?rest20062
        case hi20062 => (simp only [List.getElem?_toArray, List.getElem?_cons_zero, List.getElem?_cons_succ]; rfl)
        case hw20062 => rfl
        case hy20062 => first | (intro wx hSw; go_simp; done) | (intro wx hSw; go_simp; with_reducible rfl)
        simp only [Act.put, List.setIfInBounds_toArray, List.set_cons_zero, List.set_cons_succ]
        refine wpAnyH_take (i := 11) (oi := ?oi20063) (v := ?v20063) ?hi20063 (by kernel_rfl) (by kernel_rfl) (by kernel_rfl) (fun _ _ _ h => h) (Or.inl ⟨?hw20063, ?hy20063⟩) (by assumption) ?rest20063
        case hi20063 => (simp only [List.getElem?_toArray, List.getElem?_cons_zero, List.getElem?_cons_succ]; rfl)
        case hw20063 => rfl
        case hy20063 => first | (intro wx hSw; go_simp; done) | (intro wx hSw; go_simp; with_reducible rfl)
        simp only [Act.put, List.setIfInBounds_toArray, List.set_cons_zero, List.set_cons_succ]
        refine wpAnyH_ready (rs := [14]) (by kernel_rfl) (by simp) ?_
        refine AllReadyH.cons rfl (fun K20064 hK20064 => ?_) AllReadyH.nil
        go_simp
        refine hK20064.out _ _ ?hs20064 (fun hHeld20064 => ?_)
        case hs20064 => exact trivial
        clear hHeld
        have hHeld := hHeld20064; clear hHeld20064 hK20064 K20064
        refine wpAnyH_ready (rs := [15]) (by kernel_rfl) (by simp) ?_
        refine AllReadyH.cons rfl (fun K20065 hK20065 => ?_) AllReadyH.nil
        go_simp
        refine hK20065.out _ _ ?hs20065 (fun hHeld20065 => ?_)
        case hs20065 => exact trivial
        clear hHeld
        have hHeld := hHeld20065; clear hHeld20065 hK20065 K20065
        refine wpAnyH_ready (rs := [16]) (by kernel_rfl) (by simp) ?_
        refine AllReadyH.cons rfl (fun K20066 hK20066 => ?_) AllReadyH.nil
        go_simp
        refine hK20066.out _ _ ?hs20066 (fun hHeld20066 => ?_)
        case hs20066 => exact trivial
        clear hHeld
        have hHeld := hHeld20066; clear hHeld20066 hK20066 K20066
        refine wpAnyH_ready (rs := [17]) (by kernel_rfl) (by simp) ?_
        refine AllReadyH.cons rfl (fun K20067 hK20067 => ?_) AllReadyH.nil
        go_simp
        refine hK20067.out _ _ ?hs20067 (fun hHeld20067 => ?_)
        case hs20067 => exact trivial
        clear hHeld
        have hHeld := hHeld20067; clear hHeld20067 hK20067 K20067
        refine wpAnyH_done (by kernel_rfl) ?_ _
        refine NoPanic.normal ?_
        skip
        have TH := three w1 s t (s.extract 0 j)
        exact unhide HREST w1.heap.size (w1.heap.size + 1) (w1.heap.size + 1 + 1) _ ⟨(unhide hL).trans (TH.2.2.2.mono (unhide hL).size), TH.1, TH.2.1, TH.2.2.1⟩
      refine AllReadyH.cons rfl (fun K20068 hK20068 => ?_) AllReadyH.nil
      · go_simp
        refine hK20068.out _ _ ?hs20068 (fun hHeld20068 => ?_)
        case hs20068 => exact trivial
        clear hHeld
        have hHeld := hHeld20068; clear hHeld20068 hK20068 K20068
        refine wpAnyH_ready (rs := [9]) (by kernel_rfl) (by simp) ?_
        refine AllReadyH.cons rfl (fun K20069 hK20069 => ?_) AllReadyH.nil
        go_simp
        go_wp2_with (go_at_call 17; refine (unhide WI _).mono ?_; rintro e w' ⟨rfl, rfl⟩)
        refine hK20069.out _ _ ?hs20069 (fun hHeld20069 => ?_)
        case hs20069 => exact trivial
        clear hHeld
        have hHeld := hHeld20069; clear hHeld20069 hK20069 K20069
        refine wpAnyH_take (i := 10) (oi := ?oi20070) (v := ?v20070) ?hi20070 (by kernel_rfl) (by kernel_rfl) (by kernel_rfl) (fun _ _ _ h => h) (Or.inl ⟨?hw20070, ?hy20070⟩) (by assumption) ?rest20070
        case hi20070 => (simp only [List.getElem?_toArray, List.getElem?_cons_zero, List.getElem?_cons_succ]; rfl)
        case hw20070 => rfl
        case hy20070 => first | (intro wx hSw; go_simp; done) | (intro wx hSw; go_simp; with_reducible rfl)
        simp only [Act.put, List.setIfInBounds_toArray, List.set_cons_zero, List.set_cons_succ]
        refine wpAnyH_take (i := 11) (oi := ?oi20071) (v := ?v20071) ?hi20071 (by kernel_rfl) (by kernel_rfl) (by kernel_rfl) (fun _ _ _ h => h) (Or.inl ⟨?hw20071, ?hy20071⟩) (by assumption) ?rest20071
        case hi20071 => (simp only [List.getElem?_toArray, List.getElem?_cons_zero, List.getElem?_cons_succ]; rfl)
        case hw20071 => rfl
        case hy20071 => first | (intro wx hSw; go_simp; done) | (intro wx hSw; go_simp; with_reducible rfl)
        simp only [Act.put, List.setIfInBounds_toArray, List.set_cons_zero, List.set_cons_succ]
        refine wpAnyH_ready (rs := [15]) (by kernel_rfl) (by simp) ?_
        refine AllReadyH.cons rfl (fun K20072 hK20072 => ?_) AllReadyH.nil
        go_simp
        refine hK20072.out _ _ ?hs20072 (fun hHeld20072 => ?_)
        case hs20072 => exact trivial
        clear hHeld
        have hHeld := hHeld20072; clear hHeld20072 hK20072 K20072
        refine wpAnyH_ready (rs := [16]) (by kernel_rfl) (by simp) ?_
        refine AllReadyH.cons rfl (fun K20073 hK20073 => ?_) AllReadyH.nil
        go_simp
        refine hK20073.out _ _ ?hs20073 (fun hHeld20073 => ?_)
        case hs20073 => exact trivial
        clear hHeld
        have hHeld := hHeld20073; clear hHeld20073 hK20073 K20073
        refine wpAnyH_ready (rs := [17]) (by kernel_rfl) (by simp) ?_
        refine AllReadyH.cons rfl (fun K20074 hK20074 => ?_) AllReadyH.nil
        go_simp
        refine hK20074.out _ _ ?hs20074 (fun hHeld20074 => ?_)
        case hs20074 => exact trivial
        clear hHeld
        have hHeld := hHeld20074; clear hHeld20074 hK20074 K20074
        refine wpAnyH_done (by kernel_rfl) ?_ _
        refine NoPanic.normal ?_
        skip
        have TH := three w1 s t (s.extract 0 j)
        exact unhide HREST w1.heap.size (w1.heap.size + 1) (w1.heap.size + 1 + 1) _ ⟨(unhide hL).trans (TH.2.2.2.mono (unhide hL).size), TH.1, TH.2.1, TH.2.2.1⟩
    refine AllReadyH.cons rfl (fun K20075 hK20075 => ?_) AllReadyH.nil
    · go_simp
      refine hK20075.out _ _ ?hs20075 (fun hHeld20075 => ?_)
      case hs20075 => exact trivial
      clear hHeld
      have hHeld := hHeld20075; clear hHeld20075 hK20075 K20075
      refine wpAnyH_ready (rs := [9, 13]) (by kernel_rfl) (by simp) ?_
      refine AllReadyH.cons rfl (fun K20076 hK20076 => ?_) ?_
      · go_simp
        go_wp2_with (go_at_call 17; refine (unhide WI _).mono ?_; rintro e w' ⟨rfl, rfl⟩)
        refine hK20076.out _ _ ?hs20076 (fun hHeld20076 => ?_)
        case hs20076 => exact trivial
        clear hHeld
        have hHeld := hHeld20076; clear hHeld20076 hK20076 K20076
        refine wpAnyH_take (i := 10) (oi := ?oi20077) (v := ?v20077) ?hi20077 (by kernel_rfl) (by kernel_rfl) (by kernel_rfl) (fun _ _ _ h => h) (Or.inl ⟨?hw20077, ?hy20077⟩) (by assumption) ?rest20077
        case hi20077 => (simp only [List.getElem?_toArray, List.getElem?_cons_zero, List.getElem?_cons_succ]; rfl)
        case hw20077 => rfl
        case hy20077 => first | (intro wx hSw; go_simp; done) | (intro wx hSw; go_simp; with_reducible rfl)
        simp only [Act.put, List.setIfInBounds_toArray, List.set_cons_zero, List.set_cons_succ]
        refine wpAnyH_take (i := 11) (oi := ?oi20078) (v := ?v20078) ?hi20078 (by kernel_rfl) (by kernel_rfl) (by kernel_rfl) (fun _ _ _ h => h) (Or.inl ⟨?hw20078, ?hy20078⟩) (by assumption) ?rest20078
        case hi20078 => (simp only [List.getElem?_toArray, List.getElem?_cons_zero, List.getElem?_cons_succ]; rfl)
        case hw20078 => rfl
        case hy20078 => first | (intro wx hSw; go_simp; done) | (intro wx hSw; go_simp; with_reducible rfl)
        simp only [Act.put, List.setIfInBounds_toArray, List.set_cons_zero, List.set_cons_succ]
        refine wpAnyH_ready (rs := [13]) (by kernel_rfl) (by simp) ?_
        refine AllReadyH.cons rfl (fun K20079 hK20079 => ?_) AllReadyH.nil
        go_simp
        refine hK20079.out _ _ ?hs20079 (fun hHeld20079 => ?_)
        case hs20079 => exact trivial
        clear hHeld
        have hHeld := hHeld20079; clear hHeld20079 hK20079 K20079
        refine wpAnyH_ready (rs := [15]) (by kernel_rfl) (by simp) ?_
        refine AllReadyH.cons rfl (fun K20080 hK20080 => ?_) AllReadyH.nil
        go_simp
        refine hK20080.out _ _ ?hs20080 (fun hHeld20080 => ?_)
        case hs20080 => exact trivial
        clear hHeld
        have hHeld := hHeld20080; clear hHeld20080 hK20080 K20080
        refine wpAnyH_ready (rs := [16]) (by kernel_rfl) (by simp) ?_
        refine AllReadyH.cons rfl (fun K20081 hK20081 => ?_) AllReadyH.nil
        go_simp
        refine hK20081.out _ _ ?hs20081 (fun hHeld20081 => ?_)
        case hs20081 => exact trivial
        clear hHeld
        have hHeld := hHeld20081; clear hHeld20081 hK20081 K20081
        refine wpAnyH_ready (rs := [17]) (by kernel_rfl) (by simp) ?_
        refine AllReadyH.cons rfl (fun K20082 hK20082 => ?_) AllReadyH.nil
        go_simp
        refine hK20082.out _ _ ?hs20082 (fun hHeld20082 => ?_)
        case hs20082 => exact trivial
        clear hHeld
        have hHeld := hHeld20082; clear hHeld20082 hK20082 K20082
        refine wpAnyH_done (by kernel_rfl) ?_ _
        refine NoPanic.normal ?_
        skip
        have TH := three w1 s (s.extract 0 j) t
        exact unhide HREST w1.heap.size (w1.heap.size + 1 + 1) (w1.heap.size + 1) _ ⟨(unhide hL).trans (TH.2.2.2.mono (unhide hL).size), TH.1, TH.2.2.1, TH.2.1⟩
      refine AllReadyH.cons rfl (fun K20083 hK20083 => ?_) AllReadyH.nil
      · go_simp
        refine hK20083.out _ _ ?hs20083 (fun hHeld20083 => ?_)
        case hs20083 => exact trivial
        clear hHeld
        have hHeld := hHeld20083; clear hHeld20083 hK20083 K20083
        refine wpAnyH_ready (rs := [9]) (by kernel_rfl) (by simp) ?_
        refine AllReadyH.cons rfl (fun K20084 hK20084 => ?_) AllReadyH.nil
        go_simp
        go_wp2_with (go_at_call 17; refine (unhide WI _).mono ?_; rintro e w' ⟨rfl, rfl⟩)
        refine hK20084.out _ _ ?hs20084 (fun hHeld20084 => ?_)
        case hs20084 => exact trivial
        clear hHeld
        have hHeld := hHeld20084; clear hHeld20084 hK20084 K20084
        refine wpAnyH_take (i := 10) (oi := ?oi20085) (v := ?v20085) ?hi20085 (by kernel_rfl) (by kernel_rfl) (by kernel_rfl) (fun _ _ _ h => h) (Or.inl ⟨?hw20085, ?hy20085⟩) (by assumption) ?rest20085
        case hi20085 => (simp only [List.getElem?_toArray, List.getElem?_cons_zero, List.getElem?_cons_succ]; rfl)
        case hw20085 => rfl
        case hy20085 => first | (intro wx hSw; go_simp; done) | (intro wx hSw; go_simp; with_reducible rfl)
        simp only [Act.put, List.setIfInBounds_toArray, List.set_cons_zero, List.set_cons_succ]
        refine wpAnyH_take (i := 11) (oi := ?oi20086) (v := ?v20086) ?hi20086 (by kernel_rfl) (by kernel_rfl) (by kernel_rfl) (fun _ _ _ h => h) (Or.inl ⟨?hw20086, ?hy20086⟩) (by assumption) ?rest20086
        case hi20086 => (simp only [List.getElem?_toArray, List.getElem?_cons_zero, List.getElem?_cons_succ]; rfl)
        case hw20086 => rfl
        case hy20086 => first | (intro wx hSw; go_simp; done) | (intro wx hSw; go_simp; with_reducible rfl)
        simp only [Act.put, List.setIfInBounds_toArray, List.set_cons_zero, List.set_cons_succ]
        refine wpAnyH_ready (rs := [15]) (by kernel_rfl) (by simp) ?_
        refine AllReadyH.cons rfl (fun K20087 hK20087 => ?_) AllReadyH.nil
        go_simp
        refine hK20087.out _ _ ?hs20087 (fun hHeld20087 => ?_)
        case hs20087 => exact trivial
        clear hHeld
        have hHeld := hHeld20087; clear hHeld20087 hK20087 K20087
        refine wpAnyH_ready (rs := [16]) (by kernel_rfl) (by simp) ?_
        refine AllReadyH.cons rfl (fun K20088 hK20088 => ?_) AllReadyH.nil
        go_simp
        refine hK20088.out _ _ ?hs20088 (fun hHeld20088 => ?_)
        case hs20088 => exact trivial
        clear hHeld
        have hHeld := hHeld20088; clear hHeld20088 hK20088 K20088
        refine wpAnyH_ready (rs := [17]) (by kernel_rfl) (by simp) ?_
        refine AllReadyH.cons rfl (fun K20089 hK20089 => ?_) AllReadyH.nil
        go_simp
        refine hK20089.out _ _ ?hs20089 (fun hHeld20089 => ?_)
        case hs20089 => exact trivial
        clear hHeld
        have hHeld := hHeld20089; clear hHeld20089 hK20089 K20089
        refine wpAnyH_done (by kernel_rfl) ?_ _
        refine NoPanic.normal ?_
        skip
        have TH := three w1 s (s.extract 0 j) t
        exact unhide HREST w1.heap.size (w1.heap.size + 1 + 1) (w1.heap.size + 1) _ ⟨(unhide hL).trans (TH.2.2.2.mono (unhide hL).size), TH.1, TH.2.2.1, TH.2.1⟩
  refine AllReadyH.cons rfl (fun K20090 hK20090 => ?_) ?_
  · go_simp
    refine hK20090.out _ _ ?hs20090 (fun hHeld20090 => ?_)
    case hs20090 => exact trivial
    clear hHeld
    have hHeld := hHeld20090; clear hHeld20090 hK20090 K20090
    refine wpAnyH_ready (rs := [9, 12, 14]) (by kernel_rfl) (by simp) ?_
    refine AllReadyH.cons rfl (fun K20091 hK20091 => ?_) ?_
    · go_simp
      go_wp2_with (go_at_call 17; refine (unhide WI _).mono ?_; rintro e w' ⟨rfl, rfl⟩)
      refine hK20091.out _ _ ?hs20091 (fun hHeld20091 => ?_)
      case hs20091 => exact trivial
      clear hHeld
      have hHeld := hHeld20091; clear hHeld20091 hK20091 K20091
      refine wpAnyH_take (i := 10) (oi := ?oi20092) (v := ?v20092) ?hi20092 (by kernel_rfl) (by kernel_rfl) (by kernel_rfl) (fun _ _ _ h => h) (Or.inl ⟨?hw20092, ?hy20092⟩) (by assumption) ?rest20092
      case hi20092 => (simp only [List.getElem?_toArray, List.getElem?_cons_zero, List.getElem?_cons_succ]; rfl)
      case hw20092 => rfl
      case hy20092 => first | (intro wx hSw; go_simp; done) | (intro wx hSw; go_simp; with_reducible rfl)
      simp only [Act.put, List.setIfInBounds_toArray, List.set_cons_zero, List.set_cons_succ]
      refine wpAnyH_take (i := 11) (oi := ?oi20093) (v := ?v20093) ?hi20093 (by kernel_rfl) (by kernel_rfl) (by kernel_rfl) (fun _ _ _ h => h) (Or.inl ⟨?hw20093, ?hy20093⟩) (by assumption) ?rest20093
      case hi20093 => (simp only [List.getElem?_toArray, List.getElem?_cons_zero, List.getElem?_cons_succ]; rfl)
      case hw20093 => rfl
      case hy20093 => first | (intro wx hSw; go_simp; done) | (intro wx hSw; go_simp; with_reducible rfl)
      simp only [Act.put, List.setIfInBounds_toArray, List.set_cons_zero, List.set_cons_succ]
      refine wpAnyH_ready (rs := [12, 14]) (by kernel_rfl) (by simp) ?_
      refine AllReadyH.cons rfl (fun K20094 hK20094 => ?_) ?_
      · go_simp
        refine hK20094.out _ _ ?hs20094 (fun hHeld20094 => ?_)
        case hs20094 => exact trivial
        clear hHeld
        have hHeld := hHeld20094; clear hHeld20094 hK20094 K20094
        refine wpAnyH_ready (rs := [14]) (by kernel_rfl) (by simp) ?_
        refine AllReadyH.cons rfl (fun K20095 hK20095 => ?_) AllReadyH.nil
        go_simp
        refine hK20095.out _ _ ?hs20095 (fun hHeld20095 => ?_)
        case hs20095 => exact trivial
        clear hHeld
        have hHeld := hHeld20095; clear hHeld20095 hK20095 K20095
        refine wpAnyH_ready (rs := [15]) (by kernel_rfl) (by simp) ?_
        refine AllReadyH.cons rfl (fun K20096 hK20096 => ?_) AllReadyH.nil
        go_simp
        refine hK20096.out _ _ ?hs20096 (fun hHeld20096 => ?_)
        case hs20096 => exact trivial
        clear hHeld
        have hHeld := hHeld20096; clear hHeld20096 hK20096 K20096
        refine wpAnyH_ready (rs := [16]) (by kernel_rfl) (by simp) ?_
        refine AllReadyH.cons rfl (fun K20097 hK20097 => ?_) AllReadyH.nil
        go_simp
        refine hK20097.out _ _ ?hs20097 (fun hHeld20097 => ?_)
        case hs20097 => exact trivial
        clear hHeld
        have hHeld := hHeld20097; clear hHeld20097 hK20097 K20097
        refine wpAnyH_ready (rs := [17]) (by kernel_rfl) (by simp) ?_
        refine AllReadyH.cons rfl (fun K20098 hK20098 => ?_) AllReadyH.nil
        go_simp
        refine hK20098.out _ _ ?hs20098 (fun hHeld20098 => ?_)
        case hs20098 => exact trivial
        clear hHeld
        have hHeld := hHeld20098; clear hHeld20098 hK20098 K20098
        refine wpAnyH_done (by kernel_rfl) ?_ _
        refine NoPanic.normal ?_
        skip
        have TH := three w1 t s (s.extract 0 j)
        exact unhide HREST (w1.heap.size + 1) w1.heap.size (w1.heap.size + 1 + 1) _ ⟨(unhide hL).trans (TH.2.2.2.mono (unhide hL).size), TH.2.1, TH.1, TH.2.2.1⟩
      refine AllReadyH.cons rfl (fun K20099 hK20099 => ?_) AllReadyH.nil
      · go_simp
        refine hK20099.out _ _ ?hs20099 (fun hHeld20099 => ?_)
        case hs20099 => exact trivial
        clear hHeld
        have hHeld := hHeld20099; clear hHeld20099 hK20099 K20099
        refine wpAnyH_ready (rs := [12]) (by kernel_rfl) (by simp) ?_
        refine AllReadyH.cons rfl (fun K20100 hK20100 => ?_) AllReadyH.nil
        go_simp
        refine hK20100.out _ _ ?hs20100 (fun hHeld20100 => ?_)
        case hs20100 => exact trivial
        clear hHeld
        have hHeld := hHeld20100; clear hHeld20100 hK20100 K20100
        refine wpAnyH_ready (rs := [15]) (by kernel_rfl) (by simp) ?_
        refine AllReadyH.cons rfl (fun K20101 hK20101 => ?_) AllReadyH.nil
        go_simp
        refine hK20101.out _ _ ?hs20101 (fun hHeld20101 => ?_)
        case hs20101 => exact trivial
        clear hHeld
        have hHeld := hHeld20101; clear hHeld20101 hK20101 K20101
        refine wpAnyH_ready (rs := [16]) (by kernel_rfl) (by simp) ?_
        refine AllReadyH.cons rfl (fun K20102 hK20102 => ?_) AllReadyH.nil
        go_simp
        refine hK20102.out _ _ ?hs20102 (fun hHeld20102 => ?_)
        case hs20102 => exact trivial
        clear hHeld
        have hHeld := hHeld20102; clear hHeld20102 hK20102 K20102
        refine wpAnyH_ready (rs := [17]) (by kernel_rfl) (by simp) ?_
        refine AllReadyH.cons rfl (fun K20103 hK20103 => ?_) AllReadyH.nil
        go_simp
        refine hK20103.out _ _ ?hs20103 (fun hHeld20103 => ?_)
        case hs20103 => exact trivial
        clear hHeld
        have hHeld := hHeld20103; clear hHeld20103 hK20103 K20103
        refine wpAnyH_done (by kernel_rfl) ?_ _
        refine NoPanic.normal ?_
        skip
        have TH := three w1 t (s.extract 0 j) s
        exact unhide HREST (w1.heap.size + 1 + 1) w1.heap.size (w1.heap.size + 1) _ ⟨(unhide hL).trans (TH.2.2.2.mono (unhide hL).size), TH.2.2.1, TH.1, TH.2.1⟩
    refine AllReadyH.cons rfl (fun K20104 hK20104 => ?_) ?_
    · go_simp
      refine hK20104.out _ _ ?hs20104 (fun hHeld20104 => ?_)
      case hs20104 => exact trivial
      clear hHeld
      have hHeld := hHeld20104; clear hHeld20104 hK20104 K20104
      refine wpAnyH_ready (rs := [9, 14]) (by kernel_rfl) (by simp) ?_
      refine AllReadyH.cons rfl (fun K20105 hK20105 => ?_) ?_
      · go_simp
        go_wp2_with (go_at_call 17; refine (unhide WI _).mono ?_; rintro e w' ⟨rfl, rfl⟩)
        refine hK20105.out _ _ ?hs20105 (fun hHeld20105 => ?_)
        case hs20105 => exact trivial
        clear hHeld
        have hHeld := hHeld20105; clear hHeld20105 hK20105 K20105
        refine wpAnyH_take (i := 10) (oi := ?oi20106) (v := ?v20106) ?hi20106 (by kernel_rfl) (by kernel_rfl) (by kernel_rfl) (fun _ _ _ h => h) (Or.inl ⟨?hw20106, ?hy20106⟩) (by assumption) ?rest20106
        case hi20106 => (simp only [List.getElem?_toArray, List.getElem?_cons_zero, List.getElem?_cons_succ]; rfl)
        case hw20106 => rfl
        case hy20106 => first | (intro wx hSw; go_simp; done) | (intro wx hSw; go_simp; with_reducible rfl)
        simp only [Act.put, List.setIfInBounds_toArray, List.set_cons_zero, List.set_cons_succ]
        refine wpAnyH_take (i := 11) (oi := ?oi20107) (v := ?v20107) ?hi20107 (by kernel_rfl) (by kernel_rfl) (by kernel_rfl) (fun _ _ _ h => h) (Or.inl ⟨?hw20107, ?hy20107⟩) (by assumption) ?rest20107
        case hi20107 => (simp only [List.getElem?_toArray, List.getElem?_cons_zero, List.getElem?_cons_succ]; rfl)
        case hw20107 => rfl
        case hy20107 => first | (intro wx hSw; go_simp; done) | (intro wx hSw; go_simp; with_reducible rfl)
        simp only [Act.put, List.setIfInBounds_toArray, List.set_cons_zero, List.set_cons_succ]
        refine wpAnyH_ready (rs := [14]) (by kernel_rfl) (by simp) ?_
        refine AllReadyH.cons rfl (fun K20108 hK20108 => ?_) AllReadyH.nil
        go_simp
        refine hK20108.out _ _ ?hs20108 (fun hHeld20108 => ?_)
        case hs20108 => exact trivial
        clear hHeld
        have hHeld := hHeld20108; clear hHeld20108 hK20108 K20108
        refine wpAnyH_ready (rs := [15]) (by kernel_rfl) (by simp) ?_
        refine AllReadyH.cons rfl (fun K20109 hK20109 => ?_) AllReadyH.nil
        go_simp
        refine hK20109.out _ _ ?hs20109 (fun hHeld20109 => ?_)
        case hs20109 => exact trivial
        clear hHeld
        have hHeld := hHeld20109; clear hHeld20109 hK20109 K20109
        refine wpAnyH_ready (rs := [16]) (by kernel_rfl) (by simp) ?_
        refine AllReadyH.cons rfl (fun K20110 hK20110 => ?_) AllReadyH.nil
        go_simp
        refine hK20110.out _ _ ?hs20110 (fun hHeld20110 => ?_)
        case hs20110 => exact trivial
        clear hHeld
        have hHeld := hHeld20110; clear hHeld20110 hK20110 K20110
        refine wpAnyH_ready (rs := [17]) (by kernel_rfl) (by simp) ?_
        refine AllReadyH.cons rfl (fun K20111 hK20111 => ?_) AllReadyH.nil
        go_simp
        refine hK20111.out _ _ ?hs20111 (fun hHeld20111 => ?_)
        case hs20111 => exact trivial
        clear hHeld
        have hHeld := hHeld20111; clear hHeld20111 hK20111 K20111
        refine wpAnyH_done (by kernel_rfl) ?_ _
        refine NoPanic.normal ?_
        skip
        have TH := three w1 t s (s.extract 0 j)
        exact unhide HREST (w1.heap.size + 1) w1.heap.size (w1.heap.size + 1 + 1) _ ⟨(unhide hL).trans (TH.2.2.2.mono (unhide hL).size), TH.2.1, TH.1, TH.2.2.1⟩
      refine AllReadyH.cons rfl (fun K20112 hK20112 => ?_) AllReadyH.nil
      · go_simp
        refine hK20112.out _ _ ?hs20112 (fun hHeld20112 => ?_)
        case hs20112 => exact trivial
        clear hHeld
        have hHeld := hHeld20112; clear hHeld20112 hK20112 K20112
        refine wpAnyH_ready (rs := [9]) (by kernel_rfl) (by simp) ?_
        refine AllReadyH.cons rfl (fun K20113 hK20113 => ?_) AllReadyH.nil
        go_simp
        go_wp2_with (go_at_call 17; refine (unhide WI _).mono ?_; rintro e w' ⟨rfl, rfl⟩)
        refine hK20113.out _ _ ?hs20113 (fun hHeld20113 => ?_)
        case hs20113 => exact trivial
        clear hHeld
        have hHeld := hHeld20113; clear hHeld20113 hK20113 K20113
        refine wpAnyH_take (i := 10) (oi := ?oi20114) (v := ?v20114) ?hi20114 (by kernel_rfl) (by kernel_rfl) (by kernel_rfl) (fun _ _ _ h => h) (Or.inl ⟨?hw20114, ?hy20114⟩) (by assumption) ?rest20114
        case hi20114 => (simp only [List.getElem?_toArray, List.getElem?_cons_zero, List.getElem?_cons_succ]; rfl)
        case hw20114 => rfl
        case hy20114 => first | (intro wx hSw; go_simp; done) | (intro wx hSw; go_simp; with_reducible rfl)
        simp only [Act.put, List.setIfInBounds_toArray, List.set_cons_zero, List.set_cons_succ]
        refine wpAnyH_take (i := 11) (oi := ?oi20115) (v := ?v20115) ?hi20115 (by kernel_rfl) (by kernel_rfl) (by kernel_rfl) (fun _ _ _ h => h) (Or.inl ⟨?hw20115, ?hy20115⟩) (by assumption) ?rest20115
        case hi20115 => (simp only [List.getElem?_toArray, List.getElem?_cons_zero, List.getElem?_cons_succ]; rfl)
        case hw20115 => rfl
        case hy20115 => first | (intro wx hSw; go_simp; done) | (intro wx hSw; go_simp; with_reducible rfl)
        simp only [Act.put, List.setIfInBounds_toArray, List.set_cons_zero, List.set_cons_succ]
        refine wpAnyH_ready (rs := [15]) (by kernel_rfl) (by simp) ?_
        refine AllReadyH.cons rfl (fun K20116 hK20116 => ?_) AllReadyH.nil
        go_simp
        refine hK20116.out _ _ ?hs20116 (fun hHeld20116 => ?_)
        case hs20116 => exact trivial
        clear hHeld
        have hHeld := hHeld20116; clear hHeld20116 hK20116 K20116
        refine wpAnyH_ready (rs := [16]) (by kernel_rfl) (by simp) ?_
        refine AllReadyH.cons rfl (fun K20117 hK20117 => ?_) AllReadyH.nil
        go_simp
        refine hK20117.out _ _ ?hs20117 (fun hHeld20117 => ?_)
        case hs20117 => exact trivial
        clear hHeld
        have hHeld := hHeld20117; clear hHeld20117 hK20117 K20117
        refine wpAnyH_ready (rs := [17]) (by kernel_rfl) (by simp) ?_
        refine AllReadyH.cons rfl (fun K20118 hK20118 => ?_) AllReadyH.nil
        go_simp
        refine hK20118.out _ _ ?hs20118 (fun hHeld20118 => ?_)
        case hs20118 => exact trivial
        clear hHeld
        have hHeld := hHeld20118; clear hHeld20118 hK20118 K20118
        refine wpAnyH_done (by kernel_rfl) ?_ _
        refine NoPanic.normal ?_
        skip
        have TH := three w1 t s (s.extract 0 j)
        exact unhide HREST (w1.heap.size + 1) w1.heap.size (w1.heap.size + 1 + 1) _ ⟨(unhide hL).trans (TH.2.2.2.mono (unhide hL).size), TH.2.1, TH.1, TH.2.2.1⟩
    refine AllReadyH.cons rfl (fun K20119 hK20119 => ?_) AllReadyH.nil
    · go_simp
      refine hK20119.out _ _ ?hs20119 (fun hHeld20119 => ?_)
      case hs20119 => exact trivial
      clear hHeld
      have hHeld := hHeld20119; clear hHeld20119 hK20119 K20119
      refine wpAnyH_ready (rs := [9, 12]) (by kernel_rfl) (by simp) ?_
      refine AllReadyH.cons rfl (fun K20120 hK20120 => ?_) ?_
      · go_simp
        go_wp2_with (go_at_call 17; refine (unhide WI _).mono ?_; rintro e w' ⟨rfl, rfl⟩)
        refine hK20120.out _ _ ?hs20120 (fun hHeld20120 => ?_)
        case hs20120 => exact trivial
        clear hHeld
        have hHeld := hHeld20120; clear hHeld20120 hK20120 K20120
        refine wpAnyH_take (i := 10) (oi := ?oi20121) (v := ?v20121) ?hi20121 (by kernel_rfl) (by kernel_rfl) (by kernel_rfl) (fun _ _ _ h => h) (Or.inl ⟨?hw20121, ?hy20121⟩) (by assumption) ?rest20121
        case hi20121 => (simp only [List.getElem?_toArray, List.getElem?_cons_zero, List.getElem?_cons_succ]; rfl)
        case hw20121 => rfl
        case hy20121 => first | (intro wx hSw; go_simp; done) | (intro wx hSw; go_simp; with_reducible rfl)
        simp only [Act.put, List.setIfInBounds_toArray, List.set_cons_zero, List.set_cons_succ]
        refine wpAnyH_take (i := 11) (oi := ?oi20122) (v := ?v20122) ?hi20122 (by kernel_rfl) (by kernel_rfl) (by kernel_rfl) (fun _ _ _ h => h) (Or.inl ⟨?hw20122, ?hy20122⟩) (by assumption) ?rest20122
        case hi20122 => (simp only [List.getElem?_toArray, List.getElem?_cons_zero, List.getElem?_cons_succ]; rfl)
        case hw20122 => rfl
        case hy20122 => first | (intro wx hSw; go_simp; done) | (intro wx hSw; go_simp; with_reducible rfl)
        simp only [Act.put, List.setIfInBounds_toArray, List.set_cons_zero, List.set_cons_succ]
        refine wpAnyH_ready (rs := [12]) (by kernel_rfl) (by simp) ?_
        refine AllReadyH.cons rfl (fun K20123 hK20123 => ?_) AllReadyH.nil
        go_simp
        refine hK20123.out _ _ ?hs20123 (fun hHeld20123 => ?_)
        case hs20123 => exact trivial
        clear hHeld
        have hHeld := hHeld20123; clear hHeld20123 hK20123 K20123
        refine wpAnyH_ready (rs := [15]) (by kernel_rfl) (by simp) ?_
        refine AllReadyH.cons rfl (fun K20124 hK20124 => ?_) AllReadyH.nil
        go_simp
        refine hK20124.out _ _ ?hs20124 (fun hHeld20124 => ?_)
        case hs20124 => exact trivial
        clear hHeld
        have hHeld := hHeld20124; clear hHeld20124 hK20124 K20124
        refine wpAnyH_ready (rs := [16]) (by kernel_rfl) (by simp) ?_
        refine AllReadyH.cons rfl (fun K20125 hK20125 => ?_) AllReadyH.nil
        go_simp
        refine hK20125.out _ _ ?hs20125 (fun hHeld20125 => ?_)
        case hs20125 => exact trivial
        clear hHeld
        have hHeld := hHeld20125; clear hHeld20125 hK20125 K20125
        refine wpAnyH_ready (rs := [17]) (by kernel_rfl) (by simp) ?_
        refine AllReadyH.cons rfl (fun K20126 hK20126 => ?_) AllReadyH.nil
        go_simp
        refine hK20126.out _ _ ?hs20126 (fun hHeld20126 => ?_)
        case hs20126 => exact trivial
        clear hHeld
        have hHeld := hHeld20126; clear hHeld20126 hK20126 K20126
        refine wpAnyH_done (by kernel_rfl) ?_ _
        refine NoPanic.normal ?_
        skip
        have TH := three w1 t (s.extract 0 j) s
        exact unhide HREST (w1.heap.size + 1 + 1) w1.heap.size (w1.heap.size + 1) _ ⟨(unhide hL).trans (TH.2.2.2.mono (unhide hL).size), TH.2.2.1, TH.1, TH.2.1⟩
      refine AllReadyH.cons rfl (fun K20127 hK20127 => ?_) AllReadyH.nil
      · go_simp
        refine hK20127.out _ _ ?hs20127 (fun hHeld20127 => ?_)
        case hs20127 => exact trivial
        clear hHeld
        have hHeld := hHeld20127; clear hHeld20127 hK20127 K20127
        refine wpAnyH_ready (rs := [9]) (by kernel_rfl) (by simp) ?_
        refine AllReadyH.cons rfl (fun K20128 hK20128 => ?_) AllReadyH.nil
        go_simp
        go_wp2_with (go_at_call 17; refine (unhide WI _).mono ?_; rintro e w' ⟨rfl, rfl⟩)
        refine hK20128.out _ _ ?hs20128 (fun hHeld20128 => ?_)
        case hs20128 => exact trivial
        clear hHeld
        have hHeld := hHeld20128; clear hHeld20128 hK20128 K20128
        refine wpAnyH_take (i := 10) (oi := ?oi20129) (v := ?v20129) ?hi20129 (by kernel_rfl) (by kernel_rfl) (by kernel_rfl) (fun _ _ _ h => h) (Or.inl ⟨?hw20129, ?hy20129⟩) (by assumption) ?rest20129
        case hi20129 => (simp only [List.getElem?_toArray, List.getElem?_cons_zero, List.getElem?_cons_succ]; rfl)
        case hw20129 => rfl
        case hy20129 => first | (intro wx hSw; go_simp; done) | (intro wx hSw; go_simp; with_reducible rfl)
        simp only [Act.put, List.setIfInBounds_toArray, List.set_cons_zero, List.set_cons_succ]
        refine wpAnyH_take (i := 11) (oi := ?oi20130) (v := ?v20130) ?hi20130 (by kernel_rfl) (by kernel_rfl) (by kernel_rfl) (fun _ _ _ h => h) (Or.inl ⟨?hw20130, ?hy20130⟩) (by assumption) ?rest20130
        case hi20130 => (simp only [List.getElem?_toArray, List.getElem?_cons_zero, List.getElem?_cons_succ]; rfl)
        case hw20130 => rfl
        case hy20130 => first | (intro wx hSw; go_simp; done) | (intro wx hSw; go_simp; with_reducible rfl)
        simp only [Act.put, List.setIfInBounds_toArray, List.set_cons_zero, List.set_cons_succ]
        refine wpAnyH_ready (rs := [15]) (by kernel_rfl) (by simp) ?_
        refine AllReadyH.cons rfl (fun K20131 hK20131 => ?_) AllReadyH.nil
        go_simp
        refine hK20131.out _ _ ?hs20131 (fun hHeld20131 => ?_)
        case hs20131 => exact trivial
        clear hHeld
        have hHeld := hHeld20131; clear hHeld20131 hK20131 K20131
        refine wpAnyH_ready (rs := [16]) (by kernel_rfl) (by simp) ?_
        refine AllReadyH.cons rfl (fun K20132 hK20132 => ?_) AllReadyH.nil
        go_simp
        refine hK20132.out _ _ ?hs20132 (fun hHeld20132 => ?_)
        case hs20132 => exact trivial
        clear hHeld
        have hHeld := hHeld20132; clear hHeld20132 hK20132 K20132
        refine wpAnyH_ready (rs := [17]) (by kernel_rfl) (by simp) ?_
        refine AllReadyH.cons rfl (fun K20133 hK20133 => ?_) AllReadyH.nil
        go_simp
        refine hK20133.out _ _ ?hs20133 (fun hHeld20133 => ?_)
        case hs20133 => exact trivial
        clear hHeld
        have hHeld := hHeld20133; clear hHeld20133 hK20133 K20133
        refine wpAnyH_done (by kernel_rfl) ?_ _
        refine NoPanic.normal ?_
        skip
        have TH := three w1 t (s.extract 0 j) s
        exact unhide HREST (w1.heap.size + 1 + 1) w1.heap.size (w1.heap.size + 1) _ ⟨(unhide hL).trans (TH.2.2.2.mono (unhide hL).size), TH.2.2.1, TH.1, TH.2.1⟩
  refine AllReadyH.cons rfl (fun K20134 hK20134 => ?_) AllReadyH.nil
  · go_simp
    refine hK20134.out _ _ ?hs20134 (fun hHeld20134 => ?_)
    case hs20134 => exact trivial
    clear hHeld
    have hHeld := hHeld20134; clear hHeld20134 hK20134 K20134
    refine wpAnyH_ready (rs := [9, 12, 13]) (by kernel_rfl) (by simp) ?_
    refine AllReadyH.cons rfl (fun K20135 hK20135 => ?_) ?_
    · go_simp
      go_wp2_with (go_at_call 17; refine (unhide WI _).mono ?_; rintro e w' ⟨rfl, rfl⟩)
      refine hK20135.out _ _ ?hs20135 (fun hHeld20135 => ?_)
      case hs20135 => exact trivial
      clear hHeld
      have hHeld := hHeld20135; clear hHeld20135 hK20135 K20135
      refine wpAnyH_take (i := 10) (oi := ?oi20136) (v := ?v20136) ?hi20136 (by kernel_rfl) (by kernel_rfl) (by kernel_rfl) (fun _ _ _ h => h) (Or.inl ⟨?hw20136, ?hy20136⟩) (by assumption) ?rest20136
      case hi20136 => (simp only [List.getElem?_toArray, List.getElem?_cons_zero, List.getElem?_cons_succ]; rfl)
      case hw20136 => rfl
      case hy20136 => first | (intro wx hSw; go_simp; done) | (intro wx hSw; go_simp; with_reducible rfl)
      simp only [Act.put, List.setIfInBounds_toArray, List.set_cons_zero, List.set_cons_succ]
      refine wpAnyH_take (i := 11) (oi := ?oi20137) (v := ?v20137) ?hi20137 (by kernel_rfl) (by kernel_rfl) (by kernel_rfl) (fun _ _ _ h => h) (Or.inl ⟨?hw20137, ?hy20137⟩) (by assumption) ?rest20137
      case hi20137 => (simp only [List.getElem?_toArray, List.getElem?_cons_zero, List.getElem?_cons_succ]; rfl)
      case hw20137 => rfl
      case hy20137 => first | (intro wx hSw; go_simp; done) | (intro wx hSw; go_simp; with_reducible rfl)
      simp only [Act.put, List.setIfInBounds_toArray, List.set_cons_zero, List.set_cons_succ]
      refine wpAnyH_ready (rs := [12, 13]) (by kernel_rfl) (by simp) ?_
      refine AllReadyH.cons rfl (fun K20138 hK20138 => ?_) ?_
      · go_simp
        refine hK20138.out _ _ ?hs20138 (fun hHeld20138 => ?_)
        case hs20138 => exact trivial
        clear hHeld
        have hHeld := hHeld20138; clear hHeld20138 hK20138 K20138
        refine wpAnyH_ready (rs := [13]) (by kernel_rfl) (by simp) ?_
        refine AllReadyH.cons rfl (fun K20139 hK20139 => ?_) AllReadyH.nil
        go_simp
        refine hK20139.out _ _ ?hs20139 (fun hHeld20139 => ?_)
        case hs20139 => exact trivial
        clear hHeld
        have hHeld := hHeld20139; clear hHeld20139 hK20139 K20139
        refine wpAnyH_ready (rs := [15]) (by kernel_rfl) (by simp) ?_
        refine AllReadyH.cons rfl (fun K20140 hK20140 => ?_) AllReadyH.nil
        go_simp
        refine hK20140.out _ _ ?hs20140 (fun hHeld20140 => ?_)
        case hs20140 => exact trivial
        clear hHeld
        have hHeld := hHeld20140; clear hHeld20140 hK20140 K20140
        refine wpAnyH_ready (rs := [16]) (by kernel_rfl) (by simp) ?_
        refine AllReadyH.cons rfl (fun K20141 hK20141 => ?_) AllReadyH.nil
        go_simp
        refine hK20141.out _ _ ?hs20141 (fun hHeld20141 => ?_)
        case hs20141 => exact trivial
        clear hHeld
        have hHeld := hHeld20141; clear hHeld20141 hK20141 K20141
        refine wpAnyH_ready (rs := [17]) (by kernel_rfl) (by simp) ?_
        refine AllReadyH.cons rfl (fun K20142 hK20142 => ?_) AllReadyH.nil
        go_simp
        refine hK20142.out _ _ ?hs20142 (fun hHeld20142 => ?_)
        case hs20142 => exact trivial
        clear hHeld
        have hHeld := hHeld20142; clear hHeld20142 hK20142 K20142
        refine wpAnyH_done (by kernel_rfl) ?_ _
        refine NoPanic.normal ?_
        skip
        have TH := three w1 (s.extract 0 j) s t
        exact unhide HREST (w1.heap.size + 1) (w1.heap.size + 1 + 1) w1.heap.size _ ⟨(unhide hL).trans (TH.2.2.2.mono (unhide hL).size), TH.2.1, TH.2.2.1, TH.1⟩
      refine AllReadyH.cons rfl (fun K20143 hK20143 => ?_) AllReadyH.nil
      · go_simp
        refine hK20143.out _ _ ?hs20143 (fun hHeld20143 => ?_)
        case hs20143 => exact trivial
        clear hHeld
        have hHeld := hHeld20143; clear hHeld20143 hK20143 K20143
        refine wpAnyH_ready (rs := [12]) (by kernel_rfl) (by simp) ?_
        refine AllReadyH.cons rfl (fun K20144 hK20144 => ?_) AllReadyH.nil
        go_simp
        refine hK20144.out _ _ ?hs20144 (fun hHeld20144 => ?_)
        case hs20144 => exact trivial
        clear hHeld
        have hHeld := hHeld20144; clear hHeld20144 hK20144 K20144
        refine wpAnyH_ready (rs := [15]) (by kernel_rfl) (by simp) ?_
        refine AllReadyH.cons rfl (fun K20145 hK20145 => ?_) AllReadyH.nil
        go_simp
        refine hK20145.out _ _ ?hs20145 (fun hHeld20145 => ?_)
        case hs20145 => exact trivial
        clear hHeld
        have hHeld := hHeld20145; clear hHeld20145 hK20145 K20145
        refine wpAnyH_ready (rs := [16]) (by kernel_rfl) (by simp) ?_
        refine AllReadyH.cons rfl (fun K20146 hK20146 => ?_) AllReadyH.nil
        go_simp
        refine hK20146.out _ _ ?hs20146 (fun hHeld20146 => ?_)
        case hs20146 => exact trivial
        clear hHeld
        have hHeld := hHeld20146; clear hHeld20146 hK20146 K20146
        refine wpAnyH_ready (rs := [17]) (by kernel_rfl) (by simp) ?_
        refine AllReadyH.cons rfl (fun K20147 hK20147 => ?_) AllReadyH.nil
        go_simp
        refine hK20147.out _ _ ?hs20147 (fun hHeld20147 => ?_)
        case hs20147 => exact trivial
        clear hHeld
        have hHeld := hHeld20147; clear hHeld20147 hK20147 K20147
        refine wpAnyH_done (by kernel_rfl) ?_ _
        refine NoPanic.normal ?_
        skip
        have TH := three w1 (s.extract 0 j) t s
        exact unhide HREST (w1.heap.size + 1 + 1) (w1.heap.size + 1) w1.heap.size _ ⟨(unhide hL).trans (TH.2.2.2.mono (unhide hL).size), TH.2.2.1, TH.2.1, TH.1⟩
    refine AllReadyH.cons rfl (fun K20148 hK20148 => ?_) ?_
    · go_simp
      refine hK20148.out _ _ ?hs20148 (fun hHeld20148 => ?_)
      case hs20148 => exact trivial
      clear hHeld
      have hHeld := hHeld20148; clear hHeld20148 hK20148 K20148
      refine wpAnyH_ready (rs := [9, 13]) (by kernel_rfl) (by simp) ?_
      refine AllReadyH.cons rfl (fun K20149 hK20149 => ?_) ?_
      · go_simp
        go_wp2_with (go_at_call 17; refine (unhide WI _).mono ?_; rintro e w' ⟨rfl, rfl⟩)
        refine hK20149.out _ _ ?hs20149 (fun hHeld20149 => ?_)
        case hs20149 => exact trivial
        clear hHeld
        have hHeld := hHeld20149; clear hHeld20149 hK20149 K20149
        refine wpAnyH_take (i := 10) (oi := ?oi20150) (v := ?v20150) ?hi20150 (by kernel_rfl) (by kernel_rfl) (by kernel_rfl) (fun _ _ _ h => h) (Or.inl ⟨?hw20150, ?hy20150⟩) (by assumption) ?rest20150
        case hi20150 => (simp only [List.getElem?_toArray, List.getElem?_cons_zero, List.getElem?_cons_succ]; rfl)
        case hw20150 => rfl
        case hy20150 => first | (intro wx hSw; go_simp; done) | (intro wx hSw; go_simp; with_reducible rfl)
        simp only [Act.put, List.setIfInBounds_toArray, List.set_cons_zero, List.set_cons_succ]
        refine wpAnyH_take (i := 11) (oi := ?oi20151) (v := ?v20151) ?hi20151 (by kernel_rfl) (by kernel_rfl) (by kernel_rfl) (fun _ _ _ h => h) (Or.inl ⟨?hw20151, ?hy20151⟩) (by assumption) ?rest20151
        case hi20151 => (simp only [List.getElem?_toArray, List.getElem?_cons_zero, List.getElem?_cons_succ]; rfl)
        case hw20151 => rfl
        case hy20151 => first | (intro wx hSw; go_simp; done) | (intro wx hSw; go_simp; with_reducible rfl)
        simp only [Act.put, List.setIfInBounds_toArray, List.set_cons_zero, List.set_cons_succ]
        refine wpAnyH_ready (rs := [13]) (by kernel_rfl) (by simp) ?_
        refine AllReadyH.cons rfl (fun K20152 hK20152 => ?_) AllReadyH.nil
        go_simp
        refine hK20152.out _ _ ?hs20152 (fun hHeld20152 => ?_)
        case hs20152 => exact trivial
        clear hHeld
        have hHeld := hHeld20152; clear hHeld20152 hK20152 K20152
        refine wpAnyH_ready (rs := [15]) (by kernel_rfl) (by simp) ?_
        refine AllReadyH.cons rfl (fun K20153 hK20153 => ?_) AllReadyH.nil
        go_simp
        refine hK20153.out _ _ ?hs20153 (fun hHeld20153 => ?_)
        case hs20153 => exact trivial
        clear hHeld
        have hHeld := hHeld20153; clear hHeld20153 hK20153 K20153
        refine wpAnyH_ready (rs := [16]) (by kernel_rfl) (by simp) ?_
        refine AllReadyH.cons rfl (fun K20154 hK20154 => ?_) AllReadyH.nil
        go_simp
        refine hK20154.out _ _ ?hs20154 (fun hHeld20154 => ?_)
        case hs20154 => exact trivial
        clear hHeld
        have hHeld := hHeld20154; clear hHeld20154 hK20154 K20154
        refine wpAnyH_ready (rs := [17]) (by kernel_rfl) (by simp) ?_
        refine AllReadyH.cons rfl (fun K20155 hK20155 => ?_) AllReadyH.nil
        go_simp
        refine hK20155.out _ _ ?hs20155 (fun hHeld20155 => ?_)
        case hs20155 => exact trivial
        clear hHeld
        have hHeld := hHeld20155; clear hHeld20155 hK20155 K20155
        refine wpAnyH_done (by kernel_rfl) ?_ _
        refine NoPanic.normal ?_
        skip
        have TH := three w1 (s.extract 0 j) s t
        exact unhide HREST (w1.heap.size + 1) (w1.heap.size + 1 + 1) w1.heap.size _ ⟨(unhide hL).trans (TH.2.2.2.mono (unhide hL).size), TH.2.1, TH.2.2.1, TH.1⟩
      refine AllReadyH.cons rfl (fun K20156 hK20156 => ?_) AllReadyH.nil
      · go_simp
        refine hK20156.out _ _ ?hs20156 (fun hHeld20156 => ?_)
        case hs20156 => exact trivial
        clear hHeld
        have hHeld := hHeld20156; clear hHeld20156 hK20156 K20156
        refine wpAnyH_ready (rs := [9]) (by kernel_rfl) (by simp) ?_
        refine AllReadyH.cons rfl (fun K20157 hK20157 => ?_) AllReadyH.nil
        go_simp
        go_wp2_with (go_at_call 17; refine (unhide WI _).mono ?_; rintro e w' ⟨rfl, rfl⟩)
        refine hK20157.out _ _ ?hs20157 (fun hHeld20157 => ?_)
        case hs20157 => exact trivial
        clear hHeld
        have hHeld := hHeld20157; clear hHeld20157 hK20157 K20157
        refine wpAnyH_take (i := 10) (oi := ?oi20158) (v := ?v20158) ?hi20158 (by kernel_rfl) (by kernel_rfl) (by kernel_rfl) (fun _ _ _ h => h) (Or.inl ⟨?hw20158, ?hy20158⟩) (by assumption) ?rest20158
        case hi20158 => (simp only [List.getElem?_toArray, List.getElem?_cons_zero, List.getElem?_cons_succ]; rfl)
        case hw20158 => rfl
        case hy20158 => first | (intro wx hSw; go_simp; done) | (intro wx hSw; go_simp; with_reducible rfl)
        simp only [Act.put, List.setIfInBounds_toArray, List.set_cons_zero, List.set_cons_succ]
        refine wpAnyH_take (i := 11) (oi := ?oi20159) (v := ?v20159) ?hi20159 (by kernel_rfl) (by kernel_rfl) (by kernel_rfl) (fun _ _ _ h => h) (Or.inl ⟨?hw20159, ?hy20159⟩) (by assumption) ?rest20159
        case hi20159 => (simp only [List.getElem?_toArray, List.getElem?_cons_zero, List.getElem?_cons_succ]; rfl)
        case hw20159 => rfl
        case hy20159 => first | (intro wx hSw; go_simp; done) | (intro wx hSw; go_simp; with_reducible rfl)
        simp only [Act.put, List.setIfInBounds_toArray, List.set_cons_zero, List.set_cons_succ]
        refine wpAnyH_ready (rs := [15]) (by kernel_rfl) (by simp) ?_
        refine AllReadyH.cons rfl (fun K20160 hK20160 => ?_) AllReadyH.nil
        go_simp
        refine hK20160.out _ _ ?hs20160 (fun hHeld20160 => ?_)
        case hs20160 => exact trivial
        clear hHeld
        have hHeld := hHeld20160; clear hHeld20160 hK20160 K20160
        refine wpAnyH_ready (rs := [16]) (by kernel_rfl) (by simp) ?_
        refine AllReadyH.cons rfl (fun K20161 hK20161 => ?_) AllReadyH.nil
        go_simp
        refine hK20161.out _ _ ?hs20161 (fun hHeld20161 => ?_)
        case hs20161 => exact trivial
        clear hHeld
        have hHeld := hHeld20161; clear hHeld20161 hK20161 K20161
        refine wpAnyH_ready (rs := [17]) (by kernel_rfl) (by simp) ?_
        refine AllReadyH.cons rfl (fun K20162 hK20162 => ?_) AllReadyH.nil
        go_simp
        refine hK20162.out _ _ ?hs20162 (fun hHeld20162 => ?_)
        case hs20162 => exact trivial
        clear hHeld
        have hHeld := hHeld20162; clear hHeld20162 hK20162 K20162
        refine wpAnyH_done (by kernel_rfl) ?_ _
        refine NoPanic.normal ?_
        skip
        have TH := three w1 (s.extract 0 j) s t
        exact unhide HREST (w1.heap.size + 1) (w1.heap.size + 1 + 1) w1.heap.size _ ⟨(unhide hL).trans (TH.2.2.2.mono (unhide hL).size), TH.2.1, TH.2.2.1, TH.1⟩
    refine AllReadyH.cons rfl (fun K20163 hK20163 => ?_) AllReadyH.nil
    · go_simp
      refine hK20163.out _ _ ?hs20163 (fun hHeld20163 => ?_)
      case hs20163 => exact trivial
      clear hHeld
      have hHeld := hHeld20163; clear hHeld20163 hK20163 K20163
      refine wpAnyH_ready (rs := [9, 12]) (by kernel_rfl) (by simp) ?_
      refine AllReadyH.cons rfl (fun K20164 hK20164 => ?_) ?_
      · go_simp
        go_wp2_with (go_at_call 17; refine (unhide WI _).mono ?_; rintro e w' ⟨rfl, rfl⟩)
        refine hK20164.out _ _ ?hs20164 (fun hHeld20164 => ?_)
        case hs20164 => exact trivial
        clear hHeld
        have hHeld := hHeld20164; clear hHeld20164 hK20164 K20164
        refine wpAnyH_take (i := 10) (oi := ?oi20165) (v := ?v20165) ?hi20165 (by kernel_rfl) (by kernel_rfl) (by kernel_rfl) (fun _ _ _ h => h) (Or.inl ⟨?hw20165, ?hy20165⟩) (by assumption) ?rest20165
        case hi20165 => (simp only [List.getElem?_toArray, List.getElem?_cons_zero, List.getElem?_cons_succ]; rfl)
        case hw20165 => rfl
        case hy20165 => first | (intro wx hSw; go_simp; done) | (intro wx hSw; go_simp; with_reducible rfl)
        simp only [Act.put, List.setIfInBounds_toArray, List.set_cons_zero, List.set_cons_succ]
        refine wpAnyH_take (i := 11) (oi := ?oi20166) (v := ?v20166) ?hi20166 (by kernel_rfl) (by kernel_rfl) (by kernel_rfl) (fun _ _ _ h => h) (Or.inl ⟨?hw20166, ?hy20166⟩) (by assumption) ?rest20166
        case hi20166 => (simp only [List.getElem?_toArray, List.getElem?_cons_zero, List.getElem?_cons_succ]; rfl)
        case hw20166 => rfl
        case hy20166 => first | (intro wx hSw; go_simp; done) | (intro wx hSw; go_simp; with_reducible rfl)
        simp only [Act.put, List.setIfInBounds_toArray, List.set_cons_zero, List.set_cons_succ]
        refine wpAnyH_ready (rs := [12]) (by kernel_rfl) (by simp) ?_
        refine AllReadyH.cons rfl (fun K20167 hK20167 => ?_) AllReadyH.nil
        go_simp
        refine hK20167.out _ _ ?hs20167 (fun hHeld20167 => ?_)
        case hs20167 => exact trivial
        clear hHeld
        have hHeld := hHeld20167; clear hHeld20167 hK20167 K20167
        refine wpAnyH_ready (rs := [15]) (by kernel_rfl) (by simp) ?_
        refine AllReadyH.cons rfl (fun K20168 hK20168 => ?_) AllReadyH.nil
        go_simp
        refine hK20168.out _ _ ?hs20168 (fun hHeld20168 => ?_)
        case hs20168 => exact trivial
        clear hHeld
        have hHeld := hHeld20168; clear hHeld20168 hK20168 K20168
        refine wpAnyH_ready (rs := [16]) (by kernel_rfl) (by simp) ?_
        refine AllReadyH.cons rfl (fun K20169 hK20169 => ?_) AllReadyH.nil
        go_simp
        refine hK20169.out _ _ ?hs20169 (fun hHeld20169 => ?_)
        case hs20169 => exact trivial
        clear hHeld
        have hHeld := hHeld20169; clear hHeld20169 hK20169 K20169
        refine wpAnyH_ready (rs := [17]) (by kernel_rfl) (by simp) ?_
        refine AllReadyH.cons rfl (fun K20170 hK20170 => ?_) AllReadyH.nil
        go_simp
        refine hK20170.out _ _ ?hs20170 (fun hHeld20170 => ?_)
        case hs20170 => exact trivial
        clear hHeld
        have hHeld := hHeld20170; clear hHeld20170 hK20170 K20170
        refine wpAnyH_done (by kernel_rfl) ?_ _
        refine NoPanic.normal ?_
        skip
        have TH := three w1 (s.extract 0 j) t s
        exact unhide HREST (w1.heap.size + 1 + 1) (w1.heap.size + 1) w1.heap.size _ ⟨(unhide hL).trans (TH.2.2.2.mono (unhide hL).size), TH.2.2.1, TH.2.1, TH.1⟩
      refine AllReadyH.cons rfl (fun K20171 hK20171 => ?_) AllReadyH.nil
      · go_simp
        refine hK20171.out _ _ ?hs20171 (fun hHeld20171 => ?_)
        case hs20171 => exact trivial
        clear hHeld
        have hHeld := hHeld20171; clear hHeld20171 hK20171 K20171
        refine wpAnyH_ready (rs := [9]) (by kernel_rfl) (by simp) ?_
        refine AllReadyH.cons rfl (fun K20172 hK20172 => ?_) AllReadyH.nil
        go_simp
        go_wp2_with (go_at_call 17; refine (unhide WI _).mono ?_; rintro e w' ⟨rfl, rfl⟩)
        refine hK20172.out _ _ ?hs20172 (fun hHeld20172 => ?_)
        case hs20172 => exact trivial
        clear hHeld
        have hHeld := hHeld20172; clear hHeld20172 hK20172 K20172
        refine wpAnyH_take (i := 10) (oi := ?oi20173) (v := ?v20173) ?hi20173 (by kernel_rfl) (by kernel_rfl) (by kernel_rfl) (fun _ _ _ h => h) (Or.inl ⟨?hw20173, ?hy20173⟩) (by assumption) ?rest20173
        case hi20173 => (simp only [List.getElem?_toArray, List.getElem?_cons_zero, List.getElem?_cons_succ]; rfl)
        case hw20173 => rfl
        case hy20173 => first | (intro wx hSw; go_simp; done) | (intro wx hSw; go_simp; with_reducible rfl)
        simp only [Act.put, List.setIfInBounds_toArray, List.set_cons_zero, List.set_cons_succ]
        refine wpAnyH_take (i := 11) (oi := ?oi20174) (v := ?v20174) ?hi20174 (by kernel_rfl) (by kernel_rfl) (by kernel_rfl) (fun _ _ _ h => h) (Or.inl ⟨?hw20174, ?hy20174⟩) (by assumption) ?rest20174
        case hi20174 => (simp only [List.getElem?_toArray, List.getElem?_cons_zero, List.getElem?_cons_succ]; rfl)
        case hw20174 => rfl
        case hy20174 => first | (intro wx hSw; go_simp; done) | (intro wx hSw; go_simp; with_reducible rfl)
        simp only [Act.put, List.setIfInBounds_toArray, List.set_cons_zero, List.set_cons_succ]
        refine wpAnyH_ready (rs := [15]) (by kernel_rfl) (by simp) ?_
        refine AllReadyH.cons rfl (fun K20175 hK20175 => ?_) AllReadyH.nil
        go_simp
        refine hK20175.out _ _ ?hs20175 (fun hHeld20175 => ?_)
        case hs20175 => exact trivial
        clear hHeld
        have hHeld := hHeld20175; clear hHeld20175 hK20175 K20175
        refine wpAnyH_ready (rs := [16]) (by kernel_rfl) (by simp) ?_
        refine AllReadyH.cons rfl (fun K20176 hK20176 => ?_) AllReadyH.nil
        go_simp
        refine hK20176.out _ _ ?hs20176 (fun hHeld20176 => ?_)
        case hs20176 => exact trivial
        clear hHeld
        have hHeld := hHeld20176; clear hHeld20176 hK20176 K20176
        refine wpAnyH_ready (rs := [17]) (by kernel_rfl) (by simp) ?_
        refine AllReadyH.cons rfl (fun K20177 hK20177 => ?_) AllReadyH.nil
        go_simp
        refine hK20177.out _ _ ?hs20177 (fun hHeld20177 => ?_)
        case hs20177 => exact trivial
        clear hHeld
        have hHeld := hHeld20177; clear hHeld20177 hK20177 K20177
        refine wpAnyH_done (by kernel_rfl) ?_ _
        refine NoPanic.normal ?_
        skip
        have TH := three w1 (s.extract 0 j) t s
        exact unhide HREST (w1.heap.size + 1 + 1) (w1.heap.size + 1) w1.heap.size _ ⟨(unhide hL).trans (TH.2.2.2.mono (unhide hL).size), TH.2.2.1, TH.2.1, TH.1⟩

set_option maxHeartbeats 1000000 in
theorem texts_long (s t : ByteArray) (n : Int) (w : World) (h : (40 : Int) < s.size ∨ (40 : Int) < t.size) :
    Calls Try.prog 7 #[.string s, .string t, .int .i64 n] w fun e w' => e = .returned (.bool true) ∧ Below w.heap.size w w' := by
  by_cases h1 : (40 : Int) < s.size
  · clear h
    go_enter Try.func7, Try.ntmps7
    go_wp2_with fail
    refine (known_any _).mono ?_
    rintro e w1 ⟨rfl, hb1⟩
    go_wp2_with fail
    go_ret
    exact ⟨rfl, hb1⟩
  · have h2 : (40 : Int) < t.size := by rcases h with h | h; exact absurd h h1; exact h
    clear h
    go_enter Try.func7, Try.ntmps7
    go_wp2_with fail
    refine (known_any _).mono ?_
    rintro e w1 ⟨rfl, hb1⟩
    go_wp2_with fail
    go_ret
    exact ⟨rfl, hb1⟩
theorem keyTexts_walk (s t : ByteArray) (n : Int) (hs : s.size ≤ maxLen) (ht : t.size ≤ maxLen) (wn : (Lit.int .i64 n).wf = true) (w : World) :
    Calls Try.prog 7 #[.string s, .string t, .int .i64 n] w fun e w' => e = .returned (.bool true) ∧ Below w.heap.size w w' := by
  unfold maxLen at hs ht
  by_cases h : s.size ≤ 40 ∧ t.size ≤ 40
  · have h1 := Int.emod_nonneg n (show ((s.size : Int) + 1) ≠ 0 by omega)
    have h2 := Int.emod_lt_of_pos n (show 0 < ((s.size : Int) + 1) by omega)
    obtain ⟨j, hj⟩ : ∃ j : Nat, (j : Int) = n % ((s.size : Int) + 1) := ⟨(n % ((s.size : Int) + 1)).toNat, by omega⟩
    have hjs : j ≤ s.size := by omega
    have hsz : (s.extract 0 j).size = j := by rw [ByteArray.size_extract]; omega
    have O1 := ok_bytes h.1
    have O2 := ok_bytes h.2
    have O3 := ok_bytes (t := s.extract 0 j) (by omega)
    refine texts_walk s t n j w h.1 h.2 hjs _ _ _ (fun W => key_any 5 0 0 s W O1) (fun W => key_any 5 0 0 t W O2) (fun W => key_any 5 0 0 _ W O3) ?_ ?_ hsz (fun W => within2_at (is64_lit wn) (by omega) hj.symm W)
    · rw [keyB_less O1 O2, rord_bytes, cmpS_neg]
    · rw [keyB_less O3 O1, rord_bytes, cmpS_neg, ByteArray.toList_eq, ByteArray.toList_eq, extract_data', less_front _ j (by simpa using hjs)]
      simp
  · exact texts_long s t n w (by omega)
end Go.Proofs.Ytbpjejjbgdikdaa
