/-
  The pass through package eval's fold of ints from its second label to a child.
-/
import Derived.Test.YtliefgkhpgigaaaEB
namespace Go.Proofs.Ytliefgkhpgigaaa
open Go.RowKit
set_option linter.unusedSimpArgs false
set_option linter.unusedVariables false

set_option maxHeartbeats 1000000 in
set_option maxRecDepth 100000 in
theorem pass1k (f : Ex → Int → Int → Int × Int) (Pd : Ex → Prop) (bt : Nat) (e0 : Ex) (lv0 : Value) (w : World) (n : Nat) (W : World) (r0 c : Code) (hc : Try.f36.body = some (.seq r0 (.scope c))) (u : Nat → Value) (hPd : ∀ (r : Fr Int) c, r.kid = some c → Pd r.e → Pd c)
    (s0 : List (Fr Int)) (e : Ex) (d m gc cp g cap : Nat) (ra rb : Int) (xc : Array Value) (ck : Ex) (lp : Option Addr) (lm lq : Nat)
    (hS : St w Pd (s0 ++ [⟨e, .slice (some ⟨gc, 0, none⟩) m cp, d, ra, rb⟩]) (.slice (some ⟨g, 0, none⟩) (s0.length + 1) cap) xc W)
    (hK : Hid (∀ r ∈ s0, r.kid ≠ none)) (hU : Hid (up 0 f s0.reverse (contF 0 f ⟨e, .slice (some ⟨gc, 0, none⟩) m cp, d, ra, rb⟩) = foldF 0 f e0)) (hn : Hid (n = (Fr.remTop (⟨e, .slice (some ⟨gc, 0, none⟩) m cp, d, ra, rb⟩ : Fr Int)) + (s0.map Fr.rem).sum))
    (hk : Hid (Fr.kid (⟨e, .slice (some ⟨gc, 0, none⟩) m cp, d, ra, rb⟩ : Fr Int) = some ck)) (hdm : d < m) (hm2 : m ≤ 2) (hcell : Hid (CellsAt gc (d * 7) (exC ck (.slice lp lm lq)) w)) (hRc : Hid (Rep ck (.slice lp lm lq) w)) (hk1000 : s0.length ≤ 1000) :
    ∃ rest, findLabel c 1 = some (.seq .skip rest) ∧ rest.wp Try.prog (Exit.jumps (fun l' a' w' => ∃ n', n' < n ∧ J36 w bt e0 lv0 Pd f l' n' a' w') (PQ f e0 w)) ⟨#[.agg (exC e0 lv0).toArray, .func (.func 37) #[] #[.pointer (some ⟨bt, 0, none⟩)], .pointer (some ⟨w.heap.size, 0, none⟩), undef, .int .i64 0, .int .i64 0, .slice (some ⟨g, 0, none⟩) (s0.length + 1) cap, u 7, u 8, u 9, u 10, u 11, u 12, u 13, u 14, u 15, u 16, u 17, u 18, u 19, u 20, u 21, u 22, u 23, u 24, u 25, u 26, u 27, u 28, u 29, u 30, u 31, u 32, u 33, u 34, u 35, u 36, u 37, u 38, u 39, u 40, u 41, u 42, u 43, u 44, u 45, u 46, u 47, u 48, u 49, u 50, u 51, u 52, u 53, u 54, u 55, u 56, u 57, u 58, u 59, u 60, u 61, u 62, u 63, u 64, u 65, u 66, u 67, u 68, u 69, u 70, u 71, u 72, u 73, u 74, u 75, u 76, u 77, u 78, u 79, u 80, u 81, u 82, u 83, u 84, u 85, u 86, u 87, u 88, u 89, u 90, u 91, u 92, u 93, u 94, u 95, u 96, u 97], []⟩ W := by
  unfold Try.f36 at hc
  cases hc
  refine ⟨_, rfl, ?_⟩
  have HS := hide hS
  have HPD := hide hPd
  clear hS hPd
  obtain ⟨k, hkk⟩ : ∃ k, k = s0.length := ⟨_, rfl⟩
  have e1 : IntKind.i64.wrap ((s0.length : Int) + 1 - 1) = (s0.length : Int) := IntWalk.i64_in _ (by omega) |>.trans (by omega)
  have hmin : min (m : Int) 2 = m := by omega
  have hdi : (d : Int) < m := by omega
  go_wp2_with fail
  rename_i hrest
  refine wp_region_noPanic ?_
  refine wp_region_held_drew (S := (fun X => ∃ xq, St w Pd (s0 ++ [⟨e, .slice (some ⟨gc, 0, none⟩) m cp, d, ra, rb⟩]) (.slice (some ⟨g, 0, none⟩) (s0.length + 1) cap) xq X)) (by kernel_rfl) (⟨_, (unhide HS).call (Below.refl _ _).drew⟩) (fun hHeld => ?_)
  clear HS
  revert hHeld
  generalize World.drew _ = Wd
  intro hHeld
  refine wpAnyH_take (i := 0) (oi := ?oi20001) (v := ?v20001) ?hi20001 (by kernel_rfl) (by kernel_rfl) (by kernel_rfl) (fun _ _ _ h => h) (Or.inl ⟨?hw20001, ?hy20001⟩) (by assumption) ?rest20001
  case hi20001 => (simp only [List.getElem?_toArray, List.getElem?_cons_zero]; rfl)
  case hw20001 => rfl
  case hy20001 => first | (intro wx hSw; go_simp; done) | (intro wx hSw; go_simp; with_reducible rfl)
  simp only [Act.put, List.setIfInBounds_toArray, List.set_cons_zero, List.set_cons_succ]
  refine wpAnyH_take (i := 4) (oi := ?oi20002) (v := ?v20002) ?hi20002 (by kernel_rfl) (by kernel_rfl) (by kernel_rfl) (fun _ _ _ h => h) (Or.inl ⟨?hw20002, ?hy20002⟩) (by assumption) ?rest20002
  case hi20002 => (simp only [List.getElem?_toArray, List.getElem?_cons_zero, List.getElem?_cons_succ]; rfl)
  case hw20002 => rfl
  case hy20002 => first | (intro wx hSw; go_simp; done) | (intro wx hSw; go_simp; with_reducible rfl)
  simp only [Act.put, List.setIfInBounds_toArray, List.set_cons_zero, List.set_cons_succ]
  refine wpAnyH_take (i := 1) (oi := ?oi20003) (v := ?v20003) ?hi20003 (by kernel_rfl) (by kernel_rfl) (by kernel_rfl) (fun _ _ _ h => h) (Or.inl ⟨?hw20003, ?hy20003⟩) (by assumption) ?rest20003
  case hi20003 => (simp only [List.getElem?_toArray, List.getElem?_cons_zero, List.getElem?_cons_succ]; rfl)
  case hw20003 => rfl
  case hy20003 => first | (intro wx hSw; go_simp; done) | (intro wx hSw; go_simp; with_reducible rfl)
  simp only [Act.put, List.setIfInBounds_toArray, List.set_cons_zero, List.set_cons_succ]
  refine wpAnyH_take (i := 5) (oi := ?oi20004) (v := ?v20004) ?hi20004 (by kernel_rfl) (by kernel_rfl) (by kernel_rfl) (fun _ _ _ h => h) (Or.inl ⟨?hw20004, ?hy20004⟩) (by assumption) ?rest20004
  case hi20004 => (simp only [List.getElem?_toArray, List.getElem?_cons_zero, List.getElem?_cons_succ]; rfl)
  case hw20004 => rfl
  case hy20004 => first | (intro wx hSw; go_simp; done) | (intro wx hSw; go_simp; with_reducible rfl)
  simp only [Act.put, List.setIfInBounds_toArray, List.set_cons_zero, List.set_cons_succ]
  refine wpAnyH_take (i := 2) (oi := ?oi20005) (v := ?v20005) ?hi20005 (by kernel_rfl) (by kernel_rfl) (by kernel_rfl) (fun _ _ _ h => h) (Or.inl ⟨?hw20005, ?hy20005⟩) (by assumption) ?rest20005
  case hi20005 => (simp only [List.getElem?_toArray, List.getElem?_cons_zero, List.getElem?_cons_succ]; rfl)
  case hw20005 => rfl
  case hy20005 => first | (intro wx hSw; go_simp; done) | (intro wx hSw; go_simp; with_reducible rfl)
  simp only [Act.put, List.setIfInBounds_toArray, List.set_cons_zero, List.set_cons_succ]
  refine wpAnyH_take (i := 6) (oi := ?oi20006) (v := ?v20006) ?hi20006 (by kernel_rfl) (by kernel_rfl) (by kernel_rfl) (fun _ _ _ h => h) (Or.inl ⟨?hw20006, ?hy20006⟩) (by assumption) ?rest20006
  case hi20006 => (simp only [List.getElem?_toArray, List.getElem?_cons_zero, List.getElem?_cons_succ]; rfl)
  case hw20006 => rfl
  case hy20006 => first | (intro wx hSw; go_simp; done) | (intro wx hSw; go_simp; with_reducible rfl)
  simp only [Act.put, List.setIfInBounds_toArray, List.set_cons_zero, List.set_cons_succ]
  refine wpAnyH_take (i := 7) (oi := ?oi20007) (v := ?v20007) ?hi20007 (by kernel_rfl) (by kernel_rfl) (by kernel_rfl) (fun _ _ _ h => h) (Or.inl ⟨?hw20007, ?hy20007⟩) (by assumption) ?rest20007
  case hi20007 => (simp only [List.getElem?_toArray, List.getElem?_cons_zero, List.getElem?_cons_succ]; rfl)
  case hw20007 => rfl
  case hy20007 => first | (intro wx hSw; go_simp; done) | (intro wx hSw; go_simp; with_reducible rfl)
  simp only [Act.put, List.setIfInBounds_toArray, List.set_cons_zero, List.set_cons_succ]
  refine wpAnyH_take (i := 3) (oi := ?oi20008) (v := ?v20008) ?hi20008 (by kernel_rfl) (by kernel_rfl) (by kernel_rfl) (fun _ _ _ h => h) (Or.inl ⟨?hw20008, ?hy20008⟩) (by assumption) ?rest20008
  case hi20008 => (simp only [List.getElem?_toArray, List.getElem?_cons_zero, List.getElem?_cons_succ]; rfl)
  case hw20008 => rfl
  case hy20008 => first | (intro wx hSw; obtain ⟨xq, hq⟩ := hSw; have c6 := (hq.at s0 _ [] rfl 6 (by decide)).1; have c7 := (hq.at s0 _ [] rfl 7 (by decide)).1; simp at c6 c7; go_simp; done) | (intro wx hSw; obtain ⟨xq, hq⟩ := hSw; have c6 := (hq.at s0 _ [] rfl 6 (by decide)).1; have c7 := (hq.at s0 _ [] rfl 7 (by decide)).1; simp at c6 c7; go_simp; with_reducible rfl)
  simp only [Act.put, List.setIfInBounds_toArray, List.set_cons_zero, List.set_cons_succ]
  refine wpAnyH_take (i := 8) (oi := ?oi20009) (v := ?v20009) ?hi20009 (by kernel_rfl) (by kernel_rfl) (by kernel_rfl) (fun _ _ _ h => h) (Or.inl ⟨?hw20009, ?hy20009⟩) (by assumption) ?rest20009
  case hi20009 => (simp only [List.getElem?_toArray, List.getElem?_cons_zero, List.getElem?_cons_succ]; rfl)
  case hw20009 => rfl
  case hy20009 => first | (intro wx hSw; obtain ⟨xq, hq⟩ := hSw; have c6 := (hq.at s0 _ [] rfl 6 (by decide)).1; have c7 := (hq.at s0 _ [] rfl 7 (by decide)).1; simp at c6 c7; go_simp; done) | (intro wx hSw; obtain ⟨xq, hq⟩ := hSw; have c6 := (hq.at s0 _ [] rfl 6 (by decide)).1; have c7 := (hq.at s0 _ [] rfl 7 (by decide)).1; simp at c6 c7; go_simp; with_reducible rfl)
  simp only [Act.put, List.setIfInBounds_toArray, List.set_cons_zero, List.set_cons_succ]
  refine wpAnyH_take (i := 9) (oi := ?oi20010) (v := ?v20010) ?hi20010 (by kernel_rfl) (by kernel_rfl) (by kernel_rfl) (fun _ _ _ h => h) (Or.inl ⟨?hw20010, ?hy20010⟩) (by assumption) ?rest20010
  case hi20010 => (simp only [List.getElem?_toArray, List.getElem?_cons_zero, List.getElem?_cons_succ]; rfl)
  case hw20010 => rfl
  case hy20010 => first | (intro wx hSw; go_simp; done) | (intro wx hSw; go_simp; with_reducible rfl)
  simp only [Act.put, List.setIfInBounds_toArray, List.set_cons_zero, List.set_cons_succ]
  refine wpAnyH_take (i := 10) (oi := ?oi20011) (v := ?v20011) ?hi20011 (by kernel_rfl) (by kernel_rfl) (by kernel_rfl) (fun _ _ _ h => h) (Or.inl ⟨?hw20011, ?hy20011⟩) (by assumption) ?rest20011
  case hi20011 => (simp only [List.getElem?_toArray, List.getElem?_cons_zero, List.getElem?_cons_succ]; rfl)
  case hw20011 => rfl
  case hy20011 => first | (intro wx hSw; go_simp; done) | (intro wx hSw; go_simp; with_reducible rfl)
  simp only [Act.put, List.setIfInBounds_toArray, List.set_cons_zero, List.set_cons_succ]
  refine wpAnyH_take (i := 11) (oi := ?oi20012) (v := ?v20012) ?hi20012 (by kernel_rfl) (by kernel_rfl) (by kernel_rfl) (fun _ _ _ h => h) (Or.inl ⟨?hw20012, ?hy20012⟩) (by assumption) ?rest20012
  case hi20012 => (simp only [List.getElem?_toArray, List.getElem?_cons_zero, List.getElem?_cons_succ]; rfl)
  case hw20012 => rfl
  case hy20012 => first | (intro wx hSw; go_simp; done) | (intro wx hSw; go_simp; with_reducible rfl)
  simp only [Act.put, List.setIfInBounds_toArray, List.set_cons_zero, List.set_cons_succ]
  refine wpAnyH_done (by kernel_rfl) ?_ _
  refine NoPanic.normal ?_
  refine hrest _ _ ?_
  clear hrest
  have hS4 := hide hHeld
  clear hHeld
  go_wp2_with fail
  rename_i hrest
  refine wp_region_noPanic ?_
  refine wp_region_held_drew (S := (fun X => ∃ xq, St w Pd (s0 ++ [⟨e, .slice (some ⟨gc, 0, none⟩) m cp, d, ra, rb⟩]) (.slice (some ⟨g, 0, none⟩) (s0.length + 1) cap) xq X)) (by kernel_rfl) (⟨_, (unhide hS4).choose_spec.call (Below.refl _ _).drew⟩) (fun hHeld => ?_)
  clear hS4
  revert hHeld
  generalize World.drew _ = We
  intro hHeld
  refine wpAnyH_take (i := 0) (oi := ?oi20013) (v := ?v20013) ?hi20013 (by kernel_rfl) (by kernel_rfl) (by kernel_rfl) (fun _ _ _ h => h) (Or.inl ⟨?hw20013, ?hy20013⟩) (by assumption) ?rest20013
  case hi20013 => (simp only [List.getElem?_toArray, List.getElem?_cons_zero]; rfl)
  case hw20013 => rfl
  case hy20013 => first | (intro wx hSw; go_simp; done) | (intro wx hSw; go_simp; with_reducible rfl)
  simp only [Act.put, List.setIfInBounds_toArray, List.set_cons_zero, List.set_cons_succ]
  refine wpAnyH_take (i := 5) (oi := ?oi20014) (v := ?v20014) ?hi20014 (by kernel_rfl) (by kernel_rfl) (by kernel_rfl) (fun _ _ _ h => h) (Or.inl ⟨?hw20014, ?hy20014⟩) (by assumption) ?rest20014
  case hi20014 => (simp only [List.getElem?_toArray, List.getElem?_cons_zero, List.getElem?_cons_succ]; rfl)
  case hw20014 => rfl
  case hy20014 => first | (intro wx hSw; go_simp; done) | (intro wx hSw; go_simp; with_reducible rfl)
  simp only [Act.put, List.setIfInBounds_toArray, List.set_cons_zero, List.set_cons_succ]
  refine wpAnyH_take (i := 1) (oi := ?oi20015) (v := ?v20015) ?hi20015 (by kernel_rfl) (by kernel_rfl) (by kernel_rfl) (fun _ _ _ h => h) (Or.inl ⟨?hw20015, ?hy20015⟩) (by assumption) ?rest20015
  case hi20015 => (simp only [List.getElem?_toArray, List.getElem?_cons_zero, List.getElem?_cons_succ]; rfl)
  case hw20015 => rfl
  case hy20015 => first | (intro wx hSw; go_simp; done) | (intro wx hSw; go_simp; with_reducible rfl)
  simp only [Act.put, List.setIfInBounds_toArray, List.set_cons_zero, List.set_cons_succ]
  refine wpAnyH_take (i := 6) (oi := ?oi20016) (v := ?v20016) ?hi20016 (by kernel_rfl) (by kernel_rfl) (by kernel_rfl) (fun _ _ _ h => h) (Or.inl ⟨?hw20016, ?hy20016⟩) (by assumption) ?rest20016
  case hi20016 => (simp only [List.getElem?_toArray, List.getElem?_cons_zero, List.getElem?_cons_succ]; rfl)
  case hw20016 => rfl
  case hy20016 => first | (intro wx hSw; go_simp; done) | (intro wx hSw; go_simp; with_reducible rfl)
  simp only [Act.put, List.setIfInBounds_toArray, List.set_cons_zero, List.set_cons_succ]
  refine wpAnyH_take (i := 2) (oi := ?oi20017) (v := ?v20017) ?hi20017 (by kernel_rfl) (by kernel_rfl) (by kernel_rfl) (fun _ _ _ h => h) (Or.inl ⟨?hw20017, ?hy20017⟩) (by assumption) ?rest20017
  case hi20017 => (simp only [List.getElem?_toArray, List.getElem?_cons_zero, List.getElem?_cons_succ]; rfl)
  case hw20017 => rfl
  case hy20017 => first | (intro wx hSw; go_simp; done) | (intro wx hSw; go_simp; with_reducible rfl)
  simp only [Act.put, List.setIfInBounds_toArray, List.set_cons_zero, List.set_cons_succ]
  refine wpAnyH_take (i := 7) (oi := ?oi20018) (v := ?v20018) ?hi20018 (by kernel_rfl) (by kernel_rfl) (by kernel_rfl) (fun _ _ _ h => h) (Or.inl ⟨?hw20018, ?hy20018⟩) (by assumption) ?rest20018
  case hi20018 => (simp only [List.getElem?_toArray, List.getElem?_cons_zero, List.getElem?_cons_succ]; rfl)
  case hw20018 => rfl
  case hy20018 => first | (intro wx hSw; go_simp; done) | (intro wx hSw; go_simp; with_reducible rfl)
  simp only [Act.put, List.setIfInBounds_toArray, List.set_cons_zero, List.set_cons_succ]
  refine wpAnyH_take (i := 3) (oi := ?oi20019) (v := ?v20019) ?hi20019 (by kernel_rfl) (by kernel_rfl) (by kernel_rfl) (fun _ _ _ h => h) (Or.inl ⟨?hw20019, ?hy20019⟩) (by assumption) ?rest20019
  case hi20019 => (simp only [List.getElem?_toArray, List.getElem?_cons_zero, List.getElem?_cons_succ]; rfl)
  case hw20019 => rfl
  case hy20019 => first | (intro wx hSw; go_simp; done) | (intro wx hSw; go_simp; with_reducible rfl)
  simp only [Act.put, List.setIfInBounds_toArray, List.set_cons_zero, List.set_cons_succ]
  refine wpAnyH_take (i := 8) (oi := ?oi20020) (v := ?v20020) ?hi20020 (by kernel_rfl) (by kernel_rfl) (by kernel_rfl) (fun _ _ _ h => h) (Or.inl ⟨?hw20020, ?hy20020⟩) (by assumption) ?rest20020
  case hi20020 => (simp only [List.getElem?_toArray, List.getElem?_cons_zero, List.getElem?_cons_succ]; rfl)
  case hw20020 => rfl
  case hy20020 => first | (intro wx hSw; obtain ⟨xq, hq⟩ := hSw; have c6 := (hq.at s0 _ [] rfl 6 (by decide)).1; have c7 := (hq.at s0 _ [] rfl 7 (by decide)).1; simp at c6 c7; go_simp; done) | (intro wx hSw; obtain ⟨xq, hq⟩ := hSw; have c6 := (hq.at s0 _ [] rfl 6 (by decide)).1; have c7 := (hq.at s0 _ [] rfl 7 (by decide)).1; simp at c6 c7; go_simp; with_reducible rfl)
  simp only [Act.put, List.setIfInBounds_toArray, List.set_cons_zero, List.set_cons_succ]
  refine wpAnyH_take (i := 4) (oi := ?oi20021) (v := ?v20021) ?hi20021 (by kernel_rfl) (by kernel_rfl) (by kernel_rfl) (fun _ _ _ h => h) (Or.inl ⟨?hw20021, ?hy20021⟩) (by assumption) ?rest20021
  case hi20021 => (simp only [List.getElem?_toArray, List.getElem?_cons_zero, List.getElem?_cons_succ]; rfl)
  case hw20021 => rfl
  case hy20021 => first | (intro wx hSw; obtain ⟨xq, hq⟩ := hSw; have c6 := (hq.at s0 _ [] rfl 6 (by decide)).1; have c7 := (hq.at s0 _ [] rfl 7 (by decide)).1; simp at c6 c7; go_simp; done) | (intro wx hSw; obtain ⟨xq, hq⟩ := hSw; have c6 := (hq.at s0 _ [] rfl 6 (by decide)).1; have c7 := (hq.at s0 _ [] rfl 7 (by decide)).1; simp at c6 c7; go_simp; with_reducible rfl)
  simp only [Act.put, List.setIfInBounds_toArray, List.set_cons_zero, List.set_cons_succ]
  refine wpAnyH_take (i := 9) (oi := ?oi20022) (v := ?v20022) ?hi20022 (by kernel_rfl) (by kernel_rfl) (by kernel_rfl) (fun _ _ _ h => h) (Or.inl ⟨?hw20022, ?hy20022⟩) (by assumption) ?rest20022
  case hi20022 => (simp only [List.getElem?_toArray, List.getElem?_cons_zero, List.getElem?_cons_succ]; rfl)
  case hw20022 => rfl
  case hy20022 => first | (intro wx hSw; go_simp; done) | (intro wx hSw; go_simp; with_reducible rfl)
  simp only [Act.put, List.setIfInBounds_toArray, List.set_cons_zero, List.set_cons_succ]
  refine wpAnyH_take (i := 10) (oi := ?oi20023) (v := ?v20023) ?hi20023 (by kernel_rfl) (by kernel_rfl) (by kernel_rfl) (fun _ _ _ h => h) (Or.inl ⟨?hw20023, ?hy20023⟩) (by assumption) ?rest20023
  case hi20023 => (simp only [List.getElem?_toArray, List.getElem?_cons_zero, List.getElem?_cons_succ]; rfl)
  case hw20023 => rfl
  case hy20023 => first | (intro wx hSw; obtain ⟨xq, hq⟩ := hSw; have hcc := (unhide hcell).call hq.below; have y0 := hcc.2 0 (by simp); have y1 := hcc.2 1 (by simp); have y2 := hcc.2 2 (by simp); have y3 := hcc.2 3 (by simp); have y4 := hcc.2 4 (by simp); have y5 := hcc.2 5 (by simp); have y6 := hcc.2 6 (by simp); simp at y0 y1 y2 y3 y4 y5 y6; go_simp; done) | (intro wx hSw; obtain ⟨xq, hq⟩ := hSw; have hcc := (unhide hcell).call hq.below; have y0 := hcc.2 0 (by simp); have y1 := hcc.2 1 (by simp); have y2 := hcc.2 2 (by simp); have y3 := hcc.2 3 (by simp); have y4 := hcc.2 4 (by simp); have y5 := hcc.2 5 (by simp); have y6 := hcc.2 6 (by simp); simp at y0 y1 y2 y3 y4 y5 y6; go_simp; with_reducible rfl)
  simp only [Act.put, List.setIfInBounds_toArray, List.set_cons_zero, List.set_cons_succ]
  obtain ⟨xq, hq⟩ := id hHeld
  obtain ⟨⟨z0, a0⟩, b0⟩ := hq.held 0 (by decide)
  obtain ⟨⟨z1, a1⟩, b1⟩ := hq.held 1 (by decide)
  obtain ⟨⟨z2, a2⟩, b2⟩ := hq.held 2 (by decide)
  obtain ⟨⟨z3, a3⟩, b3⟩ := hq.held 3 (by decide)
  obtain ⟨⟨z4, a4⟩, b4⟩ := hq.held 4 (by decide)
  obtain ⟨⟨z5, a5⟩, b5⟩ := hq.held 5 (by decide)
  obtain ⟨⟨z6, a6⟩, b6⟩ := hq.held 6 (by decide)
  refine wpAnyH_ready (rs := [11]) (by kernel_rfl) (by simp) ?_
  refine AllReadyH.cons rfl (fun K20024 hK20024 => ?_) AllReadyH.nil
  go_simp
  refine hK20024.out _ _ ?hs20024 (fun hHeld20024 => ?_)
  case hs20024 => exact ⟨_, hq.set7 _ _ _ _ _ _ _⟩
  clear hHeld
  have hHeld := hHeld20024; clear hHeld20024 hK20024 K20024
  clear a0 a1 a2 a3 a4 a5 a6 b0 b1 b2 b3 b4 b5 b6
  refine wpAnyH_done (by kernel_rfl) ?_ _
  refine NoPanic.normal ?_
  refine hrest _ _ ?_
  clear hrest
  go_wp2_with fail
  go_step3
  have hq7 := hq.set7 (.int .i64 ck.k) (.string ck.nm) (.int .i64 ck.v.1) (.int .i64 ck.v.2.1) (.int .i64 ck.v.2.2.1) (.string ck.v.2.2.2) (.slice lp lm lq)
  have hdp := kid_deep (unhide hk)
  have hrk := rem_kid (unhide hk)
  have hn' := unhide hn
  have hdd := hq.deep s0.length ⟨e, .slice (some ⟨gc, 0, none⟩) m cp, d, ra, rb⟩ (by simp)
  have hsz : 1 ≤ ck.size := by cases ck <;> simp [Ex.size]
  rw [hrk] at hn'
  simp only at hdp hdd
  refine ⟨3 * ck.size + (Fr.rem (⟨e, .slice (some ⟨gc, 0, none⟩) m cp, d, ra, rb⟩ : Fr Int)) + (s0.map Fr.rem).sum - 1, by omega, J36.intro _ (s0 ++ [⟨e, .slice (some ⟨gc, 0, none⟩) m cp, d, ra, rb⟩]) _ _ rfl hq7 (.inl ⟨rfl, ?_, ck, .slice lp lm lq, rfl, unhide hRc, unhide HPD _ _ (unhide hk) (hq.rep _ (by simp)).2, by simp; omega, ?_, by simp; omega⟩)⟩
  · intro r hr
    rcases List.mem_append.1 hr with h | h
    · exact unhide hK r h
    · simp at h; subst h; rw [unhide hk]; simp
  · rw [List.reverse_append]
    show up 0 f (⟨e, .slice (some ⟨gc, 0, none⟩) m cp, d, ra, rb⟩ :: s0.reverse) _ = _
    rw [← cont_kid 0 f (unhide hk)]; exact unhide hU
end Go.Proofs.Ytliefgkhpgigaaa
