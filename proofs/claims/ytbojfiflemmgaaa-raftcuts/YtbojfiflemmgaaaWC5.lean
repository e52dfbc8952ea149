/-
  RaftCuts: its last loop, its end.
-/
import Derived.Test.YtbojfiflemmgaaaWC4
namespace Go.Proofs.Ytbojfiflemmgaaa
open Go.RowKit
set_option linter.unusedSimpArgs false
set_option linter.unusedVariables false

set_option maxRecDepth 100000 in
set_option maxHeartbeats 16000000 in
theorem cuts_loop0 {r0 c1 r3 r4 l5 r10 r11 r12 c13 r15 l16 r21 c22 R24 : Code} (hc : Try.f11.body = some (.seq r0 (.seq c1 (.seq r3 (.seq r4 (.seq l5 (.seq r10 (.seq r11 (.seq r12 (.seq c13 (.seq r15 (.seq l16 (.seq r21 (.seq c22 R24)))))))))))))) (nb mb ob : Nat) (L R : List En) (t at' : Nat) (ents : List En) (pN pe pO : Option Addr) (cN ce cO : Nat) (w X : World) (u : Nat → Value) (h : CutO nb mb ob L R at' ents pN pe pO cN ce cO w X) :
    R24.wp Try.prog (bodyPost Try.prog Try.f11 fun e W' => e = .returned (.bool true) ∧ Below w.heap.size w W') ⟨#[u 0, u 1, u 2, u 3, u 4, u 5, u 6, u 7, .bool false, ptr nb 0, nI t, u 11, nI at', ptr mb 0, u 14, u 15, ptr ob 0, u 17, u 18, u 19, u 20, u 21, u 22, u 23, u 24, u 25, u 26, u 27, u 28, u 29, u 30, u 31, u 32, u 33, u 34, u 35, u 36, u 37, u 38, u 39, u 40, u 41, u 42, u 43, u 44, u 45, u 46, u 47, u 48, u 49, u 50, u 51, u 52, u 53, u 54, u 55, u 56, u 57, u 58, u 59, u 60, u 61, u 62, u 63, u 64, u 65, u 66, u 67, u 68, u 69, u 70, u 71, u 72, u 73, u 74, u 75, u 76, u 77, u 78, u 79, u 80, u 81, u 82, u 83, u 84, u 85, u 86, u 87, u 88, u 89, u 90, u 91, u 92, u 93, u 94, u 95, u 96, u 97, u 98, u 99, u 100, u 101, u 102, u 103, u 104, u 105, u 106, u 107, u 108, u 109, u 110, u 111, u 112, u 113, u 114, u 115, u 116, u 117, u 118, u 119, u 120, u 121, u 122, u 123, u 124, u 125, u 126, u 127, u 128, u 129, u 130, u 131, u 132, u 133, u 134, u 135, u 136, u 137, u 138, u 139, u 140, u 141, u 142, u 143, u 144, u 145, u 146, u 147, u 148, u 149, u 150, u 151, u 152, u 153, u 154, u 155, u 156, u 157, u 158, u 159, u 160, u 161, u 162, u 163, u 164, u 165, u 166, u 167, u 168, u 169, u 170, u 171, u 172, u 173, u 174, u 175, u 176, u 177, u 178, u 179, u 180, u 181, u 182, u 183, u 184, u 185, u 186, u 187, u 188, u 189, u 190, u 191, u 192, u 193, u 194, u 195, u 196, u 197, u 198, u 199, u 200, u 201, u 202, u 203, u 204, u 205, u 206, u 207, u 208, u 209], []⟩ X := by
  unfold Try.f11 at hc
  cases hc
  have m7 := h.m7
  have he8 := h.e8
  have ml := h.ml
  have HC := hide h
  clear h
  go_wp2
  go_loopw [18, 19] (fun c ix wr => ∃ (k : Nat) (cb : Bool), k ≤ ents.length ∧ ix = .int .i64 (k : Int) ∧ c = .bool cb ∧ (cb = true ↔ Cut L at' ents k) ∧ Hid (CutO nb mb ob L R at' ents pN pe pO cN ce cO w wr)) (fun _ ix wr => ents.length - (intOf ix).toNat)
  case atStart => exact ⟨0, false, Nat.zero_le _, rfl, rfl, ⟨fun x => (by cases x), fun x => (by obtain ⟨j, _, hj, _⟩ := x; omega)⟩, HC⟩
  case round =>
    obtain ⟨k, cb, hk, rfl, rfl, hcb, HC⟩ := hrel
    replace hcb := hide hcb
    by_cases hlt : k < ents.length
    · skip
      have C := unhide HC
      obtain ⟨hr1, hr2⟩ := C.has k hlt
      obtain ⟨ge, oe, xe, e1, a0, _⟩ := sees_en C.sE k hlt
      obtain ⟨gO, oO, xO, e2, b0, _⟩ := sees_en C.sO (at' + k) hr1
      rw [hr2] at b0
      injection e1 with e1 _ e3
      injection e2 with e2 _ e4
      subst e1 e2 e3 e4
      have n3 := C.n3
      have m7 := C.m7
      have o3 := C.o3
      have nl := C.nl
      have ml := C.ml
      have ol := C.ol
      have hat8 := C.hat
      have hl8 := C.l8
      have he8 := C.e8
      have hr16 := C.r16
      obtain ⟨tt, htt⟩ : ∃ tt, (ents[k]'hlt).term = tt := ⟨_, rfl⟩
      rw [htt] at a0 b0
      have HTT := hide htt
      obtain ⟨kk, hkk⟩ : ∃ kk, at' + k = kk := ⟨_, rfl⟩
      rw [hkk] at b0 hr1
      have HKK := hide hkk
      have hwr : IntKind.i64.wrap ((at' : Int) + (k : Int)) = (kk : Int) := (IntWalk.i64_in _ (by omega)).trans (by omega)
      have hnx : IntKind.i64.wrap ((k : Int) + 1) = ((k + 1 : Nat) : Int) := (IntWalk.i64_in _ (by omega)).trans (by omega)
      have x0 : ¬ (R.length : Int) ≤ (kk : Int) := by omega
      have x1 : (kk : Int) < (R.length : Int) := by omega
      have x2 : (0 : Int) ≤ (kk : Int) := by omega
      have x3 : (k : Int) < (ents.length : Int) := by omega
      have x4 : (0 : Int) ≤ (k : Int) := by omega
      have x5 : decide ((R.length : Int) ≤ (kk : Int)) = false := decide_eq_false x0
      have x6 : ¬ R.length ≤ kk := by omega
      have x7 : decide (R.length ≤ kk) = false := decide_eq_false x6
      have x8 : kk < R.length := by omega
      clear hr2 C
      go_wp2
      go_region_held3 (fun w' => (w'.cell? ⟨ob, 3, none⟩ = some (.slice (some ⟨gO, oO, none⟩) R.length cO) ∧ w'.cell? ⟨mb, 7, none⟩ = some (.slice (some ⟨ge, oe, none⟩) ents.length ce)) ∧ w'.cell? ⟨gO, oO + kk * 2, none⟩ = some (.int .i64 (tt : Int)) ∧ w'.cell? ⟨ge, oe + k * 2, none⟩ = some (.int .i64 (tt : Int))) (go_keep) (fail)
      have HC2 := hide ((unhide HC).call (below_drew wr))
      replace a0 : wr.drew.cell? ⟨ge, oe + k * 2, none⟩ = some (.int .i64 (tt : Int)) := a0
      replace n3 : wr.drew.cell? ⟨nb, 3, none⟩ = some (.slice pN L.length cN) := n3
      replace m7 : wr.drew.cell? ⟨mb, 7, none⟩ = some (.slice (some ⟨ge, oe, none⟩) ents.length ce) := m7
      replace nl : nb < wr.drew.heap.size := nl
      replace ml : mb < wr.drew.heap.size := ml
      clear HC b0 o3 ol x0 x1 x5 x6 x7 x8
      generalize wr.drew = Y at HC2 a0 n3 m7 nl ml ⊢
      cases cb with
      | true =>
        go_wp2
        rename_i hrest
        refine wp_region_noPanic ?_
        refine wp_region_held_drew (S := (fun w' => w'.cell? ⟨nb, 3, none⟩ = some (.slice pN L.length cN) ∧ w'.cell? ⟨mb, 7, none⟩ = some (.slice (some ⟨ge, oe, none⟩) ents.length ce))) (by kernel_rfl) (⟨n3, m7⟩) (fun hHeld => ?_)
        refine wpAnyH_take (i := 0) (oi := ?oi20001) (v := ?v20001) ?hi20001 (by kernel_rfl) (by kernel_rfl) (by kernel_rfl) (fun _ _ _ h => h) (Or.inl ⟨?hw20001, ?hy20001⟩) (by assumption) ?rest20001
        case hi20001 => (simp only [List.getElem?_toArray, List.getElem?_cons_zero]; rfl)
        case hw20001 => rfl
        case hy20001 => first | (intro wx hSw; obtain ⟨s1_, s2_⟩ := hSw; go_simp; done) | (intro wx hSw; obtain ⟨s1_, s2_⟩ := hSw; go_simp; with_reducible rfl)
        simp only [Act.put, List.setIfInBounds_toArray, List.set_cons_zero, List.set_cons_succ]
        refine wpAnyH_take (i := 1) (oi := ?oi20002) (v := ?v20002) ?hi20002 (by kernel_rfl) (by kernel_rfl) (by kernel_rfl) (fun _ _ _ h => h) (Or.inl ⟨?hw20002, ?hy20002⟩) (by assumption) ?rest20002
        case hi20002 => (simp only [List.getElem?_toArray, List.getElem?_cons_zero, List.getElem?_cons_succ]; rfl)
        case hw20002 => rfl
        case hy20002 => first | (intro wx hSw; obtain ⟨s1_, s2_⟩ := hSw; go_simp; done) | (intro wx hSw; obtain ⟨s1_, s2_⟩ := hSw; go_simp; with_reducible rfl)
        simp only [Act.put, List.setIfInBounds_toArray, List.set_cons_zero, List.set_cons_succ]
        refine wpAnyH_take (i := 2) (oi := ?oi20003) (v := undef) ?hi20003 (by kernel_rfl) (by kernel_rfl) (by kernel_rfl) (fun _ _ _ h => h) (Or.inr ⟨?hw20003, rfl⟩) (by assumption) ?rest20003
        case hi20003 => (simp only [List.getElem?_toArray, List.getElem?_cons_zero, List.getElem?_cons_succ]; rfl)
        case hw20003 => rfl
        simp only [Act.put, List.setIfInBounds_toArray, List.set_cons_zero, List.set_cons_succ]
        refine wpAnyH_take (i := 3) (oi := ?oi20004) (v := undef) ?hi20004 (by kernel_rfl) (by kernel_rfl) (by kernel_rfl) (fun _ _ _ h => h) (Or.inr ⟨?hw20004, rfl⟩) (by assumption) ?rest20004
        case hi20004 => (simp only [List.getElem?_toArray, List.getElem?_cons_zero, List.getElem?_cons_succ]; rfl)
        case hw20004 => rfl
        simp only [Act.put, List.setIfInBounds_toArray, List.set_cons_zero, List.set_cons_succ]
        refine wpAnyH_take (i := 4) (oi := ?oi20005) (v := undef) ?hi20005 (by kernel_rfl) (by kernel_rfl) (by kernel_rfl) (fun _ _ _ h => h) (Or.inr ⟨?hw20005, rfl⟩) (by assumption) ?rest20005
        case hi20005 => (simp only [List.getElem?_toArray, List.getElem?_cons_zero, List.getElem?_cons_succ]; rfl)
        case hw20005 => rfl
        simp only [Act.put, List.setIfInBounds_toArray, List.set_cons_zero, List.set_cons_succ]
        refine wpAnyH_take (i := 5) (oi := ?oi20006) (v := undef) ?hi20006 (by kernel_rfl) (by kernel_rfl) (by kernel_rfl) (fun _ _ _ h => h) (Or.inr ⟨?hw20006, rfl⟩) (by assumption) ?rest20006
        case hi20006 => (simp only [List.getElem?_toArray, List.getElem?_cons_zero, List.getElem?_cons_succ]; rfl)
        case hw20006 => rfl
        simp only [Act.put, List.setIfInBounds_toArray, List.set_cons_zero, List.set_cons_succ]
        refine wpAnyH_take (i := 6) (oi := ?oi20007) (v := undef) ?hi20007 (by kernel_rfl) (by kernel_rfl) (by kernel_rfl) (fun _ _ _ h => h) (Or.inr ⟨?hw20007, rfl⟩) (by assumption) ?rest20007
        case hi20007 => (simp only [List.getElem?_toArray, List.getElem?_cons_zero, List.getElem?_cons_succ]; rfl)
        case hw20007 => rfl
        simp only [Act.put, List.setIfInBounds_toArray, List.set_cons_zero, List.set_cons_succ]
        refine wpAnyH_take (i := 7) (oi := ?oi20008) (v := ?v20008) ?hi20008 (by kernel_rfl) (by kernel_rfl) (by kernel_rfl) (fun _ _ _ h => h) (Or.inl ⟨?hw20008, ?hy20008⟩) (by assumption) ?rest20008
        case hi20008 => (simp only [List.getElem?_toArray, List.getElem?_cons_zero, List.getElem?_cons_succ]; rfl)
        case hw20008 => rfl
        case hy20008 => first | (intro wx hSw; obtain ⟨s1_, s2_⟩ := hSw; go_simp; done) | (intro wx hSw; obtain ⟨s1_, s2_⟩ := hSw; go_simp; with_reducible rfl)
        simp only [Act.put, List.setIfInBounds_toArray, List.set_cons_zero, List.set_cons_succ]
        refine wpAnyH_take (i := 8) (oi := ?oi20009) (v := ?v20009) ?hi20009 (by kernel_rfl) (by kernel_rfl) (by kernel_rfl) (fun _ _ _ h => h) (Or.inl ⟨?hw20009, ?hy20009⟩) (by assumption) ?rest20009
        case hi20009 => (simp only [List.getElem?_toArray, List.getElem?_cons_zero, List.getElem?_cons_succ]; rfl)
        case hw20009 => rfl
        case hy20009 => first | (intro wx hSw; obtain ⟨s1_, s2_⟩ := hSw; go_simp; done) | (intro wx hSw; obtain ⟨s1_, s2_⟩ := hSw; go_simp; with_reducible rfl)
        simp only [Act.put, List.setIfInBounds_toArray, List.set_cons_zero, List.set_cons_succ]
        refine wpAnyH_take (i := 9) (oi := ?oi20010) (v := undef) ?hi20010 (by kernel_rfl) (by kernel_rfl) (by kernel_rfl) (fun _ _ _ h => h) (Or.inr ⟨?hw20010, rfl⟩) (by assumption) ?rest20010
        case hi20010 => (simp only [List.getElem?_toArray, List.getElem?_cons_zero, List.getElem?_cons_succ]; rfl)
        case hw20010 => rfl
        simp only [Act.put, List.setIfInBounds_toArray, List.set_cons_zero, List.set_cons_succ]
        refine wpAnyH_take (i := 10) (oi := ?oi20011) (v := undef) ?hi20011 (by kernel_rfl) (by kernel_rfl) (by kernel_rfl) (fun _ _ _ h => h) (Or.inr ⟨?hw20011, rfl⟩) (by assumption) ?rest20011
        case hi20011 => (simp only [List.getElem?_toArray, List.getElem?_cons_zero, List.getElem?_cons_succ]; rfl)
        case hw20011 => rfl
        simp only [Act.put, List.setIfInBounds_toArray, List.set_cons_zero, List.set_cons_succ]
        refine wpAnyH_take (i := 11) (oi := ?oi20012) (v := undef) ?hi20012 (by kernel_rfl) (by kernel_rfl) (by kernel_rfl) (fun _ _ _ h => h) (Or.inr ⟨?hw20012, rfl⟩) (by assumption) ?rest20012
        case hi20012 => (simp only [List.getElem?_toArray, List.getElem?_cons_zero, List.getElem?_cons_succ]; rfl)
        case hw20012 => rfl
        simp only [Act.put, List.setIfInBounds_toArray, List.set_cons_zero, List.set_cons_succ]
        refine wpAnyH_take (i := 12) (oi := ?oi20013) (v := undef) ?hi20013 (by kernel_rfl) (by kernel_rfl) (by kernel_rfl) (fun _ _ _ h => h) (Or.inr ⟨?hw20013, rfl⟩) (by assumption) ?rest20013
        case hi20013 => (simp only [List.getElem?_toArray, List.getElem?_cons_zero, List.getElem?_cons_succ]; rfl)
        case hw20013 => rfl
        simp only [Act.put, List.setIfInBounds_toArray, List.set_cons_zero, List.set_cons_succ]
        refine wpAnyH_take (i := 13) (oi := ?oi20014) (v := undef) ?hi20014 (by kernel_rfl) (by kernel_rfl) (by kernel_rfl) (fun _ _ _ h => h) (Or.inr ⟨?hw20014, rfl⟩) (by assumption) ?rest20014
        case hi20014 => (simp only [List.getElem?_toArray, List.getElem?_cons_zero, List.getElem?_cons_succ]; rfl)
        case hw20014 => rfl
        simp only [Act.put, List.setIfInBounds_toArray, List.set_cons_zero, List.set_cons_succ]
        refine wpAnyH_take (i := 14) (oi := ?oi20015) (v := undef) ?hi20015 (by kernel_rfl) (by kernel_rfl) (by kernel_rfl) (fun _ _ _ h => h) (Or.inr ⟨?hw20015, rfl⟩) (by assumption) ?rest20015
        case hi20015 => (simp only [List.getElem?_toArray, List.getElem?_cons_zero, List.getElem?_cons_succ]; rfl)
        case hw20015 => rfl
        simp only [Act.put, List.setIfInBounds_toArray, List.set_cons_zero, List.set_cons_succ]
        refine wpAnyH_take (i := 15) (oi := ?oi20016) (v := undef) ?hi20016 (by kernel_rfl) (by kernel_rfl) (by kernel_rfl) (fun _ _ _ h => h) (Or.inr ⟨?hw20016, rfl⟩) (by assumption) ?rest20016
        case hi20016 => (simp only [List.getElem?_toArray, List.getElem?_cons_zero, List.getElem?_cons_succ]; rfl)
        case hw20016 => rfl
        simp only [Act.put, List.setIfInBounds_toArray, List.set_cons_zero, List.set_cons_succ]
        refine wpAnyH_take (i := 16) (oi := ?oi20017) (v := undef) ?hi20017 (by kernel_rfl) (by kernel_rfl) (by kernel_rfl) (fun _ _ _ h => h) (Or.inr ⟨?hw20017, rfl⟩) (by assumption) ?rest20017
        case hi20017 => (simp only [List.getElem?_toArray, List.getElem?_cons_zero, List.getElem?_cons_succ]; rfl)
        case hw20017 => rfl
        simp only [Act.put, List.setIfInBounds_toArray, List.set_cons_zero, List.set_cons_succ]
        refine wpAnyH_take (i := 17) (oi := ?oi20018) (v := undef) ?hi20018 (by kernel_rfl) (by kernel_rfl) (by kernel_rfl) (fun _ _ _ h => h) (Or.inr ⟨?hw20018, rfl⟩) (by assumption) ?rest20018
        case hi20018 => (simp only [List.getElem?_toArray, List.getElem?_cons_zero, List.getElem?_cons_succ]; rfl)
        case hw20018 => rfl
        simp only [Act.put, List.setIfInBounds_toArray, List.set_cons_zero, List.set_cons_succ]
        refine wpAnyH_take (i := 18) (oi := ?oi20019) (v := undef) ?hi20019 (by kernel_rfl) (by kernel_rfl) (by kernel_rfl) (fun _ _ _ h => h) (Or.inr ⟨?hw20019, rfl⟩) (by assumption) ?rest20019
        case hi20019 => (simp only [List.getElem?_toArray, List.getElem?_cons_zero, List.getElem?_cons_succ]; rfl)
        case hw20019 => rfl
        simp only [Act.put, List.setIfInBounds_toArray, List.set_cons_zero, List.set_cons_succ]
        refine wpAnyH_take (i := 19) (oi := ?oi20020) (v := undef) ?hi20020 (by kernel_rfl) (by kernel_rfl) (by kernel_rfl) (fun _ _ _ h => h) (Or.inr ⟨?hw20020, rfl⟩) (by assumption) ?rest20020
        case hi20020 => (simp only [List.getElem?_toArray, List.getElem?_cons_zero, List.getElem?_cons_succ]; rfl)
        case hw20020 => rfl
        simp only [Act.put, List.setIfInBounds_toArray, List.set_cons_zero, List.set_cons_succ]
        refine wpAnyH_take (i := 20) (oi := ?oi20021) (v := undef) ?hi20021 (by kernel_rfl) (by kernel_rfl) (by kernel_rfl) (fun _ _ _ h => h) (Or.inr ⟨?hw20021, rfl⟩) (by assumption) ?rest20021
        case hi20021 => (simp only [List.getElem?_toArray, List.getElem?_cons_zero, List.getElem?_cons_succ]; rfl)
        case hw20021 => rfl
        simp only [Act.put, List.setIfInBounds_toArray, List.set_cons_zero, List.set_cons_succ]
        refine wpAnyH_take (i := 21) (oi := ?oi20022) (v := undef) ?hi20022 (by kernel_rfl) (by kernel_rfl) (by kernel_rfl) (fun _ _ _ h => h) (Or.inr ⟨?hw20022, rfl⟩) (by assumption) ?rest20022
        case hi20022 => (simp only [List.getElem?_toArray, List.getElem?_cons_zero, List.getElem?_cons_succ]; rfl)
        case hw20022 => rfl
        simp only [Act.put, List.setIfInBounds_toArray, List.set_cons_zero, List.set_cons_succ]
        refine wpAnyH_take (i := 22) (oi := ?oi20023) (v := ?v20023) ?hi20023 (by kernel_rfl) (by kernel_rfl) (by kernel_rfl) (fun _ _ _ h => h) (Or.inl ⟨?hw20023, ?hy20023⟩) (by assumption) ?rest20023
        case hi20023 => (simp only [List.getElem?_toArray, List.getElem?_cons_zero, List.getElem?_cons_succ]; rfl)
        case hw20023 => rfl
        case hy20023 => first | (intro wx hSw; obtain ⟨s1_, s2_⟩ := hSw; go_simp; done) | (intro wx hSw; obtain ⟨s1_, s2_⟩ := hSw; go_simp; with_reducible rfl)
        simp only [Act.put, List.setIfInBounds_toArray, List.set_cons_zero, List.set_cons_succ]
        refine wpAnyH_ready (rs := [23]) (by kernel_rfl) (by simp) ?_
        refine AllReadyH.cons rfl (fun K20024 hK20024 => ?_) AllReadyH.nil
        go_simp
        refine hK20024.out _ _ ?hs20024 (fun hHeld20024 => ?_)
        case hs20024 => exact hHeld
        clear hHeld
        have hHeld := hHeld20024; clear hHeld20024 hK20024 K20024
        refine wpAnyH_done (by kernel_rfl) ?_ _
        refine NoPanic.normal ?_
        refine hrest _ _ ?_
        go_wp2
        go_roundw
        case rel => exact ⟨k + 1, true, by omega, by go_num, rfl, ⟨fun _ => (Cut.next hlt).2 (.inl (by have hq := unhide hcb; simpa using hq)), fun _ => rfl⟩, hide ((unhide HC2).call (below_drew _))⟩
        case measure => simp [intOf] <;> omega
      | false =>
        by_cases hk2 : L.length ≤ kk
        · have y0 : (L.length : Int) ≤ (kk : Int) := by omega
          have y1 : decide ((L.length : Int) ≤ (kk : Int)) = true := decide_eq_true y0
          have y5 : decide (L.length ≤ kk) = true := decide_eq_true hk2
          go_wp2
          rename_i hrest
          refine wp_region_noPanic ?_
          refine wp_region_held_drew (S := (fun w' => w'.cell? ⟨nb, 3, none⟩ = some (.slice pN L.length cN) ∧ w'.cell? ⟨mb, 7, none⟩ = some (.slice (some ⟨ge, oe, none⟩) ents.length ce))) (by kernel_rfl) (⟨n3, m7⟩) (fun hHeld => ?_)
          refine wpAnyH_take (i := 0) (oi := ?oi20025) (v := ?v20025) ?hi20025 (by kernel_rfl) (by kernel_rfl) (by kernel_rfl) (fun _ _ _ h => h) (Or.inl ⟨?hw20025, ?hy20025⟩) (by assumption) ?rest20025
          case hi20025 => (simp only [List.getElem?_toArray, List.getElem?_cons_zero]; rfl)
          case hw20025 => rfl
          case hy20025 => first | (intro wx hSw; obtain ⟨s1_, s2_⟩ := hSw; go_simp; done) | (intro wx hSw; obtain ⟨s1_, s2_⟩ := hSw; go_simp; with_reducible rfl)
          simp only [Act.put, List.setIfInBounds_toArray, List.set_cons_zero, List.set_cons_succ]
          refine wpAnyH_take (i := 1) (oi := ?oi20026) (v := ?v20026) ?hi20026 (by kernel_rfl) (by kernel_rfl) (by kernel_rfl) (fun _ _ _ h => h) (Or.inl ⟨?hw20026, ?hy20026⟩) (by assumption) ?rest20026
          case hi20026 => (simp only [List.getElem?_toArray, List.getElem?_cons_zero, List.getElem?_cons_succ]; rfl)
          case hw20026 => rfl
          case hy20026 => first | (intro wx hSw; obtain ⟨s1_, s2_⟩ := hSw; go_simp; done) | (intro wx hSw; obtain ⟨s1_, s2_⟩ := hSw; go_simp; with_reducible rfl)
          simp only [Act.put, List.setIfInBounds_toArray, List.set_cons_zero, List.set_cons_succ]
          refine wpAnyH_take (i := 2) (oi := ?oi20027) (v := ?v20027) ?hi20027 (by kernel_rfl) (by kernel_rfl) (by kernel_rfl) (fun _ _ _ h => h) (Or.inl ⟨?hw20027, ?hy20027⟩) (by assumption) ?rest20027
          case hi20027 => (simp only [List.getElem?_toArray, List.getElem?_cons_zero, List.getElem?_cons_succ]; rfl)
          case hw20027 => rfl
          case hy20027 => first | (intro wx hSw; obtain ⟨s1_, s2_⟩ := hSw; go_simp; done) | (intro wx hSw; obtain ⟨s1_, s2_⟩ := hSw; go_simp; with_reducible rfl)
          simp only [Act.put, List.setIfInBounds_toArray, List.set_cons_zero, List.set_cons_succ]
          refine wpAnyH_take (i := 3) (oi := ?oi20028) (v := ?v20028) ?hi20028 (by kernel_rfl) (by kernel_rfl) (by kernel_rfl) (fun _ _ _ h => h) (Or.inl ⟨?hw20028, ?hy20028⟩) (by assumption) ?rest20028
          case hi20028 => (simp only [List.getElem?_toArray, List.getElem?_cons_zero, List.getElem?_cons_succ]; rfl)
          case hw20028 => rfl
          case hy20028 => first | (intro wx hSw; obtain ⟨s1_, s2_⟩ := hSw; go_simp; done) | (intro wx hSw; obtain ⟨s1_, s2_⟩ := hSw; go_simp; with_reducible rfl)
          simp only [Act.put, List.setIfInBounds_toArray, List.set_cons_zero, List.set_cons_succ]
          refine wpAnyH_take (i := 4) (oi := ?oi20029) (v := ?v20029) ?hi20029 (by kernel_rfl) (by kernel_rfl) (by kernel_rfl) (fun _ _ _ h => h) (Or.inl ⟨?hw20029, ?hy20029⟩) (by assumption) ?rest20029
          case hi20029 => (simp only [List.getElem?_toArray, List.getElem?_cons_zero, List.getElem?_cons_succ]; rfl)
          case hw20029 => rfl
          case hy20029 => first | (intro wx hSw; obtain ⟨s1_, s2_⟩ := hSw; go_simp; done) | (intro wx hSw; obtain ⟨s1_, s2_⟩ := hSw; go_simp; with_reducible rfl)
          simp only [Act.put, List.setIfInBounds_toArray, List.set_cons_zero, List.set_cons_succ]
          refine wpAnyH_take (i := 5) (oi := ?oi20030) (v := ?v20030) ?hi20030 (by kernel_rfl) (by kernel_rfl) (by kernel_rfl) (fun _ _ _ h => h) (Or.inl ⟨?hw20030, ?hy20030⟩) (by assumption) ?rest20030
          case hi20030 => (simp only [List.getElem?_toArray, List.getElem?_cons_zero, List.getElem?_cons_succ]; rfl)
          case hw20030 => rfl
          case hy20030 => first | (intro wx hSw; obtain ⟨s1_, s2_⟩ := hSw; go_simp; done) | (intro wx hSw; obtain ⟨s1_, s2_⟩ := hSw; go_simp; with_reducible rfl)
          simp only [Act.put, List.setIfInBounds_toArray, List.set_cons_zero, List.set_cons_succ]
          refine wpAnyH_take (i := 6) (oi := ?oi20031) (v := ?v20031) ?hi20031 (by kernel_rfl) (by kernel_rfl) (by kernel_rfl) (fun _ _ _ h => h) (Or.inl ⟨?hw20031, ?hy20031⟩) (by assumption) ?rest20031
          case hi20031 => (simp only [List.getElem?_toArray, List.getElem?_cons_zero, List.getElem?_cons_succ]; rfl)
          case hw20031 => rfl
          case hy20031 => first | (intro wx hSw; obtain ⟨s1_, s2_⟩ := hSw; go_simp; done) | (intro wx hSw; obtain ⟨s1_, s2_⟩ := hSw; go_simp; with_reducible rfl)
          simp only [Act.put, List.setIfInBounds_toArray, List.set_cons_zero, List.set_cons_succ]
          refine wpAnyH_take (i := 7) (oi := ?oi20032) (v := ?v20032) ?hi20032 (by kernel_rfl) (by kernel_rfl) (by kernel_rfl) (fun _ _ _ h => h) (Or.inl ⟨?hw20032, ?hy20032⟩) (by assumption) ?rest20032
          case hi20032 => (simp only [List.getElem?_toArray, List.getElem?_cons_zero, List.getElem?_cons_succ]; rfl)
          case hw20032 => rfl
          case hy20032 => first | (intro wx hSw; obtain ⟨s1_, s2_⟩ := hSw; go_simp; done) | (intro wx hSw; obtain ⟨s1_, s2_⟩ := hSw; go_simp; with_reducible rfl)
          simp only [Act.put, List.setIfInBounds_toArray, List.set_cons_zero, List.set_cons_succ]
          refine wpAnyH_take (i := 8) (oi := ?oi20033) (v := ?v20033) ?hi20033 (by kernel_rfl) (by kernel_rfl) (by kernel_rfl) (fun _ _ _ h => h) (Or.inl ⟨?hw20033, ?hy20033⟩) (by assumption) ?rest20033
          case hi20033 => (simp only [List.getElem?_toArray, List.getElem?_cons_zero, List.getElem?_cons_succ]; rfl)
          case hw20033 => rfl
          case hy20033 => first | (intro wx hSw; obtain ⟨s1_, s2_⟩ := hSw; go_simp; done) | (intro wx hSw; obtain ⟨s1_, s2_⟩ := hSw; go_simp; with_reducible rfl)
          simp only [Act.put, List.setIfInBounds_toArray, List.set_cons_zero, List.set_cons_succ]
          refine wpAnyH_take (i := 9) (oi := ?oi20034) (v := undef) ?hi20034 (by kernel_rfl) (by kernel_rfl) (by kernel_rfl) (fun _ _ _ h => h) (Or.inr ⟨?hw20034, rfl⟩) (by assumption) ?rest20034
          case hi20034 => (simp only [List.getElem?_toArray, List.getElem?_cons_zero, List.getElem?_cons_succ]; rfl)
          case hw20034 => rfl
          simp only [Act.put, List.setIfInBounds_toArray, List.set_cons_zero, List.set_cons_succ]
          refine wpAnyH_take (i := 10) (oi := ?oi20035) (v := undef) ?hi20035 (by kernel_rfl) (by kernel_rfl) (by kernel_rfl) (fun _ _ _ h => h) (Or.inr ⟨?hw20035, rfl⟩) (by assumption) ?rest20035
          case hi20035 => (simp only [List.getElem?_toArray, List.getElem?_cons_zero, List.getElem?_cons_succ]; rfl)
          case hw20035 => rfl
          simp only [Act.put, List.setIfInBounds_toArray, List.set_cons_zero, List.set_cons_succ]
          refine wpAnyH_take (i := 11) (oi := ?oi20036) (v := undef) ?hi20036 (by kernel_rfl) (by kernel_rfl) (by kernel_rfl) (fun _ _ _ h => h) (Or.inr ⟨?hw20036, rfl⟩) (by assumption) ?rest20036
          case hi20036 => (simp only [List.getElem?_toArray, List.getElem?_cons_zero, List.getElem?_cons_succ]; rfl)
          case hw20036 => rfl
          simp only [Act.put, List.setIfInBounds_toArray, List.set_cons_zero, List.set_cons_succ]
          refine wpAnyH_take (i := 12) (oi := ?oi20037) (v := undef) ?hi20037 (by kernel_rfl) (by kernel_rfl) (by kernel_rfl) (fun _ _ _ h => h) (Or.inr ⟨?hw20037, rfl⟩) (by assumption) ?rest20037
          case hi20037 => (simp only [List.getElem?_toArray, List.getElem?_cons_zero, List.getElem?_cons_succ]; rfl)
          case hw20037 => rfl
          simp only [Act.put, List.setIfInBounds_toArray, List.set_cons_zero, List.set_cons_succ]
          refine wpAnyH_take (i := 13) (oi := ?oi20038) (v := undef) ?hi20038 (by kernel_rfl) (by kernel_rfl) (by kernel_rfl) (fun _ _ _ h => h) (Or.inr ⟨?hw20038, rfl⟩) (by assumption) ?rest20038
          case hi20038 => (simp only [List.getElem?_toArray, List.getElem?_cons_zero, List.getElem?_cons_succ]; rfl)
          case hw20038 => rfl
          simp only [Act.put, List.setIfInBounds_toArray, List.set_cons_zero, List.set_cons_succ]
          refine wpAnyH_take (i := 14) (oi := ?oi20039) (v := undef) ?hi20039 (by kernel_rfl) (by kernel_rfl) (by kernel_rfl) (fun _ _ _ h => h) (Or.inr ⟨?hw20039, rfl⟩) (by assumption) ?rest20039
          case hi20039 => (simp only [List.getElem?_toArray, List.getElem?_cons_zero, List.getElem?_cons_succ]; rfl)
          case hw20039 => rfl
          simp only [Act.put, List.setIfInBounds_toArray, List.set_cons_zero, List.set_cons_succ]
          refine wpAnyH_take (i := 15) (oi := ?oi20040) (v := undef) ?hi20040 (by kernel_rfl) (by kernel_rfl) (by kernel_rfl) (fun _ _ _ h => h) (Or.inr ⟨?hw20040, rfl⟩) (by assumption) ?rest20040
          case hi20040 => (simp only [List.getElem?_toArray, List.getElem?_cons_zero, List.getElem?_cons_succ]; rfl)
          case hw20040 => rfl
          simp only [Act.put, List.setIfInBounds_toArray, List.set_cons_zero, List.set_cons_succ]
          refine wpAnyH_take (i := 16) (oi := ?oi20041) (v := undef) ?hi20041 (by kernel_rfl) (by kernel_rfl) (by kernel_rfl) (fun _ _ _ h => h) (Or.inr ⟨?hw20041, rfl⟩) (by assumption) ?rest20041
          case hi20041 => (simp only [List.getElem?_toArray, List.getElem?_cons_zero, List.getElem?_cons_succ]; rfl)
          case hw20041 => rfl
          simp only [Act.put, List.setIfInBounds_toArray, List.set_cons_zero, List.set_cons_succ]
          refine wpAnyH_take (i := 17) (oi := ?oi20042) (v := undef) ?hi20042 (by kernel_rfl) (by kernel_rfl) (by kernel_rfl) (fun _ _ _ h => h) (Or.inr ⟨?hw20042, rfl⟩) (by assumption) ?rest20042
          case hi20042 => (simp only [List.getElem?_toArray, List.getElem?_cons_zero, List.getElem?_cons_succ]; rfl)
          case hw20042 => rfl
          simp only [Act.put, List.setIfInBounds_toArray, List.set_cons_zero, List.set_cons_succ]
          refine wpAnyH_take (i := 18) (oi := ?oi20043) (v := undef) ?hi20043 (by kernel_rfl) (by kernel_rfl) (by kernel_rfl) (fun _ _ _ h => h) (Or.inr ⟨?hw20043, rfl⟩) (by assumption) ?rest20043
          case hi20043 => (simp only [List.getElem?_toArray, List.getElem?_cons_zero, List.getElem?_cons_succ]; rfl)
          case hw20043 => rfl
          simp only [Act.put, List.setIfInBounds_toArray, List.set_cons_zero, List.set_cons_succ]
          refine wpAnyH_take (i := 19) (oi := ?oi20044) (v := undef) ?hi20044 (by kernel_rfl) (by kernel_rfl) (by kernel_rfl) (fun _ _ _ h => h) (Or.inr ⟨?hw20044, rfl⟩) (by assumption) ?rest20044
          case hi20044 => (simp only [List.getElem?_toArray, List.getElem?_cons_zero, List.getElem?_cons_succ]; rfl)
          case hw20044 => rfl
          simp only [Act.put, List.setIfInBounds_toArray, List.set_cons_zero, List.set_cons_succ]
          refine wpAnyH_take (i := 20) (oi := ?oi20045) (v := undef) ?hi20045 (by kernel_rfl) (by kernel_rfl) (by kernel_rfl) (fun _ _ _ h => h) (Or.inr ⟨?hw20045, rfl⟩) (by assumption) ?rest20045
          case hi20045 => (simp only [List.getElem?_toArray, List.getElem?_cons_zero, List.getElem?_cons_succ]; rfl)
          case hw20045 => rfl
          simp only [Act.put, List.setIfInBounds_toArray, List.set_cons_zero, List.set_cons_succ]
          refine wpAnyH_take (i := 21) (oi := ?oi20046) (v := undef) ?hi20046 (by kernel_rfl) (by kernel_rfl) (by kernel_rfl) (fun _ _ _ h => h) (Or.inr ⟨?hw20046, rfl⟩) (by assumption) ?rest20046
          case hi20046 => (simp only [List.getElem?_toArray, List.getElem?_cons_zero, List.getElem?_cons_succ]; rfl)
          case hw20046 => rfl
          simp only [Act.put, List.setIfInBounds_toArray, List.set_cons_zero, List.set_cons_succ]
          refine wpAnyH_take (i := 22) (oi := ?oi20047) (v := ?v20047) ?hi20047 (by kernel_rfl) (by kernel_rfl) (by kernel_rfl) (fun _ _ _ h => h) (Or.inl ⟨?hw20047, ?hy20047⟩) (by assumption) ?rest20047
          case hi20047 => (simp only [List.getElem?_toArray, List.getElem?_cons_zero, List.getElem?_cons_succ]; rfl)
          case hw20047 => rfl
          case hy20047 => first | (intro wx hSw; obtain ⟨s1_, s2_⟩ := hSw; go_simp; done) | (intro wx hSw; obtain ⟨s1_, s2_⟩ := hSw; go_simp; with_reducible rfl)
          simp only [Act.put, List.setIfInBounds_toArray, List.set_cons_zero, List.set_cons_succ]
          refine wpAnyH_ready (rs := [23]) (by kernel_rfl) (by simp) ?_
          refine AllReadyH.cons rfl (fun K20048 hK20048 => ?_) AllReadyH.nil
          go_simp
          refine hK20048.out _ _ ?hs20048 (fun hHeld20048 => ?_)
          case hs20048 => exact hHeld
          clear hHeld
          have hHeld := hHeld20048; clear hHeld20048 hK20048 K20048
          refine wpAnyH_done (by kernel_rfl) ?_ _
          refine NoPanic.normal ?_
          refine hrest _ _ ?_
          go_wp2
          go_roundw
          case rel => exact ⟨k + 1, true, by omega, by go_num, rfl, ⟨fun _ => (Cut.next hlt).2 (.inr (fun x => (by obtain ⟨x, _⟩ := x; omega))), fun _ => rfl⟩, hide ((unhide HC2).call (below_drew _))⟩
          case measure => simp [intOf] <;> omega
        · have hk3 : kk < L.length := by omega
          have y0 : ¬ (L.length : Int) ≤ (kk : Int) := by omega
          have y1 : decide ((L.length : Int) ≤ (kk : Int)) = false := decide_eq_false y0
          have y5 : decide (L.length ≤ kk) = false := decide_eq_false hk2
          have y2 : (kk : Int) < (L.length : Int) := by omega
          obtain ⟨gN, oN, xN, f1, d0, _⟩ := sees_en (unhide HC2).sN kk hk3
          injection f1 with f1 _ f3
          subst f1 f3
          obtain ⟨nn, hnn⟩ : ∃ nn, (L[kk]'hk3).term = nn := ⟨_, rfl⟩
          rw [hnn] at d0
          have HNN := hide hnn
          clear hnn htt hkk
          by_cases hq : nn = tt
          · have z0 : (nn : Int) = (tt : Int) := by omega
            have z1 : ((nn : Int) == (tt : Int)) = true := by rw [z0]; exact beq_self_eq_true _
            have z2 : ((nn : Int) != (tt : Int)) = false := by rw [z0]; simp
            have HCT : Hid (¬ Cut L at' ents (k + 1)) := hide (fun x => ((Cut.next hlt).1 x).elim (fun y => by have := (unhide hcb).2 y; cases this) (fun y => y (by rw [unhide HTT, unhide HKK]; exact ⟨hk3, (unhide HNN).trans hq⟩)))
            clear hq
            go_wp2
            go_region_held3 (fun w' => (w'.cell? ⟨nb, 3, none⟩ = some (.slice (some ⟨gN, oN, none⟩) L.length cN) ∧ w'.cell? ⟨mb, 7, none⟩ = some (.slice (some ⟨ge, oe, none⟩) ents.length ce)) ∧ w'.cell? ⟨gN, oN + kk * 2, none⟩ = some (.int .i64 (nn : Int)) ∧ w'.cell? ⟨ge, oe + k * 2, none⟩ = some (.int .i64 (tt : Int))) (go_keep) (fail)
            go_wp2
            go_roundw
            case rel => exact ⟨k + 1, false, by omega, by go_num, rfl, ⟨fun x => (by cases x), fun x => absurd x (unhide HCT)⟩, hide ((unhide HC2).call (below_drew _))⟩
            case measure => simp [intOf] <;> omega
          · have z0 : ¬ (nn : Int) = (tt : Int) := by omega
            have z1 : ((nn : Int) == (tt : Int)) = false := by rw [beq_eq_false_iff_ne]; exact z0
            have z2 : ((nn : Int) != (tt : Int)) = true := by simp [bne, z1]
            have HCT : Hid (Cut L at' ents (k + 1)) := hide ((Cut.next hlt).2 (.inr (by rw [unhide HTT, unhide HKK]; exact fun ⟨x, y⟩ => hq ((unhide HNN).symm.trans y))))
            clear hq
            go_wp2
            go_region_held3 (fun w' => (w'.cell? ⟨nb, 3, none⟩ = some (.slice (some ⟨gN, oN, none⟩) L.length cN) ∧ w'.cell? ⟨mb, 7, none⟩ = some (.slice (some ⟨ge, oe, none⟩) ents.length ce)) ∧ w'.cell? ⟨gN, oN + kk * 2, none⟩ = some (.int .i64 (nn : Int)) ∧ w'.cell? ⟨ge, oe + k * 2, none⟩ = some (.int .i64 (tt : Int))) (go_keep) (fail)
            go_wp2
            go_roundw
            case rel => exact ⟨k + 1, true, by omega, by go_num, rfl, ⟨fun _ => unhide HCT, fun _ => rfl⟩, hide ((unhide HC2).call (below_drew _))⟩
            case measure => simp [intOf] <;> omega
    · obtain rfl : k = ents.length := by omega
      have C := unhide HC
      have n3 := C.n3
      have m7 := C.m7
      have o3 := C.o3
      have nl := C.nl
      have ml := C.ml
      have ol := C.ol
      have hl8 := C.l8
      have he8 := C.e8
      have hr16 := C.r16
      have hat8 := C.hat
      have hle := C.le
      obtain ⟨hl1, hl2⟩ := C.len
      have hcN : L.length ≤ cN := by obtain ⟨_, _, e, h1, _⟩ := C.sN; injection e with _ _ e; omega
      have hcO : R.length ≤ cO := by obtain ⟨_, _, e, h1, _⟩ := C.sO; injection e with _ _ e; omega
      have HR := hide (fun Y (hb : Below wr.heap.size wr Y) => rentries_same (.slice pO at' cO) (.slice pN at' cN) (L.take at') Y (by
        have := sees_front (C.sO.below hb) (show at' ≤ R.length by omega)
        rw [C.fro] at this
        rw [List.length_take, Nat.min_eq_left C.hat]
        exact this) (by
        have := sees_front (C.sN.below hb) C.hat
        rw [List.length_take, Nat.min_eq_left C.hat]
        exact this) (by simp; omega))
      have i0 : (0 : Int) ≤ (at' : Int) := by omega
      have i1 : (at' : Int) ≤ (cN : Int) := by omega
      have i2 : (at' : Int) ≤ (cO : Int) := by omega
      have i3 : at' ≤ cN := by omega
      have i4 : at' ≤ cO := by omega
      have hwr : IntKind.i64.wrap ((at' : Int) + (ents.length : Int)) = ((at' + ents.length : Nat) : Int) := (IntWalk.i64_in _ (by omega)).trans (by omega)
      clear C
      cases cb with
      | true =>
        have hlen := hl1 (by have hq := unhide hcb; simpa using hq)
        have y0 : (R.length : Int) = ((at' + ents.length : Nat) : Int) := by omega
        have y1 : ((R.length : Int) == ((at' + ents.length : Nat) : Int)) = true := by rw [y0]; exact beq_self_eq_true _
        clear hlen hl1 hl2
        go_wp2
        rename_i hrest
        refine wp_region_noPanic ?_
        refine wp_region_held_drew (S := (fun w' => w'.cell? ⟨ob, 3, none⟩ = some (.slice pO R.length cO) ∧ w'.cell? ⟨nb, 3, none⟩ = some (.slice pN L.length cN))) (by kernel_rfl) (⟨o3, n3⟩) (fun hHeld => ?_)
        refine wpAnyH_take (i := 0) (oi := ?oi20049) (v := ?v20049) ?hi20049 (by kernel_rfl) (by kernel_rfl) (by kernel_rfl) (fun _ _ _ h => h) (Or.inl ⟨?hw20049, ?hy20049⟩) (by assumption) ?rest20049
        case hi20049 => (simp only [List.getElem?_toArray, List.getElem?_cons_zero]; rfl)
        case hw20049 => rfl
        case hy20049 => first | (intro wx hSw; obtain ⟨s1_, s2_⟩ := hSw; go_simp; done) | (intro wx hSw; obtain ⟨s1_, s2_⟩ := hSw; go_simp; with_reducible rfl)
        simp only [Act.put, List.setIfInBounds_toArray, List.set_cons_zero, List.set_cons_succ]
        refine wpAnyH_take (i := 1) (oi := ?oi20050) (v := ?v20050) ?hi20050 (by kernel_rfl) (by kernel_rfl) (by kernel_rfl) (fun _ _ _ h => h) (Or.inl ⟨?hw20050, ?hy20050⟩) (by assumption) ?rest20050
        case hi20050 => (simp only [List.getElem?_toArray, List.getElem?_cons_zero, List.getElem?_cons_succ]; rfl)
        case hw20050 => rfl
        case hy20050 => first | (intro wx hSw; obtain ⟨s1_, s2_⟩ := hSw; go_simp; done) | (intro wx hSw; obtain ⟨s1_, s2_⟩ := hSw; go_simp; with_reducible rfl)
        simp only [Act.put, List.setIfInBounds_toArray, List.set_cons_zero, List.set_cons_succ]
        refine wpAnyH_take (i := 2) (oi := ?oi20051) (v := ?v20051) ?hi20051 (by kernel_rfl) (by kernel_rfl) (by kernel_rfl) (fun _ _ _ h => h) (Or.inl ⟨?hw20051, ?hy20051⟩) (by assumption) ?rest20051
        case hi20051 => (simp only [List.getElem?_toArray, List.getElem?_cons_zero, List.getElem?_cons_succ]; rfl)
        case hw20051 => rfl
        case hy20051 => first | (intro wx hSw; obtain ⟨s1_, s2_⟩ := hSw; go_simp; done) | (intro wx hSw; obtain ⟨s1_, s2_⟩ := hSw; go_simp; with_reducible rfl)
        simp only [Act.put, List.setIfInBounds_toArray, List.set_cons_zero, List.set_cons_succ]
        refine wpAnyH_take (i := 3) (oi := ?oi20052) (v := ?v20052) ?hi20052 (by kernel_rfl) (by kernel_rfl) (by kernel_rfl) (fun _ _ _ h => h) (Or.inl ⟨?hw20052, ?hy20052⟩) (by assumption) ?rest20052
        case hi20052 => (simp only [List.getElem?_toArray, List.getElem?_cons_zero, List.getElem?_cons_succ]; rfl)
        case hw20052 => rfl
        case hy20052 => first | (intro wx hSw; obtain ⟨s1_, s2_⟩ := hSw; go_simp; done) | (intro wx hSw; obtain ⟨s1_, s2_⟩ := hSw; go_simp; with_reducible rfl)
        simp only [Act.put, List.setIfInBounds_toArray, List.set_cons_zero, List.set_cons_succ]
        refine wpAnyH_take (i := 4) (oi := ?oi20053) (v := ?v20053) ?hi20053 (by kernel_rfl) (by kernel_rfl) (by kernel_rfl) (fun _ _ _ h => h) (Or.inl ⟨?hw20053, ?hy20053⟩) (by assumption) ?rest20053
        case hi20053 => (simp only [List.getElem?_toArray, List.getElem?_cons_zero, List.getElem?_cons_succ]; rfl)
        case hw20053 => rfl
        case hy20053 => first | (intro wx hSw; obtain ⟨s1_, s2_⟩ := hSw; go_simp; done) | (intro wx hSw; obtain ⟨s1_, s2_⟩ := hSw; go_simp; with_reducible rfl)
        simp only [Act.put, List.setIfInBounds_toArray, List.set_cons_zero, List.set_cons_succ]
        refine wpAnyH_take (i := 5) (oi := ?oi20054) (v := ?v20054) ?hi20054 (by kernel_rfl) (by kernel_rfl) (by kernel_rfl) (fun _ _ _ h => h) (Or.inl ⟨?hw20054, ?hy20054⟩) (by assumption) ?rest20054
        case hi20054 => (simp only [List.getElem?_toArray, List.getElem?_cons_zero, List.getElem?_cons_succ]; rfl)
        case hw20054 => rfl
        case hy20054 => first | (intro wx hSw; obtain ⟨s1_, s2_⟩ := hSw; go_simp; done) | (intro wx hSw; obtain ⟨s1_, s2_⟩ := hSw; go_simp; with_reducible rfl)
        simp only [Act.put, List.setIfInBounds_toArray, List.set_cons_zero, List.set_cons_succ]
        refine wpAnyH_take (i := 6) (oi := ?oi20055) (v := ?v20055) ?hi20055 (by kernel_rfl) (by kernel_rfl) (by kernel_rfl) (fun _ _ _ h => h) (Or.inl ⟨?hw20055, ?hy20055⟩) (by assumption) ?rest20055
        case hi20055 => (simp only [List.getElem?_toArray, List.getElem?_cons_zero, List.getElem?_cons_succ]; rfl)
        case hw20055 => rfl
        case hy20055 => first | (intro wx hSw; obtain ⟨s1_, s2_⟩ := hSw; go_simp; done) | (intro wx hSw; obtain ⟨s1_, s2_⟩ := hSw; go_simp; with_reducible rfl)
        simp only [Act.put, List.setIfInBounds_toArray, List.set_cons_zero, List.set_cons_succ]
        refine wpAnyH_take (i := 7) (oi := ?oi20056) (v := ?v20056) ?hi20056 (by kernel_rfl) (by kernel_rfl) (by kernel_rfl) (fun _ _ _ h => h) (Or.inl ⟨?hw20056, ?hy20056⟩) (by assumption) ?rest20056
        case hi20056 => (simp only [List.getElem?_toArray, List.getElem?_cons_zero, List.getElem?_cons_succ]; rfl)
        case hw20056 => rfl
        case hy20056 => first | (intro wx hSw; obtain ⟨s1_, s2_⟩ := hSw; go_simp; done) | (intro wx hSw; obtain ⟨s1_, s2_⟩ := hSw; go_simp; with_reducible rfl)
        simp only [Act.put, List.setIfInBounds_toArray, List.set_cons_zero, List.set_cons_succ]
        refine wpAnyH_take (i := 8) (oi := ?oi20057) (v := ?v20057) ?hi20057 (by kernel_rfl) (by kernel_rfl) (by kernel_rfl) (fun _ _ _ h => h) (Or.inl ⟨?hw20057, ?hy20057⟩) (by assumption) ?rest20057
        case hi20057 => (simp only [List.getElem?_toArray, List.getElem?_cons_zero, List.getElem?_cons_succ]; rfl)
        case hw20057 => rfl
        case hy20057 => first | (intro wx hSw; obtain ⟨s1_, s2_⟩ := hSw; go_simp; done) | (intro wx hSw; obtain ⟨s1_, s2_⟩ := hSw; go_simp; with_reducible rfl)
        simp only [Act.put, List.setIfInBounds_toArray, List.set_cons_zero, List.set_cons_succ]
        refine wpAnyH_take (i := 9) (oi := ?oi20058) (v := ?v20058) ?hi20058 (by kernel_rfl) (by kernel_rfl) (by kernel_rfl) (fun _ _ _ h => h) (Or.inl ⟨?hw20058, ?hy20058⟩) (by assumption) ?rest20058
        case hi20058 => (simp only [List.getElem?_toArray, List.getElem?_cons_zero, List.getElem?_cons_succ]; rfl)
        case hw20058 => rfl
        case hy20058 => first | (intro wx hSw; obtain ⟨s1_, s2_⟩ := hSw; go_simp; done) | (intro wx hSw; obtain ⟨s1_, s2_⟩ := hSw; go_simp; with_reducible rfl)
        simp only [Act.put, List.setIfInBounds_toArray, List.set_cons_zero, List.set_cons_succ]
        refine wpAnyH_take (i := 10) (oi := ?oi20059) (v := ?v20059) ?hi20059 (by kernel_rfl) (by kernel_rfl) (by kernel_rfl) (fun _ _ _ h => h) (Or.inl ⟨?hw20059, ?hy20059⟩) (by assumption) ?rest20059
        case hi20059 => (simp only [List.getElem?_toArray, List.getElem?_cons_zero, List.getElem?_cons_succ]; rfl)
        case hw20059 => rfl
        case hy20059 => first | (intro wx hSw; obtain ⟨s1_, s2_⟩ := hSw; go_simp; done) | (intro wx hSw; obtain ⟨s1_, s2_⟩ := hSw; go_simp; with_reducible rfl)
        simp only [Act.put, List.setIfInBounds_toArray, List.set_cons_zero, List.set_cons_succ]
        refine wpAnyH_take (i := 11) (oi := ?oi20060) (v := ?v20060) ?hi20060 (by kernel_rfl) (by kernel_rfl) (by kernel_rfl) (fun _ _ _ h => h) (Or.inl ⟨?hw20060, ?hy20060⟩) (by assumption) ?rest20060
        case hi20060 => (simp only [List.getElem?_toArray, List.getElem?_cons_zero, List.getElem?_cons_succ]; rfl)
        case hw20060 => rfl
        case hy20060 => first | (intro wx hSw; obtain ⟨s1_, s2_⟩ := hSw; go_simp; done) | (intro wx hSw; obtain ⟨s1_, s2_⟩ := hSw; go_simp; with_reducible rfl)
        simp only [Act.put, List.setIfInBounds_toArray, List.set_cons_zero, List.set_cons_succ]
        refine wpAnyH_take (i := 12) (oi := ?oi20061) (v := ?v20061) ?hi20061 (by kernel_rfl) (by kernel_rfl) (by kernel_rfl) (fun _ _ _ h => h) (Or.inl ⟨?hw20061, ?hy20061⟩) (by assumption) ?rest20061
        case hi20061 => (simp only [List.getElem?_toArray, List.getElem?_cons_zero, List.getElem?_cons_succ]; rfl)
        case hw20061 => rfl
        case hy20061 => first | (intro wx hSw; obtain ⟨s1_, s2_⟩ := hSw; go_simp; done) | (intro wx hSw; obtain ⟨s1_, s2_⟩ := hSw; go_simp; with_reducible rfl)
        simp only [Act.put, List.setIfInBounds_toArray, List.set_cons_zero, List.set_cons_succ]
        refine wpAnyH_take (i := 13) (oi := ?oi20062) (v := ?v20062) ?hi20062 (by kernel_rfl) (by kernel_rfl) (by kernel_rfl) (fun _ _ _ h => h) (Or.inl ⟨?hw20062, ?hy20062⟩) (by assumption) ?rest20062
        case hi20062 => (simp only [List.getElem?_toArray, List.getElem?_cons_zero, List.getElem?_cons_succ]; rfl)
        case hw20062 => rfl
        case hy20062 => first | (intro wx hSw; obtain ⟨s1_, s2_⟩ := hSw; go_simp; done) | (intro wx hSw; obtain ⟨s1_, s2_⟩ := hSw; go_simp; with_reducible rfl)
        simp only [Act.put, List.setIfInBounds_toArray, List.set_cons_zero, List.set_cons_succ]
        refine wpAnyH_ready (rs := [14]) (by kernel_rfl) (by simp) ?_
        refine AllReadyH.cons rfl (fun K20063 hK20063 => ?_) AllReadyH.nil
        go_simp
        go_wp2_with (go_at_call 15; go_loud (refine (unhide HR _ (below_drew wr)).mono ?_; rintro e0 W9 ⟨rfl, hb9⟩))
        refine hK20063.out _ _ ?hs20063 (fun hHeld20063 => ?_)
        case hs20063 => exact ⟨(hb9.cell (p := ⟨ob, 3, none⟩) ol).trans o3, (hb9.cell (p := ⟨nb, 3, none⟩) nl).trans n3⟩
        clear hHeld
        have hHeld := hHeld20063; clear hHeld20063 hK20063 K20063
        refine wpAnyH_take (i := 15) (oi := ?oi20064) (v := ?v20064) ?hi20064 (by kernel_rfl) (by kernel_rfl) (by kernel_rfl) (fun _ _ _ h => h) (Or.inl ⟨?hw20064, ?hy20064⟩) (by assumption) ?rest20064
        case hi20064 => (simp only [List.getElem?_toArray, List.getElem?_cons_zero, List.getElem?_cons_succ]; rfl)
        case hw20064 => rfl
        case hy20064 => first | (intro wx hSw; obtain ⟨s1_, s2_⟩ := hSw; go_simp; done) | (intro wx hSw; obtain ⟨s1_, s2_⟩ := hSw; go_simp; with_reducible rfl)
        simp only [Act.put, List.setIfInBounds_toArray, List.set_cons_zero, List.set_cons_succ]
        refine wpAnyH_ready (rs := [16]) (by kernel_rfl) (by simp) ?_
        refine AllReadyH.cons rfl (fun K20065 hK20065 => ?_) AllReadyH.nil
        go_simp
        refine hK20065.out _ _ ?hs20065 (fun hHeld20065 => ?_)
        case hs20065 => exact ⟨(hb9.cell (p := ⟨ob, 3, none⟩) ol).trans o3, (hb9.cell (p := ⟨nb, 3, none⟩) nl).trans n3⟩
        clear hHeld
        have hHeld := hHeld20065; clear hHeld20065 hK20065 K20065
        refine wpAnyH_done (by kernel_rfl) ?_ _
        refine NoPanic.normal ?_
        refine hrest _ _ ?_
        go_wp2
        go_ret
        exact ⟨rfl, Below.onto (Below.onto (unhide HC).bel (below_drew wr)) hb9⟩
      | false =>
        have hlen := hl2 (fun x => by have := (unhide hcb).2 x; cases this)
        have y0 : (R.length : Int) = (L.length : Int) := by omega
        have y1 : ((R.length : Int) == (L.length : Int)) = true := by rw [y0]; exact beq_self_eq_true _
        clear hlen hl1 hl2
        go_wp2
        rename_i hrest
        refine wp_region_noPanic ?_
        refine wp_region_held_drew (S := (fun w' => w'.cell? ⟨ob, 3, none⟩ = some (.slice pO R.length cO) ∧ w'.cell? ⟨nb, 3, none⟩ = some (.slice pN L.length cN))) (by kernel_rfl) (⟨o3, n3⟩) (fun hHeld => ?_)
        refine wpAnyH_take (i := 0) (oi := ?oi20066) (v := ?v20066) ?hi20066 (by kernel_rfl) (by kernel_rfl) (by kernel_rfl) (fun _ _ _ h => h) (Or.inl ⟨?hw20066, ?hy20066⟩) (by assumption) ?rest20066
        case hi20066 => (simp only [List.getElem?_toArray, List.getElem?_cons_zero]; rfl)
        case hw20066 => rfl
        case hy20066 => first | (intro wx hSw; obtain ⟨s1_, s2_⟩ := hSw; go_simp; done) | (intro wx hSw; obtain ⟨s1_, s2_⟩ := hSw; go_simp; with_reducible rfl)
        simp only [Act.put, List.setIfInBounds_toArray, List.set_cons_zero, List.set_cons_succ]
        refine wpAnyH_take (i := 1) (oi := ?oi20067) (v := ?v20067) ?hi20067 (by kernel_rfl) (by kernel_rfl) (by kernel_rfl) (fun _ _ _ h => h) (Or.inl ⟨?hw20067, ?hy20067⟩) (by assumption) ?rest20067
        case hi20067 => (simp only [List.getElem?_toArray, List.getElem?_cons_zero, List.getElem?_cons_succ]; rfl)
        case hw20067 => rfl
        case hy20067 => first | (intro wx hSw; obtain ⟨s1_, s2_⟩ := hSw; go_simp; done) | (intro wx hSw; obtain ⟨s1_, s2_⟩ := hSw; go_simp; with_reducible rfl)
        simp only [Act.put, List.setIfInBounds_toArray, List.set_cons_zero, List.set_cons_succ]
        refine wpAnyH_take (i := 2) (oi := ?oi20068) (v := ?v20068) ?hi20068 (by kernel_rfl) (by kernel_rfl) (by kernel_rfl) (fun _ _ _ h => h) (Or.inl ⟨?hw20068, ?hy20068⟩) (by assumption) ?rest20068
        case hi20068 => (simp only [List.getElem?_toArray, List.getElem?_cons_zero, List.getElem?_cons_succ]; rfl)
        case hw20068 => rfl
        case hy20068 => first | (intro wx hSw; obtain ⟨s1_, s2_⟩ := hSw; go_simp; done) | (intro wx hSw; obtain ⟨s1_, s2_⟩ := hSw; go_simp; with_reducible rfl)
        simp only [Act.put, List.setIfInBounds_toArray, List.set_cons_zero, List.set_cons_succ]
        refine wpAnyH_take (i := 3) (oi := ?oi20069) (v := ?v20069) ?hi20069 (by kernel_rfl) (by kernel_rfl) (by kernel_rfl) (fun _ _ _ h => h) (Or.inl ⟨?hw20069, ?hy20069⟩) (by assumption) ?rest20069
        case hi20069 => (simp only [List.getElem?_toArray, List.getElem?_cons_zero, List.getElem?_cons_succ]; rfl)
        case hw20069 => rfl
        case hy20069 => first | (intro wx hSw; obtain ⟨s1_, s2_⟩ := hSw; go_simp; done) | (intro wx hSw; obtain ⟨s1_, s2_⟩ := hSw; go_simp; with_reducible rfl)
        simp only [Act.put, List.setIfInBounds_toArray, List.set_cons_zero, List.set_cons_succ]
        refine wpAnyH_take (i := 4) (oi := ?oi20070) (v := ?v20070) ?hi20070 (by kernel_rfl) (by kernel_rfl) (by kernel_rfl) (fun _ _ _ h => h) (Or.inl ⟨?hw20070, ?hy20070⟩) (by assumption) ?rest20070
        case hi20070 => (simp only [List.getElem?_toArray, List.getElem?_cons_zero, List.getElem?_cons_succ]; rfl)
        case hw20070 => rfl
        case hy20070 => first | (intro wx hSw; obtain ⟨s1_, s2_⟩ := hSw; go_simp; done) | (intro wx hSw; obtain ⟨s1_, s2_⟩ := hSw; go_simp; with_reducible rfl)
        simp only [Act.put, List.setIfInBounds_toArray, List.set_cons_zero, List.set_cons_succ]
        refine wpAnyH_take (i := 5) (oi := ?oi20071) (v := ?v20071) ?hi20071 (by kernel_rfl) (by kernel_rfl) (by kernel_rfl) (fun _ _ _ h => h) (Or.inl ⟨?hw20071, ?hy20071⟩) (by assumption) ?rest20071
        case hi20071 => (simp only [List.getElem?_toArray, List.getElem?_cons_zero, List.getElem?_cons_succ]; rfl)
        case hw20071 => rfl
        case hy20071 => first | (intro wx hSw; obtain ⟨s1_, s2_⟩ := hSw; go_simp; done) | (intro wx hSw; obtain ⟨s1_, s2_⟩ := hSw; go_simp; with_reducible rfl)
        simp only [Act.put, List.setIfInBounds_toArray, List.set_cons_zero, List.set_cons_succ]
        refine wpAnyH_take (i := 6) (oi := ?oi20072) (v := ?v20072) ?hi20072 (by kernel_rfl) (by kernel_rfl) (by kernel_rfl) (fun _ _ _ h => h) (Or.inl ⟨?hw20072, ?hy20072⟩) (by assumption) ?rest20072
        case hi20072 => (simp only [List.getElem?_toArray, List.getElem?_cons_zero, List.getElem?_cons_succ]; rfl)
        case hw20072 => rfl
        case hy20072 => first | (intro wx hSw; obtain ⟨s1_, s2_⟩ := hSw; go_simp; done) | (intro wx hSw; obtain ⟨s1_, s2_⟩ := hSw; go_simp; with_reducible rfl)
        simp only [Act.put, List.setIfInBounds_toArray, List.set_cons_zero, List.set_cons_succ]
        refine wpAnyH_take (i := 7) (oi := ?oi20073) (v := ?v20073) ?hi20073 (by kernel_rfl) (by kernel_rfl) (by kernel_rfl) (fun _ _ _ h => h) (Or.inl ⟨?hw20073, ?hy20073⟩) (by assumption) ?rest20073
        case hi20073 => (simp only [List.getElem?_toArray, List.getElem?_cons_zero, List.getElem?_cons_succ]; rfl)
        case hw20073 => rfl
        case hy20073 => first | (intro wx hSw; obtain ⟨s1_, s2_⟩ := hSw; go_simp; done) | (intro wx hSw; obtain ⟨s1_, s2_⟩ := hSw; go_simp; with_reducible rfl)
        simp only [Act.put, List.setIfInBounds_toArray, List.set_cons_zero, List.set_cons_succ]
        refine wpAnyH_take (i := 8) (oi := ?oi20074) (v := ?v20074) ?hi20074 (by kernel_rfl) (by kernel_rfl) (by kernel_rfl) (fun _ _ _ h => h) (Or.inl ⟨?hw20074, ?hy20074⟩) (by assumption) ?rest20074
        case hi20074 => (simp only [List.getElem?_toArray, List.getElem?_cons_zero, List.getElem?_cons_succ]; rfl)
        case hw20074 => rfl
        case hy20074 => first | (intro wx hSw; obtain ⟨s1_, s2_⟩ := hSw; go_simp; done) | (intro wx hSw; obtain ⟨s1_, s2_⟩ := hSw; go_simp; with_reducible rfl)
        simp only [Act.put, List.setIfInBounds_toArray, List.set_cons_zero, List.set_cons_succ]
        refine wpAnyH_take (i := 9) (oi := ?oi20075) (v := ?v20075) ?hi20075 (by kernel_rfl) (by kernel_rfl) (by kernel_rfl) (fun _ _ _ h => h) (Or.inl ⟨?hw20075, ?hy20075⟩) (by assumption) ?rest20075
        case hi20075 => (simp only [List.getElem?_toArray, List.getElem?_cons_zero, List.getElem?_cons_succ]; rfl)
        case hw20075 => rfl
        case hy20075 => first | (intro wx hSw; obtain ⟨s1_, s2_⟩ := hSw; go_simp; done) | (intro wx hSw; obtain ⟨s1_, s2_⟩ := hSw; go_simp; with_reducible rfl)
        simp only [Act.put, List.setIfInBounds_toArray, List.set_cons_zero, List.set_cons_succ]
        refine wpAnyH_take (i := 10) (oi := ?oi20076) (v := ?v20076) ?hi20076 (by kernel_rfl) (by kernel_rfl) (by kernel_rfl) (fun _ _ _ h => h) (Or.inl ⟨?hw20076, ?hy20076⟩) (by assumption) ?rest20076
        case hi20076 => (simp only [List.getElem?_toArray, List.getElem?_cons_zero, List.getElem?_cons_succ]; rfl)
        case hw20076 => rfl
        case hy20076 => first | (intro wx hSw; obtain ⟨s1_, s2_⟩ := hSw; go_simp; done) | (intro wx hSw; obtain ⟨s1_, s2_⟩ := hSw; go_simp; with_reducible rfl)
        simp only [Act.put, List.setIfInBounds_toArray, List.set_cons_zero, List.set_cons_succ]
        refine wpAnyH_take (i := 11) (oi := ?oi20077) (v := ?v20077) ?hi20077 (by kernel_rfl) (by kernel_rfl) (by kernel_rfl) (fun _ _ _ h => h) (Or.inl ⟨?hw20077, ?hy20077⟩) (by assumption) ?rest20077
        case hi20077 => (simp only [List.getElem?_toArray, List.getElem?_cons_zero, List.getElem?_cons_succ]; rfl)
        case hw20077 => rfl
        case hy20077 => first | (intro wx hSw; obtain ⟨s1_, s2_⟩ := hSw; go_simp; done) | (intro wx hSw; obtain ⟨s1_, s2_⟩ := hSw; go_simp; with_reducible rfl)
        simp only [Act.put, List.setIfInBounds_toArray, List.set_cons_zero, List.set_cons_succ]
        refine wpAnyH_take (i := 12) (oi := ?oi20078) (v := ?v20078) ?hi20078 (by kernel_rfl) (by kernel_rfl) (by kernel_rfl) (fun _ _ _ h => h) (Or.inl ⟨?hw20078, ?hy20078⟩) (by assumption) ?rest20078
        case hi20078 => (simp only [List.getElem?_toArray, List.getElem?_cons_zero, List.getElem?_cons_succ]; rfl)
        case hw20078 => rfl
        case hy20078 => first | (intro wx hSw; obtain ⟨s1_, s2_⟩ := hSw; go_simp; done) | (intro wx hSw; obtain ⟨s1_, s2_⟩ := hSw; go_simp; with_reducible rfl)
        simp only [Act.put, List.setIfInBounds_toArray, List.set_cons_zero, List.set_cons_succ]
        refine wpAnyH_take (i := 13) (oi := ?oi20079) (v := ?v20079) ?hi20079 (by kernel_rfl) (by kernel_rfl) (by kernel_rfl) (fun _ _ _ h => h) (Or.inl ⟨?hw20079, ?hy20079⟩) (by assumption) ?rest20079
        case hi20079 => (simp only [List.getElem?_toArray, List.getElem?_cons_zero, List.getElem?_cons_succ]; rfl)
        case hw20079 => rfl
        case hy20079 => first | (intro wx hSw; obtain ⟨s1_, s2_⟩ := hSw; go_simp; done) | (intro wx hSw; obtain ⟨s1_, s2_⟩ := hSw; go_simp; with_reducible rfl)
        simp only [Act.put, List.setIfInBounds_toArray, List.set_cons_zero, List.set_cons_succ]
        refine wpAnyH_ready (rs := [14]) (by kernel_rfl) (by simp) ?_
        refine AllReadyH.cons rfl (fun K20080 hK20080 => ?_) AllReadyH.nil
        go_simp
        go_wp2_with (go_at_call 15; go_loud (refine (unhide HR _ (below_drew wr)).mono ?_; rintro e0 W9 ⟨rfl, hb9⟩))
        refine hK20080.out _ _ ?hs20080 (fun hHeld20080 => ?_)
        case hs20080 => exact ⟨(hb9.cell (p := ⟨ob, 3, none⟩) ol).trans o3, (hb9.cell (p := ⟨nb, 3, none⟩) nl).trans n3⟩
        clear hHeld
        have hHeld := hHeld20080; clear hHeld20080 hK20080 K20080
        refine wpAnyH_take (i := 15) (oi := ?oi20081) (v := ?v20081) ?hi20081 (by kernel_rfl) (by kernel_rfl) (by kernel_rfl) (fun _ _ _ h => h) (Or.inl ⟨?hw20081, ?hy20081⟩) (by assumption) ?rest20081
        case hi20081 => (simp only [List.getElem?_toArray, List.getElem?_cons_zero, List.getElem?_cons_succ]; rfl)
        case hw20081 => rfl
        case hy20081 => first | (intro wx hSw; obtain ⟨s1_, s2_⟩ := hSw; go_simp; done) | (intro wx hSw; obtain ⟨s1_, s2_⟩ := hSw; go_simp; with_reducible rfl)
        simp only [Act.put, List.setIfInBounds_toArray, List.set_cons_zero, List.set_cons_succ]
        refine wpAnyH_ready (rs := [16]) (by kernel_rfl) (by simp) ?_
        refine AllReadyH.cons rfl (fun K20082 hK20082 => ?_) AllReadyH.nil
        go_simp
        refine hK20082.out _ _ ?hs20082 (fun hHeld20082 => ?_)
        case hs20082 => exact ⟨(hb9.cell (p := ⟨ob, 3, none⟩) ol).trans o3, (hb9.cell (p := ⟨nb, 3, none⟩) nl).trans n3⟩
        clear hHeld
        have hHeld := hHeld20082; clear hHeld20082 hK20082 K20082
        refine wpAnyH_done (by kernel_rfl) ?_ _
        refine NoPanic.normal ?_
        refine hrest _ _ ?_
        go_wp2
        go_ret
        exact ⟨rfl, Below.onto (Below.onto (unhide HC).bel (below_drew wr)) hb9⟩
theorem cuts_loop {r0 c1 r3 r4 l5 r10 r11 r12 c13 r15 l16 r21 c22 R24 : Code} (hc : Try.f11.body = some (.seq r0 (.seq c1 (.seq r3 (.seq r4 (.seq l5 (.seq r10 (.seq r11 (.seq r12 (.seq c13 (.seq r15 (.seq l16 (.seq r21 (.seq c22 R24)))))))))))))) (nb mb ob : Nat) (L R : List En) (t at' : Nat) (ents : List En) (pN pe pO : Option Addr) (cN ce cO : Nat) (w X : World) (a : Act) (ha : a = ⟨#[a.tmps.getD 0 undef, a.tmps.getD 1 undef, a.tmps.getD 2 undef, a.tmps.getD 3 undef, a.tmps.getD 4 undef, a.tmps.getD 5 undef, a.tmps.getD 6 undef, a.tmps.getD 7 undef, .bool false, ptr nb 0, nI t, a.tmps.getD 11 undef, nI at', ptr mb 0, a.tmps.getD 14 undef, a.tmps.getD 15 undef, ptr ob 0, a.tmps.getD 17 undef, a.tmps.getD 18 undef, a.tmps.getD 19 undef, a.tmps.getD 20 undef, a.tmps.getD 21 undef, a.tmps.getD 22 undef, a.tmps.getD 23 undef, a.tmps.getD 24 undef, a.tmps.getD 25 undef, a.tmps.getD 26 undef, a.tmps.getD 27 undef, a.tmps.getD 28 undef, a.tmps.getD 29 undef, a.tmps.getD 30 undef, a.tmps.getD 31 undef, a.tmps.getD 32 undef, a.tmps.getD 33 undef, a.tmps.getD 34 undef, a.tmps.getD 35 undef, a.tmps.getD 36 undef, a.tmps.getD 37 undef, a.tmps.getD 38 undef, a.tmps.getD 39 undef, a.tmps.getD 40 undef, a.tmps.getD 41 undef, a.tmps.getD 42 undef, a.tmps.getD 43 undef, a.tmps.getD 44 undef, a.tmps.getD 45 undef, a.tmps.getD 46 undef, a.tmps.getD 47 undef, a.tmps.getD 48 undef, a.tmps.getD 49 undef, a.tmps.getD 50 undef, a.tmps.getD 51 undef, a.tmps.getD 52 undef, a.tmps.getD 53 undef, a.tmps.getD 54 undef, a.tmps.getD 55 undef, a.tmps.getD 56 undef, a.tmps.getD 57 undef, a.tmps.getD 58 undef, a.tmps.getD 59 undef, a.tmps.getD 60 undef, a.tmps.getD 61 undef, a.tmps.getD 62 undef, a.tmps.getD 63 undef, a.tmps.getD 64 undef, a.tmps.getD 65 undef, a.tmps.getD 66 undef, a.tmps.getD 67 undef, a.tmps.getD 68 undef, a.tmps.getD 69 undef, a.tmps.getD 70 undef, a.tmps.getD 71 undef, a.tmps.getD 72 undef, a.tmps.getD 73 undef, a.tmps.getD 74 undef, a.tmps.getD 75 undef, a.tmps.getD 76 undef, a.tmps.getD 77 undef, a.tmps.getD 78 undef, a.tmps.getD 79 undef, a.tmps.getD 80 undef, a.tmps.getD 81 undef, a.tmps.getD 82 undef, a.tmps.getD 83 undef, a.tmps.getD 84 undef, a.tmps.getD 85 undef, a.tmps.getD 86 undef, a.tmps.getD 87 undef, a.tmps.getD 88 undef, a.tmps.getD 89 undef, a.tmps.getD 90 undef, a.tmps.getD 91 undef, a.tmps.getD 92 undef, a.tmps.getD 93 undef, a.tmps.getD 94 undef, a.tmps.getD 95 undef, a.tmps.getD 96 undef, a.tmps.getD 97 undef, a.tmps.getD 98 undef, a.tmps.getD 99 undef, a.tmps.getD 100 undef, a.tmps.getD 101 undef, a.tmps.getD 102 undef, a.tmps.getD 103 undef, a.tmps.getD 104 undef, a.tmps.getD 105 undef, a.tmps.getD 106 undef, a.tmps.getD 107 undef, a.tmps.getD 108 undef, a.tmps.getD 109 undef, a.tmps.getD 110 undef, a.tmps.getD 111 undef, a.tmps.getD 112 undef, a.tmps.getD 113 undef, a.tmps.getD 114 undef, a.tmps.getD 115 undef, a.tmps.getD 116 undef, a.tmps.getD 117 undef, a.tmps.getD 118 undef, a.tmps.getD 119 undef, a.tmps.getD 120 undef, a.tmps.getD 121 undef, a.tmps.getD 122 undef, a.tmps.getD 123 undef, a.tmps.getD 124 undef, a.tmps.getD 125 undef, a.tmps.getD 126 undef, a.tmps.getD 127 undef, a.tmps.getD 128 undef, a.tmps.getD 129 undef, a.tmps.getD 130 undef, a.tmps.getD 131 undef, a.tmps.getD 132 undef, a.tmps.getD 133 undef, a.tmps.getD 134 undef, a.tmps.getD 135 undef, a.tmps.getD 136 undef, a.tmps.getD 137 undef, a.tmps.getD 138 undef, a.tmps.getD 139 undef, a.tmps.getD 140 undef, a.tmps.getD 141 undef, a.tmps.getD 142 undef, a.tmps.getD 143 undef, a.tmps.getD 144 undef, a.tmps.getD 145 undef, a.tmps.getD 146 undef, a.tmps.getD 147 undef, a.tmps.getD 148 undef, a.tmps.getD 149 undef, a.tmps.getD 150 undef, a.tmps.getD 151 undef, a.tmps.getD 152 undef, a.tmps.getD 153 undef, a.tmps.getD 154 undef, a.tmps.getD 155 undef, a.tmps.getD 156 undef, a.tmps.getD 157 undef, a.tmps.getD 158 undef, a.tmps.getD 159 undef, a.tmps.getD 160 undef, a.tmps.getD 161 undef, a.tmps.getD 162 undef, a.tmps.getD 163 undef, a.tmps.getD 164 undef, a.tmps.getD 165 undef, a.tmps.getD 166 undef, a.tmps.getD 167 undef, a.tmps.getD 168 undef, a.tmps.getD 169 undef, a.tmps.getD 170 undef, a.tmps.getD 171 undef, a.tmps.getD 172 undef, a.tmps.getD 173 undef, a.tmps.getD 174 undef, a.tmps.getD 175 undef, a.tmps.getD 176 undef, a.tmps.getD 177 undef, a.tmps.getD 178 undef, a.tmps.getD 179 undef, a.tmps.getD 180 undef, a.tmps.getD 181 undef, a.tmps.getD 182 undef, a.tmps.getD 183 undef, a.tmps.getD 184 undef, a.tmps.getD 185 undef, a.tmps.getD 186 undef, a.tmps.getD 187 undef, a.tmps.getD 188 undef, a.tmps.getD 189 undef, a.tmps.getD 190 undef, a.tmps.getD 191 undef, a.tmps.getD 192 undef, a.tmps.getD 193 undef, a.tmps.getD 194 undef, a.tmps.getD 195 undef, a.tmps.getD 196 undef, a.tmps.getD 197 undef, a.tmps.getD 198 undef, a.tmps.getD 199 undef, a.tmps.getD 200 undef, a.tmps.getD 201 undef, a.tmps.getD 202 undef, a.tmps.getD 203 undef, a.tmps.getD 204 undef, a.tmps.getD 205 undef, a.tmps.getD 206 undef, a.tmps.getD 207 undef, a.tmps.getD 208 undef, a.tmps.getD 209 undef], []⟩) (h : CutO nb mb ob L R at' ents pN pe pO cN ce cO w X) :
    R24.wp Try.prog (bodyPost Try.prog Try.f11 fun e W' => e = .returned (.bool true) ∧ Below w.heap.size w W') a X := by
  rw [ha]
  exact cuts_loop0 hc nb mb ob L R t at' ents pN pe pO cN ce cO w X (fun i => a.tmps.getD i undef) h
end Go.Proofs.Ytbojfiflemmgaaa
