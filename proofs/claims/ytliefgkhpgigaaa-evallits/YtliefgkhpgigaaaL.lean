/-
  What val.reckonDecs (to be multiplied), val.reckon, val.Reckon return.
-/
import Derived.Test.YtliefgkhpgigaaaK
namespace Go.Proofs.Ytliefgkhpgigaaa
open Go.RowKit
set_option linter.unusedSimpArgs false
set_option linter.unusedVariables false
attribute [local go_sem ↓] Go.wp_at_zero Go.wp_at_succ

set_option maxRecDepth 100000 in
set_option maxHeartbeats 4000000 in
theorem decs_mul (na sa nb sb : Int) (w : World) (hna : Is64 na) (hnb : Is64 nb) (hsa : 0 ≤ sa ∧ sa ≤ 6) (hsb : 0 ≤ sb ∧ sb ≤ 6) :
    Calls Try.prog 85 #[.int .i64 6, V 3 na sa E0, V 3 nb sb E0] w fun e w' =>
      e = .returned (.tuple #[V 3 (normN (wrap64 (decN 6 na sa nb sb)) (decS 6 sa sb)) (normC (wrap64 (decN 6 na sa nb sb)) (decS 6 sa sb)) E0, .bool (decOk 6 na sa nb sb)]) ∧ Below w.heap.size w w' := by
  unfold decOk decN decS strN strOk
  simp only [if_pos, Bool.true_and]
  have RI := hide (fun W => reckonInts_any 6 na nb W hna hnb)
  have hIn := wrap64_bd (opN 6 na nb)
  generalize wrap64 (opN 6 na nb) = z at *
  generalize inI (opN 6 na nb) = fz at *
  have hm3 : Is64 (sa + sb) := by unfold Is64; omega
  have NZ := hide (fun W => norm_any 3 z (sa + sb) E0 W hIn hm3)
  have ez : nN 3 z (sa + sb) = normN z (sa + sb) ∧ nS 3 z (sa + sb) = normC z (sa + sb) := ⟨rfl, rfl⟩
  rw [ez.1, ez.2] at NZ
  clear ez
  generalize normN z (sa + sb) = zn at *
  generalize normC z (sa + sb) = zs at *
  have RZ := hide (fun W => right_any 3 zn zs E0 W (by decide))
  go_enter Try.func85, Try.ntmps85
  go_wp2_with fail
  refine (unhide RI _).mono ?_
  rintro e w1 ⟨rfl, rfl⟩
  go_wp2_with fail
  refine (unhide NZ _).mono ?_
  rintro e w1 ⟨rfl, hb1⟩
  have hz1 := hb1.size
  have hb1' := hb1
  obtain ⟨hc1, hf1⟩ := bcell hb1
  simp at hz1
  have HB1 := hide hb1'
  clear hb1 hb1'
  go_wp2_with fail
  rename_i Q1 K1 hrest
  have hv := four_alloc (.int .i64 3) (.int .i64 zn) (.int .i64 zs) (.string E0) 28 w1
  have hr := four_more (four_below (four_alloc (.int .i64 0) (.int .i64 0) (.int .i64 0) (.string E0) 28 _) (by simp) (unhide HB1)) (.cells #[.int .i64 3, .int .i64 zn, .int .i64 zs, .string E0] 28)
  simp only [World.size_alloc] at hr
  have hcb : w.heap.size ≤ w.heap.size + 1 + 1 ∧ w.heap.size + 1 + 1 ≠ w1.heap.size := by omega
  have hBW : Below w.heap.size w (w1.alloc (.cells #[.int .i64 3, .int .i64 zn, .int .i64 zs, .string E0] 28)) :=
    ((((((Below.refl _ _).alloc (Nat.le_refl _) _).alloc (by simp) _).alloc (by simp; omega) _)).trans ((unhide HB1).mono (by simp; omega))).alloc (by omega) _
  refine wp_region_noPanic ?_
  refine wp_region_held_drew (S := Sv w w1.heap.size zn zs) (by kernel_rfl) ⟨hBW.drew, four_drew hv⟩ (fun hHeld => ?_)
  replace hr := four_drew hr
  revert hHeld hr
  generalize World.drew _ = W2
  intro hHeld hr
  clear HB1 hBW hv hc1 hf1 RI NZ hIn hm3 hsa hsb hna hnb
  cases fz
  · refine wpAnyH_take (i := 0) (oi := ?oi157) (v := ?v157) ?hi157 (by kernel_rfl) (by kernel_rfl) (by kernel_rfl) (fun _ _ _ h => h) (Or.inl ⟨?hw157, ?hy157⟩) (by assumption) ?rest157
    case hi157 => (simp only [List.getElem?_toArray, List.getElem?_cons_zero]; rfl)
    case hw157 => rfl
    case hy157 => first | (intro wx hSw; obtain ⟨_, _, e0, e1, e2, e3, _⟩ := hSw; go_simp; done) | (intro wx hSw; obtain ⟨_, _, e0, e1, e2, e3, _⟩ := hSw; go_simp; with_reducible rfl)
    simp only [Act.put, List.setIfInBounds_toArray, List.set_cons_zero, List.set_cons_succ]
    refine wpAnyH_take (i := 1) (oi := ?oi158) (v := ?v158) ?hi158 (by kernel_rfl) (by kernel_rfl) (by kernel_rfl) (fun _ _ _ h => h) (Or.inl ⟨?hw158, ?hy158⟩) (by assumption) ?rest158
    case hi158 => (simp only [List.getElem?_toArray, List.getElem?_cons_zero, List.getElem?_cons_succ]; rfl)
    case hw158 => rfl
    case hy158 => first | (intro wx hSw; obtain ⟨_, _, e0, e1, e2, e3, _⟩ := hSw; go_simp; done) | (intro wx hSw; obtain ⟨_, _, e0, e1, e2, e3, _⟩ := hSw; go_simp; with_reducible rfl)
    simp only [Act.put, List.setIfInBounds_toArray, List.set_cons_zero, List.set_cons_succ]
    refine wpAnyH_take (i := 2) (oi := ?oi159) (v := ?v159) ?hi159 (by kernel_rfl) (by kernel_rfl) (by kernel_rfl) (fun _ _ _ h => h) (Or.inl ⟨?hw159, ?hy159⟩) (by assumption) ?rest159
    case hi159 => (simp only [List.getElem?_toArray, List.getElem?_cons_zero, List.getElem?_cons_succ]; rfl)
    case hw159 => rfl
    case hy159 => first | (intro wx hSw; obtain ⟨_, _, e0, e1, e2, e3, _⟩ := hSw; go_simp; done) | (intro wx hSw; obtain ⟨_, _, e0, e1, e2, e3, _⟩ := hSw; go_simp; with_reducible rfl)
    simp only [Act.put, List.setIfInBounds_toArray, List.set_cons_zero, List.set_cons_succ]
    refine wpAnyH_take (i := 3) (oi := ?oi160) (v := ?v160) ?hi160 (by kernel_rfl) (by kernel_rfl) (by kernel_rfl) (fun _ _ _ h => h) (Or.inl ⟨?hw160, ?hy160⟩) (by assumption) ?rest160
    case hi160 => (simp only [List.getElem?_toArray, List.getElem?_cons_zero, List.getElem?_cons_succ]; rfl)
    case hw160 => rfl
    case hy160 => first | (intro wx hSw; obtain ⟨_, _, e0, e1, e2, e3, _⟩ := hSw; go_simp; done) | (intro wx hSw; obtain ⟨_, _, e0, e1, e2, e3, _⟩ := hSw; go_simp; with_reducible rfl)
    simp only [Act.put, List.setIfInBounds_toArray, List.set_cons_zero, List.set_cons_succ]
    refine wpAnyH_take (i := 4) (oi := ?oi161) (v := ?v161) ?hi161 (by kernel_rfl) (by kernel_rfl) (by kernel_rfl) (fun _ _ _ h => h) (Or.inl ⟨?hw161, ?hy161⟩) (by assumption) ?rest161
    case hi161 => (simp only [List.getElem?_toArray, List.getElem?_cons_zero, List.getElem?_cons_succ]; rfl)
    case hw161 => rfl
    case hy161 => first | (intro wx hSw; obtain ⟨_, _, e0, e1, e2, e3, _⟩ := hSw; go_simp; done) | (intro wx hSw; obtain ⟨_, _, e0, e1, e2, e3, _⟩ := hSw; go_simp; with_reducible rfl)
    simp only [Act.put, List.setIfInBounds_toArray, List.set_cons_zero, List.set_cons_succ]
    refine wpAnyH_take (i := 5) (oi := ?oi162) (v := ?v162) ?hi162 (by kernel_rfl) (by kernel_rfl) (by kernel_rfl) (fun _ _ _ h => h) (Or.inl ⟨?hw162, ?hy162⟩) (by assumption) ?rest162
    case hi162 => (simp only [List.getElem?_toArray, List.getElem?_cons_zero, List.getElem?_cons_succ]; rfl)
    case hw162 => rfl
    case hy162 => first | (intro wx hSw; obtain ⟨_, _, e0, e1, e2, e3, _⟩ := hSw; go_simp; done) | (intro wx hSw; obtain ⟨_, _, e0, e1, e2, e3, _⟩ := hSw; go_simp; with_reducible rfl)
    simp only [Act.put, List.setIfInBounds_toArray, List.set_cons_zero, List.set_cons_succ]
    refine wpAnyH_take (i := 6) (oi := ?oi163) (v := ?v163) ?hi163 (by kernel_rfl) (by kernel_rfl) (by kernel_rfl) (fun _ _ _ h => h) (Or.inl ⟨?hw163, ?hy163⟩) (by assumption) ?rest163
    case hi163 => (simp only [List.getElem?_toArray, List.getElem?_cons_zero, List.getElem?_cons_succ]; rfl)
    case hw163 => rfl
    case hy163 => first | (intro wx hSw; obtain ⟨_, _, e0, e1, e2, e3, _⟩ := hSw; go_simp; done) | (intro wx hSw; obtain ⟨_, _, e0, e1, e2, e3, _⟩ := hSw; go_simp; with_reducible rfl)
    simp only [Act.put, List.setIfInBounds_toArray, List.set_cons_zero, List.set_cons_succ]
    refine wpAnyH_take (i := 7) (oi := ?oi164) (v := ?v164) ?hi164 (by kernel_rfl) (by kernel_rfl) (by kernel_rfl) (fun _ _ _ h => h) (Or.inl ⟨?hw164, ?hy164⟩) (by assumption) ?rest164
    case hi164 => (simp only [List.getElem?_toArray, List.getElem?_cons_zero, List.getElem?_cons_succ]; rfl)
    case hw164 => rfl
    case hy164 => first | (intro wx hSw; obtain ⟨_, _, e0, e1, e2, e3, _⟩ := hSw; go_simp; done) | (intro wx hSw; obtain ⟨_, _, e0, e1, e2, e3, _⟩ := hSw; go_simp; with_reducible rfl)
    simp only [Act.put, List.setIfInBounds_toArray, List.set_cons_zero, List.set_cons_succ]
    refine wpAnyH_take (i := 8) (oi := ?oi165) (v := ?v165) ?hi165 (by kernel_rfl) (by kernel_rfl) (by kernel_rfl) (fun _ _ _ h => h) (Or.inl ⟨?hw165, ?hy165⟩) (by assumption) ?rest165
    case hi165 => (simp only [List.getElem?_toArray, List.getElem?_cons_zero, List.getElem?_cons_succ]; rfl)
    case hw165 => rfl
    case hy165 => first | (intro wx hSw; obtain ⟨_, _, e0, e1, e2, e3, _⟩ := hSw; go_simp; done) | (intro wx hSw; obtain ⟨_, _, e0, e1, e2, e3, _⟩ := hSw; go_simp; with_reducible rfl)
    simp only [Act.put, List.setIfInBounds_toArray, List.set_cons_zero, List.set_cons_succ]
    refine wpAnyH_take (i := 9) (oi := ?oi166) (v := undef) ?hi166 (by kernel_rfl) (by kernel_rfl) (by kernel_rfl) (fun _ _ _ h => h) (Or.inr ⟨?hw166, rfl⟩) (by assumption) ?rest166
    case hi166 => (simp only [List.getElem?_toArray, List.getElem?_cons_zero, List.getElem?_cons_succ]; rfl)
    case hw166 => rfl
    simp only [Act.put, List.setIfInBounds_toArray, List.set_cons_zero, List.set_cons_succ]
    refine wpAnyH_take (i := 10) (oi := ?oi167) (v := undef) ?hi167 (by kernel_rfl) (by kernel_rfl) (by kernel_rfl) (fun _ _ _ h => h) (Or.inr ⟨?hw167, rfl⟩) (by assumption) ?rest167
    case hi167 => (simp only [List.getElem?_toArray, List.getElem?_cons_zero, List.getElem?_cons_succ]; rfl)
    case hw167 => rfl
    simp only [Act.put, List.setIfInBounds_toArray, List.set_cons_zero, List.set_cons_succ]
    refine wpAnyH_take (i := 11) (oi := ?oi168) (v := ?v168) ?hi168 (by kernel_rfl) (by kernel_rfl) (by kernel_rfl) (fun _ _ _ h => h) (Or.inl ⟨?hw168, ?hy168⟩) (by assumption) ?rest168
    case hi168 => (simp only [List.getElem?_toArray, List.getElem?_cons_zero, List.getElem?_cons_succ]; rfl)
    case hw168 => rfl
    case hy168 => first | (intro wx hSw; obtain ⟨_, _, e0, e1, e2, e3, _⟩ := hSw; go_simp; done) | (intro wx hSw; obtain ⟨_, _, e0, e1, e2, e3, _⟩ := hSw; go_simp; with_reducible rfl)
    simp only [Act.put, List.setIfInBounds_toArray, List.set_cons_zero, List.set_cons_succ]
    refine wpAnyH_ready (rs := [12]) (by kernel_rfl) (by simp) ?_
    refine AllReadyH.cons rfl (fun K169 hK169 => ?_) AllReadyH.nil
    have hrr := hr
    obtain ⟨-, g1, g2, g3, g4, g5, g6, g7, g8⟩ := hrr
    go_simp
    clear g1 g2 g3 g4 g5 g6 g7 g8
    refine hK169.out _ _ ?hs169 (fun hHeld169 => ?_)
    case hs169 => exact sv_set hcb hHeld _ _ _ _
    clear hHeld
    have hHeld := hHeld169; clear hHeld169 hK169 K169
    refine wpAnyH_take (i := 13) (oi := ?oi170) (v := ?v170) ?hi170 (by kernel_rfl) (by kernel_rfl) (by kernel_rfl) (fun _ _ _ h => h) (Or.inl ⟨?hw170, ?hy170⟩) (by assumption) ?rest170
    case hi170 => (simp only [List.getElem?_toArray, List.getElem?_cons_zero, List.getElem?_cons_succ]; rfl)
    case hw170 => rfl
    case hy170 => first | (intro wx hSw; obtain ⟨_, _, e0, e1, e2, e3, _⟩ := hSw; go_simp; done) | (intro wx hSw; obtain ⟨_, _, e0, e1, e2, e3, _⟩ := hSw; go_simp; with_reducible rfl)
    simp only [Act.put, List.setIfInBounds_toArray, List.set_cons_zero, List.set_cons_succ]
    refine wpAnyH_done (by kernel_rfl) ?_ _
    refine NoPanic.normal ?_
    refine hrest _ _ ?_
    go_wp2
    have hr4 := four_set hr (.int .i64 3) (.int .i64 zn) (.int .i64 zs) (.string E0)
    obtain ⟨-, g1, g2, g3, g4, -⟩ := hr4
    exact bodyPost_ret (v := .tuple #[V 3 zn zs E0, .bool false]) (by simp [results, Try.results85, go_sem, g1, g2, g3, g4]) rfl ⟨retT ⟨rfl, rfl⟩ (by simp), hHeld.1⟩
  refine wpAnyH_take (i := 0) (oi := ?oi171) (v := ?v171) ?hi171 (by kernel_rfl) (by kernel_rfl) (by kernel_rfl) (fun _ _ _ h => h) (Or.inl ⟨?hw171, ?hy171⟩) (by assumption) ?rest171
  case hi171 => (simp only [List.getElem?_toArray, List.getElem?_cons_zero]; rfl)
  case hw171 => rfl
  case hy171 => first | (intro wx hSw; obtain ⟨_, _, e0, e1, e2, e3, _⟩ := hSw; go_simp; done) | (intro wx hSw; obtain ⟨_, _, e0, e1, e2, e3, _⟩ := hSw; go_simp; with_reducible rfl)
  simp only [Act.put, List.setIfInBounds_toArray, List.set_cons_zero, List.set_cons_succ]
  refine wpAnyH_take (i := 1) (oi := ?oi172) (v := ?v172) ?hi172 (by kernel_rfl) (by kernel_rfl) (by kernel_rfl) (fun _ _ _ h => h) (Or.inl ⟨?hw172, ?hy172⟩) (by assumption) ?rest172
  case hi172 => (simp only [List.getElem?_toArray, List.getElem?_cons_zero, List.getElem?_cons_succ]; rfl)
  case hw172 => rfl
  case hy172 => first | (intro wx hSw; obtain ⟨_, _, e0, e1, e2, e3, _⟩ := hSw; go_simp; done) | (intro wx hSw; obtain ⟨_, _, e0, e1, e2, e3, _⟩ := hSw; go_simp; with_reducible rfl)
  simp only [Act.put, List.setIfInBounds_toArray, List.set_cons_zero, List.set_cons_succ]
  refine wpAnyH_take (i := 2) (oi := ?oi173) (v := ?v173) ?hi173 (by kernel_rfl) (by kernel_rfl) (by kernel_rfl) (fun _ _ _ h => h) (Or.inl ⟨?hw173, ?hy173⟩) (by assumption) ?rest173
  case hi173 => (simp only [List.getElem?_toArray, List.getElem?_cons_zero, List.getElem?_cons_succ]; rfl)
  case hw173 => rfl
  case hy173 => first | (intro wx hSw; obtain ⟨_, _, e0, e1, e2, e3, _⟩ := hSw; go_simp; done) | (intro wx hSw; obtain ⟨_, _, e0, e1, e2, e3, _⟩ := hSw; go_simp; with_reducible rfl)
  simp only [Act.put, List.setIfInBounds_toArray, List.set_cons_zero, List.set_cons_succ]
  refine wpAnyH_take (i := 3) (oi := ?oi174) (v := ?v174) ?hi174 (by kernel_rfl) (by kernel_rfl) (by kernel_rfl) (fun _ _ _ h => h) (Or.inl ⟨?hw174, ?hy174⟩) (by assumption) ?rest174
  case hi174 => (simp only [List.getElem?_toArray, List.getElem?_cons_zero, List.getElem?_cons_succ]; rfl)
  case hw174 => rfl
  case hy174 => first | (intro wx hSw; obtain ⟨_, _, e0, e1, e2, e3, _⟩ := hSw; go_simp; done) | (intro wx hSw; obtain ⟨_, _, e0, e1, e2, e3, _⟩ := hSw; go_simp; with_reducible rfl)
  simp only [Act.put, List.setIfInBounds_toArray, List.set_cons_zero, List.set_cons_succ]
  refine wpAnyH_take (i := 4) (oi := ?oi175) (v := ?v175) ?hi175 (by kernel_rfl) (by kernel_rfl) (by kernel_rfl) (fun _ _ _ h => h) (Or.inl ⟨?hw175, ?hy175⟩) (by assumption) ?rest175
  case hi175 => (simp only [List.getElem?_toArray, List.getElem?_cons_zero, List.getElem?_cons_succ]; rfl)
  case hw175 => rfl
  case hy175 => first | (intro wx hSw; obtain ⟨_, _, e0, e1, e2, e3, _⟩ := hSw; go_simp; done) | (intro wx hSw; obtain ⟨_, _, e0, e1, e2, e3, _⟩ := hSw; go_simp; with_reducible rfl)
  simp only [Act.put, List.setIfInBounds_toArray, List.set_cons_zero, List.set_cons_succ]
  refine wpAnyH_take (i := 5) (oi := ?oi176) (v := ?v176) ?hi176 (by kernel_rfl) (by kernel_rfl) (by kernel_rfl) (fun _ _ _ h => h) (Or.inl ⟨?hw176, ?hy176⟩) (by assumption) ?rest176
  case hi176 => (simp only [List.getElem?_toArray, List.getElem?_cons_zero, List.getElem?_cons_succ]; rfl)
  case hw176 => rfl
  case hy176 => first | (intro wx hSw; obtain ⟨_, _, e0, e1, e2, e3, _⟩ := hSw; go_simp; done) | (intro wx hSw; obtain ⟨_, _, e0, e1, e2, e3, _⟩ := hSw; go_simp; with_reducible rfl)
  simp only [Act.put, List.setIfInBounds_toArray, List.set_cons_zero, List.set_cons_succ]
  refine wpAnyH_take (i := 6) (oi := ?oi177) (v := ?v177) ?hi177 (by kernel_rfl) (by kernel_rfl) (by kernel_rfl) (fun _ _ _ h => h) (Or.inl ⟨?hw177, ?hy177⟩) (by assumption) ?rest177
  case hi177 => (simp only [List.getElem?_toArray, List.getElem?_cons_zero, List.getElem?_cons_succ]; rfl)
  case hw177 => rfl
  case hy177 => first | (intro wx hSw; obtain ⟨_, _, e0, e1, e2, e3, _⟩ := hSw; go_simp; done) | (intro wx hSw; obtain ⟨_, _, e0, e1, e2, e3, _⟩ := hSw; go_simp; with_reducible rfl)
  simp only [Act.put, List.setIfInBounds_toArray, List.set_cons_zero, List.set_cons_succ]
  refine wpAnyH_take (i := 7) (oi := ?oi178) (v := ?v178) ?hi178 (by kernel_rfl) (by kernel_rfl) (by kernel_rfl) (fun _ _ _ h => h) (Or.inl ⟨?hw178, ?hy178⟩) (by assumption) ?rest178
  case hi178 => (simp only [List.getElem?_toArray, List.getElem?_cons_zero, List.getElem?_cons_succ]; rfl)
  case hw178 => rfl
  case hy178 => first | (intro wx hSw; obtain ⟨_, _, e0, e1, e2, e3, _⟩ := hSw; go_simp; done) | (intro wx hSw; obtain ⟨_, _, e0, e1, e2, e3, _⟩ := hSw; go_simp; with_reducible rfl)
  simp only [Act.put, List.setIfInBounds_toArray, List.set_cons_zero, List.set_cons_succ]
  refine wpAnyH_take (i := 8) (oi := ?oi179) (v := ?v179) ?hi179 (by kernel_rfl) (by kernel_rfl) (by kernel_rfl) (fun _ _ _ h => h) (Or.inl ⟨?hw179, ?hy179⟩) (by assumption) ?rest179
  case hi179 => (simp only [List.getElem?_toArray, List.getElem?_cons_zero, List.getElem?_cons_succ]; rfl)
  case hw179 => rfl
  case hy179 => first | (intro wx hSw; obtain ⟨_, _, e0, e1, e2, e3, _⟩ := hSw; go_simp; done) | (intro wx hSw; obtain ⟨_, _, e0, e1, e2, e3, _⟩ := hSw; go_simp; with_reducible rfl)
  simp only [Act.put, List.setIfInBounds_toArray, List.set_cons_zero, List.set_cons_succ]
  refine wpAnyH_take (i := 9) (oi := ?oi180) (v := ?v180) ?hi180 (by kernel_rfl) (by kernel_rfl) (by kernel_rfl) (fun _ _ _ h => h) (Or.inl ⟨?hw180, ?hy180⟩) (by assumption) ?rest180
  case hi180 => (simp only [List.getElem?_toArray, List.getElem?_cons_zero, List.getElem?_cons_succ]; rfl)
  case hw180 => rfl
  case hy180 => first | (intro wx hSw; obtain ⟨_, _, e0, e1, e2, e3, _⟩ := hSw; go_simp; done) | (intro wx hSw; obtain ⟨_, _, e0, e1, e2, e3, _⟩ := hSw; go_simp; with_reducible rfl)
  simp only [Act.put, List.setIfInBounds_toArray, List.set_cons_zero, List.set_cons_succ]
  refine wpAnyH_ready (rs := [10]) (by kernel_rfl) (by simp) ?_
  refine AllReadyH.cons rfl (fun K181 hK181 => ?_) AllReadyH.nil
  go_simp
  go_wp2_with (go_at_call 95; refine (unhide RZ _).mono ?_; rintro e w2 ⟨rfl, hb2⟩)
  refine hK181.out _ _ ?hs181 (fun hHeld181 => ?_)
  case hs181 => exact sv_call hHeld hb2
  have hr2 := four_call hr hb2
  clear hHeld
  have hHeld := hHeld181; clear hHeld181 hK181 K181
  refine wpAnyH_take (i := 11) (oi := ?oi182) (v := ?v182) ?hi182 (by kernel_rfl) (by kernel_rfl) (by kernel_rfl) (fun _ _ _ h => h) (Or.inl ⟨?hw182, ?hy182⟩) (by assumption) ?rest182
  case hi182 => (simp only [List.getElem?_toArray, List.getElem?_cons_zero, List.getElem?_cons_succ]; rfl)
  case hw182 => rfl
  case hy182 => first | (intro wx hSw; obtain ⟨_, _, e0, e1, e2, e3, _⟩ := hSw; go_simp; done) | (intro wx hSw; obtain ⟨_, _, e0, e1, e2, e3, _⟩ := hSw; go_simp; with_reducible rfl)
  simp only [Act.put, List.setIfInBounds_toArray, List.set_cons_zero, List.set_cons_succ]
  refine wpAnyH_ready (rs := [12]) (by kernel_rfl) (by simp) ?_
  refine AllReadyH.cons rfl (fun K183 hK183 => ?_) AllReadyH.nil
  have hrr := hr2
  obtain ⟨-, g1, g2, g3, g4, g5, g6, g7, g8⟩ := hrr
  go_simp
  clear g1 g2 g3 g4 g5 g6 g7 g8
  refine hK183.out _ _ ?hs183 (fun hHeld183 => ?_)
  case hs183 => exact sv_set hcb hHeld _ _ _ _
  clear hHeld
  have hHeld := hHeld183; clear hHeld183 hK183 K183
  refine wpAnyH_take (i := 13) (oi := ?oi184) (v := ?v184) ?hi184 (by kernel_rfl) (by kernel_rfl) (by kernel_rfl) (fun _ _ _ h => h) (Or.inl ⟨?hw184, ?hy184⟩) (by assumption) ?rest184
  case hi184 => (simp only [List.getElem?_toArray, List.getElem?_cons_zero, List.getElem?_cons_succ]; rfl)
  case hw184 => rfl
  case hy184 => first | (intro wx hSw; obtain ⟨_, _, e0, e1, e2, e3, _⟩ := hSw; go_simp; done) | (intro wx hSw; obtain ⟨_, _, e0, e1, e2, e3, _⟩ := hSw; go_simp; with_reducible rfl)
  simp only [Act.put, List.setIfInBounds_toArray, List.set_cons_zero, List.set_cons_succ]
  refine wpAnyH_done (by kernel_rfl) ?_ _
  refine NoPanic.normal ?_
  refine hrest _ _ ?_
  go_wp2
  have hr4 := four_set hr2 (.int .i64 3) (.int .i64 zn) (.int .i64 zs) (.string E0)
  obtain ⟨-, g1, g2, g3, g4, -⟩ := hr4
  exact bodyPost_ret (v := .tuple #[V 3 zn zs E0, .bool (rightB 3 zn zs E0)]) (by simp [results, Try.results85, go_sem, g1, g2, g3, g4]) rfl ⟨retT ⟨rfl, rfl⟩ (by simp [right_dec]), hHeld.1⟩

theorem decs_any (k na sa nb sb : Int) (w : World) (hna : Is64 na) (hnb : Is64 nb) (hsa : 0 ≤ sa ∧ sa ≤ 6) (hsb : 0 ≤ sb ∧ sb ≤ 6) :
    Calls Try.prog 85 #[.int .i64 k, V 3 na sa E0, V 3 nb sb E0] w fun e w' =>
      e = .returned (.tuple #[V 3 (normN (wrap64 (decN k na sa nb sb)) (decS k sa sb)) (normC (wrap64 (decN k na sa nb sb)) (decS k sa sb)) E0, .bool (decOk k na sa nb sb)]) ∧ Below w.heap.size w w' := by
  by_cases hk : k = 6
  · subst hk; exact decs_mul na sa nb sb w hna hnb hsa hsb
  · exact decs_sum k na sa nb sb w hk hna hnb hsa hsb

set_option maxHeartbeats 800000 in
theorem reckon_int (k na sa nb sb kb : Int) (ta tb : ByteArray) (w : World) (hna : Is64 na) (hnb : Is64 nb) :
    Calls Try.prog 79 #[.int .i64 k, V 2 na sa ta, V kb nb sb tb] w fun e w' =>
      e = .returned (.tuple #[V 2 (wrap64 (opN k na nb)) 0 E0, .bool (inI (opN k na nb))]) ∧ Below w.heap.size w w' := by
  go_enter Try.func79, Try.ntmps79
  go_wp2_with (go_at_call 84; refine (reckonInts_any _ _ _ _ hna hnb).mono ?_; rintro e w' ⟨rfl, rfl⟩)
  exact bodyPost_ret (v := .tuple #[V 2 (wrap64 (opN k na nb)) 0 E0, .bool (inI (opN k na nb))]) (by simp [results, Try.results79, go_sem]; rfl) rfl ⟨rfl, (((Below.refl _ _).alloc (Nat.le_refl _) _).alloc (by simp) _).alloc (by simp; omega) _⟩

set_option maxHeartbeats 800000 in
theorem reckon_dec (k na sa nb sb : Int) (w : World) (hna : Is64 na) (hnb : Is64 nb) (hsa : 0 ≤ sa ∧ sa ≤ 6) (hsb : 0 ≤ sb ∧ sb ≤ 6) :
    Calls Try.prog 79 #[.int .i64 k, V 3 na sa E0, V 3 nb sb E0] w fun e w' =>
      e = .returned (.tuple #[V 3 (normN (wrap64 (decN k na sa nb sb)) (decS k sa sb)) (normC (wrap64 (decN k na sa nb sb)) (decS k sa sb)) E0, .bool (decOk k na sa nb sb)]) ∧ Below w.heap.size w w' := by
  have CD := hide (fun W => decs_any k na sa nb sb W hna hnb hsa hsb)
  generalize normN (wrap64 (decN k na sa nb sb)) (decS k sa sb) = zn at *
  generalize normC (wrap64 (decN k na sa nb sb)) (decS k sa sb) = zs at *
  generalize decOk k na sa nb sb = ok at *
  go_enter Try.func79, Try.ntmps79
  go_wp2_with fail
  refine (unhide CD _).mono ?_
  rintro e w1 ⟨rfl, hb1⟩
  have hz1 := hb1.size
  have HB1 := hide hb1
  obtain ⟨hc1, hf1⟩ := bcell hb1
  clear hb1
  simp at hz1
  have hr := four_below (four_alloc (.int .i64 0) (.int .i64 0) (.int .i64 0) (.string E0) 28 _) (by simp) (unhide HB1)
  simp only [World.size_alloc] at hr
  obtain ⟨-, g1, g2, g3, g4, -⟩ := four_set hr (.int .i64 3) (.int .i64 zn) (.int .i64 zs) (.string E0)
  go_wp2_with fail
  refine bodyPost_ret (v := .tuple #[V 3 zn zs E0, .bool ok]) (by simp [results, Try.results79, go_sem, g1, g2, g3, g4]) rfl ⟨rfl, ?_⟩
  exact (((((Below.refl _ _).alloc (Nat.le_refl _) _).alloc (by simp) _).alloc (by simp; omega) _).trans ((unhide HB1).mono (by simp; omega))).trans ((below_set4 (w.heap.size + 1 + 1) w1 _ _ _ _).mono (by omega))

end Go.Proofs.Ytliefgkhpgigaaa
