/-
  EvalErrs: steps from place 18 on.
-/
import Derived.Test.YtliefgkhpgigaaaVErE
namespace Go.Proofs.Ytliefgkhpgigaaa
open Go.RowKit
set_option linter.unusedSimpArgs false
set_option linter.unusedVariables false

set_option maxHeartbeats 64000000 in
set_option maxRecDepth 100000 in
theorem er6p18 {r0 r1 r2 r3 r4 rest : Code} {id6 : Nat} {ops : Array Oper} (hc : Try.f7.body = some (.seq r0 (.seq r1 (.seq r2 (.seq r3 (.seq r4 (.seq (.region id6 ops true) rest))))))) (which : Int) (bt b4 b5 b6 b7 : Nat) (Wd : World) (GG : Nat → Array Bool → Act → World → Prop) (hS : Hid (SE b4 b5 b6 b7 Wd)) (Q : Exit → Act → World → Prop) (HIN : Hid (∀ f l a w, wpAnyH Try.prog .any ops (NoPanic Q) (SE b4 b5 b6 b7) f l a w → GG f l a w)) (HOUT : Hid (∀ f l a w, GG f l a w → wpAnyH Try.prog .any ops (NoPanic Q) (SE b4 b5 b6 b7) f l a w)) (C1924_25_ : frEC1924_25_ which bt b4 b5 b6 b7 Wd GG) (C1924_ : frEC1924_ which bt b4 b5 b6 b7 Wd GG) (C1925_ : frEC1925_ which bt b4 b5 b6 b7 Wd GG) (C19 : frEC19 which bt b4 b5 b6 b7 Wd GG) : frEC1824_25_ which bt b4 b5 b6 b7 Wd GG ∧ frEC1824_ which bt b4 b5 b6 b7 Wd GG ∧ frEC1825_ which bt b4 b5 b6 b7 Wd GG ∧ frEC18 which bt b4 b5 b6 b7 Wd GG := by
  unfold Try.f7 at hc
  cases hc
  have C1824_25_ : frEC1824_25_ which bt b4 b5 b6 b7 Wd GG := by
   intro u g27 g30 g33 g35 g38 g41 g44 g47 g50 g53 g56 g64 g70 X GD r27 r30 r33 r35 r38 r41 r44 r47 r50 r53 r56 r64 r70
   refine unhide HIN _ _ _ _ ?_
   unfold frE
   have hHeld := (unhide hS).call GD
   refine wpAnyH_ready (rs := [33]) (by kernel_rfl) (by simp) ?_
   refine AllReadyH.cons rfl (fun K20228 hK20228 => ?_) AllReadyH.nil
   go_simp
   go_wp2_with (go_at_call 27; refine (colL_any _ _).mono ?_; rintro e X2 ⟨rfl, hb⟩)
   exact hK20228.out _ _ (hHeld.call hb) (fun _ => unhide HOUT _ _ _ _ (C1924_25_ u g27 g30 g33 g35 g38 g41 g44 g47 g50 g53 g56 g64 g70 _ (bt_ GD hb) (r27.call hb) (r30.call hb) (r33.call hb) (r35.call hb) (r38.call hb) (r41.call hb) (r44.call hb) (r47.call hb) (r50.call hb) (r53.call hb) (r56.call hb) (r64.call hb) (r70.call hb)))
  have C1824_ : frEC1824_ which bt b4 b5 b6 b7 Wd GG := by
   intro u g27 g30 g33 g35 g38 g41 g44 g47 g50 g53 g56 g64 X GD r27 r30 r33 r35 r38 r41 r44 r47 r50 r53 r56 r64
   refine unhide HIN _ _ _ _ ?_
   unfold frE
   have hHeld := (unhide hS).call GD
   refine wpAnyH_ready (rs := [33, 46]) (by kernel_rfl) (by simp) ?_
   refine AllReadyH.cons rfl (fun K20229 hK20229 => ?_) ?_
   · go_simp
     go_wp2_with (go_at_call 27; refine (colL_any _ _).mono ?_; rintro e X2 ⟨rfl, hb⟩)
     exact hK20229.out _ _ (hHeld.call hb) (fun _ => unhide HOUT _ _ _ _ (C1924_ u g27 g30 g33 g35 g38 g41 g44 g47 g50 g53 g56 g64 _ (bt_ GD hb) (r27.call hb) (r30.call hb) (r33.call hb) (r35.call hb) (r38.call hb) (r41.call hb) (r44.call hb) (r47.call hb) (r50.call hb) (r53.call hb) (r56.call hb) (r64.call hb)))
   refine AllReadyH.cons rfl (fun K20230 hK20230 => ?_) AllReadyH.nil
   · go_simp
     have hb := below_new X o70
     have r70 := nb70 X
     refine hK20230.out _ _ (hHeld.call hb) (fun hH => ?_)
     clear hHeld hK20230 K20230
     refine wpAnyH_take (i := 47) (oi := ?o20231) (v := ?v20231) ?h20231 (by kernel_rfl) (by kernel_rfl) (by kernel_rfl) (fun _ _ _ h => h) (Or.inl ⟨?w20231, ?y20231⟩) hH ?r20231
     case h20231 => simp only [List.getElem?_toArray, List.getElem?_cons_zero, List.getElem?_cons_succ]; rfl
     case w20231 => rfl
     case y20231 => intro _ _; go_simp; with_reducible rfl
     simp only [Act.put, List.setIfInBounds_toArray, List.set_cons_zero, List.set_cons_succ]
     exact unhide HOUT _ _ _ _ (C1824_25_ u g27 g30 g33 g35 g38 g41 g44 g47 g50 g53 g56 g64 _ _ (bt_ GD hb) (r27.call hb) (r30.call hb) (r33.call hb) (r35.call hb) (r38.call hb) (r41.call hb) (r44.call hb) (r47.call hb) (r50.call hb) (r53.call hb) (r56.call hb) (r64.call hb) r70)
  have C1825_ : frEC1825_ which bt b4 b5 b6 b7 Wd GG := by
   intro u g27 g30 g33 g35 g38 g41 g44 g47 g50 g53 g56 g70 X GD r27 r30 r33 r35 r38 r41 r44 r47 r50 r53 r56 r70
   refine unhide HIN _ _ _ _ ?_
   unfold frE
   have hHeld := (unhide hS).call GD
   refine wpAnyH_ready (rs := [33, 40]) (by kernel_rfl) (by simp) ?_
   refine AllReadyH.cons rfl (fun K20232 hK20232 => ?_) ?_
   · go_simp
     go_wp2_with (go_at_call 27; refine (colL_any _ _).mono ?_; rintro e X2 ⟨rfl, hb⟩)
     exact hK20232.out _ _ (hHeld.call hb) (fun _ => unhide HOUT _ _ _ _ (C1925_ u g27 g30 g33 g35 g38 g41 g44 g47 g50 g53 g56 g70 _ (bt_ GD hb) (r27.call hb) (r30.call hb) (r33.call hb) (r35.call hb) (r38.call hb) (r41.call hb) (r44.call hb) (r47.call hb) (r50.call hb) (r53.call hb) (r56.call hb) (r70.call hb)))
   refine AllReadyH.cons rfl (fun K20233 hK20233 => ?_) AllReadyH.nil
   · go_simp
     have hb := below_new X o64
     have r64 := nb64 X
     refine hK20233.out _ _ (hHeld.call hb) (fun hH => ?_)
     clear hHeld hK20233 K20233
     refine wpAnyH_take (i := 41) (oi := ?o20234) (v := ?v20234) ?h20234 (by kernel_rfl) (by kernel_rfl) (by kernel_rfl) (fun _ _ _ h => h) (Or.inl ⟨?w20234, ?y20234⟩) hH ?r20234
     case h20234 => simp only [List.getElem?_toArray, List.getElem?_cons_zero, List.getElem?_cons_succ]; rfl
     case w20234 => rfl
     case y20234 => intro _ _; go_simp; with_reducible rfl
     simp only [Act.put, List.setIfInBounds_toArray, List.set_cons_zero, List.set_cons_succ]
     exact unhide HOUT _ _ _ _ (C1824_25_ u g27 g30 g33 g35 g38 g41 g44 g47 g50 g53 g56 _ g70 _ (bt_ GD hb) (r27.call hb) (r30.call hb) (r33.call hb) (r35.call hb) (r38.call hb) (r41.call hb) (r44.call hb) (r47.call hb) (r50.call hb) (r53.call hb) (r56.call hb) r64 (r70.call hb))
  have C18 : frEC18 which bt b4 b5 b6 b7 Wd GG := by
   intro u g27 g30 g33 g35 g38 g41 g44 g47 g50 g53 g56 X GD r27 r30 r33 r35 r38 r41 r44 r47 r50 r53 r56
   refine unhide HIN _ _ _ _ ?_
   unfold frE
   have hHeld := (unhide hS).call GD
   refine wpAnyH_ready (rs := [33, 40, 46]) (by kernel_rfl) (by simp) ?_
   refine AllReadyH.cons rfl (fun K20235 hK20235 => ?_) ?_
   · go_simp
     go_wp2_with (go_at_call 27; refine (colL_any _ _).mono ?_; rintro e X2 ⟨rfl, hb⟩)
     exact hK20235.out _ _ (hHeld.call hb) (fun _ => unhide HOUT _ _ _ _ (C19 u g27 g30 g33 g35 g38 g41 g44 g47 g50 g53 g56 _ (bt_ GD hb) (r27.call hb) (r30.call hb) (r33.call hb) (r35.call hb) (r38.call hb) (r41.call hb) (r44.call hb) (r47.call hb) (r50.call hb) (r53.call hb) (r56.call hb)))
   refine AllReadyH.cons rfl (fun K20236 hK20236 => ?_) ?_
   · go_simp
     have hb := below_new X o64
     have r64 := nb64 X
     refine hK20236.out _ _ (hHeld.call hb) (fun hH => ?_)
     clear hHeld hK20236 K20236
     refine wpAnyH_take (i := 41) (oi := ?o20237) (v := ?v20237) ?h20237 (by kernel_rfl) (by kernel_rfl) (by kernel_rfl) (fun _ _ _ h => h) (Or.inl ⟨?w20237, ?y20237⟩) hH ?r20237
     case h20237 => simp only [List.getElem?_toArray, List.getElem?_cons_zero, List.getElem?_cons_succ]; rfl
     case w20237 => rfl
     case y20237 => intro _ _; go_simp; with_reducible rfl
     simp only [Act.put, List.setIfInBounds_toArray, List.set_cons_zero, List.set_cons_succ]
     exact unhide HOUT _ _ _ _ (C1824_ u g27 g30 g33 g35 g38 g41 g44 g47 g50 g53 g56 _ _ (bt_ GD hb) (r27.call hb) (r30.call hb) (r33.call hb) (r35.call hb) (r38.call hb) (r41.call hb) (r44.call hb) (r47.call hb) (r50.call hb) (r53.call hb) (r56.call hb) r64)
   refine AllReadyH.cons rfl (fun K20238 hK20238 => ?_) AllReadyH.nil
   · go_simp
     have hb := below_new X o70
     have r70 := nb70 X
     refine hK20238.out _ _ (hHeld.call hb) (fun hH => ?_)
     clear hHeld hK20238 K20238
     refine wpAnyH_take (i := 47) (oi := ?o20239) (v := ?v20239) ?h20239 (by kernel_rfl) (by kernel_rfl) (by kernel_rfl) (fun _ _ _ h => h) (Or.inl ⟨?w20239, ?y20239⟩) hH ?r20239
     case h20239 => simp only [List.getElem?_toArray, List.getElem?_cons_zero, List.getElem?_cons_succ]; rfl
     case w20239 => rfl
     case y20239 => intro _ _; go_simp; with_reducible rfl
     simp only [Act.put, List.setIfInBounds_toArray, List.set_cons_zero, List.set_cons_succ]
     exact unhide HOUT _ _ _ _ (C1825_ u g27 g30 g33 g35 g38 g41 g44 g47 g50 g53 g56 _ _ (bt_ GD hb) (r27.call hb) (r30.call hb) (r33.call hb) (r35.call hb) (r38.call hb) (r41.call hb) (r44.call hb) (r47.call hb) (r50.call hb) (r53.call hb) (r56.call hb) r70)
  exact ⟨C1824_25_, C1824_, C1825_, C18⟩
set_option maxHeartbeats 64000000 in
set_option maxRecDepth 100000 in
theorem er6p19 {r0 r1 r2 r3 r4 rest : Code} {id6 : Nat} {ops : Array Oper} (hc : Try.f7.body = some (.seq r0 (.seq r1 (.seq r2 (.seq r3 (.seq r4 (.seq (.region id6 ops true) rest))))))) (which : Int) (bt b4 b5 b6 b7 : Nat) (Wd : World) (GG : Nat → Array Bool → Act → World → Prop) (hS : Hid (SE b4 b5 b6 b7 Wd)) (Q : Exit → Act → World → Prop) (HIN : Hid (∀ f l a w, wpAnyH Try.prog .any ops (NoPanic Q) (SE b4 b5 b6 b7) f l a w → GG f l a w)) (HOUT : Hid (∀ f l a w, GG f l a w → wpAnyH Try.prog .any ops (NoPanic Q) (SE b4 b5 b6 b7) f l a w)) (C2024_25_ : frEC2024_25_ which bt b4 b5 b6 b7 Wd GG) (C2024_ : frEC2024_ which bt b4 b5 b6 b7 Wd GG) (C2025_ : frEC2025_ which bt b4 b5 b6 b7 Wd GG) (C20 : frEC20 which bt b4 b5 b6 b7 Wd GG) : frEC1924_25_ which bt b4 b5 b6 b7 Wd GG ∧ frEC1924_ which bt b4 b5 b6 b7 Wd GG ∧ frEC1925_ which bt b4 b5 b6 b7 Wd GG ∧ frEC19 which bt b4 b5 b6 b7 Wd GG := by
  unfold Try.f7 at hc
  cases hc
  have C1924_25_ : frEC1924_25_ which bt b4 b5 b6 b7 Wd GG := by
   intro u g27 g30 g33 g35 g38 g41 g44 g47 g50 g53 g56 g64 g70 X GD r27 r30 r33 r35 r38 r41 r44 r47 r50 r53 r56 r64 r70
   refine unhide HIN _ _ _ _ ?_
   unfold frE
   have hHeld := (unhide hS).call GD
   refine wpAnyH_ready (rs := [34]) (by kernel_rfl) (by simp) ?_
   refine AllReadyH.cons rfl (fun K20240 hK20240 => ?_) AllReadyH.nil
   go_simp
   go_wp2_with (go_at_call 27; refine (colL_any _ _).mono ?_; rintro e X2 ⟨rfl, hb⟩)
   exact hK20240.out _ _ (hHeld.call hb) (fun _ => unhide HOUT _ _ _ _ (C2024_25_ u g27 g30 g33 g35 g38 g41 g44 g47 g50 g53 g56 g64 g70 _ (bt_ GD hb) (r27.call hb) (r30.call hb) (r33.call hb) (r35.call hb) (r38.call hb) (r41.call hb) (r44.call hb) (r47.call hb) (r50.call hb) (r53.call hb) (r56.call hb) (r64.call hb) (r70.call hb)))
  have C1924_ : frEC1924_ which bt b4 b5 b6 b7 Wd GG := by
   intro u g27 g30 g33 g35 g38 g41 g44 g47 g50 g53 g56 g64 X GD r27 r30 r33 r35 r38 r41 r44 r47 r50 r53 r56 r64
   refine unhide HIN _ _ _ _ ?_
   unfold frE
   have hHeld := (unhide hS).call GD
   refine wpAnyH_ready (rs := [34, 46]) (by kernel_rfl) (by simp) ?_
   refine AllReadyH.cons rfl (fun K20241 hK20241 => ?_) ?_
   · go_simp
     go_wp2_with (go_at_call 27; refine (colL_any _ _).mono ?_; rintro e X2 ⟨rfl, hb⟩)
     exact hK20241.out _ _ (hHeld.call hb) (fun _ => unhide HOUT _ _ _ _ (C2024_ u g27 g30 g33 g35 g38 g41 g44 g47 g50 g53 g56 g64 _ (bt_ GD hb) (r27.call hb) (r30.call hb) (r33.call hb) (r35.call hb) (r38.call hb) (r41.call hb) (r44.call hb) (r47.call hb) (r50.call hb) (r53.call hb) (r56.call hb) (r64.call hb)))
   refine AllReadyH.cons rfl (fun K20242 hK20242 => ?_) AllReadyH.nil
   · go_simp
     have hb := below_new X o70
     have r70 := nb70 X
     refine hK20242.out _ _ (hHeld.call hb) (fun hH => ?_)
     clear hHeld hK20242 K20242
     refine wpAnyH_take (i := 47) (oi := ?o20243) (v := ?v20243) ?h20243 (by kernel_rfl) (by kernel_rfl) (by kernel_rfl) (fun _ _ _ h => h) (Or.inl ⟨?w20243, ?y20243⟩) hH ?r20243
     case h20243 => simp only [List.getElem?_toArray, List.getElem?_cons_zero, List.getElem?_cons_succ]; rfl
     case w20243 => rfl
     case y20243 => intro _ _; go_simp; with_reducible rfl
     simp only [Act.put, List.setIfInBounds_toArray, List.set_cons_zero, List.set_cons_succ]
     exact unhide HOUT _ _ _ _ (C1924_25_ u g27 g30 g33 g35 g38 g41 g44 g47 g50 g53 g56 g64 _ _ (bt_ GD hb) (r27.call hb) (r30.call hb) (r33.call hb) (r35.call hb) (r38.call hb) (r41.call hb) (r44.call hb) (r47.call hb) (r50.call hb) (r53.call hb) (r56.call hb) (r64.call hb) r70)
  have C1925_ : frEC1925_ which bt b4 b5 b6 b7 Wd GG := by
   intro u g27 g30 g33 g35 g38 g41 g44 g47 g50 g53 g56 g70 X GD r27 r30 r33 r35 r38 r41 r44 r47 r50 r53 r56 r70
   refine unhide HIN _ _ _ _ ?_
   unfold frE
   have hHeld := (unhide hS).call GD
   refine wpAnyH_ready (rs := [34, 40]) (by kernel_rfl) (by simp) ?_
   refine AllReadyH.cons rfl (fun K20244 hK20244 => ?_) ?_
   · go_simp
     go_wp2_with (go_at_call 27; refine (colL_any _ _).mono ?_; rintro e X2 ⟨rfl, hb⟩)
     exact hK20244.out _ _ (hHeld.call hb) (fun _ => unhide HOUT _ _ _ _ (C2025_ u g27 g30 g33 g35 g38 g41 g44 g47 g50 g53 g56 g70 _ (bt_ GD hb) (r27.call hb) (r30.call hb) (r33.call hb) (r35.call hb) (r38.call hb) (r41.call hb) (r44.call hb) (r47.call hb) (r50.call hb) (r53.call hb) (r56.call hb) (r70.call hb)))
   refine AllReadyH.cons rfl (fun K20245 hK20245 => ?_) AllReadyH.nil
   · go_simp
     have hb := below_new X o64
     have r64 := nb64 X
     refine hK20245.out _ _ (hHeld.call hb) (fun hH => ?_)
     clear hHeld hK20245 K20245
     refine wpAnyH_take (i := 41) (oi := ?o20246) (v := ?v20246) ?h20246 (by kernel_rfl) (by kernel_rfl) (by kernel_rfl) (fun _ _ _ h => h) (Or.inl ⟨?w20246, ?y20246⟩) hH ?r20246
     case h20246 => simp only [List.getElem?_toArray, List.getElem?_cons_zero, List.getElem?_cons_succ]; rfl
     case w20246 => rfl
     case y20246 => intro _ _; go_simp; with_reducible rfl
     simp only [Act.put, List.setIfInBounds_toArray, List.set_cons_zero, List.set_cons_succ]
     exact unhide HOUT _ _ _ _ (C1924_25_ u g27 g30 g33 g35 g38 g41 g44 g47 g50 g53 g56 _ g70 _ (bt_ GD hb) (r27.call hb) (r30.call hb) (r33.call hb) (r35.call hb) (r38.call hb) (r41.call hb) (r44.call hb) (r47.call hb) (r50.call hb) (r53.call hb) (r56.call hb) r64 (r70.call hb))
  have C19 : frEC19 which bt b4 b5 b6 b7 Wd GG := by
   intro u g27 g30 g33 g35 g38 g41 g44 g47 g50 g53 g56 X GD r27 r30 r33 r35 r38 r41 r44 r47 r50 r53 r56
   refine unhide HIN _ _ _ _ ?_
   unfold frE
   have hHeld := (unhide hS).call GD
   refine wpAnyH_ready (rs := [34, 40, 46]) (by kernel_rfl) (by simp) ?_
   refine AllReadyH.cons rfl (fun K20247 hK20247 => ?_) ?_
   · go_simp
     go_wp2_with (go_at_call 27; refine (colL_any _ _).mono ?_; rintro e X2 ⟨rfl, hb⟩)
     exact hK20247.out _ _ (hHeld.call hb) (fun _ => unhide HOUT _ _ _ _ (C20 u g27 g30 g33 g35 g38 g41 g44 g47 g50 g53 g56 _ (bt_ GD hb) (r27.call hb) (r30.call hb) (r33.call hb) (r35.call hb) (r38.call hb) (r41.call hb) (r44.call hb) (r47.call hb) (r50.call hb) (r53.call hb) (r56.call hb)))
   refine AllReadyH.cons rfl (fun K20248 hK20248 => ?_) ?_
   · go_simp
     have hb := below_new X o64
     have r64 := nb64 X
     refine hK20248.out _ _ (hHeld.call hb) (fun hH => ?_)
     clear hHeld hK20248 K20248
     refine wpAnyH_take (i := 41) (oi := ?o20249) (v := ?v20249) ?h20249 (by kernel_rfl) (by kernel_rfl) (by kernel_rfl) (fun _ _ _ h => h) (Or.inl ⟨?w20249, ?y20249⟩) hH ?r20249
     case h20249 => simp only [List.getElem?_toArray, List.getElem?_cons_zero, List.getElem?_cons_succ]; rfl
     case w20249 => rfl
     case y20249 => intro _ _; go_simp; with_reducible rfl
     simp only [Act.put, List.setIfInBounds_toArray, List.set_cons_zero, List.set_cons_succ]
     exact unhide HOUT _ _ _ _ (C1924_ u g27 g30 g33 g35 g38 g41 g44 g47 g50 g53 g56 _ _ (bt_ GD hb) (r27.call hb) (r30.call hb) (r33.call hb) (r35.call hb) (r38.call hb) (r41.call hb) (r44.call hb) (r47.call hb) (r50.call hb) (r53.call hb) (r56.call hb) r64)
   refine AllReadyH.cons rfl (fun K20250 hK20250 => ?_) AllReadyH.nil
   · go_simp
     have hb := below_new X o70
     have r70 := nb70 X
     refine hK20250.out _ _ (hHeld.call hb) (fun hH => ?_)
     clear hHeld hK20250 K20250
     refine wpAnyH_take (i := 47) (oi := ?o20251) (v := ?v20251) ?h20251 (by kernel_rfl) (by kernel_rfl) (by kernel_rfl) (fun _ _ _ h => h) (Or.inl ⟨?w20251, ?y20251⟩) hH ?r20251
     case h20251 => simp only [List.getElem?_toArray, List.getElem?_cons_zero, List.getElem?_cons_succ]; rfl
     case w20251 => rfl
     case y20251 => intro _ _; go_simp; with_reducible rfl
     simp only [Act.put, List.setIfInBounds_toArray, List.set_cons_zero, List.set_cons_succ]
     exact unhide HOUT _ _ _ _ (C1925_ u g27 g30 g33 g35 g38 g41 g44 g47 g50 g53 g56 _ _ (bt_ GD hb) (r27.call hb) (r30.call hb) (r33.call hb) (r35.call hb) (r38.call hb) (r41.call hb) (r44.call hb) (r47.call hb) (r50.call hb) (r53.call hb) (r56.call hb) r70)
  exact ⟨C1924_25_, C1924_, C1925_, C19⟩
set_option maxHeartbeats 64000000 in
set_option maxRecDepth 100000 in
theorem er6p20 {r0 r1 r2 r3 r4 rest : Code} {id6 : Nat} {ops : Array Oper} (hc : Try.f7.body = some (.seq r0 (.seq r1 (.seq r2 (.seq r3 (.seq r4 (.seq (.region id6 ops true) rest))))))) (which : Int) (bt b4 b5 b6 b7 : Nat) (Wd : World) (GG : Nat → Array Bool → Act → World → Prop) (hS : Hid (SE b4 b5 b6 b7 Wd)) (Q : Exit → Act → World → Prop) (HIN : Hid (∀ f l a w, wpAnyH Try.prog .any ops (NoPanic Q) (SE b4 b5 b6 b7) f l a w → GG f l a w)) (HOUT : Hid (∀ f l a w, GG f l a w → wpAnyH Try.prog .any ops (NoPanic Q) (SE b4 b5 b6 b7) f l a w)) (C2124_25_ : frEC2124_25_ which bt b4 b5 b6 b7 Wd GG) (C2124_ : frEC2124_ which bt b4 b5 b6 b7 Wd GG) (C2125_ : frEC2125_ which bt b4 b5 b6 b7 Wd GG) (C21 : frEC21 which bt b4 b5 b6 b7 Wd GG) : frEC2024_25_ which bt b4 b5 b6 b7 Wd GG ∧ frEC2024_ which bt b4 b5 b6 b7 Wd GG ∧ frEC2025_ which bt b4 b5 b6 b7 Wd GG ∧ frEC20 which bt b4 b5 b6 b7 Wd GG := by
  unfold Try.f7 at hc
  cases hc
  have C2024_25_ : frEC2024_25_ which bt b4 b5 b6 b7 Wd GG := by
   intro u g27 g30 g33 g35 g38 g41 g44 g47 g50 g53 g56 g64 g70 X GD r27 r30 r33 r35 r38 r41 r44 r47 r50 r53 r56 r64 r70
   refine unhide HIN _ _ _ _ ?_
   unfold frE
   have hHeld := (unhide hS).call GD
   refine wpAnyH_ready (rs := [35]) (by kernel_rfl) (by simp) ?_
   refine AllReadyH.cons rfl (fun K20252 hK20252 => ?_) AllReadyH.nil
   go_simp
   go_wp2_with (go_at_call 26; refine (twoL_any _ e57 e58 _ _ _ rfl rfl).mono ?_; rintro e X2 ⟨g59, rfl, r59, hb⟩)
   exact hK20252.out _ _ (hHeld.call hb) (fun _ => unhide HOUT _ _ _ _ (C2124_25_ u g27 g30 g33 g35 g38 g41 g44 g47 g50 g53 g56 _ g64 g70 _ (bt_ GD hb) (r27.call hb) (r30.call hb) (r33.call hb) (r35.call hb) (r38.call hb) (r41.call hb) (r44.call hb) (r47.call hb) (r50.call hb) (r53.call hb) (r56.call hb) r59 (r64.call hb) (r70.call hb)))
  have C2024_ : frEC2024_ which bt b4 b5 b6 b7 Wd GG := by
   intro u g27 g30 g33 g35 g38 g41 g44 g47 g50 g53 g56 g64 X GD r27 r30 r33 r35 r38 r41 r44 r47 r50 r53 r56 r64
   refine unhide HIN _ _ _ _ ?_
   unfold frE
   have hHeld := (unhide hS).call GD
   refine wpAnyH_ready (rs := [35, 46]) (by kernel_rfl) (by simp) ?_
   refine AllReadyH.cons rfl (fun K20253 hK20253 => ?_) ?_
   · go_simp
     go_wp2_with (go_at_call 26; refine (twoL_any _ e57 e58 _ _ _ rfl rfl).mono ?_; rintro e X2 ⟨g59, rfl, r59, hb⟩)
     exact hK20253.out _ _ (hHeld.call hb) (fun _ => unhide HOUT _ _ _ _ (C2124_ u g27 g30 g33 g35 g38 g41 g44 g47 g50 g53 g56 _ g64 _ (bt_ GD hb) (r27.call hb) (r30.call hb) (r33.call hb) (r35.call hb) (r38.call hb) (r41.call hb) (r44.call hb) (r47.call hb) (r50.call hb) (r53.call hb) (r56.call hb) r59 (r64.call hb)))
   refine AllReadyH.cons rfl (fun K20254 hK20254 => ?_) AllReadyH.nil
   · go_simp
     have hb := below_new X o70
     have r70 := nb70 X
     refine hK20254.out _ _ (hHeld.call hb) (fun hH => ?_)
     clear hHeld hK20254 K20254
     refine wpAnyH_take (i := 47) (oi := ?o20255) (v := ?v20255) ?h20255 (by kernel_rfl) (by kernel_rfl) (by kernel_rfl) (fun _ _ _ h => h) (Or.inl ⟨?w20255, ?y20255⟩) hH ?r20255
     case h20255 => simp only [List.getElem?_toArray, List.getElem?_cons_zero, List.getElem?_cons_succ]; rfl
     case w20255 => rfl
     case y20255 => intro _ _; go_simp; with_reducible rfl
     simp only [Act.put, List.setIfInBounds_toArray, List.set_cons_zero, List.set_cons_succ]
     exact unhide HOUT _ _ _ _ (C2024_25_ u g27 g30 g33 g35 g38 g41 g44 g47 g50 g53 g56 g64 _ _ (bt_ GD hb) (r27.call hb) (r30.call hb) (r33.call hb) (r35.call hb) (r38.call hb) (r41.call hb) (r44.call hb) (r47.call hb) (r50.call hb) (r53.call hb) (r56.call hb) (r64.call hb) r70)
  have C2025_ : frEC2025_ which bt b4 b5 b6 b7 Wd GG := by
   intro u g27 g30 g33 g35 g38 g41 g44 g47 g50 g53 g56 g70 X GD r27 r30 r33 r35 r38 r41 r44 r47 r50 r53 r56 r70
   refine unhide HIN _ _ _ _ ?_
   unfold frE
   have hHeld := (unhide hS).call GD
   refine wpAnyH_ready (rs := [35, 40]) (by kernel_rfl) (by simp) ?_
   refine AllReadyH.cons rfl (fun K20256 hK20256 => ?_) ?_
   · go_simp
     go_wp2_with (go_at_call 26; refine (twoL_any _ e57 e58 _ _ _ rfl rfl).mono ?_; rintro e X2 ⟨g59, rfl, r59, hb⟩)
     exact hK20256.out _ _ (hHeld.call hb) (fun _ => unhide HOUT _ _ _ _ (C2125_ u g27 g30 g33 g35 g38 g41 g44 g47 g50 g53 g56 _ g70 _ (bt_ GD hb) (r27.call hb) (r30.call hb) (r33.call hb) (r35.call hb) (r38.call hb) (r41.call hb) (r44.call hb) (r47.call hb) (r50.call hb) (r53.call hb) (r56.call hb) r59 (r70.call hb)))
   refine AllReadyH.cons rfl (fun K20257 hK20257 => ?_) AllReadyH.nil
   · go_simp
     have hb := below_new X o64
     have r64 := nb64 X
     refine hK20257.out _ _ (hHeld.call hb) (fun hH => ?_)
     clear hHeld hK20257 K20257
     refine wpAnyH_take (i := 41) (oi := ?o20258) (v := ?v20258) ?h20258 (by kernel_rfl) (by kernel_rfl) (by kernel_rfl) (fun _ _ _ h => h) (Or.inl ⟨?w20258, ?y20258⟩) hH ?r20258
     case h20258 => simp only [List.getElem?_toArray, List.getElem?_cons_zero, List.getElem?_cons_succ]; rfl
     case w20258 => rfl
     case y20258 => intro _ _; go_simp; with_reducible rfl
     simp only [Act.put, List.setIfInBounds_toArray, List.set_cons_zero, List.set_cons_succ]
     exact unhide HOUT _ _ _ _ (C2024_25_ u g27 g30 g33 g35 g38 g41 g44 g47 g50 g53 g56 _ g70 _ (bt_ GD hb) (r27.call hb) (r30.call hb) (r33.call hb) (r35.call hb) (r38.call hb) (r41.call hb) (r44.call hb) (r47.call hb) (r50.call hb) (r53.call hb) (r56.call hb) r64 (r70.call hb))
  have C20 : frEC20 which bt b4 b5 b6 b7 Wd GG := by
   intro u g27 g30 g33 g35 g38 g41 g44 g47 g50 g53 g56 X GD r27 r30 r33 r35 r38 r41 r44 r47 r50 r53 r56
   refine unhide HIN _ _ _ _ ?_
   unfold frE
   have hHeld := (unhide hS).call GD
   refine wpAnyH_ready (rs := [35, 40, 46]) (by kernel_rfl) (by simp) ?_
   refine AllReadyH.cons rfl (fun K20259 hK20259 => ?_) ?_
   · go_simp
     go_wp2_with (go_at_call 26; refine (twoL_any _ e57 e58 _ _ _ rfl rfl).mono ?_; rintro e X2 ⟨g59, rfl, r59, hb⟩)
     exact hK20259.out _ _ (hHeld.call hb) (fun _ => unhide HOUT _ _ _ _ (C21 u g27 g30 g33 g35 g38 g41 g44 g47 g50 g53 g56 _ _ (bt_ GD hb) (r27.call hb) (r30.call hb) (r33.call hb) (r35.call hb) (r38.call hb) (r41.call hb) (r44.call hb) (r47.call hb) (r50.call hb) (r53.call hb) (r56.call hb) r59))
   refine AllReadyH.cons rfl (fun K20260 hK20260 => ?_) ?_
   · go_simp
     have hb := below_new X o64
     have r64 := nb64 X
     refine hK20260.out _ _ (hHeld.call hb) (fun hH => ?_)
     clear hHeld hK20260 K20260
     refine wpAnyH_take (i := 41) (oi := ?o20261) (v := ?v20261) ?h20261 (by kernel_rfl) (by kernel_rfl) (by kernel_rfl) (fun _ _ _ h => h) (Or.inl ⟨?w20261, ?y20261⟩) hH ?r20261
     case h20261 => simp only [List.getElem?_toArray, List.getElem?_cons_zero, List.getElem?_cons_succ]; rfl
     case w20261 => rfl
     case y20261 => intro _ _; go_simp; with_reducible rfl
     simp only [Act.put, List.setIfInBounds_toArray, List.set_cons_zero, List.set_cons_succ]
     exact unhide HOUT _ _ _ _ (C2024_ u g27 g30 g33 g35 g38 g41 g44 g47 g50 g53 g56 _ _ (bt_ GD hb) (r27.call hb) (r30.call hb) (r33.call hb) (r35.call hb) (r38.call hb) (r41.call hb) (r44.call hb) (r47.call hb) (r50.call hb) (r53.call hb) (r56.call hb) r64)
   refine AllReadyH.cons rfl (fun K20262 hK20262 => ?_) AllReadyH.nil
   · go_simp
     have hb := below_new X o70
     have r70 := nb70 X
     refine hK20262.out _ _ (hHeld.call hb) (fun hH => ?_)
     clear hHeld hK20262 K20262
     refine wpAnyH_take (i := 47) (oi := ?o20263) (v := ?v20263) ?h20263 (by kernel_rfl) (by kernel_rfl) (by kernel_rfl) (fun _ _ _ h => h) (Or.inl ⟨?w20263, ?y20263⟩) hH ?r20263
     case h20263 => simp only [List.getElem?_toArray, List.getElem?_cons_zero, List.getElem?_cons_succ]; rfl
     case w20263 => rfl
     case y20263 => intro _ _; go_simp; with_reducible rfl
     simp only [Act.put, List.setIfInBounds_toArray, List.set_cons_zero, List.set_cons_succ]
     exact unhide HOUT _ _ _ _ (C2025_ u g27 g30 g33 g35 g38 g41 g44 g47 g50 g53 g56 _ _ (bt_ GD hb) (r27.call hb) (r30.call hb) (r33.call hb) (r35.call hb) (r38.call hb) (r41.call hb) (r44.call hb) (r47.call hb) (r50.call hb) (r53.call hb) (r56.call hb) r70)
  exact ⟨C2024_25_, C2024_, C2025_, C20⟩
set_option maxHeartbeats 64000000 in
set_option maxRecDepth 100000 in
theorem er6p21 {r0 r1 r2 r3 r4 rest : Code} {id6 : Nat} {ops : Array Oper} (hc : Try.f7.body = some (.seq r0 (.seq r1 (.seq r2 (.seq r3 (.seq r4 (.seq (.region id6 ops true) rest))))))) (which : Int) (bt b4 b5 b6 b7 : Nat) (Wd : World) (GG : Nat → Array Bool → Act → World → Prop) (hS : Hid (SE b4 b5 b6 b7 Wd)) (Q : Exit → Act → World → Prop) (HIN : Hid (∀ f l a w, wpAnyH Try.prog .any ops (NoPanic Q) (SE b4 b5 b6 b7) f l a w → GG f l a w)) (HOUT : Hid (∀ f l a w, GG f l a w → wpAnyH Try.prog .any ops (NoPanic Q) (SE b4 b5 b6 b7) f l a w)) (C2224_25_ : frEC2224_25_ which bt b4 b5 b6 b7 Wd GG) (C2224_ : frEC2224_ which bt b4 b5 b6 b7 Wd GG) (C2225_ : frEC2225_ which bt b4 b5 b6 b7 Wd GG) (C22 : frEC22 which bt b4 b5 b6 b7 Wd GG) : frEC2124_25_ which bt b4 b5 b6 b7 Wd GG ∧ frEC2124_ which bt b4 b5 b6 b7 Wd GG ∧ frEC2125_ which bt b4 b5 b6 b7 Wd GG ∧ frEC21 which bt b4 b5 b6 b7 Wd GG := by
  unfold Try.f7 at hc
  cases hc
  have C2124_25_ : frEC2124_25_ which bt b4 b5 b6 b7 Wd GG := by
   intro u g27 g30 g33 g35 g38 g41 g44 g47 g50 g53 g56 g59 g64 g70 X GD r27 r30 r33 r35 r38 r41 r44 r47 r50 r53 r56 r59 r64 r70
   refine unhide HIN _ _ _ _ ?_
   unfold frE
   have hHeld := (unhide hS).call GD
   refine wpAnyH_ready (rs := [36]) (by kernel_rfl) (by simp) ?_
   refine AllReadyH.cons rfl (fun K20264 hK20264 => ?_) AllReadyH.nil
   go_simp
   go_wp2_with (go_at_call 27; refine (colL_any _ _).mono ?_; rintro e X2 ⟨rfl, hb⟩)
   exact hK20264.out _ _ (hHeld.call hb) (fun _ => unhide HOUT _ _ _ _ (C2224_25_ u g27 g30 g33 g35 g38 g41 g44 g47 g50 g53 g56 g59 g64 g70 _ (bt_ GD hb) (r27.call hb) (r30.call hb) (r33.call hb) (r35.call hb) (r38.call hb) (r41.call hb) (r44.call hb) (r47.call hb) (r50.call hb) (r53.call hb) (r56.call hb) (r59.call hb) (r64.call hb) (r70.call hb)))
  have C2124_ : frEC2124_ which bt b4 b5 b6 b7 Wd GG := by
   intro u g27 g30 g33 g35 g38 g41 g44 g47 g50 g53 g56 g59 g64 X GD r27 r30 r33 r35 r38 r41 r44 r47 r50 r53 r56 r59 r64
   refine unhide HIN _ _ _ _ ?_
   unfold frE
   have hHeld := (unhide hS).call GD
   refine wpAnyH_ready (rs := [36, 46]) (by kernel_rfl) (by simp) ?_
   refine AllReadyH.cons rfl (fun K20265 hK20265 => ?_) ?_
   · go_simp
     go_wp2_with (go_at_call 27; refine (colL_any _ _).mono ?_; rintro e X2 ⟨rfl, hb⟩)
     exact hK20265.out _ _ (hHeld.call hb) (fun _ => unhide HOUT _ _ _ _ (C2224_ u g27 g30 g33 g35 g38 g41 g44 g47 g50 g53 g56 g59 g64 _ (bt_ GD hb) (r27.call hb) (r30.call hb) (r33.call hb) (r35.call hb) (r38.call hb) (r41.call hb) (r44.call hb) (r47.call hb) (r50.call hb) (r53.call hb) (r56.call hb) (r59.call hb) (r64.call hb)))
   refine AllReadyH.cons rfl (fun K20266 hK20266 => ?_) AllReadyH.nil
   · go_simp
     have hb := below_new X o70
     have r70 := nb70 X
     refine hK20266.out _ _ (hHeld.call hb) (fun hH => ?_)
     clear hHeld hK20266 K20266
     refine wpAnyH_take (i := 47) (oi := ?o20267) (v := ?v20267) ?h20267 (by kernel_rfl) (by kernel_rfl) (by kernel_rfl) (fun _ _ _ h => h) (Or.inl ⟨?w20267, ?y20267⟩) hH ?r20267
     case h20267 => simp only [List.getElem?_toArray, List.getElem?_cons_zero, List.getElem?_cons_succ]; rfl
     case w20267 => rfl
     case y20267 => intro _ _; go_simp; with_reducible rfl
     simp only [Act.put, List.setIfInBounds_toArray, List.set_cons_zero, List.set_cons_succ]
     exact unhide HOUT _ _ _ _ (C2124_25_ u g27 g30 g33 g35 g38 g41 g44 g47 g50 g53 g56 g59 g64 _ _ (bt_ GD hb) (r27.call hb) (r30.call hb) (r33.call hb) (r35.call hb) (r38.call hb) (r41.call hb) (r44.call hb) (r47.call hb) (r50.call hb) (r53.call hb) (r56.call hb) (r59.call hb) (r64.call hb) r70)
  have C2125_ : frEC2125_ which bt b4 b5 b6 b7 Wd GG := by
   intro u g27 g30 g33 g35 g38 g41 g44 g47 g50 g53 g56 g59 g70 X GD r27 r30 r33 r35 r38 r41 r44 r47 r50 r53 r56 r59 r70
   refine unhide HIN _ _ _ _ ?_
   unfold frE
   have hHeld := (unhide hS).call GD
   refine wpAnyH_ready (rs := [36, 40]) (by kernel_rfl) (by simp) ?_
   refine AllReadyH.cons rfl (fun K20268 hK20268 => ?_) ?_
   · go_simp
     go_wp2_with (go_at_call 27; refine (colL_any _ _).mono ?_; rintro e X2 ⟨rfl, hb⟩)
     exact hK20268.out _ _ (hHeld.call hb) (fun _ => unhide HOUT _ _ _ _ (C2225_ u g27 g30 g33 g35 g38 g41 g44 g47 g50 g53 g56 g59 g70 _ (bt_ GD hb) (r27.call hb) (r30.call hb) (r33.call hb) (r35.call hb) (r38.call hb) (r41.call hb) (r44.call hb) (r47.call hb) (r50.call hb) (r53.call hb) (r56.call hb) (r59.call hb) (r70.call hb)))
   refine AllReadyH.cons rfl (fun K20269 hK20269 => ?_) AllReadyH.nil
   · go_simp
     have hb := below_new X o64
     have r64 := nb64 X
     refine hK20269.out _ _ (hHeld.call hb) (fun hH => ?_)
     clear hHeld hK20269 K20269
     refine wpAnyH_take (i := 41) (oi := ?o20270) (v := ?v20270) ?h20270 (by kernel_rfl) (by kernel_rfl) (by kernel_rfl) (fun _ _ _ h => h) (Or.inl ⟨?w20270, ?y20270⟩) hH ?r20270
     case h20270 => simp only [List.getElem?_toArray, List.getElem?_cons_zero, List.getElem?_cons_succ]; rfl
     case w20270 => rfl
     case y20270 => intro _ _; go_simp; with_reducible rfl
     simp only [Act.put, List.setIfInBounds_toArray, List.set_cons_zero, List.set_cons_succ]
     exact unhide HOUT _ _ _ _ (C2124_25_ u g27 g30 g33 g35 g38 g41 g44 g47 g50 g53 g56 g59 _ g70 _ (bt_ GD hb) (r27.call hb) (r30.call hb) (r33.call hb) (r35.call hb) (r38.call hb) (r41.call hb) (r44.call hb) (r47.call hb) (r50.call hb) (r53.call hb) (r56.call hb) (r59.call hb) r64 (r70.call hb))
  have C21 : frEC21 which bt b4 b5 b6 b7 Wd GG := by
   intro u g27 g30 g33 g35 g38 g41 g44 g47 g50 g53 g56 g59 X GD r27 r30 r33 r35 r38 r41 r44 r47 r50 r53 r56 r59
   refine unhide HIN _ _ _ _ ?_
   unfold frE
   have hHeld := (unhide hS).call GD
   refine wpAnyH_ready (rs := [36, 40, 46]) (by kernel_rfl) (by simp) ?_
   refine AllReadyH.cons rfl (fun K20271 hK20271 => ?_) ?_
   · go_simp
     go_wp2_with (go_at_call 27; refine (colL_any _ _).mono ?_; rintro e X2 ⟨rfl, hb⟩)
     exact hK20271.out _ _ (hHeld.call hb) (fun _ => unhide HOUT _ _ _ _ (C22 u g27 g30 g33 g35 g38 g41 g44 g47 g50 g53 g56 g59 _ (bt_ GD hb) (r27.call hb) (r30.call hb) (r33.call hb) (r35.call hb) (r38.call hb) (r41.call hb) (r44.call hb) (r47.call hb) (r50.call hb) (r53.call hb) (r56.call hb) (r59.call hb)))
   refine AllReadyH.cons rfl (fun K20272 hK20272 => ?_) ?_
   · go_simp
     have hb := below_new X o64
     have r64 := nb64 X
     refine hK20272.out _ _ (hHeld.call hb) (fun hH => ?_)
     clear hHeld hK20272 K20272
     refine wpAnyH_take (i := 41) (oi := ?o20273) (v := ?v20273) ?h20273 (by kernel_rfl) (by kernel_rfl) (by kernel_rfl) (fun _ _ _ h => h) (Or.inl ⟨?w20273, ?y20273⟩) hH ?r20273
     case h20273 => simp only [List.getElem?_toArray, List.getElem?_cons_zero, List.getElem?_cons_succ]; rfl
     case w20273 => rfl
     case y20273 => intro _ _; go_simp; with_reducible rfl
     simp only [Act.put, List.setIfInBounds_toArray, List.set_cons_zero, List.set_cons_succ]
     exact unhide HOUT _ _ _ _ (C2124_ u g27 g30 g33 g35 g38 g41 g44 g47 g50 g53 g56 g59 _ _ (bt_ GD hb) (r27.call hb) (r30.call hb) (r33.call hb) (r35.call hb) (r38.call hb) (r41.call hb) (r44.call hb) (r47.call hb) (r50.call hb) (r53.call hb) (r56.call hb) (r59.call hb) r64)
   refine AllReadyH.cons rfl (fun K20274 hK20274 => ?_) AllReadyH.nil
   · go_simp
     have hb := below_new X o70
     have r70 := nb70 X
     refine hK20274.out _ _ (hHeld.call hb) (fun hH => ?_)
     clear hHeld hK20274 K20274
     refine wpAnyH_take (i := 47) (oi := ?o20275) (v := ?v20275) ?h20275 (by kernel_rfl) (by kernel_rfl) (by kernel_rfl) (fun _ _ _ h => h) (Or.inl ⟨?w20275, ?y20275⟩) hH ?r20275
     case h20275 => simp only [List.getElem?_toArray, List.getElem?_cons_zero, List.getElem?_cons_succ]; rfl
     case w20275 => rfl
     case y20275 => intro _ _; go_simp; with_reducible rfl
     simp only [Act.put, List.setIfInBounds_toArray, List.set_cons_zero, List.set_cons_succ]
     exact unhide HOUT _ _ _ _ (C2125_ u g27 g30 g33 g35 g38 g41 g44 g47 g50 g53 g56 g59 _ _ (bt_ GD hb) (r27.call hb) (r30.call hb) (r33.call hb) (r35.call hb) (r38.call hb) (r41.call hb) (r44.call hb) (r47.call hb) (r50.call hb) (r53.call hb) (r56.call hb) (r59.call hb) r70)
  exact ⟨C2124_25_, C2124_, C2125_, C21⟩
set_option maxHeartbeats 64000000 in
set_option maxRecDepth 100000 in
theorem er6p22 {r0 r1 r2 r3 r4 rest : Code} {id6 : Nat} {ops : Array Oper} (hc : Try.f7.body = some (.seq r0 (.seq r1 (.seq r2 (.seq r3 (.seq r4 (.seq (.region id6 ops true) rest))))))) (which : Int) (bt b4 b5 b6 b7 : Nat) (Wd : World) (GG : Nat → Array Bool → Act → World → Prop) (hS : Hid (SE b4 b5 b6 b7 Wd)) (Q : Exit → Act → World → Prop) (HIN : Hid (∀ f l a w, wpAnyH Try.prog .any ops (NoPanic Q) (SE b4 b5 b6 b7) f l a w → GG f l a w)) (HOUT : Hid (∀ f l a w, GG f l a w → wpAnyH Try.prog .any ops (NoPanic Q) (SE b4 b5 b6 b7) f l a w)) (C2324_25_ : frEC2324_25_ which bt b4 b5 b6 b7 Wd GG) (C2324_ : frEC2324_ which bt b4 b5 b6 b7 Wd GG) (C2325_ : frEC2325_ which bt b4 b5 b6 b7 Wd GG) (C23 : frEC23 which bt b4 b5 b6 b7 Wd GG) : frEC2224_25_ which bt b4 b5 b6 b7 Wd GG ∧ frEC2224_ which bt b4 b5 b6 b7 Wd GG ∧ frEC2225_ which bt b4 b5 b6 b7 Wd GG ∧ frEC22 which bt b4 b5 b6 b7 Wd GG := by
  unfold Try.f7 at hc
  cases hc
  have C2224_25_ : frEC2224_25_ which bt b4 b5 b6 b7 Wd GG := by
   intro u g27 g30 g33 g35 g38 g41 g44 g47 g50 g53 g56 g59 g64 g70 X GD r27 r30 r33 r35 r38 r41 r44 r47 r50 r53 r56 r59 r64 r70
   refine unhide HIN _ _ _ _ ?_
   unfold frE
   have hHeld := (unhide hS).call GD
   refine wpAnyH_ready (rs := [38]) (by kernel_rfl) (by simp) ?_
   refine AllReadyH.cons rfl (fun K20276 hK20276 => ?_) AllReadyH.nil
   go_simp
   go_wp2_with (go_at_call 26; refine (twoL_any _ e60 xTxt _ _ _ rfl rfl).mono ?_; rintro e X2 ⟨g62, rfl, r62, hb⟩)
   exact hK20276.out _ _ (hHeld.call hb) (fun _ => unhide HOUT _ _ _ _ (C2324_25_ u g27 g30 g33 g35 g38 g41 g44 g47 g50 g53 g56 g59 _ g64 g70 _ (bt_ GD hb) (r27.call hb) (r30.call hb) (r33.call hb) (r35.call hb) (r38.call hb) (r41.call hb) (r44.call hb) (r47.call hb) (r50.call hb) (r53.call hb) (r56.call hb) (r59.call hb) r62 (r64.call hb) (r70.call hb)))
  have C2224_ : frEC2224_ which bt b4 b5 b6 b7 Wd GG := by
   intro u g27 g30 g33 g35 g38 g41 g44 g47 g50 g53 g56 g59 g64 X GD r27 r30 r33 r35 r38 r41 r44 r47 r50 r53 r56 r59 r64
   refine unhide HIN _ _ _ _ ?_
   unfold frE
   have hHeld := (unhide hS).call GD
   refine wpAnyH_ready (rs := [38, 46]) (by kernel_rfl) (by simp) ?_
   refine AllReadyH.cons rfl (fun K20277 hK20277 => ?_) ?_
   · go_simp
     go_wp2_with (go_at_call 26; refine (twoL_any _ e60 xTxt _ _ _ rfl rfl).mono ?_; rintro e X2 ⟨g62, rfl, r62, hb⟩)
     exact hK20277.out _ _ (hHeld.call hb) (fun _ => unhide HOUT _ _ _ _ (C2324_ u g27 g30 g33 g35 g38 g41 g44 g47 g50 g53 g56 g59 _ g64 _ (bt_ GD hb) (r27.call hb) (r30.call hb) (r33.call hb) (r35.call hb) (r38.call hb) (r41.call hb) (r44.call hb) (r47.call hb) (r50.call hb) (r53.call hb) (r56.call hb) (r59.call hb) r62 (r64.call hb)))
   refine AllReadyH.cons rfl (fun K20278 hK20278 => ?_) AllReadyH.nil
   · go_simp
     have hb := below_new X o70
     have r70 := nb70 X
     refine hK20278.out _ _ (hHeld.call hb) (fun hH => ?_)
     clear hHeld hK20278 K20278
     refine wpAnyH_take (i := 47) (oi := ?o20279) (v := ?v20279) ?h20279 (by kernel_rfl) (by kernel_rfl) (by kernel_rfl) (fun _ _ _ h => h) (Or.inl ⟨?w20279, ?y20279⟩) hH ?r20279
     case h20279 => simp only [List.getElem?_toArray, List.getElem?_cons_zero, List.getElem?_cons_succ]; rfl
     case w20279 => rfl
     case y20279 => intro _ _; go_simp; with_reducible rfl
     simp only [Act.put, List.setIfInBounds_toArray, List.set_cons_zero, List.set_cons_succ]
     exact unhide HOUT _ _ _ _ (C2224_25_ u g27 g30 g33 g35 g38 g41 g44 g47 g50 g53 g56 g59 g64 _ _ (bt_ GD hb) (r27.call hb) (r30.call hb) (r33.call hb) (r35.call hb) (r38.call hb) (r41.call hb) (r44.call hb) (r47.call hb) (r50.call hb) (r53.call hb) (r56.call hb) (r59.call hb) (r64.call hb) r70)
  have C2225_ : frEC2225_ which bt b4 b5 b6 b7 Wd GG := by
   intro u g27 g30 g33 g35 g38 g41 g44 g47 g50 g53 g56 g59 g70 X GD r27 r30 r33 r35 r38 r41 r44 r47 r50 r53 r56 r59 r70
   refine unhide HIN _ _ _ _ ?_
   unfold frE
   have hHeld := (unhide hS).call GD
   refine wpAnyH_ready (rs := [38, 40]) (by kernel_rfl) (by simp) ?_
   refine AllReadyH.cons rfl (fun K20280 hK20280 => ?_) ?_
   · go_simp
     go_wp2_with (go_at_call 26; refine (twoL_any _ e60 xTxt _ _ _ rfl rfl).mono ?_; rintro e X2 ⟨g62, rfl, r62, hb⟩)
     exact hK20280.out _ _ (hHeld.call hb) (fun _ => unhide HOUT _ _ _ _ (C2325_ u g27 g30 g33 g35 g38 g41 g44 g47 g50 g53 g56 g59 _ g70 _ (bt_ GD hb) (r27.call hb) (r30.call hb) (r33.call hb) (r35.call hb) (r38.call hb) (r41.call hb) (r44.call hb) (r47.call hb) (r50.call hb) (r53.call hb) (r56.call hb) (r59.call hb) r62 (r70.call hb)))
   refine AllReadyH.cons rfl (fun K20281 hK20281 => ?_) AllReadyH.nil
   · go_simp
     have hb := below_new X o64
     have r64 := nb64 X
     refine hK20281.out _ _ (hHeld.call hb) (fun hH => ?_)
     clear hHeld hK20281 K20281
     refine wpAnyH_take (i := 41) (oi := ?o20282) (v := ?v20282) ?h20282 (by kernel_rfl) (by kernel_rfl) (by kernel_rfl) (fun _ _ _ h => h) (Or.inl ⟨?w20282, ?y20282⟩) hH ?r20282
     case h20282 => simp only [List.getElem?_toArray, List.getElem?_cons_zero, List.getElem?_cons_succ]; rfl
     case w20282 => rfl
     case y20282 => intro _ _; go_simp; with_reducible rfl
     simp only [Act.put, List.setIfInBounds_toArray, List.set_cons_zero, List.set_cons_succ]
     exact unhide HOUT _ _ _ _ (C2224_25_ u g27 g30 g33 g35 g38 g41 g44 g47 g50 g53 g56 g59 _ g70 _ (bt_ GD hb) (r27.call hb) (r30.call hb) (r33.call hb) (r35.call hb) (r38.call hb) (r41.call hb) (r44.call hb) (r47.call hb) (r50.call hb) (r53.call hb) (r56.call hb) (r59.call hb) r64 (r70.call hb))
  have C22 : frEC22 which bt b4 b5 b6 b7 Wd GG := by
   intro u g27 g30 g33 g35 g38 g41 g44 g47 g50 g53 g56 g59 X GD r27 r30 r33 r35 r38 r41 r44 r47 r50 r53 r56 r59
   refine unhide HIN _ _ _ _ ?_
   unfold frE
   have hHeld := (unhide hS).call GD
   refine wpAnyH_ready (rs := [38, 40, 46]) (by kernel_rfl) (by simp) ?_
   refine AllReadyH.cons rfl (fun K20283 hK20283 => ?_) ?_
   · go_simp
     go_wp2_with (go_at_call 26; refine (twoL_any _ e60 xTxt _ _ _ rfl rfl).mono ?_; rintro e X2 ⟨g62, rfl, r62, hb⟩)
     exact hK20283.out _ _ (hHeld.call hb) (fun _ => unhide HOUT _ _ _ _ (C23 u g27 g30 g33 g35 g38 g41 g44 g47 g50 g53 g56 g59 _ _ (bt_ GD hb) (r27.call hb) (r30.call hb) (r33.call hb) (r35.call hb) (r38.call hb) (r41.call hb) (r44.call hb) (r47.call hb) (r50.call hb) (r53.call hb) (r56.call hb) (r59.call hb) r62))
   refine AllReadyH.cons rfl (fun K20284 hK20284 => ?_) ?_
   · go_simp
     have hb := below_new X o64
     have r64 := nb64 X
     refine hK20284.out _ _ (hHeld.call hb) (fun hH => ?_)
     clear hHeld hK20284 K20284
     refine wpAnyH_take (i := 41) (oi := ?o20285) (v := ?v20285) ?h20285 (by kernel_rfl) (by kernel_rfl) (by kernel_rfl) (fun _ _ _ h => h) (Or.inl ⟨?w20285, ?y20285⟩) hH ?r20285
     case h20285 => simp only [List.getElem?_toArray, List.getElem?_cons_zero, List.getElem?_cons_succ]; rfl
     case w20285 => rfl
     case y20285 => intro _ _; go_simp; with_reducible rfl
     simp only [Act.put, List.setIfInBounds_toArray, List.set_cons_zero, List.set_cons_succ]
     exact unhide HOUT _ _ _ _ (C2224_ u g27 g30 g33 g35 g38 g41 g44 g47 g50 g53 g56 g59 _ _ (bt_ GD hb) (r27.call hb) (r30.call hb) (r33.call hb) (r35.call hb) (r38.call hb) (r41.call hb) (r44.call hb) (r47.call hb) (r50.call hb) (r53.call hb) (r56.call hb) (r59.call hb) r64)
   refine AllReadyH.cons rfl (fun K20286 hK20286 => ?_) AllReadyH.nil
   · go_simp
     have hb := below_new X o70
     have r70 := nb70 X
     refine hK20286.out _ _ (hHeld.call hb) (fun hH => ?_)
     clear hHeld hK20286 K20286
     refine wpAnyH_take (i := 47) (oi := ?o20287) (v := ?v20287) ?h20287 (by kernel_rfl) (by kernel_rfl) (by kernel_rfl) (fun _ _ _ h => h) (Or.inl ⟨?w20287, ?y20287⟩) hH ?r20287
     case h20287 => simp only [List.getElem?_toArray, List.getElem?_cons_zero, List.getElem?_cons_succ]; rfl
     case w20287 => rfl
     case y20287 => intro _ _; go_simp; with_reducible rfl
     simp only [Act.put, List.setIfInBounds_toArray, List.set_cons_zero, List.set_cons_succ]
     exact unhide HOUT _ _ _ _ (C2225_ u g27 g30 g33 g35 g38 g41 g44 g47 g50 g53 g56 g59 _ _ (bt_ GD hb) (r27.call hb) (r30.call hb) (r33.call hb) (r35.call hb) (r38.call hb) (r41.call hb) (r44.call hb) (r47.call hb) (r50.call hb) (r53.call hb) (r56.call hb) (r59.call hb) r70)
  exact ⟨C2224_25_, C2224_, C2225_, C22⟩
set_option maxHeartbeats 64000000 in
set_option maxRecDepth 100000 in
theorem er6p23 {r0 r1 r2 r3 r4 rest : Code} {id6 : Nat} {ops : Array Oper} (hc : Try.f7.body = some (.seq r0 (.seq r1 (.seq r2 (.seq r3 (.seq r4 (.seq (.region id6 ops true) rest))))))) (which : Int) (bt b4 b5 b6 b7 : Nat) (Wd : World) (GG : Nat → Array Bool → Act → World → Prop) (hS : Hid (SE b4 b5 b6 b7 Wd)) (Q : Exit → Act → World → Prop) (HIN : Hid (∀ f l a w, wpAnyH Try.prog .any ops (NoPanic Q) (SE b4 b5 b6 b7) f l a w → GG f l a w)) (HOUT : Hid (∀ f l a w, GG f l a w → wpAnyH Try.prog .any ops (NoPanic Q) (SE b4 b5 b6 b7) f l a w)) (C2424_25_ : frEC2424_25_ which bt b4 b5 b6 b7 Wd GG) (C2424_ : frEC2424_ which bt b4 b5 b6 b7 Wd GG) (C2425_ : frEC2425_ which bt b4 b5 b6 b7 Wd GG) (C24 : frEC24 which bt b4 b5 b6 b7 Wd GG) : frEC2324_25_ which bt b4 b5 b6 b7 Wd GG ∧ frEC2324_ which bt b4 b5 b6 b7 Wd GG ∧ frEC2325_ which bt b4 b5 b6 b7 Wd GG ∧ frEC23 which bt b4 b5 b6 b7 Wd GG := by
  unfold Try.f7 at hc
  cases hc
  have C2324_25_ : frEC2324_25_ which bt b4 b5 b6 b7 Wd GG := by
   intro u g27 g30 g33 g35 g38 g41 g44 g47 g50 g53 g56 g59 g62 g64 g70 X GD r27 r30 r33 r35 r38 r41 r44 r47 r50 r53 r56 r59 r62 r64 r70
   refine unhide HIN _ _ _ _ ?_
   unfold frE
   have hHeld := (unhide hS).call GD
   refine wpAnyH_ready (rs := [42]) (by kernel_rfl) (by simp) ?_
   refine AllReadyH.cons rfl (fun K20288 hK20288 => ?_) AllReadyH.nil
   go_simp
   go_wp2_with (go_at_call 27; refine (colL_any _ _).mono ?_; rintro e X2 ⟨rfl, hb⟩)
   exact hK20288.out _ _ (hHeld.call hb) (fun _ => unhide HOUT _ _ _ _ (C2424_25_ u g27 g30 g33 g35 g38 g41 g44 g47 g50 g53 g56 g59 g62 g64 g70 _ (bt_ GD hb) (r27.call hb) (r30.call hb) (r33.call hb) (r35.call hb) (r38.call hb) (r41.call hb) (r44.call hb) (r47.call hb) (r50.call hb) (r53.call hb) (r56.call hb) (r59.call hb) (r62.call hb) (r64.call hb) (r70.call hb)))
  have C2324_ : frEC2324_ which bt b4 b5 b6 b7 Wd GG := by
   intro u g27 g30 g33 g35 g38 g41 g44 g47 g50 g53 g56 g59 g62 g64 X GD r27 r30 r33 r35 r38 r41 r44 r47 r50 r53 r56 r59 r62 r64
   refine unhide HIN _ _ _ _ ?_
   unfold frE
   have hHeld := (unhide hS).call GD
   refine wpAnyH_ready (rs := [42, 46]) (by kernel_rfl) (by simp) ?_
   refine AllReadyH.cons rfl (fun K20289 hK20289 => ?_) ?_
   · go_simp
     go_wp2_with (go_at_call 27; refine (colL_any _ _).mono ?_; rintro e X2 ⟨rfl, hb⟩)
     exact hK20289.out _ _ (hHeld.call hb) (fun _ => unhide HOUT _ _ _ _ (C2424_ u g27 g30 g33 g35 g38 g41 g44 g47 g50 g53 g56 g59 g62 g64 _ (bt_ GD hb) (r27.call hb) (r30.call hb) (r33.call hb) (r35.call hb) (r38.call hb) (r41.call hb) (r44.call hb) (r47.call hb) (r50.call hb) (r53.call hb) (r56.call hb) (r59.call hb) (r62.call hb) (r64.call hb)))
   refine AllReadyH.cons rfl (fun K20290 hK20290 => ?_) AllReadyH.nil
   · go_simp
     have hb := below_new X o70
     have r70 := nb70 X
     refine hK20290.out _ _ (hHeld.call hb) (fun hH => ?_)
     clear hHeld hK20290 K20290
     refine wpAnyH_take (i := 47) (oi := ?o20291) (v := ?v20291) ?h20291 (by kernel_rfl) (by kernel_rfl) (by kernel_rfl) (fun _ _ _ h => h) (Or.inl ⟨?w20291, ?y20291⟩) hH ?r20291
     case h20291 => simp only [List.getElem?_toArray, List.getElem?_cons_zero, List.getElem?_cons_succ]; rfl
     case w20291 => rfl
     case y20291 => intro _ _; go_simp; with_reducible rfl
     simp only [Act.put, List.setIfInBounds_toArray, List.set_cons_zero, List.set_cons_succ]
     exact unhide HOUT _ _ _ _ (C2324_25_ u g27 g30 g33 g35 g38 g41 g44 g47 g50 g53 g56 g59 g62 g64 _ _ (bt_ GD hb) (r27.call hb) (r30.call hb) (r33.call hb) (r35.call hb) (r38.call hb) (r41.call hb) (r44.call hb) (r47.call hb) (r50.call hb) (r53.call hb) (r56.call hb) (r59.call hb) (r62.call hb) (r64.call hb) r70)
  have C2325_ : frEC2325_ which bt b4 b5 b6 b7 Wd GG := by
   intro u g27 g30 g33 g35 g38 g41 g44 g47 g50 g53 g56 g59 g62 g70 X GD r27 r30 r33 r35 r38 r41 r44 r47 r50 r53 r56 r59 r62 r70
   refine unhide HIN _ _ _ _ ?_
   unfold frE
   have hHeld := (unhide hS).call GD
   refine wpAnyH_ready (rs := [40, 42]) (by kernel_rfl) (by simp) ?_
   refine AllReadyH.cons rfl (fun K20292 hK20292 => ?_) ?_
   · go_simp
     have hb := below_new X o64
     have r64 := nb64 X
     refine hK20292.out _ _ (hHeld.call hb) (fun hH => ?_)
     clear hHeld hK20292 K20292
     refine wpAnyH_take (i := 41) (oi := ?o20293) (v := ?v20293) ?h20293 (by kernel_rfl) (by kernel_rfl) (by kernel_rfl) (fun _ _ _ h => h) (Or.inl ⟨?w20293, ?y20293⟩) hH ?r20293
     case h20293 => simp only [List.getElem?_toArray, List.getElem?_cons_zero, List.getElem?_cons_succ]; rfl
     case w20293 => rfl
     case y20293 => intro _ _; go_simp; with_reducible rfl
     simp only [Act.put, List.setIfInBounds_toArray, List.set_cons_zero, List.set_cons_succ]
     exact unhide HOUT _ _ _ _ (C2324_25_ u g27 g30 g33 g35 g38 g41 g44 g47 g50 g53 g56 g59 g62 _ g70 _ (bt_ GD hb) (r27.call hb) (r30.call hb) (r33.call hb) (r35.call hb) (r38.call hb) (r41.call hb) (r44.call hb) (r47.call hb) (r50.call hb) (r53.call hb) (r56.call hb) (r59.call hb) (r62.call hb) r64 (r70.call hb))
   refine AllReadyH.cons rfl (fun K20294 hK20294 => ?_) AllReadyH.nil
   · go_simp
     go_wp2_with (go_at_call 27; refine (colL_any _ _).mono ?_; rintro e X2 ⟨rfl, hb⟩)
     exact hK20294.out _ _ (hHeld.call hb) (fun _ => unhide HOUT _ _ _ _ (C2425_ u g27 g30 g33 g35 g38 g41 g44 g47 g50 g53 g56 g59 g62 g70 _ (bt_ GD hb) (r27.call hb) (r30.call hb) (r33.call hb) (r35.call hb) (r38.call hb) (r41.call hb) (r44.call hb) (r47.call hb) (r50.call hb) (r53.call hb) (r56.call hb) (r59.call hb) (r62.call hb) (r70.call hb)))
  have C23 : frEC23 which bt b4 b5 b6 b7 Wd GG := by
   intro u g27 g30 g33 g35 g38 g41 g44 g47 g50 g53 g56 g59 g62 X GD r27 r30 r33 r35 r38 r41 r44 r47 r50 r53 r56 r59 r62
   refine unhide HIN _ _ _ _ ?_
   unfold frE
   have hHeld := (unhide hS).call GD
   refine wpAnyH_ready (rs := [40, 42, 46]) (by kernel_rfl) (by simp) ?_
   refine AllReadyH.cons rfl (fun K20295 hK20295 => ?_) ?_
   · go_simp
     have hb := below_new X o64
     have r64 := nb64 X
     refine hK20295.out _ _ (hHeld.call hb) (fun hH => ?_)
     clear hHeld hK20295 K20295
     refine wpAnyH_take (i := 41) (oi := ?o20296) (v := ?v20296) ?h20296 (by kernel_rfl) (by kernel_rfl) (by kernel_rfl) (fun _ _ _ h => h) (Or.inl ⟨?w20296, ?y20296⟩) hH ?r20296
     case h20296 => simp only [List.getElem?_toArray, List.getElem?_cons_zero, List.getElem?_cons_succ]; rfl
     case w20296 => rfl
     case y20296 => intro _ _; go_simp; with_reducible rfl
     simp only [Act.put, List.setIfInBounds_toArray, List.set_cons_zero, List.set_cons_succ]
     exact unhide HOUT _ _ _ _ (C2324_ u g27 g30 g33 g35 g38 g41 g44 g47 g50 g53 g56 g59 g62 _ _ (bt_ GD hb) (r27.call hb) (r30.call hb) (r33.call hb) (r35.call hb) (r38.call hb) (r41.call hb) (r44.call hb) (r47.call hb) (r50.call hb) (r53.call hb) (r56.call hb) (r59.call hb) (r62.call hb) r64)
   refine AllReadyH.cons rfl (fun K20297 hK20297 => ?_) ?_
   · go_simp
     go_wp2_with (go_at_call 27; refine (colL_any _ _).mono ?_; rintro e X2 ⟨rfl, hb⟩)
     exact hK20297.out _ _ (hHeld.call hb) (fun _ => unhide HOUT _ _ _ _ (C24 u g27 g30 g33 g35 g38 g41 g44 g47 g50 g53 g56 g59 g62 _ (bt_ GD hb) (r27.call hb) (r30.call hb) (r33.call hb) (r35.call hb) (r38.call hb) (r41.call hb) (r44.call hb) (r47.call hb) (r50.call hb) (r53.call hb) (r56.call hb) (r59.call hb) (r62.call hb)))
   refine AllReadyH.cons rfl (fun K20298 hK20298 => ?_) AllReadyH.nil
   · go_simp
     have hb := below_new X o70
     have r70 := nb70 X
     refine hK20298.out _ _ (hHeld.call hb) (fun hH => ?_)
     clear hHeld hK20298 K20298
     refine wpAnyH_take (i := 47) (oi := ?o20299) (v := ?v20299) ?h20299 (by kernel_rfl) (by kernel_rfl) (by kernel_rfl) (fun _ _ _ h => h) (Or.inl ⟨?w20299, ?y20299⟩) hH ?r20299
     case h20299 => simp only [List.getElem?_toArray, List.getElem?_cons_zero, List.getElem?_cons_succ]; rfl
     case w20299 => rfl
     case y20299 => intro _ _; go_simp; with_reducible rfl
     simp only [Act.put, List.setIfInBounds_toArray, List.set_cons_zero, List.set_cons_succ]
     exact unhide HOUT _ _ _ _ (C2325_ u g27 g30 g33 g35 g38 g41 g44 g47 g50 g53 g56 g59 g62 _ _ (bt_ GD hb) (r27.call hb) (r30.call hb) (r33.call hb) (r35.call hb) (r38.call hb) (r41.call hb) (r44.call hb) (r47.call hb) (r50.call hb) (r53.call hb) (r56.call hb) (r59.call hb) (r62.call hb) r70)
  exact ⟨C2324_25_, C2324_, C2325_, C23⟩
end Go.Proofs.Ytliefgkhpgigaaa
