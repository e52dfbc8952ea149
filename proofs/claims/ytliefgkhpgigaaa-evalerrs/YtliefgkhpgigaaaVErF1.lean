/-
  EvalErrs: steps from place 6 on.
-/
import Derived.Test.YtliefgkhpgigaaaVErE
namespace Go.Proofs.Ytliefgkhpgigaaa
open Go.RowKit
set_option linter.unusedSimpArgs false
set_option linter.unusedVariables false

set_option maxHeartbeats 64000000 in
set_option maxRecDepth 100000 in
theorem er6p6 {r0 r1 r2 r3 r4 rest : Code} {id6 : Nat} {ops : Array Oper} (hc : Try.f7.body = some (.seq r0 (.seq r1 (.seq r2 (.seq r3 (.seq r4 (.seq (.region id6 ops true) rest))))))) (which : Int) (bt b4 b5 b6 b7 : Nat) (Wd : World) (GG : Nat → Array Bool → Act → World → Prop) (hS : Hid (SE b4 b5 b6 b7 Wd)) (Q : Exit → Act → World → Prop) (HIN : Hid (∀ f l a w, wpAnyH Try.prog .any ops (NoPanic Q) (SE b4 b5 b6 b7) f l a w → GG f l a w)) (HOUT : Hid (∀ f l a w, GG f l a w → wpAnyH Try.prog .any ops (NoPanic Q) (SE b4 b5 b6 b7) f l a w)) (C724_25_ : frEC724_25_ which bt b4 b5 b6 b7 Wd GG) (C724_ : frEC724_ which bt b4 b5 b6 b7 Wd GG) (C725_ : frEC725_ which bt b4 b5 b6 b7 Wd GG) (C7 : frEC7 which bt b4 b5 b6 b7 Wd GG) : frEC624_25_ which bt b4 b5 b6 b7 Wd GG ∧ frEC624_ which bt b4 b5 b6 b7 Wd GG ∧ frEC625_ which bt b4 b5 b6 b7 Wd GG ∧ frEC6 which bt b4 b5 b6 b7 Wd GG := by
  unfold Try.f7 at hc
  cases hc
  have C624_25_ : frEC624_25_ which bt b4 b5 b6 b7 Wd GG := by
   intro u g27 g64 g70 X GD r27 r64 r70
   refine unhide HIN _ _ _ _ ?_
   unfold frE
   have hHeld := (unhide hS).call GD
   refine wpAnyH_ready (rs := [6]) (by kernel_rfl) (by simp) ?_
   refine AllReadyH.cons rfl (fun K20084 hK20084 => ?_) AllReadyH.nil
   go_simp
   go_wp2_with (go_at_call 26; refine (twoL_any _ e28 e29 _ _ _ rfl rfl).mono ?_; rintro e X2 ⟨g30, rfl, r30, hb⟩)
   exact hK20084.out _ _ (hHeld.call hb) (fun _ => unhide HOUT _ _ _ _ (C724_25_ u g27 _ g64 g70 _ (bt_ GD hb) (r27.call hb) r30 (r64.call hb) (r70.call hb)))
  have C624_ : frEC624_ which bt b4 b5 b6 b7 Wd GG := by
   intro u g27 g64 X GD r27 r64
   refine unhide HIN _ _ _ _ ?_
   unfold frE
   have hHeld := (unhide hS).call GD
   refine wpAnyH_ready (rs := [6, 46]) (by kernel_rfl) (by simp) ?_
   refine AllReadyH.cons rfl (fun K20085 hK20085 => ?_) ?_
   · go_simp
     go_wp2_with (go_at_call 26; refine (twoL_any _ e28 e29 _ _ _ rfl rfl).mono ?_; rintro e X2 ⟨g30, rfl, r30, hb⟩)
     exact hK20085.out _ _ (hHeld.call hb) (fun _ => unhide HOUT _ _ _ _ (C724_ u g27 _ g64 _ (bt_ GD hb) (r27.call hb) r30 (r64.call hb)))
   refine AllReadyH.cons rfl (fun K20086 hK20086 => ?_) AllReadyH.nil
   · go_simp
     have hb := below_new X o70
     have r70 := nb70 X
     refine hK20086.out _ _ (hHeld.call hb) (fun hH => ?_)
     clear hHeld hK20086 K20086
     refine wpAnyH_take (i := 47) (oi := ?o20087) (v := ?v20087) ?h20087 (by kernel_rfl) (by kernel_rfl) (by kernel_rfl) (fun _ _ _ h => h) (Or.inl ⟨?w20087, ?y20087⟩) hH ?r20087
     case h20087 => simp only [List.getElem?_toArray, List.getElem?_cons_zero, List.getElem?_cons_succ]; rfl
     case w20087 => rfl
     case y20087 => intro _ _; go_simp; with_reducible rfl
     simp only [Act.put, List.setIfInBounds_toArray, List.set_cons_zero, List.set_cons_succ]
     exact unhide HOUT _ _ _ _ (C624_25_ u g27 g64 _ _ (bt_ GD hb) (r27.call hb) (r64.call hb) r70)
  have C625_ : frEC625_ which bt b4 b5 b6 b7 Wd GG := by
   intro u g27 g70 X GD r27 r70
   refine unhide HIN _ _ _ _ ?_
   unfold frE
   have hHeld := (unhide hS).call GD
   refine wpAnyH_ready (rs := [6, 40]) (by kernel_rfl) (by simp) ?_
   refine AllReadyH.cons rfl (fun K20088 hK20088 => ?_) ?_
   · go_simp
     go_wp2_with (go_at_call 26; refine (twoL_any _ e28 e29 _ _ _ rfl rfl).mono ?_; rintro e X2 ⟨g30, rfl, r30, hb⟩)
     exact hK20088.out _ _ (hHeld.call hb) (fun _ => unhide HOUT _ _ _ _ (C725_ u g27 _ g70 _ (bt_ GD hb) (r27.call hb) r30 (r70.call hb)))
   refine AllReadyH.cons rfl (fun K20089 hK20089 => ?_) AllReadyH.nil
   · go_simp
     have hb := below_new X o64
     have r64 := nb64 X
     refine hK20089.out _ _ (hHeld.call hb) (fun hH => ?_)
     clear hHeld hK20089 K20089
     refine wpAnyH_take (i := 41) (oi := ?o20090) (v := ?v20090) ?h20090 (by kernel_rfl) (by kernel_rfl) (by kernel_rfl) (fun _ _ _ h => h) (Or.inl ⟨?w20090, ?y20090⟩) hH ?r20090
     case h20090 => simp only [List.getElem?_toArray, List.getElem?_cons_zero, List.getElem?_cons_succ]; rfl
     case w20090 => rfl
     case y20090 => intro _ _; go_simp; with_reducible rfl
     simp only [Act.put, List.setIfInBounds_toArray, List.set_cons_zero, List.set_cons_succ]
     exact unhide HOUT _ _ _ _ (C624_25_ u g27 _ g70 _ (bt_ GD hb) (r27.call hb) r64 (r70.call hb))
  have C6 : frEC6 which bt b4 b5 b6 b7 Wd GG := by
   intro u g27 X GD r27
   refine unhide HIN _ _ _ _ ?_
   unfold frE
   have hHeld := (unhide hS).call GD
   refine wpAnyH_ready (rs := [6, 40, 46]) (by kernel_rfl) (by simp) ?_
   refine AllReadyH.cons rfl (fun K20091 hK20091 => ?_) ?_
   · go_simp
     go_wp2_with (go_at_call 26; refine (twoL_any _ e28 e29 _ _ _ rfl rfl).mono ?_; rintro e X2 ⟨g30, rfl, r30, hb⟩)
     exact hK20091.out _ _ (hHeld.call hb) (fun _ => unhide HOUT _ _ _ _ (C7 u g27 _ _ (bt_ GD hb) (r27.call hb) r30))
   refine AllReadyH.cons rfl (fun K20092 hK20092 => ?_) ?_
   · go_simp
     have hb := below_new X o64
     have r64 := nb64 X
     refine hK20092.out _ _ (hHeld.call hb) (fun hH => ?_)
     clear hHeld hK20092 K20092
     refine wpAnyH_take (i := 41) (oi := ?o20093) (v := ?v20093) ?h20093 (by kernel_rfl) (by kernel_rfl) (by kernel_rfl) (fun _ _ _ h => h) (Or.inl ⟨?w20093, ?y20093⟩) hH ?r20093
     case h20093 => simp only [List.getElem?_toArray, List.getElem?_cons_zero, List.getElem?_cons_succ]; rfl
     case w20093 => rfl
     case y20093 => intro _ _; go_simp; with_reducible rfl
     simp only [Act.put, List.setIfInBounds_toArray, List.set_cons_zero, List.set_cons_succ]
     exact unhide HOUT _ _ _ _ (C624_ u g27 _ _ (bt_ GD hb) (r27.call hb) r64)
   refine AllReadyH.cons rfl (fun K20094 hK20094 => ?_) AllReadyH.nil
   · go_simp
     have hb := below_new X o70
     have r70 := nb70 X
     refine hK20094.out _ _ (hHeld.call hb) (fun hH => ?_)
     clear hHeld hK20094 K20094
     refine wpAnyH_take (i := 47) (oi := ?o20095) (v := ?v20095) ?h20095 (by kernel_rfl) (by kernel_rfl) (by kernel_rfl) (fun _ _ _ h => h) (Or.inl ⟨?w20095, ?y20095⟩) hH ?r20095
     case h20095 => simp only [List.getElem?_toArray, List.getElem?_cons_zero, List.getElem?_cons_succ]; rfl
     case w20095 => rfl
     case y20095 => intro _ _; go_simp; with_reducible rfl
     simp only [Act.put, List.setIfInBounds_toArray, List.set_cons_zero, List.set_cons_succ]
     exact unhide HOUT _ _ _ _ (C625_ u g27 _ _ (bt_ GD hb) (r27.call hb) r70)
  exact ⟨C624_25_, C624_, C625_, C6⟩
set_option maxHeartbeats 64000000 in
set_option maxRecDepth 100000 in
theorem er6p7 {r0 r1 r2 r3 r4 rest : Code} {id6 : Nat} {ops : Array Oper} (hc : Try.f7.body = some (.seq r0 (.seq r1 (.seq r2 (.seq r3 (.seq r4 (.seq (.region id6 ops true) rest))))))) (which : Int) (bt b4 b5 b6 b7 : Nat) (Wd : World) (GG : Nat → Array Bool → Act → World → Prop) (hS : Hid (SE b4 b5 b6 b7 Wd)) (Q : Exit → Act → World → Prop) (HIN : Hid (∀ f l a w, wpAnyH Try.prog .any ops (NoPanic Q) (SE b4 b5 b6 b7) f l a w → GG f l a w)) (HOUT : Hid (∀ f l a w, GG f l a w → wpAnyH Try.prog .any ops (NoPanic Q) (SE b4 b5 b6 b7) f l a w)) (C824_25_ : frEC824_25_ which bt b4 b5 b6 b7 Wd GG) (C824_ : frEC824_ which bt b4 b5 b6 b7 Wd GG) (C825_ : frEC825_ which bt b4 b5 b6 b7 Wd GG) (C8 : frEC8 which bt b4 b5 b6 b7 Wd GG) : frEC724_25_ which bt b4 b5 b6 b7 Wd GG ∧ frEC724_ which bt b4 b5 b6 b7 Wd GG ∧ frEC725_ which bt b4 b5 b6 b7 Wd GG ∧ frEC7 which bt b4 b5 b6 b7 Wd GG := by
  unfold Try.f7 at hc
  cases hc
  have C724_25_ : frEC724_25_ which bt b4 b5 b6 b7 Wd GG := by
   intro u g27 g30 g64 g70 X GD r27 r30 r64 r70
   refine unhide HIN _ _ _ _ ?_
   unfold frE
   have hHeld := (unhide hS).call GD
   refine wpAnyH_ready (rs := [7]) (by kernel_rfl) (by simp) ?_
   refine AllReadyH.cons rfl (fun K20096 hK20096 => ?_) AllReadyH.nil
   go_simp
   go_wp2_with (go_at_call 27; refine (colL_any _ _).mono ?_; rintro e X2 ⟨rfl, hb⟩)
   exact hK20096.out _ _ (hHeld.call hb) (fun _ => unhide HOUT _ _ _ _ (C824_25_ u g27 g30 g64 g70 _ (bt_ GD hb) (r27.call hb) (r30.call hb) (r64.call hb) (r70.call hb)))
  have C724_ : frEC724_ which bt b4 b5 b6 b7 Wd GG := by
   intro u g27 g30 g64 X GD r27 r30 r64
   refine unhide HIN _ _ _ _ ?_
   unfold frE
   have hHeld := (unhide hS).call GD
   refine wpAnyH_ready (rs := [7, 46]) (by kernel_rfl) (by simp) ?_
   refine AllReadyH.cons rfl (fun K20097 hK20097 => ?_) ?_
   · go_simp
     go_wp2_with (go_at_call 27; refine (colL_any _ _).mono ?_; rintro e X2 ⟨rfl, hb⟩)
     exact hK20097.out _ _ (hHeld.call hb) (fun _ => unhide HOUT _ _ _ _ (C824_ u g27 g30 g64 _ (bt_ GD hb) (r27.call hb) (r30.call hb) (r64.call hb)))
   refine AllReadyH.cons rfl (fun K20098 hK20098 => ?_) AllReadyH.nil
   · go_simp
     have hb := below_new X o70
     have r70 := nb70 X
     refine hK20098.out _ _ (hHeld.call hb) (fun hH => ?_)
     clear hHeld hK20098 K20098
     refine wpAnyH_take (i := 47) (oi := ?o20099) (v := ?v20099) ?h20099 (by kernel_rfl) (by kernel_rfl) (by kernel_rfl) (fun _ _ _ h => h) (Or.inl ⟨?w20099, ?y20099⟩) hH ?r20099
     case h20099 => simp only [List.getElem?_toArray, List.getElem?_cons_zero, List.getElem?_cons_succ]; rfl
     case w20099 => rfl
     case y20099 => intro _ _; go_simp; with_reducible rfl
     simp only [Act.put, List.setIfInBounds_toArray, List.set_cons_zero, List.set_cons_succ]
     exact unhide HOUT _ _ _ _ (C724_25_ u g27 g30 g64 _ _ (bt_ GD hb) (r27.call hb) (r30.call hb) (r64.call hb) r70)
  have C725_ : frEC725_ which bt b4 b5 b6 b7 Wd GG := by
   intro u g27 g30 g70 X GD r27 r30 r70
   refine unhide HIN _ _ _ _ ?_
   unfold frE
   have hHeld := (unhide hS).call GD
   refine wpAnyH_ready (rs := [7, 40]) (by kernel_rfl) (by simp) ?_
   refine AllReadyH.cons rfl (fun K20100 hK20100 => ?_) ?_
   · go_simp
     go_wp2_with (go_at_call 27; refine (colL_any _ _).mono ?_; rintro e X2 ⟨rfl, hb⟩)
     exact hK20100.out _ _ (hHeld.call hb) (fun _ => unhide HOUT _ _ _ _ (C825_ u g27 g30 g70 _ (bt_ GD hb) (r27.call hb) (r30.call hb) (r70.call hb)))
   refine AllReadyH.cons rfl (fun K20101 hK20101 => ?_) AllReadyH.nil
   · go_simp
     have hb := below_new X o64
     have r64 := nb64 X
     refine hK20101.out _ _ (hHeld.call hb) (fun hH => ?_)
     clear hHeld hK20101 K20101
     refine wpAnyH_take (i := 41) (oi := ?o20102) (v := ?v20102) ?h20102 (by kernel_rfl) (by kernel_rfl) (by kernel_rfl) (fun _ _ _ h => h) (Or.inl ⟨?w20102, ?y20102⟩) hH ?r20102
     case h20102 => simp only [List.getElem?_toArray, List.getElem?_cons_zero, List.getElem?_cons_succ]; rfl
     case w20102 => rfl
     case y20102 => intro _ _; go_simp; with_reducible rfl
     simp only [Act.put, List.setIfInBounds_toArray, List.set_cons_zero, List.set_cons_succ]
     exact unhide HOUT _ _ _ _ (C724_25_ u g27 g30 _ g70 _ (bt_ GD hb) (r27.call hb) (r30.call hb) r64 (r70.call hb))
  have C7 : frEC7 which bt b4 b5 b6 b7 Wd GG := by
   intro u g27 g30 X GD r27 r30
   refine unhide HIN _ _ _ _ ?_
   unfold frE
   have hHeld := (unhide hS).call GD
   refine wpAnyH_ready (rs := [7, 40, 46]) (by kernel_rfl) (by simp) ?_
   refine AllReadyH.cons rfl (fun K20103 hK20103 => ?_) ?_
   · go_simp
     go_wp2_with (go_at_call 27; refine (colL_any _ _).mono ?_; rintro e X2 ⟨rfl, hb⟩)
     exact hK20103.out _ _ (hHeld.call hb) (fun _ => unhide HOUT _ _ _ _ (C8 u g27 g30 _ (bt_ GD hb) (r27.call hb) (r30.call hb)))
   refine AllReadyH.cons rfl (fun K20104 hK20104 => ?_) ?_
   · go_simp
     have hb := below_new X o64
     have r64 := nb64 X
     refine hK20104.out _ _ (hHeld.call hb) (fun hH => ?_)
     clear hHeld hK20104 K20104
     refine wpAnyH_take (i := 41) (oi := ?o20105) (v := ?v20105) ?h20105 (by kernel_rfl) (by kernel_rfl) (by kernel_rfl) (fun _ _ _ h => h) (Or.inl ⟨?w20105, ?y20105⟩) hH ?r20105
     case h20105 => simp only [List.getElem?_toArray, List.getElem?_cons_zero, List.getElem?_cons_succ]; rfl
     case w20105 => rfl
     case y20105 => intro _ _; go_simp; with_reducible rfl
     simp only [Act.put, List.setIfInBounds_toArray, List.set_cons_zero, List.set_cons_succ]
     exact unhide HOUT _ _ _ _ (C724_ u g27 g30 _ _ (bt_ GD hb) (r27.call hb) (r30.call hb) r64)
   refine AllReadyH.cons rfl (fun K20106 hK20106 => ?_) AllReadyH.nil
   · go_simp
     have hb := below_new X o70
     have r70 := nb70 X
     refine hK20106.out _ _ (hHeld.call hb) (fun hH => ?_)
     clear hHeld hK20106 K20106
     refine wpAnyH_take (i := 47) (oi := ?o20107) (v := ?v20107) ?h20107 (by kernel_rfl) (by kernel_rfl) (by kernel_rfl) (fun _ _ _ h => h) (Or.inl ⟨?w20107, ?y20107⟩) hH ?r20107
     case h20107 => simp only [List.getElem?_toArray, List.getElem?_cons_zero, List.getElem?_cons_succ]; rfl
     case w20107 => rfl
     case y20107 => intro _ _; go_simp; with_reducible rfl
     simp only [Act.put, List.setIfInBounds_toArray, List.set_cons_zero, List.set_cons_succ]
     exact unhide HOUT _ _ _ _ (C725_ u g27 g30 _ _ (bt_ GD hb) (r27.call hb) (r30.call hb) r70)
  exact ⟨C724_25_, C724_, C725_, C7⟩
set_option maxHeartbeats 64000000 in
set_option maxRecDepth 100000 in
theorem er6p8 {r0 r1 r2 r3 r4 rest : Code} {id6 : Nat} {ops : Array Oper} (hc : Try.f7.body = some (.seq r0 (.seq r1 (.seq r2 (.seq r3 (.seq r4 (.seq (.region id6 ops true) rest))))))) (which : Int) (bt b4 b5 b6 b7 : Nat) (Wd : World) (GG : Nat → Array Bool → Act → World → Prop) (hS : Hid (SE b4 b5 b6 b7 Wd)) (Q : Exit → Act → World → Prop) (HIN : Hid (∀ f l a w, wpAnyH Try.prog .any ops (NoPanic Q) (SE b4 b5 b6 b7) f l a w → GG f l a w)) (HOUT : Hid (∀ f l a w, GG f l a w → wpAnyH Try.prog .any ops (NoPanic Q) (SE b4 b5 b6 b7) f l a w)) (C924_25_ : frEC924_25_ which bt b4 b5 b6 b7 Wd GG) (C924_ : frEC924_ which bt b4 b5 b6 b7 Wd GG) (C925_ : frEC925_ which bt b4 b5 b6 b7 Wd GG) (C9 : frEC9 which bt b4 b5 b6 b7 Wd GG) : frEC824_25_ which bt b4 b5 b6 b7 Wd GG ∧ frEC824_ which bt b4 b5 b6 b7 Wd GG ∧ frEC825_ which bt b4 b5 b6 b7 Wd GG ∧ frEC8 which bt b4 b5 b6 b7 Wd GG := by
  unfold Try.f7 at hc
  cases hc
  have C824_25_ : frEC824_25_ which bt b4 b5 b6 b7 Wd GG := by
   intro u g27 g30 g64 g70 X GD r27 r30 r64 r70
   refine unhide HIN _ _ _ _ ?_
   unfold frE
   have hHeld := (unhide hS).call GD
   refine wpAnyH_ready (rs := [8]) (by kernel_rfl) (by simp) ?_
   refine AllReadyH.cons rfl (fun K20108 hK20108 => ?_) AllReadyH.nil
   go_simp
   go_wp2_with (go_at_call 27; refine (colL_any _ _).mono ?_; rintro e X2 ⟨rfl, hb⟩)
   exact hK20108.out _ _ (hHeld.call hb) (fun _ => unhide HOUT _ _ _ _ (C924_25_ u g27 g30 g64 g70 _ (bt_ GD hb) (r27.call hb) (r30.call hb) (r64.call hb) (r70.call hb)))
  have C824_ : frEC824_ which bt b4 b5 b6 b7 Wd GG := by
   intro u g27 g30 g64 X GD r27 r30 r64
   refine unhide HIN _ _ _ _ ?_
   unfold frE
   have hHeld := (unhide hS).call GD
   refine wpAnyH_ready (rs := [8, 46]) (by kernel_rfl) (by simp) ?_
   refine AllReadyH.cons rfl (fun K20109 hK20109 => ?_) ?_
   · go_simp
     go_wp2_with (go_at_call 27; refine (colL_any _ _).mono ?_; rintro e X2 ⟨rfl, hb⟩)
     exact hK20109.out _ _ (hHeld.call hb) (fun _ => unhide HOUT _ _ _ _ (C924_ u g27 g30 g64 _ (bt_ GD hb) (r27.call hb) (r30.call hb) (r64.call hb)))
   refine AllReadyH.cons rfl (fun K20110 hK20110 => ?_) AllReadyH.nil
   · go_simp
     have hb := below_new X o70
     have r70 := nb70 X
     refine hK20110.out _ _ (hHeld.call hb) (fun hH => ?_)
     clear hHeld hK20110 K20110
     refine wpAnyH_take (i := 47) (oi := ?o20111) (v := ?v20111) ?h20111 (by kernel_rfl) (by kernel_rfl) (by kernel_rfl) (fun _ _ _ h => h) (Or.inl ⟨?w20111, ?y20111⟩) hH ?r20111
     case h20111 => simp only [List.getElem?_toArray, List.getElem?_cons_zero, List.getElem?_cons_succ]; rfl
     case w20111 => rfl
     case y20111 => intro _ _; go_simp; with_reducible rfl
     simp only [Act.put, List.setIfInBounds_toArray, List.set_cons_zero, List.set_cons_succ]
     exact unhide HOUT _ _ _ _ (C824_25_ u g27 g30 g64 _ _ (bt_ GD hb) (r27.call hb) (r30.call hb) (r64.call hb) r70)
  have C825_ : frEC825_ which bt b4 b5 b6 b7 Wd GG := by
   intro u g27 g30 g70 X GD r27 r30 r70
   refine unhide HIN _ _ _ _ ?_
   unfold frE
   have hHeld := (unhide hS).call GD
   refine wpAnyH_ready (rs := [8, 40]) (by kernel_rfl) (by simp) ?_
   refine AllReadyH.cons rfl (fun K20112 hK20112 => ?_) ?_
   · go_simp
     go_wp2_with (go_at_call 27; refine (colL_any _ _).mono ?_; rintro e X2 ⟨rfl, hb⟩)
     exact hK20112.out _ _ (hHeld.call hb) (fun _ => unhide HOUT _ _ _ _ (C925_ u g27 g30 g70 _ (bt_ GD hb) (r27.call hb) (r30.call hb) (r70.call hb)))
   refine AllReadyH.cons rfl (fun K20113 hK20113 => ?_) AllReadyH.nil
   · go_simp
     have hb := below_new X o64
     have r64 := nb64 X
     refine hK20113.out _ _ (hHeld.call hb) (fun hH => ?_)
     clear hHeld hK20113 K20113
     refine wpAnyH_take (i := 41) (oi := ?o20114) (v := ?v20114) ?h20114 (by kernel_rfl) (by kernel_rfl) (by kernel_rfl) (fun _ _ _ h => h) (Or.inl ⟨?w20114, ?y20114⟩) hH ?r20114
     case h20114 => simp only [List.getElem?_toArray, List.getElem?_cons_zero, List.getElem?_cons_succ]; rfl
     case w20114 => rfl
     case y20114 => intro _ _; go_simp; with_reducible rfl
     simp only [Act.put, List.setIfInBounds_toArray, List.set_cons_zero, List.set_cons_succ]
     exact unhide HOUT _ _ _ _ (C824_25_ u g27 g30 _ g70 _ (bt_ GD hb) (r27.call hb) (r30.call hb) r64 (r70.call hb))
  have C8 : frEC8 which bt b4 b5 b6 b7 Wd GG := by
   intro u g27 g30 X GD r27 r30
   refine unhide HIN _ _ _ _ ?_
   unfold frE
   have hHeld := (unhide hS).call GD
   refine wpAnyH_ready (rs := [8, 40, 46]) (by kernel_rfl) (by simp) ?_
   refine AllReadyH.cons rfl (fun K20115 hK20115 => ?_) ?_
   · go_simp
     go_wp2_with (go_at_call 27; refine (colL_any _ _).mono ?_; rintro e X2 ⟨rfl, hb⟩)
     exact hK20115.out _ _ (hHeld.call hb) (fun _ => unhide HOUT _ _ _ _ (C9 u g27 g30 _ (bt_ GD hb) (r27.call hb) (r30.call hb)))
   refine AllReadyH.cons rfl (fun K20116 hK20116 => ?_) ?_
   · go_simp
     have hb := below_new X o64
     have r64 := nb64 X
     refine hK20116.out _ _ (hHeld.call hb) (fun hH => ?_)
     clear hHeld hK20116 K20116
     refine wpAnyH_take (i := 41) (oi := ?o20117) (v := ?v20117) ?h20117 (by kernel_rfl) (by kernel_rfl) (by kernel_rfl) (fun _ _ _ h => h) (Or.inl ⟨?w20117, ?y20117⟩) hH ?r20117
     case h20117 => simp only [List.getElem?_toArray, List.getElem?_cons_zero, List.getElem?_cons_succ]; rfl
     case w20117 => rfl
     case y20117 => intro _ _; go_simp; with_reducible rfl
     simp only [Act.put, List.setIfInBounds_toArray, List.set_cons_zero, List.set_cons_succ]
     exact unhide HOUT _ _ _ _ (C824_ u g27 g30 _ _ (bt_ GD hb) (r27.call hb) (r30.call hb) r64)
   refine AllReadyH.cons rfl (fun K20118 hK20118 => ?_) AllReadyH.nil
   · go_simp
     have hb := below_new X o70
     have r70 := nb70 X
     refine hK20118.out _ _ (hHeld.call hb) (fun hH => ?_)
     clear hHeld hK20118 K20118
     refine wpAnyH_take (i := 47) (oi := ?o20119) (v := ?v20119) ?h20119 (by kernel_rfl) (by kernel_rfl) (by kernel_rfl) (fun _ _ _ h => h) (Or.inl ⟨?w20119, ?y20119⟩) hH ?r20119
     case h20119 => simp only [List.getElem?_toArray, List.getElem?_cons_zero, List.getElem?_cons_succ]; rfl
     case w20119 => rfl
     case y20119 => intro _ _; go_simp; with_reducible rfl
     simp only [Act.put, List.setIfInBounds_toArray, List.set_cons_zero, List.set_cons_succ]
     exact unhide HOUT _ _ _ _ (C825_ u g27 g30 _ _ (bt_ GD hb) (r27.call hb) (r30.call hb) r70)
  exact ⟨C824_25_, C824_, C825_, C8⟩
set_option maxHeartbeats 64000000 in
set_option maxRecDepth 100000 in
theorem er6p9 {r0 r1 r2 r3 r4 rest : Code} {id6 : Nat} {ops : Array Oper} (hc : Try.f7.body = some (.seq r0 (.seq r1 (.seq r2 (.seq r3 (.seq r4 (.seq (.region id6 ops true) rest))))))) (which : Int) (bt b4 b5 b6 b7 : Nat) (Wd : World) (GG : Nat → Array Bool → Act → World → Prop) (hS : Hid (SE b4 b5 b6 b7 Wd)) (Q : Exit → Act → World → Prop) (HIN : Hid (∀ f l a w, wpAnyH Try.prog .any ops (NoPanic Q) (SE b4 b5 b6 b7) f l a w → GG f l a w)) (HOUT : Hid (∀ f l a w, GG f l a w → wpAnyH Try.prog .any ops (NoPanic Q) (SE b4 b5 b6 b7) f l a w)) (C1024_25_ : frEC1024_25_ which bt b4 b5 b6 b7 Wd GG) (C1024_ : frEC1024_ which bt b4 b5 b6 b7 Wd GG) (C1025_ : frEC1025_ which bt b4 b5 b6 b7 Wd GG) (C10 : frEC10 which bt b4 b5 b6 b7 Wd GG) : frEC924_25_ which bt b4 b5 b6 b7 Wd GG ∧ frEC924_ which bt b4 b5 b6 b7 Wd GG ∧ frEC925_ which bt b4 b5 b6 b7 Wd GG ∧ frEC9 which bt b4 b5 b6 b7 Wd GG := by
  unfold Try.f7 at hc
  cases hc
  have C924_25_ : frEC924_25_ which bt b4 b5 b6 b7 Wd GG := by
   intro u g27 g30 g64 g70 X GD r27 r30 r64 r70
   refine unhide HIN _ _ _ _ ?_
   unfold frE
   have hHeld := (unhide hS).call GD
   refine wpAnyH_ready (rs := [9]) (by kernel_rfl) (by simp) ?_
   refine AllReadyH.cons rfl (fun K20120 hK20120 => ?_) AllReadyH.nil
   go_simp
   go_wp2_with (go_at_call 26; refine (twoL_any _ e31 e32 _ _ _ rfl rfl).mono ?_; rintro e X2 ⟨g33, rfl, r33, hb⟩)
   exact hK20120.out _ _ (hHeld.call hb) (fun _ => unhide HOUT _ _ _ _ (C1024_25_ u g27 g30 _ g64 g70 _ (bt_ GD hb) (r27.call hb) (r30.call hb) r33 (r64.call hb) (r70.call hb)))
  have C924_ : frEC924_ which bt b4 b5 b6 b7 Wd GG := by
   intro u g27 g30 g64 X GD r27 r30 r64
   refine unhide HIN _ _ _ _ ?_
   unfold frE
   have hHeld := (unhide hS).call GD
   refine wpAnyH_ready (rs := [9, 46]) (by kernel_rfl) (by simp) ?_
   refine AllReadyH.cons rfl (fun K20121 hK20121 => ?_) ?_
   · go_simp
     go_wp2_with (go_at_call 26; refine (twoL_any _ e31 e32 _ _ _ rfl rfl).mono ?_; rintro e X2 ⟨g33, rfl, r33, hb⟩)
     exact hK20121.out _ _ (hHeld.call hb) (fun _ => unhide HOUT _ _ _ _ (C1024_ u g27 g30 _ g64 _ (bt_ GD hb) (r27.call hb) (r30.call hb) r33 (r64.call hb)))
   refine AllReadyH.cons rfl (fun K20122 hK20122 => ?_) AllReadyH.nil
   · go_simp
     have hb := below_new X o70
     have r70 := nb70 X
     refine hK20122.out _ _ (hHeld.call hb) (fun hH => ?_)
     clear hHeld hK20122 K20122
     refine wpAnyH_take (i := 47) (oi := ?o20123) (v := ?v20123) ?h20123 (by kernel_rfl) (by kernel_rfl) (by kernel_rfl) (fun _ _ _ h => h) (Or.inl ⟨?w20123, ?y20123⟩) hH ?r20123
     case h20123 => simp only [List.getElem?_toArray, List.getElem?_cons_zero, List.getElem?_cons_succ]; rfl
     case w20123 => rfl
     case y20123 => intro _ _; go_simp; with_reducible rfl
     simp only [Act.put, List.setIfInBounds_toArray, List.set_cons_zero, List.set_cons_succ]
     exact unhide HOUT _ _ _ _ (C924_25_ u g27 g30 g64 _ _ (bt_ GD hb) (r27.call hb) (r30.call hb) (r64.call hb) r70)
  have C925_ : frEC925_ which bt b4 b5 b6 b7 Wd GG := by
   intro u g27 g30 g70 X GD r27 r30 r70
   refine unhide HIN _ _ _ _ ?_
   unfold frE
   have hHeld := (unhide hS).call GD
   refine wpAnyH_ready (rs := [9, 40]) (by kernel_rfl) (by simp) ?_
   refine AllReadyH.cons rfl (fun K20124 hK20124 => ?_) ?_
   · go_simp
     go_wp2_with (go_at_call 26; refine (twoL_any _ e31 e32 _ _ _ rfl rfl).mono ?_; rintro e X2 ⟨g33, rfl, r33, hb⟩)
     exact hK20124.out _ _ (hHeld.call hb) (fun _ => unhide HOUT _ _ _ _ (C1025_ u g27 g30 _ g70 _ (bt_ GD hb) (r27.call hb) (r30.call hb) r33 (r70.call hb)))
   refine AllReadyH.cons rfl (fun K20125 hK20125 => ?_) AllReadyH.nil
   · go_simp
     have hb := below_new X o64
     have r64 := nb64 X
     refine hK20125.out _ _ (hHeld.call hb) (fun hH => ?_)
     clear hHeld hK20125 K20125
     refine wpAnyH_take (i := 41) (oi := ?o20126) (v := ?v20126) ?h20126 (by kernel_rfl) (by kernel_rfl) (by kernel_rfl) (fun _ _ _ h => h) (Or.inl ⟨?w20126, ?y20126⟩) hH ?r20126
     case h20126 => simp only [List.getElem?_toArray, List.getElem?_cons_zero, List.getElem?_cons_succ]; rfl
     case w20126 => rfl
     case y20126 => intro _ _; go_simp; with_reducible rfl
     simp only [Act.put, List.setIfInBounds_toArray, List.set_cons_zero, List.set_cons_succ]
     exact unhide HOUT _ _ _ _ (C924_25_ u g27 g30 _ g70 _ (bt_ GD hb) (r27.call hb) (r30.call hb) r64 (r70.call hb))
  have C9 : frEC9 which bt b4 b5 b6 b7 Wd GG := by
   intro u g27 g30 X GD r27 r30
   refine unhide HIN _ _ _ _ ?_
   unfold frE
   have hHeld := (unhide hS).call GD
   refine wpAnyH_ready (rs := [9, 40, 46]) (by kernel_rfl) (by simp) ?_
   refine AllReadyH.cons rfl (fun K20127 hK20127 => ?_) ?_
   · go_simp
     go_wp2_with (go_at_call 26; refine (twoL_any _ e31 e32 _ _ _ rfl rfl).mono ?_; rintro e X2 ⟨g33, rfl, r33, hb⟩)
     exact hK20127.out _ _ (hHeld.call hb) (fun _ => unhide HOUT _ _ _ _ (C10 u g27 g30 _ _ (bt_ GD hb) (r27.call hb) (r30.call hb) r33))
   refine AllReadyH.cons rfl (fun K20128 hK20128 => ?_) ?_
   · go_simp
     have hb := below_new X o64
     have r64 := nb64 X
     refine hK20128.out _ _ (hHeld.call hb) (fun hH => ?_)
     clear hHeld hK20128 K20128
     refine wpAnyH_take (i := 41) (oi := ?o20129) (v := ?v20129) ?h20129 (by kernel_rfl) (by kernel_rfl) (by kernel_rfl) (fun _ _ _ h => h) (Or.inl ⟨?w20129, ?y20129⟩) hH ?r20129
     case h20129 => simp only [List.getElem?_toArray, List.getElem?_cons_zero, List.getElem?_cons_succ]; rfl
     case w20129 => rfl
     case y20129 => intro _ _; go_simp; with_reducible rfl
     simp only [Act.put, List.setIfInBounds_toArray, List.set_cons_zero, List.set_cons_succ]
     exact unhide HOUT _ _ _ _ (C924_ u g27 g30 _ _ (bt_ GD hb) (r27.call hb) (r30.call hb) r64)
   refine AllReadyH.cons rfl (fun K20130 hK20130 => ?_) AllReadyH.nil
   · go_simp
     have hb := below_new X o70
     have r70 := nb70 X
     refine hK20130.out _ _ (hHeld.call hb) (fun hH => ?_)
     clear hHeld hK20130 K20130
     refine wpAnyH_take (i := 47) (oi := ?o20131) (v := ?v20131) ?h20131 (by kernel_rfl) (by kernel_rfl) (by kernel_rfl) (fun _ _ _ h => h) (Or.inl ⟨?w20131, ?y20131⟩) hH ?r20131
     case h20131 => simp only [List.getElem?_toArray, List.getElem?_cons_zero, List.getElem?_cons_succ]; rfl
     case w20131 => rfl
     case y20131 => intro _ _; go_simp; with_reducible rfl
     simp only [Act.put, List.setIfInBounds_toArray, List.set_cons_zero, List.set_cons_succ]
     exact unhide HOUT _ _ _ _ (C925_ u g27 g30 _ _ (bt_ GD hb) (r27.call hb) (r30.call hb) r70)
  exact ⟨C924_25_, C924_, C925_, C9⟩
set_option maxHeartbeats 64000000 in
set_option maxRecDepth 100000 in
theorem er6p10 {r0 r1 r2 r3 r4 rest : Code} {id6 : Nat} {ops : Array Oper} (hc : Try.f7.body = some (.seq r0 (.seq r1 (.seq r2 (.seq r3 (.seq r4 (.seq (.region id6 ops true) rest))))))) (which : Int) (bt b4 b5 b6 b7 : Nat) (Wd : World) (GG : Nat → Array Bool → Act → World → Prop) (hS : Hid (SE b4 b5 b6 b7 Wd)) (Q : Exit → Act → World → Prop) (HIN : Hid (∀ f l a w, wpAnyH Try.prog .any ops (NoPanic Q) (SE b4 b5 b6 b7) f l a w → GG f l a w)) (HOUT : Hid (∀ f l a w, GG f l a w → wpAnyH Try.prog .any ops (NoPanic Q) (SE b4 b5 b6 b7) f l a w)) (C1124_25_ : frEC1124_25_ which bt b4 b5 b6 b7 Wd GG) (C1124_ : frEC1124_ which bt b4 b5 b6 b7 Wd GG) (C1125_ : frEC1125_ which bt b4 b5 b6 b7 Wd GG) (C11 : frEC11 which bt b4 b5 b6 b7 Wd GG) : frEC1024_25_ which bt b4 b5 b6 b7 Wd GG ∧ frEC1024_ which bt b4 b5 b6 b7 Wd GG ∧ frEC1025_ which bt b4 b5 b6 b7 Wd GG ∧ frEC10 which bt b4 b5 b6 b7 Wd GG := by
  unfold Try.f7 at hc
  cases hc
  have C1024_25_ : frEC1024_25_ which bt b4 b5 b6 b7 Wd GG := by
   intro u g27 g30 g33 g64 g70 X GD r27 r30 r33 r64 r70
   refine unhide HIN _ _ _ _ ?_
   unfold frE
   have hHeld := (unhide hS).call GD
   refine wpAnyH_ready (rs := [11]) (by kernel_rfl) (by simp) ?_
   refine AllReadyH.cons rfl (fun K20132 hK20132 => ?_) AllReadyH.nil
   go_simp
   go_wp2_with (go_at_call 28; refine (notL_any xOne _ _ rfl).mono ?_; rintro e X2 ⟨g35, rfl, r35, hb⟩)
   exact hK20132.out _ _ (hHeld.call hb) (fun _ => unhide HOUT _ _ _ _ (C1124_25_ u g27 g30 g33 _ g64 g70 _ (bt_ GD hb) (r27.call hb) (r30.call hb) (r33.call hb) r35 (r64.call hb) (r70.call hb)))
  have C1024_ : frEC1024_ which bt b4 b5 b6 b7 Wd GG := by
   intro u g27 g30 g33 g64 X GD r27 r30 r33 r64
   refine unhide HIN _ _ _ _ ?_
   unfold frE
   have hHeld := (unhide hS).call GD
   refine wpAnyH_ready (rs := [11, 46]) (by kernel_rfl) (by simp) ?_
   refine AllReadyH.cons rfl (fun K20133 hK20133 => ?_) ?_
   · go_simp
     go_wp2_with (go_at_call 28; refine (notL_any xOne _ _ rfl).mono ?_; rintro e X2 ⟨g35, rfl, r35, hb⟩)
     exact hK20133.out _ _ (hHeld.call hb) (fun _ => unhide HOUT _ _ _ _ (C1124_ u g27 g30 g33 _ g64 _ (bt_ GD hb) (r27.call hb) (r30.call hb) (r33.call hb) r35 (r64.call hb)))
   refine AllReadyH.cons rfl (fun K20134 hK20134 => ?_) AllReadyH.nil
   · go_simp
     have hb := below_new X o70
     have r70 := nb70 X
     refine hK20134.out _ _ (hHeld.call hb) (fun hH => ?_)
     clear hHeld hK20134 K20134
     refine wpAnyH_take (i := 47) (oi := ?o20135) (v := ?v20135) ?h20135 (by kernel_rfl) (by kernel_rfl) (by kernel_rfl) (fun _ _ _ h => h) (Or.inl ⟨?w20135, ?y20135⟩) hH ?r20135
     case h20135 => simp only [List.getElem?_toArray, List.getElem?_cons_zero, List.getElem?_cons_succ]; rfl
     case w20135 => rfl
     case y20135 => intro _ _; go_simp; with_reducible rfl
     simp only [Act.put, List.setIfInBounds_toArray, List.set_cons_zero, List.set_cons_succ]
     exact unhide HOUT _ _ _ _ (C1024_25_ u g27 g30 g33 g64 _ _ (bt_ GD hb) (r27.call hb) (r30.call hb) (r33.call hb) (r64.call hb) r70)
  have C1025_ : frEC1025_ which bt b4 b5 b6 b7 Wd GG := by
   intro u g27 g30 g33 g70 X GD r27 r30 r33 r70
   refine unhide HIN _ _ _ _ ?_
   unfold frE
   have hHeld := (unhide hS).call GD
   refine wpAnyH_ready (rs := [11, 40]) (by kernel_rfl) (by simp) ?_
   refine AllReadyH.cons rfl (fun K20136 hK20136 => ?_) ?_
   · go_simp
     go_wp2_with (go_at_call 28; refine (notL_any xOne _ _ rfl).mono ?_; rintro e X2 ⟨g35, rfl, r35, hb⟩)
     exact hK20136.out _ _ (hHeld.call hb) (fun _ => unhide HOUT _ _ _ _ (C1125_ u g27 g30 g33 _ g70 _ (bt_ GD hb) (r27.call hb) (r30.call hb) (r33.call hb) r35 (r70.call hb)))
   refine AllReadyH.cons rfl (fun K20137 hK20137 => ?_) AllReadyH.nil
   · go_simp
     have hb := below_new X o64
     have r64 := nb64 X
     refine hK20137.out _ _ (hHeld.call hb) (fun hH => ?_)
     clear hHeld hK20137 K20137
     refine wpAnyH_take (i := 41) (oi := ?o20138) (v := ?v20138) ?h20138 (by kernel_rfl) (by kernel_rfl) (by kernel_rfl) (fun _ _ _ h => h) (Or.inl ⟨?w20138, ?y20138⟩) hH ?r20138
     case h20138 => simp only [List.getElem?_toArray, List.getElem?_cons_zero, List.getElem?_cons_succ]; rfl
     case w20138 => rfl
     case y20138 => intro _ _; go_simp; with_reducible rfl
     simp only [Act.put, List.setIfInBounds_toArray, List.set_cons_zero, List.set_cons_succ]
     exact unhide HOUT _ _ _ _ (C1024_25_ u g27 g30 g33 _ g70 _ (bt_ GD hb) (r27.call hb) (r30.call hb) (r33.call hb) r64 (r70.call hb))
  have C10 : frEC10 which bt b4 b5 b6 b7 Wd GG := by
   intro u g27 g30 g33 X GD r27 r30 r33
   refine unhide HIN _ _ _ _ ?_
   unfold frE
   have hHeld := (unhide hS).call GD
   refine wpAnyH_ready (rs := [11, 40, 46]) (by kernel_rfl) (by simp) ?_
   refine AllReadyH.cons rfl (fun K20139 hK20139 => ?_) ?_
   · go_simp
     go_wp2_with (go_at_call 28; refine (notL_any xOne _ _ rfl).mono ?_; rintro e X2 ⟨g35, rfl, r35, hb⟩)
     exact hK20139.out _ _ (hHeld.call hb) (fun _ => unhide HOUT _ _ _ _ (C11 u g27 g30 g33 _ _ (bt_ GD hb) (r27.call hb) (r30.call hb) (r33.call hb) r35))
   refine AllReadyH.cons rfl (fun K20140 hK20140 => ?_) ?_
   · go_simp
     have hb := below_new X o64
     have r64 := nb64 X
     refine hK20140.out _ _ (hHeld.call hb) (fun hH => ?_)
     clear hHeld hK20140 K20140
     refine wpAnyH_take (i := 41) (oi := ?o20141) (v := ?v20141) ?h20141 (by kernel_rfl) (by kernel_rfl) (by kernel_rfl) (fun _ _ _ h => h) (Or.inl ⟨?w20141, ?y20141⟩) hH ?r20141
     case h20141 => simp only [List.getElem?_toArray, List.getElem?_cons_zero, List.getElem?_cons_succ]; rfl
     case w20141 => rfl
     case y20141 => intro _ _; go_simp; with_reducible rfl
     simp only [Act.put, List.setIfInBounds_toArray, List.set_cons_zero, List.set_cons_succ]
     exact unhide HOUT _ _ _ _ (C1024_ u g27 g30 g33 _ _ (bt_ GD hb) (r27.call hb) (r30.call hb) (r33.call hb) r64)
   refine AllReadyH.cons rfl (fun K20142 hK20142 => ?_) AllReadyH.nil
   · go_simp
     have hb := below_new X o70
     have r70 := nb70 X
     refine hK20142.out _ _ (hHeld.call hb) (fun hH => ?_)
     clear hHeld hK20142 K20142
     refine wpAnyH_take (i := 47) (oi := ?o20143) (v := ?v20143) ?h20143 (by kernel_rfl) (by kernel_rfl) (by kernel_rfl) (fun _ _ _ h => h) (Or.inl ⟨?w20143, ?y20143⟩) hH ?r20143
     case h20143 => simp only [List.getElem?_toArray, List.getElem?_cons_zero, List.getElem?_cons_succ]; rfl
     case w20143 => rfl
     case y20143 => intro _ _; go_simp; with_reducible rfl
     simp only [Act.put, List.setIfInBounds_toArray, List.set_cons_zero, List.set_cons_succ]
     exact unhide HOUT _ _ _ _ (C1025_ u g27 g30 g33 _ _ (bt_ GD hb) (r27.call hb) (r30.call hb) (r33.call hb) r70)
  exact ⟨C1024_25_, C1024_, C1025_, C10⟩
set_option maxHeartbeats 64000000 in
set_option maxRecDepth 100000 in
theorem er6p11 {r0 r1 r2 r3 r4 rest : Code} {id6 : Nat} {ops : Array Oper} (hc : Try.f7.body = some (.seq r0 (.seq r1 (.seq r2 (.seq r3 (.seq r4 (.seq (.region id6 ops true) rest))))))) (which : Int) (bt b4 b5 b6 b7 : Nat) (Wd : World) (GG : Nat → Array Bool → Act → World → Prop) (hS : Hid (SE b4 b5 b6 b7 Wd)) (Q : Exit → Act → World → Prop) (HIN : Hid (∀ f l a w, wpAnyH Try.prog .any ops (NoPanic Q) (SE b4 b5 b6 b7) f l a w → GG f l a w)) (HOUT : Hid (∀ f l a w, GG f l a w → wpAnyH Try.prog .any ops (NoPanic Q) (SE b4 b5 b6 b7) f l a w)) (C1224_25_ : frEC1224_25_ which bt b4 b5 b6 b7 Wd GG) (C1224_ : frEC1224_ which bt b4 b5 b6 b7 Wd GG) (C1225_ : frEC1225_ which bt b4 b5 b6 b7 Wd GG) (C12 : frEC12 which bt b4 b5 b6 b7 Wd GG) : frEC1124_25_ which bt b4 b5 b6 b7 Wd GG ∧ frEC1124_ which bt b4 b5 b6 b7 Wd GG ∧ frEC1125_ which bt b4 b5 b6 b7 Wd GG ∧ frEC11 which bt b4 b5 b6 b7 Wd GG := by
  unfold Try.f7 at hc
  cases hc
  have C1124_25_ : frEC1124_25_ which bt b4 b5 b6 b7 Wd GG := by
   intro u g27 g30 g33 g35 g64 g70 X GD r27 r30 r33 r35 r64 r70
   refine unhide HIN _ _ _ _ ?_
   unfold frE
   have hHeld := (unhide hS).call GD
   refine wpAnyH_ready (rs := [14]) (by kernel_rfl) (by simp) ?_
   refine AllReadyH.cons rfl (fun K20144 hK20144 => ?_) AllReadyH.nil
   go_simp
   go_wp2_with (go_at_call 26; refine (twoL_any _ xOne xDec _ _ _ rfl rfl).mono ?_; rintro e X2 ⟨g38, rfl, r38, hb⟩)
   exact hK20144.out _ _ (hHeld.call hb) (fun _ => unhide HOUT _ _ _ _ (C1224_25_ u g27 g30 g33 g35 _ g64 g70 _ (bt_ GD hb) (r27.call hb) (r30.call hb) (r33.call hb) (r35.call hb) r38 (r64.call hb) (r70.call hb)))
  have C1124_ : frEC1124_ which bt b4 b5 b6 b7 Wd GG := by
   intro u g27 g30 g33 g35 g64 X GD r27 r30 r33 r35 r64
   refine unhide HIN _ _ _ _ ?_
   unfold frE
   have hHeld := (unhide hS).call GD
   refine wpAnyH_ready (rs := [14, 46]) (by kernel_rfl) (by simp) ?_
   refine AllReadyH.cons rfl (fun K20145 hK20145 => ?_) ?_
   · go_simp
     go_wp2_with (go_at_call 26; refine (twoL_any _ xOne xDec _ _ _ rfl rfl).mono ?_; rintro e X2 ⟨g38, rfl, r38, hb⟩)
     exact hK20145.out _ _ (hHeld.call hb) (fun _ => unhide HOUT _ _ _ _ (C1224_ u g27 g30 g33 g35 _ g64 _ (bt_ GD hb) (r27.call hb) (r30.call hb) (r33.call hb) (r35.call hb) r38 (r64.call hb)))
   refine AllReadyH.cons rfl (fun K20146 hK20146 => ?_) AllReadyH.nil
   · go_simp
     have hb := below_new X o70
     have r70 := nb70 X
     refine hK20146.out _ _ (hHeld.call hb) (fun hH => ?_)
     clear hHeld hK20146 K20146
     refine wpAnyH_take (i := 47) (oi := ?o20147) (v := ?v20147) ?h20147 (by kernel_rfl) (by kernel_rfl) (by kernel_rfl) (fun _ _ _ h => h) (Or.inl ⟨?w20147, ?y20147⟩) hH ?r20147
     case h20147 => simp only [List.getElem?_toArray, List.getElem?_cons_zero, List.getElem?_cons_succ]; rfl
     case w20147 => rfl
     case y20147 => intro _ _; go_simp; with_reducible rfl
     simp only [Act.put, List.setIfInBounds_toArray, List.set_cons_zero, List.set_cons_succ]
     exact unhide HOUT _ _ _ _ (C1124_25_ u g27 g30 g33 g35 g64 _ _ (bt_ GD hb) (r27.call hb) (r30.call hb) (r33.call hb) (r35.call hb) (r64.call hb) r70)
  have C1125_ : frEC1125_ which bt b4 b5 b6 b7 Wd GG := by
   intro u g27 g30 g33 g35 g70 X GD r27 r30 r33 r35 r70
   refine unhide HIN _ _ _ _ ?_
   unfold frE
   have hHeld := (unhide hS).call GD
   refine wpAnyH_ready (rs := [14, 40]) (by kernel_rfl) (by simp) ?_
   refine AllReadyH.cons rfl (fun K20148 hK20148 => ?_) ?_
   · go_simp
     go_wp2_with (go_at_call 26; refine (twoL_any _ xOne xDec _ _ _ rfl rfl).mono ?_; rintro e X2 ⟨g38, rfl, r38, hb⟩)
     exact hK20148.out _ _ (hHeld.call hb) (fun _ => unhide HOUT _ _ _ _ (C1225_ u g27 g30 g33 g35 _ g70 _ (bt_ GD hb) (r27.call hb) (r30.call hb) (r33.call hb) (r35.call hb) r38 (r70.call hb)))
   refine AllReadyH.cons rfl (fun K20149 hK20149 => ?_) AllReadyH.nil
   · go_simp
     have hb := below_new X o64
     have r64 := nb64 X
     refine hK20149.out _ _ (hHeld.call hb) (fun hH => ?_)
     clear hHeld hK20149 K20149
     refine wpAnyH_take (i := 41) (oi := ?o20150) (v := ?v20150) ?h20150 (by kernel_rfl) (by kernel_rfl) (by kernel_rfl) (fun _ _ _ h => h) (Or.inl ⟨?w20150, ?y20150⟩) hH ?r20150
     case h20150 => simp only [List.getElem?_toArray, List.getElem?_cons_zero, List.getElem?_cons_succ]; rfl
     case w20150 => rfl
     case y20150 => intro _ _; go_simp; with_reducible rfl
     simp only [Act.put, List.setIfInBounds_toArray, List.set_cons_zero, List.set_cons_succ]
     exact unhide HOUT _ _ _ _ (C1124_25_ u g27 g30 g33 g35 _ g70 _ (bt_ GD hb) (r27.call hb) (r30.call hb) (r33.call hb) (r35.call hb) r64 (r70.call hb))
  have C11 : frEC11 which bt b4 b5 b6 b7 Wd GG := by
   intro u g27 g30 g33 g35 X GD r27 r30 r33 r35
   refine unhide HIN _ _ _ _ ?_
   unfold frE
   have hHeld := (unhide hS).call GD
   refine wpAnyH_ready (rs := [14, 40, 46]) (by kernel_rfl) (by simp) ?_
   refine AllReadyH.cons rfl (fun K20151 hK20151 => ?_) ?_
   · go_simp
     go_wp2_with (go_at_call 26; refine (twoL_any _ xOne xDec _ _ _ rfl rfl).mono ?_; rintro e X2 ⟨g38, rfl, r38, hb⟩)
     exact hK20151.out _ _ (hHeld.call hb) (fun _ => unhide HOUT _ _ _ _ (C12 u g27 g30 g33 g35 _ _ (bt_ GD hb) (r27.call hb) (r30.call hb) (r33.call hb) (r35.call hb) r38))
   refine AllReadyH.cons rfl (fun K20152 hK20152 => ?_) ?_
   · go_simp
     have hb := below_new X o64
     have r64 := nb64 X
     refine hK20152.out _ _ (hHeld.call hb) (fun hH => ?_)
     clear hHeld hK20152 K20152
     refine wpAnyH_take (i := 41) (oi := ?o20153) (v := ?v20153) ?h20153 (by kernel_rfl) (by kernel_rfl) (by kernel_rfl) (fun _ _ _ h => h) (Or.inl ⟨?w20153, ?y20153⟩) hH ?r20153
     case h20153 => simp only [List.getElem?_toArray, List.getElem?_cons_zero, List.getElem?_cons_succ]; rfl
     case w20153 => rfl
     case y20153 => intro _ _; go_simp; with_reducible rfl
     simp only [Act.put, List.setIfInBounds_toArray, List.set_cons_zero, List.set_cons_succ]
     exact unhide HOUT _ _ _ _ (C1124_ u g27 g30 g33 g35 _ _ (bt_ GD hb) (r27.call hb) (r30.call hb) (r33.call hb) (r35.call hb) r64)
   refine AllReadyH.cons rfl (fun K20154 hK20154 => ?_) AllReadyH.nil
   · go_simp
     have hb := below_new X o70
     have r70 := nb70 X
     refine hK20154.out _ _ (hHeld.call hb) (fun hH => ?_)
     clear hHeld hK20154 K20154
     refine wpAnyH_take (i := 47) (oi := ?o20155) (v := ?v20155) ?h20155 (by kernel_rfl) (by kernel_rfl) (by kernel_rfl) (fun _ _ _ h => h) (Or.inl ⟨?w20155, ?y20155⟩) hH ?r20155
     case h20155 => simp only [List.getElem?_toArray, List.getElem?_cons_zero, List.getElem?_cons_succ]; rfl
     case w20155 => rfl
     case y20155 => intro _ _; go_simp; with_reducible rfl
     simp only [Act.put, List.setIfInBounds_toArray, List.set_cons_zero, List.set_cons_succ]
     exact unhide HOUT _ _ _ _ (C1125_ u g27 g30 g33 g35 _ _ (bt_ GD hb) (r27.call hb) (r30.call hb) (r33.call hb) (r35.call hb) r70)
  exact ⟨C1124_25_, C1124_, C1125_, C11⟩
end Go.Proofs.Ytliefgkhpgigaaa
