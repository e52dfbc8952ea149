/-
  EvalErrs: steps from place 0 on.
-/
import Derived.Test.YtliefgkhpgigaaaVErE
namespace Go.Proofs.Ytliefgkhpgigaaa
open Go.RowKit
set_option linter.unusedSimpArgs false
set_option linter.unusedVariables false

set_option maxHeartbeats 64000000 in
set_option maxRecDepth 100000 in
theorem er6p0 {r0 r1 r2 r3 r4 rest : Code} {id6 : Nat} {ops : Array Oper} (hc : Try.f7.body = some (.seq r0 (.seq r1 (.seq r2 (.seq r3 (.seq r4 (.seq (.region id6 ops true) rest))))))) (which : Int) (bt b4 b5 b6 b7 : Nat) (Wd : World) (GG : Nat → Array Bool → Act → World → Prop) (hS : Hid (SE b4 b5 b6 b7 Wd)) (Q : Exit → Act → World → Prop) (HIN : Hid (∀ f l a w, wpAnyH Try.prog .any ops (NoPanic Q) (SE b4 b5 b6 b7) f l a w → GG f l a w)) (HOUT : Hid (∀ f l a w, GG f l a w → wpAnyH Try.prog .any ops (NoPanic Q) (SE b4 b5 b6 b7) f l a w)) (C124_25_ : frEC124_25_ which bt b4 b5 b6 b7 Wd GG) (C124_ : frEC124_ which bt b4 b5 b6 b7 Wd GG) (C125_ : frEC125_ which bt b4 b5 b6 b7 Wd GG) (C1 : frEC1 which bt b4 b5 b6 b7 Wd GG) : frEC024_25_ which bt b4 b5 b6 b7 Wd GG ∧ frEC024_ which bt b4 b5 b6 b7 Wd GG ∧ frEC025_ which bt b4 b5 b6 b7 Wd GG ∧ frEC0 which bt b4 b5 b6 b7 Wd GG := by
  unfold Try.f7 at hc
  cases hc
  have C024_25_ : frEC024_25_ which bt b4 b5 b6 b7 Wd GG := by
   intro u g64 g70 X GD r64 r70
   refine unhide HIN _ _ _ _ ?_
   unfold frE
   have hHeld := (unhide hS).call GD
   refine wpAnyH_ready (rs := [0]) (by kernel_rfl) (by simp) ?_
   refine AllReadyH.cons rfl (fun K20012 hK20012 => ?_) AllReadyH.nil
   go_simp
   go_wp2_with (go_at_call 27; refine (colL_any _ _).mono ?_; rintro e X2 ⟨rfl, hb⟩)
   exact hK20012.out _ _ (hHeld.call hb) (fun _ => unhide HOUT _ _ _ _ (C124_25_ u g64 g70 _ (bt_ GD hb) (r64.call hb) (r70.call hb)))
  have C024_ : frEC024_ which bt b4 b5 b6 b7 Wd GG := by
   intro u g64 X GD r64
   refine unhide HIN _ _ _ _ ?_
   unfold frE
   have hHeld := (unhide hS).call GD
   refine wpAnyH_ready (rs := [0, 46]) (by kernel_rfl) (by simp) ?_
   refine AllReadyH.cons rfl (fun K20013 hK20013 => ?_) ?_
   · go_simp
     go_wp2_with (go_at_call 27; refine (colL_any _ _).mono ?_; rintro e X2 ⟨rfl, hb⟩)
     exact hK20013.out _ _ (hHeld.call hb) (fun _ => unhide HOUT _ _ _ _ (C124_ u g64 _ (bt_ GD hb) (r64.call hb)))
   refine AllReadyH.cons rfl (fun K20014 hK20014 => ?_) AllReadyH.nil
   · go_simp
     have hb := below_new X o70
     have r70 := nb70 X
     refine hK20014.out _ _ (hHeld.call hb) (fun hH => ?_)
     clear hHeld hK20014 K20014
     refine wpAnyH_take (i := 47) (oi := ?o20015) (v := ?v20015) ?h20015 (by kernel_rfl) (by kernel_rfl) (by kernel_rfl) (fun _ _ _ h => h) (Or.inl ⟨?w20015, ?y20015⟩) hH ?r20015
     case h20015 => simp only [List.getElem?_toArray, List.getElem?_cons_zero, List.getElem?_cons_succ]; rfl
     case w20015 => rfl
     case y20015 => intro _ _; go_simp; with_reducible rfl
     simp only [Act.put, List.setIfInBounds_toArray, List.set_cons_zero, List.set_cons_succ]
     exact unhide HOUT _ _ _ _ (C024_25_ u g64 _ _ (bt_ GD hb) (r64.call hb) r70)
  have C025_ : frEC025_ which bt b4 b5 b6 b7 Wd GG := by
   intro u g70 X GD r70
   refine unhide HIN _ _ _ _ ?_
   unfold frE
   have hHeld := (unhide hS).call GD
   refine wpAnyH_ready (rs := [0, 40]) (by kernel_rfl) (by simp) ?_
   refine AllReadyH.cons rfl (fun K20016 hK20016 => ?_) ?_
   · go_simp
     go_wp2_with (go_at_call 27; refine (colL_any _ _).mono ?_; rintro e X2 ⟨rfl, hb⟩)
     exact hK20016.out _ _ (hHeld.call hb) (fun _ => unhide HOUT _ _ _ _ (C125_ u g70 _ (bt_ GD hb) (r70.call hb)))
   refine AllReadyH.cons rfl (fun K20017 hK20017 => ?_) AllReadyH.nil
   · go_simp
     have hb := below_new X o64
     have r64 := nb64 X
     refine hK20017.out _ _ (hHeld.call hb) (fun hH => ?_)
     clear hHeld hK20017 K20017
     refine wpAnyH_take (i := 41) (oi := ?o20018) (v := ?v20018) ?h20018 (by kernel_rfl) (by kernel_rfl) (by kernel_rfl) (fun _ _ _ h => h) (Or.inl ⟨?w20018, ?y20018⟩) hH ?r20018
     case h20018 => simp only [List.getElem?_toArray, List.getElem?_cons_zero, List.getElem?_cons_succ]; rfl
     case w20018 => rfl
     case y20018 => intro _ _; go_simp; with_reducible rfl
     simp only [Act.put, List.setIfInBounds_toArray, List.set_cons_zero, List.set_cons_succ]
     exact unhide HOUT _ _ _ _ (C024_25_ u _ g70 _ (bt_ GD hb) r64 (r70.call hb))
  have C0 : frEC0 which bt b4 b5 b6 b7 Wd GG := by
   intro u X GD
   refine unhide HIN _ _ _ _ ?_
   unfold frE
   have hHeld := (unhide hS).call GD
   refine wpAnyH_ready (rs := [0, 40, 46]) (by kernel_rfl) (by simp) ?_
   refine AllReadyH.cons rfl (fun K20019 hK20019 => ?_) ?_
   · go_simp
     go_wp2_with (go_at_call 27; refine (colL_any _ _).mono ?_; rintro e X2 ⟨rfl, hb⟩)
     exact hK20019.out _ _ (hHeld.call hb) (fun _ => unhide HOUT _ _ _ _ (C1 u  _ (bt_ GD hb) ))
   refine AllReadyH.cons rfl (fun K20020 hK20020 => ?_) ?_
   · go_simp
     have hb := below_new X o64
     have r64 := nb64 X
     refine hK20020.out _ _ (hHeld.call hb) (fun hH => ?_)
     clear hHeld hK20020 K20020
     refine wpAnyH_take (i := 41) (oi := ?o20021) (v := ?v20021) ?h20021 (by kernel_rfl) (by kernel_rfl) (by kernel_rfl) (fun _ _ _ h => h) (Or.inl ⟨?w20021, ?y20021⟩) hH ?r20021
     case h20021 => simp only [List.getElem?_toArray, List.getElem?_cons_zero, List.getElem?_cons_succ]; rfl
     case w20021 => rfl
     case y20021 => intro _ _; go_simp; with_reducible rfl
     simp only [Act.put, List.setIfInBounds_toArray, List.set_cons_zero, List.set_cons_succ]
     exact unhide HOUT _ _ _ _ (C024_ u _ _ (bt_ GD hb) r64)
   refine AllReadyH.cons rfl (fun K20022 hK20022 => ?_) AllReadyH.nil
   · go_simp
     have hb := below_new X o70
     have r70 := nb70 X
     refine hK20022.out _ _ (hHeld.call hb) (fun hH => ?_)
     clear hHeld hK20022 K20022
     refine wpAnyH_take (i := 47) (oi := ?o20023) (v := ?v20023) ?h20023 (by kernel_rfl) (by kernel_rfl) (by kernel_rfl) (fun _ _ _ h => h) (Or.inl ⟨?w20023, ?y20023⟩) hH ?r20023
     case h20023 => simp only [List.getElem?_toArray, List.getElem?_cons_zero, List.getElem?_cons_succ]; rfl
     case w20023 => rfl
     case y20023 => intro _ _; go_simp; with_reducible rfl
     simp only [Act.put, List.setIfInBounds_toArray, List.set_cons_zero, List.set_cons_succ]
     exact unhide HOUT _ _ _ _ (C025_ u _ _ (bt_ GD hb) r70)
  exact ⟨C024_25_, C024_, C025_, C0⟩
set_option maxHeartbeats 64000000 in
set_option maxRecDepth 100000 in
theorem er6p1 {r0 r1 r2 r3 r4 rest : Code} {id6 : Nat} {ops : Array Oper} (hc : Try.f7.body = some (.seq r0 (.seq r1 (.seq r2 (.seq r3 (.seq r4 (.seq (.region id6 ops true) rest))))))) (which : Int) (bt b4 b5 b6 b7 : Nat) (Wd : World) (GG : Nat → Array Bool → Act → World → Prop) (hS : Hid (SE b4 b5 b6 b7 Wd)) (Q : Exit → Act → World → Prop) (HIN : Hid (∀ f l a w, wpAnyH Try.prog .any ops (NoPanic Q) (SE b4 b5 b6 b7) f l a w → GG f l a w)) (HOUT : Hid (∀ f l a w, GG f l a w → wpAnyH Try.prog .any ops (NoPanic Q) (SE b4 b5 b6 b7) f l a w)) (C224_25_ : frEC224_25_ which bt b4 b5 b6 b7 Wd GG) (C224_ : frEC224_ which bt b4 b5 b6 b7 Wd GG) (C225_ : frEC225_ which bt b4 b5 b6 b7 Wd GG) (C2 : frEC2 which bt b4 b5 b6 b7 Wd GG) : frEC124_25_ which bt b4 b5 b6 b7 Wd GG ∧ frEC124_ which bt b4 b5 b6 b7 Wd GG ∧ frEC125_ which bt b4 b5 b6 b7 Wd GG ∧ frEC1 which bt b4 b5 b6 b7 Wd GG := by
  unfold Try.f7 at hc
  cases hc
  have C124_25_ : frEC124_25_ which bt b4 b5 b6 b7 Wd GG := by
   intro u g64 g70 X GD r64 r70
   refine unhide HIN _ _ _ _ ?_
   unfold frE
   have hHeld := (unhide hS).call GD
   refine wpAnyH_ready (rs := [1]) (by kernel_rfl) (by simp) ?_
   refine AllReadyH.cons rfl (fun K20024 hK20024 => ?_) AllReadyH.nil
   go_simp
   go_wp2_with (go_at_call 27; refine (colL_any _ _).mono ?_; rintro e X2 ⟨rfl, hb⟩)
   exact hK20024.out _ _ (hHeld.call hb) (fun _ => unhide HOUT _ _ _ _ (C224_25_ u g64 g70 _ (bt_ GD hb) (r64.call hb) (r70.call hb)))
  have C124_ : frEC124_ which bt b4 b5 b6 b7 Wd GG := by
   intro u g64 X GD r64
   refine unhide HIN _ _ _ _ ?_
   unfold frE
   have hHeld := (unhide hS).call GD
   refine wpAnyH_ready (rs := [1, 46]) (by kernel_rfl) (by simp) ?_
   refine AllReadyH.cons rfl (fun K20025 hK20025 => ?_) ?_
   · go_simp
     go_wp2_with (go_at_call 27; refine (colL_any _ _).mono ?_; rintro e X2 ⟨rfl, hb⟩)
     exact hK20025.out _ _ (hHeld.call hb) (fun _ => unhide HOUT _ _ _ _ (C224_ u g64 _ (bt_ GD hb) (r64.call hb)))
   refine AllReadyH.cons rfl (fun K20026 hK20026 => ?_) AllReadyH.nil
   · go_simp
     have hb := below_new X o70
     have r70 := nb70 X
     refine hK20026.out _ _ (hHeld.call hb) (fun hH => ?_)
     clear hHeld hK20026 K20026
     refine wpAnyH_take (i := 47) (oi := ?o20027) (v := ?v20027) ?h20027 (by kernel_rfl) (by kernel_rfl) (by kernel_rfl) (fun _ _ _ h => h) (Or.inl ⟨?w20027, ?y20027⟩) hH ?r20027
     case h20027 => simp only [List.getElem?_toArray, List.getElem?_cons_zero, List.getElem?_cons_succ]; rfl
     case w20027 => rfl
     case y20027 => intro _ _; go_simp; with_reducible rfl
     simp only [Act.put, List.setIfInBounds_toArray, List.set_cons_zero, List.set_cons_succ]
     exact unhide HOUT _ _ _ _ (C124_25_ u g64 _ _ (bt_ GD hb) (r64.call hb) r70)
  have C125_ : frEC125_ which bt b4 b5 b6 b7 Wd GG := by
   intro u g70 X GD r70
   refine unhide HIN _ _ _ _ ?_
   unfold frE
   have hHeld := (unhide hS).call GD
   refine wpAnyH_ready (rs := [1, 40]) (by kernel_rfl) (by simp) ?_
   refine AllReadyH.cons rfl (fun K20028 hK20028 => ?_) ?_
   · go_simp
     go_wp2_with (go_at_call 27; refine (colL_any _ _).mono ?_; rintro e X2 ⟨rfl, hb⟩)
     exact hK20028.out _ _ (hHeld.call hb) (fun _ => unhide HOUT _ _ _ _ (C225_ u g70 _ (bt_ GD hb) (r70.call hb)))
   refine AllReadyH.cons rfl (fun K20029 hK20029 => ?_) AllReadyH.nil
   · go_simp
     have hb := below_new X o64
     have r64 := nb64 X
     refine hK20029.out _ _ (hHeld.call hb) (fun hH => ?_)
     clear hHeld hK20029 K20029
     refine wpAnyH_take (i := 41) (oi := ?o20030) (v := ?v20030) ?h20030 (by kernel_rfl) (by kernel_rfl) (by kernel_rfl) (fun _ _ _ h => h) (Or.inl ⟨?w20030, ?y20030⟩) hH ?r20030
     case h20030 => simp only [List.getElem?_toArray, List.getElem?_cons_zero, List.getElem?_cons_succ]; rfl
     case w20030 => rfl
     case y20030 => intro _ _; go_simp; with_reducible rfl
     simp only [Act.put, List.setIfInBounds_toArray, List.set_cons_zero, List.set_cons_succ]
     exact unhide HOUT _ _ _ _ (C124_25_ u _ g70 _ (bt_ GD hb) r64 (r70.call hb))
  have C1 : frEC1 which bt b4 b5 b6 b7 Wd GG := by
   intro u X GD
   refine unhide HIN _ _ _ _ ?_
   unfold frE
   have hHeld := (unhide hS).call GD
   refine wpAnyH_ready (rs := [1, 40, 46]) (by kernel_rfl) (by simp) ?_
   refine AllReadyH.cons rfl (fun K20031 hK20031 => ?_) ?_
   · go_simp
     go_wp2_with (go_at_call 27; refine (colL_any _ _).mono ?_; rintro e X2 ⟨rfl, hb⟩)
     exact hK20031.out _ _ (hHeld.call hb) (fun _ => unhide HOUT _ _ _ _ (C2 u  _ (bt_ GD hb) ))
   refine AllReadyH.cons rfl (fun K20032 hK20032 => ?_) ?_
   · go_simp
     have hb := below_new X o64
     have r64 := nb64 X
     refine hK20032.out _ _ (hHeld.call hb) (fun hH => ?_)
     clear hHeld hK20032 K20032
     refine wpAnyH_take (i := 41) (oi := ?o20033) (v := ?v20033) ?h20033 (by kernel_rfl) (by kernel_rfl) (by kernel_rfl) (fun _ _ _ h => h) (Or.inl ⟨?w20033, ?y20033⟩) hH ?r20033
     case h20033 => simp only [List.getElem?_toArray, List.getElem?_cons_zero, List.getElem?_cons_succ]; rfl
     case w20033 => rfl
     case y20033 => intro _ _; go_simp; with_reducible rfl
     simp only [Act.put, List.setIfInBounds_toArray, List.set_cons_zero, List.set_cons_succ]
     exact unhide HOUT _ _ _ _ (C124_ u _ _ (bt_ GD hb) r64)
   refine AllReadyH.cons rfl (fun K20034 hK20034 => ?_) AllReadyH.nil
   · go_simp
     have hb := below_new X o70
     have r70 := nb70 X
     refine hK20034.out _ _ (hHeld.call hb) (fun hH => ?_)
     clear hHeld hK20034 K20034
     refine wpAnyH_take (i := 47) (oi := ?o20035) (v := ?v20035) ?h20035 (by kernel_rfl) (by kernel_rfl) (by kernel_rfl) (fun _ _ _ h => h) (Or.inl ⟨?w20035, ?y20035⟩) hH ?r20035
     case h20035 => simp only [List.getElem?_toArray, List.getElem?_cons_zero, List.getElem?_cons_succ]; rfl
     case w20035 => rfl
     case y20035 => intro _ _; go_simp; with_reducible rfl
     simp only [Act.put, List.setIfInBounds_toArray, List.set_cons_zero, List.set_cons_succ]
     exact unhide HOUT _ _ _ _ (C125_ u _ _ (bt_ GD hb) r70)
  exact ⟨C124_25_, C124_, C125_, C1⟩
set_option maxHeartbeats 64000000 in
set_option maxRecDepth 100000 in
theorem er6p2 {r0 r1 r2 r3 r4 rest : Code} {id6 : Nat} {ops : Array Oper} (hc : Try.f7.body = some (.seq r0 (.seq r1 (.seq r2 (.seq r3 (.seq r4 (.seq (.region id6 ops true) rest))))))) (which : Int) (bt b4 b5 b6 b7 : Nat) (Wd : World) (GG : Nat → Array Bool → Act → World → Prop) (hS : Hid (SE b4 b5 b6 b7 Wd)) (Q : Exit → Act → World → Prop) (HIN : Hid (∀ f l a w, wpAnyH Try.prog .any ops (NoPanic Q) (SE b4 b5 b6 b7) f l a w → GG f l a w)) (HOUT : Hid (∀ f l a w, GG f l a w → wpAnyH Try.prog .any ops (NoPanic Q) (SE b4 b5 b6 b7) f l a w)) (C324_25_ : frEC324_25_ which bt b4 b5 b6 b7 Wd GG) (C324_ : frEC324_ which bt b4 b5 b6 b7 Wd GG) (C325_ : frEC325_ which bt b4 b5 b6 b7 Wd GG) (C3 : frEC3 which bt b4 b5 b6 b7 Wd GG) : frEC224_25_ which bt b4 b5 b6 b7 Wd GG ∧ frEC224_ which bt b4 b5 b6 b7 Wd GG ∧ frEC225_ which bt b4 b5 b6 b7 Wd GG ∧ frEC2 which bt b4 b5 b6 b7 Wd GG := by
  unfold Try.f7 at hc
  cases hc
  have C224_25_ : frEC224_25_ which bt b4 b5 b6 b7 Wd GG := by
   intro u g64 g70 X GD r64 r70
   refine unhide HIN _ _ _ _ ?_
   unfold frE
   have hHeld := (unhide hS).call GD
   refine wpAnyH_ready (rs := [2]) (by kernel_rfl) (by simp) ?_
   refine AllReadyH.cons rfl (fun K20036 hK20036 => ?_) AllReadyH.nil
   go_simp
   go_wp2_with (go_at_call 27; refine (colL_any _ _).mono ?_; rintro e X2 ⟨rfl, hb⟩)
   exact hK20036.out _ _ (hHeld.call hb) (fun _ => unhide HOUT _ _ _ _ (C324_25_ u g64 g70 _ (bt_ GD hb) (r64.call hb) (r70.call hb)))
  have C224_ : frEC224_ which bt b4 b5 b6 b7 Wd GG := by
   intro u g64 X GD r64
   refine unhide HIN _ _ _ _ ?_
   unfold frE
   have hHeld := (unhide hS).call GD
   refine wpAnyH_ready (rs := [2, 46]) (by kernel_rfl) (by simp) ?_
   refine AllReadyH.cons rfl (fun K20037 hK20037 => ?_) ?_
   · go_simp
     go_wp2_with (go_at_call 27; refine (colL_any _ _).mono ?_; rintro e X2 ⟨rfl, hb⟩)
     exact hK20037.out _ _ (hHeld.call hb) (fun _ => unhide HOUT _ _ _ _ (C324_ u g64 _ (bt_ GD hb) (r64.call hb)))
   refine AllReadyH.cons rfl (fun K20038 hK20038 => ?_) AllReadyH.nil
   · go_simp
     have hb := below_new X o70
     have r70 := nb70 X
     refine hK20038.out _ _ (hHeld.call hb) (fun hH => ?_)
     clear hHeld hK20038 K20038
     refine wpAnyH_take (i := 47) (oi := ?o20039) (v := ?v20039) ?h20039 (by kernel_rfl) (by kernel_rfl) (by kernel_rfl) (fun _ _ _ h => h) (Or.inl ⟨?w20039, ?y20039⟩) hH ?r20039
     case h20039 => simp only [List.getElem?_toArray, List.getElem?_cons_zero, List.getElem?_cons_succ]; rfl
     case w20039 => rfl
     case y20039 => intro _ _; go_simp; with_reducible rfl
     simp only [Act.put, List.setIfInBounds_toArray, List.set_cons_zero, List.set_cons_succ]
     exact unhide HOUT _ _ _ _ (C224_25_ u g64 _ _ (bt_ GD hb) (r64.call hb) r70)
  have C225_ : frEC225_ which bt b4 b5 b6 b7 Wd GG := by
   intro u g70 X GD r70
   refine unhide HIN _ _ _ _ ?_
   unfold frE
   have hHeld := (unhide hS).call GD
   refine wpAnyH_ready (rs := [2, 40]) (by kernel_rfl) (by simp) ?_
   refine AllReadyH.cons rfl (fun K20040 hK20040 => ?_) ?_
   · go_simp
     go_wp2_with (go_at_call 27; refine (colL_any _ _).mono ?_; rintro e X2 ⟨rfl, hb⟩)
     exact hK20040.out _ _ (hHeld.call hb) (fun _ => unhide HOUT _ _ _ _ (C325_ u g70 _ (bt_ GD hb) (r70.call hb)))
   refine AllReadyH.cons rfl (fun K20041 hK20041 => ?_) AllReadyH.nil
   · go_simp
     have hb := below_new X o64
     have r64 := nb64 X
     refine hK20041.out _ _ (hHeld.call hb) (fun hH => ?_)
     clear hHeld hK20041 K20041
     refine wpAnyH_take (i := 41) (oi := ?o20042) (v := ?v20042) ?h20042 (by kernel_rfl) (by kernel_rfl) (by kernel_rfl) (fun _ _ _ h => h) (Or.inl ⟨?w20042, ?y20042⟩) hH ?r20042
     case h20042 => simp only [List.getElem?_toArray, List.getElem?_cons_zero, List.getElem?_cons_succ]; rfl
     case w20042 => rfl
     case y20042 => intro _ _; go_simp; with_reducible rfl
     simp only [Act.put, List.setIfInBounds_toArray, List.set_cons_zero, List.set_cons_succ]
     exact unhide HOUT _ _ _ _ (C224_25_ u _ g70 _ (bt_ GD hb) r64 (r70.call hb))
  have C2 : frEC2 which bt b4 b5 b6 b7 Wd GG := by
   intro u X GD
   refine unhide HIN _ _ _ _ ?_
   unfold frE
   have hHeld := (unhide hS).call GD
   refine wpAnyH_ready (rs := [2, 40, 46]) (by kernel_rfl) (by simp) ?_
   refine AllReadyH.cons rfl (fun K20043 hK20043 => ?_) ?_
   · go_simp
     go_wp2_with (go_at_call 27; refine (colL_any _ _).mono ?_; rintro e X2 ⟨rfl, hb⟩)
     exact hK20043.out _ _ (hHeld.call hb) (fun _ => unhide HOUT _ _ _ _ (C3 u  _ (bt_ GD hb) ))
   refine AllReadyH.cons rfl (fun K20044 hK20044 => ?_) ?_
   · go_simp
     have hb := below_new X o64
     have r64 := nb64 X
     refine hK20044.out _ _ (hHeld.call hb) (fun hH => ?_)
     clear hHeld hK20044 K20044
     refine wpAnyH_take (i := 41) (oi := ?o20045) (v := ?v20045) ?h20045 (by kernel_rfl) (by kernel_rfl) (by kernel_rfl) (fun _ _ _ h => h) (Or.inl ⟨?w20045, ?y20045⟩) hH ?r20045
     case h20045 => simp only [List.getElem?_toArray, List.getElem?_cons_zero, List.getElem?_cons_succ]; rfl
     case w20045 => rfl
     case y20045 => intro _ _; go_simp; with_reducible rfl
     simp only [Act.put, List.setIfInBounds_toArray, List.set_cons_zero, List.set_cons_succ]
     exact unhide HOUT _ _ _ _ (C224_ u _ _ (bt_ GD hb) r64)
   refine AllReadyH.cons rfl (fun K20046 hK20046 => ?_) AllReadyH.nil
   · go_simp
     have hb := below_new X o70
     have r70 := nb70 X
     refine hK20046.out _ _ (hHeld.call hb) (fun hH => ?_)
     clear hHeld hK20046 K20046
     refine wpAnyH_take (i := 47) (oi := ?o20047) (v := ?v20047) ?h20047 (by kernel_rfl) (by kernel_rfl) (by kernel_rfl) (fun _ _ _ h => h) (Or.inl ⟨?w20047, ?y20047⟩) hH ?r20047
     case h20047 => simp only [List.getElem?_toArray, List.getElem?_cons_zero, List.getElem?_cons_succ]; rfl
     case w20047 => rfl
     case y20047 => intro _ _; go_simp; with_reducible rfl
     simp only [Act.put, List.setIfInBounds_toArray, List.set_cons_zero, List.set_cons_succ]
     exact unhide HOUT _ _ _ _ (C225_ u _ _ (bt_ GD hb) r70)
  exact ⟨C224_25_, C224_, C225_, C2⟩
set_option maxHeartbeats 64000000 in
set_option maxRecDepth 100000 in
theorem er6p3 {r0 r1 r2 r3 r4 rest : Code} {id6 : Nat} {ops : Array Oper} (hc : Try.f7.body = some (.seq r0 (.seq r1 (.seq r2 (.seq r3 (.seq r4 (.seq (.region id6 ops true) rest))))))) (which : Int) (bt b4 b5 b6 b7 : Nat) (Wd : World) (GG : Nat → Array Bool → Act → World → Prop) (hS : Hid (SE b4 b5 b6 b7 Wd)) (Q : Exit → Act → World → Prop) (HIN : Hid (∀ f l a w, wpAnyH Try.prog .any ops (NoPanic Q) (SE b4 b5 b6 b7) f l a w → GG f l a w)) (HOUT : Hid (∀ f l a w, GG f l a w → wpAnyH Try.prog .any ops (NoPanic Q) (SE b4 b5 b6 b7) f l a w)) (C424_25_ : frEC424_25_ which bt b4 b5 b6 b7 Wd GG) (C424_ : frEC424_ which bt b4 b5 b6 b7 Wd GG) (C425_ : frEC425_ which bt b4 b5 b6 b7 Wd GG) (C4 : frEC4 which bt b4 b5 b6 b7 Wd GG) : frEC324_25_ which bt b4 b5 b6 b7 Wd GG ∧ frEC324_ which bt b4 b5 b6 b7 Wd GG ∧ frEC325_ which bt b4 b5 b6 b7 Wd GG ∧ frEC3 which bt b4 b5 b6 b7 Wd GG := by
  unfold Try.f7 at hc
  cases hc
  have C324_25_ : frEC324_25_ which bt b4 b5 b6 b7 Wd GG := by
   intro u g64 g70 X GD r64 r70
   refine unhide HIN _ _ _ _ ?_
   unfold frE
   have hHeld := (unhide hS).call GD
   refine wpAnyH_ready (rs := [3]) (by kernel_rfl) (by simp) ?_
   refine AllReadyH.cons rfl (fun K20048 hK20048 => ?_) AllReadyH.nil
   go_simp
   go_wp2_with (go_at_call 26; refine (twoL_any _ e25 e26 _ _ _ rfl rfl).mono ?_; rintro e X2 ⟨g27, rfl, r27, hb⟩)
   exact hK20048.out _ _ (hHeld.call hb) (fun _ => unhide HOUT _ _ _ _ (C424_25_ u _ g64 g70 _ (bt_ GD hb) r27 (r64.call hb) (r70.call hb)))
  have C324_ : frEC324_ which bt b4 b5 b6 b7 Wd GG := by
   intro u g64 X GD r64
   refine unhide HIN _ _ _ _ ?_
   unfold frE
   have hHeld := (unhide hS).call GD
   refine wpAnyH_ready (rs := [3, 46]) (by kernel_rfl) (by simp) ?_
   refine AllReadyH.cons rfl (fun K20049 hK20049 => ?_) ?_
   · go_simp
     go_wp2_with (go_at_call 26; refine (twoL_any _ e25 e26 _ _ _ rfl rfl).mono ?_; rintro e X2 ⟨g27, rfl, r27, hb⟩)
     exact hK20049.out _ _ (hHeld.call hb) (fun _ => unhide HOUT _ _ _ _ (C424_ u _ g64 _ (bt_ GD hb) r27 (r64.call hb)))
   refine AllReadyH.cons rfl (fun K20050 hK20050 => ?_) AllReadyH.nil
   · go_simp
     have hb := below_new X o70
     have r70 := nb70 X
     refine hK20050.out _ _ (hHeld.call hb) (fun hH => ?_)
     clear hHeld hK20050 K20050
     refine wpAnyH_take (i := 47) (oi := ?o20051) (v := ?v20051) ?h20051 (by kernel_rfl) (by kernel_rfl) (by kernel_rfl) (fun _ _ _ h => h) (Or.inl ⟨?w20051, ?y20051⟩) hH ?r20051
     case h20051 => simp only [List.getElem?_toArray, List.getElem?_cons_zero, List.getElem?_cons_succ]; rfl
     case w20051 => rfl
     case y20051 => intro _ _; go_simp; with_reducible rfl
     simp only [Act.put, List.setIfInBounds_toArray, List.set_cons_zero, List.set_cons_succ]
     exact unhide HOUT _ _ _ _ (C324_25_ u g64 _ _ (bt_ GD hb) (r64.call hb) r70)
  have C325_ : frEC325_ which bt b4 b5 b6 b7 Wd GG := by
   intro u g70 X GD r70
   refine unhide HIN _ _ _ _ ?_
   unfold frE
   have hHeld := (unhide hS).call GD
   refine wpAnyH_ready (rs := [3, 40]) (by kernel_rfl) (by simp) ?_
   refine AllReadyH.cons rfl (fun K20052 hK20052 => ?_) ?_
   · go_simp
     go_wp2_with (go_at_call 26; refine (twoL_any _ e25 e26 _ _ _ rfl rfl).mono ?_; rintro e X2 ⟨g27, rfl, r27, hb⟩)
     exact hK20052.out _ _ (hHeld.call hb) (fun _ => unhide HOUT _ _ _ _ (C425_ u _ g70 _ (bt_ GD hb) r27 (r70.call hb)))
   refine AllReadyH.cons rfl (fun K20053 hK20053 => ?_) AllReadyH.nil
   · go_simp
     have hb := below_new X o64
     have r64 := nb64 X
     refine hK20053.out _ _ (hHeld.call hb) (fun hH => ?_)
     clear hHeld hK20053 K20053
     refine wpAnyH_take (i := 41) (oi := ?o20054) (v := ?v20054) ?h20054 (by kernel_rfl) (by kernel_rfl) (by kernel_rfl) (fun _ _ _ h => h) (Or.inl ⟨?w20054, ?y20054⟩) hH ?r20054
     case h20054 => simp only [List.getElem?_toArray, List.getElem?_cons_zero, List.getElem?_cons_succ]; rfl
     case w20054 => rfl
     case y20054 => intro _ _; go_simp; with_reducible rfl
     simp only [Act.put, List.setIfInBounds_toArray, List.set_cons_zero, List.set_cons_succ]
     exact unhide HOUT _ _ _ _ (C324_25_ u _ g70 _ (bt_ GD hb) r64 (r70.call hb))
  have C3 : frEC3 which bt b4 b5 b6 b7 Wd GG := by
   intro u X GD
   refine unhide HIN _ _ _ _ ?_
   unfold frE
   have hHeld := (unhide hS).call GD
   refine wpAnyH_ready (rs := [3, 40, 46]) (by kernel_rfl) (by simp) ?_
   refine AllReadyH.cons rfl (fun K20055 hK20055 => ?_) ?_
   · go_simp
     go_wp2_with (go_at_call 26; refine (twoL_any _ e25 e26 _ _ _ rfl rfl).mono ?_; rintro e X2 ⟨g27, rfl, r27, hb⟩)
     exact hK20055.out _ _ (hHeld.call hb) (fun _ => unhide HOUT _ _ _ _ (C4 u _ _ (bt_ GD hb) r27))
   refine AllReadyH.cons rfl (fun K20056 hK20056 => ?_) ?_
   · go_simp
     have hb := below_new X o64
     have r64 := nb64 X
     refine hK20056.out _ _ (hHeld.call hb) (fun hH => ?_)
     clear hHeld hK20056 K20056
     refine wpAnyH_take (i := 41) (oi := ?o20057) (v := ?v20057) ?h20057 (by kernel_rfl) (by kernel_rfl) (by kernel_rfl) (fun _ _ _ h => h) (Or.inl ⟨?w20057, ?y20057⟩) hH ?r20057
     case h20057 => simp only [List.getElem?_toArray, List.getElem?_cons_zero, List.getElem?_cons_succ]; rfl
     case w20057 => rfl
     case y20057 => intro _ _; go_simp; with_reducible rfl
     simp only [Act.put, List.setIfInBounds_toArray, List.set_cons_zero, List.set_cons_succ]
     exact unhide HOUT _ _ _ _ (C324_ u _ _ (bt_ GD hb) r64)
   refine AllReadyH.cons rfl (fun K20058 hK20058 => ?_) AllReadyH.nil
   · go_simp
     have hb := below_new X o70
     have r70 := nb70 X
     refine hK20058.out _ _ (hHeld.call hb) (fun hH => ?_)
     clear hHeld hK20058 K20058
     refine wpAnyH_take (i := 47) (oi := ?o20059) (v := ?v20059) ?h20059 (by kernel_rfl) (by kernel_rfl) (by kernel_rfl) (fun _ _ _ h => h) (Or.inl ⟨?w20059, ?y20059⟩) hH ?r20059
     case h20059 => simp only [List.getElem?_toArray, List.getElem?_cons_zero, List.getElem?_cons_succ]; rfl
     case w20059 => rfl
     case y20059 => intro _ _; go_simp; with_reducible rfl
     simp only [Act.put, List.setIfInBounds_toArray, List.set_cons_zero, List.set_cons_succ]
     exact unhide HOUT _ _ _ _ (C325_ u _ _ (bt_ GD hb) r70)
  exact ⟨C324_25_, C324_, C325_, C3⟩
set_option maxHeartbeats 64000000 in
set_option maxRecDepth 100000 in
theorem er6p4 {r0 r1 r2 r3 r4 rest : Code} {id6 : Nat} {ops : Array Oper} (hc : Try.f7.body = some (.seq r0 (.seq r1 (.seq r2 (.seq r3 (.seq r4 (.seq (.region id6 ops true) rest))))))) (which : Int) (bt b4 b5 b6 b7 : Nat) (Wd : World) (GG : Nat → Array Bool → Act → World → Prop) (hS : Hid (SE b4 b5 b6 b7 Wd)) (Q : Exit → Act → World → Prop) (HIN : Hid (∀ f l a w, wpAnyH Try.prog .any ops (NoPanic Q) (SE b4 b5 b6 b7) f l a w → GG f l a w)) (HOUT : Hid (∀ f l a w, GG f l a w → wpAnyH Try.prog .any ops (NoPanic Q) (SE b4 b5 b6 b7) f l a w)) (C524_25_ : frEC524_25_ which bt b4 b5 b6 b7 Wd GG) (C524_ : frEC524_ which bt b4 b5 b6 b7 Wd GG) (C525_ : frEC525_ which bt b4 b5 b6 b7 Wd GG) (C5 : frEC5 which bt b4 b5 b6 b7 Wd GG) : frEC424_25_ which bt b4 b5 b6 b7 Wd GG ∧ frEC424_ which bt b4 b5 b6 b7 Wd GG ∧ frEC425_ which bt b4 b5 b6 b7 Wd GG ∧ frEC4 which bt b4 b5 b6 b7 Wd GG := by
  unfold Try.f7 at hc
  cases hc
  have C424_25_ : frEC424_25_ which bt b4 b5 b6 b7 Wd GG := by
   intro u g27 g64 g70 X GD r27 r64 r70
   refine unhide HIN _ _ _ _ ?_
   unfold frE
   have hHeld := (unhide hS).call GD
   refine wpAnyH_ready (rs := [4]) (by kernel_rfl) (by simp) ?_
   refine AllReadyH.cons rfl (fun K20060 hK20060 => ?_) AllReadyH.nil
   go_simp
   go_wp2_with (go_at_call 27; refine (colL_any _ _).mono ?_; rintro e X2 ⟨rfl, hb⟩)
   exact hK20060.out _ _ (hHeld.call hb) (fun _ => unhide HOUT _ _ _ _ (C524_25_ u g27 g64 g70 _ (bt_ GD hb) (r27.call hb) (r64.call hb) (r70.call hb)))
  have C424_ : frEC424_ which bt b4 b5 b6 b7 Wd GG := by
   intro u g27 g64 X GD r27 r64
   refine unhide HIN _ _ _ _ ?_
   unfold frE
   have hHeld := (unhide hS).call GD
   refine wpAnyH_ready (rs := [4, 46]) (by kernel_rfl) (by simp) ?_
   refine AllReadyH.cons rfl (fun K20061 hK20061 => ?_) ?_
   · go_simp
     go_wp2_with (go_at_call 27; refine (colL_any _ _).mono ?_; rintro e X2 ⟨rfl, hb⟩)
     exact hK20061.out _ _ (hHeld.call hb) (fun _ => unhide HOUT _ _ _ _ (C524_ u g27 g64 _ (bt_ GD hb) (r27.call hb) (r64.call hb)))
   refine AllReadyH.cons rfl (fun K20062 hK20062 => ?_) AllReadyH.nil
   · go_simp
     have hb := below_new X o70
     have r70 := nb70 X
     refine hK20062.out _ _ (hHeld.call hb) (fun hH => ?_)
     clear hHeld hK20062 K20062
     refine wpAnyH_take (i := 47) (oi := ?o20063) (v := ?v20063) ?h20063 (by kernel_rfl) (by kernel_rfl) (by kernel_rfl) (fun _ _ _ h => h) (Or.inl ⟨?w20063, ?y20063⟩) hH ?r20063
     case h20063 => simp only [List.getElem?_toArray, List.getElem?_cons_zero, List.getElem?_cons_succ]; rfl
     case w20063 => rfl
     case y20063 => intro _ _; go_simp; with_reducible rfl
     simp only [Act.put, List.setIfInBounds_toArray, List.set_cons_zero, List.set_cons_succ]
     exact unhide HOUT _ _ _ _ (C424_25_ u g27 g64 _ _ (bt_ GD hb) (r27.call hb) (r64.call hb) r70)
  have C425_ : frEC425_ which bt b4 b5 b6 b7 Wd GG := by
   intro u g27 g70 X GD r27 r70
   refine unhide HIN _ _ _ _ ?_
   unfold frE
   have hHeld := (unhide hS).call GD
   refine wpAnyH_ready (rs := [4, 40]) (by kernel_rfl) (by simp) ?_
   refine AllReadyH.cons rfl (fun K20064 hK20064 => ?_) ?_
   · go_simp
     go_wp2_with (go_at_call 27; refine (colL_any _ _).mono ?_; rintro e X2 ⟨rfl, hb⟩)
     exact hK20064.out _ _ (hHeld.call hb) (fun _ => unhide HOUT _ _ _ _ (C525_ u g27 g70 _ (bt_ GD hb) (r27.call hb) (r70.call hb)))
   refine AllReadyH.cons rfl (fun K20065 hK20065 => ?_) AllReadyH.nil
   · go_simp
     have hb := below_new X o64
     have r64 := nb64 X
     refine hK20065.out _ _ (hHeld.call hb) (fun hH => ?_)
     clear hHeld hK20065 K20065
     refine wpAnyH_take (i := 41) (oi := ?o20066) (v := ?v20066) ?h20066 (by kernel_rfl) (by kernel_rfl) (by kernel_rfl) (fun _ _ _ h => h) (Or.inl ⟨?w20066, ?y20066⟩) hH ?r20066
     case h20066 => simp only [List.getElem?_toArray, List.getElem?_cons_zero, List.getElem?_cons_succ]; rfl
     case w20066 => rfl
     case y20066 => intro _ _; go_simp; with_reducible rfl
     simp only [Act.put, List.setIfInBounds_toArray, List.set_cons_zero, List.set_cons_succ]
     exact unhide HOUT _ _ _ _ (C424_25_ u g27 _ g70 _ (bt_ GD hb) (r27.call hb) r64 (r70.call hb))
  have C4 : frEC4 which bt b4 b5 b6 b7 Wd GG := by
   intro u g27 X GD r27
   refine unhide HIN _ _ _ _ ?_
   unfold frE
   have hHeld := (unhide hS).call GD
   refine wpAnyH_ready (rs := [4, 40, 46]) (by kernel_rfl) (by simp) ?_
   refine AllReadyH.cons rfl (fun K20067 hK20067 => ?_) ?_
   · go_simp
     go_wp2_with (go_at_call 27; refine (colL_any _ _).mono ?_; rintro e X2 ⟨rfl, hb⟩)
     exact hK20067.out _ _ (hHeld.call hb) (fun _ => unhide HOUT _ _ _ _ (C5 u g27 _ (bt_ GD hb) (r27.call hb)))
   refine AllReadyH.cons rfl (fun K20068 hK20068 => ?_) ?_
   · go_simp
     have hb := below_new X o64
     have r64 := nb64 X
     refine hK20068.out _ _ (hHeld.call hb) (fun hH => ?_)
     clear hHeld hK20068 K20068
     refine wpAnyH_take (i := 41) (oi := ?o20069) (v := ?v20069) ?h20069 (by kernel_rfl) (by kernel_rfl) (by kernel_rfl) (fun _ _ _ h => h) (Or.inl ⟨?w20069, ?y20069⟩) hH ?r20069
     case h20069 => simp only [List.getElem?_toArray, List.getElem?_cons_zero, List.getElem?_cons_succ]; rfl
     case w20069 => rfl
     case y20069 => intro _ _; go_simp; with_reducible rfl
     simp only [Act.put, List.setIfInBounds_toArray, List.set_cons_zero, List.set_cons_succ]
     exact unhide HOUT _ _ _ _ (C424_ u g27 _ _ (bt_ GD hb) (r27.call hb) r64)
   refine AllReadyH.cons rfl (fun K20070 hK20070 => ?_) AllReadyH.nil
   · go_simp
     have hb := below_new X o70
     have r70 := nb70 X
     refine hK20070.out _ _ (hHeld.call hb) (fun hH => ?_)
     clear hHeld hK20070 K20070
     refine wpAnyH_take (i := 47) (oi := ?o20071) (v := ?v20071) ?h20071 (by kernel_rfl) (by kernel_rfl) (by kernel_rfl) (fun _ _ _ h => h) (Or.inl ⟨?w20071, ?y20071⟩) hH ?r20071
     case h20071 => simp only [List.getElem?_toArray, List.getElem?_cons_zero, List.getElem?_cons_succ]; rfl
     case w20071 => rfl
     case y20071 => intro _ _; go_simp; with_reducible rfl
     simp only [Act.put, List.setIfInBounds_toArray, List.set_cons_zero, List.set_cons_succ]
     exact unhide HOUT _ _ _ _ (C425_ u g27 _ _ (bt_ GD hb) (r27.call hb) r70)
  exact ⟨C424_25_, C424_, C425_, C4⟩
set_option maxHeartbeats 64000000 in
set_option maxRecDepth 100000 in
theorem er6p5 {r0 r1 r2 r3 r4 rest : Code} {id6 : Nat} {ops : Array Oper} (hc : Try.f7.body = some (.seq r0 (.seq r1 (.seq r2 (.seq r3 (.seq r4 (.seq (.region id6 ops true) rest))))))) (which : Int) (bt b4 b5 b6 b7 : Nat) (Wd : World) (GG : Nat → Array Bool → Act → World → Prop) (hS : Hid (SE b4 b5 b6 b7 Wd)) (Q : Exit → Act → World → Prop) (HIN : Hid (∀ f l a w, wpAnyH Try.prog .any ops (NoPanic Q) (SE b4 b5 b6 b7) f l a w → GG f l a w)) (HOUT : Hid (∀ f l a w, GG f l a w → wpAnyH Try.prog .any ops (NoPanic Q) (SE b4 b5 b6 b7) f l a w)) (C624_25_ : frEC624_25_ which bt b4 b5 b6 b7 Wd GG) (C624_ : frEC624_ which bt b4 b5 b6 b7 Wd GG) (C625_ : frEC625_ which bt b4 b5 b6 b7 Wd GG) (C6 : frEC6 which bt b4 b5 b6 b7 Wd GG) : frEC524_25_ which bt b4 b5 b6 b7 Wd GG ∧ frEC524_ which bt b4 b5 b6 b7 Wd GG ∧ frEC525_ which bt b4 b5 b6 b7 Wd GG ∧ frEC5 which bt b4 b5 b6 b7 Wd GG := by
  unfold Try.f7 at hc
  cases hc
  have C524_25_ : frEC524_25_ which bt b4 b5 b6 b7 Wd GG := by
   intro u g27 g64 g70 X GD r27 r64 r70
   refine unhide HIN _ _ _ _ ?_
   unfold frE
   have hHeld := (unhide hS).call GD
   refine wpAnyH_ready (rs := [5]) (by kernel_rfl) (by simp) ?_
   refine AllReadyH.cons rfl (fun K20072 hK20072 => ?_) AllReadyH.nil
   go_simp
   go_wp2_with (go_at_call 27; refine (colL_any _ _).mono ?_; rintro e X2 ⟨rfl, hb⟩)
   exact hK20072.out _ _ (hHeld.call hb) (fun _ => unhide HOUT _ _ _ _ (C624_25_ u g27 g64 g70 _ (bt_ GD hb) (r27.call hb) (r64.call hb) (r70.call hb)))
  have C524_ : frEC524_ which bt b4 b5 b6 b7 Wd GG := by
   intro u g27 g64 X GD r27 r64
   refine unhide HIN _ _ _ _ ?_
   unfold frE
   have hHeld := (unhide hS).call GD
   refine wpAnyH_ready (rs := [5, 46]) (by kernel_rfl) (by simp) ?_
   refine AllReadyH.cons rfl (fun K20073 hK20073 => ?_) ?_
   · go_simp
     go_wp2_with (go_at_call 27; refine (colL_any _ _).mono ?_; rintro e X2 ⟨rfl, hb⟩)
     exact hK20073.out _ _ (hHeld.call hb) (fun _ => unhide HOUT _ _ _ _ (C624_ u g27 g64 _ (bt_ GD hb) (r27.call hb) (r64.call hb)))
   refine AllReadyH.cons rfl (fun K20074 hK20074 => ?_) AllReadyH.nil
   · go_simp
     have hb := below_new X o70
     have r70 := nb70 X
     refine hK20074.out _ _ (hHeld.call hb) (fun hH => ?_)
     clear hHeld hK20074 K20074
     refine wpAnyH_take (i := 47) (oi := ?o20075) (v := ?v20075) ?h20075 (by kernel_rfl) (by kernel_rfl) (by kernel_rfl) (fun _ _ _ h => h) (Or.inl ⟨?w20075, ?y20075⟩) hH ?r20075
     case h20075 => simp only [List.getElem?_toArray, List.getElem?_cons_zero, List.getElem?_cons_succ]; rfl
     case w20075 => rfl
     case y20075 => intro _ _; go_simp; with_reducible rfl
     simp only [Act.put, List.setIfInBounds_toArray, List.set_cons_zero, List.set_cons_succ]
     exact unhide HOUT _ _ _ _ (C524_25_ u g27 g64 _ _ (bt_ GD hb) (r27.call hb) (r64.call hb) r70)
  have C525_ : frEC525_ which bt b4 b5 b6 b7 Wd GG := by
   intro u g27 g70 X GD r27 r70
   refine unhide HIN _ _ _ _ ?_
   unfold frE
   have hHeld := (unhide hS).call GD
   refine wpAnyH_ready (rs := [5, 40]) (by kernel_rfl) (by simp) ?_
   refine AllReadyH.cons rfl (fun K20076 hK20076 => ?_) ?_
   · go_simp
     go_wp2_with (go_at_call 27; refine (colL_any _ _).mono ?_; rintro e X2 ⟨rfl, hb⟩)
     exact hK20076.out _ _ (hHeld.call hb) (fun _ => unhide HOUT _ _ _ _ (C625_ u g27 g70 _ (bt_ GD hb) (r27.call hb) (r70.call hb)))
   refine AllReadyH.cons rfl (fun K20077 hK20077 => ?_) AllReadyH.nil
   · go_simp
     have hb := below_new X o64
     have r64 := nb64 X
     refine hK20077.out _ _ (hHeld.call hb) (fun hH => ?_)
     clear hHeld hK20077 K20077
     refine wpAnyH_take (i := 41) (oi := ?o20078) (v := ?v20078) ?h20078 (by kernel_rfl) (by kernel_rfl) (by kernel_rfl) (fun _ _ _ h => h) (Or.inl ⟨?w20078, ?y20078⟩) hH ?r20078
     case h20078 => simp only [List.getElem?_toArray, List.getElem?_cons_zero, List.getElem?_cons_succ]; rfl
     case w20078 => rfl
     case y20078 => intro _ _; go_simp; with_reducible rfl
     simp only [Act.put, List.setIfInBounds_toArray, List.set_cons_zero, List.set_cons_succ]
     exact unhide HOUT _ _ _ _ (C524_25_ u g27 _ g70 _ (bt_ GD hb) (r27.call hb) r64 (r70.call hb))
  have C5 : frEC5 which bt b4 b5 b6 b7 Wd GG := by
   intro u g27 X GD r27
   refine unhide HIN _ _ _ _ ?_
   unfold frE
   have hHeld := (unhide hS).call GD
   refine wpAnyH_ready (rs := [5, 40, 46]) (by kernel_rfl) (by simp) ?_
   refine AllReadyH.cons rfl (fun K20079 hK20079 => ?_) ?_
   · go_simp
     go_wp2_with (go_at_call 27; refine (colL_any _ _).mono ?_; rintro e X2 ⟨rfl, hb⟩)
     exact hK20079.out _ _ (hHeld.call hb) (fun _ => unhide HOUT _ _ _ _ (C6 u g27 _ (bt_ GD hb) (r27.call hb)))
   refine AllReadyH.cons rfl (fun K20080 hK20080 => ?_) ?_
   · go_simp
     have hb := below_new X o64
     have r64 := nb64 X
     refine hK20080.out _ _ (hHeld.call hb) (fun hH => ?_)
     clear hHeld hK20080 K20080
     refine wpAnyH_take (i := 41) (oi := ?o20081) (v := ?v20081) ?h20081 (by kernel_rfl) (by kernel_rfl) (by kernel_rfl) (fun _ _ _ h => h) (Or.inl ⟨?w20081, ?y20081⟩) hH ?r20081
     case h20081 => simp only [List.getElem?_toArray, List.getElem?_cons_zero, List.getElem?_cons_succ]; rfl
     case w20081 => rfl
     case y20081 => intro _ _; go_simp; with_reducible rfl
     simp only [Act.put, List.setIfInBounds_toArray, List.set_cons_zero, List.set_cons_succ]
     exact unhide HOUT _ _ _ _ (C524_ u g27 _ _ (bt_ GD hb) (r27.call hb) r64)
   refine AllReadyH.cons rfl (fun K20082 hK20082 => ?_) AllReadyH.nil
   · go_simp
     have hb := below_new X o70
     have r70 := nb70 X
     refine hK20082.out _ _ (hHeld.call hb) (fun hH => ?_)
     clear hHeld hK20082 K20082
     refine wpAnyH_take (i := 47) (oi := ?o20083) (v := ?v20083) ?h20083 (by kernel_rfl) (by kernel_rfl) (by kernel_rfl) (fun _ _ _ h => h) (Or.inl ⟨?w20083, ?y20083⟩) hH ?r20083
     case h20083 => simp only [List.getElem?_toArray, List.getElem?_cons_zero, List.getElem?_cons_succ]; rfl
     case w20083 => rfl
     case y20083 => intro _ _; go_simp; with_reducible rfl
     simp only [Act.put, List.setIfInBounds_toArray, List.set_cons_zero, List.set_cons_succ]
     exact unhide HOUT _ _ _ _ (C525_ u g27 _ _ (bt_ GD hb) (r27.call hb) r70)
  exact ⟨C524_25_, C524_, C525_, C5⟩
end Go.Proofs.Ytliefgkhpgigaaa
