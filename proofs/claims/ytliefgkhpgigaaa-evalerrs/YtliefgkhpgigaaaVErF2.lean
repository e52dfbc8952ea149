/-
  EvalErrs: steps from place 12 on.
-/
import Derived.Test.YtliefgkhpgigaaaVErE
namespace Go.Proofs.Ytliefgkhpgigaaa
open Go.RowKit
set_option linter.unusedSimpArgs false
set_option linter.unusedVariables false

set_option maxHeartbeats 64000000 in
set_option maxRecDepth 100000 in
theorem er6p12 {r0 r1 r2 r3 r4 rest : Code} {id6 : Nat} {ops : Array Oper} (hc : Try.f7.body = some (.seq r0 (.seq r1 (.seq r2 (.seq r3 (.seq r4 (.seq (.region id6 ops true) rest))))))) (which : Int) (bt b4 b5 b6 b7 : Nat) (Wd : World) (GG : Nat → Array Bool → Act → World → Prop) (hS : Hid (SE b4 b5 b6 b7 Wd)) (Q : Exit → Act → World → Prop) (HIN : Hid (∀ f l a w, wpAnyH Try.prog .any ops (NoPanic Q) (SE b4 b5 b6 b7) f l a w → GG f l a w)) (HOUT : Hid (∀ f l a w, GG f l a w → wpAnyH Try.prog .any ops (NoPanic Q) (SE b4 b5 b6 b7) f l a w)) (C1324_25_ : frEC1324_25_ which bt b4 b5 b6 b7 Wd GG) (C1324_ : frEC1324_ which bt b4 b5 b6 b7 Wd GG) (C1325_ : frEC1325_ which bt b4 b5 b6 b7 Wd GG) (C13 : frEC13 which bt b4 b5 b6 b7 Wd GG) : frEC1224_25_ which bt b4 b5 b6 b7 Wd GG ∧ frEC1224_ which bt b4 b5 b6 b7 Wd GG ∧ frEC1225_ which bt b4 b5 b6 b7 Wd GG ∧ frEC12 which bt b4 b5 b6 b7 Wd GG := by
  unfold Try.f7 at hc
  cases hc
  have C1224_25_ : frEC1224_25_ which bt b4 b5 b6 b7 Wd GG := by
   intro u g27 g30 g33 g35 g38 g64 g70 X GD r27 r30 r33 r35 r38 r64 r70
   refine unhide HIN _ _ _ _ ?_
   unfold frE
   have hHeld := (unhide hS).call GD
   refine wpAnyH_ready (rs := [17]) (by kernel_rfl) (by simp) ?_
   refine AllReadyH.cons rfl (fun K20156 hK20156 => ?_) AllReadyH.nil
   go_simp
   go_wp2_with (go_at_call 26; refine (twoL_any _ xTxt xNul _ _ _ rfl rfl).mono ?_; rintro e X2 ⟨g41, rfl, r41, hb⟩)
   exact hK20156.out _ _ (hHeld.call hb) (fun _ => unhide HOUT _ _ _ _ (C1324_25_ u g27 g30 g33 g35 g38 _ g64 g70 _ (bt_ GD hb) (r27.call hb) (r30.call hb) (r33.call hb) (r35.call hb) (r38.call hb) r41 (r64.call hb) (r70.call hb)))
  have C1224_ : frEC1224_ which bt b4 b5 b6 b7 Wd GG := by
   intro u g27 g30 g33 g35 g38 g64 X GD r27 r30 r33 r35 r38 r64
   refine unhide HIN _ _ _ _ ?_
   unfold frE
   have hHeld := (unhide hS).call GD
   refine wpAnyH_ready (rs := [17, 46]) (by kernel_rfl) (by simp) ?_
   refine AllReadyH.cons rfl (fun K20157 hK20157 => ?_) ?_
   · go_simp
     go_wp2_with (go_at_call 26; refine (twoL_any _ xTxt xNul _ _ _ rfl rfl).mono ?_; rintro e X2 ⟨g41, rfl, r41, hb⟩)
     exact hK20157.out _ _ (hHeld.call hb) (fun _ => unhide HOUT _ _ _ _ (C1324_ u g27 g30 g33 g35 g38 _ g64 _ (bt_ GD hb) (r27.call hb) (r30.call hb) (r33.call hb) (r35.call hb) (r38.call hb) r41 (r64.call hb)))
   refine AllReadyH.cons rfl (fun K20158 hK20158 => ?_) AllReadyH.nil
   · go_simp
     have hb := below_new X o70
     have r70 := nb70 X
     refine hK20158.out _ _ (hHeld.call hb) (fun hH => ?_)
     clear hHeld hK20158 K20158
     refine wpAnyH_take (i := 47) (oi := ?o20159) (v := ?v20159) ?h20159 (by kernel_rfl) (by kernel_rfl) (by kernel_rfl) (fun _ _ _ h => h) (Or.inl ⟨?w20159, ?y20159⟩) hH ?r20159
     case h20159 => simp only [List.getElem?_toArray, List.getElem?_cons_zero, List.getElem?_cons_succ]; rfl
     case w20159 => rfl
     case y20159 => intro _ _; go_simp; with_reducible rfl
     simp only [Act.put, List.setIfInBounds_toArray, List.set_cons_zero, List.set_cons_succ]
     exact unhide HOUT _ _ _ _ (C1224_25_ u g27 g30 g33 g35 g38 g64 _ _ (bt_ GD hb) (r27.call hb) (r30.call hb) (r33.call hb) (r35.call hb) (r38.call hb) (r64.call hb) r70)
  have C1225_ : frEC1225_ which bt b4 b5 b6 b7 Wd GG := by
   intro u g27 g30 g33 g35 g38 g70 X GD r27 r30 r33 r35 r38 r70
   refine unhide HIN _ _ _ _ ?_
   unfold frE
   have hHeld := (unhide hS).call GD
   refine wpAnyH_ready (rs := [17, 40]) (by kernel_rfl) (by simp) ?_
   refine AllReadyH.cons rfl (fun K20160 hK20160 => ?_) ?_
   · go_simp
     go_wp2_with (go_at_call 26; refine (twoL_any _ xTxt xNul _ _ _ rfl rfl).mono ?_; rintro e X2 ⟨g41, rfl, r41, hb⟩)
     exact hK20160.out _ _ (hHeld.call hb) (fun _ => unhide HOUT _ _ _ _ (C1325_ u g27 g30 g33 g35 g38 _ g70 _ (bt_ GD hb) (r27.call hb) (r30.call hb) (r33.call hb) (r35.call hb) (r38.call hb) r41 (r70.call hb)))
   refine AllReadyH.cons rfl (fun K20161 hK20161 => ?_) AllReadyH.nil
   · go_simp
     have hb := below_new X o64
     have r64 := nb64 X
     refine hK20161.out _ _ (hHeld.call hb) (fun hH => ?_)
     clear hHeld hK20161 K20161
     refine wpAnyH_take (i := 41) (oi := ?o20162) (v := ?v20162) ?h20162 (by kernel_rfl) (by kernel_rfl) (by kernel_rfl) (fun _ _ _ h => h) (Or.inl ⟨?w20162, ?y20162⟩) hH ?r20162
     case h20162 => simp only [List.getElem?_toArray, List.getElem?_cons_zero, List.getElem?_cons_succ]; rfl
     case w20162 => rfl
     case y20162 => intro _ _; go_simp; with_reducible rfl
     simp only [Act.put, List.setIfInBounds_toArray, List.set_cons_zero, List.set_cons_succ]
     exact unhide HOUT _ _ _ _ (C1224_25_ u g27 g30 g33 g35 g38 _ g70 _ (bt_ GD hb) (r27.call hb) (r30.call hb) (r33.call hb) (r35.call hb) (r38.call hb) r64 (r70.call hb))
  have C12 : frEC12 which bt b4 b5 b6 b7 Wd GG := by
   intro u g27 g30 g33 g35 g38 X GD r27 r30 r33 r35 r38
   refine unhide HIN _ _ _ _ ?_
   unfold frE
   have hHeld := (unhide hS).call GD
   refine wpAnyH_ready (rs := [17, 40, 46]) (by kernel_rfl) (by simp) ?_
   refine AllReadyH.cons rfl (fun K20163 hK20163 => ?_) ?_
   · go_simp
     go_wp2_with (go_at_call 26; refine (twoL_any _ xTxt xNul _ _ _ rfl rfl).mono ?_; rintro e X2 ⟨g41, rfl, r41, hb⟩)
     exact hK20163.out _ _ (hHeld.call hb) (fun _ => unhide HOUT _ _ _ _ (C13 u g27 g30 g33 g35 g38 _ _ (bt_ GD hb) (r27.call hb) (r30.call hb) (r33.call hb) (r35.call hb) (r38.call hb) r41))
   refine AllReadyH.cons rfl (fun K20164 hK20164 => ?_) ?_
   · go_simp
     have hb := below_new X o64
     have r64 := nb64 X
     refine hK20164.out _ _ (hHeld.call hb) (fun hH => ?_)
     clear hHeld hK20164 K20164
     refine wpAnyH_take (i := 41) (oi := ?o20165) (v := ?v20165) ?h20165 (by kernel_rfl) (by kernel_rfl) (by kernel_rfl) (fun _ _ _ h => h) (Or.inl ⟨?w20165, ?y20165⟩) hH ?r20165
     case h20165 => simp only [List.getElem?_toArray, List.getElem?_cons_zero, List.getElem?_cons_succ]; rfl
     case w20165 => rfl
     case y20165 => intro _ _; go_simp; with_reducible rfl
     simp only [Act.put, List.setIfInBounds_toArray, List.set_cons_zero, List.set_cons_succ]
     exact unhide HOUT _ _ _ _ (C1224_ u g27 g30 g33 g35 g38 _ _ (bt_ GD hb) (r27.call hb) (r30.call hb) (r33.call hb) (r35.call hb) (r38.call hb) r64)
   refine AllReadyH.cons rfl (fun K20166 hK20166 => ?_) AllReadyH.nil
   · go_simp
     have hb := below_new X o70
     have r70 := nb70 X
     refine hK20166.out _ _ (hHeld.call hb) (fun hH => ?_)
     clear hHeld hK20166 K20166
     refine wpAnyH_take (i := 47) (oi := ?o20167) (v := ?v20167) ?h20167 (by kernel_rfl) (by kernel_rfl) (by kernel_rfl) (fun _ _ _ h => h) (Or.inl ⟨?w20167, ?y20167⟩) hH ?r20167
     case h20167 => simp only [List.getElem?_toArray, List.getElem?_cons_zero, List.getElem?_cons_succ]; rfl
     case w20167 => rfl
     case y20167 => intro _ _; go_simp; with_reducible rfl
     simp only [Act.put, List.setIfInBounds_toArray, List.set_cons_zero, List.set_cons_succ]
     exact unhide HOUT _ _ _ _ (C1225_ u g27 g30 g33 g35 g38 _ _ (bt_ GD hb) (r27.call hb) (r30.call hb) (r33.call hb) (r35.call hb) (r38.call hb) r70)
  exact ⟨C1224_25_, C1224_, C1225_, C12⟩
set_option maxHeartbeats 64000000 in
set_option maxRecDepth 100000 in
theorem er6p13 {r0 r1 r2 r3 r4 rest : Code} {id6 : Nat} {ops : Array Oper} (hc : Try.f7.body = some (.seq r0 (.seq r1 (.seq r2 (.seq r3 (.seq r4 (.seq (.region id6 ops true) rest))))))) (which : Int) (bt b4 b5 b6 b7 : Nat) (Wd : World) (GG : Nat → Array Bool → Act → World → Prop) (hS : Hid (SE b4 b5 b6 b7 Wd)) (Q : Exit → Act → World → Prop) (HIN : Hid (∀ f l a w, wpAnyH Try.prog .any ops (NoPanic Q) (SE b4 b5 b6 b7) f l a w → GG f l a w)) (HOUT : Hid (∀ f l a w, GG f l a w → wpAnyH Try.prog .any ops (NoPanic Q) (SE b4 b5 b6 b7) f l a w)) (C1424_25_ : frEC1424_25_ which bt b4 b5 b6 b7 Wd GG) (C1424_ : frEC1424_ which bt b4 b5 b6 b7 Wd GG) (C1425_ : frEC1425_ which bt b4 b5 b6 b7 Wd GG) (C14 : frEC14 which bt b4 b5 b6 b7 Wd GG) : frEC1324_25_ which bt b4 b5 b6 b7 Wd GG ∧ frEC1324_ which bt b4 b5 b6 b7 Wd GG ∧ frEC1325_ which bt b4 b5 b6 b7 Wd GG ∧ frEC13 which bt b4 b5 b6 b7 Wd GG := by
  unfold Try.f7 at hc
  cases hc
  have C1324_25_ : frEC1324_25_ which bt b4 b5 b6 b7 Wd GG := by
   intro u g27 g30 g33 g35 g38 g41 g64 g70 X GD r27 r30 r33 r35 r38 r41 r64 r70
   refine unhide HIN _ _ _ _ ?_
   unfold frE
   have hHeld := (unhide hS).call GD
   refine wpAnyH_ready (rs := [20]) (by kernel_rfl) (by simp) ?_
   refine AllReadyH.cons rfl (fun K20168 hK20168 => ?_) AllReadyH.nil
   go_simp
   go_wp2_with (go_at_call 26; refine (twoL_any _ xOne xTxt _ _ _ rfl rfl).mono ?_; rintro e X2 ⟨g44, rfl, r44, hb⟩)
   exact hK20168.out _ _ (hHeld.call hb) (fun _ => unhide HOUT _ _ _ _ (C1424_25_ u g27 g30 g33 g35 g38 g41 _ g64 g70 _ (bt_ GD hb) (r27.call hb) (r30.call hb) (r33.call hb) (r35.call hb) (r38.call hb) (r41.call hb) r44 (r64.call hb) (r70.call hb)))
  have C1324_ : frEC1324_ which bt b4 b5 b6 b7 Wd GG := by
   intro u g27 g30 g33 g35 g38 g41 g64 X GD r27 r30 r33 r35 r38 r41 r64
   refine unhide HIN _ _ _ _ ?_
   unfold frE
   have hHeld := (unhide hS).call GD
   refine wpAnyH_ready (rs := [20, 46]) (by kernel_rfl) (by simp) ?_
   refine AllReadyH.cons rfl (fun K20169 hK20169 => ?_) ?_
   · go_simp
     go_wp2_with (go_at_call 26; refine (twoL_any _ xOne xTxt _ _ _ rfl rfl).mono ?_; rintro e X2 ⟨g44, rfl, r44, hb⟩)
     exact hK20169.out _ _ (hHeld.call hb) (fun _ => unhide HOUT _ _ _ _ (C1424_ u g27 g30 g33 g35 g38 g41 _ g64 _ (bt_ GD hb) (r27.call hb) (r30.call hb) (r33.call hb) (r35.call hb) (r38.call hb) (r41.call hb) r44 (r64.call hb)))
   refine AllReadyH.cons rfl (fun K20170 hK20170 => ?_) AllReadyH.nil
   · go_simp
     have hb := below_new X o70
     have r70 := nb70 X
     refine hK20170.out _ _ (hHeld.call hb) (fun hH => ?_)
     clear hHeld hK20170 K20170
     refine wpAnyH_take (i := 47) (oi := ?o20171) (v := ?v20171) ?h20171 (by kernel_rfl) (by kernel_rfl) (by kernel_rfl) (fun _ _ _ h => h) (Or.inl ⟨?w20171, ?y20171⟩) hH ?r20171
     case h20171 => simp only [List.getElem?_toArray, List.getElem?_cons_zero, List.getElem?_cons_succ]; rfl
     case w20171 => rfl
     case y20171 => intro _ _; go_simp; with_reducible rfl
     simp only [Act.put, List.setIfInBounds_toArray, List.set_cons_zero, List.set_cons_succ]
     exact unhide HOUT _ _ _ _ (C1324_25_ u g27 g30 g33 g35 g38 g41 g64 _ _ (bt_ GD hb) (r27.call hb) (r30.call hb) (r33.call hb) (r35.call hb) (r38.call hb) (r41.call hb) (r64.call hb) r70)
  have C1325_ : frEC1325_ which bt b4 b5 b6 b7 Wd GG := by
   intro u g27 g30 g33 g35 g38 g41 g70 X GD r27 r30 r33 r35 r38 r41 r70
   refine unhide HIN _ _ _ _ ?_
   unfold frE
   have hHeld := (unhide hS).call GD
   refine wpAnyH_ready (rs := [20, 40]) (by kernel_rfl) (by simp) ?_
   refine AllReadyH.cons rfl (fun K20172 hK20172 => ?_) ?_
   · go_simp
     go_wp2_with (go_at_call 26; refine (twoL_any _ xOne xTxt _ _ _ rfl rfl).mono ?_; rintro e X2 ⟨g44, rfl, r44, hb⟩)
     exact hK20172.out _ _ (hHeld.call hb) (fun _ => unhide HOUT _ _ _ _ (C1425_ u g27 g30 g33 g35 g38 g41 _ g70 _ (bt_ GD hb) (r27.call hb) (r30.call hb) (r33.call hb) (r35.call hb) (r38.call hb) (r41.call hb) r44 (r70.call hb)))
   refine AllReadyH.cons rfl (fun K20173 hK20173 => ?_) AllReadyH.nil
   · go_simp
     have hb := below_new X o64
     have r64 := nb64 X
     refine hK20173.out _ _ (hHeld.call hb) (fun hH => ?_)
     clear hHeld hK20173 K20173
     refine wpAnyH_take (i := 41) (oi := ?o20174) (v := ?v20174) ?h20174 (by kernel_rfl) (by kernel_rfl) (by kernel_rfl) (fun _ _ _ h => h) (Or.inl ⟨?w20174, ?y20174⟩) hH ?r20174
     case h20174 => simp only [List.getElem?_toArray, List.getElem?_cons_zero, List.getElem?_cons_succ]; rfl
     case w20174 => rfl
     case y20174 => intro _ _; go_simp; with_reducible rfl
     simp only [Act.put, List.setIfInBounds_toArray, List.set_cons_zero, List.set_cons_succ]
     exact unhide HOUT _ _ _ _ (C1324_25_ u g27 g30 g33 g35 g38 g41 _ g70 _ (bt_ GD hb) (r27.call hb) (r30.call hb) (r33.call hb) (r35.call hb) (r38.call hb) (r41.call hb) r64 (r70.call hb))
  have C13 : frEC13 which bt b4 b5 b6 b7 Wd GG := by
   intro u g27 g30 g33 g35 g38 g41 X GD r27 r30 r33 r35 r38 r41
   refine unhide HIN _ _ _ _ ?_
   unfold frE
   have hHeld := (unhide hS).call GD
   refine wpAnyH_ready (rs := [20, 40, 46]) (by kernel_rfl) (by simp) ?_
   refine AllReadyH.cons rfl (fun K20175 hK20175 => ?_) ?_
   · go_simp
     go_wp2_with (go_at_call 26; refine (twoL_any _ xOne xTxt _ _ _ rfl rfl).mono ?_; rintro e X2 ⟨g44, rfl, r44, hb⟩)
     exact hK20175.out _ _ (hHeld.call hb) (fun _ => unhide HOUT _ _ _ _ (C14 u g27 g30 g33 g35 g38 g41 _ _ (bt_ GD hb) (r27.call hb) (r30.call hb) (r33.call hb) (r35.call hb) (r38.call hb) (r41.call hb) r44))
   refine AllReadyH.cons rfl (fun K20176 hK20176 => ?_) ?_
   · go_simp
     have hb := below_new X o64
     have r64 := nb64 X
     refine hK20176.out _ _ (hHeld.call hb) (fun hH => ?_)
     clear hHeld hK20176 K20176
     refine wpAnyH_take (i := 41) (oi := ?o20177) (v := ?v20177) ?h20177 (by kernel_rfl) (by kernel_rfl) (by kernel_rfl) (fun _ _ _ h => h) (Or.inl ⟨?w20177, ?y20177⟩) hH ?r20177
     case h20177 => simp only [List.getElem?_toArray, List.getElem?_cons_zero, List.getElem?_cons_succ]; rfl
     case w20177 => rfl
     case y20177 => intro _ _; go_simp; with_reducible rfl
     simp only [Act.put, List.setIfInBounds_toArray, List.set_cons_zero, List.set_cons_succ]
     exact unhide HOUT _ _ _ _ (C1324_ u g27 g30 g33 g35 g38 g41 _ _ (bt_ GD hb) (r27.call hb) (r30.call hb) (r33.call hb) (r35.call hb) (r38.call hb) (r41.call hb) r64)
   refine AllReadyH.cons rfl (fun K20178 hK20178 => ?_) AllReadyH.nil
   · go_simp
     have hb := below_new X o70
     have r70 := nb70 X
     refine hK20178.out _ _ (hHeld.call hb) (fun hH => ?_)
     clear hHeld hK20178 K20178
     refine wpAnyH_take (i := 47) (oi := ?o20179) (v := ?v20179) ?h20179 (by kernel_rfl) (by kernel_rfl) (by kernel_rfl) (fun _ _ _ h => h) (Or.inl ⟨?w20179, ?y20179⟩) hH ?r20179
     case h20179 => simp only [List.getElem?_toArray, List.getElem?_cons_zero, List.getElem?_cons_succ]; rfl
     case w20179 => rfl
     case y20179 => intro _ _; go_simp; with_reducible rfl
     simp only [Act.put, List.setIfInBounds_toArray, List.set_cons_zero, List.set_cons_succ]
     exact unhide HOUT _ _ _ _ (C1325_ u g27 g30 g33 g35 g38 g41 _ _ (bt_ GD hb) (r27.call hb) (r30.call hb) (r33.call hb) (r35.call hb) (r38.call hb) (r41.call hb) r70)
  exact ⟨C1324_25_, C1324_, C1325_, C13⟩
set_option maxHeartbeats 64000000 in
set_option maxRecDepth 100000 in
theorem er6p14 {r0 r1 r2 r3 r4 rest : Code} {id6 : Nat} {ops : Array Oper} (hc : Try.f7.body = some (.seq r0 (.seq r1 (.seq r2 (.seq r3 (.seq r4 (.seq (.region id6 ops true) rest))))))) (which : Int) (bt b4 b5 b6 b7 : Nat) (Wd : World) (GG : Nat → Array Bool → Act → World → Prop) (hS : Hid (SE b4 b5 b6 b7 Wd)) (Q : Exit → Act → World → Prop) (HIN : Hid (∀ f l a w, wpAnyH Try.prog .any ops (NoPanic Q) (SE b4 b5 b6 b7) f l a w → GG f l a w)) (HOUT : Hid (∀ f l a w, GG f l a w → wpAnyH Try.prog .any ops (NoPanic Q) (SE b4 b5 b6 b7) f l a w)) (C1524_25_ : frEC1524_25_ which bt b4 b5 b6 b7 Wd GG) (C1524_ : frEC1524_ which bt b4 b5 b6 b7 Wd GG) (C1525_ : frEC1525_ which bt b4 b5 b6 b7 Wd GG) (C15 : frEC15 which bt b4 b5 b6 b7 Wd GG) : frEC1424_25_ which bt b4 b5 b6 b7 Wd GG ∧ frEC1424_ which bt b4 b5 b6 b7 Wd GG ∧ frEC1425_ which bt b4 b5 b6 b7 Wd GG ∧ frEC14 which bt b4 b5 b6 b7 Wd GG := by
  unfold Try.f7 at hc
  cases hc
  have C1424_25_ : frEC1424_25_ which bt b4 b5 b6 b7 Wd GG := by
   intro u g27 g30 g33 g35 g38 g41 g44 g64 g70 X GD r27 r30 r33 r35 r38 r41 r44 r64 r70
   refine unhide HIN _ _ _ _ ?_
   unfold frE
   have hHeld := (unhide hS).call GD
   refine wpAnyH_ready (rs := [23]) (by kernel_rfl) (by simp) ?_
   refine AllReadyH.cons rfl (fun K20180 hK20180 => ?_) AllReadyH.nil
   go_simp
   go_wp2_with (go_at_call 26; refine (twoL_any _ xNul xTxt _ _ _ rfl rfl).mono ?_; rintro e X2 ⟨g47, rfl, r47, hb⟩)
   exact hK20180.out _ _ (hHeld.call hb) (fun _ => unhide HOUT _ _ _ _ (C1524_25_ u g27 g30 g33 g35 g38 g41 g44 _ g64 g70 _ (bt_ GD hb) (r27.call hb) (r30.call hb) (r33.call hb) (r35.call hb) (r38.call hb) (r41.call hb) (r44.call hb) r47 (r64.call hb) (r70.call hb)))
  have C1424_ : frEC1424_ which bt b4 b5 b6 b7 Wd GG := by
   intro u g27 g30 g33 g35 g38 g41 g44 g64 X GD r27 r30 r33 r35 r38 r41 r44 r64
   refine unhide HIN _ _ _ _ ?_
   unfold frE
   have hHeld := (unhide hS).call GD
   refine wpAnyH_ready (rs := [23, 46]) (by kernel_rfl) (by simp) ?_
   refine AllReadyH.cons rfl (fun K20181 hK20181 => ?_) ?_
   · go_simp
     go_wp2_with (go_at_call 26; refine (twoL_any _ xNul xTxt _ _ _ rfl rfl).mono ?_; rintro e X2 ⟨g47, rfl, r47, hb⟩)
     exact hK20181.out _ _ (hHeld.call hb) (fun _ => unhide HOUT _ _ _ _ (C1524_ u g27 g30 g33 g35 g38 g41 g44 _ g64 _ (bt_ GD hb) (r27.call hb) (r30.call hb) (r33.call hb) (r35.call hb) (r38.call hb) (r41.call hb) (r44.call hb) r47 (r64.call hb)))
   refine AllReadyH.cons rfl (fun K20182 hK20182 => ?_) AllReadyH.nil
   · go_simp
     have hb := below_new X o70
     have r70 := nb70 X
     refine hK20182.out _ _ (hHeld.call hb) (fun hH => ?_)
     clear hHeld hK20182 K20182
     refine wpAnyH_take (i := 47) (oi := ?o20183) (v := ?v20183) ?h20183 (by kernel_rfl) (by kernel_rfl) (by kernel_rfl) (fun _ _ _ h => h) (Or.inl ⟨?w20183, ?y20183⟩) hH ?r20183
     case h20183 => simp only [List.getElem?_toArray, List.getElem?_cons_zero, List.getElem?_cons_succ]; rfl
     case w20183 => rfl
     case y20183 => intro _ _; go_simp; with_reducible rfl
     simp only [Act.put, List.setIfInBounds_toArray, List.set_cons_zero, List.set_cons_succ]
     exact unhide HOUT _ _ _ _ (C1424_25_ u g27 g30 g33 g35 g38 g41 g44 g64 _ _ (bt_ GD hb) (r27.call hb) (r30.call hb) (r33.call hb) (r35.call hb) (r38.call hb) (r41.call hb) (r44.call hb) (r64.call hb) r70)
  have C1425_ : frEC1425_ which bt b4 b5 b6 b7 Wd GG := by
   intro u g27 g30 g33 g35 g38 g41 g44 g70 X GD r27 r30 r33 r35 r38 r41 r44 r70
   refine unhide HIN _ _ _ _ ?_
   unfold frE
   have hHeld := (unhide hS).call GD
   refine wpAnyH_ready (rs := [23, 40]) (by kernel_rfl) (by simp) ?_
   refine AllReadyH.cons rfl (fun K20184 hK20184 => ?_) ?_
   · go_simp
     go_wp2_with (go_at_call 26; refine (twoL_any _ xNul xTxt _ _ _ rfl rfl).mono ?_; rintro e X2 ⟨g47, rfl, r47, hb⟩)
     exact hK20184.out _ _ (hHeld.call hb) (fun _ => unhide HOUT _ _ _ _ (C1525_ u g27 g30 g33 g35 g38 g41 g44 _ g70 _ (bt_ GD hb) (r27.call hb) (r30.call hb) (r33.call hb) (r35.call hb) (r38.call hb) (r41.call hb) (r44.call hb) r47 (r70.call hb)))
   refine AllReadyH.cons rfl (fun K20185 hK20185 => ?_) AllReadyH.nil
   · go_simp
     have hb := below_new X o64
     have r64 := nb64 X
     refine hK20185.out _ _ (hHeld.call hb) (fun hH => ?_)
     clear hHeld hK20185 K20185
     refine wpAnyH_take (i := 41) (oi := ?o20186) (v := ?v20186) ?h20186 (by kernel_rfl) (by kernel_rfl) (by kernel_rfl) (fun _ _ _ h => h) (Or.inl ⟨?w20186, ?y20186⟩) hH ?r20186
     case h20186 => simp only [List.getElem?_toArray, List.getElem?_cons_zero, List.getElem?_cons_succ]; rfl
     case w20186 => rfl
     case y20186 => intro _ _; go_simp; with_reducible rfl
     simp only [Act.put, List.setIfInBounds_toArray, List.set_cons_zero, List.set_cons_succ]
     exact unhide HOUT _ _ _ _ (C1424_25_ u g27 g30 g33 g35 g38 g41 g44 _ g70 _ (bt_ GD hb) (r27.call hb) (r30.call hb) (r33.call hb) (r35.call hb) (r38.call hb) (r41.call hb) (r44.call hb) r64 (r70.call hb))
  have C14 : frEC14 which bt b4 b5 b6 b7 Wd GG := by
   intro u g27 g30 g33 g35 g38 g41 g44 X GD r27 r30 r33 r35 r38 r41 r44
   refine unhide HIN _ _ _ _ ?_
   unfold frE
   have hHeld := (unhide hS).call GD
   refine wpAnyH_ready (rs := [23, 40, 46]) (by kernel_rfl) (by simp) ?_
   refine AllReadyH.cons rfl (fun K20187 hK20187 => ?_) ?_
   · go_simp
     go_wp2_with (go_at_call 26; refine (twoL_any _ xNul xTxt _ _ _ rfl rfl).mono ?_; rintro e X2 ⟨g47, rfl, r47, hb⟩)
     exact hK20187.out _ _ (hHeld.call hb) (fun _ => unhide HOUT _ _ _ _ (C15 u g27 g30 g33 g35 g38 g41 g44 _ _ (bt_ GD hb) (r27.call hb) (r30.call hb) (r33.call hb) (r35.call hb) (r38.call hb) (r41.call hb) (r44.call hb) r47))
   refine AllReadyH.cons rfl (fun K20188 hK20188 => ?_) ?_
   · go_simp
     have hb := below_new X o64
     have r64 := nb64 X
     refine hK20188.out _ _ (hHeld.call hb) (fun hH => ?_)
     clear hHeld hK20188 K20188
     refine wpAnyH_take (i := 41) (oi := ?o20189) (v := ?v20189) ?h20189 (by kernel_rfl) (by kernel_rfl) (by kernel_rfl) (fun _ _ _ h => h) (Or.inl ⟨?w20189, ?y20189⟩) hH ?r20189
     case h20189 => simp only [List.getElem?_toArray, List.getElem?_cons_zero, List.getElem?_cons_succ]; rfl
     case w20189 => rfl
     case y20189 => intro _ _; go_simp; with_reducible rfl
     simp only [Act.put, List.setIfInBounds_toArray, List.set_cons_zero, List.set_cons_succ]
     exact unhide HOUT _ _ _ _ (C1424_ u g27 g30 g33 g35 g38 g41 g44 _ _ (bt_ GD hb) (r27.call hb) (r30.call hb) (r33.call hb) (r35.call hb) (r38.call hb) (r41.call hb) (r44.call hb) r64)
   refine AllReadyH.cons rfl (fun K20190 hK20190 => ?_) AllReadyH.nil
   · go_simp
     have hb := below_new X o70
     have r70 := nb70 X
     refine hK20190.out _ _ (hHeld.call hb) (fun hH => ?_)
     clear hHeld hK20190 K20190
     refine wpAnyH_take (i := 47) (oi := ?o20191) (v := ?v20191) ?h20191 (by kernel_rfl) (by kernel_rfl) (by kernel_rfl) (fun _ _ _ h => h) (Or.inl ⟨?w20191, ?y20191⟩) hH ?r20191
     case h20191 => simp only [List.getElem?_toArray, List.getElem?_cons_zero, List.getElem?_cons_succ]; rfl
     case w20191 => rfl
     case y20191 => intro _ _; go_simp; with_reducible rfl
     simp only [Act.put, List.setIfInBounds_toArray, List.set_cons_zero, List.set_cons_succ]
     exact unhide HOUT _ _ _ _ (C1425_ u g27 g30 g33 g35 g38 g41 g44 _ _ (bt_ GD hb) (r27.call hb) (r30.call hb) (r33.call hb) (r35.call hb) (r38.call hb) (r41.call hb) (r44.call hb) r70)
  exact ⟨C1424_25_, C1424_, C1425_, C14⟩
set_option maxHeartbeats 64000000 in
set_option maxRecDepth 100000 in
theorem er6p15 {r0 r1 r2 r3 r4 rest : Code} {id6 : Nat} {ops : Array Oper} (hc : Try.f7.body = some (.seq r0 (.seq r1 (.seq r2 (.seq r3 (.seq r4 (.seq (.region id6 ops true) rest))))))) (which : Int) (bt b4 b5 b6 b7 : Nat) (Wd : World) (GG : Nat → Array Bool → Act → World → Prop) (hS : Hid (SE b4 b5 b6 b7 Wd)) (Q : Exit → Act → World → Prop) (HIN : Hid (∀ f l a w, wpAnyH Try.prog .any ops (NoPanic Q) (SE b4 b5 b6 b7) f l a w → GG f l a w)) (HOUT : Hid (∀ f l a w, GG f l a w → wpAnyH Try.prog .any ops (NoPanic Q) (SE b4 b5 b6 b7) f l a w)) (C1624_25_ : frEC1624_25_ which bt b4 b5 b6 b7 Wd GG) (C1624_ : frEC1624_ which bt b4 b5 b6 b7 Wd GG) (C1625_ : frEC1625_ which bt b4 b5 b6 b7 Wd GG) (C16 : frEC16 which bt b4 b5 b6 b7 Wd GG) : frEC1524_25_ which bt b4 b5 b6 b7 Wd GG ∧ frEC1524_ which bt b4 b5 b6 b7 Wd GG ∧ frEC1525_ which bt b4 b5 b6 b7 Wd GG ∧ frEC15 which bt b4 b5 b6 b7 Wd GG := by
  unfold Try.f7 at hc
  cases hc
  have C1524_25_ : frEC1524_25_ which bt b4 b5 b6 b7 Wd GG := by
   intro u g27 g30 g33 g35 g38 g41 g44 g47 g64 g70 X GD r27 r30 r33 r35 r38 r41 r44 r47 r64 r70
   refine unhide HIN _ _ _ _ ?_
   unfold frE
   have hHeld := (unhide hS).call GD
   refine wpAnyH_ready (rs := [26]) (by kernel_rfl) (by simp) ?_
   refine AllReadyH.cons rfl (fun K20192 hK20192 => ?_) AllReadyH.nil
   go_simp
   go_wp2_with (go_at_call 26; refine (twoL_any _ xNul xDec _ _ _ rfl rfl).mono ?_; rintro e X2 ⟨g50, rfl, r50, hb⟩)
   exact hK20192.out _ _ (hHeld.call hb) (fun _ => unhide HOUT _ _ _ _ (C1624_25_ u g27 g30 g33 g35 g38 g41 g44 g47 _ g64 g70 _ (bt_ GD hb) (r27.call hb) (r30.call hb) (r33.call hb) (r35.call hb) (r38.call hb) (r41.call hb) (r44.call hb) (r47.call hb) r50 (r64.call hb) (r70.call hb)))
  have C1524_ : frEC1524_ which bt b4 b5 b6 b7 Wd GG := by
   intro u g27 g30 g33 g35 g38 g41 g44 g47 g64 X GD r27 r30 r33 r35 r38 r41 r44 r47 r64
   refine unhide HIN _ _ _ _ ?_
   unfold frE
   have hHeld := (unhide hS).call GD
   refine wpAnyH_ready (rs := [26, 46]) (by kernel_rfl) (by simp) ?_
   refine AllReadyH.cons rfl (fun K20193 hK20193 => ?_) ?_
   · go_simp
     go_wp2_with (go_at_call 26; refine (twoL_any _ xNul xDec _ _ _ rfl rfl).mono ?_; rintro e X2 ⟨g50, rfl, r50, hb⟩)
     exact hK20193.out _ _ (hHeld.call hb) (fun _ => unhide HOUT _ _ _ _ (C1624_ u g27 g30 g33 g35 g38 g41 g44 g47 _ g64 _ (bt_ GD hb) (r27.call hb) (r30.call hb) (r33.call hb) (r35.call hb) (r38.call hb) (r41.call hb) (r44.call hb) (r47.call hb) r50 (r64.call hb)))
   refine AllReadyH.cons rfl (fun K20194 hK20194 => ?_) AllReadyH.nil
   · go_simp
     have hb := below_new X o70
     have r70 := nb70 X
     refine hK20194.out _ _ (hHeld.call hb) (fun hH => ?_)
     clear hHeld hK20194 K20194
     refine wpAnyH_take (i := 47) (oi := ?o20195) (v := ?v20195) ?h20195 (by kernel_rfl) (by kernel_rfl) (by kernel_rfl) (fun _ _ _ h => h) (Or.inl ⟨?w20195, ?y20195⟩) hH ?r20195
     case h20195 => simp only [List.getElem?_toArray, List.getElem?_cons_zero, List.getElem?_cons_succ]; rfl
     case w20195 => rfl
     case y20195 => intro _ _; go_simp; with_reducible rfl
     simp only [Act.put, List.setIfInBounds_toArray, List.set_cons_zero, List.set_cons_succ]
     exact unhide HOUT _ _ _ _ (C1524_25_ u g27 g30 g33 g35 g38 g41 g44 g47 g64 _ _ (bt_ GD hb) (r27.call hb) (r30.call hb) (r33.call hb) (r35.call hb) (r38.call hb) (r41.call hb) (r44.call hb) (r47.call hb) (r64.call hb) r70)
  have C1525_ : frEC1525_ which bt b4 b5 b6 b7 Wd GG := by
   intro u g27 g30 g33 g35 g38 g41 g44 g47 g70 X GD r27 r30 r33 r35 r38 r41 r44 r47 r70
   refine unhide HIN _ _ _ _ ?_
   unfold frE
   have hHeld := (unhide hS).call GD
   refine wpAnyH_ready (rs := [26, 40]) (by kernel_rfl) (by simp) ?_
   refine AllReadyH.cons rfl (fun K20196 hK20196 => ?_) ?_
   · go_simp
     go_wp2_with (go_at_call 26; refine (twoL_any _ xNul xDec _ _ _ rfl rfl).mono ?_; rintro e X2 ⟨g50, rfl, r50, hb⟩)
     exact hK20196.out _ _ (hHeld.call hb) (fun _ => unhide HOUT _ _ _ _ (C1625_ u g27 g30 g33 g35 g38 g41 g44 g47 _ g70 _ (bt_ GD hb) (r27.call hb) (r30.call hb) (r33.call hb) (r35.call hb) (r38.call hb) (r41.call hb) (r44.call hb) (r47.call hb) r50 (r70.call hb)))
   refine AllReadyH.cons rfl (fun K20197 hK20197 => ?_) AllReadyH.nil
   · go_simp
     have hb := below_new X o64
     have r64 := nb64 X
     refine hK20197.out _ _ (hHeld.call hb) (fun hH => ?_)
     clear hHeld hK20197 K20197
     refine wpAnyH_take (i := 41) (oi := ?o20198) (v := ?v20198) ?h20198 (by kernel_rfl) (by kernel_rfl) (by kernel_rfl) (fun _ _ _ h => h) (Or.inl ⟨?w20198, ?y20198⟩) hH ?r20198
     case h20198 => simp only [List.getElem?_toArray, List.getElem?_cons_zero, List.getElem?_cons_succ]; rfl
     case w20198 => rfl
     case y20198 => intro _ _; go_simp; with_reducible rfl
     simp only [Act.put, List.setIfInBounds_toArray, List.set_cons_zero, List.set_cons_succ]
     exact unhide HOUT _ _ _ _ (C1524_25_ u g27 g30 g33 g35 g38 g41 g44 g47 _ g70 _ (bt_ GD hb) (r27.call hb) (r30.call hb) (r33.call hb) (r35.call hb) (r38.call hb) (r41.call hb) (r44.call hb) (r47.call hb) r64 (r70.call hb))
  have C15 : frEC15 which bt b4 b5 b6 b7 Wd GG := by
   intro u g27 g30 g33 g35 g38 g41 g44 g47 X GD r27 r30 r33 r35 r38 r41 r44 r47
   refine unhide HIN _ _ _ _ ?_
   unfold frE
   have hHeld := (unhide hS).call GD
   refine wpAnyH_ready (rs := [26, 40, 46]) (by kernel_rfl) (by simp) ?_
   refine AllReadyH.cons rfl (fun K20199 hK20199 => ?_) ?_
   · go_simp
     go_wp2_with (go_at_call 26; refine (twoL_any _ xNul xDec _ _ _ rfl rfl).mono ?_; rintro e X2 ⟨g50, rfl, r50, hb⟩)
     exact hK20199.out _ _ (hHeld.call hb) (fun _ => unhide HOUT _ _ _ _ (C16 u g27 g30 g33 g35 g38 g41 g44 g47 _ _ (bt_ GD hb) (r27.call hb) (r30.call hb) (r33.call hb) (r35.call hb) (r38.call hb) (r41.call hb) (r44.call hb) (r47.call hb) r50))
   refine AllReadyH.cons rfl (fun K20200 hK20200 => ?_) ?_
   · go_simp
     have hb := below_new X o64
     have r64 := nb64 X
     refine hK20200.out _ _ (hHeld.call hb) (fun hH => ?_)
     clear hHeld hK20200 K20200
     refine wpAnyH_take (i := 41) (oi := ?o20201) (v := ?v20201) ?h20201 (by kernel_rfl) (by kernel_rfl) (by kernel_rfl) (fun _ _ _ h => h) (Or.inl ⟨?w20201, ?y20201⟩) hH ?r20201
     case h20201 => simp only [List.getElem?_toArray, List.getElem?_cons_zero, List.getElem?_cons_succ]; rfl
     case w20201 => rfl
     case y20201 => intro _ _; go_simp; with_reducible rfl
     simp only [Act.put, List.setIfInBounds_toArray, List.set_cons_zero, List.set_cons_succ]
     exact unhide HOUT _ _ _ _ (C1524_ u g27 g30 g33 g35 g38 g41 g44 g47 _ _ (bt_ GD hb) (r27.call hb) (r30.call hb) (r33.call hb) (r35.call hb) (r38.call hb) (r41.call hb) (r44.call hb) (r47.call hb) r64)
   refine AllReadyH.cons rfl (fun K20202 hK20202 => ?_) AllReadyH.nil
   · go_simp
     have hb := below_new X o70
     have r70 := nb70 X
     refine hK20202.out _ _ (hHeld.call hb) (fun hH => ?_)
     clear hHeld hK20202 K20202
     refine wpAnyH_take (i := 47) (oi := ?o20203) (v := ?v20203) ?h20203 (by kernel_rfl) (by kernel_rfl) (by kernel_rfl) (fun _ _ _ h => h) (Or.inl ⟨?w20203, ?y20203⟩) hH ?r20203
     case h20203 => simp only [List.getElem?_toArray, List.getElem?_cons_zero, List.getElem?_cons_succ]; rfl
     case w20203 => rfl
     case y20203 => intro _ _; go_simp; with_reducible rfl
     simp only [Act.put, List.setIfInBounds_toArray, List.set_cons_zero, List.set_cons_succ]
     exact unhide HOUT _ _ _ _ (C1525_ u g27 g30 g33 g35 g38 g41 g44 g47 _ _ (bt_ GD hb) (r27.call hb) (r30.call hb) (r33.call hb) (r35.call hb) (r38.call hb) (r41.call hb) (r44.call hb) (r47.call hb) r70)
  exact ⟨C1524_25_, C1524_, C1525_, C15⟩
set_option maxHeartbeats 64000000 in
set_option maxRecDepth 100000 in
theorem er6p16 {r0 r1 r2 r3 r4 rest : Code} {id6 : Nat} {ops : Array Oper} (hc : Try.f7.body = some (.seq r0 (.seq r1 (.seq r2 (.seq r3 (.seq r4 (.seq (.region id6 ops true) rest))))))) (which : Int) (bt b4 b5 b6 b7 : Nat) (Wd : World) (GG : Nat → Array Bool → Act → World → Prop) (hS : Hid (SE b4 b5 b6 b7 Wd)) (Q : Exit → Act → World → Prop) (HIN : Hid (∀ f l a w, wpAnyH Try.prog .any ops (NoPanic Q) (SE b4 b5 b6 b7) f l a w → GG f l a w)) (HOUT : Hid (∀ f l a w, GG f l a w → wpAnyH Try.prog .any ops (NoPanic Q) (SE b4 b5 b6 b7) f l a w)) (C1724_25_ : frEC1724_25_ which bt b4 b5 b6 b7 Wd GG) (C1724_ : frEC1724_ which bt b4 b5 b6 b7 Wd GG) (C1725_ : frEC1725_ which bt b4 b5 b6 b7 Wd GG) (C17 : frEC17 which bt b4 b5 b6 b7 Wd GG) : frEC1624_25_ which bt b4 b5 b6 b7 Wd GG ∧ frEC1624_ which bt b4 b5 b6 b7 Wd GG ∧ frEC1625_ which bt b4 b5 b6 b7 Wd GG ∧ frEC16 which bt b4 b5 b6 b7 Wd GG := by
  unfold Try.f7 at hc
  cases hc
  have C1624_25_ : frEC1624_25_ which bt b4 b5 b6 b7 Wd GG := by
   intro u g27 g30 g33 g35 g38 g41 g44 g47 g50 g64 g70 X GD r27 r30 r33 r35 r38 r41 r44 r47 r50 r64 r70
   refine unhide HIN _ _ _ _ ?_
   unfold frE
   have hHeld := (unhide hS).call GD
   refine wpAnyH_ready (rs := [29]) (by kernel_rfl) (by simp) ?_
   refine AllReadyH.cons rfl (fun K20204 hK20204 => ?_) AllReadyH.nil
   go_simp
   go_wp2_with (go_at_call 26; refine (twoL_any _ xNul xNul _ _ _ rfl rfl).mono ?_; rintro e X2 ⟨g53, rfl, r53, hb⟩)
   exact hK20204.out _ _ (hHeld.call hb) (fun _ => unhide HOUT _ _ _ _ (C1724_25_ u g27 g30 g33 g35 g38 g41 g44 g47 g50 _ g64 g70 _ (bt_ GD hb) (r27.call hb) (r30.call hb) (r33.call hb) (r35.call hb) (r38.call hb) (r41.call hb) (r44.call hb) (r47.call hb) (r50.call hb) r53 (r64.call hb) (r70.call hb)))
  have C1624_ : frEC1624_ which bt b4 b5 b6 b7 Wd GG := by
   intro u g27 g30 g33 g35 g38 g41 g44 g47 g50 g64 X GD r27 r30 r33 r35 r38 r41 r44 r47 r50 r64
   refine unhide HIN _ _ _ _ ?_
   unfold frE
   have hHeld := (unhide hS).call GD
   refine wpAnyH_ready (rs := [29, 46]) (by kernel_rfl) (by simp) ?_
   refine AllReadyH.cons rfl (fun K20205 hK20205 => ?_) ?_
   · go_simp
     go_wp2_with (go_at_call 26; refine (twoL_any _ xNul xNul _ _ _ rfl rfl).mono ?_; rintro e X2 ⟨g53, rfl, r53, hb⟩)
     exact hK20205.out _ _ (hHeld.call hb) (fun _ => unhide HOUT _ _ _ _ (C1724_ u g27 g30 g33 g35 g38 g41 g44 g47 g50 _ g64 _ (bt_ GD hb) (r27.call hb) (r30.call hb) (r33.call hb) (r35.call hb) (r38.call hb) (r41.call hb) (r44.call hb) (r47.call hb) (r50.call hb) r53 (r64.call hb)))
   refine AllReadyH.cons rfl (fun K20206 hK20206 => ?_) AllReadyH.nil
   · go_simp
     have hb := below_new X o70
     have r70 := nb70 X
     refine hK20206.out _ _ (hHeld.call hb) (fun hH => ?_)
     clear hHeld hK20206 K20206
     refine wpAnyH_take (i := 47) (oi := ?o20207) (v := ?v20207) ?h20207 (by kernel_rfl) (by kernel_rfl) (by kernel_rfl) (fun _ _ _ h => h) (Or.inl ⟨?w20207, ?y20207⟩) hH ?r20207
     case h20207 => simp only [List.getElem?_toArray, List.getElem?_cons_zero, List.getElem?_cons_succ]; rfl
     case w20207 => rfl
     case y20207 => intro _ _; go_simp; with_reducible rfl
     simp only [Act.put, List.setIfInBounds_toArray, List.set_cons_zero, List.set_cons_succ]
     exact unhide HOUT _ _ _ _ (C1624_25_ u g27 g30 g33 g35 g38 g41 g44 g47 g50 g64 _ _ (bt_ GD hb) (r27.call hb) (r30.call hb) (r33.call hb) (r35.call hb) (r38.call hb) (r41.call hb) (r44.call hb) (r47.call hb) (r50.call hb) (r64.call hb) r70)
  have C1625_ : frEC1625_ which bt b4 b5 b6 b7 Wd GG := by
   intro u g27 g30 g33 g35 g38 g41 g44 g47 g50 g70 X GD r27 r30 r33 r35 r38 r41 r44 r47 r50 r70
   refine unhide HIN _ _ _ _ ?_
   unfold frE
   have hHeld := (unhide hS).call GD
   refine wpAnyH_ready (rs := [29, 40]) (by kernel_rfl) (by simp) ?_
   refine AllReadyH.cons rfl (fun K20208 hK20208 => ?_) ?_
   · go_simp
     go_wp2_with (go_at_call 26; refine (twoL_any _ xNul xNul _ _ _ rfl rfl).mono ?_; rintro e X2 ⟨g53, rfl, r53, hb⟩)
     exact hK20208.out _ _ (hHeld.call hb) (fun _ => unhide HOUT _ _ _ _ (C1725_ u g27 g30 g33 g35 g38 g41 g44 g47 g50 _ g70 _ (bt_ GD hb) (r27.call hb) (r30.call hb) (r33.call hb) (r35.call hb) (r38.call hb) (r41.call hb) (r44.call hb) (r47.call hb) (r50.call hb) r53 (r70.call hb)))
   refine AllReadyH.cons rfl (fun K20209 hK20209 => ?_) AllReadyH.nil
   · go_simp
     have hb := below_new X o64
     have r64 := nb64 X
     refine hK20209.out _ _ (hHeld.call hb) (fun hH => ?_)
     clear hHeld hK20209 K20209
     refine wpAnyH_take (i := 41) (oi := ?o20210) (v := ?v20210) ?h20210 (by kernel_rfl) (by kernel_rfl) (by kernel_rfl) (fun _ _ _ h => h) (Or.inl ⟨?w20210, ?y20210⟩) hH ?r20210
     case h20210 => simp only [List.getElem?_toArray, List.getElem?_cons_zero, List.getElem?_cons_succ]; rfl
     case w20210 => rfl
     case y20210 => intro _ _; go_simp; with_reducible rfl
     simp only [Act.put, List.setIfInBounds_toArray, List.set_cons_zero, List.set_cons_succ]
     exact unhide HOUT _ _ _ _ (C1624_25_ u g27 g30 g33 g35 g38 g41 g44 g47 g50 _ g70 _ (bt_ GD hb) (r27.call hb) (r30.call hb) (r33.call hb) (r35.call hb) (r38.call hb) (r41.call hb) (r44.call hb) (r47.call hb) (r50.call hb) r64 (r70.call hb))
  have C16 : frEC16 which bt b4 b5 b6 b7 Wd GG := by
   intro u g27 g30 g33 g35 g38 g41 g44 g47 g50 X GD r27 r30 r33 r35 r38 r41 r44 r47 r50
   refine unhide HIN _ _ _ _ ?_
   unfold frE
   have hHeld := (unhide hS).call GD
   refine wpAnyH_ready (rs := [29, 40, 46]) (by kernel_rfl) (by simp) ?_
   refine AllReadyH.cons rfl (fun K20211 hK20211 => ?_) ?_
   · go_simp
     go_wp2_with (go_at_call 26; refine (twoL_any _ xNul xNul _ _ _ rfl rfl).mono ?_; rintro e X2 ⟨g53, rfl, r53, hb⟩)
     exact hK20211.out _ _ (hHeld.call hb) (fun _ => unhide HOUT _ _ _ _ (C17 u g27 g30 g33 g35 g38 g41 g44 g47 g50 _ _ (bt_ GD hb) (r27.call hb) (r30.call hb) (r33.call hb) (r35.call hb) (r38.call hb) (r41.call hb) (r44.call hb) (r47.call hb) (r50.call hb) r53))
   refine AllReadyH.cons rfl (fun K20212 hK20212 => ?_) ?_
   · go_simp
     have hb := below_new X o64
     have r64 := nb64 X
     refine hK20212.out _ _ (hHeld.call hb) (fun hH => ?_)
     clear hHeld hK20212 K20212
     refine wpAnyH_take (i := 41) (oi := ?o20213) (v := ?v20213) ?h20213 (by kernel_rfl) (by kernel_rfl) (by kernel_rfl) (fun _ _ _ h => h) (Or.inl ⟨?w20213, ?y20213⟩) hH ?r20213
     case h20213 => simp only [List.getElem?_toArray, List.getElem?_cons_zero, List.getElem?_cons_succ]; rfl
     case w20213 => rfl
     case y20213 => intro _ _; go_simp; with_reducible rfl
     simp only [Act.put, List.setIfInBounds_toArray, List.set_cons_zero, List.set_cons_succ]
     exact unhide HOUT _ _ _ _ (C1624_ u g27 g30 g33 g35 g38 g41 g44 g47 g50 _ _ (bt_ GD hb) (r27.call hb) (r30.call hb) (r33.call hb) (r35.call hb) (r38.call hb) (r41.call hb) (r44.call hb) (r47.call hb) (r50.call hb) r64)
   refine AllReadyH.cons rfl (fun K20214 hK20214 => ?_) AllReadyH.nil
   · go_simp
     have hb := below_new X o70
     have r70 := nb70 X
     refine hK20214.out _ _ (hHeld.call hb) (fun hH => ?_)
     clear hHeld hK20214 K20214
     refine wpAnyH_take (i := 47) (oi := ?o20215) (v := ?v20215) ?h20215 (by kernel_rfl) (by kernel_rfl) (by kernel_rfl) (fun _ _ _ h => h) (Or.inl ⟨?w20215, ?y20215⟩) hH ?r20215
     case h20215 => simp only [List.getElem?_toArray, List.getElem?_cons_zero, List.getElem?_cons_succ]; rfl
     case w20215 => rfl
     case y20215 => intro _ _; go_simp; with_reducible rfl
     simp only [Act.put, List.setIfInBounds_toArray, List.set_cons_zero, List.set_cons_succ]
     exact unhide HOUT _ _ _ _ (C1625_ u g27 g30 g33 g35 g38 g41 g44 g47 g50 _ _ (bt_ GD hb) (r27.call hb) (r30.call hb) (r33.call hb) (r35.call hb) (r38.call hb) (r41.call hb) (r44.call hb) (r47.call hb) (r50.call hb) r70)
  exact ⟨C1624_25_, C1624_, C1625_, C16⟩
set_option maxHeartbeats 64000000 in
set_option maxRecDepth 100000 in
theorem er6p17 {r0 r1 r2 r3 r4 rest : Code} {id6 : Nat} {ops : Array Oper} (hc : Try.f7.body = some (.seq r0 (.seq r1 (.seq r2 (.seq r3 (.seq r4 (.seq (.region id6 ops true) rest))))))) (which : Int) (bt b4 b5 b6 b7 : Nat) (Wd : World) (GG : Nat → Array Bool → Act → World → Prop) (hS : Hid (SE b4 b5 b6 b7 Wd)) (Q : Exit → Act → World → Prop) (HIN : Hid (∀ f l a w, wpAnyH Try.prog .any ops (NoPanic Q) (SE b4 b5 b6 b7) f l a w → GG f l a w)) (HOUT : Hid (∀ f l a w, GG f l a w → wpAnyH Try.prog .any ops (NoPanic Q) (SE b4 b5 b6 b7) f l a w)) (C1824_25_ : frEC1824_25_ which bt b4 b5 b6 b7 Wd GG) (C1824_ : frEC1824_ which bt b4 b5 b6 b7 Wd GG) (C1825_ : frEC1825_ which bt b4 b5 b6 b7 Wd GG) (C18 : frEC18 which bt b4 b5 b6 b7 Wd GG) : frEC1724_25_ which bt b4 b5 b6 b7 Wd GG ∧ frEC1724_ which bt b4 b5 b6 b7 Wd GG ∧ frEC1725_ which bt b4 b5 b6 b7 Wd GG ∧ frEC17 which bt b4 b5 b6 b7 Wd GG := by
  unfold Try.f7 at hc
  cases hc
  have C1724_25_ : frEC1724_25_ which bt b4 b5 b6 b7 Wd GG := by
   intro u g27 g30 g33 g35 g38 g41 g44 g47 g50 g53 g64 g70 X GD r27 r30 r33 r35 r38 r41 r44 r47 r50 r53 r64 r70
   refine unhide HIN _ _ _ _ ?_
   unfold frE
   have hHeld := (unhide hS).call GD
   refine wpAnyH_ready (rs := [32]) (by kernel_rfl) (by simp) ?_
   refine AllReadyH.cons rfl (fun K20216 hK20216 => ?_) AllReadyH.nil
   go_simp
   go_wp2_with (go_at_call 26; refine (twoL_any _ xNul xNul _ _ _ rfl rfl).mono ?_; rintro e X2 ⟨g56, rfl, r56, hb⟩)
   exact hK20216.out _ _ (hHeld.call hb) (fun _ => unhide HOUT _ _ _ _ (C1824_25_ u g27 g30 g33 g35 g38 g41 g44 g47 g50 g53 _ g64 g70 _ (bt_ GD hb) (r27.call hb) (r30.call hb) (r33.call hb) (r35.call hb) (r38.call hb) (r41.call hb) (r44.call hb) (r47.call hb) (r50.call hb) (r53.call hb) r56 (r64.call hb) (r70.call hb)))
  have C1724_ : frEC1724_ which bt b4 b5 b6 b7 Wd GG := by
   intro u g27 g30 g33 g35 g38 g41 g44 g47 g50 g53 g64 X GD r27 r30 r33 r35 r38 r41 r44 r47 r50 r53 r64
   refine unhide HIN _ _ _ _ ?_
   unfold frE
   have hHeld := (unhide hS).call GD
   refine wpAnyH_ready (rs := [32, 46]) (by kernel_rfl) (by simp) ?_
   refine AllReadyH.cons rfl (fun K20217 hK20217 => ?_) ?_
   · go_simp
     go_wp2_with (go_at_call 26; refine (twoL_any _ xNul xNul _ _ _ rfl rfl).mono ?_; rintro e X2 ⟨g56, rfl, r56, hb⟩)
     exact hK20217.out _ _ (hHeld.call hb) (fun _ => unhide HOUT _ _ _ _ (C1824_ u g27 g30 g33 g35 g38 g41 g44 g47 g50 g53 _ g64 _ (bt_ GD hb) (r27.call hb) (r30.call hb) (r33.call hb) (r35.call hb) (r38.call hb) (r41.call hb) (r44.call hb) (r47.call hb) (r50.call hb) (r53.call hb) r56 (r64.call hb)))
   refine AllReadyH.cons rfl (fun K20218 hK20218 => ?_) AllReadyH.nil
   · go_simp
     have hb := below_new X o70
     have r70 := nb70 X
     refine hK20218.out _ _ (hHeld.call hb) (fun hH => ?_)
     clear hHeld hK20218 K20218
     refine wpAnyH_take (i := 47) (oi := ?o20219) (v := ?v20219) ?h20219 (by kernel_rfl) (by kernel_rfl) (by kernel_rfl) (fun _ _ _ h => h) (Or.inl ⟨?w20219, ?y20219⟩) hH ?r20219
     case h20219 => simp only [List.getElem?_toArray, List.getElem?_cons_zero, List.getElem?_cons_succ]; rfl
     case w20219 => rfl
     case y20219 => intro _ _; go_simp; with_reducible rfl
     simp only [Act.put, List.setIfInBounds_toArray, List.set_cons_zero, List.set_cons_succ]
     exact unhide HOUT _ _ _ _ (C1724_25_ u g27 g30 g33 g35 g38 g41 g44 g47 g50 g53 g64 _ _ (bt_ GD hb) (r27.call hb) (r30.call hb) (r33.call hb) (r35.call hb) (r38.call hb) (r41.call hb) (r44.call hb) (r47.call hb) (r50.call hb) (r53.call hb) (r64.call hb) r70)
  have C1725_ : frEC1725_ which bt b4 b5 b6 b7 Wd GG := by
   intro u g27 g30 g33 g35 g38 g41 g44 g47 g50 g53 g70 X GD r27 r30 r33 r35 r38 r41 r44 r47 r50 r53 r70
   refine unhide HIN _ _ _ _ ?_
   unfold frE
   have hHeld := (unhide hS).call GD
   refine wpAnyH_ready (rs := [32, 40]) (by kernel_rfl) (by simp) ?_
   refine AllReadyH.cons rfl (fun K20220 hK20220 => ?_) ?_
   · go_simp
     go_wp2_with (go_at_call 26; refine (twoL_any _ xNul xNul _ _ _ rfl rfl).mono ?_; rintro e X2 ⟨g56, rfl, r56, hb⟩)
     exact hK20220.out _ _ (hHeld.call hb) (fun _ => unhide HOUT _ _ _ _ (C1825_ u g27 g30 g33 g35 g38 g41 g44 g47 g50 g53 _ g70 _ (bt_ GD hb) (r27.call hb) (r30.call hb) (r33.call hb) (r35.call hb) (r38.call hb) (r41.call hb) (r44.call hb) (r47.call hb) (r50.call hb) (r53.call hb) r56 (r70.call hb)))
   refine AllReadyH.cons rfl (fun K20221 hK20221 => ?_) AllReadyH.nil
   · go_simp
     have hb := below_new X o64
     have r64 := nb64 X
     refine hK20221.out _ _ (hHeld.call hb) (fun hH => ?_)
     clear hHeld hK20221 K20221
     refine wpAnyH_take (i := 41) (oi := ?o20222) (v := ?v20222) ?h20222 (by kernel_rfl) (by kernel_rfl) (by kernel_rfl) (fun _ _ _ h => h) (Or.inl ⟨?w20222, ?y20222⟩) hH ?r20222
     case h20222 => simp only [List.getElem?_toArray, List.getElem?_cons_zero, List.getElem?_cons_succ]; rfl
     case w20222 => rfl
     case y20222 => intro _ _; go_simp; with_reducible rfl
     simp only [Act.put, List.setIfInBounds_toArray, List.set_cons_zero, List.set_cons_succ]
     exact unhide HOUT _ _ _ _ (C1724_25_ u g27 g30 g33 g35 g38 g41 g44 g47 g50 g53 _ g70 _ (bt_ GD hb) (r27.call hb) (r30.call hb) (r33.call hb) (r35.call hb) (r38.call hb) (r41.call hb) (r44.call hb) (r47.call hb) (r50.call hb) (r53.call hb) r64 (r70.call hb))
  have C17 : frEC17 which bt b4 b5 b6 b7 Wd GG := by
   intro u g27 g30 g33 g35 g38 g41 g44 g47 g50 g53 X GD r27 r30 r33 r35 r38 r41 r44 r47 r50 r53
   refine unhide HIN _ _ _ _ ?_
   unfold frE
   have hHeld := (unhide hS).call GD
   refine wpAnyH_ready (rs := [32, 40, 46]) (by kernel_rfl) (by simp) ?_
   refine AllReadyH.cons rfl (fun K20223 hK20223 => ?_) ?_
   · go_simp
     go_wp2_with (go_at_call 26; refine (twoL_any _ xNul xNul _ _ _ rfl rfl).mono ?_; rintro e X2 ⟨g56, rfl, r56, hb⟩)
     exact hK20223.out _ _ (hHeld.call hb) (fun _ => unhide HOUT _ _ _ _ (C18 u g27 g30 g33 g35 g38 g41 g44 g47 g50 g53 _ _ (bt_ GD hb) (r27.call hb) (r30.call hb) (r33.call hb) (r35.call hb) (r38.call hb) (r41.call hb) (r44.call hb) (r47.call hb) (r50.call hb) (r53.call hb) r56))
   refine AllReadyH.cons rfl (fun K20224 hK20224 => ?_) ?_
   · go_simp
     have hb := below_new X o64
     have r64 := nb64 X
     refine hK20224.out _ _ (hHeld.call hb) (fun hH => ?_)
     clear hHeld hK20224 K20224
     refine wpAnyH_take (i := 41) (oi := ?o20225) (v := ?v20225) ?h20225 (by kernel_rfl) (by kernel_rfl) (by kernel_rfl) (fun _ _ _ h => h) (Or.inl ⟨?w20225, ?y20225⟩) hH ?r20225
     case h20225 => simp only [List.getElem?_toArray, List.getElem?_cons_zero, List.getElem?_cons_succ]; rfl
     case w20225 => rfl
     case y20225 => intro _ _; go_simp; with_reducible rfl
     simp only [Act.put, List.setIfInBounds_toArray, List.set_cons_zero, List.set_cons_succ]
     exact unhide HOUT _ _ _ _ (C1724_ u g27 g30 g33 g35 g38 g41 g44 g47 g50 g53 _ _ (bt_ GD hb) (r27.call hb) (r30.call hb) (r33.call hb) (r35.call hb) (r38.call hb) (r41.call hb) (r44.call hb) (r47.call hb) (r50.call hb) (r53.call hb) r64)
   refine AllReadyH.cons rfl (fun K20226 hK20226 => ?_) AllReadyH.nil
   · go_simp
     have hb := below_new X o70
     have r70 := nb70 X
     refine hK20226.out _ _ (hHeld.call hb) (fun hH => ?_)
     clear hHeld hK20226 K20226
     refine wpAnyH_take (i := 47) (oi := ?o20227) (v := ?v20227) ?h20227 (by kernel_rfl) (by kernel_rfl) (by kernel_rfl) (fun _ _ _ h => h) (Or.inl ⟨?w20227, ?y20227⟩) hH ?r20227
     case h20227 => simp only [List.getElem?_toArray, List.getElem?_cons_zero, List.getElem?_cons_succ]; rfl
     case w20227 => rfl
     case y20227 => intro _ _; go_simp; with_reducible rfl
     simp only [Act.put, List.setIfInBounds_toArray, List.set_cons_zero, List.set_cons_succ]
     exact unhide HOUT _ _ _ _ (C1725_ u g27 g30 g33 g35 g38 g41 g44 g47 g50 g53 _ _ (bt_ GD hb) (r27.call hb) (r30.call hb) (r33.call hb) (r35.call hb) (r38.call hb) (r41.call hb) (r44.call hb) (r47.call hb) (r50.call hb) (r53.call hb) r70)
  exact ⟨C1724_25_, C1724_, C1725_, C17⟩
end Go.Proofs.Ytliefgkhpgigaaa
