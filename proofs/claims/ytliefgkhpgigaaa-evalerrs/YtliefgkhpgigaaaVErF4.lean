/-
  EvalErrs: the last place.
-/
import Derived.Test.YtliefgkhpgigaaaVErE
namespace Go.Proofs.Ytliefgkhpgigaaa
open Go.RowKit
set_option linter.unusedSimpArgs false
set_option linter.unusedVariables false

set_option maxHeartbeats 64000000 in
set_option maxRecDepth 100000 in
theorem er6p24 {r0 r1 r2 r3 r4 rest : Code} {id6 : Nat} {ops : Array Oper} (hc : Try.f7.body = some (.seq r0 (.seq r1 (.seq r2 (.seq r3 (.seq r4 (.seq (.region id6 ops true) rest))))))) (which : Int) (bt b4 b5 b6 b7 : Nat) (Wd : World) (GG : Nat → Array Bool → Act → World → Prop) (hS : Hid (SE b4 b5 b6 b7 Wd)) (Q : Exit → Act → World → Prop) (K7 : Act → World → Prop) (HIN : Hid (∀ f l a w, wpAnyH Try.prog .any ops (NoPanic (Exit.then K7 Q)) (SE b4 b5 b6 b7) f l a w → GG f l a w)) (HOUT : Hid (∀ f l a w, GG f l a w → wpAnyH Try.prog .any ops (NoPanic (Exit.then K7 Q)) (SE b4 b5 b6 b7) f l a w)) (w : World) (jj : Nat) (hj6 : jj < 17) (gc : Nat) (REST7 : Hid (∀ (ac : Act) (bl : Nat) (lv : Value) (ee : Ex) (kv ev : Int) (X : World), ac = ⟨#[.int .i64 which, ac.tmps.getD 1 undef, ac.tmps.getD 2 undef, .pointer (some ⟨bt, 0, none⟩), ac.tmps.getD 4 undef, ac.tmps.getD 5 undef, ac.tmps.getD 6 undef, ac.tmps.getD 7 undef, .slice (some ⟨bl, 0, none⟩) 17 17, ac.tmps.getD 9 undef, ac.tmps.getD 10 undef, ac.tmps.getD 11 undef, ac.tmps.getD 12 undef, ac.tmps.getD 13 undef, ac.tmps.getD 14 undef, ac.tmps.getD 15 undef, ac.tmps.getD 16 undef, ac.tmps.getD 17 undef, ac.tmps.getD 18 undef, ac.tmps.getD 19 undef, ac.tmps.getD 20 undef, ac.tmps.getD 21 undef, ac.tmps.getD 22 undef, ac.tmps.getD 23 undef, ac.tmps.getD 24 undef, ac.tmps.getD 25 undef, ac.tmps.getD 26 undef, ac.tmps.getD 27 undef, ac.tmps.getD 28 undef, ac.tmps.getD 29 undef, ac.tmps.getD 30 undef, ac.tmps.getD 31 undef, ac.tmps.getD 32 undef, ac.tmps.getD 33 undef, ac.tmps.getD 34 undef, ac.tmps.getD 35 undef, ac.tmps.getD 36 undef, ac.tmps.getD 37 undef, ac.tmps.getD 38 undef, ac.tmps.getD 39 undef, ac.tmps.getD 40 undef, ac.tmps.getD 41 undef, ac.tmps.getD 42 undef, ac.tmps.getD 43 undef, ac.tmps.getD 44 undef, ac.tmps.getD 45 undef, ac.tmps.getD 46 undef, ac.tmps.getD 47 undef, ac.tmps.getD 48 undef, ac.tmps.getD 49 undef, ac.tmps.getD 50 undef, ac.tmps.getD 51 undef, ac.tmps.getD 52 undef, ac.tmps.getD 53 undef, ac.tmps.getD 54 undef, ac.tmps.getD 55 undef, ac.tmps.getD 56 undef, ac.tmps.getD 57 undef, ac.tmps.getD 58 undef, ac.tmps.getD 59 undef, ac.tmps.getD 60 undef, ac.tmps.getD 61 undef, ac.tmps.getD 62 undef, ac.tmps.getD 63 undef, ac.tmps.getD 64 undef, ac.tmps.getD 65 undef, ac.tmps.getD 66 undef, ac.tmps.getD 67 undef, ac.tmps.getD 68 undef, ac.tmps.getD 69 undef, ac.tmps.getD 70 undef, ac.tmps.getD 71 undef, ac.tmps.getD 72 undef, ac.tmps.getD 73 undef, ac.tmps.getD 74 undef, ac.tmps.getD 75 undef, ac.tmps.getD 76 undef, ac.tmps.getD 77 undef, ac.tmps.getD 78 undef, ac.tmps.getD 79 undef, ac.tmps.getD 80 undef, ac.tmps.getD 81 undef, ac.tmps.getD 82 undef, ac.tmps.getD 83 undef, ac.tmps.getD 84 undef, ac.tmps.getD 85 undef, ac.tmps.getD 86 undef, ac.tmps.getD 87 undef, ac.tmps.getD 88 undef, ac.tmps.getD 89 undef, ac.tmps.getD 90 undef, ac.tmps.getD 91 undef, ac.tmps.getD 92 undef, ac.tmps.getD 93 undef, ac.tmps.getD 94 undef, ac.tmps.getD 95 undef, ac.tmps.getD 96 undef, ac.tmps.getD 97 undef, ac.tmps.getD 98 undef, ac.tmps.getD 99 undef, ac.tmps.getD 100 undef, ac.tmps.getD 101 undef], []⟩ → TyIs ee kv ev → (#[.int .i64 4, .int .i64 4, .int .i64 5, .int .i64 5, .int .i64 5, .int .i64 5, .int .i64 5, .int .i64 5, .int .i64 0, .int .i64 0, .int .i64 0, .int .i64 0, .int .i64 0, .int .i64 4, .int .i64 0, .int .i64 5, .int .i64 0] : Array Value)[jj]? = some (.int .i64 ev) → (#[.int .i64 0, .int .i64 0, .int .i64 0, .int .i64 0, .int .i64 0, .int .i64 0, .int .i64 0, .int .i64 0, .int .i64 1, .int .i64 3, .int .i64 0, .int .i64 1, .int .i64 1, .int .i64 0, .int .i64 0, .int .i64 0, .int .i64 1] : Array Value)[jj]? = some (.int .i64 kv) → Hid (Grown w X) → Hid (ColsOf (.slice (some ⟨gc, 0, none⟩) 4 4) cols4 X) → Hid (Blk bt #[.string ⟨#[116]⟩, .slice (some ⟨gc, 0, none⟩) 4 4, .int .i64 0, N0, .int .i64 0, .string S0, .int .i64 0, .int .i64 0, .int .i64 0, .string S0, N0, N0] 34 X) → Hid (ElAt bl jj ee lv X) → Hid (Rep ee lv X) → K7 ac X)) (G : Hid (Grown w Wd)) (hC : Hid (ColsOf (.slice (some ⟨gc, 0, none⟩) 4 4) cols4 Wd)) (hT : Hid (Blk bt #[.string ⟨#[116]⟩, .slice (some ⟨gc, 0, none⟩) 4 4, .int .i64 0, N0, .int .i64 0, .string S0, .int .i64 0, .int .i64 0, .int .i64 0, .string S0, N0, N0] 34 Wd)) : frEC2424_25_26_ which bt b4 b5 b6 b7 Wd GG ∧ frEC2424_25_ which bt b4 b5 b6 b7 Wd GG ∧ frEC2424_26_ which bt b4 b5 b6 b7 Wd GG ∧ frEC2425_26_ which bt b4 b5 b6 b7 Wd GG ∧ frEC2424_ which bt b4 b5 b6 b7 Wd GG ∧ frEC2425_ which bt b4 b5 b6 b7 Wd GG ∧ frEC2426_ which bt b4 b5 b6 b7 Wd GG ∧ frEC24 which bt b4 b5 b6 b7 Wd GG := by
  unfold Try.f7 at hc
  cases hc
  have C2424_25_26_ : frEC2424_25_26_ which bt b4 b5 b6 b7 Wd GG := by
   intro u g27 g30 g33 g35 g38 g41 g44 g47 g50 g53 g56 g59 g62 g64 g70 g67 X GD r27 r30 r33 r35 r38 r41 r44 r47 r50 r53 r56 r59 r62 r64 r70 r67
   refine unhide HIN _ _ _ _ ?_
   unfold frE
   have hHeld := (unhide hS).call GD
   refine wpAnyH_ready (rs := [48]) (by kernel_rfl) (by simp) ?_
   refine AllReadyH.cons rfl (fun K20300 hK20300 => ?_) AllReadyH.nil
   go_simp
   refine hK20300.out _ _ ?hs (fun hH => ?_)
   case hs => exact hHeld.call (below_new _ _)
   clear hHeld hK20300 K20300
   have hHeld := hH
   refine wpAnyH_take (i := 49) (oi := ?oi20301) (v := ?v20301) ?hi20301 (by kernel_rfl) (by kernel_rfl) (by kernel_rfl) (fun _ _ _ h => h) (Or.inl ⟨?hw20301, ?hy20301⟩) (by assumption) ?rest20301
   case hi20301 => (simp only [List.getElem?_toArray, List.getElem?_cons_zero, List.getElem?_cons_succ]; rfl)
   case hw20301 => rfl
   case hy20301 => first | (intro wx hSw; go_simp; done) | (intro wx hSw; go_simp; with_reducible rfl)
   simp only [Act.put, List.setIfInBounds_toArray, List.set_cons_zero, List.set_cons_succ]
   refine wpAnyH_done (by kernel_rfl) ?_ _
   refine NoPanic.normal ?_
   skip
   have gg := below_new X (.cells (exC e24 N0 ++ exC e27 (.slice (some ⟨g27, 0, none⟩) 2 2) ++ exC e30 (.slice (some ⟨g30, 0, none⟩) 2 2) ++ exC e33 (.slice (some ⟨g33, 0, none⟩) 2 2) ++ exC e35 (.slice (some ⟨g35, 0, none⟩) 1 1) ++ exC e38 (.slice (some ⟨g38, 0, none⟩) 2 2) ++ exC e41 (.slice (some ⟨g41, 0, none⟩) 2 2) ++ exC e44 (.slice (some ⟨g44, 0, none⟩) 2 2) ++ exC e47 (.slice (some ⟨g47, 0, none⟩) 2 2) ++ exC e50 (.slice (some ⟨g50, 0, none⟩) 2 2) ++ exC e53 (.slice (some ⟨g53, 0, none⟩) 2 2) ++ exC e56 (.slice (some ⟨g56, 0, none⟩) 2 2) ++ exC e59 (.slice (some ⟨g59, 0, none⟩) 2 2) ++ exC e62 (.slice (some ⟨g62, 0, none⟩) 2 2) ++ exC e64 (.slice (some ⟨g64, 0, none⟩) 1 1) ++ exC e67 (.slice (some ⟨g67, 0, none⟩) 1 1) ++ exC e70 (.slice (some ⟨g70, 0, none⟩) 1 1)).toArray 31)
   have hL := Blk.new X (exC e24 N0 ++ exC e27 (.slice (some ⟨g27, 0, none⟩) 2 2) ++ exC e30 (.slice (some ⟨g30, 0, none⟩) 2 2) ++ exC e33 (.slice (some ⟨g33, 0, none⟩) 2 2) ++ exC e35 (.slice (some ⟨g35, 0, none⟩) 1 1) ++ exC e38 (.slice (some ⟨g38, 0, none⟩) 2 2) ++ exC e41 (.slice (some ⟨g41, 0, none⟩) 2 2) ++ exC e44 (.slice (some ⟨g44, 0, none⟩) 2 2) ++ exC e47 (.slice (some ⟨g47, 0, none⟩) 2 2) ++ exC e50 (.slice (some ⟨g50, 0, none⟩) 2 2) ++ exC e53 (.slice (some ⟨g53, 0, none⟩) 2 2) ++ exC e56 (.slice (some ⟨g56, 0, none⟩) 2 2) ++ exC e59 (.slice (some ⟨g59, 0, none⟩) 2 2) ++ exC e62 (.slice (some ⟨g62, 0, none⟩) 2 2) ++ exC e64 (.slice (some ⟨g64, 0, none⟩) 1 1) ++ exC e67 (.slice (some ⟨g67, 0, none⟩) 1 1) ++ exC e70 (.slice (some ⟨g70, 0, none⟩) 1 1)).toArray 31
   have GE := GD.trans (gg.mono GD.size)
   refine (?_ : K7 _ (X.alloc (.cells (exC e24 N0 ++ exC e27 (.slice (some ⟨g27, 0, none⟩) 2 2) ++ exC e30 (.slice (some ⟨g30, 0, none⟩) 2 2) ++ exC e33 (.slice (some ⟨g33, 0, none⟩) 2 2) ++ exC e35 (.slice (some ⟨g35, 0, none⟩) 1 1) ++ exC e38 (.slice (some ⟨g38, 0, none⟩) 2 2) ++ exC e41 (.slice (some ⟨g41, 0, none⟩) 2 2) ++ exC e44 (.slice (some ⟨g44, 0, none⟩) 2 2) ++ exC e47 (.slice (some ⟨g47, 0, none⟩) 2 2) ++ exC e50 (.slice (some ⟨g50, 0, none⟩) 2 2) ++ exC e53 (.slice (some ⟨g53, 0, none⟩) 2 2) ++ exC e56 (.slice (some ⟨g56, 0, none⟩) 2 2) ++ exC e59 (.slice (some ⟨g59, 0, none⟩) 2 2) ++ exC e62 (.slice (some ⟨g62, 0, none⟩) 2 2) ++ exC e64 (.slice (some ⟨g64, 0, none⟩) 1 1) ++ exC e67 (.slice (some ⟨g67, 0, none⟩) 1 1) ++ exC e70 (.slice (some ⟨g70, 0, none⟩) 1 1)).toArray 31)))
   generalize X.alloc (.cells (exC e24 N0 ++ exC e27 (.slice (some ⟨g27, 0, none⟩) 2 2) ++ exC e30 (.slice (some ⟨g30, 0, none⟩) 2 2) ++ exC e33 (.slice (some ⟨g33, 0, none⟩) 2 2) ++ exC e35 (.slice (some ⟨g35, 0, none⟩) 1 1) ++ exC e38 (.slice (some ⟨g38, 0, none⟩) 2 2) ++ exC e41 (.slice (some ⟨g41, 0, none⟩) 2 2) ++ exC e44 (.slice (some ⟨g44, 0, none⟩) 2 2) ++ exC e47 (.slice (some ⟨g47, 0, none⟩) 2 2) ++ exC e50 (.slice (some ⟨g50, 0, none⟩) 2 2) ++ exC e53 (.slice (some ⟨g53, 0, none⟩) 2 2) ++ exC e56 (.slice (some ⟨g56, 0, none⟩) 2 2) ++ exC e59 (.slice (some ⟨g59, 0, none⟩) 2 2) ++ exC e62 (.slice (some ⟨g62, 0, none⟩) 2 2) ++ exC e64 (.slice (some ⟨g64, 0, none⟩) 1 1) ++ exC e67 (.slice (some ⟨g67, 0, none⟩) 1 1) ++ exC e70 (.slice (some ⟨g70, 0, none⟩) 1 1)).toArray 31) = XE at *
   have hcase : jj = 0 ∨ jj = 1 ∨ jj = 2 ∨ jj = 3 ∨ jj = 4 ∨ jj = 5 ∨ jj = 6 ∨ jj = 7 ∨ jj = 8 ∨ jj = 9 ∨ jj = 10 ∨ jj = 11 ∨ jj = 12 ∨ jj = 13 ∨ jj = 14 ∨ jj = 15 ∨ jj = 16 := by omega
   rcases hcase with rfl | rfl | rfl | rfl | rfl | rfl | rfl | rfl | rfl | rfl | rfl | rfl | rfl | rfl | rfl | rfl | rfl
   · exact unhide REST7 _ X.heap.size N0 e24 0 4 _ (by kernel_rfl) ty0 rfl rfl (hide ((unhide G).call GE)) (hide ((unhide hC).call GE)) (hide ((unhide hT).call GE)) (hide (el_of hL (by kernel_rfl))) (hide rfl)
   · exact unhide REST7 _ X.heap.size (.slice (some ⟨g27, 0, none⟩) 2 2) e27 0 4 _ (by kernel_rfl) ty1 rfl rfl (hide ((unhide G).call GE)) (hide ((unhide hC).call GE)) (hide ((unhide hT).call GE)) (hide (el_of hL (by kernel_rfl))) (hide (r27.call gg))
   · exact unhide REST7 _ X.heap.size (.slice (some ⟨g30, 0, none⟩) 2 2) e30 0 5 _ (by kernel_rfl) ty2 rfl rfl (hide ((unhide G).call GE)) (hide ((unhide hC).call GE)) (hide ((unhide hT).call GE)) (hide (el_of hL (by kernel_rfl))) (hide (r30.call gg))
   · exact unhide REST7 _ X.heap.size (.slice (some ⟨g33, 0, none⟩) 2 2) e33 0 5 _ (by kernel_rfl) ty3 rfl rfl (hide ((unhide G).call GE)) (hide ((unhide hC).call GE)) (hide ((unhide hT).call GE)) (hide (el_of hL (by kernel_rfl))) (hide (r33.call gg))
   · exact unhide REST7 _ X.heap.size (.slice (some ⟨g35, 0, none⟩) 1 1) e35 0 5 _ (by kernel_rfl) ty4 rfl rfl (hide ((unhide G).call GE)) (hide ((unhide hC).call GE)) (hide ((unhide hT).call GE)) (hide (el_of hL (by kernel_rfl))) (hide (r35.call gg))
   · exact unhide REST7 _ X.heap.size (.slice (some ⟨g38, 0, none⟩) 2 2) e38 0 5 _ (by kernel_rfl) ty5 rfl rfl (hide ((unhide G).call GE)) (hide ((unhide hC).call GE)) (hide ((unhide hT).call GE)) (hide (el_of hL (by kernel_rfl))) (hide (r38.call gg))
   · exact unhide REST7 _ X.heap.size (.slice (some ⟨g41, 0, none⟩) 2 2) e41 0 5 _ (by kernel_rfl) ty6 rfl rfl (hide ((unhide G).call GE)) (hide ((unhide hC).call GE)) (hide ((unhide hT).call GE)) (hide (el_of hL (by kernel_rfl))) (hide (r41.call gg))
   · exact unhide REST7 _ X.heap.size (.slice (some ⟨g44, 0, none⟩) 2 2) e44 0 5 _ (by kernel_rfl) ty7 rfl rfl (hide ((unhide G).call GE)) (hide ((unhide hC).call GE)) (hide ((unhide hT).call GE)) (hide (el_of hL (by kernel_rfl))) (hide (r44.call gg))
   · exact unhide REST7 _ X.heap.size (.slice (some ⟨g47, 0, none⟩) 2 2) e47 1 0 _ (by kernel_rfl) ty8 rfl rfl (hide ((unhide G).call GE)) (hide ((unhide hC).call GE)) (hide ((unhide hT).call GE)) (hide (el_of hL (by kernel_rfl))) (hide (r47.call gg))
   · exact unhide REST7 _ X.heap.size (.slice (some ⟨g50, 0, none⟩) 2 2) e50 3 0 _ (by kernel_rfl) ty9 rfl rfl (hide ((unhide G).call GE)) (hide ((unhide hC).call GE)) (hide ((unhide hT).call GE)) (hide (el_of hL (by kernel_rfl))) (hide (r50.call gg))
   · exact unhide REST7 _ X.heap.size (.slice (some ⟨g53, 0, none⟩) 2 2) e53 0 0 _ (by kernel_rfl) ty10 rfl rfl (hide ((unhide G).call GE)) (hide ((unhide hC).call GE)) (hide ((unhide hT).call GE)) (hide (el_of hL (by kernel_rfl))) (hide (r53.call gg))
   · exact unhide REST7 _ X.heap.size (.slice (some ⟨g56, 0, none⟩) 2 2) e56 1 0 _ (by kernel_rfl) ty11 rfl rfl (hide ((unhide G).call GE)) (hide ((unhide hC).call GE)) (hide ((unhide hT).call GE)) (hide (el_of hL (by kernel_rfl))) (hide (r56.call gg))
   · exact unhide REST7 _ X.heap.size (.slice (some ⟨g59, 0, none⟩) 2 2) e59 1 0 _ (by kernel_rfl) ty12 rfl rfl (hide ((unhide G).call GE)) (hide ((unhide hC).call GE)) (hide ((unhide hT).call GE)) (hide (el_of hL (by kernel_rfl))) (hide (r59.call gg))
   · exact unhide REST7 _ X.heap.size (.slice (some ⟨g62, 0, none⟩) 2 2) e62 0 4 _ (by kernel_rfl) ty13 rfl rfl (hide ((unhide G).call GE)) (hide ((unhide hC).call GE)) (hide ((unhide hT).call GE)) (hide (el_of hL (by kernel_rfl))) (hide (r62.call gg))
   · exact unhide REST7 _ X.heap.size (.slice (some ⟨g64, 0, none⟩) 1 1) e64 0 0 _ (by kernel_rfl) ty14 rfl rfl (hide ((unhide G).call GE)) (hide ((unhide hC).call GE)) (hide ((unhide hT).call GE)) (hide (el_of hL (by kernel_rfl))) (hide (r64.call gg))
   · exact unhide REST7 _ X.heap.size (.slice (some ⟨g67, 0, none⟩) 1 1) e67 0 5 _ (by kernel_rfl) ty15 rfl rfl (hide ((unhide G).call GE)) (hide ((unhide hC).call GE)) (hide ((unhide hT).call GE)) (hide (el_of hL (by kernel_rfl))) (hide (r67.call gg))
   · exact unhide REST7 _ X.heap.size (.slice (some ⟨g70, 0, none⟩) 1 1) e70 1 0 _ (by kernel_rfl) ty16 rfl rfl (hide ((unhide G).call GE)) (hide ((unhide hC).call GE)) (hide ((unhide hT).call GE)) (hide (el_of hL (by kernel_rfl))) (hide (r70.call gg))
  have C2424_25_ : frEC2424_25_ which bt b4 b5 b6 b7 Wd GG := by
   intro u g27 g30 g33 g35 g38 g41 g44 g47 g50 g53 g56 g59 g62 g64 g70 X GD r27 r30 r33 r35 r38 r41 r44 r47 r50 r53 r56 r59 r62 r64 r70
   refine unhide HIN _ _ _ _ ?_
   unfold frE
   have hHeld := (unhide hS).call GD
   refine wpAnyH_ready (rs := [43]) (by kernel_rfl) (by simp) ?_
   refine AllReadyH.cons rfl (fun K20302 hK20302 => ?_) AllReadyH.nil
   go_simp
   have hb := below_new X o67
   have r67 := nb67 X
   refine hK20302.out _ _ (hHeld.call hb) (fun hH => ?_)
   clear hHeld hK20302 K20302
   refine wpAnyH_take (i := 44) (oi := ?o20303) (v := ?v20303) ?h20303 (by kernel_rfl) (by kernel_rfl) (by kernel_rfl) (fun _ _ _ h => h) (Or.inl ⟨?w20303, ?y20303⟩) hH ?r20303
   case h20303 => simp only [List.getElem?_toArray, List.getElem?_cons_zero, List.getElem?_cons_succ]; rfl
   case w20303 => rfl
   case y20303 => intro _ _; go_simp; with_reducible rfl
   simp only [Act.put, List.setIfInBounds_toArray, List.set_cons_zero, List.set_cons_succ]
   exact unhide HOUT _ _ _ _ (C2424_25_26_ u g27 g30 g33 g35 g38 g41 g44 g47 g50 g53 g56 g59 g62 g64 g70 _ _ (bt_ GD hb) (r27.call hb) (r30.call hb) (r33.call hb) (r35.call hb) (r38.call hb) (r41.call hb) (r44.call hb) (r47.call hb) (r50.call hb) (r53.call hb) (r56.call hb) (r59.call hb) (r62.call hb) (r64.call hb) (r70.call hb) r67)
  have C2424_26_ : frEC2424_26_ which bt b4 b5 b6 b7 Wd GG := by
   intro u g27 g30 g33 g35 g38 g41 g44 g47 g50 g53 g56 g59 g62 g64 g67 X GD r27 r30 r33 r35 r38 r41 r44 r47 r50 r53 r56 r59 r62 r64 r67
   refine unhide HIN _ _ _ _ ?_
   unfold frE
   have hHeld := (unhide hS).call GD
   refine wpAnyH_ready (rs := [46]) (by kernel_rfl) (by simp) ?_
   refine AllReadyH.cons rfl (fun K20304 hK20304 => ?_) AllReadyH.nil
   go_simp
   have hb := below_new X o70
   have r70 := nb70 X
   refine hK20304.out _ _ (hHeld.call hb) (fun hH => ?_)
   clear hHeld hK20304 K20304
   refine wpAnyH_take (i := 47) (oi := ?o20305) (v := ?v20305) ?h20305 (by kernel_rfl) (by kernel_rfl) (by kernel_rfl) (fun _ _ _ h => h) (Or.inl ⟨?w20305, ?y20305⟩) hH ?r20305
   case h20305 => simp only [List.getElem?_toArray, List.getElem?_cons_zero, List.getElem?_cons_succ]; rfl
   case w20305 => rfl
   case y20305 => intro _ _; go_simp; with_reducible rfl
   simp only [Act.put, List.setIfInBounds_toArray, List.set_cons_zero, List.set_cons_succ]
   exact unhide HOUT _ _ _ _ (C2424_25_26_ u g27 g30 g33 g35 g38 g41 g44 g47 g50 g53 g56 g59 g62 g64 _ g67 _ (bt_ GD hb) (r27.call hb) (r30.call hb) (r33.call hb) (r35.call hb) (r38.call hb) (r41.call hb) (r44.call hb) (r47.call hb) (r50.call hb) (r53.call hb) (r56.call hb) (r59.call hb) (r62.call hb) (r64.call hb) r70 (r67.call hb))
  have C2425_26_ : frEC2425_26_ which bt b4 b5 b6 b7 Wd GG := by
   intro u g27 g30 g33 g35 g38 g41 g44 g47 g50 g53 g56 g59 g62 g70 g67 X GD r27 r30 r33 r35 r38 r41 r44 r47 r50 r53 r56 r59 r62 r70 r67
   refine unhide HIN _ _ _ _ ?_
   unfold frE
   have hHeld := (unhide hS).call GD
   refine wpAnyH_ready (rs := [40]) (by kernel_rfl) (by simp) ?_
   refine AllReadyH.cons rfl (fun K20306 hK20306 => ?_) AllReadyH.nil
   go_simp
   have hb := below_new X o64
   have r64 := nb64 X
   refine hK20306.out _ _ (hHeld.call hb) (fun hH => ?_)
   clear hHeld hK20306 K20306
   refine wpAnyH_take (i := 41) (oi := ?o20307) (v := ?v20307) ?h20307 (by kernel_rfl) (by kernel_rfl) (by kernel_rfl) (fun _ _ _ h => h) (Or.inl ⟨?w20307, ?y20307⟩) hH ?r20307
   case h20307 => simp only [List.getElem?_toArray, List.getElem?_cons_zero, List.getElem?_cons_succ]; rfl
   case w20307 => rfl
   case y20307 => intro _ _; go_simp; with_reducible rfl
   simp only [Act.put, List.setIfInBounds_toArray, List.set_cons_zero, List.set_cons_succ]
   exact unhide HOUT _ _ _ _ (C2424_25_26_ u g27 g30 g33 g35 g38 g41 g44 g47 g50 g53 g56 g59 g62 _ g70 g67 _ (bt_ GD hb) (r27.call hb) (r30.call hb) (r33.call hb) (r35.call hb) (r38.call hb) (r41.call hb) (r44.call hb) (r47.call hb) (r50.call hb) (r53.call hb) (r56.call hb) (r59.call hb) (r62.call hb) r64 (r70.call hb) (r67.call hb))
  have C2424_ : frEC2424_ which bt b4 b5 b6 b7 Wd GG := by
   intro u g27 g30 g33 g35 g38 g41 g44 g47 g50 g53 g56 g59 g62 g64 X GD r27 r30 r33 r35 r38 r41 r44 r47 r50 r53 r56 r59 r62 r64
   refine unhide HIN _ _ _ _ ?_
   unfold frE
   have hHeld := (unhide hS).call GD
   refine wpAnyH_ready (rs := [43, 46]) (by kernel_rfl) (by simp) ?_
   refine AllReadyH.cons rfl (fun K20308 hK20308 => ?_) ?_
   · go_simp
     have hb := below_new X o67
     have r67 := nb67 X
     refine hK20308.out _ _ (hHeld.call hb) (fun hH => ?_)
     clear hHeld hK20308 K20308
     refine wpAnyH_take (i := 44) (oi := ?o20309) (v := ?v20309) ?h20309 (by kernel_rfl) (by kernel_rfl) (by kernel_rfl) (fun _ _ _ h => h) (Or.inl ⟨?w20309, ?y20309⟩) hH ?r20309
     case h20309 => simp only [List.getElem?_toArray, List.getElem?_cons_zero, List.getElem?_cons_succ]; rfl
     case w20309 => rfl
     case y20309 => intro _ _; go_simp; with_reducible rfl
     simp only [Act.put, List.setIfInBounds_toArray, List.set_cons_zero, List.set_cons_succ]
     exact unhide HOUT _ _ _ _ (C2424_26_ u g27 g30 g33 g35 g38 g41 g44 g47 g50 g53 g56 g59 g62 g64 _ _ (bt_ GD hb) (r27.call hb) (r30.call hb) (r33.call hb) (r35.call hb) (r38.call hb) (r41.call hb) (r44.call hb) (r47.call hb) (r50.call hb) (r53.call hb) (r56.call hb) (r59.call hb) (r62.call hb) (r64.call hb) r67)
   refine AllReadyH.cons rfl (fun K20310 hK20310 => ?_) AllReadyH.nil
   · go_simp
     have hb := below_new X o70
     have r70 := nb70 X
     refine hK20310.out _ _ (hHeld.call hb) (fun hH => ?_)
     clear hHeld hK20310 K20310
     refine wpAnyH_take (i := 47) (oi := ?o20311) (v := ?v20311) ?h20311 (by kernel_rfl) (by kernel_rfl) (by kernel_rfl) (fun _ _ _ h => h) (Or.inl ⟨?w20311, ?y20311⟩) hH ?r20311
     case h20311 => simp only [List.getElem?_toArray, List.getElem?_cons_zero, List.getElem?_cons_succ]; rfl
     case w20311 => rfl
     case y20311 => intro _ _; go_simp; with_reducible rfl
     simp only [Act.put, List.setIfInBounds_toArray, List.set_cons_zero, List.set_cons_succ]
     exact unhide HOUT _ _ _ _ (C2424_25_ u g27 g30 g33 g35 g38 g41 g44 g47 g50 g53 g56 g59 g62 g64 _ _ (bt_ GD hb) (r27.call hb) (r30.call hb) (r33.call hb) (r35.call hb) (r38.call hb) (r41.call hb) (r44.call hb) (r47.call hb) (r50.call hb) (r53.call hb) (r56.call hb) (r59.call hb) (r62.call hb) (r64.call hb) r70)
  have C2425_ : frEC2425_ which bt b4 b5 b6 b7 Wd GG := by
   intro u g27 g30 g33 g35 g38 g41 g44 g47 g50 g53 g56 g59 g62 g70 X GD r27 r30 r33 r35 r38 r41 r44 r47 r50 r53 r56 r59 r62 r70
   refine unhide HIN _ _ _ _ ?_
   unfold frE
   have hHeld := (unhide hS).call GD
   refine wpAnyH_ready (rs := [40, 43]) (by kernel_rfl) (by simp) ?_
   refine AllReadyH.cons rfl (fun K20312 hK20312 => ?_) ?_
   · go_simp
     have hb := below_new X o64
     have r64 := nb64 X
     refine hK20312.out _ _ (hHeld.call hb) (fun hH => ?_)
     clear hHeld hK20312 K20312
     refine wpAnyH_take (i := 41) (oi := ?o20313) (v := ?v20313) ?h20313 (by kernel_rfl) (by kernel_rfl) (by kernel_rfl) (fun _ _ _ h => h) (Or.inl ⟨?w20313, ?y20313⟩) hH ?r20313
     case h20313 => simp only [List.getElem?_toArray, List.getElem?_cons_zero, List.getElem?_cons_succ]; rfl
     case w20313 => rfl
     case y20313 => intro _ _; go_simp; with_reducible rfl
     simp only [Act.put, List.setIfInBounds_toArray, List.set_cons_zero, List.set_cons_succ]
     exact unhide HOUT _ _ _ _ (C2424_25_ u g27 g30 g33 g35 g38 g41 g44 g47 g50 g53 g56 g59 g62 _ g70 _ (bt_ GD hb) (r27.call hb) (r30.call hb) (r33.call hb) (r35.call hb) (r38.call hb) (r41.call hb) (r44.call hb) (r47.call hb) (r50.call hb) (r53.call hb) (r56.call hb) (r59.call hb) (r62.call hb) r64 (r70.call hb))
   refine AllReadyH.cons rfl (fun K20314 hK20314 => ?_) AllReadyH.nil
   · go_simp
     have hb := below_new X o67
     have r67 := nb67 X
     refine hK20314.out _ _ (hHeld.call hb) (fun hH => ?_)
     clear hHeld hK20314 K20314
     refine wpAnyH_take (i := 44) (oi := ?o20315) (v := ?v20315) ?h20315 (by kernel_rfl) (by kernel_rfl) (by kernel_rfl) (fun _ _ _ h => h) (Or.inl ⟨?w20315, ?y20315⟩) hH ?r20315
     case h20315 => simp only [List.getElem?_toArray, List.getElem?_cons_zero, List.getElem?_cons_succ]; rfl
     case w20315 => rfl
     case y20315 => intro _ _; go_simp; with_reducible rfl
     simp only [Act.put, List.setIfInBounds_toArray, List.set_cons_zero, List.set_cons_succ]
     exact unhide HOUT _ _ _ _ (C2425_26_ u g27 g30 g33 g35 g38 g41 g44 g47 g50 g53 g56 g59 g62 g70 _ _ (bt_ GD hb) (r27.call hb) (r30.call hb) (r33.call hb) (r35.call hb) (r38.call hb) (r41.call hb) (r44.call hb) (r47.call hb) (r50.call hb) (r53.call hb) (r56.call hb) (r59.call hb) (r62.call hb) (r70.call hb) r67)
  have C2426_ : frEC2426_ which bt b4 b5 b6 b7 Wd GG := by
   intro u g27 g30 g33 g35 g38 g41 g44 g47 g50 g53 g56 g59 g62 g67 X GD r27 r30 r33 r35 r38 r41 r44 r47 r50 r53 r56 r59 r62 r67
   refine unhide HIN _ _ _ _ ?_
   unfold frE
   have hHeld := (unhide hS).call GD
   refine wpAnyH_ready (rs := [40, 46]) (by kernel_rfl) (by simp) ?_
   refine AllReadyH.cons rfl (fun K20316 hK20316 => ?_) ?_
   · go_simp
     have hb := below_new X o64
     have r64 := nb64 X
     refine hK20316.out _ _ (hHeld.call hb) (fun hH => ?_)
     clear hHeld hK20316 K20316
     refine wpAnyH_take (i := 41) (oi := ?o20317) (v := ?v20317) ?h20317 (by kernel_rfl) (by kernel_rfl) (by kernel_rfl) (fun _ _ _ h => h) (Or.inl ⟨?w20317, ?y20317⟩) hH ?r20317
     case h20317 => simp only [List.getElem?_toArray, List.getElem?_cons_zero, List.getElem?_cons_succ]; rfl
     case w20317 => rfl
     case y20317 => intro _ _; go_simp; with_reducible rfl
     simp only [Act.put, List.setIfInBounds_toArray, List.set_cons_zero, List.set_cons_succ]
     exact unhide HOUT _ _ _ _ (C2424_26_ u g27 g30 g33 g35 g38 g41 g44 g47 g50 g53 g56 g59 g62 _ g67 _ (bt_ GD hb) (r27.call hb) (r30.call hb) (r33.call hb) (r35.call hb) (r38.call hb) (r41.call hb) (r44.call hb) (r47.call hb) (r50.call hb) (r53.call hb) (r56.call hb) (r59.call hb) (r62.call hb) r64 (r67.call hb))
   refine AllReadyH.cons rfl (fun K20318 hK20318 => ?_) AllReadyH.nil
   · go_simp
     have hb := below_new X o70
     have r70 := nb70 X
     refine hK20318.out _ _ (hHeld.call hb) (fun hH => ?_)
     clear hHeld hK20318 K20318
     refine wpAnyH_take (i := 47) (oi := ?o20319) (v := ?v20319) ?h20319 (by kernel_rfl) (by kernel_rfl) (by kernel_rfl) (fun _ _ _ h => h) (Or.inl ⟨?w20319, ?y20319⟩) hH ?r20319
     case h20319 => simp only [List.getElem?_toArray, List.getElem?_cons_zero, List.getElem?_cons_succ]; rfl
     case w20319 => rfl
     case y20319 => intro _ _; go_simp; with_reducible rfl
     simp only [Act.put, List.setIfInBounds_toArray, List.set_cons_zero, List.set_cons_succ]
     exact unhide HOUT _ _ _ _ (C2425_26_ u g27 g30 g33 g35 g38 g41 g44 g47 g50 g53 g56 g59 g62 _ g67 _ (bt_ GD hb) (r27.call hb) (r30.call hb) (r33.call hb) (r35.call hb) (r38.call hb) (r41.call hb) (r44.call hb) (r47.call hb) (r50.call hb) (r53.call hb) (r56.call hb) (r59.call hb) (r62.call hb) r70 (r67.call hb))
  have C24 : frEC24 which bt b4 b5 b6 b7 Wd GG := by
   intro u g27 g30 g33 g35 g38 g41 g44 g47 g50 g53 g56 g59 g62 X GD r27 r30 r33 r35 r38 r41 r44 r47 r50 r53 r56 r59 r62
   refine unhide HIN _ _ _ _ ?_
   unfold frE
   have hHeld := (unhide hS).call GD
   refine wpAnyH_ready (rs := [40, 43, 46]) (by kernel_rfl) (by simp) ?_
   refine AllReadyH.cons rfl (fun K20320 hK20320 => ?_) ?_
   · go_simp
     have hb := below_new X o64
     have r64 := nb64 X
     refine hK20320.out _ _ (hHeld.call hb) (fun hH => ?_)
     clear hHeld hK20320 K20320
     refine wpAnyH_take (i := 41) (oi := ?o20321) (v := ?v20321) ?h20321 (by kernel_rfl) (by kernel_rfl) (by kernel_rfl) (fun _ _ _ h => h) (Or.inl ⟨?w20321, ?y20321⟩) hH ?r20321
     case h20321 => simp only [List.getElem?_toArray, List.getElem?_cons_zero, List.getElem?_cons_succ]; rfl
     case w20321 => rfl
     case y20321 => intro _ _; go_simp; with_reducible rfl
     simp only [Act.put, List.setIfInBounds_toArray, List.set_cons_zero, List.set_cons_succ]
     exact unhide HOUT _ _ _ _ (C2424_ u g27 g30 g33 g35 g38 g41 g44 g47 g50 g53 g56 g59 g62 _ _ (bt_ GD hb) (r27.call hb) (r30.call hb) (r33.call hb) (r35.call hb) (r38.call hb) (r41.call hb) (r44.call hb) (r47.call hb) (r50.call hb) (r53.call hb) (r56.call hb) (r59.call hb) (r62.call hb) r64)
   refine AllReadyH.cons rfl (fun K20322 hK20322 => ?_) ?_
   · go_simp
     have hb := below_new X o67
     have r67 := nb67 X
     refine hK20322.out _ _ (hHeld.call hb) (fun hH => ?_)
     clear hHeld hK20322 K20322
     refine wpAnyH_take (i := 44) (oi := ?o20323) (v := ?v20323) ?h20323 (by kernel_rfl) (by kernel_rfl) (by kernel_rfl) (fun _ _ _ h => h) (Or.inl ⟨?w20323, ?y20323⟩) hH ?r20323
     case h20323 => simp only [List.getElem?_toArray, List.getElem?_cons_zero, List.getElem?_cons_succ]; rfl
     case w20323 => rfl
     case y20323 => intro _ _; go_simp; with_reducible rfl
     simp only [Act.put, List.setIfInBounds_toArray, List.set_cons_zero, List.set_cons_succ]
     exact unhide HOUT _ _ _ _ (C2426_ u g27 g30 g33 g35 g38 g41 g44 g47 g50 g53 g56 g59 g62 _ _ (bt_ GD hb) (r27.call hb) (r30.call hb) (r33.call hb) (r35.call hb) (r38.call hb) (r41.call hb) (r44.call hb) (r47.call hb) (r50.call hb) (r53.call hb) (r56.call hb) (r59.call hb) (r62.call hb) r67)
   refine AllReadyH.cons rfl (fun K20324 hK20324 => ?_) AllReadyH.nil
   · go_simp
     have hb := below_new X o70
     have r70 := nb70 X
     refine hK20324.out _ _ (hHeld.call hb) (fun hH => ?_)
     clear hHeld hK20324 K20324
     refine wpAnyH_take (i := 47) (oi := ?o20325) (v := ?v20325) ?h20325 (by kernel_rfl) (by kernel_rfl) (by kernel_rfl) (fun _ _ _ h => h) (Or.inl ⟨?w20325, ?y20325⟩) hH ?r20325
     case h20325 => simp only [List.getElem?_toArray, List.getElem?_cons_zero, List.getElem?_cons_succ]; rfl
     case w20325 => rfl
     case y20325 => intro _ _; go_simp; with_reducible rfl
     simp only [Act.put, List.setIfInBounds_toArray, List.set_cons_zero, List.set_cons_succ]
     exact unhide HOUT _ _ _ _ (C2425_ u g27 g30 g33 g35 g38 g41 g44 g47 g50 g53 g56 g59 g62 _ _ (bt_ GD hb) (r27.call hb) (r30.call hb) (r33.call hb) (r35.call hb) (r38.call hb) (r41.call hb) (r44.call hb) (r47.call hb) (r50.call hb) (r53.call hb) (r56.call hb) (r59.call hb) (r62.call hb) r70)
  exact ⟨C2424_25_26_, C2424_25_, C2424_26_, C2425_26_, C2424_, C2425_, C2426_, C24⟩
end Go.Proofs.Ytliefgkhpgigaaa
