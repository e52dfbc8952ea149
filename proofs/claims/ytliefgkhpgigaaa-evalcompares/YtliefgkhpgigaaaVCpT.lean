/-
  EvalCompares: the list of its expressions.
-/
import Derived.Test.YtliefgkhpgigaaaVCpW
namespace Go.Proofs.Ytliefgkhpgigaaa
open Go.RowKit
set_option linter.unusedSimpArgs false
set_option linter.unusedVariables false

set_option maxHeartbeats 32000000 in
set_option maxRecDepth 100000 in
theorem cpT {r0 r1 r2 r3 r4 rest : Code} (hc : Try.f5.body = some (.seq r0 (.seq r1 (.seq r2 (.seq r3 (.seq r4 (rest))))))) (w : World) (a b which j : Int) (ha64 : Hid (Is64 a)) (hb64 : Hid (Is64 b)) (hj : j = 0 ∨ j = 1) (CW : Hid (∀ W, Calls Try.prog 29 #[.int .i64 which, .int .i64 2] W fun e W' => e = .returned (.int .i64 j) ∧ W' = W)) (gc br bt bx by_ : Nat) (ac : Act) (X : World) (ha : ac = ⟨#[ac.tmps.getD 0 undef, ac.tmps.getD 1 undef, .int .i64 which, ac.tmps.getD 3 undef, ac.tmps.getD 4 undef, ac.tmps.getD 5 undef, ac.tmps.getD 6 undef, .pointer (some ⟨bx, 0, none⟩), .pointer (some ⟨by_, 0, none⟩), .pointer (some ⟨bt, 0, none⟩), .slice (some ⟨br, 0, none⟩) 4 4, ac.tmps.getD 11 undef, ac.tmps.getD 12 undef, ac.tmps.getD 13 undef, ac.tmps.getD 14 undef, ac.tmps.getD 15 undef, ac.tmps.getD 16 undef, ac.tmps.getD 17 undef, ac.tmps.getD 18 undef, ac.tmps.getD 19 undef, ac.tmps.getD 20 undef, ac.tmps.getD 21 undef, ac.tmps.getD 22 undef, ac.tmps.getD 23 undef, ac.tmps.getD 24 undef, ac.tmps.getD 25 undef, ac.tmps.getD 26 undef, ac.tmps.getD 27 undef, ac.tmps.getD 28 undef, ac.tmps.getD 29 undef, ac.tmps.getD 30 undef, ac.tmps.getD 31 undef, ac.tmps.getD 32 undef, ac.tmps.getD 33 undef, ac.tmps.getD 34 undef, ac.tmps.getD 35 undef, ac.tmps.getD 36 undef, ac.tmps.getD 37 undef, ac.tmps.getD 38 undef, ac.tmps.getD 39 undef, ac.tmps.getD 40 undef, ac.tmps.getD 41 undef, ac.tmps.getD 42 undef, ac.tmps.getD 43 undef, ac.tmps.getD 44 undef, ac.tmps.getD 45 undef, ac.tmps.getD 46 undef, ac.tmps.getD 47 undef, ac.tmps.getD 48 undef, ac.tmps.getD 49 undef, ac.tmps.getD 50 undef, ac.tmps.getD 51 undef, ac.tmps.getD 52 undef, ac.tmps.getD 53 undef, ac.tmps.getD 54 undef, ac.tmps.getD 55 undef, ac.tmps.getD 56 undef, ac.tmps.getD 57 undef, ac.tmps.getD 58 undef, ac.tmps.getD 59 undef, ac.tmps.getD 60 undef, ac.tmps.getD 61 undef, ac.tmps.getD 62 undef, ac.tmps.getD 63 undef, ac.tmps.getD 64 undef, ac.tmps.getD 65 undef, ac.tmps.getD 66 undef, ac.tmps.getD 67 undef, ac.tmps.getD 68 undef, ac.tmps.getD 69 undef, ac.tmps.getD 70 undef, ac.tmps.getD 71 undef, ac.tmps.getD 72 undef, ac.tmps.getD 73 undef, ac.tmps.getD 74 undef, ac.tmps.getD 75 undef, ac.tmps.getD 76 undef, ac.tmps.getD 77 undef, ac.tmps.getD 78 undef, ac.tmps.getD 79 undef, ac.tmps.getD 80 undef, ac.tmps.getD 81 undef, ac.tmps.getD 82 undef, ac.tmps.getD 83 undef, ac.tmps.getD 84 undef, ac.tmps.getD 85 undef, ac.tmps.getD 86 undef, ac.tmps.getD 87 undef, ac.tmps.getD 88 undef, ac.tmps.getD 89 undef, ac.tmps.getD 90 undef, ac.tmps.getD 91 undef, ac.tmps.getD 92 undef, ac.tmps.getD 93 undef, ac.tmps.getD 94 undef, ac.tmps.getD 95 undef, ac.tmps.getD 96 undef, ac.tmps.getD 97 undef, ac.tmps.getD 98 undef, ac.tmps.getD 99 undef, ac.tmps.getD 100 undef, ac.tmps.getD 101 undef, ac.tmps.getD 102 undef, ac.tmps.getD 103 undef, ac.tmps.getD 104 undef, ac.tmps.getD 105 undef, ac.tmps.getD 106 undef, ac.tmps.getD 107 undef, ac.tmps.getD 108 undef, ac.tmps.getD 109 undef, ac.tmps.getD 110 undef, ac.tmps.getD 111 undef, ac.tmps.getD 112 undef, ac.tmps.getD 113 undef, ac.tmps.getD 114 undef, ac.tmps.getD 115 undef, ac.tmps.getD 116 undef, ac.tmps.getD 117 undef, ac.tmps.getD 118 undef, ac.tmps.getD 119 undef, ac.tmps.getD 120 undef, ac.tmps.getD 121 undef, ac.tmps.getD 122 undef, ac.tmps.getD 123 undef, ac.tmps.getD 124 undef, ac.tmps.getD 125 undef, ac.tmps.getD 126 undef, ac.tmps.getD 127 undef, ac.tmps.getD 128 undef, ac.tmps.getD 129 undef, ac.tmps.getD 130 undef, ac.tmps.getD 131 undef, ac.tmps.getD 132 undef, ac.tmps.getD 133 undef, ac.tmps.getD 134 undef, ac.tmps.getD 135 undef, ac.tmps.getD 136 undef, ac.tmps.getD 137 undef, ac.tmps.getD 138 undef, ac.tmps.getD 139 undef, ac.tmps.getD 140 undef, ac.tmps.getD 141 undef, ac.tmps.getD 142 undef, ac.tmps.getD 143 undef, ac.tmps.getD 144 undef], []⟩) (G : Hid (Grown w X)) (hX : Hid (Blk bx #[.int .i64 2, .int .i64 a, .int .i64 0, .string S0] 28 X)) (hY : Hid (Blk by_ #[.int .i64 2, .int .i64 b, .int .i64 0, .string S0] 28 X)) (hBr : Hid (Blk br (rowC [(2, a, 0, S0), (2, b, 0, S0), Z4, Z4]).toArray 28 X)) (hnb : Hid (GeB w.heap.size br X)) (hC : Hid (ColsOf (.slice (some ⟨gc, 0, none⟩) 4 4) cols4 X)) (hT : Hid (Blk bt #[.string ⟨#[116]⟩, .slice (some ⟨gc, 0, none⟩) 4 4, .int .i64 0, N0, .int .i64 0, .string S0, .int .i64 0, .int .i64 0, .int .i64 0, .string S0, N0, N0] 34 X)) : rest.wp Try.prog (bodyPost Try.prog Try.f5 (fun e w' => e = .returned (.bool true) ∧ Below w.heap.size w w')) ac X := by
  obtain ⟨u, rfl⟩ : ∃ u : Nat → Value, ac = ⟨#[u 0, u 1, .int .i64 which, u 3, u 4, u 5, u 6, .pointer (some ⟨bx, 0, none⟩), .pointer (some ⟨by_, 0, none⟩), .pointer (some ⟨bt, 0, none⟩), .slice (some ⟨br, 0, none⟩) 4 4, u 11, u 12, u 13, u 14, u 15, u 16, u 17, u 18, u 19, u 20, u 21, u 22, u 23, u 24, u 25, u 26, u 27, u 28, u 29, u 30, u 31, u 32, u 33, u 34, u 35, u 36, u 37, u 38, u 39, u 40, u 41, u 42, u 43, u 44, u 45, u 46, u 47, u 48, u 49, u 50, u 51, u 52, u 53, u 54, u 55, u 56, u 57, u 58, u 59, u 60, u 61, u 62, u 63, u 64, u 65, u 66, u 67, u 68, u 69, u 70, u 71, u 72, u 73, u 74, u 75, u 76, u 77, u 78, u 79, u 80, u 81, u 82, u 83, u 84, u 85, u 86, u 87, u 88, u 89, u 90, u 91, u 92, u 93, u 94, u 95, u 96, u 97, u 98, u 99, u 100, u 101, u 102, u 103, u 104, u 105, u 106, u 107, u 108, u 109, u 110, u 111, u 112, u 113, u 114, u 115, u 116, u 117, u 118, u 119, u 120, u 121, u 122, u 123, u 124, u 125, u 126, u 127, u 128, u 129, u 130, u 131, u 132, u 133, u 134, u 135, u 136, u 137, u 138, u 139, u 140, u 141, u 142, u 143, u 144], []⟩ := ⟨fun i => ac.tmps.getD i undef, ha⟩
  clear ha
  unfold Try.f5 at hc
  cases hc
  go_wp2_with fail
  rename_i K7 hk7 K0 hk0
  refine (colL_any _ _).mono ?_
  rintro e Y1 ⟨rfl, hb⟩
  replace G := hide ((unhide G).call hb)
  replace hX := hide ((unhide hX).call hb)
  replace hY := hide ((unhide hY).call hb)
  replace hBr := hide ((unhide hBr).call hb)
  replace hnb := hide ((unhide hnb).call hb)
  replace hC := hide ((unhide hC).call hb)
  replace hT := hide ((unhide hT).call hb)
  clear hb
  go_wp2_with fail
  refine (colL_any _ _).mono ?_
  rintro e Y2 ⟨rfl, hb⟩
  replace G := hide ((unhide G).call hb)
  replace hX := hide ((unhide hX).call hb)
  replace hY := hide ((unhide hY).call hb)
  replace hBr := hide ((unhide hBr).call hb)
  replace hnb := hide ((unhide hnb).call hb)
  replace hC := hide ((unhide hC).call hb)
  replace hT := hide ((unhide hT).call hb)
  clear hb
  go_wp2_with fail
  refine (twoL_any 11 (colX ⟨#[97]⟩) (colX ⟨#[98]⟩) _ _ _ rfl rfl).mono ?_
  rintro e Y3 ⟨g1, rfl, hr1, hb⟩
  replace G := hide ((unhide G).call hb)
  replace hX := hide ((unhide hX).call hb)
  replace hY := hide ((unhide hY).call hb)
  replace hBr := hide ((unhide hBr).call hb)
  replace hnb := hide ((unhide hnb).call hb)
  replace hC := hide ((unhide hC).call hb)
  replace hT := hide ((unhide hT).call hb)
  clear hb
  replace hr1 := hide hr1
  go_wp2_with fail
  refine (colL_any _ _).mono ?_
  rintro e Y4 ⟨rfl, hb⟩
  replace G := hide ((unhide G).call hb)
  replace hX := hide ((unhide hX).call hb)
  replace hY := hide ((unhide hY).call hb)
  replace hBr := hide ((unhide hBr).call hb)
  replace hnb := hide ((unhide hnb).call hb)
  replace hC := hide ((unhide hC).call hb)
  replace hT := hide ((unhide hT).call hb)
  replace hr1 := hide ((unhide hr1).call hb)
  clear hb
  go_wp2_with fail
  refine (colL_any _ _).mono ?_
  rintro e Y5 ⟨rfl, hb⟩
  replace G := hide ((unhide G).call hb)
  replace hX := hide ((unhide hX).call hb)
  replace hY := hide ((unhide hY).call hb)
  replace hBr := hide ((unhide hBr).call hb)
  replace hnb := hide ((unhide hnb).call hb)
  replace hC := hide ((unhide hC).call hb)
  replace hT := hide ((unhide hT).call hb)
  replace hr1 := hide ((unhide hr1).call hb)
  clear hb
  go_wp2_with fail
  refine (twoL_any 9 (colX ⟨#[97]⟩) (colX ⟨#[98]⟩) _ _ _ rfl rfl).mono ?_
  rintro e Y6 ⟨g2, rfl, hr2, hb⟩
  replace G := hide ((unhide G).call hb)
  replace hX := hide ((unhide hX).call hb)
  replace hY := hide ((unhide hY).call hb)
  replace hBr := hide ((unhide hBr).call hb)
  replace hnb := hide ((unhide hnb).call hb)
  replace hC := hide ((unhide hC).call hb)
  replace hT := hide ((unhide hT).call hb)
  replace hr1 := hide ((unhide hr1).call hb)
  clear hb
  replace hr2 := hide hr2
  go_wp2_with fail
  refine (colL_any _ _).mono ?_
  rintro e Y7 ⟨rfl, hb⟩
  replace G := hide ((unhide G).call hb)
  replace hX := hide ((unhide hX).call hb)
  replace hY := hide ((unhide hY).call hb)
  replace hBr := hide ((unhide hBr).call hb)
  replace hnb := hide ((unhide hnb).call hb)
  replace hC := hide ((unhide hC).call hb)
  replace hT := hide ((unhide hT).call hb)
  replace hr1 := hide ((unhide hr1).call hb)
  replace hr2 := hide ((unhide hr2).call hb)
  clear hb
  go_wp2_with fail
  refine (colL_any _ _).mono ?_
  rintro e Y8 ⟨rfl, hb⟩
  replace G := hide ((unhide G).call hb)
  replace hX := hide ((unhide hX).call hb)
  replace hY := hide ((unhide hY).call hb)
  replace hBr := hide ((unhide hBr).call hb)
  replace hnb := hide ((unhide hnb).call hb)
  replace hC := hide ((unhide hC).call hb)
  replace hT := hide ((unhide hT).call hb)
  replace hr1 := hide ((unhide hr1).call hb)
  replace hr2 := hide ((unhide hr2).call hb)
  clear hb
  go_wp2_with fail
  refine (twoL_any 11 (colX ⟨#[98]⟩) (colX ⟨#[97]⟩) _ _ _ rfl rfl).mono ?_
  rintro e Y9 ⟨g3, rfl, hr3, hb⟩
  replace G := hide ((unhide G).call hb)
  replace hX := hide ((unhide hX).call hb)
  replace hY := hide ((unhide hY).call hb)
  replace hBr := hide ((unhide hBr).call hb)
  replace hnb := hide ((unhide hnb).call hb)
  replace hC := hide ((unhide hC).call hb)
  replace hT := hide ((unhide hT).call hb)
  replace hr1 := hide ((unhide hr1).call hb)
  replace hr2 := hide ((unhide hr2).call hb)
  clear hb
  replace hr3 := hide hr3
  have REST7 : ∀ (ac : Act) (bl : Nat) (X : World), ac = ⟨#[ac.tmps.getD 0 undef, ac.tmps.getD 1 undef, .int .i64 which, ac.tmps.getD 3 undef, ac.tmps.getD 4 undef, ac.tmps.getD 5 undef, ac.tmps.getD 6 undef, .pointer (some ⟨bx, 0, none⟩), .pointer (some ⟨by_, 0, none⟩), .pointer (some ⟨bt, 0, none⟩), .slice (some ⟨br, 0, none⟩) 4 4, .int .i64 0, .slice (some ⟨bl, 0, none⟩) 3 3, ac.tmps.getD 13 undef, ac.tmps.getD 14 undef, ac.tmps.getD 15 undef, ac.tmps.getD 16 undef, ac.tmps.getD 17 undef, ac.tmps.getD 18 undef, ac.tmps.getD 19 undef, ac.tmps.getD 20 undef, ac.tmps.getD 21 undef, ac.tmps.getD 22 undef, ac.tmps.getD 23 undef, ac.tmps.getD 24 undef, ac.tmps.getD 25 undef, ac.tmps.getD 26 undef, ac.tmps.getD 27 undef, ac.tmps.getD 28 undef, ac.tmps.getD 29 undef, ac.tmps.getD 30 undef, ac.tmps.getD 31 undef, ac.tmps.getD 32 undef, ac.tmps.getD 33 undef, ac.tmps.getD 34 undef, ac.tmps.getD 35 undef, ac.tmps.getD 36 undef, ac.tmps.getD 37 undef, ac.tmps.getD 38 undef, ac.tmps.getD 39 undef, ac.tmps.getD 40 undef, ac.tmps.getD 41 undef, ac.tmps.getD 42 undef, ac.tmps.getD 43 undef, ac.tmps.getD 44 undef, ac.tmps.getD 45 undef, ac.tmps.getD 46 undef, ac.tmps.getD 47 undef, ac.tmps.getD 48 undef, ac.tmps.getD 49 undef, ac.tmps.getD 50 undef, ac.tmps.getD 51 undef, ac.tmps.getD 52 undef, ac.tmps.getD 53 undef, ac.tmps.getD 54 undef, ac.tmps.getD 55 undef, ac.tmps.getD 56 undef, ac.tmps.getD 57 undef, ac.tmps.getD 58 undef, ac.tmps.getD 59 undef, ac.tmps.getD 60 undef, ac.tmps.getD 61 undef, ac.tmps.getD 62 undef, ac.tmps.getD 63 undef, ac.tmps.getD 64 undef, ac.tmps.getD 65 undef, ac.tmps.getD 66 undef, ac.tmps.getD 67 undef, ac.tmps.getD 68 undef, ac.tmps.getD 69 undef, ac.tmps.getD 70 undef, ac.tmps.getD 71 undef, ac.tmps.getD 72 undef, ac.tmps.getD 73 undef, ac.tmps.getD 74 undef, ac.tmps.getD 75 undef, ac.tmps.getD 76 undef, ac.tmps.getD 77 undef, ac.tmps.getD 78 undef, ac.tmps.getD 79 undef, ac.tmps.getD 80 undef, ac.tmps.getD 81 undef, ac.tmps.getD 82 undef, ac.tmps.getD 83 undef, ac.tmps.getD 84 undef, ac.tmps.getD 85 undef, ac.tmps.getD 86 undef, ac.tmps.getD 87 undef, ac.tmps.getD 88 undef, ac.tmps.getD 89 undef, ac.tmps.getD 90 undef, ac.tmps.getD 91 undef, ac.tmps.getD 92 undef, ac.tmps.getD 93 undef, ac.tmps.getD 94 undef, ac.tmps.getD 95 undef, ac.tmps.getD 96 undef, ac.tmps.getD 97 undef, ac.tmps.getD 98 undef, ac.tmps.getD 99 undef, ac.tmps.getD 100 undef, ac.tmps.getD 101 undef, ac.tmps.getD 102 undef, ac.tmps.getD 103 undef, ac.tmps.getD 104 undef, ac.tmps.getD 105 undef, ac.tmps.getD 106 undef, ac.tmps.getD 107 undef, ac.tmps.getD 108 undef, ac.tmps.getD 109 undef, ac.tmps.getD 110 undef, ac.tmps.getD 111 undef, ac.tmps.getD 112 undef, ac.tmps.getD 113 undef, ac.tmps.getD 114 undef, ac.tmps.getD 115 undef, ac.tmps.getD 116 undef, ac.tmps.getD 117 undef, ac.tmps.getD 118 undef, ac.tmps.getD 119 undef, ac.tmps.getD 120 undef, ac.tmps.getD 121 undef, ac.tmps.getD 122 undef, ac.tmps.getD 123 undef, ac.tmps.getD 124 undef, ac.tmps.getD 125 undef, ac.tmps.getD 126 undef, ac.tmps.getD 127 undef, ac.tmps.getD 128 undef, ac.tmps.getD 129 undef, ac.tmps.getD 130 undef, ac.tmps.getD 131 undef, ac.tmps.getD 132 undef, ac.tmps.getD 133 undef, ac.tmps.getD 134 undef, ac.tmps.getD 135 undef, ac.tmps.getD 136 undef, ac.tmps.getD 137 undef, ac.tmps.getD 138 undef, ac.tmps.getD 139 undef, ac.tmps.getD 140 undef, ac.tmps.getD 141 undef, ac.tmps.getD 142 undef, ac.tmps.getD 143 undef, ac.tmps.getD 144 undef], []⟩ → Hid (Grown w X) → Hid (Blk bx #[.int .i64 2, .int .i64 a, .int .i64 0, .string S0] 28 X) → Hid (Blk by_ #[.int .i64 2, .int .i64 b, .int .i64 0, .string S0] 28 X) → Hid (Blk br (rowC [(2, a, 0, S0), (2, b, 0, S0), Z4, Z4]).toArray 28 X) → Hid (GeB w.heap.size br X) → Hid (ColsOf (.slice (some ⟨gc, 0, none⟩) 4 4) cols4 X) → Hid (Blk bt #[.string ⟨#[116]⟩, .slice (some ⟨gc, 0, none⟩) 4 4, .int .i64 0, N0, .int .i64 0, .string S0, .int .i64 0, .int .i64 0, .int .i64 0, .string S0, N0, N0] 34 X) → Hid (LstAt bl ELc (GLc g1 g2 g3) X) → K7 ac X := by
    clear G hX hY hBr hnb hC hT hr1 hr2 hr3
    intro ac bl X ha G hX hY hBr hnb hC hT hL
    exact hk7 _ _ (cpU rfl w a b which j ha64 hb64 hj CW g1 g2 g3 gc br bt bx by_ bl ac X ha G hX hY hBr hnb hC hT hL)
  have REST7 := hide REST7
  clear hk7
  have gg := below_new Y9 (.cells (exC (ELc 0) (.slice (some ⟨g1, 0, none⟩) 2 2) ++ exC (ELc 1) (.slice (some ⟨g2, 0, none⟩) 2 2) ++ exC (ELc 2) (.slice (some ⟨g3, 0, none⟩) 2 2)).toArray 31)
  have hB := Blk.new Y9 (exC (ELc 0) (.slice (some ⟨g1, 0, none⟩) 2 2) ++ exC (ELc 1) (.slice (some ⟨g2, 0, none⟩) 2 2) ++ exC (ELc 2) (.slice (some ⟨g3, 0, none⟩) 2 2)).toArray 31
  have hL : LstAt Y9.heap.size ELc (GLc g1 g2 g3) (Y9.alloc (.cells (exC (ELc 0) (.slice (some ⟨g1, 0, none⟩) 2 2) ++ exC (ELc 1) (.slice (some ⟨g2, 0, none⟩) 2 2) ++ exC (ELc 2) (.slice (some ⟨g3, 0, none⟩) 2 2)).toArray 31)) := by
    intro k hk
    match k, hk with
    | 0, _ => exact ⟨el_of hB (by kernel_rfl), (unhide hr1).call gg⟩
    | 1, _ => exact ⟨el_of hB (by kernel_rfl), (unhide hr2).call gg⟩
    | 2, _ => exact ⟨el_of hB (by kernel_rfl), (unhide hr3).call gg⟩
    | k + 3, h => exact absurd h (by omega)
  replace hL := hide hL
  clear hB
  go_wp2_with fail
  refine (?_ : K7 _ (Y9.alloc (.cells (exC (ELc 0) (.slice (some ⟨g1, 0, none⟩) 2 2) ++ exC (ELc 1) (.slice (some ⟨g2, 0, none⟩) 2 2) ++ exC (ELc 2) (.slice (some ⟨g3, 0, none⟩) 2 2)).toArray 31)))
  generalize Y9.alloc (.cells (exC (ELc 0) (.slice (some ⟨g1, 0, none⟩) 2 2) ++ exC (ELc 1) (.slice (some ⟨g2, 0, none⟩) 2 2) ++ exC (ELc 2) (.slice (some ⟨g3, 0, none⟩) 2 2)).toArray 31) = XE at *
  exact unhide REST7 _ Y9.heap.size _ (by kernel_rfl) (hide ((unhide G).call gg)) (hide ((unhide hX).call gg)) (hide ((unhide hY).call gg)) (hide ((unhide hBr).call gg)) (hide ((unhide hnb).call gg)) (hide ((unhide hC).call gg)) (hide ((unhide hT).call gg)) hL
end Go.Proofs.Ytliefgkhpgigaaa
