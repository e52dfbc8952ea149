/-
  EvalFirst: the walk.
-/
import Derived.Test.YtphnpcidndmlnaaEVD
namespace Go.Proofs.Ytphnpcidndmlnaa
open Go.RowKit
set_option linter.unusedSimpArgs false
set_option linter.unusedVariables false

theorem is64_wrap (x : Int) : Is64 (wrap64 x) := by
  unfold wrap64 Is64; omega
abbrev A0 : V4 := (2, 9223372036854775807, 0, S0)
abbrev B0 : V4 := (2, 1, 0, S0)
theorem f_add (x y : V4) : evalR cols4 [A0, B0, x, y] (twoX 7 (colX ⟨#[97]⟩) (colX ⟨#[98]⟩)) = (Z4, 10) := by
  rw [ev_two 7 (ev_col (nm_a _ _ _ _)) (ev_col (nm_b _ _ _ _))]
  show fin Z4 (recW 7 A0 B0) = _
  decide +kernel
theorem f_mul (x y : V4) : evalR cols4 [A0, B0, x, y] (twoX 6 (colX ⟨#[97]⟩) (colX ⟨#[97]⟩)) = (Z4, 10) := by
  rw [ev_two 6 (ev_col (nm_a _ _ _ _)) (ev_col (nm_a _ _ _ _))]
  show fin Z4 (recW 6 A0 A0) = _
  decide +kernel
theorem f_ov (x y : V4) : evalR cols4 [A0, B0, x, y] (twoX 11 (twoX 7 (colX ⟨#[97]⟩) (colX ⟨#[98]⟩)) (colX ⟨#[98]⟩)) = (Z4, 10) := ev_err1 11 (f_add x y) (by decide)
/-- an expression that tells the error -/
def Bad (x y : V4) (e : Ex) : Prop := evalR cols4 [A0, B0, x, y] e = (Z4, 10) ∧ e.deep ≤ 1000 ∧ ExOk e ∧ e.k ≠ 0
theorem ov_ok : ExOk (twoX 11 (twoX 7 (colX ⟨#[97]⟩) (colX ⟨#[98]⟩)) (colX ⟨#[98]⟩)) := ok_two (ok_two (ok_col _) (ok_col _)) (ok_col _)
theorem bad0 (x y : V4) : Bad x y (twoX 11 (twoX 7 (colX ⟨#[97]⟩) (colX ⟨#[98]⟩)) (colX ⟨#[98]⟩)) := ⟨f_ov x y, by decide, ov_ok, by decide⟩
theorem bad1 (x y : V4) : Bad x y (twoX 13 (colX ⟨#[99]⟩) (twoX 11 (twoX 7 (colX ⟨#[97]⟩) (colX ⟨#[98]⟩)) (colX ⟨#[98]⟩))) := ⟨ev_err2 13 (ev_col (nm_c _ _ _ _)) (f_ov x y) (by decide), by decide, ok_two (ok_col _) ov_ok, by decide⟩
theorem bad2 (x y : V4) : Bad x y (twoX 14 (twoX 11 (twoX 7 (colX ⟨#[97]⟩) (colX ⟨#[98]⟩)) (colX ⟨#[98]⟩)) (colX ⟨#[100]⟩)) := ⟨ev_err1 14 (f_ov x y) (by decide), by decide, ok_two ov_ok (ok_col _), by decide⟩
theorem bad3 (x y : V4) : Bad x y (oneX 3 (twoX 11 (twoX 7 (colX ⟨#[97]⟩) (colX ⟨#[98]⟩)) (colX ⟨#[98]⟩))) := ⟨ev_err 3 (f_ov x y) (by decide), by decide, ok_one ov_ok, by decide⟩
theorem bad4 (x y : V4) : Bad x y (oneX 5 (twoX 11 (twoX 7 (colX ⟨#[97]⟩) (colX ⟨#[98]⟩)) (colX ⟨#[98]⟩))) := ⟨ev_err 5 (f_ov x y) (by decide), by decide, ok_one ov_ok, by decide⟩
theorem bad5 (x y : V4) : Bad x y (twoX 9 (colX ⟨#[97]⟩) (twoX 6 (colX ⟨#[97]⟩) (colX ⟨#[97]⟩))) := ⟨ev_err2 9 (ev_col (nm_a _ _ _ _)) (f_mul x y) (by decide), by decide, ok_two (ok_col _) (ok_two (ok_col _) (ok_col _)), by decide⟩
theorem bad_holds {x y : V4} {e : Ex} (h : Bad x y e) : holdsR cols4 [A0, B0, x, y] e = (false, false, 10) := by
  unfold holdsR
  rw [if_neg h.2.2.2, h.1]; decide +kernel
set_option maxHeartbeats 32000000 in
set_option maxRecDepth 100000 in
theorem first_walk (which p : Int) (hw : Is64 which) (hp : Is64 p) (w : World) :
    Calls Try.prog 9 #[.int .i64 which, .int .i64 p] w fun e w' => e = .returned (.bool true) ∧ Below w.heap.size w w' := by
  have CW : Hid (∀ W, Calls Try.prog 29 #[.int .i64 which, .int .i64 6] W fun e W' => e = .returned (.int .i64 (which % 6)) ∧ Below W.heap.size W W') := fun W => (within4_any which 6 W hw (by decide)).mono (fun _ _ h => ⟨h.1, h.2 ▸ Below.refl _ _⟩)
  have CP := hide (fun W => truthL_any p W hp)
  have CQ := hide (fun W => truthL_any (wrap64 (p + 1)) W (is64_wrap _))
  obtain ⟨vx, HVX⟩ : ∃ v, Hid (v = truthV (p % 3)) := ⟨_, rfl⟩
  obtain ⟨vy, HVY⟩ : ∃ v, Hid (v = truthV (wrap64 (p + 1) % 3)) := ⟨_, rfl⟩
  have hOK := hide (ok_row4 (okInt 9223372036854775807 (is64_n _ (by decide))) (okInt 1 (is64_n _ (by decide))) (truthV_ok (p % 3)) (truthV_ok (wrap64 (p + 1) % 3)))
  rw [← HVX.out] at CP hOK
  rw [← HVY.out] at CQ hOK
  have h0 := Int.emod_nonneg which (show (6 : Int) ≠ 0 by decide)
  have h1 := Int.emod_lt_of_pos which (show (0 : Int) < 6 by decide)
  obtain ⟨jj, hj⟩ : ∃ j : Nat, which % 6 = (j : Int) := ⟨(which % 6).toNat, by omega⟩
  have hj6 : jj < 6 := by omega
  rw [hj] at CW
  clear h0 h1 hj hw hp HVX HVY
  go_enter Try.func9, Try.ntmps9
  go_wp2_with fail
  refine (known4_any _).mono ?_
  rintro e W1 ⟨rfl, hb⟩
  have G : Hid (Grown w W1) := hb
  clear hb
  go_wp2_with fail
  refine (colsL_any _).mono ?_
  rintro e W2 ⟨gc, rfl, hC, hb⟩
  replace G := hide ((unhide G).call hb)
  replace hC := hide hC
  clear hb
  go_wp2_with fail
  have gg := below_new W2 (.cells #[.string ⟨#[116]⟩, .slice (some ⟨gc, 0, none⟩) 4 4, .int .i64 0, .slice none 0 0, .int .i64 0, .string S0, .int .i64 0, .int .i64 0, .int .i64 0, .string S0, .slice none 0 0, .slice none 0 0] 34)
  have hT := hide (Blk.new W2 #[.string ⟨#[116]⟩, .slice (some ⟨gc, 0, none⟩) 4 4, .int .i64 0, N0, .int .i64 0, .string S0, .int .i64 0, .int .i64 0, .int .i64 0, .string S0, N0, N0] 34)
  replace G := hide ((unhide G).call gg)
  replace hC := hide ((unhide hC).call gg)
  clear gg
  generalize W2.alloc (.cells #[.string ⟨#[116]⟩, .slice (some ⟨gc, 0, none⟩) 4 4, .int .i64 0, .slice none 0 0, .int .i64 0, .string S0, .int .i64 0, .int .i64 0, .int .i64 0, .string S0, .slice none 0 0, .slice none 0 0] 34) = W3 at *
  generalize W2.heap.size = bt at *
  refine (unhide CP _).mono ?_
  rintro e W4 ⟨rfl, hb⟩
  replace G := hide ((unhide G).call hb)
  replace hC := hide ((unhide hC).call hb)
  replace hT := hide ((unhide hT).call hb)
  clear hb
  go_wp2_with fail
  refine (unhide CQ _).mono ?_
  rintro e W5 ⟨rfl, hb⟩
  replace G := hide ((unhide G).call hb)
  replace hC := hide ((unhide hC).call hb)
  replace hT := hide ((unhide hT).call hb)
  clear hb CP CQ
  go_wp2_with fail
  have gg := below_new W5 (.cells #[.int .i64 2, .int .i64 9223372036854775807, .int .i64 0, .string ⟨#[]⟩, .int .i64 2, .int .i64 1, .int .i64 0, .string ⟨#[]⟩, .int .i64 vx.1, .int .i64 vx.2.1, .int .i64 vx.2.2.1, .string vx.2.2.2, .int .i64 vy.1, .int .i64 vy.2.1, .int .i64 vy.2.2.1, .string vy.2.2.2] 28)
  have hR := hide (row_of (vs := [(2, 9223372036854775807, 0, S0), (2, 1, 0, S0), vx, vy]) (Blk.new W5 #[.int .i64 2, .int .i64 9223372036854775807, .int .i64 0, .string ⟨#[]⟩, .int .i64 2, .int .i64 1, .int .i64 0, .string ⟨#[]⟩, .int .i64 vx.1, .int .i64 vx.2.1, .int .i64 vx.2.2.1, .string vx.2.2.2, .int .i64 vy.1, .int .i64 vy.2.1, .int .i64 vy.2.2.1, .string vy.2.2.2] 28) rfl (by simp))
  replace G := hide ((unhide G).call gg)
  replace hC := hide ((unhide hC).call gg)
  replace hT := hide ((unhide hT).call gg)
  clear gg
  generalize W5.alloc (.cells #[.int .i64 2, .int .i64 9223372036854775807, .int .i64 0, .string ⟨#[]⟩, .int .i64 2, .int .i64 1, .int .i64 0, .string ⟨#[]⟩, .int .i64 vx.1, .int .i64 vx.2.1, .int .i64 vx.2.2.1, .string vx.2.2.2, .int .i64 vy.1, .int .i64 vy.2.1, .int .i64 vy.2.2.1, .string vy.2.2.2] 28) = Y0 at *
  generalize W5.heap.size = br at *
  refine (colL_any _ _).mono ?_
  rintro e Y1 ⟨rfl, hb⟩
  replace G := hide ((unhide G).call hb)
  replace hC := hide ((unhide hC).call hb)
  replace hR := hide ((unhide hR).call hb)
  replace hT := hide ((unhide hT).call hb)
  clear hb
  go_wp2_with fail
  refine (colL_any _ _).mono ?_
  rintro e Y2 ⟨rfl, hb⟩
  replace G := hide ((unhide G).call hb)
  replace hC := hide ((unhide hC).call hb)
  replace hR := hide ((unhide hR).call hb)
  replace hT := hide ((unhide hT).call hb)
  clear hb
  go_wp2_with fail
  refine (twoL_any _ (colX ⟨#[97]⟩) (colX ⟨#[98]⟩) _ _ _ rfl rfl).mono ?_
  rintro e Y3 ⟨g1, rfl, hr1, hb⟩
  replace G := hide ((unhide G).call hb)
  replace hC := hide ((unhide hC).call hb)
  replace hR := hide ((unhide hR).call hb)
  replace hT := hide ((unhide hT).call hb)
  clear hb
  go_wp2_with fail
  refine (colL_any _ _).mono ?_
  rintro e Y4 ⟨rfl, hb⟩
  replace G := hide ((unhide G).call hb)
  replace hC := hide ((unhide hC).call hb)
  replace hR := hide ((unhide hR).call hb)
  replace hT := hide ((unhide hT).call hb)
  replace hr1 := hr1.call hb
  clear hb
  replace hr1 := hide hr1
  go_wp2_with fail
  refine (twoL_any _ (twoX 7 (colX ⟨#[97]⟩) (colX ⟨#[98]⟩)) (colX ⟨#[98]⟩) _ _ _ (unhide hr1) rfl).mono ?_
  rintro e Y5 ⟨go, rfl, hOV, hb⟩
  replace G := hide ((unhide G).call hb)
  replace hC := hide ((unhide hC).call hb)
  replace hR := hide ((unhide hR).call hb)
  replace hT := hide ((unhide hT).call hb)
  clear hb hr1
  replace hOV := hide hOV
  go_wp2_with fail
  have gg := below_new Y5 (.cells #[.int .i64 (twoX 11 (twoX 7 (colX ⟨#[97]⟩) (colX ⟨#[98]⟩)) (colX ⟨#[98]⟩)).k, .string (twoX 11 (twoX 7 (colX ⟨#[97]⟩) (colX ⟨#[98]⟩)) (colX ⟨#[98]⟩)).nm, .int .i64 (twoX 11 (twoX 7 (colX ⟨#[97]⟩) (colX ⟨#[98]⟩)) (colX ⟨#[98]⟩)).v.1, .int .i64 (twoX 11 (twoX 7 (colX ⟨#[97]⟩) (colX ⟨#[98]⟩)) (colX ⟨#[98]⟩)).v.2.1, .int .i64 (twoX 11 (twoX 7 (colX ⟨#[97]⟩) (colX ⟨#[98]⟩)) (colX ⟨#[98]⟩)).v.2.2.1, .string (twoX 11 (twoX 7 (colX ⟨#[97]⟩) (colX ⟨#[98]⟩)) (colX ⟨#[98]⟩)).v.2.2.2, .slice (some ⟨go, 0, none⟩) 2 2] 31)
  have hO := hide (Blk.new Y5 #[.int .i64 (twoX 11 (twoX 7 (colX ⟨#[97]⟩) (colX ⟨#[98]⟩)) (colX ⟨#[98]⟩)).k, .string (twoX 11 (twoX 7 (colX ⟨#[97]⟩) (colX ⟨#[98]⟩)) (colX ⟨#[98]⟩)).nm, .int .i64 (twoX 11 (twoX 7 (colX ⟨#[97]⟩) (colX ⟨#[98]⟩)) (colX ⟨#[98]⟩)).v.1, .int .i64 (twoX 11 (twoX 7 (colX ⟨#[97]⟩) (colX ⟨#[98]⟩)) (colX ⟨#[98]⟩)).v.2.1, .int .i64 (twoX 11 (twoX 7 (colX ⟨#[97]⟩) (colX ⟨#[98]⟩)) (colX ⟨#[98]⟩)).v.2.2.1, .string (twoX 11 (twoX 7 (colX ⟨#[97]⟩) (colX ⟨#[98]⟩)) (colX ⟨#[98]⟩)).v.2.2.2, .slice (some ⟨go, 0, none⟩) 2 2] 31)
  replace G := hide ((unhide G).call gg)
  replace hC := hide ((unhide hC).call gg)
  replace hR := hide ((unhide hR).call gg)
  replace hT := hide ((unhide hT).call gg)
  replace hOV := hide ((unhide hOV).call gg)
  clear gg
  generalize Y5.alloc (.cells #[.int .i64 (twoX 11 (twoX 7 (colX ⟨#[97]⟩) (colX ⟨#[98]⟩)) (colX ⟨#[98]⟩)).k, .string (twoX 11 (twoX 7 (colX ⟨#[97]⟩) (colX ⟨#[98]⟩)) (colX ⟨#[98]⟩)).nm, .int .i64 (twoX 11 (twoX 7 (colX ⟨#[97]⟩) (colX ⟨#[98]⟩)) (colX ⟨#[98]⟩)).v.1, .int .i64 (twoX 11 (twoX 7 (colX ⟨#[97]⟩) (colX ⟨#[98]⟩)) (colX ⟨#[98]⟩)).v.2.1, .int .i64 (twoX 11 (twoX 7 (colX ⟨#[97]⟩) (colX ⟨#[98]⟩)) (colX ⟨#[98]⟩)).v.2.2.1, .string (twoX 11 (twoX 7 (colX ⟨#[97]⟩) (colX ⟨#[98]⟩)) (colX ⟨#[98]⟩)).v.2.2.2, .slice (some ⟨go, 0, none⟩) 2 2] 31) = X at *
  generalize Y5.heap.size = bo at *
  have B0 := hide (bad0 vx vy)
  have B1 := hide (bad1 vx vy)
  have B2 := hide (bad2 vx vy)
  have B3 := hide (bad3 vx vy)
  have B4 := hide (bad4 vx vy)
  have B5 := hide (bad5 vx vy)
  generalize (twoX 11 (twoX 7 (colX ⟨#[97]⟩) (colX ⟨#[98]⟩)) (colX ⟨#[98]⟩)) = ov at *
  rename_i K7 hk7
  have REST7 : ∀ (ac : Act) (bl ge ne : Nat) (ee : Ex) (X : World), ac = ⟨#[.int .i64 which, ac.tmps.getD 1 undef, ac.tmps.getD 2 undef, ac.tmps.getD 3 undef, ac.tmps.getD 4 undef, .pointer (some ⟨bt, 0, none⟩), .slice (some ⟨br, 0, none⟩) 4 4, ac.tmps.getD 7 undef, .slice (some ⟨bl, 0, none⟩) 6 6, ac.tmps.getD 9 undef, ac.tmps.getD 10 undef, ac.tmps.getD 11 undef, ac.tmps.getD 12 undef, ac.tmps.getD 13 undef, ac.tmps.getD 14 undef, ac.tmps.getD 15 undef, ac.tmps.getD 16 undef, ac.tmps.getD 17 undef, ac.tmps.getD 18 undef, ac.tmps.getD 19 undef, ac.tmps.getD 20 undef, ac.tmps.getD 21 undef, ac.tmps.getD 22 undef, ac.tmps.getD 23 undef, ac.tmps.getD 24 undef, ac.tmps.getD 25 undef, ac.tmps.getD 26 undef, ac.tmps.getD 27 undef, ac.tmps.getD 28 undef, ac.tmps.getD 29 undef, ac.tmps.getD 30 undef, ac.tmps.getD 31 undef, ac.tmps.getD 32 undef, ac.tmps.getD 33 undef, ac.tmps.getD 34 undef, ac.tmps.getD 35 undef, ac.tmps.getD 36 undef, ac.tmps.getD 37 undef, ac.tmps.getD 38 undef, ac.tmps.getD 39 undef, ac.tmps.getD 40 undef, ac.tmps.getD 41 undef, ac.tmps.getD 42 undef, ac.tmps.getD 43 undef, ac.tmps.getD 44 undef, ac.tmps.getD 45 undef, ac.tmps.getD 46 undef, ac.tmps.getD 47 undef, ac.tmps.getD 48 undef, ac.tmps.getD 49 undef, ac.tmps.getD 50 undef, ac.tmps.getD 51 undef, ac.tmps.getD 52 undef, ac.tmps.getD 53 undef, ac.tmps.getD 54 undef, ac.tmps.getD 55 undef, ac.tmps.getD 56 undef, ac.tmps.getD 57 undef, ac.tmps.getD 58 undef, ac.tmps.getD 59 undef, ac.tmps.getD 60 undef, ac.tmps.getD 61 undef, ac.tmps.getD 62 undef, ac.tmps.getD 63 undef, ac.tmps.getD 64 undef, ac.tmps.getD 65 undef, ac.tmps.getD 66 undef, ac.tmps.getD 67 undef, ac.tmps.getD 68 undef, ac.tmps.getD 69 undef, ac.tmps.getD 70 undef, ac.tmps.getD 71 undef, ac.tmps.getD 72 undef, ac.tmps.getD 73 undef, ac.tmps.getD 74 undef, ac.tmps.getD 75 undef, ac.tmps.getD 76 undef, ac.tmps.getD 77 undef, ac.tmps.getD 78 undef, ac.tmps.getD 79 undef, ac.tmps.getD 80 undef, ac.tmps.getD 81 undef], []⟩ → Bad vx vy ee → Hid (Grown w X) → Hid (ColsOf (.slice (some ⟨gc, 0, none⟩) 4 4) cols4 X) → Hid (RowOf (some ⟨br, 0, none⟩) [(2, 9223372036854775807, 0, S0), (2, 1, 0, S0), vx, vy] X) → Hid (Blk bt #[.string ⟨#[116]⟩, .slice (some ⟨gc, 0, none⟩) 4 4, .int .i64 0, N0, .int .i64 0, .string S0, .int .i64 0, .int .i64 0, .int .i64 0, .string S0, N0, N0] 34 X) → Hid (ElAt bl jj ee (.slice (some ⟨ge, 0, none⟩) ne ne) X) → Hid (Rep ee (.slice (some ⟨ge, 0, none⟩) ne ne) X) → K7 ac X := by
    clear G hC hR hT hOV hO
    intro ac bl ge ne ee X ha hBad G hC hR hT hE hRE
    obtain ⟨u, rfl⟩ : ∃ u : Nat → Value, ac = ⟨#[.int .i64 which, u 1, u 2, u 3, u 4, .pointer (some ⟨bt, 0, none⟩), .slice (some ⟨br, 0, none⟩) 4 4, u 7, .slice (some ⟨bl, 0, none⟩) 6 6, u 9, u 10, u 11, u 12, u 13, u 14, u 15, u 16, u 17, u 18, u 19, u 20, u 21, u 22, u 23, u 24, u 25, u 26, u 27, u 28, u 29, u 30, u 31, u 32, u 33, u 34, u 35, u 36, u 37, u 38, u 39, u 40, u 41, u 42, u 43, u 44, u 45, u 46, u 47, u 48, u 49, u 50, u 51, u 52, u 53, u 54, u 55, u 56, u 57, u 58, u 59, u 60, u 61, u 62, u 63, u 64, u 65, u 66, u 67, u 68, u 69, u 70, u 71, u 72, u 73, u 74, u 75, u 76, u 77, u 78, u 79, u 80, u 81], []⟩ := ⟨fun i => ac.tmps.getD i undef, ha⟩
    clear ha
    refine hk7 _ _ ?_
    clear hk7
    have hji : (jj : Int) < 6 := by omega
    have CE := hide (fun (W : World) h1 h2 h3 => evalT_any ⟨#[116]⟩ (.slice (some ⟨gc, 0, none⟩) 4 4) cols4 (some ⟨br, 0, none⟩) [(2, 9223372036854775807, 0, S0), (2, 1, 0, S0), vx, vy] 4 ee (.slice (some ⟨ge, 0, none⟩) ne ne) (Z4, 10) W hBad.1 h1 h2 (unhide hOK) hBad.2.1 h3 hBad.2.2.1)
    have CH := hide (fun (W : World) h1 h2 h3 => holdsT_any ⟨#[116]⟩ (.slice (some ⟨gc, 0, none⟩) 4 4) cols4 (some ⟨br, 0, none⟩) [(2, 9223372036854775807, 0, S0), (2, 1, 0, S0), vx, vy] 4 ee (.slice (some ⟨ge, 0, none⟩) ne ne) (false, false, 10) W (bad_holds hBad) h1 h2 (unhide hOK) hBad.2.1 h3 hBad.2.2.1)
    clear hBad hOK
    go_wp2_with fail
    rename_i K8 hk8
    have REST8 : ∀ (ac : Act) (bv : Nat) (X : World), ac = ⟨#[.int .i64 which, ac.tmps.getD 1 undef, ac.tmps.getD 2 undef, ac.tmps.getD 3 undef, ac.tmps.getD 4 undef, .pointer (some ⟨bt, 0, none⟩), .slice (some ⟨br, 0, none⟩) 4 4, ac.tmps.getD 7 undef, .slice (some ⟨bl, 0, none⟩) 6 6, .pointer (some ⟨bv, 0, none⟩), .int .i64 10, ac.tmps.getD 11 undef, ac.tmps.getD 12 undef, ac.tmps.getD 13 undef, ac.tmps.getD 14 undef, ac.tmps.getD 15 undef, ac.tmps.getD 16 undef, ac.tmps.getD 17 undef, ac.tmps.getD 18 undef, ac.tmps.getD 19 undef, ac.tmps.getD 20 undef, ac.tmps.getD 21 undef, ac.tmps.getD 22 undef, ac.tmps.getD 23 undef, ac.tmps.getD 24 undef, ac.tmps.getD 25 undef, ac.tmps.getD 26 undef, ac.tmps.getD 27 undef, ac.tmps.getD 28 undef, ac.tmps.getD 29 undef, ac.tmps.getD 30 undef, ac.tmps.getD 31 undef, ac.tmps.getD 32 undef, ac.tmps.getD 33 undef, ac.tmps.getD 34 undef, ac.tmps.getD 35 undef, ac.tmps.getD 36 undef, ac.tmps.getD 37 undef, ac.tmps.getD 38 undef, ac.tmps.getD 39 undef, ac.tmps.getD 40 undef, ac.tmps.getD 41 undef, ac.tmps.getD 42 undef, ac.tmps.getD 43 undef, ac.tmps.getD 44 undef, ac.tmps.getD 45 undef, ac.tmps.getD 46 undef, ac.tmps.getD 47 undef, ac.tmps.getD 48 undef, ac.tmps.getD 49 undef, ac.tmps.getD 50 undef, ac.tmps.getD 51 undef, ac.tmps.getD 52 undef, ac.tmps.getD 53 undef, ac.tmps.getD 54 undef, ac.tmps.getD 55 undef, ac.tmps.getD 56 undef, ac.tmps.getD 57 undef, ac.tmps.getD 58 undef, ac.tmps.getD 59 undef, ac.tmps.getD 60 undef, ac.tmps.getD 61 undef, ac.tmps.getD 62 undef, ac.tmps.getD 63 undef, ac.tmps.getD 64 undef, ac.tmps.getD 65 undef, ac.tmps.getD 66 undef, ac.tmps.getD 67 undef, ac.tmps.getD 68 undef, ac.tmps.getD 69 undef, ac.tmps.getD 70 undef, ac.tmps.getD 71 undef, ac.tmps.getD 72 undef, ac.tmps.getD 73 undef, ac.tmps.getD 74 undef, ac.tmps.getD 75 undef, ac.tmps.getD 76 undef, ac.tmps.getD 77 undef, ac.tmps.getD 78 undef, ac.tmps.getD 79 undef, ac.tmps.getD 80 undef, ac.tmps.getD 81 undef], []⟩ → Hid (Grown w X) → Hid (ColsOf (.slice (some ⟨gc, 0, none⟩) 4 4) cols4 X) → Hid (RowOf (some ⟨br, 0, none⟩) [(2, 9223372036854775807, 0, S0), (2, 1, 0, S0), vx, vy] X) → Hid (Blk bt #[.string ⟨#[116]⟩, .slice (some ⟨gc, 0, none⟩) 4 4, .int .i64 0, N0, .int .i64 0, .string S0, .int .i64 0, .int .i64 0, .int .i64 0, .string S0, N0, N0] 34 X) → Hid (ElAt bl jj ee (.slice (some ⟨ge, 0, none⟩) ne ne) X) → Hid (Rep ee (.slice (some ⟨ge, 0, none⟩) ne ne) X) → Hid (Blk bv #[.int .i64 0, .int .i64 0, .int .i64 0, .string S0] 28 X) → K8 ac X := by
      clear CE G hC hR hT hE hRE
      intro ac bv X ha G hC hR hT hE hRE hV
      obtain ⟨u, rfl⟩ : ∃ u : Nat → Value, ac = ⟨#[.int .i64 which, u 1, u 2, u 3, u 4, .pointer (some ⟨bt, 0, none⟩), .slice (some ⟨br, 0, none⟩) 4 4, u 7, .slice (some ⟨bl, 0, none⟩) 6 6, .pointer (some ⟨bv, 0, none⟩), .int .i64 10, u 11, u 12, u 13, u 14, u 15, u 16, u 17, u 18, u 19, u 20, u 21, u 22, u 23, u 24, u 25, u 26, u 27, u 28, u 29, u 30, u 31, u 32, u 33, u 34, u 35, u 36, u 37, u 38, u 39, u 40, u 41, u 42, u 43, u 44, u 45, u 46, u 47, u 48, u 49, u 50, u 51, u 52, u 53, u 54, u 55, u 56, u 57, u 58, u 59, u 60, u 61, u 62, u 63, u 64, u 65, u 66, u 67, u 68, u 69, u 70, u 71, u 72, u 73, u 74, u 75, u 76, u 77, u 78, u 79, u 80, u 81], []⟩ := ⟨fun i => ac.tmps.getD i undef, ha⟩
      clear ha
      refine hk8 _ _ ?_
      clear hk8
      go_wp2_with fail
      rename_i K9 hk9
      have REST9 : ∀ (ac : Act) (X : World), ac = ⟨#[.int .i64 which, ac.tmps.getD 1 undef, ac.tmps.getD 2 undef, ac.tmps.getD 3 undef, ac.tmps.getD 4 undef, .pointer (some ⟨bt, 0, none⟩), .slice (some ⟨br, 0, none⟩) 4 4, ac.tmps.getD 7 undef, .slice (some ⟨bl, 0, none⟩) 6 6, .pointer (some ⟨bv, 0, none⟩), .int .i64 10, .bool false, .bool false, .int .i64 10, ac.tmps.getD 14 undef, ac.tmps.getD 15 undef, ac.tmps.getD 16 undef, ac.tmps.getD 17 undef, ac.tmps.getD 18 undef, ac.tmps.getD 19 undef, ac.tmps.getD 20 undef, ac.tmps.getD 21 undef, ac.tmps.getD 22 undef, ac.tmps.getD 23 undef, ac.tmps.getD 24 undef, ac.tmps.getD 25 undef, ac.tmps.getD 26 undef, ac.tmps.getD 27 undef, ac.tmps.getD 28 undef, ac.tmps.getD 29 undef, ac.tmps.getD 30 undef, ac.tmps.getD 31 undef, ac.tmps.getD 32 undef, ac.tmps.getD 33 undef, ac.tmps.getD 34 undef, ac.tmps.getD 35 undef, ac.tmps.getD 36 undef, ac.tmps.getD 37 undef, ac.tmps.getD 38 undef, ac.tmps.getD 39 undef, ac.tmps.getD 40 undef, ac.tmps.getD 41 undef, ac.tmps.getD 42 undef, ac.tmps.getD 43 undef, ac.tmps.getD 44 undef, ac.tmps.getD 45 undef, ac.tmps.getD 46 undef, ac.tmps.getD 47 undef, ac.tmps.getD 48 undef, ac.tmps.getD 49 undef, ac.tmps.getD 50 undef, ac.tmps.getD 51 undef, ac.tmps.getD 52 undef, ac.tmps.getD 53 undef, ac.tmps.getD 54 undef, ac.tmps.getD 55 undef, ac.tmps.getD 56 undef, ac.tmps.getD 57 undef, ac.tmps.getD 58 undef, ac.tmps.getD 59 undef, ac.tmps.getD 60 undef, ac.tmps.getD 61 undef, ac.tmps.getD 62 undef, ac.tmps.getD 63 undef, ac.tmps.getD 64 undef, ac.tmps.getD 65 undef, ac.tmps.getD 66 undef, ac.tmps.getD 67 undef, ac.tmps.getD 68 undef, ac.tmps.getD 69 undef, ac.tmps.getD 70 undef, ac.tmps.getD 71 undef, ac.tmps.getD 72 undef, ac.tmps.getD 73 undef, ac.tmps.getD 74 undef, ac.tmps.getD 75 undef, ac.tmps.getD 76 undef, ac.tmps.getD 77 undef, ac.tmps.getD 78 undef, ac.tmps.getD 79 undef, ac.tmps.getD 80 undef, ac.tmps.getD 81 undef], []⟩ → Hid (Grown w X) → Hid (ColsOf (.slice (some ⟨gc, 0, none⟩) 4 4) cols4 X) → Hid (RowOf (some ⟨br, 0, none⟩) [(2, 9223372036854775807, 0, S0), (2, 1, 0, S0), vx, vy] X) → Hid (Blk bt #[.string ⟨#[116]⟩, .slice (some ⟨gc, 0, none⟩) 4 4, .int .i64 0, N0, .int .i64 0, .string S0, .int .i64 0, .int .i64 0, .int .i64 0, .string S0, N0, N0] 34 X) → Hid (ElAt bl jj ee (.slice (some ⟨ge, 0, none⟩) ne ne) X) → Hid (Rep ee (.slice (some ⟨ge, 0, none⟩) ne ne) X) → Hid (Blk bv #[.int .i64 0, .int .i64 0, .int .i64 0, .string S0] 28 X) → K9 ac X := by
        clear CH G hC hR hT hE hRE hV
        intro ac X ha G hC hR hT hE hRE hV
        obtain ⟨u, rfl⟩ : ∃ u : Nat → Value, ac = ⟨#[.int .i64 which, u 1, u 2, u 3, u 4, .pointer (some ⟨bt, 0, none⟩), .slice (some ⟨br, 0, none⟩) 4 4, u 7, .slice (some ⟨bl, 0, none⟩) 6 6, .pointer (some ⟨bv, 0, none⟩), .int .i64 10, .bool false, .bool false, .int .i64 10, u 14, u 15, u 16, u 17, u 18, u 19, u 20, u 21, u 22, u 23, u 24, u 25, u 26, u 27, u 28, u 29, u 30, u 31, u 32, u 33, u 34, u 35, u 36, u 37, u 38, u 39, u 40, u 41, u 42, u 43, u 44, u 45, u 46, u 47, u 48, u 49, u 50, u 51, u 52, u 53, u 54, u 55, u 56, u 57, u 58, u 59, u 60, u 61, u 62, u 63, u 64, u 65, u 66, u 67, u 68, u 69, u 70, u 71, u 72, u 73, u 74, u 75, u 76, u 77, u 78, u 79, u 80, u 81], []⟩ := ⟨fun i => ac.tmps.getD i undef, ha⟩
        clear ha
        refine hk9 _ _ ?_
        clear hk9
        have vlt := (unhide hV).lt
        have v0 := (unhide hV).cell 0
        have v1 := (unhide hV).cell 1
        have v2 := (unhide hV).cell 2
        have v3 := (unhide hV).cell 3
        simp at v0 v1 v2 v3
        go_wp2_with fail
        go_ret
        exact ⟨rfl, unhide G⟩
      have REST9 := hide REST9
      clear hk9
      refine wp_region_noPanic ?_
      refine wp_region_held_drew (S := (fun X => Blk bt #[.string ⟨#[116]⟩, .slice (some ⟨gc, 0, none⟩) 4 4, .int .i64 0, N0, .int .i64 0, .string S0, .int .i64 0, .int .i64 0, .int .i64 0, .string S0, N0, N0] 34 X ∧ ElAt bl jj ee (.slice (some ⟨ge, 0, none⟩) ne ne) X)) (by kernel_rfl) (⟨(unhide hT).call (Below.refl _ _).drew, (unhide hE).call (Below.refl _ _).drew⟩) (fun hHeld => ?_)
      have hbd : Below X.heap.size X X.drew := (Below.refl _ _).drew
      replace G := hide ((unhide G).call hbd)
      replace hC := hide ((unhide hC).call hbd)
      replace hR := hide ((unhide hR).call hbd)
      replace hT := hide ((unhide hT).call hbd)
      replace hE := hide ((unhide hE).call hbd)
      replace hRE := hide ((unhide hRE).call hbd)
      replace hV := hide ((unhide hV).call hbd)
      clear hbd
      generalize X.drew = Wd at *
      refine wpAnyH_take (i := 0) (oi := ?oi20001) (v := ?v20001) ?hi20001 (by kernel_rfl) (by kernel_rfl) (by kernel_rfl) (fun _ _ _ h => h) (Or.inl ⟨?hw20001, ?hy20001⟩) (by assumption) ?rest20001
      case hi20001 => (simp only [List.getElem?_toArray, List.getElem?_cons_zero]; rfl)
      case hw20001 => rfl
      case hy20001 => first | (intro wx hSw; have hT := hSw.1; have t0 := Blk.cell hT 0; have t1 := Blk.cell hT 1; have t2 := Blk.cell hT 2; have t3 := Blk.cell hT 3; have t4 := Blk.cell hT 4; have t5 := Blk.cell hT 5; have t6 := Blk.cell hT 6; have t7 := Blk.cell hT 7; have t8 := Blk.cell hT 8; have t9 := Blk.cell hT 9; have t10 := Blk.cell hT 10; have t11 := Blk.cell hT 11; simp at t0 t1 t2 t3 t4 t5 t6 t7 t8 t9 t10 t11; go_simp; done) | (intro wx hSw; have hT := hSw.1; have t0 := Blk.cell hT 0; have t1 := Blk.cell hT 1; have t2 := Blk.cell hT 2; have t3 := Blk.cell hT 3; have t4 := Blk.cell hT 4; have t5 := Blk.cell hT 5; have t6 := Blk.cell hT 6; have t7 := Blk.cell hT 7; have t8 := Blk.cell hT 8; have t9 := Blk.cell hT 9; have t10 := Blk.cell hT 10; have t11 := Blk.cell hT 11; simp at t0 t1 t2 t3 t4 t5 t6 t7 t8 t9 t10 t11; go_simp; with_reducible rfl)
      simp only [Act.put, List.setIfInBounds_toArray, List.set_cons_zero, List.set_cons_succ]
      refine wpAnyH_take (i := 1) (oi := ?oi20002) (v := ?v20002) ?hi20002 (by kernel_rfl) (by kernel_rfl) (by kernel_rfl) (fun _ _ _ h => h) (Or.inl ⟨?hw20002, ?hy20002⟩) (by assumption) ?rest20002
      case hi20002 => (simp only [List.getElem?_toArray, List.getElem?_cons_zero, List.getElem?_cons_succ]; rfl)
      case hw20002 => rfl
      case hy20002 => first | (intro wx hSw; go_simp; done) | (intro wx hSw; go_simp; with_reducible rfl)
      simp only [Act.put, List.setIfInBounds_toArray, List.set_cons_zero, List.set_cons_succ]
      refine wpAnyH_take (i := 2) (oi := ?oi20003) (v := ?v20003) ?hi20003 (by kernel_rfl) (by kernel_rfl) (by kernel_rfl) (fun _ _ _ h => h) (Or.inl ⟨?hw20003, ?hy20003⟩) (by assumption) ?rest20003
      case hi20003 => (simp only [List.getElem?_toArray, List.getElem?_cons_zero, List.getElem?_cons_succ]; rfl)
      case hw20003 => rfl
      case hy20003 => first | (intro wx hSw; go_simp; done) | (intro wx hSw; go_simp; with_reducible rfl)
      simp only [Act.put, List.setIfInBounds_toArray, List.set_cons_zero, List.set_cons_succ]
      refine wpAnyH_take (i := 3) (oi := ?oi20004) (v := ?v20004) ?hi20004 (by kernel_rfl) (by kernel_rfl) (by kernel_rfl) (fun _ _ _ h => h) (Or.inl ⟨?hw20004, ?hy20004⟩) (by assumption) ?rest20004
      case hi20004 => (simp only [List.getElem?_toArray, List.getElem?_cons_zero, List.getElem?_cons_succ]; rfl)
      case hw20004 => rfl
      case hy20004 => first | (intro wx hSw; go_simp; done) | (intro wx hSw; go_simp; with_reducible rfl)
      simp only [Act.put, List.setIfInBounds_toArray, List.set_cons_zero, List.set_cons_succ]
      refine anyH_name ?_
      intro GG hin hout
      have HIN := hide hin
      have HOUT := hide hout
      clear hin hout hHeld
      have C2 : ∀ (ac : Act) (X : World), ac = ⟨#[.int .i64 which, ac.tmps.getD 1 undef, ac.tmps.getD 2 undef, ac.tmps.getD 3 undef, ac.tmps.getD 4 undef, .pointer (some ⟨bt, 0, none⟩), .slice (some ⟨br, 0, none⟩) 4 4, ac.tmps.getD 7 undef, .slice (some ⟨bl, 0, none⟩) 6 6, .pointer (some ⟨bv, 0, none⟩), .int .i64 10, ac.tmps.getD 11 undef, ac.tmps.getD 12 undef, ac.tmps.getD 13 undef, ac.tmps.getD 14 undef, ac.tmps.getD 15 undef, ac.tmps.getD 16 undef, ac.tmps.getD 17 undef, ac.tmps.getD 18 undef, ac.tmps.getD 19 undef, ac.tmps.getD 20 undef, ac.tmps.getD 21 undef, ac.tmps.getD 22 undef, ac.tmps.getD 23 undef, ac.tmps.getD 24 undef, ac.tmps.getD 25 undef, ac.tmps.getD 26 undef, ac.tmps.getD 27 undef, ac.tmps.getD 28 undef, ac.tmps.getD 29 undef, ac.tmps.getD 30 undef, ac.tmps.getD 31 undef, ac.tmps.getD 32 undef, ac.tmps.getD 33 undef, ac.tmps.getD 34 undef, ac.tmps.getD 35 undef, ac.tmps.getD 36 undef, ac.tmps.getD 37 undef, ac.tmps.getD 38 undef, ac.tmps.getD 39 undef, ac.tmps.getD 40 undef, ac.tmps.getD 41 undef, ac.tmps.getD 42 undef, ac.tmps.getD 43 undef, ac.tmps.getD 44 undef, ac.tmps.getD 45 undef, ac.tmps.getD 46 undef, ac.tmps.getD 47 undef, ac.tmps.getD 48 undef, ac.tmps.getD 49 undef, ac.tmps.getD 50 undef, ac.tmps.getD 51 undef, ac.tmps.getD 52 undef, ac.tmps.getD 53 undef, ac.tmps.getD 54 undef, ac.tmps.getD 55 undef, ac.tmps.getD 56 undef, ac.tmps.getD 57 undef, ac.tmps.getD 58 undef, ac.tmps.getD 59 undef, .agg #[.string ⟨#[116]⟩, .slice (some ⟨gc, 0, none⟩) 4 4, .int .i64 0, N0, .int .i64 0, .string S0, .int .i64 0, .int .i64 0, .int .i64 0, .string S0, N0, N0], .slice (some ⟨br, 0, none⟩) 4 4, .slice (some ⟨bl, 0, none⟩) 6 6, .int .i64 which, .int .i64 (jj : Int), ac.tmps.getD 65 undef, .agg #[.int .i64 ee.k, .string ee.nm, .int .i64 ee.v.1, .int .i64 ee.v.2.1, .int .i64 ee.v.2.2.1, .string ee.v.2.2.2, (.slice (some ⟨ge, 0, none⟩) ne ne)], ac.tmps.getD 67 undef, .bool false, .bool false, .int .i64 10, ac.tmps.getD 71 undef, ac.tmps.getD 72 undef, ac.tmps.getD 73 undef, ac.tmps.getD 74 undef, ac.tmps.getD 75 undef, ac.tmps.getD 76 undef, ac.tmps.getD 77 undef, ac.tmps.getD 78 undef, ac.tmps.getD 79 undef, ac.tmps.getD 80 undef, ac.tmps.getD 81 undef], []⟩ → Below Wd.heap.size Wd X → GG 3 #[true, true, true, true, true, true, true, true, true, true, true, true, false, false, false] ac X := by
        intro ac X ha GD
        obtain ⟨u, rfl⟩ : ∃ u : Nat → Value, ac = ⟨#[.int .i64 which, u 1, u 2, u 3, u 4, .pointer (some ⟨bt, 0, none⟩), .slice (some ⟨br, 0, none⟩) 4 4, u 7, .slice (some ⟨bl, 0, none⟩) 6 6, .pointer (some ⟨bv, 0, none⟩), .int .i64 10, u 11, u 12, u 13, u 14, u 15, u 16, u 17, u 18, u 19, u 20, u 21, u 22, u 23, u 24, u 25, u 26, u 27, u 28, u 29, u 30, u 31, u 32, u 33, u 34, u 35, u 36, u 37, u 38, u 39, u 40, u 41, u 42, u 43, u 44, u 45, u 46, u 47, u 48, u 49, u 50, u 51, u 52, u 53, u 54, u 55, u 56, u 57, u 58, u 59, .agg #[.string ⟨#[116]⟩, .slice (some ⟨gc, 0, none⟩) 4 4, .int .i64 0, N0, .int .i64 0, .string S0, .int .i64 0, .int .i64 0, .int .i64 0, .string S0, N0, N0], .slice (some ⟨br, 0, none⟩) 4 4, .slice (some ⟨bl, 0, none⟩) 6 6, .int .i64 which, .int .i64 (jj : Int), u 65, .agg #[.int .i64 ee.k, .string ee.nm, .int .i64 ee.v.1, .int .i64 ee.v.2.1, .int .i64 ee.v.2.2.1, .string ee.v.2.2.2, (.slice (some ⟨ge, 0, none⟩) ne ne)], u 67, .bool false, .bool false, .int .i64 10, u 71, u 72, u 73, u 74, u 75, u 76, u 77, u 78, u 79, u 80, u 81], []⟩ := ⟨fun i => ac.tmps.getD i undef, ha⟩
        clear ha
        refine unhide HIN _ _ _ _ ?_
        have hHeld : (fun X => Blk bt #[.string ⟨#[116]⟩, .slice (some ⟨gc, 0, none⟩) 4 4, .int .i64 0, N0, .int .i64 0, .string S0, .int .i64 0, .int .i64 0, .int .i64 0, .string S0, N0, N0] 34 X ∧ ElAt bl jj ee (.slice (some ⟨ge, 0, none⟩) ne ne) X) X := ⟨(unhide hT).call GD, (unhide hE).call GD⟩
        refine wpAnyH_take (i := 12) (oi := ?oi20005) (v := ?v20005) ?hi20005 (by kernel_rfl) (by kernel_rfl) (by kernel_rfl) (fun _ _ _ h => h) (Or.inl ⟨?hw20005, ?hy20005⟩) (by assumption) ?rest20005
        case hi20005 => (simp only [List.getElem?_toArray, List.getElem?_cons_zero, List.getElem?_cons_succ]; rfl)
        case hw20005 => rfl
        case hy20005 => first | (intro wx hSw; go_simp; done) | (intro wx hSw; go_simp; with_reducible rfl)
        simp only [Act.put, List.setIfInBounds_toArray, List.set_cons_zero, List.set_cons_succ]
        refine wpAnyH_take (i := 13) (oi := ?oi20006) (v := ?v20006) ?hi20006 (by kernel_rfl) (by kernel_rfl) (by kernel_rfl) (fun _ _ _ h => h) (Or.inl ⟨?hw20006, ?hy20006⟩) (by assumption) ?rest20006
        case hi20006 => (simp only [List.getElem?_toArray, List.getElem?_cons_zero, List.getElem?_cons_succ]; rfl)
        case hw20006 => rfl
        case hy20006 => first | (intro wx hSw; go_simp; done) | (intro wx hSw; go_simp; with_reducible rfl)
        simp only [Act.put, List.setIfInBounds_toArray, List.set_cons_zero, List.set_cons_succ]
        refine wpAnyH_take (i := 14) (oi := ?oi20007) (v := ?v20007) ?hi20007 (by kernel_rfl) (by kernel_rfl) (by kernel_rfl) (fun _ _ _ h => h) (Or.inl ⟨?hw20007, ?hy20007⟩) (by assumption) ?rest20007
        case hi20007 => (simp only [List.getElem?_toArray, List.getElem?_cons_zero, List.getElem?_cons_succ]; rfl)
        case hw20007 => rfl
        case hy20007 => first | (intro wx hSw; go_simp; done) | (intro wx hSw; go_simp; with_reducible rfl)
        simp only [Act.put, List.setIfInBounds_toArray, List.set_cons_zero, List.set_cons_succ]
        refine wpAnyH_done (by kernel_rfl) ?_ _
        refine NoPanic.normal ?_
        skip
        exact unhide REST9 _ _ (by kernel_rfl) (hide ((unhide G).call GD)) (hide ((unhide hC).call GD)) (hide ((unhide hR).call GD)) (hide ((unhide hT).call GD)) (hide ((unhide hE).call GD)) (hide ((unhide hRE).call GD)) (hide ((unhide hV).call GD))
      have C2 := hide C2
      have C1 : ∀ (ac : Act) (X : World), ac = ⟨#[.int .i64 which, ac.tmps.getD 1 undef, ac.tmps.getD 2 undef, ac.tmps.getD 3 undef, ac.tmps.getD 4 undef, .pointer (some ⟨bt, 0, none⟩), .slice (some ⟨br, 0, none⟩) 4 4, ac.tmps.getD 7 undef, .slice (some ⟨bl, 0, none⟩) 6 6, .pointer (some ⟨bv, 0, none⟩), .int .i64 10, ac.tmps.getD 11 undef, ac.tmps.getD 12 undef, ac.tmps.getD 13 undef, ac.tmps.getD 14 undef, ac.tmps.getD 15 undef, ac.tmps.getD 16 undef, ac.tmps.getD 17 undef, ac.tmps.getD 18 undef, ac.tmps.getD 19 undef, ac.tmps.getD 20 undef, ac.tmps.getD 21 undef, ac.tmps.getD 22 undef, ac.tmps.getD 23 undef, ac.tmps.getD 24 undef, ac.tmps.getD 25 undef, ac.tmps.getD 26 undef, ac.tmps.getD 27 undef, ac.tmps.getD 28 undef, ac.tmps.getD 29 undef, ac.tmps.getD 30 undef, ac.tmps.getD 31 undef, ac.tmps.getD 32 undef, ac.tmps.getD 33 undef, ac.tmps.getD 34 undef, ac.tmps.getD 35 undef, ac.tmps.getD 36 undef, ac.tmps.getD 37 undef, ac.tmps.getD 38 undef, ac.tmps.getD 39 undef, ac.tmps.getD 40 undef, ac.tmps.getD 41 undef, ac.tmps.getD 42 undef, ac.tmps.getD 43 undef, ac.tmps.getD 44 undef, ac.tmps.getD 45 undef, ac.tmps.getD 46 undef, ac.tmps.getD 47 undef, ac.tmps.getD 48 undef, ac.tmps.getD 49 undef, ac.tmps.getD 50 undef, ac.tmps.getD 51 undef, ac.tmps.getD 52 undef, ac.tmps.getD 53 undef, ac.tmps.getD 54 undef, ac.tmps.getD 55 undef, ac.tmps.getD 56 undef, ac.tmps.getD 57 undef, ac.tmps.getD 58 undef, ac.tmps.getD 59 undef, .agg #[.string ⟨#[116]⟩, .slice (some ⟨gc, 0, none⟩) 4 4, .int .i64 0, N0, .int .i64 0, .string S0, .int .i64 0, .int .i64 0, .int .i64 0, .string S0, N0, N0], .slice (some ⟨br, 0, none⟩) 4 4, .slice (some ⟨bl, 0, none⟩) 6 6, .int .i64 which, .int .i64 (jj : Int), ac.tmps.getD 65 undef, .agg #[.int .i64 ee.k, .string ee.nm, .int .i64 ee.v.1, .int .i64 ee.v.2.1, .int .i64 ee.v.2.2.1, .string ee.v.2.2.2, (.slice (some ⟨ge, 0, none⟩) ne ne)], ac.tmps.getD 67 undef, ac.tmps.getD 68 undef, ac.tmps.getD 69 undef, ac.tmps.getD 70 undef, ac.tmps.getD 71 undef, ac.tmps.getD 72 undef, ac.tmps.getD 73 undef, ac.tmps.getD 74 undef, ac.tmps.getD 75 undef, ac.tmps.getD 76 undef, ac.tmps.getD 77 undef, ac.tmps.getD 78 undef, ac.tmps.getD 79 undef, ac.tmps.getD 80 undef, ac.tmps.getD 81 undef], []⟩ → Below Wd.heap.size Wd X → GG 8 #[true, true, true, true, true, true, true, false, false, false, false, false, false, false, false] ac X := by
        intro ac X ha GD
        obtain ⟨u, rfl⟩ : ∃ u : Nat → Value, ac = ⟨#[.int .i64 which, u 1, u 2, u 3, u 4, .pointer (some ⟨bt, 0, none⟩), .slice (some ⟨br, 0, none⟩) 4 4, u 7, .slice (some ⟨bl, 0, none⟩) 6 6, .pointer (some ⟨bv, 0, none⟩), .int .i64 10, u 11, u 12, u 13, u 14, u 15, u 16, u 17, u 18, u 19, u 20, u 21, u 22, u 23, u 24, u 25, u 26, u 27, u 28, u 29, u 30, u 31, u 32, u 33, u 34, u 35, u 36, u 37, u 38, u 39, u 40, u 41, u 42, u 43, u 44, u 45, u 46, u 47, u 48, u 49, u 50, u 51, u 52, u 53, u 54, u 55, u 56, u 57, u 58, u 59, .agg #[.string ⟨#[116]⟩, .slice (some ⟨gc, 0, none⟩) 4 4, .int .i64 0, N0, .int .i64 0, .string S0, .int .i64 0, .int .i64 0, .int .i64 0, .string S0, N0, N0], .slice (some ⟨br, 0, none⟩) 4 4, .slice (some ⟨bl, 0, none⟩) 6 6, .int .i64 which, .int .i64 (jj : Int), u 65, .agg #[.int .i64 ee.k, .string ee.nm, .int .i64 ee.v.1, .int .i64 ee.v.2.1, .int .i64 ee.v.2.2.1, .string ee.v.2.2.2, (.slice (some ⟨ge, 0, none⟩) ne ne)], u 67, u 68, u 69, u 70, u 71, u 72, u 73, u 74, u 75, u 76, u 77, u 78, u 79, u 80, u 81], []⟩ := ⟨fun i => ac.tmps.getD i undef, ha⟩
        clear ha
        refine unhide HIN _ _ _ _ ?_
        have hHeld : (fun X => Blk bt #[.string ⟨#[116]⟩, .slice (some ⟨gc, 0, none⟩) 4 4, .int .i64 0, N0, .int .i64 0, .string S0, .int .i64 0, .int .i64 0, .int .i64 0, .string S0, N0, N0] 34 X ∧ ElAt bl jj ee (.slice (some ⟨ge, 0, none⟩) ne ne) X) X := ⟨(unhide hT).call GD, (unhide hE).call GD⟩
        refine wpAnyH_ready (rs := [7]) (by kernel_rfl) (by simp) ?_
        refine AllReadyH.cons rfl (fun K20008 hK20008 => ?_) AllReadyH.nil
        go_simp
        go_wp2_with (go_at_call 22; refine (unhide CH _ ((unhide hC).call GD) ((unhide hR).call GD) ((unhide hRE).call GD)).mono ?_; rintro e X2 ⟨rfl, hb⟩)
        refine hK20008.out _ _ ?hs20008 (fun hH20008 => ?_)
        case hs20008 => exact ⟨hHeld.1.call hb, hHeld.2.call hb⟩
        clear hHeld
        have hHeld := hH20008; clear hH20008 hK20008 K20008
        refine wpAnyH_take (i := 8) (oi := ?oi20009) (v := ?v20009) ?hi20009 (by kernel_rfl) (by kernel_rfl) (by kernel_rfl) (fun _ _ _ h => h) (Or.inl ⟨?hw20009, ?hy20009⟩) (by assumption) ?rest20009
        case hi20009 => (simp only [List.getElem?_toArray, List.getElem?_cons_zero, List.getElem?_cons_succ]; rfl)
        case hw20009 => rfl
        case hy20009 => first | (intro wx hSw; go_simp; done) | (intro wx hSw; go_simp; with_reducible rfl)
        simp only [Act.put, List.setIfInBounds_toArray, List.set_cons_zero, List.set_cons_succ]
        refine wpAnyH_take (i := 9) (oi := ?oi20010) (v := ?v20010) ?hi20010 (by kernel_rfl) (by kernel_rfl) (by kernel_rfl) (fun _ _ _ h => h) (Or.inl ⟨?hw20010, ?hy20010⟩) (by assumption) ?rest20010
        case hi20010 => (simp only [List.getElem?_toArray, List.getElem?_cons_zero, List.getElem?_cons_succ]; rfl)
        case hw20010 => rfl
        case hy20010 => first | (intro wx hSw; go_simp; done) | (intro wx hSw; go_simp; with_reducible rfl)
        simp only [Act.put, List.setIfInBounds_toArray, List.set_cons_zero, List.set_cons_succ]
        refine wpAnyH_take (i := 10) (oi := ?oi20011) (v := ?v20011) ?hi20011 (by kernel_rfl) (by kernel_rfl) (by kernel_rfl) (fun _ _ _ h => h) (Or.inl ⟨?hw20011, ?hy20011⟩) (by assumption) ?rest20011
        case hi20011 => (simp only [List.getElem?_toArray, List.getElem?_cons_zero, List.getElem?_cons_succ]; rfl)
        case hw20011 => rfl
        case hy20011 => first | (intro wx hSw; go_simp; done) | (intro wx hSw; go_simp; with_reducible rfl)
        simp only [Act.put, List.setIfInBounds_toArray, List.set_cons_zero, List.set_cons_succ]
        refine wpAnyH_take (i := 11) (oi := ?oi20012) (v := ?v20012) ?hi20012 (by kernel_rfl) (by kernel_rfl) (by kernel_rfl) (fun _ _ _ h => h) (Or.inl ⟨?hw20012, ?hy20012⟩) (by assumption) ?rest20012
        case hi20012 => (simp only [List.getElem?_toArray, List.getElem?_cons_zero, List.getElem?_cons_succ]; rfl)
        case hw20012 => rfl
        case hy20012 => first | (intro wx hSw; go_simp; done) | (intro wx hSw; go_simp; with_reducible rfl)
        simp only [Act.put, List.setIfInBounds_toArray, List.set_cons_zero, List.set_cons_succ]
        refine unhide HOUT _ _ _ _ ?_
        exact unhide C2 _  _ (by kernel_rfl) (GD.trans (hb.mono GD.size)) 
      have C1 := hide C1
      have C0 : ∀ (ac : Act) (X : World), ac = ⟨#[.int .i64 which, ac.tmps.getD 1 undef, ac.tmps.getD 2 undef, ac.tmps.getD 3 undef, ac.tmps.getD 4 undef, .pointer (some ⟨bt, 0, none⟩), .slice (some ⟨br, 0, none⟩) 4 4, ac.tmps.getD 7 undef, .slice (some ⟨bl, 0, none⟩) 6 6, .pointer (some ⟨bv, 0, none⟩), .int .i64 10, ac.tmps.getD 11 undef, ac.tmps.getD 12 undef, ac.tmps.getD 13 undef, ac.tmps.getD 14 undef, ac.tmps.getD 15 undef, ac.tmps.getD 16 undef, ac.tmps.getD 17 undef, ac.tmps.getD 18 undef, ac.tmps.getD 19 undef, ac.tmps.getD 20 undef, ac.tmps.getD 21 undef, ac.tmps.getD 22 undef, ac.tmps.getD 23 undef, ac.tmps.getD 24 undef, ac.tmps.getD 25 undef, ac.tmps.getD 26 undef, ac.tmps.getD 27 undef, ac.tmps.getD 28 undef, ac.tmps.getD 29 undef, ac.tmps.getD 30 undef, ac.tmps.getD 31 undef, ac.tmps.getD 32 undef, ac.tmps.getD 33 undef, ac.tmps.getD 34 undef, ac.tmps.getD 35 undef, ac.tmps.getD 36 undef, ac.tmps.getD 37 undef, ac.tmps.getD 38 undef, ac.tmps.getD 39 undef, ac.tmps.getD 40 undef, ac.tmps.getD 41 undef, ac.tmps.getD 42 undef, ac.tmps.getD 43 undef, ac.tmps.getD 44 undef, ac.tmps.getD 45 undef, ac.tmps.getD 46 undef, ac.tmps.getD 47 undef, ac.tmps.getD 48 undef, ac.tmps.getD 49 undef, ac.tmps.getD 50 undef, ac.tmps.getD 51 undef, ac.tmps.getD 52 undef, ac.tmps.getD 53 undef, ac.tmps.getD 54 undef, ac.tmps.getD 55 undef, ac.tmps.getD 56 undef, ac.tmps.getD 57 undef, ac.tmps.getD 58 undef, ac.tmps.getD 59 undef, .agg #[.string ⟨#[116]⟩, .slice (some ⟨gc, 0, none⟩) 4 4, .int .i64 0, N0, .int .i64 0, .string S0, .int .i64 0, .int .i64 0, .int .i64 0, .string S0, N0, N0], .slice (some ⟨br, 0, none⟩) 4 4, .slice (some ⟨bl, 0, none⟩) 6 6, .int .i64 which, ac.tmps.getD 64 undef, ac.tmps.getD 65 undef, ac.tmps.getD 66 undef, ac.tmps.getD 67 undef, ac.tmps.getD 68 undef, ac.tmps.getD 69 undef, ac.tmps.getD 70 undef, ac.tmps.getD 71 undef, ac.tmps.getD 72 undef, ac.tmps.getD 73 undef, ac.tmps.getD 74 undef, ac.tmps.getD 75 undef, ac.tmps.getD 76 undef, ac.tmps.getD 77 undef, ac.tmps.getD 78 undef, ac.tmps.getD 79 undef, ac.tmps.getD 80 undef, ac.tmps.getD 81 undef], []⟩ → Below Wd.heap.size Wd X → GG 11 #[true, true, true, true, false, false, false, false, false, false, false, false, false, false, false] ac X := by
        intro ac X ha GD
        obtain ⟨u, rfl⟩ : ∃ u : Nat → Value, ac = ⟨#[.int .i64 which, u 1, u 2, u 3, u 4, .pointer (some ⟨bt, 0, none⟩), .slice (some ⟨br, 0, none⟩) 4 4, u 7, .slice (some ⟨bl, 0, none⟩) 6 6, .pointer (some ⟨bv, 0, none⟩), .int .i64 10, u 11, u 12, u 13, u 14, u 15, u 16, u 17, u 18, u 19, u 20, u 21, u 22, u 23, u 24, u 25, u 26, u 27, u 28, u 29, u 30, u 31, u 32, u 33, u 34, u 35, u 36, u 37, u 38, u 39, u 40, u 41, u 42, u 43, u 44, u 45, u 46, u 47, u 48, u 49, u 50, u 51, u 52, u 53, u 54, u 55, u 56, u 57, u 58, u 59, .agg #[.string ⟨#[116]⟩, .slice (some ⟨gc, 0, none⟩) 4 4, .int .i64 0, N0, .int .i64 0, .string S0, .int .i64 0, .int .i64 0, .int .i64 0, .string S0, N0, N0], .slice (some ⟨br, 0, none⟩) 4 4, .slice (some ⟨bl, 0, none⟩) 6 6, .int .i64 which, u 64, u 65, u 66, u 67, u 68, u 69, u 70, u 71, u 72, u 73, u 74, u 75, u 76, u 77, u 78, u 79, u 80, u 81], []⟩ := ⟨fun i => ac.tmps.getD i undef, ha⟩
        clear ha
        refine unhide HIN _ _ _ _ ?_
        have hHeld : (fun X => Blk bt #[.string ⟨#[116]⟩, .slice (some ⟨gc, 0, none⟩) 4 4, .int .i64 0, N0, .int .i64 0, .string S0, .int .i64 0, .int .i64 0, .int .i64 0, .string S0, N0, N0] 34 X ∧ ElAt bl jj ee (.slice (some ⟨ge, 0, none⟩) ne ne) X) X := ⟨(unhide hT).call GD, (unhide hE).call GD⟩
        refine wpAnyH_ready (rs := [4]) (by kernel_rfl) (by simp) ?_
        refine AllReadyH.cons rfl (fun K20013 hK20013 => ?_) AllReadyH.nil
        go_simp
        go_wp2_with (go_at_call 29; refine (unhide CW _).mono ?_; rintro e X2 ⟨rfl, hb⟩)
        refine hK20013.out _ _ ?hs20013 (fun hH20013 => ?_)
        case hs20013 => exact ⟨hHeld.1.call hb, hHeld.2.call hb⟩
        clear hHeld
        have hHeld := hH20013; clear hH20013 hK20013 K20013
        refine wpAnyH_take (i := 5) (oi := ?oi20014) (v := ?v20014) ?hi20014 (by kernel_rfl) (by kernel_rfl) (by kernel_rfl) (fun _ _ _ h => h) (Or.inl ⟨?hw20014, ?hy20014⟩) (by assumption) ?rest20014
        case hi20014 => (simp only [List.getElem?_toArray, List.getElem?_cons_zero, List.getElem?_cons_succ]; rfl)
        case hw20014 => rfl
        case hy20014 => first | (intro wx hSw; go_simp; done) | (intro wx hSw; go_simp; with_reducible rfl)
        simp only [Act.put, List.setIfInBounds_toArray, List.set_cons_zero, List.set_cons_succ]
        refine wpAnyH_take (i := 6) (oi := ?oi20015) (v := ?v20015) ?hi20015 (by kernel_rfl) (by kernel_rfl) (by kernel_rfl) (fun _ _ _ h => h) (Or.inl ⟨?hw20015, ?hy20015⟩) (by assumption) ?rest20015
        case hi20015 => (simp only [List.getElem?_toArray, List.getElem?_cons_zero, List.getElem?_cons_succ]; rfl)
        case hw20015 => rfl
        case hy20015 => first | (intro wx hSw; obtain ⟨l0, e0, e1, e2, e3, e4, e5, e6⟩ := hSw.2; go_simp; done) | (intro wx hSw; obtain ⟨l0, e0, e1, e2, e3, e4, e5, e6⟩ := hSw.2; go_simp; with_reducible rfl)
        simp only [Act.put, List.setIfInBounds_toArray, List.set_cons_zero, List.set_cons_succ]
        refine unhide HOUT _ _ _ _ ?_
        exact unhide C1 _  _ (by kernel_rfl) (GD.trans (hb.mono GD.size)) 
      have C0 := hide C0
      exact unhide C0 _ _ (by kernel_rfl) (Below.refl _ _)
    have REST8 := hide REST8
    clear hk8 CH
    refine wp_region_noPanic ?_
    refine wp_region_held_drew (S := (fun X => Blk bt #[.string ⟨#[116]⟩, .slice (some ⟨gc, 0, none⟩) 4 4, .int .i64 0, N0, .int .i64 0, .string S0, .int .i64 0, .int .i64 0, .int .i64 0, .string S0, N0, N0] 34 X ∧ ElAt bl jj ee (.slice (some ⟨ge, 0, none⟩) ne ne) X)) (by kernel_rfl) (⟨(unhide hT).call (Below.refl _ _).drew, (unhide hE).call (Below.refl _ _).drew⟩) (fun hHeld => ?_)
    have hbd : Below X.heap.size X X.drew := (Below.refl _ _).drew
    replace G := hide ((unhide G).call hbd)
    replace hC := hide ((unhide hC).call hbd)
    replace hR := hide ((unhide hR).call hbd)
    replace hT := hide ((unhide hT).call hbd)
    replace hE := hide ((unhide hE).call hbd)
    replace hRE := hide ((unhide hRE).call hbd)
    clear hbd
    generalize X.drew = Wd at *
    refine wpAnyH_take (i := 0) (oi := ?oi20016) (v := ?v20016) ?hi20016 (by kernel_rfl) (by kernel_rfl) (by kernel_rfl) (fun _ _ _ h => h) (Or.inl ⟨?hw20016, ?hy20016⟩) (by assumption) ?rest20016
    case hi20016 => (simp only [List.getElem?_toArray, List.getElem?_cons_zero]; rfl)
    case hw20016 => rfl
    case hy20016 => first | (intro wx hSw; have hT := hSw.1; have t0 := Blk.cell hT 0; have t1 := Blk.cell hT 1; have t2 := Blk.cell hT 2; have t3 := Blk.cell hT 3; have t4 := Blk.cell hT 4; have t5 := Blk.cell hT 5; have t6 := Blk.cell hT 6; have t7 := Blk.cell hT 7; have t8 := Blk.cell hT 8; have t9 := Blk.cell hT 9; have t10 := Blk.cell hT 10; have t11 := Blk.cell hT 11; simp at t0 t1 t2 t3 t4 t5 t6 t7 t8 t9 t10 t11; go_simp; done) | (intro wx hSw; have hT := hSw.1; have t0 := Blk.cell hT 0; have t1 := Blk.cell hT 1; have t2 := Blk.cell hT 2; have t3 := Blk.cell hT 3; have t4 := Blk.cell hT 4; have t5 := Blk.cell hT 5; have t6 := Blk.cell hT 6; have t7 := Blk.cell hT 7; have t8 := Blk.cell hT 8; have t9 := Blk.cell hT 9; have t10 := Blk.cell hT 10; have t11 := Blk.cell hT 11; simp at t0 t1 t2 t3 t4 t5 t6 t7 t8 t9 t10 t11; go_simp; with_reducible rfl)
    simp only [Act.put, List.setIfInBounds_toArray, List.set_cons_zero, List.set_cons_succ]
    refine wpAnyH_take (i := 1) (oi := ?oi20017) (v := ?v20017) ?hi20017 (by kernel_rfl) (by kernel_rfl) (by kernel_rfl) (fun _ _ _ h => h) (Or.inl ⟨?hw20017, ?hy20017⟩) (by assumption) ?rest20017
    case hi20017 => (simp only [List.getElem?_toArray, List.getElem?_cons_zero, List.getElem?_cons_succ]; rfl)
    case hw20017 => rfl
    case hy20017 => first | (intro wx hSw; go_simp; done) | (intro wx hSw; go_simp; with_reducible rfl)
    simp only [Act.put, List.setIfInBounds_toArray, List.set_cons_zero, List.set_cons_succ]
    refine wpAnyH_take (i := 2) (oi := ?oi20018) (v := ?v20018) ?hi20018 (by kernel_rfl) (by kernel_rfl) (by kernel_rfl) (fun _ _ _ h => h) (Or.inl ⟨?hw20018, ?hy20018⟩) (by assumption) ?rest20018
    case hi20018 => (simp only [List.getElem?_toArray, List.getElem?_cons_zero, List.getElem?_cons_succ]; rfl)
    case hw20018 => rfl
    case hy20018 => first | (intro wx hSw; go_simp; done) | (intro wx hSw; go_simp; with_reducible rfl)
    simp only [Act.put, List.setIfInBounds_toArray, List.set_cons_zero, List.set_cons_succ]
    refine wpAnyH_take (i := 3) (oi := ?oi20019) (v := ?v20019) ?hi20019 (by kernel_rfl) (by kernel_rfl) (by kernel_rfl) (fun _ _ _ h => h) (Or.inl ⟨?hw20019, ?hy20019⟩) (by assumption) ?rest20019
    case hi20019 => (simp only [List.getElem?_toArray, List.getElem?_cons_zero, List.getElem?_cons_succ]; rfl)
    case hw20019 => rfl
    case hy20019 => first | (intro wx hSw; go_simp; done) | (intro wx hSw; go_simp; with_reducible rfl)
    simp only [Act.put, List.setIfInBounds_toArray, List.set_cons_zero, List.set_cons_succ]
    refine anyH_name ?_
    intro GG hin hout
    have HIN := hide hin
    have HOUT := hide hout
    clear hin hout hHeld
    have C22_ : ∀ (ac : Act) (bv : Nat) (X : World), ac = ⟨#[.int .i64 which, ac.tmps.getD 1 undef, ac.tmps.getD 2 undef, ac.tmps.getD 3 undef, ac.tmps.getD 4 undef, .pointer (some ⟨bt, 0, none⟩), .slice (some ⟨br, 0, none⟩) 4 4, ac.tmps.getD 7 undef, .slice (some ⟨bl, 0, none⟩) 6 6, .pointer (some ⟨bv, 0, none⟩), ac.tmps.getD 10 undef, ac.tmps.getD 11 undef, ac.tmps.getD 12 undef, ac.tmps.getD 13 undef, ac.tmps.getD 14 undef, ac.tmps.getD 15 undef, ac.tmps.getD 16 undef, ac.tmps.getD 17 undef, ac.tmps.getD 18 undef, ac.tmps.getD 19 undef, ac.tmps.getD 20 undef, ac.tmps.getD 21 undef, ac.tmps.getD 22 undef, ac.tmps.getD 23 undef, ac.tmps.getD 24 undef, ac.tmps.getD 25 undef, ac.tmps.getD 26 undef, ac.tmps.getD 27 undef, ac.tmps.getD 28 undef, ac.tmps.getD 29 undef, ac.tmps.getD 30 undef, ac.tmps.getD 31 undef, ac.tmps.getD 32 undef, ac.tmps.getD 33 undef, ac.tmps.getD 34 undef, ac.tmps.getD 35 undef, ac.tmps.getD 36 undef, ac.tmps.getD 37 undef, ac.tmps.getD 38 undef, ac.tmps.getD 39 undef, ac.tmps.getD 40 undef, ac.tmps.getD 41 undef, ac.tmps.getD 42 undef, ac.tmps.getD 43 undef, ac.tmps.getD 44 undef, ac.tmps.getD 45 undef, ac.tmps.getD 46 undef, ac.tmps.getD 47 undef, ac.tmps.getD 48 undef, .agg #[.string ⟨#[116]⟩, .slice (some ⟨gc, 0, none⟩) 4 4, .int .i64 0, N0, .int .i64 0, .string S0, .int .i64 0, .int .i64 0, .int .i64 0, .string S0, N0, N0], .slice (some ⟨br, 0, none⟩) 4 4, .slice (some ⟨bl, 0, none⟩) 6 6, .int .i64 which, .int .i64 (jj : Int), ac.tmps.getD 54 undef, .agg #[.int .i64 ee.k, .string ee.nm, .int .i64 ee.v.1, .int .i64 ee.v.2.1, .int .i64 ee.v.2.2.1, .string ee.v.2.2.2, (.slice (some ⟨ge, 0, none⟩) ne ne)], ac.tmps.getD 56 undef, .agg (vC Z4).toArray, .int .i64 10, ac.tmps.getD 59 undef, ac.tmps.getD 60 undef, ac.tmps.getD 61 undef, ac.tmps.getD 62 undef, ac.tmps.getD 63 undef, ac.tmps.getD 64 undef, ac.tmps.getD 65 undef, ac.tmps.getD 66 undef, ac.tmps.getD 67 undef, ac.tmps.getD 68 undef, ac.tmps.getD 69 undef, ac.tmps.getD 70 undef, ac.tmps.getD 71 undef, ac.tmps.getD 72 undef, ac.tmps.getD 73 undef, ac.tmps.getD 74 undef, ac.tmps.getD 75 undef, ac.tmps.getD 76 undef, ac.tmps.getD 77 undef, ac.tmps.getD 78 undef, ac.tmps.getD 79 undef, ac.tmps.getD 80 undef, ac.tmps.getD 81 undef], []⟩ → Below Wd.heap.size Wd X → Hid (Blk bv (vC Z4).toArray 28 X) → Hid (GeB Wd.heap.size bv X) → GG 2 #[true, true, true, true, true, true, true, true, true, true, true, true, false, false] ac X := by
      intro ac bv X ha GD rb hge
      obtain ⟨u, rfl⟩ : ∃ u : Nat → Value, ac = ⟨#[.int .i64 which, u 1, u 2, u 3, u 4, .pointer (some ⟨bt, 0, none⟩), .slice (some ⟨br, 0, none⟩) 4 4, u 7, .slice (some ⟨bl, 0, none⟩) 6 6, .pointer (some ⟨bv, 0, none⟩), u 10, u 11, u 12, u 13, u 14, u 15, u 16, u 17, u 18, u 19, u 20, u 21, u 22, u 23, u 24, u 25, u 26, u 27, u 28, u 29, u 30, u 31, u 32, u 33, u 34, u 35, u 36, u 37, u 38, u 39, u 40, u 41, u 42, u 43, u 44, u 45, u 46, u 47, u 48, .agg #[.string ⟨#[116]⟩, .slice (some ⟨gc, 0, none⟩) 4 4, .int .i64 0, N0, .int .i64 0, .string S0, .int .i64 0, .int .i64 0, .int .i64 0, .string S0, N0, N0], .slice (some ⟨br, 0, none⟩) 4 4, .slice (some ⟨bl, 0, none⟩) 6 6, .int .i64 which, .int .i64 (jj : Int), u 54, .agg #[.int .i64 ee.k, .string ee.nm, .int .i64 ee.v.1, .int .i64 ee.v.2.1, .int .i64 ee.v.2.2.1, .string ee.v.2.2.2, (.slice (some ⟨ge, 0, none⟩) ne ne)], u 56, .agg (vC Z4).toArray, .int .i64 10, u 59, u 60, u 61, u 62, u 63, u 64, u 65, u 66, u 67, u 68, u 69, u 70, u 71, u 72, u 73, u 74, u 75, u 76, u 77, u 78, u 79, u 80, u 81], []⟩ := ⟨fun i => ac.tmps.getD i undef, ha⟩
      clear ha
      refine unhide HIN _ _ _ _ ?_
      have hHeld : (fun X => Blk bt #[.string ⟨#[116]⟩, .slice (some ⟨gc, 0, none⟩) 4 4, .int .i64 0, N0, .int .i64 0, .string S0, .int .i64 0, .int .i64 0, .int .i64 0, .string S0, N0, N0] 34 X ∧ ElAt bl jj ee (.slice (some ⟨ge, 0, none⟩) ne ne) X) X := ⟨(unhide hT).call GD, (unhide hE).call GD⟩
      have rlt := (unhide rb).lt
      have rc0 := (unhide rb).cell 0
      have rf0 := (unhide rb).froz 0
      have rc1 := (unhide rb).cell 1
      have rf1 := (unhide rb).froz 1
      have rc2 := (unhide rb).cell 2
      have rf2 := (unhide rb).froz 2
      have rc3 := (unhide rb).cell 3
      have rf3 := (unhide rb).froz 3
      simp at rc0 rc1 rc2 rc3
      have hge2 : Wd.heap.size ≤ bv := unhide hge
      have GE : Below Wd.heap.size Wd ((((X.setCell ⟨bv, 0, none⟩ (.int .i64 0)).setCell ⟨bv, 1, none⟩ (.int .i64 0)).setCell ⟨bv, 2, none⟩ (.int .i64 0)).setCell ⟨bv, 3, none⟩ (.string S0)) := (((GD.setCell (p := ⟨bv, 0, none⟩) hge2 _).setCell (p := ⟨bv, 1, none⟩) hge2 _).setCell (p := ⟨bv, 2, none⟩) hge2 _).setCell (p := ⟨bv, 3, none⟩) hge2 _
      have RE : Blk bv #[.int .i64 0, .int .i64 0, .int .i64 0, .string S0] 28 ((((X.setCell ⟨bv, 0, none⟩ (.int .i64 0)).setCell ⟨bv, 1, none⟩ (.int .i64 0)).setCell ⟨bv, 2, none⟩ (.int .i64 0)).setCell ⟨bv, 3, none⟩ (.string S0)) := heapSet4 (unhide rb) _ _ _ _
      refine wpAnyH_ready (rs := [12]) (by kernel_rfl) (by simp) ?_
      refine AllReadyH.cons rfl (fun K20020 hK20020 => ?_) AllReadyH.nil
      go_simp
      refine hK20020.out _ _ ?hs20020 (fun hHeld20020 => ?_)
      case hs20020 => exact ⟨(unhide hT).call GE, (unhide hE).call GE⟩
      clear hHeld
      have hHeld := hHeld20020; clear hHeld20020 hK20020 K20020
      refine wpAnyH_take (i := 13) (oi := ?oi20021) (v := ?v20021) ?hi20021 (by kernel_rfl) (by kernel_rfl) (by kernel_rfl) (fun _ _ _ h => h) (Or.inl ⟨?hw20021, ?hy20021⟩) (by assumption) ?rest20021
      case hi20021 => (simp only [List.getElem?_toArray, List.getElem?_cons_zero, List.getElem?_cons_succ]; rfl)
      case hw20021 => rfl
      case hy20021 => first | (intro wx hSw; go_simp; done) | (intro wx hSw; go_simp; with_reducible rfl)
      simp only [Act.put, List.setIfInBounds_toArray, List.set_cons_zero, List.set_cons_succ]
      refine wpAnyH_done (by kernel_rfl) ?_ _
      refine NoPanic.normal ?_
      skip
      exact unhide REST8 _ bv _ (by kernel_rfl) (hide ((unhide G).call GE)) (hide ((unhide hC).call GE)) (hide ((unhide hR).call GE)) (hide ((unhide hT).call GE)) (hide ((unhide hE).call GE)) (hide ((unhide hRE).call GE)) (hide RE)
    have C22_ := hide C22_
    have C2 : ∀ (ac : Act) (X : World), ac = ⟨#[.int .i64 which, ac.tmps.getD 1 undef, ac.tmps.getD 2 undef, ac.tmps.getD 3 undef, ac.tmps.getD 4 undef, .pointer (some ⟨bt, 0, none⟩), .slice (some ⟨br, 0, none⟩) 4 4, ac.tmps.getD 7 undef, .slice (some ⟨bl, 0, none⟩) 6 6, ac.tmps.getD 9 undef, ac.tmps.getD 10 undef, ac.tmps.getD 11 undef, ac.tmps.getD 12 undef, ac.tmps.getD 13 undef, ac.tmps.getD 14 undef, ac.tmps.getD 15 undef, ac.tmps.getD 16 undef, ac.tmps.getD 17 undef, ac.tmps.getD 18 undef, ac.tmps.getD 19 undef, ac.tmps.getD 20 undef, ac.tmps.getD 21 undef, ac.tmps.getD 22 undef, ac.tmps.getD 23 undef, ac.tmps.getD 24 undef, ac.tmps.getD 25 undef, ac.tmps.getD 26 undef, ac.tmps.getD 27 undef, ac.tmps.getD 28 undef, ac.tmps.getD 29 undef, ac.tmps.getD 30 undef, ac.tmps.getD 31 undef, ac.tmps.getD 32 undef, ac.tmps.getD 33 undef, ac.tmps.getD 34 undef, ac.tmps.getD 35 undef, ac.tmps.getD 36 undef, ac.tmps.getD 37 undef, ac.tmps.getD 38 undef, ac.tmps.getD 39 undef, ac.tmps.getD 40 undef, ac.tmps.getD 41 undef, ac.tmps.getD 42 undef, ac.tmps.getD 43 undef, ac.tmps.getD 44 undef, ac.tmps.getD 45 undef, ac.tmps.getD 46 undef, ac.tmps.getD 47 undef, ac.tmps.getD 48 undef, .agg #[.string ⟨#[116]⟩, .slice (some ⟨gc, 0, none⟩) 4 4, .int .i64 0, N0, .int .i64 0, .string S0, .int .i64 0, .int .i64 0, .int .i64 0, .string S0, N0, N0], .slice (some ⟨br, 0, none⟩) 4 4, .slice (some ⟨bl, 0, none⟩) 6 6, .int .i64 which, .int .i64 (jj : Int), ac.tmps.getD 54 undef, .agg #[.int .i64 ee.k, .string ee.nm, .int .i64 ee.v.1, .int .i64 ee.v.2.1, .int .i64 ee.v.2.2.1, .string ee.v.2.2.2, (.slice (some ⟨ge, 0, none⟩) ne ne)], ac.tmps.getD 56 undef, .agg (vC Z4).toArray, .int .i64 10, ac.tmps.getD 59 undef, ac.tmps.getD 60 undef, ac.tmps.getD 61 undef, ac.tmps.getD 62 undef, ac.tmps.getD 63 undef, ac.tmps.getD 64 undef, ac.tmps.getD 65 undef, ac.tmps.getD 66 undef, ac.tmps.getD 67 undef, ac.tmps.getD 68 undef, ac.tmps.getD 69 undef, ac.tmps.getD 70 undef, ac.tmps.getD 71 undef, ac.tmps.getD 72 undef, ac.tmps.getD 73 undef, ac.tmps.getD 74 undef, ac.tmps.getD 75 undef, ac.tmps.getD 76 undef, ac.tmps.getD 77 undef, ac.tmps.getD 78 undef, ac.tmps.getD 79 undef, ac.tmps.getD 80 undef, ac.tmps.getD 81 undef], []⟩ → Below Wd.heap.size Wd X → GG 3 #[true, true, true, true, true, true, true, true, true, true, true, false, false, false] ac X := by
      intro ac X ha GD
      obtain ⟨u, rfl⟩ : ∃ u : Nat → Value, ac = ⟨#[.int .i64 which, u 1, u 2, u 3, u 4, .pointer (some ⟨bt, 0, none⟩), .slice (some ⟨br, 0, none⟩) 4 4, u 7, .slice (some ⟨bl, 0, none⟩) 6 6, u 9, u 10, u 11, u 12, u 13, u 14, u 15, u 16, u 17, u 18, u 19, u 20, u 21, u 22, u 23, u 24, u 25, u 26, u 27, u 28, u 29, u 30, u 31, u 32, u 33, u 34, u 35, u 36, u 37, u 38, u 39, u 40, u 41, u 42, u 43, u 44, u 45, u 46, u 47, u 48, .agg #[.string ⟨#[116]⟩, .slice (some ⟨gc, 0, none⟩) 4 4, .int .i64 0, N0, .int .i64 0, .string S0, .int .i64 0, .int .i64 0, .int .i64 0, .string S0, N0, N0], .slice (some ⟨br, 0, none⟩) 4 4, .slice (some ⟨bl, 0, none⟩) 6 6, .int .i64 which, .int .i64 (jj : Int), u 54, .agg #[.int .i64 ee.k, .string ee.nm, .int .i64 ee.v.1, .int .i64 ee.v.2.1, .int .i64 ee.v.2.2.1, .string ee.v.2.2.2, (.slice (some ⟨ge, 0, none⟩) ne ne)], u 56, .agg (vC Z4).toArray, .int .i64 10, u 59, u 60, u 61, u 62, u 63, u 64, u 65, u 66, u 67, u 68, u 69, u 70, u 71, u 72, u 73, u 74, u 75, u 76, u 77, u 78, u 79, u 80, u 81], []⟩ := ⟨fun i => ac.tmps.getD i undef, ha⟩
      clear ha
      refine unhide HIN _ _ _ _ ?_
      have hHeld : (fun X => Blk bt #[.string ⟨#[116]⟩, .slice (some ⟨gc, 0, none⟩) 4 4, .int .i64 0, N0, .int .i64 0, .string S0, .int .i64 0, .int .i64 0, .int .i64 0, .string S0, N0, N0] 34 X ∧ ElAt bl jj ee (.slice (some ⟨ge, 0, none⟩) ne ne) X) X := ⟨(unhide hT).call GD, (unhide hE).call GD⟩
      refine wpAnyH_ready (rs := [11]) (by kernel_rfl) (by simp) ?_
      refine AllReadyH.cons rfl (fun K20022 hK20022 => ?_) AllReadyH.nil
      go_simp
      have hb := below_new X (.cells (vC Z4).toArray 28)
      have rb : Hid (Blk X.heap.size (vC Z4).toArray 28 (X.alloc (.cells (vC Z4).toArray 28))) := hide (Blk.new X (vC Z4).toArray 28)
      have hge : Hid (GeB Wd.heap.size X.heap.size (X.alloc (.cells (vC Z4).toArray 28))) := hide GD.size
      refine hK20022.out _ _ ?hs20022 (fun hH20022 => ?_)
      case hs20022 => exact ⟨hHeld.1.call hb, hHeld.2.call hb⟩
      clear hHeld
      have hHeld := hH20022; clear hH20022 hK20022 K20022
      refine unhide HOUT _ _ _ _ ?_
      exact unhide C22_ _ _ _ (by kernel_rfl) (GD.trans (hb.mono GD.size)) rb hge
    have C2 := hide C2
    have C12_ : ∀ (ac : Act) (bv : Nat) (X : World), ac = ⟨#[.int .i64 which, ac.tmps.getD 1 undef, ac.tmps.getD 2 undef, ac.tmps.getD 3 undef, ac.tmps.getD 4 undef, .pointer (some ⟨bt, 0, none⟩), .slice (some ⟨br, 0, none⟩) 4 4, ac.tmps.getD 7 undef, .slice (some ⟨bl, 0, none⟩) 6 6, .pointer (some ⟨bv, 0, none⟩), ac.tmps.getD 10 undef, ac.tmps.getD 11 undef, ac.tmps.getD 12 undef, ac.tmps.getD 13 undef, ac.tmps.getD 14 undef, ac.tmps.getD 15 undef, ac.tmps.getD 16 undef, ac.tmps.getD 17 undef, ac.tmps.getD 18 undef, ac.tmps.getD 19 undef, ac.tmps.getD 20 undef, ac.tmps.getD 21 undef, ac.tmps.getD 22 undef, ac.tmps.getD 23 undef, ac.tmps.getD 24 undef, ac.tmps.getD 25 undef, ac.tmps.getD 26 undef, ac.tmps.getD 27 undef, ac.tmps.getD 28 undef, ac.tmps.getD 29 undef, ac.tmps.getD 30 undef, ac.tmps.getD 31 undef, ac.tmps.getD 32 undef, ac.tmps.getD 33 undef, ac.tmps.getD 34 undef, ac.tmps.getD 35 undef, ac.tmps.getD 36 undef, ac.tmps.getD 37 undef, ac.tmps.getD 38 undef, ac.tmps.getD 39 undef, ac.tmps.getD 40 undef, ac.tmps.getD 41 undef, ac.tmps.getD 42 undef, ac.tmps.getD 43 undef, ac.tmps.getD 44 undef, ac.tmps.getD 45 undef, ac.tmps.getD 46 undef, ac.tmps.getD 47 undef, ac.tmps.getD 48 undef, .agg #[.string ⟨#[116]⟩, .slice (some ⟨gc, 0, none⟩) 4 4, .int .i64 0, N0, .int .i64 0, .string S0, .int .i64 0, .int .i64 0, .int .i64 0, .string S0, N0, N0], .slice (some ⟨br, 0, none⟩) 4 4, .slice (some ⟨bl, 0, none⟩) 6 6, .int .i64 which, .int .i64 (jj : Int), ac.tmps.getD 54 undef, .agg #[.int .i64 ee.k, .string ee.nm, .int .i64 ee.v.1, .int .i64 ee.v.2.1, .int .i64 ee.v.2.2.1, .string ee.v.2.2.2, (.slice (some ⟨ge, 0, none⟩) ne ne)], ac.tmps.getD 56 undef, ac.tmps.getD 57 undef, ac.tmps.getD 58 undef, ac.tmps.getD 59 undef, ac.tmps.getD 60 undef, ac.tmps.getD 61 undef, ac.tmps.getD 62 undef, ac.tmps.getD 63 undef, ac.tmps.getD 64 undef, ac.tmps.getD 65 undef, ac.tmps.getD 66 undef, ac.tmps.getD 67 undef, ac.tmps.getD 68 undef, ac.tmps.getD 69 undef, ac.tmps.getD 70 undef, ac.tmps.getD 71 undef, ac.tmps.getD 72 undef, ac.tmps.getD 73 undef, ac.tmps.getD 74 undef, ac.tmps.getD 75 undef, ac.tmps.getD 76 undef, ac.tmps.getD 77 undef, ac.tmps.getD 78 undef, ac.tmps.getD 79 undef, ac.tmps.getD 80 undef, ac.tmps.getD 81 undef], []⟩ → Below Wd.heap.size Wd X → Hid (Blk bv (vC Z4).toArray 28 X) → Hid (GeB Wd.heap.size bv X) → GG 6 #[true, true, true, true, true, true, true, false, false, false, false, true, false, false] ac X := by
      intro ac bv X ha GD rb hge
      obtain ⟨u, rfl⟩ : ∃ u : Nat → Value, ac = ⟨#[.int .i64 which, u 1, u 2, u 3, u 4, .pointer (some ⟨bt, 0, none⟩), .slice (some ⟨br, 0, none⟩) 4 4, u 7, .slice (some ⟨bl, 0, none⟩) 6 6, .pointer (some ⟨bv, 0, none⟩), u 10, u 11, u 12, u 13, u 14, u 15, u 16, u 17, u 18, u 19, u 20, u 21, u 22, u 23, u 24, u 25, u 26, u 27, u 28, u 29, u 30, u 31, u 32, u 33, u 34, u 35, u 36, u 37, u 38, u 39, u 40, u 41, u 42, u 43, u 44, u 45, u 46, u 47, u 48, .agg #[.string ⟨#[116]⟩, .slice (some ⟨gc, 0, none⟩) 4 4, .int .i64 0, N0, .int .i64 0, .string S0, .int .i64 0, .int .i64 0, .int .i64 0, .string S0, N0, N0], .slice (some ⟨br, 0, none⟩) 4 4, .slice (some ⟨bl, 0, none⟩) 6 6, .int .i64 which, .int .i64 (jj : Int), u 54, .agg #[.int .i64 ee.k, .string ee.nm, .int .i64 ee.v.1, .int .i64 ee.v.2.1, .int .i64 ee.v.2.2.1, .string ee.v.2.2.2, (.slice (some ⟨ge, 0, none⟩) ne ne)], u 56, u 57, u 58, u 59, u 60, u 61, u 62, u 63, u 64, u 65, u 66, u 67, u 68, u 69, u 70, u 71, u 72, u 73, u 74, u 75, u 76, u 77, u 78, u 79, u 80, u 81], []⟩ := ⟨fun i => ac.tmps.getD i undef, ha⟩
      clear ha
      refine unhide HIN _ _ _ _ ?_
      have hHeld : (fun X => Blk bt #[.string ⟨#[116]⟩, .slice (some ⟨gc, 0, none⟩) 4 4, .int .i64 0, N0, .int .i64 0, .string S0, .int .i64 0, .int .i64 0, .int .i64 0, .string S0, N0, N0] 34 X ∧ ElAt bl jj ee (.slice (some ⟨ge, 0, none⟩) ne ne) X) X := ⟨(unhide hT).call GD, (unhide hE).call GD⟩
      refine wpAnyH_ready (rs := [7]) (by kernel_rfl) (by simp) ?_
      refine AllReadyH.cons rfl (fun K20023 hK20023 => ?_) AllReadyH.nil
      go_simp
      go_wp2_with (go_at_call 19; refine (unhide CE _ ((unhide hC).call GD) ((unhide hR).call GD) ((unhide hRE).call GD)).mono ?_; rintro e X2 ⟨rfl, hb⟩)
      refine hK20023.out _ _ ?hs20023 (fun hH20023 => ?_)
      case hs20023 => exact ⟨hHeld.1.call hb, hHeld.2.call hb⟩
      clear hHeld
      have hHeld := hH20023; clear hH20023 hK20023 K20023
      refine wpAnyH_take (i := 8) (oi := ?oi20024) (v := ?v20024) ?hi20024 (by kernel_rfl) (by kernel_rfl) (by kernel_rfl) (fun _ _ _ h => h) (Or.inl ⟨?hw20024, ?hy20024⟩) (by assumption) ?rest20024
      case hi20024 => (simp only [List.getElem?_toArray, List.getElem?_cons_zero, List.getElem?_cons_succ]; rfl)
      case hw20024 => rfl
      case hy20024 => first | (intro wx hSw; go_simp; done) | (intro wx hSw; go_simp; with_reducible rfl)
      simp only [Act.put, List.setIfInBounds_toArray, List.set_cons_zero, List.set_cons_succ]
      refine wpAnyH_take (i := 9) (oi := ?oi20025) (v := ?v20025) ?hi20025 (by kernel_rfl) (by kernel_rfl) (by kernel_rfl) (fun _ _ _ h => h) (Or.inl ⟨?hw20025, ?hy20025⟩) (by assumption) ?rest20025
      case hi20025 => (simp only [List.getElem?_toArray, List.getElem?_cons_zero, List.getElem?_cons_succ]; rfl)
      case hw20025 => rfl
      case hy20025 => first | (intro wx hSw; go_simp; done) | (intro wx hSw; go_simp; with_reducible rfl)
      simp only [Act.put, List.setIfInBounds_toArray, List.set_cons_zero, List.set_cons_succ]
      refine wpAnyH_take (i := 10) (oi := ?oi20026) (v := ?v20026) ?hi20026 (by kernel_rfl) (by kernel_rfl) (by kernel_rfl) (fun _ _ _ h => h) (Or.inl ⟨?hw20026, ?hy20026⟩) (by assumption) ?rest20026
      case hi20026 => (simp only [List.getElem?_toArray, List.getElem?_cons_zero, List.getElem?_cons_succ]; rfl)
      case hw20026 => rfl
      case hy20026 => first | (intro wx hSw; go_simp; done) | (intro wx hSw; go_simp; with_reducible rfl)
      simp only [Act.put, List.setIfInBounds_toArray, List.set_cons_zero, List.set_cons_succ]
      refine unhide HOUT _ _ _ _ ?_
      exact unhide C22_ _ bv _ (by kernel_rfl) (GD.trans (hb.mono GD.size)) (hide ((unhide rb).call hb)) (hide ((unhide hge).call hb))
    have C12_ := hide C12_
    have C1 : ∀ (ac : Act) (X : World), ac = ⟨#[.int .i64 which, ac.tmps.getD 1 undef, ac.tmps.getD 2 undef, ac.tmps.getD 3 undef, ac.tmps.getD 4 undef, .pointer (some ⟨bt, 0, none⟩), .slice (some ⟨br, 0, none⟩) 4 4, ac.tmps.getD 7 undef, .slice (some ⟨bl, 0, none⟩) 6 6, ac.tmps.getD 9 undef, ac.tmps.getD 10 undef, ac.tmps.getD 11 undef, ac.tmps.getD 12 undef, ac.tmps.getD 13 undef, ac.tmps.getD 14 undef, ac.tmps.getD 15 undef, ac.tmps.getD 16 undef, ac.tmps.getD 17 undef, ac.tmps.getD 18 undef, ac.tmps.getD 19 undef, ac.tmps.getD 20 undef, ac.tmps.getD 21 undef, ac.tmps.getD 22 undef, ac.tmps.getD 23 undef, ac.tmps.getD 24 undef, ac.tmps.getD 25 undef, ac.tmps.getD 26 undef, ac.tmps.getD 27 undef, ac.tmps.getD 28 undef, ac.tmps.getD 29 undef, ac.tmps.getD 30 undef, ac.tmps.getD 31 undef, ac.tmps.getD 32 undef, ac.tmps.getD 33 undef, ac.tmps.getD 34 undef, ac.tmps.getD 35 undef, ac.tmps.getD 36 undef, ac.tmps.getD 37 undef, ac.tmps.getD 38 undef, ac.tmps.getD 39 undef, ac.tmps.getD 40 undef, ac.tmps.getD 41 undef, ac.tmps.getD 42 undef, ac.tmps.getD 43 undef, ac.tmps.getD 44 undef, ac.tmps.getD 45 undef, ac.tmps.getD 46 undef, ac.tmps.getD 47 undef, ac.tmps.getD 48 undef, .agg #[.string ⟨#[116]⟩, .slice (some ⟨gc, 0, none⟩) 4 4, .int .i64 0, N0, .int .i64 0, .string S0, .int .i64 0, .int .i64 0, .int .i64 0, .string S0, N0, N0], .slice (some ⟨br, 0, none⟩) 4 4, .slice (some ⟨bl, 0, none⟩) 6 6, .int .i64 which, .int .i64 (jj : Int), ac.tmps.getD 54 undef, .agg #[.int .i64 ee.k, .string ee.nm, .int .i64 ee.v.1, .int .i64 ee.v.2.1, .int .i64 ee.v.2.2.1, .string ee.v.2.2.2, (.slice (some ⟨ge, 0, none⟩) ne ne)], ac.tmps.getD 56 undef, ac.tmps.getD 57 undef, ac.tmps.getD 58 undef, ac.tmps.getD 59 undef, ac.tmps.getD 60 undef, ac.tmps.getD 61 undef, ac.tmps.getD 62 undef, ac.tmps.getD 63 undef, ac.tmps.getD 64 undef, ac.tmps.getD 65 undef, ac.tmps.getD 66 undef, ac.tmps.getD 67 undef, ac.tmps.getD 68 undef, ac.tmps.getD 69 undef, ac.tmps.getD 70 undef, ac.tmps.getD 71 undef, ac.tmps.getD 72 undef, ac.tmps.getD 73 undef, ac.tmps.getD 74 undef, ac.tmps.getD 75 undef, ac.tmps.getD 76 undef, ac.tmps.getD 77 undef, ac.tmps.getD 78 undef, ac.tmps.getD 79 undef, ac.tmps.getD 80 undef, ac.tmps.getD 81 undef], []⟩ → Below Wd.heap.size Wd X → GG 7 #[true, true, true, true, true, true, true, false, false, false, false, false, false, false] ac X := by
      intro ac X ha GD
      obtain ⟨u, rfl⟩ : ∃ u : Nat → Value, ac = ⟨#[.int .i64 which, u 1, u 2, u 3, u 4, .pointer (some ⟨bt, 0, none⟩), .slice (some ⟨br, 0, none⟩) 4 4, u 7, .slice (some ⟨bl, 0, none⟩) 6 6, u 9, u 10, u 11, u 12, u 13, u 14, u 15, u 16, u 17, u 18, u 19, u 20, u 21, u 22, u 23, u 24, u 25, u 26, u 27, u 28, u 29, u 30, u 31, u 32, u 33, u 34, u 35, u 36, u 37, u 38, u 39, u 40, u 41, u 42, u 43, u 44, u 45, u 46, u 47, u 48, .agg #[.string ⟨#[116]⟩, .slice (some ⟨gc, 0, none⟩) 4 4, .int .i64 0, N0, .int .i64 0, .string S0, .int .i64 0, .int .i64 0, .int .i64 0, .string S0, N0, N0], .slice (some ⟨br, 0, none⟩) 4 4, .slice (some ⟨bl, 0, none⟩) 6 6, .int .i64 which, .int .i64 (jj : Int), u 54, .agg #[.int .i64 ee.k, .string ee.nm, .int .i64 ee.v.1, .int .i64 ee.v.2.1, .int .i64 ee.v.2.2.1, .string ee.v.2.2.2, (.slice (some ⟨ge, 0, none⟩) ne ne)], u 56, u 57, u 58, u 59, u 60, u 61, u 62, u 63, u 64, u 65, u 66, u 67, u 68, u 69, u 70, u 71, u 72, u 73, u 74, u 75, u 76, u 77, u 78, u 79, u 80, u 81], []⟩ := ⟨fun i => ac.tmps.getD i undef, ha⟩
      clear ha
      refine unhide HIN _ _ _ _ ?_
      have hHeld : (fun X => Blk bt #[.string ⟨#[116]⟩, .slice (some ⟨gc, 0, none⟩) 4 4, .int .i64 0, N0, .int .i64 0, .string S0, .int .i64 0, .int .i64 0, .int .i64 0, .string S0, N0, N0] 34 X ∧ ElAt bl jj ee (.slice (some ⟨ge, 0, none⟩) ne ne) X) X := ⟨(unhide hT).call GD, (unhide hE).call GD⟩
      refine wpAnyH_ready (rs := [7, 11]) (by kernel_rfl) (by simp) ?_
      refine AllReadyH.cons rfl (fun K20027 hK20027 => ?_) ?_
      · go_simp
        go_wp2_with (go_at_call 19; refine (unhide CE _ ((unhide hC).call GD) ((unhide hR).call GD) ((unhide hRE).call GD)).mono ?_; rintro e X2 ⟨rfl, hb⟩)
        refine hK20027.out _ _ ?hs20027 (fun hH20027 => ?_)
        case hs20027 => exact ⟨hHeld.1.call hb, hHeld.2.call hb⟩
        clear hHeld
        have hHeld := hH20027; clear hH20027 hK20027 K20027
        refine wpAnyH_take (i := 8) (oi := ?oi20028) (v := ?v20028) ?hi20028 (by kernel_rfl) (by kernel_rfl) (by kernel_rfl) (fun _ _ _ h => h) (Or.inl ⟨?hw20028, ?hy20028⟩) (by assumption) ?rest20028
        case hi20028 => (simp only [List.getElem?_toArray, List.getElem?_cons_zero, List.getElem?_cons_succ]; rfl)
        case hw20028 => rfl
        case hy20028 => first | (intro wx hSw; go_simp; done) | (intro wx hSw; go_simp; with_reducible rfl)
        simp only [Act.put, List.setIfInBounds_toArray, List.set_cons_zero, List.set_cons_succ]
        refine wpAnyH_take (i := 9) (oi := ?oi20029) (v := ?v20029) ?hi20029 (by kernel_rfl) (by kernel_rfl) (by kernel_rfl) (fun _ _ _ h => h) (Or.inl ⟨?hw20029, ?hy20029⟩) (by assumption) ?rest20029
        case hi20029 => (simp only [List.getElem?_toArray, List.getElem?_cons_zero, List.getElem?_cons_succ]; rfl)
        case hw20029 => rfl
        case hy20029 => first | (intro wx hSw; go_simp; done) | (intro wx hSw; go_simp; with_reducible rfl)
        simp only [Act.put, List.setIfInBounds_toArray, List.set_cons_zero, List.set_cons_succ]
        refine wpAnyH_take (i := 10) (oi := ?oi20030) (v := ?v20030) ?hi20030 (by kernel_rfl) (by kernel_rfl) (by kernel_rfl) (fun _ _ _ h => h) (Or.inl ⟨?hw20030, ?hy20030⟩) (by assumption) ?rest20030
        case hi20030 => (simp only [List.getElem?_toArray, List.getElem?_cons_zero, List.getElem?_cons_succ]; rfl)
        case hw20030 => rfl
        case hy20030 => first | (intro wx hSw; go_simp; done) | (intro wx hSw; go_simp; with_reducible rfl)
        simp only [Act.put, List.setIfInBounds_toArray, List.set_cons_zero, List.set_cons_succ]
        refine unhide HOUT _ _ _ _ ?_
        exact unhide C2 _  _ (by kernel_rfl) (GD.trans (hb.mono GD.size)) 
      refine AllReadyH.cons rfl (fun K20031 hK20031 => ?_) AllReadyH.nil
      · go_simp
        have hb := below_new X (.cells (vC Z4).toArray 28)
        have rb : Hid (Blk X.heap.size (vC Z4).toArray 28 (X.alloc (.cells (vC Z4).toArray 28))) := hide (Blk.new X (vC Z4).toArray 28)
        have hge : Hid (GeB Wd.heap.size X.heap.size (X.alloc (.cells (vC Z4).toArray 28))) := hide GD.size
        refine hK20031.out _ _ ?hs20031 (fun hH20031 => ?_)
        case hs20031 => exact ⟨hHeld.1.call hb, hHeld.2.call hb⟩
        clear hHeld
        have hHeld := hH20031; clear hH20031 hK20031 K20031
        refine unhide HOUT _ _ _ _ ?_
        exact unhide C12_ _ _ _ (by kernel_rfl) (GD.trans (hb.mono GD.size)) rb hge
    have C1 := hide C1
    have C02_ : ∀ (ac : Act) (bv : Nat) (X : World), ac = ⟨#[.int .i64 which, ac.tmps.getD 1 undef, ac.tmps.getD 2 undef, ac.tmps.getD 3 undef, ac.tmps.getD 4 undef, .pointer (some ⟨bt, 0, none⟩), .slice (some ⟨br, 0, none⟩) 4 4, ac.tmps.getD 7 undef, .slice (some ⟨bl, 0, none⟩) 6 6, .pointer (some ⟨bv, 0, none⟩), ac.tmps.getD 10 undef, ac.tmps.getD 11 undef, ac.tmps.getD 12 undef, ac.tmps.getD 13 undef, ac.tmps.getD 14 undef, ac.tmps.getD 15 undef, ac.tmps.getD 16 undef, ac.tmps.getD 17 undef, ac.tmps.getD 18 undef, ac.tmps.getD 19 undef, ac.tmps.getD 20 undef, ac.tmps.getD 21 undef, ac.tmps.getD 22 undef, ac.tmps.getD 23 undef, ac.tmps.getD 24 undef, ac.tmps.getD 25 undef, ac.tmps.getD 26 undef, ac.tmps.getD 27 undef, ac.tmps.getD 28 undef, ac.tmps.getD 29 undef, ac.tmps.getD 30 undef, ac.tmps.getD 31 undef, ac.tmps.getD 32 undef, ac.tmps.getD 33 undef, ac.tmps.getD 34 undef, ac.tmps.getD 35 undef, ac.tmps.getD 36 undef, ac.tmps.getD 37 undef, ac.tmps.getD 38 undef, ac.tmps.getD 39 undef, ac.tmps.getD 40 undef, ac.tmps.getD 41 undef, ac.tmps.getD 42 undef, ac.tmps.getD 43 undef, ac.tmps.getD 44 undef, ac.tmps.getD 45 undef, ac.tmps.getD 46 undef, ac.tmps.getD 47 undef, ac.tmps.getD 48 undef, .agg #[.string ⟨#[116]⟩, .slice (some ⟨gc, 0, none⟩) 4 4, .int .i64 0, N0, .int .i64 0, .string S0, .int .i64 0, .int .i64 0, .int .i64 0, .string S0, N0, N0], .slice (some ⟨br, 0, none⟩) 4 4, .slice (some ⟨bl, 0, none⟩) 6 6, .int .i64 which, ac.tmps.getD 53 undef, ac.tmps.getD 54 undef, ac.tmps.getD 55 undef, ac.tmps.getD 56 undef, ac.tmps.getD 57 undef, ac.tmps.getD 58 undef, ac.tmps.getD 59 undef, ac.tmps.getD 60 undef, ac.tmps.getD 61 undef, ac.tmps.getD 62 undef, ac.tmps.getD 63 undef, ac.tmps.getD 64 undef, ac.tmps.getD 65 undef, ac.tmps.getD 66 undef, ac.tmps.getD 67 undef, ac.tmps.getD 68 undef, ac.tmps.getD 69 undef, ac.tmps.getD 70 undef, ac.tmps.getD 71 undef, ac.tmps.getD 72 undef, ac.tmps.getD 73 undef, ac.tmps.getD 74 undef, ac.tmps.getD 75 undef, ac.tmps.getD 76 undef, ac.tmps.getD 77 undef, ac.tmps.getD 78 undef, ac.tmps.getD 79 undef, ac.tmps.getD 80 undef, ac.tmps.getD 81 undef], []⟩ → Below Wd.heap.size Wd X → Hid (Blk bv (vC Z4).toArray 28 X) → Hid (GeB Wd.heap.size bv X) → GG 9 #[true, true, true, true, false, false, false, false, false, false, false, true, false, false] ac X := by
      intro ac bv X ha GD rb hge
      obtain ⟨u, rfl⟩ : ∃ u : Nat → Value, ac = ⟨#[.int .i64 which, u 1, u 2, u 3, u 4, .pointer (some ⟨bt, 0, none⟩), .slice (some ⟨br, 0, none⟩) 4 4, u 7, .slice (some ⟨bl, 0, none⟩) 6 6, .pointer (some ⟨bv, 0, none⟩), u 10, u 11, u 12, u 13, u 14, u 15, u 16, u 17, u 18, u 19, u 20, u 21, u 22, u 23, u 24, u 25, u 26, u 27, u 28, u 29, u 30, u 31, u 32, u 33, u 34, u 35, u 36, u 37, u 38, u 39, u 40, u 41, u 42, u 43, u 44, u 45, u 46, u 47, u 48, .agg #[.string ⟨#[116]⟩, .slice (some ⟨gc, 0, none⟩) 4 4, .int .i64 0, N0, .int .i64 0, .string S0, .int .i64 0, .int .i64 0, .int .i64 0, .string S0, N0, N0], .slice (some ⟨br, 0, none⟩) 4 4, .slice (some ⟨bl, 0, none⟩) 6 6, .int .i64 which, u 53, u 54, u 55, u 56, u 57, u 58, u 59, u 60, u 61, u 62, u 63, u 64, u 65, u 66, u 67, u 68, u 69, u 70, u 71, u 72, u 73, u 74, u 75, u 76, u 77, u 78, u 79, u 80, u 81], []⟩ := ⟨fun i => ac.tmps.getD i undef, ha⟩
      clear ha
      refine unhide HIN _ _ _ _ ?_
      have hHeld : (fun X => Blk bt #[.string ⟨#[116]⟩, .slice (some ⟨gc, 0, none⟩) 4 4, .int .i64 0, N0, .int .i64 0, .string S0, .int .i64 0, .int .i64 0, .int .i64 0, .string S0, N0, N0] 34 X ∧ ElAt bl jj ee (.slice (some ⟨ge, 0, none⟩) ne ne) X) X := ⟨(unhide hT).call GD, (unhide hE).call GD⟩
      refine wpAnyH_ready (rs := [4]) (by kernel_rfl) (by simp) ?_
      refine AllReadyH.cons rfl (fun K20032 hK20032 => ?_) AllReadyH.nil
      go_simp
      go_wp2_with (go_at_call 29; refine (unhide CW _).mono ?_; rintro e X2 ⟨rfl, hb⟩)
      refine hK20032.out _ _ ?hs20032 (fun hH20032 => ?_)
      case hs20032 => exact ⟨hHeld.1.call hb, hHeld.2.call hb⟩
      clear hHeld
      have hHeld := hH20032; clear hH20032 hK20032 K20032
      refine wpAnyH_take (i := 5) (oi := ?oi20033) (v := ?v20033) ?hi20033 (by kernel_rfl) (by kernel_rfl) (by kernel_rfl) (fun _ _ _ h => h) (Or.inl ⟨?hw20033, ?hy20033⟩) (by assumption) ?rest20033
      case hi20033 => (simp only [List.getElem?_toArray, List.getElem?_cons_zero, List.getElem?_cons_succ]; rfl)
      case hw20033 => rfl
      case hy20033 => first | (intro wx hSw; go_simp; done) | (intro wx hSw; go_simp; with_reducible rfl)
      simp only [Act.put, List.setIfInBounds_toArray, List.set_cons_zero, List.set_cons_succ]
      refine wpAnyH_take (i := 6) (oi := ?oi20034) (v := ?v20034) ?hi20034 (by kernel_rfl) (by kernel_rfl) (by kernel_rfl) (fun _ _ _ h => h) (Or.inl ⟨?hw20034, ?hy20034⟩) (by assumption) ?rest20034
      case hi20034 => (simp only [List.getElem?_toArray, List.getElem?_cons_zero, List.getElem?_cons_succ]; rfl)
      case hw20034 => rfl
      case hy20034 => first | (intro wx hSw; obtain ⟨l0, e0, e1, e2, e3, e4, e5, e6⟩ := hSw.2; go_simp; done) | (intro wx hSw; obtain ⟨l0, e0, e1, e2, e3, e4, e5, e6⟩ := hSw.2; go_simp; with_reducible rfl)
      simp only [Act.put, List.setIfInBounds_toArray, List.set_cons_zero, List.set_cons_succ]
      refine unhide HOUT _ _ _ _ ?_
      exact unhide C12_ _ bv _ (by kernel_rfl) (GD.trans (hb.mono GD.size)) (hide ((unhide rb).call hb)) (hide ((unhide hge).call hb))
    have C02_ := hide C02_
    have C0 : ∀ (ac : Act) (X : World), ac = ⟨#[.int .i64 which, ac.tmps.getD 1 undef, ac.tmps.getD 2 undef, ac.tmps.getD 3 undef, ac.tmps.getD 4 undef, .pointer (some ⟨bt, 0, none⟩), .slice (some ⟨br, 0, none⟩) 4 4, ac.tmps.getD 7 undef, .slice (some ⟨bl, 0, none⟩) 6 6, ac.tmps.getD 9 undef, ac.tmps.getD 10 undef, ac.tmps.getD 11 undef, ac.tmps.getD 12 undef, ac.tmps.getD 13 undef, ac.tmps.getD 14 undef, ac.tmps.getD 15 undef, ac.tmps.getD 16 undef, ac.tmps.getD 17 undef, ac.tmps.getD 18 undef, ac.tmps.getD 19 undef, ac.tmps.getD 20 undef, ac.tmps.getD 21 undef, ac.tmps.getD 22 undef, ac.tmps.getD 23 undef, ac.tmps.getD 24 undef, ac.tmps.getD 25 undef, ac.tmps.getD 26 undef, ac.tmps.getD 27 undef, ac.tmps.getD 28 undef, ac.tmps.getD 29 undef, ac.tmps.getD 30 undef, ac.tmps.getD 31 undef, ac.tmps.getD 32 undef, ac.tmps.getD 33 undef, ac.tmps.getD 34 undef, ac.tmps.getD 35 undef, ac.tmps.getD 36 undef, ac.tmps.getD 37 undef, ac.tmps.getD 38 undef, ac.tmps.getD 39 undef, ac.tmps.getD 40 undef, ac.tmps.getD 41 undef, ac.tmps.getD 42 undef, ac.tmps.getD 43 undef, ac.tmps.getD 44 undef, ac.tmps.getD 45 undef, ac.tmps.getD 46 undef, ac.tmps.getD 47 undef, ac.tmps.getD 48 undef, .agg #[.string ⟨#[116]⟩, .slice (some ⟨gc, 0, none⟩) 4 4, .int .i64 0, N0, .int .i64 0, .string S0, .int .i64 0, .int .i64 0, .int .i64 0, .string S0, N0, N0], .slice (some ⟨br, 0, none⟩) 4 4, .slice (some ⟨bl, 0, none⟩) 6 6, .int .i64 which, ac.tmps.getD 53 undef, ac.tmps.getD 54 undef, ac.tmps.getD 55 undef, ac.tmps.getD 56 undef, ac.tmps.getD 57 undef, ac.tmps.getD 58 undef, ac.tmps.getD 59 undef, ac.tmps.getD 60 undef, ac.tmps.getD 61 undef, ac.tmps.getD 62 undef, ac.tmps.getD 63 undef, ac.tmps.getD 64 undef, ac.tmps.getD 65 undef, ac.tmps.getD 66 undef, ac.tmps.getD 67 undef, ac.tmps.getD 68 undef, ac.tmps.getD 69 undef, ac.tmps.getD 70 undef, ac.tmps.getD 71 undef, ac.tmps.getD 72 undef, ac.tmps.getD 73 undef, ac.tmps.getD 74 undef, ac.tmps.getD 75 undef, ac.tmps.getD 76 undef, ac.tmps.getD 77 undef, ac.tmps.getD 78 undef, ac.tmps.getD 79 undef, ac.tmps.getD 80 undef, ac.tmps.getD 81 undef], []⟩ → Below Wd.heap.size Wd X → GG 10 #[true, true, true, true, false, false, false, false, false, false, false, false, false, false] ac X := by
      intro ac X ha GD
      obtain ⟨u, rfl⟩ : ∃ u : Nat → Value, ac = ⟨#[.int .i64 which, u 1, u 2, u 3, u 4, .pointer (some ⟨bt, 0, none⟩), .slice (some ⟨br, 0, none⟩) 4 4, u 7, .slice (some ⟨bl, 0, none⟩) 6 6, u 9, u 10, u 11, u 12, u 13, u 14, u 15, u 16, u 17, u 18, u 19, u 20, u 21, u 22, u 23, u 24, u 25, u 26, u 27, u 28, u 29, u 30, u 31, u 32, u 33, u 34, u 35, u 36, u 37, u 38, u 39, u 40, u 41, u 42, u 43, u 44, u 45, u 46, u 47, u 48, .agg #[.string ⟨#[116]⟩, .slice (some ⟨gc, 0, none⟩) 4 4, .int .i64 0, N0, .int .i64 0, .string S0, .int .i64 0, .int .i64 0, .int .i64 0, .string S0, N0, N0], .slice (some ⟨br, 0, none⟩) 4 4, .slice (some ⟨bl, 0, none⟩) 6 6, .int .i64 which, u 53, u 54, u 55, u 56, u 57, u 58, u 59, u 60, u 61, u 62, u 63, u 64, u 65, u 66, u 67, u 68, u 69, u 70, u 71, u 72, u 73, u 74, u 75, u 76, u 77, u 78, u 79, u 80, u 81], []⟩ := ⟨fun i => ac.tmps.getD i undef, ha⟩
      clear ha
      refine unhide HIN _ _ _ _ ?_
      have hHeld : (fun X => Blk bt #[.string ⟨#[116]⟩, .slice (some ⟨gc, 0, none⟩) 4 4, .int .i64 0, N0, .int .i64 0, .string S0, .int .i64 0, .int .i64 0, .int .i64 0, .string S0, N0, N0] 34 X ∧ ElAt bl jj ee (.slice (some ⟨ge, 0, none⟩) ne ne) X) X := ⟨(unhide hT).call GD, (unhide hE).call GD⟩
      refine wpAnyH_ready (rs := [4, 11]) (by kernel_rfl) (by simp) ?_
      refine AllReadyH.cons rfl (fun K20035 hK20035 => ?_) ?_
      · go_simp
        go_wp2_with (go_at_call 29; refine (unhide CW _).mono ?_; rintro e X2 ⟨rfl, hb⟩)
        refine hK20035.out _ _ ?hs20035 (fun hH20035 => ?_)
        case hs20035 => exact ⟨hHeld.1.call hb, hHeld.2.call hb⟩
        clear hHeld
        have hHeld := hH20035; clear hH20035 hK20035 K20035
        refine wpAnyH_take (i := 5) (oi := ?oi20036) (v := ?v20036) ?hi20036 (by kernel_rfl) (by kernel_rfl) (by kernel_rfl) (fun _ _ _ h => h) (Or.inl ⟨?hw20036, ?hy20036⟩) (by assumption) ?rest20036
        case hi20036 => (simp only [List.getElem?_toArray, List.getElem?_cons_zero, List.getElem?_cons_succ]; rfl)
        case hw20036 => rfl
        case hy20036 => first | (intro wx hSw; go_simp; done) | (intro wx hSw; go_simp; with_reducible rfl)
        simp only [Act.put, List.setIfInBounds_toArray, List.set_cons_zero, List.set_cons_succ]
        refine wpAnyH_take (i := 6) (oi := ?oi20037) (v := ?v20037) ?hi20037 (by kernel_rfl) (by kernel_rfl) (by kernel_rfl) (fun _ _ _ h => h) (Or.inl ⟨?hw20037, ?hy20037⟩) (by assumption) ?rest20037
        case hi20037 => (simp only [List.getElem?_toArray, List.getElem?_cons_zero, List.getElem?_cons_succ]; rfl)
        case hw20037 => rfl
        case hy20037 => first | (intro wx hSw; obtain ⟨l0, e0, e1, e2, e3, e4, e5, e6⟩ := hSw.2; go_simp; done) | (intro wx hSw; obtain ⟨l0, e0, e1, e2, e3, e4, e5, e6⟩ := hSw.2; go_simp; with_reducible rfl)
        simp only [Act.put, List.setIfInBounds_toArray, List.set_cons_zero, List.set_cons_succ]
        refine unhide HOUT _ _ _ _ ?_
        exact unhide C1 _  _ (by kernel_rfl) (GD.trans (hb.mono GD.size)) 
      refine AllReadyH.cons rfl (fun K20038 hK20038 => ?_) AllReadyH.nil
      · go_simp
        have hb := below_new X (.cells (vC Z4).toArray 28)
        have rb : Hid (Blk X.heap.size (vC Z4).toArray 28 (X.alloc (.cells (vC Z4).toArray 28))) := hide (Blk.new X (vC Z4).toArray 28)
        have hge : Hid (GeB Wd.heap.size X.heap.size (X.alloc (.cells (vC Z4).toArray 28))) := hide GD.size
        refine hK20038.out _ _ ?hs20038 (fun hH20038 => ?_)
        case hs20038 => exact ⟨hHeld.1.call hb, hHeld.2.call hb⟩
        clear hHeld
        have hHeld := hH20038; clear hH20038 hK20038 K20038
        refine unhide HOUT _ _ _ _ ?_
        exact unhide C02_ _ _ _ (by kernel_rfl) (GD.trans (hb.mono GD.size)) rb hge
    have C0 := hide C0
    exact unhide C0 _ _ (by kernel_rfl) (Below.refl _ _)
  have REST7 := hide REST7
  clear hk7 CW hOK
  refine wp_region_noPanic ?_
  refine wp_region_held_drew (S := (fun X => Blk bo #[.int .i64 ov.k, .string ov.nm, .int .i64 ov.v.1, .int .i64 ov.v.2.1, .int .i64 ov.v.2.2.1, .string ov.v.2.2.2, .slice (some ⟨go, 0, none⟩) 2 2] 31 X)) (by kernel_rfl) ((unhide hO).call (Below.refl _ _).drew) (fun hHeld => ?_)
  have hbd : Below X.heap.size X X.drew := (Below.refl _ _).drew
  replace G := hide ((unhide G).call hbd)
  replace hC := hide ((unhide hC).call hbd)
  replace hR := hide ((unhide hR).call hbd)
  replace hT := hide ((unhide hT).call hbd)
  replace hOV := hide ((unhide hOV).call hbd)
  replace hO := hide ((unhide hO).call hbd)
  clear hbd
  generalize X.drew = Wd at *
  refine wpAnyH_take (i := 0) (oi := ?oi20039) (v := ?v20039) ?hi20039 (by kernel_rfl) (by kernel_rfl) (by kernel_rfl) (fun _ _ _ h => h) (Or.inl ⟨?hw20039, ?hy20039⟩) (by assumption) ?rest20039
  case hi20039 => (simp only [List.getElem?_toArray, List.getElem?_cons_zero]; rfl)
  case hw20039 => rfl
  case hy20039 => first | (intro wx hSw; have hO := hSw; have t0 := Blk.cell hO 0; have t1 := Blk.cell hO 1; have t2 := Blk.cell hO 2; have t3 := Blk.cell hO 3; have t4 := Blk.cell hO 4; have t5 := Blk.cell hO 5; have t6 := Blk.cell hO 6; simp at t0 t1 t2 t3 t4 t5 t6; go_simp; done) | (intro wx hSw; have hO := hSw; have t0 := Blk.cell hO 0; have t1 := Blk.cell hO 1; have t2 := Blk.cell hO 2; have t3 := Blk.cell hO 3; have t4 := Blk.cell hO 4; have t5 := Blk.cell hO 5; have t6 := Blk.cell hO 6; simp at t0 t1 t2 t3 t4 t5 t6; go_simp; with_reducible rfl)
  simp only [Act.put, List.setIfInBounds_toArray, List.set_cons_zero, List.set_cons_succ]
  refine wpAnyH_take (i := 2) (oi := ?oi20040) (v := ?v20040) ?hi20040 (by kernel_rfl) (by kernel_rfl) (by kernel_rfl) (fun _ _ _ h => h) (Or.inl ⟨?hw20040, ?hy20040⟩) (by assumption) ?rest20040
  case hi20040 => (simp only [List.getElem?_toArray, List.getElem?_cons_zero, List.getElem?_cons_succ]; rfl)
  case hw20040 => rfl
  case hy20040 => first | (intro wx hSw; have hO := hSw; have t0 := Blk.cell hO 0; have t1 := Blk.cell hO 1; have t2 := Blk.cell hO 2; have t3 := Blk.cell hO 3; have t4 := Blk.cell hO 4; have t5 := Blk.cell hO 5; have t6 := Blk.cell hO 6; simp at t0 t1 t2 t3 t4 t5 t6; go_simp; done) | (intro wx hSw; have hO := hSw; have t0 := Blk.cell hO 0; have t1 := Blk.cell hO 1; have t2 := Blk.cell hO 2; have t3 := Blk.cell hO 3; have t4 := Blk.cell hO 4; have t5 := Blk.cell hO 5; have t6 := Blk.cell hO 6; simp at t0 t1 t2 t3 t4 t5 t6; go_simp; with_reducible rfl)
  simp only [Act.put, List.setIfInBounds_toArray, List.set_cons_zero, List.set_cons_succ]
  refine wpAnyH_take (i := 4) (oi := ?oi20041) (v := ?v20041) ?hi20041 (by kernel_rfl) (by kernel_rfl) (by kernel_rfl) (fun _ _ _ h => h) (Or.inl ⟨?hw20041, ?hy20041⟩) (by assumption) ?rest20041
  case hi20041 => (simp only [List.getElem?_toArray, List.getElem?_cons_zero, List.getElem?_cons_succ]; rfl)
  case hw20041 => rfl
  case hy20041 => first | (intro wx hSw; have hO := hSw; have t0 := Blk.cell hO 0; have t1 := Blk.cell hO 1; have t2 := Blk.cell hO 2; have t3 := Blk.cell hO 3; have t4 := Blk.cell hO 4; have t5 := Blk.cell hO 5; have t6 := Blk.cell hO 6; simp at t0 t1 t2 t3 t4 t5 t6; go_simp; done) | (intro wx hSw; have hO := hSw; have t0 := Blk.cell hO 0; have t1 := Blk.cell hO 1; have t2 := Blk.cell hO 2; have t3 := Blk.cell hO 3; have t4 := Blk.cell hO 4; have t5 := Blk.cell hO 5; have t6 := Blk.cell hO 6; simp at t0 t1 t2 t3 t4 t5 t6; go_simp; with_reducible rfl)
  simp only [Act.put, List.setIfInBounds_toArray, List.set_cons_zero, List.set_cons_succ]
  refine wpAnyH_take (i := 7) (oi := ?oi20042) (v := ?v20042) ?hi20042 (by kernel_rfl) (by kernel_rfl) (by kernel_rfl) (fun _ _ _ h => h) (Or.inl ⟨?hw20042, ?hy20042⟩) (by assumption) ?rest20042
  case hi20042 => (simp only [List.getElem?_toArray, List.getElem?_cons_zero, List.getElem?_cons_succ]; rfl)
  case hw20042 => rfl
  case hy20042 => first | (intro wx hSw; have hO := hSw; have t0 := Blk.cell hO 0; have t1 := Blk.cell hO 1; have t2 := Blk.cell hO 2; have t3 := Blk.cell hO 3; have t4 := Blk.cell hO 4; have t5 := Blk.cell hO 5; have t6 := Blk.cell hO 6; simp at t0 t1 t2 t3 t4 t5 t6; go_simp; done) | (intro wx hSw; have hO := hSw; have t0 := Blk.cell hO 0; have t1 := Blk.cell hO 1; have t2 := Blk.cell hO 2; have t3 := Blk.cell hO 3; have t4 := Blk.cell hO 4; have t5 := Blk.cell hO 5; have t6 := Blk.cell hO 6; simp at t0 t1 t2 t3 t4 t5 t6; go_simp; with_reducible rfl)
  simp only [Act.put, List.setIfInBounds_toArray, List.set_cons_zero, List.set_cons_succ]
  refine wpAnyH_take (i := 9) (oi := ?oi20043) (v := ?v20043) ?hi20043 (by kernel_rfl) (by kernel_rfl) (by kernel_rfl) (fun _ _ _ h => h) (Or.inl ⟨?hw20043, ?hy20043⟩) (by assumption) ?rest20043
  case hi20043 => (simp only [List.getElem?_toArray, List.getElem?_cons_zero, List.getElem?_cons_succ]; rfl)
  case hw20043 => rfl
  case hy20043 => first | (intro wx hSw; have hO := hSw; have t0 := Blk.cell hO 0; have t1 := Blk.cell hO 1; have t2 := Blk.cell hO 2; have t3 := Blk.cell hO 3; have t4 := Blk.cell hO 4; have t5 := Blk.cell hO 5; have t6 := Blk.cell hO 6; simp at t0 t1 t2 t3 t4 t5 t6; go_simp; done) | (intro wx hSw; have hO := hSw; have t0 := Blk.cell hO 0; have t1 := Blk.cell hO 1; have t2 := Blk.cell hO 2; have t3 := Blk.cell hO 3; have t4 := Blk.cell hO 4; have t5 := Blk.cell hO 5; have t6 := Blk.cell hO 6; simp at t0 t1 t2 t3 t4 t5 t6; go_simp; with_reducible rfl)
  simp only [Act.put, List.setIfInBounds_toArray, List.set_cons_zero, List.set_cons_succ]
  refine anyH_name ?_
  intro GG hin hout
  have HIN := hide hin
  have HOUT := hide hout
  clear hin hout hHeld
  have C1010_ : ∀ (ac : Act) (g1 : Nat) (g2 : Nat) (g3 : Nat) (g4 : Nat) (g5 : Nat) (g6 : Nat) (X : World), ac = ⟨#[.int .i64 which, ac.tmps.getD 1 undef, ac.tmps.getD 2 undef, ac.tmps.getD 3 undef, ac.tmps.getD 4 undef, .pointer (some ⟨bt, 0, none⟩), .slice (some ⟨br, 0, none⟩) 4 4, .pointer (some ⟨bo, 0, none⟩), ac.tmps.getD 8 undef, ac.tmps.getD 9 undef, ac.tmps.getD 10 undef, ac.tmps.getD 11 undef, ac.tmps.getD 12 undef, ac.tmps.getD 13 undef, ac.tmps.getD 14 undef, ac.tmps.getD 15 undef, ac.tmps.getD 16 undef, ac.tmps.getD 17 undef, ac.tmps.getD 18 undef, ac.tmps.getD 19 undef, ac.tmps.getD 20 undef, ac.tmps.getD 21 undef, ac.tmps.getD 22 undef, ac.tmps.getD 23 undef, ac.tmps.getD 24 undef, ac.tmps.getD 25 undef, ac.tmps.getD 26 undef, ac.tmps.getD 27 undef, ac.tmps.getD 28 undef, ac.tmps.getD 29 undef, .agg (exC ov (.slice (some ⟨go, 0, none⟩) 2 2)).toArray, .agg (exC (colX ⟨#[99]⟩) N0).toArray, .agg (exC ov (.slice (some ⟨go, 0, none⟩) 2 2)).toArray, .agg (exC (twoX 13 (colX ⟨#[99]⟩) ov) (.slice (some ⟨g1, 0, none⟩) 2 2)).toArray, .agg (exC ov (.slice (some ⟨go, 0, none⟩) 2 2)).toArray, .agg (exC (colX ⟨#[100]⟩) N0).toArray, .agg (exC (twoX 14 ov (colX ⟨#[100]⟩)) (.slice (some ⟨g2, 0, none⟩) 2 2)).toArray, .agg (exC ov (.slice (some ⟨go, 0, none⟩) 2 2)).toArray, .agg (exC (oneX 3 ov) (.slice (some ⟨g3, 0, none⟩) 1 1)).toArray, .agg (exC ov (.slice (some ⟨go, 0, none⟩) 2 2)).toArray, .slice (some ⟨g6, 0, none⟩) 1 1, .agg (exC (oneX 5 ov) (.slice (some ⟨g6, 0, none⟩) 1 1)).toArray, .agg (exC (colX ⟨#[97]⟩) N0).toArray, .agg (exC (colX ⟨#[97]⟩) N0).toArray, .agg (exC (colX ⟨#[97]⟩) N0).toArray, .agg (exC (twoX 6 (colX ⟨#[97]⟩) (colX ⟨#[97]⟩)) (.slice (some ⟨g4, 0, none⟩) 2 2)).toArray, .agg (exC (twoX 9 (colX ⟨#[97]⟩) (twoX 6 (colX ⟨#[97]⟩) (colX ⟨#[97]⟩))) (.slice (some ⟨g5, 0, none⟩) 2 2)).toArray, ac.tmps.getD 47 undef, ac.tmps.getD 48 undef, ac.tmps.getD 49 undef, ac.tmps.getD 50 undef, ac.tmps.getD 51 undef, ac.tmps.getD 52 undef, ac.tmps.getD 53 undef, ac.tmps.getD 54 undef, ac.tmps.getD 55 undef, ac.tmps.getD 56 undef, ac.tmps.getD 57 undef, ac.tmps.getD 58 undef, ac.tmps.getD 59 undef, ac.tmps.getD 60 undef, ac.tmps.getD 61 undef, ac.tmps.getD 62 undef, ac.tmps.getD 63 undef, ac.tmps.getD 64 undef, ac.tmps.getD 65 undef, ac.tmps.getD 66 undef, ac.tmps.getD 67 undef, ac.tmps.getD 68 undef, ac.tmps.getD 69 undef, ac.tmps.getD 70 undef, ac.tmps.getD 71 undef, ac.tmps.getD 72 undef, ac.tmps.getD 73 undef, ac.tmps.getD 74 undef, ac.tmps.getD 75 undef, ac.tmps.getD 76 undef, ac.tmps.getD 77 undef, ac.tmps.getD 78 undef, ac.tmps.getD 79 undef, ac.tmps.getD 80 undef, ac.tmps.getD 81 undef], []⟩ → Below Wd.heap.size Wd X → Hid (Rep (twoX 13 (colX ⟨#[99]⟩) ov) (.slice (some ⟨g1, 0, none⟩) 2 2) X) → Hid (Rep (twoX 14 ov (colX ⟨#[100]⟩)) (.slice (some ⟨g2, 0, none⟩) 2 2) X) → Hid (Rep (oneX 3 ov) (.slice (some ⟨g3, 0, none⟩) 1 1) X) → Hid (Rep (twoX 6 (colX ⟨#[97]⟩) (colX ⟨#[97]⟩)) (.slice (some ⟨g4, 0, none⟩) 2 2) X) → Hid (Rep (twoX 9 (colX ⟨#[97]⟩) (twoX 6 (colX ⟨#[97]⟩) (colX ⟨#[97]⟩))) (.slice (some ⟨g5, 0, none⟩) 2 2) X) → Hid (Rep (oneX 5 ov) (.slice (some ⟨g6, 0, none⟩) 1 1) X) → GG 2 #[true, true, true, true, true, true, true, true, true, true, true, true, true, true, true, true, true, false, false] ac X := by
    intro ac g1 g2 g3 g4 g5 g6 X ha GD hrg1 hrg2 hrg3 hrg4 hrg5 hrg6
    obtain ⟨u, rfl⟩ : ∃ u : Nat → Value, ac = ⟨#[.int .i64 which, u 1, u 2, u 3, u 4, .pointer (some ⟨bt, 0, none⟩), .slice (some ⟨br, 0, none⟩) 4 4, .pointer (some ⟨bo, 0, none⟩), u 8, u 9, u 10, u 11, u 12, u 13, u 14, u 15, u 16, u 17, u 18, u 19, u 20, u 21, u 22, u 23, u 24, u 25, u 26, u 27, u 28, u 29, .agg (exC ov (.slice (some ⟨go, 0, none⟩) 2 2)).toArray, .agg (exC (colX ⟨#[99]⟩) N0).toArray, .agg (exC ov (.slice (some ⟨go, 0, none⟩) 2 2)).toArray, .agg (exC (twoX 13 (colX ⟨#[99]⟩) ov) (.slice (some ⟨g1, 0, none⟩) 2 2)).toArray, .agg (exC ov (.slice (some ⟨go, 0, none⟩) 2 2)).toArray, .agg (exC (colX ⟨#[100]⟩) N0).toArray, .agg (exC (twoX 14 ov (colX ⟨#[100]⟩)) (.slice (some ⟨g2, 0, none⟩) 2 2)).toArray, .agg (exC ov (.slice (some ⟨go, 0, none⟩) 2 2)).toArray, .agg (exC (oneX 3 ov) (.slice (some ⟨g3, 0, none⟩) 1 1)).toArray, .agg (exC ov (.slice (some ⟨go, 0, none⟩) 2 2)).toArray, .slice (some ⟨g6, 0, none⟩) 1 1, .agg (exC (oneX 5 ov) (.slice (some ⟨g6, 0, none⟩) 1 1)).toArray, .agg (exC (colX ⟨#[97]⟩) N0).toArray, .agg (exC (colX ⟨#[97]⟩) N0).toArray, .agg (exC (colX ⟨#[97]⟩) N0).toArray, .agg (exC (twoX 6 (colX ⟨#[97]⟩) (colX ⟨#[97]⟩)) (.slice (some ⟨g4, 0, none⟩) 2 2)).toArray, .agg (exC (twoX 9 (colX ⟨#[97]⟩) (twoX 6 (colX ⟨#[97]⟩) (colX ⟨#[97]⟩))) (.slice (some ⟨g5, 0, none⟩) 2 2)).toArray, u 47, u 48, u 49, u 50, u 51, u 52, u 53, u 54, u 55, u 56, u 57, u 58, u 59, u 60, u 61, u 62, u 63, u 64, u 65, u 66, u 67, u 68, u 69, u 70, u 71, u 72, u 73, u 74, u 75, u 76, u 77, u 78, u 79, u 80, u 81], []⟩ := ⟨fun i => ac.tmps.getD i undef, ha⟩
    clear ha
    refine unhide HIN _ _ _ _ ?_
    have hHeld : (fun X => Blk bo #[.int .i64 ov.k, .string ov.nm, .int .i64 ov.v.1, .int .i64 ov.v.2.1, .int .i64 ov.v.2.2.1, .string ov.v.2.2.2, .slice (some ⟨go, 0, none⟩) 2 2] 31 X) X := (unhide hO).call GD
    refine wpAnyH_ready (rs := [17]) (by kernel_rfl) (by simp) ?_
    refine AllReadyH.cons rfl (fun K20044 hK20044 => ?_) AllReadyH.nil
    go_simp
    refine hK20044.out _ _ ?hs20044 (fun hHeld20044 => ?_)
    case hs20044 => exact hHeld.call (below_new _ _)
    clear hHeld
    have hHeld := hHeld20044; clear hHeld20044 hK20044 K20044
    refine wpAnyH_take (i := 18) (oi := ?oi20045) (v := ?v20045) ?hi20045 (by kernel_rfl) (by kernel_rfl) (by kernel_rfl) (fun _ _ _ h => h) (Or.inl ⟨?hw20045, ?hy20045⟩) (by assumption) ?rest20045
    case hi20045 => (simp only [List.getElem?_toArray, List.getElem?_cons_zero, List.getElem?_cons_succ]; rfl)
    case hw20045 => rfl
    case hy20045 => first | (intro wx hSw; go_simp; done) | (intro wx hSw; go_simp; with_reducible rfl)
    simp only [Act.put, List.setIfInBounds_toArray, List.set_cons_zero, List.set_cons_succ]
    refine wpAnyH_done (by kernel_rfl) ?_ _
    refine NoPanic.normal ?_
    skip
    have gg := below_new X (.cells (exC ov (.slice (some ⟨go, 0, none⟩) 2 2) ++ exC (twoX 13 (colX ⟨#[99]⟩) ov) (.slice (some ⟨g1, 0, none⟩) 2 2) ++ exC (twoX 14 ov (colX ⟨#[100]⟩)) (.slice (some ⟨g2, 0, none⟩) 2 2) ++ exC (oneX 3 ov) (.slice (some ⟨g3, 0, none⟩) 1 1) ++ exC (oneX 5 ov) (.slice (some ⟨g6, 0, none⟩) 1 1) ++ exC (twoX 9 (colX ⟨#[97]⟩) (twoX 6 (colX ⟨#[97]⟩) (colX ⟨#[97]⟩))) (.slice (some ⟨g5, 0, none⟩) 2 2)).toArray 31)
    have hL := Blk.new X (exC ov (.slice (some ⟨go, 0, none⟩) 2 2) ++ exC (twoX 13 (colX ⟨#[99]⟩) ov) (.slice (some ⟨g1, 0, none⟩) 2 2) ++ exC (twoX 14 ov (colX ⟨#[100]⟩)) (.slice (some ⟨g2, 0, none⟩) 2 2) ++ exC (oneX 3 ov) (.slice (some ⟨g3, 0, none⟩) 1 1) ++ exC (oneX 5 ov) (.slice (some ⟨g6, 0, none⟩) 1 1) ++ exC (twoX 9 (colX ⟨#[97]⟩) (twoX 6 (colX ⟨#[97]⟩) (colX ⟨#[97]⟩))) (.slice (some ⟨g5, 0, none⟩) 2 2)).toArray 31
    have GE := GD.trans (gg.mono GD.size)
    have hcase : jj = 0 ∨ jj = 1 ∨ jj = 2 ∨ jj = 3 ∨ jj = 4 ∨ jj = 5 := by omega
    rcases hcase with rfl | rfl | rfl | rfl | rfl | rfl
    · exact unhide REST7 _ X.heap.size go 2 ov _ (by kernel_rfl) (unhide B0) (hide ((unhide G).call GE)) (hide ((unhide hC).call GE)) (hide ((unhide hR).call GE)) (hide ((unhide hT).call GE)) (hide (el_of hL rfl)) (hide ((unhide hOV).call GE))
    · exact unhide REST7 _ X.heap.size g1 2 (twoX 13 (colX ⟨#[99]⟩) ov) _ (by kernel_rfl) (unhide B1) (hide ((unhide G).call GE)) (hide ((unhide hC).call GE)) (hide ((unhide hR).call GE)) (hide ((unhide hT).call GE)) (hide (el_of hL rfl)) (hide ((unhide hrg1).call gg))
    · exact unhide REST7 _ X.heap.size g2 2 (twoX 14 ov (colX ⟨#[100]⟩)) _ (by kernel_rfl) (unhide B2) (hide ((unhide G).call GE)) (hide ((unhide hC).call GE)) (hide ((unhide hR).call GE)) (hide ((unhide hT).call GE)) (hide (el_of hL rfl)) (hide ((unhide hrg2).call gg))
    · exact unhide REST7 _ X.heap.size g3 1 (oneX 3 ov) _ (by kernel_rfl) (unhide B3) (hide ((unhide G).call GE)) (hide ((unhide hC).call GE)) (hide ((unhide hR).call GE)) (hide ((unhide hT).call GE)) (hide (el_of hL rfl)) (hide ((unhide hrg3).call gg))
    · exact unhide REST7 _ X.heap.size g6 1 (oneX 5 ov) _ (by kernel_rfl) (unhide B4) (hide ((unhide G).call GE)) (hide ((unhide hC).call GE)) (hide ((unhide hR).call GE)) (hide ((unhide hT).call GE)) (hide (el_of hL rfl)) (hide ((unhide hrg6).call gg))
    · exact unhide REST7 _ X.heap.size g5 2 (twoX 9 (colX ⟨#[97]⟩) (twoX 6 (colX ⟨#[97]⟩) (colX ⟨#[97]⟩))) _ (by kernel_rfl) (unhide B5) (hide ((unhide G).call GE)) (hide ((unhide hC).call GE)) (hide ((unhide hR).call GE)) (hide ((unhide hT).call GE)) (hide (el_of hL rfl)) (hide ((unhide hrg5).call gg))
  have C1010_ := hide C1010_
  have C910_ : ∀ (ac : Act) (g1 : Nat) (g2 : Nat) (g3 : Nat) (g4 : Nat) (g6 : Nat) (X : World), ac = ⟨#[.int .i64 which, ac.tmps.getD 1 undef, ac.tmps.getD 2 undef, ac.tmps.getD 3 undef, ac.tmps.getD 4 undef, .pointer (some ⟨bt, 0, none⟩), .slice (some ⟨br, 0, none⟩) 4 4, .pointer (some ⟨bo, 0, none⟩), ac.tmps.getD 8 undef, ac.tmps.getD 9 undef, ac.tmps.getD 10 undef, ac.tmps.getD 11 undef, ac.tmps.getD 12 undef, ac.tmps.getD 13 undef, ac.tmps.getD 14 undef, ac.tmps.getD 15 undef, ac.tmps.getD 16 undef, ac.tmps.getD 17 undef, ac.tmps.getD 18 undef, ac.tmps.getD 19 undef, ac.tmps.getD 20 undef, ac.tmps.getD 21 undef, ac.tmps.getD 22 undef, ac.tmps.getD 23 undef, ac.tmps.getD 24 undef, ac.tmps.getD 25 undef, ac.tmps.getD 26 undef, ac.tmps.getD 27 undef, ac.tmps.getD 28 undef, ac.tmps.getD 29 undef, .agg (exC ov (.slice (some ⟨go, 0, none⟩) 2 2)).toArray, .agg (exC (colX ⟨#[99]⟩) N0).toArray, .agg (exC ov (.slice (some ⟨go, 0, none⟩) 2 2)).toArray, .agg (exC (twoX 13 (colX ⟨#[99]⟩) ov) (.slice (some ⟨g1, 0, none⟩) 2 2)).toArray, .agg (exC ov (.slice (some ⟨go, 0, none⟩) 2 2)).toArray, .agg (exC (colX ⟨#[100]⟩) N0).toArray, .agg (exC (twoX 14 ov (colX ⟨#[100]⟩)) (.slice (some ⟨g2, 0, none⟩) 2 2)).toArray, .agg (exC ov (.slice (some ⟨go, 0, none⟩) 2 2)).toArray, .agg (exC (oneX 3 ov) (.slice (some ⟨g3, 0, none⟩) 1 1)).toArray, .agg (exC ov (.slice (some ⟨go, 0, none⟩) 2 2)).toArray, .slice (some ⟨g6, 0, none⟩) 1 1, .agg (exC (oneX 5 ov) (.slice (some ⟨g6, 0, none⟩) 1 1)).toArray, .agg (exC (colX ⟨#[97]⟩) N0).toArray, .agg (exC (colX ⟨#[97]⟩) N0).toArray, .agg (exC (colX ⟨#[97]⟩) N0).toArray, .agg (exC (twoX 6 (colX ⟨#[97]⟩) (colX ⟨#[97]⟩)) (.slice (some ⟨g4, 0, none⟩) 2 2)).toArray, ac.tmps.getD 46 undef, ac.tmps.getD 47 undef, ac.tmps.getD 48 undef, ac.tmps.getD 49 undef, ac.tmps.getD 50 undef, ac.tmps.getD 51 undef, ac.tmps.getD 52 undef, ac.tmps.getD 53 undef, ac.tmps.getD 54 undef, ac.tmps.getD 55 undef, ac.tmps.getD 56 undef, ac.tmps.getD 57 undef, ac.tmps.getD 58 undef, ac.tmps.getD 59 undef, ac.tmps.getD 60 undef, ac.tmps.getD 61 undef, ac.tmps.getD 62 undef, ac.tmps.getD 63 undef, ac.tmps.getD 64 undef, ac.tmps.getD 65 undef, ac.tmps.getD 66 undef, ac.tmps.getD 67 undef, ac.tmps.getD 68 undef, ac.tmps.getD 69 undef, ac.tmps.getD 70 undef, ac.tmps.getD 71 undef, ac.tmps.getD 72 undef, ac.tmps.getD 73 undef, ac.tmps.getD 74 undef, ac.tmps.getD 75 undef, ac.tmps.getD 76 undef, ac.tmps.getD 77 undef, ac.tmps.getD 78 undef, ac.tmps.getD 79 undef, ac.tmps.getD 80 undef, ac.tmps.getD 81 undef], []⟩ → Below Wd.heap.size Wd X → Hid (Rep (twoX 13 (colX ⟨#[99]⟩) ov) (.slice (some ⟨g1, 0, none⟩) 2 2) X) → Hid (Rep (twoX 14 ov (colX ⟨#[100]⟩)) (.slice (some ⟨g2, 0, none⟩) 2 2) X) → Hid (Rep (oneX 3 ov) (.slice (some ⟨g3, 0, none⟩) 1 1) X) → Hid (Rep (twoX 6 (colX ⟨#[97]⟩) (colX ⟨#[97]⟩)) (.slice (some ⟨g4, 0, none⟩) 2 2) X) → Hid (Rep (oneX 5 ov) (.slice (some ⟨g6, 0, none⟩) 1 1) X) → GG 3 #[true, true, true, true, true, true, true, true, true, true, true, true, true, true, true, true, false, false, false] ac X := by
    intro ac g1 g2 g3 g4 g6 X ha GD hrg1 hrg2 hrg3 hrg4 hrg6
    obtain ⟨u, rfl⟩ : ∃ u : Nat → Value, ac = ⟨#[.int .i64 which, u 1, u 2, u 3, u 4, .pointer (some ⟨bt, 0, none⟩), .slice (some ⟨br, 0, none⟩) 4 4, .pointer (some ⟨bo, 0, none⟩), u 8, u 9, u 10, u 11, u 12, u 13, u 14, u 15, u 16, u 17, u 18, u 19, u 20, u 21, u 22, u 23, u 24, u 25, u 26, u 27, u 28, u 29, .agg (exC ov (.slice (some ⟨go, 0, none⟩) 2 2)).toArray, .agg (exC (colX ⟨#[99]⟩) N0).toArray, .agg (exC ov (.slice (some ⟨go, 0, none⟩) 2 2)).toArray, .agg (exC (twoX 13 (colX ⟨#[99]⟩) ov) (.slice (some ⟨g1, 0, none⟩) 2 2)).toArray, .agg (exC ov (.slice (some ⟨go, 0, none⟩) 2 2)).toArray, .agg (exC (colX ⟨#[100]⟩) N0).toArray, .agg (exC (twoX 14 ov (colX ⟨#[100]⟩)) (.slice (some ⟨g2, 0, none⟩) 2 2)).toArray, .agg (exC ov (.slice (some ⟨go, 0, none⟩) 2 2)).toArray, .agg (exC (oneX 3 ov) (.slice (some ⟨g3, 0, none⟩) 1 1)).toArray, .agg (exC ov (.slice (some ⟨go, 0, none⟩) 2 2)).toArray, .slice (some ⟨g6, 0, none⟩) 1 1, .agg (exC (oneX 5 ov) (.slice (some ⟨g6, 0, none⟩) 1 1)).toArray, .agg (exC (colX ⟨#[97]⟩) N0).toArray, .agg (exC (colX ⟨#[97]⟩) N0).toArray, .agg (exC (colX ⟨#[97]⟩) N0).toArray, .agg (exC (twoX 6 (colX ⟨#[97]⟩) (colX ⟨#[97]⟩)) (.slice (some ⟨g4, 0, none⟩) 2 2)).toArray, u 46, u 47, u 48, u 49, u 50, u 51, u 52, u 53, u 54, u 55, u 56, u 57, u 58, u 59, u 60, u 61, u 62, u 63, u 64, u 65, u 66, u 67, u 68, u 69, u 70, u 71, u 72, u 73, u 74, u 75, u 76, u 77, u 78, u 79, u 80, u 81], []⟩ := ⟨fun i => ac.tmps.getD i undef, ha⟩
    clear ha
    refine unhide HIN _ _ _ _ ?_
    have hHeld : (fun X => Blk bo #[.int .i64 ov.k, .string ov.nm, .int .i64 ov.v.1, .int .i64 ov.v.2.1, .int .i64 ov.v.2.2.1, .string ov.v.2.2.2, .slice (some ⟨go, 0, none⟩) 2 2] 31 X) X := (unhide hO).call GD
    refine wpAnyH_ready (rs := [16]) (by kernel_rfl) (by simp) ?_
    refine AllReadyH.cons rfl (fun K20046 hK20046 => ?_) AllReadyH.nil
    go_simp
    go_wp2_with (go_at_call 26; refine (twoL_any _ (colX ⟨#[97]⟩) (twoX 6 (colX ⟨#[97]⟩) (colX ⟨#[97]⟩)) _ _ _ rfl (unhide hrg4)).mono ?_; rintro e X2 ⟨g5, rfl, hrg5, hb⟩)
    refine hK20046.out _ _ ?hs20046 (fun hH20046 => ?_)
    case hs20046 => exact hHeld.call hb
    clear hHeld
    have hHeld := hH20046; clear hH20046 hK20046 K20046
    refine unhide HOUT _ _ _ _ ?_
    exact unhide C1010_ _ g1 g2 g3 g4 _ g6 _ (by kernel_rfl) (GD.trans (hb.mono GD.size)) (hide ((unhide hrg1).call hb)) (hide ((unhide hrg2).call hb)) (hide ((unhide hrg3).call hb)) (hide ((unhide hrg4).call hb)) hrg5 (hide ((unhide hrg6).call hb))
  have C910_ := hide C910_
  have C810_ : ∀ (ac : Act) (g1 : Nat) (g2 : Nat) (g3 : Nat) (g6 : Nat) (X : World), ac = ⟨#[.int .i64 which, ac.tmps.getD 1 undef, ac.tmps.getD 2 undef, ac.tmps.getD 3 undef, ac.tmps.getD 4 undef, .pointer (some ⟨bt, 0, none⟩), .slice (some ⟨br, 0, none⟩) 4 4, .pointer (some ⟨bo, 0, none⟩), ac.tmps.getD 8 undef, ac.tmps.getD 9 undef, ac.tmps.getD 10 undef, ac.tmps.getD 11 undef, ac.tmps.getD 12 undef, ac.tmps.getD 13 undef, ac.tmps.getD 14 undef, ac.tmps.getD 15 undef, ac.tmps.getD 16 undef, ac.tmps.getD 17 undef, ac.tmps.getD 18 undef, ac.tmps.getD 19 undef, ac.tmps.getD 20 undef, ac.tmps.getD 21 undef, ac.tmps.getD 22 undef, ac.tmps.getD 23 undef, ac.tmps.getD 24 undef, ac.tmps.getD 25 undef, ac.tmps.getD 26 undef, ac.tmps.getD 27 undef, ac.tmps.getD 28 undef, ac.tmps.getD 29 undef, .agg (exC ov (.slice (some ⟨go, 0, none⟩) 2 2)).toArray, .agg (exC (colX ⟨#[99]⟩) N0).toArray, .agg (exC ov (.slice (some ⟨go, 0, none⟩) 2 2)).toArray, .agg (exC (twoX 13 (colX ⟨#[99]⟩) ov) (.slice (some ⟨g1, 0, none⟩) 2 2)).toArray, .agg (exC ov (.slice (some ⟨go, 0, none⟩) 2 2)).toArray, .agg (exC (colX ⟨#[100]⟩) N0).toArray, .agg (exC (twoX 14 ov (colX ⟨#[100]⟩)) (.slice (some ⟨g2, 0, none⟩) 2 2)).toArray, .agg (exC ov (.slice (some ⟨go, 0, none⟩) 2 2)).toArray, .agg (exC (oneX 3 ov) (.slice (some ⟨g3, 0, none⟩) 1 1)).toArray, .agg (exC ov (.slice (some ⟨go, 0, none⟩) 2 2)).toArray, .slice (some ⟨g6, 0, none⟩) 1 1, .agg (exC (oneX 5 ov) (.slice (some ⟨g6, 0, none⟩) 1 1)).toArray, .agg (exC (colX ⟨#[97]⟩) N0).toArray, .agg (exC (colX ⟨#[97]⟩) N0).toArray, .agg (exC (colX ⟨#[97]⟩) N0).toArray, ac.tmps.getD 45 undef, ac.tmps.getD 46 undef, ac.tmps.getD 47 undef, ac.tmps.getD 48 undef, ac.tmps.getD 49 undef, ac.tmps.getD 50 undef, ac.tmps.getD 51 undef, ac.tmps.getD 52 undef, ac.tmps.getD 53 undef, ac.tmps.getD 54 undef, ac.tmps.getD 55 undef, ac.tmps.getD 56 undef, ac.tmps.getD 57 undef, ac.tmps.getD 58 undef, ac.tmps.getD 59 undef, ac.tmps.getD 60 undef, ac.tmps.getD 61 undef, ac.tmps.getD 62 undef, ac.tmps.getD 63 undef, ac.tmps.getD 64 undef, ac.tmps.getD 65 undef, ac.tmps.getD 66 undef, ac.tmps.getD 67 undef, ac.tmps.getD 68 undef, ac.tmps.getD 69 undef, ac.tmps.getD 70 undef, ac.tmps.getD 71 undef, ac.tmps.getD 72 undef, ac.tmps.getD 73 undef, ac.tmps.getD 74 undef, ac.tmps.getD 75 undef, ac.tmps.getD 76 undef, ac.tmps.getD 77 undef, ac.tmps.getD 78 undef, ac.tmps.getD 79 undef, ac.tmps.getD 80 undef, ac.tmps.getD 81 undef], []⟩ → Below Wd.heap.size Wd X → Hid (Rep (twoX 13 (colX ⟨#[99]⟩) ov) (.slice (some ⟨g1, 0, none⟩) 2 2) X) → Hid (Rep (twoX 14 ov (colX ⟨#[100]⟩)) (.slice (some ⟨g2, 0, none⟩) 2 2) X) → Hid (Rep (oneX 3 ov) (.slice (some ⟨g3, 0, none⟩) 1 1) X) → Hid (Rep (oneX 5 ov) (.slice (some ⟨g6, 0, none⟩) 1 1) X) → GG 4 #[true, true, true, true, true, true, true, true, true, true, true, true, true, true, true, false, false, false, false] ac X := by
    intro ac g1 g2 g3 g6 X ha GD hrg1 hrg2 hrg3 hrg6
    obtain ⟨u, rfl⟩ : ∃ u : Nat → Value, ac = ⟨#[.int .i64 which, u 1, u 2, u 3, u 4, .pointer (some ⟨bt, 0, none⟩), .slice (some ⟨br, 0, none⟩) 4 4, .pointer (some ⟨bo, 0, none⟩), u 8, u 9, u 10, u 11, u 12, u 13, u 14, u 15, u 16, u 17, u 18, u 19, u 20, u 21, u 22, u 23, u 24, u 25, u 26, u 27, u 28, u 29, .agg (exC ov (.slice (some ⟨go, 0, none⟩) 2 2)).toArray, .agg (exC (colX ⟨#[99]⟩) N0).toArray, .agg (exC ov (.slice (some ⟨go, 0, none⟩) 2 2)).toArray, .agg (exC (twoX 13 (colX ⟨#[99]⟩) ov) (.slice (some ⟨g1, 0, none⟩) 2 2)).toArray, .agg (exC ov (.slice (some ⟨go, 0, none⟩) 2 2)).toArray, .agg (exC (colX ⟨#[100]⟩) N0).toArray, .agg (exC (twoX 14 ov (colX ⟨#[100]⟩)) (.slice (some ⟨g2, 0, none⟩) 2 2)).toArray, .agg (exC ov (.slice (some ⟨go, 0, none⟩) 2 2)).toArray, .agg (exC (oneX 3 ov) (.slice (some ⟨g3, 0, none⟩) 1 1)).toArray, .agg (exC ov (.slice (some ⟨go, 0, none⟩) 2 2)).toArray, .slice (some ⟨g6, 0, none⟩) 1 1, .agg (exC (oneX 5 ov) (.slice (some ⟨g6, 0, none⟩) 1 1)).toArray, .agg (exC (colX ⟨#[97]⟩) N0).toArray, .agg (exC (colX ⟨#[97]⟩) N0).toArray, .agg (exC (colX ⟨#[97]⟩) N0).toArray, u 45, u 46, u 47, u 48, u 49, u 50, u 51, u 52, u 53, u 54, u 55, u 56, u 57, u 58, u 59, u 60, u 61, u 62, u 63, u 64, u 65, u 66, u 67, u 68, u 69, u 70, u 71, u 72, u 73, u 74, u 75, u 76, u 77, u 78, u 79, u 80, u 81], []⟩ := ⟨fun i => ac.tmps.getD i undef, ha⟩
    clear ha
    refine unhide HIN _ _ _ _ ?_
    have hHeld : (fun X => Blk bo #[.int .i64 ov.k, .string ov.nm, .int .i64 ov.v.1, .int .i64 ov.v.2.1, .int .i64 ov.v.2.2.1, .string ov.v.2.2.2, .slice (some ⟨go, 0, none⟩) 2 2] 31 X) X := (unhide hO).call GD
    refine wpAnyH_ready (rs := [15]) (by kernel_rfl) (by simp) ?_
    refine AllReadyH.cons rfl (fun K20047 hK20047 => ?_) AllReadyH.nil
    go_simp
    go_wp2_with (go_at_call 26; refine (twoL_any _ (colX ⟨#[97]⟩) (colX ⟨#[97]⟩) _ _ _ rfl rfl).mono ?_; rintro e X2 ⟨g4, rfl, hrg4, hb⟩)
    refine hK20047.out _ _ ?hs20047 (fun hH20047 => ?_)
    case hs20047 => exact hHeld.call hb
    clear hHeld
    have hHeld := hH20047; clear hH20047 hK20047 K20047
    refine unhide HOUT _ _ _ _ ?_
    exact unhide C910_ _ g1 g2 g3 _ g6 _ (by kernel_rfl) (GD.trans (hb.mono GD.size)) (hide ((unhide hrg1).call hb)) (hide ((unhide hrg2).call hb)) (hide ((unhide hrg3).call hb)) hrg4 (hide ((unhide hrg6).call hb))
  have C810_ := hide C810_
  have C710_ : ∀ (ac : Act) (g1 : Nat) (g2 : Nat) (g3 : Nat) (g6 : Nat) (X : World), ac = ⟨#[.int .i64 which, ac.tmps.getD 1 undef, ac.tmps.getD 2 undef, ac.tmps.getD 3 undef, ac.tmps.getD 4 undef, .pointer (some ⟨bt, 0, none⟩), .slice (some ⟨br, 0, none⟩) 4 4, .pointer (some ⟨bo, 0, none⟩), ac.tmps.getD 8 undef, ac.tmps.getD 9 undef, ac.tmps.getD 10 undef, ac.tmps.getD 11 undef, ac.tmps.getD 12 undef, ac.tmps.getD 13 undef, ac.tmps.getD 14 undef, ac.tmps.getD 15 undef, ac.tmps.getD 16 undef, ac.tmps.getD 17 undef, ac.tmps.getD 18 undef, ac.tmps.getD 19 undef, ac.tmps.getD 20 undef, ac.tmps.getD 21 undef, ac.tmps.getD 22 undef, ac.tmps.getD 23 undef, ac.tmps.getD 24 undef, ac.tmps.getD 25 undef, ac.tmps.getD 26 undef, ac.tmps.getD 27 undef, ac.tmps.getD 28 undef, ac.tmps.getD 29 undef, .agg (exC ov (.slice (some ⟨go, 0, none⟩) 2 2)).toArray, .agg (exC (colX ⟨#[99]⟩) N0).toArray, .agg (exC ov (.slice (some ⟨go, 0, none⟩) 2 2)).toArray, .agg (exC (twoX 13 (colX ⟨#[99]⟩) ov) (.slice (some ⟨g1, 0, none⟩) 2 2)).toArray, .agg (exC ov (.slice (some ⟨go, 0, none⟩) 2 2)).toArray, .agg (exC (colX ⟨#[100]⟩) N0).toArray, .agg (exC (twoX 14 ov (colX ⟨#[100]⟩)) (.slice (some ⟨g2, 0, none⟩) 2 2)).toArray, .agg (exC ov (.slice (some ⟨go, 0, none⟩) 2 2)).toArray, .agg (exC (oneX 3 ov) (.slice (some ⟨g3, 0, none⟩) 1 1)).toArray, .agg (exC ov (.slice (some ⟨go, 0, none⟩) 2 2)).toArray, .slice (some ⟨g6, 0, none⟩) 1 1, .agg (exC (oneX 5 ov) (.slice (some ⟨g6, 0, none⟩) 1 1)).toArray, .agg (exC (colX ⟨#[97]⟩) N0).toArray, .agg (exC (colX ⟨#[97]⟩) N0).toArray, ac.tmps.getD 44 undef, ac.tmps.getD 45 undef, ac.tmps.getD 46 undef, ac.tmps.getD 47 undef, ac.tmps.getD 48 undef, ac.tmps.getD 49 undef, ac.tmps.getD 50 undef, ac.tmps.getD 51 undef, ac.tmps.getD 52 undef, ac.tmps.getD 53 undef, ac.tmps.getD 54 undef, ac.tmps.getD 55 undef, ac.tmps.getD 56 undef, ac.tmps.getD 57 undef, ac.tmps.getD 58 undef, ac.tmps.getD 59 undef, ac.tmps.getD 60 undef, ac.tmps.getD 61 undef, ac.tmps.getD 62 undef, ac.tmps.getD 63 undef, ac.tmps.getD 64 undef, ac.tmps.getD 65 undef, ac.tmps.getD 66 undef, ac.tmps.getD 67 undef, ac.tmps.getD 68 undef, ac.tmps.getD 69 undef, ac.tmps.getD 70 undef, ac.tmps.getD 71 undef, ac.tmps.getD 72 undef, ac.tmps.getD 73 undef, ac.tmps.getD 74 undef, ac.tmps.getD 75 undef, ac.tmps.getD 76 undef, ac.tmps.getD 77 undef, ac.tmps.getD 78 undef, ac.tmps.getD 79 undef, ac.tmps.getD 80 undef, ac.tmps.getD 81 undef], []⟩ → Below Wd.heap.size Wd X → Hid (Rep (twoX 13 (colX ⟨#[99]⟩) ov) (.slice (some ⟨g1, 0, none⟩) 2 2) X) → Hid (Rep (twoX 14 ov (colX ⟨#[100]⟩)) (.slice (some ⟨g2, 0, none⟩) 2 2) X) → Hid (Rep (oneX 3 ov) (.slice (some ⟨g3, 0, none⟩) 1 1) X) → Hid (Rep (oneX 5 ov) (.slice (some ⟨g6, 0, none⟩) 1 1) X) → GG 5 #[true, true, true, true, true, true, true, true, true, true, true, true, true, true, false, false, false, false, false] ac X := by
    intro ac g1 g2 g3 g6 X ha GD hrg1 hrg2 hrg3 hrg6
    obtain ⟨u, rfl⟩ : ∃ u : Nat → Value, ac = ⟨#[.int .i64 which, u 1, u 2, u 3, u 4, .pointer (some ⟨bt, 0, none⟩), .slice (some ⟨br, 0, none⟩) 4 4, .pointer (some ⟨bo, 0, none⟩), u 8, u 9, u 10, u 11, u 12, u 13, u 14, u 15, u 16, u 17, u 18, u 19, u 20, u 21, u 22, u 23, u 24, u 25, u 26, u 27, u 28, u 29, .agg (exC ov (.slice (some ⟨go, 0, none⟩) 2 2)).toArray, .agg (exC (colX ⟨#[99]⟩) N0).toArray, .agg (exC ov (.slice (some ⟨go, 0, none⟩) 2 2)).toArray, .agg (exC (twoX 13 (colX ⟨#[99]⟩) ov) (.slice (some ⟨g1, 0, none⟩) 2 2)).toArray, .agg (exC ov (.slice (some ⟨go, 0, none⟩) 2 2)).toArray, .agg (exC (colX ⟨#[100]⟩) N0).toArray, .agg (exC (twoX 14 ov (colX ⟨#[100]⟩)) (.slice (some ⟨g2, 0, none⟩) 2 2)).toArray, .agg (exC ov (.slice (some ⟨go, 0, none⟩) 2 2)).toArray, .agg (exC (oneX 3 ov) (.slice (some ⟨g3, 0, none⟩) 1 1)).toArray, .agg (exC ov (.slice (some ⟨go, 0, none⟩) 2 2)).toArray, .slice (some ⟨g6, 0, none⟩) 1 1, .agg (exC (oneX 5 ov) (.slice (some ⟨g6, 0, none⟩) 1 1)).toArray, .agg (exC (colX ⟨#[97]⟩) N0).toArray, .agg (exC (colX ⟨#[97]⟩) N0).toArray, u 44, u 45, u 46, u 47, u 48, u 49, u 50, u 51, u 52, u 53, u 54, u 55, u 56, u 57, u 58, u 59, u 60, u 61, u 62, u 63, u 64, u 65, u 66, u 67, u 68, u 69, u 70, u 71, u 72, u 73, u 74, u 75, u 76, u 77, u 78, u 79, u 80, u 81], []⟩ := ⟨fun i => ac.tmps.getD i undef, ha⟩
    clear ha
    refine unhide HIN _ _ _ _ ?_
    have hHeld : (fun X => Blk bo #[.int .i64 ov.k, .string ov.nm, .int .i64 ov.v.1, .int .i64 ov.v.2.1, .int .i64 ov.v.2.2.1, .string ov.v.2.2.2, .slice (some ⟨go, 0, none⟩) 2 2] 31 X) X := (unhide hO).call GD
    refine wpAnyH_ready (rs := [14]) (by kernel_rfl) (by simp) ?_
    refine AllReadyH.cons rfl (fun K20048 hK20048 => ?_) AllReadyH.nil
    go_simp
    go_wp2_with (go_at_call 27; refine (colL_any _ _).mono ?_; rintro e X2 ⟨rfl, hb⟩)
    refine hK20048.out _ _ ?hs20048 (fun hH20048 => ?_)
    case hs20048 => exact hHeld.call hb
    clear hHeld
    have hHeld := hH20048; clear hH20048 hK20048 K20048
    refine unhide HOUT _ _ _ _ ?_
    exact unhide C810_ _ g1 g2 g3 g6 _ (by kernel_rfl) (GD.trans (hb.mono GD.size)) (hide ((unhide hrg1).call hb)) (hide ((unhide hrg2).call hb)) (hide ((unhide hrg3).call hb)) (hide ((unhide hrg6).call hb))
  have C710_ := hide C710_
  have C610_ : ∀ (ac : Act) (g1 : Nat) (g2 : Nat) (g3 : Nat) (g6 : Nat) (X : World), ac = ⟨#[.int .i64 which, ac.tmps.getD 1 undef, ac.tmps.getD 2 undef, ac.tmps.getD 3 undef, ac.tmps.getD 4 undef, .pointer (some ⟨bt, 0, none⟩), .slice (some ⟨br, 0, none⟩) 4 4, .pointer (some ⟨bo, 0, none⟩), ac.tmps.getD 8 undef, ac.tmps.getD 9 undef, ac.tmps.getD 10 undef, ac.tmps.getD 11 undef, ac.tmps.getD 12 undef, ac.tmps.getD 13 undef, ac.tmps.getD 14 undef, ac.tmps.getD 15 undef, ac.tmps.getD 16 undef, ac.tmps.getD 17 undef, ac.tmps.getD 18 undef, ac.tmps.getD 19 undef, ac.tmps.getD 20 undef, ac.tmps.getD 21 undef, ac.tmps.getD 22 undef, ac.tmps.getD 23 undef, ac.tmps.getD 24 undef, ac.tmps.getD 25 undef, ac.tmps.getD 26 undef, ac.tmps.getD 27 undef, ac.tmps.getD 28 undef, ac.tmps.getD 29 undef, .agg (exC ov (.slice (some ⟨go, 0, none⟩) 2 2)).toArray, .agg (exC (colX ⟨#[99]⟩) N0).toArray, .agg (exC ov (.slice (some ⟨go, 0, none⟩) 2 2)).toArray, .agg (exC (twoX 13 (colX ⟨#[99]⟩) ov) (.slice (some ⟨g1, 0, none⟩) 2 2)).toArray, .agg (exC ov (.slice (some ⟨go, 0, none⟩) 2 2)).toArray, .agg (exC (colX ⟨#[100]⟩) N0).toArray, .agg (exC (twoX 14 ov (colX ⟨#[100]⟩)) (.slice (some ⟨g2, 0, none⟩) 2 2)).toArray, .agg (exC ov (.slice (some ⟨go, 0, none⟩) 2 2)).toArray, .agg (exC (oneX 3 ov) (.slice (some ⟨g3, 0, none⟩) 1 1)).toArray, .agg (exC ov (.slice (some ⟨go, 0, none⟩) 2 2)).toArray, .slice (some ⟨g6, 0, none⟩) 1 1, .agg (exC (oneX 5 ov) (.slice (some ⟨g6, 0, none⟩) 1 1)).toArray, .agg (exC (colX ⟨#[97]⟩) N0).toArray, ac.tmps.getD 43 undef, ac.tmps.getD 44 undef, ac.tmps.getD 45 undef, ac.tmps.getD 46 undef, ac.tmps.getD 47 undef, ac.tmps.getD 48 undef, ac.tmps.getD 49 undef, ac.tmps.getD 50 undef, ac.tmps.getD 51 undef, ac.tmps.getD 52 undef, ac.tmps.getD 53 undef, ac.tmps.getD 54 undef, ac.tmps.getD 55 undef, ac.tmps.getD 56 undef, ac.tmps.getD 57 undef, ac.tmps.getD 58 undef, ac.tmps.getD 59 undef, ac.tmps.getD 60 undef, ac.tmps.getD 61 undef, ac.tmps.getD 62 undef, ac.tmps.getD 63 undef, ac.tmps.getD 64 undef, ac.tmps.getD 65 undef, ac.tmps.getD 66 undef, ac.tmps.getD 67 undef, ac.tmps.getD 68 undef, ac.tmps.getD 69 undef, ac.tmps.getD 70 undef, ac.tmps.getD 71 undef, ac.tmps.getD 72 undef, ac.tmps.getD 73 undef, ac.tmps.getD 74 undef, ac.tmps.getD 75 undef, ac.tmps.getD 76 undef, ac.tmps.getD 77 undef, ac.tmps.getD 78 undef, ac.tmps.getD 79 undef, ac.tmps.getD 80 undef, ac.tmps.getD 81 undef], []⟩ → Below Wd.heap.size Wd X → Hid (Rep (twoX 13 (colX ⟨#[99]⟩) ov) (.slice (some ⟨g1, 0, none⟩) 2 2) X) → Hid (Rep (twoX 14 ov (colX ⟨#[100]⟩)) (.slice (some ⟨g2, 0, none⟩) 2 2) X) → Hid (Rep (oneX 3 ov) (.slice (some ⟨g3, 0, none⟩) 1 1) X) → Hid (Rep (oneX 5 ov) (.slice (some ⟨g6, 0, none⟩) 1 1) X) → GG 6 #[true, true, true, true, true, true, true, true, true, true, true, true, true, false, false, false, false, false, false] ac X := by
    intro ac g1 g2 g3 g6 X ha GD hrg1 hrg2 hrg3 hrg6
    obtain ⟨u, rfl⟩ : ∃ u : Nat → Value, ac = ⟨#[.int .i64 which, u 1, u 2, u 3, u 4, .pointer (some ⟨bt, 0, none⟩), .slice (some ⟨br, 0, none⟩) 4 4, .pointer (some ⟨bo, 0, none⟩), u 8, u 9, u 10, u 11, u 12, u 13, u 14, u 15, u 16, u 17, u 18, u 19, u 20, u 21, u 22, u 23, u 24, u 25, u 26, u 27, u 28, u 29, .agg (exC ov (.slice (some ⟨go, 0, none⟩) 2 2)).toArray, .agg (exC (colX ⟨#[99]⟩) N0).toArray, .agg (exC ov (.slice (some ⟨go, 0, none⟩) 2 2)).toArray, .agg (exC (twoX 13 (colX ⟨#[99]⟩) ov) (.slice (some ⟨g1, 0, none⟩) 2 2)).toArray, .agg (exC ov (.slice (some ⟨go, 0, none⟩) 2 2)).toArray, .agg (exC (colX ⟨#[100]⟩) N0).toArray, .agg (exC (twoX 14 ov (colX ⟨#[100]⟩)) (.slice (some ⟨g2, 0, none⟩) 2 2)).toArray, .agg (exC ov (.slice (some ⟨go, 0, none⟩) 2 2)).toArray, .agg (exC (oneX 3 ov) (.slice (some ⟨g3, 0, none⟩) 1 1)).toArray, .agg (exC ov (.slice (some ⟨go, 0, none⟩) 2 2)).toArray, .slice (some ⟨g6, 0, none⟩) 1 1, .agg (exC (oneX 5 ov) (.slice (some ⟨g6, 0, none⟩) 1 1)).toArray, .agg (exC (colX ⟨#[97]⟩) N0).toArray, u 43, u 44, u 45, u 46, u 47, u 48, u 49, u 50, u 51, u 52, u 53, u 54, u 55, u 56, u 57, u 58, u 59, u 60, u 61, u 62, u 63, u 64, u 65, u 66, u 67, u 68, u 69, u 70, u 71, u 72, u 73, u 74, u 75, u 76, u 77, u 78, u 79, u 80, u 81], []⟩ := ⟨fun i => ac.tmps.getD i undef, ha⟩
    clear ha
    refine unhide HIN _ _ _ _ ?_
    have hHeld : (fun X => Blk bo #[.int .i64 ov.k, .string ov.nm, .int .i64 ov.v.1, .int .i64 ov.v.2.1, .int .i64 ov.v.2.2.1, .string ov.v.2.2.2, .slice (some ⟨go, 0, none⟩) 2 2] 31 X) X := (unhide hO).call GD
    refine wpAnyH_ready (rs := [13]) (by kernel_rfl) (by simp) ?_
    refine AllReadyH.cons rfl (fun K20049 hK20049 => ?_) AllReadyH.nil
    go_simp
    go_wp2_with (go_at_call 27; refine (colL_any _ _).mono ?_; rintro e X2 ⟨rfl, hb⟩)
    refine hK20049.out _ _ ?hs20049 (fun hH20049 => ?_)
    case hs20049 => exact hHeld.call hb
    clear hHeld
    have hHeld := hH20049; clear hH20049 hK20049 K20049
    refine unhide HOUT _ _ _ _ ?_
    exact unhide C710_ _ g1 g2 g3 g6 _ (by kernel_rfl) (GD.trans (hb.mono GD.size)) (hide ((unhide hrg1).call hb)) (hide ((unhide hrg2).call hb)) (hide ((unhide hrg3).call hb)) (hide ((unhide hrg6).call hb))
  have C610_ := hide C610_
  have C510_ : ∀ (ac : Act) (g1 : Nat) (g2 : Nat) (g3 : Nat) (g6 : Nat) (X : World), ac = ⟨#[.int .i64 which, ac.tmps.getD 1 undef, ac.tmps.getD 2 undef, ac.tmps.getD 3 undef, ac.tmps.getD 4 undef, .pointer (some ⟨bt, 0, none⟩), .slice (some ⟨br, 0, none⟩) 4 4, .pointer (some ⟨bo, 0, none⟩), ac.tmps.getD 8 undef, ac.tmps.getD 9 undef, ac.tmps.getD 10 undef, ac.tmps.getD 11 undef, ac.tmps.getD 12 undef, ac.tmps.getD 13 undef, ac.tmps.getD 14 undef, ac.tmps.getD 15 undef, ac.tmps.getD 16 undef, ac.tmps.getD 17 undef, ac.tmps.getD 18 undef, ac.tmps.getD 19 undef, ac.tmps.getD 20 undef, ac.tmps.getD 21 undef, ac.tmps.getD 22 undef, ac.tmps.getD 23 undef, ac.tmps.getD 24 undef, ac.tmps.getD 25 undef, ac.tmps.getD 26 undef, ac.tmps.getD 27 undef, ac.tmps.getD 28 undef, ac.tmps.getD 29 undef, .agg (exC ov (.slice (some ⟨go, 0, none⟩) 2 2)).toArray, .agg (exC (colX ⟨#[99]⟩) N0).toArray, .agg (exC ov (.slice (some ⟨go, 0, none⟩) 2 2)).toArray, .agg (exC (twoX 13 (colX ⟨#[99]⟩) ov) (.slice (some ⟨g1, 0, none⟩) 2 2)).toArray, .agg (exC ov (.slice (some ⟨go, 0, none⟩) 2 2)).toArray, .agg (exC (colX ⟨#[100]⟩) N0).toArray, .agg (exC (twoX 14 ov (colX ⟨#[100]⟩)) (.slice (some ⟨g2, 0, none⟩) 2 2)).toArray, .agg (exC ov (.slice (some ⟨go, 0, none⟩) 2 2)).toArray, .agg (exC (oneX 3 ov) (.slice (some ⟨g3, 0, none⟩) 1 1)).toArray, .agg (exC ov (.slice (some ⟨go, 0, none⟩) 2 2)).toArray, .slice (some ⟨g6, 0, none⟩) 1 1, .agg (exC (oneX 5 ov) (.slice (some ⟨g6, 0, none⟩) 1 1)).toArray, ac.tmps.getD 42 undef, ac.tmps.getD 43 undef, ac.tmps.getD 44 undef, ac.tmps.getD 45 undef, ac.tmps.getD 46 undef, ac.tmps.getD 47 undef, ac.tmps.getD 48 undef, ac.tmps.getD 49 undef, ac.tmps.getD 50 undef, ac.tmps.getD 51 undef, ac.tmps.getD 52 undef, ac.tmps.getD 53 undef, ac.tmps.getD 54 undef, ac.tmps.getD 55 undef, ac.tmps.getD 56 undef, ac.tmps.getD 57 undef, ac.tmps.getD 58 undef, ac.tmps.getD 59 undef, ac.tmps.getD 60 undef, ac.tmps.getD 61 undef, ac.tmps.getD 62 undef, ac.tmps.getD 63 undef, ac.tmps.getD 64 undef, ac.tmps.getD 65 undef, ac.tmps.getD 66 undef, ac.tmps.getD 67 undef, ac.tmps.getD 68 undef, ac.tmps.getD 69 undef, ac.tmps.getD 70 undef, ac.tmps.getD 71 undef, ac.tmps.getD 72 undef, ac.tmps.getD 73 undef, ac.tmps.getD 74 undef, ac.tmps.getD 75 undef, ac.tmps.getD 76 undef, ac.tmps.getD 77 undef, ac.tmps.getD 78 undef, ac.tmps.getD 79 undef, ac.tmps.getD 80 undef, ac.tmps.getD 81 undef], []⟩ → Below Wd.heap.size Wd X → Hid (Rep (twoX 13 (colX ⟨#[99]⟩) ov) (.slice (some ⟨g1, 0, none⟩) 2 2) X) → Hid (Rep (twoX 14 ov (colX ⟨#[100]⟩)) (.slice (some ⟨g2, 0, none⟩) 2 2) X) → Hid (Rep (oneX 3 ov) (.slice (some ⟨g3, 0, none⟩) 1 1) X) → Hid (Rep (oneX 5 ov) (.slice (some ⟨g6, 0, none⟩) 1 1) X) → GG 7 #[true, true, true, true, true, true, true, true, true, true, true, true, false, false, false, false, false, false, false] ac X := by
    intro ac g1 g2 g3 g6 X ha GD hrg1 hrg2 hrg3 hrg6
    obtain ⟨u, rfl⟩ : ∃ u : Nat → Value, ac = ⟨#[.int .i64 which, u 1, u 2, u 3, u 4, .pointer (some ⟨bt, 0, none⟩), .slice (some ⟨br, 0, none⟩) 4 4, .pointer (some ⟨bo, 0, none⟩), u 8, u 9, u 10, u 11, u 12, u 13, u 14, u 15, u 16, u 17, u 18, u 19, u 20, u 21, u 22, u 23, u 24, u 25, u 26, u 27, u 28, u 29, .agg (exC ov (.slice (some ⟨go, 0, none⟩) 2 2)).toArray, .agg (exC (colX ⟨#[99]⟩) N0).toArray, .agg (exC ov (.slice (some ⟨go, 0, none⟩) 2 2)).toArray, .agg (exC (twoX 13 (colX ⟨#[99]⟩) ov) (.slice (some ⟨g1, 0, none⟩) 2 2)).toArray, .agg (exC ov (.slice (some ⟨go, 0, none⟩) 2 2)).toArray, .agg (exC (colX ⟨#[100]⟩) N0).toArray, .agg (exC (twoX 14 ov (colX ⟨#[100]⟩)) (.slice (some ⟨g2, 0, none⟩) 2 2)).toArray, .agg (exC ov (.slice (some ⟨go, 0, none⟩) 2 2)).toArray, .agg (exC (oneX 3 ov) (.slice (some ⟨g3, 0, none⟩) 1 1)).toArray, .agg (exC ov (.slice (some ⟨go, 0, none⟩) 2 2)).toArray, .slice (some ⟨g6, 0, none⟩) 1 1, .agg (exC (oneX 5 ov) (.slice (some ⟨g6, 0, none⟩) 1 1)).toArray, u 42, u 43, u 44, u 45, u 46, u 47, u 48, u 49, u 50, u 51, u 52, u 53, u 54, u 55, u 56, u 57, u 58, u 59, u 60, u 61, u 62, u 63, u 64, u 65, u 66, u 67, u 68, u 69, u 70, u 71, u 72, u 73, u 74, u 75, u 76, u 77, u 78, u 79, u 80, u 81], []⟩ := ⟨fun i => ac.tmps.getD i undef, ha⟩
    clear ha
    refine unhide HIN _ _ _ _ ?_
    have hHeld : (fun X => Blk bo #[.int .i64 ov.k, .string ov.nm, .int .i64 ov.v.1, .int .i64 ov.v.2.1, .int .i64 ov.v.2.2.1, .string ov.v.2.2.2, .slice (some ⟨go, 0, none⟩) 2 2] 31 X) X := (unhide hO).call GD
    refine wpAnyH_ready (rs := [12]) (by kernel_rfl) (by simp) ?_
    refine AllReadyH.cons rfl (fun K20050 hK20050 => ?_) AllReadyH.nil
    go_simp
    go_wp2_with (go_at_call 27; refine (colL_any _ _).mono ?_; rintro e X2 ⟨rfl, hb⟩)
    refine hK20050.out _ _ ?hs20050 (fun hH20050 => ?_)
    case hs20050 => exact hHeld.call hb
    clear hHeld
    have hHeld := hH20050; clear hH20050 hK20050 K20050
    refine unhide HOUT _ _ _ _ ?_
    exact unhide C610_ _ g1 g2 g3 g6 _ (by kernel_rfl) (GD.trans (hb.mono GD.size)) (hide ((unhide hrg1).call hb)) (hide ((unhide hrg2).call hb)) (hide ((unhide hrg3).call hb)) (hide ((unhide hrg6).call hb))
  have C510_ := hide C510_
  have C10 : ∀ (ac : Act) (g1 : Nat) (g2 : Nat) (g3 : Nat) (g4 : Nat) (g5 : Nat) (X : World), ac = ⟨#[.int .i64 which, ac.tmps.getD 1 undef, ac.tmps.getD 2 undef, ac.tmps.getD 3 undef, ac.tmps.getD 4 undef, .pointer (some ⟨bt, 0, none⟩), .slice (some ⟨br, 0, none⟩) 4 4, .pointer (some ⟨bo, 0, none⟩), ac.tmps.getD 8 undef, ac.tmps.getD 9 undef, ac.tmps.getD 10 undef, ac.tmps.getD 11 undef, ac.tmps.getD 12 undef, ac.tmps.getD 13 undef, ac.tmps.getD 14 undef, ac.tmps.getD 15 undef, ac.tmps.getD 16 undef, ac.tmps.getD 17 undef, ac.tmps.getD 18 undef, ac.tmps.getD 19 undef, ac.tmps.getD 20 undef, ac.tmps.getD 21 undef, ac.tmps.getD 22 undef, ac.tmps.getD 23 undef, ac.tmps.getD 24 undef, ac.tmps.getD 25 undef, ac.tmps.getD 26 undef, ac.tmps.getD 27 undef, ac.tmps.getD 28 undef, ac.tmps.getD 29 undef, .agg (exC ov (.slice (some ⟨go, 0, none⟩) 2 2)).toArray, .agg (exC (colX ⟨#[99]⟩) N0).toArray, .agg (exC ov (.slice (some ⟨go, 0, none⟩) 2 2)).toArray, .agg (exC (twoX 13 (colX ⟨#[99]⟩) ov) (.slice (some ⟨g1, 0, none⟩) 2 2)).toArray, .agg (exC ov (.slice (some ⟨go, 0, none⟩) 2 2)).toArray, .agg (exC (colX ⟨#[100]⟩) N0).toArray, .agg (exC (twoX 14 ov (colX ⟨#[100]⟩)) (.slice (some ⟨g2, 0, none⟩) 2 2)).toArray, .agg (exC ov (.slice (some ⟨go, 0, none⟩) 2 2)).toArray, .agg (exC (oneX 3 ov) (.slice (some ⟨g3, 0, none⟩) 1 1)).toArray, .agg (exC ov (.slice (some ⟨go, 0, none⟩) 2 2)).toArray, ac.tmps.getD 40 undef, ac.tmps.getD 41 undef, .agg (exC (colX ⟨#[97]⟩) N0).toArray, .agg (exC (colX ⟨#[97]⟩) N0).toArray, .agg (exC (colX ⟨#[97]⟩) N0).toArray, .agg (exC (twoX 6 (colX ⟨#[97]⟩) (colX ⟨#[97]⟩)) (.slice (some ⟨g4, 0, none⟩) 2 2)).toArray, .agg (exC (twoX 9 (colX ⟨#[97]⟩) (twoX 6 (colX ⟨#[97]⟩) (colX ⟨#[97]⟩))) (.slice (some ⟨g5, 0, none⟩) 2 2)).toArray, ac.tmps.getD 47 undef, ac.tmps.getD 48 undef, ac.tmps.getD 49 undef, ac.tmps.getD 50 undef, ac.tmps.getD 51 undef, ac.tmps.getD 52 undef, ac.tmps.getD 53 undef, ac.tmps.getD 54 undef, ac.tmps.getD 55 undef, ac.tmps.getD 56 undef, ac.tmps.getD 57 undef, ac.tmps.getD 58 undef, ac.tmps.getD 59 undef, ac.tmps.getD 60 undef, ac.tmps.getD 61 undef, ac.tmps.getD 62 undef, ac.tmps.getD 63 undef, ac.tmps.getD 64 undef, ac.tmps.getD 65 undef, ac.tmps.getD 66 undef, ac.tmps.getD 67 undef, ac.tmps.getD 68 undef, ac.tmps.getD 69 undef, ac.tmps.getD 70 undef, ac.tmps.getD 71 undef, ac.tmps.getD 72 undef, ac.tmps.getD 73 undef, ac.tmps.getD 74 undef, ac.tmps.getD 75 undef, ac.tmps.getD 76 undef, ac.tmps.getD 77 undef, ac.tmps.getD 78 undef, ac.tmps.getD 79 undef, ac.tmps.getD 80 undef, ac.tmps.getD 81 undef], []⟩ → Below Wd.heap.size Wd X → Hid (Rep (twoX 13 (colX ⟨#[99]⟩) ov) (.slice (some ⟨g1, 0, none⟩) 2 2) X) → Hid (Rep (twoX 14 ov (colX ⟨#[100]⟩)) (.slice (some ⟨g2, 0, none⟩) 2 2) X) → Hid (Rep (oneX 3 ov) (.slice (some ⟨g3, 0, none⟩) 1 1) X) → Hid (Rep (twoX 6 (colX ⟨#[97]⟩) (colX ⟨#[97]⟩)) (.slice (some ⟨g4, 0, none⟩) 2 2) X) → Hid (Rep (twoX 9 (colX ⟨#[97]⟩) (twoX 6 (colX ⟨#[97]⟩) (colX ⟨#[97]⟩))) (.slice (some ⟨g5, 0, none⟩) 2 2) X) → GG 4 #[true, true, true, true, true, true, true, true, true, true, false, false, true, true, true, true, true, false, false] ac X := by
    intro ac g1 g2 g3 g4 g5 X ha GD hrg1 hrg2 hrg3 hrg4 hrg5
    obtain ⟨u, rfl⟩ : ∃ u : Nat → Value, ac = ⟨#[.int .i64 which, u 1, u 2, u 3, u 4, .pointer (some ⟨bt, 0, none⟩), .slice (some ⟨br, 0, none⟩) 4 4, .pointer (some ⟨bo, 0, none⟩), u 8, u 9, u 10, u 11, u 12, u 13, u 14, u 15, u 16, u 17, u 18, u 19, u 20, u 21, u 22, u 23, u 24, u 25, u 26, u 27, u 28, u 29, .agg (exC ov (.slice (some ⟨go, 0, none⟩) 2 2)).toArray, .agg (exC (colX ⟨#[99]⟩) N0).toArray, .agg (exC ov (.slice (some ⟨go, 0, none⟩) 2 2)).toArray, .agg (exC (twoX 13 (colX ⟨#[99]⟩) ov) (.slice (some ⟨g1, 0, none⟩) 2 2)).toArray, .agg (exC ov (.slice (some ⟨go, 0, none⟩) 2 2)).toArray, .agg (exC (colX ⟨#[100]⟩) N0).toArray, .agg (exC (twoX 14 ov (colX ⟨#[100]⟩)) (.slice (some ⟨g2, 0, none⟩) 2 2)).toArray, .agg (exC ov (.slice (some ⟨go, 0, none⟩) 2 2)).toArray, .agg (exC (oneX 3 ov) (.slice (some ⟨g3, 0, none⟩) 1 1)).toArray, .agg (exC ov (.slice (some ⟨go, 0, none⟩) 2 2)).toArray, u 40, u 41, .agg (exC (colX ⟨#[97]⟩) N0).toArray, .agg (exC (colX ⟨#[97]⟩) N0).toArray, .agg (exC (colX ⟨#[97]⟩) N0).toArray, .agg (exC (twoX 6 (colX ⟨#[97]⟩) (colX ⟨#[97]⟩)) (.slice (some ⟨g4, 0, none⟩) 2 2)).toArray, .agg (exC (twoX 9 (colX ⟨#[97]⟩) (twoX 6 (colX ⟨#[97]⟩) (colX ⟨#[97]⟩))) (.slice (some ⟨g5, 0, none⟩) 2 2)).toArray, u 47, u 48, u 49, u 50, u 51, u 52, u 53, u 54, u 55, u 56, u 57, u 58, u 59, u 60, u 61, u 62, u 63, u 64, u 65, u 66, u 67, u 68, u 69, u 70, u 71, u 72, u 73, u 74, u 75, u 76, u 77, u 78, u 79, u 80, u 81], []⟩ := ⟨fun i => ac.tmps.getD i undef, ha⟩
    clear ha
    refine unhide HIN _ _ _ _ ?_
    have hHeld : (fun X => Blk bo #[.int .i64 ov.k, .string ov.nm, .int .i64 ov.v.1, .int .i64 ov.v.2.1, .int .i64 ov.v.2.2.1, .string ov.v.2.2.2, .slice (some ⟨go, 0, none⟩) 2 2] 31 X) X := (unhide hO).call GD
    refine wpAnyH_ready (rs := [10]) (by kernel_rfl) (by simp) ?_
    refine AllReadyH.cons rfl (fun K20051 hK20051 => ?_) AllReadyH.nil
    go_simp
    have hb := below_new X (.cells (exC ov (.slice (some ⟨go, 0, none⟩) 2 2)).toArray 31)
    have hrg6 : Hid (Rep (oneX 5 ov) (.slice (some ⟨X.heap.size, 0, none⟩) 1 1) (X.alloc (.cells (exC ov (.slice (some ⟨go, 0, none⟩) 2 2)).toArray 31))) := hide ⟨_, _, (.slice (some ⟨go, 0, none⟩) 2 2), rfl, cells_of (Blk.new X (exC ov (.slice (some ⟨go, 0, none⟩) 2 2)).toArray 31) rfl, Rep.call ((unhide hOV).call GD) hb⟩
    refine hK20051.out _ _ ?hs20051 (fun hH20051 => ?_)
    case hs20051 => exact hHeld.call hb
    clear hHeld
    have hHeld := hH20051; clear hH20051 hK20051 K20051
    refine wpAnyH_take (i := 11) (oi := ?oi20052) (v := ?v20052) ?hi20052 (by kernel_rfl) (by kernel_rfl) (by kernel_rfl) (fun _ _ _ h => h) (Or.inl ⟨?hw20052, ?hy20052⟩) (by assumption) ?rest20052
    case hi20052 => (simp only [List.getElem?_toArray, List.getElem?_cons_zero, List.getElem?_cons_succ]; rfl)
    case hw20052 => rfl
    case hy20052 => first | (intro wx hSw; go_simp; done) | (intro wx hSw; go_simp; with_reducible rfl)
    simp only [Act.put, List.setIfInBounds_toArray, List.set_cons_zero, List.set_cons_succ]
    refine unhide HOUT _ _ _ _ ?_
    exact unhide C1010_ _ g1 g2 g3 g4 g5 _ _ (by kernel_rfl) (GD.trans (hb.mono GD.size)) (hide ((unhide hrg1).call hb)) (hide ((unhide hrg2).call hb)) (hide ((unhide hrg3).call hb)) (hide ((unhide hrg4).call hb)) (hide ((unhide hrg5).call hb)) hrg6
  have C10 := hide C10
  have C9 : ∀ (ac : Act) (g1 : Nat) (g2 : Nat) (g3 : Nat) (g4 : Nat) (X : World), ac = ⟨#[.int .i64 which, ac.tmps.getD 1 undef, ac.tmps.getD 2 undef, ac.tmps.getD 3 undef, ac.tmps.getD 4 undef, .pointer (some ⟨bt, 0, none⟩), .slice (some ⟨br, 0, none⟩) 4 4, .pointer (some ⟨bo, 0, none⟩), ac.tmps.getD 8 undef, ac.tmps.getD 9 undef, ac.tmps.getD 10 undef, ac.tmps.getD 11 undef, ac.tmps.getD 12 undef, ac.tmps.getD 13 undef, ac.tmps.getD 14 undef, ac.tmps.getD 15 undef, ac.tmps.getD 16 undef, ac.tmps.getD 17 undef, ac.tmps.getD 18 undef, ac.tmps.getD 19 undef, ac.tmps.getD 20 undef, ac.tmps.getD 21 undef, ac.tmps.getD 22 undef, ac.tmps.getD 23 undef, ac.tmps.getD 24 undef, ac.tmps.getD 25 undef, ac.tmps.getD 26 undef, ac.tmps.getD 27 undef, ac.tmps.getD 28 undef, ac.tmps.getD 29 undef, .agg (exC ov (.slice (some ⟨go, 0, none⟩) 2 2)).toArray, .agg (exC (colX ⟨#[99]⟩) N0).toArray, .agg (exC ov (.slice (some ⟨go, 0, none⟩) 2 2)).toArray, .agg (exC (twoX 13 (colX ⟨#[99]⟩) ov) (.slice (some ⟨g1, 0, none⟩) 2 2)).toArray, .agg (exC ov (.slice (some ⟨go, 0, none⟩) 2 2)).toArray, .agg (exC (colX ⟨#[100]⟩) N0).toArray, .agg (exC (twoX 14 ov (colX ⟨#[100]⟩)) (.slice (some ⟨g2, 0, none⟩) 2 2)).toArray, .agg (exC ov (.slice (some ⟨go, 0, none⟩) 2 2)).toArray, .agg (exC (oneX 3 ov) (.slice (some ⟨g3, 0, none⟩) 1 1)).toArray, .agg (exC ov (.slice (some ⟨go, 0, none⟩) 2 2)).toArray, ac.tmps.getD 40 undef, ac.tmps.getD 41 undef, .agg (exC (colX ⟨#[97]⟩) N0).toArray, .agg (exC (colX ⟨#[97]⟩) N0).toArray, .agg (exC (colX ⟨#[97]⟩) N0).toArray, .agg (exC (twoX 6 (colX ⟨#[97]⟩) (colX ⟨#[97]⟩)) (.slice (some ⟨g4, 0, none⟩) 2 2)).toArray, ac.tmps.getD 46 undef, ac.tmps.getD 47 undef, ac.tmps.getD 48 undef, ac.tmps.getD 49 undef, ac.tmps.getD 50 undef, ac.tmps.getD 51 undef, ac.tmps.getD 52 undef, ac.tmps.getD 53 undef, ac.tmps.getD 54 undef, ac.tmps.getD 55 undef, ac.tmps.getD 56 undef, ac.tmps.getD 57 undef, ac.tmps.getD 58 undef, ac.tmps.getD 59 undef, ac.tmps.getD 60 undef, ac.tmps.getD 61 undef, ac.tmps.getD 62 undef, ac.tmps.getD 63 undef, ac.tmps.getD 64 undef, ac.tmps.getD 65 undef, ac.tmps.getD 66 undef, ac.tmps.getD 67 undef, ac.tmps.getD 68 undef, ac.tmps.getD 69 undef, ac.tmps.getD 70 undef, ac.tmps.getD 71 undef, ac.tmps.getD 72 undef, ac.tmps.getD 73 undef, ac.tmps.getD 74 undef, ac.tmps.getD 75 undef, ac.tmps.getD 76 undef, ac.tmps.getD 77 undef, ac.tmps.getD 78 undef, ac.tmps.getD 79 undef, ac.tmps.getD 80 undef, ac.tmps.getD 81 undef], []⟩ → Below Wd.heap.size Wd X → Hid (Rep (twoX 13 (colX ⟨#[99]⟩) ov) (.slice (some ⟨g1, 0, none⟩) 2 2) X) → Hid (Rep (twoX 14 ov (colX ⟨#[100]⟩)) (.slice (some ⟨g2, 0, none⟩) 2 2) X) → Hid (Rep (oneX 3 ov) (.slice (some ⟨g3, 0, none⟩) 1 1) X) → Hid (Rep (twoX 6 (colX ⟨#[97]⟩) (colX ⟨#[97]⟩)) (.slice (some ⟨g4, 0, none⟩) 2 2) X) → GG 5 #[true, true, true, true, true, true, true, true, true, true, false, false, true, true, true, true, false, false, false] ac X := by
    intro ac g1 g2 g3 g4 X ha GD hrg1 hrg2 hrg3 hrg4
    obtain ⟨u, rfl⟩ : ∃ u : Nat → Value, ac = ⟨#[.int .i64 which, u 1, u 2, u 3, u 4, .pointer (some ⟨bt, 0, none⟩), .slice (some ⟨br, 0, none⟩) 4 4, .pointer (some ⟨bo, 0, none⟩), u 8, u 9, u 10, u 11, u 12, u 13, u 14, u 15, u 16, u 17, u 18, u 19, u 20, u 21, u 22, u 23, u 24, u 25, u 26, u 27, u 28, u 29, .agg (exC ov (.slice (some ⟨go, 0, none⟩) 2 2)).toArray, .agg (exC (colX ⟨#[99]⟩) N0).toArray, .agg (exC ov (.slice (some ⟨go, 0, none⟩) 2 2)).toArray, .agg (exC (twoX 13 (colX ⟨#[99]⟩) ov) (.slice (some ⟨g1, 0, none⟩) 2 2)).toArray, .agg (exC ov (.slice (some ⟨go, 0, none⟩) 2 2)).toArray, .agg (exC (colX ⟨#[100]⟩) N0).toArray, .agg (exC (twoX 14 ov (colX ⟨#[100]⟩)) (.slice (some ⟨g2, 0, none⟩) 2 2)).toArray, .agg (exC ov (.slice (some ⟨go, 0, none⟩) 2 2)).toArray, .agg (exC (oneX 3 ov) (.slice (some ⟨g3, 0, none⟩) 1 1)).toArray, .agg (exC ov (.slice (some ⟨go, 0, none⟩) 2 2)).toArray, u 40, u 41, .agg (exC (colX ⟨#[97]⟩) N0).toArray, .agg (exC (colX ⟨#[97]⟩) N0).toArray, .agg (exC (colX ⟨#[97]⟩) N0).toArray, .agg (exC (twoX 6 (colX ⟨#[97]⟩) (colX ⟨#[97]⟩)) (.slice (some ⟨g4, 0, none⟩) 2 2)).toArray, u 46, u 47, u 48, u 49, u 50, u 51, u 52, u 53, u 54, u 55, u 56, u 57, u 58, u 59, u 60, u 61, u 62, u 63, u 64, u 65, u 66, u 67, u 68, u 69, u 70, u 71, u 72, u 73, u 74, u 75, u 76, u 77, u 78, u 79, u 80, u 81], []⟩ := ⟨fun i => ac.tmps.getD i undef, ha⟩
    clear ha
    refine unhide HIN _ _ _ _ ?_
    have hHeld : (fun X => Blk bo #[.int .i64 ov.k, .string ov.nm, .int .i64 ov.v.1, .int .i64 ov.v.2.1, .int .i64 ov.v.2.2.1, .string ov.v.2.2.2, .slice (some ⟨go, 0, none⟩) 2 2] 31 X) X := (unhide hO).call GD
    refine wpAnyH_ready (rs := [10, 16]) (by kernel_rfl) (by simp) ?_
    refine AllReadyH.cons rfl (fun K20053 hK20053 => ?_) ?_
    · go_simp
      have hb := below_new X (.cells (exC ov (.slice (some ⟨go, 0, none⟩) 2 2)).toArray 31)
      have hrg6 : Hid (Rep (oneX 5 ov) (.slice (some ⟨X.heap.size, 0, none⟩) 1 1) (X.alloc (.cells (exC ov (.slice (some ⟨go, 0, none⟩) 2 2)).toArray 31))) := hide ⟨_, _, (.slice (some ⟨go, 0, none⟩) 2 2), rfl, cells_of (Blk.new X (exC ov (.slice (some ⟨go, 0, none⟩) 2 2)).toArray 31) rfl, Rep.call ((unhide hOV).call GD) hb⟩
      refine hK20053.out _ _ ?hs20053 (fun hH20053 => ?_)
      case hs20053 => exact hHeld.call hb
      clear hHeld
      have hHeld := hH20053; clear hH20053 hK20053 K20053
      refine wpAnyH_take (i := 11) (oi := ?oi20054) (v := ?v20054) ?hi20054 (by kernel_rfl) (by kernel_rfl) (by kernel_rfl) (fun _ _ _ h => h) (Or.inl ⟨?hw20054, ?hy20054⟩) (by assumption) ?rest20054
      case hi20054 => (simp only [List.getElem?_toArray, List.getElem?_cons_zero, List.getElem?_cons_succ]; rfl)
      case hw20054 => rfl
      case hy20054 => first | (intro wx hSw; go_simp; done) | (intro wx hSw; go_simp; with_reducible rfl)
      simp only [Act.put, List.setIfInBounds_toArray, List.set_cons_zero, List.set_cons_succ]
      refine unhide HOUT _ _ _ _ ?_
      exact unhide C910_ _ g1 g2 g3 g4 _ _ (by kernel_rfl) (GD.trans (hb.mono GD.size)) (hide ((unhide hrg1).call hb)) (hide ((unhide hrg2).call hb)) (hide ((unhide hrg3).call hb)) (hide ((unhide hrg4).call hb)) hrg6
    refine AllReadyH.cons rfl (fun K20055 hK20055 => ?_) AllReadyH.nil
    · go_simp
      go_wp2_with (go_at_call 26; refine (twoL_any _ (colX ⟨#[97]⟩) (twoX 6 (colX ⟨#[97]⟩) (colX ⟨#[97]⟩)) _ _ _ rfl (unhide hrg4)).mono ?_; rintro e X2 ⟨g5, rfl, hrg5, hb⟩)
      refine hK20055.out _ _ ?hs20055 (fun hH20055 => ?_)
      case hs20055 => exact hHeld.call hb
      clear hHeld
      have hHeld := hH20055; clear hH20055 hK20055 K20055
      refine unhide HOUT _ _ _ _ ?_
      exact unhide C10 _ g1 g2 g3 g4 _ _ (by kernel_rfl) (GD.trans (hb.mono GD.size)) (hide ((unhide hrg1).call hb)) (hide ((unhide hrg2).call hb)) (hide ((unhide hrg3).call hb)) (hide ((unhide hrg4).call hb)) hrg5
  have C9 := hide C9
  have C8 : ∀ (ac : Act) (g1 : Nat) (g2 : Nat) (g3 : Nat) (X : World), ac = ⟨#[.int .i64 which, ac.tmps.getD 1 undef, ac.tmps.getD 2 undef, ac.tmps.getD 3 undef, ac.tmps.getD 4 undef, .pointer (some ⟨bt, 0, none⟩), .slice (some ⟨br, 0, none⟩) 4 4, .pointer (some ⟨bo, 0, none⟩), ac.tmps.getD 8 undef, ac.tmps.getD 9 undef, ac.tmps.getD 10 undef, ac.tmps.getD 11 undef, ac.tmps.getD 12 undef, ac.tmps.getD 13 undef, ac.tmps.getD 14 undef, ac.tmps.getD 15 undef, ac.tmps.getD 16 undef, ac.tmps.getD 17 undef, ac.tmps.getD 18 undef, ac.tmps.getD 19 undef, ac.tmps.getD 20 undef, ac.tmps.getD 21 undef, ac.tmps.getD 22 undef, ac.tmps.getD 23 undef, ac.tmps.getD 24 undef, ac.tmps.getD 25 undef, ac.tmps.getD 26 undef, ac.tmps.getD 27 undef, ac.tmps.getD 28 undef, ac.tmps.getD 29 undef, .agg (exC ov (.slice (some ⟨go, 0, none⟩) 2 2)).toArray, .agg (exC (colX ⟨#[99]⟩) N0).toArray, .agg (exC ov (.slice (some ⟨go, 0, none⟩) 2 2)).toArray, .agg (exC (twoX 13 (colX ⟨#[99]⟩) ov) (.slice (some ⟨g1, 0, none⟩) 2 2)).toArray, .agg (exC ov (.slice (some ⟨go, 0, none⟩) 2 2)).toArray, .agg (exC (colX ⟨#[100]⟩) N0).toArray, .agg (exC (twoX 14 ov (colX ⟨#[100]⟩)) (.slice (some ⟨g2, 0, none⟩) 2 2)).toArray, .agg (exC ov (.slice (some ⟨go, 0, none⟩) 2 2)).toArray, .agg (exC (oneX 3 ov) (.slice (some ⟨g3, 0, none⟩) 1 1)).toArray, .agg (exC ov (.slice (some ⟨go, 0, none⟩) 2 2)).toArray, ac.tmps.getD 40 undef, ac.tmps.getD 41 undef, .agg (exC (colX ⟨#[97]⟩) N0).toArray, .agg (exC (colX ⟨#[97]⟩) N0).toArray, .agg (exC (colX ⟨#[97]⟩) N0).toArray, ac.tmps.getD 45 undef, ac.tmps.getD 46 undef, ac.tmps.getD 47 undef, ac.tmps.getD 48 undef, ac.tmps.getD 49 undef, ac.tmps.getD 50 undef, ac.tmps.getD 51 undef, ac.tmps.getD 52 undef, ac.tmps.getD 53 undef, ac.tmps.getD 54 undef, ac.tmps.getD 55 undef, ac.tmps.getD 56 undef, ac.tmps.getD 57 undef, ac.tmps.getD 58 undef, ac.tmps.getD 59 undef, ac.tmps.getD 60 undef, ac.tmps.getD 61 undef, ac.tmps.getD 62 undef, ac.tmps.getD 63 undef, ac.tmps.getD 64 undef, ac.tmps.getD 65 undef, ac.tmps.getD 66 undef, ac.tmps.getD 67 undef, ac.tmps.getD 68 undef, ac.tmps.getD 69 undef, ac.tmps.getD 70 undef, ac.tmps.getD 71 undef, ac.tmps.getD 72 undef, ac.tmps.getD 73 undef, ac.tmps.getD 74 undef, ac.tmps.getD 75 undef, ac.tmps.getD 76 undef, ac.tmps.getD 77 undef, ac.tmps.getD 78 undef, ac.tmps.getD 79 undef, ac.tmps.getD 80 undef, ac.tmps.getD 81 undef], []⟩ → Below Wd.heap.size Wd X → Hid (Rep (twoX 13 (colX ⟨#[99]⟩) ov) (.slice (some ⟨g1, 0, none⟩) 2 2) X) → Hid (Rep (twoX 14 ov (colX ⟨#[100]⟩)) (.slice (some ⟨g2, 0, none⟩) 2 2) X) → Hid (Rep (oneX 3 ov) (.slice (some ⟨g3, 0, none⟩) 1 1) X) → GG 6 #[true, true, true, true, true, true, true, true, true, true, false, false, true, true, true, false, false, false, false] ac X := by
    intro ac g1 g2 g3 X ha GD hrg1 hrg2 hrg3
    obtain ⟨u, rfl⟩ : ∃ u : Nat → Value, ac = ⟨#[.int .i64 which, u 1, u 2, u 3, u 4, .pointer (some ⟨bt, 0, none⟩), .slice (some ⟨br, 0, none⟩) 4 4, .pointer (some ⟨bo, 0, none⟩), u 8, u 9, u 10, u 11, u 12, u 13, u 14, u 15, u 16, u 17, u 18, u 19, u 20, u 21, u 22, u 23, u 24, u 25, u 26, u 27, u 28, u 29, .agg (exC ov (.slice (some ⟨go, 0, none⟩) 2 2)).toArray, .agg (exC (colX ⟨#[99]⟩) N0).toArray, .agg (exC ov (.slice (some ⟨go, 0, none⟩) 2 2)).toArray, .agg (exC (twoX 13 (colX ⟨#[99]⟩) ov) (.slice (some ⟨g1, 0, none⟩) 2 2)).toArray, .agg (exC ov (.slice (some ⟨go, 0, none⟩) 2 2)).toArray, .agg (exC (colX ⟨#[100]⟩) N0).toArray, .agg (exC (twoX 14 ov (colX ⟨#[100]⟩)) (.slice (some ⟨g2, 0, none⟩) 2 2)).toArray, .agg (exC ov (.slice (some ⟨go, 0, none⟩) 2 2)).toArray, .agg (exC (oneX 3 ov) (.slice (some ⟨g3, 0, none⟩) 1 1)).toArray, .agg (exC ov (.slice (some ⟨go, 0, none⟩) 2 2)).toArray, u 40, u 41, .agg (exC (colX ⟨#[97]⟩) N0).toArray, .agg (exC (colX ⟨#[97]⟩) N0).toArray, .agg (exC (colX ⟨#[97]⟩) N0).toArray, u 45, u 46, u 47, u 48, u 49, u 50, u 51, u 52, u 53, u 54, u 55, u 56, u 57, u 58, u 59, u 60, u 61, u 62, u 63, u 64, u 65, u 66, u 67, u 68, u 69, u 70, u 71, u 72, u 73, u 74, u 75, u 76, u 77, u 78, u 79, u 80, u 81], []⟩ := ⟨fun i => ac.tmps.getD i undef, ha⟩
    clear ha
    refine unhide HIN _ _ _ _ ?_
    have hHeld : (fun X => Blk bo #[.int .i64 ov.k, .string ov.nm, .int .i64 ov.v.1, .int .i64 ov.v.2.1, .int .i64 ov.v.2.2.1, .string ov.v.2.2.2, .slice (some ⟨go, 0, none⟩) 2 2] 31 X) X := (unhide hO).call GD
    refine wpAnyH_ready (rs := [10, 15]) (by kernel_rfl) (by simp) ?_
    refine AllReadyH.cons rfl (fun K20056 hK20056 => ?_) ?_
    · go_simp
      have hb := below_new X (.cells (exC ov (.slice (some ⟨go, 0, none⟩) 2 2)).toArray 31)
      have hrg6 : Hid (Rep (oneX 5 ov) (.slice (some ⟨X.heap.size, 0, none⟩) 1 1) (X.alloc (.cells (exC ov (.slice (some ⟨go, 0, none⟩) 2 2)).toArray 31))) := hide ⟨_, _, (.slice (some ⟨go, 0, none⟩) 2 2), rfl, cells_of (Blk.new X (exC ov (.slice (some ⟨go, 0, none⟩) 2 2)).toArray 31) rfl, Rep.call ((unhide hOV).call GD) hb⟩
      refine hK20056.out _ _ ?hs20056 (fun hH20056 => ?_)
      case hs20056 => exact hHeld.call hb
      clear hHeld
      have hHeld := hH20056; clear hH20056 hK20056 K20056
      refine wpAnyH_take (i := 11) (oi := ?oi20057) (v := ?v20057) ?hi20057 (by kernel_rfl) (by kernel_rfl) (by kernel_rfl) (fun _ _ _ h => h) (Or.inl ⟨?hw20057, ?hy20057⟩) (by assumption) ?rest20057
      case hi20057 => (simp only [List.getElem?_toArray, List.getElem?_cons_zero, List.getElem?_cons_succ]; rfl)
      case hw20057 => rfl
      case hy20057 => first | (intro wx hSw; go_simp; done) | (intro wx hSw; go_simp; with_reducible rfl)
      simp only [Act.put, List.setIfInBounds_toArray, List.set_cons_zero, List.set_cons_succ]
      refine unhide HOUT _ _ _ _ ?_
      exact unhide C810_ _ g1 g2 g3 _ _ (by kernel_rfl) (GD.trans (hb.mono GD.size)) (hide ((unhide hrg1).call hb)) (hide ((unhide hrg2).call hb)) (hide ((unhide hrg3).call hb)) hrg6
    refine AllReadyH.cons rfl (fun K20058 hK20058 => ?_) AllReadyH.nil
    · go_simp
      go_wp2_with (go_at_call 26; refine (twoL_any _ (colX ⟨#[97]⟩) (colX ⟨#[97]⟩) _ _ _ rfl rfl).mono ?_; rintro e X2 ⟨g4, rfl, hrg4, hb⟩)
      refine hK20058.out _ _ ?hs20058 (fun hH20058 => ?_)
      case hs20058 => exact hHeld.call hb
      clear hHeld
      have hHeld := hH20058; clear hH20058 hK20058 K20058
      refine unhide HOUT _ _ _ _ ?_
      exact unhide C9 _ g1 g2 g3 _ _ (by kernel_rfl) (GD.trans (hb.mono GD.size)) (hide ((unhide hrg1).call hb)) (hide ((unhide hrg2).call hb)) (hide ((unhide hrg3).call hb)) hrg4
  have C8 := hide C8
  have C7 : ∀ (ac : Act) (g1 : Nat) (g2 : Nat) (g3 : Nat) (X : World), ac = ⟨#[.int .i64 which, ac.tmps.getD 1 undef, ac.tmps.getD 2 undef, ac.tmps.getD 3 undef, ac.tmps.getD 4 undef, .pointer (some ⟨bt, 0, none⟩), .slice (some ⟨br, 0, none⟩) 4 4, .pointer (some ⟨bo, 0, none⟩), ac.tmps.getD 8 undef, ac.tmps.getD 9 undef, ac.tmps.getD 10 undef, ac.tmps.getD 11 undef, ac.tmps.getD 12 undef, ac.tmps.getD 13 undef, ac.tmps.getD 14 undef, ac.tmps.getD 15 undef, ac.tmps.getD 16 undef, ac.tmps.getD 17 undef, ac.tmps.getD 18 undef, ac.tmps.getD 19 undef, ac.tmps.getD 20 undef, ac.tmps.getD 21 undef, ac.tmps.getD 22 undef, ac.tmps.getD 23 undef, ac.tmps.getD 24 undef, ac.tmps.getD 25 undef, ac.tmps.getD 26 undef, ac.tmps.getD 27 undef, ac.tmps.getD 28 undef, ac.tmps.getD 29 undef, .agg (exC ov (.slice (some ⟨go, 0, none⟩) 2 2)).toArray, .agg (exC (colX ⟨#[99]⟩) N0).toArray, .agg (exC ov (.slice (some ⟨go, 0, none⟩) 2 2)).toArray, .agg (exC (twoX 13 (colX ⟨#[99]⟩) ov) (.slice (some ⟨g1, 0, none⟩) 2 2)).toArray, .agg (exC ov (.slice (some ⟨go, 0, none⟩) 2 2)).toArray, .agg (exC (colX ⟨#[100]⟩) N0).toArray, .agg (exC (twoX 14 ov (colX ⟨#[100]⟩)) (.slice (some ⟨g2, 0, none⟩) 2 2)).toArray, .agg (exC ov (.slice (some ⟨go, 0, none⟩) 2 2)).toArray, .agg (exC (oneX 3 ov) (.slice (some ⟨g3, 0, none⟩) 1 1)).toArray, .agg (exC ov (.slice (some ⟨go, 0, none⟩) 2 2)).toArray, ac.tmps.getD 40 undef, ac.tmps.getD 41 undef, .agg (exC (colX ⟨#[97]⟩) N0).toArray, .agg (exC (colX ⟨#[97]⟩) N0).toArray, ac.tmps.getD 44 undef, ac.tmps.getD 45 undef, ac.tmps.getD 46 undef, ac.tmps.getD 47 undef, ac.tmps.getD 48 undef, ac.tmps.getD 49 undef, ac.tmps.getD 50 undef, ac.tmps.getD 51 undef, ac.tmps.getD 52 undef, ac.tmps.getD 53 undef, ac.tmps.getD 54 undef, ac.tmps.getD 55 undef, ac.tmps.getD 56 undef, ac.tmps.getD 57 undef, ac.tmps.getD 58 undef, ac.tmps.getD 59 undef, ac.tmps.getD 60 undef, ac.tmps.getD 61 undef, ac.tmps.getD 62 undef, ac.tmps.getD 63 undef, ac.tmps.getD 64 undef, ac.tmps.getD 65 undef, ac.tmps.getD 66 undef, ac.tmps.getD 67 undef, ac.tmps.getD 68 undef, ac.tmps.getD 69 undef, ac.tmps.getD 70 undef, ac.tmps.getD 71 undef, ac.tmps.getD 72 undef, ac.tmps.getD 73 undef, ac.tmps.getD 74 undef, ac.tmps.getD 75 undef, ac.tmps.getD 76 undef, ac.tmps.getD 77 undef, ac.tmps.getD 78 undef, ac.tmps.getD 79 undef, ac.tmps.getD 80 undef, ac.tmps.getD 81 undef], []⟩ → Below Wd.heap.size Wd X → Hid (Rep (twoX 13 (colX ⟨#[99]⟩) ov) (.slice (some ⟨g1, 0, none⟩) 2 2) X) → Hid (Rep (twoX 14 ov (colX ⟨#[100]⟩)) (.slice (some ⟨g2, 0, none⟩) 2 2) X) → Hid (Rep (oneX 3 ov) (.slice (some ⟨g3, 0, none⟩) 1 1) X) → GG 7 #[true, true, true, true, true, true, true, true, true, true, false, false, true, true, false, false, false, false, false] ac X := by
    intro ac g1 g2 g3 X ha GD hrg1 hrg2 hrg3
    obtain ⟨u, rfl⟩ : ∃ u : Nat → Value, ac = ⟨#[.int .i64 which, u 1, u 2, u 3, u 4, .pointer (some ⟨bt, 0, none⟩), .slice (some ⟨br, 0, none⟩) 4 4, .pointer (some ⟨bo, 0, none⟩), u 8, u 9, u 10, u 11, u 12, u 13, u 14, u 15, u 16, u 17, u 18, u 19, u 20, u 21, u 22, u 23, u 24, u 25, u 26, u 27, u 28, u 29, .agg (exC ov (.slice (some ⟨go, 0, none⟩) 2 2)).toArray, .agg (exC (colX ⟨#[99]⟩) N0).toArray, .agg (exC ov (.slice (some ⟨go, 0, none⟩) 2 2)).toArray, .agg (exC (twoX 13 (colX ⟨#[99]⟩) ov) (.slice (some ⟨g1, 0, none⟩) 2 2)).toArray, .agg (exC ov (.slice (some ⟨go, 0, none⟩) 2 2)).toArray, .agg (exC (colX ⟨#[100]⟩) N0).toArray, .agg (exC (twoX 14 ov (colX ⟨#[100]⟩)) (.slice (some ⟨g2, 0, none⟩) 2 2)).toArray, .agg (exC ov (.slice (some ⟨go, 0, none⟩) 2 2)).toArray, .agg (exC (oneX 3 ov) (.slice (some ⟨g3, 0, none⟩) 1 1)).toArray, .agg (exC ov (.slice (some ⟨go, 0, none⟩) 2 2)).toArray, u 40, u 41, .agg (exC (colX ⟨#[97]⟩) N0).toArray, .agg (exC (colX ⟨#[97]⟩) N0).toArray, u 44, u 45, u 46, u 47, u 48, u 49, u 50, u 51, u 52, u 53, u 54, u 55, u 56, u 57, u 58, u 59, u 60, u 61, u 62, u 63, u 64, u 65, u 66, u 67, u 68, u 69, u 70, u 71, u 72, u 73, u 74, u 75, u 76, u 77, u 78, u 79, u 80, u 81], []⟩ := ⟨fun i => ac.tmps.getD i undef, ha⟩
    clear ha
    refine unhide HIN _ _ _ _ ?_
    have hHeld : (fun X => Blk bo #[.int .i64 ov.k, .string ov.nm, .int .i64 ov.v.1, .int .i64 ov.v.2.1, .int .i64 ov.v.2.2.1, .string ov.v.2.2.2, .slice (some ⟨go, 0, none⟩) 2 2] 31 X) X := (unhide hO).call GD
    refine wpAnyH_ready (rs := [10, 14]) (by kernel_rfl) (by simp) ?_
    refine AllReadyH.cons rfl (fun K20059 hK20059 => ?_) ?_
    · go_simp
      have hb := below_new X (.cells (exC ov (.slice (some ⟨go, 0, none⟩) 2 2)).toArray 31)
      have hrg6 : Hid (Rep (oneX 5 ov) (.slice (some ⟨X.heap.size, 0, none⟩) 1 1) (X.alloc (.cells (exC ov (.slice (some ⟨go, 0, none⟩) 2 2)).toArray 31))) := hide ⟨_, _, (.slice (some ⟨go, 0, none⟩) 2 2), rfl, cells_of (Blk.new X (exC ov (.slice (some ⟨go, 0, none⟩) 2 2)).toArray 31) rfl, Rep.call ((unhide hOV).call GD) hb⟩
      refine hK20059.out _ _ ?hs20059 (fun hH20059 => ?_)
      case hs20059 => exact hHeld.call hb
      clear hHeld
      have hHeld := hH20059; clear hH20059 hK20059 K20059
      refine wpAnyH_take (i := 11) (oi := ?oi20060) (v := ?v20060) ?hi20060 (by kernel_rfl) (by kernel_rfl) (by kernel_rfl) (fun _ _ _ h => h) (Or.inl ⟨?hw20060, ?hy20060⟩) (by assumption) ?rest20060
      case hi20060 => (simp only [List.getElem?_toArray, List.getElem?_cons_zero, List.getElem?_cons_succ]; rfl)
      case hw20060 => rfl
      case hy20060 => first | (intro wx hSw; go_simp; done) | (intro wx hSw; go_simp; with_reducible rfl)
      simp only [Act.put, List.setIfInBounds_toArray, List.set_cons_zero, List.set_cons_succ]
      refine unhide HOUT _ _ _ _ ?_
      exact unhide C710_ _ g1 g2 g3 _ _ (by kernel_rfl) (GD.trans (hb.mono GD.size)) (hide ((unhide hrg1).call hb)) (hide ((unhide hrg2).call hb)) (hide ((unhide hrg3).call hb)) hrg6
    refine AllReadyH.cons rfl (fun K20061 hK20061 => ?_) AllReadyH.nil
    · go_simp
      go_wp2_with (go_at_call 27; refine (colL_any _ _).mono ?_; rintro e X2 ⟨rfl, hb⟩)
      refine hK20061.out _ _ ?hs20061 (fun hH20061 => ?_)
      case hs20061 => exact hHeld.call hb
      clear hHeld
      have hHeld := hH20061; clear hH20061 hK20061 K20061
      refine unhide HOUT _ _ _ _ ?_
      exact unhide C8 _ g1 g2 g3 _ (by kernel_rfl) (GD.trans (hb.mono GD.size)) (hide ((unhide hrg1).call hb)) (hide ((unhide hrg2).call hb)) (hide ((unhide hrg3).call hb))
  have C7 := hide C7
  have C6 : ∀ (ac : Act) (g1 : Nat) (g2 : Nat) (g3 : Nat) (X : World), ac = ⟨#[.int .i64 which, ac.tmps.getD 1 undef, ac.tmps.getD 2 undef, ac.tmps.getD 3 undef, ac.tmps.getD 4 undef, .pointer (some ⟨bt, 0, none⟩), .slice (some ⟨br, 0, none⟩) 4 4, .pointer (some ⟨bo, 0, none⟩), ac.tmps.getD 8 undef, ac.tmps.getD 9 undef, ac.tmps.getD 10 undef, ac.tmps.getD 11 undef, ac.tmps.getD 12 undef, ac.tmps.getD 13 undef, ac.tmps.getD 14 undef, ac.tmps.getD 15 undef, ac.tmps.getD 16 undef, ac.tmps.getD 17 undef, ac.tmps.getD 18 undef, ac.tmps.getD 19 undef, ac.tmps.getD 20 undef, ac.tmps.getD 21 undef, ac.tmps.getD 22 undef, ac.tmps.getD 23 undef, ac.tmps.getD 24 undef, ac.tmps.getD 25 undef, ac.tmps.getD 26 undef, ac.tmps.getD 27 undef, ac.tmps.getD 28 undef, ac.tmps.getD 29 undef, .agg (exC ov (.slice (some ⟨go, 0, none⟩) 2 2)).toArray, .agg (exC (colX ⟨#[99]⟩) N0).toArray, .agg (exC ov (.slice (some ⟨go, 0, none⟩) 2 2)).toArray, .agg (exC (twoX 13 (colX ⟨#[99]⟩) ov) (.slice (some ⟨g1, 0, none⟩) 2 2)).toArray, .agg (exC ov (.slice (some ⟨go, 0, none⟩) 2 2)).toArray, .agg (exC (colX ⟨#[100]⟩) N0).toArray, .agg (exC (twoX 14 ov (colX ⟨#[100]⟩)) (.slice (some ⟨g2, 0, none⟩) 2 2)).toArray, .agg (exC ov (.slice (some ⟨go, 0, none⟩) 2 2)).toArray, .agg (exC (oneX 3 ov) (.slice (some ⟨g3, 0, none⟩) 1 1)).toArray, .agg (exC ov (.slice (some ⟨go, 0, none⟩) 2 2)).toArray, ac.tmps.getD 40 undef, ac.tmps.getD 41 undef, .agg (exC (colX ⟨#[97]⟩) N0).toArray, ac.tmps.getD 43 undef, ac.tmps.getD 44 undef, ac.tmps.getD 45 undef, ac.tmps.getD 46 undef, ac.tmps.getD 47 undef, ac.tmps.getD 48 undef, ac.tmps.getD 49 undef, ac.tmps.getD 50 undef, ac.tmps.getD 51 undef, ac.tmps.getD 52 undef, ac.tmps.getD 53 undef, ac.tmps.getD 54 undef, ac.tmps.getD 55 undef, ac.tmps.getD 56 undef, ac.tmps.getD 57 undef, ac.tmps.getD 58 undef, ac.tmps.getD 59 undef, ac.tmps.getD 60 undef, ac.tmps.getD 61 undef, ac.tmps.getD 62 undef, ac.tmps.getD 63 undef, ac.tmps.getD 64 undef, ac.tmps.getD 65 undef, ac.tmps.getD 66 undef, ac.tmps.getD 67 undef, ac.tmps.getD 68 undef, ac.tmps.getD 69 undef, ac.tmps.getD 70 undef, ac.tmps.getD 71 undef, ac.tmps.getD 72 undef, ac.tmps.getD 73 undef, ac.tmps.getD 74 undef, ac.tmps.getD 75 undef, ac.tmps.getD 76 undef, ac.tmps.getD 77 undef, ac.tmps.getD 78 undef, ac.tmps.getD 79 undef, ac.tmps.getD 80 undef, ac.tmps.getD 81 undef], []⟩ → Below Wd.heap.size Wd X → Hid (Rep (twoX 13 (colX ⟨#[99]⟩) ov) (.slice (some ⟨g1, 0, none⟩) 2 2) X) → Hid (Rep (twoX 14 ov (colX ⟨#[100]⟩)) (.slice (some ⟨g2, 0, none⟩) 2 2) X) → Hid (Rep (oneX 3 ov) (.slice (some ⟨g3, 0, none⟩) 1 1) X) → GG 8 #[true, true, true, true, true, true, true, true, true, true, false, false, true, false, false, false, false, false, false] ac X := by
    intro ac g1 g2 g3 X ha GD hrg1 hrg2 hrg3
    obtain ⟨u, rfl⟩ : ∃ u : Nat → Value, ac = ⟨#[.int .i64 which, u 1, u 2, u 3, u 4, .pointer (some ⟨bt, 0, none⟩), .slice (some ⟨br, 0, none⟩) 4 4, .pointer (some ⟨bo, 0, none⟩), u 8, u 9, u 10, u 11, u 12, u 13, u 14, u 15, u 16, u 17, u 18, u 19, u 20, u 21, u 22, u 23, u 24, u 25, u 26, u 27, u 28, u 29, .agg (exC ov (.slice (some ⟨go, 0, none⟩) 2 2)).toArray, .agg (exC (colX ⟨#[99]⟩) N0).toArray, .agg (exC ov (.slice (some ⟨go, 0, none⟩) 2 2)).toArray, .agg (exC (twoX 13 (colX ⟨#[99]⟩) ov) (.slice (some ⟨g1, 0, none⟩) 2 2)).toArray, .agg (exC ov (.slice (some ⟨go, 0, none⟩) 2 2)).toArray, .agg (exC (colX ⟨#[100]⟩) N0).toArray, .agg (exC (twoX 14 ov (colX ⟨#[100]⟩)) (.slice (some ⟨g2, 0, none⟩) 2 2)).toArray, .agg (exC ov (.slice (some ⟨go, 0, none⟩) 2 2)).toArray, .agg (exC (oneX 3 ov) (.slice (some ⟨g3, 0, none⟩) 1 1)).toArray, .agg (exC ov (.slice (some ⟨go, 0, none⟩) 2 2)).toArray, u 40, u 41, .agg (exC (colX ⟨#[97]⟩) N0).toArray, u 43, u 44, u 45, u 46, u 47, u 48, u 49, u 50, u 51, u 52, u 53, u 54, u 55, u 56, u 57, u 58, u 59, u 60, u 61, u 62, u 63, u 64, u 65, u 66, u 67, u 68, u 69, u 70, u 71, u 72, u 73, u 74, u 75, u 76, u 77, u 78, u 79, u 80, u 81], []⟩ := ⟨fun i => ac.tmps.getD i undef, ha⟩
    clear ha
    refine unhide HIN _ _ _ _ ?_
    have hHeld : (fun X => Blk bo #[.int .i64 ov.k, .string ov.nm, .int .i64 ov.v.1, .int .i64 ov.v.2.1, .int .i64 ov.v.2.2.1, .string ov.v.2.2.2, .slice (some ⟨go, 0, none⟩) 2 2] 31 X) X := (unhide hO).call GD
    refine wpAnyH_ready (rs := [10, 13]) (by kernel_rfl) (by simp) ?_
    refine AllReadyH.cons rfl (fun K20062 hK20062 => ?_) ?_
    · go_simp
      have hb := below_new X (.cells (exC ov (.slice (some ⟨go, 0, none⟩) 2 2)).toArray 31)
      have hrg6 : Hid (Rep (oneX 5 ov) (.slice (some ⟨X.heap.size, 0, none⟩) 1 1) (X.alloc (.cells (exC ov (.slice (some ⟨go, 0, none⟩) 2 2)).toArray 31))) := hide ⟨_, _, (.slice (some ⟨go, 0, none⟩) 2 2), rfl, cells_of (Blk.new X (exC ov (.slice (some ⟨go, 0, none⟩) 2 2)).toArray 31) rfl, Rep.call ((unhide hOV).call GD) hb⟩
      refine hK20062.out _ _ ?hs20062 (fun hH20062 => ?_)
      case hs20062 => exact hHeld.call hb
      clear hHeld
      have hHeld := hH20062; clear hH20062 hK20062 K20062
      refine wpAnyH_take (i := 11) (oi := ?oi20063) (v := ?v20063) ?hi20063 (by kernel_rfl) (by kernel_rfl) (by kernel_rfl) (fun _ _ _ h => h) (Or.inl ⟨?hw20063, ?hy20063⟩) (by assumption) ?rest20063
      case hi20063 => (simp only [List.getElem?_toArray, List.getElem?_cons_zero, List.getElem?_cons_succ]; rfl)
      case hw20063 => rfl
      case hy20063 => first | (intro wx hSw; go_simp; done) | (intro wx hSw; go_simp; with_reducible rfl)
      simp only [Act.put, List.setIfInBounds_toArray, List.set_cons_zero, List.set_cons_succ]
      refine unhide HOUT _ _ _ _ ?_
      exact unhide C610_ _ g1 g2 g3 _ _ (by kernel_rfl) (GD.trans (hb.mono GD.size)) (hide ((unhide hrg1).call hb)) (hide ((unhide hrg2).call hb)) (hide ((unhide hrg3).call hb)) hrg6
    refine AllReadyH.cons rfl (fun K20064 hK20064 => ?_) AllReadyH.nil
    · go_simp
      go_wp2_with (go_at_call 27; refine (colL_any _ _).mono ?_; rintro e X2 ⟨rfl, hb⟩)
      refine hK20064.out _ _ ?hs20064 (fun hH20064 => ?_)
      case hs20064 => exact hHeld.call hb
      clear hHeld
      have hHeld := hH20064; clear hH20064 hK20064 K20064
      refine unhide HOUT _ _ _ _ ?_
      exact unhide C7 _ g1 g2 g3 _ (by kernel_rfl) (GD.trans (hb.mono GD.size)) (hide ((unhide hrg1).call hb)) (hide ((unhide hrg2).call hb)) (hide ((unhide hrg3).call hb))
  have C6 := hide C6
  have C5 : ∀ (ac : Act) (g1 : Nat) (g2 : Nat) (g3 : Nat) (X : World), ac = ⟨#[.int .i64 which, ac.tmps.getD 1 undef, ac.tmps.getD 2 undef, ac.tmps.getD 3 undef, ac.tmps.getD 4 undef, .pointer (some ⟨bt, 0, none⟩), .slice (some ⟨br, 0, none⟩) 4 4, .pointer (some ⟨bo, 0, none⟩), ac.tmps.getD 8 undef, ac.tmps.getD 9 undef, ac.tmps.getD 10 undef, ac.tmps.getD 11 undef, ac.tmps.getD 12 undef, ac.tmps.getD 13 undef, ac.tmps.getD 14 undef, ac.tmps.getD 15 undef, ac.tmps.getD 16 undef, ac.tmps.getD 17 undef, ac.tmps.getD 18 undef, ac.tmps.getD 19 undef, ac.tmps.getD 20 undef, ac.tmps.getD 21 undef, ac.tmps.getD 22 undef, ac.tmps.getD 23 undef, ac.tmps.getD 24 undef, ac.tmps.getD 25 undef, ac.tmps.getD 26 undef, ac.tmps.getD 27 undef, ac.tmps.getD 28 undef, ac.tmps.getD 29 undef, .agg (exC ov (.slice (some ⟨go, 0, none⟩) 2 2)).toArray, .agg (exC (colX ⟨#[99]⟩) N0).toArray, .agg (exC ov (.slice (some ⟨go, 0, none⟩) 2 2)).toArray, .agg (exC (twoX 13 (colX ⟨#[99]⟩) ov) (.slice (some ⟨g1, 0, none⟩) 2 2)).toArray, .agg (exC ov (.slice (some ⟨go, 0, none⟩) 2 2)).toArray, .agg (exC (colX ⟨#[100]⟩) N0).toArray, .agg (exC (twoX 14 ov (colX ⟨#[100]⟩)) (.slice (some ⟨g2, 0, none⟩) 2 2)).toArray, .agg (exC ov (.slice (some ⟨go, 0, none⟩) 2 2)).toArray, .agg (exC (oneX 3 ov) (.slice (some ⟨g3, 0, none⟩) 1 1)).toArray, .agg (exC ov (.slice (some ⟨go, 0, none⟩) 2 2)).toArray, ac.tmps.getD 40 undef, ac.tmps.getD 41 undef, ac.tmps.getD 42 undef, ac.tmps.getD 43 undef, ac.tmps.getD 44 undef, ac.tmps.getD 45 undef, ac.tmps.getD 46 undef, ac.tmps.getD 47 undef, ac.tmps.getD 48 undef, ac.tmps.getD 49 undef, ac.tmps.getD 50 undef, ac.tmps.getD 51 undef, ac.tmps.getD 52 undef, ac.tmps.getD 53 undef, ac.tmps.getD 54 undef, ac.tmps.getD 55 undef, ac.tmps.getD 56 undef, ac.tmps.getD 57 undef, ac.tmps.getD 58 undef, ac.tmps.getD 59 undef, ac.tmps.getD 60 undef, ac.tmps.getD 61 undef, ac.tmps.getD 62 undef, ac.tmps.getD 63 undef, ac.tmps.getD 64 undef, ac.tmps.getD 65 undef, ac.tmps.getD 66 undef, ac.tmps.getD 67 undef, ac.tmps.getD 68 undef, ac.tmps.getD 69 undef, ac.tmps.getD 70 undef, ac.tmps.getD 71 undef, ac.tmps.getD 72 undef, ac.tmps.getD 73 undef, ac.tmps.getD 74 undef, ac.tmps.getD 75 undef, ac.tmps.getD 76 undef, ac.tmps.getD 77 undef, ac.tmps.getD 78 undef, ac.tmps.getD 79 undef, ac.tmps.getD 80 undef, ac.tmps.getD 81 undef], []⟩ → Below Wd.heap.size Wd X → Hid (Rep (twoX 13 (colX ⟨#[99]⟩) ov) (.slice (some ⟨g1, 0, none⟩) 2 2) X) → Hid (Rep (twoX 14 ov (colX ⟨#[100]⟩)) (.slice (some ⟨g2, 0, none⟩) 2 2) X) → Hid (Rep (oneX 3 ov) (.slice (some ⟨g3, 0, none⟩) 1 1) X) → GG 9 #[true, true, true, true, true, true, true, true, true, true, false, false, false, false, false, false, false, false, false] ac X := by
    intro ac g1 g2 g3 X ha GD hrg1 hrg2 hrg3
    obtain ⟨u, rfl⟩ : ∃ u : Nat → Value, ac = ⟨#[.int .i64 which, u 1, u 2, u 3, u 4, .pointer (some ⟨bt, 0, none⟩), .slice (some ⟨br, 0, none⟩) 4 4, .pointer (some ⟨bo, 0, none⟩), u 8, u 9, u 10, u 11, u 12, u 13, u 14, u 15, u 16, u 17, u 18, u 19, u 20, u 21, u 22, u 23, u 24, u 25, u 26, u 27, u 28, u 29, .agg (exC ov (.slice (some ⟨go, 0, none⟩) 2 2)).toArray, .agg (exC (colX ⟨#[99]⟩) N0).toArray, .agg (exC ov (.slice (some ⟨go, 0, none⟩) 2 2)).toArray, .agg (exC (twoX 13 (colX ⟨#[99]⟩) ov) (.slice (some ⟨g1, 0, none⟩) 2 2)).toArray, .agg (exC ov (.slice (some ⟨go, 0, none⟩) 2 2)).toArray, .agg (exC (colX ⟨#[100]⟩) N0).toArray, .agg (exC (twoX 14 ov (colX ⟨#[100]⟩)) (.slice (some ⟨g2, 0, none⟩) 2 2)).toArray, .agg (exC ov (.slice (some ⟨go, 0, none⟩) 2 2)).toArray, .agg (exC (oneX 3 ov) (.slice (some ⟨g3, 0, none⟩) 1 1)).toArray, .agg (exC ov (.slice (some ⟨go, 0, none⟩) 2 2)).toArray, u 40, u 41, u 42, u 43, u 44, u 45, u 46, u 47, u 48, u 49, u 50, u 51, u 52, u 53, u 54, u 55, u 56, u 57, u 58, u 59, u 60, u 61, u 62, u 63, u 64, u 65, u 66, u 67, u 68, u 69, u 70, u 71, u 72, u 73, u 74, u 75, u 76, u 77, u 78, u 79, u 80, u 81], []⟩ := ⟨fun i => ac.tmps.getD i undef, ha⟩
    clear ha
    refine unhide HIN _ _ _ _ ?_
    have hHeld : (fun X => Blk bo #[.int .i64 ov.k, .string ov.nm, .int .i64 ov.v.1, .int .i64 ov.v.2.1, .int .i64 ov.v.2.2.1, .string ov.v.2.2.2, .slice (some ⟨go, 0, none⟩) 2 2] 31 X) X := (unhide hO).call GD
    refine wpAnyH_ready (rs := [10, 12]) (by kernel_rfl) (by simp) ?_
    refine AllReadyH.cons rfl (fun K20065 hK20065 => ?_) ?_
    · go_simp
      have hb := below_new X (.cells (exC ov (.slice (some ⟨go, 0, none⟩) 2 2)).toArray 31)
      have hrg6 : Hid (Rep (oneX 5 ov) (.slice (some ⟨X.heap.size, 0, none⟩) 1 1) (X.alloc (.cells (exC ov (.slice (some ⟨go, 0, none⟩) 2 2)).toArray 31))) := hide ⟨_, _, (.slice (some ⟨go, 0, none⟩) 2 2), rfl, cells_of (Blk.new X (exC ov (.slice (some ⟨go, 0, none⟩) 2 2)).toArray 31) rfl, Rep.call ((unhide hOV).call GD) hb⟩
      refine hK20065.out _ _ ?hs20065 (fun hH20065 => ?_)
      case hs20065 => exact hHeld.call hb
      clear hHeld
      have hHeld := hH20065; clear hH20065 hK20065 K20065
      refine wpAnyH_take (i := 11) (oi := ?oi20066) (v := ?v20066) ?hi20066 (by kernel_rfl) (by kernel_rfl) (by kernel_rfl) (fun _ _ _ h => h) (Or.inl ⟨?hw20066, ?hy20066⟩) (by assumption) ?rest20066
      case hi20066 => (simp only [List.getElem?_toArray, List.getElem?_cons_zero, List.getElem?_cons_succ]; rfl)
      case hw20066 => rfl
      case hy20066 => first | (intro wx hSw; go_simp; done) | (intro wx hSw; go_simp; with_reducible rfl)
      simp only [Act.put, List.setIfInBounds_toArray, List.set_cons_zero, List.set_cons_succ]
      refine unhide HOUT _ _ _ _ ?_
      exact unhide C510_ _ g1 g2 g3 _ _ (by kernel_rfl) (GD.trans (hb.mono GD.size)) (hide ((unhide hrg1).call hb)) (hide ((unhide hrg2).call hb)) (hide ((unhide hrg3).call hb)) hrg6
    refine AllReadyH.cons rfl (fun K20067 hK20067 => ?_) AllReadyH.nil
    · go_simp
      go_wp2_with (go_at_call 27; refine (colL_any _ _).mono ?_; rintro e X2 ⟨rfl, hb⟩)
      refine hK20067.out _ _ ?hs20067 (fun hH20067 => ?_)
      case hs20067 => exact hHeld.call hb
      clear hHeld
      have hHeld := hH20067; clear hH20067 hK20067 K20067
      refine unhide HOUT _ _ _ _ ?_
      exact unhide C6 _ g1 g2 g3 _ (by kernel_rfl) (GD.trans (hb.mono GD.size)) (hide ((unhide hrg1).call hb)) (hide ((unhide hrg2).call hb)) (hide ((unhide hrg3).call hb))
  have C5 := hide C5
  have C410_ : ∀ (ac : Act) (g1 : Nat) (g2 : Nat) (g6 : Nat) (X : World), ac = ⟨#[.int .i64 which, ac.tmps.getD 1 undef, ac.tmps.getD 2 undef, ac.tmps.getD 3 undef, ac.tmps.getD 4 undef, .pointer (some ⟨bt, 0, none⟩), .slice (some ⟨br, 0, none⟩) 4 4, .pointer (some ⟨bo, 0, none⟩), ac.tmps.getD 8 undef, ac.tmps.getD 9 undef, ac.tmps.getD 10 undef, ac.tmps.getD 11 undef, ac.tmps.getD 12 undef, ac.tmps.getD 13 undef, ac.tmps.getD 14 undef, ac.tmps.getD 15 undef, ac.tmps.getD 16 undef, ac.tmps.getD 17 undef, ac.tmps.getD 18 undef, ac.tmps.getD 19 undef, ac.tmps.getD 20 undef, ac.tmps.getD 21 undef, ac.tmps.getD 22 undef, ac.tmps.getD 23 undef, ac.tmps.getD 24 undef, ac.tmps.getD 25 undef, ac.tmps.getD 26 undef, ac.tmps.getD 27 undef, ac.tmps.getD 28 undef, ac.tmps.getD 29 undef, .agg (exC ov (.slice (some ⟨go, 0, none⟩) 2 2)).toArray, .agg (exC (colX ⟨#[99]⟩) N0).toArray, .agg (exC ov (.slice (some ⟨go, 0, none⟩) 2 2)).toArray, .agg (exC (twoX 13 (colX ⟨#[99]⟩) ov) (.slice (some ⟨g1, 0, none⟩) 2 2)).toArray, .agg (exC ov (.slice (some ⟨go, 0, none⟩) 2 2)).toArray, .agg (exC (colX ⟨#[100]⟩) N0).toArray, .agg (exC (twoX 14 ov (colX ⟨#[100]⟩)) (.slice (some ⟨g2, 0, none⟩) 2 2)).toArray, .agg (exC ov (.slice (some ⟨go, 0, none⟩) 2 2)).toArray, ac.tmps.getD 38 undef, .agg (exC ov (.slice (some ⟨go, 0, none⟩) 2 2)).toArray, .slice (some ⟨g6, 0, none⟩) 1 1, .agg (exC (oneX 5 ov) (.slice (some ⟨g6, 0, none⟩) 1 1)).toArray, ac.tmps.getD 42 undef, ac.tmps.getD 43 undef, ac.tmps.getD 44 undef, ac.tmps.getD 45 undef, ac.tmps.getD 46 undef, ac.tmps.getD 47 undef, ac.tmps.getD 48 undef, ac.tmps.getD 49 undef, ac.tmps.getD 50 undef, ac.tmps.getD 51 undef, ac.tmps.getD 52 undef, ac.tmps.getD 53 undef, ac.tmps.getD 54 undef, ac.tmps.getD 55 undef, ac.tmps.getD 56 undef, ac.tmps.getD 57 undef, ac.tmps.getD 58 undef, ac.tmps.getD 59 undef, ac.tmps.getD 60 undef, ac.tmps.getD 61 undef, ac.tmps.getD 62 undef, ac.tmps.getD 63 undef, ac.tmps.getD 64 undef, ac.tmps.getD 65 undef, ac.tmps.getD 66 undef, ac.tmps.getD 67 undef, ac.tmps.getD 68 undef, ac.tmps.getD 69 undef, ac.tmps.getD 70 undef, ac.tmps.getD 71 undef, ac.tmps.getD 72 undef, ac.tmps.getD 73 undef, ac.tmps.getD 74 undef, ac.tmps.getD 75 undef, ac.tmps.getD 76 undef, ac.tmps.getD 77 undef, ac.tmps.getD 78 undef, ac.tmps.getD 79 undef, ac.tmps.getD 80 undef, ac.tmps.getD 81 undef], []⟩ → Below Wd.heap.size Wd X → Hid (Rep (twoX 13 (colX ⟨#[99]⟩) ov) (.slice (some ⟨g1, 0, none⟩) 2 2) X) → Hid (Rep (twoX 14 ov (colX ⟨#[100]⟩)) (.slice (some ⟨g2, 0, none⟩) 2 2) X) → Hid (Rep (oneX 5 ov) (.slice (some ⟨g6, 0, none⟩) 1 1) X) → GG 8 #[true, true, true, true, true, true, true, true, false, true, true, true, false, false, false, false, false, false, false] ac X := by
    intro ac g1 g2 g6 X ha GD hrg1 hrg2 hrg6
    obtain ⟨u, rfl⟩ : ∃ u : Nat → Value, ac = ⟨#[.int .i64 which, u 1, u 2, u 3, u 4, .pointer (some ⟨bt, 0, none⟩), .slice (some ⟨br, 0, none⟩) 4 4, .pointer (some ⟨bo, 0, none⟩), u 8, u 9, u 10, u 11, u 12, u 13, u 14, u 15, u 16, u 17, u 18, u 19, u 20, u 21, u 22, u 23, u 24, u 25, u 26, u 27, u 28, u 29, .agg (exC ov (.slice (some ⟨go, 0, none⟩) 2 2)).toArray, .agg (exC (colX ⟨#[99]⟩) N0).toArray, .agg (exC ov (.slice (some ⟨go, 0, none⟩) 2 2)).toArray, .agg (exC (twoX 13 (colX ⟨#[99]⟩) ov) (.slice (some ⟨g1, 0, none⟩) 2 2)).toArray, .agg (exC ov (.slice (some ⟨go, 0, none⟩) 2 2)).toArray, .agg (exC (colX ⟨#[100]⟩) N0).toArray, .agg (exC (twoX 14 ov (colX ⟨#[100]⟩)) (.slice (some ⟨g2, 0, none⟩) 2 2)).toArray, .agg (exC ov (.slice (some ⟨go, 0, none⟩) 2 2)).toArray, u 38, .agg (exC ov (.slice (some ⟨go, 0, none⟩) 2 2)).toArray, .slice (some ⟨g6, 0, none⟩) 1 1, .agg (exC (oneX 5 ov) (.slice (some ⟨g6, 0, none⟩) 1 1)).toArray, u 42, u 43, u 44, u 45, u 46, u 47, u 48, u 49, u 50, u 51, u 52, u 53, u 54, u 55, u 56, u 57, u 58, u 59, u 60, u 61, u 62, u 63, u 64, u 65, u 66, u 67, u 68, u 69, u 70, u 71, u 72, u 73, u 74, u 75, u 76, u 77, u 78, u 79, u 80, u 81], []⟩ := ⟨fun i => ac.tmps.getD i undef, ha⟩
    clear ha
    refine unhide HIN _ _ _ _ ?_
    have hHeld : (fun X => Blk bo #[.int .i64 ov.k, .string ov.nm, .int .i64 ov.v.1, .int .i64 ov.v.2.1, .int .i64 ov.v.2.2.1, .string ov.v.2.2.2, .slice (some ⟨go, 0, none⟩) 2 2] 31 X) X := (unhide hO).call GD
    refine wpAnyH_ready (rs := [8]) (by kernel_rfl) (by simp) ?_
    refine AllReadyH.cons rfl (fun K20068 hK20068 => ?_) AllReadyH.nil
    go_simp
    go_wp2_with (go_at_call 28; refine (notL_any ov _ _ ((unhide hOV).call GD)).mono ?_; rintro e X2 ⟨g3, rfl, hrg3, hb⟩)
    refine hK20068.out _ _ ?hs20068 (fun hH20068 => ?_)
    case hs20068 => exact hHeld.call hb
    clear hHeld
    have hHeld := hH20068; clear hH20068 hK20068 K20068
    refine unhide HOUT _ _ _ _ ?_
    exact unhide C510_ _ g1 g2 _ g6 _ (by kernel_rfl) (GD.trans (hb.mono GD.size)) (hide ((unhide hrg1).call hb)) (hide ((unhide hrg2).call hb)) hrg3 (hide ((unhide hrg6).call hb))
  have C410_ := hide C410_
  have C4 : ∀ (ac : Act) (g1 : Nat) (g2 : Nat) (X : World), ac = ⟨#[.int .i64 which, ac.tmps.getD 1 undef, ac.tmps.getD 2 undef, ac.tmps.getD 3 undef, ac.tmps.getD 4 undef, .pointer (some ⟨bt, 0, none⟩), .slice (some ⟨br, 0, none⟩) 4 4, .pointer (some ⟨bo, 0, none⟩), ac.tmps.getD 8 undef, ac.tmps.getD 9 undef, ac.tmps.getD 10 undef, ac.tmps.getD 11 undef, ac.tmps.getD 12 undef, ac.tmps.getD 13 undef, ac.tmps.getD 14 undef, ac.tmps.getD 15 undef, ac.tmps.getD 16 undef, ac.tmps.getD 17 undef, ac.tmps.getD 18 undef, ac.tmps.getD 19 undef, ac.tmps.getD 20 undef, ac.tmps.getD 21 undef, ac.tmps.getD 22 undef, ac.tmps.getD 23 undef, ac.tmps.getD 24 undef, ac.tmps.getD 25 undef, ac.tmps.getD 26 undef, ac.tmps.getD 27 undef, ac.tmps.getD 28 undef, ac.tmps.getD 29 undef, .agg (exC ov (.slice (some ⟨go, 0, none⟩) 2 2)).toArray, .agg (exC (colX ⟨#[99]⟩) N0).toArray, .agg (exC ov (.slice (some ⟨go, 0, none⟩) 2 2)).toArray, .agg (exC (twoX 13 (colX ⟨#[99]⟩) ov) (.slice (some ⟨g1, 0, none⟩) 2 2)).toArray, .agg (exC ov (.slice (some ⟨go, 0, none⟩) 2 2)).toArray, .agg (exC (colX ⟨#[100]⟩) N0).toArray, .agg (exC (twoX 14 ov (colX ⟨#[100]⟩)) (.slice (some ⟨g2, 0, none⟩) 2 2)).toArray, .agg (exC ov (.slice (some ⟨go, 0, none⟩) 2 2)).toArray, ac.tmps.getD 38 undef, .agg (exC ov (.slice (some ⟨go, 0, none⟩) 2 2)).toArray, ac.tmps.getD 40 undef, ac.tmps.getD 41 undef, ac.tmps.getD 42 undef, ac.tmps.getD 43 undef, ac.tmps.getD 44 undef, ac.tmps.getD 45 undef, ac.tmps.getD 46 undef, ac.tmps.getD 47 undef, ac.tmps.getD 48 undef, ac.tmps.getD 49 undef, ac.tmps.getD 50 undef, ac.tmps.getD 51 undef, ac.tmps.getD 52 undef, ac.tmps.getD 53 undef, ac.tmps.getD 54 undef, ac.tmps.getD 55 undef, ac.tmps.getD 56 undef, ac.tmps.getD 57 undef, ac.tmps.getD 58 undef, ac.tmps.getD 59 undef, ac.tmps.getD 60 undef, ac.tmps.getD 61 undef, ac.tmps.getD 62 undef, ac.tmps.getD 63 undef, ac.tmps.getD 64 undef, ac.tmps.getD 65 undef, ac.tmps.getD 66 undef, ac.tmps.getD 67 undef, ac.tmps.getD 68 undef, ac.tmps.getD 69 undef, ac.tmps.getD 70 undef, ac.tmps.getD 71 undef, ac.tmps.getD 72 undef, ac.tmps.getD 73 undef, ac.tmps.getD 74 undef, ac.tmps.getD 75 undef, ac.tmps.getD 76 undef, ac.tmps.getD 77 undef, ac.tmps.getD 78 undef, ac.tmps.getD 79 undef, ac.tmps.getD 80 undef, ac.tmps.getD 81 undef], []⟩ → Below Wd.heap.size Wd X → Hid (Rep (twoX 13 (colX ⟨#[99]⟩) ov) (.slice (some ⟨g1, 0, none⟩) 2 2) X) → Hid (Rep (twoX 14 ov (colX ⟨#[100]⟩)) (.slice (some ⟨g2, 0, none⟩) 2 2) X) → GG 10 #[true, true, true, true, true, true, true, true, false, true, false, false, false, false, false, false, false, false, false] ac X := by
    intro ac g1 g2 X ha GD hrg1 hrg2
    obtain ⟨u, rfl⟩ : ∃ u : Nat → Value, ac = ⟨#[.int .i64 which, u 1, u 2, u 3, u 4, .pointer (some ⟨bt, 0, none⟩), .slice (some ⟨br, 0, none⟩) 4 4, .pointer (some ⟨bo, 0, none⟩), u 8, u 9, u 10, u 11, u 12, u 13, u 14, u 15, u 16, u 17, u 18, u 19, u 20, u 21, u 22, u 23, u 24, u 25, u 26, u 27, u 28, u 29, .agg (exC ov (.slice (some ⟨go, 0, none⟩) 2 2)).toArray, .agg (exC (colX ⟨#[99]⟩) N0).toArray, .agg (exC ov (.slice (some ⟨go, 0, none⟩) 2 2)).toArray, .agg (exC (twoX 13 (colX ⟨#[99]⟩) ov) (.slice (some ⟨g1, 0, none⟩) 2 2)).toArray, .agg (exC ov (.slice (some ⟨go, 0, none⟩) 2 2)).toArray, .agg (exC (colX ⟨#[100]⟩) N0).toArray, .agg (exC (twoX 14 ov (colX ⟨#[100]⟩)) (.slice (some ⟨g2, 0, none⟩) 2 2)).toArray, .agg (exC ov (.slice (some ⟨go, 0, none⟩) 2 2)).toArray, u 38, .agg (exC ov (.slice (some ⟨go, 0, none⟩) 2 2)).toArray, u 40, u 41, u 42, u 43, u 44, u 45, u 46, u 47, u 48, u 49, u 50, u 51, u 52, u 53, u 54, u 55, u 56, u 57, u 58, u 59, u 60, u 61, u 62, u 63, u 64, u 65, u 66, u 67, u 68, u 69, u 70, u 71, u 72, u 73, u 74, u 75, u 76, u 77, u 78, u 79, u 80, u 81], []⟩ := ⟨fun i => ac.tmps.getD i undef, ha⟩
    clear ha
    refine unhide HIN _ _ _ _ ?_
    have hHeld : (fun X => Blk bo #[.int .i64 ov.k, .string ov.nm, .int .i64 ov.v.1, .int .i64 ov.v.2.1, .int .i64 ov.v.2.2.1, .string ov.v.2.2.2, .slice (some ⟨go, 0, none⟩) 2 2] 31 X) X := (unhide hO).call GD
    refine wpAnyH_ready (rs := [8, 10]) (by kernel_rfl) (by simp) ?_
    refine AllReadyH.cons rfl (fun K20069 hK20069 => ?_) ?_
    · go_simp
      go_wp2_with (go_at_call 28; refine (notL_any ov _ _ ((unhide hOV).call GD)).mono ?_; rintro e X2 ⟨g3, rfl, hrg3, hb⟩)
      refine hK20069.out _ _ ?hs20069 (fun hH20069 => ?_)
      case hs20069 => exact hHeld.call hb
      clear hHeld
      have hHeld := hH20069; clear hH20069 hK20069 K20069
      refine unhide HOUT _ _ _ _ ?_
      exact unhide C5 _ g1 g2 _ _ (by kernel_rfl) (GD.trans (hb.mono GD.size)) (hide ((unhide hrg1).call hb)) (hide ((unhide hrg2).call hb)) hrg3
    refine AllReadyH.cons rfl (fun K20070 hK20070 => ?_) AllReadyH.nil
    · go_simp
      have hb := below_new X (.cells (exC ov (.slice (some ⟨go, 0, none⟩) 2 2)).toArray 31)
      have hrg6 : Hid (Rep (oneX 5 ov) (.slice (some ⟨X.heap.size, 0, none⟩) 1 1) (X.alloc (.cells (exC ov (.slice (some ⟨go, 0, none⟩) 2 2)).toArray 31))) := hide ⟨_, _, (.slice (some ⟨go, 0, none⟩) 2 2), rfl, cells_of (Blk.new X (exC ov (.slice (some ⟨go, 0, none⟩) 2 2)).toArray 31) rfl, Rep.call ((unhide hOV).call GD) hb⟩
      refine hK20070.out _ _ ?hs20070 (fun hH20070 => ?_)
      case hs20070 => exact hHeld.call hb
      clear hHeld
      have hHeld := hH20070; clear hH20070 hK20070 K20070
      refine wpAnyH_take (i := 11) (oi := ?oi20071) (v := ?v20071) ?hi20071 (by kernel_rfl) (by kernel_rfl) (by kernel_rfl) (fun _ _ _ h => h) (Or.inl ⟨?hw20071, ?hy20071⟩) (by assumption) ?rest20071
      case hi20071 => (simp only [List.getElem?_toArray, List.getElem?_cons_zero, List.getElem?_cons_succ]; rfl)
      case hw20071 => rfl
      case hy20071 => first | (intro wx hSw; go_simp; done) | (intro wx hSw; go_simp; with_reducible rfl)
      simp only [Act.put, List.setIfInBounds_toArray, List.set_cons_zero, List.set_cons_succ]
      refine unhide HOUT _ _ _ _ ?_
      exact unhide C410_ _ g1 g2 _ _ (by kernel_rfl) (GD.trans (hb.mono GD.size)) (hide ((unhide hrg1).call hb)) (hide ((unhide hrg2).call hb)) hrg6
  have C4 := hide C4
  have C310_ : ∀ (ac : Act) (g1 : Nat) (g6 : Nat) (X : World), ac = ⟨#[.int .i64 which, ac.tmps.getD 1 undef, ac.tmps.getD 2 undef, ac.tmps.getD 3 undef, ac.tmps.getD 4 undef, .pointer (some ⟨bt, 0, none⟩), .slice (some ⟨br, 0, none⟩) 4 4, .pointer (some ⟨bo, 0, none⟩), ac.tmps.getD 8 undef, ac.tmps.getD 9 undef, ac.tmps.getD 10 undef, ac.tmps.getD 11 undef, ac.tmps.getD 12 undef, ac.tmps.getD 13 undef, ac.tmps.getD 14 undef, ac.tmps.getD 15 undef, ac.tmps.getD 16 undef, ac.tmps.getD 17 undef, ac.tmps.getD 18 undef, ac.tmps.getD 19 undef, ac.tmps.getD 20 undef, ac.tmps.getD 21 undef, ac.tmps.getD 22 undef, ac.tmps.getD 23 undef, ac.tmps.getD 24 undef, ac.tmps.getD 25 undef, ac.tmps.getD 26 undef, ac.tmps.getD 27 undef, ac.tmps.getD 28 undef, ac.tmps.getD 29 undef, .agg (exC ov (.slice (some ⟨go, 0, none⟩) 2 2)).toArray, .agg (exC (colX ⟨#[99]⟩) N0).toArray, .agg (exC ov (.slice (some ⟨go, 0, none⟩) 2 2)).toArray, .agg (exC (twoX 13 (colX ⟨#[99]⟩) ov) (.slice (some ⟨g1, 0, none⟩) 2 2)).toArray, .agg (exC ov (.slice (some ⟨go, 0, none⟩) 2 2)).toArray, .agg (exC (colX ⟨#[100]⟩) N0).toArray, ac.tmps.getD 36 undef, .agg (exC ov (.slice (some ⟨go, 0, none⟩) 2 2)).toArray, ac.tmps.getD 38 undef, .agg (exC ov (.slice (some ⟨go, 0, none⟩) 2 2)).toArray, .slice (some ⟨g6, 0, none⟩) 1 1, .agg (exC (oneX 5 ov) (.slice (some ⟨g6, 0, none⟩) 1 1)).toArray, ac.tmps.getD 42 undef, ac.tmps.getD 43 undef, ac.tmps.getD 44 undef, ac.tmps.getD 45 undef, ac.tmps.getD 46 undef, ac.tmps.getD 47 undef, ac.tmps.getD 48 undef, ac.tmps.getD 49 undef, ac.tmps.getD 50 undef, ac.tmps.getD 51 undef, ac.tmps.getD 52 undef, ac.tmps.getD 53 undef, ac.tmps.getD 54 undef, ac.tmps.getD 55 undef, ac.tmps.getD 56 undef, ac.tmps.getD 57 undef, ac.tmps.getD 58 undef, ac.tmps.getD 59 undef, ac.tmps.getD 60 undef, ac.tmps.getD 61 undef, ac.tmps.getD 62 undef, ac.tmps.getD 63 undef, ac.tmps.getD 64 undef, ac.tmps.getD 65 undef, ac.tmps.getD 66 undef, ac.tmps.getD 67 undef, ac.tmps.getD 68 undef, ac.tmps.getD 69 undef, ac.tmps.getD 70 undef, ac.tmps.getD 71 undef, ac.tmps.getD 72 undef, ac.tmps.getD 73 undef, ac.tmps.getD 74 undef, ac.tmps.getD 75 undef, ac.tmps.getD 76 undef, ac.tmps.getD 77 undef, ac.tmps.getD 78 undef, ac.tmps.getD 79 undef, ac.tmps.getD 80 undef, ac.tmps.getD 81 undef], []⟩ → Below Wd.heap.size Wd X → Hid (Rep (twoX 13 (colX ⟨#[99]⟩) ov) (.slice (some ⟨g1, 0, none⟩) 2 2) X) → Hid (Rep (oneX 5 ov) (.slice (some ⟨g6, 0, none⟩) 1 1) X) → GG 9 #[true, true, true, true, true, true, false, true, false, true, true, true, false, false, false, false, false, false, false] ac X := by
    intro ac g1 g6 X ha GD hrg1 hrg6
    obtain ⟨u, rfl⟩ : ∃ u : Nat → Value, ac = ⟨#[.int .i64 which, u 1, u 2, u 3, u 4, .pointer (some ⟨bt, 0, none⟩), .slice (some ⟨br, 0, none⟩) 4 4, .pointer (some ⟨bo, 0, none⟩), u 8, u 9, u 10, u 11, u 12, u 13, u 14, u 15, u 16, u 17, u 18, u 19, u 20, u 21, u 22, u 23, u 24, u 25, u 26, u 27, u 28, u 29, .agg (exC ov (.slice (some ⟨go, 0, none⟩) 2 2)).toArray, .agg (exC (colX ⟨#[99]⟩) N0).toArray, .agg (exC ov (.slice (some ⟨go, 0, none⟩) 2 2)).toArray, .agg (exC (twoX 13 (colX ⟨#[99]⟩) ov) (.slice (some ⟨g1, 0, none⟩) 2 2)).toArray, .agg (exC ov (.slice (some ⟨go, 0, none⟩) 2 2)).toArray, .agg (exC (colX ⟨#[100]⟩) N0).toArray, u 36, .agg (exC ov (.slice (some ⟨go, 0, none⟩) 2 2)).toArray, u 38, .agg (exC ov (.slice (some ⟨go, 0, none⟩) 2 2)).toArray, .slice (some ⟨g6, 0, none⟩) 1 1, .agg (exC (oneX 5 ov) (.slice (some ⟨g6, 0, none⟩) 1 1)).toArray, u 42, u 43, u 44, u 45, u 46, u 47, u 48, u 49, u 50, u 51, u 52, u 53, u 54, u 55, u 56, u 57, u 58, u 59, u 60, u 61, u 62, u 63, u 64, u 65, u 66, u 67, u 68, u 69, u 70, u 71, u 72, u 73, u 74, u 75, u 76, u 77, u 78, u 79, u 80, u 81], []⟩ := ⟨fun i => ac.tmps.getD i undef, ha⟩
    clear ha
    refine unhide HIN _ _ _ _ ?_
    have hHeld : (fun X => Blk bo #[.int .i64 ov.k, .string ov.nm, .int .i64 ov.v.1, .int .i64 ov.v.2.1, .int .i64 ov.v.2.2.1, .string ov.v.2.2.2, .slice (some ⟨go, 0, none⟩) 2 2] 31 X) X := (unhide hO).call GD
    refine wpAnyH_ready (rs := [6]) (by kernel_rfl) (by simp) ?_
    refine AllReadyH.cons rfl (fun K20072 hK20072 => ?_) AllReadyH.nil
    go_simp
    go_wp2_with (go_at_call 26; refine (twoL_any _ ov (colX ⟨#[100]⟩) _ _ _ ((unhide hOV).call GD) rfl).mono ?_; rintro e X2 ⟨g2, rfl, hrg2, hb⟩)
    refine hK20072.out _ _ ?hs20072 (fun hH20072 => ?_)
    case hs20072 => exact hHeld.call hb
    clear hHeld
    have hHeld := hH20072; clear hH20072 hK20072 K20072
    refine unhide HOUT _ _ _ _ ?_
    exact unhide C410_ _ g1 _ g6 _ (by kernel_rfl) (GD.trans (hb.mono GD.size)) (hide ((unhide hrg1).call hb)) hrg2 (hide ((unhide hrg6).call hb))
  have C310_ := hide C310_
  have C3 : ∀ (ac : Act) (g1 : Nat) (X : World), ac = ⟨#[.int .i64 which, ac.tmps.getD 1 undef, ac.tmps.getD 2 undef, ac.tmps.getD 3 undef, ac.tmps.getD 4 undef, .pointer (some ⟨bt, 0, none⟩), .slice (some ⟨br, 0, none⟩) 4 4, .pointer (some ⟨bo, 0, none⟩), ac.tmps.getD 8 undef, ac.tmps.getD 9 undef, ac.tmps.getD 10 undef, ac.tmps.getD 11 undef, ac.tmps.getD 12 undef, ac.tmps.getD 13 undef, ac.tmps.getD 14 undef, ac.tmps.getD 15 undef, ac.tmps.getD 16 undef, ac.tmps.getD 17 undef, ac.tmps.getD 18 undef, ac.tmps.getD 19 undef, ac.tmps.getD 20 undef, ac.tmps.getD 21 undef, ac.tmps.getD 22 undef, ac.tmps.getD 23 undef, ac.tmps.getD 24 undef, ac.tmps.getD 25 undef, ac.tmps.getD 26 undef, ac.tmps.getD 27 undef, ac.tmps.getD 28 undef, ac.tmps.getD 29 undef, .agg (exC ov (.slice (some ⟨go, 0, none⟩) 2 2)).toArray, .agg (exC (colX ⟨#[99]⟩) N0).toArray, .agg (exC ov (.slice (some ⟨go, 0, none⟩) 2 2)).toArray, .agg (exC (twoX 13 (colX ⟨#[99]⟩) ov) (.slice (some ⟨g1, 0, none⟩) 2 2)).toArray, .agg (exC ov (.slice (some ⟨go, 0, none⟩) 2 2)).toArray, .agg (exC (colX ⟨#[100]⟩) N0).toArray, ac.tmps.getD 36 undef, .agg (exC ov (.slice (some ⟨go, 0, none⟩) 2 2)).toArray, ac.tmps.getD 38 undef, .agg (exC ov (.slice (some ⟨go, 0, none⟩) 2 2)).toArray, ac.tmps.getD 40 undef, ac.tmps.getD 41 undef, ac.tmps.getD 42 undef, ac.tmps.getD 43 undef, ac.tmps.getD 44 undef, ac.tmps.getD 45 undef, ac.tmps.getD 46 undef, ac.tmps.getD 47 undef, ac.tmps.getD 48 undef, ac.tmps.getD 49 undef, ac.tmps.getD 50 undef, ac.tmps.getD 51 undef, ac.tmps.getD 52 undef, ac.tmps.getD 53 undef, ac.tmps.getD 54 undef, ac.tmps.getD 55 undef, ac.tmps.getD 56 undef, ac.tmps.getD 57 undef, ac.tmps.getD 58 undef, ac.tmps.getD 59 undef, ac.tmps.getD 60 undef, ac.tmps.getD 61 undef, ac.tmps.getD 62 undef, ac.tmps.getD 63 undef, ac.tmps.getD 64 undef, ac.tmps.getD 65 undef, ac.tmps.getD 66 undef, ac.tmps.getD 67 undef, ac.tmps.getD 68 undef, ac.tmps.getD 69 undef, ac.tmps.getD 70 undef, ac.tmps.getD 71 undef, ac.tmps.getD 72 undef, ac.tmps.getD 73 undef, ac.tmps.getD 74 undef, ac.tmps.getD 75 undef, ac.tmps.getD 76 undef, ac.tmps.getD 77 undef, ac.tmps.getD 78 undef, ac.tmps.getD 79 undef, ac.tmps.getD 80 undef, ac.tmps.getD 81 undef], []⟩ → Below Wd.heap.size Wd X → Hid (Rep (twoX 13 (colX ⟨#[99]⟩) ov) (.slice (some ⟨g1, 0, none⟩) 2 2) X) → GG 11 #[true, true, true, true, true, true, false, true, false, true, false, false, false, false, false, false, false, false, false] ac X := by
    intro ac g1 X ha GD hrg1
    obtain ⟨u, rfl⟩ : ∃ u : Nat → Value, ac = ⟨#[.int .i64 which, u 1, u 2, u 3, u 4, .pointer (some ⟨bt, 0, none⟩), .slice (some ⟨br, 0, none⟩) 4 4, .pointer (some ⟨bo, 0, none⟩), u 8, u 9, u 10, u 11, u 12, u 13, u 14, u 15, u 16, u 17, u 18, u 19, u 20, u 21, u 22, u 23, u 24, u 25, u 26, u 27, u 28, u 29, .agg (exC ov (.slice (some ⟨go, 0, none⟩) 2 2)).toArray, .agg (exC (colX ⟨#[99]⟩) N0).toArray, .agg (exC ov (.slice (some ⟨go, 0, none⟩) 2 2)).toArray, .agg (exC (twoX 13 (colX ⟨#[99]⟩) ov) (.slice (some ⟨g1, 0, none⟩) 2 2)).toArray, .agg (exC ov (.slice (some ⟨go, 0, none⟩) 2 2)).toArray, .agg (exC (colX ⟨#[100]⟩) N0).toArray, u 36, .agg (exC ov (.slice (some ⟨go, 0, none⟩) 2 2)).toArray, u 38, .agg (exC ov (.slice (some ⟨go, 0, none⟩) 2 2)).toArray, u 40, u 41, u 42, u 43, u 44, u 45, u 46, u 47, u 48, u 49, u 50, u 51, u 52, u 53, u 54, u 55, u 56, u 57, u 58, u 59, u 60, u 61, u 62, u 63, u 64, u 65, u 66, u 67, u 68, u 69, u 70, u 71, u 72, u 73, u 74, u 75, u 76, u 77, u 78, u 79, u 80, u 81], []⟩ := ⟨fun i => ac.tmps.getD i undef, ha⟩
    clear ha
    refine unhide HIN _ _ _ _ ?_
    have hHeld : (fun X => Blk bo #[.int .i64 ov.k, .string ov.nm, .int .i64 ov.v.1, .int .i64 ov.v.2.1, .int .i64 ov.v.2.2.1, .string ov.v.2.2.2, .slice (some ⟨go, 0, none⟩) 2 2] 31 X) X := (unhide hO).call GD
    refine wpAnyH_ready (rs := [6, 10]) (by kernel_rfl) (by simp) ?_
    refine AllReadyH.cons rfl (fun K20073 hK20073 => ?_) ?_
    · go_simp
      go_wp2_with (go_at_call 26; refine (twoL_any _ ov (colX ⟨#[100]⟩) _ _ _ ((unhide hOV).call GD) rfl).mono ?_; rintro e X2 ⟨g2, rfl, hrg2, hb⟩)
      refine hK20073.out _ _ ?hs20073 (fun hH20073 => ?_)
      case hs20073 => exact hHeld.call hb
      clear hHeld
      have hHeld := hH20073; clear hH20073 hK20073 K20073
      refine unhide HOUT _ _ _ _ ?_
      exact unhide C4 _ g1 _ _ (by kernel_rfl) (GD.trans (hb.mono GD.size)) (hide ((unhide hrg1).call hb)) hrg2
    refine AllReadyH.cons rfl (fun K20074 hK20074 => ?_) AllReadyH.nil
    · go_simp
      have hb := below_new X (.cells (exC ov (.slice (some ⟨go, 0, none⟩) 2 2)).toArray 31)
      have hrg6 : Hid (Rep (oneX 5 ov) (.slice (some ⟨X.heap.size, 0, none⟩) 1 1) (X.alloc (.cells (exC ov (.slice (some ⟨go, 0, none⟩) 2 2)).toArray 31))) := hide ⟨_, _, (.slice (some ⟨go, 0, none⟩) 2 2), rfl, cells_of (Blk.new X (exC ov (.slice (some ⟨go, 0, none⟩) 2 2)).toArray 31) rfl, Rep.call ((unhide hOV).call GD) hb⟩
      refine hK20074.out _ _ ?hs20074 (fun hH20074 => ?_)
      case hs20074 => exact hHeld.call hb
      clear hHeld
      have hHeld := hH20074; clear hH20074 hK20074 K20074
      refine wpAnyH_take (i := 11) (oi := ?oi20075) (v := ?v20075) ?hi20075 (by kernel_rfl) (by kernel_rfl) (by kernel_rfl) (fun _ _ _ h => h) (Or.inl ⟨?hw20075, ?hy20075⟩) (by assumption) ?rest20075
      case hi20075 => (simp only [List.getElem?_toArray, List.getElem?_cons_zero, List.getElem?_cons_succ]; rfl)
      case hw20075 => rfl
      case hy20075 => first | (intro wx hSw; go_simp; done) | (intro wx hSw; go_simp; with_reducible rfl)
      simp only [Act.put, List.setIfInBounds_toArray, List.set_cons_zero, List.set_cons_succ]
      refine unhide HOUT _ _ _ _ ?_
      exact unhide C310_ _ g1 _ _ (by kernel_rfl) (GD.trans (hb.mono GD.size)) (hide ((unhide hrg1).call hb)) hrg6
  have C3 := hide C3
  have C210_ : ∀ (ac : Act) (g1 : Nat) (g6 : Nat) (X : World), ac = ⟨#[.int .i64 which, ac.tmps.getD 1 undef, ac.tmps.getD 2 undef, ac.tmps.getD 3 undef, ac.tmps.getD 4 undef, .pointer (some ⟨bt, 0, none⟩), .slice (some ⟨br, 0, none⟩) 4 4, .pointer (some ⟨bo, 0, none⟩), ac.tmps.getD 8 undef, ac.tmps.getD 9 undef, ac.tmps.getD 10 undef, ac.tmps.getD 11 undef, ac.tmps.getD 12 undef, ac.tmps.getD 13 undef, ac.tmps.getD 14 undef, ac.tmps.getD 15 undef, ac.tmps.getD 16 undef, ac.tmps.getD 17 undef, ac.tmps.getD 18 undef, ac.tmps.getD 19 undef, ac.tmps.getD 20 undef, ac.tmps.getD 21 undef, ac.tmps.getD 22 undef, ac.tmps.getD 23 undef, ac.tmps.getD 24 undef, ac.tmps.getD 25 undef, ac.tmps.getD 26 undef, ac.tmps.getD 27 undef, ac.tmps.getD 28 undef, ac.tmps.getD 29 undef, .agg (exC ov (.slice (some ⟨go, 0, none⟩) 2 2)).toArray, .agg (exC (colX ⟨#[99]⟩) N0).toArray, .agg (exC ov (.slice (some ⟨go, 0, none⟩) 2 2)).toArray, .agg (exC (twoX 13 (colX ⟨#[99]⟩) ov) (.slice (some ⟨g1, 0, none⟩) 2 2)).toArray, .agg (exC ov (.slice (some ⟨go, 0, none⟩) 2 2)).toArray, ac.tmps.getD 35 undef, ac.tmps.getD 36 undef, .agg (exC ov (.slice (some ⟨go, 0, none⟩) 2 2)).toArray, ac.tmps.getD 38 undef, .agg (exC ov (.slice (some ⟨go, 0, none⟩) 2 2)).toArray, .slice (some ⟨g6, 0, none⟩) 1 1, .agg (exC (oneX 5 ov) (.slice (some ⟨g6, 0, none⟩) 1 1)).toArray, ac.tmps.getD 42 undef, ac.tmps.getD 43 undef, ac.tmps.getD 44 undef, ac.tmps.getD 45 undef, ac.tmps.getD 46 undef, ac.tmps.getD 47 undef, ac.tmps.getD 48 undef, ac.tmps.getD 49 undef, ac.tmps.getD 50 undef, ac.tmps.getD 51 undef, ac.tmps.getD 52 undef, ac.tmps.getD 53 undef, ac.tmps.getD 54 undef, ac.tmps.getD 55 undef, ac.tmps.getD 56 undef, ac.tmps.getD 57 undef, ac.tmps.getD 58 undef, ac.tmps.getD 59 undef, ac.tmps.getD 60 undef, ac.tmps.getD 61 undef, ac.tmps.getD 62 undef, ac.tmps.getD 63 undef, ac.tmps.getD 64 undef, ac.tmps.getD 65 undef, ac.tmps.getD 66 undef, ac.tmps.getD 67 undef, ac.tmps.getD 68 undef, ac.tmps.getD 69 undef, ac.tmps.getD 70 undef, ac.tmps.getD 71 undef, ac.tmps.getD 72 undef, ac.tmps.getD 73 undef, ac.tmps.getD 74 undef, ac.tmps.getD 75 undef, ac.tmps.getD 76 undef, ac.tmps.getD 77 undef, ac.tmps.getD 78 undef, ac.tmps.getD 79 undef, ac.tmps.getD 80 undef, ac.tmps.getD 81 undef], []⟩ → Below Wd.heap.size Wd X → Hid (Rep (twoX 13 (colX ⟨#[99]⟩) ov) (.slice (some ⟨g1, 0, none⟩) 2 2) X) → Hid (Rep (oneX 5 ov) (.slice (some ⟨g6, 0, none⟩) 1 1) X) → GG 10 #[true, true, true, true, true, false, false, true, false, true, true, true, false, false, false, false, false, false, false] ac X := by
    intro ac g1 g6 X ha GD hrg1 hrg6
    obtain ⟨u, rfl⟩ : ∃ u : Nat → Value, ac = ⟨#[.int .i64 which, u 1, u 2, u 3, u 4, .pointer (some ⟨bt, 0, none⟩), .slice (some ⟨br, 0, none⟩) 4 4, .pointer (some ⟨bo, 0, none⟩), u 8, u 9, u 10, u 11, u 12, u 13, u 14, u 15, u 16, u 17, u 18, u 19, u 20, u 21, u 22, u 23, u 24, u 25, u 26, u 27, u 28, u 29, .agg (exC ov (.slice (some ⟨go, 0, none⟩) 2 2)).toArray, .agg (exC (colX ⟨#[99]⟩) N0).toArray, .agg (exC ov (.slice (some ⟨go, 0, none⟩) 2 2)).toArray, .agg (exC (twoX 13 (colX ⟨#[99]⟩) ov) (.slice (some ⟨g1, 0, none⟩) 2 2)).toArray, .agg (exC ov (.slice (some ⟨go, 0, none⟩) 2 2)).toArray, u 35, u 36, .agg (exC ov (.slice (some ⟨go, 0, none⟩) 2 2)).toArray, u 38, .agg (exC ov (.slice (some ⟨go, 0, none⟩) 2 2)).toArray, .slice (some ⟨g6, 0, none⟩) 1 1, .agg (exC (oneX 5 ov) (.slice (some ⟨g6, 0, none⟩) 1 1)).toArray, u 42, u 43, u 44, u 45, u 46, u 47, u 48, u 49, u 50, u 51, u 52, u 53, u 54, u 55, u 56, u 57, u 58, u 59, u 60, u 61, u 62, u 63, u 64, u 65, u 66, u 67, u 68, u 69, u 70, u 71, u 72, u 73, u 74, u 75, u 76, u 77, u 78, u 79, u 80, u 81], []⟩ := ⟨fun i => ac.tmps.getD i undef, ha⟩
    clear ha
    refine unhide HIN _ _ _ _ ?_
    have hHeld : (fun X => Blk bo #[.int .i64 ov.k, .string ov.nm, .int .i64 ov.v.1, .int .i64 ov.v.2.1, .int .i64 ov.v.2.2.1, .string ov.v.2.2.2, .slice (some ⟨go, 0, none⟩) 2 2] 31 X) X := (unhide hO).call GD
    refine wpAnyH_ready (rs := [5]) (by kernel_rfl) (by simp) ?_
    refine AllReadyH.cons rfl (fun K20076 hK20076 => ?_) AllReadyH.nil
    go_simp
    go_wp2_with (go_at_call 27; refine (colL_any _ _).mono ?_; rintro e X2 ⟨rfl, hb⟩)
    refine hK20076.out _ _ ?hs20076 (fun hH20076 => ?_)
    case hs20076 => exact hHeld.call hb
    clear hHeld
    have hHeld := hH20076; clear hH20076 hK20076 K20076
    refine unhide HOUT _ _ _ _ ?_
    exact unhide C310_ _ g1 g6 _ (by kernel_rfl) (GD.trans (hb.mono GD.size)) (hide ((unhide hrg1).call hb)) (hide ((unhide hrg6).call hb))
  have C210_ := hide C210_
  have C2 : ∀ (ac : Act) (g1 : Nat) (X : World), ac = ⟨#[.int .i64 which, ac.tmps.getD 1 undef, ac.tmps.getD 2 undef, ac.tmps.getD 3 undef, ac.tmps.getD 4 undef, .pointer (some ⟨bt, 0, none⟩), .slice (some ⟨br, 0, none⟩) 4 4, .pointer (some ⟨bo, 0, none⟩), ac.tmps.getD 8 undef, ac.tmps.getD 9 undef, ac.tmps.getD 10 undef, ac.tmps.getD 11 undef, ac.tmps.getD 12 undef, ac.tmps.getD 13 undef, ac.tmps.getD 14 undef, ac.tmps.getD 15 undef, ac.tmps.getD 16 undef, ac.tmps.getD 17 undef, ac.tmps.getD 18 undef, ac.tmps.getD 19 undef, ac.tmps.getD 20 undef, ac.tmps.getD 21 undef, ac.tmps.getD 22 undef, ac.tmps.getD 23 undef, ac.tmps.getD 24 undef, ac.tmps.getD 25 undef, ac.tmps.getD 26 undef, ac.tmps.getD 27 undef, ac.tmps.getD 28 undef, ac.tmps.getD 29 undef, .agg (exC ov (.slice (some ⟨go, 0, none⟩) 2 2)).toArray, .agg (exC (colX ⟨#[99]⟩) N0).toArray, .agg (exC ov (.slice (some ⟨go, 0, none⟩) 2 2)).toArray, .agg (exC (twoX 13 (colX ⟨#[99]⟩) ov) (.slice (some ⟨g1, 0, none⟩) 2 2)).toArray, .agg (exC ov (.slice (some ⟨go, 0, none⟩) 2 2)).toArray, ac.tmps.getD 35 undef, ac.tmps.getD 36 undef, .agg (exC ov (.slice (some ⟨go, 0, none⟩) 2 2)).toArray, ac.tmps.getD 38 undef, .agg (exC ov (.slice (some ⟨go, 0, none⟩) 2 2)).toArray, ac.tmps.getD 40 undef, ac.tmps.getD 41 undef, ac.tmps.getD 42 undef, ac.tmps.getD 43 undef, ac.tmps.getD 44 undef, ac.tmps.getD 45 undef, ac.tmps.getD 46 undef, ac.tmps.getD 47 undef, ac.tmps.getD 48 undef, ac.tmps.getD 49 undef, ac.tmps.getD 50 undef, ac.tmps.getD 51 undef, ac.tmps.getD 52 undef, ac.tmps.getD 53 undef, ac.tmps.getD 54 undef, ac.tmps.getD 55 undef, ac.tmps.getD 56 undef, ac.tmps.getD 57 undef, ac.tmps.getD 58 undef, ac.tmps.getD 59 undef, ac.tmps.getD 60 undef, ac.tmps.getD 61 undef, ac.tmps.getD 62 undef, ac.tmps.getD 63 undef, ac.tmps.getD 64 undef, ac.tmps.getD 65 undef, ac.tmps.getD 66 undef, ac.tmps.getD 67 undef, ac.tmps.getD 68 undef, ac.tmps.getD 69 undef, ac.tmps.getD 70 undef, ac.tmps.getD 71 undef, ac.tmps.getD 72 undef, ac.tmps.getD 73 undef, ac.tmps.getD 74 undef, ac.tmps.getD 75 undef, ac.tmps.getD 76 undef, ac.tmps.getD 77 undef, ac.tmps.getD 78 undef, ac.tmps.getD 79 undef, ac.tmps.getD 80 undef, ac.tmps.getD 81 undef], []⟩ → Below Wd.heap.size Wd X → Hid (Rep (twoX 13 (colX ⟨#[99]⟩) ov) (.slice (some ⟨g1, 0, none⟩) 2 2) X) → GG 12 #[true, true, true, true, true, false, false, true, false, true, false, false, false, false, false, false, false, false, false] ac X := by
    intro ac g1 X ha GD hrg1
    obtain ⟨u, rfl⟩ : ∃ u : Nat → Value, ac = ⟨#[.int .i64 which, u 1, u 2, u 3, u 4, .pointer (some ⟨bt, 0, none⟩), .slice (some ⟨br, 0, none⟩) 4 4, .pointer (some ⟨bo, 0, none⟩), u 8, u 9, u 10, u 11, u 12, u 13, u 14, u 15, u 16, u 17, u 18, u 19, u 20, u 21, u 22, u 23, u 24, u 25, u 26, u 27, u 28, u 29, .agg (exC ov (.slice (some ⟨go, 0, none⟩) 2 2)).toArray, .agg (exC (colX ⟨#[99]⟩) N0).toArray, .agg (exC ov (.slice (some ⟨go, 0, none⟩) 2 2)).toArray, .agg (exC (twoX 13 (colX ⟨#[99]⟩) ov) (.slice (some ⟨g1, 0, none⟩) 2 2)).toArray, .agg (exC ov (.slice (some ⟨go, 0, none⟩) 2 2)).toArray, u 35, u 36, .agg (exC ov (.slice (some ⟨go, 0, none⟩) 2 2)).toArray, u 38, .agg (exC ov (.slice (some ⟨go, 0, none⟩) 2 2)).toArray, u 40, u 41, u 42, u 43, u 44, u 45, u 46, u 47, u 48, u 49, u 50, u 51, u 52, u 53, u 54, u 55, u 56, u 57, u 58, u 59, u 60, u 61, u 62, u 63, u 64, u 65, u 66, u 67, u 68, u 69, u 70, u 71, u 72, u 73, u 74, u 75, u 76, u 77, u 78, u 79, u 80, u 81], []⟩ := ⟨fun i => ac.tmps.getD i undef, ha⟩
    clear ha
    refine unhide HIN _ _ _ _ ?_
    have hHeld : (fun X => Blk bo #[.int .i64 ov.k, .string ov.nm, .int .i64 ov.v.1, .int .i64 ov.v.2.1, .int .i64 ov.v.2.2.1, .string ov.v.2.2.2, .slice (some ⟨go, 0, none⟩) 2 2] 31 X) X := (unhide hO).call GD
    refine wpAnyH_ready (rs := [5, 10]) (by kernel_rfl) (by simp) ?_
    refine AllReadyH.cons rfl (fun K20077 hK20077 => ?_) ?_
    · go_simp
      go_wp2_with (go_at_call 27; refine (colL_any _ _).mono ?_; rintro e X2 ⟨rfl, hb⟩)
      refine hK20077.out _ _ ?hs20077 (fun hH20077 => ?_)
      case hs20077 => exact hHeld.call hb
      clear hHeld
      have hHeld := hH20077; clear hH20077 hK20077 K20077
      refine unhide HOUT _ _ _ _ ?_
      exact unhide C3 _ g1 _ (by kernel_rfl) (GD.trans (hb.mono GD.size)) (hide ((unhide hrg1).call hb))
    refine AllReadyH.cons rfl (fun K20078 hK20078 => ?_) AllReadyH.nil
    · go_simp
      have hb := below_new X (.cells (exC ov (.slice (some ⟨go, 0, none⟩) 2 2)).toArray 31)
      have hrg6 : Hid (Rep (oneX 5 ov) (.slice (some ⟨X.heap.size, 0, none⟩) 1 1) (X.alloc (.cells (exC ov (.slice (some ⟨go, 0, none⟩) 2 2)).toArray 31))) := hide ⟨_, _, (.slice (some ⟨go, 0, none⟩) 2 2), rfl, cells_of (Blk.new X (exC ov (.slice (some ⟨go, 0, none⟩) 2 2)).toArray 31) rfl, Rep.call ((unhide hOV).call GD) hb⟩
      refine hK20078.out _ _ ?hs20078 (fun hH20078 => ?_)
      case hs20078 => exact hHeld.call hb
      clear hHeld
      have hHeld := hH20078; clear hH20078 hK20078 K20078
      refine wpAnyH_take (i := 11) (oi := ?oi20079) (v := ?v20079) ?hi20079 (by kernel_rfl) (by kernel_rfl) (by kernel_rfl) (fun _ _ _ h => h) (Or.inl ⟨?hw20079, ?hy20079⟩) (by assumption) ?rest20079
      case hi20079 => (simp only [List.getElem?_toArray, List.getElem?_cons_zero, List.getElem?_cons_succ]; rfl)
      case hw20079 => rfl
      case hy20079 => first | (intro wx hSw; go_simp; done) | (intro wx hSw; go_simp; with_reducible rfl)
      simp only [Act.put, List.setIfInBounds_toArray, List.set_cons_zero, List.set_cons_succ]
      refine unhide HOUT _ _ _ _ ?_
      exact unhide C210_ _ g1 _ _ (by kernel_rfl) (GD.trans (hb.mono GD.size)) (hide ((unhide hrg1).call hb)) hrg6
  have C2 := hide C2
  have C110_ : ∀ (ac : Act) (g6 : Nat) (X : World), ac = ⟨#[.int .i64 which, ac.tmps.getD 1 undef, ac.tmps.getD 2 undef, ac.tmps.getD 3 undef, ac.tmps.getD 4 undef, .pointer (some ⟨bt, 0, none⟩), .slice (some ⟨br, 0, none⟩) 4 4, .pointer (some ⟨bo, 0, none⟩), ac.tmps.getD 8 undef, ac.tmps.getD 9 undef, ac.tmps.getD 10 undef, ac.tmps.getD 11 undef, ac.tmps.getD 12 undef, ac.tmps.getD 13 undef, ac.tmps.getD 14 undef, ac.tmps.getD 15 undef, ac.tmps.getD 16 undef, ac.tmps.getD 17 undef, ac.tmps.getD 18 undef, ac.tmps.getD 19 undef, ac.tmps.getD 20 undef, ac.tmps.getD 21 undef, ac.tmps.getD 22 undef, ac.tmps.getD 23 undef, ac.tmps.getD 24 undef, ac.tmps.getD 25 undef, ac.tmps.getD 26 undef, ac.tmps.getD 27 undef, ac.tmps.getD 28 undef, ac.tmps.getD 29 undef, .agg (exC ov (.slice (some ⟨go, 0, none⟩) 2 2)).toArray, .agg (exC (colX ⟨#[99]⟩) N0).toArray, .agg (exC ov (.slice (some ⟨go, 0, none⟩) 2 2)).toArray, ac.tmps.getD 33 undef, .agg (exC ov (.slice (some ⟨go, 0, none⟩) 2 2)).toArray, ac.tmps.getD 35 undef, ac.tmps.getD 36 undef, .agg (exC ov (.slice (some ⟨go, 0, none⟩) 2 2)).toArray, ac.tmps.getD 38 undef, .agg (exC ov (.slice (some ⟨go, 0, none⟩) 2 2)).toArray, .slice (some ⟨g6, 0, none⟩) 1 1, .agg (exC (oneX 5 ov) (.slice (some ⟨g6, 0, none⟩) 1 1)).toArray, ac.tmps.getD 42 undef, ac.tmps.getD 43 undef, ac.tmps.getD 44 undef, ac.tmps.getD 45 undef, ac.tmps.getD 46 undef, ac.tmps.getD 47 undef, ac.tmps.getD 48 undef, ac.tmps.getD 49 undef, ac.tmps.getD 50 undef, ac.tmps.getD 51 undef, ac.tmps.getD 52 undef, ac.tmps.getD 53 undef, ac.tmps.getD 54 undef, ac.tmps.getD 55 undef, ac.tmps.getD 56 undef, ac.tmps.getD 57 undef, ac.tmps.getD 58 undef, ac.tmps.getD 59 undef, ac.tmps.getD 60 undef, ac.tmps.getD 61 undef, ac.tmps.getD 62 undef, ac.tmps.getD 63 undef, ac.tmps.getD 64 undef, ac.tmps.getD 65 undef, ac.tmps.getD 66 undef, ac.tmps.getD 67 undef, ac.tmps.getD 68 undef, ac.tmps.getD 69 undef, ac.tmps.getD 70 undef, ac.tmps.getD 71 undef, ac.tmps.getD 72 undef, ac.tmps.getD 73 undef, ac.tmps.getD 74 undef, ac.tmps.getD 75 undef, ac.tmps.getD 76 undef, ac.tmps.getD 77 undef, ac.tmps.getD 78 undef, ac.tmps.getD 79 undef, ac.tmps.getD 80 undef, ac.tmps.getD 81 undef], []⟩ → Below Wd.heap.size Wd X → Hid (Rep (oneX 5 ov) (.slice (some ⟨g6, 0, none⟩) 1 1) X) → GG 11 #[true, true, true, false, true, false, false, true, false, true, true, true, false, false, false, false, false, false, false] ac X := by
    intro ac g6 X ha GD hrg6
    obtain ⟨u, rfl⟩ : ∃ u : Nat → Value, ac = ⟨#[.int .i64 which, u 1, u 2, u 3, u 4, .pointer (some ⟨bt, 0, none⟩), .slice (some ⟨br, 0, none⟩) 4 4, .pointer (some ⟨bo, 0, none⟩), u 8, u 9, u 10, u 11, u 12, u 13, u 14, u 15, u 16, u 17, u 18, u 19, u 20, u 21, u 22, u 23, u 24, u 25, u 26, u 27, u 28, u 29, .agg (exC ov (.slice (some ⟨go, 0, none⟩) 2 2)).toArray, .agg (exC (colX ⟨#[99]⟩) N0).toArray, .agg (exC ov (.slice (some ⟨go, 0, none⟩) 2 2)).toArray, u 33, .agg (exC ov (.slice (some ⟨go, 0, none⟩) 2 2)).toArray, u 35, u 36, .agg (exC ov (.slice (some ⟨go, 0, none⟩) 2 2)).toArray, u 38, .agg (exC ov (.slice (some ⟨go, 0, none⟩) 2 2)).toArray, .slice (some ⟨g6, 0, none⟩) 1 1, .agg (exC (oneX 5 ov) (.slice (some ⟨g6, 0, none⟩) 1 1)).toArray, u 42, u 43, u 44, u 45, u 46, u 47, u 48, u 49, u 50, u 51, u 52, u 53, u 54, u 55, u 56, u 57, u 58, u 59, u 60, u 61, u 62, u 63, u 64, u 65, u 66, u 67, u 68, u 69, u 70, u 71, u 72, u 73, u 74, u 75, u 76, u 77, u 78, u 79, u 80, u 81], []⟩ := ⟨fun i => ac.tmps.getD i undef, ha⟩
    clear ha
    refine unhide HIN _ _ _ _ ?_
    have hHeld : (fun X => Blk bo #[.int .i64 ov.k, .string ov.nm, .int .i64 ov.v.1, .int .i64 ov.v.2.1, .int .i64 ov.v.2.2.1, .string ov.v.2.2.2, .slice (some ⟨go, 0, none⟩) 2 2] 31 X) X := (unhide hO).call GD
    refine wpAnyH_ready (rs := [3]) (by kernel_rfl) (by simp) ?_
    refine AllReadyH.cons rfl (fun K20080 hK20080 => ?_) AllReadyH.nil
    go_simp
    go_wp2_with (go_at_call 26; refine (twoL_any _ (colX ⟨#[99]⟩) ov _ _ _ rfl ((unhide hOV).call GD)).mono ?_; rintro e X2 ⟨g1, rfl, hrg1, hb⟩)
    refine hK20080.out _ _ ?hs20080 (fun hH20080 => ?_)
    case hs20080 => exact hHeld.call hb
    clear hHeld
    have hHeld := hH20080; clear hH20080 hK20080 K20080
    refine unhide HOUT _ _ _ _ ?_
    exact unhide C210_ _ _ g6 _ (by kernel_rfl) (GD.trans (hb.mono GD.size)) hrg1 (hide ((unhide hrg6).call hb))
  have C110_ := hide C110_
  have C1 : ∀ (ac : Act) (X : World), ac = ⟨#[.int .i64 which, ac.tmps.getD 1 undef, ac.tmps.getD 2 undef, ac.tmps.getD 3 undef, ac.tmps.getD 4 undef, .pointer (some ⟨bt, 0, none⟩), .slice (some ⟨br, 0, none⟩) 4 4, .pointer (some ⟨bo, 0, none⟩), ac.tmps.getD 8 undef, ac.tmps.getD 9 undef, ac.tmps.getD 10 undef, ac.tmps.getD 11 undef, ac.tmps.getD 12 undef, ac.tmps.getD 13 undef, ac.tmps.getD 14 undef, ac.tmps.getD 15 undef, ac.tmps.getD 16 undef, ac.tmps.getD 17 undef, ac.tmps.getD 18 undef, ac.tmps.getD 19 undef, ac.tmps.getD 20 undef, ac.tmps.getD 21 undef, ac.tmps.getD 22 undef, ac.tmps.getD 23 undef, ac.tmps.getD 24 undef, ac.tmps.getD 25 undef, ac.tmps.getD 26 undef, ac.tmps.getD 27 undef, ac.tmps.getD 28 undef, ac.tmps.getD 29 undef, .agg (exC ov (.slice (some ⟨go, 0, none⟩) 2 2)).toArray, .agg (exC (colX ⟨#[99]⟩) N0).toArray, .agg (exC ov (.slice (some ⟨go, 0, none⟩) 2 2)).toArray, ac.tmps.getD 33 undef, .agg (exC ov (.slice (some ⟨go, 0, none⟩) 2 2)).toArray, ac.tmps.getD 35 undef, ac.tmps.getD 36 undef, .agg (exC ov (.slice (some ⟨go, 0, none⟩) 2 2)).toArray, ac.tmps.getD 38 undef, .agg (exC ov (.slice (some ⟨go, 0, none⟩) 2 2)).toArray, ac.tmps.getD 40 undef, ac.tmps.getD 41 undef, ac.tmps.getD 42 undef, ac.tmps.getD 43 undef, ac.tmps.getD 44 undef, ac.tmps.getD 45 undef, ac.tmps.getD 46 undef, ac.tmps.getD 47 undef, ac.tmps.getD 48 undef, ac.tmps.getD 49 undef, ac.tmps.getD 50 undef, ac.tmps.getD 51 undef, ac.tmps.getD 52 undef, ac.tmps.getD 53 undef, ac.tmps.getD 54 undef, ac.tmps.getD 55 undef, ac.tmps.getD 56 undef, ac.tmps.getD 57 undef, ac.tmps.getD 58 undef, ac.tmps.getD 59 undef, ac.tmps.getD 60 undef, ac.tmps.getD 61 undef, ac.tmps.getD 62 undef, ac.tmps.getD 63 undef, ac.tmps.getD 64 undef, ac.tmps.getD 65 undef, ac.tmps.getD 66 undef, ac.tmps.getD 67 undef, ac.tmps.getD 68 undef, ac.tmps.getD 69 undef, ac.tmps.getD 70 undef, ac.tmps.getD 71 undef, ac.tmps.getD 72 undef, ac.tmps.getD 73 undef, ac.tmps.getD 74 undef, ac.tmps.getD 75 undef, ac.tmps.getD 76 undef, ac.tmps.getD 77 undef, ac.tmps.getD 78 undef, ac.tmps.getD 79 undef, ac.tmps.getD 80 undef, ac.tmps.getD 81 undef], []⟩ → Below Wd.heap.size Wd X → GG 13 #[true, true, true, false, true, false, false, true, false, true, false, false, false, false, false, false, false, false, false] ac X := by
    intro ac X ha GD
    obtain ⟨u, rfl⟩ : ∃ u : Nat → Value, ac = ⟨#[.int .i64 which, u 1, u 2, u 3, u 4, .pointer (some ⟨bt, 0, none⟩), .slice (some ⟨br, 0, none⟩) 4 4, .pointer (some ⟨bo, 0, none⟩), u 8, u 9, u 10, u 11, u 12, u 13, u 14, u 15, u 16, u 17, u 18, u 19, u 20, u 21, u 22, u 23, u 24, u 25, u 26, u 27, u 28, u 29, .agg (exC ov (.slice (some ⟨go, 0, none⟩) 2 2)).toArray, .agg (exC (colX ⟨#[99]⟩) N0).toArray, .agg (exC ov (.slice (some ⟨go, 0, none⟩) 2 2)).toArray, u 33, .agg (exC ov (.slice (some ⟨go, 0, none⟩) 2 2)).toArray, u 35, u 36, .agg (exC ov (.slice (some ⟨go, 0, none⟩) 2 2)).toArray, u 38, .agg (exC ov (.slice (some ⟨go, 0, none⟩) 2 2)).toArray, u 40, u 41, u 42, u 43, u 44, u 45, u 46, u 47, u 48, u 49, u 50, u 51, u 52, u 53, u 54, u 55, u 56, u 57, u 58, u 59, u 60, u 61, u 62, u 63, u 64, u 65, u 66, u 67, u 68, u 69, u 70, u 71, u 72, u 73, u 74, u 75, u 76, u 77, u 78, u 79, u 80, u 81], []⟩ := ⟨fun i => ac.tmps.getD i undef, ha⟩
    clear ha
    refine unhide HIN _ _ _ _ ?_
    have hHeld : (fun X => Blk bo #[.int .i64 ov.k, .string ov.nm, .int .i64 ov.v.1, .int .i64 ov.v.2.1, .int .i64 ov.v.2.2.1, .string ov.v.2.2.2, .slice (some ⟨go, 0, none⟩) 2 2] 31 X) X := (unhide hO).call GD
    refine wpAnyH_ready (rs := [3, 10]) (by kernel_rfl) (by simp) ?_
    refine AllReadyH.cons rfl (fun K20081 hK20081 => ?_) ?_
    · go_simp
      go_wp2_with (go_at_call 26; refine (twoL_any _ (colX ⟨#[99]⟩) ov _ _ _ rfl ((unhide hOV).call GD)).mono ?_; rintro e X2 ⟨g1, rfl, hrg1, hb⟩)
      refine hK20081.out _ _ ?hs20081 (fun hH20081 => ?_)
      case hs20081 => exact hHeld.call hb
      clear hHeld
      have hHeld := hH20081; clear hH20081 hK20081 K20081
      refine unhide HOUT _ _ _ _ ?_
      exact unhide C2 _ _ _ (by kernel_rfl) (GD.trans (hb.mono GD.size)) hrg1
    refine AllReadyH.cons rfl (fun K20082 hK20082 => ?_) AllReadyH.nil
    · go_simp
      have hb := below_new X (.cells (exC ov (.slice (some ⟨go, 0, none⟩) 2 2)).toArray 31)
      have hrg6 : Hid (Rep (oneX 5 ov) (.slice (some ⟨X.heap.size, 0, none⟩) 1 1) (X.alloc (.cells (exC ov (.slice (some ⟨go, 0, none⟩) 2 2)).toArray 31))) := hide ⟨_, _, (.slice (some ⟨go, 0, none⟩) 2 2), rfl, cells_of (Blk.new X (exC ov (.slice (some ⟨go, 0, none⟩) 2 2)).toArray 31) rfl, Rep.call ((unhide hOV).call GD) hb⟩
      refine hK20082.out _ _ ?hs20082 (fun hH20082 => ?_)
      case hs20082 => exact hHeld.call hb
      clear hHeld
      have hHeld := hH20082; clear hH20082 hK20082 K20082
      refine wpAnyH_take (i := 11) (oi := ?oi20083) (v := ?v20083) ?hi20083 (by kernel_rfl) (by kernel_rfl) (by kernel_rfl) (fun _ _ _ h => h) (Or.inl ⟨?hw20083, ?hy20083⟩) (by assumption) ?rest20083
      case hi20083 => (simp only [List.getElem?_toArray, List.getElem?_cons_zero, List.getElem?_cons_succ]; rfl)
      case hw20083 => rfl
      case hy20083 => first | (intro wx hSw; go_simp; done) | (intro wx hSw; go_simp; with_reducible rfl)
      simp only [Act.put, List.setIfInBounds_toArray, List.set_cons_zero, List.set_cons_succ]
      refine unhide HOUT _ _ _ _ ?_
      exact unhide C110_ _ _ _ (by kernel_rfl) (GD.trans (hb.mono GD.size)) hrg6
  have C1 := hide C1
  have C010_ : ∀ (ac : Act) (g6 : Nat) (X : World), ac = ⟨#[.int .i64 which, ac.tmps.getD 1 undef, ac.tmps.getD 2 undef, ac.tmps.getD 3 undef, ac.tmps.getD 4 undef, .pointer (some ⟨bt, 0, none⟩), .slice (some ⟨br, 0, none⟩) 4 4, .pointer (some ⟨bo, 0, none⟩), ac.tmps.getD 8 undef, ac.tmps.getD 9 undef, ac.tmps.getD 10 undef, ac.tmps.getD 11 undef, ac.tmps.getD 12 undef, ac.tmps.getD 13 undef, ac.tmps.getD 14 undef, ac.tmps.getD 15 undef, ac.tmps.getD 16 undef, ac.tmps.getD 17 undef, ac.tmps.getD 18 undef, ac.tmps.getD 19 undef, ac.tmps.getD 20 undef, ac.tmps.getD 21 undef, ac.tmps.getD 22 undef, ac.tmps.getD 23 undef, ac.tmps.getD 24 undef, ac.tmps.getD 25 undef, ac.tmps.getD 26 undef, ac.tmps.getD 27 undef, ac.tmps.getD 28 undef, ac.tmps.getD 29 undef, .agg (exC ov (.slice (some ⟨go, 0, none⟩) 2 2)).toArray, ac.tmps.getD 31 undef, .agg (exC ov (.slice (some ⟨go, 0, none⟩) 2 2)).toArray, ac.tmps.getD 33 undef, .agg (exC ov (.slice (some ⟨go, 0, none⟩) 2 2)).toArray, ac.tmps.getD 35 undef, ac.tmps.getD 36 undef, .agg (exC ov (.slice (some ⟨go, 0, none⟩) 2 2)).toArray, ac.tmps.getD 38 undef, .agg (exC ov (.slice (some ⟨go, 0, none⟩) 2 2)).toArray, .slice (some ⟨g6, 0, none⟩) 1 1, .agg (exC (oneX 5 ov) (.slice (some ⟨g6, 0, none⟩) 1 1)).toArray, ac.tmps.getD 42 undef, ac.tmps.getD 43 undef, ac.tmps.getD 44 undef, ac.tmps.getD 45 undef, ac.tmps.getD 46 undef, ac.tmps.getD 47 undef, ac.tmps.getD 48 undef, ac.tmps.getD 49 undef, ac.tmps.getD 50 undef, ac.tmps.getD 51 undef, ac.tmps.getD 52 undef, ac.tmps.getD 53 undef, ac.tmps.getD 54 undef, ac.tmps.getD 55 undef, ac.tmps.getD 56 undef, ac.tmps.getD 57 undef, ac.tmps.getD 58 undef, ac.tmps.getD 59 undef, ac.tmps.getD 60 undef, ac.tmps.getD 61 undef, ac.tmps.getD 62 undef, ac.tmps.getD 63 undef, ac.tmps.getD 64 undef, ac.tmps.getD 65 undef, ac.tmps.getD 66 undef, ac.tmps.getD 67 undef, ac.tmps.getD 68 undef, ac.tmps.getD 69 undef, ac.tmps.getD 70 undef, ac.tmps.getD 71 undef, ac.tmps.getD 72 undef, ac.tmps.getD 73 undef, ac.tmps.getD 74 undef, ac.tmps.getD 75 undef, ac.tmps.getD 76 undef, ac.tmps.getD 77 undef, ac.tmps.getD 78 undef, ac.tmps.getD 79 undef, ac.tmps.getD 80 undef, ac.tmps.getD 81 undef], []⟩ → Below Wd.heap.size Wd X → Hid (Rep (oneX 5 ov) (.slice (some ⟨g6, 0, none⟩) 1 1) X) → GG 12 #[true, false, true, false, true, false, false, true, false, true, true, true, false, false, false, false, false, false, false] ac X := by
    intro ac g6 X ha GD hrg6
    obtain ⟨u, rfl⟩ : ∃ u : Nat → Value, ac = ⟨#[.int .i64 which, u 1, u 2, u 3, u 4, .pointer (some ⟨bt, 0, none⟩), .slice (some ⟨br, 0, none⟩) 4 4, .pointer (some ⟨bo, 0, none⟩), u 8, u 9, u 10, u 11, u 12, u 13, u 14, u 15, u 16, u 17, u 18, u 19, u 20, u 21, u 22, u 23, u 24, u 25, u 26, u 27, u 28, u 29, .agg (exC ov (.slice (some ⟨go, 0, none⟩) 2 2)).toArray, u 31, .agg (exC ov (.slice (some ⟨go, 0, none⟩) 2 2)).toArray, u 33, .agg (exC ov (.slice (some ⟨go, 0, none⟩) 2 2)).toArray, u 35, u 36, .agg (exC ov (.slice (some ⟨go, 0, none⟩) 2 2)).toArray, u 38, .agg (exC ov (.slice (some ⟨go, 0, none⟩) 2 2)).toArray, .slice (some ⟨g6, 0, none⟩) 1 1, .agg (exC (oneX 5 ov) (.slice (some ⟨g6, 0, none⟩) 1 1)).toArray, u 42, u 43, u 44, u 45, u 46, u 47, u 48, u 49, u 50, u 51, u 52, u 53, u 54, u 55, u 56, u 57, u 58, u 59, u 60, u 61, u 62, u 63, u 64, u 65, u 66, u 67, u 68, u 69, u 70, u 71, u 72, u 73, u 74, u 75, u 76, u 77, u 78, u 79, u 80, u 81], []⟩ := ⟨fun i => ac.tmps.getD i undef, ha⟩
    clear ha
    refine unhide HIN _ _ _ _ ?_
    have hHeld : (fun X => Blk bo #[.int .i64 ov.k, .string ov.nm, .int .i64 ov.v.1, .int .i64 ov.v.2.1, .int .i64 ov.v.2.2.1, .string ov.v.2.2.2, .slice (some ⟨go, 0, none⟩) 2 2] 31 X) X := (unhide hO).call GD
    refine wpAnyH_ready (rs := [1]) (by kernel_rfl) (by simp) ?_
    refine AllReadyH.cons rfl (fun K20084 hK20084 => ?_) AllReadyH.nil
    go_simp
    go_wp2_with (go_at_call 27; refine (colL_any _ _).mono ?_; rintro e X2 ⟨rfl, hb⟩)
    refine hK20084.out _ _ ?hs20084 (fun hH20084 => ?_)
    case hs20084 => exact hHeld.call hb
    clear hHeld
    have hHeld := hH20084; clear hH20084 hK20084 K20084
    refine unhide HOUT _ _ _ _ ?_
    exact unhide C110_ _ g6 _ (by kernel_rfl) (GD.trans (hb.mono GD.size)) (hide ((unhide hrg6).call hb))
  have C010_ := hide C010_
  have C0 : ∀ (ac : Act) (X : World), ac = ⟨#[.int .i64 which, ac.tmps.getD 1 undef, ac.tmps.getD 2 undef, ac.tmps.getD 3 undef, ac.tmps.getD 4 undef, .pointer (some ⟨bt, 0, none⟩), .slice (some ⟨br, 0, none⟩) 4 4, .pointer (some ⟨bo, 0, none⟩), ac.tmps.getD 8 undef, ac.tmps.getD 9 undef, ac.tmps.getD 10 undef, ac.tmps.getD 11 undef, ac.tmps.getD 12 undef, ac.tmps.getD 13 undef, ac.tmps.getD 14 undef, ac.tmps.getD 15 undef, ac.tmps.getD 16 undef, ac.tmps.getD 17 undef, ac.tmps.getD 18 undef, ac.tmps.getD 19 undef, ac.tmps.getD 20 undef, ac.tmps.getD 21 undef, ac.tmps.getD 22 undef, ac.tmps.getD 23 undef, ac.tmps.getD 24 undef, ac.tmps.getD 25 undef, ac.tmps.getD 26 undef, ac.tmps.getD 27 undef, ac.tmps.getD 28 undef, ac.tmps.getD 29 undef, .agg (exC ov (.slice (some ⟨go, 0, none⟩) 2 2)).toArray, ac.tmps.getD 31 undef, .agg (exC ov (.slice (some ⟨go, 0, none⟩) 2 2)).toArray, ac.tmps.getD 33 undef, .agg (exC ov (.slice (some ⟨go, 0, none⟩) 2 2)).toArray, ac.tmps.getD 35 undef, ac.tmps.getD 36 undef, .agg (exC ov (.slice (some ⟨go, 0, none⟩) 2 2)).toArray, ac.tmps.getD 38 undef, .agg (exC ov (.slice (some ⟨go, 0, none⟩) 2 2)).toArray, ac.tmps.getD 40 undef, ac.tmps.getD 41 undef, ac.tmps.getD 42 undef, ac.tmps.getD 43 undef, ac.tmps.getD 44 undef, ac.tmps.getD 45 undef, ac.tmps.getD 46 undef, ac.tmps.getD 47 undef, ac.tmps.getD 48 undef, ac.tmps.getD 49 undef, ac.tmps.getD 50 undef, ac.tmps.getD 51 undef, ac.tmps.getD 52 undef, ac.tmps.getD 53 undef, ac.tmps.getD 54 undef, ac.tmps.getD 55 undef, ac.tmps.getD 56 undef, ac.tmps.getD 57 undef, ac.tmps.getD 58 undef, ac.tmps.getD 59 undef, ac.tmps.getD 60 undef, ac.tmps.getD 61 undef, ac.tmps.getD 62 undef, ac.tmps.getD 63 undef, ac.tmps.getD 64 undef, ac.tmps.getD 65 undef, ac.tmps.getD 66 undef, ac.tmps.getD 67 undef, ac.tmps.getD 68 undef, ac.tmps.getD 69 undef, ac.tmps.getD 70 undef, ac.tmps.getD 71 undef, ac.tmps.getD 72 undef, ac.tmps.getD 73 undef, ac.tmps.getD 74 undef, ac.tmps.getD 75 undef, ac.tmps.getD 76 undef, ac.tmps.getD 77 undef, ac.tmps.getD 78 undef, ac.tmps.getD 79 undef, ac.tmps.getD 80 undef, ac.tmps.getD 81 undef], []⟩ → Below Wd.heap.size Wd X → GG 14 #[true, false, true, false, true, false, false, true, false, true, false, false, false, false, false, false, false, false, false] ac X := by
    intro ac X ha GD
    obtain ⟨u, rfl⟩ : ∃ u : Nat → Value, ac = ⟨#[.int .i64 which, u 1, u 2, u 3, u 4, .pointer (some ⟨bt, 0, none⟩), .slice (some ⟨br, 0, none⟩) 4 4, .pointer (some ⟨bo, 0, none⟩), u 8, u 9, u 10, u 11, u 12, u 13, u 14, u 15, u 16, u 17, u 18, u 19, u 20, u 21, u 22, u 23, u 24, u 25, u 26, u 27, u 28, u 29, .agg (exC ov (.slice (some ⟨go, 0, none⟩) 2 2)).toArray, u 31, .agg (exC ov (.slice (some ⟨go, 0, none⟩) 2 2)).toArray, u 33, .agg (exC ov (.slice (some ⟨go, 0, none⟩) 2 2)).toArray, u 35, u 36, .agg (exC ov (.slice (some ⟨go, 0, none⟩) 2 2)).toArray, u 38, .agg (exC ov (.slice (some ⟨go, 0, none⟩) 2 2)).toArray, u 40, u 41, u 42, u 43, u 44, u 45, u 46, u 47, u 48, u 49, u 50, u 51, u 52, u 53, u 54, u 55, u 56, u 57, u 58, u 59, u 60, u 61, u 62, u 63, u 64, u 65, u 66, u 67, u 68, u 69, u 70, u 71, u 72, u 73, u 74, u 75, u 76, u 77, u 78, u 79, u 80, u 81], []⟩ := ⟨fun i => ac.tmps.getD i undef, ha⟩
    clear ha
    refine unhide HIN _ _ _ _ ?_
    have hHeld : (fun X => Blk bo #[.int .i64 ov.k, .string ov.nm, .int .i64 ov.v.1, .int .i64 ov.v.2.1, .int .i64 ov.v.2.2.1, .string ov.v.2.2.2, .slice (some ⟨go, 0, none⟩) 2 2] 31 X) X := (unhide hO).call GD
    refine wpAnyH_ready (rs := [1, 10]) (by kernel_rfl) (by simp) ?_
    refine AllReadyH.cons rfl (fun K20085 hK20085 => ?_) ?_
    · go_simp
      go_wp2_with (go_at_call 27; refine (colL_any _ _).mono ?_; rintro e X2 ⟨rfl, hb⟩)
      refine hK20085.out _ _ ?hs20085 (fun hH20085 => ?_)
      case hs20085 => exact hHeld.call hb
      clear hHeld
      have hHeld := hH20085; clear hH20085 hK20085 K20085
      refine unhide HOUT _ _ _ _ ?_
      exact unhide C1 _  _ (by kernel_rfl) (GD.trans (hb.mono GD.size)) 
    refine AllReadyH.cons rfl (fun K20086 hK20086 => ?_) AllReadyH.nil
    · go_simp
      have hb := below_new X (.cells (exC ov (.slice (some ⟨go, 0, none⟩) 2 2)).toArray 31)
      have hrg6 : Hid (Rep (oneX 5 ov) (.slice (some ⟨X.heap.size, 0, none⟩) 1 1) (X.alloc (.cells (exC ov (.slice (some ⟨go, 0, none⟩) 2 2)).toArray 31))) := hide ⟨_, _, (.slice (some ⟨go, 0, none⟩) 2 2), rfl, cells_of (Blk.new X (exC ov (.slice (some ⟨go, 0, none⟩) 2 2)).toArray 31) rfl, Rep.call ((unhide hOV).call GD) hb⟩
      refine hK20086.out _ _ ?hs20086 (fun hH20086 => ?_)
      case hs20086 => exact hHeld.call hb
      clear hHeld
      have hHeld := hH20086; clear hH20086 hK20086 K20086
      refine wpAnyH_take (i := 11) (oi := ?oi20087) (v := ?v20087) ?hi20087 (by kernel_rfl) (by kernel_rfl) (by kernel_rfl) (fun _ _ _ h => h) (Or.inl ⟨?hw20087, ?hy20087⟩) (by assumption) ?rest20087
      case hi20087 => (simp only [List.getElem?_toArray, List.getElem?_cons_zero, List.getElem?_cons_succ]; rfl)
      case hw20087 => rfl
      case hy20087 => first | (intro wx hSw; go_simp; done) | (intro wx hSw; go_simp; with_reducible rfl)
      simp only [Act.put, List.setIfInBounds_toArray, List.set_cons_zero, List.set_cons_succ]
      refine unhide HOUT _ _ _ _ ?_
      exact unhide C010_ _ _ _ (by kernel_rfl) (GD.trans (hb.mono GD.size)) hrg6
  have C0 := hide C0
  exact unhide C0 _ _ (by kernel_rfl) (Below.refl _ _)
end Go.Proofs.Ytphnpcidndmlnaa
