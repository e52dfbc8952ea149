/-
  EvalCompares: the second loop.
-/
import Derived.Test.YtliefgkhpgigaaaVCpL
namespace Go.Proofs.Ytliefgkhpgigaaa
open Go.RowKit
set_option linter.unusedSimpArgs false
set_option linter.unusedVariables false

set_option maxHeartbeats 4000000 in
set_option maxRecDepth 100000 in
theorem cpL2 {r0 r1 r2 r3 r4 r5 r6 r7 r8 r9 r10 r11 rest : Code} (hc : Try.f5.body = some (.seq r0 (.seq r1 (.seq r2 (.seq r3 (.seq r4 (.seq r5 (.seq r6 (.seq r7 (.seq r8 (.seq r9 (.seq r10 (.seq r11 (rest)))))))))))))) (P : World → Prop) (vs : List V4) (hvl : vs.length = 4) (hOK : Hid (∀ v ∈ vs, OkV v)) (EL : Nat → Ex) (GL : Nat → Nat) (hH : Hid (∀ k, k < 3 → holdsR cols4 vs (EL k) = (false, false, 0) ∧ (EL k).deep ≤ 1000 ∧ ExOk (EL k))) (gc br bt bx by_ bl : Nat) (which n : Int) (le2 ne2 : Bool) (K : Act → World → Prop) (Q : Exit → Act → World → Prop) (REST : Hid (∀ (ac : Act) (X : World), ac = ⟨#[ac.tmps.getD 0 undef, ac.tmps.getD 1 undef, .int .i64 which, ac.tmps.getD 3 undef, ac.tmps.getD 4 undef, ac.tmps.getD 5 undef, ac.tmps.getD 6 undef, .pointer (some ⟨bx, 0, none⟩), .pointer (some ⟨by_, 0, none⟩), .pointer (some ⟨bt, 0, none⟩), .slice (some ⟨br, 0, none⟩) 4 4, .int .i64 n, .slice (some ⟨bl, 0, none⟩) 3 3, ac.tmps.getD 13 undef, ac.tmps.getD 14 undef, ac.tmps.getD 15 undef, ac.tmps.getD 16 undef, .bool le2, ac.tmps.getD 18 undef, ac.tmps.getD 19 undef, .bool ne2, ac.tmps.getD 21 undef, ac.tmps.getD 22 undef, ac.tmps.getD 23 undef, ac.tmps.getD 24 undef, ac.tmps.getD 25 undef, ac.tmps.getD 26 undef, ac.tmps.getD 27 undef, ac.tmps.getD 28 undef, ac.tmps.getD 29 undef, ac.tmps.getD 30 undef, ac.tmps.getD 31 undef, ac.tmps.getD 32 undef, ac.tmps.getD 33 undef, ac.tmps.getD 34 undef, ac.tmps.getD 35 undef, ac.tmps.getD 36 undef, ac.tmps.getD 37 undef, ac.tmps.getD 38 undef, ac.tmps.getD 39 undef, ac.tmps.getD 40 undef, ac.tmps.getD 41 undef, ac.tmps.getD 42 undef, ac.tmps.getD 43 undef, ac.tmps.getD 44 undef, ac.tmps.getD 45 undef, ac.tmps.getD 46 undef, ac.tmps.getD 47 undef, ac.tmps.getD 48 undef, ac.tmps.getD 49 undef, ac.tmps.getD 50 undef, ac.tmps.getD 51 undef, ac.tmps.getD 52 undef, ac.tmps.getD 53 undef, ac.tmps.getD 54 undef, ac.tmps.getD 55 undef, ac.tmps.getD 56 undef, ac.tmps.getD 57 undef, ac.tmps.getD 58 undef, ac.tmps.getD 59 undef, ac.tmps.getD 60 undef, ac.tmps.getD 61 undef, ac.tmps.getD 62 undef, ac.tmps.getD 63 undef, ac.tmps.getD 64 undef, ac.tmps.getD 65 undef, ac.tmps.getD 66 undef, ac.tmps.getD 67 undef, ac.tmps.getD 68 undef, ac.tmps.getD 69 undef, ac.tmps.getD 70 undef, ac.tmps.getD 71 undef, ac.tmps.getD 72 undef, ac.tmps.getD 73 undef, ac.tmps.getD 74 undef, ac.tmps.getD 75 undef, ac.tmps.getD 76 undef, ac.tmps.getD 77 undef, ac.tmps.getD 78 undef, ac.tmps.getD 79 undef, ac.tmps.getD 80 undef, ac.tmps.getD 81 undef, ac.tmps.getD 82 undef, ac.tmps.getD 83 undef, ac.tmps.getD 84 undef, ac.tmps.getD 85 undef, ac.tmps.getD 86 undef, ac.tmps.getD 87 undef, ac.tmps.getD 88 undef, ac.tmps.getD 89 undef, ac.tmps.getD 90 undef, ac.tmps.getD 91 undef, ac.tmps.getD 92 undef, ac.tmps.getD 93 undef, ac.tmps.getD 94 undef, ac.tmps.getD 95 undef, ac.tmps.getD 96 undef, ac.tmps.getD 97 undef, ac.tmps.getD 98 undef, ac.tmps.getD 99 undef, ac.tmps.getD 100 undef, ac.tmps.getD 101 undef, ac.tmps.getD 102 undef, ac.tmps.getD 103 undef, ac.tmps.getD 104 undef, ac.tmps.getD 105 undef, ac.tmps.getD 106 undef, ac.tmps.getD 107 undef, ac.tmps.getD 108 undef, ac.tmps.getD 109 undef, ac.tmps.getD 110 undef, ac.tmps.getD 111 undef, ac.tmps.getD 112 undef, ac.tmps.getD 113 undef, ac.tmps.getD 114 undef, ac.tmps.getD 115 undef, ac.tmps.getD 116 undef, ac.tmps.getD 117 undef, ac.tmps.getD 118 undef, ac.tmps.getD 119 undef, ac.tmps.getD 120 undef, ac.tmps.getD 121 undef, ac.tmps.getD 122 undef, ac.tmps.getD 123 undef, ac.tmps.getD 124 undef, ac.tmps.getD 125 undef, ac.tmps.getD 126 undef, ac.tmps.getD 127 undef, ac.tmps.getD 128 undef, ac.tmps.getD 129 undef, ac.tmps.getD 130 undef, ac.tmps.getD 131 undef, ac.tmps.getD 132 undef, ac.tmps.getD 133 undef, ac.tmps.getD 134 undef, ac.tmps.getD 135 undef, ac.tmps.getD 136 undef, ac.tmps.getD 137 undef, ac.tmps.getD 138 undef, ac.tmps.getD 139 undef, ac.tmps.getD 140 undef, ac.tmps.getD 141 undef, ac.tmps.getD 142 undef, ac.tmps.getD 143 undef, ac.tmps.getD 144 undef], []⟩ → Hid (ColsOf (.slice (some ⟨gc, 0, none⟩) 4 4) cols4 X) → Hid (RowOf (some ⟨br, 0, none⟩) vs X) → Hid (Blk bt #[.string ⟨#[116]⟩, .slice (some ⟨gc, 0, none⟩) 4 4, .int .i64 0, N0, .int .i64 0, .string S0, .int .i64 0, .int .i64 0, .int .i64 0, .string S0, N0, N0] 34 X) → Hid (GrP P X) → Hid (LstAt bl EL GL X) → K ac X)) (ac : Act) (X : World) (ha : ac = ⟨#[ac.tmps.getD 0 undef, ac.tmps.getD 1 undef, .int .i64 which, ac.tmps.getD 3 undef, ac.tmps.getD 4 undef, ac.tmps.getD 5 undef, ac.tmps.getD 6 undef, .pointer (some ⟨bx, 0, none⟩), .pointer (some ⟨by_, 0, none⟩), .pointer (some ⟨bt, 0, none⟩), .slice (some ⟨br, 0, none⟩) 4 4, .int .i64 n, .slice (some ⟨bl, 0, none⟩) 3 3, ac.tmps.getD 13 undef, ac.tmps.getD 14 undef, ac.tmps.getD 15 undef, ac.tmps.getD 16 undef, .bool le2, ac.tmps.getD 18 undef, ac.tmps.getD 19 undef, .bool ne2, ac.tmps.getD 21 undef, ac.tmps.getD 22 undef, ac.tmps.getD 23 undef, ac.tmps.getD 24 undef, ac.tmps.getD 25 undef, ac.tmps.getD 26 undef, ac.tmps.getD 27 undef, ac.tmps.getD 28 undef, ac.tmps.getD 29 undef, ac.tmps.getD 30 undef, ac.tmps.getD 31 undef, ac.tmps.getD 32 undef, ac.tmps.getD 33 undef, ac.tmps.getD 34 undef, ac.tmps.getD 35 undef, ac.tmps.getD 36 undef, ac.tmps.getD 37 undef, ac.tmps.getD 38 undef, ac.tmps.getD 39 undef, ac.tmps.getD 40 undef, ac.tmps.getD 41 undef, ac.tmps.getD 42 undef, ac.tmps.getD 43 undef, ac.tmps.getD 44 undef, ac.tmps.getD 45 undef, ac.tmps.getD 46 undef, ac.tmps.getD 47 undef, ac.tmps.getD 48 undef, ac.tmps.getD 49 undef, ac.tmps.getD 50 undef, ac.tmps.getD 51 undef, ac.tmps.getD 52 undef, ac.tmps.getD 53 undef, ac.tmps.getD 54 undef, ac.tmps.getD 55 undef, ac.tmps.getD 56 undef, ac.tmps.getD 57 undef, ac.tmps.getD 58 undef, ac.tmps.getD 59 undef, ac.tmps.getD 60 undef, ac.tmps.getD 61 undef, ac.tmps.getD 62 undef, ac.tmps.getD 63 undef, ac.tmps.getD 64 undef, ac.tmps.getD 65 undef, ac.tmps.getD 66 undef, ac.tmps.getD 67 undef, ac.tmps.getD 68 undef, ac.tmps.getD 69 undef, ac.tmps.getD 70 undef, ac.tmps.getD 71 undef, ac.tmps.getD 72 undef, ac.tmps.getD 73 undef, ac.tmps.getD 74 undef, ac.tmps.getD 75 undef, ac.tmps.getD 76 undef, ac.tmps.getD 77 undef, ac.tmps.getD 78 undef, ac.tmps.getD 79 undef, ac.tmps.getD 80 undef, ac.tmps.getD 81 undef, ac.tmps.getD 82 undef, ac.tmps.getD 83 undef, ac.tmps.getD 84 undef, ac.tmps.getD 85 undef, ac.tmps.getD 86 undef, ac.tmps.getD 87 undef, ac.tmps.getD 88 undef, ac.tmps.getD 89 undef, ac.tmps.getD 90 undef, ac.tmps.getD 91 undef, ac.tmps.getD 92 undef, ac.tmps.getD 93 undef, ac.tmps.getD 94 undef, ac.tmps.getD 95 undef, ac.tmps.getD 96 undef, ac.tmps.getD 97 undef, ac.tmps.getD 98 undef, ac.tmps.getD 99 undef, ac.tmps.getD 100 undef, ac.tmps.getD 101 undef, ac.tmps.getD 102 undef, ac.tmps.getD 103 undef, ac.tmps.getD 104 undef, ac.tmps.getD 105 undef, ac.tmps.getD 106 undef, ac.tmps.getD 107 undef, ac.tmps.getD 108 undef, ac.tmps.getD 109 undef, ac.tmps.getD 110 undef, ac.tmps.getD 111 undef, ac.tmps.getD 112 undef, ac.tmps.getD 113 undef, ac.tmps.getD 114 undef, ac.tmps.getD 115 undef, ac.tmps.getD 116 undef, ac.tmps.getD 117 undef, ac.tmps.getD 118 undef, ac.tmps.getD 119 undef, ac.tmps.getD 120 undef, ac.tmps.getD 121 undef, ac.tmps.getD 122 undef, ac.tmps.getD 123 undef, ac.tmps.getD 124 undef, ac.tmps.getD 125 undef, ac.tmps.getD 126 undef, ac.tmps.getD 127 undef, ac.tmps.getD 128 undef, ac.tmps.getD 129 undef, ac.tmps.getD 130 undef, ac.tmps.getD 131 undef, ac.tmps.getD 132 undef, ac.tmps.getD 133 undef, ac.tmps.getD 134 undef, ac.tmps.getD 135 undef, ac.tmps.getD 136 undef, ac.tmps.getD 137 undef, ac.tmps.getD 138 undef, ac.tmps.getD 139 undef, ac.tmps.getD 140 undef, ac.tmps.getD 141 undef, ac.tmps.getD 142 undef, ac.tmps.getD 143 undef, ac.tmps.getD 144 undef], []⟩) (hC : Hid (ColsOf (.slice (some ⟨gc, 0, none⟩) 4 4) cols4 X)) (hR : Hid (RowOf (some ⟨br, 0, none⟩) vs X)) (hT : Hid (Blk bt #[.string ⟨#[116]⟩, .slice (some ⟨gc, 0, none⟩) 4 4, .int .i64 0, N0, .int .i64 0, .string S0, .int .i64 0, .int .i64 0, .int .i64 0, .string S0, N0, N0] 34 X)) (hP : Hid (GrP P X)) (hL : Hid (LstAt bl EL GL X)) : r11.wp Try.prog (Exit.then K Q) ac X := by
  obtain ⟨o, rfl⟩ : ∃ o : Nat → Value, ac = ⟨#[o 0, o 1, .int .i64 which, o 3, o 4, o 5, o 6, .pointer (some ⟨bx, 0, none⟩), .pointer (some ⟨by_, 0, none⟩), .pointer (some ⟨bt, 0, none⟩), .slice (some ⟨br, 0, none⟩) 4 4, .int .i64 n, .slice (some ⟨bl, 0, none⟩) 3 3, o 13, o 14, o 15, o 16, .bool le2, o 18, o 19, .bool ne2, o 21, o 22, o 23, o 24, o 25, o 26, o 27, o 28, o 29, o 30, o 31, o 32, o 33, o 34, o 35, o 36, o 37, o 38, o 39, o 40, o 41, o 42, o 43, o 44, o 45, o 46, o 47, o 48, o 49, o 50, o 51, o 52, o 53, o 54, o 55, o 56, o 57, o 58, o 59, o 60, o 61, o 62, o 63, o 64, o 65, o 66, o 67, o 68, o 69, o 70, o 71, o 72, o 73, o 74, o 75, o 76, o 77, o 78, o 79, o 80, o 81, o 82, o 83, o 84, o 85, o 86, o 87, o 88, o 89, o 90, o 91, o 92, o 93, o 94, o 95, o 96, o 97, o 98, o 99, o 100, o 101, o 102, o 103, o 104, o 105, o 106, o 107, o 108, o 109, o 110, o 111, o 112, o 113, o 114, o 115, o 116, o 117, o 118, o 119, o 120, o 121, o 122, o 123, o 124, o 125, o 126, o 127, o 128, o 129, o 130, o 131, o 132, o 133, o 134, o 135, o 136, o 137, o 138, o 139, o 140, o 141, o 142, o 143, o 144], []⟩ := ⟨fun i => ac.tmps.getD i undef, ha⟩
  clear ha
  unfold Try.f5 at hc
  cases hc
  obtain ⟨q0, q1, q2, q3, rfl⟩ : ∃ q0 q1 q2 q3, vs = [q0, q1, q2, q3] := by
    match vs, hvl with
    | [q0, q1, q2, q3], _ => exact ⟨q0, q1, q2, q3, rfl⟩
  clear hvl
  go_wp2_with fail
  go_loopw [23] (fun i wr => ∃ k : Nat, k ≤ 3 ∧ i = .int .i64 (k : Int) ∧ Hid (ColsOf (.slice (some ⟨gc, 0, none⟩) 4 4) cols4 wr) ∧ Hid (RowOf (some ⟨br, 0, none⟩) [q0, q1, q2, q3] wr) ∧ Hid (Blk bt #[.string ⟨#[116]⟩, .slice (some ⟨gc, 0, none⟩) 4 4, .int .i64 0, N0, .int .i64 0, .string S0, .int .i64 0, .int .i64 0, .int .i64 0, .string S0, N0, N0] 34 wr) ∧ Hid (GrP P wr) ∧ Hid (LstAt bl EL GL wr)) (fun i _ => 3 - (intOf i).toNat)
  case atStart => exact ⟨0, by decide, rfl, hC, hR, hT, hP, hL⟩
  case round =>
    clear hC hR hT hP hL
    obtain ⟨k, hk, rfl, hC, hR, hT, hP, hL⟩ := hrel
    by_cases hlt : k < 3
    · have hki : (k : Int) < 3 := by omega
      obtain ⟨hv1, hv2, hv3⟩ := unhide hH k hlt
      have hE := hide ((unhide hL) k hlt).1
      have hRE := hide ((unhide hL) k hlt).2
      have CH := hide (fun (W : World) h1 h2 h3 => holdsT_any ⟨#[116]⟩ (.slice (some ⟨gc, 0, none⟩) 4 4) cols4 (some ⟨br, 0, none⟩) [q0, q1, q2, q3] 4 (EL k) (.slice (some ⟨GL k, 0, none⟩) 2 2) (false, false, 0) W hv1 h1 h2 (unhide hOK) hv2 h3 hv3)
      clear hv1 hv2 hv3
      generalize EL k = ee at CH hE hRE
      generalize GL k = ge at CH hE hRE
      go_wp2_with fail
      rename_i K12 hk12
      have REST12 : ∀ (ac : Act) (X : World), ac = ⟨#[o 0, o 1, .int .i64 which, o 3, o 4, o 5, ac.tmps.getD 6 undef, .pointer (some ⟨bx, 0, none⟩), .pointer (some ⟨by_, 0, none⟩), .pointer (some ⟨bt, 0, none⟩), .slice (some ⟨br, 0, none⟩) 4 4, .int .i64 n, .slice (some ⟨bl, 0, none⟩) 3 3, o 13, o 14, o 15, o 16, .bool le2, o 18, o 19, .bool ne2, o 21, o 22, .int .i64 (k : Int), .bool false, .bool false, .int .i64 0, o 27, o 28, o 29, o 30, o 31, o 32, o 33, o 34, o 35, o 36, o 37, o 38, o 39, o 40, o 41, o 42, o 43, o 44, o 45, o 46, o 47, o 48, o 49, o 50, o 51, o 52, o 53, o 54, o 55, o 56, o 57, o 58, o 59, o 60, o 61, o 62, o 63, o 64, o 65, o 66, o 67, o 68, o 69, o 70, o 71, o 72, o 73, o 74, o 75, o 76, o 77, o 78, o 79, o 80, o 81, o 82, o 83, o 84, o 85, o 86, o 87, o 88, o 89, o 90, o 91, o 92, o 93, o 94, o 95, o 96, o 97, o 98, o 99, o 100, o 101, ac.tmps.getD 102 undef, ac.tmps.getD 103 undef, ac.tmps.getD 104 undef, ac.tmps.getD 105 undef, ac.tmps.getD 106 undef, ac.tmps.getD 107 undef, ac.tmps.getD 108 undef, ac.tmps.getD 109 undef, ac.tmps.getD 110 undef, ac.tmps.getD 111 undef, ac.tmps.getD 112 undef, ac.tmps.getD 113 undef, ac.tmps.getD 114 undef, ac.tmps.getD 115 undef, ac.tmps.getD 116 undef, ac.tmps.getD 117 undef, ac.tmps.getD 118 undef, ac.tmps.getD 119 undef, ac.tmps.getD 120 undef, ac.tmps.getD 121 undef, ac.tmps.getD 122 undef, ac.tmps.getD 123 undef, ac.tmps.getD 124 undef, o 125, o 126, o 127, o 128, o 129, o 130, o 131, o 132, o 133, o 134, o 135, o 136, o 137, o 138, o 139, o 140, o 141, o 142, o 143, o 144], []⟩ → Hid (ColsOf (.slice (some ⟨gc, 0, none⟩) 4 4) cols4 X) → Hid (RowOf (some ⟨br, 0, none⟩) [q0, q1, q2, q3] X) → Hid (Blk bt #[.string ⟨#[116]⟩, .slice (some ⟨gc, 0, none⟩) 4 4, .int .i64 0, N0, .int .i64 0, .string S0, .int .i64 0, .int .i64 0, .int .i64 0, .string S0, N0, N0] 34 X) → Hid (GrP P X) → Hid (LstAt bl EL GL X) → K12 ac X := by
        clear CH hE hRE hC hR hT hP hL
        intro ac X ha hC hR hT hP hL
        obtain ⟨u, rfl⟩ : ∃ u : Nat → Value, ac = ⟨#[o 0, o 1, .int .i64 which, o 3, o 4, o 5, u 6, .pointer (some ⟨bx, 0, none⟩), .pointer (some ⟨by_, 0, none⟩), .pointer (some ⟨bt, 0, none⟩), .slice (some ⟨br, 0, none⟩) 4 4, .int .i64 n, .slice (some ⟨bl, 0, none⟩) 3 3, o 13, o 14, o 15, o 16, .bool le2, o 18, o 19, .bool ne2, o 21, o 22, .int .i64 (k : Int), .bool false, .bool false, .int .i64 0, o 27, o 28, o 29, o 30, o 31, o 32, o 33, o 34, o 35, o 36, o 37, o 38, o 39, o 40, o 41, o 42, o 43, o 44, o 45, o 46, o 47, o 48, o 49, o 50, o 51, o 52, o 53, o 54, o 55, o 56, o 57, o 58, o 59, o 60, o 61, o 62, o 63, o 64, o 65, o 66, o 67, o 68, o 69, o 70, o 71, o 72, o 73, o 74, o 75, o 76, o 77, o 78, o 79, o 80, o 81, o 82, o 83, o 84, o 85, o 86, o 87, o 88, o 89, o 90, o 91, o 92, o 93, o 94, o 95, o 96, o 97, o 98, o 99, o 100, o 101, u 102, u 103, u 104, u 105, u 106, u 107, u 108, u 109, u 110, u 111, u 112, u 113, u 114, u 115, u 116, u 117, u 118, u 119, u 120, u 121, u 122, u 123, u 124, o 125, o 126, o 127, o 128, o 129, o 130, o 131, o 132, o 133, o 134, o 135, o 136, o 137, o 138, o 139, o 140, o 141, o 142, o 143, o 144], []⟩ := ⟨fun i => ac.tmps.getD i undef, ha⟩
        clear ha
        refine hk12 _ _ ?_
        clear hk12
        have hw2 : IntKind.i64.wrap ((k : Int) + 1) = (k : Int) + 1 := IntWalk.i64_in _ (by omega)
        go_wp2_with fail
        go_roundw
        case rel => exact ⟨k + 1, by omega, by go_num, hC, hR, hT, hP, hL⟩
        case measure => simp [intOf]; omega
      have REST12 := hide REST12
      clear hk12
      refine wp_region_noPanic ?_
      refine wp_region_held_drew (S := (fun X => Blk bt #[.string ⟨#[116]⟩, .slice (some ⟨gc, 0, none⟩) 4 4, .int .i64 0, N0, .int .i64 0, .string S0, .int .i64 0, .int .i64 0, .int .i64 0, .string S0, N0, N0] 34 X ∧ ElAt bl k ee (.slice (some ⟨ge, 0, none⟩) 2 2) X)) (by kernel_rfl) (⟨(unhide hT).call (Below.refl _ _).drew, (unhide hE).call (Below.refl _ _).drew⟩) (fun hHeld => ?_)
      have hbd : Below wr.heap.size wr wr.drew := (Below.refl _ _).drew
      replace hC := hide ((unhide hC).call hbd)
      replace hR := hide ((unhide hR).call hbd)
      replace hT := hide ((unhide hT).call hbd)
      replace hP := hide ((unhide hP).call hbd)
      replace hL := hide ((unhide hL).call hbd)
      replace hE := hide ((unhide hE).call hbd)
      replace hRE := hide ((unhide hRE).call hbd)
      clear hbd
      generalize wr.drew = Wd at *
      refine wpAnyH_take (i := 0) (oi := ?oi20047) (v := ?v20047) ?hi20047 (by kernel_rfl) (by kernel_rfl) (by kernel_rfl) (fun _ _ _ h => h) (Or.inl ⟨?hw20047, ?hy20047⟩) (by assumption) ?rest20047
      case hi20047 => (simp only [List.getElem?_toArray, List.getElem?_cons_zero]; rfl)
      case hw20047 => rfl
      case hy20047 => first | (intro wx hSw; have hT := hSw.1; have t0 := Blk.cell hT 0; have t1 := Blk.cell hT 1; have t2 := Blk.cell hT 2; have t3 := Blk.cell hT 3; have t4 := Blk.cell hT 4; have t5 := Blk.cell hT 5; have t6 := Blk.cell hT 6; have t7 := Blk.cell hT 7; have t8 := Blk.cell hT 8; have t9 := Blk.cell hT 9; have t10 := Blk.cell hT 10; have t11 := Blk.cell hT 11; simp at t0 t1 t2 t3 t4 t5 t6 t7 t8 t9 t10 t11; go_simp; done) | (intro wx hSw; have hT := hSw.1; have t0 := Blk.cell hT 0; have t1 := Blk.cell hT 1; have t2 := Blk.cell hT 2; have t3 := Blk.cell hT 3; have t4 := Blk.cell hT 4; have t5 := Blk.cell hT 5; have t6 := Blk.cell hT 6; have t7 := Blk.cell hT 7; have t8 := Blk.cell hT 8; have t9 := Blk.cell hT 9; have t10 := Blk.cell hT 10; have t11 := Blk.cell hT 11; simp at t0 t1 t2 t3 t4 t5 t6 t7 t8 t9 t10 t11; go_simp; with_reducible rfl)
      simp only [Act.put, List.setIfInBounds_toArray, List.set_cons_zero, List.set_cons_succ]
      refine wpAnyH_take (i := 1) (oi := ?oi20048) (v := ?v20048) ?hi20048 (by kernel_rfl) (by kernel_rfl) (by kernel_rfl) (fun _ _ _ h => h) (Or.inl ⟨?hw20048, ?hy20048⟩) (by assumption) ?rest20048
      case hi20048 => (simp only [List.getElem?_toArray, List.getElem?_cons_zero, List.getElem?_cons_succ]; rfl)
      case hw20048 => rfl
      case hy20048 => first | (intro wx hSw; go_simp; done) | (intro wx hSw; go_simp; with_reducible rfl)
      simp only [Act.put, List.setIfInBounds_toArray, List.set_cons_zero, List.set_cons_succ]
      refine wpAnyH_take (i := 2) (oi := ?oi20049) (v := ?v20049) ?hi20049 (by kernel_rfl) (by kernel_rfl) (by kernel_rfl) (fun _ _ _ h => h) (Or.inl ⟨?hw20049, ?hy20049⟩) (by assumption) ?rest20049
      case hi20049 => (simp only [List.getElem?_toArray, List.getElem?_cons_zero, List.getElem?_cons_succ]; rfl)
      case hw20049 => rfl
      case hy20049 => first | (intro wx hSw; go_simp; done) | (intro wx hSw; go_simp; with_reducible rfl)
      simp only [Act.put, List.setIfInBounds_toArray, List.set_cons_zero, List.set_cons_succ]
      refine wpAnyH_take (i := 3) (oi := ?oi20050) (v := ?v20050) ?hi20050 (by kernel_rfl) (by kernel_rfl) (by kernel_rfl) (fun _ _ _ h => h) (Or.inl ⟨?hw20050, ?hy20050⟩) (by assumption) ?rest20050
      case hi20050 => (simp only [List.getElem?_toArray, List.getElem?_cons_zero, List.getElem?_cons_succ]; rfl)
      case hw20050 => rfl
      case hy20050 => first | (intro wx hSw; go_simp; done) | (intro wx hSw; go_simp; with_reducible rfl)
      simp only [Act.put, List.setIfInBounds_toArray, List.set_cons_zero, List.set_cons_succ]
      refine wpAnyH_take (i := 4) (oi := ?oi20051) (v := ?v20051) ?hi20051 (by kernel_rfl) (by kernel_rfl) (by kernel_rfl) (fun _ _ _ h => h) (Or.inl ⟨?hw20051, ?hy20051⟩) (by assumption) ?rest20051
      case hi20051 => (simp only [List.getElem?_toArray, List.getElem?_cons_zero, List.getElem?_cons_succ]; rfl)
      case hw20051 => rfl
      case hy20051 => first | (intro wx hSw; go_simp; done) | (intro wx hSw; go_simp; with_reducible rfl)
      simp only [Act.put, List.setIfInBounds_toArray, List.set_cons_zero, List.set_cons_succ]
      refine wpAnyH_take (i := 5) (oi := ?oi20052) (v := ?v20052) ?hi20052 (by kernel_rfl) (by kernel_rfl) (by kernel_rfl) (fun _ _ _ h => h) (Or.inl ⟨?hw20052, ?hy20052⟩) (by assumption) ?rest20052
      case hi20052 => (simp only [List.getElem?_toArray, List.getElem?_cons_zero, List.getElem?_cons_succ]; rfl)
      case hw20052 => rfl
      case hy20052 => first | (intro wx hSw; obtain ⟨l0, e0, e1, e2, e3, e4, e5, e6⟩ := hSw.2; go_simp; done) | (intro wx hSw; obtain ⟨l0, e0, e1, e2, e3, e4, e5, e6⟩ := hSw.2; go_simp; with_reducible rfl)
      simp only [Act.put, List.setIfInBounds_toArray, List.set_cons_zero, List.set_cons_succ]
      refine anyH_name ?_
      intro GG hin hout
      have HIN := hide hin
      have HOUT := hide hout
      clear hin hout hHeld
      have C1 : ∀ (ac : Act) (X : World), ac = ⟨#[o 0, o 1, .int .i64 which, o 3, o 4, o 5, ac.tmps.getD 6 undef, .pointer (some ⟨bx, 0, none⟩), .pointer (some ⟨by_, 0, none⟩), .pointer (some ⟨bt, 0, none⟩), .slice (some ⟨br, 0, none⟩) 4 4, .int .i64 n, .slice (some ⟨bl, 0, none⟩) 3 3, o 13, o 14, o 15, o 16, .bool le2, o 18, o 19, .bool ne2, o 21, o 22, .int .i64 (k : Int), ac.tmps.getD 24 undef, ac.tmps.getD 25 undef, ac.tmps.getD 26 undef, o 27, o 28, o 29, o 30, o 31, o 32, o 33, o 34, o 35, o 36, o 37, o 38, o 39, o 40, o 41, o 42, o 43, o 44, o 45, o 46, o 47, o 48, o 49, o 50, o 51, o 52, o 53, o 54, o 55, o 56, o 57, o 58, o 59, o 60, o 61, o 62, o 63, o 64, o 65, o 66, o 67, o 68, o 69, o 70, o 71, o 72, o 73, o 74, o 75, o 76, o 77, o 78, o 79, o 80, o 81, o 82, o 83, o 84, o 85, o 86, o 87, o 88, o 89, o 90, o 91, o 92, o 93, o 94, o 95, o 96, o 97, o 98, o 99, o 100, o 101, ac.tmps.getD 102 undef, ac.tmps.getD 103 undef, ac.tmps.getD 104 undef, ac.tmps.getD 105 undef, ac.tmps.getD 106 undef, .agg #[.string ⟨#[116]⟩, .slice (some ⟨gc, 0, none⟩) 4 4, .int .i64 0, N0, .int .i64 0, .string S0, .int .i64 0, .int .i64 0, .int .i64 0, .string S0, N0, N0], .slice (some ⟨br, 0, none⟩) 4 4, ac.tmps.getD 109 undef, ac.tmps.getD 110 undef, ac.tmps.getD 111 undef, .agg #[.int .i64 ee.k, .string ee.nm, .int .i64 ee.v.1, .int .i64 ee.v.2.1, .int .i64 ee.v.2.2.1, .string ee.v.2.2.2, (.slice (some ⟨ge, 0, none⟩) 2 2)], ac.tmps.getD 113 undef, .bool false, .bool false, .int .i64 0, ac.tmps.getD 117 undef, ac.tmps.getD 118 undef, ac.tmps.getD 119 undef, ac.tmps.getD 120 undef, ac.tmps.getD 121 undef, ac.tmps.getD 122 undef, ac.tmps.getD 123 undef, ac.tmps.getD 124 undef, o 125, o 126, o 127, o 128, o 129, o 130, o 131, o 132, o 133, o 134, o 135, o 136, o 137, o 138, o 139, o 140, o 141, o 142, o 143, o 144], []⟩ → Below Wd.heap.size Wd X → GG 3 #[true, true, true, true, true, true, true, true, true, true, true, false, false, false] ac X := by
        intro ac X ha GD
        obtain ⟨u, rfl⟩ : ∃ u : Nat → Value, ac = ⟨#[o 0, o 1, .int .i64 which, o 3, o 4, o 5, u 6, .pointer (some ⟨bx, 0, none⟩), .pointer (some ⟨by_, 0, none⟩), .pointer (some ⟨bt, 0, none⟩), .slice (some ⟨br, 0, none⟩) 4 4, .int .i64 n, .slice (some ⟨bl, 0, none⟩) 3 3, o 13, o 14, o 15, o 16, .bool le2, o 18, o 19, .bool ne2, o 21, o 22, .int .i64 (k : Int), u 24, u 25, u 26, o 27, o 28, o 29, o 30, o 31, o 32, o 33, o 34, o 35, o 36, o 37, o 38, o 39, o 40, o 41, o 42, o 43, o 44, o 45, o 46, o 47, o 48, o 49, o 50, o 51, o 52, o 53, o 54, o 55, o 56, o 57, o 58, o 59, o 60, o 61, o 62, o 63, o 64, o 65, o 66, o 67, o 68, o 69, o 70, o 71, o 72, o 73, o 74, o 75, o 76, o 77, o 78, o 79, o 80, o 81, o 82, o 83, o 84, o 85, o 86, o 87, o 88, o 89, o 90, o 91, o 92, o 93, o 94, o 95, o 96, o 97, o 98, o 99, o 100, o 101, u 102, u 103, u 104, u 105, u 106, .agg #[.string ⟨#[116]⟩, .slice (some ⟨gc, 0, none⟩) 4 4, .int .i64 0, N0, .int .i64 0, .string S0, .int .i64 0, .int .i64 0, .int .i64 0, .string S0, N0, N0], .slice (some ⟨br, 0, none⟩) 4 4, u 109, u 110, u 111, .agg #[.int .i64 ee.k, .string ee.nm, .int .i64 ee.v.1, .int .i64 ee.v.2.1, .int .i64 ee.v.2.2.1, .string ee.v.2.2.2, (.slice (some ⟨ge, 0, none⟩) 2 2)], u 113, .bool false, .bool false, .int .i64 0, u 117, u 118, u 119, u 120, u 121, u 122, u 123, u 124, o 125, o 126, o 127, o 128, o 129, o 130, o 131, o 132, o 133, o 134, o 135, o 136, o 137, o 138, o 139, o 140, o 141, o 142, o 143, o 144], []⟩ := ⟨fun i => ac.tmps.getD i undef, ha⟩
        clear ha
        refine unhide HIN _ _ _ _ ?_
        have hHeld : (fun X => Blk bt #[.string ⟨#[116]⟩, .slice (some ⟨gc, 0, none⟩) 4 4, .int .i64 0, N0, .int .i64 0, .string S0, .int .i64 0, .int .i64 0, .int .i64 0, .string S0, N0, N0] 34 X ∧ ElAt bl k ee (.slice (some ⟨ge, 0, none⟩) 2 2) X) X := ⟨(unhide hT).call GD, (unhide hE).call GD⟩
        refine wpAnyH_take (i := 11) (oi := ?oi20053) (v := ?v20053) ?hi20053 (by kernel_rfl) (by kernel_rfl) (by kernel_rfl) (fun _ _ _ h => h) (Or.inl ⟨?hw20053, ?hy20053⟩) (by assumption) ?rest20053
        case hi20053 => (simp only [List.getElem?_toArray, List.getElem?_cons_zero, List.getElem?_cons_succ]; rfl)
        case hw20053 => rfl
        case hy20053 => first | (intro wx hSw; go_simp; done) | (intro wx hSw; go_simp; with_reducible rfl)
        simp only [Act.put, List.setIfInBounds_toArray, List.set_cons_zero, List.set_cons_succ]
        refine wpAnyH_take (i := 12) (oi := ?oi20054) (v := ?v20054) ?hi20054 (by kernel_rfl) (by kernel_rfl) (by kernel_rfl) (fun _ _ _ h => h) (Or.inl ⟨?hw20054, ?hy20054⟩) (by assumption) ?rest20054
        case hi20054 => (simp only [List.getElem?_toArray, List.getElem?_cons_zero, List.getElem?_cons_succ]; rfl)
        case hw20054 => rfl
        case hy20054 => first | (intro wx hSw; go_simp; done) | (intro wx hSw; go_simp; with_reducible rfl)
        simp only [Act.put, List.setIfInBounds_toArray, List.set_cons_zero, List.set_cons_succ]
        refine wpAnyH_take (i := 13) (oi := ?oi20055) (v := ?v20055) ?hi20055 (by kernel_rfl) (by kernel_rfl) (by kernel_rfl) (fun _ _ _ h => h) (Or.inl ⟨?hw20055, ?hy20055⟩) (by assumption) ?rest20055
        case hi20055 => (simp only [List.getElem?_toArray, List.getElem?_cons_zero, List.getElem?_cons_succ]; rfl)
        case hw20055 => rfl
        case hy20055 => first | (intro wx hSw; go_simp; done) | (intro wx hSw; go_simp; with_reducible rfl)
        simp only [Act.put, List.setIfInBounds_toArray, List.set_cons_zero, List.set_cons_succ]
        refine wpAnyH_done (by kernel_rfl) ?_ _
        refine NoPanic.normal ?_
        skip
        exact unhide REST12 _ _ (by kernel_rfl) (hide ((unhide hC).call GD)) (hide ((unhide hR).call GD)) (hide ((unhide hT).call GD)) (hide ((unhide hP).call GD)) (hide ((unhide hL).call GD))
      have C1 := hide C1
      have C0 : ∀ (ac : Act) (X : World), ac = ⟨#[o 0, o 1, .int .i64 which, o 3, o 4, o 5, ac.tmps.getD 6 undef, .pointer (some ⟨bx, 0, none⟩), .pointer (some ⟨by_, 0, none⟩), .pointer (some ⟨bt, 0, none⟩), .slice (some ⟨br, 0, none⟩) 4 4, .int .i64 n, .slice (some ⟨bl, 0, none⟩) 3 3, o 13, o 14, o 15, o 16, .bool le2, o 18, o 19, .bool ne2, o 21, o 22, .int .i64 (k : Int), ac.tmps.getD 24 undef, ac.tmps.getD 25 undef, ac.tmps.getD 26 undef, o 27, o 28, o 29, o 30, o 31, o 32, o 33, o 34, o 35, o 36, o 37, o 38, o 39, o 40, o 41, o 42, o 43, o 44, o 45, o 46, o 47, o 48, o 49, o 50, o 51, o 52, o 53, o 54, o 55, o 56, o 57, o 58, o 59, o 60, o 61, o 62, o 63, o 64, o 65, o 66, o 67, o 68, o 69, o 70, o 71, o 72, o 73, o 74, o 75, o 76, o 77, o 78, o 79, o 80, o 81, o 82, o 83, o 84, o 85, o 86, o 87, o 88, o 89, o 90, o 91, o 92, o 93, o 94, o 95, o 96, o 97, o 98, o 99, o 100, o 101, ac.tmps.getD 102 undef, ac.tmps.getD 103 undef, ac.tmps.getD 104 undef, ac.tmps.getD 105 undef, ac.tmps.getD 106 undef, .agg #[.string ⟨#[116]⟩, .slice (some ⟨gc, 0, none⟩) 4 4, .int .i64 0, N0, .int .i64 0, .string S0, .int .i64 0, .int .i64 0, .int .i64 0, .string S0, N0, N0], .slice (some ⟨br, 0, none⟩) 4 4, ac.tmps.getD 109 undef, ac.tmps.getD 110 undef, ac.tmps.getD 111 undef, .agg #[.int .i64 ee.k, .string ee.nm, .int .i64 ee.v.1, .int .i64 ee.v.2.1, .int .i64 ee.v.2.2.1, .string ee.v.2.2.2, (.slice (some ⟨ge, 0, none⟩) 2 2)], ac.tmps.getD 113 undef, ac.tmps.getD 114 undef, ac.tmps.getD 115 undef, ac.tmps.getD 116 undef, ac.tmps.getD 117 undef, ac.tmps.getD 118 undef, ac.tmps.getD 119 undef, ac.tmps.getD 120 undef, ac.tmps.getD 121 undef, ac.tmps.getD 122 undef, ac.tmps.getD 123 undef, ac.tmps.getD 124 undef, o 125, o 126, o 127, o 128, o 129, o 130, o 131, o 132, o 133, o 134, o 135, o 136, o 137, o 138, o 139, o 140, o 141, o 142, o 143, o 144], []⟩ → Below Wd.heap.size Wd X → GG 8 #[true, true, true, true, true, true, false, false, false, false, false, false, false, false] ac X := by
        intro ac X ha GD
        obtain ⟨u, rfl⟩ : ∃ u : Nat → Value, ac = ⟨#[o 0, o 1, .int .i64 which, o 3, o 4, o 5, u 6, .pointer (some ⟨bx, 0, none⟩), .pointer (some ⟨by_, 0, none⟩), .pointer (some ⟨bt, 0, none⟩), .slice (some ⟨br, 0, none⟩) 4 4, .int .i64 n, .slice (some ⟨bl, 0, none⟩) 3 3, o 13, o 14, o 15, o 16, .bool le2, o 18, o 19, .bool ne2, o 21, o 22, .int .i64 (k : Int), u 24, u 25, u 26, o 27, o 28, o 29, o 30, o 31, o 32, o 33, o 34, o 35, o 36, o 37, o 38, o 39, o 40, o 41, o 42, o 43, o 44, o 45, o 46, o 47, o 48, o 49, o 50, o 51, o 52, o 53, o 54, o 55, o 56, o 57, o 58, o 59, o 60, o 61, o 62, o 63, o 64, o 65, o 66, o 67, o 68, o 69, o 70, o 71, o 72, o 73, o 74, o 75, o 76, o 77, o 78, o 79, o 80, o 81, o 82, o 83, o 84, o 85, o 86, o 87, o 88, o 89, o 90, o 91, o 92, o 93, o 94, o 95, o 96, o 97, o 98, o 99, o 100, o 101, u 102, u 103, u 104, u 105, u 106, .agg #[.string ⟨#[116]⟩, .slice (some ⟨gc, 0, none⟩) 4 4, .int .i64 0, N0, .int .i64 0, .string S0, .int .i64 0, .int .i64 0, .int .i64 0, .string S0, N0, N0], .slice (some ⟨br, 0, none⟩) 4 4, u 109, u 110, u 111, .agg #[.int .i64 ee.k, .string ee.nm, .int .i64 ee.v.1, .int .i64 ee.v.2.1, .int .i64 ee.v.2.2.1, .string ee.v.2.2.2, (.slice (some ⟨ge, 0, none⟩) 2 2)], u 113, u 114, u 115, u 116, u 117, u 118, u 119, u 120, u 121, u 122, u 123, u 124, o 125, o 126, o 127, o 128, o 129, o 130, o 131, o 132, o 133, o 134, o 135, o 136, o 137, o 138, o 139, o 140, o 141, o 142, o 143, o 144], []⟩ := ⟨fun i => ac.tmps.getD i undef, ha⟩
        clear ha
        refine unhide HIN _ _ _ _ ?_
        have hHeld : (fun X => Blk bt #[.string ⟨#[116]⟩, .slice (some ⟨gc, 0, none⟩) 4 4, .int .i64 0, N0, .int .i64 0, .string S0, .int .i64 0, .int .i64 0, .int .i64 0, .string S0, N0, N0] 34 X ∧ ElAt bl k ee (.slice (some ⟨ge, 0, none⟩) 2 2) X) X := ⟨(unhide hT).call GD, (unhide hE).call GD⟩
        refine wpAnyH_ready (rs := [6]) (by kernel_rfl) (by simp) ?_
        refine AllReadyH.cons rfl (fun K20056 hK20056 => ?_) AllReadyH.nil
        go_simp
        go_wp2_with (go_at_call 22; refine (unhide CH _ ((unhide hC).call GD) ((unhide hR).call GD) ((unhide hRE).call GD)).mono ?_; rintro e X2 ⟨rfl, hb⟩)
        refine hK20056.out _ _ ?hs20056 (fun hH20056 => ?_)
        case hs20056 => exact ⟨hHeld.1.call hb, hHeld.2.call hb⟩
        clear hHeld
        have hHeld := hH20056; clear hH20056 hK20056 K20056
        refine wpAnyH_take (i := 7) (oi := ?oi20057) (v := ?v20057) ?hi20057 (by kernel_rfl) (by kernel_rfl) (by kernel_rfl) (fun _ _ _ h => h) (Or.inl ⟨?hw20057, ?hy20057⟩) (by assumption) ?rest20057
        case hi20057 => (simp only [List.getElem?_toArray, List.getElem?_cons_zero, List.getElem?_cons_succ]; rfl)
        case hw20057 => rfl
        case hy20057 => first | (intro wx hSw; go_simp; done) | (intro wx hSw; go_simp; with_reducible rfl)
        simp only [Act.put, List.setIfInBounds_toArray, List.set_cons_zero, List.set_cons_succ]
        refine wpAnyH_take (i := 8) (oi := ?oi20058) (v := ?v20058) ?hi20058 (by kernel_rfl) (by kernel_rfl) (by kernel_rfl) (fun _ _ _ h => h) (Or.inl ⟨?hw20058, ?hy20058⟩) (by assumption) ?rest20058
        case hi20058 => (simp only [List.getElem?_toArray, List.getElem?_cons_zero, List.getElem?_cons_succ]; rfl)
        case hw20058 => rfl
        case hy20058 => first | (intro wx hSw; go_simp; done) | (intro wx hSw; go_simp; with_reducible rfl)
        simp only [Act.put, List.setIfInBounds_toArray, List.set_cons_zero, List.set_cons_succ]
        refine wpAnyH_take (i := 9) (oi := ?oi20059) (v := ?v20059) ?hi20059 (by kernel_rfl) (by kernel_rfl) (by kernel_rfl) (fun _ _ _ h => h) (Or.inl ⟨?hw20059, ?hy20059⟩) (by assumption) ?rest20059
        case hi20059 => (simp only [List.getElem?_toArray, List.getElem?_cons_zero, List.getElem?_cons_succ]; rfl)
        case hw20059 => rfl
        case hy20059 => first | (intro wx hSw; go_simp; done) | (intro wx hSw; go_simp; with_reducible rfl)
        simp only [Act.put, List.setIfInBounds_toArray, List.set_cons_zero, List.set_cons_succ]
        refine wpAnyH_take (i := 10) (oi := ?oi20060) (v := ?v20060) ?hi20060 (by kernel_rfl) (by kernel_rfl) (by kernel_rfl) (fun _ _ _ h => h) (Or.inl ⟨?hw20060, ?hy20060⟩) (by assumption) ?rest20060
        case hi20060 => (simp only [List.getElem?_toArray, List.getElem?_cons_zero, List.getElem?_cons_succ]; rfl)
        case hw20060 => rfl
        case hy20060 => first | (intro wx hSw; go_simp; done) | (intro wx hSw; go_simp; with_reducible rfl)
        simp only [Act.put, List.setIfInBounds_toArray, List.set_cons_zero, List.set_cons_succ]
        refine unhide HOUT _ _ _ _ ?_
        exact unhide C1 _  _ (by kernel_rfl) (GD.trans (hb.mono GD.size)) 
      have C0 := hide C0
      exact unhide C0 _ _ (by kernel_rfl) (Below.refl _ _)
    · obtain rfl : k = 3 := by omega
      go_wp2_with fail
      exact unhide REST _ _ (by kernel_rfl) hC hR hT hP hL
end Go.Proofs.Ytliefgkhpgigaaa
