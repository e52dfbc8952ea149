/-
  ValInts: its return statement.
-/
import Derived.Test.YtglbghgenckgeaaVIn0
import Derived.RangeFuncBox
namespace Go.Proofs.Ytglbghgenckgeaa
open Go.RowKit
set_option linter.unusedSimpArgs false
set_option linter.unusedVariables false

set_option maxHeartbeats 8000000 in
set_option maxRecDepth 100000 in
theorem vi101A {r0 r1 r2 r3 r4 r5 r6 r7 r8 rest : Code} (hc : Try.f11.body = some (.seq r0 (.seq r1 (.seq r2 (.seq r3 (.seq r4 (.seq r5 (.seq r6 (.seq r7 (.seq r8 (rest))))))))))) (w : World) (a b ks zs kd zd kp zp kc zc hh : Int) (bx bs bd bp bc : Nat) (es : IntKind.i64.wrap (a + b) = zs) (ep : IntKind.i64.wrap (a * b) = zp) (ga : a < 0) (gb : ¬ b < 0) (ac : Act) (X : World) (ha : ac = ⟨#[.int .i64 a, .int .i64 b, ac.tmps.getD 2 undef, ac.tmps.getD 3 undef, ac.tmps.getD 4 undef, ac.tmps.getD 5 undef, ac.tmps.getD 6 undef, .pointer (some ⟨bx, 0, none⟩), ac.tmps.getD 8 undef, .pointer (some ⟨bs, 0, none⟩), .int .i64 0, .pointer (some ⟨bd, 0, none⟩), .int .i64 10, .pointer (some ⟨bp, 0, none⟩), .int .i64 0, .pointer (some ⟨bc, 0, none⟩), .int .i64 0, ac.tmps.getD 17 undef, ac.tmps.getD 18 undef, ac.tmps.getD 19 undef, ac.tmps.getD 20 undef, ac.tmps.getD 21 undef, ac.tmps.getD 22 undef, ac.tmps.getD 23 undef, ac.tmps.getD 24 undef, ac.tmps.getD 25 undef, ac.tmps.getD 26 undef, ac.tmps.getD 27 undef, ac.tmps.getD 28 undef, ac.tmps.getD 29 undef, ac.tmps.getD 30 undef, ac.tmps.getD 31 undef, ac.tmps.getD 32 undef, ac.tmps.getD 33 undef, ac.tmps.getD 34 undef, ac.tmps.getD 35 undef, ac.tmps.getD 36 undef, ac.tmps.getD 37 undef, ac.tmps.getD 38 undef, ac.tmps.getD 39 undef, ac.tmps.getD 40 undef, ac.tmps.getD 41 undef, ac.tmps.getD 42 undef, ac.tmps.getD 43 undef, ac.tmps.getD 44 undef, ac.tmps.getD 45 undef, ac.tmps.getD 46 undef, ac.tmps.getD 47 undef, ac.tmps.getD 48 undef, ac.tmps.getD 49 undef, ac.tmps.getD 50 undef, ac.tmps.getD 51 undef, ac.tmps.getD 52 undef, ac.tmps.getD 53 undef, ac.tmps.getD 54 undef, ac.tmps.getD 55 undef, ac.tmps.getD 56 undef, ac.tmps.getD 57 undef, ac.tmps.getD 58 undef, ac.tmps.getD 59 undef, ac.tmps.getD 60 undef, ac.tmps.getD 61 undef, ac.tmps.getD 62 undef, ac.tmps.getD 63 undef, ac.tmps.getD 64 undef, ac.tmps.getD 65 undef, ac.tmps.getD 66 undef, ac.tmps.getD 67 undef, ac.tmps.getD 68 undef, ac.tmps.getD 69 undef, ac.tmps.getD 70 undef, ac.tmps.getD 71 undef, ac.tmps.getD 72 undef, ac.tmps.getD 73 undef, ac.tmps.getD 74 undef, ac.tmps.getD 75 undef, ac.tmps.getD 76 undef, ac.tmps.getD 77 undef, ac.tmps.getD 78 undef, ac.tmps.getD 79 undef, ac.tmps.getD 80 undef, ac.tmps.getD 81 undef, ac.tmps.getD 82 undef, ac.tmps.getD 83 undef, ac.tmps.getD 84 undef, ac.tmps.getD 85 undef, ac.tmps.getD 86 undef, ac.tmps.getD 87 undef, ac.tmps.getD 88 undef, ac.tmps.getD 89 undef, ac.tmps.getD 90 undef, ac.tmps.getD 91 undef, ac.tmps.getD 92 undef, ac.tmps.getD 93 undef, ac.tmps.getD 94 undef, ac.tmps.getD 95 undef, ac.tmps.getD 96 undef, ac.tmps.getD 97 undef, ac.tmps.getD 98 undef, ac.tmps.getD 99 undef, ac.tmps.getD 100 undef, ac.tmps.getD 101 undef, ac.tmps.getD 102 undef, ac.tmps.getD 103 undef, ac.tmps.getD 104 undef, ac.tmps.getD 105 undef, ac.tmps.getD 106 undef, ac.tmps.getD 107 undef, ac.tmps.getD 108 undef, ac.tmps.getD 109 undef, ac.tmps.getD 110 undef, ac.tmps.getD 111 undef, ac.tmps.getD 112 undef, ac.tmps.getD 113 undef, ac.tmps.getD 114 undef, ac.tmps.getD 115 undef, ac.tmps.getD 116 undef, ac.tmps.getD 117 undef, ac.tmps.getD 118 undef, ac.tmps.getD 119 undef, ac.tmps.getD 120 undef, ac.tmps.getD 121 undef, ac.tmps.getD 122 undef, ac.tmps.getD 123 undef, ac.tmps.getD 124 undef, ac.tmps.getD 125 undef, ac.tmps.getD 126 undef, ac.tmps.getD 127 undef, ac.tmps.getD 128 undef, ac.tmps.getD 129 undef, ac.tmps.getD 130 undef, ac.tmps.getD 131 undef, ac.tmps.getD 132 undef, ac.tmps.getD 133 undef, ac.tmps.getD 134 undef, ac.tmps.getD 135 undef, ac.tmps.getD 136 undef, ac.tmps.getD 137 undef, ac.tmps.getD 138 undef, ac.tmps.getD 139 undef, ac.tmps.getD 140 undef, ac.tmps.getD 141 undef, ac.tmps.getD 142 undef, ac.tmps.getD 143 undef, ac.tmps.getD 144 undef, ac.tmps.getD 145 undef, ac.tmps.getD 146 undef, ac.tmps.getD 147 undef, ac.tmps.getD 148 undef, ac.tmps.getD 149 undef, ac.tmps.getD 150 undef, ac.tmps.getD 151 undef, ac.tmps.getD 152 undef, ac.tmps.getD 153 undef, ac.tmps.getD 154 undef, ac.tmps.getD 155 undef, ac.tmps.getD 156 undef, ac.tmps.getD 157 undef], []⟩) (hx : Hid (BkI bx #[.int .i64 2, .int .i64 a, .int .i64 0, .string ⟨#[]⟩] X)) (hs : Hid (BkI bs #[.int .i64 ks, .int .i64 zs, .int .i64 0, .string ⟨#[]⟩] X)) (hd : Hid (BkI bd #[.int .i64 kd, .int .i64 zd, .int .i64 0, .string ⟨#[]⟩] X)) (hp : Hid (BkI bp #[.int .i64 kp, .int .i64 zp, .int .i64 0, .string ⟨#[]⟩] X)) (hc_ : Hid (BkI bc #[.int .i64 2, .int .i64 a, .int .i64 0, .string ⟨#[]⟩] X)) (G : Hid (Below w.heap.size w X)) : rest.wp Try.prog (bodyPost Try.prog Try.f11 (fun e w' => e = .returned (.bool true) ∧ Below w.heap.size w w')) ac X := by
  obtain ⟨u, rfl⟩ : ∃ u : Nat → Value, ac = ⟨#[.int .i64 a, .int .i64 b, u 2, u 3, u 4, u 5, u 6, .pointer (some ⟨bx, 0, none⟩), u 8, .pointer (some ⟨bs, 0, none⟩), .int .i64 0, .pointer (some ⟨bd, 0, none⟩), .int .i64 10, .pointer (some ⟨bp, 0, none⟩), .int .i64 0, .pointer (some ⟨bc, 0, none⟩), .int .i64 0, u 17, u 18, u 19, u 20, u 21, u 22, u 23, u 24, u 25, u 26, u 27, u 28, u 29, u 30, u 31, u 32, u 33, u 34, u 35, u 36, u 37, u 38, u 39, u 40, u 41, u 42, u 43, u 44, u 45, u 46, u 47, u 48, u 49, u 50, u 51, u 52, u 53, u 54, u 55, u 56, u 57, u 58, u 59, u 60, u 61, u 62, u 63, u 64, u 65, u 66, u 67, u 68, u 69, u 70, u 71, u 72, u 73, u 74, u 75, u 76, u 77, u 78, u 79, u 80, u 81, u 82, u 83, u 84, u 85, u 86, u 87, u 88, u 89, u 90, u 91, u 92, u 93, u 94, u 95, u 96, u 97, u 98, u 99, u 100, u 101, u 102, u 103, u 104, u 105, u 106, u 107, u 108, u 109, u 110, u 111, u 112, u 113, u 114, u 115, u 116, u 117, u 118, u 119, u 120, u 121, u 122, u 123, u 124, u 125, u 126, u 127, u 128, u 129, u 130, u 131, u 132, u 133, u 134, u 135, u 136, u 137, u 138, u 139, u 140, u 141, u 142, u 143, u 144, u 145, u 146, u 147, u 148, u 149, u 150, u 151, u 152, u 153, u 154, u 155, u 156, u 157], []⟩ := ⟨fun i => ac.tmps.getD i undef, ha⟩
  clear ha
  unfold Try.f11 at hc
  cases hc
  have l_hx := (unhide hx).lt
  have hx0 := (unhide hx).cell 0
  have hx1 := (unhide hx).cell 1
  have hx2 := (unhide hx).cell 2
  have hx3 := (unhide hx).cell 3
  have l_hs := (unhide hs).lt
  have hs0 := (unhide hs).cell 0
  have hs1 := (unhide hs).cell 1
  have hs2 := (unhide hs).cell 2
  have hs3 := (unhide hs).cell 3
  have l_hd := (unhide hd).lt
  have hd0 := (unhide hd).cell 0
  have hd1 := (unhide hd).cell 1
  have hd2 := (unhide hd).cell 2
  have hd3 := (unhide hd).cell 3
  have l_hp := (unhide hp).lt
  have hp0 := (unhide hp).cell 0
  have hp1 := (unhide hp).cell 1
  have hp2 := (unhide hp).cell 2
  have hp3 := (unhide hp).cell 3
  have l_hc_ := (unhide hc_).lt
  have hc_0 := (unhide hc_).cell 0
  have hc_1 := (unhide hc_).cell 1
  have hc_2 := (unhide hc_).cell 2
  have hc_3 := (unhide hc_).cell 3
  simp at hx0 hx1 hx2 hx3 hs0 hs1 hs2 hs3 hd0 hd1 hd2 hd3 hp0 hp1 hp2 hp3 hc_0 hc_1 hc_2 hc_3
  clear hx hs hd hp hc_
  simp only [List.append_eq, List.cons_append, List.nil_append]
  go_wp2_with fail
  go_ret
  exact ⟨by simp, unhide G⟩
set_option maxHeartbeats 8000000 in
set_option maxRecDepth 100000 in
theorem vi101B {r0 r1 r2 r3 r4 r5 r6 r7 r8 rest : Code} (hc : Try.f11.body = some (.seq r0 (.seq r1 (.seq r2 (.seq r3 (.seq r4 (.seq r5 (.seq r6 (.seq r7 (.seq r8 (rest))))))))))) (w : World) (a b ks zs kd zd kp zp kc zc hh : Int) (bx bs bd bp bc : Nat) (es : IntKind.i64.wrap (a + b) = zs) (ep : IntKind.i64.wrap (a * b) = zp) (ga : ¬ a < 0) (gb : b < 0) (ac : Act) (X : World) (ha : ac = ⟨#[.int .i64 a, .int .i64 b, ac.tmps.getD 2 undef, ac.tmps.getD 3 undef, ac.tmps.getD 4 undef, ac.tmps.getD 5 undef, ac.tmps.getD 6 undef, .pointer (some ⟨bx, 0, none⟩), ac.tmps.getD 8 undef, .pointer (some ⟨bs, 0, none⟩), .int .i64 0, .pointer (some ⟨bd, 0, none⟩), .int .i64 10, .pointer (some ⟨bp, 0, none⟩), .int .i64 0, .pointer (some ⟨bc, 0, none⟩), .int .i64 0, ac.tmps.getD 17 undef, ac.tmps.getD 18 undef, ac.tmps.getD 19 undef, ac.tmps.getD 20 undef, ac.tmps.getD 21 undef, ac.tmps.getD 22 undef, ac.tmps.getD 23 undef, ac.tmps.getD 24 undef, ac.tmps.getD 25 undef, ac.tmps.getD 26 undef, ac.tmps.getD 27 undef, ac.tmps.getD 28 undef, ac.tmps.getD 29 undef, ac.tmps.getD 30 undef, ac.tmps.getD 31 undef, ac.tmps.getD 32 undef, ac.tmps.getD 33 undef, ac.tmps.getD 34 undef, ac.tmps.getD 35 undef, ac.tmps.getD 36 undef, ac.tmps.getD 37 undef, ac.tmps.getD 38 undef, ac.tmps.getD 39 undef, ac.tmps.getD 40 undef, ac.tmps.getD 41 undef, ac.tmps.getD 42 undef, ac.tmps.getD 43 undef, ac.tmps.getD 44 undef, ac.tmps.getD 45 undef, ac.tmps.getD 46 undef, ac.tmps.getD 47 undef, ac.tmps.getD 48 undef, ac.tmps.getD 49 undef, ac.tmps.getD 50 undef, ac.tmps.getD 51 undef, ac.tmps.getD 52 undef, ac.tmps.getD 53 undef, ac.tmps.getD 54 undef, ac.tmps.getD 55 undef, ac.tmps.getD 56 undef, ac.tmps.getD 57 undef, ac.tmps.getD 58 undef, ac.tmps.getD 59 undef, ac.tmps.getD 60 undef, ac.tmps.getD 61 undef, ac.tmps.getD 62 undef, ac.tmps.getD 63 undef, ac.tmps.getD 64 undef, ac.tmps.getD 65 undef, ac.tmps.getD 66 undef, ac.tmps.getD 67 undef, ac.tmps.getD 68 undef, ac.tmps.getD 69 undef, ac.tmps.getD 70 undef, ac.tmps.getD 71 undef, ac.tmps.getD 72 undef, ac.tmps.getD 73 undef, ac.tmps.getD 74 undef, ac.tmps.getD 75 undef, ac.tmps.getD 76 undef, ac.tmps.getD 77 undef, ac.tmps.getD 78 undef, ac.tmps.getD 79 undef, ac.tmps.getD 80 undef, ac.tmps.getD 81 undef, ac.tmps.getD 82 undef, ac.tmps.getD 83 undef, ac.tmps.getD 84 undef, ac.tmps.getD 85 undef, ac.tmps.getD 86 undef, ac.tmps.getD 87 undef, ac.tmps.getD 88 undef, ac.tmps.getD 89 undef, ac.tmps.getD 90 undef, ac.tmps.getD 91 undef, ac.tmps.getD 92 undef, ac.tmps.getD 93 undef, ac.tmps.getD 94 undef, ac.tmps.getD 95 undef, ac.tmps.getD 96 undef, ac.tmps.getD 97 undef, ac.tmps.getD 98 undef, ac.tmps.getD 99 undef, ac.tmps.getD 100 undef, ac.tmps.getD 101 undef, ac.tmps.getD 102 undef, ac.tmps.getD 103 undef, ac.tmps.getD 104 undef, ac.tmps.getD 105 undef, ac.tmps.getD 106 undef, ac.tmps.getD 107 undef, ac.tmps.getD 108 undef, ac.tmps.getD 109 undef, ac.tmps.getD 110 undef, ac.tmps.getD 111 undef, ac.tmps.getD 112 undef, ac.tmps.getD 113 undef, ac.tmps.getD 114 undef, ac.tmps.getD 115 undef, ac.tmps.getD 116 undef, ac.tmps.getD 117 undef, ac.tmps.getD 118 undef, ac.tmps.getD 119 undef, ac.tmps.getD 120 undef, ac.tmps.getD 121 undef, ac.tmps.getD 122 undef, ac.tmps.getD 123 undef, ac.tmps.getD 124 undef, ac.tmps.getD 125 undef, ac.tmps.getD 126 undef, ac.tmps.getD 127 undef, ac.tmps.getD 128 undef, ac.tmps.getD 129 undef, ac.tmps.getD 130 undef, ac.tmps.getD 131 undef, ac.tmps.getD 132 undef, ac.tmps.getD 133 undef, ac.tmps.getD 134 undef, ac.tmps.getD 135 undef, ac.tmps.getD 136 undef, ac.tmps.getD 137 undef, ac.tmps.getD 138 undef, ac.tmps.getD 139 undef, ac.tmps.getD 140 undef, ac.tmps.getD 141 undef, ac.tmps.getD 142 undef, ac.tmps.getD 143 undef, ac.tmps.getD 144 undef, ac.tmps.getD 145 undef, ac.tmps.getD 146 undef, ac.tmps.getD 147 undef, ac.tmps.getD 148 undef, ac.tmps.getD 149 undef, ac.tmps.getD 150 undef, ac.tmps.getD 151 undef, ac.tmps.getD 152 undef, ac.tmps.getD 153 undef, ac.tmps.getD 154 undef, ac.tmps.getD 155 undef, ac.tmps.getD 156 undef, ac.tmps.getD 157 undef], []⟩) (hx : Hid (BkI bx #[.int .i64 2, .int .i64 a, .int .i64 0, .string ⟨#[]⟩] X)) (hs : Hid (BkI bs #[.int .i64 ks, .int .i64 zs, .int .i64 0, .string ⟨#[]⟩] X)) (hd : Hid (BkI bd #[.int .i64 kd, .int .i64 zd, .int .i64 0, .string ⟨#[]⟩] X)) (hp : Hid (BkI bp #[.int .i64 kp, .int .i64 zp, .int .i64 0, .string ⟨#[]⟩] X)) (hc_ : Hid (BkI bc #[.int .i64 2, .int .i64 a, .int .i64 0, .string ⟨#[]⟩] X)) (G : Hid (Below w.heap.size w X)) : rest.wp Try.prog (bodyPost Try.prog Try.f11 (fun e w' => e = .returned (.bool true) ∧ Below w.heap.size w w')) ac X := by
  obtain ⟨u, rfl⟩ : ∃ u : Nat → Value, ac = ⟨#[.int .i64 a, .int .i64 b, u 2, u 3, u 4, u 5, u 6, .pointer (some ⟨bx, 0, none⟩), u 8, .pointer (some ⟨bs, 0, none⟩), .int .i64 0, .pointer (some ⟨bd, 0, none⟩), .int .i64 10, .pointer (some ⟨bp, 0, none⟩), .int .i64 0, .pointer (some ⟨bc, 0, none⟩), .int .i64 0, u 17, u 18, u 19, u 20, u 21, u 22, u 23, u 24, u 25, u 26, u 27, u 28, u 29, u 30, u 31, u 32, u 33, u 34, u 35, u 36, u 37, u 38, u 39, u 40, u 41, u 42, u 43, u 44, u 45, u 46, u 47, u 48, u 49, u 50, u 51, u 52, u 53, u 54, u 55, u 56, u 57, u 58, u 59, u 60, u 61, u 62, u 63, u 64, u 65, u 66, u 67, u 68, u 69, u 70, u 71, u 72, u 73, u 74, u 75, u 76, u 77, u 78, u 79, u 80, u 81, u 82, u 83, u 84, u 85, u 86, u 87, u 88, u 89, u 90, u 91, u 92, u 93, u 94, u 95, u 96, u 97, u 98, u 99, u 100, u 101, u 102, u 103, u 104, u 105, u 106, u 107, u 108, u 109, u 110, u 111, u 112, u 113, u 114, u 115, u 116, u 117, u 118, u 119, u 120, u 121, u 122, u 123, u 124, u 125, u 126, u 127, u 128, u 129, u 130, u 131, u 132, u 133, u 134, u 135, u 136, u 137, u 138, u 139, u 140, u 141, u 142, u 143, u 144, u 145, u 146, u 147, u 148, u 149, u 150, u 151, u 152, u 153, u 154, u 155, u 156, u 157], []⟩ := ⟨fun i => ac.tmps.getD i undef, ha⟩
  clear ha
  unfold Try.f11 at hc
  cases hc
  have l_hx := (unhide hx).lt
  have hx0 := (unhide hx).cell 0
  have hx1 := (unhide hx).cell 1
  have hx2 := (unhide hx).cell 2
  have hx3 := (unhide hx).cell 3
  have l_hs := (unhide hs).lt
  have hs0 := (unhide hs).cell 0
  have hs1 := (unhide hs).cell 1
  have hs2 := (unhide hs).cell 2
  have hs3 := (unhide hs).cell 3
  have l_hd := (unhide hd).lt
  have hd0 := (unhide hd).cell 0
  have hd1 := (unhide hd).cell 1
  have hd2 := (unhide hd).cell 2
  have hd3 := (unhide hd).cell 3
  have l_hp := (unhide hp).lt
  have hp0 := (unhide hp).cell 0
  have hp1 := (unhide hp).cell 1
  have hp2 := (unhide hp).cell 2
  have hp3 := (unhide hp).cell 3
  have l_hc_ := (unhide hc_).lt
  have hc_0 := (unhide hc_).cell 0
  have hc_1 := (unhide hc_).cell 1
  have hc_2 := (unhide hc_).cell 2
  have hc_3 := (unhide hc_).cell 3
  simp at hx0 hx1 hx2 hx3 hs0 hs1 hs2 hs3 hd0 hd1 hd2 hd3 hp0 hp1 hp2 hp3 hc_0 hc_1 hc_2 hc_3
  clear hx hs hd hp hc_
  simp only [List.append_eq, List.cons_append, List.nil_append]
  go_wp2_with fail
  go_ret
  exact ⟨by simp, unhide G⟩
set_option maxHeartbeats 8000000 in
set_option maxRecDepth 100000 in
theorem vi100A {r0 r1 r2 r3 r4 r5 r6 r7 r8 rest : Code} (hc : Try.f11.body = some (.seq r0 (.seq r1 (.seq r2 (.seq r3 (.seq r4 (.seq r5 (.seq r6 (.seq r7 (.seq r8 (rest))))))))))) (w : World) (a b ks zs kd zd kp zp kc zc hh : Int) (bx bs bd bp bc : Nat) (es : IntKind.i64.wrap (a + b) = zs) (ga : a < 0) (gb : ¬ b < 0) (ac : Act) (X : World) (ha : ac = ⟨#[.int .i64 a, .int .i64 b, ac.tmps.getD 2 undef, ac.tmps.getD 3 undef, ac.tmps.getD 4 undef, ac.tmps.getD 5 undef, ac.tmps.getD 6 undef, .pointer (some ⟨bx, 0, none⟩), ac.tmps.getD 8 undef, .pointer (some ⟨bs, 0, none⟩), .int .i64 0, .pointer (some ⟨bd, 0, none⟩), .int .i64 10, .pointer (some ⟨bp, 0, none⟩), .int .i64 10, .pointer (some ⟨bc, 0, none⟩), .int .i64 0, ac.tmps.getD 17 undef, ac.tmps.getD 18 undef, ac.tmps.getD 19 undef, ac.tmps.getD 20 undef, ac.tmps.getD 21 undef, ac.tmps.getD 22 undef, ac.tmps.getD 23 undef, ac.tmps.getD 24 undef, ac.tmps.getD 25 undef, ac.tmps.getD 26 undef, ac.tmps.getD 27 undef, ac.tmps.getD 28 undef, ac.tmps.getD 29 undef, ac.tmps.getD 30 undef, ac.tmps.getD 31 undef, ac.tmps.getD 32 undef, ac.tmps.getD 33 undef, ac.tmps.getD 34 undef, ac.tmps.getD 35 undef, ac.tmps.getD 36 undef, ac.tmps.getD 37 undef, ac.tmps.getD 38 undef, ac.tmps.getD 39 undef, ac.tmps.getD 40 undef, ac.tmps.getD 41 undef, ac.tmps.getD 42 undef, ac.tmps.getD 43 undef, ac.tmps.getD 44 undef, ac.tmps.getD 45 undef, ac.tmps.getD 46 undef, ac.tmps.getD 47 undef, ac.tmps.getD 48 undef, ac.tmps.getD 49 undef, ac.tmps.getD 50 undef, ac.tmps.getD 51 undef, ac.tmps.getD 52 undef, ac.tmps.getD 53 undef, ac.tmps.getD 54 undef, ac.tmps.getD 55 undef, ac.tmps.getD 56 undef, ac.tmps.getD 57 undef, ac.tmps.getD 58 undef, ac.tmps.getD 59 undef, ac.tmps.getD 60 undef, ac.tmps.getD 61 undef, ac.tmps.getD 62 undef, ac.tmps.getD 63 undef, ac.tmps.getD 64 undef, ac.tmps.getD 65 undef, ac.tmps.getD 66 undef, ac.tmps.getD 67 undef, ac.tmps.getD 68 undef, ac.tmps.getD 69 undef, ac.tmps.getD 70 undef, ac.tmps.getD 71 undef, ac.tmps.getD 72 undef, ac.tmps.getD 73 undef, ac.tmps.getD 74 undef, ac.tmps.getD 75 undef, ac.tmps.getD 76 undef, ac.tmps.getD 77 undef, ac.tmps.getD 78 undef, ac.tmps.getD 79 undef, ac.tmps.getD 80 undef, ac.tmps.getD 81 undef, ac.tmps.getD 82 undef, ac.tmps.getD 83 undef, ac.tmps.getD 84 undef, ac.tmps.getD 85 undef, ac.tmps.getD 86 undef, ac.tmps.getD 87 undef, ac.tmps.getD 88 undef, ac.tmps.getD 89 undef, ac.tmps.getD 90 undef, ac.tmps.getD 91 undef, ac.tmps.getD 92 undef, ac.tmps.getD 93 undef, ac.tmps.getD 94 undef, ac.tmps.getD 95 undef, ac.tmps.getD 96 undef, ac.tmps.getD 97 undef, ac.tmps.getD 98 undef, ac.tmps.getD 99 undef, ac.tmps.getD 100 undef, ac.tmps.getD 101 undef, ac.tmps.getD 102 undef, ac.tmps.getD 103 undef, ac.tmps.getD 104 undef, ac.tmps.getD 105 undef, ac.tmps.getD 106 undef, ac.tmps.getD 107 undef, ac.tmps.getD 108 undef, ac.tmps.getD 109 undef, ac.tmps.getD 110 undef, ac.tmps.getD 111 undef, ac.tmps.getD 112 undef, ac.tmps.getD 113 undef, ac.tmps.getD 114 undef, ac.tmps.getD 115 undef, ac.tmps.getD 116 undef, ac.tmps.getD 117 undef, ac.tmps.getD 118 undef, ac.tmps.getD 119 undef, ac.tmps.getD 120 undef, ac.tmps.getD 121 undef, ac.tmps.getD 122 undef, ac.tmps.getD 123 undef, ac.tmps.getD 124 undef, ac.tmps.getD 125 undef, ac.tmps.getD 126 undef, ac.tmps.getD 127 undef, ac.tmps.getD 128 undef, ac.tmps.getD 129 undef, ac.tmps.getD 130 undef, ac.tmps.getD 131 undef, ac.tmps.getD 132 undef, ac.tmps.getD 133 undef, ac.tmps.getD 134 undef, ac.tmps.getD 135 undef, ac.tmps.getD 136 undef, ac.tmps.getD 137 undef, ac.tmps.getD 138 undef, ac.tmps.getD 139 undef, ac.tmps.getD 140 undef, ac.tmps.getD 141 undef, ac.tmps.getD 142 undef, ac.tmps.getD 143 undef, ac.tmps.getD 144 undef, ac.tmps.getD 145 undef, ac.tmps.getD 146 undef, ac.tmps.getD 147 undef, ac.tmps.getD 148 undef, ac.tmps.getD 149 undef, ac.tmps.getD 150 undef, ac.tmps.getD 151 undef, ac.tmps.getD 152 undef, ac.tmps.getD 153 undef, ac.tmps.getD 154 undef, ac.tmps.getD 155 undef, ac.tmps.getD 156 undef, ac.tmps.getD 157 undef], []⟩) (hx : Hid (BkI bx #[.int .i64 2, .int .i64 a, .int .i64 0, .string ⟨#[]⟩] X)) (hs : Hid (BkI bs #[.int .i64 ks, .int .i64 zs, .int .i64 0, .string ⟨#[]⟩] X)) (hd : Hid (BkI bd #[.int .i64 kd, .int .i64 zd, .int .i64 0, .string ⟨#[]⟩] X)) (hp : Hid (BkI bp #[.int .i64 kp, .int .i64 zp, .int .i64 0, .string ⟨#[]⟩] X)) (hc_ : Hid (BkI bc #[.int .i64 2, .int .i64 a, .int .i64 0, .string ⟨#[]⟩] X)) (G : Hid (Below w.heap.size w X)) : rest.wp Try.prog (bodyPost Try.prog Try.f11 (fun e w' => e = .returned (.bool true) ∧ Below w.heap.size w w')) ac X := by
  obtain ⟨u, rfl⟩ : ∃ u : Nat → Value, ac = ⟨#[.int .i64 a, .int .i64 b, u 2, u 3, u 4, u 5, u 6, .pointer (some ⟨bx, 0, none⟩), u 8, .pointer (some ⟨bs, 0, none⟩), .int .i64 0, .pointer (some ⟨bd, 0, none⟩), .int .i64 10, .pointer (some ⟨bp, 0, none⟩), .int .i64 10, .pointer (some ⟨bc, 0, none⟩), .int .i64 0, u 17, u 18, u 19, u 20, u 21, u 22, u 23, u 24, u 25, u 26, u 27, u 28, u 29, u 30, u 31, u 32, u 33, u 34, u 35, u 36, u 37, u 38, u 39, u 40, u 41, u 42, u 43, u 44, u 45, u 46, u 47, u 48, u 49, u 50, u 51, u 52, u 53, u 54, u 55, u 56, u 57, u 58, u 59, u 60, u 61, u 62, u 63, u 64, u 65, u 66, u 67, u 68, u 69, u 70, u 71, u 72, u 73, u 74, u 75, u 76, u 77, u 78, u 79, u 80, u 81, u 82, u 83, u 84, u 85, u 86, u 87, u 88, u 89, u 90, u 91, u 92, u 93, u 94, u 95, u 96, u 97, u 98, u 99, u 100, u 101, u 102, u 103, u 104, u 105, u 106, u 107, u 108, u 109, u 110, u 111, u 112, u 113, u 114, u 115, u 116, u 117, u 118, u 119, u 120, u 121, u 122, u 123, u 124, u 125, u 126, u 127, u 128, u 129, u 130, u 131, u 132, u 133, u 134, u 135, u 136, u 137, u 138, u 139, u 140, u 141, u 142, u 143, u 144, u 145, u 146, u 147, u 148, u 149, u 150, u 151, u 152, u 153, u 154, u 155, u 156, u 157], []⟩ := ⟨fun i => ac.tmps.getD i undef, ha⟩
  clear ha
  unfold Try.f11 at hc
  cases hc
  have l_hx := (unhide hx).lt
  have hx0 := (unhide hx).cell 0
  have hx1 := (unhide hx).cell 1
  have hx2 := (unhide hx).cell 2
  have hx3 := (unhide hx).cell 3
  have l_hs := (unhide hs).lt
  have hs0 := (unhide hs).cell 0
  have hs1 := (unhide hs).cell 1
  have hs2 := (unhide hs).cell 2
  have hs3 := (unhide hs).cell 3
  have l_hd := (unhide hd).lt
  have hd0 := (unhide hd).cell 0
  have hd1 := (unhide hd).cell 1
  have hd2 := (unhide hd).cell 2
  have hd3 := (unhide hd).cell 3
  have l_hp := (unhide hp).lt
  have hp0 := (unhide hp).cell 0
  have hp1 := (unhide hp).cell 1
  have hp2 := (unhide hp).cell 2
  have hp3 := (unhide hp).cell 3
  have l_hc_ := (unhide hc_).lt
  have hc_0 := (unhide hc_).cell 0
  have hc_1 := (unhide hc_).cell 1
  have hc_2 := (unhide hc_).cell 2
  have hc_3 := (unhide hc_).cell 3
  simp at hx0 hx1 hx2 hx3 hs0 hs1 hs2 hs3 hd0 hd1 hd2 hd3 hp0 hp1 hp2 hp3 hc_0 hc_1 hc_2 hc_3
  clear hx hs hd hp hc_
  simp only [List.append_eq, List.cons_append, List.nil_append]
  go_wp2_with fail
  go_ret
  exact ⟨by simp, unhide G⟩
set_option maxHeartbeats 8000000 in
set_option maxRecDepth 100000 in
theorem vi100B {r0 r1 r2 r3 r4 r5 r6 r7 r8 rest : Code} (hc : Try.f11.body = some (.seq r0 (.seq r1 (.seq r2 (.seq r3 (.seq r4 (.seq r5 (.seq r6 (.seq r7 (.seq r8 (rest))))))))))) (w : World) (a b ks zs kd zd kp zp kc zc hh : Int) (bx bs bd bp bc : Nat) (es : IntKind.i64.wrap (a + b) = zs) (ga : ¬ a < 0) (gb : b < 0) (ac : Act) (X : World) (ha : ac = ⟨#[.int .i64 a, .int .i64 b, ac.tmps.getD 2 undef, ac.tmps.getD 3 undef, ac.tmps.getD 4 undef, ac.tmps.getD 5 undef, ac.tmps.getD 6 undef, .pointer (some ⟨bx, 0, none⟩), ac.tmps.getD 8 undef, .pointer (some ⟨bs, 0, none⟩), .int .i64 0, .pointer (some ⟨bd, 0, none⟩), .int .i64 10, .pointer (some ⟨bp, 0, none⟩), .int .i64 10, .pointer (some ⟨bc, 0, none⟩), .int .i64 0, ac.tmps.getD 17 undef, ac.tmps.getD 18 undef, ac.tmps.getD 19 undef, ac.tmps.getD 20 undef, ac.tmps.getD 21 undef, ac.tmps.getD 22 undef, ac.tmps.getD 23 undef, ac.tmps.getD 24 undef, ac.tmps.getD 25 undef, ac.tmps.getD 26 undef, ac.tmps.getD 27 undef, ac.tmps.getD 28 undef, ac.tmps.getD 29 undef, ac.tmps.getD 30 undef, ac.tmps.getD 31 undef, ac.tmps.getD 32 undef, ac.tmps.getD 33 undef, ac.tmps.getD 34 undef, ac.tmps.getD 35 undef, ac.tmps.getD 36 undef, ac.tmps.getD 37 undef, ac.tmps.getD 38 undef, ac.tmps.getD 39 undef, ac.tmps.getD 40 undef, ac.tmps.getD 41 undef, ac.tmps.getD 42 undef, ac.tmps.getD 43 undef, ac.tmps.getD 44 undef, ac.tmps.getD 45 undef, ac.tmps.getD 46 undef, ac.tmps.getD 47 undef, ac.tmps.getD 48 undef, ac.tmps.getD 49 undef, ac.tmps.getD 50 undef, ac.tmps.getD 51 undef, ac.tmps.getD 52 undef, ac.tmps.getD 53 undef, ac.tmps.getD 54 undef, ac.tmps.getD 55 undef, ac.tmps.getD 56 undef, ac.tmps.getD 57 undef, ac.tmps.getD 58 undef, ac.tmps.getD 59 undef, ac.tmps.getD 60 undef, ac.tmps.getD 61 undef, ac.tmps.getD 62 undef, ac.tmps.getD 63 undef, ac.tmps.getD 64 undef, ac.tmps.getD 65 undef, ac.tmps.getD 66 undef, ac.tmps.getD 67 undef, ac.tmps.getD 68 undef, ac.tmps.getD 69 undef, ac.tmps.getD 70 undef, ac.tmps.getD 71 undef, ac.tmps.getD 72 undef, ac.tmps.getD 73 undef, ac.tmps.getD 74 undef, ac.tmps.getD 75 undef, ac.tmps.getD 76 undef, ac.tmps.getD 77 undef, ac.tmps.getD 78 undef, ac.tmps.getD 79 undef, ac.tmps.getD 80 undef, ac.tmps.getD 81 undef, ac.tmps.getD 82 undef, ac.tmps.getD 83 undef, ac.tmps.getD 84 undef, ac.tmps.getD 85 undef, ac.tmps.getD 86 undef, ac.tmps.getD 87 undef, ac.tmps.getD 88 undef, ac.tmps.getD 89 undef, ac.tmps.getD 90 undef, ac.tmps.getD 91 undef, ac.tmps.getD 92 undef, ac.tmps.getD 93 undef, ac.tmps.getD 94 undef, ac.tmps.getD 95 undef, ac.tmps.getD 96 undef, ac.tmps.getD 97 undef, ac.tmps.getD 98 undef, ac.tmps.getD 99 undef, ac.tmps.getD 100 undef, ac.tmps.getD 101 undef, ac.tmps.getD 102 undef, ac.tmps.getD 103 undef, ac.tmps.getD 104 undef, ac.tmps.getD 105 undef, ac.tmps.getD 106 undef, ac.tmps.getD 107 undef, ac.tmps.getD 108 undef, ac.tmps.getD 109 undef, ac.tmps.getD 110 undef, ac.tmps.getD 111 undef, ac.tmps.getD 112 undef, ac.tmps.getD 113 undef, ac.tmps.getD 114 undef, ac.tmps.getD 115 undef, ac.tmps.getD 116 undef, ac.tmps.getD 117 undef, ac.tmps.getD 118 undef, ac.tmps.getD 119 undef, ac.tmps.getD 120 undef, ac.tmps.getD 121 undef, ac.tmps.getD 122 undef, ac.tmps.getD 123 undef, ac.tmps.getD 124 undef, ac.tmps.getD 125 undef, ac.tmps.getD 126 undef, ac.tmps.getD 127 undef, ac.tmps.getD 128 undef, ac.tmps.getD 129 undef, ac.tmps.getD 130 undef, ac.tmps.getD 131 undef, ac.tmps.getD 132 undef, ac.tmps.getD 133 undef, ac.tmps.getD 134 undef, ac.tmps.getD 135 undef, ac.tmps.getD 136 undef, ac.tmps.getD 137 undef, ac.tmps.getD 138 undef, ac.tmps.getD 139 undef, ac.tmps.getD 140 undef, ac.tmps.getD 141 undef, ac.tmps.getD 142 undef, ac.tmps.getD 143 undef, ac.tmps.getD 144 undef, ac.tmps.getD 145 undef, ac.tmps.getD 146 undef, ac.tmps.getD 147 undef, ac.tmps.getD 148 undef, ac.tmps.getD 149 undef, ac.tmps.getD 150 undef, ac.tmps.getD 151 undef, ac.tmps.getD 152 undef, ac.tmps.getD 153 undef, ac.tmps.getD 154 undef, ac.tmps.getD 155 undef, ac.tmps.getD 156 undef, ac.tmps.getD 157 undef], []⟩) (hx : Hid (BkI bx #[.int .i64 2, .int .i64 a, .int .i64 0, .string ⟨#[]⟩] X)) (hs : Hid (BkI bs #[.int .i64 ks, .int .i64 zs, .int .i64 0, .string ⟨#[]⟩] X)) (hd : Hid (BkI bd #[.int .i64 kd, .int .i64 zd, .int .i64 0, .string ⟨#[]⟩] X)) (hp : Hid (BkI bp #[.int .i64 kp, .int .i64 zp, .int .i64 0, .string ⟨#[]⟩] X)) (hc_ : Hid (BkI bc #[.int .i64 2, .int .i64 a, .int .i64 0, .string ⟨#[]⟩] X)) (G : Hid (Below w.heap.size w X)) : rest.wp Try.prog (bodyPost Try.prog Try.f11 (fun e w' => e = .returned (.bool true) ∧ Below w.heap.size w w')) ac X := by
  obtain ⟨u, rfl⟩ : ∃ u : Nat → Value, ac = ⟨#[.int .i64 a, .int .i64 b, u 2, u 3, u 4, u 5, u 6, .pointer (some ⟨bx, 0, none⟩), u 8, .pointer (some ⟨bs, 0, none⟩), .int .i64 0, .pointer (some ⟨bd, 0, none⟩), .int .i64 10, .pointer (some ⟨bp, 0, none⟩), .int .i64 10, .pointer (some ⟨bc, 0, none⟩), .int .i64 0, u 17, u 18, u 19, u 20, u 21, u 22, u 23, u 24, u 25, u 26, u 27, u 28, u 29, u 30, u 31, u 32, u 33, u 34, u 35, u 36, u 37, u 38, u 39, u 40, u 41, u 42, u 43, u 44, u 45, u 46, u 47, u 48, u 49, u 50, u 51, u 52, u 53, u 54, u 55, u 56, u 57, u 58, u 59, u 60, u 61, u 62, u 63, u 64, u 65, u 66, u 67, u 68, u 69, u 70, u 71, u 72, u 73, u 74, u 75, u 76, u 77, u 78, u 79, u 80, u 81, u 82, u 83, u 84, u 85, u 86, u 87, u 88, u 89, u 90, u 91, u 92, u 93, u 94, u 95, u 96, u 97, u 98, u 99, u 100, u 101, u 102, u 103, u 104, u 105, u 106, u 107, u 108, u 109, u 110, u 111, u 112, u 113, u 114, u 115, u 116, u 117, u 118, u 119, u 120, u 121, u 122, u 123, u 124, u 125, u 126, u 127, u 128, u 129, u 130, u 131, u 132, u 133, u 134, u 135, u 136, u 137, u 138, u 139, u 140, u 141, u 142, u 143, u 144, u 145, u 146, u 147, u 148, u 149, u 150, u 151, u 152, u 153, u 154, u 155, u 156, u 157], []⟩ := ⟨fun i => ac.tmps.getD i undef, ha⟩
  clear ha
  unfold Try.f11 at hc
  cases hc
  have l_hx := (unhide hx).lt
  have hx0 := (unhide hx).cell 0
  have hx1 := (unhide hx).cell 1
  have hx2 := (unhide hx).cell 2
  have hx3 := (unhide hx).cell 3
  have l_hs := (unhide hs).lt
  have hs0 := (unhide hs).cell 0
  have hs1 := (unhide hs).cell 1
  have hs2 := (unhide hs).cell 2
  have hs3 := (unhide hs).cell 3
  have l_hd := (unhide hd).lt
  have hd0 := (unhide hd).cell 0
  have hd1 := (unhide hd).cell 1
  have hd2 := (unhide hd).cell 2
  have hd3 := (unhide hd).cell 3
  have l_hp := (unhide hp).lt
  have hp0 := (unhide hp).cell 0
  have hp1 := (unhide hp).cell 1
  have hp2 := (unhide hp).cell 2
  have hp3 := (unhide hp).cell 3
  have l_hc_ := (unhide hc_).lt
  have hc_0 := (unhide hc_).cell 0
  have hc_1 := (unhide hc_).cell 1
  have hc_2 := (unhide hc_).cell 2
  have hc_3 := (unhide hc_).cell 3
  simp at hx0 hx1 hx2 hx3 hs0 hs1 hs2 hs3 hd0 hd1 hd2 hd3 hp0 hp1 hp2 hp3 hc_0 hc_1 hc_2 hc_3
  clear hx hs hd hp hc_
  simp only [List.append_eq, List.cons_append, List.nil_append]
  go_wp2_with fail
  go_ret
  exact ⟨by simp, unhide G⟩
end Go.Proofs.Ytglbghgenckgeaa
