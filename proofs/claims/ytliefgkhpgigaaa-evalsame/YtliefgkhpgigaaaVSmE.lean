/-
  EvalSame: the end.
-/
import Derived.Test.YtliefgkhpgigaaaVSmC
namespace Go.Proofs.Ytliefgkhpgigaaa
open Go.RowKit Go.Shelf
set_option linter.unusedSimpArgs false
set_option linter.unusedVariables false

set_option maxHeartbeats 32000000 in
set_option maxRecDepth 100000 in
theorem smE {r0 r1 r2 r3 r4 r5 r6 r7 rest : Code} (hc : Try.f11.body = some (.seq r0 (.seq r1 (.seq r2 (.seq r3 (.seq r4 (.seq r5 (.seq r6 (.seq r7 (rest)))))))))) (w : World) (gc bt ga ca gb cb k : Nat) (at_ : Int) (la lb : List V4) (nm : ByteArray) (bx gx by_ gy : Nat) (p1 p2 p3 : Int) (p4 : ByteArray) (s1 s2 s3 : Int) (s4 : ByteArray) (x : V4) (hla : la.length = 4) (hlb : lb.length = 4) (hMa : Hid (∀ v ∈ la, MkV v)) (hMb : Hid (∀ v ∈ lb, MkV v)) (hva : valFrom nm cols4 la = some x) (hxa : Hid (evalR cols4 la (oneX 5 (colX nm)) = ((p1, p2, p3, p4), 0))) (hxb : Hid (evalR cols4 lb (oneX 5 (colX nm)) = ((p1, p2, p3, p4), 0))) (hya : Hid (evalR cols4 la (twoX 9 (colX nm) (colX nm)) = ((s1, s2, s3, s4), 0))) (hyb : Hid (evalR cols4 lb (twoX 9 (colX nm) (colX nm)) = ((s1, s2, s3, s4), 0))) (hyr : Hid (rcmpV 9 x x = (s1, s2, s3, s4))) (hxm : MkV x) (ac : Act) (X : World) (ha : ac = ⟨#[ac.tmps.getD 0 undef, ac.tmps.getD 1 undef, .int .i64 at_, ac.tmps.getD 3 undef, ac.tmps.getD 4 undef, ac.tmps.getD 5 undef, ac.tmps.getD 6 undef, .pointer (some ⟨bt, 0, none⟩), .slice (some ⟨ga, 0, none⟩) 4 ca, .slice (some ⟨gb, 0, none⟩) 4 cb, .int .i64 (k : Int), .pointer (some ⟨bx, 0, none⟩), .pointer (some ⟨by_, 0, none⟩), ac.tmps.getD 13 undef, ac.tmps.getD 14 undef, ac.tmps.getD 15 undef, ac.tmps.getD 16 undef, ac.tmps.getD 17 undef, ac.tmps.getD 18 undef, ac.tmps.getD 19 undef, ac.tmps.getD 20 undef, ac.tmps.getD 21 undef, ac.tmps.getD 22 undef, ac.tmps.getD 23 undef, ac.tmps.getD 24 undef, ac.tmps.getD 25 undef, ac.tmps.getD 26 undef, ac.tmps.getD 27 undef, ac.tmps.getD 28 undef, ac.tmps.getD 29 undef, ac.tmps.getD 30 undef, ac.tmps.getD 31 undef, ac.tmps.getD 32 undef, ac.tmps.getD 33 undef, ac.tmps.getD 34 undef, ac.tmps.getD 35 undef, ac.tmps.getD 36 undef, ac.tmps.getD 37 undef, ac.tmps.getD 38 undef, ac.tmps.getD 39 undef, ac.tmps.getD 40 undef, ac.tmps.getD 41 undef, ac.tmps.getD 42 undef, ac.tmps.getD 43 undef, ac.tmps.getD 44 undef, ac.tmps.getD 45 undef, ac.tmps.getD 46 undef, ac.tmps.getD 47 undef, ac.tmps.getD 48 undef, ac.tmps.getD 49 undef, ac.tmps.getD 50 undef, ac.tmps.getD 51 undef, ac.tmps.getD 52 undef, ac.tmps.getD 53 undef, ac.tmps.getD 54 undef, ac.tmps.getD 55 undef, ac.tmps.getD 56 undef, ac.tmps.getD 57 undef, ac.tmps.getD 58 undef, ac.tmps.getD 59 undef, ac.tmps.getD 60 undef, ac.tmps.getD 61 undef, ac.tmps.getD 62 undef, ac.tmps.getD 63 undef, ac.tmps.getD 64 undef, ac.tmps.getD 65 undef, ac.tmps.getD 66 undef, ac.tmps.getD 67 undef, ac.tmps.getD 68 undef, ac.tmps.getD 69 undef, ac.tmps.getD 70 undef, ac.tmps.getD 71 undef, ac.tmps.getD 72 undef, ac.tmps.getD 73 undef, ac.tmps.getD 74 undef, ac.tmps.getD 75 undef, ac.tmps.getD 76 undef, ac.tmps.getD 77 undef, ac.tmps.getD 78 undef, ac.tmps.getD 79 undef, ac.tmps.getD 80 undef, ac.tmps.getD 81 undef, ac.tmps.getD 82 undef, ac.tmps.getD 83 undef, ac.tmps.getD 84 undef, ac.tmps.getD 85 undef, ac.tmps.getD 86 undef, ac.tmps.getD 87 undef, ac.tmps.getD 88 undef, ac.tmps.getD 89 undef, ac.tmps.getD 90 undef, ac.tmps.getD 91 undef, ac.tmps.getD 92 undef, ac.tmps.getD 93 undef, ac.tmps.getD 94 undef, ac.tmps.getD 95 undef, ac.tmps.getD 96 undef, ac.tmps.getD 97 undef, ac.tmps.getD 98 undef, ac.tmps.getD 99 undef, ac.tmps.getD 100 undef, ac.tmps.getD 101 undef, ac.tmps.getD 102 undef, ac.tmps.getD 103 undef, ac.tmps.getD 104 undef, ac.tmps.getD 105 undef, ac.tmps.getD 106 undef, ac.tmps.getD 107 undef, ac.tmps.getD 108 undef, ac.tmps.getD 109 undef, ac.tmps.getD 110 undef, ac.tmps.getD 111 undef, ac.tmps.getD 112 undef, ac.tmps.getD 113 undef, ac.tmps.getD 114 undef, ac.tmps.getD 115 undef, ac.tmps.getD 116 undef, ac.tmps.getD 117 undef, ac.tmps.getD 118 undef, ac.tmps.getD 119 undef, ac.tmps.getD 120 undef, ac.tmps.getD 121 undef, ac.tmps.getD 122 undef, ac.tmps.getD 123 undef, ac.tmps.getD 124 undef, ac.tmps.getD 125 undef, ac.tmps.getD 126 undef, ac.tmps.getD 127 undef], []⟩) (G : Hid (Grown w X)) (hC : Hid (ColsOf (.slice (some ⟨gc, 0, none⟩) 4 4) cols4 X)) (hT : Hid (Blk bt #[.string ⟨#[116]⟩, .slice (some ⟨gc, 0, none⟩) 4 4, .int .i64 0, N0, .int .i64 0, .string S0, .int .i64 0, .int .i64 0, .int .i64 0, .string S0, N0, N0] 34 X)) (hRa : Hid (RowB ga la X)) (hRb : Hid (RowB gb lb X)) (hX : Hid (Blk bx #[.int .i64 5, .string S0, .int .i64 0, .int .i64 0, .int .i64 0, .string S0, .slice (some ⟨gx, 0, none⟩) 1 1] 31 X)) (hrx : Hid (Rep (oneX 5 (colX nm)) (.slice (some ⟨gx, 0, none⟩) 1 1) X)) (hY : Hid (Blk by_ #[.int .i64 9, .string S0, .int .i64 0, .int .i64 0, .int .i64 0, .string S0, .slice (some ⟨gy, 0, none⟩) 2 2] 31 X)) (hry : Hid (Rep (twoX 9 (colX nm) (colX nm)) (.slice (some ⟨gy, 0, none⟩) 2 2) X)) : rest.wp Try.prog (bodyPost Try.prog Try.f11 (fun e w' => e = .returned (.bool true) ∧ Below w.heap.size w w')) ac X := by
  obtain ⟨u, rfl⟩ : ∃ u : Nat → Value, ac = ⟨#[u 0, u 1, .int .i64 at_, u 3, u 4, u 5, u 6, .pointer (some ⟨bt, 0, none⟩), .slice (some ⟨ga, 0, none⟩) 4 ca, .slice (some ⟨gb, 0, none⟩) 4 cb, .int .i64 (k : Int), .pointer (some ⟨bx, 0, none⟩), .pointer (some ⟨by_, 0, none⟩), u 13, u 14, u 15, u 16, u 17, u 18, u 19, u 20, u 21, u 22, u 23, u 24, u 25, u 26, u 27, u 28, u 29, u 30, u 31, u 32, u 33, u 34, u 35, u 36, u 37, u 38, u 39, u 40, u 41, u 42, u 43, u 44, u 45, u 46, u 47, u 48, u 49, u 50, u 51, u 52, u 53, u 54, u 55, u 56, u 57, u 58, u 59, u 60, u 61, u 62, u 63, u 64, u 65, u 66, u 67, u 68, u 69, u 70, u 71, u 72, u 73, u 74, u 75, u 76, u 77, u 78, u 79, u 80, u 81, u 82, u 83, u 84, u 85, u 86, u 87, u 88, u 89, u 90, u 91, u 92, u 93, u 94, u 95, u 96, u 97, u 98, u 99, u 100, u 101, u 102, u 103, u 104, u 105, u 106, u 107, u 108, u 109, u 110, u 111, u 112, u 113, u 114, u 115, u 116, u 117, u 118, u 119, u 120, u 121, u 122, u 123, u 124, u 125, u 126, u 127], []⟩ := ⟨fun i => ac.tmps.getD i undef, ha⟩
  clear ha
  unfold Try.f11 at hc
  cases hc
  obtain ⟨a0, a1, a2, a3, rfl⟩ : ∃ q0 q1 q2 q3, la = [q0, q1, q2, q3] := by
    match la, hla with
    | [q0, q1, q2, q3], _ => exact ⟨q0, q1, q2, q3, rfl⟩
  obtain ⟨b0, b1, b2, b3, rfl⟩ : ∃ q0 q1 q2 q3, lb = [q0, q1, q2, q3] := by
    match lb, hlb with
    | [q0, q1, q2, q3], _ => exact ⟨q0, q1, q2, q3, rfl⟩
  have C1 := hide (fun (W : World) h1 h2 h3 => evalT_any ⟨#[116]⟩ (.slice (some ⟨gc, 0, none⟩) 4 4) cols4 (some ⟨ga, 0, none⟩) [a0, a1, a2, a3] ca (oneX 5 (colX nm)) (.slice (some ⟨gx, 0, none⟩) 1 1) ((p1, p2, p3, p4), 0) W (unhide hxa) h1 h2 (fun v hv => (unhide hMa v hv).ok) (show 2 ≤ 1000 by decide) h3 (ok_one (ok_col _)))
  have C2 := hide (fun (W : World) h1 h2 h3 => evalT_any ⟨#[116]⟩ (.slice (some ⟨gc, 0, none⟩) 4 4) cols4 (some ⟨gb, 0, none⟩) [b0, b1, b2, b3] cb (oneX 5 (colX nm)) (.slice (some ⟨gx, 0, none⟩) 1 1) ((p1, p2, p3, p4), 0) W (unhide hxb) h1 h2 (fun v hv => (unhide hMb v hv).ok) (show 2 ≤ 1000 by decide) h3 (ok_one (ok_col _)))
  have C3 := hide (fun (W : World) h1 h2 h3 => evalT_any ⟨#[116]⟩ (.slice (some ⟨gc, 0, none⟩) 4 4) cols4 (some ⟨ga, 0, none⟩) [a0, a1, a2, a3] ca (twoX 9 (colX nm) (colX nm)) (.slice (some ⟨gy, 0, none⟩) 2 2) ((s1, s2, s3, s4), 0) W (unhide hya) h1 h2 (fun v hv => (unhide hMa v hv).ok) (show 2 ≤ 1000 by decide) h3 (ok_two (ok_col _) (ok_col _)))
  have C4 := hide (fun (W : World) h1 h2 h3 => evalT_any ⟨#[116]⟩ (.slice (some ⟨gc, 0, none⟩) 4 4) cols4 (some ⟨gb, 0, none⟩) [b0, b1, b2, b3] cb (twoX 9 (colX nm) (colX nm)) (.slice (some ⟨gy, 0, none⟩) 2 2) ((s1, s2, s3, s4), 0) W (unhide hyb) h1 h2 (fun v hv => (unhide hMb v hv).ok) (show 2 ≤ 1000 by decide) h3 (ok_two (ok_col _) (ok_col _)))
  have C5 := hide (fun (W : World) h1 h2 h3 => ((unhide hyr) ▸ rEval_eq (.string ⟨#[116]⟩) (.int .i64 0) N0 (.int .i64 0) (.string S0) (.int .i64 0) (.int .i64 0) (.int .i64 0) (.string S0) N0 N0 gc 4 cols4 (some ⟨ga, 0, none⟩) [a0, a1, a2, a3] ca nm x (.slice (some ⟨gy, 0, none⟩) 2 2) W hva (ok_dec_in hxm) h1 h2 h3 : Calls Try.prog 20 #[.agg #[.string ⟨#[116]⟩, .slice (some ⟨gc, 0, none⟩) 4 4, .int .i64 0, N0, .int .i64 0, .string S0, .int .i64 0, .int .i64 0, .int .i64 0, .string S0, N0, N0], .slice (some ⟨ga, 0, none⟩) 4 ca, .agg (exC (twoX 9 (colX nm) (colX nm)) (.slice (some ⟨gy, 0, none⟩) 2 2)).toArray] W (FinV ((s1, s2, s3, s4), 0) W)))
  clear hxa hxb hya hyb hyr hva hxm hMa hMb hla hlb
  have lt_ := (unhide hT).lt
  have t0 := (unhide hT).cell 0
  have t1 := (unhide hT).cell 1
  have t2 := (unhide hT).cell 2
  have t3 := (unhide hT).cell 3
  have t4 := (unhide hT).cell 4
  have t5 := (unhide hT).cell 5
  have t6 := (unhide hT).cell 6
  have t7 := (unhide hT).cell 7
  have t8 := (unhide hT).cell 8
  have t9 := (unhide hT).cell 9
  have t10 := (unhide hT).cell 10
  have t11 := (unhide hT).cell 11
  have lx_ := (unhide hX).lt
  have y0 := (unhide hX).cell 0
  have y1 := (unhide hX).cell 1
  have y2 := (unhide hX).cell 2
  have y3 := (unhide hX).cell 3
  have y4 := (unhide hX).cell 4
  have y5 := (unhide hX).cell 5
  have y6 := (unhide hX).cell 6
  simp at t0 t1 t2 t3 t4 t5 t6 t7 t8 t9 t10 t11 y0 y1 y2 y3 y4 y5 y6
  go_wp2_with fail
  clear lt_ lx_ t0 t1 t2 t3 t4 t5 t6 t7 t8 t9 t10 t11 y0 y1 y2 y3 y4 y5 y6
  refine (unhide C1 _ (unhide hC) (unhide hRa).row (unhide hrx)).mono ?_
  rintro e Y0 ⟨rfl, hb⟩
  have hz := below_new Y0 (.cells #[.int .i64 p1, .int .i64 p2, .int .i64 p3, .string p4] 28)
  replace G := hide (((unhide G).call hb).call hz)
  replace hC := hide (((unhide hC).call hb).call hz)
  replace hT := hide (((unhide hT).call hb).call hz)
  replace hRa := hide (((unhide hRa).call hb).call hz)
  replace hRb := hide (((unhide hRb).call hb).call hz)
  replace hX := hide (((unhide hX).call hb).call hz)
  replace hrx := hide (((unhide hrx).call hb).call hz)
  replace hY := hide (((unhide hY).call hb).call hz)
  replace hry := hide (((unhide hry).call hb).call hz)
  have D0 := hide (Blk.new Y0 #[.int .i64 p1, .int .i64 p2, .int .i64 p3, .string p4] 28)
  clear hb hz
  have lt_ := (unhide hT).lt
  have t0 := (unhide hT).cell 0
  have t1 := (unhide hT).cell 1
  have t2 := (unhide hT).cell 2
  have t3 := (unhide hT).cell 3
  have t4 := (unhide hT).cell 4
  have t5 := (unhide hT).cell 5
  have t6 := (unhide hT).cell 6
  have t7 := (unhide hT).cell 7
  have t8 := (unhide hT).cell 8
  have t9 := (unhide hT).cell 9
  have t10 := (unhide hT).cell 10
  have t11 := (unhide hT).cell 11
  have lx_ := (unhide hX).lt
  have y0 := (unhide hX).cell 0
  have y1 := (unhide hX).cell 1
  have y2 := (unhide hX).cell 2
  have y3 := (unhide hX).cell 3
  have y4 := (unhide hX).cell 4
  have y5 := (unhide hX).cell 5
  have y6 := (unhide hX).cell 6
  simp at t0 t1 t2 t3 t4 t5 t6 t7 t8 t9 t10 t11 y0 y1 y2 y3 y4 y5 y6
  go_wp2_with fail
  generalize Y0.alloc (.cells #[.int .i64 p1, .int .i64 p2, .int .i64 p3, .string p4] 28) = Z0 at *
  generalize Y0.heap.size = d0 at *
  clear lt_ lx_ t0 t1 t2 t3 t4 t5 t6 t7 t8 t9 t10 t11 y0 y1 y2 y3 y4 y5 y6
  refine (unhide C2 _ (unhide hC) (unhide hRb).row (unhide hrx)).mono ?_
  rintro e Y1 ⟨rfl, hb⟩
  have hz := below_new Y1 (.cells #[.int .i64 p1, .int .i64 p2, .int .i64 p3, .string p4] 28)
  replace G := hide (((unhide G).call hb).call hz)
  replace hC := hide (((unhide hC).call hb).call hz)
  replace hT := hide (((unhide hT).call hb).call hz)
  replace hRa := hide (((unhide hRa).call hb).call hz)
  replace hRb := hide (((unhide hRb).call hb).call hz)
  replace hX := hide (((unhide hX).call hb).call hz)
  replace hrx := hide (((unhide hrx).call hb).call hz)
  replace hY := hide (((unhide hY).call hb).call hz)
  replace hry := hide (((unhide hry).call hb).call hz)
  replace D0 := hide (((unhide D0).call hb).call hz)
  have D1 := hide (Blk.new Y1 #[.int .i64 p1, .int .i64 p2, .int .i64 p3, .string p4] 28)
  clear hb hz
  have lt_ := (unhide hT).lt
  have t0 := (unhide hT).cell 0
  have t1 := (unhide hT).cell 1
  have t2 := (unhide hT).cell 2
  have t3 := (unhide hT).cell 3
  have t4 := (unhide hT).cell 4
  have t5 := (unhide hT).cell 5
  have t6 := (unhide hT).cell 6
  have t7 := (unhide hT).cell 7
  have t8 := (unhide hT).cell 8
  have t9 := (unhide hT).cell 9
  have t10 := (unhide hT).cell 10
  have t11 := (unhide hT).cell 11
  have lx_ := (unhide hY).lt
  have y0 := (unhide hY).cell 0
  have y1 := (unhide hY).cell 1
  have y2 := (unhide hY).cell 2
  have y3 := (unhide hY).cell 3
  have y4 := (unhide hY).cell 4
  have y5 := (unhide hY).cell 5
  have y6 := (unhide hY).cell 6
  simp at t0 t1 t2 t3 t4 t5 t6 t7 t8 t9 t10 t11 y0 y1 y2 y3 y4 y5 y6
  go_wp2_with fail
  generalize Y1.alloc (.cells #[.int .i64 p1, .int .i64 p2, .int .i64 p3, .string p4] 28) = Z1 at *
  generalize Y1.heap.size = d1 at *
  clear lt_ lx_ t0 t1 t2 t3 t4 t5 t6 t7 t8 t9 t10 t11 y0 y1 y2 y3 y4 y5 y6
  refine (unhide C3 _ (unhide hC) (unhide hRa).row (unhide hry)).mono ?_
  rintro e Y2 ⟨rfl, hb⟩
  have hz := below_new Y2 (.cells #[.int .i64 s1, .int .i64 s2, .int .i64 s3, .string s4] 28)
  replace G := hide (((unhide G).call hb).call hz)
  replace hC := hide (((unhide hC).call hb).call hz)
  replace hT := hide (((unhide hT).call hb).call hz)
  replace hRa := hide (((unhide hRa).call hb).call hz)
  replace hRb := hide (((unhide hRb).call hb).call hz)
  replace hX := hide (((unhide hX).call hb).call hz)
  replace hrx := hide (((unhide hrx).call hb).call hz)
  replace hY := hide (((unhide hY).call hb).call hz)
  replace hry := hide (((unhide hry).call hb).call hz)
  replace D0 := hide (((unhide D0).call hb).call hz)
  replace D1 := hide (((unhide D1).call hb).call hz)
  have D2 := hide (Blk.new Y2 #[.int .i64 s1, .int .i64 s2, .int .i64 s3, .string s4] 28)
  clear hb hz
  have lt_ := (unhide hT).lt
  have t0 := (unhide hT).cell 0
  have t1 := (unhide hT).cell 1
  have t2 := (unhide hT).cell 2
  have t3 := (unhide hT).cell 3
  have t4 := (unhide hT).cell 4
  have t5 := (unhide hT).cell 5
  have t6 := (unhide hT).cell 6
  have t7 := (unhide hT).cell 7
  have t8 := (unhide hT).cell 8
  have t9 := (unhide hT).cell 9
  have t10 := (unhide hT).cell 10
  have t11 := (unhide hT).cell 11
  have lx_ := (unhide hY).lt
  have y0 := (unhide hY).cell 0
  have y1 := (unhide hY).cell 1
  have y2 := (unhide hY).cell 2
  have y3 := (unhide hY).cell 3
  have y4 := (unhide hY).cell 4
  have y5 := (unhide hY).cell 5
  have y6 := (unhide hY).cell 6
  simp at t0 t1 t2 t3 t4 t5 t6 t7 t8 t9 t10 t11 y0 y1 y2 y3 y4 y5 y6
  go_wp2_with fail
  generalize Y2.alloc (.cells #[.int .i64 s1, .int .i64 s2, .int .i64 s3, .string s4] 28) = Z2 at *
  generalize Y2.heap.size = d2 at *
  clear lt_ lx_ t0 t1 t2 t3 t4 t5 t6 t7 t8 t9 t10 t11 y0 y1 y2 y3 y4 y5 y6
  refine (unhide C4 _ (unhide hC) (unhide hRb).row (unhide hry)).mono ?_
  rintro e Y3 ⟨rfl, hb⟩
  have hz := below_new Y3 (.cells #[.int .i64 s1, .int .i64 s2, .int .i64 s3, .string s4] 28)
  replace G := hide (((unhide G).call hb).call hz)
  replace hC := hide (((unhide hC).call hb).call hz)
  replace hT := hide (((unhide hT).call hb).call hz)
  replace hRa := hide (((unhide hRa).call hb).call hz)
  replace hRb := hide (((unhide hRb).call hb).call hz)
  replace hX := hide (((unhide hX).call hb).call hz)
  replace hrx := hide (((unhide hrx).call hb).call hz)
  replace hY := hide (((unhide hY).call hb).call hz)
  replace hry := hide (((unhide hry).call hb).call hz)
  replace D0 := hide (((unhide D0).call hb).call hz)
  replace D1 := hide (((unhide D1).call hb).call hz)
  replace D2 := hide (((unhide D2).call hb).call hz)
  have D3 := hide (Blk.new Y3 #[.int .i64 s1, .int .i64 s2, .int .i64 s3, .string s4] 28)
  clear hb hz
  have lt_ := (unhide hT).lt
  have t0 := (unhide hT).cell 0
  have t1 := (unhide hT).cell 1
  have t2 := (unhide hT).cell 2
  have t3 := (unhide hT).cell 3
  have t4 := (unhide hT).cell 4
  have t5 := (unhide hT).cell 5
  have t6 := (unhide hT).cell 6
  have t7 := (unhide hT).cell 7
  have t8 := (unhide hT).cell 8
  have t9 := (unhide hT).cell 9
  have t10 := (unhide hT).cell 10
  have t11 := (unhide hT).cell 11
  have lx_ := (unhide hY).lt
  have y0 := (unhide hY).cell 0
  have y1 := (unhide hY).cell 1
  have y2 := (unhide hY).cell 2
  have y3 := (unhide hY).cell 3
  have y4 := (unhide hY).cell 4
  have y5 := (unhide hY).cell 5
  have y6 := (unhide hY).cell 6
  simp at t0 t1 t2 t3 t4 t5 t6 t7 t8 t9 t10 t11 y0 y1 y2 y3 y4 y5 y6
  go_wp2_with fail
  generalize Y3.alloc (.cells #[.int .i64 s1, .int .i64 s2, .int .i64 s3, .string s4] 28) = Z3 at *
  generalize Y3.heap.size = d3 at *
  clear lt_ lx_ t0 t1 t2 t3 t4 t5 t6 t7 t8 t9 t10 t11 y0 y1 y2 y3 y4 y5 y6
  refine (unhide C5 _ (unhide hC) (unhide hRa).row (unhide hry)).mono ?_
  rintro e Y4 ⟨rfl, hb⟩
  have hz := below_new Y4 (.cells #[.int .i64 s1, .int .i64 s2, .int .i64 s3, .string s4] 28)
  replace G := hide (((unhide G).call hb).call hz)
  replace hC := hide (((unhide hC).call hb).call hz)
  replace hT := hide (((unhide hT).call hb).call hz)
  replace hRa := hide (((unhide hRa).call hb).call hz)
  replace hRb := hide (((unhide hRb).call hb).call hz)
  replace hX := hide (((unhide hX).call hb).call hz)
  replace hrx := hide (((unhide hrx).call hb).call hz)
  replace hY := hide (((unhide hY).call hb).call hz)
  replace hry := hide (((unhide hry).call hb).call hz)
  replace D0 := hide (((unhide D0).call hb).call hz)
  replace D1 := hide (((unhide D1).call hb).call hz)
  replace D2 := hide (((unhide D2).call hb).call hz)
  replace D3 := hide (((unhide D3).call hb).call hz)
  have D4 := hide (Blk.new Y4 #[.int .i64 s1, .int .i64 s2, .int .i64 s3, .string s4] 28)
  clear hb hz
  have ld0 := (unhide D0).lt
  have w00 := (unhide D0).cell 0
  have w01 := (unhide D0).cell 1
  have w02 := (unhide D0).cell 2
  have w03 := (unhide D0).cell 3
  have ld1 := (unhide D1).lt
  have w10 := (unhide D1).cell 0
  have w11 := (unhide D1).cell 1
  have w12 := (unhide D1).cell 2
  have w13 := (unhide D1).cell 3
  have ld2 := (unhide D2).lt
  have w20 := (unhide D2).cell 0
  have w21 := (unhide D2).cell 1
  have w22 := (unhide D2).cell 2
  have w23 := (unhide D2).cell 3
  have ld3 := (unhide D3).lt
  have w30 := (unhide D3).cell 0
  have w31 := (unhide D3).cell 1
  have w32 := (unhide D3).cell 2
  have w33 := (unhide D3).cell 3
  have ld4 := (unhide D4).lt
  have w40 := (unhide D4).cell 0
  have w41 := (unhide D4).cell 1
  have w42 := (unhide D4).cell 2
  have w43 := (unhide D4).cell 3
  simp at w00 w01 w02 w03 w10 w11 w12 w13 w20 w21 w22 w23 w30 w31 w32 w33 w40 w41 w42 w43
  go_wp2_with fail
  go_ret
  exact ⟨by simp, unhide G⟩
end Go.Proofs.Ytliefgkhpgigaaa
