/-
  EvalLogic: the end.
-/
import Derived.Test.YtphnpcidndmlnaaEVC
namespace Go.Proofs.Ytphnpcidndmlnaa
open Go.RowKit
set_option linter.unusedSimpArgs false
set_option linter.unusedVariables false

set_option maxHeartbeats 32000000 in
set_option maxRecDepth 100000 in
theorem lgF {r0 r1 r2 r3 r4 r5 r6 rest : Code} (hc : Try.f4.body = some (.seq r0 (.seq r1 (.seq r2 (.seq r3 (.seq r4 (.seq r5 (.seq r6 (rest))))))))) (w : World) (p q m n : Int) (vp vq ra ro rx ry : V4) (hm : m = 0 ∨ m = 1 ∨ m = 2) (hn : n = 0 ∨ n = 1 ∨ n = 2) (HVP : Hid (vp = truthV m)) (HVQ : Hid (vq = truthV n)) (Hra : Hid (ra = aT vp vq)) (Hro : Hid (ro = oT vp vq)) (Hrx : Hid (rx = nT (oT (nT vp) (nT vq)))) (Hry : Hid (ry = nT (aT (nT vp) (nT vq)))) (CT0 : Hid (∀ W, Calls Try.prog 25 #[.int .i64 0] W fun e W' => e = .returned (.agg (vC (1, 1, 0, S0)).toArray) ∧ Below W.heap.size W W')) (CT1 : Hid (∀ W, Calls Try.prog 25 #[.int .i64 1] W fun e W' => e = .returned (.agg (vC (1, 0, 0, S0)).toArray) ∧ Below W.heap.size W W')) (CT2 : Hid (∀ W, Calls Try.prog 25 #[.int .i64 2] W fun e W' => e = .returned (.agg (vC Z4).toArray) ∧ Below W.heap.size W W')) (CWp : Hid (∀ W, Calls Try.prog 29 #[.int .i64 p, .int .i64 3] W fun e W' => e = .returned (.int .i64 m) ∧ W' = W)) (CWq : Hid (∀ W, Calls Try.prog 29 #[.int .i64 q, .int .i64 3] W fun e W' => e = .returned (.int .i64 n) ∧ W' = W)) (gc br bt bra bro brx bry : Nat) (ac : Act) (X : World) (ha : ac = ⟨#[.int .i64 p, .int .i64 q, ac.tmps.getD 2 undef, ac.tmps.getD 3 undef, ac.tmps.getD 4 undef, .pointer (some ⟨bt, 0, none⟩), .slice (some ⟨br, 0, none⟩) 4 4, .pointer (some ⟨bra, 0, none⟩), .int .i64 0, .pointer (some ⟨bro, 0, none⟩), .int .i64 0, .pointer (some ⟨brx, 0, none⟩), .int .i64 0, .pointer (some ⟨bry, 0, none⟩), .int .i64 0, ac.tmps.getD 15 undef, ac.tmps.getD 16 undef, ac.tmps.getD 17 undef, ac.tmps.getD 18 undef, ac.tmps.getD 19 undef, ac.tmps.getD 20 undef, ac.tmps.getD 21 undef, ac.tmps.getD 22 undef, ac.tmps.getD 23 undef, ac.tmps.getD 24 undef, ac.tmps.getD 25 undef, ac.tmps.getD 26 undef, ac.tmps.getD 27 undef, ac.tmps.getD 28 undef, ac.tmps.getD 29 undef, ac.tmps.getD 30 undef, ac.tmps.getD 31 undef, ac.tmps.getD 32 undef, ac.tmps.getD 33 undef, ac.tmps.getD 34 undef, ac.tmps.getD 35 undef, ac.tmps.getD 36 undef, ac.tmps.getD 37 undef, ac.tmps.getD 38 undef, ac.tmps.getD 39 undef, ac.tmps.getD 40 undef, ac.tmps.getD 41 undef, ac.tmps.getD 42 undef, ac.tmps.getD 43 undef, ac.tmps.getD 44 undef, ac.tmps.getD 45 undef, ac.tmps.getD 46 undef, ac.tmps.getD 47 undef, ac.tmps.getD 48 undef, ac.tmps.getD 49 undef, ac.tmps.getD 50 undef, ac.tmps.getD 51 undef, ac.tmps.getD 52 undef, ac.tmps.getD 53 undef, ac.tmps.getD 54 undef, ac.tmps.getD 55 undef, ac.tmps.getD 56 undef, ac.tmps.getD 57 undef, ac.tmps.getD 58 undef, ac.tmps.getD 59 undef, ac.tmps.getD 60 undef, ac.tmps.getD 61 undef, ac.tmps.getD 62 undef, ac.tmps.getD 63 undef, ac.tmps.getD 64 undef, ac.tmps.getD 65 undef, ac.tmps.getD 66 undef, ac.tmps.getD 67 undef, ac.tmps.getD 68 undef, ac.tmps.getD 69 undef, ac.tmps.getD 70 undef, ac.tmps.getD 71 undef, ac.tmps.getD 72 undef, ac.tmps.getD 73 undef, ac.tmps.getD 74 undef, ac.tmps.getD 75 undef, ac.tmps.getD 76 undef, ac.tmps.getD 77 undef, ac.tmps.getD 78 undef, ac.tmps.getD 79 undef, ac.tmps.getD 80 undef, ac.tmps.getD 81 undef, ac.tmps.getD 82 undef, ac.tmps.getD 83 undef, ac.tmps.getD 84 undef, ac.tmps.getD 85 undef, ac.tmps.getD 86 undef, ac.tmps.getD 87 undef, ac.tmps.getD 88 undef, ac.tmps.getD 89 undef, ac.tmps.getD 90 undef, ac.tmps.getD 91 undef, ac.tmps.getD 92 undef, ac.tmps.getD 93 undef, ac.tmps.getD 94 undef, ac.tmps.getD 95 undef, ac.tmps.getD 96 undef, ac.tmps.getD 97 undef, ac.tmps.getD 98 undef, ac.tmps.getD 99 undef, ac.tmps.getD 100 undef, ac.tmps.getD 101 undef, ac.tmps.getD 102 undef, ac.tmps.getD 103 undef, ac.tmps.getD 104 undef, ac.tmps.getD 105 undef, ac.tmps.getD 106 undef, ac.tmps.getD 107 undef, ac.tmps.getD 108 undef, ac.tmps.getD 109 undef, ac.tmps.getD 110 undef, ac.tmps.getD 111 undef, ac.tmps.getD 112 undef, ac.tmps.getD 113 undef, ac.tmps.getD 114 undef, ac.tmps.getD 115 undef, ac.tmps.getD 116 undef, ac.tmps.getD 117 undef, ac.tmps.getD 118 undef, ac.tmps.getD 119 undef, ac.tmps.getD 120 undef, ac.tmps.getD 121 undef, ac.tmps.getD 122 undef, ac.tmps.getD 123 undef, ac.tmps.getD 124 undef, ac.tmps.getD 125 undef, ac.tmps.getD 126 undef, ac.tmps.getD 127 undef, ac.tmps.getD 128 undef, ac.tmps.getD 129 undef, ac.tmps.getD 130 undef, ac.tmps.getD 131 undef, ac.tmps.getD 132 undef, ac.tmps.getD 133 undef, ac.tmps.getD 134 undef, ac.tmps.getD 135 undef, ac.tmps.getD 136 undef, ac.tmps.getD 137 undef, ac.tmps.getD 138 undef, ac.tmps.getD 139 undef, ac.tmps.getD 140 undef, ac.tmps.getD 141 undef], []⟩) (G : Hid (Grown w X)) (hC : Hid (ColsOf (.slice (some ⟨gc, 0, none⟩) 4 4) cols4 X)) (hR : Hid (RowOf (some ⟨br, 0, none⟩) [Z4, Z4, vp, vq] X)) (hT : Hid (Blk bt #[.string ⟨#[116]⟩, .slice (some ⟨gc, 0, none⟩) 4 4, .int .i64 0, N0, .int .i64 0, .string S0, .int .i64 0, .int .i64 0, .int .i64 0, .string S0, N0, N0] 34 X)) (hra : Hid (Blk bra #[.int .i64 ra.1, .int .i64 ra.2.1, .int .i64 ra.2.2.1, .string ra.2.2.2] 28 X)) (hro : Hid (Blk bro #[.int .i64 ro.1, .int .i64 ro.2.1, .int .i64 ro.2.2.1, .string ro.2.2.2] 28 X)) (hrx : Hid (Blk brx #[.int .i64 rx.1, .int .i64 rx.2.1, .int .i64 rx.2.2.1, .string rx.2.2.2] 28 X)) (hry : Hid (Blk bry #[.int .i64 ry.1, .int .i64 ry.2.1, .int .i64 ry.2.2.1, .string ry.2.2.2] 28 X)) : rest.wp Try.prog (bodyPost Try.prog Try.f4 (fun e w' => e = .returned (.bool true) ∧ Below w.heap.size w w')) ac X := by
  obtain ⟨u, rfl⟩ : ∃ u : Nat → Value, ac = ⟨#[.int .i64 p, .int .i64 q, u 2, u 3, u 4, .pointer (some ⟨bt, 0, none⟩), .slice (some ⟨br, 0, none⟩) 4 4, .pointer (some ⟨bra, 0, none⟩), .int .i64 0, .pointer (some ⟨bro, 0, none⟩), .int .i64 0, .pointer (some ⟨brx, 0, none⟩), .int .i64 0, .pointer (some ⟨bry, 0, none⟩), .int .i64 0, u 15, u 16, u 17, u 18, u 19, u 20, u 21, u 22, u 23, u 24, u 25, u 26, u 27, u 28, u 29, u 30, u 31, u 32, u 33, u 34, u 35, u 36, u 37, u 38, u 39, u 40, u 41, u 42, u 43, u 44, u 45, u 46, u 47, u 48, u 49, u 50, u 51, u 52, u 53, u 54, u 55, u 56, u 57, u 58, u 59, u 60, u 61, u 62, u 63, u 64, u 65, u 66, u 67, u 68, u 69, u 70, u 71, u 72, u 73, u 74, u 75, u 76, u 77, u 78, u 79, u 80, u 81, u 82, u 83, u 84, u 85, u 86, u 87, u 88, u 89, u 90, u 91, u 92, u 93, u 94, u 95, u 96, u 97, u 98, u 99, u 100, u 101, u 102, u 103, u 104, u 105, u 106, u 107, u 108, u 109, u 110, u 111, u 112, u 113, u 114, u 115, u 116, u 117, u 118, u 119, u 120, u 121, u 122, u 123, u 124, u 125, u 126, u 127, u 128, u 129, u 130, u 131, u 132, u 133, u 134, u 135, u 136, u 137, u 138, u 139, u 140, u 141], []⟩ := ⟨fun i => ac.tmps.getD i undef, ha⟩
  clear ha
  unfold Try.f4 at hc
  cases hc
  rcases hm with rfl | rfl | rfl
  · rcases hn with rfl | rfl | rfl
    · have era : ra = (1, 1, 0, S0) := by rw [Hra.out, HVP.out, HVQ.out]; decide +kernel
      subst era
      have ero : ro = (1, 1, 0, S0) := by rw [Hro.out, HVP.out, HVQ.out]; decide +kernel
      subst ero
      have erx : rx = (1, 1, 0, S0) := by rw [Hrx.out, HVP.out, HVQ.out]; decide +kernel
      subst erx
      have ery : ry = (1, 1, 0, S0) := by rw [Hry.out, HVP.out, HVQ.out]; decide +kernel
      subst ery
      go_wp2_with fail
      refine (unhide CWp _).mono ?_
      rintro e W1 ⟨rfl, rfl⟩
      go_wp2_with fail
      refine (unhide CWq _).mono ?_
      rintro e W1 ⟨rfl, rfl⟩
      go_wp2_with fail
      refine (unhide CT2 _).mono ?_
      rintro e Y1 ⟨rfl, hb⟩
      replace G := hide ((unhide G).call hb)
      replace hra := hide ((unhide hra).call hb)
      replace hro := hide ((unhide hro).call hb)
      replace hrx := hide ((unhide hrx).call hb)
      replace hry := hide ((unhide hry).call hb)
      clear hb
      go_wp2_with fail
      refine (unhide CT2 _).mono ?_
      rintro e Y2 ⟨rfl, hb⟩
      replace G := hide ((unhide G).call hb)
      replace hra := hide ((unhide hra).call hb)
      replace hro := hide ((unhide hro).call hb)
      replace hrx := hide ((unhide hrx).call hb)
      replace hry := hide ((unhide hry).call hb)
      clear hb
      have bw := (Blk.new Y2 (vC Z4).toArray 28).call (below_new _ (.cells (vC Z4).toArray 28))
      have bv := Blk.new (Y2.alloc (.cells (vC Z4).toArray 28)) (vC Z4).toArray 28
      rw [World.size_alloc] at bv
      have GD : Hid (Below Y2.heap.size Y2 ((Y2.alloc (.cells (vC Z4).toArray 28)).alloc (.cells (vC Z4).toArray 28))) := below_2 Y2 _ _
      replace bw := hide bw
      replace bv := hide bv
      have lra := (unhide hra).lt
      have nra0 : ¬ bra = Y2.heap.size := by omega
      have mra0 : ¬ Y2.heap.size = bra := by omega
      have nra1 : ¬ bra = Y2.heap.size + 1 := by omega
      have mra1 : ¬ Y2.heap.size + 1 = bra := by omega
      have lro := (unhide hro).lt
      have nro0 : ¬ bro = Y2.heap.size := by omega
      have mro0 : ¬ Y2.heap.size = bro := by omega
      have nro1 : ¬ bro = Y2.heap.size + 1 := by omega
      have mro1 : ¬ Y2.heap.size + 1 = bro := by omega
      have lrx := (unhide hrx).lt
      have nrx0 : ¬ brx = Y2.heap.size := by omega
      have mrx0 : ¬ Y2.heap.size = brx := by omega
      have nrx1 : ¬ brx = Y2.heap.size + 1 := by omega
      have mrx1 : ¬ Y2.heap.size + 1 = brx := by omega
      have lry := (unhide hry).lt
      have nry0 : ¬ bry = Y2.heap.size := by omega
      have mry0 : ¬ Y2.heap.size = bry := by omega
      have nry1 : ¬ bry = Y2.heap.size + 1 := by omega
      have mry1 : ¬ Y2.heap.size + 1 = bry := by omega
      go_wp2_with fail
      refine (unhide CT0 _).mono ?_
      rintro e Y3 ⟨rfl, hb⟩
      replace bw := hide ((unhide bw).call hb)
      replace bv := hide ((unhide bv).call hb)
      replace GD := hide ((unhide GD).trans (hb.mono (unhide GD).size))
      clear hb
      have GD2 : Hid (Below Y2.heap.size Y2 ((((Y3.setCell ⟨Y2.heap.size, 0, none⟩ (.int .i64 1)).setCell ⟨Y2.heap.size, 1, none⟩ (.int .i64 1)).setCell ⟨Y2.heap.size, 2, none⟩ (.int .i64 0)).setCell ⟨Y2.heap.size, 3, none⟩ (.string S0))) := hide (((((unhide GD).setCell (p := ⟨Y2.heap.size, 0, none⟩) (by simp) _).setCell (p := ⟨Y2.heap.size, 1, none⟩) (by simp) _).setCell (p := ⟨Y2.heap.size, 2, none⟩) (by simp) _).setCell (p := ⟨Y2.heap.size, 3, none⟩) (by simp) _)
      have kwlt := (unhide bw).lt
      have kw0 := (unhide bw).cell 0
      have kwf0 := (unhide bw).froz 0
      have kw1 := (unhide bw).cell 1
      have kwf1 := (unhide bw).froz 1
      have kw2 := (unhide bw).cell 2
      have kwf2 := (unhide bw).froz 2
      have kw3 := (unhide bw).cell 3
      have kwf3 := (unhide bw).froz 3
      simp at kw0 kw1 kw2 kw3
      go_wp2_with fail
      clear kwlt kw0 kwf0 kw1 kwf1 kw2 kwf2 kw3 kwf3
      have bw2 : Hid (Blk Y2.heap.size #[.int .i64 1, .int .i64 1, .int .i64 0, .string S0] 28 ((((Y3.setCell ⟨Y2.heap.size, 0, none⟩ (.int .i64 1)).setCell ⟨Y2.heap.size, 1, none⟩ (.int .i64 1)).setCell ⟨Y2.heap.size, 2, none⟩ (.int .i64 0)).setCell ⟨Y2.heap.size, 3, none⟩ (.string S0))) := hide (heapSet4 (unhide bw) _ _ _ _)
      have bv2 : Hid (Blk (Y2.heap.size + 1) (vC Z4).toArray 28 ((((Y3.setCell ⟨Y2.heap.size, 0, none⟩ (.int .i64 1)).setCell ⟨Y2.heap.size, 1, none⟩ (.int .i64 1)).setCell ⟨Y2.heap.size, 2, none⟩ (.int .i64 0)).setCell ⟨Y2.heap.size, 3, none⟩ (.string S0))) := hide (((((unhide bv).set (by omega) _ _).set (by omega) _ _).set (by omega) _ _).set (by omega) _ _)
      replace GD := GD2
      replace bw := bw2
      replace bv := bv2
      clear GD2 bw2 bv2
      refine (unhide CT0 _).mono ?_
      rintro e Y4 ⟨rfl, hb⟩
      replace bw := hide ((unhide bw).call hb)
      replace bv := hide ((unhide bv).call hb)
      replace GD := hide ((unhide GD).trans (hb.mono (unhide GD).size))
      clear hb
      have GD2 : Hid (Below Y2.heap.size Y2 ((((Y4.setCell ⟨(Y2.heap.size + 1), 0, none⟩ (.int .i64 1)).setCell ⟨(Y2.heap.size + 1), 1, none⟩ (.int .i64 1)).setCell ⟨(Y2.heap.size + 1), 2, none⟩ (.int .i64 0)).setCell ⟨(Y2.heap.size + 1), 3, none⟩ (.string S0))) := hide (((((unhide GD).setCell (p := ⟨(Y2.heap.size + 1), 0, none⟩) (by simp) _).setCell (p := ⟨(Y2.heap.size + 1), 1, none⟩) (by simp) _).setCell (p := ⟨(Y2.heap.size + 1), 2, none⟩) (by simp) _).setCell (p := ⟨(Y2.heap.size + 1), 3, none⟩) (by simp) _)
      have ira := (unhide hra).call (unhide GD)
      have jra := ira.lt
      have ira0 := ira.cell 0
      have ira1 := ira.cell 1
      have ira2 := ira.cell 2
      have ira3 := ira.cell 3
      simp at ira0 ira1 ira2 ira3
      clear ira
      have iro := (unhide hro).call (unhide GD)
      have jro := iro.lt
      have iro0 := iro.cell 0
      have iro1 := iro.cell 1
      have iro2 := iro.cell 2
      have iro3 := iro.cell 3
      simp at iro0 iro1 iro2 iro3
      clear iro
      have irx := (unhide hrx).call (unhide GD)
      have jrx := irx.lt
      have irx0 := irx.cell 0
      have irx1 := irx.cell 1
      have irx2 := irx.cell 2
      have irx3 := irx.cell 3
      simp at irx0 irx1 irx2 irx3
      clear irx
      have iry := (unhide hry).call (unhide GD)
      have jry := iry.lt
      have iry0 := iry.cell 0
      have iry1 := iry.cell 1
      have iry2 := iry.cell 2
      have iry3 := iry.cell 3
      simp at iry0 iry1 iry2 iry3
      clear iry
      have kwlt := (unhide bv).lt
      have kw0 := (unhide bv).cell 0
      have kwf0 := (unhide bv).froz 0
      have kw1 := (unhide bv).cell 1
      have kwf1 := (unhide bv).froz 1
      have kw2 := (unhide bv).cell 2
      have kwf2 := (unhide bv).froz 2
      have kw3 := (unhide bv).cell 3
      have kwf3 := (unhide bv).froz 3
      simp at kw0 kw1 kw2 kw3
      have kvlt := (unhide bw).lt
      have kv0 := (unhide bw).cell 0
      have kv1 := (unhide bw).cell 1
      have kv2 := (unhide bw).cell 2
      have kv3 := (unhide bw).cell 3
      simp at kv0 kv1 kv2 kv3
      go_wp2_with fail
      go_ret
      exact ⟨rfl, (unhide G).call (unhide GD2)⟩
    · have era : ra = (1, 0, 0, S0) := by rw [Hra.out, HVP.out, HVQ.out]; decide +kernel
      subst era
      have ero : ro = (1, 1, 0, S0) := by rw [Hro.out, HVP.out, HVQ.out]; decide +kernel
      subst ero
      have erx : rx = (1, 0, 0, S0) := by rw [Hrx.out, HVP.out, HVQ.out]; decide +kernel
      subst erx
      have ery : ry = (1, 1, 0, S0) := by rw [Hry.out, HVP.out, HVQ.out]; decide +kernel
      subst ery
      go_wp2_with fail
      refine (unhide CWp _).mono ?_
      rintro e W1 ⟨rfl, rfl⟩
      go_wp2_with fail
      refine (unhide CWq _).mono ?_
      rintro e W1 ⟨rfl, rfl⟩
      go_wp2_with fail
      refine (unhide CT2 _).mono ?_
      rintro e Y1 ⟨rfl, hb⟩
      replace G := hide ((unhide G).call hb)
      replace hra := hide ((unhide hra).call hb)
      replace hro := hide ((unhide hro).call hb)
      replace hrx := hide ((unhide hrx).call hb)
      replace hry := hide ((unhide hry).call hb)
      clear hb
      go_wp2_with fail
      refine (unhide CT2 _).mono ?_
      rintro e Y2 ⟨rfl, hb⟩
      replace G := hide ((unhide G).call hb)
      replace hra := hide ((unhide hra).call hb)
      replace hro := hide ((unhide hro).call hb)
      replace hrx := hide ((unhide hrx).call hb)
      replace hry := hide ((unhide hry).call hb)
      clear hb
      have bw := (Blk.new Y2 (vC Z4).toArray 28).call (below_new _ (.cells (vC Z4).toArray 28))
      have bv := Blk.new (Y2.alloc (.cells (vC Z4).toArray 28)) (vC Z4).toArray 28
      rw [World.size_alloc] at bv
      have GD : Hid (Below Y2.heap.size Y2 ((Y2.alloc (.cells (vC Z4).toArray 28)).alloc (.cells (vC Z4).toArray 28))) := below_2 Y2 _ _
      replace bw := hide bw
      replace bv := hide bv
      have lra := (unhide hra).lt
      have nra0 : ¬ bra = Y2.heap.size := by omega
      have mra0 : ¬ Y2.heap.size = bra := by omega
      have nra1 : ¬ bra = Y2.heap.size + 1 := by omega
      have mra1 : ¬ Y2.heap.size + 1 = bra := by omega
      have lro := (unhide hro).lt
      have nro0 : ¬ bro = Y2.heap.size := by omega
      have mro0 : ¬ Y2.heap.size = bro := by omega
      have nro1 : ¬ bro = Y2.heap.size + 1 := by omega
      have mro1 : ¬ Y2.heap.size + 1 = bro := by omega
      have lrx := (unhide hrx).lt
      have nrx0 : ¬ brx = Y2.heap.size := by omega
      have mrx0 : ¬ Y2.heap.size = brx := by omega
      have nrx1 : ¬ brx = Y2.heap.size + 1 := by omega
      have mrx1 : ¬ Y2.heap.size + 1 = brx := by omega
      have lry := (unhide hry).lt
      have nry0 : ¬ bry = Y2.heap.size := by omega
      have mry0 : ¬ Y2.heap.size = bry := by omega
      have nry1 : ¬ bry = Y2.heap.size + 1 := by omega
      have mry1 : ¬ Y2.heap.size + 1 = bry := by omega
      go_wp2_with fail
      refine (unhide CT1 _).mono ?_
      rintro e Y3 ⟨rfl, hb⟩
      replace bw := hide ((unhide bw).call hb)
      replace bv := hide ((unhide bv).call hb)
      replace GD := hide ((unhide GD).trans (hb.mono (unhide GD).size))
      clear hb
      have GD2 : Hid (Below Y2.heap.size Y2 ((((Y3.setCell ⟨Y2.heap.size, 0, none⟩ (.int .i64 1)).setCell ⟨Y2.heap.size, 1, none⟩ (.int .i64 0)).setCell ⟨Y2.heap.size, 2, none⟩ (.int .i64 0)).setCell ⟨Y2.heap.size, 3, none⟩ (.string S0))) := hide (((((unhide GD).setCell (p := ⟨Y2.heap.size, 0, none⟩) (by simp) _).setCell (p := ⟨Y2.heap.size, 1, none⟩) (by simp) _).setCell (p := ⟨Y2.heap.size, 2, none⟩) (by simp) _).setCell (p := ⟨Y2.heap.size, 3, none⟩) (by simp) _)
      have kwlt := (unhide bw).lt
      have kw0 := (unhide bw).cell 0
      have kwf0 := (unhide bw).froz 0
      have kw1 := (unhide bw).cell 1
      have kwf1 := (unhide bw).froz 1
      have kw2 := (unhide bw).cell 2
      have kwf2 := (unhide bw).froz 2
      have kw3 := (unhide bw).cell 3
      have kwf3 := (unhide bw).froz 3
      simp at kw0 kw1 kw2 kw3
      go_wp2_with fail
      clear kwlt kw0 kwf0 kw1 kwf1 kw2 kwf2 kw3 kwf3
      have bw2 : Hid (Blk Y2.heap.size #[.int .i64 1, .int .i64 0, .int .i64 0, .string S0] 28 ((((Y3.setCell ⟨Y2.heap.size, 0, none⟩ (.int .i64 1)).setCell ⟨Y2.heap.size, 1, none⟩ (.int .i64 0)).setCell ⟨Y2.heap.size, 2, none⟩ (.int .i64 0)).setCell ⟨Y2.heap.size, 3, none⟩ (.string S0))) := hide (heapSet4 (unhide bw) _ _ _ _)
      have bv2 : Hid (Blk (Y2.heap.size + 1) (vC Z4).toArray 28 ((((Y3.setCell ⟨Y2.heap.size, 0, none⟩ (.int .i64 1)).setCell ⟨Y2.heap.size, 1, none⟩ (.int .i64 0)).setCell ⟨Y2.heap.size, 2, none⟩ (.int .i64 0)).setCell ⟨Y2.heap.size, 3, none⟩ (.string S0))) := hide (((((unhide bv).set (by omega) _ _).set (by omega) _ _).set (by omega) _ _).set (by omega) _ _)
      replace GD := GD2
      replace bw := bw2
      replace bv := bv2
      clear GD2 bw2 bv2
      refine (unhide CT0 _).mono ?_
      rintro e Y4 ⟨rfl, hb⟩
      replace bw := hide ((unhide bw).call hb)
      replace bv := hide ((unhide bv).call hb)
      replace GD := hide ((unhide GD).trans (hb.mono (unhide GD).size))
      clear hb
      have GD2 : Hid (Below Y2.heap.size Y2 ((((Y4.setCell ⟨(Y2.heap.size + 1), 0, none⟩ (.int .i64 1)).setCell ⟨(Y2.heap.size + 1), 1, none⟩ (.int .i64 1)).setCell ⟨(Y2.heap.size + 1), 2, none⟩ (.int .i64 0)).setCell ⟨(Y2.heap.size + 1), 3, none⟩ (.string S0))) := hide (((((unhide GD).setCell (p := ⟨(Y2.heap.size + 1), 0, none⟩) (by simp) _).setCell (p := ⟨(Y2.heap.size + 1), 1, none⟩) (by simp) _).setCell (p := ⟨(Y2.heap.size + 1), 2, none⟩) (by simp) _).setCell (p := ⟨(Y2.heap.size + 1), 3, none⟩) (by simp) _)
      have ira := (unhide hra).call (unhide GD)
      have jra := ira.lt
      have ira0 := ira.cell 0
      have ira1 := ira.cell 1
      have ira2 := ira.cell 2
      have ira3 := ira.cell 3
      simp at ira0 ira1 ira2 ira3
      clear ira
      have iro := (unhide hro).call (unhide GD)
      have jro := iro.lt
      have iro0 := iro.cell 0
      have iro1 := iro.cell 1
      have iro2 := iro.cell 2
      have iro3 := iro.cell 3
      simp at iro0 iro1 iro2 iro3
      clear iro
      have irx := (unhide hrx).call (unhide GD)
      have jrx := irx.lt
      have irx0 := irx.cell 0
      have irx1 := irx.cell 1
      have irx2 := irx.cell 2
      have irx3 := irx.cell 3
      simp at irx0 irx1 irx2 irx3
      clear irx
      have iry := (unhide hry).call (unhide GD)
      have jry := iry.lt
      have iry0 := iry.cell 0
      have iry1 := iry.cell 1
      have iry2 := iry.cell 2
      have iry3 := iry.cell 3
      simp at iry0 iry1 iry2 iry3
      clear iry
      have kwlt := (unhide bv).lt
      have kw0 := (unhide bv).cell 0
      have kwf0 := (unhide bv).froz 0
      have kw1 := (unhide bv).cell 1
      have kwf1 := (unhide bv).froz 1
      have kw2 := (unhide bv).cell 2
      have kwf2 := (unhide bv).froz 2
      have kw3 := (unhide bv).cell 3
      have kwf3 := (unhide bv).froz 3
      simp at kw0 kw1 kw2 kw3
      have kvlt := (unhide bw).lt
      have kv0 := (unhide bw).cell 0
      have kv1 := (unhide bw).cell 1
      have kv2 := (unhide bw).cell 2
      have kv3 := (unhide bw).cell 3
      simp at kv0 kv1 kv2 kv3
      go_wp2_with fail
      go_ret
      exact ⟨rfl, (unhide G).call (unhide GD2)⟩
    · have era : ra = Z4 := by rw [Hra.out, HVP.out, HVQ.out]; decide +kernel
      subst era
      have ero : ro = (1, 1, 0, S0) := by rw [Hro.out, HVP.out, HVQ.out]; decide +kernel
      subst ero
      have erx : rx = Z4 := by rw [Hrx.out, HVP.out, HVQ.out]; decide +kernel
      subst erx
      have ery : ry = (1, 1, 0, S0) := by rw [Hry.out, HVP.out, HVQ.out]; decide +kernel
      subst ery
      go_wp2_with fail
      refine (unhide CWp _).mono ?_
      rintro e W1 ⟨rfl, rfl⟩
      go_wp2_with fail
      refine (unhide CWq _).mono ?_
      rintro e W1 ⟨rfl, rfl⟩
      go_wp2_with fail
      refine (unhide CT2 _).mono ?_
      rintro e Y1 ⟨rfl, hb⟩
      replace G := hide ((unhide G).call hb)
      replace hra := hide ((unhide hra).call hb)
      replace hro := hide ((unhide hro).call hb)
      replace hrx := hide ((unhide hrx).call hb)
      replace hry := hide ((unhide hry).call hb)
      clear hb
      go_wp2_with fail
      refine (unhide CT2 _).mono ?_
      rintro e Y2 ⟨rfl, hb⟩
      replace G := hide ((unhide G).call hb)
      replace hra := hide ((unhide hra).call hb)
      replace hro := hide ((unhide hro).call hb)
      replace hrx := hide ((unhide hrx).call hb)
      replace hry := hide ((unhide hry).call hb)
      clear hb
      have bw := (Blk.new Y2 (vC Z4).toArray 28).call (below_new _ (.cells (vC Z4).toArray 28))
      have bv := Blk.new (Y2.alloc (.cells (vC Z4).toArray 28)) (vC Z4).toArray 28
      rw [World.size_alloc] at bv
      have GD : Hid (Below Y2.heap.size Y2 ((Y2.alloc (.cells (vC Z4).toArray 28)).alloc (.cells (vC Z4).toArray 28))) := below_2 Y2 _ _
      replace bw := hide bw
      replace bv := hide bv
      have lra := (unhide hra).lt
      have nra0 : ¬ bra = Y2.heap.size := by omega
      have mra0 : ¬ Y2.heap.size = bra := by omega
      have nra1 : ¬ bra = Y2.heap.size + 1 := by omega
      have mra1 : ¬ Y2.heap.size + 1 = bra := by omega
      have lro := (unhide hro).lt
      have nro0 : ¬ bro = Y2.heap.size := by omega
      have mro0 : ¬ Y2.heap.size = bro := by omega
      have nro1 : ¬ bro = Y2.heap.size + 1 := by omega
      have mro1 : ¬ Y2.heap.size + 1 = bro := by omega
      have lrx := (unhide hrx).lt
      have nrx0 : ¬ brx = Y2.heap.size := by omega
      have mrx0 : ¬ Y2.heap.size = brx := by omega
      have nrx1 : ¬ brx = Y2.heap.size + 1 := by omega
      have mrx1 : ¬ Y2.heap.size + 1 = brx := by omega
      have lry := (unhide hry).lt
      have nry0 : ¬ bry = Y2.heap.size := by omega
      have mry0 : ¬ Y2.heap.size = bry := by omega
      have nry1 : ¬ bry = Y2.heap.size + 1 := by omega
      have mry1 : ¬ Y2.heap.size + 1 = bry := by omega
      go_wp2_with fail
      refine (unhide CT0 _).mono ?_
      rintro e Y3 ⟨rfl, hb⟩
      replace bw := hide ((unhide bw).call hb)
      replace bv := hide ((unhide bv).call hb)
      replace GD := hide ((unhide GD).trans (hb.mono (unhide GD).size))
      clear hb
      have GD2 : Hid (Below Y2.heap.size Y2 ((((Y3.setCell ⟨(Y2.heap.size + 1), 0, none⟩ (.int .i64 1)).setCell ⟨(Y2.heap.size + 1), 1, none⟩ (.int .i64 1)).setCell ⟨(Y2.heap.size + 1), 2, none⟩ (.int .i64 0)).setCell ⟨(Y2.heap.size + 1), 3, none⟩ (.string S0))) := hide (((((unhide GD).setCell (p := ⟨(Y2.heap.size + 1), 0, none⟩) (by simp) _).setCell (p := ⟨(Y2.heap.size + 1), 1, none⟩) (by simp) _).setCell (p := ⟨(Y2.heap.size + 1), 2, none⟩) (by simp) _).setCell (p := ⟨(Y2.heap.size + 1), 3, none⟩) (by simp) _)
      have ira := (unhide hra).call (unhide GD)
      have jra := ira.lt
      have ira0 := ira.cell 0
      have ira1 := ira.cell 1
      have ira2 := ira.cell 2
      have ira3 := ira.cell 3
      simp at ira0 ira1 ira2 ira3
      clear ira
      have iro := (unhide hro).call (unhide GD)
      have jro := iro.lt
      have iro0 := iro.cell 0
      have iro1 := iro.cell 1
      have iro2 := iro.cell 2
      have iro3 := iro.cell 3
      simp at iro0 iro1 iro2 iro3
      clear iro
      have irx := (unhide hrx).call (unhide GD)
      have jrx := irx.lt
      have irx0 := irx.cell 0
      have irx1 := irx.cell 1
      have irx2 := irx.cell 2
      have irx3 := irx.cell 3
      simp at irx0 irx1 irx2 irx3
      clear irx
      have iry := (unhide hry).call (unhide GD)
      have jry := iry.lt
      have iry0 := iry.cell 0
      have iry1 := iry.cell 1
      have iry2 := iry.cell 2
      have iry3 := iry.cell 3
      simp at iry0 iry1 iry2 iry3
      clear iry
      have kwlt := (unhide bv).lt
      have kw0 := (unhide bv).cell 0
      have kwf0 := (unhide bv).froz 0
      have kw1 := (unhide bv).cell 1
      have kwf1 := (unhide bv).froz 1
      have kw2 := (unhide bv).cell 2
      have kwf2 := (unhide bv).froz 2
      have kw3 := (unhide bv).cell 3
      have kwf3 := (unhide bv).froz 3
      simp at kw0 kw1 kw2 kw3
      have kvlt := (unhide bw).lt
      have kv0 := (unhide bw).cell 0
      have kv1 := (unhide bw).cell 1
      have kv2 := (unhide bw).cell 2
      have kv3 := (unhide bw).cell 3
      simp at kv0 kv1 kv2 kv3
      go_wp2_with fail
      go_ret
      exact ⟨rfl, (unhide G).call (unhide GD2)⟩
  · rcases hn with rfl | rfl | rfl
    · have era : ra = (1, 0, 0, S0) := by rw [Hra.out, HVP.out, HVQ.out]; decide +kernel
      subst era
      have ero : ro = (1, 1, 0, S0) := by rw [Hro.out, HVP.out, HVQ.out]; decide +kernel
      subst ero
      have erx : rx = (1, 0, 0, S0) := by rw [Hrx.out, HVP.out, HVQ.out]; decide +kernel
      subst erx
      have ery : ry = (1, 1, 0, S0) := by rw [Hry.out, HVP.out, HVQ.out]; decide +kernel
      subst ery
      go_wp2_with fail
      refine (unhide CWp _).mono ?_
      rintro e W1 ⟨rfl, rfl⟩
      go_wp2_with fail
      refine (unhide CWq _).mono ?_
      rintro e W1 ⟨rfl, rfl⟩
      go_wp2_with fail
      refine (unhide CT2 _).mono ?_
      rintro e Y1 ⟨rfl, hb⟩
      replace G := hide ((unhide G).call hb)
      replace hra := hide ((unhide hra).call hb)
      replace hro := hide ((unhide hro).call hb)
      replace hrx := hide ((unhide hrx).call hb)
      replace hry := hide ((unhide hry).call hb)
      clear hb
      go_wp2_with fail
      refine (unhide CT2 _).mono ?_
      rintro e Y2 ⟨rfl, hb⟩
      replace G := hide ((unhide G).call hb)
      replace hra := hide ((unhide hra).call hb)
      replace hro := hide ((unhide hro).call hb)
      replace hrx := hide ((unhide hrx).call hb)
      replace hry := hide ((unhide hry).call hb)
      clear hb
      have bw := (Blk.new Y2 (vC Z4).toArray 28).call (below_new _ (.cells (vC Z4).toArray 28))
      have bv := Blk.new (Y2.alloc (.cells (vC Z4).toArray 28)) (vC Z4).toArray 28
      rw [World.size_alloc] at bv
      have GD : Hid (Below Y2.heap.size Y2 ((Y2.alloc (.cells (vC Z4).toArray 28)).alloc (.cells (vC Z4).toArray 28))) := below_2 Y2 _ _
      replace bw := hide bw
      replace bv := hide bv
      have lra := (unhide hra).lt
      have nra0 : ¬ bra = Y2.heap.size := by omega
      have mra0 : ¬ Y2.heap.size = bra := by omega
      have nra1 : ¬ bra = Y2.heap.size + 1 := by omega
      have mra1 : ¬ Y2.heap.size + 1 = bra := by omega
      have lro := (unhide hro).lt
      have nro0 : ¬ bro = Y2.heap.size := by omega
      have mro0 : ¬ Y2.heap.size = bro := by omega
      have nro1 : ¬ bro = Y2.heap.size + 1 := by omega
      have mro1 : ¬ Y2.heap.size + 1 = bro := by omega
      have lrx := (unhide hrx).lt
      have nrx0 : ¬ brx = Y2.heap.size := by omega
      have mrx0 : ¬ Y2.heap.size = brx := by omega
      have nrx1 : ¬ brx = Y2.heap.size + 1 := by omega
      have mrx1 : ¬ Y2.heap.size + 1 = brx := by omega
      have lry := (unhide hry).lt
      have nry0 : ¬ bry = Y2.heap.size := by omega
      have mry0 : ¬ Y2.heap.size = bry := by omega
      have nry1 : ¬ bry = Y2.heap.size + 1 := by omega
      have mry1 : ¬ Y2.heap.size + 1 = bry := by omega
      go_wp2_with fail
      refine (unhide CT1 _).mono ?_
      rintro e Y3 ⟨rfl, hb⟩
      replace bw := hide ((unhide bw).call hb)
      replace bv := hide ((unhide bv).call hb)
      replace GD := hide ((unhide GD).trans (hb.mono (unhide GD).size))
      clear hb
      have GD2 : Hid (Below Y2.heap.size Y2 ((((Y3.setCell ⟨Y2.heap.size, 0, none⟩ (.int .i64 1)).setCell ⟨Y2.heap.size, 1, none⟩ (.int .i64 0)).setCell ⟨Y2.heap.size, 2, none⟩ (.int .i64 0)).setCell ⟨Y2.heap.size, 3, none⟩ (.string S0))) := hide (((((unhide GD).setCell (p := ⟨Y2.heap.size, 0, none⟩) (by simp) _).setCell (p := ⟨Y2.heap.size, 1, none⟩) (by simp) _).setCell (p := ⟨Y2.heap.size, 2, none⟩) (by simp) _).setCell (p := ⟨Y2.heap.size, 3, none⟩) (by simp) _)
      have kwlt := (unhide bw).lt
      have kw0 := (unhide bw).cell 0
      have kwf0 := (unhide bw).froz 0
      have kw1 := (unhide bw).cell 1
      have kwf1 := (unhide bw).froz 1
      have kw2 := (unhide bw).cell 2
      have kwf2 := (unhide bw).froz 2
      have kw3 := (unhide bw).cell 3
      have kwf3 := (unhide bw).froz 3
      simp at kw0 kw1 kw2 kw3
      go_wp2_with fail
      clear kwlt kw0 kwf0 kw1 kwf1 kw2 kwf2 kw3 kwf3
      have bw2 : Hid (Blk Y2.heap.size #[.int .i64 1, .int .i64 0, .int .i64 0, .string S0] 28 ((((Y3.setCell ⟨Y2.heap.size, 0, none⟩ (.int .i64 1)).setCell ⟨Y2.heap.size, 1, none⟩ (.int .i64 0)).setCell ⟨Y2.heap.size, 2, none⟩ (.int .i64 0)).setCell ⟨Y2.heap.size, 3, none⟩ (.string S0))) := hide (heapSet4 (unhide bw) _ _ _ _)
      have bv2 : Hid (Blk (Y2.heap.size + 1) (vC Z4).toArray 28 ((((Y3.setCell ⟨Y2.heap.size, 0, none⟩ (.int .i64 1)).setCell ⟨Y2.heap.size, 1, none⟩ (.int .i64 0)).setCell ⟨Y2.heap.size, 2, none⟩ (.int .i64 0)).setCell ⟨Y2.heap.size, 3, none⟩ (.string S0))) := hide (((((unhide bv).set (by omega) _ _).set (by omega) _ _).set (by omega) _ _).set (by omega) _ _)
      replace GD := GD2
      replace bw := bw2
      replace bv := bv2
      clear GD2 bw2 bv2
      refine (unhide CT0 _).mono ?_
      rintro e Y4 ⟨rfl, hb⟩
      replace bw := hide ((unhide bw).call hb)
      replace bv := hide ((unhide bv).call hb)
      replace GD := hide ((unhide GD).trans (hb.mono (unhide GD).size))
      clear hb
      have GD2 : Hid (Below Y2.heap.size Y2 ((((Y4.setCell ⟨(Y2.heap.size + 1), 0, none⟩ (.int .i64 1)).setCell ⟨(Y2.heap.size + 1), 1, none⟩ (.int .i64 1)).setCell ⟨(Y2.heap.size + 1), 2, none⟩ (.int .i64 0)).setCell ⟨(Y2.heap.size + 1), 3, none⟩ (.string S0))) := hide (((((unhide GD).setCell (p := ⟨(Y2.heap.size + 1), 0, none⟩) (by simp) _).setCell (p := ⟨(Y2.heap.size + 1), 1, none⟩) (by simp) _).setCell (p := ⟨(Y2.heap.size + 1), 2, none⟩) (by simp) _).setCell (p := ⟨(Y2.heap.size + 1), 3, none⟩) (by simp) _)
      have ira := (unhide hra).call (unhide GD)
      have jra := ira.lt
      have ira0 := ira.cell 0
      have ira1 := ira.cell 1
      have ira2 := ira.cell 2
      have ira3 := ira.cell 3
      simp at ira0 ira1 ira2 ira3
      clear ira
      have iro := (unhide hro).call (unhide GD)
      have jro := iro.lt
      have iro0 := iro.cell 0
      have iro1 := iro.cell 1
      have iro2 := iro.cell 2
      have iro3 := iro.cell 3
      simp at iro0 iro1 iro2 iro3
      clear iro
      have irx := (unhide hrx).call (unhide GD)
      have jrx := irx.lt
      have irx0 := irx.cell 0
      have irx1 := irx.cell 1
      have irx2 := irx.cell 2
      have irx3 := irx.cell 3
      simp at irx0 irx1 irx2 irx3
      clear irx
      have iry := (unhide hry).call (unhide GD)
      have jry := iry.lt
      have iry0 := iry.cell 0
      have iry1 := iry.cell 1
      have iry2 := iry.cell 2
      have iry3 := iry.cell 3
      simp at iry0 iry1 iry2 iry3
      clear iry
      have kwlt := (unhide bv).lt
      have kw0 := (unhide bv).cell 0
      have kwf0 := (unhide bv).froz 0
      have kw1 := (unhide bv).cell 1
      have kwf1 := (unhide bv).froz 1
      have kw2 := (unhide bv).cell 2
      have kwf2 := (unhide bv).froz 2
      have kw3 := (unhide bv).cell 3
      have kwf3 := (unhide bv).froz 3
      simp at kw0 kw1 kw2 kw3
      have kvlt := (unhide bw).lt
      have kv0 := (unhide bw).cell 0
      have kv1 := (unhide bw).cell 1
      have kv2 := (unhide bw).cell 2
      have kv3 := (unhide bw).cell 3
      simp at kv0 kv1 kv2 kv3
      go_wp2_with fail
      go_ret
      exact ⟨rfl, (unhide G).call (unhide GD2)⟩
    · have era : ra = (1, 0, 0, S0) := by rw [Hra.out, HVP.out, HVQ.out]; decide +kernel
      subst era
      have ero : ro = (1, 0, 0, S0) := by rw [Hro.out, HVP.out, HVQ.out]; decide +kernel
      subst ero
      have erx : rx = (1, 0, 0, S0) := by rw [Hrx.out, HVP.out, HVQ.out]; decide +kernel
      subst erx
      have ery : ry = (1, 0, 0, S0) := by rw [Hry.out, HVP.out, HVQ.out]; decide +kernel
      subst ery
      go_wp2_with fail
      refine (unhide CWp _).mono ?_
      rintro e W1 ⟨rfl, rfl⟩
      go_wp2_with fail
      refine (unhide CWq _).mono ?_
      rintro e W1 ⟨rfl, rfl⟩
      go_wp2_with fail
      refine (unhide CT2 _).mono ?_
      rintro e Y1 ⟨rfl, hb⟩
      replace G := hide ((unhide G).call hb)
      replace hra := hide ((unhide hra).call hb)
      replace hro := hide ((unhide hro).call hb)
      replace hrx := hide ((unhide hrx).call hb)
      replace hry := hide ((unhide hry).call hb)
      clear hb
      go_wp2_with fail
      refine (unhide CT2 _).mono ?_
      rintro e Y2 ⟨rfl, hb⟩
      replace G := hide ((unhide G).call hb)
      replace hra := hide ((unhide hra).call hb)
      replace hro := hide ((unhide hro).call hb)
      replace hrx := hide ((unhide hrx).call hb)
      replace hry := hide ((unhide hry).call hb)
      clear hb
      have bw := (Blk.new Y2 (vC Z4).toArray 28).call (below_new _ (.cells (vC Z4).toArray 28))
      have bv := Blk.new (Y2.alloc (.cells (vC Z4).toArray 28)) (vC Z4).toArray 28
      rw [World.size_alloc] at bv
      have GD : Hid (Below Y2.heap.size Y2 ((Y2.alloc (.cells (vC Z4).toArray 28)).alloc (.cells (vC Z4).toArray 28))) := below_2 Y2 _ _
      replace bw := hide bw
      replace bv := hide bv
      have lra := (unhide hra).lt
      have nra0 : ¬ bra = Y2.heap.size := by omega
      have mra0 : ¬ Y2.heap.size = bra := by omega
      have nra1 : ¬ bra = Y2.heap.size + 1 := by omega
      have mra1 : ¬ Y2.heap.size + 1 = bra := by omega
      have lro := (unhide hro).lt
      have nro0 : ¬ bro = Y2.heap.size := by omega
      have mro0 : ¬ Y2.heap.size = bro := by omega
      have nro1 : ¬ bro = Y2.heap.size + 1 := by omega
      have mro1 : ¬ Y2.heap.size + 1 = bro := by omega
      have lrx := (unhide hrx).lt
      have nrx0 : ¬ brx = Y2.heap.size := by omega
      have mrx0 : ¬ Y2.heap.size = brx := by omega
      have nrx1 : ¬ brx = Y2.heap.size + 1 := by omega
      have mrx1 : ¬ Y2.heap.size + 1 = brx := by omega
      have lry := (unhide hry).lt
      have nry0 : ¬ bry = Y2.heap.size := by omega
      have mry0 : ¬ Y2.heap.size = bry := by omega
      have nry1 : ¬ bry = Y2.heap.size + 1 := by omega
      have mry1 : ¬ Y2.heap.size + 1 = bry := by omega
      go_wp2_with fail
      refine (unhide CT1 _).mono ?_
      rintro e Y3 ⟨rfl, hb⟩
      replace bw := hide ((unhide bw).call hb)
      replace bv := hide ((unhide bv).call hb)
      replace GD := hide ((unhide GD).trans (hb.mono (unhide GD).size))
      clear hb
      have GD2 : Hid (Below Y2.heap.size Y2 ((((Y3.setCell ⟨Y2.heap.size, 0, none⟩ (.int .i64 1)).setCell ⟨Y2.heap.size, 1, none⟩ (.int .i64 0)).setCell ⟨Y2.heap.size, 2, none⟩ (.int .i64 0)).setCell ⟨Y2.heap.size, 3, none⟩ (.string S0))) := hide (((((unhide GD).setCell (p := ⟨Y2.heap.size, 0, none⟩) (by simp) _).setCell (p := ⟨Y2.heap.size, 1, none⟩) (by simp) _).setCell (p := ⟨Y2.heap.size, 2, none⟩) (by simp) _).setCell (p := ⟨Y2.heap.size, 3, none⟩) (by simp) _)
      have kwlt := (unhide bw).lt
      have kw0 := (unhide bw).cell 0
      have kwf0 := (unhide bw).froz 0
      have kw1 := (unhide bw).cell 1
      have kwf1 := (unhide bw).froz 1
      have kw2 := (unhide bw).cell 2
      have kwf2 := (unhide bw).froz 2
      have kw3 := (unhide bw).cell 3
      have kwf3 := (unhide bw).froz 3
      simp at kw0 kw1 kw2 kw3
      go_wp2_with fail
      clear kwlt kw0 kwf0 kw1 kwf1 kw2 kwf2 kw3 kwf3
      have bw2 : Hid (Blk Y2.heap.size #[.int .i64 1, .int .i64 0, .int .i64 0, .string S0] 28 ((((Y3.setCell ⟨Y2.heap.size, 0, none⟩ (.int .i64 1)).setCell ⟨Y2.heap.size, 1, none⟩ (.int .i64 0)).setCell ⟨Y2.heap.size, 2, none⟩ (.int .i64 0)).setCell ⟨Y2.heap.size, 3, none⟩ (.string S0))) := hide (heapSet4 (unhide bw) _ _ _ _)
      have bv2 : Hid (Blk (Y2.heap.size + 1) (vC Z4).toArray 28 ((((Y3.setCell ⟨Y2.heap.size, 0, none⟩ (.int .i64 1)).setCell ⟨Y2.heap.size, 1, none⟩ (.int .i64 0)).setCell ⟨Y2.heap.size, 2, none⟩ (.int .i64 0)).setCell ⟨Y2.heap.size, 3, none⟩ (.string S0))) := hide (((((unhide bv).set (by omega) _ _).set (by omega) _ _).set (by omega) _ _).set (by omega) _ _)
      replace GD := GD2
      replace bw := bw2
      replace bv := bv2
      clear GD2 bw2 bv2
      refine (unhide CT1 _).mono ?_
      rintro e Y4 ⟨rfl, hb⟩
      replace bw := hide ((unhide bw).call hb)
      replace bv := hide ((unhide bv).call hb)
      replace GD := hide ((unhide GD).trans (hb.mono (unhide GD).size))
      clear hb
      have GD2 : Hid (Below Y2.heap.size Y2 ((((Y4.setCell ⟨(Y2.heap.size + 1), 0, none⟩ (.int .i64 1)).setCell ⟨(Y2.heap.size + 1), 1, none⟩ (.int .i64 0)).setCell ⟨(Y2.heap.size + 1), 2, none⟩ (.int .i64 0)).setCell ⟨(Y2.heap.size + 1), 3, none⟩ (.string S0))) := hide (((((unhide GD).setCell (p := ⟨(Y2.heap.size + 1), 0, none⟩) (by simp) _).setCell (p := ⟨(Y2.heap.size + 1), 1, none⟩) (by simp) _).setCell (p := ⟨(Y2.heap.size + 1), 2, none⟩) (by simp) _).setCell (p := ⟨(Y2.heap.size + 1), 3, none⟩) (by simp) _)
      have ira := (unhide hra).call (unhide GD)
      have jra := ira.lt
      have ira0 := ira.cell 0
      have ira1 := ira.cell 1
      have ira2 := ira.cell 2
      have ira3 := ira.cell 3
      simp at ira0 ira1 ira2 ira3
      clear ira
      have iro := (unhide hro).call (unhide GD)
      have jro := iro.lt
      have iro0 := iro.cell 0
      have iro1 := iro.cell 1
      have iro2 := iro.cell 2
      have iro3 := iro.cell 3
      simp at iro0 iro1 iro2 iro3
      clear iro
      have irx := (unhide hrx).call (unhide GD)
      have jrx := irx.lt
      have irx0 := irx.cell 0
      have irx1 := irx.cell 1
      have irx2 := irx.cell 2
      have irx3 := irx.cell 3
      simp at irx0 irx1 irx2 irx3
      clear irx
      have iry := (unhide hry).call (unhide GD)
      have jry := iry.lt
      have iry0 := iry.cell 0
      have iry1 := iry.cell 1
      have iry2 := iry.cell 2
      have iry3 := iry.cell 3
      simp at iry0 iry1 iry2 iry3
      clear iry
      have kwlt := (unhide bv).lt
      have kw0 := (unhide bv).cell 0
      have kwf0 := (unhide bv).froz 0
      have kw1 := (unhide bv).cell 1
      have kwf1 := (unhide bv).froz 1
      have kw2 := (unhide bv).cell 2
      have kwf2 := (unhide bv).froz 2
      have kw3 := (unhide bv).cell 3
      have kwf3 := (unhide bv).froz 3
      simp at kw0 kw1 kw2 kw3
      have kvlt := (unhide bw).lt
      have kv0 := (unhide bw).cell 0
      have kv1 := (unhide bw).cell 1
      have kv2 := (unhide bw).cell 2
      have kv3 := (unhide bw).cell 3
      simp at kv0 kv1 kv2 kv3
      go_wp2_with fail
      go_ret
      exact ⟨rfl, (unhide G).call (unhide GD2)⟩
    · have era : ra = (1, 0, 0, S0) := by rw [Hra.out, HVP.out, HVQ.out]; decide +kernel
      subst era
      have ero : ro = Z4 := by rw [Hro.out, HVP.out, HVQ.out]; decide +kernel
      subst ero
      have erx : rx = (1, 0, 0, S0) := by rw [Hrx.out, HVP.out, HVQ.out]; decide +kernel
      subst erx
      have ery : ry = Z4 := by rw [Hry.out, HVP.out, HVQ.out]; decide +kernel
      subst ery
      go_wp2_with fail
      refine (unhide CWp _).mono ?_
      rintro e W1 ⟨rfl, rfl⟩
      go_wp2_with fail
      refine (unhide CWq _).mono ?_
      rintro e W1 ⟨rfl, rfl⟩
      go_wp2_with fail
      refine (unhide CT2 _).mono ?_
      rintro e Y1 ⟨rfl, hb⟩
      replace G := hide ((unhide G).call hb)
      replace hra := hide ((unhide hra).call hb)
      replace hro := hide ((unhide hro).call hb)
      replace hrx := hide ((unhide hrx).call hb)
      replace hry := hide ((unhide hry).call hb)
      clear hb
      go_wp2_with fail
      refine (unhide CT2 _).mono ?_
      rintro e Y2 ⟨rfl, hb⟩
      replace G := hide ((unhide G).call hb)
      replace hra := hide ((unhide hra).call hb)
      replace hro := hide ((unhide hro).call hb)
      replace hrx := hide ((unhide hrx).call hb)
      replace hry := hide ((unhide hry).call hb)
      clear hb
      have bw := (Blk.new Y2 (vC Z4).toArray 28).call (below_new _ (.cells (vC Z4).toArray 28))
      have bv := Blk.new (Y2.alloc (.cells (vC Z4).toArray 28)) (vC Z4).toArray 28
      rw [World.size_alloc] at bv
      have GD : Hid (Below Y2.heap.size Y2 ((Y2.alloc (.cells (vC Z4).toArray 28)).alloc (.cells (vC Z4).toArray 28))) := below_2 Y2 _ _
      replace bw := hide bw
      replace bv := hide bv
      have lra := (unhide hra).lt
      have nra0 : ¬ bra = Y2.heap.size := by omega
      have mra0 : ¬ Y2.heap.size = bra := by omega
      have nra1 : ¬ bra = Y2.heap.size + 1 := by omega
      have mra1 : ¬ Y2.heap.size + 1 = bra := by omega
      have lro := (unhide hro).lt
      have nro0 : ¬ bro = Y2.heap.size := by omega
      have mro0 : ¬ Y2.heap.size = bro := by omega
      have nro1 : ¬ bro = Y2.heap.size + 1 := by omega
      have mro1 : ¬ Y2.heap.size + 1 = bro := by omega
      have lrx := (unhide hrx).lt
      have nrx0 : ¬ brx = Y2.heap.size := by omega
      have mrx0 : ¬ Y2.heap.size = brx := by omega
      have nrx1 : ¬ brx = Y2.heap.size + 1 := by omega
      have mrx1 : ¬ Y2.heap.size + 1 = brx := by omega
      have lry := (unhide hry).lt
      have nry0 : ¬ bry = Y2.heap.size := by omega
      have mry0 : ¬ Y2.heap.size = bry := by omega
      have nry1 : ¬ bry = Y2.heap.size + 1 := by omega
      have mry1 : ¬ Y2.heap.size + 1 = bry := by omega
      go_wp2_with fail
      refine (unhide CT1 _).mono ?_
      rintro e Y3 ⟨rfl, hb⟩
      replace bw := hide ((unhide bw).call hb)
      replace bv := hide ((unhide bv).call hb)
      replace GD := hide ((unhide GD).trans (hb.mono (unhide GD).size))
      clear hb
      have GD2 : Hid (Below Y2.heap.size Y2 ((((Y3.setCell ⟨Y2.heap.size, 0, none⟩ (.int .i64 1)).setCell ⟨Y2.heap.size, 1, none⟩ (.int .i64 0)).setCell ⟨Y2.heap.size, 2, none⟩ (.int .i64 0)).setCell ⟨Y2.heap.size, 3, none⟩ (.string S0))) := hide (((((unhide GD).setCell (p := ⟨Y2.heap.size, 0, none⟩) (by simp) _).setCell (p := ⟨Y2.heap.size, 1, none⟩) (by simp) _).setCell (p := ⟨Y2.heap.size, 2, none⟩) (by simp) _).setCell (p := ⟨Y2.heap.size, 3, none⟩) (by simp) _)
      have ira := (unhide hra).call (unhide GD)
      have jra := ira.lt
      have ira0 := ira.cell 0
      have ira1 := ira.cell 1
      have ira2 := ira.cell 2
      have ira3 := ira.cell 3
      simp at ira0 ira1 ira2 ira3
      clear ira
      have iro := (unhide hro).call (unhide GD)
      have jro := iro.lt
      have iro0 := iro.cell 0
      have iro1 := iro.cell 1
      have iro2 := iro.cell 2
      have iro3 := iro.cell 3
      simp at iro0 iro1 iro2 iro3
      clear iro
      have irx := (unhide hrx).call (unhide GD)
      have jrx := irx.lt
      have irx0 := irx.cell 0
      have irx1 := irx.cell 1
      have irx2 := irx.cell 2
      have irx3 := irx.cell 3
      simp at irx0 irx1 irx2 irx3
      clear irx
      have iry := (unhide hry).call (unhide GD)
      have jry := iry.lt
      have iry0 := iry.cell 0
      have iry1 := iry.cell 1
      have iry2 := iry.cell 2
      have iry3 := iry.cell 3
      simp at iry0 iry1 iry2 iry3
      clear iry
      have kwlt := (unhide bw).lt
      have kw0 := (unhide bw).cell 0
      have kwf0 := (unhide bw).froz 0
      have kw1 := (unhide bw).cell 1
      have kwf1 := (unhide bw).froz 1
      have kw2 := (unhide bw).cell 2
      have kwf2 := (unhide bw).froz 2
      have kw3 := (unhide bw).cell 3
      have kwf3 := (unhide bw).froz 3
      simp at kw0 kw1 kw2 kw3
      have kvlt := (unhide bv).lt
      have kv0 := (unhide bv).cell 0
      have kv1 := (unhide bv).cell 1
      have kv2 := (unhide bv).cell 2
      have kv3 := (unhide bv).cell 3
      simp at kv0 kv1 kv2 kv3
      go_wp2_with fail
      go_ret
      exact ⟨rfl, (unhide G).call (unhide GD2)⟩
  · rcases hn with rfl | rfl | rfl
    · have era : ra = Z4 := by rw [Hra.out, HVP.out, HVQ.out]; decide +kernel
      subst era
      have ero : ro = (1, 1, 0, S0) := by rw [Hro.out, HVP.out, HVQ.out]; decide +kernel
      subst ero
      have erx : rx = Z4 := by rw [Hrx.out, HVP.out, HVQ.out]; decide +kernel
      subst erx
      have ery : ry = (1, 1, 0, S0) := by rw [Hry.out, HVP.out, HVQ.out]; decide +kernel
      subst ery
      go_wp2_with fail
      refine (unhide CWp _).mono ?_
      rintro e W1 ⟨rfl, rfl⟩
      go_wp2_with fail
      refine (unhide CWq _).mono ?_
      rintro e W1 ⟨rfl, rfl⟩
      go_wp2_with fail
      refine (unhide CT2 _).mono ?_
      rintro e Y1 ⟨rfl, hb⟩
      replace G := hide ((unhide G).call hb)
      replace hra := hide ((unhide hra).call hb)
      replace hro := hide ((unhide hro).call hb)
      replace hrx := hide ((unhide hrx).call hb)
      replace hry := hide ((unhide hry).call hb)
      clear hb
      go_wp2_with fail
      refine (unhide CT2 _).mono ?_
      rintro e Y2 ⟨rfl, hb⟩
      replace G := hide ((unhide G).call hb)
      replace hra := hide ((unhide hra).call hb)
      replace hro := hide ((unhide hro).call hb)
      replace hrx := hide ((unhide hrx).call hb)
      replace hry := hide ((unhide hry).call hb)
      clear hb
      have bw := (Blk.new Y2 (vC Z4).toArray 28).call (below_new _ (.cells (vC Z4).toArray 28))
      have bv := Blk.new (Y2.alloc (.cells (vC Z4).toArray 28)) (vC Z4).toArray 28
      rw [World.size_alloc] at bv
      have GD : Hid (Below Y2.heap.size Y2 ((Y2.alloc (.cells (vC Z4).toArray 28)).alloc (.cells (vC Z4).toArray 28))) := below_2 Y2 _ _
      replace bw := hide bw
      replace bv := hide bv
      have lra := (unhide hra).lt
      have nra0 : ¬ bra = Y2.heap.size := by omega
      have mra0 : ¬ Y2.heap.size = bra := by omega
      have nra1 : ¬ bra = Y2.heap.size + 1 := by omega
      have mra1 : ¬ Y2.heap.size + 1 = bra := by omega
      have lro := (unhide hro).lt
      have nro0 : ¬ bro = Y2.heap.size := by omega
      have mro0 : ¬ Y2.heap.size = bro := by omega
      have nro1 : ¬ bro = Y2.heap.size + 1 := by omega
      have mro1 : ¬ Y2.heap.size + 1 = bro := by omega
      have lrx := (unhide hrx).lt
      have nrx0 : ¬ brx = Y2.heap.size := by omega
      have mrx0 : ¬ Y2.heap.size = brx := by omega
      have nrx1 : ¬ brx = Y2.heap.size + 1 := by omega
      have mrx1 : ¬ Y2.heap.size + 1 = brx := by omega
      have lry := (unhide hry).lt
      have nry0 : ¬ bry = Y2.heap.size := by omega
      have mry0 : ¬ Y2.heap.size = bry := by omega
      have nry1 : ¬ bry = Y2.heap.size + 1 := by omega
      have mry1 : ¬ Y2.heap.size + 1 = bry := by omega
      go_wp2_with fail
      refine (unhide CT0 _).mono ?_
      rintro e Y3 ⟨rfl, hb⟩
      replace bw := hide ((unhide bw).call hb)
      replace bv := hide ((unhide bv).call hb)
      replace GD := hide ((unhide GD).trans (hb.mono (unhide GD).size))
      clear hb
      have GD2 : Hid (Below Y2.heap.size Y2 ((((Y3.setCell ⟨(Y2.heap.size + 1), 0, none⟩ (.int .i64 1)).setCell ⟨(Y2.heap.size + 1), 1, none⟩ (.int .i64 1)).setCell ⟨(Y2.heap.size + 1), 2, none⟩ (.int .i64 0)).setCell ⟨(Y2.heap.size + 1), 3, none⟩ (.string S0))) := hide (((((unhide GD).setCell (p := ⟨(Y2.heap.size + 1), 0, none⟩) (by simp) _).setCell (p := ⟨(Y2.heap.size + 1), 1, none⟩) (by simp) _).setCell (p := ⟨(Y2.heap.size + 1), 2, none⟩) (by simp) _).setCell (p := ⟨(Y2.heap.size + 1), 3, none⟩) (by simp) _)
      have ira := (unhide hra).call (unhide GD)
      have jra := ira.lt
      have ira0 := ira.cell 0
      have ira1 := ira.cell 1
      have ira2 := ira.cell 2
      have ira3 := ira.cell 3
      simp at ira0 ira1 ira2 ira3
      clear ira
      have iro := (unhide hro).call (unhide GD)
      have jro := iro.lt
      have iro0 := iro.cell 0
      have iro1 := iro.cell 1
      have iro2 := iro.cell 2
      have iro3 := iro.cell 3
      simp at iro0 iro1 iro2 iro3
      clear iro
      have irx := (unhide hrx).call (unhide GD)
      have jrx := irx.lt
      have irx0 := irx.cell 0
      have irx1 := irx.cell 1
      have irx2 := irx.cell 2
      have irx3 := irx.cell 3
      simp at irx0 irx1 irx2 irx3
      clear irx
      have iry := (unhide hry).call (unhide GD)
      have jry := iry.lt
      have iry0 := iry.cell 0
      have iry1 := iry.cell 1
      have iry2 := iry.cell 2
      have iry3 := iry.cell 3
      simp at iry0 iry1 iry2 iry3
      clear iry
      have kwlt := (unhide bv).lt
      have kw0 := (unhide bv).cell 0
      have kwf0 := (unhide bv).froz 0
      have kw1 := (unhide bv).cell 1
      have kwf1 := (unhide bv).froz 1
      have kw2 := (unhide bv).cell 2
      have kwf2 := (unhide bv).froz 2
      have kw3 := (unhide bv).cell 3
      have kwf3 := (unhide bv).froz 3
      simp at kw0 kw1 kw2 kw3
      have kvlt := (unhide bw).lt
      have kv0 := (unhide bw).cell 0
      have kv1 := (unhide bw).cell 1
      have kv2 := (unhide bw).cell 2
      have kv3 := (unhide bw).cell 3
      simp at kv0 kv1 kv2 kv3
      go_wp2_with fail
      go_ret
      exact ⟨rfl, (unhide G).call (unhide GD2)⟩
    · have era : ra = (1, 0, 0, S0) := by rw [Hra.out, HVP.out, HVQ.out]; decide +kernel
      subst era
      have ero : ro = Z4 := by rw [Hro.out, HVP.out, HVQ.out]; decide +kernel
      subst ero
      have erx : rx = (1, 0, 0, S0) := by rw [Hrx.out, HVP.out, HVQ.out]; decide +kernel
      subst erx
      have ery : ry = Z4 := by rw [Hry.out, HVP.out, HVQ.out]; decide +kernel
      subst ery
      go_wp2_with fail
      refine (unhide CWp _).mono ?_
      rintro e W1 ⟨rfl, rfl⟩
      go_wp2_with fail
      refine (unhide CWq _).mono ?_
      rintro e W1 ⟨rfl, rfl⟩
      go_wp2_with fail
      refine (unhide CT2 _).mono ?_
      rintro e Y1 ⟨rfl, hb⟩
      replace G := hide ((unhide G).call hb)
      replace hra := hide ((unhide hra).call hb)
      replace hro := hide ((unhide hro).call hb)
      replace hrx := hide ((unhide hrx).call hb)
      replace hry := hide ((unhide hry).call hb)
      clear hb
      go_wp2_with fail
      refine (unhide CT2 _).mono ?_
      rintro e Y2 ⟨rfl, hb⟩
      replace G := hide ((unhide G).call hb)
      replace hra := hide ((unhide hra).call hb)
      replace hro := hide ((unhide hro).call hb)
      replace hrx := hide ((unhide hrx).call hb)
      replace hry := hide ((unhide hry).call hb)
      clear hb
      have bw := (Blk.new Y2 (vC Z4).toArray 28).call (below_new _ (.cells (vC Z4).toArray 28))
      have bv := Blk.new (Y2.alloc (.cells (vC Z4).toArray 28)) (vC Z4).toArray 28
      rw [World.size_alloc] at bv
      have GD : Hid (Below Y2.heap.size Y2 ((Y2.alloc (.cells (vC Z4).toArray 28)).alloc (.cells (vC Z4).toArray 28))) := below_2 Y2 _ _
      replace bw := hide bw
      replace bv := hide bv
      have lra := (unhide hra).lt
      have nra0 : ¬ bra = Y2.heap.size := by omega
      have mra0 : ¬ Y2.heap.size = bra := by omega
      have nra1 : ¬ bra = Y2.heap.size + 1 := by omega
      have mra1 : ¬ Y2.heap.size + 1 = bra := by omega
      have lro := (unhide hro).lt
      have nro0 : ¬ bro = Y2.heap.size := by omega
      have mro0 : ¬ Y2.heap.size = bro := by omega
      have nro1 : ¬ bro = Y2.heap.size + 1 := by omega
      have mro1 : ¬ Y2.heap.size + 1 = bro := by omega
      have lrx := (unhide hrx).lt
      have nrx0 : ¬ brx = Y2.heap.size := by omega
      have mrx0 : ¬ Y2.heap.size = brx := by omega
      have nrx1 : ¬ brx = Y2.heap.size + 1 := by omega
      have mrx1 : ¬ Y2.heap.size + 1 = brx := by omega
      have lry := (unhide hry).lt
      have nry0 : ¬ bry = Y2.heap.size := by omega
      have mry0 : ¬ Y2.heap.size = bry := by omega
      have nry1 : ¬ bry = Y2.heap.size + 1 := by omega
      have mry1 : ¬ Y2.heap.size + 1 = bry := by omega
      go_wp2_with fail
      refine (unhide CT1 _).mono ?_
      rintro e Y3 ⟨rfl, hb⟩
      replace bw := hide ((unhide bw).call hb)
      replace bv := hide ((unhide bv).call hb)
      replace GD := hide ((unhide GD).trans (hb.mono (unhide GD).size))
      clear hb
      have GD2 : Hid (Below Y2.heap.size Y2 ((((Y3.setCell ⟨Y2.heap.size, 0, none⟩ (.int .i64 1)).setCell ⟨Y2.heap.size, 1, none⟩ (.int .i64 0)).setCell ⟨Y2.heap.size, 2, none⟩ (.int .i64 0)).setCell ⟨Y2.heap.size, 3, none⟩ (.string S0))) := hide (((((unhide GD).setCell (p := ⟨Y2.heap.size, 0, none⟩) (by simp) _).setCell (p := ⟨Y2.heap.size, 1, none⟩) (by simp) _).setCell (p := ⟨Y2.heap.size, 2, none⟩) (by simp) _).setCell (p := ⟨Y2.heap.size, 3, none⟩) (by simp) _)
      have ira := (unhide hra).call (unhide GD)
      have jra := ira.lt
      have ira0 := ira.cell 0
      have ira1 := ira.cell 1
      have ira2 := ira.cell 2
      have ira3 := ira.cell 3
      simp at ira0 ira1 ira2 ira3
      clear ira
      have iro := (unhide hro).call (unhide GD)
      have jro := iro.lt
      have iro0 := iro.cell 0
      have iro1 := iro.cell 1
      have iro2 := iro.cell 2
      have iro3 := iro.cell 3
      simp at iro0 iro1 iro2 iro3
      clear iro
      have irx := (unhide hrx).call (unhide GD)
      have jrx := irx.lt
      have irx0 := irx.cell 0
      have irx1 := irx.cell 1
      have irx2 := irx.cell 2
      have irx3 := irx.cell 3
      simp at irx0 irx1 irx2 irx3
      clear irx
      have iry := (unhide hry).call (unhide GD)
      have jry := iry.lt
      have iry0 := iry.cell 0
      have iry1 := iry.cell 1
      have iry2 := iry.cell 2
      have iry3 := iry.cell 3
      simp at iry0 iry1 iry2 iry3
      clear iry
      have kwlt := (unhide bw).lt
      have kw0 := (unhide bw).cell 0
      have kwf0 := (unhide bw).froz 0
      have kw1 := (unhide bw).cell 1
      have kwf1 := (unhide bw).froz 1
      have kw2 := (unhide bw).cell 2
      have kwf2 := (unhide bw).froz 2
      have kw3 := (unhide bw).cell 3
      have kwf3 := (unhide bw).froz 3
      simp at kw0 kw1 kw2 kw3
      have kvlt := (unhide bv).lt
      have kv0 := (unhide bv).cell 0
      have kv1 := (unhide bv).cell 1
      have kv2 := (unhide bv).cell 2
      have kv3 := (unhide bv).cell 3
      simp at kv0 kv1 kv2 kv3
      go_wp2_with fail
      go_ret
      exact ⟨rfl, (unhide G).call (unhide GD2)⟩
    · have era : ra = Z4 := by rw [Hra.out, HVP.out, HVQ.out]; decide +kernel
      subst era
      have ero : ro = Z4 := by rw [Hro.out, HVP.out, HVQ.out]; decide +kernel
      subst ero
      have erx : rx = Z4 := by rw [Hrx.out, HVP.out, HVQ.out]; decide +kernel
      subst erx
      have ery : ry = Z4 := by rw [Hry.out, HVP.out, HVQ.out]; decide +kernel
      subst ery
      go_wp2_with fail
      refine (unhide CWp _).mono ?_
      rintro e W1 ⟨rfl, rfl⟩
      go_wp2_with fail
      refine (unhide CWq _).mono ?_
      rintro e W1 ⟨rfl, rfl⟩
      go_wp2_with fail
      refine (unhide CT2 _).mono ?_
      rintro e Y1 ⟨rfl, hb⟩
      replace G := hide ((unhide G).call hb)
      replace hra := hide ((unhide hra).call hb)
      replace hro := hide ((unhide hro).call hb)
      replace hrx := hide ((unhide hrx).call hb)
      replace hry := hide ((unhide hry).call hb)
      clear hb
      go_wp2_with fail
      refine (unhide CT2 _).mono ?_
      rintro e Y2 ⟨rfl, hb⟩
      replace G := hide ((unhide G).call hb)
      replace hra := hide ((unhide hra).call hb)
      replace hro := hide ((unhide hro).call hb)
      replace hrx := hide ((unhide hrx).call hb)
      replace hry := hide ((unhide hry).call hb)
      clear hb
      have bw := (Blk.new Y2 (vC Z4).toArray 28).call (below_new _ (.cells (vC Z4).toArray 28))
      have bv := Blk.new (Y2.alloc (.cells (vC Z4).toArray 28)) (vC Z4).toArray 28
      rw [World.size_alloc] at bv
      have GD : Hid (Below Y2.heap.size Y2 ((Y2.alloc (.cells (vC Z4).toArray 28)).alloc (.cells (vC Z4).toArray 28))) := below_2 Y2 _ _
      replace bw := hide bw
      replace bv := hide bv
      have lra := (unhide hra).lt
      have nra0 : ¬ bra = Y2.heap.size := by omega
      have mra0 : ¬ Y2.heap.size = bra := by omega
      have nra1 : ¬ bra = Y2.heap.size + 1 := by omega
      have mra1 : ¬ Y2.heap.size + 1 = bra := by omega
      have lro := (unhide hro).lt
      have nro0 : ¬ bro = Y2.heap.size := by omega
      have mro0 : ¬ Y2.heap.size = bro := by omega
      have nro1 : ¬ bro = Y2.heap.size + 1 := by omega
      have mro1 : ¬ Y2.heap.size + 1 = bro := by omega
      have lrx := (unhide hrx).lt
      have nrx0 : ¬ brx = Y2.heap.size := by omega
      have mrx0 : ¬ Y2.heap.size = brx := by omega
      have nrx1 : ¬ brx = Y2.heap.size + 1 := by omega
      have mrx1 : ¬ Y2.heap.size + 1 = brx := by omega
      have lry := (unhide hry).lt
      have nry0 : ¬ bry = Y2.heap.size := by omega
      have mry0 : ¬ Y2.heap.size = bry := by omega
      have nry1 : ¬ bry = Y2.heap.size + 1 := by omega
      have mry1 : ¬ Y2.heap.size + 1 = bry := by omega
      have ira := (unhide hra).call (unhide GD)
      have jra := ira.lt
      have ira0 := ira.cell 0
      have ira1 := ira.cell 1
      have ira2 := ira.cell 2
      have ira3 := ira.cell 3
      simp at ira0 ira1 ira2 ira3
      clear ira
      have iro := (unhide hro).call (unhide GD)
      have jro := iro.lt
      have iro0 := iro.cell 0
      have iro1 := iro.cell 1
      have iro2 := iro.cell 2
      have iro3 := iro.cell 3
      simp at iro0 iro1 iro2 iro3
      clear iro
      have irx := (unhide hrx).call (unhide GD)
      have jrx := irx.lt
      have irx0 := irx.cell 0
      have irx1 := irx.cell 1
      have irx2 := irx.cell 2
      have irx3 := irx.cell 3
      simp at irx0 irx1 irx2 irx3
      clear irx
      have iry := (unhide hry).call (unhide GD)
      have jry := iry.lt
      have iry0 := iry.cell 0
      have iry1 := iry.cell 1
      have iry2 := iry.cell 2
      have iry3 := iry.cell 3
      simp at iry0 iry1 iry2 iry3
      clear iry
      have kwlt := (unhide bw).lt
      have kw0 := (unhide bw).cell 0
      have kw1 := (unhide bw).cell 1
      have kw2 := (unhide bw).cell 2
      have kw3 := (unhide bw).cell 3
      simp at kw0 kw1 kw2 kw3
      have kvlt := (unhide bv).lt
      have kv0 := (unhide bv).cell 0
      have kv1 := (unhide bv).cell 1
      have kv2 := (unhide bv).cell 2
      have kv3 := (unhide bv).cell 3
      simp at kv0 kv1 kv2 kv3
      go_wp2_with fail
      go_ret
      exact ⟨rfl, (unhide G).call (unhide GD)⟩
end Go.Proofs.Ytphnpcidndmlnaa
