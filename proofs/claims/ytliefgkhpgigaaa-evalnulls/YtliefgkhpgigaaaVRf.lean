/-
  What the reference of chapter 4 tells: truth, compares, column, Eval of a column.
-/
import Derived.Test.YtliefgkhpgigaaaEVD
import Derived.Test.YtliefgkhpgigaaaY
import Derived.Test.YtliefgkhpgigaaaU0
namespace Go.Proofs.Ytliefgkhpgigaaa
open Go.RowKit Go.Shelf
set_option linter.unusedSimpArgs false
set_option linter.unusedVariables false

theorem below_3 (w : World) (o1 o2 o3 : Obj) : Below w.heap.size w (((w.alloc o1).alloc o2).alloc o3) :=
  (((Below.refl _ w).alloc (Nat.le_refl _) _).alloc (by simp) _).alloc (by simp; omega) _
def rtru (is known : Bool) : V4 := if known then (if is then (1, 1, 0, S0) else (1, 0, 0, S0)) else Z4
theorem rtruth_any (is known : Bool) (w : World) : Calls Try.prog 48 #[.bool is, .bool known] w fun e W => e = .returned (.agg (vC (rtru is known)).toArray) ∧ Below w.heap.size w W := by
  cases known
  · go_enter Try.func48, Try.ntmps48
    go_wp2_with fail
    refine bodyPost_ret (v := .agg (vC Z4).toArray) (by simp [results, Try.results48, go_sem]) rfl ⟨rfl, below_new _ _⟩
  · cases is
    · go_enter Try.func48, Try.ntmps48
      go_wp2_with fail
      refine bodyPost_ret (v := .agg (vC (1, 0, 0, S0)).toArray) (by simp [results, Try.results48, go_sem]) rfl ⟨rfl, below_new _ _⟩
    · go_enter Try.func48, Try.ntmps48
      go_wp2_with fail
      refine bodyPost_ret (v := .agg (vC (1, 1, 0, S0)).toArray) (by simp [results, Try.results48, go_sem]) rfl ⟨rfl, below_new _ _⟩
/-- what the reference holds of two values -/
def rcmpV (k : Int) (v u : V4) : V4 := rtru (if k = 9 then (rkB v.1 u.1 && (rordV v.1 v.2.1 v.2.2.1 v.2.2.2 u.1 u.2.1 u.2.2.1 u.2.2.2 == 0)) else if k = 10 then !(rkB v.1 u.1 && (rordV v.1 v.2.1 v.2.2.1 v.2.2.2 u.1 u.2.1 u.2.2.1 u.2.2.2 == 0)) else if k = 11 then (rkB v.1 u.1 && decide (rordV v.1 v.2.1 v.2.2.1 v.2.2.2 u.1 u.2.1 u.2.2.1 u.2.2.2 < 0)) else ((rkB v.1 u.1 && decide (rordV v.1 v.2.1 v.2.2.1 v.2.2.2 u.1 u.2.1 u.2.2.1 u.2.2.2 < 0)) || (rkB v.1 u.1 && (rordV v.1 v.2.1 v.2.2.1 v.2.2.2 u.1 u.2.1 u.2.2.1 u.2.2.2 == 0)))) (rkB v.1 u.1)
set_option maxHeartbeats 2000000 in
set_option maxRecDepth 100000 in
theorem rcompares_any (k : Int) (v u : V4) (w : World) (hA : DecIn v.1 v.2.1 v.2.2.1) (hB : DecIn u.1 u.2.1 u.2.2.1) : Calls Try.prog 50 #[.int .i64 k, .agg (vC v).toArray, .agg (vC u).toArray] w fun e W => e = .returned (.agg (vC (rcmpV k v u)).toArray) ∧ Below w.heap.size w W := by
  obtain ⟨v1, v2, v3, v4⟩ := v
  obtain ⟨u1, u2, u3, u4⟩ := u
  have CL := hide (fun W => rless_any v1 v2 v3 v4 u1 u2 u3 u4 W hA hB)
  have CS := hide (fun W => rsame_any v1 v2 v3 v4 u1 u2 u3 u4 W hA hB)
  have HR : Hid (∀ ls sm kn : Bool, ls = (rkB v1 u1 && decide (rordV v1 v2 v3 v4 u1 u2 u3 u4 < 0)) → sm = (rkB v1 u1 && (rordV v1 v2 v3 v4 u1 u2 u3 u4 == 0)) → kn = rkB v1 u1 → rcmpV k (v1, v2, v3, v4) (u1, u2, u3, u4) = rtru (if k = 9 then sm else if k = 10 then !sm else if k = 11 then ls else (ls || sm)) kn) := by
    intro ls sm kn h1 h2 h3
    subst h1 h2 h3
    rfl
  generalize rcmpV k (v1, v2, v3, v4) (u1, u2, u3, u4) = res at *
  obtain ⟨ls, hls⟩ : ∃ b, b = (rkB v1 u1 && decide (rordV v1 v2 v3 v4 u1 u2 u3 u4 < 0)) := ⟨_, rfl⟩
  obtain ⟨sm, hsm⟩ : ∃ b, b = (rkB v1 u1 && (rordV v1 v2 v3 v4 u1 u2 u3 u4 == 0)) := ⟨_, rfl⟩
  obtain ⟨kn, hkn⟩ : ∃ b, b = rkB v1 u1 := ⟨_, rfl⟩
  have HR2 := hide (unhide HR ls sm kn hls hsm hkn)
  rw [← hls, ← hkn] at CL
  rw [← hsm, ← hkn] at CS
  have CT := hide (fun b W => rtruth_any b kn W)
  clear hls hsm hkn HR hA hB
  go_enter Try.func50, Try.ntmps50
  go_wp2_with fail
  have g3 := below_3 w (.cells #[.int .i64 v1, .int .i64 v2, .int .i64 v3, .string v4] 28) (.cells #[.int .i64 u1, .int .i64 u2, .int .i64 u3, .string u4] 28) (.cells #[.int .i64 0, .int .i64 0, .int .i64 0, .string ⟨#[]⟩] 28)
  have hA := ((Blk.new w #[.int .i64 v1, .int .i64 v2, .int .i64 v3, .string v4] 28).call (below_new _ (.cells #[.int .i64 u1, .int .i64 u2, .int .i64 u3, .string u4] 28))).call (below_new _ (.cells #[.int .i64 0, .int .i64 0, .int .i64 0, .string ⟨#[]⟩] 28))
  have hB := (Blk.new (w.alloc (.cells #[.int .i64 v1, .int .i64 v2, .int .i64 v3, .string v4] 28)) #[.int .i64 u1, .int .i64 u2, .int .i64 u3, .string u4] 28).call (below_new _ (.cells #[.int .i64 0, .int .i64 0, .int .i64 0, .string ⟨#[]⟩] 28))
  have hZ := Blk.new ((w.alloc (.cells #[.int .i64 v1, .int .i64 v2, .int .i64 v3, .string v4] 28)).alloc (.cells #[.int .i64 u1, .int .i64 u2, .int .i64 u3, .string u4] 28)) #[.int .i64 0, .int .i64 0, .int .i64 0, .string ⟨#[]⟩] 28
  rw [World.size_alloc] at hB
  rw [World.size_alloc, World.size_alloc] at hZ
  refine (unhide CL _).mono ?_
  rintro e W1 ⟨rfl, hb⟩
  replace g3 := hide (g3.trans (hb.mono g3.size))
  replace hA := hA.call hb
  replace hB := hB.call hb
  replace hZ := hZ.call hb
  clear hb
  have la := hA.lt
  have lb := hB.lt
  have lz := hZ.lt
  have a0 := hA.cell 0
  have a1 := hA.cell 1
  have a2 := hA.cell 2
  have a3 := hA.cell 3
  have b0 := hB.cell 0
  have b1 := hB.cell 1
  have b2 := hB.cell 2
  have b3 := hB.cell 3
  simp at a0 a1 a2 a3 b0 b1 b2 b3
  go_wp2_with fail
  refine (unhide CS _).mono ?_
  rintro e W2 ⟨rfl, hb⟩
  replace g3 := hide ((unhide g3).trans (hb.mono (unhide g3).size))
  replace hZ := hZ.call hb
  clear hb hA hB a0 a1 a2 a3 b0 b1 b2 b3 la lb lz CL CS
  by_cases h9 : k = 9
  · subst h9
    go_wp2_with fail
    refine (unhide CT sm _).mono ?_
    rintro e W3 ⟨rfl, hb⟩
    replace g3 := hide ((unhide g3).trans (hb.mono (unhide g3).size))
    replace hZ := hZ.call hb
    clear hb
    rw [show rtru sm kn = res by rw [HR2.out]; simp]
    have lz := hZ.lt
    have z0 := hZ.cell 0
    have z1 := hZ.cell 1
    have z2 := hZ.cell 2
    have z3 := hZ.cell 3
    have f0 := hZ.froz 0
    have f1 := hZ.froz 1
    have f2 := hZ.froz 2
    have f3 := hZ.froz 3
    simp at z0 z1 z2 z3
    obtain ⟨q0, q1, q2, q3⟩ := res
    go_wp2_with fail
    refine bodyPost_ret (v := .agg (vC (q0, q1, q2, q3)).toArray) (by simp [results, Try.results50, go_sem, z0, z1, z2, z3, lz]) rfl ⟨rfl, ?_⟩
    exact ((((unhide g3).setCell (p := ⟨w.heap.size + 1 + 1, 0, none⟩) (by simp; omega) _).setCell (p := ⟨w.heap.size + 1 + 1, 1, none⟩) (by simp; omega) _).setCell (p := ⟨w.heap.size + 1 + 1, 2, none⟩) (by simp; omega) _).setCell (p := ⟨w.heap.size + 1 + 1, 3, none⟩) (by simp; omega) _
  · by_cases h10 : k = 10
    · subst h10
      go_wp2_with fail
      refine (unhide CT (!sm) _).mono ?_
      rintro e W3 ⟨rfl, hb⟩
      replace g3 := hide ((unhide g3).trans (hb.mono (unhide g3).size))
      replace hZ := hZ.call hb
      clear hb
      rw [show rtru (!sm) kn = res by rw [HR2.out]; simp]
      have lz := hZ.lt
      have z0 := hZ.cell 0
      have z1 := hZ.cell 1
      have z2 := hZ.cell 2
      have z3 := hZ.cell 3
      have f0 := hZ.froz 0
      have f1 := hZ.froz 1
      have f2 := hZ.froz 2
      have f3 := hZ.froz 3
      simp at z0 z1 z2 z3
      obtain ⟨q0, q1, q2, q3⟩ := res
      go_wp2_with fail
      refine bodyPost_ret (v := .agg (vC (q0, q1, q2, q3)).toArray) (by simp [results, Try.results50, go_sem, z0, z1, z2, z3, lz]) rfl ⟨rfl, ?_⟩
      exact ((((unhide g3).setCell (p := ⟨w.heap.size + 1 + 1, 0, none⟩) (by simp; omega) _).setCell (p := ⟨w.heap.size + 1 + 1, 1, none⟩) (by simp; omega) _).setCell (p := ⟨w.heap.size + 1 + 1, 2, none⟩) (by simp; omega) _).setCell (p := ⟨w.heap.size + 1 + 1, 3, none⟩) (by simp; omega) _
    · by_cases h11 : k = 11
      · subst h11
        go_wp2_with fail
        refine (unhide CT ls _).mono ?_
        rintro e W3 ⟨rfl, hb⟩
        replace g3 := hide ((unhide g3).trans (hb.mono (unhide g3).size))
        replace hZ := hZ.call hb
        clear hb
        rw [show rtru ls kn = res by rw [HR2.out]; simp]
        have lz := hZ.lt
        have z0 := hZ.cell 0
        have z1 := hZ.cell 1
        have z2 := hZ.cell 2
        have z3 := hZ.cell 3
        have f0 := hZ.froz 0
        have f1 := hZ.froz 1
        have f2 := hZ.froz 2
        have f3 := hZ.froz 3
        simp at z0 z1 z2 z3
        obtain ⟨q0, q1, q2, q3⟩ := res
        go_wp2_with fail
        refine bodyPost_ret (v := .agg (vC (q0, q1, q2, q3)).toArray) (by simp [results, Try.results50, go_sem, z0, z1, z2, z3, lz]) rfl ⟨rfl, ?_⟩
        exact ((((unhide g3).setCell (p := ⟨w.heap.size + 1 + 1, 0, none⟩) (by simp; omega) _).setCell (p := ⟨w.heap.size + 1 + 1, 1, none⟩) (by simp; omega) _).setCell (p := ⟨w.heap.size + 1 + 1, 2, none⟩) (by simp; omega) _).setCell (p := ⟨w.heap.size + 1 + 1, 3, none⟩) (by simp; omega) _
      · cases ls
        · cases sm
          · go_wp2_with fail
            refine (unhide CT false _).mono ?_
            rintro e W3 ⟨rfl, hb⟩
            replace g3 := hide ((unhide g3).trans (hb.mono (unhide g3).size))
            replace hZ := hZ.call hb
            clear hb
            rw [show rtru false kn = res by rw [HR2.out]; simp [h9, h10, h11]]
            have lz := hZ.lt
            have z0 := hZ.cell 0
            have z1 := hZ.cell 1
            have z2 := hZ.cell 2
            have z3 := hZ.cell 3
            have f0 := hZ.froz 0
            have f1 := hZ.froz 1
            have f2 := hZ.froz 2
            have f3 := hZ.froz 3
            simp at z0 z1 z2 z3
            obtain ⟨q0, q1, q2, q3⟩ := res
            go_wp2_with fail
            refine bodyPost_ret (v := .agg (vC (q0, q1, q2, q3)).toArray) (by simp [results, Try.results50, go_sem, z0, z1, z2, z3, lz]) rfl ⟨rfl, ?_⟩
            exact ((((unhide g3).setCell (p := ⟨w.heap.size + 1 + 1, 0, none⟩) (by simp; omega) _).setCell (p := ⟨w.heap.size + 1 + 1, 1, none⟩) (by simp; omega) _).setCell (p := ⟨w.heap.size + 1 + 1, 2, none⟩) (by simp; omega) _).setCell (p := ⟨w.heap.size + 1 + 1, 3, none⟩) (by simp; omega) _
          · go_wp2_with fail
            refine (unhide CT true _).mono ?_
            rintro e W3 ⟨rfl, hb⟩
            replace g3 := hide ((unhide g3).trans (hb.mono (unhide g3).size))
            replace hZ := hZ.call hb
            clear hb
            rw [show rtru true kn = res by rw [HR2.out]; simp [h9, h10, h11]]
            have lz := hZ.lt
            have z0 := hZ.cell 0
            have z1 := hZ.cell 1
            have z2 := hZ.cell 2
            have z3 := hZ.cell 3
            have f0 := hZ.froz 0
            have f1 := hZ.froz 1
            have f2 := hZ.froz 2
            have f3 := hZ.froz 3
            simp at z0 z1 z2 z3
            obtain ⟨q0, q1, q2, q3⟩ := res
            go_wp2_with fail
            refine bodyPost_ret (v := .agg (vC (q0, q1, q2, q3)).toArray) (by simp [results, Try.results50, go_sem, z0, z1, z2, z3, lz]) rfl ⟨rfl, ?_⟩
            exact ((((unhide g3).setCell (p := ⟨w.heap.size + 1 + 1, 0, none⟩) (by simp; omega) _).setCell (p := ⟨w.heap.size + 1 + 1, 1, none⟩) (by simp; omega) _).setCell (p := ⟨w.heap.size + 1 + 1, 2, none⟩) (by simp; omega) _).setCell (p := ⟨w.heap.size + 1 + 1, 3, none⟩) (by simp; omega) _
        · go_wp2_with fail
          refine (unhide CT true _).mono ?_
          rintro e W3 ⟨rfl, hb⟩
          replace g3 := hide ((unhide g3).trans (hb.mono (unhide g3).size))
          replace hZ := hZ.call hb
          clear hb
          rw [show rtru true kn = res by rw [HR2.out]; simp [h9, h10, h11]]
          have lz := hZ.lt
          have z0 := hZ.cell 0
          have z1 := hZ.cell 1
          have z2 := hZ.cell 2
          have z3 := hZ.cell 3
          have f0 := hZ.froz 0
          have f1 := hZ.froz 1
          have f2 := hZ.froz 2
          have f3 := hZ.froz 3
          simp at z0 z1 z2 z3
          obtain ⟨q0, q1, q2, q3⟩ := res
          go_wp2_with fail
          refine bodyPost_ret (v := .agg (vC (q0, q1, q2, q3)).toArray) (by simp [results, Try.results50, go_sem, z0, z1, z2, z3, lz]) rfl ⟨rfl, ?_⟩
          exact ((((unhide g3).setCell (p := ⟨w.heap.size + 1 + 1, 0, none⟩) (by simp; omega) _).setCell (p := ⟨w.heap.size + 1 + 1, 1, none⟩) (by simp; omega) _).setCell (p := ⟨w.heap.size + 1 + 1, 2, none⟩) (by simp; omega) _).setCell (p := ⟨w.heap.size + 1 + 1, 3, none⟩) (by simp; omega) _
/-- the place of the first column of a name -/
def ixFrom (nm : ByteArray) : List C3 → Nat → Int
  | [], _ => -1
  | c :: l, i => if c.1.toList == nm.toList then (i : Int) else ixFrom nm l (i + 1)
theorem ix_val (nm : ByteArray) : ∀ (cs : List C3) (vs : List V4) (v : V4) (i : Nat), valFrom nm cs vs = some v → ∃ k, ∃ h : k < vs.length, ixFrom nm cs i = ((i + k : Nat) : Int) ∧ vs[k] = v
  | [], vs, v, i, h => by simp [valFrom] at h
  | c :: l, [], v, i, h => by simp [valFrom] at h
  | c :: l, x :: vs, v, i, h => by
    unfold valFrom at h
    unfold ixFrom
    by_cases hc : (c.1.toList == nm.toList) = true
    · rw [if_pos hc] at h ⊢
      exact ⟨0, by simp, by simp, by simpa using h⟩
    · rw [if_neg hc] at h ⊢
      obtain ⟨k, hk, h1, h2⟩ := ix_val nm l vs v (i + 1) h
      exact ⟨k + 1, by simpa using hk, by rw [h1]; omega, by simpa using h2⟩
set_option maxHeartbeats 1000000 in
set_option maxRecDepth 100000 in
theorem rcolumn_any (t0 t2 t3 t4 t5 t6 t7 t8 t9 t10 t11 v : Value) (cs : List C3) (nm : ByteArray) (w : World) (hv : ColsOf v cs w) :
    Calls Try.prog 39 #[Tab t0 v t2 t3 t4 t5 t6 t7 t8 t9 t10 t11, .string nm] w fun e W => e = .returned (.int .i64 (ixFrom nm cs 0)) ∧ Below w.heap.size w W := by
  obtain ⟨g, cap, rfl, hg, h1000, hc⟩ := hv
  have HC := hide hc
  clear hc
  go_enter Try.func39, Try.ntmps39
  go_wp2
  go_loopw [5] (fun i wr => ∃ k : Nat, k ≤ cs.length ∧ i = .int .i64 (k : Int) ∧ Hid (ixFrom nm (cs.drop k) k = ixFrom nm cs 0) ∧ wr = w.alloc (.cells #[t0, .slice (some ⟨g, 0, none⟩) cs.length cap, t2, t3, t4, t5, t6, t7, t8, t9, t10, t11] 34)) (fun i wr => cs.length - (intOf i).toNat)
  case atStart => exact ⟨0, Nat.zero_le _, rfl, rfl, rfl⟩
  case round =>
    obtain ⟨k, hk, rfl, HF, rfl⟩ := hrel
    have hb := below_new w (.cells #[t0, .slice (some ⟨g, 0, none⟩) cs.length cap, t2, t3, t4, t5, t6, t7, t8, t9, t10, t11] 34)
    by_cases hlt : k < cs.length
    · have hlti : (k : Int) < cs.length := by omega
      obtain ⟨c0, c1, c2⟩ := unhide HC k hlt
      have d0 := (hb.cell (p := ⟨g, k * 3, none⟩) hg).trans c0
      have hdr : cs.drop k = cs[k] :: cs.drop (k + 1) := List.drop_eq_getElem_cons hlt
      have HD : Hid (ixFrom nm (cs.drop k) k = if cs[k].1.toList == nm.toList then (k : Int) else ixFrom nm (cs.drop (k + 1)) (k + 1)) := by show _ = _; rw [hdr]; rfl
      clear c0 c1 c2 hdr hb
      generalize cs[k] = x at *
      cases hx : (x.1.toList == nm.toList)
      · go_wp2_with fail
        go_roundw
        case rel =>
          refine ⟨k + 1, by omega, by go_num, ?_, by first | rfl | trivial⟩
          have h1 := HD.out
          rw [hx, HF.out] at h1
          exact h1.symm
        case measure => simp [intOf]; omega
      · go_wp2_with fail
        go_ret
        refine ⟨?_, below_new _ _⟩
        have h1 := HD.out
        rw [hx, HF.out] at h1
        rw [h1]; rfl
    · obtain rfl : k = cs.length := by omega
      go_wp2_with fail
      go_ret
      refine ⟨?_, below_new _ _⟩
      have h1 := HF.out
      rw [List.drop_length] at h1
      rw [← h1]; rfl
end Go.Proofs.Ytliefgkhpgigaaa
