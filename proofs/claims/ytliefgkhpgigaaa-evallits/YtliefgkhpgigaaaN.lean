/-
  What val.Reckon returns.
-/
import Derived.Test.YtliefgkhpgigaaaL
namespace Go.Proofs.Ytliefgkhpgigaaa
open Go.RowKit
set_option linter.unusedSimpArgs false
set_option linter.unusedVariables false

def idB (k : Int) : Bool := k == 0 || k == 2 || k == 3
/-- both boxes, the result's place, and that the world has but grown -/
def Box (w : World) (ka na sa : Int) (ta : ByteArray) (kb nb sb : Int) (tb : ByteArray) (W : World) : Prop :=
  Below w.heap.size w W ∧ Four w.heap.size (.int .i64 ka) (.int .i64 na) (.int .i64 sa) (.string ta) W ∧ Four (w.heap.size + 1) (.int .i64 kb) (.int .i64 nb) (.int .i64 sb) (.string tb) W ∧
  Four (w.heap.size + 1 + 1) (.int .i64 0) (.int .i64 0) (.int .i64 0) (.string E0) W
theorem box_start (w : World) (ka na sa : Int) (ta : ByteArray) (kb nb sb : Int) (tb : ByteArray) (T : TypeId) :
    Box w ka na sa ta kb nb sb tb (((w.alloc (.cells #[.int .i64 ka, .int .i64 na, .int .i64 sa, .string ta] T)).alloc (.cells #[.int .i64 kb, .int .i64 nb, .int .i64 sb, .string tb] T)).alloc (.cells #[.int .i64 0, .int .i64 0, .int .i64 0, .string E0] T)) := by
  have h2 := four_alloc (.int .i64 kb) (.int .i64 nb) (.int .i64 sb) (.string tb) T (w.alloc (.cells #[.int .i64 ka, .int .i64 na, .int .i64 sa, .string ta] T))
  have h3 := four_alloc (.int .i64 0) (.int .i64 0) (.int .i64 0) (.string E0) T ((w.alloc (.cells #[.int .i64 ka, .int .i64 na, .int .i64 sa, .string ta] T)).alloc (.cells #[.int .i64 kb, .int .i64 nb, .int .i64 sb, .string tb] T))
  rw [World.size_alloc] at h2
  rw [World.size_alloc, World.size_alloc] at h3
  exact ⟨(((Below.refl _ _).alloc (Nat.le_refl _) _).alloc (by simp) _).alloc (by simp; omega) _, four_more (four_more (four_alloc _ _ _ _ _ _) _) _, four_more h2 _, h3⟩
theorem box_call {w : World} {ka na sa : Int} {ta : ByteArray} {kb nb sb : Int} {tb : ByteArray} {W w1 : World} (h : Box w ka na sa ta kb nb sb tb W) (hb : Below W.heap.size W w1) : Box w ka na sa ta kb nb sb tb w1 :=
  ⟨h.1.trans (hb.mono h.1.size), four_call h.2.1 hb, four_call h.2.2.1 hb, four_call h.2.2.2 hb⟩

theorem numeric_c (k n s : Int) (t : ByteArray) (w : World) :
    Calls Try.prog 78 #[V k n s t] w fun e w' => e = .returned (.bool (idB k)) ∧ Below w.heap.size w w' := numeric_any k n s t w

/-- the value (its kind, number, scale) and the error that are told -/
def recR (k ka na sa kb nb sb : Int) : (Int × Int × Int) × Int :=
  if reckB k = false then ((0, 0, 0), 5) else if idB ka = false then ((0, 0, 0), 5) else if idB kb = false then ((0, 0, 0), 5)
  else if ka = 0 ∨ kb = 0 then ((0, 0, 0), 0) else if ka ≠ kb then ((0, 0, 0), 5)
  else if ka = 2 then (if inI (opN k na nb) = true then ((2, wrap64 (opN k na nb), 0), 0) else ((0, 0, 0), 10))
  else if decOk k na sa nb sb = true then ((3, normN (wrap64 (decN k na sa nb sb)) (decS k sa sb), normC (wrap64 (decN k na sa nb sb)) (decS k sa sb)), 0) else ((0, 0, 0), 10)
def recV (r : (Int × Int × Int) × Int) : Value := .tuple #[V r.1.1 r.1.2.1 r.1.2.2 E0, .int .i64 r.2]
section
variable {k ka na sa kb nb sb : Int}
theorem rec_a (h : reckB k = false) : recR k ka na sa kb nb sb = ((0, 0, 0), 5) := by unfold recR; rw [if_pos h]
theorem rec_b (h : reckB k = true) (hi : idB ka = false) : recR k ka na sa kb nb sb = ((0, 0, 0), 5) := by unfold recR; rw [if_neg (by simp [h]), if_pos hi]
theorem rec_c (h : reckB k = true) (hi : idB ka = true) (hj : idB kb = false) : recR k ka na sa kb nb sb = ((0, 0, 0), 5) := by
  unfold recR; rw [if_neg (by simp [h]), if_neg (by simp [hi]), if_pos hj]
theorem rec_d (h : reckB k = true) (hi : idB ka = true) (hj : idB kb = true) (h0 : ka = 0 ∨ kb = 0) : recR k ka na sa kb nb sb = ((0, 0, 0), 0) := by
  unfold recR; rw [if_neg (by simp [h]), if_neg (by simp [hi]), if_neg (by simp [hj]), if_pos h0]
theorem rec_f (h : reckB k = true) (hi : idB ka = true) (hj : idB kb = true) (h0 : ka ≠ 0) (h1 : kb ≠ 0) (h2 : ka ≠ kb) : recR k ka na sa kb nb sb = ((0, 0, 0), 5) := by
  unfold recR; rw [if_neg (by simp [h]), if_neg (by simp [hi]), if_neg (by simp [hj]), if_neg (by omega), if_pos h2]
theorem rec_g0 (h : reckB k = true) (ho : inI (opN k na nb) = false) : recR k 2 na sa 2 nb sb = ((0, 0, 0), 10) := by
  unfold recR; rw [if_neg (by simp [h]), if_neg (by decide), if_neg (by decide), if_neg (by decide), if_neg (by decide), if_pos rfl, if_neg (by simp [ho])]
theorem rec_g1 (h : reckB k = true) (ho : inI (opN k na nb) = true) : recR k 2 na sa 2 nb sb = ((2, wrap64 (opN k na nb), 0), 0) := by
  unfold recR; rw [if_neg (by simp [h]), if_neg (by decide), if_neg (by decide), if_neg (by decide), if_neg (by decide), if_pos rfl, if_pos ho]
theorem rec_h0 (h : reckB k = true) (ho : decOk k na sa nb sb = false) : recR k 3 na sa 3 nb sb = ((0, 0, 0), 10) := by
  unfold recR; rw [if_neg (by simp [h]), if_neg (by decide), if_neg (by decide), if_neg (by decide), if_neg (by decide), if_neg (by decide), if_neg (by simp [ho])]
theorem rec_h1 (h : reckB k = true) (ho : decOk k na sa nb sb = true) :
    recR k 3 na sa 3 nb sb = ((3, normN (wrap64 (decN k na sa nb sb)) (decS k sa sb), normC (wrap64 (decN k na sa nb sb)) (decS k sa sb)), 0) := by
  unfold recR; rw [if_neg (by simp [h]), if_neg (by decide), if_neg (by decide), if_neg (by decide), if_neg (by decide), if_neg (by decide), if_pos ho]
end
theorem retR {r : (Int × Int × Int) × Int} {a b c d : Int} (h : r = ((a, b, c), d)) : Ending.returned (.tuple #[V a b c E0, .int .i64 d]) = .returned (recV r) := by rw [h]; rfl

set_option maxHeartbeats 8000000 in
set_option maxRecDepth 100000 in
theorem reckon_any (k ka na sa : Int) (ta : ByteArray) (kb nb sb : Int) (tb : ByteArray) (w : World) (hna : Is64 na) (hnb : Is64 nb)
    (hA : ka = 3 → (0 ≤ sa ∧ sa ≤ 6) ∧ ta = E0) (hB : kb = 3 → (0 ≤ sb ∧ sb ≤ 6) ∧ tb = E0) :
    Calls Try.prog 66 #[.int .i64 k, V ka na sa ta, V kb nb sb tb] w fun e w' =>
      e = .returned (recV (if k = 4 then recR 8 ka 0 0 ka na sa else recR k ka na sa kb nb sb)) ∧ Below w.heap.size w w' := by
  have hpost : (if k = 4 then recR 8 ka 0 0 ka na sa else recR k ka na sa kb nb sb) = recR (if k = 4 then 8 else k) ka (if k = 4 then 0 else na) (if k = 4 then 0 else sa) (if k = 4 then ka else kb) (if k = 4 then na else nb) (if k = 4 then sa else sb) := by
    by_cases h4 : k = 4
    · simp only [if_pos h4]
    · simp only [if_neg h4]
  rw [hpost]
  clear hpost
  have hna0 : Is64 (if k = 4 then 0 else na) := by split; decide; exact hna
  have hnb0 : Is64 (if k = 4 then na else nb) := by split; exact hna; exact hnb
  have hca : ka = 3 → (0 ≤ (if k = 4 then 0 else sa) ∧ (if k = 4 then 0 else sa) ≤ 6) ∧ (if k = 4 then E0 else ta) = E0 := by
    intro h; split; exact ⟨by decide, rfl⟩; exact hA h
  have hcb : (if k = 4 then ka else kb) = 3 → (0 ≤ (if k = 4 then sa else sb) ∧ (if k = 4 then sa else sb) ≤ 6) ∧ (if k = 4 then ta else tb) = E0 := by
    split
    · exact hA
    · exact hB
  have Hca := hide hca
  have Hcb := hide hcb
  have Hna := hide hna0
  have Hnb := hide hnb0
  clear hca hcb hna0 hnb0 hA hB hna hnb
  obtain ⟨k0, hk0⟩ : ∃ x, x = (if k = 4 then 8 else k) := ⟨_, rfl⟩
  obtain ⟨na0, hna0⟩ : ∃ x, x = (if k = 4 then 0 else na) := ⟨_, rfl⟩
  obtain ⟨sa0, hsa0⟩ : ∃ x, x = (if k = 4 then 0 else sa) := ⟨_, rfl⟩
  obtain ⟨ta0, hta0⟩ : ∃ x, x = (if k = 4 then E0 else ta) := ⟨_, rfl⟩
  obtain ⟨kb0, hkb0⟩ : ∃ x, x = (if k = 4 then ka else kb) := ⟨_, rfl⟩
  obtain ⟨nb0, hnb0⟩ : ∃ x, x = (if k = 4 then na else nb) := ⟨_, rfl⟩
  obtain ⟨sb0, hsb0⟩ : ∃ x, x = (if k = 4 then sa else sb) := ⟨_, rfl⟩
  obtain ⟨tb0, htb0⟩ : ∃ x, x = (if k = 4 then ta else tb) := ⟨_, rfl⟩
  rw [← hk0, ← hna0, ← hsa0, ← hkb0, ← hnb0, ← hsb0]
  rw [← hsa0, ← hta0] at Hca
  rw [← hkb0, ← hsb0, ← htb0] at Hcb
  rw [← hna0] at Hna
  rw [← hnb0] at Hnb
  have HE := hide (And.intro hk0 (And.intro hna0 (And.intro hsa0 (And.intro hta0 (And.intro hkb0 (And.intro hnb0 (And.intro hsb0 htb0)))))))
  clear hk0 hna0 hsa0 hta0 hkb0 hnb0 hsb0 htb0
  go_enter Try.func66, Try.ntmps66
  go_upto_if 11 with fail
  go_cut [0] from 12 to 15 (fun kk W => kk = .int .i64 k0 ∧ Box w ka na0 sa0 ta0 kb0 nb0 sb0 tb0 W)
  case first =>
    by_cases h4 : k = 4
    · subst h4
      go_wp2
      go_region
      all_goals
        go_wp2
        go_meet
        obtain ⟨rfl, rfl, rfl, rfl, rfl, rfl, rfl, rfl⟩ := unhide HE
        exact ⟨rfl, box_call (box_start _ _ _ _ _ _ _ _ _ _) (Below.refl _ _).drew⟩
    · have hk4 : (k == 4) = false := by simpa using h4
      have H4 := hide h4
      clear h4
      go_wp2
      go_meet
      obtain ⟨e1, e2, e3, e4, e5, e6, e7, e8⟩ := unhide HE
      rw [if_neg (unhide H4)] at e1 e2 e3 e4 e5 e6 e7 e8
      subst e1 e2 e3 e4 e5 e6 e7 e8
      exact ⟨rfl, box_start _ _ _ _ _ _ _ _ _ _⟩
  case rest =>
  obtain ⟨rfl, hbox0⟩ := hcut
  have hna0 := unhide Hna
  have hnb0 := unhide Hnb
  have hca := unhide Hca
  have hcb := unhide Hcb
  clear HE Hna Hnb Hca Hcb
  have HR0 := hide hbox0.2.2.2
  have HL0 := hide hbox0.1
  have HB0 := hide hbox0
  obtain ⟨l0, ⟨z0, a00, a01, a02, a03, -, -, -, -⟩, ⟨y0, b00, b01, b02, b03, -, -, -, -⟩, ⟨x0, r00, r01, r02, r03, f00, f01, f02, f03⟩⟩ := hbox0
  cases hA : reckB k0
  · have HV := hide (rec_a (ka := ka) (na := na0) (sa := sa0) (kb := kb0) (nb := nb0) (sb := sb0) hA)
    go_wp2_with fail
    refine (reckons_any _ _).mono ?_
    rintro e wr ⟨rfl, rfl⟩
    go_wp2_with fail
    obtain ⟨-, g1, g2, g3, g4, -⟩ := four_set (unhide HR0) (.int .i64 0) (.int .i64 0) (.int .i64 0) (.string ⟨#[]⟩)
    refine bodyPost_ret (v := .tuple #[V 0 0 0 ⟨#[]⟩, .int .i64 5]) (by simp [results, Try.results66, go_sem, g1, g2, g3, g4]) rfl ⟨retR (unhide HV), ?_⟩
    exact (unhide HL0).trans ((below_set4 (w.heap.size + 1 + 1) wr _ _ _ _).mono (by omega))
  cases hI : idB ka
  · have HV := hide (rec_b (na := na0) (sa := sa0) (kb := kb0) (nb := nb0) (sb := sb0) hA hI)
    go_wp2_with fail
    refine (reckons_any _ _).mono ?_
    rintro e wr ⟨rfl, rfl⟩
    go_wp2_with fail
    refine (numeric_c _ _ _ _ _).mono ?_
    rintro e w1 ⟨rfl, hb1⟩
    have hbox1 := box_call (unhide HB0) hb1
    clear l0 z0 a00 a01 a02 a03 y0 b00 b01 b02 b03 x0 r00 r01 r02 r03 f00 f01 f02 f03
    have HR1 := hide hbox1.2.2.2
    have HL1 := hide hbox1.1
    have HB1 := hide hbox1
    obtain ⟨l1, ⟨z1, a10, a11, a12, a13, -, -, -, -⟩, ⟨y1, b10, b11, b12, b13, -, -, -, -⟩, ⟨x1, r10, r11, r12, r13, f10, f11, f12, f13⟩⟩ := hbox1
    go_wp2_with fail
    obtain ⟨-, g1, g2, g3, g4, -⟩ := four_set (unhide HR1) (.int .i64 0) (.int .i64 0) (.int .i64 0) (.string ⟨#[]⟩)
    refine bodyPost_ret (v := .tuple #[V 0 0 0 ⟨#[]⟩, .int .i64 5]) (by simp [results, Try.results66, go_sem, g1, g2, g3, g4]) rfl ⟨retR (unhide HV), ?_⟩
    exact (unhide HL1).trans ((below_set4 (w.heap.size + 1 + 1) w1 _ _ _ _).mono (by omega))
  cases hJ : idB kb0
  · have HV := hide (rec_c (na := na0) (sa := sa0) (nb := nb0) (sb := sb0) hA hI hJ)
    go_wp2_with fail
    refine (reckons_any _ _).mono ?_
    rintro e wr ⟨rfl, rfl⟩
    go_wp2_with fail
    refine (numeric_c _ _ _ _ _).mono ?_
    rintro e w1 ⟨rfl, hb1⟩
    have hbox1 := box_call (unhide HB0) hb1
    clear l0 z0 a00 a01 a02 a03 y0 b00 b01 b02 b03 x0 r00 r01 r02 r03 f00 f01 f02 f03
    have HR1 := hide hbox1.2.2.2
    have HL1 := hide hbox1.1
    have HB1 := hide hbox1
    obtain ⟨l1, ⟨z1, a10, a11, a12, a13, -, -, -, -⟩, ⟨y1, b10, b11, b12, b13, -, -, -, -⟩, ⟨x1, r10, r11, r12, r13, f10, f11, f12, f13⟩⟩ := hbox1
    go_wp2_with fail
    refine (numeric_c _ _ _ _ _).mono ?_
    rintro e w2 ⟨rfl, hb2⟩
    have hbox2 := box_call (unhide HB1) hb2
    clear l1 z1 a10 a11 a12 a13 y1 b10 b11 b12 b13 x1 r10 r11 r12 r13 f10 f11 f12 f13
    have HR2 := hide hbox2.2.2.2
    have HL2 := hide hbox2.1
    have HB2 := hide hbox2
    obtain ⟨l2, ⟨z2, a20, a21, a22, a23, -, -, -, -⟩, ⟨y2, b20, b21, b22, b23, -, -, -, -⟩, ⟨x2, r20, r21, r22, r23, f20, f21, f22, f23⟩⟩ := hbox2
    go_wp2_with fail
    obtain ⟨-, g1, g2, g3, g4, -⟩ := four_set (unhide HR2) (.int .i64 0) (.int .i64 0) (.int .i64 0) (.string ⟨#[]⟩)
    refine bodyPost_ret (v := .tuple #[V 0 0 0 ⟨#[]⟩, .int .i64 5]) (by simp [results, Try.results66, go_sem, g1, g2, g3, g4]) rfl ⟨retR (unhide HV), ?_⟩
    exact (unhide HL2).trans ((below_set4 (w.heap.size + 1 + 1) w2 _ _ _ _).mono (by omega))
  by_cases h0 : ka = 0
  · have HV := hide (rec_d (na := na0) (sa := sa0) (nb := nb0) (sb := sb0) hA hI hJ (Or.inl h0))
    have h0' : (ka == 0) = true := by simpa using h0
    clear h0
    go_wp2_with fail
    refine (reckons_any _ _).mono ?_
    rintro e wr ⟨rfl, rfl⟩
    go_wp2_with fail
    refine (numeric_c _ _ _ _ _).mono ?_
    rintro e w1 ⟨rfl, hb1⟩
    have hbox1 := box_call (unhide HB0) hb1
    clear l0 z0 a00 a01 a02 a03 y0 b00 b01 b02 b03 x0 r00 r01 r02 r03 f00 f01 f02 f03
    have HR1 := hide hbox1.2.2.2
    have HL1 := hide hbox1.1
    have HB1 := hide hbox1
    obtain ⟨l1, ⟨z1, a10, a11, a12, a13, -, -, -, -⟩, ⟨y1, b10, b11, b12, b13, -, -, -, -⟩, ⟨x1, r10, r11, r12, r13, f10, f11, f12, f13⟩⟩ := hbox1
    go_wp2_with fail
    refine (numeric_c _ _ _ _ _).mono ?_
    rintro e w2 ⟨rfl, hb2⟩
    have hbox2 := box_call (unhide HB1) hb2
    clear l1 z1 a10 a11 a12 a13 y1 b10 b11 b12 b13 x1 r10 r11 r12 r13 f10 f11 f12 f13
    have HR2 := hide hbox2.2.2.2
    have HL2 := hide hbox2.1
    have HB2 := hide hbox2
    obtain ⟨l2, ⟨z2, a20, a21, a22, a23, -, -, -, -⟩, ⟨y2, b20, b21, b22, b23, -, -, -, -⟩, ⟨x2, r20, r21, r22, r23, f20, f21, f22, f23⟩⟩ := hbox2
    go_wp2_with fail
    obtain ⟨-, g1, g2, g3, g4, -⟩ := four_set (unhide HR2) (.int .i64 0) (.int .i64 0) (.int .i64 0) (.string ⟨#[]⟩)
    refine bodyPost_ret (v := .tuple #[V 0 0 0 ⟨#[]⟩, .int .i64 0]) (by simp [results, Try.results66, go_sem, g1, g2, g3, g4]) rfl ⟨retR (unhide HV), ?_⟩
    exact (unhide HL2).trans ((below_set4 (w.heap.size + 1 + 1) w2 _ _ _ _).mono (by omega))
  have h0' : (ka == 0) = false := by simpa using h0
  by_cases h1 : kb0 = 0
  · have HV := hide (rec_d (na := na0) (sa := sa0) (nb := nb0) (sb := sb0) hA hI hJ (Or.inr h1))
    have h1' : (kb0 == 0) = true := by simpa using h1
    clear h0 h1
    go_wp2_with fail
    refine (reckons_any _ _).mono ?_
    rintro e wr ⟨rfl, rfl⟩
    go_wp2_with fail
    refine (numeric_c _ _ _ _ _).mono ?_
    rintro e w1 ⟨rfl, hb1⟩
    have hbox1 := box_call (unhide HB0) hb1
    clear l0 z0 a00 a01 a02 a03 y0 b00 b01 b02 b03 x0 r00 r01 r02 r03 f00 f01 f02 f03
    have HR1 := hide hbox1.2.2.2
    have HL1 := hide hbox1.1
    have HB1 := hide hbox1
    obtain ⟨l1, ⟨z1, a10, a11, a12, a13, -, -, -, -⟩, ⟨y1, b10, b11, b12, b13, -, -, -, -⟩, ⟨x1, r10, r11, r12, r13, f10, f11, f12, f13⟩⟩ := hbox1
    go_wp2_with fail
    refine (numeric_c _ _ _ _ _).mono ?_
    rintro e w2 ⟨rfl, hb2⟩
    have hbox2 := box_call (unhide HB1) hb2
    clear l1 z1 a10 a11 a12 a13 y1 b10 b11 b12 b13 x1 r10 r11 r12 r13 f10 f11 f12 f13
    have HR2 := hide hbox2.2.2.2
    have HL2 := hide hbox2.1
    have HB2 := hide hbox2
    obtain ⟨l2, ⟨z2, a20, a21, a22, a23, -, -, -, -⟩, ⟨y2, b20, b21, b22, b23, -, -, -, -⟩, ⟨x2, r20, r21, r22, r23, f20, f21, f22, f23⟩⟩ := hbox2
    go_wp2_with fail
    obtain ⟨-, g1, g2, g3, g4, -⟩ := four_set (unhide HR2) (.int .i64 0) (.int .i64 0) (.int .i64 0) (.string ⟨#[]⟩)
    refine bodyPost_ret (v := .tuple #[V 0 0 0 ⟨#[]⟩, .int .i64 0]) (by simp [results, Try.results66, go_sem, g1, g2, g3, g4]) rfl ⟨retR (unhide HV), ?_⟩
    exact (unhide HL2).trans ((below_set4 (w.heap.size + 1 + 1) w2 _ _ _ _).mono (by omega))
  have h1' : (kb0 == 0) = false := by simpa using h1
  by_cases h2 : ka = kb0
  case neg =>
    have HV := hide (rec_f (na := na0) (sa := sa0) (nb := nb0) (sb := sb0) hA hI hJ h0 h1 h2)
    have h2' : (ka != kb0) = true := bne_iff_ne.2 h2
    clear h0 h1 h2
    go_wp2_with fail
    refine (reckons_any _ _).mono ?_
    rintro e wr ⟨rfl, rfl⟩
    go_wp2_with fail
    refine (numeric_c _ _ _ _ _).mono ?_
    rintro e w1 ⟨rfl, hb1⟩
    have hbox1 := box_call (unhide HB0) hb1
    clear l0 z0 a00 a01 a02 a03 y0 b00 b01 b02 b03 x0 r00 r01 r02 r03 f00 f01 f02 f03
    have HR1 := hide hbox1.2.2.2
    have HL1 := hide hbox1.1
    have HB1 := hide hbox1
    obtain ⟨l1, ⟨z1, a10, a11, a12, a13, -, -, -, -⟩, ⟨y1, b10, b11, b12, b13, -, -, -, -⟩, ⟨x1, r10, r11, r12, r13, f10, f11, f12, f13⟩⟩ := hbox1
    go_wp2_with fail
    refine (numeric_c _ _ _ _ _).mono ?_
    rintro e w2 ⟨rfl, hb2⟩
    have hbox2 := box_call (unhide HB1) hb2
    clear l1 z1 a10 a11 a12 a13 y1 b10 b11 b12 b13 x1 r10 r11 r12 r13 f10 f11 f12 f13
    have HR2 := hide hbox2.2.2.2
    have HL2 := hide hbox2.1
    have HB2 := hide hbox2
    obtain ⟨l2, ⟨z2, a20, a21, a22, a23, -, -, -, -⟩, ⟨y2, b20, b21, b22, b23, -, -, -, -⟩, ⟨x2, r20, r21, r22, r23, f20, f21, f22, f23⟩⟩ := hbox2
    go_wp2_with fail
    obtain ⟨-, g1, g2, g3, g4, -⟩ := four_set (unhide HR2) (.int .i64 0) (.int .i64 0) (.int .i64 0) (.string ⟨#[]⟩)
    refine bodyPost_ret (v := .tuple #[V 0 0 0 ⟨#[]⟩, .int .i64 5]) (by simp [results, Try.results66, go_sem, g1, g2, g3, g4]) rfl ⟨retR (unhide HV), ?_⟩
    exact (unhide HL2).trans ((below_set4 (w.heap.size + 1 + 1) w2 _ _ _ _).mono (by omega))
  have h2' : (ka != kb0) = false := by simpa using h2
  subst h2
  by_cases h3 : ka = 2
  · subst h3
    have CR := hide (fun W => reckon_int k0 na0 sa0 nb0 sb0 2 ta0 tb0 W hna0 hnb0)
    cases hO : inI (opN k0 na0 nb0)
    · have HV := hide (rec_g0 (sa := sa0) (sb := sb0) hA hO)
      rw [hO] at CR
      generalize wrap64 (opN k0 na0 nb0) = z at *
      clear hO h0 h1
      go_wp2_with fail
      refine (reckons_any _ _).mono ?_
      rintro e wr ⟨rfl, rfl⟩
      go_wp2_with fail
      refine (numeric_c _ _ _ _ _).mono ?_
      rintro e w1 ⟨rfl, hb1⟩
      have hbox1 := box_call (unhide HB0) hb1
      clear l0 z0 a00 a01 a02 a03 y0 b00 b01 b02 b03 x0 r00 r01 r02 r03 f00 f01 f02 f03
      have HR1 := hide hbox1.2.2.2
      have HL1 := hide hbox1.1
      have HB1 := hide hbox1
      obtain ⟨l1, ⟨z1, a10, a11, a12, a13, -, -, -, -⟩, ⟨y1, b10, b11, b12, b13, -, -, -, -⟩, ⟨x1, r10, r11, r12, r13, f10, f11, f12, f13⟩⟩ := hbox1
      go_wp2_with fail
      refine (numeric_c _ _ _ _ _).mono ?_
      rintro e w2 ⟨rfl, hb2⟩
      have hbox2 := box_call (unhide HB1) hb2
      clear l1 z1 a10 a11 a12 a13 y1 b10 b11 b12 b13 x1 r10 r11 r12 r13 f10 f11 f12 f13
      have HR2 := hide hbox2.2.2.2
      have HL2 := hide hbox2.1
      have HB2 := hide hbox2
      obtain ⟨l2, ⟨z2, a20, a21, a22, a23, -, -, -, -⟩, ⟨y2, b20, b21, b22, b23, -, -, -, -⟩, ⟨x2, r20, r21, r22, r23, f20, f21, f22, f23⟩⟩ := hbox2
      go_wp2_with fail
      refine (unhide CR _).mono ?_
      rintro e w3 ⟨rfl, hb3⟩
      have hbox3 := box_call (unhide HB2) hb3
      clear l2 z2 a20 a21 a22 a23 y2 b20 b21 b22 b23 x2 r20 r21 r22 r23 f20 f21 f22 f23
      have HR3 := hide hbox3.2.2.2
      have HL3 := hide hbox3.1
      have HB3 := hide hbox3
      obtain ⟨l3, ⟨z3, a30, a31, a32, a33, -, -, -, -⟩, ⟨y3, b30, b31, b32, b33, -, -, -, -⟩, ⟨x3, r30, r31, r32, r33, f30, f31, f32, f33⟩⟩ := hbox3
      go_wp2_with fail
      obtain ⟨-, g1, g2, g3, g4, -⟩ := four_more (four_set (unhide HR3) (.int .i64 0) (.int .i64 0) (.int .i64 0) (.string ⟨#[]⟩)) (.cells #[.int .i64 2, .int .i64 z, .int .i64 0, .string E0] 28)
      refine bodyPost_ret (v := .tuple #[V 0 0 0 ⟨#[]⟩, .int .i64 10]) (by simp [results, Try.results66, go_sem, g1, g2, g3, g4]) rfl ⟨retR (unhide HV), ?_⟩
      exact ((unhide HL3).trans ((below_set4 (w.heap.size + 1 + 1) w3 _ _ _ _).mono (by omega))).alloc (by simp; omega) _
    · have HV := hide (rec_g1 (sa := sa0) (sb := sb0) hA hO)
      rw [hO] at CR
      generalize wrap64 (opN k0 na0 nb0) = z at *
      clear hO h0 h1
      go_wp2_with fail
      refine (reckons_any _ _).mono ?_
      rintro e wr ⟨rfl, rfl⟩
      go_wp2_with fail
      refine (numeric_c _ _ _ _ _).mono ?_
      rintro e w1 ⟨rfl, hb1⟩
      have hbox1 := box_call (unhide HB0) hb1
      clear l0 z0 a00 a01 a02 a03 y0 b00 b01 b02 b03 x0 r00 r01 r02 r03 f00 f01 f02 f03
      have HR1 := hide hbox1.2.2.2
      have HL1 := hide hbox1.1
      have HB1 := hide hbox1
      obtain ⟨l1, ⟨z1, a10, a11, a12, a13, -, -, -, -⟩, ⟨y1, b10, b11, b12, b13, -, -, -, -⟩, ⟨x1, r10, r11, r12, r13, f10, f11, f12, f13⟩⟩ := hbox1
      go_wp2_with fail
      refine (numeric_c _ _ _ _ _).mono ?_
      rintro e w2 ⟨rfl, hb2⟩
      have hbox2 := box_call (unhide HB1) hb2
      clear l1 z1 a10 a11 a12 a13 y1 b10 b11 b12 b13 x1 r10 r11 r12 r13 f10 f11 f12 f13
      have HR2 := hide hbox2.2.2.2
      have HL2 := hide hbox2.1
      have HB2 := hide hbox2
      obtain ⟨l2, ⟨z2, a20, a21, a22, a23, -, -, -, -⟩, ⟨y2, b20, b21, b22, b23, -, -, -, -⟩, ⟨x2, r20, r21, r22, r23, f20, f21, f22, f23⟩⟩ := hbox2
      go_wp2_with fail
      refine (unhide CR _).mono ?_
      rintro e w3 ⟨rfl, hb3⟩
      have hbox3 := box_call (unhide HB2) hb3
      clear l2 z2 a20 a21 a22 a23 y2 b20 b21 b22 b23 x2 r20 r21 r22 r23 f20 f21 f22 f23
      have HR3 := hide hbox3.2.2.2
      have HL3 := hide hbox3.1
      have HB3 := hide hbox3
      obtain ⟨l3, ⟨z3, a30, a31, a32, a33, -, -, -, -⟩, ⟨y3, b30, b31, b32, b33, -, -, -, -⟩, ⟨x3, r30, r31, r32, r33, f30, f31, f32, f33⟩⟩ := hbox3
      go_wp2_with fail
      obtain ⟨-, g1, g2, g3, g4, -⟩ := four_more (four_set (unhide HR3) (.int .i64 2) (.int .i64 z) (.int .i64 0) (.string E0)) (.cells #[.int .i64 2, .int .i64 z, .int .i64 0, .string E0] 28)
      refine bodyPost_ret (v := .tuple #[V 2 z 0 E0, .int .i64 0]) (by simp [results, Try.results66, go_sem, g1, g2, g3, g4]) rfl ⟨retR (unhide HV), ?_⟩
      exact ((unhide HL3).trans ((below_set4 (w.heap.size + 1 + 1) w3 _ _ _ _).mono (by omega))).alloc (by simp; omega) _
  have h4 : ka = 3 := by unfold idB at hI; simp at hI; omega
  subst h4
  obtain ⟨hsa, rfl⟩ := hca rfl
  obtain ⟨hsb, rfl⟩ := hcb rfl
  have CR := hide (fun W => reckon_dec k0 na0 sa0 nb0 sb0 W hna0 hnb0 hsa hsb)
  cases hO : decOk k0 na0 sa0 nb0 sb0
  · have HV := hide (rec_h0 hA hO)
    rw [hO] at CR
    generalize normN (wrap64 (decN k0 na0 sa0 nb0 sb0)) (decS k0 sa0 sb0) = zn at *
    generalize normC (wrap64 (decN k0 na0 sa0 nb0 sb0)) (decS k0 sa0 sb0) = zs at *
    clear hO h0 h1 h3
    go_wp2_with fail
    refine (reckons_any _ _).mono ?_
    rintro e wr ⟨rfl, rfl⟩
    go_wp2_with fail
    refine (numeric_c _ _ _ _ _).mono ?_
    rintro e w1 ⟨rfl, hb1⟩
    have hbox1 := box_call (unhide HB0) hb1
    clear l0 z0 a00 a01 a02 a03 y0 b00 b01 b02 b03 x0 r00 r01 r02 r03 f00 f01 f02 f03
    have HR1 := hide hbox1.2.2.2
    have HL1 := hide hbox1.1
    have HB1 := hide hbox1
    obtain ⟨l1, ⟨z1, a10, a11, a12, a13, -, -, -, -⟩, ⟨y1, b10, b11, b12, b13, -, -, -, -⟩, ⟨x1, r10, r11, r12, r13, f10, f11, f12, f13⟩⟩ := hbox1
    go_wp2_with fail
    refine (numeric_c _ _ _ _ _).mono ?_
    rintro e w2 ⟨rfl, hb2⟩
    have hbox2 := box_call (unhide HB1) hb2
    clear l1 z1 a10 a11 a12 a13 y1 b10 b11 b12 b13 x1 r10 r11 r12 r13 f10 f11 f12 f13
    have HR2 := hide hbox2.2.2.2
    have HL2 := hide hbox2.1
    have HB2 := hide hbox2
    obtain ⟨l2, ⟨z2, a20, a21, a22, a23, -, -, -, -⟩, ⟨y2, b20, b21, b22, b23, -, -, -, -⟩, ⟨x2, r20, r21, r22, r23, f20, f21, f22, f23⟩⟩ := hbox2
    go_wp2_with fail
    refine (unhide CR _).mono ?_
    rintro e w3 ⟨rfl, hb3⟩
    have hbox3 := box_call (unhide HB2) hb3
    clear l2 z2 a20 a21 a22 a23 y2 b20 b21 b22 b23 x2 r20 r21 r22 r23 f20 f21 f22 f23
    have HR3 := hide hbox3.2.2.2
    have HL3 := hide hbox3.1
    have HB3 := hide hbox3
    obtain ⟨l3, ⟨z3, a30, a31, a32, a33, -, -, -, -⟩, ⟨y3, b30, b31, b32, b33, -, -, -, -⟩, ⟨x3, r30, r31, r32, r33, f30, f31, f32, f33⟩⟩ := hbox3
    go_wp2_with fail
    obtain ⟨-, g1, g2, g3, g4, -⟩ := four_more (four_set (unhide HR3) (.int .i64 0) (.int .i64 0) (.int .i64 0) (.string ⟨#[]⟩)) (.cells #[.int .i64 3, .int .i64 zn, .int .i64 zs, .string E0] 28)
    refine bodyPost_ret (v := .tuple #[V 0 0 0 ⟨#[]⟩, .int .i64 10]) (by simp [results, Try.results66, go_sem, g1, g2, g3, g4]) rfl ⟨retR (unhide HV), ?_⟩
    exact ((unhide HL3).trans ((below_set4 (w.heap.size + 1 + 1) w3 _ _ _ _).mono (by omega))).alloc (by simp; omega) _
  · have HV := hide (rec_h1 hA hO)
    rw [hO] at CR
    generalize normN (wrap64 (decN k0 na0 sa0 nb0 sb0)) (decS k0 sa0 sb0) = zn at *
    generalize normC (wrap64 (decN k0 na0 sa0 nb0 sb0)) (decS k0 sa0 sb0) = zs at *
    clear hO h0 h1 h3
    go_wp2_with fail
    refine (reckons_any _ _).mono ?_
    rintro e wr ⟨rfl, rfl⟩
    go_wp2_with fail
    refine (numeric_c _ _ _ _ _).mono ?_
    rintro e w1 ⟨rfl, hb1⟩
    have hbox1 := box_call (unhide HB0) hb1
    clear l0 z0 a00 a01 a02 a03 y0 b00 b01 b02 b03 x0 r00 r01 r02 r03 f00 f01 f02 f03
    have HR1 := hide hbox1.2.2.2
    have HL1 := hide hbox1.1
    have HB1 := hide hbox1
    obtain ⟨l1, ⟨z1, a10, a11, a12, a13, -, -, -, -⟩, ⟨y1, b10, b11, b12, b13, -, -, -, -⟩, ⟨x1, r10, r11, r12, r13, f10, f11, f12, f13⟩⟩ := hbox1
    go_wp2_with fail
    refine (numeric_c _ _ _ _ _).mono ?_
    rintro e w2 ⟨rfl, hb2⟩
    have hbox2 := box_call (unhide HB1) hb2
    clear l1 z1 a10 a11 a12 a13 y1 b10 b11 b12 b13 x1 r10 r11 r12 r13 f10 f11 f12 f13
    have HR2 := hide hbox2.2.2.2
    have HL2 := hide hbox2.1
    have HB2 := hide hbox2
    obtain ⟨l2, ⟨z2, a20, a21, a22, a23, -, -, -, -⟩, ⟨y2, b20, b21, b22, b23, -, -, -, -⟩, ⟨x2, r20, r21, r22, r23, f20, f21, f22, f23⟩⟩ := hbox2
    go_wp2_with fail
    refine (unhide CR _).mono ?_
    rintro e w3 ⟨rfl, hb3⟩
    have hbox3 := box_call (unhide HB2) hb3
    clear l2 z2 a20 a21 a22 a23 y2 b20 b21 b22 b23 x2 r20 r21 r22 r23 f20 f21 f22 f23
    have HR3 := hide hbox3.2.2.2
    have HL3 := hide hbox3.1
    have HB3 := hide hbox3
    obtain ⟨l3, ⟨z3, a30, a31, a32, a33, -, -, -, -⟩, ⟨y3, b30, b31, b32, b33, -, -, -, -⟩, ⟨x3, r30, r31, r32, r33, f30, f31, f32, f33⟩⟩ := hbox3
    go_wp2_with fail
    obtain ⟨-, g1, g2, g3, g4, -⟩ := four_more (four_set (unhide HR3) (.int .i64 3) (.int .i64 zn) (.int .i64 zs) (.string E0)) (.cells #[.int .i64 3, .int .i64 zn, .int .i64 zs, .string E0] 28)
    refine bodyPost_ret (v := .tuple #[V 3 zn zs E0, .int .i64 0]) (by simp [results, Try.results66, go_sem, g1, g2, g3, g4]) rfl ⟨retR (unhide HV), ?_⟩
    exact ((unhide HL3).trans ((below_set4 (w.heap.size + 1 + 1) w3 _ _ _ _).mono (by omega))).alloc (by simp; omega) _
end Go.Proofs.Ytliefgkhpgigaaa
