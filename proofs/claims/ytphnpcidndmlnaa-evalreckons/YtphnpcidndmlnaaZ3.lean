/-
  What the reference's function decs returns, of two decimals that are right.
-/
import Derived.Test.YtphnpcidndmlnaaZ1
import Derived.Test.YtphnpcidndmlnaaZ2
namespace Go.Proofs.Ytphnpcidndmlnaa
open Go.RowKit
set_option linter.unusedSimpArgs false
set_option linter.unusedVariables false

theorem fineT_is (t : Int) : ∃ k n s e, fineT t = .tuple #[V k n s ⟨#[]⟩, .int .i64 e] := by
  unfold fineT; split
  · exact ⟨_, _, _, _, rfl⟩
  · exact ⟨_, _, _, _, rfl⟩
/-- what is told of a product -/
def mulT (na sa nb sb : Int) : Value := if inI (na * nb) = true ∧ rdB (normN (wrap64 (na * nb)) (sa + sb)) (normC (wrap64 (na * nb)) (sa + sb)) = true then .tuple #[V 3 (normN (wrap64 (na * nb)) (sa + sb)) (normC (wrap64 (na * nb)) (sa + sb)) ⟨#[]⟩, .int .i64 0] else .tuple #[V 0 0 0 ⟨#[]⟩, .int .i64 10]
theorem right_dec0 (n s : Int) : rightB 3 n s ⟨#[]⟩ = rdB n s := by
  unfold rightB; rw [if_neg (by decide), if_neg (by decide), if_neg (by decide), if_pos rfl, show decide ((⟨#[]⟩ : ByteArray).toList = []) = true by decide +kernel, Bool.true_and]

set_option maxHeartbeats 4000000 in
set_option maxRecDepth 100000 in
theorem rdecs_mul (na sa nb sb : Int) (w : World) (hna : Is64 na) (hnb : Is64 nb) (ha : 0 ≤ sa ∧ sa ≤ 6) (hb : 0 ≤ sb ∧ sb ≤ 6) :
    Calls Try.prog 55 #[.int .i64 6, V 3 na sa ⟨#[]⟩, V 3 nb sb ⟨#[]⟩] w fun e w' => e = .returned (mulT na sa nb sb) ∧ Below w.heap.size w w' := by
  have CT := hide (fun W => rtimes_any na nb W hna hnb)
  have CN := hide (fun W => rnorm_any 3 (wrap64 (na * nb)) (sa + sb) ⟨#[]⟩ W (wrap64_bd _) (by unfold Is64; omega))
  rw [show nN 3 (wrap64 (na * nb)) (sa + sb) = normN (wrap64 (na * nb)) (sa + sb) from if_pos rfl, show nS 3 (wrap64 (na * nb)) (sa + sb) = normC (wrap64 (na * nb)) (sa + sb) from if_pos rfl] at CN
  have CR := hide (fun W => rright_any 3 (normN (wrap64 (na * nb)) (sa + sb)) (normC (wrap64 (na * nb)) (sa + sb)) ⟨#[]⟩ W (by decide))
  rw [right_dec0] at CR
  unfold mulT
  clear hna hnb
  generalize normN (wrap64 (na * nb)) (sa + sb) = n1 at *
  generalize normC (wrap64 (na * nb)) (sa + sb) = s1 at *
  generalize wrap64 (na * nb) = c at *
  generalize rdB n1 s1 = rr at *
  generalize inI (na * nb) = ii at *
  obtain ⟨Z, hZ⟩ : ∃ Z : Value, (if ii = true ∧ rr = true then .tuple #[V 3 n1 s1 ⟨#[]⟩, .int .i64 0] else .tuple #[V 0 0 0 ⟨#[]⟩, .int .i64 10]) = Z := ⟨_, rfl⟩
  rw [hZ]
  have HZ := hide hZ
  clear hZ
  have hA := hide (four_more (four_more (four_alloc (.int .i64 3) (.int .i64 na) (.int .i64 sa) (.string ⟨#[]⟩) 28 w) (.cells #[.int .i64 3, .int .i64 nb, .int .i64 sb, .string ⟨#[]⟩] 28)) (.cells #[.int .i64 0, .int .i64 0, .int .i64 0, .string ⟨#[]⟩] 28))
  have hB := four_more (four_alloc (.int .i64 3) (.int .i64 nb) (.int .i64 sb) (.string ⟨#[]⟩) 28 (w.alloc (.cells #[.int .i64 3, .int .i64 na, .int .i64 sa, .string ⟨#[]⟩] 28))) (.cells #[.int .i64 0, .int .i64 0, .int .i64 0, .string ⟨#[]⟩] 28)
  have hR := four_alloc (.int .i64 0) (.int .i64 0) (.int .i64 0) (.string ⟨#[]⟩) 28 ((w.alloc (.cells #[.int .i64 3, .int .i64 na, .int .i64 sa, .string ⟨#[]⟩] 28)).alloc (.cells #[.int .i64 3, .int .i64 nb, .int .i64 sb, .string ⟨#[]⟩] 28))
  simp only [World.size_alloc] at hB hR
  replace hB := hide hB
  replace hR := hide hR
  have hL := hide ((((Below.refl _ w).alloc (Nat.le_refl _) (.cells #[.int .i64 3, .int .i64 na, .int .i64 sa, .string ⟨#[]⟩] 28)).alloc (by simp) (.cells #[.int .i64 3, .int .i64 nb, .int .i64 sb, .string ⟨#[]⟩] 28)).alloc (by simp; omega) (.cells #[.int .i64 0, .int .i64 0, .int .i64 0, .string ⟨#[]⟩] 28))
  go_enter Try.func55, Try.ntmps55
  go_wp2_with (go_at_call 74; refine (unhide CT _).mono ?_; rintro e w' ⟨rfl, rfl⟩)
  refine (unhide CN _).mono ?_
  rintro e w1 ⟨rfl, hb1⟩
  replace hA := hide (four_call (unhide hA) hb1)
  replace hB := hide (four_call (unhide hB) hb1)
  replace hR := hide (four_call (unhide hR) hb1)
  replace hL := hide ((unhide hL).trans (hb1.mono (unhide hL).size))
  clear hb1
  have hV := hide (four_alloc (.int .i64 3) (.int .i64 n1) (.int .i64 s1) (.string ⟨#[]⟩) 28 w1)
  replace hR := hide (four_more (unhide hR) (.cells #[.int .i64 3, .int .i64 n1, .int .i64 s1, .string ⟨#[]⟩] 28))
  replace hL := hide ((unhide hL).alloc (unhide hL).size (.cells #[.int .i64 3, .int .i64 n1, .int .i64 s1, .string ⟨#[]⟩] 28))
  cases ii
  · clear hA hB hV
    obtain ⟨-, r0, r1, r2, r3, r4, r5, r6, r7⟩ := unhide hR
    go_wp2_with fail
    exact bodyPost_ret (v := .tuple #[V 0 0 0 ⟨#[]⟩, .int .i64 10]) (by simp [results, Try.results55, go_sem, r0, r1, r2, r3]) rfl ⟨(by rw [← unhide HZ]; simp), (unhide hL).trans ((below_set4 (w.heap.size + 1 + 1) _ _ _ _ _).mono (by omega))⟩
  · go_wp2_with fail
    refine (unhide CR _).mono ?_
    rintro e w2 ⟨rfl, hb2⟩
    replace hR := hide (four_call (unhide hR) hb2)
    replace hV := hide (four_call (unhide hV) hb2)
    replace hL := hide ((unhide hL).trans (hb2.mono (unhide hL).size))
    clear hb2
    cases rr
    · clear hA hB hV
      obtain ⟨-, r0, r1, r2, r3, r4, r5, r6, r7⟩ := unhide hR
      go_wp2_with fail
      exact bodyPost_ret (v := .tuple #[V 0 0 0 ⟨#[]⟩, .int .i64 10]) (by simp [results, Try.results55, go_sem, r0, r1, r2, r3]) rfl ⟨(by rw [← unhide HZ]; simp), (unhide hL).trans ((below_set4 (w.heap.size + 1 + 1) _ _ _ _ _).mono (by omega))⟩
    · clear hA hB
      obtain ⟨-, v0, v1, v2, v3, v4, v5, v6, v7⟩ := unhide hV
      obtain ⟨-, r0, r1, r2, r3, r4, r5, r6, r7⟩ := unhide hR
      go_wp2_with fail
      exact bodyPost_ret (v := .tuple #[V 3 n1 s1 ⟨#[]⟩, .int .i64 0]) (by simp [results, Try.results55, go_sem, r0, r1, r2, r3]) rfl ⟨(by rw [← unhide HZ]; simp), (unhide hL).trans ((below_set4 (w.heap.size + 1 + 1) _ _ _ _ _).mono (by omega))⟩


set_option maxHeartbeats 4000000 in
set_option maxRecDepth 100000 in
theorem rdecs_7 (na sa nb sb : Int) (w : World) (hna : na.natAbs < 1000000000000000) (hnb : nb.natAbs < 1000000000000000) (ha : 0 ≤ sa ∧ sa ≤ 6) (hb : 0 ≤ sb ∧ sb ≤ 6) :
    Calls Try.prog 55 #[.int .i64 7, V 3 na sa ⟨#[]⟩, V 3 nb sb ⟨#[]⟩] w fun e w' => e = .returned (fineT (mil na sa + mil nb sb)) ∧ Below w.heap.size w w' := by
  have CA := hide (fun W => parts_any 3 na sa ⟨#[]⟩ W hna ha.1 ha.2)
  have CB := hide (fun W => parts_any 3 nb sb ⟨#[]⟩ W hnb hb.1 hb.2)
  have a1 := fl_bd (s := sa) hna
  have a2 := fr_bd (n := na) ha.1 ha.2
  have b1 := fl_bd (s := sb) hnb
  have b2 := fr_bd (n := nb) hb.1 hb.2
  have e1 : (fl na sa + fl nb sb) * 1000000 + (fr na sa + fr nb sb) = mil na sa + mil nb sb := by
    rw [fl_fr (n := na) ha.1 ha.2, fl_fr (n := nb) hb.1 hb.2]; omega
  have CF := hide (fun W => fine_any (fl na sa + fl nb sb) (fr na sa + fr nb sb) W (by omega) (by omega))
  rw [e1] at CF
  obtain ⟨tk, tn, ts, te, ht⟩ := fineT_is (mil na sa + mil nb sb)
  rw [ht] at CF
  rw [ht]
  clear ht e1
  generalize fl na sa = p1 at *
  generalize fr na sa = q1 at *
  generalize fl nb sb = p2 at *
  generalize fr nb sb = q2 at *
  have hA := hide (four_more (four_more (four_alloc (.int .i64 3) (.int .i64 na) (.int .i64 sa) (.string ⟨#[]⟩) 28 w) (.cells #[.int .i64 3, .int .i64 nb, .int .i64 sb, .string ⟨#[]⟩] 28)) (.cells #[.int .i64 0, .int .i64 0, .int .i64 0, .string ⟨#[]⟩] 28))
  have hB := four_more (four_alloc (.int .i64 3) (.int .i64 nb) (.int .i64 sb) (.string ⟨#[]⟩) 28 (w.alloc (.cells #[.int .i64 3, .int .i64 na, .int .i64 sa, .string ⟨#[]⟩] 28))) (.cells #[.int .i64 0, .int .i64 0, .int .i64 0, .string ⟨#[]⟩] 28)
  have hR := four_alloc (.int .i64 0) (.int .i64 0) (.int .i64 0) (.string ⟨#[]⟩) 28 ((w.alloc (.cells #[.int .i64 3, .int .i64 na, .int .i64 sa, .string ⟨#[]⟩] 28)).alloc (.cells #[.int .i64 3, .int .i64 nb, .int .i64 sb, .string ⟨#[]⟩] 28))
  simp only [World.size_alloc] at hB hR
  replace hB := hide hB
  replace hR := hide hR
  have hL := hide ((((Below.refl _ w).alloc (Nat.le_refl _) (.cells #[.int .i64 3, .int .i64 na, .int .i64 sa, .string ⟨#[]⟩] 28)).alloc (by simp) (.cells #[.int .i64 3, .int .i64 nb, .int .i64 sb, .string ⟨#[]⟩] 28)).alloc (by simp; omega) (.cells #[.int .i64 0, .int .i64 0, .int .i64 0, .string ⟨#[]⟩] 28))
  go_enter Try.func55, Try.ntmps55
  go_wp2_with fail
  refine (unhide CA _).mono ?_
  rintro e w3 ⟨rfl, hb3⟩
  replace hA := hide (four_call (unhide hA) hb3)
  replace hB := hide (four_call (unhide hB) hb3)
  replace hR := hide (four_call (unhide hR) hb3)
  replace hL := hide ((unhide hL).trans (hb3.mono (unhide hL).size))
  clear hb3
  obtain ⟨-, b0, b1, b2, b3, b4, b5, b6, b7⟩ := unhide hB
  go_wp2_with fail
  clear b0 b1 b2 b3 b4 b5 b6 b7
  refine (unhide CB _).mono ?_
  rintro e w4 ⟨rfl, hb4⟩
  replace hR := hide (four_call (unhide hR) hb4)
  replace hL := hide ((unhide hL).trans (hb4.mono (unhide hL).size))
  clear hb4
  go_wp2_with fail
  refine (unhide CF _).mono ?_
  rintro e w5 ⟨rfl, hb5⟩
  replace hR := hide (four_call (unhide hR) hb5)
  replace hL := hide ((unhide hL).trans (hb5.mono (unhide hL).size))
  clear hb5
  clear hA hB
  obtain ⟨-, r0, r1, r2, r3, r4, r5, r6, r7⟩ := unhide hR
  go_wp2_with fail
  exact bodyPost_ret (v := .tuple #[V tk tn ts ⟨#[]⟩, .int .i64 te]) (by simp [results, Try.results55, go_sem, r0, r1, r2, r3]) rfl ⟨rfl, (unhide hL).trans ((below_set4 (w.heap.size + 1 + 1) _ _ _ _ _).mono (by omega))⟩

set_option maxHeartbeats 4000000 in
set_option maxRecDepth 100000 in
theorem rdecs_8 (na sa nb sb : Int) (w : World) (hna : na.natAbs < 1000000000000000) (hnb : nb.natAbs < 1000000000000000) (ha : 0 ≤ sa ∧ sa ≤ 6) (hb : 0 ≤ sb ∧ sb ≤ 6) :
    Calls Try.prog 55 #[.int .i64 8, V 3 na sa ⟨#[]⟩, V 3 nb sb ⟨#[]⟩] w fun e w' => e = .returned (fineT (mil na sa - mil nb sb)) ∧ Below w.heap.size w w' := by
  have CA := hide (fun W => parts_any 3 na sa ⟨#[]⟩ W hna ha.1 ha.2)
  have CB := hide (fun W => parts_any 3 nb sb ⟨#[]⟩ W hnb hb.1 hb.2)
  have a1 := fl_bd (s := sa) hna
  have a2 := fr_bd (n := na) ha.1 ha.2
  have b1 := fl_bd (s := sb) hnb
  have b2 := fr_bd (n := nb) hb.1 hb.2
  have e1 : (fl na sa - fl nb sb) * 1000000 + (fr na sa - fr nb sb) = mil na sa - mil nb sb := by
    rw [fl_fr (n := na) ha.1 ha.2, fl_fr (n := nb) hb.1 hb.2]; omega
  have CF := hide (fun W => fine_any (fl na sa - fl nb sb) (fr na sa - fr nb sb) W (by omega) (by omega))
  rw [e1] at CF
  obtain ⟨tk, tn, ts, te, ht⟩ := fineT_is (mil na sa - mil nb sb)
  rw [ht] at CF
  rw [ht]
  clear ht e1
  generalize fl na sa = p1 at *
  generalize fr na sa = q1 at *
  generalize fl nb sb = p2 at *
  generalize fr nb sb = q2 at *
  have hA := hide (four_more (four_more (four_alloc (.int .i64 3) (.int .i64 na) (.int .i64 sa) (.string ⟨#[]⟩) 28 w) (.cells #[.int .i64 3, .int .i64 nb, .int .i64 sb, .string ⟨#[]⟩] 28)) (.cells #[.int .i64 0, .int .i64 0, .int .i64 0, .string ⟨#[]⟩] 28))
  have hB := four_more (four_alloc (.int .i64 3) (.int .i64 nb) (.int .i64 sb) (.string ⟨#[]⟩) 28 (w.alloc (.cells #[.int .i64 3, .int .i64 na, .int .i64 sa, .string ⟨#[]⟩] 28))) (.cells #[.int .i64 0, .int .i64 0, .int .i64 0, .string ⟨#[]⟩] 28)
  have hR := four_alloc (.int .i64 0) (.int .i64 0) (.int .i64 0) (.string ⟨#[]⟩) 28 ((w.alloc (.cells #[.int .i64 3, .int .i64 na, .int .i64 sa, .string ⟨#[]⟩] 28)).alloc (.cells #[.int .i64 3, .int .i64 nb, .int .i64 sb, .string ⟨#[]⟩] 28))
  simp only [World.size_alloc] at hB hR
  replace hB := hide hB
  replace hR := hide hR
  have hL := hide ((((Below.refl _ w).alloc (Nat.le_refl _) (.cells #[.int .i64 3, .int .i64 na, .int .i64 sa, .string ⟨#[]⟩] 28)).alloc (by simp) (.cells #[.int .i64 3, .int .i64 nb, .int .i64 sb, .string ⟨#[]⟩] 28)).alloc (by simp; omega) (.cells #[.int .i64 0, .int .i64 0, .int .i64 0, .string ⟨#[]⟩] 28))
  go_enter Try.func55, Try.ntmps55
  go_wp2_with fail
  refine (unhide CA _).mono ?_
  rintro e w6 ⟨rfl, hb6⟩
  replace hA := hide (four_call (unhide hA) hb6)
  replace hB := hide (four_call (unhide hB) hb6)
  replace hR := hide (four_call (unhide hR) hb6)
  replace hL := hide ((unhide hL).trans (hb6.mono (unhide hL).size))
  clear hb6
  obtain ⟨-, b0, b1, b2, b3, b4, b5, b6, b7⟩ := unhide hB
  go_wp2_with fail
  clear b0 b1 b2 b3 b4 b5 b6 b7
  refine (unhide CB _).mono ?_
  rintro e w7 ⟨rfl, hb7⟩
  replace hR := hide (four_call (unhide hR) hb7)
  replace hL := hide ((unhide hL).trans (hb7.mono (unhide hL).size))
  clear hb7
  go_wp2_with fail
  refine (unhide CF _).mono ?_
  rintro e w8 ⟨rfl, hb8⟩
  replace hR := hide (four_call (unhide hR) hb8)
  replace hL := hide ((unhide hL).trans (hb8.mono (unhide hL).size))
  clear hb8
  clear hA hB
  obtain ⟨-, r0, r1, r2, r3, r4, r5, r6, r7⟩ := unhide hR
  go_wp2_with fail
  exact bodyPost_ret (v := .tuple #[V tk tn ts ⟨#[]⟩, .int .i64 te]) (by simp [results, Try.results55, go_sem, r0, r1, r2, r3]) rfl ⟨rfl, (unhide hL).trans ((below_set4 (w.heap.size + 1 + 1) _ _ _ _ _).mono (by omega))⟩
end Go.Proofs.Ytphnpcidndmlnaa
