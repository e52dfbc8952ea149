/-
  The statements' known.
-/
import Derived.Test.YtbojfiflemmgaaaRTa
namespace Go.Proofs.Ytbojfiflemmgaaa
open Go.RowKit
set_option linter.unusedSimpArgs false
set_option linter.unusedVariables false

theorem sees_slices {q : Q5} {n : Nd} {W : World} (h : SeesN q n W) : (∃ p c, q.lv = .slice p n.log.length c) ∧ (∃ p c, q.vv = .slice p n.votes.length c) ∧ (∃ p c, q.nv = .slice p n.next.length c) ∧ (∃ p c, q.mv = .slice p n.mat.length c) ∧ (∃ p c, q.fv = .slice p n.forms.length c) := by
  obtain ⟨⟨p1, c1, e1, _⟩, ⟨p2, c2, e2, _⟩, ⟨p3, c3, e3, _⟩, ⟨p4, c4, e4, _⟩, ⟨p5, c5, e5, _⟩⟩ := h
  exact ⟨⟨p1, c1, e1⟩, ⟨p2, c2, e2⟩, ⟨p3, c3, e3⟩, ⟨p4, c4, e4⟩, ⟨p5, c5, e5⟩⟩
theorem sees_grown {s g : Nat} {v : Value} {n : Nat} {cs : List Value} {W W' : World} (h : Sees s v n cs W) (hg : W.grownBy W' (some g)) (hne : v.ownBlock ≠ some g) : Sees s v n cs W' :=
  h.keep fun k hk hl => hg.block k hl fun e => hne (by rw [hk, e])
theorem seesN_grown {g : Nat} {q : Q5} {n : Nd} {W W' : World} (h : SeesN q n W) (hg : W.grownBy W' (some g)) (hne : ¬ Foot5 q g) : SeesN q n W' :=
  ⟨sees_grown h.log hg fun e => hne (.inl e), sees_grown h.votes hg fun e => hne (.inr (.inl e)), sees_grown h.next hg fun e => hne (.inr (.inr (.inl e))), sees_grown h.mat hg fun e => hne (.inr (.inr (.inr (.inl e)))), sees_grown h.forms hg fun e => hne (.inr (.inr (.inr (.inr e))))⟩
set_option maxRecDepth 100000 in
set_option maxHeartbeats 8000000 in
theorem known8_any (w : World) : Calls Try.prog 12 #[] w fun e w' => e = .returned (.bool true) ∧ Below w.heap.size w w' := by
  have N1 := hide (fun W => (new_any 0 3 1 W (by omega) (by omega) (by omega) : Calls Try.prog 21 #[.int .i64 0, .int .i64 3, .int .i64 1] W _))
  have N2 := hide (fun W => (new_any 0 1 2 W (by omega) (by omega) (by omega) : Calls Try.prog 21 #[.int .i64 0, .int .i64 1, .int .i64 2] W _))
  obtain ⟨na, hna⟩ : ∃ na, newM 0 3 1 = na := ⟨_, rfl⟩
  obtain ⟨nb, hnb⟩ : ∃ nb, newM 0 1 2 = nb := ⟨_, rfl⟩
  rw [hna] at N1
  rw [hnb] at N2
  go_enter Try.func12, Try.ntmps12
  go_wp2_with (first
    | (go_at_call 21; refine (unhide N1 _).mono ?_; rintro e W1 ⟨q1, rfl, O1⟩; obtain ⟨⟨g1, y1, j1⟩, ⟨g2, y2, j2⟩, ⟨g3, y3, j3⟩, ⟨g4, y4, j4⟩, ⟨g5, y5, j5⟩⟩ := rows_slices O1.rows; obtain ⟨lq, vq, nq, mq, fq⟩ := q1; simp only at j1 j2 j3 j4 j5; subst j1 j2 j3 j4 j5; have HO1 := hide O1; clear O1 N1)
    | (go_at_call 21; refine (unhide N2 _).mono ?_; rintro e W2 ⟨q2, rfl, O2⟩; obtain ⟨⟨i1, z1, l1⟩, ⟨i2, z2, l2⟩, ⟨i3, z3, l3⟩, ⟨i4, z4, l4⟩, ⟨i5, z5, l5⟩⟩ := rows_slices O2.rows; obtain ⟨lq, vq, nq, mq, fq⟩ := q2; simp only at l1 l2 l3 l4 l5; subst l1 l2 l3 l4 l5; have HO2 := hide O2; clear O2 N2))
  have b1 := (unhide HO1).below
  have b2 := Below.onto b1 (below_new W1 (.cells #[nI na.id, nI na.term, .int .i64 na.vote, .slice g1 na.log.length y1, nI na.form, nI na.role, nI na.commit, .slice g2 na.votes.length y2, .slice g3 na.next.length y3, .slice g4 na.mat.length y4, .slice g5 na.forms.length y5, nI na.clock, nI na.due] 32))
  have b3 := Below.onto b2 (unhide HO2).below
  have b4 := hide (Below.onto b3 (below_new W2 (.cells #[nI nb.id, nI nb.term, .int .i64 nb.vote, .slice i1 nb.log.length z1, nI nb.form, nI nb.role, nI nb.commit, .slice i2 nb.votes.length z2, .slice i3 nb.next.length z3, .slice i4 nb.mat.length z4, .slice i5 nb.forms.length z5, nI nb.clock, nI nb.due] 32)))
  have KA := hide (((Blk.new W1 #[nI na.id, nI na.term, .int .i64 na.vote, .slice g1 na.log.length y1, nI na.form, nI na.role, nI na.commit, .slice g2 na.votes.length y2, .slice g3 na.next.length y3, .slice g4 na.mat.length y4, .slice g5 na.forms.length y5, nI na.clock, nI na.due] 32).below (unhide HO2).below).below (below_new W2 (.cells #[nI nb.id, nI nb.term, .int .i64 nb.vote, .slice i1 nb.log.length z1, nI nb.form, nI nb.role, nI nb.commit, .slice i2 nb.votes.length z2, .slice i3 nb.next.length z3, .slice i4 nb.mat.length z4, .slice i5 nb.forms.length z5, nI nb.clock, nI nb.due] 32)))
  have KB := hide (Blk.new W2 #[nI nb.id, nI nb.term, .int .i64 nb.vote, .slice i1 nb.log.length z1, nI nb.form, nI nb.role, nI nb.commit, .slice i2 nb.votes.length z2, .slice i3 nb.next.length z3, .slice i4 nb.mat.length z4, .slice i5 nb.forms.length z5, nI nb.clock, nI nb.due] 32)
  have SB := hide ((unhide HO2).rows.sees.below (below_new W2 (.cells #[nI nb.id, nI nb.term, .int .i64 nb.vote, .slice i1 nb.log.length z1, nI nb.form, nI nb.role, nI nb.commit, .slice i2 nb.votes.length z2, .slice i3 nb.next.length z3, .slice i4 nb.mat.length z4, .slice i5 nb.forms.length z5, nI nb.clock, nI nb.due] 32)))
  have hws : Hid (w.heap.size ≤ W1.heap.size ∧ W1.heap.size < W2.heap.size) := hide ⟨b1.size, by have := (unhide HO2).below.size; simp at this; omega⟩
  clear b1 b2 b3 HO1 HO2
  go_loopw [3] (fun i wr => ∃ (k : Nat) (q : Q5), k ≤ 5 ∧ i = .int .i64 (k : Int) ∧ Hid (Blk W2.heap.size (ndA (soleAt k) q) 32 wr) ∧ Hid (SeesN q (soleAt k) wr) ∧ Hid (Blk W1.heap.size #[nI na.id, nI na.term, .int .i64 na.vote, .slice g1 na.log.length y1, nI na.form, nI na.role, nI na.commit, .slice g2 na.votes.length y2, .slice g3 na.next.length y3, .slice g4 na.mat.length y4, .slice g5 na.forms.length y5, nI na.clock, nI na.due] 32 wr) ∧ Hid (Below w.heap.size w wr)) (fun i wr => 5 - (intOf i).toNat)
  case atStart => exact ⟨0, ⟨.slice i1 nb.log.length z1, .slice i2 nb.votes.length z2, .slice i3 nb.next.length z3, .slice i4 nb.mat.length z4, .slice i5 nb.forms.length z5⟩, by omega, rfl, by rw [show soleAt 0 = nb from hnb]; exact KB, by rw [show soleAt 0 = nb from hnb]; exact SB, KA, b4⟩
  case round =>
    clear KA KB SB b4
    obtain ⟨k, q, hk, rfl, HK, HS, KA, HB⟩ := hrel
    by_cases hlt : k < 5
    · have hok := sole_ok k hlt
      have hsu : soleAt (k + 1) = (tickM (soleAt k)).1 := rfl
      obtain ⟨n, hn⟩ : ∃ n, soleAt k = n := ⟨_, rfl⟩
      rw [hn] at HK HS hok hsu
      have TK := hide (tickC_any q n wr (unhide HS) hok)
      obtain ⟨n', hn'⟩ : ∃ n', (tickM n).1 = n' := ⟨_, rfl⟩
      obtain ⟨ms, hms⟩ : ∃ ms, (tickM n).2 = ms := ⟨_, rfl⟩
      rw [hn', hms] at TK
      rw [hn'] at hsu
      obtain ⟨⟨g1, y1, j1⟩, ⟨g2, y2, j2⟩, ⟨g3, y3, j3⟩, ⟨g4, y4, j4⟩, ⟨g5, y5, j5⟩⟩ := sees_slices (unhide HS)
      obtain ⟨lq, vq, nq, mq, fq⟩ := q
      simp only at j1 j2 j3 j4 j5
      subst j1 j2 j3 j4 j5
      obtain ⟨b0, b1, b2, b3, b4, b5, b6, b7, b8, b9, b10, b11, b12⟩ := (unhide HK).box13
      have kl_ := (unhide HK).lt
      have hnx : IntKind.i64.wrap ((k : Int) + 1) = ((k + 1 : Nat) : Int) := (IntWalk.i64_in _ (by omega)).trans (by omega)
      clear hok hn hms
      have hsu' := hide hsu
      have hn2 := hide hn'
      clear hsu hn'
      go_wp2_with (go_at_call 18; refine (unhide TK).mono ?_; rintro e W3 ⟨q', sv, es, rfl, O⟩; obtain ⟨⟨p1, c1, k1⟩, ⟨p2, c2, k2⟩, ⟨p3, c3, k3⟩, ⟨p4, c4, k4⟩, ⟨p5, c5, k5⟩⟩ := rows_slices O.rows; obtain ⟨lq', vq', nq', mq', fq'⟩ := q'; simp only at k1 k2 k3 k4 k5; subst k1 k2 k3 k4 k5; obtain ⟨m6, y6, l6⟩ := own_slice O.sent.row; subst l6; have HO := hide O; have hb_ := (unhide HK).below O.below; have kl_ := hb_.lt; have kz_ := hb_.froz; have x0_ := hb_.cell 0; have x1_ := hb_.cell 1; have x2_ := hb_.cell 2; have x3_ := hb_.cell 3; have x4_ := hb_.cell 4; have x5_ := hb_.cell 5; have x6_ := hb_.cell 6; have x7_ := hb_.cell 7; have x8_ := hb_.cell 8; have x9_ := hb_.cell 9; have x10_ := hb_.cell 10; have x11_ := hb_.cell 11; have x12_ := hb_.cell 12; simp at x0_ x1_ x2_ x3_ x4_ x5_ x6_ x7_ x8_ x9_ x10_ x11_ x12_; clear O)
      obtain ⟨wb, wg⟩ := whole_set (cs := ndA n' ⟨.slice p1 n'.log.length c1, .slice p2 n'.votes.length c2, .slice p3 n'.next.length c3, .slice p4 n'.mat.length c4, .slice p5 n'.forms.length c5⟩) hb_ rfl
      have hO := unhide HO
      have hlt2 := (unhide HK).lt
      have hnf : ¬ Foot5 ⟨.slice p1 n'.log.length c1, .slice p2 n'.votes.length c2, .slice p3 n'.next.length c3, .slice p4 n'.mat.length c4, .slice p5 n'.forms.length c5⟩ W2.heap.size := fun h => by have := hO.new _ (.inl h); omega
      have R1 := hide (seesN_grown hO.rows.sees wg hnf)
      have R2 := hide (((unhide KA).below hO.below).grown wg (by have := (unhide hws).2; omega))
      have R3 := hide (below_grown (Below.onto (unhide HB) hO.below) wg (by have := unhide hws; omega) (by have := (unhide HB).size; have := hO.below.size; omega))
      have R0 := hide wb
      clear wb wg hO hlt2 hnf x0_ x1_ x2_ x3_ x4_ x5_ x6_ x7_ x8_ x9_ x10_ x11_ x12_
      go_roundw
      case rel => exact ⟨k + 1, ⟨.slice p1 n'.log.length c1, .slice p2 n'.votes.length c2, .slice p3 n'.next.length c3, .slice p4 n'.mat.length c4, .slice p5 n'.forms.length c5⟩, by omega, by go_num, by rw [unhide hsu']; exact R0, by rw [unhide hsu']; exact R1, R2, R3⟩
      case measure => simp [intOf] <;> omega
    · obtain rfl : k = 5 := by omega
      obtain ⟨⟨g1', y1', j1⟩, ⟨g2', y2', j2⟩, ⟨g3', y3', j3⟩, ⟨g4', y4', j4⟩, ⟨g5', y5', j5⟩⟩ := sees_slices (unhide HS)
      obtain ⟨lq, vq, nq, mq, fq⟩ := q
      simp only at j1 j2 j3 j4 j5
      subst j1 j2 j3 j4 j5
      have a5 : wr.cell? ⟨W1.heap.size, 5, none⟩ = some (.int .i64 0) := ((unhide KA).cell 5).trans (by rw [← hna]; rfl)
      have a2 : wr.cell? ⟨W1.heap.size, 2, none⟩ = some (.int .i64 (-1)) := ((unhide KA).cell 2).trans (by rw [← hna]; rfl)
      have a12 : wr.cell? ⟨W1.heap.size, 12, none⟩ = some (.int .i64 5) := ((unhide KA).cell 12).trans (by rw [← hna]; rfl)
      have a8 : wr.cell? ⟨W1.heap.size, 8, none⟩ = some (.slice g3 3 y3) := ((unhide KA).cell 8).trans (by rw [← hna]; rfl)
      have d5 : wr.cell? ⟨W2.heap.size, 5, none⟩ = some (.int .i64 2) := ((unhide HK).cell 5).trans (by rfl)
      have d1 : wr.cell? ⟨W2.heap.size, 1, none⟩ = some (.int .i64 1) := ((unhide HK).cell 1).trans (by rfl)
      have d3 : wr.cell? ⟨W2.heap.size, 3, none⟩ = some (.slice g1' 1 y1') := ((unhide HK).cell 3).trans (by rfl)
      have d6 : wr.cell? ⟨W2.heap.size, 6, none⟩ = some (.int .i64 1) := ((unhide HK).cell 6).trans (by rfl)
      have HKl := (unhide HK).lt
      have KAl := (unhide KA).lt
      go_wp2
      go_ret
      exact ⟨rfl, unhide HB⟩
end Go.Proofs.Ytbojfiflemmgaaa
