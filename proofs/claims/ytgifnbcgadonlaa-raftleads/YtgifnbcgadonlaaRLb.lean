/-
  RaftLeads: the walk.
-/
import Derived.Test.YtgifnbcgadonlaaRLd
namespace Go.Proofs.Ytgifnbcgadonlaa
open Go.RowKit
set_option linter.unusedSimpArgs false
set_option linter.unusedVariables false

set_option maxRecDepth 100000 in
set_option maxHeartbeats 8000000 in
theorem raftLeads_any (size : Int) (v : Value) (zs : List Int) (w : World) (h0 : Is64 size) (hzs : Ints v zs w) : Calls Try.prog 8 #[.int .i64 size, v] w fun e w' => e = .returned (.bool true) ∧ Below w.heap.size w w' := by
  obtain ⟨s, hs⟩ : ∃ s : Nat, size % 4 = s := ⟨(size % 4).toNat, by omega⟩
  have hs4 : s < 4 := by omega
  obtain ⟨k, hk⟩ : ∃ k : Nat, k = 2 + s := ⟨_, rfl⟩
  have hkz : IntKind.i64.wrap (2 + (s : Int)) = (k : Int) := (IntWalk.i64_in _ (by omega)).trans (by omega)
  have WS := hide (fun W => (within8_is h0 (by omega) hs W : Calls Try.prog 14 #[.int .i64 size, .int .i64 4] W _))
  have NW := hide (fun W => (new_any 0 k 1 W (by omega) (by omega) (by omega) : Calls Try.prog 21 #[.int .i64 0, .int .i64 (k : Int), .int .i64 1] W _))
  have KN := hide (fun W => known8_any W)
  have hk5 : k ≤ 5 := by omega
  have hk2 : 2 ≤ k := by omega
  obtain ⟨na, hna⟩ : ∃ na, newM 0 k 1 = na := ⟨_, rfl⟩
  rw [hna] at NW
  obtain ⟨pz, cz, hvz, hz⟩ := hzs.parts
  subst hvz
  have HZ := hide hz
  clear hs hk h0 hz hzs
  go_enter Try.func8, Try.ntmps8
  go_wp2_with (first
    | (go_at_call 12; refine (unhide KN _).mono ?_; rintro e W1 ⟨rfl, hb1⟩; have HB1 := hide hb1; clear hb1)
    | (go_at_call_of 14 (Value.int IntKind.i64 size); refine (unhide WS _).mono ?_; rintro e W2 ⟨rfl, hW2⟩; replace hW2 := hW2.symm; subst hW2)
    | (go_at_call 21; refine (unhide NW _).mono ?_; rintro e W2 ⟨q1, rfl, O1⟩; obtain ⟨⟨g1, y1, j1⟩, ⟨g2, y2, j2⟩, ⟨g3, y3, j3⟩, ⟨g4, y4, j4⟩, ⟨g5, y5, j5⟩⟩ := rows_slices O1.rows; obtain ⟨lq, vq, nq, mq, fq⟩ := q1; simp only at j1 j2 j3 j4 j5; subst j1 j2 j3 j4 j5; have HO1 := hide O1; clear O1 NW))
  have b1 := unhide HB1
  have b2 := Below.onto b1 (unhide HO1).below
  have b4 := hide (Below.onto b2 (below_new W2 (.cells #[nI na.id, nI na.term, .int .i64 na.vote, .slice g1 na.log.length y1, nI na.form, nI na.role, nI na.commit, .slice g2 na.votes.length y2, .slice g3 na.next.length y3, .slice g4 na.mat.length y4, .slice g5 na.forms.length y5, nI na.clock, nI na.due] 32)))
  have KB := hide (Blk.new W2 #[nI na.id, nI na.term, .int .i64 na.vote, .slice g1 na.log.length y1, nI na.form, nI na.role, nI na.commit, .slice g2 na.votes.length y2, .slice g3 na.next.length y3, .slice g4 na.mat.length y4, .slice g5 na.forms.length y5, nI na.clock, nI na.due] 32)
  have SB := hide ((unhide HO1).rows.sees.below (below_new W2 (.cells #[nI na.id, nI na.term, .int .i64 na.vote, .slice g1 na.log.length y1, nI na.form, nI na.role, nI na.commit, .slice g2 na.votes.length y2, .slice g3 na.next.length y3, .slice g4 na.mat.length y4, .slice g5 na.forms.length y5, nI na.clock, nI na.due] 32)))
  have hws : Hid (w.heap.size ≤ W2.heap.size) := hide b2.size
  clear b1 b2 HB1 HO1
  go_loopw [7] (fun i wr => ∃ (t : Nat) (q : Q5), t ≤ 5 ∧ i = .int .i64 (t : Int) ∧ Hid (Blk W2.heap.size (ndA (aloneAt k t) q) 32 wr) ∧ Hid (SeesN q (aloneAt k t) wr) ∧ Hid (Below w.heap.size w wr)) (fun i wr => 5 - (intOf i).toNat)
  case atStart => exact ⟨0, ⟨.slice g1 na.log.length y1, .slice g2 na.votes.length y2, .slice g3 na.next.length y3, .slice g4 na.mat.length y4, .slice g5 na.forms.length y5⟩, by omega, rfl, by rw [show aloneAt k 0 = na from hna]; exact KB, by rw [show aloneAt k 0 = na from hna]; exact SB, b4⟩
  case round =>
    clear KB SB b4
    obtain ⟨t, q, ht, rfl, HK, HS, HB⟩ := hrel
    by_cases hlt : t < 5
    · have hok := (alone_wait k t hlt).ok (by omega) hk5 (by omega)
      have hsu : aloneAt k (t + 1) = (tickM (aloneAt k t)).1 := rfl
      obtain ⟨n, hn⟩ : ∃ n, aloneAt k t = n := ⟨_, rfl⟩
      rw [hn] at HK HS hok hsu
      have TK := hide (tickC_any q n wr (unhide HS) hok)
      obtain ⟨n', hn'⟩ : ∃ n', (tickM n).1 = n' := ⟨_, rfl⟩
      obtain ⟨ms, hms⟩ : ∃ ms, (tickM n).2 = ms := ⟨_, rfl⟩
      rw [hn', hms] at TK
      rw [hn'] at hsu
      obtain ⟨⟨g1, y1, j1⟩, ⟨g2, y2, j2⟩, ⟨g3, y3, j3⟩, ⟨g4, y4, j4⟩, ⟨g5, y5, j5⟩⟩ := sees_slices (unhide HS)
      obtain ⟨lq, vq, nq, mq, fq⟩ := q
      simp only at j1 j2 j3 j4 j5
      subst j1 j2 j3 j4 j5
      obtain ⟨b0, b1, b2, b3, b4, b5, b6, b7, b8, b9, b10, b11, b12⟩ := (unhide HK).box13
      have kl_ := (unhide HK).lt
      have hnx : IntKind.i64.wrap ((t : Int) + 1) = ((t + 1 : Nat) : Int) := (IntWalk.i64_in _ (by omega)).trans (by omega)
      clear hok hn hms
      have hsu' := hide hsu
      have hn2 := hide hn'
      clear hsu hn'
      go_wp2_with (go_at_call 18; refine (unhide TK).mono ?_; rintro e W3 ⟨q', sv, es, rfl, O⟩; obtain ⟨⟨p1, c1, k1⟩, ⟨p2, c2, k2⟩, ⟨p3, c3, k3⟩, ⟨p4, c4, k4⟩, ⟨p5, c5, k5⟩⟩ := rows_slices O.rows; obtain ⟨lq', vq', nq', mq', fq'⟩ := q'; simp only at k1 k2 k3 k4 k5; subst k1 k2 k3 k4 k5; obtain ⟨m6, y6, l6⟩ := own_slice O.sent.row; subst l6; have HO := hide O; have hb_ := (unhide HK).below O.below; have kl_ := hb_.lt; have kz_ := hb_.froz; have x0_ := hb_.cell 0; have x1_ := hb_.cell 1; have x2_ := hb_.cell 2; have x3_ := hb_.cell 3; have x4_ := hb_.cell 4; have x5_ := hb_.cell 5; have x6_ := hb_.cell 6; have x7_ := hb_.cell 7; have x8_ := hb_.cell 8; have x9_ := hb_.cell 9; have x10_ := hb_.cell 10; have x11_ := hb_.cell 11; have x12_ := hb_.cell 12; simp at x0_ x1_ x2_ x3_ x4_ x5_ x6_ x7_ x8_ x9_ x10_ x11_ x12_; clear O)
      obtain ⟨wb, wg⟩ := whole_set (cs := ndA n' ⟨.slice p1 n'.log.length c1, .slice p2 n'.votes.length c2, .slice p3 n'.next.length c3, .slice p4 n'.mat.length c4, .slice p5 n'.forms.length c5⟩) hb_ rfl
      have hO := unhide HO
      have hlt2 := (unhide HK).lt
      have hnf : ¬ Foot5 ⟨.slice p1 n'.log.length c1, .slice p2 n'.votes.length c2, .slice p3 n'.next.length c3, .slice p4 n'.mat.length c4, .slice p5 n'.forms.length c5⟩ W2.heap.size := fun h => by have := hO.new _ (.inl h); omega
      have R1 := hide (seesN_grown hO.rows.sees wg hnf)
      have R3 := hide (below_grown (Below.onto (unhide HB) hO.below) wg (unhide hws) (by have := (unhide HB).size; have := hO.below.size; omega))
      have R0 := hide wb
      clear wb wg hO hlt2 hnf x0_ x1_ x2_ x3_ x4_ x5_ x6_ x7_ x8_ x9_ x10_ x11_ x12_
      go_roundw
      case rel => exact ⟨t + 1, ⟨.slice p1 n'.log.length c1, .slice p2 n'.votes.length c2, .slice p3 n'.next.length c3, .slice p4 n'.mat.length c4, .slice p5 n'.forms.length c5⟩, by omega, by go_num, by rw [unhide hsu']; exact R0, by rw [unhide hsu']; exact R1, R3⟩
      case measure => simp [intOf] <;> omega
    · obtain rfl : t = 5 := by omega
      obtain ⟨cand, hvt⟩ := alone_stood k hk2
      obtain ⟨n, hn⟩ : ∃ n, aloneAt k 5 = n := ⟨_, rfl⟩
      rw [hn] at HK HS cand hvt
      have CD := hide cand
      have VT := hide hvt
      clear hn cand hvt
      obtain ⟨V, hV⟩ : ∃ V, V = wr := ⟨_, rfl⟩
      subst hV
      have HZ1 := hide ((unhide HZ).call (unhide HB))
      have hbl := (unhide HK).lt
      go_wp2
      have KH := hide (Blk.new V (boC [true, false, false, false, false]).toArray 50)
      have HK1 := hide ((unhide HK).below (below_new V (.cells (boC [true, false, false, false, false]).toArray 50)))
      have HS1 := hide ((unhide HS).below (below_new V (.cells (boC [true, false, false, false, false]).toArray 50)))
      have HB1 := hide (Below.onto (unhide HB) (below_new V (.cells (boC [true, false, false, false, false]).toArray 50)))
      have HV : Hid (Voting k 1 n [true, false, false, false, false]) := hide (.inl ⟨unhide CD, fun j hj => by
        rw [unhide VT]
        have hk : k = 2 ∨ k = 3 ∨ k = 4 ∨ k = 5 := by omega
        have hj2 : j = 0 ∨ j = 1 ∨ j = 2 ∨ j = 3 ∨ j = 4 := by omega
        rcases hk with rfl | rfl | rfl | rfl <;> rcases hj2 with rfl | rfl | rfl | rfl | rfl <;> first | rfl | (exfalso; omega)⟩)
      have hbs := hide (unhide HB).size
      clear HK HS HB CD VT
      rw [show ((5 : Nat) : Int) = 5 from rfl]
      go_loopw [9, 10] (fun g i wr => ∃ (c got : Nat) (n : Nd) (q : Q5) (Hs : List Bool), c ≤ 12 ∧ got ≤ 5 ∧ g = nI got ∧ i = nI c ∧ Hid (Blk W2.heap.size (ndA n q) 32 wr) ∧ Hid (SeesN q n wr) ∧ Hid (Blk V.heap.size (boC Hs).toArray 50 wr) ∧ Hid (Hs.length = 5) ∧ Hid (Below w.heap.size w wr) ∧ Hid (Voting k got n Hs)) (fun _ i wr => 13 - (intOf i).toNat)
      case atStart => exact ⟨0, 1, n, q, [true, false, false, false, false], by omega, by omega, rfl, rfl, HK1, HS1, KH, rfl, HB1, HV⟩
      case round =>
        clear HK1 HS1 KH HB1 HV
        obtain ⟨c, got, n, q, Hs, hc, hgot, rfl, rfl, HK, HS, HH, HL, HB, HV⟩ := hrel
        obtain ⟨⟨g1, y1, j1⟩, ⟨g2, y2, j2⟩, ⟨g3, y3, j3⟩, ⟨g4, y4, j4⟩, ⟨g5, y5, j5⟩⟩ := sees_slices (unhide HS)
        obtain ⟨lq, vq, nq, mq, fq⟩ := q
        simp only at j1 j2 j3 j4 j5
        subst j1 j2 j3 j4 j5
        by_cases hlt : c < zs.length ∧ c < 12
        · obtain ⟨hlt1, hlt2⟩ := hlt
          obtain ⟨az, rfl, hz1, hz2, hz3⟩ := ((unhide HZ).call (unhide HB)).2 c hlt1
          obtain ⟨x, hx⟩ : ∃ x : Nat, zs[c] % 1048576 = x := ⟨(zs[c] % 1048576).toNat, by omega⟩
          have hx2 : x < 1048576 := by omega
          have WX := hide (fun W => (within8_is hz3 (by omega) hx W : Calls Try.prog 14 #[.int .i64 zs[c], .int .i64 1048576] W _))
          obtain ⟨L, hL⟩ : ∃ L, k - 1 = L := ⟨_, rfl⟩
          have hkL : IntKind.i64.wrap ((k : Int) - 1) = (L : Int) := (IntWalk.i64_in _ (by omega)).trans (by omega)
          obtain ⟨fr, hfr⟩ : ∃ fr, 1 + x % L = fr := ⟨_, rfl⟩
          have hfr2 : 1 ≤ fr ∧ fr < k := by have := Nat.mod_lt x (show 0 < L by omega); omega
          obtain ⟨b0, b1, b2, b3, b4, b5, b6, b7, b8, b9, b10, b11, b12⟩ := (unhide HK).box13
          have kl_ := (unhide HK).lt
          have hL0 : ¬ (L : Int) = 0 := by omega
          clear hx hz2
          have hsz : k ≤ Hs.length := by rw [unhide HL]; exact hk5
          have hfl : fr < Hs.length := by omega
          have hf5 : (fr : Int) < 5 := by omega
          obtain ⟨hb, hhb⟩ : ∃ hb, Hs[fr]? = some hb := ⟨_, List.getElem?_eq_getElem hfl⟩
          have hHfr : (boC Hs).toArray[fr]? = some (.bool hb) := by simp [boC, hhb]
          have hfrI : 1 + (x : Int) % (L : Int) = (fr : Int) := by rw [← hfr]; simp
          obtain ⟨ok, hok⟩ : ∃ ok, decide ((0 : Int) < (x : Int) / 8 % 4) = ok := ⟨_, rfl⟩
          have hrest_ : True := trivial
          rcases unhide HV with ⟨hcd, hsame⟩ | ⟨hld, hgk⟩
          · have hfew := hcd.few
            have hv0 : n.votes[fr]? = some hb := by rw [← hsame fr hfr2.2]; exact hhb
            cases ok with
            | false =>
              have hokI : ¬ (0 : Int) < (x : Int) / 8 % 4 := of_decide_eq_false hok
              obtain ⟨n', hn'⟩ : ∃ n', n' = n := ⟨_, rfl⟩
              have e : votedM n (vm fr false) = (n', []) := by rw [hn']; exact hcd.no fr
              have VO : Hid (Voting k got n' Hs) := hide (by rw [hn']; exact .inl ⟨hcd, hsame⟩)
              have hro : n'.role = 1 := by rw [hn']; exact hcd.role
              have hlo : n'.log = [] := by rw [hn']; exact hcd.log
              have TH := hide (hear_any k n ⟨.slice g1 n.log.length y1, .slice g2 n.votes.length y2, .slice g3 n.next.length y3, .slice g4 n.mat.length y4, .slice g5 n.forms.length y5⟩ fr false wr n' [] (unhide HS) hcd.el (.inl hcd.log) ⟨hk2, hk5⟩ hfr2 e)
              obtain ⟨id', te', vo', lo', fo', ro', co', vs', ne', ma', fs', ck', du'⟩ := n'
              simp only at hro hlo
              subst hro hlo
              clear e
              clear hn'
              have hwas : ¬ (k : Int) < 2 * (got : Int) := by omega
              have hwad : decide ((k : Int) < 2 * (got : Int)) = false := decide_eq_false hwas
              have hwbd : (!decide ((k : Int) < 2 * (got : Int))) = true := by rw [hwad]; rfl
              clear hcd hsame hrest_
              go_wp2_with (first
                | (go_at_call 14; refine (unhide WX _).mono ?_; rintro e W3 ⟨rfl, hW3⟩; replace hW3 := hW3.symm; subst hW3)
                | (go_at_call 16; refine (unhide TH).mono ?_; rintro e W3 ⟨q', sv, es, rfl, O⟩; obtain ⟨⟨p1, c1, k1⟩, ⟨p2, c2, k2⟩, ⟨p3, c3, k3⟩, ⟨p4, c4, k4⟩, ⟨p5, c5, k5⟩⟩ := rows_slices O.rows; obtain ⟨lq', vq', nq', mq', fq'⟩ := q'; simp only at k1 k2 k3 k4 k5; subst k1 k2 k3 k4 k5; obtain ⟨p6, c6, k6⟩ := own_slice O.sent.row; rw [show (([] : List Ms).zip es).length = 0 from rfl] at k6; subst k6; have HO := hide O; have hb_ := (unhide HK).below O.below; have hh_ := (unhide HH).below O.below; have kl3_ := hb_.lt; have kz3_ := hb_.froz; have hl3_ := hh_.lt; have hz3_ := hh_.froz; have hc3_ := hh_.cell fr; rw [hHfr] at hc3_; have x0_ := hb_.cell 0; have x1_ := hb_.cell 1; have x2_ := hb_.cell 2; have x3_ := hb_.cell 3; have x4_ := hb_.cell 4; have x5_ := hb_.cell 5; have x6_ := hb_.cell 6; have x7_ := hb_.cell 7; have x8_ := hb_.cell 8; have x9_ := hb_.cell 9; have x10_ := hb_.cell 10; have x11_ := hb_.cell 11; have x12_ := hb_.cell 12; simp at x0_ x1_ x2_ x3_ x4_ x5_ x6_ x7_ x8_ x9_ x10_ x11_ x12_; clear O))
              have hO := unhide HO
              have hlt3 := (unhide HK).lt
              have hlt4 := (unhide HH).lt
              have hnf : ∀ j, j < wr.heap.size → ¬ Foot5 ⟨.slice p1 ([] : List En).length c1, .slice p2 vs'.length c2, .slice p3 ne'.length c3, .slice p4 ma'.length c4, .slice p5 fs'.length c5⟩ j := fun j hj h => by have := hO.new _ (.inl h); omega
              have hVW : V.heap.size ≠ W2.heap.size := by omega
              have K3 := hb_
              have S3 := hO.rows.sees
              have H3 := hh_
              have B3 := Below.onto (unhide HB) hO.below
              have hsl : Hs.length = 5 := unhide HL
              obtain ⟨wb, wg⟩ := whole_set (cs := #[nI id', nI te', .int .i64 vo', .slice p1 0 c1, nI fo', .int .i64 1, nI co', .slice p2 vs'.length c2, .slice p3 ne'.length c3, .slice p4 ma'.length c4, .slice p5 fs'.length c5, nI ck', nI du']) K3 rfl
              have hCS : (#[nI id', nI te', .int .i64 vo', .slice p1 0 c1, nI fo', .int .i64 1, nI co', .slice p2 vs'.length c2, .slice p3 ne'.length c3, .slice p4 ma'.length c4, .slice p5 fs'.length c5, nI ck', nI du'] : Array Value) = ndA (⟨id', te', vo', [], fo', 1, co', vs', ne', ma', fs', ck', du'⟩ : Nd) ⟨.slice p1 ([] : List En).length c1, .slice p2 vs'.length c2, .slice p3 ne'.length c3, .slice p4 ma'.length c4, .slice p5 fs'.length c5⟩ := by simp
              have R1 := hide ((seesN_grown S3 wg (hnf _ hlt3)).below (below_new _ (.cells #[nI id', nI te', .int .i64 vo', .slice p1 0 c1, nI fo', .int .i64 1, nI co', .slice p2 vs'.length c2, .slice p3 ne'.length c3, .slice p4 ma'.length c4, .slice p5 fs'.length c5, nI ck', nI du'] 32)))
              have R2 := hide ((H3.grown wg hVW).below (below_new _ (.cells #[nI id', nI te', .int .i64 vo', .slice p1 0 c1, nI fo', .int .i64 1, nI co', .slice p2 vs'.length c2, .slice p3 ne'.length c3, .slice p4 ma'.length c4, .slice p5 fs'.length c5, nI ck', nI du'] 32)))
              have R3 := hide (Below.onto (below_grown B3 wg (unhide hws) (by have := (unhide HB).size; have := hO.below.size; have := B3.size; omega)) (below_new _ (.cells #[nI id', nI te', .int .i64 vo', .slice p1 0 c1, nI fo', .int .i64 1, nI co', .slice p2 vs'.length c2, .slice p3 ne'.length c3, .slice p4 ma'.length c4, .slice p5 fs'.length c5, nI ck', nI du'] 32)))
              have R0 : Hid (Blk W2.heap.size (ndA (⟨id', te', vo', [], fo', 1, co', vs', ne', ma', fs', ck', du'⟩ : Nd) ⟨.slice p1 ([] : List En).length c1, .slice p2 vs'.length c2, .slice p3 ne'.length c3, .slice p4 ma'.length c4, .slice p5 fs'.length c5⟩) 32 ((W3.setCells W2.heap.size 0 (#[nI id', nI te', .int .i64 vo', .slice p1 0 c1, nI fo', .int .i64 1, nI co', .slice p2 vs'.length c2, .slice p3 ne'.length c3, .slice p4 ma'.length c4, .slice p5 fs'.length c5, nI ck', nI du'] : Array Value).toList).alloc (.cells #[nI id', nI te', .int .i64 vo', .slice p1 0 c1, nI fo', .int .i64 1, nI co', .slice p2 vs'.length c2, .slice p3 ne'.length c3, .slice p4 ma'.length c4, .slice p5 fs'.length c5, nI ck', nI du'] 32))) := by rw [← hCS]; exact wb.below (below_new _ _)
              have R4 := hide hsl
              clear wb wg hO hlt3 hlt4 hnf hVW hCS K3 S3 H3 B3 hsl hb_ hh_ kz3_ hz3_ hc3_ x0_ x1_ x2_ x3_ x4_ x5_ x6_ x7_ x8_ x9_ x10_ x11_ x12_
              go_roundw
              case rel => exact ⟨c + 1, got, (⟨id', te', vo', [], fo', 1, co', vs', ne', ma', fs', ck', du'⟩ : Nd), ⟨.slice p1 ([] : List En).length c1, .slice p2 vs'.length c2, .slice p3 ne'.length c3, .slice p4 ma'.length c4, .slice p5 fs'.length c5⟩, Hs, by omega, by omega, by go_num, by go_num, R0, R1, R2, R4, R3, VO⟩
              case measure => simp [intOf] <;> omega
            | true =>
              have hokI : (0 : Int) < (x : Int) / 8 % 4 := of_decide_eq_true hok
              cases hb with
              | true =>
                have hvv := hv0
                obtain ⟨n', hn'⟩ : ∃ n', n' = n := ⟨_, rfl⟩
                have e : votedM n (vm fr true) = (n', []) := by rw [hn']; exact hcd.has hvv
                have VO : Hid (Voting k got n' Hs) := hide (by rw [hn']; exact .inl ⟨hcd, hsame⟩)
                have hro : n'.role = 1 := by rw [hn']; exact hcd.role
                have hlo : n'.log = [] := by rw [hn']; exact hcd.log
                have TH := hide (hear_any k n ⟨.slice g1 n.log.length y1, .slice g2 n.votes.length y2, .slice g3 n.next.length y3, .slice g4 n.mat.length y4, .slice g5 n.forms.length y5⟩ fr true wr n' [] (unhide HS) hcd.el (.inl hcd.log) ⟨hk2, hk5⟩ hfr2 e)
                obtain ⟨id', te', vo', lo', fo', ro', co', vs', ne', ma', fs', ck', du'⟩ := n'
                simp only at hro hlo
                subst hro hlo
                clear e
                clear hn'
                have hwas : ¬ (k : Int) < 2 * (got : Int) := by omega
                have hwad : decide ((k : Int) < 2 * (got : Int)) = false := decide_eq_false hwas
                have hwbd : (!decide ((k : Int) < 2 * (got : Int))) = true := by rw [hwad]; rfl
                clear hcd hsame hrest_
                go_wp2_with (first
                  | (go_at_call 14; refine (unhide WX _).mono ?_; rintro e W3 ⟨rfl, hW3⟩; replace hW3 := hW3.symm; subst hW3)
                  | (go_at_call 16; refine (unhide TH).mono ?_; rintro e W3 ⟨q', sv, es, rfl, O⟩; obtain ⟨⟨p1, c1, k1⟩, ⟨p2, c2, k2⟩, ⟨p3, c3, k3⟩, ⟨p4, c4, k4⟩, ⟨p5, c5, k5⟩⟩ := rows_slices O.rows; obtain ⟨lq', vq', nq', mq', fq'⟩ := q'; simp only at k1 k2 k3 k4 k5; subst k1 k2 k3 k4 k5; obtain ⟨p6, c6, k6⟩ := own_slice O.sent.row; rw [show (([] : List Ms).zip es).length = 0 from rfl] at k6; subst k6; have HO := hide O; have hb_ := (unhide HK).below O.below; have hh_ := (unhide HH).below O.below; have kl3_ := hb_.lt; have kz3_ := hb_.froz; have hl3_ := hh_.lt; have hz3_ := hh_.froz; have hc3_ := hh_.cell fr; rw [hHfr] at hc3_; have x0_ := hb_.cell 0; have x1_ := hb_.cell 1; have x2_ := hb_.cell 2; have x3_ := hb_.cell 3; have x4_ := hb_.cell 4; have x5_ := hb_.cell 5; have x6_ := hb_.cell 6; have x7_ := hb_.cell 7; have x8_ := hb_.cell 8; have x9_ := hb_.cell 9; have x10_ := hb_.cell 10; have x11_ := hb_.cell 11; have x12_ := hb_.cell 12; simp at x0_ x1_ x2_ x3_ x4_ x5_ x6_ x7_ x8_ x9_ x10_ x11_ x12_; clear O))
                have hO := unhide HO
                have hlt3 := (unhide HK).lt
                have hlt4 := (unhide HH).lt
                have hnf : ∀ j, j < wr.heap.size → ¬ Foot5 ⟨.slice p1 ([] : List En).length c1, .slice p2 vs'.length c2, .slice p3 ne'.length c3, .slice p4 ma'.length c4, .slice p5 fs'.length c5⟩ j := fun j hj h => by have := hO.new _ (.inl h); omega
                have hVW : V.heap.size ≠ W2.heap.size := by omega
                have K3 := hb_
                have S3 := hO.rows.sees
                have H3 := hh_
                have B3 := Below.onto (unhide HB) hO.below
                have hsl : Hs.length = 5 := unhide HL
                obtain ⟨wb, wg⟩ := whole_set (cs := #[nI id', nI te', .int .i64 vo', .slice p1 0 c1, nI fo', .int .i64 1, nI co', .slice p2 vs'.length c2, .slice p3 ne'.length c3, .slice p4 ma'.length c4, .slice p5 fs'.length c5, nI ck', nI du']) K3 rfl
                have hCS : (#[nI id', nI te', .int .i64 vo', .slice p1 0 c1, nI fo', .int .i64 1, nI co', .slice p2 vs'.length c2, .slice p3 ne'.length c3, .slice p4 ma'.length c4, .slice p5 fs'.length c5, nI ck', nI du'] : Array Value) = ndA (⟨id', te', vo', [], fo', 1, co', vs', ne', ma', fs', ck', du'⟩ : Nd) ⟨.slice p1 ([] : List En).length c1, .slice p2 vs'.length c2, .slice p3 ne'.length c3, .slice p4 ma'.length c4, .slice p5 fs'.length c5⟩ := by simp
                have R1 := hide ((seesN_grown S3 wg (hnf _ hlt3)).below (below_new _ (.cells #[nI id', nI te', .int .i64 vo', .slice p1 0 c1, nI fo', .int .i64 1, nI co', .slice p2 vs'.length c2, .slice p3 ne'.length c3, .slice p4 ma'.length c4, .slice p5 fs'.length c5, nI ck', nI du'] 32)))
                have R2 := hide ((H3.grown wg hVW).below (below_new _ (.cells #[nI id', nI te', .int .i64 vo', .slice p1 0 c1, nI fo', .int .i64 1, nI co', .slice p2 vs'.length c2, .slice p3 ne'.length c3, .slice p4 ma'.length c4, .slice p5 fs'.length c5, nI ck', nI du'] 32)))
                have R3 := hide (Below.onto (below_grown B3 wg (unhide hws) (by have := (unhide HB).size; have := hO.below.size; have := B3.size; omega)) (below_new _ (.cells #[nI id', nI te', .int .i64 vo', .slice p1 0 c1, nI fo', .int .i64 1, nI co', .slice p2 vs'.length c2, .slice p3 ne'.length c3, .slice p4 ma'.length c4, .slice p5 fs'.length c5, nI ck', nI du'] 32)))
                have R0 : Hid (Blk W2.heap.size (ndA (⟨id', te', vo', [], fo', 1, co', vs', ne', ma', fs', ck', du'⟩ : Nd) ⟨.slice p1 ([] : List En).length c1, .slice p2 vs'.length c2, .slice p3 ne'.length c3, .slice p4 ma'.length c4, .slice p5 fs'.length c5⟩) 32 ((W3.setCells W2.heap.size 0 (#[nI id', nI te', .int .i64 vo', .slice p1 0 c1, nI fo', .int .i64 1, nI co', .slice p2 vs'.length c2, .slice p3 ne'.length c3, .slice p4 ma'.length c4, .slice p5 fs'.length c5, nI ck', nI du'] : Array Value).toList).alloc (.cells #[nI id', nI te', .int .i64 vo', .slice p1 0 c1, nI fo', .int .i64 1, nI co', .slice p2 vs'.length c2, .slice p3 ne'.length c3, .slice p4 ma'.length c4, .slice p5 fs'.length c5, nI ck', nI du'] 32))) := by rw [← hCS]; exact wb.below (below_new _ _)
                have R4 := hide hsl
                clear wb wg hO hlt3 hlt4 hnf hVW hCS K3 S3 H3 B3 hsl hb_ hh_ kz3_ hz3_ hc3_ x0_ x1_ x2_ x3_ x4_ x5_ x6_ x7_ x8_ x9_ x10_ x11_ x12_
                go_roundw
                case rel => exact ⟨c + 1, got, (⟨id', te', vo', [], fo', 1, co', vs', ne', ma', fs', ck', du'⟩ : Nd), ⟨.slice p1 ([] : List En).length c1, .slice p2 vs'.length c2, .slice p3 ne'.length c3, .slice p4 ma'.length c4, .slice p5 fs'.length c5⟩, Hs, by omega, by omega, by go_num, by go_num, R0, R1, R2, R4, R3, VO⟩
                case measure => simp [intOf] <;> omega
              | false =>
                have hvv := hv0
                by_cases hg1 : 2 * (got + 1) ≤ k
                · skip
                  obtain ⟨e, hcd'⟩ := hcd.more hvv hg1
                  have VO : Hid (Voting k (got + 1) (countN n fr) (Hs.set fr true)) := hide (.inl ⟨hcd', Voting.set hsame hsz hcd.el.size rfl⟩)
                  have hro : (countN n fr).role = 1 := hcd'.role
                  have hlo : (countN n fr).log = [] := hcd'.log
                  obtain ⟨n', hn'⟩ : ∃ n', countN n fr = n' := ⟨_, rfl⟩
                  rw [hn'] at e VO hro hlo
                  have TH := hide (hear_any k n ⟨.slice g1 n.log.length y1, .slice g2 n.votes.length y2, .slice g3 n.next.length y3, .slice g4 n.mat.length y4, .slice g5 n.forms.length y5⟩ fr true wr n' [] (unhide HS) hcd.el (.inl hcd.log) ⟨hk2, hk5⟩ hfr2 e)
                  obtain ⟨id', te', vo', lo', fo', ro', co', vs', ne', ma', fs', ck', du'⟩ := n'
                  simp only at hro hlo
                  subst hro hlo
                  clear e
                  clear hn' hcd'
                  have hwas : ¬ (k : Int) < 2 * (got : Int) := by omega
                  have hwad : decide ((k : Int) < 2 * (got : Int)) = false := decide_eq_false hwas
                  have hwbd : (!decide ((k : Int) < 2 * (got : Int))) = true := by rw [hwad]; rfl
                  have hg64 : IntKind.i64.wrap ((got : Int) + 1) = ((got + 1 : Nat) : Int) := (IntWalk.i64_in _ (by omega)).trans (by omega)
                  have hldI : ¬ (k : Int) < 2 * ((got : Int) + 1) := by omega
                  have hldd : decide ((k : Int) < 2 * ((got : Int) + 1)) = false := decide_eq_false hldI
                  clear hcd hsame hrest_
                  go_wp2_with (first
                    | (go_at_call 14; refine (unhide WX _).mono ?_; rintro e W3 ⟨rfl, hW3⟩; replace hW3 := hW3.symm; subst hW3)
                    | (go_at_call 16; refine (unhide TH).mono ?_; rintro e W3 ⟨q', sv, es, rfl, O⟩; obtain ⟨⟨p1, c1, k1⟩, ⟨p2, c2, k2⟩, ⟨p3, c3, k3⟩, ⟨p4, c4, k4⟩, ⟨p5, c5, k5⟩⟩ := rows_slices O.rows; obtain ⟨lq', vq', nq', mq', fq'⟩ := q'; simp only at k1 k2 k3 k4 k5; subst k1 k2 k3 k4 k5; obtain ⟨p6, c6, k6⟩ := own_slice O.sent.row; rw [show (([] : List Ms).zip es).length = 0 from rfl] at k6; subst k6; have HO := hide O; have hb_ := (unhide HK).below O.below; have hh_ := (unhide HH).below O.below; have kl3_ := hb_.lt; have kz3_ := hb_.froz; have hl3_ := hh_.lt; have hz3_ := hh_.froz; have hc3_ := hh_.cell fr; rw [hHfr] at hc3_; have x0_ := hb_.cell 0; have x1_ := hb_.cell 1; have x2_ := hb_.cell 2; have x3_ := hb_.cell 3; have x4_ := hb_.cell 4; have x5_ := hb_.cell 5; have x6_ := hb_.cell 6; have x7_ := hb_.cell 7; have x8_ := hb_.cell 8; have x9_ := hb_.cell 9; have x10_ := hb_.cell 10; have x11_ := hb_.cell 11; have x12_ := hb_.cell 12; simp at x0_ x1_ x2_ x3_ x4_ x5_ x6_ x7_ x8_ x9_ x10_ x11_ x12_; clear O))
                  have hO := unhide HO
                  have hlt3 := (unhide HK).lt
                  have hlt4 := (unhide HH).lt
                  have hnf : ∀ j, j < wr.heap.size → ¬ Foot5 ⟨.slice p1 ([] : List En).length c1, .slice p2 vs'.length c2, .slice p3 ne'.length c3, .slice p4 ma'.length c4, .slice p5 fs'.length c5⟩ j := fun j hj h => by have := hO.new _ (.inl h); omega
                  have hVW : V.heap.size ≠ W2.heap.size := by omega
                  obtain ⟨og, oz⟩ := one_keeps V.heap.size fr (.bool true) W3
                  have K3 := hb_.grown og (by omega)
                  have S3 := seesN_grown hO.rows.sees og (hnf _ hlt4)
                  have H3 := hh_.set fr (.bool true)
                  rw [boC_set1] at H3
                  have B3 := below_grown (Below.onto (unhide HB) hO.below) og (unhide hbs) (by have := (unhide HB).size; have := hO.below.size; omega)
                  have hsl : (Hs.set fr true).length = 5 := by rw [List.length_set]; exact unhide HL
                  obtain ⟨wb, wg⟩ := whole_set (cs := #[nI id', nI te', .int .i64 vo', .slice p1 0 c1, nI fo', .int .i64 1, nI co', .slice p2 vs'.length c2, .slice p3 ne'.length c3, .slice p4 ma'.length c4, .slice p5 fs'.length c5, nI ck', nI du']) K3 rfl
                  have hCS : (#[nI id', nI te', .int .i64 vo', .slice p1 0 c1, nI fo', .int .i64 1, nI co', .slice p2 vs'.length c2, .slice p3 ne'.length c3, .slice p4 ma'.length c4, .slice p5 fs'.length c5, nI ck', nI du'] : Array Value) = ndA (⟨id', te', vo', [], fo', 1, co', vs', ne', ma', fs', ck', du'⟩ : Nd) ⟨.slice p1 ([] : List En).length c1, .slice p2 vs'.length c2, .slice p3 ne'.length c3, .slice p4 ma'.length c4, .slice p5 fs'.length c5⟩ := by simp
                  have R1 := hide ((seesN_grown S3 wg (hnf _ hlt3)).below (below_new _ (.cells #[nI id', nI te', .int .i64 vo', .slice p1 0 c1, nI fo', .int .i64 1, nI co', .slice p2 vs'.length c2, .slice p3 ne'.length c3, .slice p4 ma'.length c4, .slice p5 fs'.length c5, nI ck', nI du'] 32)))
                  have R2 := hide ((H3.grown wg hVW).below (below_new _ (.cells #[nI id', nI te', .int .i64 vo', .slice p1 0 c1, nI fo', .int .i64 1, nI co', .slice p2 vs'.length c2, .slice p3 ne'.length c3, .slice p4 ma'.length c4, .slice p5 fs'.length c5, nI ck', nI du'] 32)))
                  have R3 := hide (Below.onto (below_grown B3 wg (unhide hws) (by have := (unhide HB).size; have := hO.below.size; have := B3.size; omega)) (below_new _ (.cells #[nI id', nI te', .int .i64 vo', .slice p1 0 c1, nI fo', .int .i64 1, nI co', .slice p2 vs'.length c2, .slice p3 ne'.length c3, .slice p4 ma'.length c4, .slice p5 fs'.length c5, nI ck', nI du'] 32)))
                  have R0 : Hid (Blk W2.heap.size (ndA (⟨id', te', vo', [], fo', 1, co', vs', ne', ma', fs', ck', du'⟩ : Nd) ⟨.slice p1 ([] : List En).length c1, .slice p2 vs'.length c2, .slice p3 ne'.length c3, .slice p4 ma'.length c4, .slice p5 fs'.length c5⟩) 32 (((W3.setCell ⟨V.heap.size, fr, none⟩ (.bool true)).setCells W2.heap.size 0 (#[nI id', nI te', .int .i64 vo', .slice p1 0 c1, nI fo', .int .i64 1, nI co', .slice p2 vs'.length c2, .slice p3 ne'.length c3, .slice p4 ma'.length c4, .slice p5 fs'.length c5, nI ck', nI du'] : Array Value).toList).alloc (.cells #[nI id', nI te', .int .i64 vo', .slice p1 0 c1, nI fo', .int .i64 1, nI co', .slice p2 vs'.length c2, .slice p3 ne'.length c3, .slice p4 ma'.length c4, .slice p5 fs'.length c5, nI ck', nI du'] 32))) := by rw [← hCS]; exact wb.below (below_new _ _)
                  have R4 := hide hsl
                  clear wb wg hO hlt3 hlt4 hnf hVW hCS K3 S3 H3 B3 hsl hb_ hh_ kz3_ hz3_ hc3_ x0_ x1_ x2_ x3_ x4_ x5_ x6_ x7_ x8_ x9_ x10_ x11_ x12_ og oz
                  go_roundw
                  case rel => exact ⟨c + 1, got + 1, (⟨id', te', vo', [], fo', 1, co', vs', ne', ma', fs', ck', du'⟩ : Nd), ⟨.slice p1 ([] : List En).length c1, .slice p2 vs'.length c2, .slice p3 ne'.length c3, .slice p4 ma'.length c4, .slice p5 fs'.length c5⟩, Hs.set fr true, by omega, by omega, by go_num, by go_num, R0, R1, R2, R4, R3, VO⟩
                  case measure => simp [intOf] <;> omega
                · skip
                  obtain ⟨n', ms, e, hld', hms⟩ := hcd.wins hvv hg1 hk2 hk5
                  rw [hL] at hms
                  have VO : Hid (Voting k (got + 1) n' (Hs.set fr true)) := hide (.inr ⟨hld', by omega⟩)
                  have hro : n'.role = 2 := hld'.role
                  have hlo : n'.log = [⟨1, noBytes⟩] := hld'.log
                  have TH := hide (hear_any k n ⟨.slice g1 n.log.length y1, .slice g2 n.votes.length y2, .slice g3 n.next.length y3, .slice g4 n.mat.length y4, .slice g5 n.forms.length y5⟩ fr true wr n' ms (unhide HS) hcd.el (.inl hcd.log) ⟨hk2, hk5⟩ hfr2 e)
                  obtain ⟨id', te', vo', lo', fo', ro', co', vs', ne', ma', fs', ck', du'⟩ := n'
                  simp only at hro hlo
                  subst hro hlo
                  clear e
                  clear hld'
                  have hwas : ¬ (k : Int) < 2 * (got : Int) := by omega
                  have hwad : decide ((k : Int) < 2 * (got : Int)) = false := decide_eq_false hwas
                  have hwbd : (!decide ((k : Int) < 2 * (got : Int))) = true := by rw [hwad]; rfl
                  have hg64 : IntKind.i64.wrap ((got : Int) + 1) = ((got + 1 : Nat) : Int) := (IntWalk.i64_in _ (by omega)).trans (by omega)
                  have hldI : (k : Int) < 2 * ((got : Int) + 1) := by omega
                  have hldd : decide ((k : Int) < 2 * ((got : Int) + 1)) = true := decide_eq_true hldI
                  clear hcd hsame hrest_
                  go_wp2_with (first
                    | (go_at_call 14; refine (unhide WX _).mono ?_; rintro e W3 ⟨rfl, hW3⟩; replace hW3 := hW3.symm; subst hW3)
                    | (go_at_call 16; refine (unhide TH).mono ?_; rintro e W3 ⟨q', sv, es, rfl, O⟩; obtain ⟨⟨p1, c1, k1⟩, ⟨p2, c2, k2⟩, ⟨p3, c3, k3⟩, ⟨p4, c4, k4⟩, ⟨p5, c5, k5⟩⟩ := rows_slices O.rows; obtain ⟨lq', vq', nq', mq', fq'⟩ := q'; simp only at k1 k2 k3 k4 k5; subst k1 k2 k3 k4 k5; obtain ⟨p6, c6, k6⟩ := own_slice O.sent.row; have hzl : (ms.zip es).length = L := (by rw [List.length_zip, O.len.1, hms]; omega); rw [hzl] at k6; subst k6; have HO := hide O; have hb_ := (unhide HK).below O.below; have hh_ := (unhide HH).below O.below; have kl3_ := hb_.lt; have kz3_ := hb_.froz; have hl3_ := hh_.lt; have hz3_ := hh_.froz; have hc3_ := hh_.cell fr; rw [hHfr] at hc3_; have x0_ := hb_.cell 0; have x1_ := hb_.cell 1; have x2_ := hb_.cell 2; have x3_ := hb_.cell 3; have x4_ := hb_.cell 4; have x5_ := hb_.cell 5; have x6_ := hb_.cell 6; have x7_ := hb_.cell 7; have x8_ := hb_.cell 8; have x9_ := hb_.cell 9; have x10_ := hb_.cell 10; have x11_ := hb_.cell 11; have x12_ := hb_.cell 12; simp at x0_ x1_ x2_ x3_ x4_ x5_ x6_ x7_ x8_ x9_ x10_ x11_ x12_; clear O))
                  have hO := unhide HO
                  have hlt3 := (unhide HK).lt
                  have hlt4 := (unhide HH).lt
                  have hnf : ∀ j, j < wr.heap.size → ¬ Foot5 ⟨.slice p1 ([⟨1, noBytes⟩] : List En).length c1, .slice p2 vs'.length c2, .slice p3 ne'.length c3, .slice p4 ma'.length c4, .slice p5 fs'.length c5⟩ j := fun j hj h => by have := hO.new _ (.inl h); omega
                  have hVW : V.heap.size ≠ W2.heap.size := by omega
                  obtain ⟨og, oz⟩ := one_keeps V.heap.size fr (.bool true) W3
                  have K3 := hb_.grown og (by omega)
                  have S3 := seesN_grown hO.rows.sees og (hnf _ hlt4)
                  have H3 := hh_.set fr (.bool true)
                  rw [boC_set1] at H3
                  have B3 := below_grown (Below.onto (unhide HB) hO.below) og (unhide hbs) (by have := (unhide HB).size; have := hO.below.size; omega)
                  have hsl : (Hs.set fr true).length = 5 := by rw [List.length_set]; exact unhide HL
                  obtain ⟨wb, wg⟩ := whole_set (cs := #[nI id', nI te', .int .i64 vo', .slice p1 1 c1, nI fo', .int .i64 2, nI co', .slice p2 vs'.length c2, .slice p3 ne'.length c3, .slice p4 ma'.length c4, .slice p5 fs'.length c5, nI ck', nI du']) K3 rfl
                  have hCS : (#[nI id', nI te', .int .i64 vo', .slice p1 1 c1, nI fo', .int .i64 2, nI co', .slice p2 vs'.length c2, .slice p3 ne'.length c3, .slice p4 ma'.length c4, .slice p5 fs'.length c5, nI ck', nI du'] : Array Value) = ndA (⟨id', te', vo', [⟨1, noBytes⟩], fo', 2, co', vs', ne', ma', fs', ck', du'⟩ : Nd) ⟨.slice p1 ([⟨1, noBytes⟩] : List En).length c1, .slice p2 vs'.length c2, .slice p3 ne'.length c3, .slice p4 ma'.length c4, .slice p5 fs'.length c5⟩ := by simp
                  have R1 := hide ((seesN_grown S3 wg (hnf _ hlt3)).below (below_new _ (.cells #[nI id', nI te', .int .i64 vo', .slice p1 1 c1, nI fo', .int .i64 2, nI co', .slice p2 vs'.length c2, .slice p3 ne'.length c3, .slice p4 ma'.length c4, .slice p5 fs'.length c5, nI ck', nI du'] 32)))
                  have R2 := hide ((H3.grown wg hVW).below (below_new _ (.cells #[nI id', nI te', .int .i64 vo', .slice p1 1 c1, nI fo', .int .i64 2, nI co', .slice p2 vs'.length c2, .slice p3 ne'.length c3, .slice p4 ma'.length c4, .slice p5 fs'.length c5, nI ck', nI du'] 32)))
                  have R3 := hide (Below.onto (below_grown B3 wg (unhide hws) (by have := (unhide HB).size; have := hO.below.size; have := B3.size; omega)) (below_new _ (.cells #[nI id', nI te', .int .i64 vo', .slice p1 1 c1, nI fo', .int .i64 2, nI co', .slice p2 vs'.length c2, .slice p3 ne'.length c3, .slice p4 ma'.length c4, .slice p5 fs'.length c5, nI ck', nI du'] 32)))
                  have R0 : Hid (Blk W2.heap.size (ndA (⟨id', te', vo', [⟨1, noBytes⟩], fo', 2, co', vs', ne', ma', fs', ck', du'⟩ : Nd) ⟨.slice p1 ([⟨1, noBytes⟩] : List En).length c1, .slice p2 vs'.length c2, .slice p3 ne'.length c3, .slice p4 ma'.length c4, .slice p5 fs'.length c5⟩) 32 (((W3.setCell ⟨V.heap.size, fr, none⟩ (.bool true)).setCells W2.heap.size 0 (#[nI id', nI te', .int .i64 vo', .slice p1 1 c1, nI fo', .int .i64 2, nI co', .slice p2 vs'.length c2, .slice p3 ne'.length c3, .slice p4 ma'.length c4, .slice p5 fs'.length c5, nI ck', nI du'] : Array Value).toList).alloc (.cells #[nI id', nI te', .int .i64 vo', .slice p1 1 c1, nI fo', .int .i64 2, nI co', .slice p2 vs'.length c2, .slice p3 ne'.length c3, .slice p4 ma'.length c4, .slice p5 fs'.length c5, nI ck', nI du'] 32))) := by rw [← hCS]; exact wb.below (below_new _ _)
                  have R4 := hide hsl
                  clear wb wg hO hlt3 hlt4 hnf hVW hCS K3 S3 H3 B3 hsl hb_ hh_ kz3_ hz3_ hc3_ x0_ x1_ x2_ x3_ x4_ x5_ x6_ x7_ x8_ x9_ x10_ x11_ x12_ og oz
                  go_roundw
                  case rel => exact ⟨c + 1, got + 1, (⟨id', te', vo', [⟨1, noBytes⟩], fo', 2, co', vs', ne', ma', fs', ck', du'⟩ : Nd), ⟨.slice p1 ([⟨1, noBytes⟩] : List En).length c1, .slice p2 vs'.length c2, .slice p3 ne'.length c3, .slice p4 ma'.length c4, .slice p5 fs'.length c5⟩, Hs.set fr true, by omega, by omega, by go_num, by go_num, R0, R1, R2, R4, R3, VO⟩
                  case measure => simp [intOf] <;> omega
          · cases ok with
            | false =>
              have hokI : ¬ (0 : Int) < (x : Int) / 8 % 4 := of_decide_eq_false hok
              obtain ⟨n', hn'⟩ : ∃ n', n' = n := ⟨_, rfl⟩
              have e : votedM n (vm fr false) = (n', []) := by rw [hn']; exact hld.no _
              have VO : Hid (Voting k got n' Hs) := hide (by rw [hn']; exact .inr ⟨hld, hgk⟩)
              have hro : n'.role = 2 := by rw [hn']; exact hld.role
              have hlo : n'.log = [⟨1, noBytes⟩] := by rw [hn']; exact hld.log
              have TH := hide (hear_any k n ⟨.slice g1 n.log.length y1, .slice g2 n.votes.length y2, .slice g3 n.next.length y3, .slice g4 n.mat.length y4, .slice g5 n.forms.length y5⟩ fr false wr n' [] (unhide HS) hld.el (.inr hld.log) ⟨hk2, hk5⟩ hfr2 e)
              obtain ⟨id', te', vo', lo', fo', ro', co', vs', ne', ma', fs', ck', du'⟩ := n'
              simp only at hro hlo
              subst hro hlo
              clear e
              clear hn'
              have hwas : (k : Int) < 2 * (got : Int) := by omega
              have hwad : decide ((k : Int) < 2 * (got : Int)) = true := decide_eq_true hwas
              clear hld hgk hrest_
              go_wp2_with (first
                | (go_at_call 14; refine (unhide WX _).mono ?_; rintro e W3 ⟨rfl, hW3⟩; replace hW3 := hW3.symm; subst hW3)
                | (go_at_call 16; refine (unhide TH).mono ?_; rintro e W3 ⟨q', sv, es, rfl, O⟩; obtain ⟨⟨p1, c1, k1⟩, ⟨p2, c2, k2⟩, ⟨p3, c3, k3⟩, ⟨p4, c4, k4⟩, ⟨p5, c5, k5⟩⟩ := rows_slices O.rows; obtain ⟨lq', vq', nq', mq', fq'⟩ := q'; simp only at k1 k2 k3 k4 k5; subst k1 k2 k3 k4 k5; obtain ⟨p6, c6, k6⟩ := own_slice O.sent.row; rw [show (([] : List Ms).zip es).length = 0 from rfl] at k6; subst k6; have HO := hide O; have hb_ := (unhide HK).below O.below; have hh_ := (unhide HH).below O.below; have kl3_ := hb_.lt; have kz3_ := hb_.froz; have hl3_ := hh_.lt; have hz3_ := hh_.froz; have hc3_ := hh_.cell fr; rw [hHfr] at hc3_; have x0_ := hb_.cell 0; have x1_ := hb_.cell 1; have x2_ := hb_.cell 2; have x3_ := hb_.cell 3; have x4_ := hb_.cell 4; have x5_ := hb_.cell 5; have x6_ := hb_.cell 6; have x7_ := hb_.cell 7; have x8_ := hb_.cell 8; have x9_ := hb_.cell 9; have x10_ := hb_.cell 10; have x11_ := hb_.cell 11; have x12_ := hb_.cell 12; simp at x0_ x1_ x2_ x3_ x4_ x5_ x6_ x7_ x8_ x9_ x10_ x11_ x12_; clear O))
              have hO := unhide HO
              have hlt3 := (unhide HK).lt
              have hlt4 := (unhide HH).lt
              have hnf : ∀ j, j < wr.heap.size → ¬ Foot5 ⟨.slice p1 ([⟨1, noBytes⟩] : List En).length c1, .slice p2 vs'.length c2, .slice p3 ne'.length c3, .slice p4 ma'.length c4, .slice p5 fs'.length c5⟩ j := fun j hj h => by have := hO.new _ (.inl h); omega
              have hVW : V.heap.size ≠ W2.heap.size := by omega
              have K3 := hb_
              have S3 := hO.rows.sees
              have H3 := hh_
              have B3 := Below.onto (unhide HB) hO.below
              have hsl : Hs.length = 5 := unhide HL
              obtain ⟨wb, wg⟩ := whole_set (cs := #[nI id', nI te', .int .i64 vo', .slice p1 1 c1, nI fo', .int .i64 2, nI co', .slice p2 vs'.length c2, .slice p3 ne'.length c3, .slice p4 ma'.length c4, .slice p5 fs'.length c5, nI ck', nI du']) K3 rfl
              have hCS : (#[nI id', nI te', .int .i64 vo', .slice p1 1 c1, nI fo', .int .i64 2, nI co', .slice p2 vs'.length c2, .slice p3 ne'.length c3, .slice p4 ma'.length c4, .slice p5 fs'.length c5, nI ck', nI du'] : Array Value) = ndA (⟨id', te', vo', [⟨1, noBytes⟩], fo', 2, co', vs', ne', ma', fs', ck', du'⟩ : Nd) ⟨.slice p1 ([⟨1, noBytes⟩] : List En).length c1, .slice p2 vs'.length c2, .slice p3 ne'.length c3, .slice p4 ma'.length c4, .slice p5 fs'.length c5⟩ := by simp
              have R1 := hide ((seesN_grown S3 wg (hnf _ hlt3)).below (below_new _ (.cells #[nI id', nI te', .int .i64 vo', .slice p1 1 c1, nI fo', .int .i64 2, nI co', .slice p2 vs'.length c2, .slice p3 ne'.length c3, .slice p4 ma'.length c4, .slice p5 fs'.length c5, nI ck', nI du'] 32)))
              have R2 := hide ((H3.grown wg hVW).below (below_new _ (.cells #[nI id', nI te', .int .i64 vo', .slice p1 1 c1, nI fo', .int .i64 2, nI co', .slice p2 vs'.length c2, .slice p3 ne'.length c3, .slice p4 ma'.length c4, .slice p5 fs'.length c5, nI ck', nI du'] 32)))
              have R3 := hide (Below.onto (below_grown B3 wg (unhide hws) (by have := (unhide HB).size; have := hO.below.size; have := B3.size; omega)) (below_new _ (.cells #[nI id', nI te', .int .i64 vo', .slice p1 1 c1, nI fo', .int .i64 2, nI co', .slice p2 vs'.length c2, .slice p3 ne'.length c3, .slice p4 ma'.length c4, .slice p5 fs'.length c5, nI ck', nI du'] 32)))
              have R0 : Hid (Blk W2.heap.size (ndA (⟨id', te', vo', [⟨1, noBytes⟩], fo', 2, co', vs', ne', ma', fs', ck', du'⟩ : Nd) ⟨.slice p1 ([⟨1, noBytes⟩] : List En).length c1, .slice p2 vs'.length c2, .slice p3 ne'.length c3, .slice p4 ma'.length c4, .slice p5 fs'.length c5⟩) 32 ((W3.setCells W2.heap.size 0 (#[nI id', nI te', .int .i64 vo', .slice p1 1 c1, nI fo', .int .i64 2, nI co', .slice p2 vs'.length c2, .slice p3 ne'.length c3, .slice p4 ma'.length c4, .slice p5 fs'.length c5, nI ck', nI du'] : Array Value).toList).alloc (.cells #[nI id', nI te', .int .i64 vo', .slice p1 1 c1, nI fo', .int .i64 2, nI co', .slice p2 vs'.length c2, .slice p3 ne'.length c3, .slice p4 ma'.length c4, .slice p5 fs'.length c5, nI ck', nI du'] 32))) := by rw [← hCS]; exact wb.below (below_new _ _)
              have R4 := hide hsl
              clear wb wg hO hlt3 hlt4 hnf hVW hCS K3 S3 H3 B3 hsl hb_ hh_ kz3_ hz3_ hc3_ x0_ x1_ x2_ x3_ x4_ x5_ x6_ x7_ x8_ x9_ x10_ x11_ x12_
              go_roundw
              case rel => exact ⟨c + 1, got, (⟨id', te', vo', [⟨1, noBytes⟩], fo', 2, co', vs', ne', ma', fs', ck', du'⟩ : Nd), ⟨.slice p1 ([⟨1, noBytes⟩] : List En).length c1, .slice p2 vs'.length c2, .slice p3 ne'.length c3, .slice p4 ma'.length c4, .slice p5 fs'.length c5⟩, Hs, by omega, by omega, by go_num, by go_num, R0, R1, R2, R4, R3, VO⟩
              case measure => simp [intOf] <;> omega
            | true =>
              have hokI : (0 : Int) < (x : Int) / 8 % 4 := of_decide_eq_true hok
              cases hb with
              | true =>
                obtain ⟨n', hn'⟩ : ∃ n', n' = n := ⟨_, rfl⟩
                have e : votedM n (vm fr true) = (n', []) := by rw [hn']; exact hld.no _
                have VO : Hid (Voting k got n' Hs) := hide (by rw [hn']; exact .inr ⟨hld, hgk⟩)
                have hro : n'.role = 2 := by rw [hn']; exact hld.role
                have hlo : n'.log = [⟨1, noBytes⟩] := by rw [hn']; exact hld.log
                have TH := hide (hear_any k n ⟨.slice g1 n.log.length y1, .slice g2 n.votes.length y2, .slice g3 n.next.length y3, .slice g4 n.mat.length y4, .slice g5 n.forms.length y5⟩ fr true wr n' [] (unhide HS) hld.el (.inr hld.log) ⟨hk2, hk5⟩ hfr2 e)
                obtain ⟨id', te', vo', lo', fo', ro', co', vs', ne', ma', fs', ck', du'⟩ := n'
                simp only at hro hlo
                subst hro hlo
                clear e
                clear hn'
                have hwas : (k : Int) < 2 * (got : Int) := by omega
                have hwad : decide ((k : Int) < 2 * (got : Int)) = true := decide_eq_true hwas
                clear hld hgk hrest_
                go_wp2_with (first
                  | (go_at_call 14; refine (unhide WX _).mono ?_; rintro e W3 ⟨rfl, hW3⟩; replace hW3 := hW3.symm; subst hW3)
                  | (go_at_call 16; refine (unhide TH).mono ?_; rintro e W3 ⟨q', sv, es, rfl, O⟩; obtain ⟨⟨p1, c1, k1⟩, ⟨p2, c2, k2⟩, ⟨p3, c3, k3⟩, ⟨p4, c4, k4⟩, ⟨p5, c5, k5⟩⟩ := rows_slices O.rows; obtain ⟨lq', vq', nq', mq', fq'⟩ := q'; simp only at k1 k2 k3 k4 k5; subst k1 k2 k3 k4 k5; obtain ⟨p6, c6, k6⟩ := own_slice O.sent.row; rw [show (([] : List Ms).zip es).length = 0 from rfl] at k6; subst k6; have HO := hide O; have hb_ := (unhide HK).below O.below; have hh_ := (unhide HH).below O.below; have kl3_ := hb_.lt; have kz3_ := hb_.froz; have hl3_ := hh_.lt; have hz3_ := hh_.froz; have hc3_ := hh_.cell fr; rw [hHfr] at hc3_; have x0_ := hb_.cell 0; have x1_ := hb_.cell 1; have x2_ := hb_.cell 2; have x3_ := hb_.cell 3; have x4_ := hb_.cell 4; have x5_ := hb_.cell 5; have x6_ := hb_.cell 6; have x7_ := hb_.cell 7; have x8_ := hb_.cell 8; have x9_ := hb_.cell 9; have x10_ := hb_.cell 10; have x11_ := hb_.cell 11; have x12_ := hb_.cell 12; simp at x0_ x1_ x2_ x3_ x4_ x5_ x6_ x7_ x8_ x9_ x10_ x11_ x12_; clear O))
                have hO := unhide HO
                have hlt3 := (unhide HK).lt
                have hlt4 := (unhide HH).lt
                have hnf : ∀ j, j < wr.heap.size → ¬ Foot5 ⟨.slice p1 ([⟨1, noBytes⟩] : List En).length c1, .slice p2 vs'.length c2, .slice p3 ne'.length c3, .slice p4 ma'.length c4, .slice p5 fs'.length c5⟩ j := fun j hj h => by have := hO.new _ (.inl h); omega
                have hVW : V.heap.size ≠ W2.heap.size := by omega
                have K3 := hb_
                have S3 := hO.rows.sees
                have H3 := hh_
                have B3 := Below.onto (unhide HB) hO.below
                have hsl : Hs.length = 5 := unhide HL
                obtain ⟨wb, wg⟩ := whole_set (cs := #[nI id', nI te', .int .i64 vo', .slice p1 1 c1, nI fo', .int .i64 2, nI co', .slice p2 vs'.length c2, .slice p3 ne'.length c3, .slice p4 ma'.length c4, .slice p5 fs'.length c5, nI ck', nI du']) K3 rfl
                have hCS : (#[nI id', nI te', .int .i64 vo', .slice p1 1 c1, nI fo', .int .i64 2, nI co', .slice p2 vs'.length c2, .slice p3 ne'.length c3, .slice p4 ma'.length c4, .slice p5 fs'.length c5, nI ck', nI du'] : Array Value) = ndA (⟨id', te', vo', [⟨1, noBytes⟩], fo', 2, co', vs', ne', ma', fs', ck', du'⟩ : Nd) ⟨.slice p1 ([⟨1, noBytes⟩] : List En).length c1, .slice p2 vs'.length c2, .slice p3 ne'.length c3, .slice p4 ma'.length c4, .slice p5 fs'.length c5⟩ := by simp
                have R1 := hide ((seesN_grown S3 wg (hnf _ hlt3)).below (below_new _ (.cells #[nI id', nI te', .int .i64 vo', .slice p1 1 c1, nI fo', .int .i64 2, nI co', .slice p2 vs'.length c2, .slice p3 ne'.length c3, .slice p4 ma'.length c4, .slice p5 fs'.length c5, nI ck', nI du'] 32)))
                have R2 := hide ((H3.grown wg hVW).below (below_new _ (.cells #[nI id', nI te', .int .i64 vo', .slice p1 1 c1, nI fo', .int .i64 2, nI co', .slice p2 vs'.length c2, .slice p3 ne'.length c3, .slice p4 ma'.length c4, .slice p5 fs'.length c5, nI ck', nI du'] 32)))
                have R3 := hide (Below.onto (below_grown B3 wg (unhide hws) (by have := (unhide HB).size; have := hO.below.size; have := B3.size; omega)) (below_new _ (.cells #[nI id', nI te', .int .i64 vo', .slice p1 1 c1, nI fo', .int .i64 2, nI co', .slice p2 vs'.length c2, .slice p3 ne'.length c3, .slice p4 ma'.length c4, .slice p5 fs'.length c5, nI ck', nI du'] 32)))
                have R0 : Hid (Blk W2.heap.size (ndA (⟨id', te', vo', [⟨1, noBytes⟩], fo', 2, co', vs', ne', ma', fs', ck', du'⟩ : Nd) ⟨.slice p1 ([⟨1, noBytes⟩] : List En).length c1, .slice p2 vs'.length c2, .slice p3 ne'.length c3, .slice p4 ma'.length c4, .slice p5 fs'.length c5⟩) 32 ((W3.setCells W2.heap.size 0 (#[nI id', nI te', .int .i64 vo', .slice p1 1 c1, nI fo', .int .i64 2, nI co', .slice p2 vs'.length c2, .slice p3 ne'.length c3, .slice p4 ma'.length c4, .slice p5 fs'.length c5, nI ck', nI du'] : Array Value).toList).alloc (.cells #[nI id', nI te', .int .i64 vo', .slice p1 1 c1, nI fo', .int .i64 2, nI co', .slice p2 vs'.length c2, .slice p3 ne'.length c3, .slice p4 ma'.length c4, .slice p5 fs'.length c5, nI ck', nI du'] 32))) := by rw [← hCS]; exact wb.below (below_new _ _)
                have R4 := hide hsl
                clear wb wg hO hlt3 hlt4 hnf hVW hCS K3 S3 H3 B3 hsl hb_ hh_ kz3_ hz3_ hc3_ x0_ x1_ x2_ x3_ x4_ x5_ x6_ x7_ x8_ x9_ x10_ x11_ x12_
                go_roundw
                case rel => exact ⟨c + 1, got, (⟨id', te', vo', [⟨1, noBytes⟩], fo', 2, co', vs', ne', ma', fs', ck', du'⟩ : Nd), ⟨.slice p1 ([⟨1, noBytes⟩] : List En).length c1, .slice p2 vs'.length c2, .slice p3 ne'.length c3, .slice p4 ma'.length c4, .slice p5 fs'.length c5⟩, Hs, by omega, by omega, by go_num, by go_num, R0, R1, R2, R4, R3, VO⟩
                case measure => simp [intOf] <;> omega
              | false =>
                obtain ⟨n', hn'⟩ : ∃ n', n' = n := ⟨_, rfl⟩
                have e : votedM n (vm fr true) = (n', []) := by rw [hn']; exact hld.no _
                have VO : Hid (Voting k got n' Hs) := hide (by rw [hn']; exact .inr ⟨hld, hgk⟩)
                have hro : n'.role = 2 := by rw [hn']; exact hld.role
                have hlo : n'.log = [⟨1, noBytes⟩] := by rw [hn']; exact hld.log
                have TH := hide (hear_any k n ⟨.slice g1 n.log.length y1, .slice g2 n.votes.length y2, .slice g3 n.next.length y3, .slice g4 n.mat.length y4, .slice g5 n.forms.length y5⟩ fr true wr n' [] (unhide HS) hld.el (.inr hld.log) ⟨hk2, hk5⟩ hfr2 e)
                obtain ⟨id', te', vo', lo', fo', ro', co', vs', ne', ma', fs', ck', du'⟩ := n'
                simp only at hro hlo
                subst hro hlo
                clear e
                clear hn'
                have hwas : (k : Int) < 2 * (got : Int) := by omega
                have hwad : decide ((k : Int) < 2 * (got : Int)) = true := decide_eq_true hwas
                clear hld hgk hrest_
                go_wp2_with (first
                  | (go_at_call 14; refine (unhide WX _).mono ?_; rintro e W3 ⟨rfl, hW3⟩; replace hW3 := hW3.symm; subst hW3)
                  | (go_at_call 16; refine (unhide TH).mono ?_; rintro e W3 ⟨q', sv, es, rfl, O⟩; obtain ⟨⟨p1, c1, k1⟩, ⟨p2, c2, k2⟩, ⟨p3, c3, k3⟩, ⟨p4, c4, k4⟩, ⟨p5, c5, k5⟩⟩ := rows_slices O.rows; obtain ⟨lq', vq', nq', mq', fq'⟩ := q'; simp only at k1 k2 k3 k4 k5; subst k1 k2 k3 k4 k5; obtain ⟨p6, c6, k6⟩ := own_slice O.sent.row; rw [show (([] : List Ms).zip es).length = 0 from rfl] at k6; subst k6; have HO := hide O; have hb_ := (unhide HK).below O.below; have hh_ := (unhide HH).below O.below; have kl3_ := hb_.lt; have kz3_ := hb_.froz; have hl3_ := hh_.lt; have hz3_ := hh_.froz; have hc3_ := hh_.cell fr; rw [hHfr] at hc3_; have x0_ := hb_.cell 0; have x1_ := hb_.cell 1; have x2_ := hb_.cell 2; have x3_ := hb_.cell 3; have x4_ := hb_.cell 4; have x5_ := hb_.cell 5; have x6_ := hb_.cell 6; have x7_ := hb_.cell 7; have x8_ := hb_.cell 8; have x9_ := hb_.cell 9; have x10_ := hb_.cell 10; have x11_ := hb_.cell 11; have x12_ := hb_.cell 12; simp at x0_ x1_ x2_ x3_ x4_ x5_ x6_ x7_ x8_ x9_ x10_ x11_ x12_; clear O))
                have hO := unhide HO
                have hlt3 := (unhide HK).lt
                have hlt4 := (unhide HH).lt
                have hnf : ∀ j, j < wr.heap.size → ¬ Foot5 ⟨.slice p1 ([⟨1, noBytes⟩] : List En).length c1, .slice p2 vs'.length c2, .slice p3 ne'.length c3, .slice p4 ma'.length c4, .slice p5 fs'.length c5⟩ j := fun j hj h => by have := hO.new _ (.inl h); omega
                have hVW : V.heap.size ≠ W2.heap.size := by omega
                have K3 := hb_
                have S3 := hO.rows.sees
                have H3 := hh_
                have B3 := Below.onto (unhide HB) hO.below
                have hsl : Hs.length = 5 := unhide HL
                obtain ⟨wb, wg⟩ := whole_set (cs := #[nI id', nI te', .int .i64 vo', .slice p1 1 c1, nI fo', .int .i64 2, nI co', .slice p2 vs'.length c2, .slice p3 ne'.length c3, .slice p4 ma'.length c4, .slice p5 fs'.length c5, nI ck', nI du']) K3 rfl
                have hCS : (#[nI id', nI te', .int .i64 vo', .slice p1 1 c1, nI fo', .int .i64 2, nI co', .slice p2 vs'.length c2, .slice p3 ne'.length c3, .slice p4 ma'.length c4, .slice p5 fs'.length c5, nI ck', nI du'] : Array Value) = ndA (⟨id', te', vo', [⟨1, noBytes⟩], fo', 2, co', vs', ne', ma', fs', ck', du'⟩ : Nd) ⟨.slice p1 ([⟨1, noBytes⟩] : List En).length c1, .slice p2 vs'.length c2, .slice p3 ne'.length c3, .slice p4 ma'.length c4, .slice p5 fs'.length c5⟩ := by simp
                have R1 := hide ((seesN_grown S3 wg (hnf _ hlt3)).below (below_new _ (.cells #[nI id', nI te', .int .i64 vo', .slice p1 1 c1, nI fo', .int .i64 2, nI co', .slice p2 vs'.length c2, .slice p3 ne'.length c3, .slice p4 ma'.length c4, .slice p5 fs'.length c5, nI ck', nI du'] 32)))
                have R2 := hide ((H3.grown wg hVW).below (below_new _ (.cells #[nI id', nI te', .int .i64 vo', .slice p1 1 c1, nI fo', .int .i64 2, nI co', .slice p2 vs'.length c2, .slice p3 ne'.length c3, .slice p4 ma'.length c4, .slice p5 fs'.length c5, nI ck', nI du'] 32)))
                have R3 := hide (Below.onto (below_grown B3 wg (unhide hws) (by have := (unhide HB).size; have := hO.below.size; have := B3.size; omega)) (below_new _ (.cells #[nI id', nI te', .int .i64 vo', .slice p1 1 c1, nI fo', .int .i64 2, nI co', .slice p2 vs'.length c2, .slice p3 ne'.length c3, .slice p4 ma'.length c4, .slice p5 fs'.length c5, nI ck', nI du'] 32)))
                have R0 : Hid (Blk W2.heap.size (ndA (⟨id', te', vo', [⟨1, noBytes⟩], fo', 2, co', vs', ne', ma', fs', ck', du'⟩ : Nd) ⟨.slice p1 ([⟨1, noBytes⟩] : List En).length c1, .slice p2 vs'.length c2, .slice p3 ne'.length c3, .slice p4 ma'.length c4, .slice p5 fs'.length c5⟩) 32 ((W3.setCells W2.heap.size 0 (#[nI id', nI te', .int .i64 vo', .slice p1 1 c1, nI fo', .int .i64 2, nI co', .slice p2 vs'.length c2, .slice p3 ne'.length c3, .slice p4 ma'.length c4, .slice p5 fs'.length c5, nI ck', nI du'] : Array Value).toList).alloc (.cells #[nI id', nI te', .int .i64 vo', .slice p1 1 c1, nI fo', .int .i64 2, nI co', .slice p2 vs'.length c2, .slice p3 ne'.length c3, .slice p4 ma'.length c4, .slice p5 fs'.length c5, nI ck', nI du'] 32))) := by rw [← hCS]; exact wb.below (below_new _ _)
                have R4 := hide hsl
                clear wb wg hO hlt3 hlt4 hnf hVW hCS K3 S3 H3 B3 hsl hb_ hh_ kz3_ hz3_ hc3_ x0_ x1_ x2_ x3_ x4_ x5_ x6_ x7_ x8_ x9_ x10_ x11_ x12_
                go_roundw
                case rel => exact ⟨c + 1, got, (⟨id', te', vo', [⟨1, noBytes⟩], fo', 2, co', vs', ne', ma', fs', ck', du'⟩ : Nd), ⟨.slice p1 ([⟨1, noBytes⟩] : List En).length c1, .slice p2 vs'.length c2, .slice p3 ne'.length c3, .slice p4 ma'.length c4, .slice p5 fs'.length c5⟩, Hs, by omega, by omega, by go_num, by go_num, R0, R1, R2, R4, R3, VO⟩
                case measure => simp [intOf] <;> omega
        · have ht1 : n.term = 1 := by rcases unhide HV with ⟨h, _⟩ | ⟨h, _⟩ <;> exact h.el.term
          have d1 : wr.cell? ⟨W2.heap.size, 1, none⟩ = some (.int .i64 1) := ((unhide HK).cell 1).trans (by simp [ht1])
          have kl_ := (unhide HK).lt
          have hnn : ¬ (c < zs.length ∧ c < 12) := hlt
          go_wp2
          all_goals
            go_ret
            exact ⟨rfl, unhide HB⟩
end Go.Proofs.Ytgifnbcgadonlaa
