/-
  RaftTicks: the walk.
-/
import Derived.Test.YtbojfiflemmgaaaRTb
namespace Go.Proofs.Ytbojfiflemmgaaa
open Go.RowKit
set_option linter.unusedSimpArgs false
set_option linter.unusedVariables false

theorem own_cells_s {s : Nat} {T : TypeId} {v : Value} {m : Nat} {cs : List Value} {W : World} (h : W.ownsRow 0 T s v m cs) (hm : 0 < m) : ∃ g cap, v = .slice (some ⟨g, 0, none⟩) m cap ∧ g < W.heap.size ∧ ∀ i u, cs[i]? = some u → W.cell? ⟨g, i, none⟩ = some u := by
  obtain ⟨h1, h2⟩ := h
  rcases h2 with ⟨_, h0⟩ | ⟨g, cap, cur, rfl, hb, hg, hn, hc, hs, ht⟩
  · omega
  · refine ⟨g, cap, rfl, (Array.getElem?_eq_some_iff.1 hg).1, fun j u hu => ?_⟩
    have hj : j < m * s := by have := (List.getElem?_eq_some_iff.1 hu).1; omega
    rw [cell_of_row W g j cur _ _ hg]
    rw [← ht, List.getElem?_take_of_lt hj, Array.getElem?_toList] at hu
    exact hu
theorem mssC_at (S : List (Ms × Value)) : ∀ (j f : Nat) (h : j < S.length) (hf : f < 10), (mssC S)[j * 10 + f]? = (msC S[j].1 S[j].2)[f]? := by
  induction S with
  | nil => intro j f h; exact absurd h (by simp)
  | cons x S ih =>
    intro j f h hf
    have h3 : mssC (x :: S) = msC x.1 x.2 ++ mssC S := rfl
    have hl : (msC x.1 x.2).length = 10 := rfl
    rw [h3]
    cases j with
    | zero => rw [List.getElem?_append_left (by omega), Nat.zero_mul, Nat.zero_add]; rfl
    | succ j =>
      rw [List.getElem?_append_right (by omega), show (j + 1) * 10 + f - (msC x.1 x.2).length = j * 10 + f by omega, ih j f (by simpa using h) hf]
      rfl
/-- the cells of what a node alone asks -/
theorem asks_cells {i te L : Nat} {ms : List Ms} {es : List Value} {sv : Value} {W W0 : World} (h : SentR sv (ms.zip es) W) (he : NewE es ms W0) (hL : ms.length = L) (hL0 : 0 < L) (hm : ∀ m ∈ ms, m.kind = 1 ∧ m.term = te + 1 ∧ m.frm = i ∧ m.to ≠ i) :
    ∃ g cap, sv = .slice (some ⟨g, 0, none⟩) L cap ∧ g < W.heap.size ∧ ∀ j, j < L → W.cell? ⟨g, j * 10, none⟩ = some (.int .i64 1) ∧ W.cell? ⟨g, j * 10 + 1, none⟩ = some (nI i) ∧ (∃ to : Nat, to ≠ i ∧ W.cell? ⟨g, j * 10 + 2, none⟩ = some (nI to)) ∧ W.cell? ⟨g, j * 10 + 3, none⟩ = some (nI (te + 1)) := by
  have hz : (ms.zip es).length = L := by rw [List.length_zip, he.1, hL]; omega
  obtain ⟨g, cap, hv, hg, hc⟩ := own_cells_s h.row (by rw [hz]; exact hL0)
  rw [hz] at hv
  refine ⟨g, cap, hv, hg, fun j hj => ?_⟩
  have hj2 : j < (ms.zip es).length := by omega
  have hx : (ms.zip es)[j].1 ∈ ms := (List.of_mem_zip (List.getElem_mem hj2)).1
  obtain ⟨m1, m2, m3, m4⟩ := hm _ hx
  have q0 := hc (j * 10 + 0) _ (mssC_at _ j 0 hj2 (by omega))
  have q1 := hc (j * 10 + 1) _ (mssC_at _ j 1 hj2 (by omega))
  have q2 := hc (j * 10 + 2) _ (mssC_at _ j 2 hj2 (by omega))
  have q3 := hc (j * 10 + 3) _ (mssC_at _ j 3 hj2 (by omega))
  simp only [msC, m1, m2, m3] at q0 q1 q2 q3
  exact ⟨q0, q1, ⟨_, m4, q2⟩, q3⟩
set_option maxRecDepth 100000 in
set_option maxHeartbeats 8000000 in
theorem raftTicks_any (id size ticks : Int) (w : World) (h0 : Is64 id) (h1 : Is64 size) (h2 : Is64 ticks) : Calls Try.prog 7 #[.int .i64 id, .int .i64 size, .int .i64 ticks] w fun e w' => e = .returned (.bool true) ∧ Below w.heap.size w w' := by
  obtain ⟨s, hs⟩ : ∃ s : Nat, size % 4 = s := ⟨(size % 4).toNat, by omega⟩
  have hs4 : s < 4 := by omega
  obtain ⟨k, hk⟩ : ∃ k : Nat, k = 2 + s := ⟨_, rfl⟩
  have hkz : IntKind.i64.wrap (2 + (s : Int)) = (k : Int) := (IntWalk.i64_in _ (by omega)).trans (by omega)
  obtain ⟨i, hi⟩ : ∃ i : Nat, id % (k : Int) = i := ⟨(id % (k : Int)).toNat, by have := Int.emod_nonneg id (show (k : Int) ≠ 0 by omega); omega⟩
  have hik : i < k := by have := Int.emod_lt_of_pos id (show (0 : Int) < k by omega); omega
  obtain ⟨T, hT⟩ : ∃ T : Nat, ticks % 60 = T := ⟨(ticks % 60).toNat, by omega⟩
  have hT60 : T < 60 := by omega
  have WS := hide (fun W => (within8_is h1 (by omega) hs W : Calls Try.prog 14 #[.int .i64 size, .int .i64 4] W _))
  have WI := hide (fun W => (within8_is h0 (by omega) hi W : Calls Try.prog 14 #[.int .i64 id, .int .i64 (k : Int)] W _))
  have WT := hide (fun W => (within8_is h2 (by omega) hT W : Calls Try.prog 14 #[.int .i64 ticks, .int .i64 60] W _))
  have NW := hide (fun W => (new_any i k 1 W hik (by omega) (by omega) : Calls Try.prog 21 #[.int .i64 (i : Int), .int .i64 (k : Int), .int .i64 1] W _))
  have KN := hide (fun W => known8_any W)
  have hk5 : k ≤ 5 := by omega
  have hk2 : 2 ≤ k := by omega
  have hi2 : IntKind.i64.wrap (2 * (i : Int)) = 2 * (i : Int) := IntWalk.i64_in _ (by omega)
  have hi5 : IntKind.i64.wrap (5 + 2 * (i : Int)) = ((5 + 2 * i : Nat) : Int) := (IntWalk.i64_in _ (by omega)).trans (by omega)
  have L0 := hide (lone_new i k)
  obtain ⟨na, hna⟩ : ∃ na, newM i k 1 = na := ⟨_, rfl⟩
  rw [hna] at NW L0
  clear hs hk hi hT h0 h1 h2 hna
  go_enter Try.func7, Try.ntmps7
  go_wp2_with (first
    | (go_at_call 12; refine (unhide KN _).mono ?_; rintro e W1 ⟨rfl, hb1⟩; have HB1 := hide hb1; clear hb1)
    | (go_at_call_of 14 (Value.int IntKind.i64 size); refine (unhide WS _).mono ?_; rintro e W2 ⟨rfl, hW2⟩; replace hW2 := hW2.symm; subst hW2)
    | (go_at_call_of 14 (Value.int IntKind.i64 id); refine (unhide WI _).mono ?_; rintro e W2 ⟨rfl, hW2⟩; replace hW2 := hW2.symm; subst hW2)
    | (go_at_call 21; refine (unhide NW _).mono ?_; rintro e W2 ⟨q1, rfl, O1⟩; obtain ⟨⟨g1, y1, j1⟩, ⟨g2, y2, j2⟩, ⟨g3, y3, j3⟩, ⟨g4, y4, j4⟩, ⟨g5, y5, j5⟩⟩ := rows_slices O1.rows; obtain ⟨lq, vq, nq, mq, fq⟩ := q1; simp only at j1 j2 j3 j4 j5; subst j1 j2 j3 j4 j5; have HO1 := hide O1; clear O1 NW))
  have b1 := unhide HB1
  have b2 := Below.onto b1 (unhide HO1).below
  have b4 := hide (Below.onto b2 (below_new W2 (.cells #[nI na.id, nI na.term, .int .i64 na.vote, .slice g1 na.log.length y1, nI na.form, nI na.role, nI na.commit, .slice g2 na.votes.length y2, .slice g3 na.next.length y3, .slice g4 na.mat.length y4, .slice g5 na.forms.length y5, nI na.clock, nI na.due] 32)))
  have KB := hide (Blk.new W2 #[nI na.id, nI na.term, .int .i64 na.vote, .slice g1 na.log.length y1, nI na.form, nI na.role, nI na.commit, .slice g2 na.votes.length y2, .slice g3 na.next.length y3, .slice g4 na.mat.length y4, .slice g5 na.forms.length y5, nI na.clock, nI na.due] 32)
  have SB := hide ((unhide HO1).rows.sees.below (below_new W2 (.cells #[nI na.id, nI na.term, .int .i64 na.vote, .slice g1 na.log.length y1, nI na.form, nI na.role, nI na.commit, .slice g2 na.votes.length y2, .slice g3 na.next.length y3, .slice g4 na.mat.length y4, .slice g5 na.forms.length y5, nI na.clock, nI na.due] 32)))
  have hws : Hid (w.heap.size ≤ W2.heap.size) := hide b2.size
  clear b1 b2 HB1 HO1 hi5
  go_loopw [10, 11, 12] (fun te du t wr => ∃ (c e d : Nat) (n : Nd) (q : Q5), c ≤ T ∧ te = nI e ∧ du = nI d ∧ t = nI (c + 1) ∧ Hid (Lone i k c e d n) ∧ Hid (Blk W2.heap.size (ndA n q) 32 wr) ∧ Hid (SeesN q n wr) ∧ Hid (Below w.heap.size w wr)) (fun _ _ t wr => 61 - (intOf t).toNat)
  case atStart => exact ⟨0, 0, 5 + 2 * i, na, ⟨.slice g1 na.log.length y1, .slice g2 na.votes.length y2, .slice g3 na.next.length y3, .slice g4 na.mat.length y4, .slice g5 na.forms.length y5⟩, by omega, rfl, by trivial, rfl, L0, KB, SB, b4⟩
  case round =>
    clear KB SB b4 L0
    obtain ⟨c, te, du, n, q, hc, rfl, rfl, rfl, HL, HK, HS, HB⟩ := hrel
    by_cases hlt : c < T
    · have hok := (unhide HL).ok hik hk5 (by omega)
      have hsm := (unhide HL).small
      have hlm := (unhide HL).most
      have hla := (unhide HL).later
      have TK := hide (tickC_any q n wr (unhide HS) hok)
      obtain ⟨⟨g1, y1, j1⟩, ⟨g2, y2, j2⟩, ⟨g3, y3, j3⟩, ⟨g4, y4, j4⟩, ⟨g5, y5, j5⟩⟩ := sees_slices (unhide HS)
      obtain ⟨lq, vq, nq, mq, fq⟩ := q
      simp only at j1 j2 j3 j4 j5
      subst j1 j2 j3 j4 j5
      obtain ⟨b0, b1, b2, b3, b4, b5, b6, b7, b8, b9, b10, b11, b12⟩ := (unhide HK).box13
      have kl_ := (unhide HK).lt
      have hnx : IntKind.i64.wrap (((c + 1 : Nat) : Int) + 1) = ((c + 1 + 1 : Nat) : Int) := (IntWalk.i64_in _ (by omega)).trans (by omega)
      clear hok
      by_cases hd : c + 1 = du
      · obtain ⟨s1, s2⟩ := lone_stand (unhide HL) hd hik hk2
        obtain ⟨a1, a2⟩ := lone_asks (unhide HL) hik
        rw [← s2] at a1 a2
        obtain ⟨n', hn'⟩ : ∃ n', (tickM n).1 = n' := ⟨_, rfl⟩
        obtain ⟨ms, hms⟩ : ∃ ms, (tickM n).2 = ms := ⟨_, rfl⟩
        rw [hn', hms] at TK
        rw [hn'] at s1
        rw [hms] at a1 a2
        obtain ⟨L, hL⟩ : ∃ L, k - 1 = L := ⟨_, rfl⟩
        rw [hL] at a1
        have hkL : IntKind.i64.wrap ((k : Int) - 1) = (L : Int) := (IntWalk.i64_in _ (by omega)).trans (by omega)
        have HL' := hide s1
        have HA1 := hide a1
        have HA2 := hide a2
        have hteI : IntKind.i64.wrap ((te : Int) + 1) = ((te + 1 : Nat) : Int) := (IntWalk.i64_in _ (by omega)).trans (by omega)
        have hduI : IntKind.i64.wrap (((c + 1 : Nat) : Int) + 5) = ((c + 1 + 5 : Nat) : Int) := (IntWalk.i64_in _ (by omega)).trans (by omega)
        have hduJ : IntKind.i64.wrap (((c + 1 + 5 : Nat) : Int) + 2 * (i : Int)) = ((c + 1 + 5 + 2 * i : Nat) : Int) := (IntWalk.i64_in _ (by omega)).trans (by omega)
        clear s1 s2 a1 a2 hms hn'
        subst hd
        obtain ⟨id', te', vo', lo', fo', ro', co', vs', ne', ma', fs', ck', du'⟩ := n'
        obtain rfl : ck' = c + 1 := (unhide HL').clock
        obtain rfl : te' = te + 1 := (unhide HL').term
        obtain rfl : du' = c + 1 + 5 + 2 * i := (unhide HL').due
        obtain rfl : ro' = 1 := (unhide HL').role
        go_wp2_with (first
          | (go_at_call 14; refine (unhide WT _).mono ?_; rintro e Wz ⟨rfl, hWz⟩; replace hWz := hWz.symm; subst hWz)
          | (go_at_call 18; refine (unhide TK).mono ?_; clear TK; rintro e W3 ⟨q', sv, es, rfl, O⟩; obtain ⟨⟨p1, c1, k1⟩, ⟨p2, c2, k2⟩, ⟨p3, c3, k3⟩, ⟨p4, c4, k4⟩, ⟨p5, c5, k5⟩⟩ := rows_slices O.rows; obtain ⟨lq', vq', nq', mq', fq'⟩ := q'; simp only at k1 k2 k3 k4 k5; subst k1 k2 k3 k4 k5; obtain ⟨gm, cm, hsv, hgm, hcells⟩ := asks_cells O.sent O.len (unhide HA1) (by omega) (unhide HA2); subst hsv; have HCS := hide hcells; have HO := hide O; clear O hcells))
        go_loop [15] (fun j => ∃ jj : Nat, jj ≤ L ∧ j = .int .i64 (jj : Int)) (fun j => L - (intOf j).toNat)
        case atStart => exact ⟨0, Nat.zero_le _, rfl⟩
        case round =>
          obtain ⟨jj, hjj, rfl⟩ := hrel
          by_cases hjl : jj < L
          · obtain ⟨e0, e1, ⟨to, hto, e2⟩, e3⟩ := unhide HCS jj hjl
            have hti : ¬ ((to : Int) = (i : Int)) := by omega
            have hjn : IntKind.i64.wrap ((jj : Int) + 1) = ((jj + 1 : Nat) : Int) := (IntWalk.i64_in _ (by omega)).trans (by omega)
            go_wp2
            go_round
            case rel => exact ⟨jj + 1, by omega, by go_num⟩
            case measure => simp [intOf] <;> omega
          · obtain rfl : jj = L := by omega
            clear HCS
            have BN := hide (((unhide HK).below (unhide HO).below).below (below_new W3 (.cells (ndA (⟨id', te + 1, vo', lo', fo', 1, co', vs', ne', ma', fs', c + 1, c + 1 + 5 + 2 * i⟩ : Nd) ⟨.slice p1 lo'.length c1, .slice p2 vs'.length c2, .slice p3 ne'.length c3, .slice p4 ma'.length c4, .slice p5 fs'.length c5⟩) 32)))
            have hb_ := (unhide HK).below (unhide HO).below
            have hl3_ := hb_.lt
            have hz3_ := hb_.froz
            have hz4_ := (unhide BN).froz
            have x0_ := hb_.cell 0
            have x1_ := hb_.cell 1
            have x2_ := hb_.cell 2
            have x3_ := hb_.cell 3
            have x4_ := hb_.cell 4
            have x5_ := hb_.cell 5
            have x6_ := hb_.cell 6
            have x7_ := hb_.cell 7
            have x8_ := hb_.cell 8
            have x9_ := hb_.cell 9
            have x10_ := hb_.cell 10
            have x11_ := hb_.cell 11
            have x12_ := hb_.cell 12
            simp at x0_ x1_ x2_ x3_ x4_ x5_ x6_ x7_ x8_ x9_ x10_ x11_ x12_
            clear hb_
            go_wp2
            obtain ⟨wb, wg⟩ := whole_set (cs := #[nI id', .int .i64 ((te : Int) + 1), .int .i64 vo', .slice p1 lo'.length c1, nI fo', .int .i64 1, nI co', .slice p2 vs'.length c2, .slice p3 ne'.length c3, .slice p4 ma'.length c4, .slice p5 fs'.length c5, .int .i64 ((c : Int) + 1), .int .i64 ((c : Int) + 1 + 5 + 2 * (i : Int))]) ((unhide HK).below (unhide HO).below) rfl
            have hCS : (#[nI id', .int .i64 ((te : Int) + 1), .int .i64 vo', .slice p1 lo'.length c1, nI fo', .int .i64 1, nI co', .slice p2 vs'.length c2, .slice p3 ne'.length c3, .slice p4 ma'.length c4, .slice p5 fs'.length c5, .int .i64 ((c : Int) + 1), .int .i64 ((c : Int) + 1 + 5 + 2 * (i : Int))] : Array Value) = ndA (⟨id', te + 1, vo', lo', fo', 1, co', vs', ne', ma', fs', c + 1, c + 1 + 5 + 2 * i⟩ : Nd) ⟨.slice p1 lo'.length c1, .slice p2 vs'.length c2, .slice p3 ne'.length c3, .slice p4 ma'.length c4, .slice p5 fs'.length c5⟩ := by simp
            have hO := unhide HO
            have hlt2 := (unhide HK).lt
            have hnf : ¬ Foot5 ⟨.slice p1 lo'.length c1, .slice p2 vs'.length c2, .slice p3 ne'.length c3, .slice p4 ma'.length c4, .slice p5 fs'.length c5⟩ W2.heap.size := fun h => by have := hO.new _ (.inl h); omega
            have R1 := hide ((seesN_grown hO.rows.sees wg hnf).below (below_new _ (.cells #[nI id', .int .i64 ((te : Int) + 1), .int .i64 vo', .slice p1 lo'.length c1, nI fo', .int .i64 1, nI co', .slice p2 vs'.length c2, .slice p3 ne'.length c3, .slice p4 ma'.length c4, .slice p5 fs'.length c5, .int .i64 ((c : Int) + 1), .int .i64 ((c : Int) + 1 + 5 + 2 * (i : Int))] 32)))
            have R3 := hide (Below.onto (below_grown (Below.onto (unhide HB) hO.below) wg (unhide hws) (by have := (unhide HB).size; have := hO.below.size; omega)) (below_new _ (.cells #[nI id', .int .i64 ((te : Int) + 1), .int .i64 vo', .slice p1 lo'.length c1, nI fo', .int .i64 1, nI co', .slice p2 vs'.length c2, .slice p3 ne'.length c3, .slice p4 ma'.length c4, .slice p5 fs'.length c5, .int .i64 ((c : Int) + 1), .int .i64 ((c : Int) + 1 + 5 + 2 * (i : Int))] 32)))
            have R0 : Hid (Blk W2.heap.size (ndA (⟨id', te + 1, vo', lo', fo', 1, co', vs', ne', ma', fs', c + 1, c + 1 + 5 + 2 * i⟩ : Nd) ⟨.slice p1 lo'.length c1, .slice p2 vs'.length c2, .slice p3 ne'.length c3, .slice p4 ma'.length c4, .slice p5 fs'.length c5⟩) 32 ((W3.setCells W2.heap.size 0 (#[nI id', .int .i64 ((te : Int) + 1), .int .i64 vo', .slice p1 lo'.length c1, nI fo', .int .i64 1, nI co', .slice p2 vs'.length c2, .slice p3 ne'.length c3, .slice p4 ma'.length c4, .slice p5 fs'.length c5, .int .i64 ((c : Int) + 1), .int .i64 ((c : Int) + 1 + 5 + 2 * (i : Int))] : Array Value).toList).alloc (.cells #[nI id', .int .i64 ((te : Int) + 1), .int .i64 vo', .slice p1 lo'.length c1, nI fo', .int .i64 1, nI co', .slice p2 vs'.length c2, .slice p3 ne'.length c3, .slice p4 ma'.length c4, .slice p5 fs'.length c5, .int .i64 ((c : Int) + 1), .int .i64 ((c : Int) + 1 + 5 + 2 * (i : Int))] 32))) := by rw [← hCS]; exact wb.below (below_new _ _)
            clear wb wg hO hlt2 hnf hz3_ hz4_ hCS x0_ x1_ x2_ x3_ x4_ x5_ x6_ x7_ x8_ x9_ x10_ x11_ x12_
            go_roundw
            case rel => exact ⟨c + 1, te + 1, c + 1 + 5 + 2 * i, (⟨id', te + 1, vo', lo', fo', 1, co', vs', ne', ma', fs', c + 1, c + 1 + 5 + 2 * i⟩ : Nd), ⟨.slice p1 lo'.length c1, .slice p2 vs'.length c2, .slice p3 ne'.length c3, .slice p4 ma'.length c4, .slice p5 fs'.length c5⟩, by omega, by go_num, by go_num, by go_num, HL', R0, R1, R3⟩
            case measure => simp [intOf] <;> omega
      · obtain ⟨s1, s2⟩ := lone_wait (unhide HL) hd
        obtain ⟨n', hn'⟩ : ∃ n', (tickM n).1 = n' := ⟨_, rfl⟩
        obtain ⟨ms, hms⟩ : ∃ ms, (tickM n).2 = ms := ⟨_, rfl⟩
        rw [hn', hms] at TK
        rw [hn'] at s1
        rw [hms] at s2
        have HL' := hide s1
        have hd1 : ¬ ((c : Int) + 1 = (du : Int)) := by omega
        subst s2
        clear s1 hms hn' hd
        obtain ⟨id', te', vo', lo', fo', ro', co', vs', ne', ma', fs', ck', du'⟩ := n'
        obtain rfl : ck' = c + 1 := (unhide HL').clock
        obtain rfl : te = te' := (unhide HL').term.symm
        obtain rfl : du = du' := (unhide HL').due.symm
        obtain hro : ro' = if te = 0 then 0 else 1 := (unhide HL').role
        have hrr : (te = 0 ∧ ro' = 0) ∨ (1 ≤ te ∧ ro' = 1) := by rw [hro]; split <;> omega
        clear hro
        rcases hrr with ⟨rfl, rfl⟩ | ⟨hte, rfl⟩
        · skip
          go_wp2_with (first
            | (go_at_call 14; refine (unhide WT _).mono ?_; rintro e Wz ⟨rfl, hWz⟩; replace hWz := hWz.symm; subst hWz)
            | (go_at_call 18; refine (unhide TK).mono ?_; clear TK; rintro e W3 ⟨q', sv, es, rfl, O⟩; obtain ⟨⟨p1, c1, k1⟩, ⟨p2, c2, k2⟩, ⟨p3, c3, k3⟩, ⟨p4, c4, k4⟩, ⟨p5, c5, k5⟩⟩ := rows_slices O.rows; obtain ⟨lq', vq', nq', mq', fq'⟩ := q'; simp only at k1 k2 k3 k4 k5; subst k1 k2 k3 k4 k5; obtain ⟨p6, c6, k6⟩ := own_slice O.sent.row; rw [show (([] : List Ms).zip es).length = 0 from rfl] at k6; subst k6; have HO := hide O; clear O; have BN := hide (((unhide HK).below (unhide HO).below).below (below_new W3 (.cells (ndA (⟨id', 0, vo', lo', fo', 0, co', vs', ne', ma', fs', c + 1, du⟩ : Nd) ⟨.slice p1 lo'.length c1, .slice p2 vs'.length c2, .slice p3 ne'.length c3, .slice p4 ma'.length c4, .slice p5 fs'.length c5⟩) 32))); have hb_ := (unhide HK).below (unhide HO).below; have hl3_ := hb_.lt; have hz3_ := hb_.froz; have hz4_ := (unhide BN).froz; have x0_ := hb_.cell 0; have x1_ := hb_.cell 1; have x2_ := hb_.cell 2; have x3_ := hb_.cell 3; have x4_ := hb_.cell 4; have x5_ := hb_.cell 5; have x6_ := hb_.cell 6; have x7_ := hb_.cell 7; have x8_ := hb_.cell 8; have x9_ := hb_.cell 9; have x10_ := hb_.cell 10; have x11_ := hb_.cell 11; have x12_ := hb_.cell 12; simp at x0_ x1_ x2_ x3_ x4_ x5_ x6_ x7_ x8_ x9_ x10_ x11_ x12_; clear hb_))
          obtain ⟨wb, wg⟩ := whole_set (cs := #[nI id', .int .i64 (0), .int .i64 vo', .slice p1 lo'.length c1, nI fo', .int .i64 0, nI co', .slice p2 vs'.length c2, .slice p3 ne'.length c3, .slice p4 ma'.length c4, .slice p5 fs'.length c5, .int .i64 ((c : Int) + 1), .int .i64 ((du : Int))]) ((unhide HK).below (unhide HO).below) rfl
          have hCS : (#[nI id', .int .i64 (0), .int .i64 vo', .slice p1 lo'.length c1, nI fo', .int .i64 0, nI co', .slice p2 vs'.length c2, .slice p3 ne'.length c3, .slice p4 ma'.length c4, .slice p5 fs'.length c5, .int .i64 ((c : Int) + 1), .int .i64 ((du : Int))] : Array Value) = ndA (⟨id', 0, vo', lo', fo', 0, co', vs', ne', ma', fs', c + 1, du⟩ : Nd) ⟨.slice p1 lo'.length c1, .slice p2 vs'.length c2, .slice p3 ne'.length c3, .slice p4 ma'.length c4, .slice p5 fs'.length c5⟩ := by simp
          have hO := unhide HO
          have hlt2 := (unhide HK).lt
          have hnf : ¬ Foot5 ⟨.slice p1 lo'.length c1, .slice p2 vs'.length c2, .slice p3 ne'.length c3, .slice p4 ma'.length c4, .slice p5 fs'.length c5⟩ W2.heap.size := fun h => by have := hO.new _ (.inl h); omega
          have R1 := hide ((seesN_grown hO.rows.sees wg hnf).below (below_new _ (.cells #[nI id', .int .i64 (0), .int .i64 vo', .slice p1 lo'.length c1, nI fo', .int .i64 0, nI co', .slice p2 vs'.length c2, .slice p3 ne'.length c3, .slice p4 ma'.length c4, .slice p5 fs'.length c5, .int .i64 ((c : Int) + 1), .int .i64 ((du : Int))] 32)))
          have R3 := hide (Below.onto (below_grown (Below.onto (unhide HB) hO.below) wg (unhide hws) (by have := (unhide HB).size; have := hO.below.size; omega)) (below_new _ (.cells #[nI id', .int .i64 (0), .int .i64 vo', .slice p1 lo'.length c1, nI fo', .int .i64 0, nI co', .slice p2 vs'.length c2, .slice p3 ne'.length c3, .slice p4 ma'.length c4, .slice p5 fs'.length c5, .int .i64 ((c : Int) + 1), .int .i64 ((du : Int))] 32)))
          have R0 : Hid (Blk W2.heap.size (ndA (⟨id', 0, vo', lo', fo', 0, co', vs', ne', ma', fs', c + 1, du⟩ : Nd) ⟨.slice p1 lo'.length c1, .slice p2 vs'.length c2, .slice p3 ne'.length c3, .slice p4 ma'.length c4, .slice p5 fs'.length c5⟩) 32 ((W3.setCells W2.heap.size 0 (#[nI id', .int .i64 (0), .int .i64 vo', .slice p1 lo'.length c1, nI fo', .int .i64 0, nI co', .slice p2 vs'.length c2, .slice p3 ne'.length c3, .slice p4 ma'.length c4, .slice p5 fs'.length c5, .int .i64 ((c : Int) + 1), .int .i64 ((du : Int))] : Array Value).toList).alloc (.cells #[nI id', .int .i64 (0), .int .i64 vo', .slice p1 lo'.length c1, nI fo', .int .i64 0, nI co', .slice p2 vs'.length c2, .slice p3 ne'.length c3, .slice p4 ma'.length c4, .slice p5 fs'.length c5, .int .i64 ((c : Int) + 1), .int .i64 ((du : Int))] 32))) := by rw [← hCS]; exact wb.below (below_new _ _)
          clear wb wg hO hlt2 hnf hz3_ hz4_ hCS x0_ x1_ x2_ x3_ x4_ x5_ x6_ x7_ x8_ x9_ x10_ x11_ x12_
          go_roundw
          case rel => exact ⟨c + 1, 0, du, (⟨id', 0, vo', lo', fo', 0, co', vs', ne', ma', fs', c + 1, du⟩ : Nd), ⟨.slice p1 lo'.length c1, .slice p2 vs'.length c2, .slice p3 ne'.length c3, .slice p4 ma'.length c4, .slice p5 fs'.length c5⟩, by omega, by go_num, by go_num, by go_num, HL', R0, R1, R3⟩
          case measure => simp [intOf] <;> omega
        · have hdt : 0 < te := by omega
          go_wp2_with (first
            | (go_at_call 14; refine (unhide WT _).mono ?_; rintro e Wz ⟨rfl, hWz⟩; replace hWz := hWz.symm; subst hWz)
            | (go_at_call 18; refine (unhide TK).mono ?_; clear TK; rintro e W3 ⟨q', sv, es, rfl, O⟩; obtain ⟨⟨p1, c1, k1⟩, ⟨p2, c2, k2⟩, ⟨p3, c3, k3⟩, ⟨p4, c4, k4⟩, ⟨p5, c5, k5⟩⟩ := rows_slices O.rows; obtain ⟨lq', vq', nq', mq', fq'⟩ := q'; simp only at k1 k2 k3 k4 k5; subst k1 k2 k3 k4 k5; obtain ⟨p6, c6, k6⟩ := own_slice O.sent.row; rw [show (([] : List Ms).zip es).length = 0 from rfl] at k6; subst k6; have HO := hide O; clear O; have BN := hide (((unhide HK).below (unhide HO).below).below (below_new W3 (.cells (ndA (⟨id', te, vo', lo', fo', 1, co', vs', ne', ma', fs', c + 1, du⟩ : Nd) ⟨.slice p1 lo'.length c1, .slice p2 vs'.length c2, .slice p3 ne'.length c3, .slice p4 ma'.length c4, .slice p5 fs'.length c5⟩) 32))); have hb_ := (unhide HK).below (unhide HO).below; have hl3_ := hb_.lt; have hz3_ := hb_.froz; have hz4_ := (unhide BN).froz; have x0_ := hb_.cell 0; have x1_ := hb_.cell 1; have x2_ := hb_.cell 2; have x3_ := hb_.cell 3; have x4_ := hb_.cell 4; have x5_ := hb_.cell 5; have x6_ := hb_.cell 6; have x7_ := hb_.cell 7; have x8_ := hb_.cell 8; have x9_ := hb_.cell 9; have x10_ := hb_.cell 10; have x11_ := hb_.cell 11; have x12_ := hb_.cell 12; simp at x0_ x1_ x2_ x3_ x4_ x5_ x6_ x7_ x8_ x9_ x10_ x11_ x12_; clear hb_))
          obtain ⟨wb, wg⟩ := whole_set (cs := #[nI id', .int .i64 ((te : Int)), .int .i64 vo', .slice p1 lo'.length c1, nI fo', .int .i64 1, nI co', .slice p2 vs'.length c2, .slice p3 ne'.length c3, .slice p4 ma'.length c4, .slice p5 fs'.length c5, .int .i64 ((c : Int) + 1), .int .i64 ((du : Int))]) ((unhide HK).below (unhide HO).below) rfl
          have hCS : (#[nI id', .int .i64 ((te : Int)), .int .i64 vo', .slice p1 lo'.length c1, nI fo', .int .i64 1, nI co', .slice p2 vs'.length c2, .slice p3 ne'.length c3, .slice p4 ma'.length c4, .slice p5 fs'.length c5, .int .i64 ((c : Int) + 1), .int .i64 ((du : Int))] : Array Value) = ndA (⟨id', te, vo', lo', fo', 1, co', vs', ne', ma', fs', c + 1, du⟩ : Nd) ⟨.slice p1 lo'.length c1, .slice p2 vs'.length c2, .slice p3 ne'.length c3, .slice p4 ma'.length c4, .slice p5 fs'.length c5⟩ := by simp
          have hO := unhide HO
          have hlt2 := (unhide HK).lt
          have hnf : ¬ Foot5 ⟨.slice p1 lo'.length c1, .slice p2 vs'.length c2, .slice p3 ne'.length c3, .slice p4 ma'.length c4, .slice p5 fs'.length c5⟩ W2.heap.size := fun h => by have := hO.new _ (.inl h); omega
          have R1 := hide ((seesN_grown hO.rows.sees wg hnf).below (below_new _ (.cells #[nI id', .int .i64 ((te : Int)), .int .i64 vo', .slice p1 lo'.length c1, nI fo', .int .i64 1, nI co', .slice p2 vs'.length c2, .slice p3 ne'.length c3, .slice p4 ma'.length c4, .slice p5 fs'.length c5, .int .i64 ((c : Int) + 1), .int .i64 ((du : Int))] 32)))
          have R3 := hide (Below.onto (below_grown (Below.onto (unhide HB) hO.below) wg (unhide hws) (by have := (unhide HB).size; have := hO.below.size; omega)) (below_new _ (.cells #[nI id', .int .i64 ((te : Int)), .int .i64 vo', .slice p1 lo'.length c1, nI fo', .int .i64 1, nI co', .slice p2 vs'.length c2, .slice p3 ne'.length c3, .slice p4 ma'.length c4, .slice p5 fs'.length c5, .int .i64 ((c : Int) + 1), .int .i64 ((du : Int))] 32)))
          have R0 : Hid (Blk W2.heap.size (ndA (⟨id', te, vo', lo', fo', 1, co', vs', ne', ma', fs', c + 1, du⟩ : Nd) ⟨.slice p1 lo'.length c1, .slice p2 vs'.length c2, .slice p3 ne'.length c3, .slice p4 ma'.length c4, .slice p5 fs'.length c5⟩) 32 ((W3.setCells W2.heap.size 0 (#[nI id', .int .i64 ((te : Int)), .int .i64 vo', .slice p1 lo'.length c1, nI fo', .int .i64 1, nI co', .slice p2 vs'.length c2, .slice p3 ne'.length c3, .slice p4 ma'.length c4, .slice p5 fs'.length c5, .int .i64 ((c : Int) + 1), .int .i64 ((du : Int))] : Array Value).toList).alloc (.cells #[nI id', .int .i64 ((te : Int)), .int .i64 vo', .slice p1 lo'.length c1, nI fo', .int .i64 1, nI co', .slice p2 vs'.length c2, .slice p3 ne'.length c3, .slice p4 ma'.length c4, .slice p5 fs'.length c5, .int .i64 ((c : Int) + 1), .int .i64 ((du : Int))] 32))) := by rw [← hCS]; exact wb.below (below_new _ _)
          clear wb wg hO hlt2 hnf hz3_ hz4_ hCS x0_ x1_ x2_ x3_ x4_ x5_ x6_ x7_ x8_ x9_ x10_ x11_ x12_
          go_roundw
          case rel => exact ⟨c + 1, te, du, (⟨id', te, vo', lo', fo', 1, co', vs', ne', ma', fs', c + 1, du⟩ : Nd), ⟨.slice p1 lo'.length c1, .slice p2 vs'.length c2, .slice p3 ne'.length c3, .slice p4 ma'.length c4, .slice p5 fs'.length c5⟩, by omega, by go_num, by go_num, by go_num, HL', R0, R1, R3⟩
          case measure => simp [intOf] <;> omega
    · obtain rfl : c = T := by omega
      go_wp2_with (first
          | (go_at_call 14; refine (unhide WT _).mono ?_; rintro e Wz ⟨rfl, hWz⟩; replace hWz := hWz.symm; subst hWz))
      go_ret
      exact ⟨rfl, unhide HB⟩
end Go.Proofs.Ytbojfiflemmgaaa
