/-
  The statements' Make: the loop, kind 2.
-/
import Derived.Test.YtjmmfgmmmdbenaaCM0
namespace Go.Proofs.Ytjmmfgmmmdbenaa
open Go.RowKit
set_option linter.unusedSimpArgs false
set_option linter.unusedVariables false

set_option maxRecDepth 100000 in
set_option maxHeartbeats 16000000 in
theorem make7_k2 {r0 r1 rest : Code} (hc : Try.f14.body = some (.seq r0 (.seq r1 rest))) (kind id txn k x t d2 : Int) (p : Option Addr) (ncap : Nat) (zs : List Int) (s : ByteArray) (w : World) (CD : Hid (W7 txn 2 d2)) (hz : Hid (IntsP p zs w)) (hs : s.size ≤ 200) (ac : Act) (b : Nat) (X : World) (ha : ac = ⟨#[.int .i64 kind, .int .i64 id, .int .i64 txn, .slice p zs.length ncap, .string s, ac.tmps.getD 5 undef, ac.tmps.getD 6 undef, ac.tmps.getD 7 undef, ac.tmps.getD 8 undef, ac.tmps.getD 9 undef, .pointer (some ⟨w.heap.size, 0, none⟩), .pointer (some ⟨b, 0, none⟩), ac.tmps.getD 12 undef, ac.tmps.getD 13 undef, ac.tmps.getD 14 undef, ac.tmps.getD 15 undef, ac.tmps.getD 16 undef, ac.tmps.getD 17 undef, ac.tmps.getD 18 undef, ac.tmps.getD 19 undef, ac.tmps.getD 20 undef, ac.tmps.getD 21 undef, ac.tmps.getD 22 undef, ac.tmps.getD 23 undef, ac.tmps.getD 24 undef, ac.tmps.getD 25 undef, ac.tmps.getD 26 undef, ac.tmps.getD 27 undef, ac.tmps.getD 28 undef, ac.tmps.getD 29 undef, ac.tmps.getD 30 undef, ac.tmps.getD 31 undef, ac.tmps.getD 32 undef, ac.tmps.getD 33 undef, ac.tmps.getD 34 undef, ac.tmps.getD 35 undef, ac.tmps.getD 36 undef, ac.tmps.getD 37 undef, ac.tmps.getD 38 undef, ac.tmps.getD 39 undef, ac.tmps.getD 40 undef, ac.tmps.getD 41 undef, ac.tmps.getD 42 undef, ac.tmps.getD 43 undef, ac.tmps.getD 44 undef, ac.tmps.getD 45 undef, ac.tmps.getD 46 undef, ac.tmps.getD 47 undef, ac.tmps.getD 48 undef, ac.tmps.getD 49 undef, ac.tmps.getD 50 undef, ac.tmps.getD 51 undef, ac.tmps.getD 52 undef, ac.tmps.getD 53 undef, ac.tmps.getD 54 undef, ac.tmps.getD 55 undef, ac.tmps.getD 56 undef, ac.tmps.getD 57 undef, ac.tmps.getD 58 undef, ac.tmps.getD 59 undef, ac.tmps.getD 60 undef, ac.tmps.getD 61 undef, ac.tmps.getD 62 undef, ac.tmps.getD 63 undef, ac.tmps.getD 64 undef, ac.tmps.getD 65 undef, ac.tmps.getD 66 undef, ac.tmps.getD 67 undef, ac.tmps.getD 68 undef, ac.tmps.getD 69 undef, ac.tmps.getD 70 undef, ac.tmps.getD 71 undef, ac.tmps.getD 72 undef, ac.tmps.getD 73 undef, ac.tmps.getD 74 undef, ac.tmps.getD 75 undef, ac.tmps.getD 76 undef, ac.tmps.getD 77 undef, ac.tmps.getD 78 undef, ac.tmps.getD 79 undef, ac.tmps.getD 80 undef, ac.tmps.getD 81 undef, ac.tmps.getD 82 undef, ac.tmps.getD 83 undef, ac.tmps.getD 84 undef, ac.tmps.getD 85 undef, ac.tmps.getD 86 undef, ac.tmps.getD 87 undef, ac.tmps.getD 88 undef, ac.tmps.getD 89 undef, ac.tmps.getD 90 undef, ac.tmps.getD 91 undef, ac.tmps.getD 92 undef, ac.tmps.getD 93 undef, ac.tmps.getD 94 undef, ac.tmps.getD 95 undef, ac.tmps.getD 96 undef, ac.tmps.getD 97 undef, ac.tmps.getD 98 undef, ac.tmps.getD 99 undef, ac.tmps.getD 100 undef, ac.tmps.getD 101 undef, ac.tmps.getD 102 undef, ac.tmps.getD 103 undef], []⟩) (GE : Hid (Below w.heap.size w X)) (RE : Hid (Blk b #[.int .i64 k, .int .i64 x, .int .i64 t, .bool false, .slice none 0 0, .string ⟨#[]⟩] 26 X)) (RZ : Hid (Blk w.heap.size #[.int .i64 0, .int .i64 0, .int .i64 0, .bool false, .slice none 0 0, .string ⟨#[]⟩] 26 X)) (hlt : w.heap.size < b) (hk : k = 2) : rest.wp Try.prog (bodyPost Try.prog Try.f14 (MadeP k x t d2 s zs w)) ac X := by
  subst hk
  obtain ⟨u, rfl⟩ : ∃ u : Nat → Value, ac = ⟨#[.int .i64 kind, .int .i64 id, .int .i64 txn, .slice p zs.length ncap, .string s, u 5, u 6, u 7, u 8, u 9, .pointer (some ⟨w.heap.size, 0, none⟩), .pointer (some ⟨b, 0, none⟩), u 12, u 13, u 14, u 15, u 16, u 17, u 18, u 19, u 20, u 21, u 22, u 23, u 24, u 25, u 26, u 27, u 28, u 29, u 30, u 31, u 32, u 33, u 34, u 35, u 36, u 37, u 38, u 39, u 40, u 41, u 42, u 43, u 44, u 45, u 46, u 47, u 48, u 49, u 50, u 51, u 52, u 53, u 54, u 55, u 56, u 57, u 58, u 59, u 60, u 61, u 62, u 63, u 64, u 65, u 66, u 67, u 68, u 69, u 70, u 71, u 72, u 73, u 74, u 75, u 76, u 77, u 78, u 79, u 80, u 81, u 82, u 83, u 84, u 85, u 86, u 87, u 88, u 89, u 90, u 91, u 92, u 93, u 94, u 95, u 96, u 97, u 98, u 99, u 100, u 101, u 102, u 103], []⟩ := ⟨fun i => ac.tmps.getD i undef, ha⟩
  clear ha
  unfold Try.f14 at hc
  cases hc
  obtain ⟨com, hcom⟩ : ∃ com, decide (d2 = 0) = com := ⟨_, rfl⟩
  have hcom2 : (d2 == 0) = com := by rw [← hcom]; rfl
  have HCOM := hide hcom
  have RB := unhide RE
  have RW := unhide RZ
  have R3 := RB.set 3 (.bool com)
  have RW3 : Blk w.heap.size #[.int .i64 0, .int .i64 0, .int .i64 0, .bool false, .slice none 0 0, .string ⟨#[]⟩] 26 (X.setCell ⟨b, 3, none⟩ (.bool com)) := (Below.heap_setCell _ _ _ _ (by show w.heap.size ≠ b; omega)).trans RW
  have hB3 : Below w.heap.size w (X.setCell ⟨b, 3, none⟩ (.bool com)) := (unhide GE).setCell (p := ⟨b, 3, none⟩) (by show w.heap.size ≤ b; omega) _
  have cl_ := RB.lt
  have c0_ := RB.cell 0
  have cf0_ := RB.froz 0
  have c1_ := RB.cell 1
  have cf1_ := RB.froz 1
  have c2_ := RB.cell 2
  have cf2_ := RB.froz 2
  have c3_ := RB.cell 3
  have cf3_ := RB.froz 3
  have c4_ := RB.cell 4
  have cf4_ := RB.froz 4
  have c5_ := RB.cell 5
  have cf5_ := RB.froz 5
  simp at c0_ c1_ c2_ c3_ c4_ c5_
  go_wp2_with (go_at_call 15; refine (unhide CD _).mono ?_; rintro e X2 ⟨rfl, hX2⟩; replace hX2 := hX2.symm; subst hX2)
  have RE3 : Hid (Blk b #[.int .i64 2, .int .i64 x, .int .i64 t, .bool com, .slice none 0 0, .string ⟨#[]⟩] 26 (X.setCell ⟨b, 3, none⟩ (.bool com))) := hide R3
  have hbl : b < (X.setCell ⟨b, 3, none⟩ (.bool com)).heap.size := by simpa [World.setCell] using cl_
  have hB4 : Below X.heap.size X (X.setCell ⟨b, 3, none⟩ (.bool com)) → True := fun _ => trivial
  clear R3 c0_ c1_ c2_ c3_ c4_ c5_ cf0_ cf1_ cf2_ cf3_ cf4_ cf5_ cl_ RB RE GE RZ RW hcom hB4 hcom2
  generalize X.setCell ⟨b, 3, none⟩ (.bool com) = X0 at *
  go_loopw [12] (fun i wr => ∃ n : Nat, n ≤ 20 ∧ n ≤ zs.length ∧ i = .int .i64 (n : Int) ∧ ∃ q cap, Hid (Blk b #[.int .i64 2, .int .i64 x, .int .i64 t, .bool com, .slice q n cap, .string ⟨#[]⟩] 26 wr) ∧ Hid (Blk w.heap.size #[.int .i64 0, .int .i64 0, .int .i64 0, .bool false, .slice none 0 0, .string ⟨#[]⟩] 26 wr) ∧ Hid (wr.ownsRow X0.heap.size 40 3 (.slice q n cap) n (wcells (mkWs s (zs.take n)))) ∧ Below w.heap.size w wr ∧ X0.heap.size ≤ wr.heap.size) (fun i wr => 20 - (intOf i).toNat)
  case atStart => exact ⟨0, by omega, by omega, rfl, none, 0, RE3, hide RW3, hide (World.ownsRow_nil _ _ _ _), hB3, Nat.le_refl _⟩
  case round =>
    obtain ⟨n, hn20, hnz, rfl, q, cap, hRB, hRW, hRO, hBw, hge⟩ := hrel
    by_cases hlt1 : n < zs.length
    · by_cases hlt2 : n < 20
      · obtain ⟨a, rfl, hc1, hc2, hz64⟩ := (unhide hz).2 n hlt1
        have hzl := (unhide hz).1
        have hcr : wr.cell? (a.add n) = some (.int .i64 zs[n]) := (hBw.cell hc2).trans hc1
        have HSN := hide (mkWs_snoc s zs n hlt1 hlt2)
        generalize zs[n] = z at *
        obtain ⟨m, hm⟩ : ∃ m : Nat, z % 1073741824 = (m : Int) := ⟨(z % 1073741824).toNat, by omega⟩
        have hm2 : m < 1073741824 := by omega
        have CM := hide (fun W => within7_at hz64 (by decide) hm W)
        obtain ⟨j1, hj1⟩ : ∃ j : Nat, ((m / 3 : Nat) : Int) % ((s.size : Int) + 1) = (j : Int) := ⟨(((m / 3 : Nat) : Int) % ((s.size : Int) + 1)).toNat, by have := Int.emod_nonneg ((m / 3 : Nat) : Int) (show (s.size : Int) + 1 ≠ 0 by omega); omega⟩
        obtain ⟨j2, hj2⟩ : ∃ j : Nat, ((m / 7 : Nat) : Int) % ((s.size : Int) + 1) = (j : Int) := ⟨(((m / 7 : Nat) : Int) % ((s.size : Int) + 1)).toNat, by have := Int.emod_nonneg ((m / 7 : Nat) : Int) (show (s.size : Int) + 1 ≠ 0 by omega); omega⟩
        have C1 := hide (fun W => within7_at (by unfold Is64; omega) (by omega) hj1 W)
        have C2 := hide (fun W => within7_at (by unfold Is64; omega) (by omega) hj2 W)
        have hj1s : j1 ≤ s.size := by have := Int.emod_lt_of_pos ((m / 3 : Nat) : Int) (show 0 < (s.size : Int) + 1 by omega); omega
        have hj2s : j2 ≤ s.size := by have := Int.emod_lt_of_pos ((m / 7 : Nat) : Int) (show 0 < (s.size : Int) + 1 by omega); omega
        have HWZ : Hid (mkW s (z % 1073741824) = ⟨rckB.extract (m % 3) (m % 3 + 1) ++ s.extract 0 j1, if m % 5 = 0 then ⟨#[]⟩ else s.extract j2 s.size, decide (m % 5 = 0)⟩) := by
          show _ = _
          rw [hm]
          unfold mkW
          rw [show ((m : Int) / 3) = ((m / 3 : Nat) : Int) by omega, show ((m : Int) / 7) = ((m / 7 : Nat) : Int) by omega, hj1, hj2, show ((m : Int) % 3).toNat = m % 3 by omega]
          by_cases h5 : m % 5 = 0
          · rw [if_pos h5, if_pos (by omega)]; simp; omega
          · rw [if_neg h5, if_neg (by omega)]; simp; omega
        clear hc1 hm hj1 hj2 hz64
        have hi1 : IntKind.i64.wrap ((s.size : Int) + 1) = (s.size : Int) + 1 := IntWalk.i64_in _ (by omega)
        have hr3 : m % 3 < 3 := Nat.mod_lt _ (by decide)
        obtain ⟨r, hr⟩ : ∃ r, m % 3 = r := ⟨_, rfl⟩
        obtain ⟨r5, hr5⟩ : ∃ r, m % 5 = r := ⟨_, rfl⟩
        obtain ⟨q3, hq3⟩ : ∃ r, m / 3 = r := ⟨_, rfl⟩
        obtain ⟨q7, hq7⟩ : ∃ r, m / 7 = r := ⟨_, rfl⟩
        have ht3 : (m : Int).tmod 3 = (r : Int) := by rw [Int.tmod_eq_emod_of_nonneg (by omega)]; omega
        have ht5 : (m : Int).tmod 5 = (r5 : Int) := by rw [Int.tmod_eq_emod_of_nonneg (by omega)]; omega
        have hd3 : IntKind.i64.wrap ((m : Int).tdiv 3) = (q3 : Int) := by rw [Int.tdiv_eq_ediv_of_nonneg (by omega)]; exact (IntWalk.i64_in _ (by omega)).trans (by omega)
        have hd7 : IntKind.i64.wrap ((m : Int).tdiv 7) = (q7 : Int) := by rw [Int.tdiv_eq_ediv_of_nonneg (by omega)]; exact (IntWalk.i64_in _ (by omega)).trans (by omega)
        have he3 : IntKind.i64.wrap ((m : Int) / 3) = (q3 : Int) := (IntWalk.i64_in _ (by omega)).trans (by omega)
        have he7 : IntKind.i64.wrap ((m : Int) / 7) = (q7 : Int) := (IntWalk.i64_in _ (by omega)).trans (by omega)
        have hwr : IntKind.i64.wrap ((r : Int) + 1) = ((r + 1 : Nat) : Int) := (IntWalk.i64_in _ (by omega)).trans (by omega)
        have hr4 : (r : Int) + 1 ≤ 3 := by omega
        have hr6 : (r : Int) ≤ (r : Int) + 1 := by omega
        have hr7 : 0 ≤ (r : Int) + 1 := by omega
        have hcat : ¬ 9223372036854775807 < min (r + 1) 3 - r + j1 := by omega
        have hj1i : (j1 : Int) ≤ s.size := by omega
        have hj2i : (j2 : Int) ≤ s.size := by omega
        rw [hr, hr5] at HWZ
        rw [hq3] at C1
        rw [hq7] at C2
        clear hr hr5 hq3 hq7
        go_wp2_with (go_at_call 15; refine (unhide CM _).mono ?_; rintro e X2 ⟨rfl, hX2⟩; replace hX2 := hX2.symm; subst hX2)
        rename_i K11 hrest
        have REST2 : ∀ (ac : Act) (bw : Nat) (Y : World), ac = ⟨#[.int .i64 kind, .int .i64 id, .int .i64 txn, .slice (some a) zs.length ncap, .string s, u 5, u 6, u 7, u 8, u 9, .pointer (some ⟨w.heap.size, 0, none⟩), .pointer (some ⟨b, 0, none⟩), .int .i64 (n : Int), .int .i64 (m : Int), .pointer (some ⟨bw, 0, none⟩), u 15, u 16, u 17, u 18, u 19, u 20, u 21, u 22, u 23, u 24, u 25, u 26, u 27, u 28, u 29, .pointer (some ⟨b, 0, none⟩), .int .i64 2, .bool false, u 33, u 34, u 35, u 36, u 37, u 38, .pointer (some ⟨b, 0, none⟩), .int .i64 2, .bool false, .bool false, undef, undef, undef, .bool false, u 47, .int .i64 txn, .int .i64 d2, .bool com, .pointer (some ⟨b, 3, none⟩), ac.tmps.getD 52 undef, ac.tmps.getD 53 undef, ac.tmps.getD 54 undef, ac.tmps.getD 55 undef, ac.tmps.getD 56 undef, ac.tmps.getD 57 undef, ac.tmps.getD 58 undef, ac.tmps.getD 59 undef, ac.tmps.getD 60 undef, ac.tmps.getD 61 undef, ac.tmps.getD 62 undef, ac.tmps.getD 63 undef, ac.tmps.getD 64 undef, ac.tmps.getD 65 undef, ac.tmps.getD 66 undef, ac.tmps.getD 67 undef, ac.tmps.getD 68 undef, ac.tmps.getD 69 undef, ac.tmps.getD 70 undef, ac.tmps.getD 71 undef, ac.tmps.getD 72 undef, ac.tmps.getD 73 undef, ac.tmps.getD 74 undef, ac.tmps.getD 75 undef, ac.tmps.getD 76 undef, ac.tmps.getD 77 undef, ac.tmps.getD 78 undef, ac.tmps.getD 79 undef, ac.tmps.getD 80 undef, ac.tmps.getD 81 undef, ac.tmps.getD 82 undef, ac.tmps.getD 83 undef, ac.tmps.getD 84 undef, ac.tmps.getD 85 undef, ac.tmps.getD 86 undef, ac.tmps.getD 87 undef, ac.tmps.getD 88 undef, ac.tmps.getD 89 undef, ac.tmps.getD 90 undef, ac.tmps.getD 91 undef, ac.tmps.getD 92 undef, ac.tmps.getD 93 undef, ac.tmps.getD 94 undef, ac.tmps.getD 95 undef, ac.tmps.getD 96 undef, ac.tmps.getD 97 undef, ac.tmps.getD 98 undef, ac.tmps.getD 99 undef, ac.tmps.getD 100 undef, ac.tmps.getD 101 undef, ac.tmps.getD 102 undef, u 103], []⟩ → Hid (Blk bw #[.string (rckB.extract r (r + 1) ++ s.extract 0 j1), .string (s.extract j2 s.size), .bool ((r5 : Int) == 0)] 40 Y) → Hid (Blk b #[.int .i64 2, .int .i64 x, .int .i64 t, .bool com, .slice q n cap, .string ⟨#[]⟩] 26 Y) → Hid (Blk w.heap.size #[.int .i64 0, .int .i64 0, .int .i64 0, .bool false, .slice none 0 0, .string ⟨#[]⟩] 26 Y) → Hid (Y.ownsRow X0.heap.size 40 3 (.slice q n cap) n (wcells (mkWs s (zs.take n)))) → Below w.heap.size w Y → X0.heap.size ≤ Y.heap.size → X0.heap.size ≤ bw → (Value.slice q n cap).ownBlock ≠ some bw → K11 ac Y := by
          clear hRB hRW hRO hBw hge hcr
          intro ac bw Y ha rb hRB hRW hRO hBw hge hbg hnb
          obtain ⟨uu, rfl⟩ : ∃ uu : Nat → Value, ac = ⟨#[.int .i64 kind, .int .i64 id, .int .i64 txn, .slice (some a) zs.length ncap, .string s, u 5, u 6, u 7, u 8, u 9, .pointer (some ⟨w.heap.size, 0, none⟩), .pointer (some ⟨b, 0, none⟩), .int .i64 (n : Int), .int .i64 (m : Int), .pointer (some ⟨bw, 0, none⟩), u 15, u 16, u 17, u 18, u 19, u 20, u 21, u 22, u 23, u 24, u 25, u 26, u 27, u 28, u 29, .pointer (some ⟨b, 0, none⟩), .int .i64 2, .bool false, u 33, u 34, u 35, u 36, u 37, u 38, .pointer (some ⟨b, 0, none⟩), .int .i64 2, .bool false, .bool false, undef, undef, undef, .bool false, u 47, .int .i64 txn, .int .i64 d2, .bool com, .pointer (some ⟨b, 3, none⟩), uu 52, uu 53, uu 54, uu 55, uu 56, uu 57, uu 58, uu 59, uu 60, uu 61, uu 62, uu 63, uu 64, uu 65, uu 66, uu 67, uu 68, uu 69, uu 70, uu 71, uu 72, uu 73, uu 74, uu 75, uu 76, uu 77, uu 78, uu 79, uu 80, uu 81, uu 82, uu 83, uu 84, uu 85, uu 86, uu 87, uu 88, uu 89, uu 90, uu 91, uu 92, uu 93, uu 94, uu 95, uu 96, uu 97, uu 98, uu 99, uu 100, uu 101, uu 102, u 103], []⟩ := ⟨fun i => ac.tmps.getD i undef, ha⟩
          clear ha
          refine hrest _ _ ?_
          clear hrest
          obtain ⟨i0, hi, hz0, hz1, hz2⟩ := info_parts info_wt
          generalize rckB.extract r (r + 1) ++ s.extract 0 j1 = kk at *
          generalize s.extract j2 s.size = vv at *
          have hbn : b ≠ bw := by omega
          have hwn : w.heap.size ≠ bw := by omega
          have RB := unhide hRB
          have RV := unhide rb
          have cl_ := RB.lt
          have c0_ := RB.cell 0
          have cf0_ := RB.froz 0
          have c1_ := RB.cell 1
          have cf1_ := RB.froz 1
          have c2_ := RB.cell 2
          have cf2_ := RB.froz 2
          have c3_ := RB.cell 3
          have cf3_ := RB.froz 3
          have c4_ := RB.cell 4
          have cf4_ := RB.froz 4
          have c5_ := RB.cell 5
          have cf5_ := RB.froz 5
          simp at c0_ c1_ c2_ c3_ c4_ c5_
          have dl_ := RV.lt
          have d0_ := RV.cell 0
          have df0_ := RV.froz 0
          have d1_ := RV.cell 1
          have df1_ := RV.froz 1
          have d2_ := RV.cell 2
          have df2_ := RV.froz 2
          simp at d0_ d1_ d2_
          by_cases h5 : r5 = 0
          · have h5b : ((r5 : Int) == 0) = true := by rw [h5]; rfl
            have HWZ2 : Hid (mkW s (z % 1073741824) = ⟨kk, ⟨#[]⟩, true⟩) := by
              have h := unhide HWZ
              rw [if_pos h5, decide_eq_true h5] at h
              exact h
            rw [h5b] at RV d2_
            have RV2 : Blk bw #[.string kk, .string ⟨#[]⟩, .bool true] 40 (Y.setCell ⟨bw, 1, none⟩ (.string ⟨#[]⟩)) := RV.set 1 (.string ⟨#[]⟩)
            have RB2 : Blk b #[.int .i64 2, .int .i64 x, .int .i64 t, .bool com, .slice q n cap, .string ⟨#[]⟩] 26 (Y.setCell ⟨bw, 1, none⟩ (.string ⟨#[]⟩)) := blk_far1 RB hbn
            have RW2 : Blk w.heap.size #[.int .i64 0, .int .i64 0, .int .i64 0, .bool false, .slice none 0 0, .string ⟨#[]⟩] 26 (Y.setCell ⟨bw, 1, none⟩ (.string ⟨#[]⟩)) := blk_far1 (unhide hRW) hwn
            have RO2 : (Y.setCell ⟨bw, 1, none⟩ (.string ⟨#[]⟩)).ownsRow X0.heap.size 40 3 (.slice q n cap) n (wcells (mkWs s (zs.take n))) := owns_far (unhide hRO) hnb
            have hB2 : Below w.heap.size w (Y.setCell ⟨bw, 1, none⟩ (.string ⟨#[]⟩)) := hBw.setCell (p := ⟨bw, 1, none⟩) (by show w.heap.size ≤ bw; omega) _
            have hszY : (Y.setCell ⟨bw, 1, none⟩ (.string ⟨#[]⟩)).heap.size = Y.heap.size := by simp [World.setCell]
            go_wp2_with (at_builtin; refine wpList_append_lies _ rfl _ _ 24 rfl X0.heap.size 40 i0 _ 3 40 Try.underlying24 hi hz0 hz1 hz2 rfl (by decide) (.slice q n cap) _ _ rfl (RO2.alloc _) ⟨Y.heap.size, 0, none⟩ 1 1 [.string kk, .string ⟨#[]⟩, .bool true] rfl rfl (cells3_new (Y.setCell ⟨bw, 1, none⟩ (.string ⟨#[]⟩)) _ _ _ _ _ hszY.symm) (by simp [Value.oneCell']) (by decide) (by unfold maxLen; omega) (by omega) (by simp; omega) _ rfl ?_; intro g2 cp2 w4 hown4 hgrow4 hat4 _; have hB9 := below_app hB2 (by omega) RO2 hgrow4; have RB9 := blk_app RB2 hbl RO2 hgrow4; have RW9 := blk_app RW2 (by omega) RO2 hgrow4; have e4_ := RB9.cell 4; have ef4_ := RB9.froz 4; have el_ := RB9.lt; simp at e4_)
            go_roundw
            case rel =>
              have RB10 : Blk b #[.int .i64 2, .int .i64 x, .int .i64 t, .bool com, .slice (some ⟨g2, 0, none⟩) (n + 1) cp2, .string ⟨#[]⟩] 26 (w4.setCell ⟨b, 4, none⟩ (.slice (some ⟨g2, 0, none⟩) (n + 1) cp2)) := RB9.set 4 _
              refine ⟨n + 1, by omega, by omega, by go_num, some ⟨g2, 0, none⟩, cp2, hide RB10, hide (blk_far1 RW9 (by omega)), hide (ownsRow_setCell_below (a := ⟨b, 4, none⟩) ?_ (by show b < _; exact hbl) _), hB9.setCell (p := ⟨b, 4, none⟩) (by show w.heap.size ≤ b; omega) _, ?_⟩
              · rw [← unhide HSN, wcells_snoc, unhide HWZ2]; exact hown4
              · have := hgrow4.size
                simp [World.setCell] at this ⊢; omega
            case measure => simp [intOf] <;> omega
          · have h5b : ((r5 : Int) == 0) = false := by rw [beq_eq_false_iff_ne]; omega
            have HWZ2 : Hid (mkW s (z % 1073741824) = ⟨kk, vv, false⟩) := by
              have h := unhide HWZ
              rw [if_neg h5, decide_eq_false h5] at h
              exact h
            rw [h5b] at RV d2_
            have RV2 := RV
            have RB2 := RB
            have RW2 := unhide hRW
            have RO2 := unhide hRO
            have hB2 := hBw
            have hszY : Y.heap.size = Y.heap.size := rfl
            go_wp2_with (at_builtin; refine wpList_append_lies _ rfl _ _ 24 rfl X0.heap.size 40 i0 _ 3 40 Try.underlying24 hi hz0 hz1 hz2 rfl (by decide) (.slice q n cap) _ _ rfl (RO2.alloc _) ⟨Y.heap.size, 0, none⟩ 1 1 [.string kk, .string vv, .bool false] rfl rfl (cells3_new Y _ _ _ _ _ hszY.symm) (by simp [Value.oneCell']) (by decide) (by unfold maxLen; omega) (by omega) (by simp; omega) _ rfl ?_; intro g2 cp2 w4 hown4 hgrow4 hat4 _; have hB9 := below_app hB2 (by omega) RO2 hgrow4; have RB9 := blk_app RB2 hbl RO2 hgrow4; have RW9 := blk_app RW2 (by omega) RO2 hgrow4; have e4_ := RB9.cell 4; have ef4_ := RB9.froz 4; have el_ := RB9.lt; simp at e4_)
            go_roundw
            case rel =>
              have RB10 : Blk b #[.int .i64 2, .int .i64 x, .int .i64 t, .bool com, .slice (some ⟨g2, 0, none⟩) (n + 1) cp2, .string ⟨#[]⟩] 26 (w4.setCell ⟨b, 4, none⟩ (.slice (some ⟨g2, 0, none⟩) (n + 1) cp2)) := RB9.set 4 _
              refine ⟨n + 1, by omega, by omega, by go_num, some ⟨g2, 0, none⟩, cp2, hide RB10, hide (blk_far1 RW9 (by omega)), hide (ownsRow_setCell_below (a := ⟨b, 4, none⟩) ?_ (by show b < _; exact hbl) _), hB9.setCell (p := ⟨b, 4, none⟩) (by show w.heap.size ≤ b; omega) _, ?_⟩
              · rw [← unhide HSN, wcells_snoc, unhide HWZ2]; exact hown4
              · have := hgrow4.size
                simp [World.setCell] at this ⊢; omega
            case measure => simp [intOf] <;> omega
        replace REST2 := hide REST2
        clear hrest
        refine wp_region_noPanic ?_
        refine wp_region_held_drew (S := fun _ => True) (by kernel_rfl) (trivial) (fun hHeld => ?_)
        have hbd : Below wr.heap.size wr wr.drew := (Below.refl _ _).drew
        replace hRB := hide ((unhide hRB).below hbd)
        replace hRW := hide ((unhide hRW).below hbd)
        replace hRO := hide (World.ownsRow.kept (unhide hRO) (grownBy_below none hbd) (by cases hv : (Value.slice q n cap).ownBlock <;> simp))
        replace hge := Nat.le_trans hge hbd.size
        replace hBw := hBw.trans (hbd.mono hBw.size)
        clear hbd hcr
        generalize wr.drew = Y at *
        refine wpAnyH_take (i := 0) (oi := ?oi20001) (v := ?v20001) ?hi20001 (by kernel_rfl) (by kernel_rfl) (by kernel_rfl) (fun _ _ _ h => h) (Or.inl ⟨?hw20001, ?hy20001⟩) (by assumption) ?rest20001
        case hi20001 => (simp only [List.getElem?_toArray, List.getElem?_cons_zero]; rfl)
        case hw20001 => rfl
        case hy20001 => first | (intro wx hSw; go_simp; done) | (intro wx hSw; go_simp; with_reducible rfl)
        simp only [Act.put, List.setIfInBounds_toArray, List.set_cons_zero, List.set_cons_succ]
        refine wpAnyH_take (i := 1) (oi := ?oi20002) (v := ?v20002) ?hi20002 (by kernel_rfl) (by kernel_rfl) (by kernel_rfl) (fun _ _ _ h => h) (Or.inl ⟨?hw20002, ?hy20002⟩) (by assumption) ?rest20002
        case hi20002 => (simp only [List.getElem?_toArray, List.getElem?_cons_zero, List.getElem?_cons_succ]; rfl)
        case hw20002 => rfl
        case hy20002 => first | (intro wx hSw; go_simp; done) | (intro wx hSw; go_simp; with_reducible rfl)
        simp only [Act.put, List.setIfInBounds_toArray, List.set_cons_zero, List.set_cons_succ]
        refine wpAnyH_take (i := 2) (oi := ?oi20003) (v := ?v20003) ?hi20003 (by kernel_rfl) (by kernel_rfl) (by kernel_rfl) (fun _ _ _ h => h) (Or.inl ⟨?hw20003, ?hy20003⟩) (by assumption) ?rest20003
        case hi20003 => (simp only [List.getElem?_toArray, List.getElem?_cons_zero, List.getElem?_cons_succ]; rfl)
        case hw20003 => rfl
        case hy20003 => first | (intro wx hSw; go_simp; done) | (intro wx hSw; go_simp; with_reducible rfl)
        simp only [Act.put, List.setIfInBounds_toArray, List.set_cons_zero, List.set_cons_succ]
        refine wpAnyH_take (i := 3) (oi := ?oi20004) (v := ?v20004) ?hi20004 (by kernel_rfl) (by kernel_rfl) (by kernel_rfl) (fun _ _ _ h => h) (Or.inl ⟨?hw20004, ?hy20004⟩) (by assumption) ?rest20004
        case hi20004 => (simp only [List.getElem?_toArray, List.getElem?_cons_zero, List.getElem?_cons_succ]; rfl)
        case hw20004 => rfl
        case hy20004 => first | (intro wx hSw; go_simp; done) | (intro wx hSw; go_simp; with_reducible rfl)
        simp only [Act.put, List.setIfInBounds_toArray, List.set_cons_zero, List.set_cons_succ]
        refine wpAnyH_take (i := 4) (oi := ?oi20005) (v := ?v20005) ?hi20005 (by kernel_rfl) (by kernel_rfl) (by kernel_rfl) (fun _ _ _ h => h) (Or.inl ⟨?hw20005, ?hy20005⟩) (by assumption) ?rest20005
        case hi20005 => (simp only [List.getElem?_toArray, List.getElem?_cons_zero, List.getElem?_cons_succ]; rfl)
        case hw20005 => rfl
        case hy20005 => first | (intro wx hSw; go_simp; done) | (intro wx hSw; go_simp; with_reducible rfl)
        simp only [Act.put, List.setIfInBounds_toArray, List.set_cons_zero, List.set_cons_succ]
        refine wpAnyH_take (i := 5) (oi := ?oi20006) (v := ?v20006) ?hi20006 (by kernel_rfl) (by kernel_rfl) (by kernel_rfl) (fun _ _ _ h => h) (Or.inl ⟨?hw20006, ?hy20006⟩) (by assumption) ?rest20006
        case hi20006 => (simp only [List.getElem?_toArray, List.getElem?_cons_zero, List.getElem?_cons_succ]; rfl)
        case hw20006 => rfl
        case hy20006 => first | (intro wx hSw; go_simp; done) | (intro wx hSw; go_simp; with_reducible rfl)
        simp only [Act.put, List.setIfInBounds_toArray, List.set_cons_zero, List.set_cons_succ]
        refine wpAnyH_take (i := 6) (oi := ?oi20007) (v := ?v20007) ?hi20007 (by kernel_rfl) (by kernel_rfl) (by kernel_rfl) (fun _ _ _ h => h) (Or.inl ⟨?hw20007, ?hy20007⟩) (by assumption) ?rest20007
        case hi20007 => (simp only [List.getElem?_toArray, List.getElem?_cons_zero, List.getElem?_cons_succ]; rfl)
        case hw20007 => rfl
        case hy20007 => first | (intro wx hSw; go_simp; done) | (intro wx hSw; go_simp; with_reducible rfl)
        simp only [Act.put, List.setIfInBounds_toArray, List.set_cons_zero, List.set_cons_succ]
        refine wpAnyH_take (i := 7) (oi := ?oi20008) (v := ?v20008) ?hi20008 (by kernel_rfl) (by kernel_rfl) (by kernel_rfl) (fun _ _ _ h => h) (Or.inl ⟨?hw20008, ?hy20008⟩) (by assumption) ?rest20008
        case hi20008 => (simp only [List.getElem?_toArray, List.getElem?_cons_zero, List.getElem?_cons_succ]; rfl)
        case hw20008 => rfl
        case hy20008 => first | (intro wx hSw; go_simp; done) | (intro wx hSw; go_simp; with_reducible rfl)
        simp only [Act.put, List.setIfInBounds_toArray, List.set_cons_zero, List.set_cons_succ]
        refine wpAnyH_take (i := 8) (oi := ?oi20009) (v := ?v20009) ?hi20009 (by kernel_rfl) (by kernel_rfl) (by kernel_rfl) (fun _ _ _ h => h) (Or.inl ⟨?hw20009, ?hy20009⟩) (by assumption) ?rest20009
        case hi20009 => (simp only [List.getElem?_toArray, List.getElem?_cons_zero, List.getElem?_cons_succ]; rfl)
        case hw20009 => rfl
        case hy20009 => first | (intro wx hSw; go_simp; done) | (intro wx hSw; go_simp; with_reducible rfl)
        simp only [Act.put, List.setIfInBounds_toArray, List.set_cons_zero, List.set_cons_succ]
        refine wpAnyH_take (i := 9) (oi := ?oi20010) (v := ?v20010) ?hi20010 (by kernel_rfl) (by kernel_rfl) (by kernel_rfl) (fun _ _ _ h => h) (Or.inl ⟨?hw20010, ?hy20010⟩) (by assumption) ?rest20010
        case hi20010 => (simp only [List.getElem?_toArray, List.getElem?_cons_zero, List.getElem?_cons_succ]; rfl)
        case hw20010 => rfl
        case hy20010 => first | (intro wx hSw; go_simp; done) | (intro wx hSw; go_simp; with_reducible rfl)
        simp only [Act.put, List.setIfInBounds_toArray, List.set_cons_zero, List.set_cons_succ]
        refine wpAnyH_take (i := 10) (oi := ?oi20011) (v := ?v20011) ?hi20011 (by kernel_rfl) (by kernel_rfl) (by kernel_rfl) (fun _ _ _ h => h) (Or.inl ⟨?hw20011, ?hy20011⟩) (by assumption) ?rest20011
        case hi20011 => (simp only [List.getElem?_toArray, List.getElem?_cons_zero, List.getElem?_cons_succ]; rfl)
        case hw20011 => rfl
        case hy20011 => first | (intro wx hSw; go_simp; done) | (intro wx hSw; go_simp; with_reducible rfl)
        simp only [Act.put, List.setIfInBounds_toArray, List.set_cons_zero, List.set_cons_succ]
        refine wpAnyH_take (i := 11) (oi := ?oi20012) (v := ?v20012) ?hi20012 (by kernel_rfl) (by kernel_rfl) (by kernel_rfl) (fun _ _ _ h => h) (Or.inl ⟨?hw20012, ?hy20012⟩) (by assumption) ?rest20012
        case hi20012 => (simp only [List.getElem?_toArray, List.getElem?_cons_zero, List.getElem?_cons_succ]; rfl)
        case hw20012 => rfl
        case hy20012 => first | (intro wx hSw; go_simp; done) | (intro wx hSw; go_simp; with_reducible rfl)
        simp only [Act.put, List.setIfInBounds_toArray, List.set_cons_zero, List.set_cons_succ]
        refine wpAnyH_take (i := 15) (oi := ?oi20013) (v := ?v20013) ?hi20013 (by kernel_rfl) (by kernel_rfl) (by kernel_rfl) (fun _ _ _ h => h) (Or.inl ⟨?hw20013, ?hy20013⟩) (by assumption) ?rest20013
        case hi20013 => (simp only [List.getElem?_toArray, List.getElem?_cons_zero, List.getElem?_cons_succ]; rfl)
        case hw20013 => rfl
        case hy20013 => first | (intro wx hSw; go_simp; done) | (intro wx hSw; go_simp; with_reducible rfl)
        simp only [Act.put, List.setIfInBounds_toArray, List.set_cons_zero, List.set_cons_succ]
        refine wpAnyH_take (i := 16) (oi := ?oi20014) (v := ?v20014) ?hi20014 (by kernel_rfl) (by kernel_rfl) (by kernel_rfl) (fun _ _ _ h => h) (Or.inl ⟨?hw20014, ?hy20014⟩) (by assumption) ?rest20014
        case hi20014 => (simp only [List.getElem?_toArray, List.getElem?_cons_zero, List.getElem?_cons_succ]; rfl)
        case hw20014 => rfl
        case hy20014 => first | (intro wx hSw; go_simp; done) | (intro wx hSw; go_simp; with_reducible rfl)
        simp only [Act.put, List.setIfInBounds_toArray, List.set_cons_zero, List.set_cons_succ]
        refine wpAnyH_take (i := 17) (oi := ?oi20015) (v := ?v20015) ?hi20015 (by kernel_rfl) (by kernel_rfl) (by kernel_rfl) (fun _ _ _ h => h) (Or.inl ⟨?hw20015, ?hy20015⟩) (by assumption) ?rest20015
        case hi20015 => (simp only [List.getElem?_toArray, List.getElem?_cons_zero, List.getElem?_cons_succ]; rfl)
        case hw20015 => rfl
        case hy20015 => first | (intro wx hSw; go_simp; done) | (intro wx hSw; go_simp; with_reducible rfl)
        simp only [Act.put, List.setIfInBounds_toArray, List.set_cons_zero, List.set_cons_succ]
        refine wpAnyH_take (i := 18) (oi := ?oi20016) (v := ?v20016) ?hi20016 (by kernel_rfl) (by kernel_rfl) (by kernel_rfl) (fun _ _ _ h => h) (Or.inl ⟨?hw20016, ?hy20016⟩) (by assumption) ?rest20016
        case hi20016 => (simp only [List.getElem?_toArray, List.getElem?_cons_zero, List.getElem?_cons_succ]; rfl)
        case hw20016 => rfl
        case hy20016 => first | (intro wx hSw; go_simp; done) | (intro wx hSw; go_simp; with_reducible rfl)
        simp only [Act.put, List.setIfInBounds_toArray, List.set_cons_zero, List.set_cons_succ]
        refine wpAnyH_take (i := 19) (oi := ?oi20017) (v := ?v20017) ?hi20017 (by kernel_rfl) (by kernel_rfl) (by kernel_rfl) (fun _ _ _ h => h) (Or.inl ⟨?hw20017, ?hy20017⟩) (by assumption) ?rest20017
        case hi20017 => (simp only [List.getElem?_toArray, List.getElem?_cons_zero, List.getElem?_cons_succ]; rfl)
        case hw20017 => rfl
        case hy20017 => first | (intro wx hSw; go_simp; done) | (intro wx hSw; go_simp; with_reducible rfl)
        simp only [Act.put, List.setIfInBounds_toArray, List.set_cons_zero, List.set_cons_succ]
        refine wpAnyH_take (i := 20) (oi := ?oi20018) (v := ?v20018) ?hi20018 (by kernel_rfl) (by kernel_rfl) (by kernel_rfl) (fun _ _ _ h => h) (Or.inl ⟨?hw20018, ?hy20018⟩) (by assumption) ?rest20018
        case hi20018 => (simp only [List.getElem?_toArray, List.getElem?_cons_zero, List.getElem?_cons_succ]; rfl)
        case hw20018 => rfl
        case hy20018 => first | (intro wx hSw; go_simp; done) | (intro wx hSw; go_simp; with_reducible rfl)
        simp only [Act.put, List.setIfInBounds_toArray, List.set_cons_zero, List.set_cons_succ]
        refine wpAnyH_take (i := 23) (oi := ?oi20019) (v := ?v20019) ?hi20019 (by kernel_rfl) (by kernel_rfl) (by kernel_rfl) (fun _ _ _ h => h) (Or.inl ⟨?hw20019, ?hy20019⟩) (by assumption) ?rest20019
        case hi20019 => (simp only [List.getElem?_toArray, List.getElem?_cons_zero, List.getElem?_cons_succ]; rfl)
        case hw20019 => rfl
        case hy20019 => first | (intro wx hSw; go_simp; done) | (intro wx hSw; go_simp; with_reducible rfl)
        simp only [Act.put, List.setIfInBounds_toArray, List.set_cons_zero, List.set_cons_succ]
        refine wpAnyH_take (i := 24) (oi := ?oi20020) (v := ?v20020) ?hi20020 (by kernel_rfl) (by kernel_rfl) (by kernel_rfl) (fun _ _ _ h => h) (Or.inl ⟨?hw20020, ?hy20020⟩) (by assumption) ?rest20020
        case hi20020 => (simp only [List.getElem?_toArray, List.getElem?_cons_zero, List.getElem?_cons_succ]; rfl)
        case hw20020 => rfl
        case hy20020 => first | (intro wx hSw; go_simp; done) | (intro wx hSw; go_simp; with_reducible rfl)
        simp only [Act.put, List.setIfInBounds_toArray, List.set_cons_zero, List.set_cons_succ]
        refine wpAnyH_take (i := 25) (oi := ?oi20021) (v := ?v20021) ?hi20021 (by kernel_rfl) (by kernel_rfl) (by kernel_rfl) (fun _ _ _ h => h) (Or.inl ⟨?hw20021, ?hy20021⟩) (by assumption) ?rest20021
        case hi20021 => (simp only [List.getElem?_toArray, List.getElem?_cons_zero, List.getElem?_cons_succ]; rfl)
        case hw20021 => rfl
        case hy20021 => first | (intro wx hSw; go_simp; done) | (intro wx hSw; go_simp; with_reducible rfl)
        simp only [Act.put, List.setIfInBounds_toArray, List.set_cons_zero, List.set_cons_succ]
        refine wpAnyH_ready (rs := [12, 27]) (by kernel_rfl) (by simp) ?_
        refine AllReadyH.cons rfl (fun K20022 hK20022 => ?_) ?_
        · go_simp
          go_wp2_with (go_at_call 15; refine (unhide C1 _).mono ?_; rintro e X2 ⟨rfl, hX2⟩; replace hX2 := hX2.symm; subst hX2)
          refine hK20022.out _ _ ?hs20022 (fun hHeld20022 => ?_)
          case hs20022 => exact trivial
          clear hHeld
          have hHeld := hHeld20022; clear hHeld20022 hK20022 K20022
          refine wpAnyH_take (i := 13) (oi := ?oi20023) (v := ?v20023) ?hi20023 (by kernel_rfl) (by kernel_rfl) (by kernel_rfl) (fun _ _ _ h => h) (Or.inl ⟨?hw20023, ?hy20023⟩) (by assumption) ?rest20023
          case hi20023 => (simp only [List.getElem?_toArray, List.getElem?_cons_zero, List.getElem?_cons_succ]; rfl)
          case hw20023 => rfl
          case hy20023 => first | (intro wx hSw; go_simp; done) | (intro wx hSw; go_simp; with_reducible rfl)
          simp only [Act.put, List.setIfInBounds_toArray, List.set_cons_zero, List.set_cons_succ]
          refine wpAnyH_take (i := 14) (oi := ?oi20024) (v := ?v20024) ?hi20024 (by kernel_rfl) (by kernel_rfl) (by kernel_rfl) (fun _ _ _ h => h) (Or.inl ⟨?hw20024, ?hy20024⟩) (by assumption) ?rest20024
          case hi20024 => (simp only [List.getElem?_toArray, List.getElem?_cons_zero, List.getElem?_cons_succ]; rfl)
          case hw20024 => rfl
          case hy20024 => first | (intro wx hSw; go_simp; done) | (intro wx hSw; go_simp; with_reducible rfl)
          simp only [Act.put, List.setIfInBounds_toArray, List.set_cons_zero, List.set_cons_succ]
          refine wpAnyH_ready (rs := [21, 27]) (by kernel_rfl) (by simp) ?_
          refine AllReadyH.cons rfl (fun K20025 hK20025 => ?_) ?_
          · go_simp
            go_wp2_with (go_at_call 15; refine (unhide C2 _).mono ?_; rintro e X2 ⟨rfl, hX2⟩; replace hX2 := hX2.symm; subst hX2)
            refine hK20025.out _ _ ?hs20025 (fun hHeld20025 => ?_)
            case hs20025 => exact trivial
            clear hHeld
            have hHeld := hHeld20025; clear hHeld20025 hK20025 K20025
            refine wpAnyH_take (i := 22) (oi := ?oi20026) (v := ?v20026) ?hi20026 (by kernel_rfl) (by kernel_rfl) (by kernel_rfl) (fun _ _ _ h => h) (Or.inl ⟨?hw20026, ?hy20026⟩) (by assumption) ?rest20026
            case hi20026 => (simp only [List.getElem?_toArray, List.getElem?_cons_zero, List.getElem?_cons_succ]; rfl)
            case hw20026 => rfl
            case hy20026 => first | (intro wx hSw; go_simp; done) | (intro wx hSw; go_simp; with_reducible rfl)
            simp only [Act.put, List.setIfInBounds_toArray, List.set_cons_zero, List.set_cons_succ]
            refine wpAnyH_take (i := 26) (oi := ?oi20027) (v := ?v20027) ?hi20027 (by kernel_rfl) (by kernel_rfl) (by kernel_rfl) (fun _ _ _ h => h) (Or.inl ⟨?hw20027, ?hy20027⟩) (by assumption) ?rest20027
            case hi20027 => (simp only [List.getElem?_toArray, List.getElem?_cons_zero, List.getElem?_cons_succ]; rfl)
            case hw20027 => rfl
            case hy20027 => first | (intro wx hSw; go_simp; done) | (intro wx hSw; go_simp; with_reducible rfl)
            simp only [Act.put, List.setIfInBounds_toArray, List.set_cons_zero, List.set_cons_succ]
            refine wpAnyH_ready (rs := [27]) (by kernel_rfl) (by simp) ?_
            refine AllReadyH.cons rfl (fun K20028 hK20028 => ?_) AllReadyH.nil
            go_simp
            refine hK20028.out _ _ ?hs20028 (fun hHeld20028 => ?_)
            case hs20028 => exact trivial
            clear hHeld
            have hHeld := hHeld20028; clear hHeld20028 hK20028 K20028
            have hb := below_new Y (.cells #[.string ⟨#[]⟩, .string ⟨#[]⟩, .bool false] 40)
            have rb := Blk.new Y #[.string ⟨#[]⟩, .string ⟨#[]⟩, .bool false] 40
            obtain ⟨bw, hbq⟩ : ∃ b, b = Y.heap.size := ⟨_, rfl⟩
            rw [← hbq] at rb
            have hbg : X0.heap.size ≤ bw := by omega
            have hnb : (Value.slice q n cap).ownBlock ≠ some bw := fun e => by have h9 := ((unhide hRO).lt _ e).2; omega
            simp only [← hbq]
            replace hRB := hide ((unhide hRB).below hb)
            replace hRW := hide ((unhide hRW).below hb)
            replace hRO := hide (World.ownsRow.kept (unhide hRO) (grownBy_below none hb) (by cases hv : (Value.slice q n cap).ownBlock <;> simp))
            replace hge := Nat.le_trans hge hb.size
            replace hBw := hBw.trans (hb.mono hBw.size)
            generalize Y.alloc (.cells #[.string ⟨#[]⟩, .string ⟨#[]⟩, .bool false] 40) = Y3 at *
            clear hb hbq
            have rlt := rb.lt
            have r0 := rb.cell 0
            have r1 := rb.cell 1
            have r2 := rb.cell 2
            have rf0 := rb.froz 0
            have rf1 := rb.froz 1
            have rf2 := rb.froz 2
            simp at r0 r1 r2
            refine wpAnyH_ready (rs := [28]) (by kernel_rfl) (by simp) ?_
            refine AllReadyH.cons rfl (fun K20029 hK20029 => ?_) AllReadyH.nil
            go_simp
            refine hK20029.out _ _ ?hs20029 (fun hHeld20029 => ?_)
            case hs20029 => exact trivial
            clear hHeld
            have hHeld := hHeld20029; clear hHeld20029 hK20029 K20029
            refine wpAnyH_done (by kernel_rfl) ?_ _
            refine NoPanic.normal ?_
            skip
            exact unhide REST2 _ bw _ (by kernel_rfl) (hide rb.three) (hide (blk_far3 (unhide hRB) (by omega))) (hide (blk_far3 (unhide hRW) (by omega))) (hide (owns_far3 (unhide hRO) hnb)) (Below.three hBw (by omega)) (by simpa [World.setCell] using hge) hbg hnb
          refine AllReadyH.cons rfl (fun K20030 hK20030 => ?_) AllReadyH.nil
          · go_simp
            refine hK20030.out _ _ ?hs20030 (fun hHeld20030 => ?_)
            case hs20030 => exact trivial
            clear hHeld
            have hHeld := hHeld20030; clear hHeld20030 hK20030 K20030
            have hb := below_new Y (.cells #[.string ⟨#[]⟩, .string ⟨#[]⟩, .bool false] 40)
            have rb := Blk.new Y #[.string ⟨#[]⟩, .string ⟨#[]⟩, .bool false] 40
            obtain ⟨bw, hbq⟩ : ∃ b, b = Y.heap.size := ⟨_, rfl⟩
            rw [← hbq] at rb
            have hbg : X0.heap.size ≤ bw := by omega
            have hnb : (Value.slice q n cap).ownBlock ≠ some bw := fun e => by have h9 := ((unhide hRO).lt _ e).2; omega
            simp only [← hbq]
            replace hRB := hide ((unhide hRB).below hb)
            replace hRW := hide ((unhide hRW).below hb)
            replace hRO := hide (World.ownsRow.kept (unhide hRO) (grownBy_below none hb) (by cases hv : (Value.slice q n cap).ownBlock <;> simp))
            replace hge := Nat.le_trans hge hb.size
            replace hBw := hBw.trans (hb.mono hBw.size)
            generalize Y.alloc (.cells #[.string ⟨#[]⟩, .string ⟨#[]⟩, .bool false] 40) = Y4 at *
            clear hb hbq
            refine wpAnyH_ready (rs := [21]) (by kernel_rfl) (by simp) ?_
            refine AllReadyH.cons rfl (fun K20031 hK20031 => ?_) AllReadyH.nil
            go_simp
            go_wp2_with (go_at_call 15; refine (unhide C2 _).mono ?_; rintro e X2 ⟨rfl, hX2⟩; replace hX2 := hX2.symm; subst hX2)
            refine hK20031.out _ _ ?hs20031 (fun hHeld20031 => ?_)
            case hs20031 => exact trivial
            clear hHeld
            have hHeld := hHeld20031; clear hHeld20031 hK20031 K20031
            refine wpAnyH_take (i := 22) (oi := ?oi20032) (v := ?v20032) ?hi20032 (by kernel_rfl) (by kernel_rfl) (by kernel_rfl) (fun _ _ _ h => h) (Or.inl ⟨?hw20032, ?hy20032⟩) (by assumption) ?rest20032
            case hi20032 => (simp only [List.getElem?_toArray, List.getElem?_cons_zero, List.getElem?_cons_succ]; rfl)
            case hw20032 => rfl
            case hy20032 => first | (intro wx hSw; go_simp; done) | (intro wx hSw; go_simp; with_reducible rfl)
            simp only [Act.put, List.setIfInBounds_toArray, List.set_cons_zero, List.set_cons_succ]
            refine wpAnyH_take (i := 26) (oi := ?oi20033) (v := ?v20033) ?hi20033 (by kernel_rfl) (by kernel_rfl) (by kernel_rfl) (fun _ _ _ h => h) (Or.inl ⟨?hw20033, ?hy20033⟩) (by assumption) ?rest20033
            case hi20033 => (simp only [List.getElem?_toArray, List.getElem?_cons_zero, List.getElem?_cons_succ]; rfl)
            case hw20033 => rfl
            case hy20033 => first | (intro wx hSw; go_simp; done) | (intro wx hSw; go_simp; with_reducible rfl)
            simp only [Act.put, List.setIfInBounds_toArray, List.set_cons_zero, List.set_cons_succ]
            have rlt := rb.lt
            have r0 := rb.cell 0
            have r1 := rb.cell 1
            have r2 := rb.cell 2
            have rf0 := rb.froz 0
            have rf1 := rb.froz 1
            have rf2 := rb.froz 2
            simp at r0 r1 r2
            refine wpAnyH_ready (rs := [28]) (by kernel_rfl) (by simp) ?_
            refine AllReadyH.cons rfl (fun K20034 hK20034 => ?_) AllReadyH.nil
            go_simp
            refine hK20034.out _ _ ?hs20034 (fun hHeld20034 => ?_)
            case hs20034 => exact trivial
            clear hHeld
            have hHeld := hHeld20034; clear hHeld20034 hK20034 K20034
            refine wpAnyH_done (by kernel_rfl) ?_ _
            refine NoPanic.normal ?_
            skip
            exact unhide REST2 _ bw _ (by kernel_rfl) (hide rb.three) (hide (blk_far3 (unhide hRB) (by omega))) (hide (blk_far3 (unhide hRW) (by omega))) (hide (owns_far3 (unhide hRO) hnb)) (Below.three hBw (by omega)) (by simpa [World.setCell] using hge) hbg hnb
        refine AllReadyH.cons rfl (fun K20035 hK20035 => ?_) AllReadyH.nil
        · go_simp
          refine hK20035.out _ _ ?hs20035 (fun hHeld20035 => ?_)
          case hs20035 => exact trivial
          clear hHeld
          have hHeld := hHeld20035; clear hHeld20035 hK20035 K20035
          have hb := below_new Y (.cells #[.string ⟨#[]⟩, .string ⟨#[]⟩, .bool false] 40)
          have rb := Blk.new Y #[.string ⟨#[]⟩, .string ⟨#[]⟩, .bool false] 40
          obtain ⟨bw, hbq⟩ : ∃ b, b = Y.heap.size := ⟨_, rfl⟩
          rw [← hbq] at rb
          have hbg : X0.heap.size ≤ bw := by omega
          have hnb : (Value.slice q n cap).ownBlock ≠ some bw := fun e => by have h9 := ((unhide hRO).lt _ e).2; omega
          simp only [← hbq]
          replace hRB := hide ((unhide hRB).below hb)
          replace hRW := hide ((unhide hRW).below hb)
          replace hRO := hide (World.ownsRow.kept (unhide hRO) (grownBy_below none hb) (by cases hv : (Value.slice q n cap).ownBlock <;> simp))
          replace hge := Nat.le_trans hge hb.size
          replace hBw := hBw.trans (hb.mono hBw.size)
          generalize Y.alloc (.cells #[.string ⟨#[]⟩, .string ⟨#[]⟩, .bool false] 40) = Y6 at *
          clear hb hbq
          refine wpAnyH_ready (rs := [12]) (by kernel_rfl) (by simp) ?_
          refine AllReadyH.cons rfl (fun K20036 hK20036 => ?_) AllReadyH.nil
          go_simp
          go_wp2_with (go_at_call 15; refine (unhide C1 _).mono ?_; rintro e X2 ⟨rfl, hX2⟩; replace hX2 := hX2.symm; subst hX2)
          refine hK20036.out _ _ ?hs20036 (fun hHeld20036 => ?_)
          case hs20036 => exact trivial
          clear hHeld
          have hHeld := hHeld20036; clear hHeld20036 hK20036 K20036
          refine wpAnyH_take (i := 13) (oi := ?oi20037) (v := ?v20037) ?hi20037 (by kernel_rfl) (by kernel_rfl) (by kernel_rfl) (fun _ _ _ h => h) (Or.inl ⟨?hw20037, ?hy20037⟩) (by assumption) ?rest20037
          case hi20037 => (simp only [List.getElem?_toArray, List.getElem?_cons_zero, List.getElem?_cons_succ]; rfl)
          case hw20037 => rfl
          case hy20037 => first | (intro wx hSw; go_simp; done) | (intro wx hSw; go_simp; with_reducible rfl)
          simp only [Act.put, List.setIfInBounds_toArray, List.set_cons_zero, List.set_cons_succ]
          refine wpAnyH_take (i := 14) (oi := ?oi20038) (v := ?v20038) ?hi20038 (by kernel_rfl) (by kernel_rfl) (by kernel_rfl) (fun _ _ _ h => h) (Or.inl ⟨?hw20038, ?hy20038⟩) (by assumption) ?rest20038
          case hi20038 => (simp only [List.getElem?_toArray, List.getElem?_cons_zero, List.getElem?_cons_succ]; rfl)
          case hw20038 => rfl
          case hy20038 => first | (intro wx hSw; go_simp; done) | (intro wx hSw; go_simp; with_reducible rfl)
          simp only [Act.put, List.setIfInBounds_toArray, List.set_cons_zero, List.set_cons_succ]
          refine wpAnyH_ready (rs := [21]) (by kernel_rfl) (by simp) ?_
          refine AllReadyH.cons rfl (fun K20039 hK20039 => ?_) AllReadyH.nil
          go_simp
          go_wp2_with (go_at_call 15; refine (unhide C2 _).mono ?_; rintro e X2 ⟨rfl, hX2⟩; replace hX2 := hX2.symm; subst hX2)
          refine hK20039.out _ _ ?hs20039 (fun hHeld20039 => ?_)
          case hs20039 => exact trivial
          clear hHeld
          have hHeld := hHeld20039; clear hHeld20039 hK20039 K20039
          refine wpAnyH_take (i := 22) (oi := ?oi20040) (v := ?v20040) ?hi20040 (by kernel_rfl) (by kernel_rfl) (by kernel_rfl) (fun _ _ _ h => h) (Or.inl ⟨?hw20040, ?hy20040⟩) (by assumption) ?rest20040
          case hi20040 => (simp only [List.getElem?_toArray, List.getElem?_cons_zero, List.getElem?_cons_succ]; rfl)
          case hw20040 => rfl
          case hy20040 => first | (intro wx hSw; go_simp; done) | (intro wx hSw; go_simp; with_reducible rfl)
          simp only [Act.put, List.setIfInBounds_toArray, List.set_cons_zero, List.set_cons_succ]
          refine wpAnyH_take (i := 26) (oi := ?oi20041) (v := ?v20041) ?hi20041 (by kernel_rfl) (by kernel_rfl) (by kernel_rfl) (fun _ _ _ h => h) (Or.inl ⟨?hw20041, ?hy20041⟩) (by assumption) ?rest20041
          case hi20041 => (simp only [List.getElem?_toArray, List.getElem?_cons_zero, List.getElem?_cons_succ]; rfl)
          case hw20041 => rfl
          case hy20041 => first | (intro wx hSw; go_simp; done) | (intro wx hSw; go_simp; with_reducible rfl)
          simp only [Act.put, List.setIfInBounds_toArray, List.set_cons_zero, List.set_cons_succ]
          have rlt := rb.lt
          have r0 := rb.cell 0
          have r1 := rb.cell 1
          have r2 := rb.cell 2
          have rf0 := rb.froz 0
          have rf1 := rb.froz 1
          have rf2 := rb.froz 2
          simp at r0 r1 r2
          refine wpAnyH_ready (rs := [28]) (by kernel_rfl) (by simp) ?_
          refine AllReadyH.cons rfl (fun K20042 hK20042 => ?_) AllReadyH.nil
          go_simp
          refine hK20042.out _ _ ?hs20042 (fun hHeld20042 => ?_)
          case hs20042 => exact trivial
          clear hHeld
          have hHeld := hHeld20042; clear hHeld20042 hK20042 K20042
          refine wpAnyH_done (by kernel_rfl) ?_ _
          refine NoPanic.normal ?_
          skip
          exact unhide REST2 _ bw _ (by kernel_rfl) (hide rb.three) (hide (blk_far3 (unhide hRB) (by omega))) (hide (blk_far3 (unhide hRW) (by omega))) (hide (owns_far3 (unhide hRO) hnb)) (Below.three hBw (by omega)) (by simpa [World.setCell] using hge) hbg hnb
      · have RB := unhide hRB
        have RW := unhide hRW
        have cl_ := RB.lt
        have c0_ := RB.cell 0
        have cf0_ := RB.froz 0
        have c1_ := RB.cell 1
        have cf1_ := RB.froz 1
        have c2_ := RB.cell 2
        have cf2_ := RB.froz 2
        have c3_ := RB.cell 3
        have cf3_ := RB.froz 3
        have c4_ := RB.cell 4
        have cf4_ := RB.froz 4
        have c5_ := RB.cell 5
        have cf5_ := RB.froz 5
        simp at c0_ c1_ c2_ c3_ c4_ c5_
        have zl_ := RW.lt
        have z0_ := RW.cell 0
        have zf0_ := RW.froz 0
        have z1_ := RW.cell 1
        have zf1_ := RW.froz 1
        have z2_ := RW.cell 2
        have zf2_ := RW.froz 2
        have z3_ := RW.cell 3
        have zf3_ := RW.froz 3
        have z4_ := RW.cell 4
        have zf4_ := RW.froz 4
        have z5_ := RW.cell 5
        have zf5_ := RW.froz 5
        simp at z0_ z1_ z2_ z3_ z4_ z5_
        have hE := hide (mkWs_all s zs n (by omega) hnz)
        go_wp2
        unfold MadeP
        rw [show doesB 2 = true from rfl, if_pos rfl, if_neg (show ¬ ((2 : Int) = 5) by decide), ← unhide hE]
        have hln : (mkWs s (zs.take n)).length = n := by unfold mkWs; rw [List.length_map, List.length_take, List.length_take]; omega
        rw [hln, Bool.true_and, unhide HCOM]
        have hfin := ((RW)).six (x0 := .int .i64 2) (x1 := .int .i64 x) (x2 := .int .i64 t) (x3 := .bool com) (x4 := .slice q n cap) (x5 := .string ⟨#[]⟩)
        have m0_ := hfin.cell 0
        have m1_ := hfin.cell 1
        have m2_ := hfin.cell 2
        have m3_ := hfin.cell 3
        have m4_ := hfin.cell 4
        have m5_ := hfin.cell 5
        simp at m0_ m1_ m2_ m3_ m4_ m5_
        refine bodyPost_ret (v := .agg #[.int .i64 2, .int .i64 x, .int .i64 t, .bool com, .slice q n cap, .string ⟨#[]⟩]) (by simp [results, Try.results14, go_sem, m0_, m1_, m2_, m3_, m4_, m5_]) rfl ?_
        exact ⟨q, cap, rfl, (ownsRow_setCell_below (ownsRow_setCell_below (ownsRow_setCell_below (ownsRow_setCell_below (ownsRow_setCell_below (ownsRow_setCell_below (ownsRow_lower (unhide hRO) (by omega)) (a := ⟨w.heap.size, 0, none⟩) (by show w.heap.size < _; omega) _) (a := ⟨w.heap.size, 1, none⟩) (by show w.heap.size < _; omega) _) (a := ⟨w.heap.size, 2, none⟩) (by show w.heap.size < _; omega) _) (a := ⟨w.heap.size, 3, none⟩) (by show w.heap.size < _; omega) _) (a := ⟨w.heap.size, 4, none⟩) (by show w.heap.size < _; omega) _) (a := ⟨w.heap.size, 5, none⟩) (by show w.heap.size < _; omega) _), Below.six hBw (Nat.le_refl _)⟩
    · have RB := unhide hRB
      have RW := unhide hRW
      have cl_ := RB.lt
      have c0_ := RB.cell 0
      have cf0_ := RB.froz 0
      have c1_ := RB.cell 1
      have cf1_ := RB.froz 1
      have c2_ := RB.cell 2
      have cf2_ := RB.froz 2
      have c3_ := RB.cell 3
      have cf3_ := RB.froz 3
      have c4_ := RB.cell 4
      have cf4_ := RB.froz 4
      have c5_ := RB.cell 5
      have cf5_ := RB.froz 5
      simp at c0_ c1_ c2_ c3_ c4_ c5_
      have zl_ := RW.lt
      have z0_ := RW.cell 0
      have zf0_ := RW.froz 0
      have z1_ := RW.cell 1
      have zf1_ := RW.froz 1
      have z2_ := RW.cell 2
      have zf2_ := RW.froz 2
      have z3_ := RW.cell 3
      have zf3_ := RW.froz 3
      have z4_ := RW.cell 4
      have zf4_ := RW.froz 4
      have z5_ := RW.cell 5
      have zf5_ := RW.froz 5
      simp at z0_ z1_ z2_ z3_ z4_ z5_
      have hE := hide (mkWs_all s zs n (by omega) hnz)
      go_wp2
      unfold MadeP
      rw [show doesB 2 = true from rfl, if_pos rfl, if_neg (show ¬ ((2 : Int) = 5) by decide), ← unhide hE]
      have hln : (mkWs s (zs.take n)).length = n := by unfold mkWs; rw [List.length_map, List.length_take, List.length_take]; omega
      rw [hln, Bool.true_and, unhide HCOM]
      have hfin := ((RW)).six (x0 := .int .i64 2) (x1 := .int .i64 x) (x2 := .int .i64 t) (x3 := .bool com) (x4 := .slice q n cap) (x5 := .string ⟨#[]⟩)
      have m0_ := hfin.cell 0
      have m1_ := hfin.cell 1
      have m2_ := hfin.cell 2
      have m3_ := hfin.cell 3
      have m4_ := hfin.cell 4
      have m5_ := hfin.cell 5
      simp at m0_ m1_ m2_ m3_ m4_ m5_
      refine bodyPost_ret (v := .agg #[.int .i64 2, .int .i64 x, .int .i64 t, .bool com, .slice q n cap, .string ⟨#[]⟩]) (by simp [results, Try.results14, go_sem, m0_, m1_, m2_, m3_, m4_, m5_]) rfl ?_
      exact ⟨q, cap, rfl, (ownsRow_setCell_below (ownsRow_setCell_below (ownsRow_setCell_below (ownsRow_setCell_below (ownsRow_setCell_below (ownsRow_setCell_below (ownsRow_lower (unhide hRO) (by omega)) (a := ⟨w.heap.size, 0, none⟩) (by show w.heap.size < _; omega) _) (a := ⟨w.heap.size, 1, none⟩) (by show w.heap.size < _; omega) _) (a := ⟨w.heap.size, 2, none⟩) (by show w.heap.size < _; omega) _) (a := ⟨w.heap.size, 3, none⟩) (by show w.heap.size < _; omega) _) (a := ⟨w.heap.size, 4, none⟩) (by show w.heap.size < _; omega) _) (a := ⟨w.heap.size, 5, none⟩) (by show w.heap.size < _; omega) _), Below.six hBw (Nat.le_refl _)⟩
end Go.Proofs.Ytjmmfgmmmdbenaa
