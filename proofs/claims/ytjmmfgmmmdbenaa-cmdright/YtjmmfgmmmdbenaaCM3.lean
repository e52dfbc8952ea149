/-
  The statements' Make: the loop, kind 3.
-/
import Derived.Test.YtjmmfgmmmdbenaaCM0
namespace Go.Proofs.Ytjmmfgmmmdbenaa
open Go.RowKit
set_option linter.unusedSimpArgs false
set_option linter.unusedVariables false

set_option maxRecDepth 100000 in
set_option maxHeartbeats 16000000 in
theorem make7_k3 {r0 r1 rest : Code} (hc : Try.f14.body = some (.seq r0 (.seq r1 rest))) (kind id txn k x t d2 : Int) (p : Option Addr) (ncap : Nat) (zs : List Int) (s : ByteArray) (w : World) (CD : Hid (W7 txn 2 d2)) (hz : Hid (IntsP p zs w)) (hs : s.size ≤ 200) (ac : Act) (b : Nat) (X : World) (ha : ac = ⟨#[.int .i64 kind, .int .i64 id, .int .i64 txn, .slice p zs.length ncap, .string s, ac.tmps.getD 5 undef, ac.tmps.getD 6 undef, ac.tmps.getD 7 undef, ac.tmps.getD 8 undef, ac.tmps.getD 9 undef, .pointer (some ⟨w.heap.size, 0, none⟩), .pointer (some ⟨b, 0, none⟩), ac.tmps.getD 12 undef, ac.tmps.getD 13 undef, ac.tmps.getD 14 undef, ac.tmps.getD 15 undef, ac.tmps.getD 16 undef, ac.tmps.getD 17 undef, ac.tmps.getD 18 undef, ac.tmps.getD 19 undef, ac.tmps.getD 20 undef, ac.tmps.getD 21 undef, ac.tmps.getD 22 undef, ac.tmps.getD 23 undef, ac.tmps.getD 24 undef, ac.tmps.getD 25 undef, ac.tmps.getD 26 undef, ac.tmps.getD 27 undef, ac.tmps.getD 28 undef, ac.tmps.getD 29 undef, ac.tmps.getD 30 undef, ac.tmps.getD 31 undef, ac.tmps.getD 32 undef, ac.tmps.getD 33 undef, ac.tmps.getD 34 undef, ac.tmps.getD 35 undef, ac.tmps.getD 36 undef, ac.tmps.getD 37 undef, ac.tmps.getD 38 undef, ac.tmps.getD 39 undef, ac.tmps.getD 40 undef, ac.tmps.getD 41 undef, ac.tmps.getD 42 undef, ac.tmps.getD 43 undef, ac.tmps.getD 44 undef, ac.tmps.getD 45 undef, ac.tmps.getD 46 undef, ac.tmps.getD 47 undef, ac.tmps.getD 48 undef, ac.tmps.getD 49 undef, ac.tmps.getD 50 undef, ac.tmps.getD 51 undef, ac.tmps.getD 52 undef, ac.tmps.getD 53 undef, ac.tmps.getD 54 undef, ac.tmps.getD 55 undef, ac.tmps.getD 56 undef, ac.tmps.getD 57 undef, ac.tmps.getD 58 undef, ac.tmps.getD 59 undef, ac.tmps.getD 60 undef, ac.tmps.getD 61 undef, ac.tmps.getD 62 undef, ac.tmps.getD 63 undef, ac.tmps.getD 64 undef, ac.tmps.getD 65 undef, ac.tmps.getD 66 undef, ac.tmps.getD 67 undef, ac.tmps.getD 68 undef, ac.tmps.getD 69 undef, ac.tmps.getD 70 undef, ac.tmps.getD 71 undef, ac.tmps.getD 72 undef, ac.tmps.getD 73 undef, ac.tmps.getD 74 undef, ac.tmps.getD 75 undef, ac.tmps.getD 76 undef, ac.tmps.getD 77 undef, ac.tmps.getD 78 undef, ac.tmps.getD 79 undef, ac.tmps.getD 80 undef, ac.tmps.getD 81 undef, ac.tmps.getD 82 undef, ac.tmps.getD 83 undef, ac.tmps.getD 84 undef, ac.tmps.getD 85 undef, ac.tmps.getD 86 undef, ac.tmps.getD 87 undef, ac.tmps.getD 88 undef, ac.tmps.getD 89 undef, ac.tmps.getD 90 undef, ac.tmps.getD 91 undef, ac.tmps.getD 92 undef, ac.tmps.getD 93 undef, ac.tmps.getD 94 undef, ac.tmps.getD 95 undef, ac.tmps.getD 96 undef, ac.tmps.getD 97 undef, ac.tmps.getD 98 undef, ac.tmps.getD 99 undef, ac.tmps.getD 100 undef, ac.tmps.getD 101 undef, ac.tmps.getD 102 undef, ac.tmps.getD 103 undef], []⟩) (GE : Hid (Below w.heap.size w X)) (RE : Hid (Blk b #[.int .i64 k, .int .i64 x, .int .i64 t, .bool false, .slice none 0 0, .string ⟨#[]⟩] 26 X)) (RZ : Hid (Blk w.heap.size #[.int .i64 0, .int .i64 0, .int .i64 0, .bool false, .slice none 0 0, .string ⟨#[]⟩] 26 X)) (hlt : w.heap.size < b) (hk : k = 3) : rest.wp Try.prog (bodyPost Try.prog Try.f14 (MadeP k x t d2 s zs w)) ac X := by
  subst hk
  obtain ⟨u, rfl⟩ : ∃ u : Nat → Value, ac = ⟨#[.int .i64 kind, .int .i64 id, .int .i64 txn, .slice p zs.length ncap, .string s, u 5, u 6, u 7, u 8, u 9, .pointer (some ⟨w.heap.size, 0, none⟩), .pointer (some ⟨b, 0, none⟩), u 12, u 13, u 14, u 15, u 16, u 17, u 18, u 19, u 20, u 21, u 22, u 23, u 24, u 25, u 26, u 27, u 28, u 29, u 30, u 31, u 32, u 33, u 34, u 35, u 36, u 37, u 38, u 39, u 40, u 41, u 42, u 43, u 44, u 45, u 46, u 47, u 48, u 49, u 50, u 51, u 52, u 53, u 54, u 55, u 56, u 57, u 58, u 59, u 60, u 61, u 62, u 63, u 64, u 65, u 66, u 67, u 68, u 69, u 70, u 71, u 72, u 73, u 74, u 75, u 76, u 77, u 78, u 79, u 80, u 81, u 82, u 83, u 84, u 85, u 86, u 87, u 88, u 89, u 90, u 91, u 92, u 93, u 94, u 95, u 96, u 97, u 98, u 99, u 100, u 101, u 102, u 103], []⟩ := ⟨fun i => ac.tmps.getD i undef, ha⟩
  clear ha
  unfold Try.f14 at hc
  cases hc
  obtain ⟨com, hcom⟩ : ∃ com, decide (d2 = 0) = com := ⟨_, rfl⟩
  have hcom2 : (d2 == 0) = com := by rw [← hcom]; rfl
  have HCOM := hide hcom
  have RB := unhide RE
  have RW := unhide RZ
  have R3 := RB.set 3 (.bool com)
  have RW3 : Blk w.heap.size #[.int .i64 0, .int .i64 0, .int .i64 0, .bool false, .slice none 0 0, .string ⟨#[]⟩] 26 (X.setCell ⟨b, 3, none⟩ (.bool com)) := (Below.heap_setCell _ _ _ _ (by show w.heap.size ≠ b; omega)).trans RW
  have hB3 : Below w.heap.size w (X.setCell ⟨b, 3, none⟩ (.bool com)) := (unhide GE).setCell (p := ⟨b, 3, none⟩) (by show w.heap.size ≤ b; omega) _
  have cl_ := RB.lt
  have c0_ := RB.cell 0
  have cf0_ := RB.froz 0
  have c1_ := RB.cell 1
  have cf1_ := RB.froz 1
  have c2_ := RB.cell 2
  have cf2_ := RB.froz 2
  have c3_ := RB.cell 3
  have cf3_ := RB.froz 3
  have c4_ := RB.cell 4
  have cf4_ := RB.froz 4
  have c5_ := RB.cell 5
  have cf5_ := RB.froz 5
  simp at c0_ c1_ c2_ c3_ c4_ c5_
  go_wp2_with (go_at_call 15; refine (unhide CD _).mono ?_; rintro e X2 ⟨rfl, hX2⟩; replace hX2 := hX2.symm; subst hX2)
  have RE3 : Hid (Blk b #[.int .i64 3, .int .i64 x, .int .i64 t, .bool com, .slice none 0 0, .string ⟨#[]⟩] 26 (X.setCell ⟨b, 3, none⟩ (.bool com))) := hide R3
  have hbl : b < (X.setCell ⟨b, 3, none⟩ (.bool com)).heap.size := by simpa [World.setCell] using cl_
  have hB4 : Below X.heap.size X (X.setCell ⟨b, 3, none⟩ (.bool com)) → True := fun _ => trivial
  clear R3 c0_ c1_ c2_ c3_ c4_ c5_ cf0_ cf1_ cf2_ cf3_ cf4_ cf5_ cl_ RB RE GE RZ RW hcom hB4 hcom2
  generalize X.setCell ⟨b, 3, none⟩ (.bool com) = X0 at *
  go_loopw [12] (fun i wr => ∃ n : Nat, n ≤ 20 ∧ n ≤ zs.length ∧ i = .int .i64 (n : Int) ∧ ∃ q cap, Hid (Blk b #[.int .i64 3, .int .i64 x, .int .i64 t, .bool com, .slice q n cap, .string ⟨#[]⟩] 26 wr) ∧ Hid (Blk w.heap.size #[.int .i64 0, .int .i64 0, .int .i64 0, .bool false, .slice none 0 0, .string ⟨#[]⟩] 26 wr) ∧ Hid (wr.ownsRow X0.heap.size 40 3 (.slice q n cap) n (wcells (mkWs s (zs.take n)))) ∧ Below w.heap.size w wr ∧ X0.heap.size ≤ wr.heap.size) (fun i wr => 20 - (intOf i).toNat)
  case atStart => exact ⟨0, by omega, by omega, rfl, none, 0, RE3, hide RW3, hide (World.ownsRow_nil _ _ _ _), hB3, Nat.le_refl _⟩
  case round =>
    obtain ⟨n, hn20, hnz, rfl, q, cap, hRB, hRW, hRO, hBw, hge⟩ := hrel
    by_cases hlt1 : n < zs.length
    · by_cases hlt2 : n < 20
      · obtain ⟨a, rfl, hc1, hc2, hz64⟩ := (unhide hz).2 n hlt1
        have hzl := (unhide hz).1
        have hcr : wr.cell? (a.add n) = some (.int .i64 zs[n]) := (hBw.cell hc2).trans hc1
        have HSN := hide (mkWs_snoc s zs n hlt1 hlt2)
        generalize zs[n] = z at *
        obtain ⟨m, hm⟩ : ∃ m : Nat, z % 1073741824 = (m : Int) := ⟨(z % 1073741824).toNat, by omega⟩
        have hm2 : m < 1073741824 := by omega
        have CM := hide (fun W => within7_at hz64 (by decide) hm W)
        obtain ⟨j1, hj1⟩ : ∃ j : Nat, ((m / 3 : Nat) : Int) % ((s.size : Int) + 1) = (j : Int) := ⟨(((m / 3 : Nat) : Int) % ((s.size : Int) + 1)).toNat, by have := Int.emod_nonneg ((m / 3 : Nat) : Int) (show (s.size : Int) + 1 ≠ 0 by omega); omega⟩
        obtain ⟨j2, hj2⟩ : ∃ j : Nat, ((m / 7 : Nat) : Int) % ((s.size : Int) + 1) = (j : Int) := ⟨(((m / 7 : Nat) : Int) % ((s.size : Int) + 1)).toNat, by have := Int.emod_nonneg ((m / 7 : Nat) : Int) (show (s.size : Int) + 1 ≠ 0 by omega); omega⟩
        have C1 := hide (fun W => within7_at (by unfold Is64; omega) (by omega) hj1 W)
        have C2 := hide (fun W => within7_at (by unfold Is64; omega) (by omega) hj2 W)
        have hj1s : j1 ≤ s.size := by have := Int.emod_lt_of_pos ((m / 3 : Nat) : Int) (show 0 < (s.size : Int) + 1 by omega); omega
        have hj2s : j2 ≤ s.size := by have := Int.emod_lt_of_pos ((m / 7 : Nat) : Int) (show 0 < (s.size : Int) + 1 by omega); omega
        have HWZ : Hid (mkW s (z % 1073741824) = ⟨rckB.extract (m % 3) (m % 3 + 1) ++ s.extract 0 j1, if m % 5 = 0 then ⟨#[]⟩ else s.extract j2 s.size, decide (m % 5 = 0)⟩) := by
          show _ = _
          rw [hm]
          unfold mkW
          rw [show ((m : Int) / 3) = ((m / 3 : Nat) : Int) by omega, show ((m : Int) / 7) = ((m / 7 : Nat) : Int) by omega, hj1, hj2, show ((m : Int) % 3).toNat = m % 3 by omega]
          by_cases h5 : m % 5 = 0
          · rw [if_pos h5, if_pos (by omega)]; simp; omega
          · rw [if_neg h5, if_neg (by omega)]; simp; omega
        clear hc1 hm hj1 hj2 hz64
        have hi1 : IntKind.i64.wrap ((s.size : Int) + 1) = (s.size : Int) + 1 := IntWalk.i64_in _ (by omega)
        have hr3 : m % 3 < 3 := Nat.mod_lt _ (by decide)
        obtain ⟨r, hr⟩ : ∃ r, m % 3 = r := ⟨_, rfl⟩
        obtain ⟨r5, hr5⟩ : ∃ r, m % 5 = r := ⟨_, rfl⟩
        obtain ⟨q3, hq3⟩ : ∃ r, m / 3 = r := ⟨_, rfl⟩
        obtain ⟨q7, hq7⟩ : ∃ r, m / 7 = r := ⟨_, rfl⟩
        have ht3 : (m : Int).tmod 3 = (r : Int) := by rw [Int.tmod_eq_emod_of_nonneg (by omega)]; omega
        have ht5 : (m : Int).tmod 5 = (r5 : Int) := by rw [Int.tmod_eq_emod_of_nonneg (by omega)]; omega
        have hd3 : IntKind.i64.wrap ((m : Int).tdiv 3) = (q3 : Int) := by rw [Int.tdiv_eq_ediv_of_nonneg (by omega)]; exact (IntWalk.i64_in _ (by omega)).trans (by omega)
        have hd7 : IntKind.i64.wrap ((m : Int).tdiv 7) = (q7 : Int) := by rw [Int.tdiv_eq_ediv_of_nonneg (by omega)]; exact (IntWalk.i64_in _ (by omega)).trans (by omega)
        have he3 : IntKind.i64.wrap ((m : Int) / 3) = (q3 : Int) := (IntWalk.i64_in _ (by omega)).trans (by omega)
        have he7 : IntKind.i64.wrap ((m : Int) / 7) = (q7 : Int) := (IntWalk.i64_in _ (by omega)).trans (by omega)
        have hwr : IntKind.i64.wrap ((r : Int) + 1) = ((r + 1 : Nat) : Int) := (IntWalk.i64_in _ (by omega)).trans (by omega)
        have hr4 : (r : Int) + 1 ≤ 3 := by omega
        have hr6 : (r : Int) ≤ (r : Int) + 1 := by omega
        have hr7 : 0 ≤ (r : Int) + 1 := by omega
        have hcat : ¬ 9223372036854775807 < min (r + 1) 3 - r + j1 := by omega
        have hj1i : (j1 : Int) ≤ s.size := by omega
        have hj2i : (j2 : Int) ≤ s.size := by omega
        rw [hr, hr5] at HWZ
        rw [hq3] at C1
        rw [hq7] at C2
        clear hr hr5 hq3 hq7
        go_wp2_with (go_at_call 15; refine (unhide CM _).mono ?_; rintro e X2 ⟨rfl, hX2⟩; replace hX2 := hX2.symm; subst hX2)
        rename_i K11 hrest
        have REST2 : ∀ (ac : Act) (bw : Nat) (Y : World), ac = ⟨#[.int .i64 kind, .int .i64 id, .int .i64 txn, .slice (some a) zs.length ncap, .string s, u 5, u 6, u 7, u 8, u 9, .pointer (some ⟨w.heap.size, 0, none⟩), .pointer (some ⟨b, 0, none⟩), .int .i64 (n : Int), .int .i64 (m : Int), .pointer (some ⟨bw, 0, none⟩), u 15, u 16, u 17, u 18, u 19, u 20, u 21, u 22, u 23, u 24, u 25, u 26, u 27, u 28, u 29, .pointer (some ⟨b, 0, none⟩), .int .i64 3, .bool false, u 33, u 34, u 35, u 36, u 37, u 38, .pointer (some ⟨b, 0, none⟩), .int .i64 3, .bool true, .bool true, .pointer (some ⟨b, 0, none⟩), .int .i64 3, .bool false, .bool false, u 47, .int .i64 txn, .int .i64 d2, .bool com, .pointer (some ⟨b, 3, none⟩), ac.tmps.getD 52 undef, ac.tmps.getD 53 undef, ac.tmps.getD 54 undef, ac.tmps.getD 55 undef, ac.tmps.getD 56 undef, ac.tmps.getD 57 undef, ac.tmps.getD 58 undef, ac.tmps.getD 59 undef, ac.tmps.getD 60 undef, ac.tmps.getD 61 undef, ac.tmps.getD 62 undef, ac.tmps.getD 63 undef, ac.tmps.getD 64 undef, ac.tmps.getD 65 undef, ac.tmps.getD 66 undef, ac.tmps.getD 67 undef, ac.tmps.getD 68 undef, ac.tmps.getD 69 undef, ac.tmps.getD 70 undef, ac.tmps.getD 71 undef, ac.tmps.getD 72 undef, ac.tmps.getD 73 undef, ac.tmps.getD 74 undef, ac.tmps.getD 75 undef, ac.tmps.getD 76 undef, ac.tmps.getD 77 undef, ac.tmps.getD 78 undef, ac.tmps.getD 79 undef, ac.tmps.getD 80 undef, ac.tmps.getD 81 undef, ac.tmps.getD 82 undef, ac.tmps.getD 83 undef, ac.tmps.getD 84 undef, ac.tmps.getD 85 undef, ac.tmps.getD 86 undef, ac.tmps.getD 87 undef, ac.tmps.getD 88 undef, ac.tmps.getD 89 undef, ac.tmps.getD 90 undef, ac.tmps.getD 91 undef, ac.tmps.getD 92 undef, ac.tmps.getD 93 undef, ac.tmps.getD 94 undef, ac.tmps.getD 95 undef, ac.tmps.getD 96 undef, ac.tmps.getD 97 undef, ac.tmps.getD 98 undef, ac.tmps.getD 99 undef, ac.tmps.getD 100 undef, ac.tmps.getD 101 undef, ac.tmps.getD 102 undef, u 103], []⟩ → Hid (Blk bw #[.string (rckB.extract r (r + 1) ++ s.extract 0 j1), .string (s.extract j2 s.size), .bool ((r5 : Int) == 0)] 40 Y) → Hid (Blk b #[.int .i64 3, .int .i64 x, .int .i64 t, .bool com, .slice q n cap, .string ⟨#[]⟩] 26 Y) → Hid (Blk w.heap.size #[.int .i64 0, .int .i64 0, .int .i64 0, .bool false, .slice none 0 0, .string ⟨#[]⟩] 26 Y) → Hid (Y.ownsRow X0.heap.size 40 3 (.slice q n cap) n (wcells (mkWs s (zs.take n)))) → Below w.heap.size w Y → X0.heap.size ≤ Y.heap.size → X0.heap.size ≤ bw → (Value.slice q n cap).ownBlock ≠ some bw → K11 ac Y := by
          clear hRB hRW hRO hBw hge hcr
          intro ac bw Y ha rb hRB hRW hRO hBw hge hbg hnb
          obtain ⟨uu, rfl⟩ : ∃ uu : Nat → Value, ac = ⟨#[.int .i64 kind, .int .i64 id, .int .i64 txn, .slice (some a) zs.length ncap, .string s, u 5, u 6, u 7, u 8, u 9, .pointer (some ⟨w.heap.size, 0, none⟩), .pointer (some ⟨b, 0, none⟩), .int .i64 (n : Int), .int .i64 (m : Int), .pointer (some ⟨bw, 0, none⟩), u 15, u 16, u 17, u 18, u 19, u 20, u 21, u 22, u 23, u 24, u 25, u 26, u 27, u 28, u 29, .pointer (some ⟨b, 0, none⟩), .int .i64 3, .bool false, u 33, u 34, u 35, u 36, u 37, u 38, .pointer (some ⟨b, 0, none⟩), .int .i64 3, .bool true, .bool true, .pointer (some ⟨b, 0, none⟩), .int .i64 3, .bool false, .bool false, u 47, .int .i64 txn, .int .i64 d2, .bool com, .pointer (some ⟨b, 3, none⟩), uu 52, uu 53, uu 54, uu 55, uu 56, uu 57, uu 58, uu 59, uu 60, uu 61, uu 62, uu 63, uu 64, uu 65, uu 66, uu 67, uu 68, uu 69, uu 70, uu 71, uu 72, uu 73, uu 74, uu 75, uu 76, uu 77, uu 78, uu 79, uu 80, uu 81, uu 82, uu 83, uu 84, uu 85, uu 86, uu 87, uu 88, uu 89, uu 90, uu 91, uu 92, uu 93, uu 94, uu 95, uu 96, uu 97, uu 98, uu 99, uu 100, uu 101, uu 102, u 103], []⟩ := ⟨fun i => ac.tmps.getD i undef, ha⟩
          clear ha
          refine hrest _ _ ?_
          clear hrest
          obtain ⟨i0, hi, hz0, hz1, hz2⟩ := info_parts info_wt
          generalize rckB.extract r (r + 1) ++ s.extract 0 j1 = kk at *
          generalize s.extract j2 s.size = vv at *
          have hbn : b ≠ bw := by omega
          have hwn : w.heap.size ≠ bw := by omega
          have RB := unhide hRB
          have RV := unhide rb
          have cl_ := RB.lt
          have c0_ := RB.cell 0
          have cf0_ := RB.froz 0
          have c1_ := RB.cell 1
          have cf1_ := RB.froz 1
          have c2_ := RB.cell 2
          have cf2_ := RB.froz 2
          have c3_ := RB.cell 3
          have cf3_ := RB.froz 3
          have c4_ := RB.cell 4
          have cf4_ := RB.froz 4
          have c5_ := RB.cell 5
          have cf5_ := RB.froz 5
          simp at c0_ c1_ c2_ c3_ c4_ c5_
          have dl_ := RV.lt
          have d0_ := RV.cell 0
          have df0_ := RV.froz 0
          have d1_ := RV.cell 1
          have df1_ := RV.froz 1
          have d2_ := RV.cell 2
          have df2_ := RV.froz 2
          simp at d0_ d1_ d2_
          by_cases h5 : r5 = 0
          · have h5b : ((r5 : Int) == 0) = true := by rw [h5]; rfl
            have HWZ2 : Hid (mkW s (z % 1073741824) = ⟨kk, ⟨#[]⟩, true⟩) := by
              have h := unhide HWZ
              rw [if_pos h5, decide_eq_true h5] at h
              exact h
            rw [h5b] at RV d2_
            have RV2 : Blk bw #[.string kk, .string ⟨#[]⟩, .bool true] 40 (Y.setCell ⟨bw, 1, none⟩ (.string ⟨#[]⟩)) := RV.set 1 (.string ⟨#[]⟩)
            have RB2 : Blk b #[.int .i64 3, .int .i64 x, .int .i64 t, .bool com, .slice q n cap, .string ⟨#[]⟩] 26 (Y.setCell ⟨bw, 1, none⟩ (.string ⟨#[]⟩)) := blk_far1 RB hbn
            have RW2 : Blk w.heap.size #[.int .i64 0, .int .i64 0, .int .i64 0, .bool false, .slice none 0 0, .string ⟨#[]⟩] 26 (Y.setCell ⟨bw, 1, none⟩ (.string ⟨#[]⟩)) := blk_far1 (unhide hRW) hwn
            have RO2 : (Y.setCell ⟨bw, 1, none⟩ (.string ⟨#[]⟩)).ownsRow X0.heap.size 40 3 (.slice q n cap) n (wcells (mkWs s (zs.take n))) := owns_far (unhide hRO) hnb
            have hB2 : Below w.heap.size w (Y.setCell ⟨bw, 1, none⟩ (.string ⟨#[]⟩)) := hBw.setCell (p := ⟨bw, 1, none⟩) (by show w.heap.size ≤ bw; omega) _
            have hszY : (Y.setCell ⟨bw, 1, none⟩ (.string ⟨#[]⟩)).heap.size = Y.heap.size := by simp [World.setCell]
            go_wp2_with (at_builtin; refine wpList_append_lies _ rfl _ _ 24 rfl X0.heap.size 40 i0 _ 3 40 Try.underlying24 hi hz0 hz1 hz2 rfl (by decide) (.slice q n cap) _ _ rfl (RO2.alloc _) ⟨Y.heap.size, 0, none⟩ 1 1 [.string kk, .string ⟨#[]⟩, .bool true] rfl rfl (cells3_new (Y.setCell ⟨bw, 1, none⟩ (.string ⟨#[]⟩)) _ _ _ _ _ hszY.symm) (by simp [Value.oneCell']) (by decide) (by unfold maxLen; omega) (by omega) (by simp; omega) _ rfl ?_; intro g2 cp2 w4 hown4 hgrow4 hat4 _; have hB9 := below_app hB2 (by omega) RO2 hgrow4; have RB9 := blk_app RB2 hbl RO2 hgrow4; have RW9 := blk_app RW2 (by omega) RO2 hgrow4; have e4_ := RB9.cell 4; have ef4_ := RB9.froz 4; have el_ := RB9.lt; simp at e4_)
            go_roundw
            case rel =>
              have RB10 : Blk b #[.int .i64 3, .int .i64 x, .int .i64 t, .bool com, .slice (some ⟨g2, 0, none⟩) (n + 1) cp2, .string ⟨#[]⟩] 26 (w4.setCell ⟨b, 4, none⟩ (.slice (some ⟨g2, 0, none⟩) (n + 1) cp2)) := RB9.set 4 _
              refine ⟨n + 1, by omega, by omega, by go_num, some ⟨g2, 0, none⟩, cp2, hide RB10, hide (blk_far1 RW9 (by omega)), hide (ownsRow_setCell_below (a := ⟨b, 4, none⟩) ?_ (by show b < _; exact hbl) _), hB9.setCell (p := ⟨b, 4, none⟩) (by show w.heap.size ≤ b; omega) _, ?_⟩
              · rw [← unhide HSN, wcells_snoc, unhide HWZ2]; exact hown4
              · have := hgrow4.size
                simp [World.setCell] at this ⊢; omega
            case measure => simp [intOf] <;> omega
          · have h5b : ((r5 : Int) == 0) = false := by rw [beq_eq_false_iff_ne]; omega
            have HWZ2 : Hid (mkW s (z % 1073741824) = ⟨kk, vv, false⟩) := by
              have h := unhide HWZ
              rw [if_neg h5, decide_eq_false h5] at h
              exact h
            rw [h5b] at RV d2_
            have RV2 := RV
            have RB2 := RB
            have RW2 := unhide hRW
            have RO2 := unhide hRO
            have hB2 := hBw
            have hszY : Y.heap.size = Y.heap.size := rfl
            go_wp2_with (at_builtin; refine wpList_append_lies _ rfl _ _ 24 rfl X0.heap.size 40 i0 _ 3 40 Try.underlying24 hi hz0 hz1 hz2 rfl (by decide) (.slice q n cap) _ _ rfl (RO2.alloc _) ⟨Y.heap.size, 0, none⟩ 1 1 [.string kk, .string vv, .bool false] rfl rfl (cells3_new Y _ _ _ _ _ hszY.symm) (by simp [Value.oneCell']) (by decide) (by unfold maxLen; omega) (by omega) (by simp; omega) _ rfl ?_; intro g2 cp2 w4 hown4 hgrow4 hat4 _; have hB9 := below_app hB2 (by omega) RO2 hgrow4; have RB9 := blk_app RB2 hbl RO2 hgrow4; have RW9 := blk_app RW2 (by omega) RO2 hgrow4; have e4_ := RB9.cell 4; have ef4_ := RB9.froz 4; have el_ := RB9.lt; simp at e4_)
            go_roundw
            case rel =>
              have RB10 : Blk b #[.int .i64 3, .int .i64 x, .int .i64 t, .bool com, .slice (some ⟨g2, 0, none⟩) (n + 1) cp2, .string ⟨#[]⟩] 26 (w4.setCell ⟨b, 4, none⟩ (.slice (some ⟨g2, 0, none⟩) (n + 1) cp2)) := RB9.set 4 _
              refine ⟨n + 1, by omega, by omega, by go_num, some ⟨g2, 0, none⟩, cp2, hide RB10, hide (blk_far1 RW9 (by omega)), hide (ownsRow_setCell_below (a := ⟨b, 4, none⟩) ?_ (by show b < _; exact hbl) _), hB9.setCell (p := ⟨b, 4, none⟩) (by show w.heap.size ≤ b; omega) _, ?_⟩
              · rw [← unhide HSN, wcells_snoc, unhide HWZ2]; exact hown4
              · have := hgrow4.size
                simp [World.setCell] at this ⊢; omega
            case measure => simp [intOf] <;> omega
        replace REST2 := hide REST2
        clear hrest
        refine wp_region_noPanic ?_
        refine wp_region_held_drew (S := fun _ => True) (by kernel_rfl) (trivial) (fun hHeld => ?_)
        have hbd : Below wr.heap.size wr wr.drew := (Below.refl _ _).drew
        replace hRB := hide ((unhide hRB).below hbd)
        replace hRW := hide ((unhide hRW).below hbd)
        replace hRO := hide (World.ownsRow.kept (unhide hRO) (grownBy_below none hbd) (by cases hv : (Value.slice q n cap).ownBlock <;> simp))
        replace hge := Nat.le_trans hge hbd.size
        replace hBw := hBw.trans (hbd.mono hBw.size)
        clear hbd hcr
        generalize wr.drew = Y at *
        refine wpAnyH_take (i := 0) (oi := ?oi20043) (v := ?v20043) ?hi20043 (by kernel_rfl) (by kernel_rfl) (by kernel_rfl) (fun _ _ _ h => h) (Or.inl ⟨?hw20043, ?hy20043⟩) (by assumption) ?rest20043
        case hi20043 => (simp only [List.getElem?_toArray, List.getElem?_cons_zero]; rfl)
        case hw20043 => rfl
        case hy20043 => first | (intro wx hSw; go_simp; done) | (intro wx hSw; go_simp; with_reducible rfl)
        simp only [Act.put, List.setIfInBounds_toArray, List.set_cons_zero, List.set_cons_succ]
        refine wpAnyH_take (i := 1) (oi := ?oi20044) (v := ?v20044) ?hi20044 (by kernel_rfl) (by kernel_rfl) (by kernel_rfl) (fun _ _ _ h => h) (Or.inl ⟨?hw20044, ?hy20044⟩) (by assumption) ?rest20044
        case hi20044 => (simp only [List.getElem?_toArray, List.getElem?_cons_zero, List.getElem?_cons_succ]; rfl)
        case hw20044 => rfl
        case hy20044 => first | (intro wx hSw; go_simp; done) | (intro wx hSw; go_simp; with_reducible rfl)
        simp only [Act.put, List.setIfInBounds_toArray, List.set_cons_zero, List.set_cons_succ]
        refine wpAnyH_take (i := 2) (oi := ?oi20045) (v := ?v20045) ?hi20045 (by kernel_rfl) (by kernel_rfl) (by kernel_rfl) (fun _ _ _ h => h) (Or.inl ⟨?hw20045, ?hy20045⟩) (by assumption) ?rest20045
        case hi20045 => (simp only [List.getElem?_toArray, List.getElem?_cons_zero, List.getElem?_cons_succ]; rfl)
        case hw20045 => rfl
        case hy20045 => first | (intro wx hSw; go_simp; done) | (intro wx hSw; go_simp; with_reducible rfl)
        simp only [Act.put, List.setIfInBounds_toArray, List.set_cons_zero, List.set_cons_succ]
        refine wpAnyH_take (i := 3) (oi := ?oi20046) (v := ?v20046) ?hi20046 (by kernel_rfl) (by kernel_rfl) (by kernel_rfl) (fun _ _ _ h => h) (Or.inl ⟨?hw20046, ?hy20046⟩) (by assumption) ?rest20046
        case hi20046 => (simp only [List.getElem?_toArray, List.getElem?_cons_zero, List.getElem?_cons_succ]; rfl)
        case hw20046 => rfl
        case hy20046 => first | (intro wx hSw; go_simp; done) | (intro wx hSw; go_simp; with_reducible rfl)
        simp only [Act.put, List.setIfInBounds_toArray, List.set_cons_zero, List.set_cons_succ]
        refine wpAnyH_take (i := 4) (oi := ?oi20047) (v := ?v20047) ?hi20047 (by kernel_rfl) (by kernel_rfl) (by kernel_rfl) (fun _ _ _ h => h) (Or.inl ⟨?hw20047, ?hy20047⟩) (by assumption) ?rest20047
        case hi20047 => (simp only [List.getElem?_toArray, List.getElem?_cons_zero, List.getElem?_cons_succ]; rfl)
        case hw20047 => rfl
        case hy20047 => first | (intro wx hSw; go_simp; done) | (intro wx hSw; go_simp; with_reducible rfl)
        simp only [Act.put, List.setIfInBounds_toArray, List.set_cons_zero, List.set_cons_succ]
        refine wpAnyH_take (i := 5) (oi := ?oi20048) (v := ?v20048) ?hi20048 (by kernel_rfl) (by kernel_rfl) (by kernel_rfl) (fun _ _ _ h => h) (Or.inl ⟨?hw20048, ?hy20048⟩) (by assumption) ?rest20048
        case hi20048 => (simp only [List.getElem?_toArray, List.getElem?_cons_zero, List.getElem?_cons_succ]; rfl)
        case hw20048 => rfl
        case hy20048 => first | (intro wx hSw; go_simp; done) | (intro wx hSw; go_simp; with_reducible rfl)
        simp only [Act.put, List.setIfInBounds_toArray, List.set_cons_zero, List.set_cons_succ]
        refine wpAnyH_take (i := 6) (oi := ?oi20049) (v := ?v20049) ?hi20049 (by kernel_rfl) (by kernel_rfl) (by kernel_rfl) (fun _ _ _ h => h) (Or.inl ⟨?hw20049, ?hy20049⟩) (by assumption) ?rest20049
        case hi20049 => (simp only [List.getElem?_toArray, List.getElem?_cons_zero, List.getElem?_cons_succ]; rfl)
        case hw20049 => rfl
        case hy20049 => first | (intro wx hSw; go_simp; done) | (intro wx hSw; go_simp; with_reducible rfl)
        simp only [Act.put, List.setIfInBounds_toArray, List.set_cons_zero, List.set_cons_succ]
        refine wpAnyH_take (i := 7) (oi := ?oi20050) (v := ?v20050) ?hi20050 (by kernel_rfl) (by kernel_rfl) (by kernel_rfl) (fun _ _ _ h => h) (Or.inl ⟨?hw20050, ?hy20050⟩) (by assumption) ?rest20050
        case hi20050 => (simp only [List.getElem?_toArray, List.getElem?_cons_zero, List.getElem?_cons_succ]; rfl)
        case hw20050 => rfl
        case hy20050 => first | (intro wx hSw; go_simp; done) | (intro wx hSw; go_simp; with_reducible rfl)
        simp only [Act.put, List.setIfInBounds_toArray, List.set_cons_zero, List.set_cons_succ]
        refine wpAnyH_take (i := 8) (oi := ?oi20051) (v := ?v20051) ?hi20051 (by kernel_rfl) (by kernel_rfl) (by kernel_rfl) (fun _ _ _ h => h) (Or.inl ⟨?hw20051, ?hy20051⟩) (by assumption) ?rest20051
        case hi20051 => (simp only [List.getElem?_toArray, List.getElem?_cons_zero, List.getElem?_cons_succ]; rfl)
        case hw20051 => rfl
        case hy20051 => first | (intro wx hSw; go_simp; done) | (intro wx hSw; go_simp; with_reducible rfl)
        simp only [Act.put, List.setIfInBounds_toArray, List.set_cons_zero, List.set_cons_succ]
        refine wpAnyH_take (i := 9) (oi := ?oi20052) (v := ?v20052) ?hi20052 (by kernel_rfl) (by kernel_rfl) (by kernel_rfl) (fun _ _ _ h => h) (Or.inl ⟨?hw20052, ?hy20052⟩) (by assumption) ?rest20052
        case hi20052 => (simp only [List.getElem?_toArray, List.getElem?_cons_zero, List.getElem?_cons_succ]; rfl)
        case hw20052 => rfl
        case hy20052 => first | (intro wx hSw; go_simp; done) | (intro wx hSw; go_simp; with_reducible rfl)
        simp only [Act.put, List.setIfInBounds_toArray, List.set_cons_zero, List.set_cons_succ]
        refine wpAnyH_take (i := 10) (oi := ?oi20053) (v := ?v20053) ?hi20053 (by kernel_rfl) (by kernel_rfl) (by kernel_rfl) (fun _ _ _ h => h) (Or.inl ⟨?hw20053, ?hy20053⟩) (by assumption) ?rest20053
        case hi20053 => (simp only [List.getElem?_toArray, List.getElem?_cons_zero, List.getElem?_cons_succ]; rfl)
        case hw20053 => rfl
        case hy20053 => first | (intro wx hSw; go_simp; done) | (intro wx hSw; go_simp; with_reducible rfl)
        simp only [Act.put, List.setIfInBounds_toArray, List.set_cons_zero, List.set_cons_succ]
        refine wpAnyH_take (i := 11) (oi := ?oi20054) (v := ?v20054) ?hi20054 (by kernel_rfl) (by kernel_rfl) (by kernel_rfl) (fun _ _ _ h => h) (Or.inl ⟨?hw20054, ?hy20054⟩) (by assumption) ?rest20054
        case hi20054 => (simp only [List.getElem?_toArray, List.getElem?_cons_zero, List.getElem?_cons_succ]; rfl)
        case hw20054 => rfl
        case hy20054 => first | (intro wx hSw; go_simp; done) | (intro wx hSw; go_simp; with_reducible rfl)
        simp only [Act.put, List.setIfInBounds_toArray, List.set_cons_zero, List.set_cons_succ]
        refine wpAnyH_take (i := 15) (oi := ?oi20055) (v := ?v20055) ?hi20055 (by kernel_rfl) (by kernel_rfl) (by kernel_rfl) (fun _ _ _ h => h) (Or.inl ⟨?hw20055, ?hy20055⟩) (by assumption) ?rest20055
        case hi20055 => (simp only [List.getElem?_toArray, List.getElem?_cons_zero, List.getElem?_cons_succ]; rfl)
        case hw20055 => rfl
        case hy20055 => first | (intro wx hSw; go_simp; done) | (intro wx hSw; go_simp; with_reducible rfl)
        simp only [Act.put, List.setIfInBounds_toArray, List.set_cons_zero, List.set_cons_succ]
        refine wpAnyH_take (i := 16) (oi := ?oi20056) (v := ?v20056) ?hi20056 (by kernel_rfl) (by kernel_rfl) (by kernel_rfl) (fun _ _ _ h => h) (Or.inl ⟨?hw20056, ?hy20056⟩) (by assumption) ?rest20056
        case hi20056 => (simp only [List.getElem?_toArray, List.getElem?_cons_zero, List.getElem?_cons_succ]; rfl)
        case hw20056 => rfl
        case hy20056 => first | (intro wx hSw; go_simp; done) | (intro wx hSw; go_simp; with_reducible rfl)
        simp only [Act.put, List.setIfInBounds_toArray, List.set_cons_zero, List.set_cons_succ]
        refine wpAnyH_take (i := 17) (oi := ?oi20057) (v := ?v20057) ?hi20057 (by kernel_rfl) (by kernel_rfl) (by kernel_rfl) (fun _ _ _ h => h) (Or.inl ⟨?hw20057, ?hy20057⟩) (by assumption) ?rest20057
        case hi20057 => (simp only [List.getElem?_toArray, List.getElem?_cons_zero, List.getElem?_cons_succ]; rfl)
        case hw20057 => rfl
        case hy20057 => first | (intro wx hSw; go_simp; done) | (intro wx hSw; go_simp; with_reducible rfl)
        simp only [Act.put, List.setIfInBounds_toArray, List.set_cons_zero, List.set_cons_succ]
        refine wpAnyH_take (i := 18) (oi := ?oi20058) (v := ?v20058) ?hi20058 (by kernel_rfl) (by kernel_rfl) (by kernel_rfl) (fun _ _ _ h => h) (Or.inl ⟨?hw20058, ?hy20058⟩) (by assumption) ?rest20058
        case hi20058 => (simp only [List.getElem?_toArray, List.getElem?_cons_zero, List.getElem?_cons_succ]; rfl)
        case hw20058 => rfl
        case hy20058 => first | (intro wx hSw; go_simp; done) | (intro wx hSw; go_simp; with_reducible rfl)
        simp only [Act.put, List.setIfInBounds_toArray, List.set_cons_zero, List.set_cons_succ]
        refine wpAnyH_take (i := 19) (oi := ?oi20059) (v := ?v20059) ?hi20059 (by kernel_rfl) (by kernel_rfl) (by kernel_rfl) (fun _ _ _ h => h) (Or.inl ⟨?hw20059, ?hy20059⟩) (by assumption) ?rest20059
        case hi20059 => (simp only [List.getElem?_toArray, List.getElem?_cons_zero, List.getElem?_cons_succ]; rfl)
        case hw20059 => rfl
        case hy20059 => first | (intro wx hSw; go_simp; done) | (intro wx hSw; go_simp; with_reducible rfl)
        simp only [Act.put, List.setIfInBounds_toArray, List.set_cons_zero, List.set_cons_succ]
        refine wpAnyH_take (i := 20) (oi := ?oi20060) (v := ?v20060) ?hi20060 (by kernel_rfl) (by kernel_rfl) (by kernel_rfl) (fun _ _ _ h => h) (Or.inl ⟨?hw20060, ?hy20060⟩) (by assumption) ?rest20060
        case hi20060 => (simp only [List.getElem?_toArray, List.getElem?_cons_zero, List.getElem?_cons_succ]; rfl)
        case hw20060 => rfl
        case hy20060 => first | (intro wx hSw; go_simp; done) | (intro wx hSw; go_simp; with_reducible rfl)
        simp only [Act.put, List.setIfInBounds_toArray, List.set_cons_zero, List.set_cons_succ]
        refine wpAnyH_take (i := 23) (oi := ?oi20061) (v := ?v20061) ?hi20061 (by kernel_rfl) (by kernel_rfl) (by kernel_rfl) (fun _ _ _ h => h) (Or.inl ⟨?hw20061, ?hy20061⟩) (by assumption) ?rest20061
        case hi20061 => (simp only [List.getElem?_toArray, List.getElem?_cons_zero, List.getElem?_cons_succ]; rfl)
        case hw20061 => rfl
        case hy20061 => first | (intro wx hSw; go_simp; done) | (intro wx hSw; go_simp; with_reducible rfl)
        simp only [Act.put, List.setIfInBounds_toArray, List.set_cons_zero, List.set_cons_succ]
        refine wpAnyH_take (i := 24) (oi := ?oi20062) (v := ?v20062) ?hi20062 (by kernel_rfl) (by kernel_rfl) (by kernel_rfl) (fun _ _ _ h => h) (Or.inl ⟨?hw20062, ?hy20062⟩) (by assumption) ?rest20062
        case hi20062 => (simp only [List.getElem?_toArray, List.getElem?_cons_zero, List.getElem?_cons_succ]; rfl)
        case hw20062 => rfl
        case hy20062 => first | (intro wx hSw; go_simp; done) | (intro wx hSw; go_simp; with_reducible rfl)
        simp only [Act.put, List.setIfInBounds_toArray, List.set_cons_zero, List.set_cons_succ]
        refine wpAnyH_take (i := 25) (oi := ?oi20063) (v := ?v20063) ?hi20063 (by kernel_rfl) (by kernel_rfl) (by kernel_rfl) (fun _ _ _ h => h) (Or.inl ⟨?hw20063, ?hy20063⟩) (by assumption) ?rest20063
        case hi20063 => (simp only [List.getElem?_toArray, List.getElem?_cons_zero, List.getElem?_cons_succ]; rfl)
        case hw20063 => rfl
        case hy20063 => first | (intro wx hSw; go_simp; done) | (intro wx hSw; go_simp; with_reducible rfl)
        simp only [Act.put, List.setIfInBounds_toArray, List.set_cons_zero, List.set_cons_succ]
        refine wpAnyH_ready (rs := [12, 27]) (by kernel_rfl) (by simp) ?_
        refine AllReadyH.cons rfl (fun K20064 hK20064 => ?_) ?_
        · go_simp
          go_wp2_with (go_at_call 15; refine (unhide C1 _).mono ?_; rintro e X2 ⟨rfl, hX2⟩; replace hX2 := hX2.symm; subst hX2)
          refine hK20064.out _ _ ?hs20064 (fun hHeld20064 => ?_)
          case hs20064 => exact trivial
          clear hHeld
          have hHeld := hHeld20064; clear hHeld20064 hK20064 K20064
          refine wpAnyH_take (i := 13) (oi := ?oi20065) (v := ?v20065) ?hi20065 (by kernel_rfl) (by kernel_rfl) (by kernel_rfl) (fun _ _ _ h => h) (Or.inl ⟨?hw20065, ?hy20065⟩) (by assumption) ?rest20065
          case hi20065 => (simp only [List.getElem?_toArray, List.getElem?_cons_zero, List.getElem?_cons_succ]; rfl)
          case hw20065 => rfl
          case hy20065 => first | (intro wx hSw; go_simp; done) | (intro wx hSw; go_simp; with_reducible rfl)
          simp only [Act.put, List.setIfInBounds_toArray, List.set_cons_zero, List.set_cons_succ]
          refine wpAnyH_take (i := 14) (oi := ?oi20066) (v := ?v20066) ?hi20066 (by kernel_rfl) (by kernel_rfl) (by kernel_rfl) (fun _ _ _ h => h) (Or.inl ⟨?hw20066, ?hy20066⟩) (by assumption) ?rest20066
          case hi20066 => (simp only [List.getElem?_toArray, List.getElem?_cons_zero, List.getElem?_cons_succ]; rfl)
          case hw20066 => rfl
          case hy20066 => first | (intro wx hSw; go_simp; done) | (intro wx hSw; go_simp; with_reducible rfl)
          simp only [Act.put, List.setIfInBounds_toArray, List.set_cons_zero, List.set_cons_succ]
          refine wpAnyH_ready (rs := [21, 27]) (by kernel_rfl) (by simp) ?_
          refine AllReadyH.cons rfl (fun K20067 hK20067 => ?_) ?_
          · go_simp
            go_wp2_with (go_at_call 15; refine (unhide C2 _).mono ?_; rintro e X2 ⟨rfl, hX2⟩; replace hX2 := hX2.symm; subst hX2)
            refine hK20067.out _ _ ?hs20067 (fun hHeld20067 => ?_)
            case hs20067 => exact trivial
            clear hHeld
            have hHeld := hHeld20067; clear hHeld20067 hK20067 K20067
            refine wpAnyH_take (i := 22) (oi := ?oi20068) (v := ?v20068) ?hi20068 (by kernel_rfl) (by kernel_rfl) (by kernel_rfl) (fun _ _ _ h => h) (Or.inl ⟨?hw20068, ?hy20068⟩) (by assumption) ?rest20068
            case hi20068 => (simp only [List.getElem?_toArray, List.getElem?_cons_zero, List.getElem?_cons_succ]; rfl)
            case hw20068 => rfl
            case hy20068 => first | (intro wx hSw; go_simp; done) | (intro wx hSw; go_simp; with_reducible rfl)
            simp only [Act.put, List.setIfInBounds_toArray, List.set_cons_zero, List.set_cons_succ]
            refine wpAnyH_take (i := 26) (oi := ?oi20069) (v := ?v20069) ?hi20069 (by kernel_rfl) (by kernel_rfl) (by kernel_rfl) (fun _ _ _ h => h) (Or.inl ⟨?hw20069, ?hy20069⟩) (by assumption) ?rest20069
            case hi20069 => (simp only [List.getElem?_toArray, List.getElem?_cons_zero, List.getElem?_cons_succ]; rfl)
            case hw20069 => rfl
            case hy20069 => first | (intro wx hSw; go_simp; done) | (intro wx hSw; go_simp; with_reducible rfl)
            simp only [Act.put, List.setIfInBounds_toArray, List.set_cons_zero, List.set_cons_succ]
            refine wpAnyH_ready (rs := [27]) (by kernel_rfl) (by simp) ?_
            refine AllReadyH.cons rfl (fun K20070 hK20070 => ?_) AllReadyH.nil
            go_simp
            refine hK20070.out _ _ ?hs20070 (fun hHeld20070 => ?_)
            case hs20070 => exact trivial
            clear hHeld
            have hHeld := hHeld20070; clear hHeld20070 hK20070 K20070
            have hb := below_new Y (.cells #[.string ⟨#[]⟩, .string ⟨#[]⟩, .bool false] 40)
            have rb := Blk.new Y #[.string ⟨#[]⟩, .string ⟨#[]⟩, .bool false] 40
            obtain ⟨bw, hbq⟩ : ∃ b, b = Y.heap.size := ⟨_, rfl⟩
            rw [← hbq] at rb
            have hbg : X0.heap.size ≤ bw := by omega
            have hnb : (Value.slice q n cap).ownBlock ≠ some bw := fun e => by have h9 := ((unhide hRO).lt _ e).2; omega
            simp only [← hbq]
            replace hRB := hide ((unhide hRB).below hb)
            replace hRW := hide ((unhide hRW).below hb)
            replace hRO := hide (World.ownsRow.kept (unhide hRO) (grownBy_below none hb) (by cases hv : (Value.slice q n cap).ownBlock <;> simp))
            replace hge := Nat.le_trans hge hb.size
            replace hBw := hBw.trans (hb.mono hBw.size)
            generalize Y.alloc (.cells #[.string ⟨#[]⟩, .string ⟨#[]⟩, .bool false] 40) = Y11 at *
            clear hb hbq
            have rlt := rb.lt
            have r0 := rb.cell 0
            have r1 := rb.cell 1
            have r2 := rb.cell 2
            have rf0 := rb.froz 0
            have rf1 := rb.froz 1
            have rf2 := rb.froz 2
            simp at r0 r1 r2
            refine wpAnyH_ready (rs := [28]) (by kernel_rfl) (by simp) ?_
            refine AllReadyH.cons rfl (fun K20071 hK20071 => ?_) AllReadyH.nil
            go_simp
            refine hK20071.out _ _ ?hs20071 (fun hHeld20071 => ?_)
            case hs20071 => exact trivial
            clear hHeld
            have hHeld := hHeld20071; clear hHeld20071 hK20071 K20071
            refine wpAnyH_done (by kernel_rfl) ?_ _
            refine NoPanic.normal ?_
            skip
            exact unhide REST2 _ bw _ (by kernel_rfl) (hide rb.three) (hide (blk_far3 (unhide hRB) (by omega))) (hide (blk_far3 (unhide hRW) (by omega))) (hide (owns_far3 (unhide hRO) hnb)) (Below.three hBw (by omega)) (by simpa [World.setCell] using hge) hbg hnb
          refine AllReadyH.cons rfl (fun K20072 hK20072 => ?_) AllReadyH.nil
          · go_simp
            refine hK20072.out _ _ ?hs20072 (fun hHeld20072 => ?_)
            case hs20072 => exact trivial
            clear hHeld
            have hHeld := hHeld20072; clear hHeld20072 hK20072 K20072
            have hb := below_new Y (.cells #[.string ⟨#[]⟩, .string ⟨#[]⟩, .bool false] 40)
            have rb := Blk.new Y #[.string ⟨#[]⟩, .string ⟨#[]⟩, .bool false] 40
            obtain ⟨bw, hbq⟩ : ∃ b, b = Y.heap.size := ⟨_, rfl⟩
            rw [← hbq] at rb
            have hbg : X0.heap.size ≤ bw := by omega
            have hnb : (Value.slice q n cap).ownBlock ≠ some bw := fun e => by have h9 := ((unhide hRO).lt _ e).2; omega
            simp only [← hbq]
            replace hRB := hide ((unhide hRB).below hb)
            replace hRW := hide ((unhide hRW).below hb)
            replace hRO := hide (World.ownsRow.kept (unhide hRO) (grownBy_below none hb) (by cases hv : (Value.slice q n cap).ownBlock <;> simp))
            replace hge := Nat.le_trans hge hb.size
            replace hBw := hBw.trans (hb.mono hBw.size)
            generalize Y.alloc (.cells #[.string ⟨#[]⟩, .string ⟨#[]⟩, .bool false] 40) = Y12 at *
            clear hb hbq
            refine wpAnyH_ready (rs := [21]) (by kernel_rfl) (by simp) ?_
            refine AllReadyH.cons rfl (fun K20073 hK20073 => ?_) AllReadyH.nil
            go_simp
            go_wp2_with (go_at_call 15; refine (unhide C2 _).mono ?_; rintro e X2 ⟨rfl, hX2⟩; replace hX2 := hX2.symm; subst hX2)
            refine hK20073.out _ _ ?hs20073 (fun hHeld20073 => ?_)
            case hs20073 => exact trivial
            clear hHeld
            have hHeld := hHeld20073; clear hHeld20073 hK20073 K20073
            refine wpAnyH_take (i := 22) (oi := ?oi20074) (v := ?v20074) ?hi20074 (by kernel_rfl) (by kernel_rfl) (by kernel_rfl) (fun _ _ _ h => h) (Or.inl ⟨?hw20074, ?hy20074⟩) (by assumption) ?rest20074
            case hi20074 => (simp only [List.getElem?_toArray, List.getElem?_cons_zero, List.getElem?_cons_succ]; rfl)
            case hw20074 => rfl
            case hy20074 => first | (intro wx hSw; go_simp; done) | (intro wx hSw; go_simp; with_reducible rfl)
            simp only [Act.put, List.setIfInBounds_toArray, List.set_cons_zero, List.set_cons_succ]
            refine wpAnyH_take (i := 26) (oi := ?oi20075) (v := ?v20075) ?hi20075 (by kernel_rfl) (by kernel_rfl) (by kernel_rfl) (fun _ _ _ h => h) (Or.inl ⟨?hw20075, ?hy20075⟩) (by assumption) ?rest20075
            case hi20075 => (simp only [List.getElem?_toArray, List.getElem?_cons_zero, List.getElem?_cons_succ]; rfl)
            case hw20075 => rfl
            case hy20075 => first | (intro wx hSw; go_simp; done) | (intro wx hSw; go_simp; with_reducible rfl)
            simp only [Act.put, List.setIfInBounds_toArray, List.set_cons_zero, List.set_cons_succ]
            have rlt := rb.lt
            have r0 := rb.cell 0
            have r1 := rb.cell 1
            have r2 := rb.cell 2
            have rf0 := rb.froz 0
            have rf1 := rb.froz 1
            have rf2 := rb.froz 2
            simp at r0 r1 r2
            refine wpAnyH_ready (rs := [28]) (by kernel_rfl) (by simp) ?_
            refine AllReadyH.cons rfl (fun K20076 hK20076 => ?_) AllReadyH.nil
            go_simp
            refine hK20076.out _ _ ?hs20076 (fun hHeld20076 => ?_)
            case hs20076 => exact trivial
            clear hHeld
            have hHeld := hHeld20076; clear hHeld20076 hK20076 K20076
            refine wpAnyH_done (by kernel_rfl) ?_ _
            refine NoPanic.normal ?_
            skip
            exact unhide REST2 _ bw _ (by kernel_rfl) (hide rb.three) (hide (blk_far3 (unhide hRB) (by omega))) (hide (blk_far3 (unhide hRW) (by omega))) (hide (owns_far3 (unhide hRO) hnb)) (Below.three hBw (by omega)) (by simpa [World.setCell] using hge) hbg hnb
        refine AllReadyH.cons rfl (fun K20077 hK20077 => ?_) AllReadyH.nil
        · go_simp
          refine hK20077.out _ _ ?hs20077 (fun hHeld20077 => ?_)
          case hs20077 => exact trivial
          clear hHeld
          have hHeld := hHeld20077; clear hHeld20077 hK20077 K20077
          have hb := below_new Y (.cells #[.string ⟨#[]⟩, .string ⟨#[]⟩, .bool false] 40)
          have rb := Blk.new Y #[.string ⟨#[]⟩, .string ⟨#[]⟩, .bool false] 40
          obtain ⟨bw, hbq⟩ : ∃ b, b = Y.heap.size := ⟨_, rfl⟩
          rw [← hbq] at rb
          have hbg : X0.heap.size ≤ bw := by omega
          have hnb : (Value.slice q n cap).ownBlock ≠ some bw := fun e => by have h9 := ((unhide hRO).lt _ e).2; omega
          simp only [← hbq]
          replace hRB := hide ((unhide hRB).below hb)
          replace hRW := hide ((unhide hRW).below hb)
          replace hRO := hide (World.ownsRow.kept (unhide hRO) (grownBy_below none hb) (by cases hv : (Value.slice q n cap).ownBlock <;> simp))
          replace hge := Nat.le_trans hge hb.size
          replace hBw := hBw.trans (hb.mono hBw.size)
          generalize Y.alloc (.cells #[.string ⟨#[]⟩, .string ⟨#[]⟩, .bool false] 40) = Y14 at *
          clear hb hbq
          refine wpAnyH_ready (rs := [12]) (by kernel_rfl) (by simp) ?_
          refine AllReadyH.cons rfl (fun K20078 hK20078 => ?_) AllReadyH.nil
          go_simp
          go_wp2_with (go_at_call 15; refine (unhide C1 _).mono ?_; rintro e X2 ⟨rfl, hX2⟩; replace hX2 := hX2.symm; subst hX2)
          refine hK20078.out _ _ ?hs20078 (fun hHeld20078 => ?_)
          case hs20078 => exact trivial
          clear hHeld
          have hHeld := hHeld20078; clear hHeld20078 hK20078 K20078
          refine wpAnyH_take (i := 13) (oi := ?oi20079) (v := ?v20079) ?hi20079 (by kernel_rfl) (by kernel_rfl) (by kernel_rfl) (fun _ _ _ h => h) (Or.inl ⟨?hw20079, ?hy20079⟩) (by assumption) ?rest20079
          case hi20079 => (simp only [List.getElem?_toArray, List.getElem?_cons_zero, List.getElem?_cons_succ]; rfl)
          case hw20079 => rfl
          case hy20079 => first | (intro wx hSw; go_simp; done) | (intro wx hSw; go_simp; with_reducible rfl)
          simp only [Act.put, List.setIfInBounds_toArray, List.set_cons_zero, List.set_cons_succ]
          refine wpAnyH_take (i := 14) (oi := ?oi20080) (v := ?v20080) ?hi20080 (by kernel_rfl) (by kernel_rfl) (by kernel_rfl) (fun _ _ _ h => h) (Or.inl ⟨?hw20080, ?hy20080⟩) (by assumption) ?rest20080
          case hi20080 => (simp only [List.getElem?_toArray, List.getElem?_cons_zero, List.getElem?_cons_succ]; rfl)
          case hw20080 => rfl
          case hy20080 => first | (intro wx hSw; go_simp; done) | (intro wx hSw; go_simp; with_reducible rfl)
          simp only [Act.put, List.setIfInBounds_toArray, List.set_cons_zero, List.set_cons_succ]
          refine wpAnyH_ready (rs := [21]) (by kernel_rfl) (by simp) ?_
          refine AllReadyH.cons rfl (fun K20081 hK20081 => ?_) AllReadyH.nil
          go_simp
          go_wp2_with (go_at_call 15; refine (unhide C2 _).mono ?_; rintro e X2 ⟨rfl, hX2⟩; replace hX2 := hX2.symm; subst hX2)
          refine hK20081.out _ _ ?hs20081 (fun hHeld20081 => ?_)
          case hs20081 => exact trivial
          clear hHeld
          have hHeld := hHeld20081; clear hHeld20081 hK20081 K20081
          refine wpAnyH_take (i := 22) (oi := ?oi20082) (v := ?v20082) ?hi20082 (by kernel_rfl) (by kernel_rfl) (by kernel_rfl) (fun _ _ _ h => h) (Or.inl ⟨?hw20082, ?hy20082⟩) (by assumption) ?rest20082
          case hi20082 => (simp only [List.getElem?_toArray, List.getElem?_cons_zero, List.getElem?_cons_succ]; rfl)
          case hw20082 => rfl
          case hy20082 => first | (intro wx hSw; go_simp; done) | (intro wx hSw; go_simp; with_reducible rfl)
          simp only [Act.put, List.setIfInBounds_toArray, List.set_cons_zero, List.set_cons_succ]
          refine wpAnyH_take (i := 26) (oi := ?oi20083) (v := ?v20083) ?hi20083 (by kernel_rfl) (by kernel_rfl) (by kernel_rfl) (fun _ _ _ h => h) (Or.inl ⟨?hw20083, ?hy20083⟩) (by assumption) ?rest20083
          case hi20083 => (simp only [List.getElem?_toArray, List.getElem?_cons_zero, List.getElem?_cons_succ]; rfl)
          case hw20083 => rfl
          case hy20083 => first | (intro wx hSw; go_simp; done) | (intro wx hSw; go_simp; with_reducible rfl)
          simp only [Act.put, List.setIfInBounds_toArray, List.set_cons_zero, List.set_cons_succ]
          have rlt := rb.lt
          have r0 := rb.cell 0
          have r1 := rb.cell 1
          have r2 := rb.cell 2
          have rf0 := rb.froz 0
          have rf1 := rb.froz 1
          have rf2 := rb.froz 2
          simp at r0 r1 r2
          refine wpAnyH_ready (rs := [28]) (by kernel_rfl) (by simp) ?_
          refine AllReadyH.cons rfl (fun K20084 hK20084 => ?_) AllReadyH.nil
          go_simp
          refine hK20084.out _ _ ?hs20084 (fun hHeld20084 => ?_)
          case hs20084 => exact trivial
          clear hHeld
          have hHeld := hHeld20084; clear hHeld20084 hK20084 K20084
          refine wpAnyH_done (by kernel_rfl) ?_ _
          refine NoPanic.normal ?_
          skip
          exact unhide REST2 _ bw _ (by kernel_rfl) (hide rb.three) (hide (blk_far3 (unhide hRB) (by omega))) (hide (blk_far3 (unhide hRW) (by omega))) (hide (owns_far3 (unhide hRO) hnb)) (Below.three hBw (by omega)) (by simpa [World.setCell] using hge) hbg hnb
      · have RB := unhide hRB
        have RW := unhide hRW
        have cl_ := RB.lt
        have c0_ := RB.cell 0
        have cf0_ := RB.froz 0
        have c1_ := RB.cell 1
        have cf1_ := RB.froz 1
        have c2_ := RB.cell 2
        have cf2_ := RB.froz 2
        have c3_ := RB.cell 3
        have cf3_ := RB.froz 3
        have c4_ := RB.cell 4
        have cf4_ := RB.froz 4
        have c5_ := RB.cell 5
        have cf5_ := RB.froz 5
        simp at c0_ c1_ c2_ c3_ c4_ c5_
        have zl_ := RW.lt
        have z0_ := RW.cell 0
        have zf0_ := RW.froz 0
        have z1_ := RW.cell 1
        have zf1_ := RW.froz 1
        have z2_ := RW.cell 2
        have zf2_ := RW.froz 2
        have z3_ := RW.cell 3
        have zf3_ := RW.froz 3
        have z4_ := RW.cell 4
        have zf4_ := RW.froz 4
        have z5_ := RW.cell 5
        have zf5_ := RW.froz 5
        simp at z0_ z1_ z2_ z3_ z4_ z5_
        have hE := hide (mkWs_all s zs n (by omega) hnz)
        go_wp2
        unfold MadeP
        rw [show doesB 3 = true from rfl, if_pos rfl, if_neg (show ¬ ((3 : Int) = 5) by decide), ← unhide hE]
        have hln : (mkWs s (zs.take n)).length = n := by unfold mkWs; rw [List.length_map, List.length_take, List.length_take]; omega
        rw [hln, Bool.true_and, unhide HCOM]
        have hfin := ((RW)).six (x0 := .int .i64 3) (x1 := .int .i64 x) (x2 := .int .i64 t) (x3 := .bool com) (x4 := .slice q n cap) (x5 := .string ⟨#[]⟩)
        have m0_ := hfin.cell 0
        have m1_ := hfin.cell 1
        have m2_ := hfin.cell 2
        have m3_ := hfin.cell 3
        have m4_ := hfin.cell 4
        have m5_ := hfin.cell 5
        simp at m0_ m1_ m2_ m3_ m4_ m5_
        refine bodyPost_ret (v := .agg #[.int .i64 3, .int .i64 x, .int .i64 t, .bool com, .slice q n cap, .string ⟨#[]⟩]) (by simp [results, Try.results14, go_sem, m0_, m1_, m2_, m3_, m4_, m5_]) rfl ?_
        exact ⟨q, cap, rfl, (ownsRow_setCell_below (ownsRow_setCell_below (ownsRow_setCell_below (ownsRow_setCell_below (ownsRow_setCell_below (ownsRow_setCell_below (ownsRow_lower (unhide hRO) (by omega)) (a := ⟨w.heap.size, 0, none⟩) (by show w.heap.size < _; omega) _) (a := ⟨w.heap.size, 1, none⟩) (by show w.heap.size < _; omega) _) (a := ⟨w.heap.size, 2, none⟩) (by show w.heap.size < _; omega) _) (a := ⟨w.heap.size, 3, none⟩) (by show w.heap.size < _; omega) _) (a := ⟨w.heap.size, 4, none⟩) (by show w.heap.size < _; omega) _) (a := ⟨w.heap.size, 5, none⟩) (by show w.heap.size < _; omega) _), Below.six hBw (Nat.le_refl _)⟩
    · have RB := unhide hRB
      have RW := unhide hRW
      have cl_ := RB.lt
      have c0_ := RB.cell 0
      have cf0_ := RB.froz 0
      have c1_ := RB.cell 1
      have cf1_ := RB.froz 1
      have c2_ := RB.cell 2
      have cf2_ := RB.froz 2
      have c3_ := RB.cell 3
      have cf3_ := RB.froz 3
      have c4_ := RB.cell 4
      have cf4_ := RB.froz 4
      have c5_ := RB.cell 5
      have cf5_ := RB.froz 5
      simp at c0_ c1_ c2_ c3_ c4_ c5_
      have zl_ := RW.lt
      have z0_ := RW.cell 0
      have zf0_ := RW.froz 0
      have z1_ := RW.cell 1
      have zf1_ := RW.froz 1
      have z2_ := RW.cell 2
      have zf2_ := RW.froz 2
      have z3_ := RW.cell 3
      have zf3_ := RW.froz 3
      have z4_ := RW.cell 4
      have zf4_ := RW.froz 4
      have z5_ := RW.cell 5
      have zf5_ := RW.froz 5
      simp at z0_ z1_ z2_ z3_ z4_ z5_
      have hE := hide (mkWs_all s zs n (by omega) hnz)
      go_wp2
      unfold MadeP
      rw [show doesB 3 = true from rfl, if_pos rfl, if_neg (show ¬ ((3 : Int) = 5) by decide), ← unhide hE]
      have hln : (mkWs s (zs.take n)).length = n := by unfold mkWs; rw [List.length_map, List.length_take, List.length_take]; omega
      rw [hln, Bool.true_and, unhide HCOM]
      have hfin := ((RW)).six (x0 := .int .i64 3) (x1 := .int .i64 x) (x2 := .int .i64 t) (x3 := .bool com) (x4 := .slice q n cap) (x5 := .string ⟨#[]⟩)
      have m0_ := hfin.cell 0
      have m1_ := hfin.cell 1
      have m2_ := hfin.cell 2
      have m3_ := hfin.cell 3
      have m4_ := hfin.cell 4
      have m5_ := hfin.cell 5
      simp at m0_ m1_ m2_ m3_ m4_ m5_
      refine bodyPost_ret (v := .agg #[.int .i64 3, .int .i64 x, .int .i64 t, .bool com, .slice q n cap, .string ⟨#[]⟩]) (by simp [results, Try.results14, go_sem, m0_, m1_, m2_, m3_, m4_, m5_]) rfl ?_
      exact ⟨q, cap, rfl, (ownsRow_setCell_below (ownsRow_setCell_below (ownsRow_setCell_below (ownsRow_setCell_below (ownsRow_setCell_below (ownsRow_setCell_below (ownsRow_lower (unhide hRO) (by omega)) (a := ⟨w.heap.size, 0, none⟩) (by show w.heap.size < _; omega) _) (a := ⟨w.heap.size, 1, none⟩) (by show w.heap.size < _; omega) _) (a := ⟨w.heap.size, 2, none⟩) (by show w.heap.size < _; omega) _) (a := ⟨w.heap.size, 3, none⟩) (by show w.heap.size < _; omega) _) (a := ⟨w.heap.size, 4, none⟩) (by show w.heap.size < _; omega) _) (a := ⟨w.heap.size, 5, none⟩) (by show w.heap.size < _; omega) _), Below.six hBw (Nat.le_refl _)⟩
end Go.Proofs.Ytjmmfgmmmdbenaa
