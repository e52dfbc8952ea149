/-
  The statements' Make: behind its first statement.
-/
import Derived.Test.YtjmmfgmmmdbenaaCM0
namespace Go.Proofs.Ytjmmfgmmmdbenaa
open Go.RowKit
set_option linter.unusedSimpArgs false
set_option linter.unusedVariables false

set_option maxRecDepth 100000 in
set_option maxHeartbeats 8000000 in
theorem make7_t0 {r0 r1 rest : Code} (hc : Try.f14.body = some (.seq r0 (.seq r1 rest))) (kind id txn k x t d2 : Int) (p : Option Addr) (ncap : Nat) (zs : List Int) (s : ByteArray) (w : World) (CD : Hid (W7 txn 2 d2)) (hz : Hid (IntsP p zs w)) (hs : s.size ≤ 200) (ac : Act) (b : Nat) (X : World) (ha : ac = ⟨#[.int .i64 kind, .int .i64 id, .int .i64 txn, .slice p zs.length ncap, .string s, ac.tmps.getD 5 undef, ac.tmps.getD 6 undef, ac.tmps.getD 7 undef, ac.tmps.getD 8 undef, ac.tmps.getD 9 undef, .pointer (some ⟨w.heap.size, 0, none⟩), .pointer (some ⟨b, 0, none⟩), ac.tmps.getD 12 undef, ac.tmps.getD 13 undef, ac.tmps.getD 14 undef, ac.tmps.getD 15 undef, ac.tmps.getD 16 undef, ac.tmps.getD 17 undef, ac.tmps.getD 18 undef, ac.tmps.getD 19 undef, ac.tmps.getD 20 undef, ac.tmps.getD 21 undef, ac.tmps.getD 22 undef, ac.tmps.getD 23 undef, ac.tmps.getD 24 undef, ac.tmps.getD 25 undef, ac.tmps.getD 26 undef, ac.tmps.getD 27 undef, ac.tmps.getD 28 undef, ac.tmps.getD 29 undef, ac.tmps.getD 30 undef, ac.tmps.getD 31 undef, ac.tmps.getD 32 undef, ac.tmps.getD 33 undef, ac.tmps.getD 34 undef, ac.tmps.getD 35 undef, ac.tmps.getD 36 undef, ac.tmps.getD 37 undef, ac.tmps.getD 38 undef, ac.tmps.getD 39 undef, ac.tmps.getD 40 undef, ac.tmps.getD 41 undef, ac.tmps.getD 42 undef, ac.tmps.getD 43 undef, ac.tmps.getD 44 undef, ac.tmps.getD 45 undef, ac.tmps.getD 46 undef, ac.tmps.getD 47 undef, ac.tmps.getD 48 undef, ac.tmps.getD 49 undef, ac.tmps.getD 50 undef, ac.tmps.getD 51 undef, ac.tmps.getD 52 undef, ac.tmps.getD 53 undef, ac.tmps.getD 54 undef, ac.tmps.getD 55 undef, ac.tmps.getD 56 undef, ac.tmps.getD 57 undef, ac.tmps.getD 58 undef, ac.tmps.getD 59 undef, ac.tmps.getD 60 undef, ac.tmps.getD 61 undef, ac.tmps.getD 62 undef, ac.tmps.getD 63 undef, ac.tmps.getD 64 undef, ac.tmps.getD 65 undef, ac.tmps.getD 66 undef, ac.tmps.getD 67 undef, ac.tmps.getD 68 undef, ac.tmps.getD 69 undef, ac.tmps.getD 70 undef, ac.tmps.getD 71 undef, ac.tmps.getD 72 undef, ac.tmps.getD 73 undef, ac.tmps.getD 74 undef, ac.tmps.getD 75 undef, ac.tmps.getD 76 undef, ac.tmps.getD 77 undef, ac.tmps.getD 78 undef, ac.tmps.getD 79 undef, ac.tmps.getD 80 undef, ac.tmps.getD 81 undef, ac.tmps.getD 82 undef, ac.tmps.getD 83 undef, ac.tmps.getD 84 undef, ac.tmps.getD 85 undef, ac.tmps.getD 86 undef, ac.tmps.getD 87 undef, ac.tmps.getD 88 undef, ac.tmps.getD 89 undef, ac.tmps.getD 90 undef, ac.tmps.getD 91 undef, ac.tmps.getD 92 undef, ac.tmps.getD 93 undef, ac.tmps.getD 94 undef, ac.tmps.getD 95 undef, ac.tmps.getD 96 undef, ac.tmps.getD 97 undef, ac.tmps.getD 98 undef, ac.tmps.getD 99 undef, ac.tmps.getD 100 undef, ac.tmps.getD 101 undef, ac.tmps.getD 102 undef, ac.tmps.getD 103 undef], []⟩) (GE : Hid (Below w.heap.size w X)) (RE : Hid (Blk b #[.int .i64 k, .int .i64 x, .int .i64 t, .bool false, .slice none 0 0, .string ⟨#[]⟩] 26 X)) (RZ : Hid (Blk w.heap.size #[.int .i64 0, .int .i64 0, .int .i64 0, .bool false, .slice none 0 0, .string ⟨#[]⟩] 26 X)) (hlt : w.heap.size < b) (h5 : k ≠ 5) (h2 : k ≠ 2) (h3 : k ≠ 3) : rest.wp Try.prog (bodyPost Try.prog Try.f14 (MadeP k x t d2 s zs w)) ac X := by
  obtain ⟨u, rfl⟩ : ∃ u : Nat → Value, ac = ⟨#[.int .i64 kind, .int .i64 id, .int .i64 txn, .slice p zs.length ncap, .string s, u 5, u 6, u 7, u 8, u 9, .pointer (some ⟨w.heap.size, 0, none⟩), .pointer (some ⟨b, 0, none⟩), u 12, u 13, u 14, u 15, u 16, u 17, u 18, u 19, u 20, u 21, u 22, u 23, u 24, u 25, u 26, u 27, u 28, u 29, u 30, u 31, u 32, u 33, u 34, u 35, u 36, u 37, u 38, u 39, u 40, u 41, u 42, u 43, u 44, u 45, u 46, u 47, u 48, u 49, u 50, u 51, u 52, u 53, u 54, u 55, u 56, u 57, u 58, u 59, u 60, u 61, u 62, u 63, u 64, u 65, u 66, u 67, u 68, u 69, u 70, u 71, u 72, u 73, u 74, u 75, u 76, u 77, u 78, u 79, u 80, u 81, u 82, u 83, u 84, u 85, u 86, u 87, u 88, u 89, u 90, u 91, u 92, u 93, u 94, u 95, u 96, u 97, u 98, u 99, u 100, u 101, u 102, u 103], []⟩ := ⟨fun i => ac.tmps.getD i undef, ha⟩
  clear ha
  unfold Try.f14 at hc
  cases hc
  have hd : doesB k = false := by unfold doesB; exact decide_eq_false (by omega)
  have hn2 : (k != 2) = true := by simpa using h2
  have hn3 : (k != 3) = true := by simpa using h3
  have RB := unhide RE
  have RW := unhide RZ
  have cl_ := RB.lt
  have c0_ := RB.cell 0
  have cf0_ := RB.froz 0
  have c1_ := RB.cell 1
  have cf1_ := RB.froz 1
  have c2_ := RB.cell 2
  have cf2_ := RB.froz 2
  have c3_ := RB.cell 3
  have cf3_ := RB.froz 3
  have c4_ := RB.cell 4
  have cf4_ := RB.froz 4
  have c5_ := RB.cell 5
  have cf5_ := RB.froz 5
  simp at c0_ c1_ c2_ c3_ c4_ c5_
  have zl_ := RW.lt
  have z0_ := RW.cell 0
  have zf0_ := RW.froz 0
  have z1_ := RW.cell 1
  have zf1_ := RW.froz 1
  have z2_ := RW.cell 2
  have zf2_ := RW.froz 2
  have z3_ := RW.cell 3
  have zf3_ := RW.froz 3
  have z4_ := RW.cell 4
  have zf4_ := RW.froz 4
  have z5_ := RW.cell 5
  have zf5_ := RW.froz 5
  simp at z0_ z1_ z2_ z3_ z4_ z5_
  go_wp2
  unfold MadeP
  rw [hd, if_neg h5]
  have hfin := ((RW)).six (x0 := .int .i64 k) (x1 := .int .i64 x) (x2 := .int .i64 t) (x3 := .bool false) (x4 := .slice none 0 0) (x5 := .string ⟨#[]⟩)
  have m0_ := hfin.cell 0
  have m1_ := hfin.cell 1
  have m2_ := hfin.cell 2
  have m3_ := hfin.cell 3
  have m4_ := hfin.cell 4
  have m5_ := hfin.cell 5
  simp at m0_ m1_ m2_ m3_ m4_ m5_
  refine bodyPost_ret (v := .agg #[.int .i64 k, .int .i64 x, .int .i64 t, .bool false, .slice none 0 0, .string ⟨#[]⟩]) (by simp [results, Try.results14, go_sem, m0_, m1_, m2_, m3_, m4_, m5_]) rfl ?_
  exact ⟨none, 0, rfl, World.ownsRow_nil _ _ _ _, Below.six (unhide GE) (Nat.le_refl _)⟩
set_option maxRecDepth 100000 in
set_option maxHeartbeats 8000000 in
theorem make7_t5 {r0 r1 rest : Code} (hc : Try.f14.body = some (.seq r0 (.seq r1 rest))) (kind id txn k x t d2 : Int) (p : Option Addr) (ncap : Nat) (zs : List Int) (s : ByteArray) (w : World) (CD : Hid (W7 txn 2 d2)) (hz : Hid (IntsP p zs w)) (hs : s.size ≤ 200) (ac : Act) (b : Nat) (X : World) (ha : ac = ⟨#[.int .i64 kind, .int .i64 id, .int .i64 txn, .slice p zs.length ncap, .string s, ac.tmps.getD 5 undef, ac.tmps.getD 6 undef, ac.tmps.getD 7 undef, ac.tmps.getD 8 undef, ac.tmps.getD 9 undef, .pointer (some ⟨w.heap.size, 0, none⟩), .pointer (some ⟨b, 0, none⟩), ac.tmps.getD 12 undef, ac.tmps.getD 13 undef, ac.tmps.getD 14 undef, ac.tmps.getD 15 undef, ac.tmps.getD 16 undef, ac.tmps.getD 17 undef, ac.tmps.getD 18 undef, ac.tmps.getD 19 undef, ac.tmps.getD 20 undef, ac.tmps.getD 21 undef, ac.tmps.getD 22 undef, ac.tmps.getD 23 undef, ac.tmps.getD 24 undef, ac.tmps.getD 25 undef, ac.tmps.getD 26 undef, ac.tmps.getD 27 undef, ac.tmps.getD 28 undef, ac.tmps.getD 29 undef, ac.tmps.getD 30 undef, ac.tmps.getD 31 undef, ac.tmps.getD 32 undef, ac.tmps.getD 33 undef, ac.tmps.getD 34 undef, ac.tmps.getD 35 undef, ac.tmps.getD 36 undef, ac.tmps.getD 37 undef, ac.tmps.getD 38 undef, ac.tmps.getD 39 undef, ac.tmps.getD 40 undef, ac.tmps.getD 41 undef, ac.tmps.getD 42 undef, ac.tmps.getD 43 undef, ac.tmps.getD 44 undef, ac.tmps.getD 45 undef, ac.tmps.getD 46 undef, ac.tmps.getD 47 undef, ac.tmps.getD 48 undef, ac.tmps.getD 49 undef, ac.tmps.getD 50 undef, ac.tmps.getD 51 undef, ac.tmps.getD 52 undef, ac.tmps.getD 53 undef, ac.tmps.getD 54 undef, ac.tmps.getD 55 undef, ac.tmps.getD 56 undef, ac.tmps.getD 57 undef, ac.tmps.getD 58 undef, ac.tmps.getD 59 undef, ac.tmps.getD 60 undef, ac.tmps.getD 61 undef, ac.tmps.getD 62 undef, ac.tmps.getD 63 undef, ac.tmps.getD 64 undef, ac.tmps.getD 65 undef, ac.tmps.getD 66 undef, ac.tmps.getD 67 undef, ac.tmps.getD 68 undef, ac.tmps.getD 69 undef, ac.tmps.getD 70 undef, ac.tmps.getD 71 undef, ac.tmps.getD 72 undef, ac.tmps.getD 73 undef, ac.tmps.getD 74 undef, ac.tmps.getD 75 undef, ac.tmps.getD 76 undef, ac.tmps.getD 77 undef, ac.tmps.getD 78 undef, ac.tmps.getD 79 undef, ac.tmps.getD 80 undef, ac.tmps.getD 81 undef, ac.tmps.getD 82 undef, ac.tmps.getD 83 undef, ac.tmps.getD 84 undef, ac.tmps.getD 85 undef, ac.tmps.getD 86 undef, ac.tmps.getD 87 undef, ac.tmps.getD 88 undef, ac.tmps.getD 89 undef, ac.tmps.getD 90 undef, ac.tmps.getD 91 undef, ac.tmps.getD 92 undef, ac.tmps.getD 93 undef, ac.tmps.getD 94 undef, ac.tmps.getD 95 undef, ac.tmps.getD 96 undef, ac.tmps.getD 97 undef, ac.tmps.getD 98 undef, ac.tmps.getD 99 undef, ac.tmps.getD 100 undef, ac.tmps.getD 101 undef, ac.tmps.getD 102 undef, ac.tmps.getD 103 undef], []⟩) (GE : Hid (Below w.heap.size w X)) (RE : Hid (Blk b #[.int .i64 k, .int .i64 x, .int .i64 t, .bool false, .slice none 0 0, .string ⟨#[]⟩] 26 X)) (RZ : Hid (Blk w.heap.size #[.int .i64 0, .int .i64 0, .int .i64 0, .bool false, .slice none 0 0, .string ⟨#[]⟩] 26 X)) (hlt : w.heap.size < b) (h5 : k = 5) : rest.wp Try.prog (bodyPost Try.prog Try.f14 (MadeP k x t d2 s zs w)) ac X := by
  subst h5
  obtain ⟨u, rfl⟩ : ∃ u : Nat → Value, ac = ⟨#[.int .i64 kind, .int .i64 id, .int .i64 txn, .slice p zs.length ncap, .string s, u 5, u 6, u 7, u 8, u 9, .pointer (some ⟨w.heap.size, 0, none⟩), .pointer (some ⟨b, 0, none⟩), u 12, u 13, u 14, u 15, u 16, u 17, u 18, u 19, u 20, u 21, u 22, u 23, u 24, u 25, u 26, u 27, u 28, u 29, u 30, u 31, u 32, u 33, u 34, u 35, u 36, u 37, u 38, u 39, u 40, u 41, u 42, u 43, u 44, u 45, u 46, u 47, u 48, u 49, u 50, u 51, u 52, u 53, u 54, u 55, u 56, u 57, u 58, u 59, u 60, u 61, u 62, u 63, u 64, u 65, u 66, u 67, u 68, u 69, u 70, u 71, u 72, u 73, u 74, u 75, u 76, u 77, u 78, u 79, u 80, u 81, u 82, u 83, u 84, u 85, u 86, u 87, u 88, u 89, u 90, u 91, u 92, u 93, u 94, u 95, u 96, u 97, u 98, u 99, u 100, u 101, u 102, u 103], []⟩ := ⟨fun i => ac.tmps.getD i undef, ha⟩
  clear ha
  unfold Try.f14 at hc
  cases hc
  have RB := unhide RE
  have RW := unhide RZ
  have cl_ := RB.lt
  have c0_ := RB.cell 0
  have cf0_ := RB.froz 0
  have c1_ := RB.cell 1
  have cf1_ := RB.froz 1
  have c2_ := RB.cell 2
  have cf2_ := RB.froz 2
  have c3_ := RB.cell 3
  have cf3_ := RB.froz 3
  have c4_ := RB.cell 4
  have cf4_ := RB.froz 4
  have c5_ := RB.cell 5
  have cf5_ := RB.froz 5
  simp at c0_ c1_ c2_ c3_ c4_ c5_
  have zl_ := RW.lt
  have z0_ := RW.cell 0
  have zf0_ := RW.froz 0
  have z1_ := RW.cell 1
  have zf1_ := RW.froz 1
  have z2_ := RW.cell 2
  have zf2_ := RW.froz 2
  have z3_ := RW.cell 3
  have zf3_ := RW.froz 3
  have z4_ := RW.cell 4
  have zf4_ := RW.froz 4
  have z5_ := RW.cell 5
  have zf5_ := RW.froz 5
  simp at z0_ z1_ z2_ z3_ z4_ z5_
  by_cases h40 : s.size ≤ 40
  · have hmi : min (s.size : Int) 40 = s.size := by omega
    have hmn : s.extract 0 (min s.size 40) = s := by rw [show min s.size 40 = s.size by omega]; apply by8_inj; simp [by8]
    have HMN := hide hmn
    clear hmn
    have R5 := RB.set 5 (.string s)
    have RW5 : Blk w.heap.size #[.int .i64 0, .int .i64 0, .int .i64 0, .bool false, .slice none 0 0, .string ⟨#[]⟩] 26 (X.setCell ⟨b, 5, none⟩ (.string s)) := (Below.heap_setCell _ _ _ _ (by show w.heap.size ≠ b; omega)).trans RW
    have hB5 : Below w.heap.size w (X.setCell ⟨b, 5, none⟩ (.string s)) := (unhide GE).setCell (p := ⟨b, 5, none⟩) (by show w.heap.size ≤ b; omega) _
    go_wp2
    unfold MadeP
    rw [show doesB 5 = false from rfl, if_pos rfl, unhide HMN]
    have hfin := ((RW5)).six (x0 := .int .i64 5) (x1 := .int .i64 x) (x2 := .int .i64 t) (x3 := .bool false) (x4 := .slice none 0 0) (x5 := .string s)
    have m0_ := hfin.cell 0
    have m1_ := hfin.cell 1
    have m2_ := hfin.cell 2
    have m3_ := hfin.cell 3
    have m4_ := hfin.cell 4
    have m5_ := hfin.cell 5
    simp at m0_ m1_ m2_ m3_ m4_ m5_
    refine bodyPost_ret (v := .agg #[.int .i64 5, .int .i64 x, .int .i64 t, .bool false, .slice none 0 0, .string s]) (by simp [results, Try.results14, go_sem, m0_, m1_, m2_, m3_, m4_, m5_]) rfl ?_
    exact ⟨none, 0, rfl, World.ownsRow_nil _ _ _ _, Below.six hB5 (Nat.le_refl _)⟩
  · have hmi : min (s.size : Int) 40 = 40 := by omega
    have hmn : s.extract 0 (min s.size 40) = s.extract 0 40 := by rw [show min s.size 40 = 40 by omega]
    have HMN := hide hmn
    clear hmn
    have R5 := RB.set 5 (.string (s.extract 0 40))
    have RW5 : Blk w.heap.size #[.int .i64 0, .int .i64 0, .int .i64 0, .bool false, .slice none 0 0, .string ⟨#[]⟩] 26 (X.setCell ⟨b, 5, none⟩ (.string (s.extract 0 40))) := (Below.heap_setCell _ _ _ _ (by show w.heap.size ≠ b; omega)).trans RW
    have hB5 : Below w.heap.size w (X.setCell ⟨b, 5, none⟩ (.string (s.extract 0 40))) := (unhide GE).setCell (p := ⟨b, 5, none⟩) (by show w.heap.size ≤ b; omega) _
    go_wp2
    unfold MadeP
    rw [show doesB 5 = false from rfl, if_pos rfl, unhide HMN]
    have hfin := ((RW5)).six (x0 := .int .i64 5) (x1 := .int .i64 x) (x2 := .int .i64 t) (x3 := .bool false) (x4 := .slice none 0 0) (x5 := .string (s.extract 0 40))
    have m0_ := hfin.cell 0
    have m1_ := hfin.cell 1
    have m2_ := hfin.cell 2
    have m3_ := hfin.cell 3
    have m4_ := hfin.cell 4
    have m5_ := hfin.cell 5
    simp at m0_ m1_ m2_ m3_ m4_ m5_
    refine bodyPost_ret (v := .agg #[.int .i64 5, .int .i64 x, .int .i64 t, .bool false, .slice none 0 0, .string (s.extract 0 40)]) (by simp [results, Try.results14, go_sem, m0_, m1_, m2_, m3_, m4_, m5_]) rfl ?_
    exact ⟨none, 0, rfl, World.ownsRow_nil _ _ _ _, Below.six hB5 (Nat.le_refl _)⟩
end Go.Proofs.Ytjmmfgmmmdbenaa
