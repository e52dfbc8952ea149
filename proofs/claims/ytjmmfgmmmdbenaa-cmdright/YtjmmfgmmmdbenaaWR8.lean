/-
  CmdRight's switch: a row of many writes.
-/
import Derived.Test.YtjmmfgmmmdbenaaWRa
namespace Go.Proofs.Ytjmmfgmmmdbenaa
open Go.RowKit
set_option linter.unusedSimpArgs false
set_option linter.unusedVariables false

/-- a row of N writes, of which the first i have the key "k" -/
def kW (N i : Nat) : List Wt := List.replicate i ⟨⟨#[107]⟩, ⟨#[]⟩, false⟩ ++ List.replicate (N - i) ⟨⟨#[]⟩, ⟨#[]⟩, false⟩
theorem kW_len {N i : Nat} (h : i ≤ N) : (kW N i).length = N := by simp [kW]; omega
theorem kW_set {N i : Nat} (h : i < N) : (wcells (kW N i)).toArray.setIfInBounds (i * 3) (.string ⟨#[107]⟩) = (wcells (kW N (i + 1))).toArray := by
  obtain ⟨m, hm⟩ : ∃ m, N - i = m + 1 := ⟨N - i - 1, by omega⟩
  have hm2 : N - (i + 1) = m := by omega
  have hw : ∀ a b : List Wt, wcells (a ++ b) = wcells a ++ wcells b := fun a b => by simp [wcells]
  have hl : (wcells (List.replicate i (⟨⟨#[107]⟩, ⟨#[]⟩, false⟩ : Wt))).length = i * 3 := by rw [wcells_len, List.length_replicate]
  unfold kW
  rw [hm, hm2, List.replicate_succ, List.replicate_succ', List.append_assoc, hw, hw, List.setIfInBounds_toArray, List.set_append_right _ _ (by omega), hl]
  simp [wcells]
theorem made_at (z : Array Value) (n j : Nat) (hj : j < n) : (madeCells z n).toList[j]? = some (z[j % z.size]!) := by simp [madeCells, hj]
theorem made_kW (N : Nat) : madeCells #[.string ⟨#[]⟩, .string ⟨#[]⟩, .bool false] (N * 3) = (wcells (kW N 0)).toArray := by
  have hk : kW N 0 = List.replicate N ⟨⟨#[]⟩, ⟨#[]⟩, false⟩ := by simp [kW]
  apply Array.ext'
  apply List.ext_getElem?
  intro j
  by_cases hj : j < N * 3
  · obtain ⟨i, r, rfl, hr⟩ : ∃ i r, j = i * 3 + r ∧ r < 3 := ⟨j / 3, j % 3, by omega, Nat.mod_lt _ (by decide)⟩
    obtain ⟨a0, a1, a2⟩ := wcells_at (kW N 0) i (by rw [kW_len (Nat.zero_le _)]; omega)
    have hg : (kW N 0)[i]'(by rw [kW_len (Nat.zero_le _)]; omega) = ⟨⟨#[]⟩, ⟨#[]⟩, false⟩ := by simp [hk]
    rw [hg] at a0 a1 a2
    have hmod : (i * 3 + r) % 3 = r := by omega
    rw [made_at _ _ _ hj]
    obtain rfl | rfl | rfl : r = 0 ∨ r = 1 ∨ r = 2 := by omega
    · exact (show _ = some (Value.string ⟨#[]⟩) by rw [show (i * 3 + 0) % (#[.string ⟨#[]⟩, .string ⟨#[]⟩, .bool false] : Array Value).size = 0 from hmod]; rfl).trans a0.symm
    · exact (show _ = some (Value.string ⟨#[]⟩) by rw [show (i * 3 + 1) % (#[.string ⟨#[]⟩, .string ⟨#[]⟩, .bool false] : Array Value).size = 1 from hmod]; rfl).trans a1.symm
    · exact (show _ = some (Value.bool false) by rw [show (i * 3 + 2) % (#[.string ⟨#[]⟩, .string ⟨#[]⟩, .bool false] : Array Value).size = 2 from hmod]; rfl).trans a2.symm
  · rw [List.getElem?_eq_none (by simp [madeCells]; omega), List.getElem?_eq_none (by simp [wcells_len, kW_len]; omega)]
theorem kW_row {W : World} {g N : Nat} (h : Blk g (wcells (kW N N)).toArray 40 W) (hN : N ≤ 100000) : WsV (some ⟨g, 0, none⟩) (kW N N) W := by
  have hl := kW_len (Nat.le_refl N)
  have : W.ownsRow 0 40 3 (.slice (some ⟨g, 0, none⟩) (kW N N).length N) (kW N N).length (wcells (kW N N)) :=
    ⟨wcells_len _, .inr ⟨g, N, _, rfl, Nat.zero_le _, h, by omega, by unfold maxLen; omega, by simp [wcells_len, hl], by rw [List.take_of_length_le (by simp [wcells_len])]⟩⟩
  exact row_wsv this
theorem run_make8 (N : Nat) (hN : N ≤ 100000) (W : World) : (Instr.makeSlice 24 (.int .i64 (N : Int)) (.int .i64 (N : Int))).run Try.prog W = .ok (.slice (some ⟨W.heap.size, 0, none⟩) N N) (W.alloc (.cells (wcells (kW N 0)).toArray 40)) := by
  obtain ⟨i0, hi, hz0, hz1, hz2⟩ := info_parts info_wt
  have h := run_makeSlice (P := Try.prog) W 24 40 i0 _ Try.underlying24 hi hz0 .i64 .i64 (N : Int) (N : Int) (by omega) (Int.le_refl _) (by rw [hz1]; omega) (by rw [hz2]; omega) (by omega)
  rw [hz1] at h
  simp only [Int.toNat_natCast, Value.cells] at h
  rw [made_kW] at h
  exact h
theorem ne8 {N : Nat} {c : Cm} {v : Value} (h : 100 ≤ N) (i : Nat) (hi : i ≤ N) : (wcells (kW N i)).toArray ≠ #[.int .i64 c.kind, .int .i64 c.id, .int .i64 c.txn, .bool c.com, v, .string c.text] := fun e => by
  have := congrArg Array.size e
  simp [wcells_len, kW_len hi] at this
  omega
set_option maxRecDepth 100000 in
set_option maxHeartbeats 8000000 in
theorem right_sw8 {r0 r1 r2 r3 r4 rest : Code} (hc : Try.f5.body = some (.seq r0 (.seq r1 (.seq r2 (.seq r3 (.seq r4 rest)))))) (w : World) (s : ByteArray) (which vv form : Int) (ac : Act) (b9 : Nat) (V X : World) (ha : ac = ⟨#[ac.tmps.getD 0 undef, ac.tmps.getD 1 undef, ac.tmps.getD 2 undef, ac.tmps.getD 3 undef, ac.tmps.getD 4 undef, .string s, .int .i64 which, .int .i64 vv, .int .i64 form, .pointer (some ⟨b9, 0, none⟩), ac.tmps.getD 10 undef, ac.tmps.getD 11 undef, ac.tmps.getD 12 undef, ac.tmps.getD 13 undef, ac.tmps.getD 14 undef, ac.tmps.getD 15 undef, ac.tmps.getD 16 undef, ac.tmps.getD 17 undef, .bool false, .pointer (some ⟨V.heap.size, 0, none⟩), ac.tmps.getD 20 undef, ac.tmps.getD 21 undef, ac.tmps.getD 22 undef, ac.tmps.getD 23 undef, ac.tmps.getD 24 undef, ac.tmps.getD 25 undef, ac.tmps.getD 26 undef, ac.tmps.getD 27 undef, ac.tmps.getD 28 undef, ac.tmps.getD 29 undef, ac.tmps.getD 30 undef, ac.tmps.getD 31 undef, ac.tmps.getD 32 undef, ac.tmps.getD 33 undef, ac.tmps.getD 34 undef, ac.tmps.getD 35 undef, ac.tmps.getD 36 undef, ac.tmps.getD 37 undef, ac.tmps.getD 38 undef, ac.tmps.getD 39 undef, ac.tmps.getD 40 undef, ac.tmps.getD 41 undef, ac.tmps.getD 42 undef, ac.tmps.getD 43 undef, ac.tmps.getD 44 undef, ac.tmps.getD 45 undef, ac.tmps.getD 46 undef, ac.tmps.getD 47 undef, ac.tmps.getD 48 undef, ac.tmps.getD 49 undef, ac.tmps.getD 50 undef, ac.tmps.getD 51 undef, ac.tmps.getD 52 undef, ac.tmps.getD 53 undef, ac.tmps.getD 54 undef, ac.tmps.getD 55 undef, ac.tmps.getD 56 undef, ac.tmps.getD 57 undef, ac.tmps.getD 58 undef, ac.tmps.getD 59 undef, ac.tmps.getD 60 undef, ac.tmps.getD 61 undef, ac.tmps.getD 62 undef, ac.tmps.getD 63 undef, ac.tmps.getD 64 undef, ac.tmps.getD 65 undef, ac.tmps.getD 66 undef, ac.tmps.getD 67 undef, ac.tmps.getD 68 undef, ac.tmps.getD 69 undef, ac.tmps.getD 70 undef, ac.tmps.getD 71 undef, ac.tmps.getD 72 undef, ac.tmps.getD 73 undef, ac.tmps.getD 74 undef, ac.tmps.getD 75 undef, ac.tmps.getD 76 undef, ac.tmps.getD 77 undef, ac.tmps.getD 78 undef, ac.tmps.getD 79 undef, ac.tmps.getD 80 undef, ac.tmps.getD 81 undef, ac.tmps.getD 82 undef, ac.tmps.getD 83 undef, ac.tmps.getD 84 undef, ac.tmps.getD 85 undef, ac.tmps.getD 86 undef, ac.tmps.getD 87 undef, ac.tmps.getD 88 undef, ac.tmps.getD 89 undef, ac.tmps.getD 90 undef, ac.tmps.getD 91 undef, ac.tmps.getD 92 undef, ac.tmps.getD 93 undef, ac.tmps.getD 94 undef, ac.tmps.getD 95 undef, ac.tmps.getD 96 undef, ac.tmps.getD 97 undef, ac.tmps.getD 98 undef, ac.tmps.getD 99 undef, ac.tmps.getD 100 undef, ac.tmps.getD 101 undef, ac.tmps.getD 102 undef, ac.tmps.getD 103 undef, ac.tmps.getD 104 undef, ac.tmps.getD 105 undef, ac.tmps.getD 106 undef, ac.tmps.getD 107 undef, ac.tmps.getD 108 undef, ac.tmps.getD 109 undef, ac.tmps.getD 110 undef, ac.tmps.getD 111 undef, ac.tmps.getD 112 undef, ac.tmps.getD 113 undef, ac.tmps.getD 114 undef, ac.tmps.getD 115 undef, ac.tmps.getD 116 undef, ac.tmps.getD 117 undef, ac.tmps.getD 118 undef, ac.tmps.getD 119 undef, ac.tmps.getD 120 undef, ac.tmps.getD 121 undef, ac.tmps.getD 122 undef, ac.tmps.getD 123 undef, ac.tmps.getD 124 undef, ac.tmps.getD 125 undef, ac.tmps.getD 126 undef, ac.tmps.getD 127 undef, ac.tmps.getD 128 undef, ac.tmps.getD 129 undef, ac.tmps.getD 130 undef, ac.tmps.getD 131 undef, ac.tmps.getD 132 undef, ac.tmps.getD 133 undef, ac.tmps.getD 134 undef, ac.tmps.getD 135 undef, ac.tmps.getD 136 undef, ac.tmps.getD 137 undef, ac.tmps.getD 138 undef, ac.tmps.getD 139 undef, ac.tmps.getD 140 undef, ac.tmps.getD 141 undef, ac.tmps.getD 142 undef, ac.tmps.getD 143 undef, ac.tmps.getD 144 undef, ac.tmps.getD 145 undef, ac.tmps.getD 146 undef, ac.tmps.getD 147 undef, ac.tmps.getD 148 undef, ac.tmps.getD 149 undef, ac.tmps.getD 150 undef, ac.tmps.getD 151 undef, ac.tmps.getD 152 undef, ac.tmps.getD 153 undef, ac.tmps.getD 154 undef, ac.tmps.getD 155 undef, ac.tmps.getD 156 undef, ac.tmps.getD 157 undef, ac.tmps.getD 158 undef, ac.tmps.getD 159 undef, ac.tmps.getD 160 undef, ac.tmps.getD 161 undef, ac.tmps.getD 162 undef, ac.tmps.getD 163 undef, ac.tmps.getD 164 undef, ac.tmps.getD 165 undef, ac.tmps.getD 166 undef, ac.tmps.getD 167 undef, ac.tmps.getD 168 undef, ac.tmps.getD 169 undef, ac.tmps.getD 170 undef, ac.tmps.getD 171 undef, ac.tmps.getD 172 undef, ac.tmps.getD 173 undef, ac.tmps.getD 174 undef, ac.tmps.getD 175 undef, ac.tmps.getD 176 undef, ac.tmps.getD 177 undef, ac.tmps.getD 178 undef, ac.tmps.getD 179 undef, ac.tmps.getD 180 undef, ac.tmps.getD 181 undef, ac.tmps.getD 182 undef, ac.tmps.getD 183 undef, ac.tmps.getD 184 undef, ac.tmps.getD 185 undef, ac.tmps.getD 186 undef, ac.tmps.getD 187 undef, ac.tmps.getD 188 undef, ac.tmps.getD 189 undef, ac.tmps.getD 190 undef, ac.tmps.getD 191 undef, ac.tmps.getD 192 undef, ac.tmps.getD 193 undef, ac.tmps.getD 194 undef, ac.tmps.getD 195 undef, ac.tmps.getD 196 undef], []⟩) (c d : Cm) (q q2 : Option Addr) (cap cap2 : Nat) (g : GoodC c) (HC : Hid (Blk V.heap.size #[.int .i64 c.kind, .int .i64 c.id, .int .i64 c.txn, .bool c.com, .slice q c.ws.length cap, .string c.text] 26 X)) (HD : Hid (Blk b9 #[.int .i64 d.kind, .int .i64 d.id, .int .i64 d.txn, .bool d.com, .slice q2 d.ws.length cap2, .string d.text] 26 V)) (HW : Hid (WsV q c.ws V)) (HV : Hid (WsV q2 d.ws V)) (HBV : Hid (Below V.heap.size V X)) (HB : Hid (Below w.heap.size w V)) (kw : Is64 which) (kv : Is64 vv) (hs : s.size ≤ 60) (K : Act → World → Prop) (Q : Exit → Act → World → Prop) (hK : Hid (After K w form b9 V d q2 cap2)) (hj : which % 9 = 8) : r4.wp Try.prog (Exit.then K Q) ac X := by
  obtain ⟨u, rfl⟩ : ∃ u : Nat → Value, ac = ⟨#[u 0, u 1, u 2, u 3, u 4, .string s, .int .i64 which, .int .i64 vv, .int .i64 form, .pointer (some ⟨b9, 0, none⟩), u 10, u 11, u 12, u 13, u 14, u 15, u 16, u 17, .bool false, .pointer (some ⟨V.heap.size, 0, none⟩), u 20, u 21, u 22, u 23, u 24, u 25, u 26, u 27, u 28, u 29, u 30, u 31, u 32, u 33, u 34, u 35, u 36, u 37, u 38, u 39, u 40, u 41, u 42, u 43, u 44, u 45, u 46, u 47, u 48, u 49, u 50, u 51, u 52, u 53, u 54, u 55, u 56, u 57, u 58, u 59, u 60, u 61, u 62, u 63, u 64, u 65, u 66, u 67, u 68, u 69, u 70, u 71, u 72, u 73, u 74, u 75, u 76, u 77, u 78, u 79, u 80, u 81, u 82, u 83, u 84, u 85, u 86, u 87, u 88, u 89, u 90, u 91, u 92, u 93, u 94, u 95, u 96, u 97, u 98, u 99, u 100, u 101, u 102, u 103, u 104, u 105, u 106, u 107, u 108, u 109, u 110, u 111, u 112, u 113, u 114, u 115, u 116, u 117, u 118, u 119, u 120, u 121, u 122, u 123, u 124, u 125, u 126, u 127, u 128, u 129, u 130, u 131, u 132, u 133, u 134, u 135, u 136, u 137, u 138, u 139, u 140, u 141, u 142, u 143, u 144, u 145, u 146, u 147, u 148, u 149, u 150, u 151, u 152, u 153, u 154, u 155, u 156, u 157, u 158, u 159, u 160, u 161, u 162, u 163, u 164, u 165, u 166, u 167, u 168, u 169, u 170, u 171, u 172, u 173, u 174, u 175, u 176, u 177, u 178, u 179, u 180, u 181, u 182, u 183, u 184, u 185, u 186, u 187, u 188, u 189, u 190, u 191, u 192, u 193, u 194, u 195, u 196], []⟩ := ⟨fun i => ac.tmps.getD i undef, ha⟩
  clear ha
  unfold Try.f5 at hc
  cases hc
  have WJ := hide (fun W => within7_at kw (by decide) hj W)
  clear hj
  have k1_ := unhide HC
  have lc := k1_.lt
  have x0_ := k1_.cell 0
  have xf0_ := k1_.froz 0
  have x1_ := k1_.cell 1
  have xf1_ := k1_.froz 1
  have x2_ := k1_.cell 2
  have xf2_ := k1_.froz 2
  have x3_ := k1_.cell 3
  have xf3_ := k1_.froz 3
  have x4_ := k1_.cell 4
  have xf4_ := k1_.froz 4
  have x5_ := k1_.cell 5
  have xf5_ := k1_.froz 5
  simp at x0_ x1_ x2_ x3_ x4_ x5_
  obtain ⟨jj, hjj⟩ : ∃ j : Nat, vv % 10 = (j : Int) := ⟨(vv % 10).toNat, by omega⟩
  have hj10 : jj < 10 := by omega
  have WV := hide (fun W => within7_at kv (by decide) hjj W)
  have hw1 : IntKind.i64.wrap (995 + (jj : Int)) = ((995 + jj : Nat) : Int) := (IntWalk.i64_in _ (by omega)).trans (by omega)
  obtain ⟨N, hN⟩ : ∃ N : Nat, N = 995 + jj := ⟨_, rfl⟩
  have hNi : 995 + (jj : Int) = (N : Int) := by omega
  have hN1 : 100 ≤ N := by omega
  have hN2 : N ≤ 2000 := by omega
  have MK := fun W => run_make8 N (by omega) W
  have hz1 : (X.setCell ⟨V.heap.size, 4, none⟩ (.slice (some ⟨X.heap.size, 0, none⟩) N N)).heap.size = X.heap.size := by simp [World.setCell]
  have hE0 := Blk.new (X.setCell ⟨V.heap.size, 4, none⟩ (.slice (some ⟨X.heap.size, 0, none⟩) N N)) (wcells (kW N 0)).toArray 40
  rw [hz1] at hE0
  have HE := hide hE0
  have HC2 : Hid (Blk V.heap.size #[.int .i64 c.kind, .int .i64 c.id, .int .i64 c.txn, .bool c.com, (.slice (some ⟨X.heap.size, 0, none⟩) N N), .string c.text] 26 ((X.setCell ⟨V.heap.size, 4, none⟩ (.slice (some ⟨X.heap.size, 0, none⟩) N N)).alloc (.cells (wcells (kW N 0)).toArray 40))) := hide ((k1_.set 4 (.slice (some ⟨X.heap.size, 0, none⟩) N N)).below (below_new _ _))
  have HBX := hide ((((unhide HBV).setCell (p := ⟨V.heap.size, 4, none⟩) (Nat.le_refl _) (.slice (some ⟨X.heap.size, 0, none⟩) N N))).alloc (by rw [hz1]; omega) (.cells (wcells (kW N 0)).toArray 40))
  have f := g.fineW
  have hF : Hid (FineW ⟨c.kind, c.id, c.txn, c.com, kW N N, c.text⟩) := hide ⟨f.kind, f.id, f.txn, by show (kW N N).length ≤ _; rw [kW_len (Nat.le_refl _)]; omega, fun x hx => by
    have hx2 : x ∈ List.replicate N (⟨⟨#[107]⟩, ⟨#[]⟩, false⟩ : Wt) ++ List.replicate (N - N) ⟨⟨#[]⟩, ⟨#[]⟩, false⟩ := hx
    rw [Nat.sub_self] at hx2
    simp at hx2
    obtain ⟨_, rfl⟩ := hx2
    decide, f.text⟩
  clear hjj f g hE0 hz1 hN
  go_wp2_with (first | (go_at_call_of 15 (Value.int IntKind.i64 which); refine (unhide WJ _).mono ?_; rintro e X2 ⟨rfl, hX2⟩; replace hX2 := hX2.symm; subst hX2) | (go_at_call 15; refine (unhide WV _).mono ?_; rintro e X2 ⟨rfl, hX2⟩; replace hX2 := hX2.symm; subst hX2))
  have hlt := (unhide HE).lt
  generalize (X.setCell ⟨V.heap.size, 4, none⟩ (.slice (some ⟨X.heap.size, 0, none⟩) N N)).alloc (.cells (wcells (kW N 0)).toArray 40) = X0 at *
  clear MK x0_ x1_ x2_ x3_ x4_ x5_ xf0_ xf1_ xf2_ xf3_ xf4_ xf5_ k1_ HC
  go_loopw [22] (fun i wr => ∃ n : Nat, n ≤ N ∧ i = .int .i64 (n : Int) ∧ Hid (Blk X.heap.size (wcells (kW N n)).toArray 40 wr) ∧ Hid (Blk V.heap.size #[.int .i64 c.kind, .int .i64 c.id, .int .i64 c.txn, .bool c.com, (.slice (some ⟨X.heap.size, 0, none⟩) N N), .string c.text] 26 wr) ∧ Hid (Below V.heap.size V wr)) (fun i wr => N - (intOf i).toNat)
  case atStart => exact ⟨0, Nat.zero_le _, rfl, HE, HC2, HBX⟩
  case round =>
    obtain ⟨n, hn, rfl, hE, hC, hB⟩ := hrel
    have k1_ := unhide hC
    have lc1 := k1_.lt
    have x4_ := k1_.cell 4
    have xf4_ := k1_.froz 4
    simp at x4_
    have hlR := (unhide hE).lt
    by_cases hlt2 : n < N
    · have hn1 : IntKind.i64.wrap ((n : Int) + 1) = ((n + 1 : Nat) : Int) := (IntWalk.i64_in _ (by omega)).trans (by omega)
      have hsz : n * 3 < (wcells (kW N n)).toArray.size := by simp [wcells_len, kW_len hn]; omega
      have c0_ : wr.cell? ⟨X.heap.size, n * 3, none⟩ = some ((wcells (kW N n)).toArray[n * 3]'hsz) := ((unhide hE).cell (n * 3)).trans (Array.getElem?_eq_getElem hsz)
      have cf0_ := (unhide hE).froz (n * 3)
      have hE2 := hide (kW_set hlt2 ▸ (unhide hE).set (n * 3) (.string ⟨#[107]⟩))
      have hC2 := hide (blk_far1 (b := X.heap.size) (j := n * 3) (x := .string ⟨#[107]⟩) k1_ (by omega))
      have hB2 := hide ((unhide hB).setCell (p := ⟨X.heap.size, n * 3, none⟩) (Nat.le_of_lt lc) (.string ⟨#[107]⟩))
      go_wp2
      exact ⟨⟨n + 1, by omega, by simp, hE2, hC2, hB2⟩, by simp [intOf]; omega⟩
    · obtain rfl : n = N := by omega
      have HS2 : Hid (Blk V.heap.size #[.int .i64 c.kind, .int .i64 c.id, .int .i64 c.txn, .bool c.com, (.slice (some ⟨X.heap.size, 0, none⟩) (kW n n).length n), .string c.text] 26 wr) := by
        show Blk _ _ _ _
        rw [kW_len (Nat.le_refl n)]
        exact k1_
      have HR := hide (kW_row (unhide hE) (by omega))
      go_wp2
      exact unhide hK _ ⟨c.kind, c.id, c.txn, c.com, kW n n, c.text⟩ (some ⟨X.heap.size, 0, none⟩) n _ (by kernel_rfl) HS2 (hide ((unhide HD).below (unhide hB))) HR (hide ((unhide HV).below (unhide hB))) hF (hide (Below.onto (unhide HB) (unhide hB)))
end Go.Proofs.Ytjmmfgmmmdbenaa
