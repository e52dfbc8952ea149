/-
  CmdRight's switch: way 7.
-/
import Derived.Test.YtjmmfgmmmdbenaaWRb
namespace Go.Proofs.Ytjmmfgmmmdbenaa
open Go.RowKit
set_option linter.unusedSimpArgs false
set_option linter.unusedVariables false

set_option maxRecDepth 100000 in
set_option maxHeartbeats 16000000 in
theorem right_sw7 {r0 r1 r2 r3 r4 rest : Code} (hc : Try.f5.body = some (.seq r0 (.seq r1 (.seq r2 (.seq r3 (.seq r4 rest)))))) (w : World) (s : ByteArray) (which vv form : Int) (ac : Act) (b9 : Nat) (V X : World) (ha : ac = ⟨#[ac.tmps.getD 0 undef, ac.tmps.getD 1 undef, ac.tmps.getD 2 undef, ac.tmps.getD 3 undef, ac.tmps.getD 4 undef, .string s, .int .i64 which, .int .i64 vv, .int .i64 form, .pointer (some ⟨b9, 0, none⟩), ac.tmps.getD 10 undef, ac.tmps.getD 11 undef, ac.tmps.getD 12 undef, ac.tmps.getD 13 undef, ac.tmps.getD 14 undef, ac.tmps.getD 15 undef, ac.tmps.getD 16 undef, ac.tmps.getD 17 undef, .bool false, .pointer (some ⟨V.heap.size, 0, none⟩), ac.tmps.getD 20 undef, ac.tmps.getD 21 undef, ac.tmps.getD 22 undef, ac.tmps.getD 23 undef, ac.tmps.getD 24 undef, ac.tmps.getD 25 undef, ac.tmps.getD 26 undef, ac.tmps.getD 27 undef, ac.tmps.getD 28 undef, ac.tmps.getD 29 undef, ac.tmps.getD 30 undef, ac.tmps.getD 31 undef, ac.tmps.getD 32 undef, ac.tmps.getD 33 undef, ac.tmps.getD 34 undef, ac.tmps.getD 35 undef, ac.tmps.getD 36 undef, ac.tmps.getD 37 undef, ac.tmps.getD 38 undef, ac.tmps.getD 39 undef, ac.tmps.getD 40 undef, ac.tmps.getD 41 undef, ac.tmps.getD 42 undef, ac.tmps.getD 43 undef, ac.tmps.getD 44 undef, ac.tmps.getD 45 undef, ac.tmps.getD 46 undef, ac.tmps.getD 47 undef, ac.tmps.getD 48 undef, ac.tmps.getD 49 undef, ac.tmps.getD 50 undef, ac.tmps.getD 51 undef, ac.tmps.getD 52 undef, ac.tmps.getD 53 undef, ac.tmps.getD 54 undef, ac.tmps.getD 55 undef, ac.tmps.getD 56 undef, ac.tmps.getD 57 undef, ac.tmps.getD 58 undef, ac.tmps.getD 59 undef, ac.tmps.getD 60 undef, ac.tmps.getD 61 undef, ac.tmps.getD 62 undef, ac.tmps.getD 63 undef, ac.tmps.getD 64 undef, ac.tmps.getD 65 undef, ac.tmps.getD 66 undef, ac.tmps.getD 67 undef, ac.tmps.getD 68 undef, ac.tmps.getD 69 undef, ac.tmps.getD 70 undef, ac.tmps.getD 71 undef, ac.tmps.getD 72 undef, ac.tmps.getD 73 undef, ac.tmps.getD 74 undef, ac.tmps.getD 75 undef, ac.tmps.getD 76 undef, ac.tmps.getD 77 undef, ac.tmps.getD 78 undef, ac.tmps.getD 79 undef, ac.tmps.getD 80 undef, ac.tmps.getD 81 undef, ac.tmps.getD 82 undef, ac.tmps.getD 83 undef, ac.tmps.getD 84 undef, ac.tmps.getD 85 undef, ac.tmps.getD 86 undef, ac.tmps.getD 87 undef, ac.tmps.getD 88 undef, ac.tmps.getD 89 undef, ac.tmps.getD 90 undef, ac.tmps.getD 91 undef, ac.tmps.getD 92 undef, ac.tmps.getD 93 undef, ac.tmps.getD 94 undef, ac.tmps.getD 95 undef, ac.tmps.getD 96 undef, ac.tmps.getD 97 undef, ac.tmps.getD 98 undef, ac.tmps.getD 99 undef, ac.tmps.getD 100 undef, ac.tmps.getD 101 undef, ac.tmps.getD 102 undef, ac.tmps.getD 103 undef, ac.tmps.getD 104 undef, ac.tmps.getD 105 undef, ac.tmps.getD 106 undef, ac.tmps.getD 107 undef, ac.tmps.getD 108 undef, ac.tmps.getD 109 undef, ac.tmps.getD 110 undef, ac.tmps.getD 111 undef, ac.tmps.getD 112 undef, ac.tmps.getD 113 undef, ac.tmps.getD 114 undef, ac.tmps.getD 115 undef, ac.tmps.getD 116 undef, ac.tmps.getD 117 undef, ac.tmps.getD 118 undef, ac.tmps.getD 119 undef, ac.tmps.getD 120 undef, ac.tmps.getD 121 undef, ac.tmps.getD 122 undef, ac.tmps.getD 123 undef, ac.tmps.getD 124 undef, ac.tmps.getD 125 undef, ac.tmps.getD 126 undef, ac.tmps.getD 127 undef, ac.tmps.getD 128 undef, ac.tmps.getD 129 undef, ac.tmps.getD 130 undef, ac.tmps.getD 131 undef, ac.tmps.getD 132 undef, ac.tmps.getD 133 undef, ac.tmps.getD 134 undef, ac.tmps.getD 135 undef, ac.tmps.getD 136 undef, ac.tmps.getD 137 undef, ac.tmps.getD 138 undef, ac.tmps.getD 139 undef, ac.tmps.getD 140 undef, ac.tmps.getD 141 undef, ac.tmps.getD 142 undef, ac.tmps.getD 143 undef, ac.tmps.getD 144 undef, ac.tmps.getD 145 undef, ac.tmps.getD 146 undef, ac.tmps.getD 147 undef, ac.tmps.getD 148 undef, ac.tmps.getD 149 undef, ac.tmps.getD 150 undef, ac.tmps.getD 151 undef, ac.tmps.getD 152 undef, ac.tmps.getD 153 undef, ac.tmps.getD 154 undef, ac.tmps.getD 155 undef, ac.tmps.getD 156 undef, ac.tmps.getD 157 undef, ac.tmps.getD 158 undef, ac.tmps.getD 159 undef, ac.tmps.getD 160 undef, ac.tmps.getD 161 undef, ac.tmps.getD 162 undef, ac.tmps.getD 163 undef, ac.tmps.getD 164 undef, ac.tmps.getD 165 undef, ac.tmps.getD 166 undef, ac.tmps.getD 167 undef, ac.tmps.getD 168 undef, ac.tmps.getD 169 undef, ac.tmps.getD 170 undef, ac.tmps.getD 171 undef, ac.tmps.getD 172 undef, ac.tmps.getD 173 undef, ac.tmps.getD 174 undef, ac.tmps.getD 175 undef, ac.tmps.getD 176 undef, ac.tmps.getD 177 undef, ac.tmps.getD 178 undef, ac.tmps.getD 179 undef, ac.tmps.getD 180 undef, ac.tmps.getD 181 undef, ac.tmps.getD 182 undef, ac.tmps.getD 183 undef, ac.tmps.getD 184 undef, ac.tmps.getD 185 undef, ac.tmps.getD 186 undef, ac.tmps.getD 187 undef, ac.tmps.getD 188 undef, ac.tmps.getD 189 undef, ac.tmps.getD 190 undef, ac.tmps.getD 191 undef, ac.tmps.getD 192 undef, ac.tmps.getD 193 undef, ac.tmps.getD 194 undef, ac.tmps.getD 195 undef, ac.tmps.getD 196 undef], []⟩) (c d : Cm) (q q2 : Option Addr) (cap cap2 : Nat) (g : GoodC c) (HC : Hid (Blk V.heap.size #[.int .i64 c.kind, .int .i64 c.id, .int .i64 c.txn, .bool c.com, .slice q c.ws.length cap, .string c.text] 26 X)) (HD : Hid (Blk b9 #[.int .i64 d.kind, .int .i64 d.id, .int .i64 d.txn, .bool d.com, .slice q2 d.ws.length cap2, .string d.text] 26 V)) (HW : Hid (WsV q c.ws V)) (HV : Hid (WsV q2 d.ws V)) (HBV : Hid (Below V.heap.size V X)) (HB : Hid (Below w.heap.size w V)) (kw : Is64 which) (kv : Is64 vv) (hs : s.size ≤ 60) (K : Act → World → Prop) (Q : Exit → Act → World → Prop) (hK : Hid (After K w form b9 V d q2 cap2)) (hj : which % 9 = 7) : r4.wp Try.prog (Exit.then K Q) ac X := by
  obtain ⟨u, rfl⟩ : ∃ u : Nat → Value, ac = ⟨#[u 0, u 1, u 2, u 3, u 4, .string s, .int .i64 which, .int .i64 vv, .int .i64 form, .pointer (some ⟨b9, 0, none⟩), u 10, u 11, u 12, u 13, u 14, u 15, u 16, u 17, .bool false, .pointer (some ⟨V.heap.size, 0, none⟩), u 20, u 21, u 22, u 23, u 24, u 25, u 26, u 27, u 28, u 29, u 30, u 31, u 32, u 33, u 34, u 35, u 36, u 37, u 38, u 39, u 40, u 41, u 42, u 43, u 44, u 45, u 46, u 47, u 48, u 49, u 50, u 51, u 52, u 53, u 54, u 55, u 56, u 57, u 58, u 59, u 60, u 61, u 62, u 63, u 64, u 65, u 66, u 67, u 68, u 69, u 70, u 71, u 72, u 73, u 74, u 75, u 76, u 77, u 78, u 79, u 80, u 81, u 82, u 83, u 84, u 85, u 86, u 87, u 88, u 89, u 90, u 91, u 92, u 93, u 94, u 95, u 96, u 97, u 98, u 99, u 100, u 101, u 102, u 103, u 104, u 105, u 106, u 107, u 108, u 109, u 110, u 111, u 112, u 113, u 114, u 115, u 116, u 117, u 118, u 119, u 120, u 121, u 122, u 123, u 124, u 125, u 126, u 127, u 128, u 129, u 130, u 131, u 132, u 133, u 134, u 135, u 136, u 137, u 138, u 139, u 140, u 141, u 142, u 143, u 144, u 145, u 146, u 147, u 148, u 149, u 150, u 151, u 152, u 153, u 154, u 155, u 156, u 157, u 158, u 159, u 160, u 161, u 162, u 163, u 164, u 165, u 166, u 167, u 168, u 169, u 170, u 171, u 172, u 173, u 174, u 175, u 176, u 177, u 178, u 179, u 180, u 181, u 182, u 183, u 184, u 185, u 186, u 187, u 188, u 189, u 190, u 191, u 192, u 193, u 194, u 195, u 196], []⟩ := ⟨fun i => ac.tmps.getD i undef, ha⟩
  clear ha
  unfold Try.f5 at hc
  cases hc
  have WJ := hide (fun W => within7_at kw (by decide) hj W)
  clear hj
  have k1_ := unhide HC
  have lc := k1_.lt
  have x0_ := k1_.cell 0
  have xf0_ := k1_.froz 0
  have x1_ := k1_.cell 1
  have xf1_ := k1_.froz 1
  have x2_ := k1_.cell 2
  have xf2_ := k1_.froz 2
  have x3_ := k1_.cell 3
  have xf3_ := k1_.froz 3
  have x4_ := k1_.cell 4
  have xf4_ := k1_.froz 4
  have x5_ := k1_.cell 5
  have xf5_ := k1_.froz 5
  simp at x0_ x1_ x2_ x3_ x4_ x5_
  obtain ⟨jj, hjj⟩ : ∃ j : Nat, vv % 8 = (j : Int) := ⟨(vv % 8).toNat, by omega⟩
  have hj8 : jj < 8 := by omega
  have WV := hide (fun W => within7_at kv (by decide) hjj W)
  have hw1 : IntKind.i64.wrap (3996 + (jj : Int)) = ((3996 + jj : Nat) : Int) := (IntWalk.i64_in _ (by omega)).trans (by omega)
  obtain ⟨N, hN⟩ : ∃ N : Nat, N = 3996 + jj := ⟨_, rfl⟩
  have hNi : 3996 + (jj : Int) = (N : Int) := by omega
  have hN2 : N ≤ 10000 := by omega
  obtain ⟨BY, zz, hzz, MK, CV9⟩ := bytes_made N (by omega)
  have CVH := hide CV9
  have hlen := g.fine.len
  have hlen2 : c.ws.length ≤ 1000 := (rightC_of g.right).2.2.2.2.1
  have f := g.fineW
  have hF : Hid (FineW ⟨c.kind, c.id, c.txn, c.com, c.ws ++ [⟨⟨#[107]⟩, zz, false⟩], c.text⟩) := hide ⟨f.kind, f.id, f.txn, by show (c.ws ++ [_]).length ≤ _; simp; omega, fun x hx => by
    rcases List.mem_append.1 hx with hx | hx
    · exact f.ws x hx
    · simp at hx; subst hx; exact ⟨by show ByteArray.size ⟨#[107]⟩ ≤ _; decide, by show ByteArray.size zz ≤ _; rw [hzz]; omega⟩, f.text⟩
  have hge : V.heap.size < X.heap.size := lc
  have hb0 := below_new X (.cells BY 5)
  have HE := hide (Blk.new X BY 5)
  have HC1 := hide (k1_.below hb0)
  have HW1 := hide (((unhide HW).below (unhide HBV)).below hb0)
  have HB1 := hide (Below.onto (unhide HBV) hb0)
  have hsz1 : X.heap.size + 1 ≤ (X.alloc (.cells BY 5)).heap.size := by simp
  obtain ⟨i0, hi, hz0, hz1, hz2⟩ := info_parts info_wt
  clear hjj f g hb0 CV9 hN hzz k1_
  clear x0_ x1_ x2_ x3_ x4_ x5_ xf0_ xf1_ xf2_ xf3_ xf4_ xf5_
  clear HC HW HBV
  go_wp2_with (first | (go_at_call_of 15 (Value.int IntKind.i64 which); refine (unhide WJ _).mono ?_; rintro e X2 ⟨rfl, hX2⟩; replace hX2 := hX2.symm; subst hX2) | (go_at_call 15; refine (unhide WV _).mono ?_; rintro e X2 ⟨rfl, hX2⟩; replace hX2 := hX2.symm; subst hX2))
  clear MK
  generalize X.heap.size = xb at *
  generalize X.alloc (.cells BY 5) = Y at *
  have FIN : Hid (∀ (g2 cp2 : Nat) (w4 : World) (ac' : Act), ac' = ⟨#[ac'.tmps.getD 0 undef, ac'.tmps.getD 1 undef, ac'.tmps.getD 2 undef, ac'.tmps.getD 3 undef, ac'.tmps.getD 4 undef, ac'.tmps.getD 5 undef, ac'.tmps.getD 6 undef, ac'.tmps.getD 7 undef, .int .i64 form, .pointer (some ⟨b9, 0, none⟩), ac'.tmps.getD 10 undef, ac'.tmps.getD 11 undef, ac'.tmps.getD 12 undef, ac'.tmps.getD 13 undef, ac'.tmps.getD 14 undef, ac'.tmps.getD 15 undef, ac'.tmps.getD 16 undef, ac'.tmps.getD 17 undef, .bool false, .pointer (some ⟨V.heap.size, 0, none⟩), ac'.tmps.getD 20 undef, ac'.tmps.getD 21 undef, ac'.tmps.getD 22 undef, ac'.tmps.getD 23 undef, ac'.tmps.getD 24 undef, ac'.tmps.getD 25 undef, ac'.tmps.getD 26 undef, ac'.tmps.getD 27 undef, ac'.tmps.getD 28 undef, ac'.tmps.getD 29 undef, ac'.tmps.getD 30 undef, ac'.tmps.getD 31 undef, ac'.tmps.getD 32 undef, ac'.tmps.getD 33 undef, ac'.tmps.getD 34 undef, ac'.tmps.getD 35 undef, ac'.tmps.getD 36 undef, ac'.tmps.getD 37 undef, ac'.tmps.getD 38 undef, ac'.tmps.getD 39 undef, ac'.tmps.getD 40 undef, ac'.tmps.getD 41 undef, ac'.tmps.getD 42 undef, ac'.tmps.getD 43 undef, ac'.tmps.getD 44 undef, ac'.tmps.getD 45 undef, ac'.tmps.getD 46 undef, ac'.tmps.getD 47 undef, ac'.tmps.getD 48 undef, ac'.tmps.getD 49 undef, ac'.tmps.getD 50 undef, ac'.tmps.getD 51 undef, ac'.tmps.getD 52 undef, ac'.tmps.getD 53 undef, ac'.tmps.getD 54 undef, ac'.tmps.getD 55 undef, ac'.tmps.getD 56 undef, ac'.tmps.getD 57 undef, ac'.tmps.getD 58 undef, ac'.tmps.getD 59 undef, ac'.tmps.getD 60 undef, ac'.tmps.getD 61 undef, ac'.tmps.getD 62 undef, ac'.tmps.getD 63 undef, ac'.tmps.getD 64 undef, ac'.tmps.getD 65 undef, ac'.tmps.getD 66 undef, ac'.tmps.getD 67 undef, ac'.tmps.getD 68 undef, ac'.tmps.getD 69 undef, ac'.tmps.getD 70 undef, ac'.tmps.getD 71 undef, ac'.tmps.getD 72 undef, ac'.tmps.getD 73 undef, ac'.tmps.getD 74 undef, ac'.tmps.getD 75 undef, ac'.tmps.getD 76 undef, ac'.tmps.getD 77 undef, ac'.tmps.getD 78 undef, ac'.tmps.getD 79 undef, ac'.tmps.getD 80 undef, ac'.tmps.getD 81 undef, ac'.tmps.getD 82 undef, ac'.tmps.getD 83 undef, ac'.tmps.getD 84 undef, ac'.tmps.getD 85 undef, ac'.tmps.getD 86 undef, ac'.tmps.getD 87 undef, ac'.tmps.getD 88 undef, ac'.tmps.getD 89 undef, ac'.tmps.getD 90 undef, ac'.tmps.getD 91 undef, ac'.tmps.getD 92 undef, ac'.tmps.getD 93 undef, ac'.tmps.getD 94 undef, ac'.tmps.getD 95 undef, ac'.tmps.getD 96 undef, ac'.tmps.getD 97 undef, ac'.tmps.getD 98 undef, ac'.tmps.getD 99 undef, ac'.tmps.getD 100 undef, ac'.tmps.getD 101 undef, ac'.tmps.getD 102 undef, ac'.tmps.getD 103 undef, ac'.tmps.getD 104 undef, ac'.tmps.getD 105 undef, ac'.tmps.getD 106 undef, ac'.tmps.getD 107 undef, ac'.tmps.getD 108 undef, ac'.tmps.getD 109 undef, ac'.tmps.getD 110 undef, ac'.tmps.getD 111 undef, ac'.tmps.getD 112 undef, ac'.tmps.getD 113 undef, ac'.tmps.getD 114 undef, ac'.tmps.getD 115 undef, ac'.tmps.getD 116 undef, ac'.tmps.getD 117 undef, ac'.tmps.getD 118 undef, ac'.tmps.getD 119 undef, ac'.tmps.getD 120 undef, ac'.tmps.getD 121 undef, ac'.tmps.getD 122 undef, ac'.tmps.getD 123 undef, ac'.tmps.getD 124 undef, ac'.tmps.getD 125 undef, ac'.tmps.getD 126 undef, ac'.tmps.getD 127 undef, ac'.tmps.getD 128 undef, ac'.tmps.getD 129 undef, ac'.tmps.getD 130 undef, ac'.tmps.getD 131 undef, ac'.tmps.getD 132 undef, ac'.tmps.getD 133 undef, ac'.tmps.getD 134 undef, ac'.tmps.getD 135 undef, ac'.tmps.getD 136 undef, ac'.tmps.getD 137 undef, ac'.tmps.getD 138 undef, ac'.tmps.getD 139 undef, ac'.tmps.getD 140 undef, ac'.tmps.getD 141 undef, ac'.tmps.getD 142 undef, ac'.tmps.getD 143 undef, ac'.tmps.getD 144 undef, ac'.tmps.getD 145 undef, ac'.tmps.getD 146 undef, ac'.tmps.getD 147 undef, ac'.tmps.getD 148 undef, ac'.tmps.getD 149 undef, ac'.tmps.getD 150 undef, ac'.tmps.getD 151 undef, ac'.tmps.getD 152 undef, ac'.tmps.getD 153 undef, ac'.tmps.getD 154 undef, ac'.tmps.getD 155 undef, ac'.tmps.getD 156 undef, ac'.tmps.getD 157 undef, ac'.tmps.getD 158 undef, ac'.tmps.getD 159 undef, ac'.tmps.getD 160 undef, ac'.tmps.getD 161 undef, ac'.tmps.getD 162 undef, ac'.tmps.getD 163 undef, ac'.tmps.getD 164 undef, ac'.tmps.getD 165 undef, ac'.tmps.getD 166 undef, ac'.tmps.getD 167 undef, ac'.tmps.getD 168 undef, ac'.tmps.getD 169 undef, ac'.tmps.getD 170 undef, ac'.tmps.getD 171 undef, ac'.tmps.getD 172 undef, ac'.tmps.getD 173 undef, ac'.tmps.getD 174 undef, ac'.tmps.getD 175 undef, ac'.tmps.getD 176 undef, ac'.tmps.getD 177 undef, ac'.tmps.getD 178 undef, ac'.tmps.getD 179 undef, ac'.tmps.getD 180 undef, ac'.tmps.getD 181 undef, ac'.tmps.getD 182 undef, ac'.tmps.getD 183 undef, ac'.tmps.getD 184 undef, ac'.tmps.getD 185 undef, ac'.tmps.getD 186 undef, ac'.tmps.getD 187 undef, ac'.tmps.getD 188 undef, ac'.tmps.getD 189 undef, ac'.tmps.getD 190 undef, ac'.tmps.getD 191 undef, ac'.tmps.getD 192 undef, ac'.tmps.getD 193 undef, ac'.tmps.getD 194 undef, ac'.tmps.getD 195 undef, ac'.tmps.getD 196 undef], []⟩ → w4.ownsRow (xb + 1) 40 3 (.slice (some ⟨g2, 0, none⟩) (c.ws.length + 1) cp2) (c.ws.length + 1) (wcells c.ws ++ [.string ⟨#[107]⟩, .string zz, .bool false]) → Blk V.heap.size #[.int .i64 c.kind, .int .i64 c.id, .int .i64 c.txn, .bool c.com, .slice q c.ws.length cap, .string c.text] 26 w4 → Below V.heap.size V w4 → K ac' (w4.setCell ⟨V.heap.size, 4, none⟩ (.slice (some ⟨g2, 0, none⟩) (c.ws.length + 1) cp2))) := hide (fun g2 cp2 w4 ac' hac ow4 k4 hB4 => by
    have HX := hide (hB4.setCell (p := ⟨V.heap.size, 4, none⟩) (Nat.le_refl _) (.slice (some ⟨g2, 0, none⟩) (c.ws.length + 1) cp2))
    have hrow := ownsRow_setCell_below (a := ⟨V.heap.size, 4, none⟩) ow4 (by show V.heap.size < _; omega) (.slice (some ⟨g2, 0, none⟩) (c.ws.length + 1) cp2)
    have hl1 : (c.ws ++ [(⟨⟨#[107]⟩, zz, false⟩ : Wt)]).length = c.ws.length + 1 := by simp
    have hrow2 : (w4.setCell ⟨V.heap.size, 4, none⟩ (.slice (some ⟨g2, 0, none⟩) (c.ws.length + 1) cp2)).ownsRow (xb + 1) 40 3 (.slice (some ⟨g2, 0, none⟩) (c.ws ++ [(⟨⟨#[107]⟩, zz, false⟩ : Wt)]).length cp2) (c.ws ++ [(⟨⟨#[107]⟩, zz, false⟩ : Wt)]).length (wcells (c.ws ++ [⟨⟨#[107]⟩, zz, false⟩])) := by
      rw [hl1, wcells_snoc]; exact hrow
    have HS := k4.set 4 (.slice (some ⟨g2, 0, none⟩) (c.ws.length + 1) cp2)
    have HS2 : Hid (Blk V.heap.size #[.int .i64 c.kind, .int .i64 c.id, .int .i64 c.txn, .bool c.com, .slice (some ⟨g2, 0, none⟩) (c.ws ++ [(⟨⟨#[107]⟩, zz, false⟩ : Wt)]).length cp2, .string c.text] 26 (w4.setCell ⟨V.heap.size, 4, none⟩ (.slice (some ⟨g2, 0, none⟩) (c.ws.length + 1) cp2))) := by
      show Blk _ _ _ _
      rw [hl1]; exact HS
    exact unhide hK ac' ⟨c.kind, c.id, c.txn, c.com, c.ws ++ [⟨⟨#[107]⟩, zz, false⟩], c.text⟩ (some ⟨g2, 0, none⟩) cp2 _ hac HS2 (hide ((unhide HD).below (unhide HX))) (hide (row_wsv hrow2)) (hide ((unhide HV).below (unhide HX))) hF (hide (Below.onto (unhide HB) (unhide HX))))
  clear hK hF HV HD HB
  have hbd : Below Y.heap.size Y Y.drew := (Below.refl _ _).drew
  refine wp_region_noPanic ?_
  refine wp_region_held_drew (S := (fun W => Blk xb BY 5 W)) (by kernel_rfl) ((unhide HE).below hbd) (fun hHeld => ?_)
  replace HC1 := hide ((unhide HC1).below hbd)
  replace HW1 := hide ((unhide HW1).below hbd)
  replace HB1 := hide (Below.onto (unhide HB1) hbd)
  replace hsz1 := Nat.le_trans hsz1 hbd.size
  clear hbd HE
  revert hHeld
  generalize Y.drew = Yd at *
  intro hHeld
  refine wpAnyH_take (i := 1) (oi := ?oi20110) (v := ?v20110) ?hi20110 (by kernel_rfl) (by kernel_rfl) (by kernel_rfl) (fun _ _ _ h => h) (Or.inl ⟨?hw20110, ?hy20110⟩) (by assumption) ?rest20110
  case hi20110 => (simp only [List.getElem?_toArray, List.getElem?_cons_zero, List.getElem?_cons_succ]; rfl)
  case hw20110 => rfl
  case hy20110 => first | (intro wx hSw; go_simp; done) | (intro wx hSw; go_simp; with_reducible rfl)
  simp only [Act.put, List.setIfInBounds_toArray, List.set_cons_zero, List.set_cons_succ]
  refine wpAnyH_take (i := 4) (oi := ?oi20111) (v := ?v20111) ?hi20111 (by kernel_rfl) (by kernel_rfl) (by kernel_rfl) (fun _ _ _ h => h) (Or.inl ⟨?hw20111, ?hy20111⟩) (by assumption) ?rest20111
  case hi20111 => (simp only [List.getElem?_toArray, List.getElem?_cons_zero, List.getElem?_cons_succ]; rfl)
  case hw20111 => rfl
  case hy20111 => first | (intro wx hSw; go_simp; done) | (intro wx hSw; go_simp; with_reducible rfl)
  simp only [Act.put, List.setIfInBounds_toArray, List.set_cons_zero, List.set_cons_succ]
  refine wpAnyH_take (i := 5) (oi := ?oi20112) (v := ?v20112) ?hi20112 (by kernel_rfl) (by kernel_rfl) (by kernel_rfl) (fun _ _ _ h => h) (Or.inl ⟨?hw20112, ?hy20112⟩) (by assumption) ?rest20112
  case hi20112 => (simp only [List.getElem?_toArray, List.getElem?_cons_zero, List.getElem?_cons_succ]; rfl)
  case hw20112 => rfl
  case hy20112 => first | (intro wx hSw; have hcv := unhide CVH _ _ hSw; go_simp; done) | (intro wx hSw; have hcv := unhide CVH _ _ hSw; go_simp; with_reducible rfl)
  simp only [Act.put, List.setIfInBounds_toArray, List.set_cons_zero, List.set_cons_succ]
  refine wpAnyH_take (i := 6) (oi := ?oi20113) (v := ?v20113) ?hi20113 (by kernel_rfl) (by kernel_rfl) (by kernel_rfl) (fun _ _ _ h => h) (Or.inl ⟨?hw20113, ?hy20113⟩) (by assumption) ?rest20113
  case hi20113 => (simp only [List.getElem?_toArray, List.getElem?_cons_zero, List.getElem?_cons_succ]; rfl)
  case hw20113 => rfl
  case hy20113 => first | (intro wx hSw; go_simp; done) | (intro wx hSw; go_simp; with_reducible rfl)
  simp only [Act.put, List.setIfInBounds_toArray, List.set_cons_zero, List.set_cons_succ]
  refine wpAnyH_ready (rs := [0, 2, 7]) (by kernel_rfl) (by simp) ?_
  refine AllReadyH.cons rfl (fun K20114 hK20114 => ?_) ?_
  · go_simp
    refine hK20114.out _ _ ?hs20114 (fun hHeld20114 => ?_)
    case hs20114 => exact hHeld.below (below_new _ _)
    clear hHeld
    have hHeld := hHeld20114; clear hHeld20114 hK20114 K20114
    have hgx0 := hsz1
    have hb := below_new Yd (.cells #[] 40)
    have hbs := hb.size
    replace HC1 := hide ((unhide HC1).below hb)
    replace HW1 := hide ((unhide HW1).below hb)
    replace HB1 := hide (Below.onto (unhide HB1) hb)
    replace hsz1 := Nat.le_trans hsz1 hbs
    have RE := hide (Blk.new Yd #[] 40)
    obtain ⟨ge, hgq⟩ : ∃ b, b = Yd.heap.size := ⟨_, rfl⟩
    rw [← hgq] at RE
    have hgx : xb + 1 ≤ ge := by omega
    generalize Yd.alloc (.cells #[] 40) = Y26 at *
    clear hb
    refine wpAnyH_ready (rs := [2, 7]) (by kernel_rfl) (by simp) ?_
    refine AllReadyH.cons rfl (fun K20115 hK20115 => ?_) ?_
    · have z1 := (unhide HC1).cell 4
      have zf1 := (unhide HC1).froz 4
      have zl1 := (unhide HC1).lt
      simp at z1
      go_simp
      refine hK20115.out _ _ ?hs20115 (fun hHeld20115 => ?_)
      case hs20115 => exact hHeld
      clear hHeld
      have hHeld := hHeld20115; clear hHeld20115 hK20115 K20115
      clear z1 zf1 zl1
      refine wpAnyH_ready (rs := [3, 7]) (by kernel_rfl) (by simp) ?_
      refine AllReadyH.cons rfl (fun K20116 hK20116 => ?_) ?_
      · refine step_app0 rfl _ _ rfl Y26 ge q c.ws cap (by rw [hgq]; rfl) rfl (unhide RE) (unhide HW1) (by omega) (xb + 1) hgx ?_
        intro v1 Y28 ow1 gr1
        change K20116 (Act.put _ (some 126) _) _
        simp only [Act.put, List.setIfInBounds_toArray, List.set_cons_zero, List.set_cons_succ]
        refine hK20116.out _ _ ?hs20116 (fun hHeld20116 => ?_)
        case hs20116 => exact gr_blk hHeld gr1 (by omega)
        clear hHeld
        have hHeld := hHeld20116; clear hHeld20116 hK20116 K20116
        replace HB1 := hide (gr_below (unhide HB1) gr1 (by omega) (unhide HB1).size)
        replace HC1 := hide (gr_blk (unhide HC1) gr1 (by omega))
        replace hsz1 := Nat.le_trans hsz1 gr1.size
        have OW := hide ow1
        clear gr1 ow1 RE HW1
        refine wpAnyH_ready (rs := [7]) (by kernel_rfl) (by simp) ?_
        refine AllReadyH.cons rfl (fun K20117 hK20117 => ?_) AllReadyH.nil
        go_simp
        refine hK20117.out _ _ ?hs20117 (fun hHeld20117 => ?_)
        case hs20117 => exact hHeld.below (below_new _ _)
        clear hHeld
        have hHeld := hHeld20117; clear hHeld20117 hK20117 K20117
        have hb := below_new Y28 (.cells #[.string ⟨#[107]⟩, .string zz, .bool false] 40)
        have hbs := hb.size
        replace HC1 := hide ((unhide HC1).below hb)
        replace HB1 := hide (Below.onto (unhide HB1) hb)
        replace hsz1 := Nat.le_trans hsz1 hbs
        replace OW := hide ((unhide OW).alloc (.cells #[.string ⟨#[107]⟩, .string zz, .bool false] 40))
        have RW := hide (Blk.new Y28 #[.string ⟨#[107]⟩, .string zz, .bool false] 40)
        obtain ⟨bw, hbq⟩ : ∃ b, b = Y28.heap.size := ⟨_, rfl⟩
        rw [← hbq] at RW
        have hsY : Y28.heap.size < (Y28.alloc (.cells #[.string ⟨#[107]⟩, .string zz, .bool false] 40)).heap.size := by simp
        generalize Y28.alloc (.cells #[.string ⟨#[107]⟩, .string zz, .bool false] 40) = Y29 at *
        clear hb
        refine wpAnyH_ready (rs := [8]) (by kernel_rfl) (by simp) ?_
        refine AllReadyH.cons rfl (fun K20118 hK20118 => ?_) AllReadyH.nil
        have hnv : some V.heap.size ≠ v1.ownBlock := fun e => by have h9 := ((unhide OW).lt _ e.symm).1; omega
        have hnx : some xb ≠ v1.ownBlock := fun e => by have h9 := ((unhide OW).lt _ e.symm).1; omega
        have hnews : ∀ j u, ([.string ⟨#[107]⟩, .string zz, .bool false] : List Value)[j]? = some u → Y29.cell? (Addr.add ⟨bw, 0, none⟩ j) = some u := fun j u hj => by
          have e1 : Addr.add ⟨bw, 0, none⟩ j = ⟨bw, j, none⟩ := by simp [Addr.add]; exact fun h => h.symm
          rw [e1, (unhide RW).cell j]
          simpa using hj
        refine step_append_lies _ rfl _ _ 24 rfl (xb + 1) 40 i0 _ 3 40 Try.underlying24 hi hz0 hz1 hz2 rfl (by decide) v1 _ _ rfl (unhide OW) ⟨bw, 0, none⟩ 1 1 [.string ⟨#[107]⟩, .string zz, .bool false] (by rw [hbq]; rfl) rfl hnews (by simp [Value.oneCell']) (by decide) (by unfold maxLen; omega) (by omega) hsz1 _ rfl ?_
        intro g2 cp2 w4 ow4 gr4 _ _
        change K20118 (Act.put _ (some 131) _) _
        simp only [Act.put, List.setIfInBounds_toArray, List.set_cons_zero, List.set_cons_succ]
        refine hK20118.out _ _ ?hs20118 (fun hHeld20118 => ?_)
        case hs20118 => exact (gr4.block _ hHeld.lt hnx).trans hHeld
        clear hHeld
        have hHeld := hHeld20118; clear hHeld20118 hK20118 K20118
        refine wpAnyH_take (i := 9) (oi := ?oi20119) (v := ?v20119) ?hi20119 (by kernel_rfl) (by kernel_rfl) (by kernel_rfl) (fun _ _ _ h => h) (Or.inl ⟨?hw20119, ?hy20119⟩) (by assumption) ?rest20119
        case hi20119 => (simp only [List.getElem?_toArray, List.getElem?_cons_zero, List.getElem?_cons_succ]; rfl)
        case hw20119 => rfl
        case hy20119 => first | (intro wx hSw; go_simp; done) | (intro wx hSw; go_simp; with_reducible rfl)
        simp only [Act.put, List.setIfInBounds_toArray, List.set_cons_zero, List.set_cons_succ]
        have k4 : Blk V.heap.size #[.int .i64 c.kind, .int .i64 c.id, .int .i64 c.txn, .bool c.com, .slice q c.ws.length cap, .string c.text] 26 w4 := (gr4.block _ (unhide HC1).lt hnv).trans (unhide HC1)
        have hB4 : Below V.heap.size V w4 := (unhide HB1).grown gr4 (unhide HB1).size (fun j e => by have h9 := ((unhide OW).lt _ e).1; omega)
        have l4 := k4.lt
        have z4 := k4.cell 4
        have zf4 := k4.froz 4
        simp at z4
        refine wpAnyH_ready (rs := [10]) (by kernel_rfl) (by simp) ?_
        refine AllReadyH.cons rfl (fun K20120 hK20120 => ?_) AllReadyH.nil
        go_simp
        refine hK20120.out _ _ ?hs20120 (fun hHeld20120 => ?_)
        case hs20120 => exact blk_far1 hHeld (by omega)
        clear hHeld
        have hHeld := hHeld20120; clear hHeld20120 hK20120 K20120
        refine wpAnyH_done (by kernel_rfl) ?_ _
        refine NoPanic.normal ?_
        skip
        exact unhide FIN g2 cp2 w4 _ (by kernel_rfl) ow4 k4 hB4
      refine AllReadyH.cons rfl (fun K20121 hK20121 => ?_) AllReadyH.nil
      · go_simp
        refine hK20121.out _ _ ?hs20121 (fun hHeld20121 => ?_)
        case hs20121 => exact hHeld.below (below_new _ _)
        clear hHeld
        have hHeld := hHeld20121; clear hHeld20121 hK20121 K20121
        have hgl := (unhide RE).lt
        have hb := below_new Y26 (.cells #[.string ⟨#[107]⟩, .string zz, .bool false] 40)
        have hbs := hb.size
        replace HC1 := hide ((unhide HC1).below hb)
        replace HW1 := hide ((unhide HW1).below hb)
        replace HB1 := hide (Below.onto (unhide HB1) hb)
        replace hsz1 := Nat.le_trans hsz1 hbs
        replace RE := hide ((unhide RE).below hb)
        have RW := hide (Blk.new Y26 #[.string ⟨#[107]⟩, .string zz, .bool false] 40)
        obtain ⟨bw, hbq⟩ : ∃ b, b = Y26.heap.size := ⟨_, rfl⟩
        rw [← hbq] at RW
        have hbg : bw ≠ ge := by omega
        have hsY : Y26.heap.size < (Y26.alloc (.cells #[.string ⟨#[107]⟩, .string zz, .bool false] 40)).heap.size := by simp
        generalize Y26.alloc (.cells #[.string ⟨#[107]⟩, .string zz, .bool false] 40) = Y30 at *
        clear hb
        refine wpAnyH_ready (rs := [3]) (by kernel_rfl) (by simp) ?_
        refine AllReadyH.cons rfl (fun K20122 hK20122 => ?_) AllReadyH.nil
        refine step_app0 rfl _ _ rfl Y30 ge q c.ws cap (by rw [hgq]; rfl) rfl (unhide RE) (unhide HW1) (by omega) (xb + 1) hgx ?_
        intro v1 Y31 ow1 gr1
        change K20122 (Act.put _ (some 126) _) _
        simp only [Act.put, List.setIfInBounds_toArray, List.set_cons_zero, List.set_cons_succ]
        refine hK20122.out _ _ ?hs20122 (fun hHeld20122 => ?_)
        case hs20122 => exact gr_blk hHeld gr1 (by omega)
        clear hHeld
        have hHeld := hHeld20122; clear hHeld20122 hK20122 K20122
        replace HB1 := hide (gr_below (unhide HB1) gr1 (by omega) (unhide HB1).size)
        replace HC1 := hide (gr_blk (unhide HC1) gr1 (by omega))
        replace hsz1 := Nat.le_trans hsz1 gr1.size
        have OW := hide ow1
        replace RW := hide (gr_blk (unhide RW) gr1 hbg)
        have hbs2 := gr1.size
        clear gr1 ow1 RE HW1
        refine wpAnyH_ready (rs := [8]) (by kernel_rfl) (by simp) ?_
        refine AllReadyH.cons rfl (fun K20123 hK20123 => ?_) AllReadyH.nil
        have hnv : some V.heap.size ≠ v1.ownBlock := fun e => by have h9 := ((unhide OW).lt _ e.symm).1; omega
        have hnx : some xb ≠ v1.ownBlock := fun e => by have h9 := ((unhide OW).lt _ e.symm).1; omega
        have hnews : ∀ j u, ([.string ⟨#[107]⟩, .string zz, .bool false] : List Value)[j]? = some u → Y31.cell? (Addr.add ⟨bw, 0, none⟩ j) = some u := fun j u hj => by
          have e1 : Addr.add ⟨bw, 0, none⟩ j = ⟨bw, j, none⟩ := by simp [Addr.add]; exact fun h => h.symm
          rw [e1, (unhide RW).cell j]
          simpa using hj
        refine step_append_lies _ rfl _ _ 24 rfl (xb + 1) 40 i0 _ 3 40 Try.underlying24 hi hz0 hz1 hz2 rfl (by decide) v1 _ _ rfl (unhide OW) ⟨bw, 0, none⟩ 1 1 [.string ⟨#[107]⟩, .string zz, .bool false] (by rw [hbq]; rfl) rfl hnews (by simp [Value.oneCell']) (by decide) (by unfold maxLen; omega) (by omega) hsz1 _ rfl ?_
        intro g2 cp2 w4 ow4 gr4 _ _
        change K20123 (Act.put _ (some 131) _) _
        simp only [Act.put, List.setIfInBounds_toArray, List.set_cons_zero, List.set_cons_succ]
        refine hK20123.out _ _ ?hs20123 (fun hHeld20123 => ?_)
        case hs20123 => exact (gr4.block _ hHeld.lt hnx).trans hHeld
        clear hHeld
        have hHeld := hHeld20123; clear hHeld20123 hK20123 K20123
        refine wpAnyH_take (i := 9) (oi := ?oi20124) (v := ?v20124) ?hi20124 (by kernel_rfl) (by kernel_rfl) (by kernel_rfl) (fun _ _ _ h => h) (Or.inl ⟨?hw20124, ?hy20124⟩) (by assumption) ?rest20124
        case hi20124 => (simp only [List.getElem?_toArray, List.getElem?_cons_zero, List.getElem?_cons_succ]; rfl)
        case hw20124 => rfl
        case hy20124 => first | (intro wx hSw; go_simp; done) | (intro wx hSw; go_simp; with_reducible rfl)
        simp only [Act.put, List.setIfInBounds_toArray, List.set_cons_zero, List.set_cons_succ]
        have k4 : Blk V.heap.size #[.int .i64 c.kind, .int .i64 c.id, .int .i64 c.txn, .bool c.com, .slice q c.ws.length cap, .string c.text] 26 w4 := (gr4.block _ (unhide HC1).lt hnv).trans (unhide HC1)
        have hB4 : Below V.heap.size V w4 := (unhide HB1).grown gr4 (unhide HB1).size (fun j e => by have h9 := ((unhide OW).lt _ e).1; omega)
        have l4 := k4.lt
        have z4 := k4.cell 4
        have zf4 := k4.froz 4
        simp at z4
        refine wpAnyH_ready (rs := [10]) (by kernel_rfl) (by simp) ?_
        refine AllReadyH.cons rfl (fun K20125 hK20125 => ?_) AllReadyH.nil
        go_simp
        refine hK20125.out _ _ ?hs20125 (fun hHeld20125 => ?_)
        case hs20125 => exact blk_far1 hHeld (by omega)
        clear hHeld
        have hHeld := hHeld20125; clear hHeld20125 hK20125 K20125
        refine wpAnyH_done (by kernel_rfl) ?_ _
        refine NoPanic.normal ?_
        skip
        exact unhide FIN g2 cp2 w4 _ (by kernel_rfl) ow4 k4 hB4
    refine AllReadyH.cons rfl (fun K20126 hK20126 => ?_) AllReadyH.nil
    · go_simp
      refine hK20126.out _ _ ?hs20126 (fun hHeld20126 => ?_)
      case hs20126 => exact hHeld.below (below_new _ _)
      clear hHeld
      have hHeld := hHeld20126; clear hHeld20126 hK20126 K20126
      have hgl := (unhide RE).lt
      have hb := below_new Y26 (.cells #[.string ⟨#[107]⟩, .string zz, .bool false] 40)
      have hbs := hb.size
      replace HC1 := hide ((unhide HC1).below hb)
      replace HW1 := hide ((unhide HW1).below hb)
      replace HB1 := hide (Below.onto (unhide HB1) hb)
      replace hsz1 := Nat.le_trans hsz1 hbs
      replace RE := hide ((unhide RE).below hb)
      have RW := hide (Blk.new Y26 #[.string ⟨#[107]⟩, .string zz, .bool false] 40)
      obtain ⟨bw, hbq⟩ : ∃ b, b = Y26.heap.size := ⟨_, rfl⟩
      rw [← hbq] at RW
      have hbg : bw ≠ ge := by omega
      have hsY : Y26.heap.size < (Y26.alloc (.cells #[.string ⟨#[107]⟩, .string zz, .bool false] 40)).heap.size := by simp
      generalize Y26.alloc (.cells #[.string ⟨#[107]⟩, .string zz, .bool false] 40) = Y32 at *
      clear hb
      refine wpAnyH_ready (rs := [2]) (by kernel_rfl) (by simp) ?_
      refine AllReadyH.cons rfl (fun K20127 hK20127 => ?_) AllReadyH.nil
      have z1 := (unhide HC1).cell 4
      have zf1 := (unhide HC1).froz 4
      have zl1 := (unhide HC1).lt
      simp at z1
      go_simp
      refine hK20127.out _ _ ?hs20127 (fun hHeld20127 => ?_)
      case hs20127 => exact hHeld
      clear hHeld
      have hHeld := hHeld20127; clear hHeld20127 hK20127 K20127
      clear z1 zf1 zl1
      refine wpAnyH_ready (rs := [3]) (by kernel_rfl) (by simp) ?_
      refine AllReadyH.cons rfl (fun K20128 hK20128 => ?_) AllReadyH.nil
      refine step_app0 rfl _ _ rfl Y32 ge q c.ws cap (by rw [hgq]; rfl) rfl (unhide RE) (unhide HW1) (by omega) (xb + 1) hgx ?_
      intro v1 Y34 ow1 gr1
      change K20128 (Act.put _ (some 126) _) _
      simp only [Act.put, List.setIfInBounds_toArray, List.set_cons_zero, List.set_cons_succ]
      refine hK20128.out _ _ ?hs20128 (fun hHeld20128 => ?_)
      case hs20128 => exact gr_blk hHeld gr1 (by omega)
      clear hHeld
      have hHeld := hHeld20128; clear hHeld20128 hK20128 K20128
      replace HB1 := hide (gr_below (unhide HB1) gr1 (by omega) (unhide HB1).size)
      replace HC1 := hide (gr_blk (unhide HC1) gr1 (by omega))
      replace hsz1 := Nat.le_trans hsz1 gr1.size
      have OW := hide ow1
      replace RW := hide (gr_blk (unhide RW) gr1 hbg)
      have hbs2 := gr1.size
      clear gr1 ow1 RE HW1
      refine wpAnyH_ready (rs := [8]) (by kernel_rfl) (by simp) ?_
      refine AllReadyH.cons rfl (fun K20129 hK20129 => ?_) AllReadyH.nil
      have hnv : some V.heap.size ≠ v1.ownBlock := fun e => by have h9 := ((unhide OW).lt _ e.symm).1; omega
      have hnx : some xb ≠ v1.ownBlock := fun e => by have h9 := ((unhide OW).lt _ e.symm).1; omega
      have hnews : ∀ j u, ([.string ⟨#[107]⟩, .string zz, .bool false] : List Value)[j]? = some u → Y34.cell? (Addr.add ⟨bw, 0, none⟩ j) = some u := fun j u hj => by
        have e1 : Addr.add ⟨bw, 0, none⟩ j = ⟨bw, j, none⟩ := by simp [Addr.add]; exact fun h => h.symm
        rw [e1, (unhide RW).cell j]
        simpa using hj
      refine step_append_lies _ rfl _ _ 24 rfl (xb + 1) 40 i0 _ 3 40 Try.underlying24 hi hz0 hz1 hz2 rfl (by decide) v1 _ _ rfl (unhide OW) ⟨bw, 0, none⟩ 1 1 [.string ⟨#[107]⟩, .string zz, .bool false] (by rw [hbq]; rfl) rfl hnews (by simp [Value.oneCell']) (by decide) (by unfold maxLen; omega) (by omega) hsz1 _ rfl ?_
      intro g2 cp2 w4 ow4 gr4 _ _
      change K20129 (Act.put _ (some 131) _) _
      simp only [Act.put, List.setIfInBounds_toArray, List.set_cons_zero, List.set_cons_succ]
      refine hK20129.out _ _ ?hs20129 (fun hHeld20129 => ?_)
      case hs20129 => exact (gr4.block _ hHeld.lt hnx).trans hHeld
      clear hHeld
      have hHeld := hHeld20129; clear hHeld20129 hK20129 K20129
      refine wpAnyH_take (i := 9) (oi := ?oi20130) (v := ?v20130) ?hi20130 (by kernel_rfl) (by kernel_rfl) (by kernel_rfl) (fun _ _ _ h => h) (Or.inl ⟨?hw20130, ?hy20130⟩) (by assumption) ?rest20130
      case hi20130 => (simp only [List.getElem?_toArray, List.getElem?_cons_zero, List.getElem?_cons_succ]; rfl)
      case hw20130 => rfl
      case hy20130 => first | (intro wx hSw; go_simp; done) | (intro wx hSw; go_simp; with_reducible rfl)
      simp only [Act.put, List.setIfInBounds_toArray, List.set_cons_zero, List.set_cons_succ]
      have k4 : Blk V.heap.size #[.int .i64 c.kind, .int .i64 c.id, .int .i64 c.txn, .bool c.com, .slice q c.ws.length cap, .string c.text] 26 w4 := (gr4.block _ (unhide HC1).lt hnv).trans (unhide HC1)
      have hB4 : Below V.heap.size V w4 := (unhide HB1).grown gr4 (unhide HB1).size (fun j e => by have h9 := ((unhide OW).lt _ e).1; omega)
      have l4 := k4.lt
      have z4 := k4.cell 4
      have zf4 := k4.froz 4
      simp at z4
      refine wpAnyH_ready (rs := [10]) (by kernel_rfl) (by simp) ?_
      refine AllReadyH.cons rfl (fun K20131 hK20131 => ?_) AllReadyH.nil
      go_simp
      refine hK20131.out _ _ ?hs20131 (fun hHeld20131 => ?_)
      case hs20131 => exact blk_far1 hHeld (by omega)
      clear hHeld
      have hHeld := hHeld20131; clear hHeld20131 hK20131 K20131
      refine wpAnyH_done (by kernel_rfl) ?_ _
      refine NoPanic.normal ?_
      skip
      exact unhide FIN g2 cp2 w4 _ (by kernel_rfl) ow4 k4 hB4
  refine AllReadyH.cons rfl (fun K20132 hK20132 => ?_) ?_
  · have z1 := (unhide HC1).cell 4
    have zf1 := (unhide HC1).froz 4
    have zl1 := (unhide HC1).lt
    simp at z1
    go_simp
    refine hK20132.out _ _ ?hs20132 (fun hHeld20132 => ?_)
    case hs20132 => exact hHeld
    clear hHeld
    have hHeld := hHeld20132; clear hHeld20132 hK20132 K20132
    clear z1 zf1 zl1
    refine wpAnyH_ready (rs := [0, 7]) (by kernel_rfl) (by simp) ?_
    refine AllReadyH.cons rfl (fun K20133 hK20133 => ?_) ?_
    · go_simp
      refine hK20133.out _ _ ?hs20133 (fun hHeld20133 => ?_)
      case hs20133 => exact hHeld.below (below_new _ _)
      clear hHeld
      have hHeld := hHeld20133; clear hHeld20133 hK20133 K20133
      have hgx0 := hsz1
      have hb := below_new Yd (.cells #[] 40)
      have hbs := hb.size
      replace HC1 := hide ((unhide HC1).below hb)
      replace HW1 := hide ((unhide HW1).below hb)
      replace HB1 := hide (Below.onto (unhide HB1) hb)
      replace hsz1 := Nat.le_trans hsz1 hbs
      have RE := hide (Blk.new Yd #[] 40)
      obtain ⟨ge, hgq⟩ : ∃ b, b = Yd.heap.size := ⟨_, rfl⟩
      rw [← hgq] at RE
      have hgx : xb + 1 ≤ ge := by omega
      generalize Yd.alloc (.cells #[] 40) = Y36 at *
      clear hb
      refine wpAnyH_ready (rs := [3, 7]) (by kernel_rfl) (by simp) ?_
      refine AllReadyH.cons rfl (fun K20134 hK20134 => ?_) ?_
      · refine step_app0 rfl _ _ rfl Y36 ge q c.ws cap (by rw [hgq]; rfl) rfl (unhide RE) (unhide HW1) (by omega) (xb + 1) hgx ?_
        intro v1 Y37 ow1 gr1
        change K20134 (Act.put _ (some 126) _) _
        simp only [Act.put, List.setIfInBounds_toArray, List.set_cons_zero, List.set_cons_succ]
        refine hK20134.out _ _ ?hs20134 (fun hHeld20134 => ?_)
        case hs20134 => exact gr_blk hHeld gr1 (by omega)
        clear hHeld
        have hHeld := hHeld20134; clear hHeld20134 hK20134 K20134
        replace HB1 := hide (gr_below (unhide HB1) gr1 (by omega) (unhide HB1).size)
        replace HC1 := hide (gr_blk (unhide HC1) gr1 (by omega))
        replace hsz1 := Nat.le_trans hsz1 gr1.size
        have OW := hide ow1
        clear gr1 ow1 RE HW1
        refine wpAnyH_ready (rs := [7]) (by kernel_rfl) (by simp) ?_
        refine AllReadyH.cons rfl (fun K20135 hK20135 => ?_) AllReadyH.nil
        go_simp
        refine hK20135.out _ _ ?hs20135 (fun hHeld20135 => ?_)
        case hs20135 => exact hHeld.below (below_new _ _)
        clear hHeld
        have hHeld := hHeld20135; clear hHeld20135 hK20135 K20135
        have hb := below_new Y37 (.cells #[.string ⟨#[107]⟩, .string zz, .bool false] 40)
        have hbs := hb.size
        replace HC1 := hide ((unhide HC1).below hb)
        replace HB1 := hide (Below.onto (unhide HB1) hb)
        replace hsz1 := Nat.le_trans hsz1 hbs
        replace OW := hide ((unhide OW).alloc (.cells #[.string ⟨#[107]⟩, .string zz, .bool false] 40))
        have RW := hide (Blk.new Y37 #[.string ⟨#[107]⟩, .string zz, .bool false] 40)
        obtain ⟨bw, hbq⟩ : ∃ b, b = Y37.heap.size := ⟨_, rfl⟩
        rw [← hbq] at RW
        have hsY : Y37.heap.size < (Y37.alloc (.cells #[.string ⟨#[107]⟩, .string zz, .bool false] 40)).heap.size := by simp
        generalize Y37.alloc (.cells #[.string ⟨#[107]⟩, .string zz, .bool false] 40) = Y38 at *
        clear hb
        refine wpAnyH_ready (rs := [8]) (by kernel_rfl) (by simp) ?_
        refine AllReadyH.cons rfl (fun K20136 hK20136 => ?_) AllReadyH.nil
        have hnv : some V.heap.size ≠ v1.ownBlock := fun e => by have h9 := ((unhide OW).lt _ e.symm).1; omega
        have hnx : some xb ≠ v1.ownBlock := fun e => by have h9 := ((unhide OW).lt _ e.symm).1; omega
        have hnews : ∀ j u, ([.string ⟨#[107]⟩, .string zz, .bool false] : List Value)[j]? = some u → Y38.cell? (Addr.add ⟨bw, 0, none⟩ j) = some u := fun j u hj => by
          have e1 : Addr.add ⟨bw, 0, none⟩ j = ⟨bw, j, none⟩ := by simp [Addr.add]; exact fun h => h.symm
          rw [e1, (unhide RW).cell j]
          simpa using hj
        refine step_append_lies _ rfl _ _ 24 rfl (xb + 1) 40 i0 _ 3 40 Try.underlying24 hi hz0 hz1 hz2 rfl (by decide) v1 _ _ rfl (unhide OW) ⟨bw, 0, none⟩ 1 1 [.string ⟨#[107]⟩, .string zz, .bool false] (by rw [hbq]; rfl) rfl hnews (by simp [Value.oneCell']) (by decide) (by unfold maxLen; omega) (by omega) hsz1 _ rfl ?_
        intro g2 cp2 w4 ow4 gr4 _ _
        change K20136 (Act.put _ (some 131) _) _
        simp only [Act.put, List.setIfInBounds_toArray, List.set_cons_zero, List.set_cons_succ]
        refine hK20136.out _ _ ?hs20136 (fun hHeld20136 => ?_)
        case hs20136 => exact (gr4.block _ hHeld.lt hnx).trans hHeld
        clear hHeld
        have hHeld := hHeld20136; clear hHeld20136 hK20136 K20136
        refine wpAnyH_take (i := 9) (oi := ?oi20137) (v := ?v20137) ?hi20137 (by kernel_rfl) (by kernel_rfl) (by kernel_rfl) (fun _ _ _ h => h) (Or.inl ⟨?hw20137, ?hy20137⟩) (by assumption) ?rest20137
        case hi20137 => (simp only [List.getElem?_toArray, List.getElem?_cons_zero, List.getElem?_cons_succ]; rfl)
        case hw20137 => rfl
        case hy20137 => first | (intro wx hSw; go_simp; done) | (intro wx hSw; go_simp; with_reducible rfl)
        simp only [Act.put, List.setIfInBounds_toArray, List.set_cons_zero, List.set_cons_succ]
        have k4 : Blk V.heap.size #[.int .i64 c.kind, .int .i64 c.id, .int .i64 c.txn, .bool c.com, .slice q c.ws.length cap, .string c.text] 26 w4 := (gr4.block _ (unhide HC1).lt hnv).trans (unhide HC1)
        have hB4 : Below V.heap.size V w4 := (unhide HB1).grown gr4 (unhide HB1).size (fun j e => by have h9 := ((unhide OW).lt _ e).1; omega)
        have l4 := k4.lt
        have z4 := k4.cell 4
        have zf4 := k4.froz 4
        simp at z4
        refine wpAnyH_ready (rs := [10]) (by kernel_rfl) (by simp) ?_
        refine AllReadyH.cons rfl (fun K20138 hK20138 => ?_) AllReadyH.nil
        go_simp
        refine hK20138.out _ _ ?hs20138 (fun hHeld20138 => ?_)
        case hs20138 => exact blk_far1 hHeld (by omega)
        clear hHeld
        have hHeld := hHeld20138; clear hHeld20138 hK20138 K20138
        refine wpAnyH_done (by kernel_rfl) ?_ _
        refine NoPanic.normal ?_
        skip
        exact unhide FIN g2 cp2 w4 _ (by kernel_rfl) ow4 k4 hB4
      refine AllReadyH.cons rfl (fun K20139 hK20139 => ?_) AllReadyH.nil
      · go_simp
        refine hK20139.out _ _ ?hs20139 (fun hHeld20139 => ?_)
        case hs20139 => exact hHeld.below (below_new _ _)
        clear hHeld
        have hHeld := hHeld20139; clear hHeld20139 hK20139 K20139
        have hgl := (unhide RE).lt
        have hb := below_new Y36 (.cells #[.string ⟨#[107]⟩, .string zz, .bool false] 40)
        have hbs := hb.size
        replace HC1 := hide ((unhide HC1).below hb)
        replace HW1 := hide ((unhide HW1).below hb)
        replace HB1 := hide (Below.onto (unhide HB1) hb)
        replace hsz1 := Nat.le_trans hsz1 hbs
        replace RE := hide ((unhide RE).below hb)
        have RW := hide (Blk.new Y36 #[.string ⟨#[107]⟩, .string zz, .bool false] 40)
        obtain ⟨bw, hbq⟩ : ∃ b, b = Y36.heap.size := ⟨_, rfl⟩
        rw [← hbq] at RW
        have hbg : bw ≠ ge := by omega
        have hsY : Y36.heap.size < (Y36.alloc (.cells #[.string ⟨#[107]⟩, .string zz, .bool false] 40)).heap.size := by simp
        generalize Y36.alloc (.cells #[.string ⟨#[107]⟩, .string zz, .bool false] 40) = Y39 at *
        clear hb
        refine wpAnyH_ready (rs := [3]) (by kernel_rfl) (by simp) ?_
        refine AllReadyH.cons rfl (fun K20140 hK20140 => ?_) AllReadyH.nil
        refine step_app0 rfl _ _ rfl Y39 ge q c.ws cap (by rw [hgq]; rfl) rfl (unhide RE) (unhide HW1) (by omega) (xb + 1) hgx ?_
        intro v1 Y40 ow1 gr1
        change K20140 (Act.put _ (some 126) _) _
        simp only [Act.put, List.setIfInBounds_toArray, List.set_cons_zero, List.set_cons_succ]
        refine hK20140.out _ _ ?hs20140 (fun hHeld20140 => ?_)
        case hs20140 => exact gr_blk hHeld gr1 (by omega)
        clear hHeld
        have hHeld := hHeld20140; clear hHeld20140 hK20140 K20140
        replace HB1 := hide (gr_below (unhide HB1) gr1 (by omega) (unhide HB1).size)
        replace HC1 := hide (gr_blk (unhide HC1) gr1 (by omega))
        replace hsz1 := Nat.le_trans hsz1 gr1.size
        have OW := hide ow1
        replace RW := hide (gr_blk (unhide RW) gr1 hbg)
        have hbs2 := gr1.size
        clear gr1 ow1 RE HW1
        refine wpAnyH_ready (rs := [8]) (by kernel_rfl) (by simp) ?_
        refine AllReadyH.cons rfl (fun K20141 hK20141 => ?_) AllReadyH.nil
        have hnv : some V.heap.size ≠ v1.ownBlock := fun e => by have h9 := ((unhide OW).lt _ e.symm).1; omega
        have hnx : some xb ≠ v1.ownBlock := fun e => by have h9 := ((unhide OW).lt _ e.symm).1; omega
        have hnews : ∀ j u, ([.string ⟨#[107]⟩, .string zz, .bool false] : List Value)[j]? = some u → Y40.cell? (Addr.add ⟨bw, 0, none⟩ j) = some u := fun j u hj => by
          have e1 : Addr.add ⟨bw, 0, none⟩ j = ⟨bw, j, none⟩ := by simp [Addr.add]; exact fun h => h.symm
          rw [e1, (unhide RW).cell j]
          simpa using hj
        refine step_append_lies _ rfl _ _ 24 rfl (xb + 1) 40 i0 _ 3 40 Try.underlying24 hi hz0 hz1 hz2 rfl (by decide) v1 _ _ rfl (unhide OW) ⟨bw, 0, none⟩ 1 1 [.string ⟨#[107]⟩, .string zz, .bool false] (by rw [hbq]; rfl) rfl hnews (by simp [Value.oneCell']) (by decide) (by unfold maxLen; omega) (by omega) hsz1 _ rfl ?_
        intro g2 cp2 w4 ow4 gr4 _ _
        change K20141 (Act.put _ (some 131) _) _
        simp only [Act.put, List.setIfInBounds_toArray, List.set_cons_zero, List.set_cons_succ]
        refine hK20141.out _ _ ?hs20141 (fun hHeld20141 => ?_)
        case hs20141 => exact (gr4.block _ hHeld.lt hnx).trans hHeld
        clear hHeld
        have hHeld := hHeld20141; clear hHeld20141 hK20141 K20141
        refine wpAnyH_take (i := 9) (oi := ?oi20142) (v := ?v20142) ?hi20142 (by kernel_rfl) (by kernel_rfl) (by kernel_rfl) (fun _ _ _ h => h) (Or.inl ⟨?hw20142, ?hy20142⟩) (by assumption) ?rest20142
        case hi20142 => (simp only [List.getElem?_toArray, List.getElem?_cons_zero, List.getElem?_cons_succ]; rfl)
        case hw20142 => rfl
        case hy20142 => first | (intro wx hSw; go_simp; done) | (intro wx hSw; go_simp; with_reducible rfl)
        simp only [Act.put, List.setIfInBounds_toArray, List.set_cons_zero, List.set_cons_succ]
        have k4 : Blk V.heap.size #[.int .i64 c.kind, .int .i64 c.id, .int .i64 c.txn, .bool c.com, .slice q c.ws.length cap, .string c.text] 26 w4 := (gr4.block _ (unhide HC1).lt hnv).trans (unhide HC1)
        have hB4 : Below V.heap.size V w4 := (unhide HB1).grown gr4 (unhide HB1).size (fun j e => by have h9 := ((unhide OW).lt _ e).1; omega)
        have l4 := k4.lt
        have z4 := k4.cell 4
        have zf4 := k4.froz 4
        simp at z4
        refine wpAnyH_ready (rs := [10]) (by kernel_rfl) (by simp) ?_
        refine AllReadyH.cons rfl (fun K20143 hK20143 => ?_) AllReadyH.nil
        go_simp
        refine hK20143.out _ _ ?hs20143 (fun hHeld20143 => ?_)
        case hs20143 => exact blk_far1 hHeld (by omega)
        clear hHeld
        have hHeld := hHeld20143; clear hHeld20143 hK20143 K20143
        refine wpAnyH_done (by kernel_rfl) ?_ _
        refine NoPanic.normal ?_
        skip
        exact unhide FIN g2 cp2 w4 _ (by kernel_rfl) ow4 k4 hB4
    refine AllReadyH.cons rfl (fun K20144 hK20144 => ?_) AllReadyH.nil
    · go_simp
      refine hK20144.out _ _ ?hs20144 (fun hHeld20144 => ?_)
      case hs20144 => exact hHeld.below (below_new _ _)
      clear hHeld
      have hHeld := hHeld20144; clear hHeld20144 hK20144 K20144
      have hb := below_new Yd (.cells #[.string ⟨#[107]⟩, .string zz, .bool false] 40)
      have hbs := hb.size
      replace HC1 := hide ((unhide HC1).below hb)
      replace HW1 := hide ((unhide HW1).below hb)
      replace HB1 := hide (Below.onto (unhide HB1) hb)
      replace hsz1 := Nat.le_trans hsz1 hbs
      have RW := hide (Blk.new Yd #[.string ⟨#[107]⟩, .string zz, .bool false] 40)
      obtain ⟨bw, hbq⟩ : ∃ b, b = Yd.heap.size := ⟨_, rfl⟩
      rw [← hbq] at RW
      have hsY : Yd.heap.size < (Yd.alloc (.cells #[.string ⟨#[107]⟩, .string zz, .bool false] 40)).heap.size := by simp
      generalize Yd.alloc (.cells #[.string ⟨#[107]⟩, .string zz, .bool false] 40) = Y41 at *
      clear hb
      refine wpAnyH_ready (rs := [0]) (by kernel_rfl) (by simp) ?_
      refine AllReadyH.cons rfl (fun K20145 hK20145 => ?_) AllReadyH.nil
      go_simp
      refine hK20145.out _ _ ?hs20145 (fun hHeld20145 => ?_)
      case hs20145 => exact hHeld.below (below_new _ _)
      clear hHeld
      have hHeld := hHeld20145; clear hHeld20145 hK20145 K20145
      have hgx0 := hsz1
      have hb := below_new Y41 (.cells #[] 40)
      have hbs := hb.size
      replace HC1 := hide ((unhide HC1).below hb)
      replace HW1 := hide ((unhide HW1).below hb)
      replace HB1 := hide (Below.onto (unhide HB1) hb)
      replace hsz1 := Nat.le_trans hsz1 hbs
      replace RW := hide ((unhide RW).below hb)
      have RE := hide (Blk.new Y41 #[] 40)
      obtain ⟨ge, hgq⟩ : ∃ b, b = Y41.heap.size := ⟨_, rfl⟩
      rw [← hgq] at RE
      have hgx : xb + 1 ≤ ge := by omega
      have hbg : bw ≠ ge := by omega
      generalize Y41.alloc (.cells #[] 40) = Y42 at *
      clear hb
      refine wpAnyH_ready (rs := [3]) (by kernel_rfl) (by simp) ?_
      refine AllReadyH.cons rfl (fun K20146 hK20146 => ?_) AllReadyH.nil
      refine step_app0 rfl _ _ rfl Y42 ge q c.ws cap (by rw [hgq]; rfl) rfl (unhide RE) (unhide HW1) (by omega) (xb + 1) hgx ?_
      intro v1 Y43 ow1 gr1
      change K20146 (Act.put _ (some 126) _) _
      simp only [Act.put, List.setIfInBounds_toArray, List.set_cons_zero, List.set_cons_succ]
      refine hK20146.out _ _ ?hs20146 (fun hHeld20146 => ?_)
      case hs20146 => exact gr_blk hHeld gr1 (by omega)
      clear hHeld
      have hHeld := hHeld20146; clear hHeld20146 hK20146 K20146
      replace HB1 := hide (gr_below (unhide HB1) gr1 (by omega) (unhide HB1).size)
      replace HC1 := hide (gr_blk (unhide HC1) gr1 (by omega))
      replace hsz1 := Nat.le_trans hsz1 gr1.size
      have OW := hide ow1
      replace RW := hide (gr_blk (unhide RW) gr1 hbg)
      have hbs2 := gr1.size
      clear gr1 ow1 RE HW1
      refine wpAnyH_ready (rs := [8]) (by kernel_rfl) (by simp) ?_
      refine AllReadyH.cons rfl (fun K20147 hK20147 => ?_) AllReadyH.nil
      have hnv : some V.heap.size ≠ v1.ownBlock := fun e => by have h9 := ((unhide OW).lt _ e.symm).1; omega
      have hnx : some xb ≠ v1.ownBlock := fun e => by have h9 := ((unhide OW).lt _ e.symm).1; omega
      have hnews : ∀ j u, ([.string ⟨#[107]⟩, .string zz, .bool false] : List Value)[j]? = some u → Y43.cell? (Addr.add ⟨bw, 0, none⟩ j) = some u := fun j u hj => by
        have e1 : Addr.add ⟨bw, 0, none⟩ j = ⟨bw, j, none⟩ := by simp [Addr.add]; exact fun h => h.symm
        rw [e1, (unhide RW).cell j]
        simpa using hj
      refine step_append_lies _ rfl _ _ 24 rfl (xb + 1) 40 i0 _ 3 40 Try.underlying24 hi hz0 hz1 hz2 rfl (by decide) v1 _ _ rfl (unhide OW) ⟨bw, 0, none⟩ 1 1 [.string ⟨#[107]⟩, .string zz, .bool false] (by rw [hbq]; rfl) rfl hnews (by simp [Value.oneCell']) (by decide) (by unfold maxLen; omega) (by omega) hsz1 _ rfl ?_
      intro g2 cp2 w4 ow4 gr4 _ _
      change K20147 (Act.put _ (some 131) _) _
      simp only [Act.put, List.setIfInBounds_toArray, List.set_cons_zero, List.set_cons_succ]
      refine hK20147.out _ _ ?hs20147 (fun hHeld20147 => ?_)
      case hs20147 => exact (gr4.block _ hHeld.lt hnx).trans hHeld
      clear hHeld
      have hHeld := hHeld20147; clear hHeld20147 hK20147 K20147
      refine wpAnyH_take (i := 9) (oi := ?oi20148) (v := ?v20148) ?hi20148 (by kernel_rfl) (by kernel_rfl) (by kernel_rfl) (fun _ _ _ h => h) (Or.inl ⟨?hw20148, ?hy20148⟩) (by assumption) ?rest20148
      case hi20148 => (simp only [List.getElem?_toArray, List.getElem?_cons_zero, List.getElem?_cons_succ]; rfl)
      case hw20148 => rfl
      case hy20148 => first | (intro wx hSw; go_simp; done) | (intro wx hSw; go_simp; with_reducible rfl)
      simp only [Act.put, List.setIfInBounds_toArray, List.set_cons_zero, List.set_cons_succ]
      have k4 : Blk V.heap.size #[.int .i64 c.kind, .int .i64 c.id, .int .i64 c.txn, .bool c.com, .slice q c.ws.length cap, .string c.text] 26 w4 := (gr4.block _ (unhide HC1).lt hnv).trans (unhide HC1)
      have hB4 : Below V.heap.size V w4 := (unhide HB1).grown gr4 (unhide HB1).size (fun j e => by have h9 := ((unhide OW).lt _ e).1; omega)
      have l4 := k4.lt
      have z4 := k4.cell 4
      have zf4 := k4.froz 4
      simp at z4
      refine wpAnyH_ready (rs := [10]) (by kernel_rfl) (by simp) ?_
      refine AllReadyH.cons rfl (fun K20149 hK20149 => ?_) AllReadyH.nil
      go_simp
      refine hK20149.out _ _ ?hs20149 (fun hHeld20149 => ?_)
      case hs20149 => exact blk_far1 hHeld (by omega)
      clear hHeld
      have hHeld := hHeld20149; clear hHeld20149 hK20149 K20149
      refine wpAnyH_done (by kernel_rfl) ?_ _
      refine NoPanic.normal ?_
      skip
      exact unhide FIN g2 cp2 w4 _ (by kernel_rfl) ow4 k4 hB4
  refine AllReadyH.cons rfl (fun K20150 hK20150 => ?_) AllReadyH.nil
  · go_simp
    refine hK20150.out _ _ ?hs20150 (fun hHeld20150 => ?_)
    case hs20150 => exact hHeld.below (below_new _ _)
    clear hHeld
    have hHeld := hHeld20150; clear hHeld20150 hK20150 K20150
    have hb := below_new Yd (.cells #[.string ⟨#[107]⟩, .string zz, .bool false] 40)
    have hbs := hb.size
    replace HC1 := hide ((unhide HC1).below hb)
    replace HW1 := hide ((unhide HW1).below hb)
    replace HB1 := hide (Below.onto (unhide HB1) hb)
    replace hsz1 := Nat.le_trans hsz1 hbs
    have RW := hide (Blk.new Yd #[.string ⟨#[107]⟩, .string zz, .bool false] 40)
    obtain ⟨bw, hbq⟩ : ∃ b, b = Yd.heap.size := ⟨_, rfl⟩
    rw [← hbq] at RW
    have hsY : Yd.heap.size < (Yd.alloc (.cells #[.string ⟨#[107]⟩, .string zz, .bool false] 40)).heap.size := by simp
    generalize Yd.alloc (.cells #[.string ⟨#[107]⟩, .string zz, .bool false] 40) = Y44 at *
    clear hb
    refine wpAnyH_ready (rs := [0, 2]) (by kernel_rfl) (by simp) ?_
    refine AllReadyH.cons rfl (fun K20151 hK20151 => ?_) ?_
    · go_simp
      refine hK20151.out _ _ ?hs20151 (fun hHeld20151 => ?_)
      case hs20151 => exact hHeld.below (below_new _ _)
      clear hHeld
      have hHeld := hHeld20151; clear hHeld20151 hK20151 K20151
      have hgx0 := hsz1
      have hb := below_new Y44 (.cells #[] 40)
      have hbs := hb.size
      replace HC1 := hide ((unhide HC1).below hb)
      replace HW1 := hide ((unhide HW1).below hb)
      replace HB1 := hide (Below.onto (unhide HB1) hb)
      replace hsz1 := Nat.le_trans hsz1 hbs
      replace RW := hide ((unhide RW).below hb)
      have RE := hide (Blk.new Y44 #[] 40)
      obtain ⟨ge, hgq⟩ : ∃ b, b = Y44.heap.size := ⟨_, rfl⟩
      rw [← hgq] at RE
      have hgx : xb + 1 ≤ ge := by omega
      have hbg : bw ≠ ge := by omega
      generalize Y44.alloc (.cells #[] 40) = Y45 at *
      clear hb
      refine wpAnyH_ready (rs := [2]) (by kernel_rfl) (by simp) ?_
      refine AllReadyH.cons rfl (fun K20152 hK20152 => ?_) AllReadyH.nil
      have z1 := (unhide HC1).cell 4
      have zf1 := (unhide HC1).froz 4
      have zl1 := (unhide HC1).lt
      simp at z1
      go_simp
      refine hK20152.out _ _ ?hs20152 (fun hHeld20152 => ?_)
      case hs20152 => exact hHeld
      clear hHeld
      have hHeld := hHeld20152; clear hHeld20152 hK20152 K20152
      clear z1 zf1 zl1
      refine wpAnyH_ready (rs := [3]) (by kernel_rfl) (by simp) ?_
      refine AllReadyH.cons rfl (fun K20153 hK20153 => ?_) AllReadyH.nil
      refine step_app0 rfl _ _ rfl Y45 ge q c.ws cap (by rw [hgq]; rfl) rfl (unhide RE) (unhide HW1) (by omega) (xb + 1) hgx ?_
      intro v1 Y47 ow1 gr1
      change K20153 (Act.put _ (some 126) _) _
      simp only [Act.put, List.setIfInBounds_toArray, List.set_cons_zero, List.set_cons_succ]
      refine hK20153.out _ _ ?hs20153 (fun hHeld20153 => ?_)
      case hs20153 => exact gr_blk hHeld gr1 (by omega)
      clear hHeld
      have hHeld := hHeld20153; clear hHeld20153 hK20153 K20153
      replace HB1 := hide (gr_below (unhide HB1) gr1 (by omega) (unhide HB1).size)
      replace HC1 := hide (gr_blk (unhide HC1) gr1 (by omega))
      replace hsz1 := Nat.le_trans hsz1 gr1.size
      have OW := hide ow1
      replace RW := hide (gr_blk (unhide RW) gr1 hbg)
      have hbs2 := gr1.size
      clear gr1 ow1 RE HW1
      refine wpAnyH_ready (rs := [8]) (by kernel_rfl) (by simp) ?_
      refine AllReadyH.cons rfl (fun K20154 hK20154 => ?_) AllReadyH.nil
      have hnv : some V.heap.size ≠ v1.ownBlock := fun e => by have h9 := ((unhide OW).lt _ e.symm).1; omega
      have hnx : some xb ≠ v1.ownBlock := fun e => by have h9 := ((unhide OW).lt _ e.symm).1; omega
      have hnews : ∀ j u, ([.string ⟨#[107]⟩, .string zz, .bool false] : List Value)[j]? = some u → Y47.cell? (Addr.add ⟨bw, 0, none⟩ j) = some u := fun j u hj => by
        have e1 : Addr.add ⟨bw, 0, none⟩ j = ⟨bw, j, none⟩ := by simp [Addr.add]; exact fun h => h.symm
        rw [e1, (unhide RW).cell j]
        simpa using hj
      refine step_append_lies _ rfl _ _ 24 rfl (xb + 1) 40 i0 _ 3 40 Try.underlying24 hi hz0 hz1 hz2 rfl (by decide) v1 _ _ rfl (unhide OW) ⟨bw, 0, none⟩ 1 1 [.string ⟨#[107]⟩, .string zz, .bool false] (by rw [hbq]; rfl) rfl hnews (by simp [Value.oneCell']) (by decide) (by unfold maxLen; omega) (by omega) hsz1 _ rfl ?_
      intro g2 cp2 w4 ow4 gr4 _ _
      change K20154 (Act.put _ (some 131) _) _
      simp only [Act.put, List.setIfInBounds_toArray, List.set_cons_zero, List.set_cons_succ]
      refine hK20154.out _ _ ?hs20154 (fun hHeld20154 => ?_)
      case hs20154 => exact (gr4.block _ hHeld.lt hnx).trans hHeld
      clear hHeld
      have hHeld := hHeld20154; clear hHeld20154 hK20154 K20154
      refine wpAnyH_take (i := 9) (oi := ?oi20155) (v := ?v20155) ?hi20155 (by kernel_rfl) (by kernel_rfl) (by kernel_rfl) (fun _ _ _ h => h) (Or.inl ⟨?hw20155, ?hy20155⟩) (by assumption) ?rest20155
      case hi20155 => (simp only [List.getElem?_toArray, List.getElem?_cons_zero, List.getElem?_cons_succ]; rfl)
      case hw20155 => rfl
      case hy20155 => first | (intro wx hSw; go_simp; done) | (intro wx hSw; go_simp; with_reducible rfl)
      simp only [Act.put, List.setIfInBounds_toArray, List.set_cons_zero, List.set_cons_succ]
      have k4 : Blk V.heap.size #[.int .i64 c.kind, .int .i64 c.id, .int .i64 c.txn, .bool c.com, .slice q c.ws.length cap, .string c.text] 26 w4 := (gr4.block _ (unhide HC1).lt hnv).trans (unhide HC1)
      have hB4 : Below V.heap.size V w4 := (unhide HB1).grown gr4 (unhide HB1).size (fun j e => by have h9 := ((unhide OW).lt _ e).1; omega)
      have l4 := k4.lt
      have z4 := k4.cell 4
      have zf4 := k4.froz 4
      simp at z4
      refine wpAnyH_ready (rs := [10]) (by kernel_rfl) (by simp) ?_
      refine AllReadyH.cons rfl (fun K20156 hK20156 => ?_) AllReadyH.nil
      go_simp
      refine hK20156.out _ _ ?hs20156 (fun hHeld20156 => ?_)
      case hs20156 => exact blk_far1 hHeld (by omega)
      clear hHeld
      have hHeld := hHeld20156; clear hHeld20156 hK20156 K20156
      refine wpAnyH_done (by kernel_rfl) ?_ _
      refine NoPanic.normal ?_
      skip
      exact unhide FIN g2 cp2 w4 _ (by kernel_rfl) ow4 k4 hB4
    refine AllReadyH.cons rfl (fun K20157 hK20157 => ?_) AllReadyH.nil
    · have z1 := (unhide HC1).cell 4
      have zf1 := (unhide HC1).froz 4
      have zl1 := (unhide HC1).lt
      simp at z1
      go_simp
      refine hK20157.out _ _ ?hs20157 (fun hHeld20157 => ?_)
      case hs20157 => exact hHeld
      clear hHeld
      have hHeld := hHeld20157; clear hHeld20157 hK20157 K20157
      clear z1 zf1 zl1
      refine wpAnyH_ready (rs := [0]) (by kernel_rfl) (by simp) ?_
      refine AllReadyH.cons rfl (fun K20158 hK20158 => ?_) AllReadyH.nil
      go_simp
      refine hK20158.out _ _ ?hs20158 (fun hHeld20158 => ?_)
      case hs20158 => exact hHeld.below (below_new _ _)
      clear hHeld
      have hHeld := hHeld20158; clear hHeld20158 hK20158 K20158
      have hgx0 := hsz1
      have hb := below_new Y44 (.cells #[] 40)
      have hbs := hb.size
      replace HC1 := hide ((unhide HC1).below hb)
      replace HW1 := hide ((unhide HW1).below hb)
      replace HB1 := hide (Below.onto (unhide HB1) hb)
      replace hsz1 := Nat.le_trans hsz1 hbs
      replace RW := hide ((unhide RW).below hb)
      have RE := hide (Blk.new Y44 #[] 40)
      obtain ⟨ge, hgq⟩ : ∃ b, b = Y44.heap.size := ⟨_, rfl⟩
      rw [← hgq] at RE
      have hgx : xb + 1 ≤ ge := by omega
      have hbg : bw ≠ ge := by omega
      generalize Y44.alloc (.cells #[] 40) = Y49 at *
      clear hb
      refine wpAnyH_ready (rs := [3]) (by kernel_rfl) (by simp) ?_
      refine AllReadyH.cons rfl (fun K20159 hK20159 => ?_) AllReadyH.nil
      refine step_app0 rfl _ _ rfl Y49 ge q c.ws cap (by rw [hgq]; rfl) rfl (unhide RE) (unhide HW1) (by omega) (xb + 1) hgx ?_
      intro v1 Y50 ow1 gr1
      change K20159 (Act.put _ (some 126) _) _
      simp only [Act.put, List.setIfInBounds_toArray, List.set_cons_zero, List.set_cons_succ]
      refine hK20159.out _ _ ?hs20159 (fun hHeld20159 => ?_)
      case hs20159 => exact gr_blk hHeld gr1 (by omega)
      clear hHeld
      have hHeld := hHeld20159; clear hHeld20159 hK20159 K20159
      replace HB1 := hide (gr_below (unhide HB1) gr1 (by omega) (unhide HB1).size)
      replace HC1 := hide (gr_blk (unhide HC1) gr1 (by omega))
      replace hsz1 := Nat.le_trans hsz1 gr1.size
      have OW := hide ow1
      replace RW := hide (gr_blk (unhide RW) gr1 hbg)
      have hbs2 := gr1.size
      clear gr1 ow1 RE HW1
      refine wpAnyH_ready (rs := [8]) (by kernel_rfl) (by simp) ?_
      refine AllReadyH.cons rfl (fun K20160 hK20160 => ?_) AllReadyH.nil
      have hnv : some V.heap.size ≠ v1.ownBlock := fun e => by have h9 := ((unhide OW).lt _ e.symm).1; omega
      have hnx : some xb ≠ v1.ownBlock := fun e => by have h9 := ((unhide OW).lt _ e.symm).1; omega
      have hnews : ∀ j u, ([.string ⟨#[107]⟩, .string zz, .bool false] : List Value)[j]? = some u → Y50.cell? (Addr.add ⟨bw, 0, none⟩ j) = some u := fun j u hj => by
        have e1 : Addr.add ⟨bw, 0, none⟩ j = ⟨bw, j, none⟩ := by simp [Addr.add]; exact fun h => h.symm
        rw [e1, (unhide RW).cell j]
        simpa using hj
      refine step_append_lies _ rfl _ _ 24 rfl (xb + 1) 40 i0 _ 3 40 Try.underlying24 hi hz0 hz1 hz2 rfl (by decide) v1 _ _ rfl (unhide OW) ⟨bw, 0, none⟩ 1 1 [.string ⟨#[107]⟩, .string zz, .bool false] (by rw [hbq]; rfl) rfl hnews (by simp [Value.oneCell']) (by decide) (by unfold maxLen; omega) (by omega) hsz1 _ rfl ?_
      intro g2 cp2 w4 ow4 gr4 _ _
      change K20160 (Act.put _ (some 131) _) _
      simp only [Act.put, List.setIfInBounds_toArray, List.set_cons_zero, List.set_cons_succ]
      refine hK20160.out _ _ ?hs20160 (fun hHeld20160 => ?_)
      case hs20160 => exact (gr4.block _ hHeld.lt hnx).trans hHeld
      clear hHeld
      have hHeld := hHeld20160; clear hHeld20160 hK20160 K20160
      refine wpAnyH_take (i := 9) (oi := ?oi20161) (v := ?v20161) ?hi20161 (by kernel_rfl) (by kernel_rfl) (by kernel_rfl) (fun _ _ _ h => h) (Or.inl ⟨?hw20161, ?hy20161⟩) (by assumption) ?rest20161
      case hi20161 => (simp only [List.getElem?_toArray, List.getElem?_cons_zero, List.getElem?_cons_succ]; rfl)
      case hw20161 => rfl
      case hy20161 => first | (intro wx hSw; go_simp; done) | (intro wx hSw; go_simp; with_reducible rfl)
      simp only [Act.put, List.setIfInBounds_toArray, List.set_cons_zero, List.set_cons_succ]
      have k4 : Blk V.heap.size #[.int .i64 c.kind, .int .i64 c.id, .int .i64 c.txn, .bool c.com, .slice q c.ws.length cap, .string c.text] 26 w4 := (gr4.block _ (unhide HC1).lt hnv).trans (unhide HC1)
      have hB4 : Below V.heap.size V w4 := (unhide HB1).grown gr4 (unhide HB1).size (fun j e => by have h9 := ((unhide OW).lt _ e).1; omega)
      have l4 := k4.lt
      have z4 := k4.cell 4
      have zf4 := k4.froz 4
      simp at z4
      refine wpAnyH_ready (rs := [10]) (by kernel_rfl) (by simp) ?_
      refine AllReadyH.cons rfl (fun K20162 hK20162 => ?_) AllReadyH.nil
      go_simp
      refine hK20162.out _ _ ?hs20162 (fun hHeld20162 => ?_)
      case hs20162 => exact blk_far1 hHeld (by omega)
      clear hHeld
      have hHeld := hHeld20162; clear hHeld20162 hK20162 K20162
      refine wpAnyH_done (by kernel_rfl) ?_ _
      refine NoPanic.normal ?_
      skip
      exact unhide FIN g2 cp2 w4 _ (by kernel_rfl) ow4 k4 hB4
end Go.Proofs.Ytjmmfgmmmdbenaa
