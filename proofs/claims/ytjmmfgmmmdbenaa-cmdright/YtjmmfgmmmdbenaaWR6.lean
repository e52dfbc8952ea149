/-
  CmdRight's switch: way 6.
-/
import Derived.Test.YtjmmfgmmmdbenaaWRb
namespace Go.Proofs.Ytjmmfgmmmdbenaa
open Go.RowKit
set_option linter.unusedSimpArgs false
set_option linter.unusedVariables false

set_option maxRecDepth 100000 in
set_option maxHeartbeats 16000000 in
theorem right_sw6 {r0 r1 r2 r3 r4 rest : Code} (hc : Try.f5.body = some (.seq r0 (.seq r1 (.seq r2 (.seq r3 (.seq r4 rest)))))) (w : World) (s : ByteArray) (which vv form : Int) (ac : Act) (b9 : Nat) (V X : World) (ha : ac = ⟨#[ac.tmps.getD 0 undef, ac.tmps.getD 1 undef, ac.tmps.getD 2 undef, ac.tmps.getD 3 undef, ac.tmps.getD 4 undef, .string s, .int .i64 which, .int .i64 vv, .int .i64 form, .pointer (some ⟨b9, 0, none⟩), ac.tmps.getD 10 undef, ac.tmps.getD 11 undef, ac.tmps.getD 12 undef, ac.tmps.getD 13 undef, ac.tmps.getD 14 undef, ac.tmps.getD 15 undef, ac.tmps.getD 16 undef, ac.tmps.getD 17 undef, .bool false, .pointer (some ⟨V.heap.size, 0, none⟩), ac.tmps.getD 20 undef, ac.tmps.getD 21 undef, ac.tmps.getD 22 undef, ac.tmps.getD 23 undef, ac.tmps.getD 24 undef, ac.tmps.getD 25 undef, ac.tmps.getD 26 undef, ac.tmps.getD 27 undef, ac.tmps.getD 28 undef, ac.tmps.getD 29 undef, ac.tmps.getD 30 undef, ac.tmps.getD 31 undef, ac.tmps.getD 32 undef, ac.tmps.getD 33 undef, ac.tmps.getD 34 undef, ac.tmps.getD 35 undef, ac.tmps.getD 36 undef, ac.tmps.getD 37 undef, ac.tmps.getD 38 undef, ac.tmps.getD 39 undef, ac.tmps.getD 40 undef, ac.tmps.getD 41 undef, ac.tmps.getD 42 undef, ac.tmps.getD 43 undef, ac.tmps.getD 44 undef, ac.tmps.getD 45 undef, ac.tmps.getD 46 undef, ac.tmps.getD 47 undef, ac.tmps.getD 48 undef, ac.tmps.getD 49 undef, ac.tmps.getD 50 undef, ac.tmps.getD 51 undef, ac.tmps.getD 52 undef, ac.tmps.getD 53 undef, ac.tmps.getD 54 undef, ac.tmps.getD 55 undef, ac.tmps.getD 56 undef, ac.tmps.getD 57 undef, ac.tmps.getD 58 undef, ac.tmps.getD 59 undef, ac.tmps.getD 60 undef, ac.tmps.getD 61 undef, ac.tmps.getD 62 undef, ac.tmps.getD 63 undef, ac.tmps.getD 64 undef, ac.tmps.getD 65 undef, ac.tmps.getD 66 undef, ac.tmps.getD 67 undef, ac.tmps.getD 68 undef, ac.tmps.getD 69 undef, ac.tmps.getD 70 undef, ac.tmps.getD 71 undef, ac.tmps.getD 72 undef, ac.tmps.getD 73 undef, ac.tmps.getD 74 undef, ac.tmps.getD 75 undef, ac.tmps.getD 76 undef, ac.tmps.getD 77 undef, ac.tmps.getD 78 undef, ac.tmps.getD 79 undef, ac.tmps.getD 80 undef, ac.tmps.getD 81 undef, ac.tmps.getD 82 undef, ac.tmps.getD 83 undef, ac.tmps.getD 84 undef, ac.tmps.getD 85 undef, ac.tmps.getD 86 undef, ac.tmps.getD 87 undef, ac.tmps.getD 88 undef, ac.tmps.getD 89 undef, ac.tmps.getD 90 undef, ac.tmps.getD 91 undef, ac.tmps.getD 92 undef, ac.tmps.getD 93 undef, ac.tmps.getD 94 undef, ac.tmps.getD 95 undef, ac.tmps.getD 96 undef, ac.tmps.getD 97 undef, ac.tmps.getD 98 undef, ac.tmps.getD 99 undef, ac.tmps.getD 100 undef, ac.tmps.getD 101 undef, ac.tmps.getD 102 undef, ac.tmps.getD 103 undef, ac.tmps.getD 104 undef, ac.tmps.getD 105 undef, ac.tmps.getD 106 undef, ac.tmps.getD 107 undef, ac.tmps.getD 108 undef, ac.tmps.getD 109 undef, ac.tmps.getD 110 undef, ac.tmps.getD 111 undef, ac.tmps.getD 112 undef, ac.tmps.getD 113 undef, ac.tmps.getD 114 undef, ac.tmps.getD 115 undef, ac.tmps.getD 116 undef, ac.tmps.getD 117 undef, ac.tmps.getD 118 undef, ac.tmps.getD 119 undef, ac.tmps.getD 120 undef, ac.tmps.getD 121 undef, ac.tmps.getD 122 undef, ac.tmps.getD 123 undef, ac.tmps.getD 124 undef, ac.tmps.getD 125 undef, ac.tmps.getD 126 undef, ac.tmps.getD 127 undef, ac.tmps.getD 128 undef, ac.tmps.getD 129 undef, ac.tmps.getD 130 undef, ac.tmps.getD 131 undef, ac.tmps.getD 132 undef, ac.tmps.getD 133 undef, ac.tmps.getD 134 undef, ac.tmps.getD 135 undef, ac.tmps.getD 136 undef, ac.tmps.getD 137 undef, ac.tmps.getD 138 undef, ac.tmps.getD 139 undef, ac.tmps.getD 140 undef, ac.tmps.getD 141 undef, ac.tmps.getD 142 undef, ac.tmps.getD 143 undef, ac.tmps.getD 144 undef, ac.tmps.getD 145 undef, ac.tmps.getD 146 undef, ac.tmps.getD 147 undef, ac.tmps.getD 148 undef, ac.tmps.getD 149 undef, ac.tmps.getD 150 undef, ac.tmps.getD 151 undef, ac.tmps.getD 152 undef, ac.tmps.getD 153 undef, ac.tmps.getD 154 undef, ac.tmps.getD 155 undef, ac.tmps.getD 156 undef, ac.tmps.getD 157 undef, ac.tmps.getD 158 undef, ac.tmps.getD 159 undef, ac.tmps.getD 160 undef, ac.tmps.getD 161 undef, ac.tmps.getD 162 undef, ac.tmps.getD 163 undef, ac.tmps.getD 164 undef, ac.tmps.getD 165 undef, ac.tmps.getD 166 undef, ac.tmps.getD 167 undef, ac.tmps.getD 168 undef, ac.tmps.getD 169 undef, ac.tmps.getD 170 undef, ac.tmps.getD 171 undef, ac.tmps.getD 172 undef, ac.tmps.getD 173 undef, ac.tmps.getD 174 undef, ac.tmps.getD 175 undef, ac.tmps.getD 176 undef, ac.tmps.getD 177 undef, ac.tmps.getD 178 undef, ac.tmps.getD 179 undef, ac.tmps.getD 180 undef, ac.tmps.getD 181 undef, ac.tmps.getD 182 undef, ac.tmps.getD 183 undef, ac.tmps.getD 184 undef, ac.tmps.getD 185 undef, ac.tmps.getD 186 undef, ac.tmps.getD 187 undef, ac.tmps.getD 188 undef, ac.tmps.getD 189 undef, ac.tmps.getD 190 undef, ac.tmps.getD 191 undef, ac.tmps.getD 192 undef, ac.tmps.getD 193 undef, ac.tmps.getD 194 undef, ac.tmps.getD 195 undef, ac.tmps.getD 196 undef], []⟩) (c d : Cm) (q q2 : Option Addr) (cap cap2 : Nat) (g : GoodC c) (HC : Hid (Blk V.heap.size #[.int .i64 c.kind, .int .i64 c.id, .int .i64 c.txn, .bool c.com, .slice q c.ws.length cap, .string c.text] 26 X)) (HD : Hid (Blk b9 #[.int .i64 d.kind, .int .i64 d.id, .int .i64 d.txn, .bool d.com, .slice q2 d.ws.length cap2, .string d.text] 26 V)) (HW : Hid (WsV q c.ws V)) (HV : Hid (WsV q2 d.ws V)) (HBV : Hid (Below V.heap.size V X)) (HB : Hid (Below w.heap.size w V)) (kw : Is64 which) (kv : Is64 vv) (hs : s.size ≤ 60) (K : Act → World → Prop) (Q : Exit → Act → World → Prop) (hK : Hid (After K w form b9 V d q2 cap2)) (hj : which % 9 = 6) : r4.wp Try.prog (Exit.then K Q) ac X := by
  obtain ⟨u, rfl⟩ : ∃ u : Nat → Value, ac = ⟨#[u 0, u 1, u 2, u 3, u 4, .string s, .int .i64 which, .int .i64 vv, .int .i64 form, .pointer (some ⟨b9, 0, none⟩), u 10, u 11, u 12, u 13, u 14, u 15, u 16, u 17, .bool false, .pointer (some ⟨V.heap.size, 0, none⟩), u 20, u 21, u 22, u 23, u 24, u 25, u 26, u 27, u 28, u 29, u 30, u 31, u 32, u 33, u 34, u 35, u 36, u 37, u 38, u 39, u 40, u 41, u 42, u 43, u 44, u 45, u 46, u 47, u 48, u 49, u 50, u 51, u 52, u 53, u 54, u 55, u 56, u 57, u 58, u 59, u 60, u 61, u 62, u 63, u 64, u 65, u 66, u 67, u 68, u 69, u 70, u 71, u 72, u 73, u 74, u 75, u 76, u 77, u 78, u 79, u 80, u 81, u 82, u 83, u 84, u 85, u 86, u 87, u 88, u 89, u 90, u 91, u 92, u 93, u 94, u 95, u 96, u 97, u 98, u 99, u 100, u 101, u 102, u 103, u 104, u 105, u 106, u 107, u 108, u 109, u 110, u 111, u 112, u 113, u 114, u 115, u 116, u 117, u 118, u 119, u 120, u 121, u 122, u 123, u 124, u 125, u 126, u 127, u 128, u 129, u 130, u 131, u 132, u 133, u 134, u 135, u 136, u 137, u 138, u 139, u 140, u 141, u 142, u 143, u 144, u 145, u 146, u 147, u 148, u 149, u 150, u 151, u 152, u 153, u 154, u 155, u 156, u 157, u 158, u 159, u 160, u 161, u 162, u 163, u 164, u 165, u 166, u 167, u 168, u 169, u 170, u 171, u 172, u 173, u 174, u 175, u 176, u 177, u 178, u 179, u 180, u 181, u 182, u 183, u 184, u 185, u 186, u 187, u 188, u 189, u 190, u 191, u 192, u 193, u 194, u 195, u 196], []⟩ := ⟨fun i => ac.tmps.getD i undef, ha⟩
  clear ha
  unfold Try.f5 at hc
  cases hc
  have WJ := hide (fun W => within7_at kw (by decide) hj W)
  clear hj
  have k1_ := unhide HC
  have lc := k1_.lt
  have x0_ := k1_.cell 0
  have xf0_ := k1_.froz 0
  have x1_ := k1_.cell 1
  have xf1_ := k1_.froz 1
  have x2_ := k1_.cell 2
  have xf2_ := k1_.froz 2
  have x3_ := k1_.cell 3
  have xf3_ := k1_.froz 3
  have x4_ := k1_.cell 4
  have xf4_ := k1_.froz 4
  have x5_ := k1_.cell 5
  have xf5_ := k1_.froz 5
  simp at x0_ x1_ x2_ x3_ x4_ x5_
  obtain ⟨jj, hjj⟩ : ∃ j : Nat, vv % 8 = (j : Int) := ⟨(vv % 8).toNat, by omega⟩
  have hj8 : jj < 8 := by omega
  have WV := hide (fun W => within7_at kv (by decide) hjj W)
  have hw1 : IntKind.i64.wrap (296 + (jj : Int)) = ((296 + jj : Nat) : Int) := (IntWalk.i64_in _ (by omega)).trans (by omega)
  obtain ⟨N, hN⟩ : ∃ N : Nat, N = 296 + jj := ⟨_, rfl⟩
  have hNi : 296 + (jj : Int) = (N : Int) := by omega
  have hN2 : N ≤ 10000 := by omega
  obtain ⟨BY, zz, hzz, MK, CV9⟩ := bytes_made N (by omega)
  have CVH := hide CV9
  have hlen := g.fine.len
  have hlen2 : c.ws.length ≤ 1000 := (rightC_of g.right).2.2.2.2.1
  have f := g.fineW
  have hF : Hid (FineW ⟨c.kind, c.id, c.txn, c.com, c.ws ++ [⟨zz, ⟨#[]⟩, false⟩], c.text⟩) := hide ⟨f.kind, f.id, f.txn, by show (c.ws ++ [_]).length ≤ _; simp; omega, fun x hx => by
    rcases List.mem_append.1 hx with hx | hx
    · exact f.ws x hx
    · simp at hx; subst hx; exact ⟨by show ByteArray.size zz ≤ _; rw [hzz]; omega, by show ByteArray.size ⟨#[]⟩ ≤ _; decide⟩, f.text⟩
  have hge : V.heap.size < X.heap.size := lc
  have hb0 := below_new X (.cells BY 5)
  have HE := hide (Blk.new X BY 5)
  have HC1 := hide (k1_.below hb0)
  have HW1 := hide (((unhide HW).below (unhide HBV)).below hb0)
  have HB1 := hide (Below.onto (unhide HBV) hb0)
  have hsz1 : X.heap.size + 1 ≤ (X.alloc (.cells BY 5)).heap.size := by simp
  obtain ⟨i0, hi, hz0, hz1, hz2⟩ := info_parts info_wt
  clear hjj f g hb0 CV9 hN hzz k1_
  clear x0_ x1_ x2_ x3_ x4_ x5_ xf0_ xf1_ xf2_ xf3_ xf4_ xf5_
  clear HC HW HBV
  go_wp2_with (first | (go_at_call_of 15 (Value.int IntKind.i64 which); refine (unhide WJ _).mono ?_; rintro e X2 ⟨rfl, hX2⟩; replace hX2 := hX2.symm; subst hX2) | (go_at_call 15; refine (unhide WV _).mono ?_; rintro e X2 ⟨rfl, hX2⟩; replace hX2 := hX2.symm; subst hX2))
  clear MK
  generalize X.heap.size = xb at *
  generalize X.alloc (.cells BY 5) = Y at *
  have FIN : Hid (∀ (g2 cp2 : Nat) (w4 : World) (ac' : Act), ac' = ⟨#[ac'.tmps.getD 0 undef, ac'.tmps.getD 1 undef, ac'.tmps.getD 2 undef, ac'.tmps.getD 3 undef, ac'.tmps.getD 4 undef, ac'.tmps.getD 5 undef, ac'.tmps.getD 6 undef, ac'.tmps.getD 7 undef, .int .i64 form, .pointer (some ⟨b9, 0, none⟩), ac'.tmps.getD 10 undef, ac'.tmps.getD 11 undef, ac'.tmps.getD 12 undef, ac'.tmps.getD 13 undef, ac'.tmps.getD 14 undef, ac'.tmps.getD 15 undef, ac'.tmps.getD 16 undef, ac'.tmps.getD 17 undef, .bool false, .pointer (some ⟨V.heap.size, 0, none⟩), ac'.tmps.getD 20 undef, ac'.tmps.getD 21 undef, ac'.tmps.getD 22 undef, ac'.tmps.getD 23 undef, ac'.tmps.getD 24 undef, ac'.tmps.getD 25 undef, ac'.tmps.getD 26 undef, ac'.tmps.getD 27 undef, ac'.tmps.getD 28 undef, ac'.tmps.getD 29 undef, ac'.tmps.getD 30 undef, ac'.tmps.getD 31 undef, ac'.tmps.getD 32 undef, ac'.tmps.getD 33 undef, ac'.tmps.getD 34 undef, ac'.tmps.getD 35 undef, ac'.tmps.getD 36 undef, ac'.tmps.getD 37 undef, ac'.tmps.getD 38 undef, ac'.tmps.getD 39 undef, ac'.tmps.getD 40 undef, ac'.tmps.getD 41 undef, ac'.tmps.getD 42 undef, ac'.tmps.getD 43 undef, ac'.tmps.getD 44 undef, ac'.tmps.getD 45 undef, ac'.tmps.getD 46 undef, ac'.tmps.getD 47 undef, ac'.tmps.getD 48 undef, ac'.tmps.getD 49 undef, ac'.tmps.getD 50 undef, ac'.tmps.getD 51 undef, ac'.tmps.getD 52 undef, ac'.tmps.getD 53 undef, ac'.tmps.getD 54 undef, ac'.tmps.getD 55 undef, ac'.tmps.getD 56 undef, ac'.tmps.getD 57 undef, ac'.tmps.getD 58 undef, ac'.tmps.getD 59 undef, ac'.tmps.getD 60 undef, ac'.tmps.getD 61 undef, ac'.tmps.getD 62 undef, ac'.tmps.getD 63 undef, ac'.tmps.getD 64 undef, ac'.tmps.getD 65 undef, ac'.tmps.getD 66 undef, ac'.tmps.getD 67 undef, ac'.tmps.getD 68 undef, ac'.tmps.getD 69 undef, ac'.tmps.getD 70 undef, ac'.tmps.getD 71 undef, ac'.tmps.getD 72 undef, ac'.tmps.getD 73 undef, ac'.tmps.getD 74 undef, ac'.tmps.getD 75 undef, ac'.tmps.getD 76 undef, ac'.tmps.getD 77 undef, ac'.tmps.getD 78 undef, ac'.tmps.getD 79 undef, ac'.tmps.getD 80 undef, ac'.tmps.getD 81 undef, ac'.tmps.getD 82 undef, ac'.tmps.getD 83 undef, ac'.tmps.getD 84 undef, ac'.tmps.getD 85 undef, ac'.tmps.getD 86 undef, ac'.tmps.getD 87 undef, ac'.tmps.getD 88 undef, ac'.tmps.getD 89 undef, ac'.tmps.getD 90 undef, ac'.tmps.getD 91 undef, ac'.tmps.getD 92 undef, ac'.tmps.getD 93 undef, ac'.tmps.getD 94 undef, ac'.tmps.getD 95 undef, ac'.tmps.getD 96 undef, ac'.tmps.getD 97 undef, ac'.tmps.getD 98 undef, ac'.tmps.getD 99 undef, ac'.tmps.getD 100 undef, ac'.tmps.getD 101 undef, ac'.tmps.getD 102 undef, ac'.tmps.getD 103 undef, ac'.tmps.getD 104 undef, ac'.tmps.getD 105 undef, ac'.tmps.getD 106 undef, ac'.tmps.getD 107 undef, ac'.tmps.getD 108 undef, ac'.tmps.getD 109 undef, ac'.tmps.getD 110 undef, ac'.tmps.getD 111 undef, ac'.tmps.getD 112 undef, ac'.tmps.getD 113 undef, ac'.tmps.getD 114 undef, ac'.tmps.getD 115 undef, ac'.tmps.getD 116 undef, ac'.tmps.getD 117 undef, ac'.tmps.getD 118 undef, ac'.tmps.getD 119 undef, ac'.tmps.getD 120 undef, ac'.tmps.getD 121 undef, ac'.tmps.getD 122 undef, ac'.tmps.getD 123 undef, ac'.tmps.getD 124 undef, ac'.tmps.getD 125 undef, ac'.tmps.getD 126 undef, ac'.tmps.getD 127 undef, ac'.tmps.getD 128 undef, ac'.tmps.getD 129 undef, ac'.tmps.getD 130 undef, ac'.tmps.getD 131 undef, ac'.tmps.getD 132 undef, ac'.tmps.getD 133 undef, ac'.tmps.getD 134 undef, ac'.tmps.getD 135 undef, ac'.tmps.getD 136 undef, ac'.tmps.getD 137 undef, ac'.tmps.getD 138 undef, ac'.tmps.getD 139 undef, ac'.tmps.getD 140 undef, ac'.tmps.getD 141 undef, ac'.tmps.getD 142 undef, ac'.tmps.getD 143 undef, ac'.tmps.getD 144 undef, ac'.tmps.getD 145 undef, ac'.tmps.getD 146 undef, ac'.tmps.getD 147 undef, ac'.tmps.getD 148 undef, ac'.tmps.getD 149 undef, ac'.tmps.getD 150 undef, ac'.tmps.getD 151 undef, ac'.tmps.getD 152 undef, ac'.tmps.getD 153 undef, ac'.tmps.getD 154 undef, ac'.tmps.getD 155 undef, ac'.tmps.getD 156 undef, ac'.tmps.getD 157 undef, ac'.tmps.getD 158 undef, ac'.tmps.getD 159 undef, ac'.tmps.getD 160 undef, ac'.tmps.getD 161 undef, ac'.tmps.getD 162 undef, ac'.tmps.getD 163 undef, ac'.tmps.getD 164 undef, ac'.tmps.getD 165 undef, ac'.tmps.getD 166 undef, ac'.tmps.getD 167 undef, ac'.tmps.getD 168 undef, ac'.tmps.getD 169 undef, ac'.tmps.getD 170 undef, ac'.tmps.getD 171 undef, ac'.tmps.getD 172 undef, ac'.tmps.getD 173 undef, ac'.tmps.getD 174 undef, ac'.tmps.getD 175 undef, ac'.tmps.getD 176 undef, ac'.tmps.getD 177 undef, ac'.tmps.getD 178 undef, ac'.tmps.getD 179 undef, ac'.tmps.getD 180 undef, ac'.tmps.getD 181 undef, ac'.tmps.getD 182 undef, ac'.tmps.getD 183 undef, ac'.tmps.getD 184 undef, ac'.tmps.getD 185 undef, ac'.tmps.getD 186 undef, ac'.tmps.getD 187 undef, ac'.tmps.getD 188 undef, ac'.tmps.getD 189 undef, ac'.tmps.getD 190 undef, ac'.tmps.getD 191 undef, ac'.tmps.getD 192 undef, ac'.tmps.getD 193 undef, ac'.tmps.getD 194 undef, ac'.tmps.getD 195 undef, ac'.tmps.getD 196 undef], []⟩ → w4.ownsRow (xb + 1) 40 3 (.slice (some ⟨g2, 0, none⟩) (c.ws.length + 1) cp2) (c.ws.length + 1) (wcells c.ws ++ [.string zz, .string ⟨#[]⟩, .bool false]) → Blk V.heap.size #[.int .i64 c.kind, .int .i64 c.id, .int .i64 c.txn, .bool c.com, .slice q c.ws.length cap, .string c.text] 26 w4 → Below V.heap.size V w4 → K ac' (w4.setCell ⟨V.heap.size, 4, none⟩ (.slice (some ⟨g2, 0, none⟩) (c.ws.length + 1) cp2))) := hide (fun g2 cp2 w4 ac' hac ow4 k4 hB4 => by
    have HX := hide (hB4.setCell (p := ⟨V.heap.size, 4, none⟩) (Nat.le_refl _) (.slice (some ⟨g2, 0, none⟩) (c.ws.length + 1) cp2))
    have hrow := ownsRow_setCell_below (a := ⟨V.heap.size, 4, none⟩) ow4 (by show V.heap.size < _; omega) (.slice (some ⟨g2, 0, none⟩) (c.ws.length + 1) cp2)
    have hl1 : (c.ws ++ [(⟨zz, ⟨#[]⟩, false⟩ : Wt)]).length = c.ws.length + 1 := by simp
    have hrow2 : (w4.setCell ⟨V.heap.size, 4, none⟩ (.slice (some ⟨g2, 0, none⟩) (c.ws.length + 1) cp2)).ownsRow (xb + 1) 40 3 (.slice (some ⟨g2, 0, none⟩) (c.ws ++ [(⟨zz, ⟨#[]⟩, false⟩ : Wt)]).length cp2) (c.ws ++ [(⟨zz, ⟨#[]⟩, false⟩ : Wt)]).length (wcells (c.ws ++ [⟨zz, ⟨#[]⟩, false⟩])) := by
      rw [hl1, wcells_snoc]; exact hrow
    have HS := k4.set 4 (.slice (some ⟨g2, 0, none⟩) (c.ws.length + 1) cp2)
    have HS2 : Hid (Blk V.heap.size #[.int .i64 c.kind, .int .i64 c.id, .int .i64 c.txn, .bool c.com, .slice (some ⟨g2, 0, none⟩) (c.ws ++ [(⟨zz, ⟨#[]⟩, false⟩ : Wt)]).length cp2, .string c.text] 26 (w4.setCell ⟨V.heap.size, 4, none⟩ (.slice (some ⟨g2, 0, none⟩) (c.ws.length + 1) cp2))) := by
      show Blk _ _ _ _
      rw [hl1]; exact HS
    exact unhide hK ac' ⟨c.kind, c.id, c.txn, c.com, c.ws ++ [⟨zz, ⟨#[]⟩, false⟩], c.text⟩ (some ⟨g2, 0, none⟩) cp2 _ hac HS2 (hide ((unhide HD).below (unhide HX))) (hide (row_wsv hrow2)) (hide ((unhide HV).below (unhide HX))) hF (hide (Below.onto (unhide HB) (unhide HX))))
  clear hK hF HV HD HB
  have hbd : Below Y.heap.size Y Y.drew := (Below.refl _ _).drew
  refine wp_region_noPanic ?_
  refine wp_region_held_drew (S := (fun W => Blk xb BY 5 W)) (by kernel_rfl) ((unhide HE).below hbd) (fun hHeld => ?_)
  replace HC1 := hide ((unhide HC1).below hbd)
  replace HW1 := hide ((unhide HW1).below hbd)
  replace HB1 := hide (Below.onto (unhide HB1) hbd)
  replace hsz1 := Nat.le_trans hsz1 hbd.size
  clear hbd HE
  revert hHeld
  generalize Y.drew = Yd at *
  intro hHeld
  refine wpAnyH_take (i := 1) (oi := ?oi20057) (v := ?v20057) ?hi20057 (by kernel_rfl) (by kernel_rfl) (by kernel_rfl) (fun _ _ _ h => h) (Or.inl ⟨?hw20057, ?hy20057⟩) (by assumption) ?rest20057
  case hi20057 => (simp only [List.getElem?_toArray, List.getElem?_cons_zero, List.getElem?_cons_succ]; rfl)
  case hw20057 => rfl
  case hy20057 => first | (intro wx hSw; go_simp; done) | (intro wx hSw; go_simp; with_reducible rfl)
  simp only [Act.put, List.setIfInBounds_toArray, List.set_cons_zero, List.set_cons_succ]
  refine wpAnyH_take (i := 4) (oi := ?oi20058) (v := ?v20058) ?hi20058 (by kernel_rfl) (by kernel_rfl) (by kernel_rfl) (fun _ _ _ h => h) (Or.inl ⟨?hw20058, ?hy20058⟩) (by assumption) ?rest20058
  case hi20058 => (simp only [List.getElem?_toArray, List.getElem?_cons_zero, List.getElem?_cons_succ]; rfl)
  case hw20058 => rfl
  case hy20058 => first | (intro wx hSw; go_simp; done) | (intro wx hSw; go_simp; with_reducible rfl)
  simp only [Act.put, List.setIfInBounds_toArray, List.set_cons_zero, List.set_cons_succ]
  refine wpAnyH_take (i := 5) (oi := ?oi20059) (v := ?v20059) ?hi20059 (by kernel_rfl) (by kernel_rfl) (by kernel_rfl) (fun _ _ _ h => h) (Or.inl ⟨?hw20059, ?hy20059⟩) (by assumption) ?rest20059
  case hi20059 => (simp only [List.getElem?_toArray, List.getElem?_cons_zero, List.getElem?_cons_succ]; rfl)
  case hw20059 => rfl
  case hy20059 => first | (intro wx hSw; have hcv := unhide CVH _ _ hSw; go_simp; done) | (intro wx hSw; have hcv := unhide CVH _ _ hSw; go_simp; with_reducible rfl)
  simp only [Act.put, List.setIfInBounds_toArray, List.set_cons_zero, List.set_cons_succ]
  refine wpAnyH_take (i := 6) (oi := ?oi20060) (v := ?v20060) ?hi20060 (by kernel_rfl) (by kernel_rfl) (by kernel_rfl) (fun _ _ _ h => h) (Or.inl ⟨?hw20060, ?hy20060⟩) (by assumption) ?rest20060
  case hi20060 => (simp only [List.getElem?_toArray, List.getElem?_cons_zero, List.getElem?_cons_succ]; rfl)
  case hw20060 => rfl
  case hy20060 => first | (intro wx hSw; go_simp; done) | (intro wx hSw; go_simp; with_reducible rfl)
  simp only [Act.put, List.setIfInBounds_toArray, List.set_cons_zero, List.set_cons_succ]
  refine wpAnyH_ready (rs := [0, 2, 7]) (by kernel_rfl) (by simp) ?_
  refine AllReadyH.cons rfl (fun K20061 hK20061 => ?_) ?_
  · go_simp
    refine hK20061.out _ _ ?hs20061 (fun hHeld20061 => ?_)
    case hs20061 => exact hHeld.below (below_new _ _)
    clear hHeld
    have hHeld := hHeld20061; clear hHeld20061 hK20061 K20061
    have hgx0 := hsz1
    have hb := below_new Yd (.cells #[] 40)
    have hbs := hb.size
    replace HC1 := hide ((unhide HC1).below hb)
    replace HW1 := hide ((unhide HW1).below hb)
    replace HB1 := hide (Below.onto (unhide HB1) hb)
    replace hsz1 := Nat.le_trans hsz1 hbs
    have RE := hide (Blk.new Yd #[] 40)
    obtain ⟨ge, hgq⟩ : ∃ b, b = Yd.heap.size := ⟨_, rfl⟩
    rw [← hgq] at RE
    have hgx : xb + 1 ≤ ge := by omega
    generalize Yd.alloc (.cells #[] 40) = Y1 at *
    clear hb
    refine wpAnyH_ready (rs := [2, 7]) (by kernel_rfl) (by simp) ?_
    refine AllReadyH.cons rfl (fun K20062 hK20062 => ?_) ?_
    · have z1 := (unhide HC1).cell 4
      have zf1 := (unhide HC1).froz 4
      have zl1 := (unhide HC1).lt
      simp at z1
      go_simp
      refine hK20062.out _ _ ?hs20062 (fun hHeld20062 => ?_)
      case hs20062 => exact hHeld
      clear hHeld
      have hHeld := hHeld20062; clear hHeld20062 hK20062 K20062
      clear z1 zf1 zl1
      refine wpAnyH_ready (rs := [3, 7]) (by kernel_rfl) (by simp) ?_
      refine AllReadyH.cons rfl (fun K20063 hK20063 => ?_) ?_
      · refine step_app0 rfl _ _ rfl Y1 ge q c.ws cap (by rw [hgq]; rfl) rfl (unhide RE) (unhide HW1) (by omega) (xb + 1) hgx ?_
        intro v1 Y3 ow1 gr1
        change K20063 (Act.put _ (some 110) _) _
        simp only [Act.put, List.setIfInBounds_toArray, List.set_cons_zero, List.set_cons_succ]
        refine hK20063.out _ _ ?hs20063 (fun hHeld20063 => ?_)
        case hs20063 => exact gr_blk hHeld gr1 (by omega)
        clear hHeld
        have hHeld := hHeld20063; clear hHeld20063 hK20063 K20063
        replace HB1 := hide (gr_below (unhide HB1) gr1 (by omega) (unhide HB1).size)
        replace HC1 := hide (gr_blk (unhide HC1) gr1 (by omega))
        replace hsz1 := Nat.le_trans hsz1 gr1.size
        have OW := hide ow1
        clear gr1 ow1 RE HW1
        refine wpAnyH_ready (rs := [7]) (by kernel_rfl) (by simp) ?_
        refine AllReadyH.cons rfl (fun K20064 hK20064 => ?_) AllReadyH.nil
        go_simp
        refine hK20064.out _ _ ?hs20064 (fun hHeld20064 => ?_)
        case hs20064 => exact hHeld.below (below_new _ _)
        clear hHeld
        have hHeld := hHeld20064; clear hHeld20064 hK20064 K20064
        have hb := below_new Y3 (.cells #[.string zz, .string ⟨#[]⟩, .bool false] 40)
        have hbs := hb.size
        replace HC1 := hide ((unhide HC1).below hb)
        replace HB1 := hide (Below.onto (unhide HB1) hb)
        replace hsz1 := Nat.le_trans hsz1 hbs
        replace OW := hide ((unhide OW).alloc (.cells #[.string zz, .string ⟨#[]⟩, .bool false] 40))
        have RW := hide (Blk.new Y3 #[.string zz, .string ⟨#[]⟩, .bool false] 40)
        obtain ⟨bw, hbq⟩ : ∃ b, b = Y3.heap.size := ⟨_, rfl⟩
        rw [← hbq] at RW
        have hsY : Y3.heap.size < (Y3.alloc (.cells #[.string zz, .string ⟨#[]⟩, .bool false] 40)).heap.size := by simp
        generalize Y3.alloc (.cells #[.string zz, .string ⟨#[]⟩, .bool false] 40) = Y4 at *
        clear hb
        refine wpAnyH_ready (rs := [8]) (by kernel_rfl) (by simp) ?_
        refine AllReadyH.cons rfl (fun K20065 hK20065 => ?_) AllReadyH.nil
        have hnv : some V.heap.size ≠ v1.ownBlock := fun e => by have h9 := ((unhide OW).lt _ e.symm).1; omega
        have hnx : some xb ≠ v1.ownBlock := fun e => by have h9 := ((unhide OW).lt _ e.symm).1; omega
        have hnews : ∀ j u, ([.string zz, .string ⟨#[]⟩, .bool false] : List Value)[j]? = some u → Y4.cell? (Addr.add ⟨bw, 0, none⟩ j) = some u := fun j u hj => by
          have e1 : Addr.add ⟨bw, 0, none⟩ j = ⟨bw, j, none⟩ := by simp [Addr.add]; exact fun h => h.symm
          rw [e1, (unhide RW).cell j]
          simpa using hj
        refine step_append_lies _ rfl _ _ 24 rfl (xb + 1) 40 i0 _ 3 40 Try.underlying24 hi hz0 hz1 hz2 rfl (by decide) v1 _ _ rfl (unhide OW) ⟨bw, 0, none⟩ 1 1 [.string zz, .string ⟨#[]⟩, .bool false] (by rw [hbq]; rfl) rfl hnews (by simp [Value.oneCell']) (by decide) (by unfold maxLen; omega) (by omega) hsz1 _ rfl ?_
        intro g2 cp2 w4 ow4 gr4 _ _
        change K20065 (Act.put _ (some 115) _) _
        simp only [Act.put, List.setIfInBounds_toArray, List.set_cons_zero, List.set_cons_succ]
        refine hK20065.out _ _ ?hs20065 (fun hHeld20065 => ?_)
        case hs20065 => exact (gr4.block _ hHeld.lt hnx).trans hHeld
        clear hHeld
        have hHeld := hHeld20065; clear hHeld20065 hK20065 K20065
        refine wpAnyH_take (i := 9) (oi := ?oi20066) (v := ?v20066) ?hi20066 (by kernel_rfl) (by kernel_rfl) (by kernel_rfl) (fun _ _ _ h => h) (Or.inl ⟨?hw20066, ?hy20066⟩) (by assumption) ?rest20066
        case hi20066 => (simp only [List.getElem?_toArray, List.getElem?_cons_zero, List.getElem?_cons_succ]; rfl)
        case hw20066 => rfl
        case hy20066 => first | (intro wx hSw; go_simp; done) | (intro wx hSw; go_simp; with_reducible rfl)
        simp only [Act.put, List.setIfInBounds_toArray, List.set_cons_zero, List.set_cons_succ]
        have k4 : Blk V.heap.size #[.int .i64 c.kind, .int .i64 c.id, .int .i64 c.txn, .bool c.com, .slice q c.ws.length cap, .string c.text] 26 w4 := (gr4.block _ (unhide HC1).lt hnv).trans (unhide HC1)
        have hB4 : Below V.heap.size V w4 := (unhide HB1).grown gr4 (unhide HB1).size (fun j e => by have h9 := ((unhide OW).lt _ e).1; omega)
        have l4 := k4.lt
        have z4 := k4.cell 4
        have zf4 := k4.froz 4
        simp at z4
        refine wpAnyH_ready (rs := [10]) (by kernel_rfl) (by simp) ?_
        refine AllReadyH.cons rfl (fun K20067 hK20067 => ?_) AllReadyH.nil
        go_simp
        refine hK20067.out _ _ ?hs20067 (fun hHeld20067 => ?_)
        case hs20067 => exact blk_far1 hHeld (by omega)
        clear hHeld
        have hHeld := hHeld20067; clear hHeld20067 hK20067 K20067
        refine wpAnyH_done (by kernel_rfl) ?_ _
        refine NoPanic.normal ?_
        skip
        exact unhide FIN g2 cp2 w4 _ (by kernel_rfl) ow4 k4 hB4
      refine AllReadyH.cons rfl (fun K20068 hK20068 => ?_) AllReadyH.nil
      · go_simp
        refine hK20068.out _ _ ?hs20068 (fun hHeld20068 => ?_)
        case hs20068 => exact hHeld.below (below_new _ _)
        clear hHeld
        have hHeld := hHeld20068; clear hHeld20068 hK20068 K20068
        have hgl := (unhide RE).lt
        have hb := below_new Y1 (.cells #[.string zz, .string ⟨#[]⟩, .bool false] 40)
        have hbs := hb.size
        replace HC1 := hide ((unhide HC1).below hb)
        replace HW1 := hide ((unhide HW1).below hb)
        replace HB1 := hide (Below.onto (unhide HB1) hb)
        replace hsz1 := Nat.le_trans hsz1 hbs
        replace RE := hide ((unhide RE).below hb)
        have RW := hide (Blk.new Y1 #[.string zz, .string ⟨#[]⟩, .bool false] 40)
        obtain ⟨bw, hbq⟩ : ∃ b, b = Y1.heap.size := ⟨_, rfl⟩
        rw [← hbq] at RW
        have hbg : bw ≠ ge := by omega
        have hsY : Y1.heap.size < (Y1.alloc (.cells #[.string zz, .string ⟨#[]⟩, .bool false] 40)).heap.size := by simp
        generalize Y1.alloc (.cells #[.string zz, .string ⟨#[]⟩, .bool false] 40) = Y5 at *
        clear hb
        refine wpAnyH_ready (rs := [3]) (by kernel_rfl) (by simp) ?_
        refine AllReadyH.cons rfl (fun K20069 hK20069 => ?_) AllReadyH.nil
        refine step_app0 rfl _ _ rfl Y5 ge q c.ws cap (by rw [hgq]; rfl) rfl (unhide RE) (unhide HW1) (by omega) (xb + 1) hgx ?_
        intro v1 Y6 ow1 gr1
        change K20069 (Act.put _ (some 110) _) _
        simp only [Act.put, List.setIfInBounds_toArray, List.set_cons_zero, List.set_cons_succ]
        refine hK20069.out _ _ ?hs20069 (fun hHeld20069 => ?_)
        case hs20069 => exact gr_blk hHeld gr1 (by omega)
        clear hHeld
        have hHeld := hHeld20069; clear hHeld20069 hK20069 K20069
        replace HB1 := hide (gr_below (unhide HB1) gr1 (by omega) (unhide HB1).size)
        replace HC1 := hide (gr_blk (unhide HC1) gr1 (by omega))
        replace hsz1 := Nat.le_trans hsz1 gr1.size
        have OW := hide ow1
        replace RW := hide (gr_blk (unhide RW) gr1 hbg)
        have hbs2 := gr1.size
        clear gr1 ow1 RE HW1
        refine wpAnyH_ready (rs := [8]) (by kernel_rfl) (by simp) ?_
        refine AllReadyH.cons rfl (fun K20070 hK20070 => ?_) AllReadyH.nil
        have hnv : some V.heap.size ≠ v1.ownBlock := fun e => by have h9 := ((unhide OW).lt _ e.symm).1; omega
        have hnx : some xb ≠ v1.ownBlock := fun e => by have h9 := ((unhide OW).lt _ e.symm).1; omega
        have hnews : ∀ j u, ([.string zz, .string ⟨#[]⟩, .bool false] : List Value)[j]? = some u → Y6.cell? (Addr.add ⟨bw, 0, none⟩ j) = some u := fun j u hj => by
          have e1 : Addr.add ⟨bw, 0, none⟩ j = ⟨bw, j, none⟩ := by simp [Addr.add]; exact fun h => h.symm
          rw [e1, (unhide RW).cell j]
          simpa using hj
        refine step_append_lies _ rfl _ _ 24 rfl (xb + 1) 40 i0 _ 3 40 Try.underlying24 hi hz0 hz1 hz2 rfl (by decide) v1 _ _ rfl (unhide OW) ⟨bw, 0, none⟩ 1 1 [.string zz, .string ⟨#[]⟩, .bool false] (by rw [hbq]; rfl) rfl hnews (by simp [Value.oneCell']) (by decide) (by unfold maxLen; omega) (by omega) hsz1 _ rfl ?_
        intro g2 cp2 w4 ow4 gr4 _ _
        change K20070 (Act.put _ (some 115) _) _
        simp only [Act.put, List.setIfInBounds_toArray, List.set_cons_zero, List.set_cons_succ]
        refine hK20070.out _ _ ?hs20070 (fun hHeld20070 => ?_)
        case hs20070 => exact (gr4.block _ hHeld.lt hnx).trans hHeld
        clear hHeld
        have hHeld := hHeld20070; clear hHeld20070 hK20070 K20070
        refine wpAnyH_take (i := 9) (oi := ?oi20071) (v := ?v20071) ?hi20071 (by kernel_rfl) (by kernel_rfl) (by kernel_rfl) (fun _ _ _ h => h) (Or.inl ⟨?hw20071, ?hy20071⟩) (by assumption) ?rest20071
        case hi20071 => (simp only [List.getElem?_toArray, List.getElem?_cons_zero, List.getElem?_cons_succ]; rfl)
        case hw20071 => rfl
        case hy20071 => first | (intro wx hSw; go_simp; done) | (intro wx hSw; go_simp; with_reducible rfl)
        simp only [Act.put, List.setIfInBounds_toArray, List.set_cons_zero, List.set_cons_succ]
        have k4 : Blk V.heap.size #[.int .i64 c.kind, .int .i64 c.id, .int .i64 c.txn, .bool c.com, .slice q c.ws.length cap, .string c.text] 26 w4 := (gr4.block _ (unhide HC1).lt hnv).trans (unhide HC1)
        have hB4 : Below V.heap.size V w4 := (unhide HB1).grown gr4 (unhide HB1).size (fun j e => by have h9 := ((unhide OW).lt _ e).1; omega)
        have l4 := k4.lt
        have z4 := k4.cell 4
        have zf4 := k4.froz 4
        simp at z4
        refine wpAnyH_ready (rs := [10]) (by kernel_rfl) (by simp) ?_
        refine AllReadyH.cons rfl (fun K20072 hK20072 => ?_) AllReadyH.nil
        go_simp
        refine hK20072.out _ _ ?hs20072 (fun hHeld20072 => ?_)
        case hs20072 => exact blk_far1 hHeld (by omega)
        clear hHeld
        have hHeld := hHeld20072; clear hHeld20072 hK20072 K20072
        refine wpAnyH_done (by kernel_rfl) ?_ _
        refine NoPanic.normal ?_
        skip
        exact unhide FIN g2 cp2 w4 _ (by kernel_rfl) ow4 k4 hB4
    refine AllReadyH.cons rfl (fun K20073 hK20073 => ?_) AllReadyH.nil
    · go_simp
      refine hK20073.out _ _ ?hs20073 (fun hHeld20073 => ?_)
      case hs20073 => exact hHeld.below (below_new _ _)
      clear hHeld
      have hHeld := hHeld20073; clear hHeld20073 hK20073 K20073
      have hgl := (unhide RE).lt
      have hb := below_new Y1 (.cells #[.string zz, .string ⟨#[]⟩, .bool false] 40)
      have hbs := hb.size
      replace HC1 := hide ((unhide HC1).below hb)
      replace HW1 := hide ((unhide HW1).below hb)
      replace HB1 := hide (Below.onto (unhide HB1) hb)
      replace hsz1 := Nat.le_trans hsz1 hbs
      replace RE := hide ((unhide RE).below hb)
      have RW := hide (Blk.new Y1 #[.string zz, .string ⟨#[]⟩, .bool false] 40)
      obtain ⟨bw, hbq⟩ : ∃ b, b = Y1.heap.size := ⟨_, rfl⟩
      rw [← hbq] at RW
      have hbg : bw ≠ ge := by omega
      have hsY : Y1.heap.size < (Y1.alloc (.cells #[.string zz, .string ⟨#[]⟩, .bool false] 40)).heap.size := by simp
      generalize Y1.alloc (.cells #[.string zz, .string ⟨#[]⟩, .bool false] 40) = Y7 at *
      clear hb
      refine wpAnyH_ready (rs := [2]) (by kernel_rfl) (by simp) ?_
      refine AllReadyH.cons rfl (fun K20074 hK20074 => ?_) AllReadyH.nil
      have z1 := (unhide HC1).cell 4
      have zf1 := (unhide HC1).froz 4
      have zl1 := (unhide HC1).lt
      simp at z1
      go_simp
      refine hK20074.out _ _ ?hs20074 (fun hHeld20074 => ?_)
      case hs20074 => exact hHeld
      clear hHeld
      have hHeld := hHeld20074; clear hHeld20074 hK20074 K20074
      clear z1 zf1 zl1
      refine wpAnyH_ready (rs := [3]) (by kernel_rfl) (by simp) ?_
      refine AllReadyH.cons rfl (fun K20075 hK20075 => ?_) AllReadyH.nil
      refine step_app0 rfl _ _ rfl Y7 ge q c.ws cap (by rw [hgq]; rfl) rfl (unhide RE) (unhide HW1) (by omega) (xb + 1) hgx ?_
      intro v1 Y9 ow1 gr1
      change K20075 (Act.put _ (some 110) _) _
      simp only [Act.put, List.setIfInBounds_toArray, List.set_cons_zero, List.set_cons_succ]
      refine hK20075.out _ _ ?hs20075 (fun hHeld20075 => ?_)
      case hs20075 => exact gr_blk hHeld gr1 (by omega)
      clear hHeld
      have hHeld := hHeld20075; clear hHeld20075 hK20075 K20075
      replace HB1 := hide (gr_below (unhide HB1) gr1 (by omega) (unhide HB1).size)
      replace HC1 := hide (gr_blk (unhide HC1) gr1 (by omega))
      replace hsz1 := Nat.le_trans hsz1 gr1.size
      have OW := hide ow1
      replace RW := hide (gr_blk (unhide RW) gr1 hbg)
      have hbs2 := gr1.size
      clear gr1 ow1 RE HW1
      refine wpAnyH_ready (rs := [8]) (by kernel_rfl) (by simp) ?_
      refine AllReadyH.cons rfl (fun K20076 hK20076 => ?_) AllReadyH.nil
      have hnv : some V.heap.size ≠ v1.ownBlock := fun e => by have h9 := ((unhide OW).lt _ e.symm).1; omega
      have hnx : some xb ≠ v1.ownBlock := fun e => by have h9 := ((unhide OW).lt _ e.symm).1; omega
      have hnews : ∀ j u, ([.string zz, .string ⟨#[]⟩, .bool false] : List Value)[j]? = some u → Y9.cell? (Addr.add ⟨bw, 0, none⟩ j) = some u := fun j u hj => by
        have e1 : Addr.add ⟨bw, 0, none⟩ j = ⟨bw, j, none⟩ := by simp [Addr.add]; exact fun h => h.symm
        rw [e1, (unhide RW).cell j]
        simpa using hj
      refine step_append_lies _ rfl _ _ 24 rfl (xb + 1) 40 i0 _ 3 40 Try.underlying24 hi hz0 hz1 hz2 rfl (by decide) v1 _ _ rfl (unhide OW) ⟨bw, 0, none⟩ 1 1 [.string zz, .string ⟨#[]⟩, .bool false] (by rw [hbq]; rfl) rfl hnews (by simp [Value.oneCell']) (by decide) (by unfold maxLen; omega) (by omega) hsz1 _ rfl ?_
      intro g2 cp2 w4 ow4 gr4 _ _
      change K20076 (Act.put _ (some 115) _) _
      simp only [Act.put, List.setIfInBounds_toArray, List.set_cons_zero, List.set_cons_succ]
      refine hK20076.out _ _ ?hs20076 (fun hHeld20076 => ?_)
      case hs20076 => exact (gr4.block _ hHeld.lt hnx).trans hHeld
      clear hHeld
      have hHeld := hHeld20076; clear hHeld20076 hK20076 K20076
      refine wpAnyH_take (i := 9) (oi := ?oi20077) (v := ?v20077) ?hi20077 (by kernel_rfl) (by kernel_rfl) (by kernel_rfl) (fun _ _ _ h => h) (Or.inl ⟨?hw20077, ?hy20077⟩) (by assumption) ?rest20077
      case hi20077 => (simp only [List.getElem?_toArray, List.getElem?_cons_zero, List.getElem?_cons_succ]; rfl)
      case hw20077 => rfl
      case hy20077 => first | (intro wx hSw; go_simp; done) | (intro wx hSw; go_simp; with_reducible rfl)
      simp only [Act.put, List.setIfInBounds_toArray, List.set_cons_zero, List.set_cons_succ]
      have k4 : Blk V.heap.size #[.int .i64 c.kind, .int .i64 c.id, .int .i64 c.txn, .bool c.com, .slice q c.ws.length cap, .string c.text] 26 w4 := (gr4.block _ (unhide HC1).lt hnv).trans (unhide HC1)
      have hB4 : Below V.heap.size V w4 := (unhide HB1).grown gr4 (unhide HB1).size (fun j e => by have h9 := ((unhide OW).lt _ e).1; omega)
      have l4 := k4.lt
      have z4 := k4.cell 4
      have zf4 := k4.froz 4
      simp at z4
      refine wpAnyH_ready (rs := [10]) (by kernel_rfl) (by simp) ?_
      refine AllReadyH.cons rfl (fun K20078 hK20078 => ?_) AllReadyH.nil
      go_simp
      refine hK20078.out _ _ ?hs20078 (fun hHeld20078 => ?_)
      case hs20078 => exact blk_far1 hHeld (by omega)
      clear hHeld
      have hHeld := hHeld20078; clear hHeld20078 hK20078 K20078
      refine wpAnyH_done (by kernel_rfl) ?_ _
      refine NoPanic.normal ?_
      skip
      exact unhide FIN g2 cp2 w4 _ (by kernel_rfl) ow4 k4 hB4
  refine AllReadyH.cons rfl (fun K20079 hK20079 => ?_) ?_
  · have z1 := (unhide HC1).cell 4
    have zf1 := (unhide HC1).froz 4
    have zl1 := (unhide HC1).lt
    simp at z1
    go_simp
    refine hK20079.out _ _ ?hs20079 (fun hHeld20079 => ?_)
    case hs20079 => exact hHeld
    clear hHeld
    have hHeld := hHeld20079; clear hHeld20079 hK20079 K20079
    clear z1 zf1 zl1
    refine wpAnyH_ready (rs := [0, 7]) (by kernel_rfl) (by simp) ?_
    refine AllReadyH.cons rfl (fun K20080 hK20080 => ?_) ?_
    · go_simp
      refine hK20080.out _ _ ?hs20080 (fun hHeld20080 => ?_)
      case hs20080 => exact hHeld.below (below_new _ _)
      clear hHeld
      have hHeld := hHeld20080; clear hHeld20080 hK20080 K20080
      have hgx0 := hsz1
      have hb := below_new Yd (.cells #[] 40)
      have hbs := hb.size
      replace HC1 := hide ((unhide HC1).below hb)
      replace HW1 := hide ((unhide HW1).below hb)
      replace HB1 := hide (Below.onto (unhide HB1) hb)
      replace hsz1 := Nat.le_trans hsz1 hbs
      have RE := hide (Blk.new Yd #[] 40)
      obtain ⟨ge, hgq⟩ : ∃ b, b = Yd.heap.size := ⟨_, rfl⟩
      rw [← hgq] at RE
      have hgx : xb + 1 ≤ ge := by omega
      generalize Yd.alloc (.cells #[] 40) = Y11 at *
      clear hb
      refine wpAnyH_ready (rs := [3, 7]) (by kernel_rfl) (by simp) ?_
      refine AllReadyH.cons rfl (fun K20081 hK20081 => ?_) ?_
      · refine step_app0 rfl _ _ rfl Y11 ge q c.ws cap (by rw [hgq]; rfl) rfl (unhide RE) (unhide HW1) (by omega) (xb + 1) hgx ?_
        intro v1 Y12 ow1 gr1
        change K20081 (Act.put _ (some 110) _) _
        simp only [Act.put, List.setIfInBounds_toArray, List.set_cons_zero, List.set_cons_succ]
        refine hK20081.out _ _ ?hs20081 (fun hHeld20081 => ?_)
        case hs20081 => exact gr_blk hHeld gr1 (by omega)
        clear hHeld
        have hHeld := hHeld20081; clear hHeld20081 hK20081 K20081
        replace HB1 := hide (gr_below (unhide HB1) gr1 (by omega) (unhide HB1).size)
        replace HC1 := hide (gr_blk (unhide HC1) gr1 (by omega))
        replace hsz1 := Nat.le_trans hsz1 gr1.size
        have OW := hide ow1
        clear gr1 ow1 RE HW1
        refine wpAnyH_ready (rs := [7]) (by kernel_rfl) (by simp) ?_
        refine AllReadyH.cons rfl (fun K20082 hK20082 => ?_) AllReadyH.nil
        go_simp
        refine hK20082.out _ _ ?hs20082 (fun hHeld20082 => ?_)
        case hs20082 => exact hHeld.below (below_new _ _)
        clear hHeld
        have hHeld := hHeld20082; clear hHeld20082 hK20082 K20082
        have hb := below_new Y12 (.cells #[.string zz, .string ⟨#[]⟩, .bool false] 40)
        have hbs := hb.size
        replace HC1 := hide ((unhide HC1).below hb)
        replace HB1 := hide (Below.onto (unhide HB1) hb)
        replace hsz1 := Nat.le_trans hsz1 hbs
        replace OW := hide ((unhide OW).alloc (.cells #[.string zz, .string ⟨#[]⟩, .bool false] 40))
        have RW := hide (Blk.new Y12 #[.string zz, .string ⟨#[]⟩, .bool false] 40)
        obtain ⟨bw, hbq⟩ : ∃ b, b = Y12.heap.size := ⟨_, rfl⟩
        rw [← hbq] at RW
        have hsY : Y12.heap.size < (Y12.alloc (.cells #[.string zz, .string ⟨#[]⟩, .bool false] 40)).heap.size := by simp
        generalize Y12.alloc (.cells #[.string zz, .string ⟨#[]⟩, .bool false] 40) = Y13 at *
        clear hb
        refine wpAnyH_ready (rs := [8]) (by kernel_rfl) (by simp) ?_
        refine AllReadyH.cons rfl (fun K20083 hK20083 => ?_) AllReadyH.nil
        have hnv : some V.heap.size ≠ v1.ownBlock := fun e => by have h9 := ((unhide OW).lt _ e.symm).1; omega
        have hnx : some xb ≠ v1.ownBlock := fun e => by have h9 := ((unhide OW).lt _ e.symm).1; omega
        have hnews : ∀ j u, ([.string zz, .string ⟨#[]⟩, .bool false] : List Value)[j]? = some u → Y13.cell? (Addr.add ⟨bw, 0, none⟩ j) = some u := fun j u hj => by
          have e1 : Addr.add ⟨bw, 0, none⟩ j = ⟨bw, j, none⟩ := by simp [Addr.add]; exact fun h => h.symm
          rw [e1, (unhide RW).cell j]
          simpa using hj
        refine step_append_lies _ rfl _ _ 24 rfl (xb + 1) 40 i0 _ 3 40 Try.underlying24 hi hz0 hz1 hz2 rfl (by decide) v1 _ _ rfl (unhide OW) ⟨bw, 0, none⟩ 1 1 [.string zz, .string ⟨#[]⟩, .bool false] (by rw [hbq]; rfl) rfl hnews (by simp [Value.oneCell']) (by decide) (by unfold maxLen; omega) (by omega) hsz1 _ rfl ?_
        intro g2 cp2 w4 ow4 gr4 _ _
        change K20083 (Act.put _ (some 115) _) _
        simp only [Act.put, List.setIfInBounds_toArray, List.set_cons_zero, List.set_cons_succ]
        refine hK20083.out _ _ ?hs20083 (fun hHeld20083 => ?_)
        case hs20083 => exact (gr4.block _ hHeld.lt hnx).trans hHeld
        clear hHeld
        have hHeld := hHeld20083; clear hHeld20083 hK20083 K20083
        refine wpAnyH_take (i := 9) (oi := ?oi20084) (v := ?v20084) ?hi20084 (by kernel_rfl) (by kernel_rfl) (by kernel_rfl) (fun _ _ _ h => h) (Or.inl ⟨?hw20084, ?hy20084⟩) (by assumption) ?rest20084
        case hi20084 => (simp only [List.getElem?_toArray, List.getElem?_cons_zero, List.getElem?_cons_succ]; rfl)
        case hw20084 => rfl
        case hy20084 => first | (intro wx hSw; go_simp; done) | (intro wx hSw; go_simp; with_reducible rfl)
        simp only [Act.put, List.setIfInBounds_toArray, List.set_cons_zero, List.set_cons_succ]
        have k4 : Blk V.heap.size #[.int .i64 c.kind, .int .i64 c.id, .int .i64 c.txn, .bool c.com, .slice q c.ws.length cap, .string c.text] 26 w4 := (gr4.block _ (unhide HC1).lt hnv).trans (unhide HC1)
        have hB4 : Below V.heap.size V w4 := (unhide HB1).grown gr4 (unhide HB1).size (fun j e => by have h9 := ((unhide OW).lt _ e).1; omega)
        have l4 := k4.lt
        have z4 := k4.cell 4
        have zf4 := k4.froz 4
        simp at z4
        refine wpAnyH_ready (rs := [10]) (by kernel_rfl) (by simp) ?_
        refine AllReadyH.cons rfl (fun K20085 hK20085 => ?_) AllReadyH.nil
        go_simp
        refine hK20085.out _ _ ?hs20085 (fun hHeld20085 => ?_)
        case hs20085 => exact blk_far1 hHeld (by omega)
        clear hHeld
        have hHeld := hHeld20085; clear hHeld20085 hK20085 K20085
        refine wpAnyH_done (by kernel_rfl) ?_ _
        refine NoPanic.normal ?_
        skip
        exact unhide FIN g2 cp2 w4 _ (by kernel_rfl) ow4 k4 hB4
      refine AllReadyH.cons rfl (fun K20086 hK20086 => ?_) AllReadyH.nil
      · go_simp
        refine hK20086.out _ _ ?hs20086 (fun hHeld20086 => ?_)
        case hs20086 => exact hHeld.below (below_new _ _)
        clear hHeld
        have hHeld := hHeld20086; clear hHeld20086 hK20086 K20086
        have hgl := (unhide RE).lt
        have hb := below_new Y11 (.cells #[.string zz, .string ⟨#[]⟩, .bool false] 40)
        have hbs := hb.size
        replace HC1 := hide ((unhide HC1).below hb)
        replace HW1 := hide ((unhide HW1).below hb)
        replace HB1 := hide (Below.onto (unhide HB1) hb)
        replace hsz1 := Nat.le_trans hsz1 hbs
        replace RE := hide ((unhide RE).below hb)
        have RW := hide (Blk.new Y11 #[.string zz, .string ⟨#[]⟩, .bool false] 40)
        obtain ⟨bw, hbq⟩ : ∃ b, b = Y11.heap.size := ⟨_, rfl⟩
        rw [← hbq] at RW
        have hbg : bw ≠ ge := by omega
        have hsY : Y11.heap.size < (Y11.alloc (.cells #[.string zz, .string ⟨#[]⟩, .bool false] 40)).heap.size := by simp
        generalize Y11.alloc (.cells #[.string zz, .string ⟨#[]⟩, .bool false] 40) = Y14 at *
        clear hb
        refine wpAnyH_ready (rs := [3]) (by kernel_rfl) (by simp) ?_
        refine AllReadyH.cons rfl (fun K20087 hK20087 => ?_) AllReadyH.nil
        refine step_app0 rfl _ _ rfl Y14 ge q c.ws cap (by rw [hgq]; rfl) rfl (unhide RE) (unhide HW1) (by omega) (xb + 1) hgx ?_
        intro v1 Y15 ow1 gr1
        change K20087 (Act.put _ (some 110) _) _
        simp only [Act.put, List.setIfInBounds_toArray, List.set_cons_zero, List.set_cons_succ]
        refine hK20087.out _ _ ?hs20087 (fun hHeld20087 => ?_)
        case hs20087 => exact gr_blk hHeld gr1 (by omega)
        clear hHeld
        have hHeld := hHeld20087; clear hHeld20087 hK20087 K20087
        replace HB1 := hide (gr_below (unhide HB1) gr1 (by omega) (unhide HB1).size)
        replace HC1 := hide (gr_blk (unhide HC1) gr1 (by omega))
        replace hsz1 := Nat.le_trans hsz1 gr1.size
        have OW := hide ow1
        replace RW := hide (gr_blk (unhide RW) gr1 hbg)
        have hbs2 := gr1.size
        clear gr1 ow1 RE HW1
        refine wpAnyH_ready (rs := [8]) (by kernel_rfl) (by simp) ?_
        refine AllReadyH.cons rfl (fun K20088 hK20088 => ?_) AllReadyH.nil
        have hnv : some V.heap.size ≠ v1.ownBlock := fun e => by have h9 := ((unhide OW).lt _ e.symm).1; omega
        have hnx : some xb ≠ v1.ownBlock := fun e => by have h9 := ((unhide OW).lt _ e.symm).1; omega
        have hnews : ∀ j u, ([.string zz, .string ⟨#[]⟩, .bool false] : List Value)[j]? = some u → Y15.cell? (Addr.add ⟨bw, 0, none⟩ j) = some u := fun j u hj => by
          have e1 : Addr.add ⟨bw, 0, none⟩ j = ⟨bw, j, none⟩ := by simp [Addr.add]; exact fun h => h.symm
          rw [e1, (unhide RW).cell j]
          simpa using hj
        refine step_append_lies _ rfl _ _ 24 rfl (xb + 1) 40 i0 _ 3 40 Try.underlying24 hi hz0 hz1 hz2 rfl (by decide) v1 _ _ rfl (unhide OW) ⟨bw, 0, none⟩ 1 1 [.string zz, .string ⟨#[]⟩, .bool false] (by rw [hbq]; rfl) rfl hnews (by simp [Value.oneCell']) (by decide) (by unfold maxLen; omega) (by omega) hsz1 _ rfl ?_
        intro g2 cp2 w4 ow4 gr4 _ _
        change K20088 (Act.put _ (some 115) _) _
        simp only [Act.put, List.setIfInBounds_toArray, List.set_cons_zero, List.set_cons_succ]
        refine hK20088.out _ _ ?hs20088 (fun hHeld20088 => ?_)
        case hs20088 => exact (gr4.block _ hHeld.lt hnx).trans hHeld
        clear hHeld
        have hHeld := hHeld20088; clear hHeld20088 hK20088 K20088
        refine wpAnyH_take (i := 9) (oi := ?oi20089) (v := ?v20089) ?hi20089 (by kernel_rfl) (by kernel_rfl) (by kernel_rfl) (fun _ _ _ h => h) (Or.inl ⟨?hw20089, ?hy20089⟩) (by assumption) ?rest20089
        case hi20089 => (simp only [List.getElem?_toArray, List.getElem?_cons_zero, List.getElem?_cons_succ]; rfl)
        case hw20089 => rfl
        case hy20089 => first | (intro wx hSw; go_simp; done) | (intro wx hSw; go_simp; with_reducible rfl)
        simp only [Act.put, List.setIfInBounds_toArray, List.set_cons_zero, List.set_cons_succ]
        have k4 : Blk V.heap.size #[.int .i64 c.kind, .int .i64 c.id, .int .i64 c.txn, .bool c.com, .slice q c.ws.length cap, .string c.text] 26 w4 := (gr4.block _ (unhide HC1).lt hnv).trans (unhide HC1)
        have hB4 : Below V.heap.size V w4 := (unhide HB1).grown gr4 (unhide HB1).size (fun j e => by have h9 := ((unhide OW).lt _ e).1; omega)
        have l4 := k4.lt
        have z4 := k4.cell 4
        have zf4 := k4.froz 4
        simp at z4
        refine wpAnyH_ready (rs := [10]) (by kernel_rfl) (by simp) ?_
        refine AllReadyH.cons rfl (fun K20090 hK20090 => ?_) AllReadyH.nil
        go_simp
        refine hK20090.out _ _ ?hs20090 (fun hHeld20090 => ?_)
        case hs20090 => exact blk_far1 hHeld (by omega)
        clear hHeld
        have hHeld := hHeld20090; clear hHeld20090 hK20090 K20090
        refine wpAnyH_done (by kernel_rfl) ?_ _
        refine NoPanic.normal ?_
        skip
        exact unhide FIN g2 cp2 w4 _ (by kernel_rfl) ow4 k4 hB4
    refine AllReadyH.cons rfl (fun K20091 hK20091 => ?_) AllReadyH.nil
    · go_simp
      refine hK20091.out _ _ ?hs20091 (fun hHeld20091 => ?_)
      case hs20091 => exact hHeld.below (below_new _ _)
      clear hHeld
      have hHeld := hHeld20091; clear hHeld20091 hK20091 K20091
      have hb := below_new Yd (.cells #[.string zz, .string ⟨#[]⟩, .bool false] 40)
      have hbs := hb.size
      replace HC1 := hide ((unhide HC1).below hb)
      replace HW1 := hide ((unhide HW1).below hb)
      replace HB1 := hide (Below.onto (unhide HB1) hb)
      replace hsz1 := Nat.le_trans hsz1 hbs
      have RW := hide (Blk.new Yd #[.string zz, .string ⟨#[]⟩, .bool false] 40)
      obtain ⟨bw, hbq⟩ : ∃ b, b = Yd.heap.size := ⟨_, rfl⟩
      rw [← hbq] at RW
      have hsY : Yd.heap.size < (Yd.alloc (.cells #[.string zz, .string ⟨#[]⟩, .bool false] 40)).heap.size := by simp
      generalize Yd.alloc (.cells #[.string zz, .string ⟨#[]⟩, .bool false] 40) = Y16 at *
      clear hb
      refine wpAnyH_ready (rs := [0]) (by kernel_rfl) (by simp) ?_
      refine AllReadyH.cons rfl (fun K20092 hK20092 => ?_) AllReadyH.nil
      go_simp
      refine hK20092.out _ _ ?hs20092 (fun hHeld20092 => ?_)
      case hs20092 => exact hHeld.below (below_new _ _)
      clear hHeld
      have hHeld := hHeld20092; clear hHeld20092 hK20092 K20092
      have hgx0 := hsz1
      have hb := below_new Y16 (.cells #[] 40)
      have hbs := hb.size
      replace HC1 := hide ((unhide HC1).below hb)
      replace HW1 := hide ((unhide HW1).below hb)
      replace HB1 := hide (Below.onto (unhide HB1) hb)
      replace hsz1 := Nat.le_trans hsz1 hbs
      replace RW := hide ((unhide RW).below hb)
      have RE := hide (Blk.new Y16 #[] 40)
      obtain ⟨ge, hgq⟩ : ∃ b, b = Y16.heap.size := ⟨_, rfl⟩
      rw [← hgq] at RE
      have hgx : xb + 1 ≤ ge := by omega
      have hbg : bw ≠ ge := by omega
      generalize Y16.alloc (.cells #[] 40) = Y17 at *
      clear hb
      refine wpAnyH_ready (rs := [3]) (by kernel_rfl) (by simp) ?_
      refine AllReadyH.cons rfl (fun K20093 hK20093 => ?_) AllReadyH.nil
      refine step_app0 rfl _ _ rfl Y17 ge q c.ws cap (by rw [hgq]; rfl) rfl (unhide RE) (unhide HW1) (by omega) (xb + 1) hgx ?_
      intro v1 Y18 ow1 gr1
      change K20093 (Act.put _ (some 110) _) _
      simp only [Act.put, List.setIfInBounds_toArray, List.set_cons_zero, List.set_cons_succ]
      refine hK20093.out _ _ ?hs20093 (fun hHeld20093 => ?_)
      case hs20093 => exact gr_blk hHeld gr1 (by omega)
      clear hHeld
      have hHeld := hHeld20093; clear hHeld20093 hK20093 K20093
      replace HB1 := hide (gr_below (unhide HB1) gr1 (by omega) (unhide HB1).size)
      replace HC1 := hide (gr_blk (unhide HC1) gr1 (by omega))
      replace hsz1 := Nat.le_trans hsz1 gr1.size
      have OW := hide ow1
      replace RW := hide (gr_blk (unhide RW) gr1 hbg)
      have hbs2 := gr1.size
      clear gr1 ow1 RE HW1
      refine wpAnyH_ready (rs := [8]) (by kernel_rfl) (by simp) ?_
      refine AllReadyH.cons rfl (fun K20094 hK20094 => ?_) AllReadyH.nil
      have hnv : some V.heap.size ≠ v1.ownBlock := fun e => by have h9 := ((unhide OW).lt _ e.symm).1; omega
      have hnx : some xb ≠ v1.ownBlock := fun e => by have h9 := ((unhide OW).lt _ e.symm).1; omega
      have hnews : ∀ j u, ([.string zz, .string ⟨#[]⟩, .bool false] : List Value)[j]? = some u → Y18.cell? (Addr.add ⟨bw, 0, none⟩ j) = some u := fun j u hj => by
        have e1 : Addr.add ⟨bw, 0, none⟩ j = ⟨bw, j, none⟩ := by simp [Addr.add]; exact fun h => h.symm
        rw [e1, (unhide RW).cell j]
        simpa using hj
      refine step_append_lies _ rfl _ _ 24 rfl (xb + 1) 40 i0 _ 3 40 Try.underlying24 hi hz0 hz1 hz2 rfl (by decide) v1 _ _ rfl (unhide OW) ⟨bw, 0, none⟩ 1 1 [.string zz, .string ⟨#[]⟩, .bool false] (by rw [hbq]; rfl) rfl hnews (by simp [Value.oneCell']) (by decide) (by unfold maxLen; omega) (by omega) hsz1 _ rfl ?_
      intro g2 cp2 w4 ow4 gr4 _ _
      change K20094 (Act.put _ (some 115) _) _
      simp only [Act.put, List.setIfInBounds_toArray, List.set_cons_zero, List.set_cons_succ]
      refine hK20094.out _ _ ?hs20094 (fun hHeld20094 => ?_)
      case hs20094 => exact (gr4.block _ hHeld.lt hnx).trans hHeld
      clear hHeld
      have hHeld := hHeld20094; clear hHeld20094 hK20094 K20094
      refine wpAnyH_take (i := 9) (oi := ?oi20095) (v := ?v20095) ?hi20095 (by kernel_rfl) (by kernel_rfl) (by kernel_rfl) (fun _ _ _ h => h) (Or.inl ⟨?hw20095, ?hy20095⟩) (by assumption) ?rest20095
      case hi20095 => (simp only [List.getElem?_toArray, List.getElem?_cons_zero, List.getElem?_cons_succ]; rfl)
      case hw20095 => rfl
      case hy20095 => first | (intro wx hSw; go_simp; done) | (intro wx hSw; go_simp; with_reducible rfl)
      simp only [Act.put, List.setIfInBounds_toArray, List.set_cons_zero, List.set_cons_succ]
      have k4 : Blk V.heap.size #[.int .i64 c.kind, .int .i64 c.id, .int .i64 c.txn, .bool c.com, .slice q c.ws.length cap, .string c.text] 26 w4 := (gr4.block _ (unhide HC1).lt hnv).trans (unhide HC1)
      have hB4 : Below V.heap.size V w4 := (unhide HB1).grown gr4 (unhide HB1).size (fun j e => by have h9 := ((unhide OW).lt _ e).1; omega)
      have l4 := k4.lt
      have z4 := k4.cell 4
      have zf4 := k4.froz 4
      simp at z4
      refine wpAnyH_ready (rs := [10]) (by kernel_rfl) (by simp) ?_
      refine AllReadyH.cons rfl (fun K20096 hK20096 => ?_) AllReadyH.nil
      go_simp
      refine hK20096.out _ _ ?hs20096 (fun hHeld20096 => ?_)
      case hs20096 => exact blk_far1 hHeld (by omega)
      clear hHeld
      have hHeld := hHeld20096; clear hHeld20096 hK20096 K20096
      refine wpAnyH_done (by kernel_rfl) ?_ _
      refine NoPanic.normal ?_
      skip
      exact unhide FIN g2 cp2 w4 _ (by kernel_rfl) ow4 k4 hB4
  refine AllReadyH.cons rfl (fun K20097 hK20097 => ?_) AllReadyH.nil
  · go_simp
    refine hK20097.out _ _ ?hs20097 (fun hHeld20097 => ?_)
    case hs20097 => exact hHeld.below (below_new _ _)
    clear hHeld
    have hHeld := hHeld20097; clear hHeld20097 hK20097 K20097
    have hb := below_new Yd (.cells #[.string zz, .string ⟨#[]⟩, .bool false] 40)
    have hbs := hb.size
    replace HC1 := hide ((unhide HC1).below hb)
    replace HW1 := hide ((unhide HW1).below hb)
    replace HB1 := hide (Below.onto (unhide HB1) hb)
    replace hsz1 := Nat.le_trans hsz1 hbs
    have RW := hide (Blk.new Yd #[.string zz, .string ⟨#[]⟩, .bool false] 40)
    obtain ⟨bw, hbq⟩ : ∃ b, b = Yd.heap.size := ⟨_, rfl⟩
    rw [← hbq] at RW
    have hsY : Yd.heap.size < (Yd.alloc (.cells #[.string zz, .string ⟨#[]⟩, .bool false] 40)).heap.size := by simp
    generalize Yd.alloc (.cells #[.string zz, .string ⟨#[]⟩, .bool false] 40) = Y19 at *
    clear hb
    refine wpAnyH_ready (rs := [0, 2]) (by kernel_rfl) (by simp) ?_
    refine AllReadyH.cons rfl (fun K20098 hK20098 => ?_) ?_
    · go_simp
      refine hK20098.out _ _ ?hs20098 (fun hHeld20098 => ?_)
      case hs20098 => exact hHeld.below (below_new _ _)
      clear hHeld
      have hHeld := hHeld20098; clear hHeld20098 hK20098 K20098
      have hgx0 := hsz1
      have hb := below_new Y19 (.cells #[] 40)
      have hbs := hb.size
      replace HC1 := hide ((unhide HC1).below hb)
      replace HW1 := hide ((unhide HW1).below hb)
      replace HB1 := hide (Below.onto (unhide HB1) hb)
      replace hsz1 := Nat.le_trans hsz1 hbs
      replace RW := hide ((unhide RW).below hb)
      have RE := hide (Blk.new Y19 #[] 40)
      obtain ⟨ge, hgq⟩ : ∃ b, b = Y19.heap.size := ⟨_, rfl⟩
      rw [← hgq] at RE
      have hgx : xb + 1 ≤ ge := by omega
      have hbg : bw ≠ ge := by omega
      generalize Y19.alloc (.cells #[] 40) = Y20 at *
      clear hb
      refine wpAnyH_ready (rs := [2]) (by kernel_rfl) (by simp) ?_
      refine AllReadyH.cons rfl (fun K20099 hK20099 => ?_) AllReadyH.nil
      have z1 := (unhide HC1).cell 4
      have zf1 := (unhide HC1).froz 4
      have zl1 := (unhide HC1).lt
      simp at z1
      go_simp
      refine hK20099.out _ _ ?hs20099 (fun hHeld20099 => ?_)
      case hs20099 => exact hHeld
      clear hHeld
      have hHeld := hHeld20099; clear hHeld20099 hK20099 K20099
      clear z1 zf1 zl1
      refine wpAnyH_ready (rs := [3]) (by kernel_rfl) (by simp) ?_
      refine AllReadyH.cons rfl (fun K20100 hK20100 => ?_) AllReadyH.nil
      refine step_app0 rfl _ _ rfl Y20 ge q c.ws cap (by rw [hgq]; rfl) rfl (unhide RE) (unhide HW1) (by omega) (xb + 1) hgx ?_
      intro v1 Y22 ow1 gr1
      change K20100 (Act.put _ (some 110) _) _
      simp only [Act.put, List.setIfInBounds_toArray, List.set_cons_zero, List.set_cons_succ]
      refine hK20100.out _ _ ?hs20100 (fun hHeld20100 => ?_)
      case hs20100 => exact gr_blk hHeld gr1 (by omega)
      clear hHeld
      have hHeld := hHeld20100; clear hHeld20100 hK20100 K20100
      replace HB1 := hide (gr_below (unhide HB1) gr1 (by omega) (unhide HB1).size)
      replace HC1 := hide (gr_blk (unhide HC1) gr1 (by omega))
      replace hsz1 := Nat.le_trans hsz1 gr1.size
      have OW := hide ow1
      replace RW := hide (gr_blk (unhide RW) gr1 hbg)
      have hbs2 := gr1.size
      clear gr1 ow1 RE HW1
      refine wpAnyH_ready (rs := [8]) (by kernel_rfl) (by simp) ?_
      refine AllReadyH.cons rfl (fun K20101 hK20101 => ?_) AllReadyH.nil
      have hnv : some V.heap.size ≠ v1.ownBlock := fun e => by have h9 := ((unhide OW).lt _ e.symm).1; omega
      have hnx : some xb ≠ v1.ownBlock := fun e => by have h9 := ((unhide OW).lt _ e.symm).1; omega
      have hnews : ∀ j u, ([.string zz, .string ⟨#[]⟩, .bool false] : List Value)[j]? = some u → Y22.cell? (Addr.add ⟨bw, 0, none⟩ j) = some u := fun j u hj => by
        have e1 : Addr.add ⟨bw, 0, none⟩ j = ⟨bw, j, none⟩ := by simp [Addr.add]; exact fun h => h.symm
        rw [e1, (unhide RW).cell j]
        simpa using hj
      refine step_append_lies _ rfl _ _ 24 rfl (xb + 1) 40 i0 _ 3 40 Try.underlying24 hi hz0 hz1 hz2 rfl (by decide) v1 _ _ rfl (unhide OW) ⟨bw, 0, none⟩ 1 1 [.string zz, .string ⟨#[]⟩, .bool false] (by rw [hbq]; rfl) rfl hnews (by simp [Value.oneCell']) (by decide) (by unfold maxLen; omega) (by omega) hsz1 _ rfl ?_
      intro g2 cp2 w4 ow4 gr4 _ _
      change K20101 (Act.put _ (some 115) _) _
      simp only [Act.put, List.setIfInBounds_toArray, List.set_cons_zero, List.set_cons_succ]
      refine hK20101.out _ _ ?hs20101 (fun hHeld20101 => ?_)
      case hs20101 => exact (gr4.block _ hHeld.lt hnx).trans hHeld
      clear hHeld
      have hHeld := hHeld20101; clear hHeld20101 hK20101 K20101
      refine wpAnyH_take (i := 9) (oi := ?oi20102) (v := ?v20102) ?hi20102 (by kernel_rfl) (by kernel_rfl) (by kernel_rfl) (fun _ _ _ h => h) (Or.inl ⟨?hw20102, ?hy20102⟩) (by assumption) ?rest20102
      case hi20102 => (simp only [List.getElem?_toArray, List.getElem?_cons_zero, List.getElem?_cons_succ]; rfl)
      case hw20102 => rfl
      case hy20102 => first | (intro wx hSw; go_simp; done) | (intro wx hSw; go_simp; with_reducible rfl)
      simp only [Act.put, List.setIfInBounds_toArray, List.set_cons_zero, List.set_cons_succ]
      have k4 : Blk V.heap.size #[.int .i64 c.kind, .int .i64 c.id, .int .i64 c.txn, .bool c.com, .slice q c.ws.length cap, .string c.text] 26 w4 := (gr4.block _ (unhide HC1).lt hnv).trans (unhide HC1)
      have hB4 : Below V.heap.size V w4 := (unhide HB1).grown gr4 (unhide HB1).size (fun j e => by have h9 := ((unhide OW).lt _ e).1; omega)
      have l4 := k4.lt
      have z4 := k4.cell 4
      have zf4 := k4.froz 4
      simp at z4
      refine wpAnyH_ready (rs := [10]) (by kernel_rfl) (by simp) ?_
      refine AllReadyH.cons rfl (fun K20103 hK20103 => ?_) AllReadyH.nil
      go_simp
      refine hK20103.out _ _ ?hs20103 (fun hHeld20103 => ?_)
      case hs20103 => exact blk_far1 hHeld (by omega)
      clear hHeld
      have hHeld := hHeld20103; clear hHeld20103 hK20103 K20103
      refine wpAnyH_done (by kernel_rfl) ?_ _
      refine NoPanic.normal ?_
      skip
      exact unhide FIN g2 cp2 w4 _ (by kernel_rfl) ow4 k4 hB4
    refine AllReadyH.cons rfl (fun K20104 hK20104 => ?_) AllReadyH.nil
    · have z1 := (unhide HC1).cell 4
      have zf1 := (unhide HC1).froz 4
      have zl1 := (unhide HC1).lt
      simp at z1
      go_simp
      refine hK20104.out _ _ ?hs20104 (fun hHeld20104 => ?_)
      case hs20104 => exact hHeld
      clear hHeld
      have hHeld := hHeld20104; clear hHeld20104 hK20104 K20104
      clear z1 zf1 zl1
      refine wpAnyH_ready (rs := [0]) (by kernel_rfl) (by simp) ?_
      refine AllReadyH.cons rfl (fun K20105 hK20105 => ?_) AllReadyH.nil
      go_simp
      refine hK20105.out _ _ ?hs20105 (fun hHeld20105 => ?_)
      case hs20105 => exact hHeld.below (below_new _ _)
      clear hHeld
      have hHeld := hHeld20105; clear hHeld20105 hK20105 K20105
      have hgx0 := hsz1
      have hb := below_new Y19 (.cells #[] 40)
      have hbs := hb.size
      replace HC1 := hide ((unhide HC1).below hb)
      replace HW1 := hide ((unhide HW1).below hb)
      replace HB1 := hide (Below.onto (unhide HB1) hb)
      replace hsz1 := Nat.le_trans hsz1 hbs
      replace RW := hide ((unhide RW).below hb)
      have RE := hide (Blk.new Y19 #[] 40)
      obtain ⟨ge, hgq⟩ : ∃ b, b = Y19.heap.size := ⟨_, rfl⟩
      rw [← hgq] at RE
      have hgx : xb + 1 ≤ ge := by omega
      have hbg : bw ≠ ge := by omega
      generalize Y19.alloc (.cells #[] 40) = Y24 at *
      clear hb
      refine wpAnyH_ready (rs := [3]) (by kernel_rfl) (by simp) ?_
      refine AllReadyH.cons rfl (fun K20106 hK20106 => ?_) AllReadyH.nil
      refine step_app0 rfl _ _ rfl Y24 ge q c.ws cap (by rw [hgq]; rfl) rfl (unhide RE) (unhide HW1) (by omega) (xb + 1) hgx ?_
      intro v1 Y25 ow1 gr1
      change K20106 (Act.put _ (some 110) _) _
      simp only [Act.put, List.setIfInBounds_toArray, List.set_cons_zero, List.set_cons_succ]
      refine hK20106.out _ _ ?hs20106 (fun hHeld20106 => ?_)
      case hs20106 => exact gr_blk hHeld gr1 (by omega)
      clear hHeld
      have hHeld := hHeld20106; clear hHeld20106 hK20106 K20106
      replace HB1 := hide (gr_below (unhide HB1) gr1 (by omega) (unhide HB1).size)
      replace HC1 := hide (gr_blk (unhide HC1) gr1 (by omega))
      replace hsz1 := Nat.le_trans hsz1 gr1.size
      have OW := hide ow1
      replace RW := hide (gr_blk (unhide RW) gr1 hbg)
      have hbs2 := gr1.size
      clear gr1 ow1 RE HW1
      refine wpAnyH_ready (rs := [8]) (by kernel_rfl) (by simp) ?_
      refine AllReadyH.cons rfl (fun K20107 hK20107 => ?_) AllReadyH.nil
      have hnv : some V.heap.size ≠ v1.ownBlock := fun e => by have h9 := ((unhide OW).lt _ e.symm).1; omega
      have hnx : some xb ≠ v1.ownBlock := fun e => by have h9 := ((unhide OW).lt _ e.symm).1; omega
      have hnews : ∀ j u, ([.string zz, .string ⟨#[]⟩, .bool false] : List Value)[j]? = some u → Y25.cell? (Addr.add ⟨bw, 0, none⟩ j) = some u := fun j u hj => by
        have e1 : Addr.add ⟨bw, 0, none⟩ j = ⟨bw, j, none⟩ := by simp [Addr.add]; exact fun h => h.symm
        rw [e1, (unhide RW).cell j]
        simpa using hj
      refine step_append_lies _ rfl _ _ 24 rfl (xb + 1) 40 i0 _ 3 40 Try.underlying24 hi hz0 hz1 hz2 rfl (by decide) v1 _ _ rfl (unhide OW) ⟨bw, 0, none⟩ 1 1 [.string zz, .string ⟨#[]⟩, .bool false] (by rw [hbq]; rfl) rfl hnews (by simp [Value.oneCell']) (by decide) (by unfold maxLen; omega) (by omega) hsz1 _ rfl ?_
      intro g2 cp2 w4 ow4 gr4 _ _
      change K20107 (Act.put _ (some 115) _) _
      simp only [Act.put, List.setIfInBounds_toArray, List.set_cons_zero, List.set_cons_succ]
      refine hK20107.out _ _ ?hs20107 (fun hHeld20107 => ?_)
      case hs20107 => exact (gr4.block _ hHeld.lt hnx).trans hHeld
      clear hHeld
      have hHeld := hHeld20107; clear hHeld20107 hK20107 K20107
      refine wpAnyH_take (i := 9) (oi := ?oi20108) (v := ?v20108) ?hi20108 (by kernel_rfl) (by kernel_rfl) (by kernel_rfl) (fun _ _ _ h => h) (Or.inl ⟨?hw20108, ?hy20108⟩) (by assumption) ?rest20108
      case hi20108 => (simp only [List.getElem?_toArray, List.getElem?_cons_zero, List.getElem?_cons_succ]; rfl)
      case hw20108 => rfl
      case hy20108 => first | (intro wx hSw; go_simp; done) | (intro wx hSw; go_simp; with_reducible rfl)
      simp only [Act.put, List.setIfInBounds_toArray, List.set_cons_zero, List.set_cons_succ]
      have k4 : Blk V.heap.size #[.int .i64 c.kind, .int .i64 c.id, .int .i64 c.txn, .bool c.com, .slice q c.ws.length cap, .string c.text] 26 w4 := (gr4.block _ (unhide HC1).lt hnv).trans (unhide HC1)
      have hB4 : Below V.heap.size V w4 := (unhide HB1).grown gr4 (unhide HB1).size (fun j e => by have h9 := ((unhide OW).lt _ e).1; omega)
      have l4 := k4.lt
      have z4 := k4.cell 4
      have zf4 := k4.froz 4
      simp at z4
      refine wpAnyH_ready (rs := [10]) (by kernel_rfl) (by simp) ?_
      refine AllReadyH.cons rfl (fun K20109 hK20109 => ?_) AllReadyH.nil
      go_simp
      refine hK20109.out _ _ ?hs20109 (fun hHeld20109 => ?_)
      case hs20109 => exact blk_far1 hHeld (by omega)
      clear hHeld
      have hHeld := hHeld20109; clear hHeld20109 hK20109 K20109
      refine wpAnyH_done (by kernel_rfl) ?_ _
      refine NoPanic.normal ?_
      skip
      exact unhide FIN g2 cp2 w4 _ (by kernel_rfl) ow4 k4 hB4
end Go.Proofs.Ytjmmfgmmmdbenaa
