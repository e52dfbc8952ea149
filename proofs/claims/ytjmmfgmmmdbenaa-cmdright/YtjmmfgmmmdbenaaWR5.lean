/-
  CmdRight's switch: one write more.
-/
import Derived.Test.YtjmmfgmmmdbenaaWRa
namespace Go.Proofs.Ytjmmfgmmmdbenaa
open Go.RowKit
set_option linter.unusedSimpArgs false
set_option linter.unusedVariables false

set_option maxRecDepth 100000 in
set_option maxHeartbeats 8000000 in
theorem right_sw5 {r0 r1 r2 r3 r4 rest : Code} (hc : Try.f5.body = some (.seq r0 (.seq r1 (.seq r2 (.seq r3 (.seq r4 rest)))))) (w : World) (s : ByteArray) (which vv form : Int) (ac : Act) (b9 : Nat) (V X : World) (ha : ac = ⟨#[ac.tmps.getD 0 undef, ac.tmps.getD 1 undef, ac.tmps.getD 2 undef, ac.tmps.getD 3 undef, ac.tmps.getD 4 undef, .string s, .int .i64 which, .int .i64 vv, .int .i64 form, .pointer (some ⟨b9, 0, none⟩), ac.tmps.getD 10 undef, ac.tmps.getD 11 undef, ac.tmps.getD 12 undef, ac.tmps.getD 13 undef, ac.tmps.getD 14 undef, ac.tmps.getD 15 undef, ac.tmps.getD 16 undef, ac.tmps.getD 17 undef, .bool false, .pointer (some ⟨V.heap.size, 0, none⟩), ac.tmps.getD 20 undef, ac.tmps.getD 21 undef, ac.tmps.getD 22 undef, ac.tmps.getD 23 undef, ac.tmps.getD 24 undef, ac.tmps.getD 25 undef, ac.tmps.getD 26 undef, ac.tmps.getD 27 undef, ac.tmps.getD 28 undef, ac.tmps.getD 29 undef, ac.tmps.getD 30 undef, ac.tmps.getD 31 undef, ac.tmps.getD 32 undef, ac.tmps.getD 33 undef, ac.tmps.getD 34 undef, ac.tmps.getD 35 undef, ac.tmps.getD 36 undef, ac.tmps.getD 37 undef, ac.tmps.getD 38 undef, ac.tmps.getD 39 undef, ac.tmps.getD 40 undef, ac.tmps.getD 41 undef, ac.tmps.getD 42 undef, ac.tmps.getD 43 undef, ac.tmps.getD 44 undef, ac.tmps.getD 45 undef, ac.tmps.getD 46 undef, ac.tmps.getD 47 undef, ac.tmps.getD 48 undef, ac.tmps.getD 49 undef, ac.tmps.getD 50 undef, ac.tmps.getD 51 undef, ac.tmps.getD 52 undef, ac.tmps.getD 53 undef, ac.tmps.getD 54 undef, ac.tmps.getD 55 undef, ac.tmps.getD 56 undef, ac.tmps.getD 57 undef, ac.tmps.getD 58 undef, ac.tmps.getD 59 undef, ac.tmps.getD 60 undef, ac.tmps.getD 61 undef, ac.tmps.getD 62 undef, ac.tmps.getD 63 undef, ac.tmps.getD 64 undef, ac.tmps.getD 65 undef, ac.tmps.getD 66 undef, ac.tmps.getD 67 undef, ac.tmps.getD 68 undef, ac.tmps.getD 69 undef, ac.tmps.getD 70 undef, ac.tmps.getD 71 undef, ac.tmps.getD 72 undef, ac.tmps.getD 73 undef, ac.tmps.getD 74 undef, ac.tmps.getD 75 undef, ac.tmps.getD 76 undef, ac.tmps.getD 77 undef, ac.tmps.getD 78 undef, ac.tmps.getD 79 undef, ac.tmps.getD 80 undef, ac.tmps.getD 81 undef, ac.tmps.getD 82 undef, ac.tmps.getD 83 undef, ac.tmps.getD 84 undef, ac.tmps.getD 85 undef, ac.tmps.getD 86 undef, ac.tmps.getD 87 undef, ac.tmps.getD 88 undef, ac.tmps.getD 89 undef, ac.tmps.getD 90 undef, ac.tmps.getD 91 undef, ac.tmps.getD 92 undef, ac.tmps.getD 93 undef, ac.tmps.getD 94 undef, ac.tmps.getD 95 undef, ac.tmps.getD 96 undef, ac.tmps.getD 97 undef, ac.tmps.getD 98 undef, ac.tmps.getD 99 undef, ac.tmps.getD 100 undef, ac.tmps.getD 101 undef, ac.tmps.getD 102 undef, ac.tmps.getD 103 undef, ac.tmps.getD 104 undef, ac.tmps.getD 105 undef, ac.tmps.getD 106 undef, ac.tmps.getD 107 undef, ac.tmps.getD 108 undef, ac.tmps.getD 109 undef, ac.tmps.getD 110 undef, ac.tmps.getD 111 undef, ac.tmps.getD 112 undef, ac.tmps.getD 113 undef, ac.tmps.getD 114 undef, ac.tmps.getD 115 undef, ac.tmps.getD 116 undef, ac.tmps.getD 117 undef, ac.tmps.getD 118 undef, ac.tmps.getD 119 undef, ac.tmps.getD 120 undef, ac.tmps.getD 121 undef, ac.tmps.getD 122 undef, ac.tmps.getD 123 undef, ac.tmps.getD 124 undef, ac.tmps.getD 125 undef, ac.tmps.getD 126 undef, ac.tmps.getD 127 undef, ac.tmps.getD 128 undef, ac.tmps.getD 129 undef, ac.tmps.getD 130 undef, ac.tmps.getD 131 undef, ac.tmps.getD 132 undef, ac.tmps.getD 133 undef, ac.tmps.getD 134 undef, ac.tmps.getD 135 undef, ac.tmps.getD 136 undef, ac.tmps.getD 137 undef, ac.tmps.getD 138 undef, ac.tmps.getD 139 undef, ac.tmps.getD 140 undef, ac.tmps.getD 141 undef, ac.tmps.getD 142 undef, ac.tmps.getD 143 undef, ac.tmps.getD 144 undef, ac.tmps.getD 145 undef, ac.tmps.getD 146 undef, ac.tmps.getD 147 undef, ac.tmps.getD 148 undef, ac.tmps.getD 149 undef, ac.tmps.getD 150 undef, ac.tmps.getD 151 undef, ac.tmps.getD 152 undef, ac.tmps.getD 153 undef, ac.tmps.getD 154 undef, ac.tmps.getD 155 undef, ac.tmps.getD 156 undef, ac.tmps.getD 157 undef, ac.tmps.getD 158 undef, ac.tmps.getD 159 undef, ac.tmps.getD 160 undef, ac.tmps.getD 161 undef, ac.tmps.getD 162 undef, ac.tmps.getD 163 undef, ac.tmps.getD 164 undef, ac.tmps.getD 165 undef, ac.tmps.getD 166 undef, ac.tmps.getD 167 undef, ac.tmps.getD 168 undef, ac.tmps.getD 169 undef, ac.tmps.getD 170 undef, ac.tmps.getD 171 undef, ac.tmps.getD 172 undef, ac.tmps.getD 173 undef, ac.tmps.getD 174 undef, ac.tmps.getD 175 undef, ac.tmps.getD 176 undef, ac.tmps.getD 177 undef, ac.tmps.getD 178 undef, ac.tmps.getD 179 undef, ac.tmps.getD 180 undef, ac.tmps.getD 181 undef, ac.tmps.getD 182 undef, ac.tmps.getD 183 undef, ac.tmps.getD 184 undef, ac.tmps.getD 185 undef, ac.tmps.getD 186 undef, ac.tmps.getD 187 undef, ac.tmps.getD 188 undef, ac.tmps.getD 189 undef, ac.tmps.getD 190 undef, ac.tmps.getD 191 undef, ac.tmps.getD 192 undef, ac.tmps.getD 193 undef, ac.tmps.getD 194 undef, ac.tmps.getD 195 undef, ac.tmps.getD 196 undef], []⟩) (c d : Cm) (q q2 : Option Addr) (cap cap2 : Nat) (g : GoodC c) (HC : Hid (Blk V.heap.size #[.int .i64 c.kind, .int .i64 c.id, .int .i64 c.txn, .bool c.com, .slice q c.ws.length cap, .string c.text] 26 X)) (HD : Hid (Blk b9 #[.int .i64 d.kind, .int .i64 d.id, .int .i64 d.txn, .bool d.com, .slice q2 d.ws.length cap2, .string d.text] 26 V)) (HW : Hid (WsV q c.ws V)) (HV : Hid (WsV q2 d.ws V)) (HBV : Hid (Below V.heap.size V X)) (HB : Hid (Below w.heap.size w V)) (kw : Is64 which) (kv : Is64 vv) (hs : s.size ≤ 60) (K : Act → World → Prop) (Q : Exit → Act → World → Prop) (hK : Hid (After K w form b9 V d q2 cap2)) (hj : which % 9 = 5) : r4.wp Try.prog (Exit.then K Q) ac X := by
  obtain ⟨u, rfl⟩ : ∃ u : Nat → Value, ac = ⟨#[u 0, u 1, u 2, u 3, u 4, .string s, .int .i64 which, .int .i64 vv, .int .i64 form, .pointer (some ⟨b9, 0, none⟩), u 10, u 11, u 12, u 13, u 14, u 15, u 16, u 17, .bool false, .pointer (some ⟨V.heap.size, 0, none⟩), u 20, u 21, u 22, u 23, u 24, u 25, u 26, u 27, u 28, u 29, u 30, u 31, u 32, u 33, u 34, u 35, u 36, u 37, u 38, u 39, u 40, u 41, u 42, u 43, u 44, u 45, u 46, u 47, u 48, u 49, u 50, u 51, u 52, u 53, u 54, u 55, u 56, u 57, u 58, u 59, u 60, u 61, u 62, u 63, u 64, u 65, u 66, u 67, u 68, u 69, u 70, u 71, u 72, u 73, u 74, u 75, u 76, u 77, u 78, u 79, u 80, u 81, u 82, u 83, u 84, u 85, u 86, u 87, u 88, u 89, u 90, u 91, u 92, u 93, u 94, u 95, u 96, u 97, u 98, u 99, u 100, u 101, u 102, u 103, u 104, u 105, u 106, u 107, u 108, u 109, u 110, u 111, u 112, u 113, u 114, u 115, u 116, u 117, u 118, u 119, u 120, u 121, u 122, u 123, u 124, u 125, u 126, u 127, u 128, u 129, u 130, u 131, u 132, u 133, u 134, u 135, u 136, u 137, u 138, u 139, u 140, u 141, u 142, u 143, u 144, u 145, u 146, u 147, u 148, u 149, u 150, u 151, u 152, u 153, u 154, u 155, u 156, u 157, u 158, u 159, u 160, u 161, u 162, u 163, u 164, u 165, u 166, u 167, u 168, u 169, u 170, u 171, u 172, u 173, u 174, u 175, u 176, u 177, u 178, u 179, u 180, u 181, u 182, u 183, u 184, u 185, u 186, u 187, u 188, u 189, u 190, u 191, u 192, u 193, u 194, u 195, u 196], []⟩ := ⟨fun i => ac.tmps.getD i undef, ha⟩
  clear ha
  unfold Try.f5 at hc
  cases hc
  have WJ := hide (fun W => within7_at kw (by decide) hj W)
  clear hj
  have k1_ := unhide HC
  have lc := k1_.lt
  have x0_ := k1_.cell 0
  have xf0_ := k1_.froz 0
  have x1_ := k1_.cell 1
  have xf1_ := k1_.froz 1
  have x2_ := k1_.cell 2
  have xf2_ := k1_.froz 2
  have x3_ := k1_.cell 3
  have xf3_ := k1_.froz 3
  have x4_ := k1_.cell 4
  have xf4_ := k1_.froz 4
  have x5_ := k1_.cell 5
  have xf5_ := k1_.froz 5
  simp at x0_ x1_ x2_ x3_ x4_ x5_
  obtain ⟨jj, hjj⟩ : ∃ j : Nat, vv % 2 = (j : Int) := ⟨(vv % 2).toNat, by omega⟩
  have WV := hide (fun W => within7_at kv (by decide) hjj W)
  obtain ⟨gg, hgg⟩ : ∃ gg : Bool, ((jj : Int) == 0) = gg := ⟨_, rfl⟩
  have hlen := g.fine.len
  have hlen2 : c.ws.length ≤ 1000 := (rightC_of g.right).2.2.2.2.1
  have f := g.fineW
  have hF : Hid (FineW ⟨c.kind, c.id, c.txn, c.com, c.ws ++ [⟨s, s, gg⟩], c.text⟩) := hide ⟨f.kind, f.id, f.txn, by show (c.ws ++ [_]).length ≤ _; simp; omega, fun x hx => by
    rcases List.mem_append.1 hx with hx | hx
    · exact f.ws x hx
    · simp at hx; subst hx; exact ⟨by show s.size ≤ _; omega, by show s.size ≤ _; omega⟩, f.text⟩
  have hb0 := below_new X (.cells #[] 40)
  have hE := Blk.new X #[] 40
  have hWX := ((unhide HW).below (unhide HBV)).below hb0
  have hCE := k1_.below hb0
  have hBE := Below.onto (unhide HBV) hb0
  obtain ⟨i0, hi, hz0, hz1, hz2⟩ := info_parts info_wt
  have hge : V.heap.size + 1 ≤ X.heap.size := by omega
  have hsz0 : (X.alloc (.cells #[] 40)).heap.size = X.heap.size + 1 := by simp
  clear k1_ g f hjj hb0
  go_wp2_with (first | (go_at_call_of 15 (Value.int IntKind.i64 which); refine (unhide WJ _).mono ?_; rintro e X2 ⟨rfl, hX2⟩; replace hX2 := hX2.symm; subst hX2) | (go_at_call 15; refine (unhide WV _).mono ?_; rintro e X2 ⟨rfl, hX2⟩; replace hX2 := hX2.symm; subst hX2) | (at_builtin; first | (refine wpList_app0 rfl _ _ rfl (X.alloc (.cells #[] 40)) X.heap.size q c.ws cap rfl rfl hE hWX hlen (V.heap.size + 1) hge ?_; intro v1 W1 ow1 gr1; clear hE hWX; have hCE1 := gr_blk hCE gr1 (by omega); have hB1 := gr_below hBE gr1 (by omega) (by rw [hsz0]; omega); have hs1 := gr1.size; clear gr1 hCE hBE) | (refine wpList_append_lies _ rfl _ _ 24 rfl (V.heap.size + 1) 40 i0 _ 3 40 Try.underlying24 hi hz0 hz1 hz2 rfl (by decide) v1 _ _ rfl (ow1.alloc _) ⟨W1.heap.size, 0, none⟩ 1 1 [.string s, .string s, .bool gg] rfl rfl (cells3_new W1 _ _ _ _ _ rfl) (by simp [Value.oneCell']) (by decide) (by unfold maxLen; omega) (by omega) (by simp; omega) _ rfl ?_; intro g2 cp2 w4 ow4 gr4 _ _; have k4 := blk_app hCE1 (Nat.lt_succ_self _) ow1 gr4; have hB4 := below_app hB1 (Nat.le_succ _) ow1 gr4; have l4 := k4.lt; have z4 := k4.cell 4; have zf4 := k4.froz 4; simp at z4)))
  have HX := hide (hB4.setCell (p := ⟨V.heap.size, 4, none⟩) (Nat.le_refl _) (.slice (some ⟨g2, 0, none⟩) (c.ws.length + 1) cp2))
  have hrow := ownsRow_setCell_below (a := ⟨V.heap.size, 4, none⟩) ow4 (by show V.heap.size < _; omega) (.slice (some ⟨g2, 0, none⟩) (c.ws.length + 1) cp2)
  have hl1 : (c.ws ++ [(⟨s, s, gg⟩ : Wt)]).length = c.ws.length + 1 := by simp
  have hrow2 : (w4.setCell ⟨V.heap.size, 4, none⟩ (.slice (some ⟨g2, 0, none⟩) (c.ws.length + 1) cp2)).ownsRow (V.heap.size + 1) 40 3 (.slice (some ⟨g2, 0, none⟩) (c.ws ++ [(⟨s, s, gg⟩ : Wt)]).length cp2) (c.ws ++ [(⟨s, s, gg⟩ : Wt)]).length (wcells (c.ws ++ [⟨s, s, gg⟩])) := by
    rw [hl1, wcells_snoc]; exact hrow
  have HS := k4.set 4 (.slice (some ⟨g2, 0, none⟩) (c.ws.length + 1) cp2)
  have HS2 : Hid (Blk V.heap.size #[.int .i64 c.kind, .int .i64 c.id, .int .i64 c.txn, .bool c.com, .slice (some ⟨g2, 0, none⟩) (c.ws ++ [(⟨s, s, gg⟩ : Wt)]).length cp2, .string c.text] 26 (w4.setCell ⟨V.heap.size, 4, none⟩ (.slice (some ⟨g2, 0, none⟩) (c.ws.length + 1) cp2))) := by
    show Blk _ _ _ _
    rw [hl1]; exact HS
  exact unhide hK _ ⟨c.kind, c.id, c.txn, c.com, c.ws ++ [⟨s, s, gg⟩], c.text⟩ (some ⟨g2, 0, none⟩) cp2 _ (by kernel_rfl) HS2 (hide ((unhide HD).below (unhide HX))) (hide (row_wsv hrow2)) (hide ((unhide HV).below (unhide HX))) hF (hide (Below.onto (unhide HB) (unhide HX)))
end Go.Proofs.Ytjmmfgmmmdbenaa
