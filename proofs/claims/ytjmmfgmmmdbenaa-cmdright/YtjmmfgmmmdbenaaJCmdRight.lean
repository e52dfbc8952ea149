/-
  What the law CmdRight needs: its rows, its expressions, its walk.
-/
import Derived.Test.YtjmmfgmmmdbenaaCEw
import Derived.Test.YtjmmfgmmmdbenaaREw
import Derived.Test.YtjmmfgmmmdbenaaCP
import Derived.Laws.MakeOwn
import Derived.Test.YtjmmfgmmmdbenaaCM0
import Derived.OpenShut
import Derived.ProofKit
import Derived.Carry
import Derived.Test.YtjmmfgmmmdbenaaCXw
namespace Go.Proofs.Ytjmmfgmmmdbenaa
open Go.RowKit
set_option linter.unusedSimpArgs false
set_option linter.unusedVariables false

theorem forms_at (form : Int) (k : Nat) (hk : k < 5) : ∃ f : Int, (#[.int .i64 1, .int .i64 2, .int .i64 0, .int .i64 3, .int .i64 form] : Array Value)[k]? = some (.int .i64 f) := by
  match k, hk with
  | 0, _ => exact ⟨_, rfl⟩
  | 1, _ => exact ⟨_, rfl⟩
  | 2, _ => exact ⟨_, rfl⟩
  | 3, _ => exact ⟨_, rfl⟩
  | 4, _ => exact ⟨_, rfl⟩
theorem cmvW {c : Cm} {q : Option Addr} {cap : Nat} {W : World} (h : WsV q c.ws W) : CmV (.agg #[.int .i64 c.kind, .int .i64 c.id, .int .i64 c.txn, .bool c.com, .slice q c.ws.length cap, .string c.text]) c W := ⟨q, cap, rfl, h⟩
set_option maxRecDepth 100000 in
set_option maxHeartbeats 32000000 in
theorem right_tail {r0 r1 r2 r3 r4 rest : Code} (hc : Try.f5.body = some (.seq r0 (.seq r1 (.seq r2 (.seq r3 (.seq r4 rest)))))) (w : World) (form : Int) (ac : Act) (b b9 : Nat) (X : World) (ha : ac = ⟨#[ac.tmps.getD 0 undef, ac.tmps.getD 1 undef, ac.tmps.getD 2 undef, ac.tmps.getD 3 undef, ac.tmps.getD 4 undef, ac.tmps.getD 5 undef, ac.tmps.getD 6 undef, ac.tmps.getD 7 undef, .int .i64 form, .pointer (some ⟨b9, 0, none⟩), ac.tmps.getD 10 undef, ac.tmps.getD 11 undef, ac.tmps.getD 12 undef, ac.tmps.getD 13 undef, ac.tmps.getD 14 undef, ac.tmps.getD 15 undef, ac.tmps.getD 16 undef, ac.tmps.getD 17 undef, .bool false, .pointer (some ⟨b, 0, none⟩), ac.tmps.getD 20 undef, ac.tmps.getD 21 undef, ac.tmps.getD 22 undef, ac.tmps.getD 23 undef, ac.tmps.getD 24 undef, ac.tmps.getD 25 undef, ac.tmps.getD 26 undef, ac.tmps.getD 27 undef, ac.tmps.getD 28 undef, ac.tmps.getD 29 undef, ac.tmps.getD 30 undef, ac.tmps.getD 31 undef, ac.tmps.getD 32 undef, ac.tmps.getD 33 undef, ac.tmps.getD 34 undef, ac.tmps.getD 35 undef, ac.tmps.getD 36 undef, ac.tmps.getD 37 undef, ac.tmps.getD 38 undef, ac.tmps.getD 39 undef, ac.tmps.getD 40 undef, ac.tmps.getD 41 undef, ac.tmps.getD 42 undef, ac.tmps.getD 43 undef, ac.tmps.getD 44 undef, ac.tmps.getD 45 undef, ac.tmps.getD 46 undef, ac.tmps.getD 47 undef, ac.tmps.getD 48 undef, ac.tmps.getD 49 undef, ac.tmps.getD 50 undef, ac.tmps.getD 51 undef, ac.tmps.getD 52 undef, ac.tmps.getD 53 undef, ac.tmps.getD 54 undef, ac.tmps.getD 55 undef, ac.tmps.getD 56 undef, ac.tmps.getD 57 undef, ac.tmps.getD 58 undef, ac.tmps.getD 59 undef, ac.tmps.getD 60 undef, ac.tmps.getD 61 undef, ac.tmps.getD 62 undef, ac.tmps.getD 63 undef, ac.tmps.getD 64 undef, ac.tmps.getD 65 undef, ac.tmps.getD 66 undef, ac.tmps.getD 67 undef, ac.tmps.getD 68 undef, ac.tmps.getD 69 undef, ac.tmps.getD 70 undef, ac.tmps.getD 71 undef, ac.tmps.getD 72 undef, ac.tmps.getD 73 undef, ac.tmps.getD 74 undef, ac.tmps.getD 75 undef, ac.tmps.getD 76 undef, ac.tmps.getD 77 undef, ac.tmps.getD 78 undef, ac.tmps.getD 79 undef, ac.tmps.getD 80 undef, ac.tmps.getD 81 undef, ac.tmps.getD 82 undef, ac.tmps.getD 83 undef, ac.tmps.getD 84 undef, ac.tmps.getD 85 undef, ac.tmps.getD 86 undef, ac.tmps.getD 87 undef, ac.tmps.getD 88 undef, ac.tmps.getD 89 undef, ac.tmps.getD 90 undef, ac.tmps.getD 91 undef, ac.tmps.getD 92 undef, ac.tmps.getD 93 undef, ac.tmps.getD 94 undef, ac.tmps.getD 95 undef, ac.tmps.getD 96 undef, ac.tmps.getD 97 undef, ac.tmps.getD 98 undef, ac.tmps.getD 99 undef, ac.tmps.getD 100 undef, ac.tmps.getD 101 undef, ac.tmps.getD 102 undef, ac.tmps.getD 103 undef, ac.tmps.getD 104 undef, ac.tmps.getD 105 undef, ac.tmps.getD 106 undef, ac.tmps.getD 107 undef, ac.tmps.getD 108 undef, ac.tmps.getD 109 undef, ac.tmps.getD 110 undef, ac.tmps.getD 111 undef, ac.tmps.getD 112 undef, ac.tmps.getD 113 undef, ac.tmps.getD 114 undef, ac.tmps.getD 115 undef, ac.tmps.getD 116 undef, ac.tmps.getD 117 undef, ac.tmps.getD 118 undef, ac.tmps.getD 119 undef, ac.tmps.getD 120 undef, ac.tmps.getD 121 undef, ac.tmps.getD 122 undef, ac.tmps.getD 123 undef, ac.tmps.getD 124 undef, ac.tmps.getD 125 undef, ac.tmps.getD 126 undef, ac.tmps.getD 127 undef, ac.tmps.getD 128 undef, ac.tmps.getD 129 undef, ac.tmps.getD 130 undef, ac.tmps.getD 131 undef, ac.tmps.getD 132 undef, ac.tmps.getD 133 undef, ac.tmps.getD 134 undef, ac.tmps.getD 135 undef, ac.tmps.getD 136 undef, ac.tmps.getD 137 undef, ac.tmps.getD 138 undef, ac.tmps.getD 139 undef, ac.tmps.getD 140 undef, ac.tmps.getD 141 undef, ac.tmps.getD 142 undef, ac.tmps.getD 143 undef, ac.tmps.getD 144 undef, ac.tmps.getD 145 undef, ac.tmps.getD 146 undef, ac.tmps.getD 147 undef, ac.tmps.getD 148 undef, ac.tmps.getD 149 undef, ac.tmps.getD 150 undef, ac.tmps.getD 151 undef, ac.tmps.getD 152 undef, ac.tmps.getD 153 undef, ac.tmps.getD 154 undef, ac.tmps.getD 155 undef, ac.tmps.getD 156 undef, ac.tmps.getD 157 undef, ac.tmps.getD 158 undef, ac.tmps.getD 159 undef, ac.tmps.getD 160 undef, ac.tmps.getD 161 undef, ac.tmps.getD 162 undef, ac.tmps.getD 163 undef, ac.tmps.getD 164 undef, ac.tmps.getD 165 undef, ac.tmps.getD 166 undef, ac.tmps.getD 167 undef, ac.tmps.getD 168 undef, ac.tmps.getD 169 undef, ac.tmps.getD 170 undef, ac.tmps.getD 171 undef, ac.tmps.getD 172 undef, ac.tmps.getD 173 undef, ac.tmps.getD 174 undef, ac.tmps.getD 175 undef, ac.tmps.getD 176 undef, ac.tmps.getD 177 undef, ac.tmps.getD 178 undef, ac.tmps.getD 179 undef, ac.tmps.getD 180 undef, ac.tmps.getD 181 undef, ac.tmps.getD 182 undef, ac.tmps.getD 183 undef, ac.tmps.getD 184 undef, ac.tmps.getD 185 undef, ac.tmps.getD 186 undef, ac.tmps.getD 187 undef, ac.tmps.getD 188 undef, ac.tmps.getD 189 undef, ac.tmps.getD 190 undef, ac.tmps.getD 191 undef, ac.tmps.getD 192 undef, ac.tmps.getD 193 undef, ac.tmps.getD 194 undef, ac.tmps.getD 195 undef, ac.tmps.getD 196 undef], []⟩)
    (c d : Cm) (q q2 : Option Addr) (cap cap2 : Nat) (HC : Hid (Blk b #[.int .i64 c.kind, .int .i64 c.id, .int .i64 c.txn, .bool c.com, .slice q c.ws.length cap, .string c.text] 26 X)) (HD : Hid (Blk b9 #[.int .i64 d.kind, .int .i64 d.id, .int .i64 d.txn, .bool d.com, .slice q2 d.ws.length cap2, .string d.text] 26 X)) (HW : Hid (WsV q c.ws X)) (HV : Hid (WsV q2 d.ws X)) (FC : Hid (FineW c)) (FD : Hid (FineW d)) (HB : Hid (Below w.heap.size w X)) :
    rest.wp Try.prog (bodyPost Try.prog Try.f5 (fun e w' => e = .returned (.bool true) ∧ Below w.heap.size w w')) ac X := by
  obtain ⟨u, rfl⟩ : ∃ u : Nat → Value, ac = ⟨#[u 0, u 1, u 2, u 3, u 4, u 5, u 6, u 7, .int .i64 form, .pointer (some ⟨b9, 0, none⟩), u 10, u 11, u 12, u 13, u 14, u 15, u 16, u 17, .bool false, .pointer (some ⟨b, 0, none⟩), u 20, u 21, u 22, u 23, u 24, u 25, u 26, u 27, u 28, u 29, u 30, u 31, u 32, u 33, u 34, u 35, u 36, u 37, u 38, u 39, u 40, u 41, u 42, u 43, u 44, u 45, u 46, u 47, u 48, u 49, u 50, u 51, u 52, u 53, u 54, u 55, u 56, u 57, u 58, u 59, u 60, u 61, u 62, u 63, u 64, u 65, u 66, u 67, u 68, u 69, u 70, u 71, u 72, u 73, u 74, u 75, u 76, u 77, u 78, u 79, u 80, u 81, u 82, u 83, u 84, u 85, u 86, u 87, u 88, u 89, u 90, u 91, u 92, u 93, u 94, u 95, u 96, u 97, u 98, u 99, u 100, u 101, u 102, u 103, u 104, u 105, u 106, u 107, u 108, u 109, u 110, u 111, u 112, u 113, u 114, u 115, u 116, u 117, u 118, u 119, u 120, u 121, u 122, u 123, u 124, u 125, u 126, u 127, u 128, u 129, u 130, u 131, u 132, u 133, u 134, u 135, u 136, u 137, u 138, u 139, u 140, u 141, u 142, u 143, u 144, u 145, u 146, u 147, u 148, u 149, u 150, u 151, u 152, u 153, u 154, u 155, u 156, u 157, u 158, u 159, u 160, u 161, u 162, u 163, u 164, u 165, u 166, u 167, u 168, u 169, u 170, u 171, u 172, u 173, u 174, u 175, u 176, u 177, u 178, u 179, u 180, u 181, u 182, u 183, u 184, u 185, u 186, u 187, u 188, u 189, u 190, u 191, u 192, u 193, u 194, u 195, u 196], []⟩ := ⟨fun i => ac.tmps.getD i undef, ha⟩
  clear ha
  unfold Try.f5 at hc
  cases hc
  have k1_ := unhide HC
  have k2_ := unhide HD
  have lc := k1_.lt
  have ld := k2_.lt
  have x0_ := k1_.cell 0
  have y0_ := k2_.cell 0
  have x1_ := k1_.cell 1
  have y1_ := k2_.cell 1
  have x2_ := k1_.cell 2
  have y2_ := k2_.cell 2
  have x3_ := k1_.cell 3
  have y3_ := k2_.cell 3
  have x4_ := k1_.cell 4
  have y4_ := k2_.cell 4
  have x5_ := k1_.cell 5
  have y5_ := k2_.cell 5
  simp at x0_ y0_ x1_ y1_ x2_ y2_ x3_ y3_ x4_ y4_ x5_ y5_
  clear k1_ k2_
  go_wp2
  have HL := hide ((Blk.new X #[.int .i64 c.kind, .int .i64 c.id, .int .i64 c.txn, .bool c.com, .slice q c.ws.length cap, .string c.text, .int .i64 d.kind, .int .i64 d.id, .int .i64 d.txn, .bool d.com, .slice q2 d.ws.length cap2, .string d.text] 26).below (below_new (X.alloc (.cells #[.int .i64 c.kind, .int .i64 c.id, .int .i64 c.txn, .bool c.com, .slice q c.ws.length cap, .string c.text, .int .i64 d.kind, .int .i64 d.id, .int .i64 d.txn, .bool d.com, .slice q2 d.ws.length cap2, .string d.text] 26)) (.cells #[.int .i64 1, .int .i64 2, .int .i64 0, .int .i64 3, .int .i64 form] 3)))
  have hF := Blk.new (X.alloc (.cells #[.int .i64 c.kind, .int .i64 c.id, .int .i64 c.txn, .bool c.com, .slice q c.ws.length cap, .string c.text, .int .i64 d.kind, .int .i64 d.id, .int .i64 d.txn, .bool d.com, .slice q2 d.ws.length cap2, .string d.text] 26)) #[.int .i64 1, .int .i64 2, .int .i64 0, .int .i64 3, .int .i64 form] 3
  rw [World.size_alloc] at hF
  have HF := hide hF
  have hbn := Below.onto (below_new X (.cells #[.int .i64 c.kind, .int .i64 c.id, .int .i64 c.txn, .bool c.com, .slice q c.ws.length cap, .string c.text, .int .i64 d.kind, .int .i64 d.id, .int .i64 d.txn, .bool d.com, .slice q2 d.ws.length cap2, .string d.text] 26)) (below_new (X.alloc (.cells #[.int .i64 c.kind, .int .i64 c.id, .int .i64 c.txn, .bool c.com, .slice q c.ws.length cap, .string c.text, .int .i64 d.kind, .int .i64 d.id, .int .i64 d.txn, .bool d.com, .slice q2 d.ws.length cap2, .string d.text] 26)) (.cells #[.int .i64 1, .int .i64 2, .int .i64 0, .int .i64 3, .int .i64 form] 3))
  replace HW := hide ((unhide HW).below hbn)
  replace HV := hide ((unhide HV).below hbn)
  replace HB := hide (Below.onto (unhide HB) hbn)
  clear hbn hF HC HD lc ld x0_ y0_ x1_ y1_ x2_ y2_ x3_ y3_ x4_ y4_ x5_ y5_
  generalize (X.alloc (.cells #[.int .i64 c.kind, .int .i64 c.id, .int .i64 c.txn, .bool c.com, .slice q c.ws.length cap, .string c.text, .int .i64 d.kind, .int .i64 d.id, .int .i64 d.txn, .bool d.com, .slice q2 d.ws.length cap2, .string d.text] 26)).alloc (.cells #[.int .i64 1, .int .i64 2, .int .i64 0, .int .i64 3, .int .i64 form] 3) = X1 at *
  generalize X.heap.size = l0 at *
  go_loopw [25] (fun i wr => ∃ n : Nat, n ≤ 2 ∧ i = .int .i64 (n : Int) ∧ Hid (Blk l0 #[.int .i64 c.kind, .int .i64 c.id, .int .i64 c.txn, .bool c.com, .slice q c.ws.length cap, .string c.text, .int .i64 d.kind, .int .i64 d.id, .int .i64 d.txn, .bool d.com, .slice q2 d.ws.length cap2, .string d.text] 26 wr) ∧ Hid (Blk (l0 + 1) #[.int .i64 1, .int .i64 2, .int .i64 0, .int .i64 3, .int .i64 form] 3 wr) ∧ Hid (WsV q c.ws wr) ∧ Hid (WsV q2 d.ws wr) ∧ Hid (Below w.heap.size w wr)) (fun i wr => 2 - (intOf i).toNat)
  case atStart => exact ⟨0, by omega, rfl, HL, HF, HW, HV, HB⟩
  case round =>
    clear HL HF HW HV HB
    obtain ⟨n, hn, rfl, HL, HF, HW, HV, HB⟩ := hrel
    by_cases h2 : n < 2
    case neg =>
      obtain rfl : n = 2 := by omega
      go_wp2
      go_ret
      exact ⟨rfl, unhide HB⟩
    case pos =>
    have hnn : n = 0 ∨ n = 1 := by omega
    rcases hnn with rfl | rfl
    · go_wp2
      go_loopw [26] (fun j wr => ∃ m : Nat, m ≤ 5 ∧ j = .int .i64 (m : Int) ∧ Hid (Blk l0 #[.int .i64 c.kind, .int .i64 c.id, .int .i64 c.txn, .bool c.com, .slice q c.ws.length cap, .string c.text, .int .i64 d.kind, .int .i64 d.id, .int .i64 d.txn, .bool d.com, .slice q2 d.ws.length cap2, .string d.text] 26 wr) ∧ Hid (Blk (l0 + 1) #[.int .i64 1, .int .i64 2, .int .i64 0, .int .i64 3, .int .i64 form] 3 wr) ∧ Hid (WsV q c.ws wr) ∧ Hid (WsV q2 d.ws wr) ∧ Hid (Below w.heap.size w wr)) (fun j wr => 5 - (intOf j).toNat)
      case atStart => exact ⟨0, by omega, rfl, HL, HF, HW, HV, HB⟩
      case round =>
        clear HL HF HW HV HB
        obtain ⟨m, hm, rfl, HL, HF, HW, HV, HB⟩ := hrel
        by_cases h5 : m < 5
        case neg =>
          obtain rfl : m = 5 := by omega
          go_wp2
          exact ⟨⟨1, by omega, by go_num, HL, HF, HW, HV, HB⟩, by simp [intOf]⟩
        case pos =>
        obtain ⟨f, hf⟩ := forms_at form m h5
        have HX := hide hf
        have hmi : (m : Int) < 5 := by omega
        clear hf
        have E1 := hide (fun v W hv => encodeWd_any f c v W hv (unhide FC))
        have E2 := hide (fun v W hv => rencodeWd_any f c v W hv (unhide FC))
        obtain ⟨s0, hs0⟩ : ∃ s, encS f c = s := ⟨_, rfl⟩
        obtain ⟨k0, hk0⟩ : ∃ s, okC f c = s := ⟨_, rfl⟩
        rw [hs0, hk0] at E1 E2
        clear hs0 hk0
        go_wp2
        rename_i hrest
        have hbd : Below wr.heap.size wr wr.drew := (Below.refl _ _).drew
        replace HL := hide ((unhide HL).below hbd)
        replace HF := hide ((unhide HF).below hbd)
        replace HW := hide ((unhide HW).below hbd)
        replace HV := hide ((unhide HV).below hbd)
        replace HB := hide (Below.onto (unhide HB) hbd)
        refine wp_region_noPanic ?_
        refine wp_region_held_drew (S := (fun X => Blk l0 #[.int .i64 c.kind, .int .i64 c.id, .int .i64 c.txn, .bool c.com, .slice q c.ws.length cap, .string c.text, .int .i64 d.kind, .int .i64 d.id, .int .i64 d.txn, .bool d.com, .slice q2 d.ws.length cap2, .string d.text] 26 X ∧ Blk (l0 + 1) #[.int .i64 1, .int .i64 2, .int .i64 0, .int .i64 3, .int .i64 form] 3 X)) (by kernel_rfl) (⟨unhide HL, unhide HF⟩) (fun hHeld => ?_)
        clear hbd
        generalize wr.drew = Z0 at *
        refine wpAnyH_take (i := 0) (oi := ?oi20001) (v := ?v20001) ?hi20001 (by kernel_rfl) (by kernel_rfl) (by kernel_rfl) (fun _ _ _ h => h) (Or.inl ⟨?hw20001, ?hy20001⟩) (by assumption) ?rest20001
        case hi20001 => (simp only [List.getElem?_toArray, List.getElem?_cons_zero]; rfl)
        case hw20001 => rfl
        case hy20001 => first | (intro wx hSw; go_simp; done) | (intro wx hSw; go_simp; with_reducible rfl)
        simp only [Act.put, List.setIfInBounds_toArray, List.set_cons_zero, List.set_cons_succ]
        refine wpAnyH_take (i := 1) (oi := ?oi20002) (v := ?v20002) ?hi20002 (by kernel_rfl) (by kernel_rfl) (by kernel_rfl) (fun _ _ _ h => h) (Or.inl ⟨?hw20002, ?hy20002⟩) (by assumption) ?rest20002
        case hi20002 => (simp only [List.getElem?_toArray, List.getElem?_cons_zero, List.getElem?_cons_succ]; rfl)
        case hw20002 => rfl
        case hy20002 => first | (intro wx hSw; go_simp; done) | (intro wx hSw; go_simp; with_reducible rfl)
        simp only [Act.put, List.setIfInBounds_toArray, List.set_cons_zero, List.set_cons_succ]
        refine wpAnyH_take (i := 2) (oi := ?oi20003) (v := ?v20003) ?hi20003 (by kernel_rfl) (by kernel_rfl) (by kernel_rfl) (fun _ _ _ h => h) (Or.inl ⟨?hw20003, ?hy20003⟩) (by assumption) ?rest20003
        case hi20003 => (simp only [List.getElem?_toArray, List.getElem?_cons_zero, List.getElem?_cons_succ]; rfl)
        case hw20003 => rfl
        case hy20003 => first | (intro wx hSw; go_simp; done) | (intro wx hSw; go_simp; with_reducible rfl)
        simp only [Act.put, List.setIfInBounds_toArray, List.set_cons_zero, List.set_cons_succ]
        refine wpAnyH_take (i := 3) (oi := ?oi20004) (v := ?v20004) ?hi20004 (by kernel_rfl) (by kernel_rfl) (by kernel_rfl) (fun _ _ _ h => h) (Or.inl ⟨?hw20004, ?hy20004⟩) (by assumption) ?rest20004
        case hi20004 => (simp only [List.getElem?_toArray, List.getElem?_cons_zero, List.getElem?_cons_succ]; rfl)
        case hw20004 => rfl
        case hy20004 => first | (intro wx hSw; have q0_ := hSw.1.cell 0; have q1_ := hSw.1.cell 1; have q2_ := hSw.1.cell 2; have q3_ := hSw.1.cell 3; have q4_ := hSw.1.cell 4; have q5_ := hSw.1.cell 5; simp at q0_ q1_ q2_ q3_ q4_ q5_; go_simp; done) | (intro wx hSw; have q0_ := hSw.1.cell 0; have q1_ := hSw.1.cell 1; have q2_ := hSw.1.cell 2; have q3_ := hSw.1.cell 3; have q4_ := hSw.1.cell 4; have q5_ := hSw.1.cell 5; simp at q0_ q1_ q2_ q3_ q4_ q5_; go_simp; with_reducible rfl)
        simp only [Act.put, List.setIfInBounds_toArray, List.set_cons_zero, List.set_cons_succ]
        refine wpAnyH_take (i := 4) (oi := ?oi20005) (v := ?v20005) ?hi20005 (by kernel_rfl) (by kernel_rfl) (by kernel_rfl) (fun _ _ _ h => h) (Or.inl ⟨?hw20005, ?hy20005⟩) (by assumption) ?rest20005
        case hi20005 => (simp only [List.getElem?_toArray, List.getElem?_cons_zero, List.getElem?_cons_succ]; rfl)
        case hw20005 => rfl
        case hy20005 => first | (intro wx hSw; go_simp; done) | (intro wx hSw; go_simp; with_reducible rfl)
        simp only [Act.put, List.setIfInBounds_toArray, List.set_cons_zero, List.set_cons_succ]
        refine wpAnyH_take (i := 5) (oi := ?oi20006) (v := ?v20006) ?hi20006 (by kernel_rfl) (by kernel_rfl) (by kernel_rfl) (fun _ _ _ h => h) (Or.inl ⟨?hw20006, ?hy20006⟩) (by assumption) ?rest20006
        case hi20006 => (simp only [List.getElem?_toArray, List.getElem?_cons_zero, List.getElem?_cons_succ]; rfl)
        case hw20006 => rfl
        case hy20006 => first | (intro wx hSw; go_simp; done) | (intro wx hSw; go_simp; with_reducible rfl)
        simp only [Act.put, List.setIfInBounds_toArray, List.set_cons_zero, List.set_cons_succ]
        refine wpAnyH_take (i := 6) (oi := ?oi20007) (v := ?v20007) ?hi20007 (by kernel_rfl) (by kernel_rfl) (by kernel_rfl) (fun _ _ _ h => h) (Or.inl ⟨?hw20007, ?hy20007⟩) (by assumption) ?rest20007
        case hi20007 => (simp only [List.getElem?_toArray, List.getElem?_cons_zero, List.getElem?_cons_succ]; rfl)
        case hw20007 => rfl
        case hy20007 => first | (intro wx hSw; go_simp; done) | (intro wx hSw; go_simp; with_reducible rfl)
        simp only [Act.put, List.setIfInBounds_toArray, List.set_cons_zero, List.set_cons_succ]
        refine wpAnyH_take (i := 7) (oi := ?oi20008) (v := ?v20008) ?hi20008 (by kernel_rfl) (by kernel_rfl) (by kernel_rfl) (fun _ _ _ h => h) (Or.inl ⟨?hw20008, ?hy20008⟩) (by assumption) ?rest20008
        case hi20008 => (simp only [List.getElem?_toArray, List.getElem?_cons_zero, List.getElem?_cons_succ]; rfl)
        case hw20008 => rfl
        case hy20008 => first | (intro wx hSw; have q_ := hSw.2.cell m; rw [unhide HX] at q_; go_simp; done) | (intro wx hSw; have q_ := hSw.2.cell m; rw [unhide HX] at q_; go_simp; with_reducible rfl)
        simp only [Act.put, List.setIfInBounds_toArray, List.set_cons_zero, List.set_cons_succ]
        refine wpAnyH_ready (rs := [8]) (by kernel_rfl) (by simp) ?_
        refine AllReadyH.cons rfl (fun K20009 hK20009 => ?_) AllReadyH.nil
        go_simp
        go_wp2_with (go_at_call 16; refine (unhide E1 (.agg #[.int .i64 c.kind, .int .i64 c.id, .int .i64 c.txn, .bool c.com, .slice q c.ws.length cap, .string c.text]) Z0 (cmvW (unhide HW))).mono ?_; rintro e W1 ⟨rfl, hb0⟩)
        replace HL := hide ((unhide HL).below hb0); replace HF := hide ((unhide HF).below hb0); replace HW := hide ((unhide HW).below hb0); replace HV := hide ((unhide HV).below hb0); replace HB := hide (Below.onto (unhide HB) hb0); clear hb0
        refine hK20009.out _ _ ?hs20009 (fun hHeld20009 => ?_)
        case hs20009 => exact ⟨unhide HL, unhide HF⟩
        clear hHeld
        have hHeld := hHeld20009; clear hHeld20009 hK20009 K20009
        refine wpAnyH_take (i := 9) (oi := ?oi20010) (v := ?v20010) ?hi20010 (by kernel_rfl) (by kernel_rfl) (by kernel_rfl) (fun _ _ _ h => h) (Or.inl ⟨?hw20010, ?hy20010⟩) (by assumption) ?rest20010
        case hi20010 => (simp only [List.getElem?_toArray, List.getElem?_cons_zero, List.getElem?_cons_succ]; rfl)
        case hw20010 => rfl
        case hy20010 => first | (intro wx hSw; go_simp; done) | (intro wx hSw; go_simp; with_reducible rfl)
        simp only [Act.put, List.setIfInBounds_toArray, List.set_cons_zero, List.set_cons_succ]
        refine wpAnyH_take (i := 10) (oi := ?oi20011) (v := ?v20011) ?hi20011 (by kernel_rfl) (by kernel_rfl) (by kernel_rfl) (fun _ _ _ h => h) (Or.inl ⟨?hw20011, ?hy20011⟩) (by assumption) ?rest20011
        case hi20011 => (simp only [List.getElem?_toArray, List.getElem?_cons_zero, List.getElem?_cons_succ]; rfl)
        case hw20011 => rfl
        case hy20011 => first | (intro wx hSw; go_simp; done) | (intro wx hSw; go_simp; with_reducible rfl)
        simp only [Act.put, List.setIfInBounds_toArray, List.set_cons_zero, List.set_cons_succ]
        refine wpAnyH_take (i := 11) (oi := ?oi20012) (v := ?v20012) ?hi20012 (by kernel_rfl) (by kernel_rfl) (by kernel_rfl) (fun _ _ _ h => h) (Or.inl ⟨?hw20012, ?hy20012⟩) (by assumption) ?rest20012
        case hi20012 => (simp only [List.getElem?_toArray, List.getElem?_cons_zero, List.getElem?_cons_succ]; rfl)
        case hw20012 => rfl
        case hy20012 => first | (intro wx hSw; go_simp; done) | (intro wx hSw; go_simp; with_reducible rfl)
        simp only [Act.put, List.setIfInBounds_toArray, List.set_cons_zero, List.set_cons_succ]
        refine wpAnyH_ready (rs := [12]) (by kernel_rfl) (by simp) ?_
        refine AllReadyH.cons rfl (fun K20013 hK20013 => ?_) AllReadyH.nil
        go_simp
        refine hK20013.out _ _ ?hs20013 (fun hHeld20013 => ?_)
        case hs20013 => exact ⟨unhide HL, unhide HF⟩
        clear hHeld
        have hHeld := hHeld20013; clear hHeld20013 hK20013 K20013
        refine wpAnyH_ready (rs := [13]) (by kernel_rfl) (by simp) ?_
        refine AllReadyH.cons rfl (fun K20014 hK20014 => ?_) AllReadyH.nil
        go_simp
        refine hK20014.out _ _ ?hs20014 (fun hHeld20014 => ?_)
        case hs20014 => exact ⟨unhide HL, unhide HF⟩
        clear hHeld
        have hHeld := hHeld20014; clear hHeld20014 hK20014 K20014
        refine wpAnyH_done (by kernel_rfl) ?_ _
        refine NoPanic.normal ?_
        refine hrest _ _ ?_
        clear hHeld
        go_wp2
        rename_i hrest
        have hbd : Below W1.heap.size W1 W1.drew := (Below.refl _ _).drew
        replace HL := hide ((unhide HL).below hbd)
        replace HF := hide ((unhide HF).below hbd)
        replace HW := hide ((unhide HW).below hbd)
        replace HV := hide ((unhide HV).below hbd)
        replace HB := hide (Below.onto (unhide HB) hbd)
        refine wp_region_noPanic ?_
        refine wp_region_held_drew (S := (fun X => Blk l0 #[.int .i64 c.kind, .int .i64 c.id, .int .i64 c.txn, .bool c.com, .slice q c.ws.length cap, .string c.text, .int .i64 d.kind, .int .i64 d.id, .int .i64 d.txn, .bool d.com, .slice q2 d.ws.length cap2, .string d.text] 26 X ∧ Blk (l0 + 1) #[.int .i64 1, .int .i64 2, .int .i64 0, .int .i64 3, .int .i64 form] 3 X)) (by kernel_rfl) (⟨unhide HL, unhide HF⟩) (fun hHeld => ?_)
        clear hbd
        generalize W1.drew = Z1 at *
        refine wpAnyH_take (i := 0) (oi := ?oi20015) (v := ?v20015) ?hi20015 (by kernel_rfl) (by kernel_rfl) (by kernel_rfl) (fun _ _ _ h => h) (Or.inl ⟨?hw20015, ?hy20015⟩) (by assumption) ?rest20015
        case hi20015 => (simp only [List.getElem?_toArray, List.getElem?_cons_zero]; rfl)
        case hw20015 => rfl
        case hy20015 => first | (intro wx hSw; go_simp; done) | (intro wx hSw; go_simp; with_reducible rfl)
        simp only [Act.put, List.setIfInBounds_toArray, List.set_cons_zero, List.set_cons_succ]
        refine wpAnyH_take (i := 1) (oi := ?oi20016) (v := ?v20016) ?hi20016 (by kernel_rfl) (by kernel_rfl) (by kernel_rfl) (fun _ _ _ h => h) (Or.inl ⟨?hw20016, ?hy20016⟩) (by assumption) ?rest20016
        case hi20016 => (simp only [List.getElem?_toArray, List.getElem?_cons_zero, List.getElem?_cons_succ]; rfl)
        case hw20016 => rfl
        case hy20016 => first | (intro wx hSw; go_simp; done) | (intro wx hSw; go_simp; with_reducible rfl)
        simp only [Act.put, List.setIfInBounds_toArray, List.set_cons_zero, List.set_cons_succ]
        refine wpAnyH_take (i := 2) (oi := ?oi20017) (v := ?v20017) ?hi20017 (by kernel_rfl) (by kernel_rfl) (by kernel_rfl) (fun _ _ _ h => h) (Or.inl ⟨?hw20017, ?hy20017⟩) (by assumption) ?rest20017
        case hi20017 => (simp only [List.getElem?_toArray, List.getElem?_cons_zero, List.getElem?_cons_succ]; rfl)
        case hw20017 => rfl
        case hy20017 => first | (intro wx hSw; go_simp; done) | (intro wx hSw; go_simp; with_reducible rfl)
        simp only [Act.put, List.setIfInBounds_toArray, List.set_cons_zero, List.set_cons_succ]
        refine wpAnyH_take (i := 3) (oi := ?oi20018) (v := ?v20018) ?hi20018 (by kernel_rfl) (by kernel_rfl) (by kernel_rfl) (fun _ _ _ h => h) (Or.inl ⟨?hw20018, ?hy20018⟩) (by assumption) ?rest20018
        case hi20018 => (simp only [List.getElem?_toArray, List.getElem?_cons_zero, List.getElem?_cons_succ]; rfl)
        case hw20018 => rfl
        case hy20018 => first | (intro wx hSw; have q0_ := hSw.1.cell 0; have q1_ := hSw.1.cell 1; have q2_ := hSw.1.cell 2; have q3_ := hSw.1.cell 3; have q4_ := hSw.1.cell 4; have q5_ := hSw.1.cell 5; simp at q0_ q1_ q2_ q3_ q4_ q5_; go_simp; done) | (intro wx hSw; have q0_ := hSw.1.cell 0; have q1_ := hSw.1.cell 1; have q2_ := hSw.1.cell 2; have q3_ := hSw.1.cell 3; have q4_ := hSw.1.cell 4; have q5_ := hSw.1.cell 5; simp at q0_ q1_ q2_ q3_ q4_ q5_; go_simp; with_reducible rfl)
        simp only [Act.put, List.setIfInBounds_toArray, List.set_cons_zero, List.set_cons_succ]
        refine wpAnyH_take (i := 4) (oi := ?oi20019) (v := ?v20019) ?hi20019 (by kernel_rfl) (by kernel_rfl) (by kernel_rfl) (fun _ _ _ h => h) (Or.inl ⟨?hw20019, ?hy20019⟩) (by assumption) ?rest20019
        case hi20019 => (simp only [List.getElem?_toArray, List.getElem?_cons_zero, List.getElem?_cons_succ]; rfl)
        case hw20019 => rfl
        case hy20019 => first | (intro wx hSw; go_simp; done) | (intro wx hSw; go_simp; with_reducible rfl)
        simp only [Act.put, List.setIfInBounds_toArray, List.set_cons_zero, List.set_cons_succ]
        refine wpAnyH_take (i := 5) (oi := ?oi20020) (v := ?v20020) ?hi20020 (by kernel_rfl) (by kernel_rfl) (by kernel_rfl) (fun _ _ _ h => h) (Or.inl ⟨?hw20020, ?hy20020⟩) (by assumption) ?rest20020
        case hi20020 => (simp only [List.getElem?_toArray, List.getElem?_cons_zero, List.getElem?_cons_succ]; rfl)
        case hw20020 => rfl
        case hy20020 => first | (intro wx hSw; go_simp; done) | (intro wx hSw; go_simp; with_reducible rfl)
        simp only [Act.put, List.setIfInBounds_toArray, List.set_cons_zero, List.set_cons_succ]
        refine wpAnyH_take (i := 6) (oi := ?oi20021) (v := ?v20021) ?hi20021 (by kernel_rfl) (by kernel_rfl) (by kernel_rfl) (fun _ _ _ h => h) (Or.inl ⟨?hw20021, ?hy20021⟩) (by assumption) ?rest20021
        case hi20021 => (simp only [List.getElem?_toArray, List.getElem?_cons_zero, List.getElem?_cons_succ]; rfl)
        case hw20021 => rfl
        case hy20021 => first | (intro wx hSw; go_simp; done) | (intro wx hSw; go_simp; with_reducible rfl)
        simp only [Act.put, List.setIfInBounds_toArray, List.set_cons_zero, List.set_cons_succ]
        refine wpAnyH_take (i := 7) (oi := ?oi20022) (v := ?v20022) ?hi20022 (by kernel_rfl) (by kernel_rfl) (by kernel_rfl) (fun _ _ _ h => h) (Or.inl ⟨?hw20022, ?hy20022⟩) (by assumption) ?rest20022
        case hi20022 => (simp only [List.getElem?_toArray, List.getElem?_cons_zero, List.getElem?_cons_succ]; rfl)
        case hw20022 => rfl
        case hy20022 => first | (intro wx hSw; have q_ := hSw.2.cell m; rw [unhide HX] at q_; go_simp; done) | (intro wx hSw; have q_ := hSw.2.cell m; rw [unhide HX] at q_; go_simp; with_reducible rfl)
        simp only [Act.put, List.setIfInBounds_toArray, List.set_cons_zero, List.set_cons_succ]
        refine wpAnyH_ready (rs := [8]) (by kernel_rfl) (by simp) ?_
        refine AllReadyH.cons rfl (fun K20023 hK20023 => ?_) AllReadyH.nil
        go_simp
        go_wp2_with (go_at_call 17; refine (unhide E2 (.agg #[.int .i64 c.kind, .int .i64 c.id, .int .i64 c.txn, .bool c.com, .slice q c.ws.length cap, .string c.text]) Z1 (cmvW (unhide HW))).mono ?_; rintro e W2 ⟨rfl, hb1⟩)
        replace HL := hide ((unhide HL).below hb1); replace HF := hide ((unhide HF).below hb1); replace HW := hide ((unhide HW).below hb1); replace HV := hide ((unhide HV).below hb1); replace HB := hide (Below.onto (unhide HB) hb1); clear hb1
        refine hK20023.out _ _ ?hs20023 (fun hHeld20023 => ?_)
        case hs20023 => exact ⟨unhide HL, unhide HF⟩
        clear hHeld
        have hHeld := hHeld20023; clear hHeld20023 hK20023 K20023
        refine wpAnyH_take (i := 9) (oi := ?oi20024) (v := ?v20024) ?hi20024 (by kernel_rfl) (by kernel_rfl) (by kernel_rfl) (fun _ _ _ h => h) (Or.inl ⟨?hw20024, ?hy20024⟩) (by assumption) ?rest20024
        case hi20024 => (simp only [List.getElem?_toArray, List.getElem?_cons_zero, List.getElem?_cons_succ]; rfl)
        case hw20024 => rfl
        case hy20024 => first | (intro wx hSw; go_simp; done) | (intro wx hSw; go_simp; with_reducible rfl)
        simp only [Act.put, List.setIfInBounds_toArray, List.set_cons_zero, List.set_cons_succ]
        refine wpAnyH_take (i := 10) (oi := ?oi20025) (v := ?v20025) ?hi20025 (by kernel_rfl) (by kernel_rfl) (by kernel_rfl) (fun _ _ _ h => h) (Or.inl ⟨?hw20025, ?hy20025⟩) (by assumption) ?rest20025
        case hi20025 => (simp only [List.getElem?_toArray, List.getElem?_cons_zero, List.getElem?_cons_succ]; rfl)
        case hw20025 => rfl
        case hy20025 => first | (intro wx hSw; go_simp; done) | (intro wx hSw; go_simp; with_reducible rfl)
        simp only [Act.put, List.setIfInBounds_toArray, List.set_cons_zero, List.set_cons_succ]
        refine wpAnyH_take (i := 11) (oi := ?oi20026) (v := ?v20026) ?hi20026 (by kernel_rfl) (by kernel_rfl) (by kernel_rfl) (fun _ _ _ h => h) (Or.inl ⟨?hw20026, ?hy20026⟩) (by assumption) ?rest20026
        case hi20026 => (simp only [List.getElem?_toArray, List.getElem?_cons_zero, List.getElem?_cons_succ]; rfl)
        case hw20026 => rfl
        case hy20026 => first | (intro wx hSw; go_simp; done) | (intro wx hSw; go_simp; with_reducible rfl)
        simp only [Act.put, List.setIfInBounds_toArray, List.set_cons_zero, List.set_cons_succ]
        refine wpAnyH_ready (rs := [12]) (by kernel_rfl) (by simp) ?_
        refine AllReadyH.cons rfl (fun K20027 hK20027 => ?_) AllReadyH.nil
        go_simp
        refine hK20027.out _ _ ?hs20027 (fun hHeld20027 => ?_)
        case hs20027 => exact ⟨unhide HL, unhide HF⟩
        clear hHeld
        have hHeld := hHeld20027; clear hHeld20027 hK20027 K20027
        refine wpAnyH_ready (rs := [13]) (by kernel_rfl) (by simp) ?_
        refine AllReadyH.cons rfl (fun K20028 hK20028 => ?_) AllReadyH.nil
        go_simp
        refine hK20028.out _ _ ?hs20028 (fun hHeld20028 => ?_)
        case hs20028 => exact ⟨unhide HL, unhide HF⟩
        clear hHeld
        have hHeld := hHeld20028; clear hHeld20028 hK20028 K20028
        refine wpAnyH_done (by kernel_rfl) ?_ _
        refine NoPanic.normal ?_
        refine hrest _ _ ?_
        clear hHeld
        go_wp2
        go_roundw
        case rel =>
          refine ⟨_, _, _, _, _, _, _, _, _, _, _, _, _, _, _, _, _, _, _, _, _, _, _, _, _, _, _, _, _, _, _, _, _, _, _, _, _, _, _, _, _, _, ?_, rfl⟩
          exact ⟨m + 1, by omega, by go_num, HL, HF, HW, HV, HB⟩
        case measure => simp [intOf] <;> omega
    · go_wp2
      go_loopw [26] (fun j wr => ∃ m : Nat, m ≤ 5 ∧ j = .int .i64 (m : Int) ∧ Hid (Blk l0 #[.int .i64 c.kind, .int .i64 c.id, .int .i64 c.txn, .bool c.com, .slice q c.ws.length cap, .string c.text, .int .i64 d.kind, .int .i64 d.id, .int .i64 d.txn, .bool d.com, .slice q2 d.ws.length cap2, .string d.text] 26 wr) ∧ Hid (Blk (l0 + 1) #[.int .i64 1, .int .i64 2, .int .i64 0, .int .i64 3, .int .i64 form] 3 wr) ∧ Hid (WsV q c.ws wr) ∧ Hid (WsV q2 d.ws wr) ∧ Hid (Below w.heap.size w wr)) (fun j wr => 5 - (intOf j).toNat)
      case atStart => exact ⟨0, by omega, rfl, HL, HF, HW, HV, HB⟩
      case round =>
        clear HL HF HW HV HB
        obtain ⟨m, hm, rfl, HL, HF, HW, HV, HB⟩ := hrel
        by_cases h5 : m < 5
        case neg =>
          obtain rfl : m = 5 := by omega
          go_wp2
          exact ⟨⟨2, by omega, by go_num, HL, HF, HW, HV, HB⟩, by simp [intOf]⟩
        case pos =>
        obtain ⟨f, hf⟩ := forms_at form m h5
        have HX := hide hf
        have hmi : (m : Int) < 5 := by omega
        clear hf
        have E1 := hide (fun v W hv => encodeWd_any f d v W hv (unhide FD))
        have E2 := hide (fun v W hv => rencodeWd_any f d v W hv (unhide FD))
        obtain ⟨s0, hs0⟩ : ∃ s, encS f d = s := ⟨_, rfl⟩
        obtain ⟨k0, hk0⟩ : ∃ s, okC f d = s := ⟨_, rfl⟩
        rw [hs0, hk0] at E1 E2
        clear hs0 hk0
        go_wp2
        rename_i hrest
        have hbd : Below wr.heap.size wr wr.drew := (Below.refl _ _).drew
        replace HL := hide ((unhide HL).below hbd)
        replace HF := hide ((unhide HF).below hbd)
        replace HW := hide ((unhide HW).below hbd)
        replace HV := hide ((unhide HV).below hbd)
        replace HB := hide (Below.onto (unhide HB) hbd)
        refine wp_region_noPanic ?_
        refine wp_region_held_drew (S := (fun X => Blk l0 #[.int .i64 c.kind, .int .i64 c.id, .int .i64 c.txn, .bool c.com, .slice q c.ws.length cap, .string c.text, .int .i64 d.kind, .int .i64 d.id, .int .i64 d.txn, .bool d.com, .slice q2 d.ws.length cap2, .string d.text] 26 X ∧ Blk (l0 + 1) #[.int .i64 1, .int .i64 2, .int .i64 0, .int .i64 3, .int .i64 form] 3 X)) (by kernel_rfl) (⟨unhide HL, unhide HF⟩) (fun hHeld => ?_)
        clear hbd
        generalize wr.drew = Z0 at *
        refine wpAnyH_take (i := 0) (oi := ?oi20029) (v := ?v20029) ?hi20029 (by kernel_rfl) (by kernel_rfl) (by kernel_rfl) (fun _ _ _ h => h) (Or.inl ⟨?hw20029, ?hy20029⟩) (by assumption) ?rest20029
        case hi20029 => (simp only [List.getElem?_toArray, List.getElem?_cons_zero]; rfl)
        case hw20029 => rfl
        case hy20029 => first | (intro wx hSw; go_simp; done) | (intro wx hSw; go_simp; with_reducible rfl)
        simp only [Act.put, List.setIfInBounds_toArray, List.set_cons_zero, List.set_cons_succ]
        refine wpAnyH_take (i := 1) (oi := ?oi20030) (v := ?v20030) ?hi20030 (by kernel_rfl) (by kernel_rfl) (by kernel_rfl) (fun _ _ _ h => h) (Or.inl ⟨?hw20030, ?hy20030⟩) (by assumption) ?rest20030
        case hi20030 => (simp only [List.getElem?_toArray, List.getElem?_cons_zero, List.getElem?_cons_succ]; rfl)
        case hw20030 => rfl
        case hy20030 => first | (intro wx hSw; go_simp; done) | (intro wx hSw; go_simp; with_reducible rfl)
        simp only [Act.put, List.setIfInBounds_toArray, List.set_cons_zero, List.set_cons_succ]
        refine wpAnyH_take (i := 2) (oi := ?oi20031) (v := ?v20031) ?hi20031 (by kernel_rfl) (by kernel_rfl) (by kernel_rfl) (fun _ _ _ h => h) (Or.inl ⟨?hw20031, ?hy20031⟩) (by assumption) ?rest20031
        case hi20031 => (simp only [List.getElem?_toArray, List.getElem?_cons_zero, List.getElem?_cons_succ]; rfl)
        case hw20031 => rfl
        case hy20031 => first | (intro wx hSw; go_simp; done) | (intro wx hSw; go_simp; with_reducible rfl)
        simp only [Act.put, List.setIfInBounds_toArray, List.set_cons_zero, List.set_cons_succ]
        refine wpAnyH_take (i := 3) (oi := ?oi20032) (v := ?v20032) ?hi20032 (by kernel_rfl) (by kernel_rfl) (by kernel_rfl) (fun _ _ _ h => h) (Or.inl ⟨?hw20032, ?hy20032⟩) (by assumption) ?rest20032
        case hi20032 => (simp only [List.getElem?_toArray, List.getElem?_cons_zero, List.getElem?_cons_succ]; rfl)
        case hw20032 => rfl
        case hy20032 => first | (intro wx hSw; have q0_ := hSw.1.cell 6; have q1_ := hSw.1.cell 7; have q2_ := hSw.1.cell 8; have q3_ := hSw.1.cell 9; have q4_ := hSw.1.cell 10; have q5_ := hSw.1.cell 11; simp at q0_ q1_ q2_ q3_ q4_ q5_; go_simp; done) | (intro wx hSw; have q0_ := hSw.1.cell 6; have q1_ := hSw.1.cell 7; have q2_ := hSw.1.cell 8; have q3_ := hSw.1.cell 9; have q4_ := hSw.1.cell 10; have q5_ := hSw.1.cell 11; simp at q0_ q1_ q2_ q3_ q4_ q5_; go_simp; with_reducible rfl)
        simp only [Act.put, List.setIfInBounds_toArray, List.set_cons_zero, List.set_cons_succ]
        refine wpAnyH_take (i := 4) (oi := ?oi20033) (v := ?v20033) ?hi20033 (by kernel_rfl) (by kernel_rfl) (by kernel_rfl) (fun _ _ _ h => h) (Or.inl ⟨?hw20033, ?hy20033⟩) (by assumption) ?rest20033
        case hi20033 => (simp only [List.getElem?_toArray, List.getElem?_cons_zero, List.getElem?_cons_succ]; rfl)
        case hw20033 => rfl
        case hy20033 => first | (intro wx hSw; go_simp; done) | (intro wx hSw; go_simp; with_reducible rfl)
        simp only [Act.put, List.setIfInBounds_toArray, List.set_cons_zero, List.set_cons_succ]
        refine wpAnyH_take (i := 5) (oi := ?oi20034) (v := ?v20034) ?hi20034 (by kernel_rfl) (by kernel_rfl) (by kernel_rfl) (fun _ _ _ h => h) (Or.inl ⟨?hw20034, ?hy20034⟩) (by assumption) ?rest20034
        case hi20034 => (simp only [List.getElem?_toArray, List.getElem?_cons_zero, List.getElem?_cons_succ]; rfl)
        case hw20034 => rfl
        case hy20034 => first | (intro wx hSw; go_simp; done) | (intro wx hSw; go_simp; with_reducible rfl)
        simp only [Act.put, List.setIfInBounds_toArray, List.set_cons_zero, List.set_cons_succ]
        refine wpAnyH_take (i := 6) (oi := ?oi20035) (v := ?v20035) ?hi20035 (by kernel_rfl) (by kernel_rfl) (by kernel_rfl) (fun _ _ _ h => h) (Or.inl ⟨?hw20035, ?hy20035⟩) (by assumption) ?rest20035
        case hi20035 => (simp only [List.getElem?_toArray, List.getElem?_cons_zero, List.getElem?_cons_succ]; rfl)
        case hw20035 => rfl
        case hy20035 => first | (intro wx hSw; go_simp; done) | (intro wx hSw; go_simp; with_reducible rfl)
        simp only [Act.put, List.setIfInBounds_toArray, List.set_cons_zero, List.set_cons_succ]
        refine wpAnyH_take (i := 7) (oi := ?oi20036) (v := ?v20036) ?hi20036 (by kernel_rfl) (by kernel_rfl) (by kernel_rfl) (fun _ _ _ h => h) (Or.inl ⟨?hw20036, ?hy20036⟩) (by assumption) ?rest20036
        case hi20036 => (simp only [List.getElem?_toArray, List.getElem?_cons_zero, List.getElem?_cons_succ]; rfl)
        case hw20036 => rfl
        case hy20036 => first | (intro wx hSw; have q_ := hSw.2.cell m; rw [unhide HX] at q_; go_simp; done) | (intro wx hSw; have q_ := hSw.2.cell m; rw [unhide HX] at q_; go_simp; with_reducible rfl)
        simp only [Act.put, List.setIfInBounds_toArray, List.set_cons_zero, List.set_cons_succ]
        refine wpAnyH_ready (rs := [8]) (by kernel_rfl) (by simp) ?_
        refine AllReadyH.cons rfl (fun K20037 hK20037 => ?_) AllReadyH.nil
        go_simp
        go_wp2_with (go_at_call 16; refine (unhide E1 (.agg #[.int .i64 d.kind, .int .i64 d.id, .int .i64 d.txn, .bool d.com, .slice q2 d.ws.length cap2, .string d.text]) Z0 (cmvW (unhide HV))).mono ?_; rintro e W1 ⟨rfl, hb0⟩)
        replace HL := hide ((unhide HL).below hb0); replace HF := hide ((unhide HF).below hb0); replace HW := hide ((unhide HW).below hb0); replace HV := hide ((unhide HV).below hb0); replace HB := hide (Below.onto (unhide HB) hb0); clear hb0
        refine hK20037.out _ _ ?hs20037 (fun hHeld20037 => ?_)
        case hs20037 => exact ⟨unhide HL, unhide HF⟩
        clear hHeld
        have hHeld := hHeld20037; clear hHeld20037 hK20037 K20037
        refine wpAnyH_take (i := 9) (oi := ?oi20038) (v := ?v20038) ?hi20038 (by kernel_rfl) (by kernel_rfl) (by kernel_rfl) (fun _ _ _ h => h) (Or.inl ⟨?hw20038, ?hy20038⟩) (by assumption) ?rest20038
        case hi20038 => (simp only [List.getElem?_toArray, List.getElem?_cons_zero, List.getElem?_cons_succ]; rfl)
        case hw20038 => rfl
        case hy20038 => first | (intro wx hSw; go_simp; done) | (intro wx hSw; go_simp; with_reducible rfl)
        simp only [Act.put, List.setIfInBounds_toArray, List.set_cons_zero, List.set_cons_succ]
        refine wpAnyH_take (i := 10) (oi := ?oi20039) (v := ?v20039) ?hi20039 (by kernel_rfl) (by kernel_rfl) (by kernel_rfl) (fun _ _ _ h => h) (Or.inl ⟨?hw20039, ?hy20039⟩) (by assumption) ?rest20039
        case hi20039 => (simp only [List.getElem?_toArray, List.getElem?_cons_zero, List.getElem?_cons_succ]; rfl)
        case hw20039 => rfl
        case hy20039 => first | (intro wx hSw; go_simp; done) | (intro wx hSw; go_simp; with_reducible rfl)
        simp only [Act.put, List.setIfInBounds_toArray, List.set_cons_zero, List.set_cons_succ]
        refine wpAnyH_take (i := 11) (oi := ?oi20040) (v := ?v20040) ?hi20040 (by kernel_rfl) (by kernel_rfl) (by kernel_rfl) (fun _ _ _ h => h) (Or.inl ⟨?hw20040, ?hy20040⟩) (by assumption) ?rest20040
        case hi20040 => (simp only [List.getElem?_toArray, List.getElem?_cons_zero, List.getElem?_cons_succ]; rfl)
        case hw20040 => rfl
        case hy20040 => first | (intro wx hSw; go_simp; done) | (intro wx hSw; go_simp; with_reducible rfl)
        simp only [Act.put, List.setIfInBounds_toArray, List.set_cons_zero, List.set_cons_succ]
        refine wpAnyH_ready (rs := [12]) (by kernel_rfl) (by simp) ?_
        refine AllReadyH.cons rfl (fun K20041 hK20041 => ?_) AllReadyH.nil
        go_simp
        refine hK20041.out _ _ ?hs20041 (fun hHeld20041 => ?_)
        case hs20041 => exact ⟨unhide HL, unhide HF⟩
        clear hHeld
        have hHeld := hHeld20041; clear hHeld20041 hK20041 K20041
        refine wpAnyH_ready (rs := [13]) (by kernel_rfl) (by simp) ?_
        refine AllReadyH.cons rfl (fun K20042 hK20042 => ?_) AllReadyH.nil
        go_simp
        refine hK20042.out _ _ ?hs20042 (fun hHeld20042 => ?_)
        case hs20042 => exact ⟨unhide HL, unhide HF⟩
        clear hHeld
        have hHeld := hHeld20042; clear hHeld20042 hK20042 K20042
        refine wpAnyH_done (by kernel_rfl) ?_ _
        refine NoPanic.normal ?_
        refine hrest _ _ ?_
        clear hHeld
        go_wp2
        rename_i hrest
        have hbd : Below W1.heap.size W1 W1.drew := (Below.refl _ _).drew
        replace HL := hide ((unhide HL).below hbd)
        replace HF := hide ((unhide HF).below hbd)
        replace HW := hide ((unhide HW).below hbd)
        replace HV := hide ((unhide HV).below hbd)
        replace HB := hide (Below.onto (unhide HB) hbd)
        refine wp_region_noPanic ?_
        refine wp_region_held_drew (S := (fun X => Blk l0 #[.int .i64 c.kind, .int .i64 c.id, .int .i64 c.txn, .bool c.com, .slice q c.ws.length cap, .string c.text, .int .i64 d.kind, .int .i64 d.id, .int .i64 d.txn, .bool d.com, .slice q2 d.ws.length cap2, .string d.text] 26 X ∧ Blk (l0 + 1) #[.int .i64 1, .int .i64 2, .int .i64 0, .int .i64 3, .int .i64 form] 3 X)) (by kernel_rfl) (⟨unhide HL, unhide HF⟩) (fun hHeld => ?_)
        clear hbd
        generalize W1.drew = Z1 at *
        refine wpAnyH_take (i := 0) (oi := ?oi20043) (v := ?v20043) ?hi20043 (by kernel_rfl) (by kernel_rfl) (by kernel_rfl) (fun _ _ _ h => h) (Or.inl ⟨?hw20043, ?hy20043⟩) (by assumption) ?rest20043
        case hi20043 => (simp only [List.getElem?_toArray, List.getElem?_cons_zero]; rfl)
        case hw20043 => rfl
        case hy20043 => first | (intro wx hSw; go_simp; done) | (intro wx hSw; go_simp; with_reducible rfl)
        simp only [Act.put, List.setIfInBounds_toArray, List.set_cons_zero, List.set_cons_succ]
        refine wpAnyH_take (i := 1) (oi := ?oi20044) (v := ?v20044) ?hi20044 (by kernel_rfl) (by kernel_rfl) (by kernel_rfl) (fun _ _ _ h => h) (Or.inl ⟨?hw20044, ?hy20044⟩) (by assumption) ?rest20044
        case hi20044 => (simp only [List.getElem?_toArray, List.getElem?_cons_zero, List.getElem?_cons_succ]; rfl)
        case hw20044 => rfl
        case hy20044 => first | (intro wx hSw; go_simp; done) | (intro wx hSw; go_simp; with_reducible rfl)
        simp only [Act.put, List.setIfInBounds_toArray, List.set_cons_zero, List.set_cons_succ]
        refine wpAnyH_take (i := 2) (oi := ?oi20045) (v := ?v20045) ?hi20045 (by kernel_rfl) (by kernel_rfl) (by kernel_rfl) (fun _ _ _ h => h) (Or.inl ⟨?hw20045, ?hy20045⟩) (by assumption) ?rest20045
        case hi20045 => (simp only [List.getElem?_toArray, List.getElem?_cons_zero, List.getElem?_cons_succ]; rfl)
        case hw20045 => rfl
        case hy20045 => first | (intro wx hSw; go_simp; done) | (intro wx hSw; go_simp; with_reducible rfl)
        simp only [Act.put, List.setIfInBounds_toArray, List.set_cons_zero, List.set_cons_succ]
        refine wpAnyH_take (i := 3) (oi := ?oi20046) (v := ?v20046) ?hi20046 (by kernel_rfl) (by kernel_rfl) (by kernel_rfl) (fun _ _ _ h => h) (Or.inl ⟨?hw20046, ?hy20046⟩) (by assumption) ?rest20046
        case hi20046 => (simp only [List.getElem?_toArray, List.getElem?_cons_zero, List.getElem?_cons_succ]; rfl)
        case hw20046 => rfl
        case hy20046 => first | (intro wx hSw; have q0_ := hSw.1.cell 6; have q1_ := hSw.1.cell 7; have q2_ := hSw.1.cell 8; have q3_ := hSw.1.cell 9; have q4_ := hSw.1.cell 10; have q5_ := hSw.1.cell 11; simp at q0_ q1_ q2_ q3_ q4_ q5_; go_simp; done) | (intro wx hSw; have q0_ := hSw.1.cell 6; have q1_ := hSw.1.cell 7; have q2_ := hSw.1.cell 8; have q3_ := hSw.1.cell 9; have q4_ := hSw.1.cell 10; have q5_ := hSw.1.cell 11; simp at q0_ q1_ q2_ q3_ q4_ q5_; go_simp; with_reducible rfl)
        simp only [Act.put, List.setIfInBounds_toArray, List.set_cons_zero, List.set_cons_succ]
        refine wpAnyH_take (i := 4) (oi := ?oi20047) (v := ?v20047) ?hi20047 (by kernel_rfl) (by kernel_rfl) (by kernel_rfl) (fun _ _ _ h => h) (Or.inl ⟨?hw20047, ?hy20047⟩) (by assumption) ?rest20047
        case hi20047 => (simp only [List.getElem?_toArray, List.getElem?_cons_zero, List.getElem?_cons_succ]; rfl)
        case hw20047 => rfl
        case hy20047 => first | (intro wx hSw; go_simp; done) | (intro wx hSw; go_simp; with_reducible rfl)
        simp only [Act.put, List.setIfInBounds_toArray, List.set_cons_zero, List.set_cons_succ]
        refine wpAnyH_take (i := 5) (oi := ?oi20048) (v := ?v20048) ?hi20048 (by kernel_rfl) (by kernel_rfl) (by kernel_rfl) (fun _ _ _ h => h) (Or.inl ⟨?hw20048, ?hy20048⟩) (by assumption) ?rest20048
        case hi20048 => (simp only [List.getElem?_toArray, List.getElem?_cons_zero, List.getElem?_cons_succ]; rfl)
        case hw20048 => rfl
        case hy20048 => first | (intro wx hSw; go_simp; done) | (intro wx hSw; go_simp; with_reducible rfl)
        simp only [Act.put, List.setIfInBounds_toArray, List.set_cons_zero, List.set_cons_succ]
        refine wpAnyH_take (i := 6) (oi := ?oi20049) (v := ?v20049) ?hi20049 (by kernel_rfl) (by kernel_rfl) (by kernel_rfl) (fun _ _ _ h => h) (Or.inl ⟨?hw20049, ?hy20049⟩) (by assumption) ?rest20049
        case hi20049 => (simp only [List.getElem?_toArray, List.getElem?_cons_zero, List.getElem?_cons_succ]; rfl)
        case hw20049 => rfl
        case hy20049 => first | (intro wx hSw; go_simp; done) | (intro wx hSw; go_simp; with_reducible rfl)
        simp only [Act.put, List.setIfInBounds_toArray, List.set_cons_zero, List.set_cons_succ]
        refine wpAnyH_take (i := 7) (oi := ?oi20050) (v := ?v20050) ?hi20050 (by kernel_rfl) (by kernel_rfl) (by kernel_rfl) (fun _ _ _ h => h) (Or.inl ⟨?hw20050, ?hy20050⟩) (by assumption) ?rest20050
        case hi20050 => (simp only [List.getElem?_toArray, List.getElem?_cons_zero, List.getElem?_cons_succ]; rfl)
        case hw20050 => rfl
        case hy20050 => first | (intro wx hSw; have q_ := hSw.2.cell m; rw [unhide HX] at q_; go_simp; done) | (intro wx hSw; have q_ := hSw.2.cell m; rw [unhide HX] at q_; go_simp; with_reducible rfl)
        simp only [Act.put, List.setIfInBounds_toArray, List.set_cons_zero, List.set_cons_succ]
        refine wpAnyH_ready (rs := [8]) (by kernel_rfl) (by simp) ?_
        refine AllReadyH.cons rfl (fun K20051 hK20051 => ?_) AllReadyH.nil
        go_simp
        go_wp2_with (go_at_call 17; refine (unhide E2 (.agg #[.int .i64 d.kind, .int .i64 d.id, .int .i64 d.txn, .bool d.com, .slice q2 d.ws.length cap2, .string d.text]) Z1 (cmvW (unhide HV))).mono ?_; rintro e W2 ⟨rfl, hb1⟩)
        replace HL := hide ((unhide HL).below hb1); replace HF := hide ((unhide HF).below hb1); replace HW := hide ((unhide HW).below hb1); replace HV := hide ((unhide HV).below hb1); replace HB := hide (Below.onto (unhide HB) hb1); clear hb1
        refine hK20051.out _ _ ?hs20051 (fun hHeld20051 => ?_)
        case hs20051 => exact ⟨unhide HL, unhide HF⟩
        clear hHeld
        have hHeld := hHeld20051; clear hHeld20051 hK20051 K20051
        refine wpAnyH_take (i := 9) (oi := ?oi20052) (v := ?v20052) ?hi20052 (by kernel_rfl) (by kernel_rfl) (by kernel_rfl) (fun _ _ _ h => h) (Or.inl ⟨?hw20052, ?hy20052⟩) (by assumption) ?rest20052
        case hi20052 => (simp only [List.getElem?_toArray, List.getElem?_cons_zero, List.getElem?_cons_succ]; rfl)
        case hw20052 => rfl
        case hy20052 => first | (intro wx hSw; go_simp; done) | (intro wx hSw; go_simp; with_reducible rfl)
        simp only [Act.put, List.setIfInBounds_toArray, List.set_cons_zero, List.set_cons_succ]
        refine wpAnyH_take (i := 10) (oi := ?oi20053) (v := ?v20053) ?hi20053 (by kernel_rfl) (by kernel_rfl) (by kernel_rfl) (fun _ _ _ h => h) (Or.inl ⟨?hw20053, ?hy20053⟩) (by assumption) ?rest20053
        case hi20053 => (simp only [List.getElem?_toArray, List.getElem?_cons_zero, List.getElem?_cons_succ]; rfl)
        case hw20053 => rfl
        case hy20053 => first | (intro wx hSw; go_simp; done) | (intro wx hSw; go_simp; with_reducible rfl)
        simp only [Act.put, List.setIfInBounds_toArray, List.set_cons_zero, List.set_cons_succ]
        refine wpAnyH_take (i := 11) (oi := ?oi20054) (v := ?v20054) ?hi20054 (by kernel_rfl) (by kernel_rfl) (by kernel_rfl) (fun _ _ _ h => h) (Or.inl ⟨?hw20054, ?hy20054⟩) (by assumption) ?rest20054
        case hi20054 => (simp only [List.getElem?_toArray, List.getElem?_cons_zero, List.getElem?_cons_succ]; rfl)
        case hw20054 => rfl
        case hy20054 => first | (intro wx hSw; go_simp; done) | (intro wx hSw; go_simp; with_reducible rfl)
        simp only [Act.put, List.setIfInBounds_toArray, List.set_cons_zero, List.set_cons_succ]
        refine wpAnyH_ready (rs := [12]) (by kernel_rfl) (by simp) ?_
        refine AllReadyH.cons rfl (fun K20055 hK20055 => ?_) AllReadyH.nil
        go_simp
        refine hK20055.out _ _ ?hs20055 (fun hHeld20055 => ?_)
        case hs20055 => exact ⟨unhide HL, unhide HF⟩
        clear hHeld
        have hHeld := hHeld20055; clear hHeld20055 hK20055 K20055
        refine wpAnyH_ready (rs := [13]) (by kernel_rfl) (by simp) ?_
        refine AllReadyH.cons rfl (fun K20056 hK20056 => ?_) AllReadyH.nil
        go_simp
        refine hK20056.out _ _ ?hs20056 (fun hHeld20056 => ?_)
        case hs20056 => exact ⟨unhide HL, unhide HF⟩
        clear hHeld
        have hHeld := hHeld20056; clear hHeld20056 hK20056 K20056
        refine wpAnyH_done (by kernel_rfl) ?_ _
        refine NoPanic.normal ?_
        refine hrest _ _ ?_
        clear hHeld
        go_wp2
        go_roundw
        case rel =>
          refine ⟨_, _, _, _, _, _, _, _, _, _, _, _, _, _, _, _, _, _, _, _, _, _, _, _, _, _, _, _, _, _, _, _, _, _, _, _, _, _, _, _, _, _, ?_, rfl⟩
          exact ⟨m + 1, by omega, by go_num, HL, HF, HW, HV, HB⟩
        case measure => simp [intOf] <;> omega
end Go.Proofs.Ytjmmfgmmmdbenaa

namespace Go.Proofs.Ytjmmfgmmmdbenaa
open Go.RowKit
set_option linter.unusedSimpArgs false
set_option linter.unusedVariables false

/-- what lies behind CmdRight's switch: some command that is in an int's bounds -/
def After (K : Act → World → Prop) (w : World) (form : Int) (b9 : Nat) (V : World) (d : Cm) (q2 : Option Addr) (cap2 : Nat) : Prop := ∀ (ac' : Act) (c' : Cm) (q' : Option Addr) (cap' : Nat) (X' : World), ac' = ⟨#[ac'.tmps.getD 0 undef, ac'.tmps.getD 1 undef, ac'.tmps.getD 2 undef, ac'.tmps.getD 3 undef, ac'.tmps.getD 4 undef, ac'.tmps.getD 5 undef, ac'.tmps.getD 6 undef, ac'.tmps.getD 7 undef, .int .i64 form, .pointer (some ⟨b9, 0, none⟩), ac'.tmps.getD 10 undef, ac'.tmps.getD 11 undef, ac'.tmps.getD 12 undef, ac'.tmps.getD 13 undef, ac'.tmps.getD 14 undef, ac'.tmps.getD 15 undef, ac'.tmps.getD 16 undef, ac'.tmps.getD 17 undef, .bool false, .pointer (some ⟨V.heap.size, 0, none⟩), ac'.tmps.getD 20 undef, ac'.tmps.getD 21 undef, ac'.tmps.getD 22 undef, ac'.tmps.getD 23 undef, ac'.tmps.getD 24 undef, ac'.tmps.getD 25 undef, ac'.tmps.getD 26 undef, ac'.tmps.getD 27 undef, ac'.tmps.getD 28 undef, ac'.tmps.getD 29 undef, ac'.tmps.getD 30 undef, ac'.tmps.getD 31 undef, ac'.tmps.getD 32 undef, ac'.tmps.getD 33 undef, ac'.tmps.getD 34 undef, ac'.tmps.getD 35 undef, ac'.tmps.getD 36 undef, ac'.tmps.getD 37 undef, ac'.tmps.getD 38 undef, ac'.tmps.getD 39 undef, ac'.tmps.getD 40 undef, ac'.tmps.getD 41 undef, ac'.tmps.getD 42 undef, ac'.tmps.getD 43 undef, ac'.tmps.getD 44 undef, ac'.tmps.getD 45 undef, ac'.tmps.getD 46 undef, ac'.tmps.getD 47 undef, ac'.tmps.getD 48 undef, ac'.tmps.getD 49 undef, ac'.tmps.getD 50 undef, ac'.tmps.getD 51 undef, ac'.tmps.getD 52 undef, ac'.tmps.getD 53 undef, ac'.tmps.getD 54 undef, ac'.tmps.getD 55 undef, ac'.tmps.getD 56 undef, ac'.tmps.getD 57 undef, ac'.tmps.getD 58 undef, ac'.tmps.getD 59 undef, ac'.tmps.getD 60 undef, ac'.tmps.getD 61 undef, ac'.tmps.getD 62 undef, ac'.tmps.getD 63 undef, ac'.tmps.getD 64 undef, ac'.tmps.getD 65 undef, ac'.tmps.getD 66 undef, ac'.tmps.getD 67 undef, ac'.tmps.getD 68 undef, ac'.tmps.getD 69 undef, ac'.tmps.getD 70 undef, ac'.tmps.getD 71 undef, ac'.tmps.getD 72 undef, ac'.tmps.getD 73 undef, ac'.tmps.getD 74 undef, ac'.tmps.getD 75 undef, ac'.tmps.getD 76 undef, ac'.tmps.getD 77 undef, ac'.tmps.getD 78 undef, ac'.tmps.getD 79 undef, ac'.tmps.getD 80 undef, ac'.tmps.getD 81 undef, ac'.tmps.getD 82 undef, ac'.tmps.getD 83 undef, ac'.tmps.getD 84 undef, ac'.tmps.getD 85 undef, ac'.tmps.getD 86 undef, ac'.tmps.getD 87 undef, ac'.tmps.getD 88 undef, ac'.tmps.getD 89 undef, ac'.tmps.getD 90 undef, ac'.tmps.getD 91 undef, ac'.tmps.getD 92 undef, ac'.tmps.getD 93 undef, ac'.tmps.getD 94 undef, ac'.tmps.getD 95 undef, ac'.tmps.getD 96 undef, ac'.tmps.getD 97 undef, ac'.tmps.getD 98 undef, ac'.tmps.getD 99 undef, ac'.tmps.getD 100 undef, ac'.tmps.getD 101 undef, ac'.tmps.getD 102 undef, ac'.tmps.getD 103 undef, ac'.tmps.getD 104 undef, ac'.tmps.getD 105 undef, ac'.tmps.getD 106 undef, ac'.tmps.getD 107 undef, ac'.tmps.getD 108 undef, ac'.tmps.getD 109 undef, ac'.tmps.getD 110 undef, ac'.tmps.getD 111 undef, ac'.tmps.getD 112 undef, ac'.tmps.getD 113 undef, ac'.tmps.getD 114 undef, ac'.tmps.getD 115 undef, ac'.tmps.getD 116 undef, ac'.tmps.getD 117 undef, ac'.tmps.getD 118 undef, ac'.tmps.getD 119 undef, ac'.tmps.getD 120 undef, ac'.tmps.getD 121 undef, ac'.tmps.getD 122 undef, ac'.tmps.getD 123 undef, ac'.tmps.getD 124 undef, ac'.tmps.getD 125 undef, ac'.tmps.getD 126 undef, ac'.tmps.getD 127 undef, ac'.tmps.getD 128 undef, ac'.tmps.getD 129 undef, ac'.tmps.getD 130 undef, ac'.tmps.getD 131 undef, ac'.tmps.getD 132 undef, ac'.tmps.getD 133 undef, ac'.tmps.getD 134 undef, ac'.tmps.getD 135 undef, ac'.tmps.getD 136 undef, ac'.tmps.getD 137 undef, ac'.tmps.getD 138 undef, ac'.tmps.getD 139 undef, ac'.tmps.getD 140 undef, ac'.tmps.getD 141 undef, ac'.tmps.getD 142 undef, ac'.tmps.getD 143 undef, ac'.tmps.getD 144 undef, ac'.tmps.getD 145 undef, ac'.tmps.getD 146 undef, ac'.tmps.getD 147 undef, ac'.tmps.getD 148 undef, ac'.tmps.getD 149 undef, ac'.tmps.getD 150 undef, ac'.tmps.getD 151 undef, ac'.tmps.getD 152 undef, ac'.tmps.getD 153 undef, ac'.tmps.getD 154 undef, ac'.tmps.getD 155 undef, ac'.tmps.getD 156 undef, ac'.tmps.getD 157 undef, ac'.tmps.getD 158 undef, ac'.tmps.getD 159 undef, ac'.tmps.getD 160 undef, ac'.tmps.getD 161 undef, ac'.tmps.getD 162 undef, ac'.tmps.getD 163 undef, ac'.tmps.getD 164 undef, ac'.tmps.getD 165 undef, ac'.tmps.getD 166 undef, ac'.tmps.getD 167 undef, ac'.tmps.getD 168 undef, ac'.tmps.getD 169 undef, ac'.tmps.getD 170 undef, ac'.tmps.getD 171 undef, ac'.tmps.getD 172 undef, ac'.tmps.getD 173 undef, ac'.tmps.getD 174 undef, ac'.tmps.getD 175 undef, ac'.tmps.getD 176 undef, ac'.tmps.getD 177 undef, ac'.tmps.getD 178 undef, ac'.tmps.getD 179 undef, ac'.tmps.getD 180 undef, ac'.tmps.getD 181 undef, ac'.tmps.getD 182 undef, ac'.tmps.getD 183 undef, ac'.tmps.getD 184 undef, ac'.tmps.getD 185 undef, ac'.tmps.getD 186 undef, ac'.tmps.getD 187 undef, ac'.tmps.getD 188 undef, ac'.tmps.getD 189 undef, ac'.tmps.getD 190 undef, ac'.tmps.getD 191 undef, ac'.tmps.getD 192 undef, ac'.tmps.getD 193 undef, ac'.tmps.getD 194 undef, ac'.tmps.getD 195 undef, ac'.tmps.getD 196 undef], []⟩ → Hid (Blk V.heap.size #[.int .i64 c'.kind, .int .i64 c'.id, .int .i64 c'.txn, .bool c'.com, .slice q' c'.ws.length cap', .string c'.text] 26 X') → Hid (Blk b9 #[.int .i64 d.kind, .int .i64 d.id, .int .i64 d.txn, .bool d.com, .slice q2 d.ws.length cap2, .string d.text] 26 X') → Hid (WsV q' c'.ws X') → Hid (WsV q2 d.ws X') → Hid (FineW c') → Hid (Below w.heap.size w X') → K ac' X'
theorem GoodC.fineW {c : Cm} (g : GoodC c) : FineW c := by
  have h := g.fine
  exact ⟨h.kind, h.id, h.txn, h.len, fun x hx => by have := h.ws x hx; omega, by have := h.text; omega⟩
set_option maxRecDepth 100000 in
set_option maxHeartbeats 8000000 in
theorem right_sw1 {r0 r1 r2 r3 r4 rest : Code} (hc : Try.f5.body = some (.seq r0 (.seq r1 (.seq r2 (.seq r3 (.seq r4 rest)))))) (w : World) (s : ByteArray) (which vv form : Int) (ac : Act) (b9 : Nat) (V X : World) (ha : ac = ⟨#[ac.tmps.getD 0 undef, ac.tmps.getD 1 undef, ac.tmps.getD 2 undef, ac.tmps.getD 3 undef, ac.tmps.getD 4 undef, .string s, .int .i64 which, .int .i64 vv, .int .i64 form, .pointer (some ⟨b9, 0, none⟩), ac.tmps.getD 10 undef, ac.tmps.getD 11 undef, ac.tmps.getD 12 undef, ac.tmps.getD 13 undef, ac.tmps.getD 14 undef, ac.tmps.getD 15 undef, ac.tmps.getD 16 undef, ac.tmps.getD 17 undef, .bool false, .pointer (some ⟨V.heap.size, 0, none⟩), ac.tmps.getD 20 undef, ac.tmps.getD 21 undef, ac.tmps.getD 22 undef, ac.tmps.getD 23 undef, ac.tmps.getD 24 undef, ac.tmps.getD 25 undef, ac.tmps.getD 26 undef, ac.tmps.getD 27 undef, ac.tmps.getD 28 undef, ac.tmps.getD 29 undef, ac.tmps.getD 30 undef, ac.tmps.getD 31 undef, ac.tmps.getD 32 undef, ac.tmps.getD 33 undef, ac.tmps.getD 34 undef, ac.tmps.getD 35 undef, ac.tmps.getD 36 undef, ac.tmps.getD 37 undef, ac.tmps.getD 38 undef, ac.tmps.getD 39 undef, ac.tmps.getD 40 undef, ac.tmps.getD 41 undef, ac.tmps.getD 42 undef, ac.tmps.getD 43 undef, ac.tmps.getD 44 undef, ac.tmps.getD 45 undef, ac.tmps.getD 46 undef, ac.tmps.getD 47 undef, ac.tmps.getD 48 undef, ac.tmps.getD 49 undef, ac.tmps.getD 50 undef, ac.tmps.getD 51 undef, ac.tmps.getD 52 undef, ac.tmps.getD 53 undef, ac.tmps.getD 54 undef, ac.tmps.getD 55 undef, ac.tmps.getD 56 undef, ac.tmps.getD 57 undef, ac.tmps.getD 58 undef, ac.tmps.getD 59 undef, ac.tmps.getD 60 undef, ac.tmps.getD 61 undef, ac.tmps.getD 62 undef, ac.tmps.getD 63 undef, ac.tmps.getD 64 undef, ac.tmps.getD 65 undef, ac.tmps.getD 66 undef, ac.tmps.getD 67 undef, ac.tmps.getD 68 undef, ac.tmps.getD 69 undef, ac.tmps.getD 70 undef, ac.tmps.getD 71 undef, ac.tmps.getD 72 undef, ac.tmps.getD 73 undef, ac.tmps.getD 74 undef, ac.tmps.getD 75 undef, ac.tmps.getD 76 undef, ac.tmps.getD 77 undef, ac.tmps.getD 78 undef, ac.tmps.getD 79 undef, ac.tmps.getD 80 undef, ac.tmps.getD 81 undef, ac.tmps.getD 82 undef, ac.tmps.getD 83 undef, ac.tmps.getD 84 undef, ac.tmps.getD 85 undef, ac.tmps.getD 86 undef, ac.tmps.getD 87 undef, ac.tmps.getD 88 undef, ac.tmps.getD 89 undef, ac.tmps.getD 90 undef, ac.tmps.getD 91 undef, ac.tmps.getD 92 undef, ac.tmps.getD 93 undef, ac.tmps.getD 94 undef, ac.tmps.getD 95 undef, ac.tmps.getD 96 undef, ac.tmps.getD 97 undef, ac.tmps.getD 98 undef, ac.tmps.getD 99 undef, ac.tmps.getD 100 undef, ac.tmps.getD 101 undef, ac.tmps.getD 102 undef, ac.tmps.getD 103 undef, ac.tmps.getD 104 undef, ac.tmps.getD 105 undef, ac.tmps.getD 106 undef, ac.tmps.getD 107 undef, ac.tmps.getD 108 undef, ac.tmps.getD 109 undef, ac.tmps.getD 110 undef, ac.tmps.getD 111 undef, ac.tmps.getD 112 undef, ac.tmps.getD 113 undef, ac.tmps.getD 114 undef, ac.tmps.getD 115 undef, ac.tmps.getD 116 undef, ac.tmps.getD 117 undef, ac.tmps.getD 118 undef, ac.tmps.getD 119 undef, ac.tmps.getD 120 undef, ac.tmps.getD 121 undef, ac.tmps.getD 122 undef, ac.tmps.getD 123 undef, ac.tmps.getD 124 undef, ac.tmps.getD 125 undef, ac.tmps.getD 126 undef, ac.tmps.getD 127 undef, ac.tmps.getD 128 undef, ac.tmps.getD 129 undef, ac.tmps.getD 130 undef, ac.tmps.getD 131 undef, ac.tmps.getD 132 undef, ac.tmps.getD 133 undef, ac.tmps.getD 134 undef, ac.tmps.getD 135 undef, ac.tmps.getD 136 undef, ac.tmps.getD 137 undef, ac.tmps.getD 138 undef, ac.tmps.getD 139 undef, ac.tmps.getD 140 undef, ac.tmps.getD 141 undef, ac.tmps.getD 142 undef, ac.tmps.getD 143 undef, ac.tmps.getD 144 undef, ac.tmps.getD 145 undef, ac.tmps.getD 146 undef, ac.tmps.getD 147 undef, ac.tmps.getD 148 undef, ac.tmps.getD 149 undef, ac.tmps.getD 150 undef, ac.tmps.getD 151 undef, ac.tmps.getD 152 undef, ac.tmps.getD 153 undef, ac.tmps.getD 154 undef, ac.tmps.getD 155 undef, ac.tmps.getD 156 undef, ac.tmps.getD 157 undef, ac.tmps.getD 158 undef, ac.tmps.getD 159 undef, ac.tmps.getD 160 undef, ac.tmps.getD 161 undef, ac.tmps.getD 162 undef, ac.tmps.getD 163 undef, ac.tmps.getD 164 undef, ac.tmps.getD 165 undef, ac.tmps.getD 166 undef, ac.tmps.getD 167 undef, ac.tmps.getD 168 undef, ac.tmps.getD 169 undef, ac.tmps.getD 170 undef, ac.tmps.getD 171 undef, ac.tmps.getD 172 undef, ac.tmps.getD 173 undef, ac.tmps.getD 174 undef, ac.tmps.getD 175 undef, ac.tmps.getD 176 undef, ac.tmps.getD 177 undef, ac.tmps.getD 178 undef, ac.tmps.getD 179 undef, ac.tmps.getD 180 undef, ac.tmps.getD 181 undef, ac.tmps.getD 182 undef, ac.tmps.getD 183 undef, ac.tmps.getD 184 undef, ac.tmps.getD 185 undef, ac.tmps.getD 186 undef, ac.tmps.getD 187 undef, ac.tmps.getD 188 undef, ac.tmps.getD 189 undef, ac.tmps.getD 190 undef, ac.tmps.getD 191 undef, ac.tmps.getD 192 undef, ac.tmps.getD 193 undef, ac.tmps.getD 194 undef, ac.tmps.getD 195 undef, ac.tmps.getD 196 undef], []⟩) (c d : Cm) (q q2 : Option Addr) (cap cap2 : Nat) (g : GoodC c) (HC : Hid (Blk V.heap.size #[.int .i64 c.kind, .int .i64 c.id, .int .i64 c.txn, .bool c.com, .slice q c.ws.length cap, .string c.text] 26 X)) (HD : Hid (Blk b9 #[.int .i64 d.kind, .int .i64 d.id, .int .i64 d.txn, .bool d.com, .slice q2 d.ws.length cap2, .string d.text] 26 V)) (HW : Hid (WsV q c.ws V)) (HV : Hid (WsV q2 d.ws V)) (HBV : Hid (Below V.heap.size V X)) (HB : Hid (Below w.heap.size w V)) (kw : Is64 which) (kv : Is64 vv) (hs : s.size ≤ 60) (K : Act → World → Prop) (Q : Exit → Act → World → Prop) (hK : Hid (After K w form b9 V d q2 cap2)) (hj : which % 9 = 1) : r4.wp Try.prog (Exit.then K Q) ac X := by
  obtain ⟨u, rfl⟩ : ∃ u : Nat → Value, ac = ⟨#[u 0, u 1, u 2, u 3, u 4, .string s, .int .i64 which, .int .i64 vv, .int .i64 form, .pointer (some ⟨b9, 0, none⟩), u 10, u 11, u 12, u 13, u 14, u 15, u 16, u 17, .bool false, .pointer (some ⟨V.heap.size, 0, none⟩), u 20, u 21, u 22, u 23, u 24, u 25, u 26, u 27, u 28, u 29, u 30, u 31, u 32, u 33, u 34, u 35, u 36, u 37, u 38, u 39, u 40, u 41, u 42, u 43, u 44, u 45, u 46, u 47, u 48, u 49, u 50, u 51, u 52, u 53, u 54, u 55, u 56, u 57, u 58, u 59, u 60, u 61, u 62, u 63, u 64, u 65, u 66, u 67, u 68, u 69, u 70, u 71, u 72, u 73, u 74, u 75, u 76, u 77, u 78, u 79, u 80, u 81, u 82, u 83, u 84, u 85, u 86, u 87, u 88, u 89, u 90, u 91, u 92, u 93, u 94, u 95, u 96, u 97, u 98, u 99, u 100, u 101, u 102, u 103, u 104, u 105, u 106, u 107, u 108, u 109, u 110, u 111, u 112, u 113, u 114, u 115, u 116, u 117, u 118, u 119, u 120, u 121, u 122, u 123, u 124, u 125, u 126, u 127, u 128, u 129, u 130, u 131, u 132, u 133, u 134, u 135, u 136, u 137, u 138, u 139, u 140, u 141, u 142, u 143, u 144, u 145, u 146, u 147, u 148, u 149, u 150, u 151, u 152, u 153, u 154, u 155, u 156, u 157, u 158, u 159, u 160, u 161, u 162, u 163, u 164, u 165, u 166, u 167, u 168, u 169, u 170, u 171, u 172, u 173, u 174, u 175, u 176, u 177, u 178, u 179, u 180, u 181, u 182, u 183, u 184, u 185, u 186, u 187, u 188, u 189, u 190, u 191, u 192, u 193, u 194, u 195, u 196], []⟩ := ⟨fun i => ac.tmps.getD i undef, ha⟩
  clear ha
  unfold Try.f5 at hc
  cases hc
  have WJ := hide (fun W => within7_at kw (by decide) hj W)
  clear hj
  have k1_ := unhide HC
  have lc := k1_.lt
  have x0_ := k1_.cell 0
  have xf0_ := k1_.froz 0
  have x1_ := k1_.cell 1
  have xf1_ := k1_.froz 1
  have x2_ := k1_.cell 2
  have xf2_ := k1_.froz 2
  have x3_ := k1_.cell 3
  have xf3_ := k1_.froz 3
  have x4_ := k1_.cell 4
  have xf4_ := k1_.froz 4
  have x5_ := k1_.cell 5
  have xf5_ := k1_.froz 5
  simp at x0_ x1_ x2_ x3_ x4_ x5_
  have hct : c.text.size ≤ 40 := (rightC_of g.right).2.2.2.1
  have f := g.fineW
  have hcat : ¬ 9223372036854775807 < c.text.size + s.size := by omega
  have hF : Hid (FineW ⟨c.kind, vv, c.txn, c.com, c.ws, c.text⟩) := hide ⟨f.kind, kv, f.txn, f.len, f.ws, f.text⟩
  clear f
  have hset := k1_.set 1 (.int .i64 vv)
  have HS := hide hset
  have HX := hide ((unhide HBV).setCell (p := ⟨V.heap.size, 1, none⟩) (Nat.le_refl _) (.int .i64 vv))
  clear k1_ hset g
  go_wp2_with (go_at_call_of 15 (Value.int IntKind.i64 which); refine (unhide WJ _).mono ?_; rintro e X2 ⟨rfl, hX2⟩; replace hX2 := hX2.symm; subst hX2)
  exact unhide hK _ ⟨c.kind, vv, c.txn, c.com, c.ws, c.text⟩ q cap _ (by kernel_rfl) HS (hide ((unhide HD).below (unhide HX))) (hide ((unhide HW).below (unhide HX))) (hide ((unhide HV).below (unhide HX))) hF (hide (Below.onto (unhide HB) (unhide HX)))
set_option maxRecDepth 100000 in
set_option maxHeartbeats 8000000 in
theorem right_sw2 {r0 r1 r2 r3 r4 rest : Code} (hc : Try.f5.body = some (.seq r0 (.seq r1 (.seq r2 (.seq r3 (.seq r4 rest)))))) (w : World) (s : ByteArray) (which vv form : Int) (ac : Act) (b9 : Nat) (V X : World) (ha : ac = ⟨#[ac.tmps.getD 0 undef, ac.tmps.getD 1 undef, ac.tmps.getD 2 undef, ac.tmps.getD 3 undef, ac.tmps.getD 4 undef, .string s, .int .i64 which, .int .i64 vv, .int .i64 form, .pointer (some ⟨b9, 0, none⟩), ac.tmps.getD 10 undef, ac.tmps.getD 11 undef, ac.tmps.getD 12 undef, ac.tmps.getD 13 undef, ac.tmps.getD 14 undef, ac.tmps.getD 15 undef, ac.tmps.getD 16 undef, ac.tmps.getD 17 undef, .bool false, .pointer (some ⟨V.heap.size, 0, none⟩), ac.tmps.getD 20 undef, ac.tmps.getD 21 undef, ac.tmps.getD 22 undef, ac.tmps.getD 23 undef, ac.tmps.getD 24 undef, ac.tmps.getD 25 undef, ac.tmps.getD 26 undef, ac.tmps.getD 27 undef, ac.tmps.getD 28 undef, ac.tmps.getD 29 undef, ac.tmps.getD 30 undef, ac.tmps.getD 31 undef, ac.tmps.getD 32 undef, ac.tmps.getD 33 undef, ac.tmps.getD 34 undef, ac.tmps.getD 35 undef, ac.tmps.getD 36 undef, ac.tmps.getD 37 undef, ac.tmps.getD 38 undef, ac.tmps.getD 39 undef, ac.tmps.getD 40 undef, ac.tmps.getD 41 undef, ac.tmps.getD 42 undef, ac.tmps.getD 43 undef, ac.tmps.getD 44 undef, ac.tmps.getD 45 undef, ac.tmps.getD 46 undef, ac.tmps.getD 47 undef, ac.tmps.getD 48 undef, ac.tmps.getD 49 undef, ac.tmps.getD 50 undef, ac.tmps.getD 51 undef, ac.tmps.getD 52 undef, ac.tmps.getD 53 undef, ac.tmps.getD 54 undef, ac.tmps.getD 55 undef, ac.tmps.getD 56 undef, ac.tmps.getD 57 undef, ac.tmps.getD 58 undef, ac.tmps.getD 59 undef, ac.tmps.getD 60 undef, ac.tmps.getD 61 undef, ac.tmps.getD 62 undef, ac.tmps.getD 63 undef, ac.tmps.getD 64 undef, ac.tmps.getD 65 undef, ac.tmps.getD 66 undef, ac.tmps.getD 67 undef, ac.tmps.getD 68 undef, ac.tmps.getD 69 undef, ac.tmps.getD 70 undef, ac.tmps.getD 71 undef, ac.tmps.getD 72 undef, ac.tmps.getD 73 undef, ac.tmps.getD 74 undef, ac.tmps.getD 75 undef, ac.tmps.getD 76 undef, ac.tmps.getD 77 undef, ac.tmps.getD 78 undef, ac.tmps.getD 79 undef, ac.tmps.getD 80 undef, ac.tmps.getD 81 undef, ac.tmps.getD 82 undef, ac.tmps.getD 83 undef, ac.tmps.getD 84 undef, ac.tmps.getD 85 undef, ac.tmps.getD 86 undef, ac.tmps.getD 87 undef, ac.tmps.getD 88 undef, ac.tmps.getD 89 undef, ac.tmps.getD 90 undef, ac.tmps.getD 91 undef, ac.tmps.getD 92 undef, ac.tmps.getD 93 undef, ac.tmps.getD 94 undef, ac.tmps.getD 95 undef, ac.tmps.getD 96 undef, ac.tmps.getD 97 undef, ac.tmps.getD 98 undef, ac.tmps.getD 99 undef, ac.tmps.getD 100 undef, ac.tmps.getD 101 undef, ac.tmps.getD 102 undef, ac.tmps.getD 103 undef, ac.tmps.getD 104 undef, ac.tmps.getD 105 undef, ac.tmps.getD 106 undef, ac.tmps.getD 107 undef, ac.tmps.getD 108 undef, ac.tmps.getD 109 undef, ac.tmps.getD 110 undef, ac.tmps.getD 111 undef, ac.tmps.getD 112 undef, ac.tmps.getD 113 undef, ac.tmps.getD 114 undef, ac.tmps.getD 115 undef, ac.tmps.getD 116 undef, ac.tmps.getD 117 undef, ac.tmps.getD 118 undef, ac.tmps.getD 119 undef, ac.tmps.getD 120 undef, ac.tmps.getD 121 undef, ac.tmps.getD 122 undef, ac.tmps.getD 123 undef, ac.tmps.getD 124 undef, ac.tmps.getD 125 undef, ac.tmps.getD 126 undef, ac.tmps.getD 127 undef, ac.tmps.getD 128 undef, ac.tmps.getD 129 undef, ac.tmps.getD 130 undef, ac.tmps.getD 131 undef, ac.tmps.getD 132 undef, ac.tmps.getD 133 undef, ac.tmps.getD 134 undef, ac.tmps.getD 135 undef, ac.tmps.getD 136 undef, ac.tmps.getD 137 undef, ac.tmps.getD 138 undef, ac.tmps.getD 139 undef, ac.tmps.getD 140 undef, ac.tmps.getD 141 undef, ac.tmps.getD 142 undef, ac.tmps.getD 143 undef, ac.tmps.getD 144 undef, ac.tmps.getD 145 undef, ac.tmps.getD 146 undef, ac.tmps.getD 147 undef, ac.tmps.getD 148 undef, ac.tmps.getD 149 undef, ac.tmps.getD 150 undef, ac.tmps.getD 151 undef, ac.tmps.getD 152 undef, ac.tmps.getD 153 undef, ac.tmps.getD 154 undef, ac.tmps.getD 155 undef, ac.tmps.getD 156 undef, ac.tmps.getD 157 undef, ac.tmps.getD 158 undef, ac.tmps.getD 159 undef, ac.tmps.getD 160 undef, ac.tmps.getD 161 undef, ac.tmps.getD 162 undef, ac.tmps.getD 163 undef, ac.tmps.getD 164 undef, ac.tmps.getD 165 undef, ac.tmps.getD 166 undef, ac.tmps.getD 167 undef, ac.tmps.getD 168 undef, ac.tmps.getD 169 undef, ac.tmps.getD 170 undef, ac.tmps.getD 171 undef, ac.tmps.getD 172 undef, ac.tmps.getD 173 undef, ac.tmps.getD 174 undef, ac.tmps.getD 175 undef, ac.tmps.getD 176 undef, ac.tmps.getD 177 undef, ac.tmps.getD 178 undef, ac.tmps.getD 179 undef, ac.tmps.getD 180 undef, ac.tmps.getD 181 undef, ac.tmps.getD 182 undef, ac.tmps.getD 183 undef, ac.tmps.getD 184 undef, ac.tmps.getD 185 undef, ac.tmps.getD 186 undef, ac.tmps.getD 187 undef, ac.tmps.getD 188 undef, ac.tmps.getD 189 undef, ac.tmps.getD 190 undef, ac.tmps.getD 191 undef, ac.tmps.getD 192 undef, ac.tmps.getD 193 undef, ac.tmps.getD 194 undef, ac.tmps.getD 195 undef, ac.tmps.getD 196 undef], []⟩) (c d : Cm) (q q2 : Option Addr) (cap cap2 : Nat) (g : GoodC c) (HC : Hid (Blk V.heap.size #[.int .i64 c.kind, .int .i64 c.id, .int .i64 c.txn, .bool c.com, .slice q c.ws.length cap, .string c.text] 26 X)) (HD : Hid (Blk b9 #[.int .i64 d.kind, .int .i64 d.id, .int .i64 d.txn, .bool d.com, .slice q2 d.ws.length cap2, .string d.text] 26 V)) (HW : Hid (WsV q c.ws V)) (HV : Hid (WsV q2 d.ws V)) (HBV : Hid (Below V.heap.size V X)) (HB : Hid (Below w.heap.size w V)) (kw : Is64 which) (kv : Is64 vv) (hs : s.size ≤ 60) (K : Act → World → Prop) (Q : Exit → Act → World → Prop) (hK : Hid (After K w form b9 V d q2 cap2)) (hj : which % 9 = 2) : r4.wp Try.prog (Exit.then K Q) ac X := by
  obtain ⟨u, rfl⟩ : ∃ u : Nat → Value, ac = ⟨#[u 0, u 1, u 2, u 3, u 4, .string s, .int .i64 which, .int .i64 vv, .int .i64 form, .pointer (some ⟨b9, 0, none⟩), u 10, u 11, u 12, u 13, u 14, u 15, u 16, u 17, .bool false, .pointer (some ⟨V.heap.size, 0, none⟩), u 20, u 21, u 22, u 23, u 24, u 25, u 26, u 27, u 28, u 29, u 30, u 31, u 32, u 33, u 34, u 35, u 36, u 37, u 38, u 39, u 40, u 41, u 42, u 43, u 44, u 45, u 46, u 47, u 48, u 49, u 50, u 51, u 52, u 53, u 54, u 55, u 56, u 57, u 58, u 59, u 60, u 61, u 62, u 63, u 64, u 65, u 66, u 67, u 68, u 69, u 70, u 71, u 72, u 73, u 74, u 75, u 76, u 77, u 78, u 79, u 80, u 81, u 82, u 83, u 84, u 85, u 86, u 87, u 88, u 89, u 90, u 91, u 92, u 93, u 94, u 95, u 96, u 97, u 98, u 99, u 100, u 101, u 102, u 103, u 104, u 105, u 106, u 107, u 108, u 109, u 110, u 111, u 112, u 113, u 114, u 115, u 116, u 117, u 118, u 119, u 120, u 121, u 122, u 123, u 124, u 125, u 126, u 127, u 128, u 129, u 130, u 131, u 132, u 133, u 134, u 135, u 136, u 137, u 138, u 139, u 140, u 141, u 142, u 143, u 144, u 145, u 146, u 147, u 148, u 149, u 150, u 151, u 152, u 153, u 154, u 155, u 156, u 157, u 158, u 159, u 160, u 161, u 162, u 163, u 164, u 165, u 166, u 167, u 168, u 169, u 170, u 171, u 172, u 173, u 174, u 175, u 176, u 177, u 178, u 179, u 180, u 181, u 182, u 183, u 184, u 185, u 186, u 187, u 188, u 189, u 190, u 191, u 192, u 193, u 194, u 195, u 196], []⟩ := ⟨fun i => ac.tmps.getD i undef, ha⟩
  clear ha
  unfold Try.f5 at hc
  cases hc
  have WJ := hide (fun W => within7_at kw (by decide) hj W)
  clear hj
  have k1_ := unhide HC
  have lc := k1_.lt
  have x0_ := k1_.cell 0
  have xf0_ := k1_.froz 0
  have x1_ := k1_.cell 1
  have xf1_ := k1_.froz 1
  have x2_ := k1_.cell 2
  have xf2_ := k1_.froz 2
  have x3_ := k1_.cell 3
  have xf3_ := k1_.froz 3
  have x4_ := k1_.cell 4
  have xf4_ := k1_.froz 4
  have x5_ := k1_.cell 5
  have xf5_ := k1_.froz 5
  simp at x0_ x1_ x2_ x3_ x4_ x5_
  have hct : c.text.size ≤ 40 := (rightC_of g.right).2.2.2.1
  have f := g.fineW
  have hcat : ¬ 9223372036854775807 < c.text.size + s.size := by omega
  have hF : Hid (FineW ⟨c.kind, c.id, vv, c.com, c.ws, c.text⟩) := hide ⟨f.kind, f.id, kv, f.len, f.ws, f.text⟩
  clear f
  have hset := k1_.set 2 (.int .i64 vv)
  have HS := hide hset
  have HX := hide ((unhide HBV).setCell (p := ⟨V.heap.size, 2, none⟩) (Nat.le_refl _) (.int .i64 vv))
  clear k1_ hset g
  go_wp2_with (go_at_call_of 15 (Value.int IntKind.i64 which); refine (unhide WJ _).mono ?_; rintro e X2 ⟨rfl, hX2⟩; replace hX2 := hX2.symm; subst hX2)
  exact unhide hK _ ⟨c.kind, c.id, vv, c.com, c.ws, c.text⟩ q cap _ (by kernel_rfl) HS (hide ((unhide HD).below (unhide HX))) (hide ((unhide HW).below (unhide HX))) (hide ((unhide HV).below (unhide HX))) hF (hide (Below.onto (unhide HB) (unhide HX)))
set_option maxRecDepth 100000 in
set_option maxHeartbeats 8000000 in
theorem right_sw3 {r0 r1 r2 r3 r4 rest : Code} (hc : Try.f5.body = some (.seq r0 (.seq r1 (.seq r2 (.seq r3 (.seq r4 rest)))))) (w : World) (s : ByteArray) (which vv form : Int) (ac : Act) (b9 : Nat) (V X : World) (ha : ac = ⟨#[ac.tmps.getD 0 undef, ac.tmps.getD 1 undef, ac.tmps.getD 2 undef, ac.tmps.getD 3 undef, ac.tmps.getD 4 undef, .string s, .int .i64 which, .int .i64 vv, .int .i64 form, .pointer (some ⟨b9, 0, none⟩), ac.tmps.getD 10 undef, ac.tmps.getD 11 undef, ac.tmps.getD 12 undef, ac.tmps.getD 13 undef, ac.tmps.getD 14 undef, ac.tmps.getD 15 undef, ac.tmps.getD 16 undef, ac.tmps.getD 17 undef, .bool false, .pointer (some ⟨V.heap.size, 0, none⟩), ac.tmps.getD 20 undef, ac.tmps.getD 21 undef, ac.tmps.getD 22 undef, ac.tmps.getD 23 undef, ac.tmps.getD 24 undef, ac.tmps.getD 25 undef, ac.tmps.getD 26 undef, ac.tmps.getD 27 undef, ac.tmps.getD 28 undef, ac.tmps.getD 29 undef, ac.tmps.getD 30 undef, ac.tmps.getD 31 undef, ac.tmps.getD 32 undef, ac.tmps.getD 33 undef, ac.tmps.getD 34 undef, ac.tmps.getD 35 undef, ac.tmps.getD 36 undef, ac.tmps.getD 37 undef, ac.tmps.getD 38 undef, ac.tmps.getD 39 undef, ac.tmps.getD 40 undef, ac.tmps.getD 41 undef, ac.tmps.getD 42 undef, ac.tmps.getD 43 undef, ac.tmps.getD 44 undef, ac.tmps.getD 45 undef, ac.tmps.getD 46 undef, ac.tmps.getD 47 undef, ac.tmps.getD 48 undef, ac.tmps.getD 49 undef, ac.tmps.getD 50 undef, ac.tmps.getD 51 undef, ac.tmps.getD 52 undef, ac.tmps.getD 53 undef, ac.tmps.getD 54 undef, ac.tmps.getD 55 undef, ac.tmps.getD 56 undef, ac.tmps.getD 57 undef, ac.tmps.getD 58 undef, ac.tmps.getD 59 undef, ac.tmps.getD 60 undef, ac.tmps.getD 61 undef, ac.tmps.getD 62 undef, ac.tmps.getD 63 undef, ac.tmps.getD 64 undef, ac.tmps.getD 65 undef, ac.tmps.getD 66 undef, ac.tmps.getD 67 undef, ac.tmps.getD 68 undef, ac.tmps.getD 69 undef, ac.tmps.getD 70 undef, ac.tmps.getD 71 undef, ac.tmps.getD 72 undef, ac.tmps.getD 73 undef, ac.tmps.getD 74 undef, ac.tmps.getD 75 undef, ac.tmps.getD 76 undef, ac.tmps.getD 77 undef, ac.tmps.getD 78 undef, ac.tmps.getD 79 undef, ac.tmps.getD 80 undef, ac.tmps.getD 81 undef, ac.tmps.getD 82 undef, ac.tmps.getD 83 undef, ac.tmps.getD 84 undef, ac.tmps.getD 85 undef, ac.tmps.getD 86 undef, ac.tmps.getD 87 undef, ac.tmps.getD 88 undef, ac.tmps.getD 89 undef, ac.tmps.getD 90 undef, ac.tmps.getD 91 undef, ac.tmps.getD 92 undef, ac.tmps.getD 93 undef, ac.tmps.getD 94 undef, ac.tmps.getD 95 undef, ac.tmps.getD 96 undef, ac.tmps.getD 97 undef, ac.tmps.getD 98 undef, ac.tmps.getD 99 undef, ac.tmps.getD 100 undef, ac.tmps.getD 101 undef, ac.tmps.getD 102 undef, ac.tmps.getD 103 undef, ac.tmps.getD 104 undef, ac.tmps.getD 105 undef, ac.tmps.getD 106 undef, ac.tmps.getD 107 undef, ac.tmps.getD 108 undef, ac.tmps.getD 109 undef, ac.tmps.getD 110 undef, ac.tmps.getD 111 undef, ac.tmps.getD 112 undef, ac.tmps.getD 113 undef, ac.tmps.getD 114 undef, ac.tmps.getD 115 undef, ac.tmps.getD 116 undef, ac.tmps.getD 117 undef, ac.tmps.getD 118 undef, ac.tmps.getD 119 undef, ac.tmps.getD 120 undef, ac.tmps.getD 121 undef, ac.tmps.getD 122 undef, ac.tmps.getD 123 undef, ac.tmps.getD 124 undef, ac.tmps.getD 125 undef, ac.tmps.getD 126 undef, ac.tmps.getD 127 undef, ac.tmps.getD 128 undef, ac.tmps.getD 129 undef, ac.tmps.getD 130 undef, ac.tmps.getD 131 undef, ac.tmps.getD 132 undef, ac.tmps.getD 133 undef, ac.tmps.getD 134 undef, ac.tmps.getD 135 undef, ac.tmps.getD 136 undef, ac.tmps.getD 137 undef, ac.tmps.getD 138 undef, ac.tmps.getD 139 undef, ac.tmps.getD 140 undef, ac.tmps.getD 141 undef, ac.tmps.getD 142 undef, ac.tmps.getD 143 undef, ac.tmps.getD 144 undef, ac.tmps.getD 145 undef, ac.tmps.getD 146 undef, ac.tmps.getD 147 undef, ac.tmps.getD 148 undef, ac.tmps.getD 149 undef, ac.tmps.getD 150 undef, ac.tmps.getD 151 undef, ac.tmps.getD 152 undef, ac.tmps.getD 153 undef, ac.tmps.getD 154 undef, ac.tmps.getD 155 undef, ac.tmps.getD 156 undef, ac.tmps.getD 157 undef, ac.tmps.getD 158 undef, ac.tmps.getD 159 undef, ac.tmps.getD 160 undef, ac.tmps.getD 161 undef, ac.tmps.getD 162 undef, ac.tmps.getD 163 undef, ac.tmps.getD 164 undef, ac.tmps.getD 165 undef, ac.tmps.getD 166 undef, ac.tmps.getD 167 undef, ac.tmps.getD 168 undef, ac.tmps.getD 169 undef, ac.tmps.getD 170 undef, ac.tmps.getD 171 undef, ac.tmps.getD 172 undef, ac.tmps.getD 173 undef, ac.tmps.getD 174 undef, ac.tmps.getD 175 undef, ac.tmps.getD 176 undef, ac.tmps.getD 177 undef, ac.tmps.getD 178 undef, ac.tmps.getD 179 undef, ac.tmps.getD 180 undef, ac.tmps.getD 181 undef, ac.tmps.getD 182 undef, ac.tmps.getD 183 undef, ac.tmps.getD 184 undef, ac.tmps.getD 185 undef, ac.tmps.getD 186 undef, ac.tmps.getD 187 undef, ac.tmps.getD 188 undef, ac.tmps.getD 189 undef, ac.tmps.getD 190 undef, ac.tmps.getD 191 undef, ac.tmps.getD 192 undef, ac.tmps.getD 193 undef, ac.tmps.getD 194 undef, ac.tmps.getD 195 undef, ac.tmps.getD 196 undef], []⟩) (c d : Cm) (q q2 : Option Addr) (cap cap2 : Nat) (g : GoodC c) (HC : Hid (Blk V.heap.size #[.int .i64 c.kind, .int .i64 c.id, .int .i64 c.txn, .bool c.com, .slice q c.ws.length cap, .string c.text] 26 X)) (HD : Hid (Blk b9 #[.int .i64 d.kind, .int .i64 d.id, .int .i64 d.txn, .bool d.com, .slice q2 d.ws.length cap2, .string d.text] 26 V)) (HW : Hid (WsV q c.ws V)) (HV : Hid (WsV q2 d.ws V)) (HBV : Hid (Below V.heap.size V X)) (HB : Hid (Below w.heap.size w V)) (kw : Is64 which) (kv : Is64 vv) (hs : s.size ≤ 60) (K : Act → World → Prop) (Q : Exit → Act → World → Prop) (hK : Hid (After K w form b9 V d q2 cap2)) (hj : which % 9 = 3) : r4.wp Try.prog (Exit.then K Q) ac X := by
  obtain ⟨u, rfl⟩ : ∃ u : Nat → Value, ac = ⟨#[u 0, u 1, u 2, u 3, u 4, .string s, .int .i64 which, .int .i64 vv, .int .i64 form, .pointer (some ⟨b9, 0, none⟩), u 10, u 11, u 12, u 13, u 14, u 15, u 16, u 17, .bool false, .pointer (some ⟨V.heap.size, 0, none⟩), u 20, u 21, u 22, u 23, u 24, u 25, u 26, u 27, u 28, u 29, u 30, u 31, u 32, u 33, u 34, u 35, u 36, u 37, u 38, u 39, u 40, u 41, u 42, u 43, u 44, u 45, u 46, u 47, u 48, u 49, u 50, u 51, u 52, u 53, u 54, u 55, u 56, u 57, u 58, u 59, u 60, u 61, u 62, u 63, u 64, u 65, u 66, u 67, u 68, u 69, u 70, u 71, u 72, u 73, u 74, u 75, u 76, u 77, u 78, u 79, u 80, u 81, u 82, u 83, u 84, u 85, u 86, u 87, u 88, u 89, u 90, u 91, u 92, u 93, u 94, u 95, u 96, u 97, u 98, u 99, u 100, u 101, u 102, u 103, u 104, u 105, u 106, u 107, u 108, u 109, u 110, u 111, u 112, u 113, u 114, u 115, u 116, u 117, u 118, u 119, u 120, u 121, u 122, u 123, u 124, u 125, u 126, u 127, u 128, u 129, u 130, u 131, u 132, u 133, u 134, u 135, u 136, u 137, u 138, u 139, u 140, u 141, u 142, u 143, u 144, u 145, u 146, u 147, u 148, u 149, u 150, u 151, u 152, u 153, u 154, u 155, u 156, u 157, u 158, u 159, u 160, u 161, u 162, u 163, u 164, u 165, u 166, u 167, u 168, u 169, u 170, u 171, u 172, u 173, u 174, u 175, u 176, u 177, u 178, u 179, u 180, u 181, u 182, u 183, u 184, u 185, u 186, u 187, u 188, u 189, u 190, u 191, u 192, u 193, u 194, u 195, u 196], []⟩ := ⟨fun i => ac.tmps.getD i undef, ha⟩
  clear ha
  unfold Try.f5 at hc
  cases hc
  have WJ := hide (fun W => within7_at kw (by decide) hj W)
  clear hj
  have k1_ := unhide HC
  have lc := k1_.lt
  have x0_ := k1_.cell 0
  have xf0_ := k1_.froz 0
  have x1_ := k1_.cell 1
  have xf1_ := k1_.froz 1
  have x2_ := k1_.cell 2
  have xf2_ := k1_.froz 2
  have x3_ := k1_.cell 3
  have xf3_ := k1_.froz 3
  have x4_ := k1_.cell 4
  have xf4_ := k1_.froz 4
  have x5_ := k1_.cell 5
  have xf5_ := k1_.froz 5
  simp at x0_ x1_ x2_ x3_ x4_ x5_
  have hct : c.text.size ≤ 40 := (rightC_of g.right).2.2.2.1
  have f := g.fineW
  have hcat : ¬ 9223372036854775807 < c.text.size + s.size := by omega
  have hF : Hid (FineW ⟨c.kind, c.id, c.txn, !c.com, c.ws, c.text⟩) := hide ⟨f.kind, f.id, f.txn, f.len, f.ws, f.text⟩
  clear f
  have hset := k1_.set 3 (.bool (!c.com))
  have HS := hide hset
  have HX := hide ((unhide HBV).setCell (p := ⟨V.heap.size, 3, none⟩) (Nat.le_refl _) (.bool (!c.com)))
  clear k1_ hset g
  go_wp2_with (go_at_call_of 15 (Value.int IntKind.i64 which); refine (unhide WJ _).mono ?_; rintro e X2 ⟨rfl, hX2⟩; replace hX2 := hX2.symm; subst hX2)
  exact unhide hK _ ⟨c.kind, c.id, c.txn, !c.com, c.ws, c.text⟩ q cap _ (by kernel_rfl) HS (hide ((unhide HD).below (unhide HX))) (hide ((unhide HW).below (unhide HX))) (hide ((unhide HV).below (unhide HX))) hF (hide (Below.onto (unhide HB) (unhide HX)))
set_option maxRecDepth 100000 in
set_option maxHeartbeats 8000000 in
theorem right_sw4 {r0 r1 r2 r3 r4 rest : Code} (hc : Try.f5.body = some (.seq r0 (.seq r1 (.seq r2 (.seq r3 (.seq r4 rest)))))) (w : World) (s : ByteArray) (which vv form : Int) (ac : Act) (b9 : Nat) (V X : World) (ha : ac = ⟨#[ac.tmps.getD 0 undef, ac.tmps.getD 1 undef, ac.tmps.getD 2 undef, ac.tmps.getD 3 undef, ac.tmps.getD 4 undef, .string s, .int .i64 which, .int .i64 vv, .int .i64 form, .pointer (some ⟨b9, 0, none⟩), ac.tmps.getD 10 undef, ac.tmps.getD 11 undef, ac.tmps.getD 12 undef, ac.tmps.getD 13 undef, ac.tmps.getD 14 undef, ac.tmps.getD 15 undef, ac.tmps.getD 16 undef, ac.tmps.getD 17 undef, .bool false, .pointer (some ⟨V.heap.size, 0, none⟩), ac.tmps.getD 20 undef, ac.tmps.getD 21 undef, ac.tmps.getD 22 undef, ac.tmps.getD 23 undef, ac.tmps.getD 24 undef, ac.tmps.getD 25 undef, ac.tmps.getD 26 undef, ac.tmps.getD 27 undef, ac.tmps.getD 28 undef, ac.tmps.getD 29 undef, ac.tmps.getD 30 undef, ac.tmps.getD 31 undef, ac.tmps.getD 32 undef, ac.tmps.getD 33 undef, ac.tmps.getD 34 undef, ac.tmps.getD 35 undef, ac.tmps.getD 36 undef, ac.tmps.getD 37 undef, ac.tmps.getD 38 undef, ac.tmps.getD 39 undef, ac.tmps.getD 40 undef, ac.tmps.getD 41 undef, ac.tmps.getD 42 undef, ac.tmps.getD 43 undef, ac.tmps.getD 44 undef, ac.tmps.getD 45 undef, ac.tmps.getD 46 undef, ac.tmps.getD 47 undef, ac.tmps.getD 48 undef, ac.tmps.getD 49 undef, ac.tmps.getD 50 undef, ac.tmps.getD 51 undef, ac.tmps.getD 52 undef, ac.tmps.getD 53 undef, ac.tmps.getD 54 undef, ac.tmps.getD 55 undef, ac.tmps.getD 56 undef, ac.tmps.getD 57 undef, ac.tmps.getD 58 undef, ac.tmps.getD 59 undef, ac.tmps.getD 60 undef, ac.tmps.getD 61 undef, ac.tmps.getD 62 undef, ac.tmps.getD 63 undef, ac.tmps.getD 64 undef, ac.tmps.getD 65 undef, ac.tmps.getD 66 undef, ac.tmps.getD 67 undef, ac.tmps.getD 68 undef, ac.tmps.getD 69 undef, ac.tmps.getD 70 undef, ac.tmps.getD 71 undef, ac.tmps.getD 72 undef, ac.tmps.getD 73 undef, ac.tmps.getD 74 undef, ac.tmps.getD 75 undef, ac.tmps.getD 76 undef, ac.tmps.getD 77 undef, ac.tmps.getD 78 undef, ac.tmps.getD 79 undef, ac.tmps.getD 80 undef, ac.tmps.getD 81 undef, ac.tmps.getD 82 undef, ac.tmps.getD 83 undef, ac.tmps.getD 84 undef, ac.tmps.getD 85 undef, ac.tmps.getD 86 undef, ac.tmps.getD 87 undef, ac.tmps.getD 88 undef, ac.tmps.getD 89 undef, ac.tmps.getD 90 undef, ac.tmps.getD 91 undef, ac.tmps.getD 92 undef, ac.tmps.getD 93 undef, ac.tmps.getD 94 undef, ac.tmps.getD 95 undef, ac.tmps.getD 96 undef, ac.tmps.getD 97 undef, ac.tmps.getD 98 undef, ac.tmps.getD 99 undef, ac.tmps.getD 100 undef, ac.tmps.getD 101 undef, ac.tmps.getD 102 undef, ac.tmps.getD 103 undef, ac.tmps.getD 104 undef, ac.tmps.getD 105 undef, ac.tmps.getD 106 undef, ac.tmps.getD 107 undef, ac.tmps.getD 108 undef, ac.tmps.getD 109 undef, ac.tmps.getD 110 undef, ac.tmps.getD 111 undef, ac.tmps.getD 112 undef, ac.tmps.getD 113 undef, ac.tmps.getD 114 undef, ac.tmps.getD 115 undef, ac.tmps.getD 116 undef, ac.tmps.getD 117 undef, ac.tmps.getD 118 undef, ac.tmps.getD 119 undef, ac.tmps.getD 120 undef, ac.tmps.getD 121 undef, ac.tmps.getD 122 undef, ac.tmps.getD 123 undef, ac.tmps.getD 124 undef, ac.tmps.getD 125 undef, ac.tmps.getD 126 undef, ac.tmps.getD 127 undef, ac.tmps.getD 128 undef, ac.tmps.getD 129 undef, ac.tmps.getD 130 undef, ac.tmps.getD 131 undef, ac.tmps.getD 132 undef, ac.tmps.getD 133 undef, ac.tmps.getD 134 undef, ac.tmps.getD 135 undef, ac.tmps.getD 136 undef, ac.tmps.getD 137 undef, ac.tmps.getD 138 undef, ac.tmps.getD 139 undef, ac.tmps.getD 140 undef, ac.tmps.getD 141 undef, ac.tmps.getD 142 undef, ac.tmps.getD 143 undef, ac.tmps.getD 144 undef, ac.tmps.getD 145 undef, ac.tmps.getD 146 undef, ac.tmps.getD 147 undef, ac.tmps.getD 148 undef, ac.tmps.getD 149 undef, ac.tmps.getD 150 undef, ac.tmps.getD 151 undef, ac.tmps.getD 152 undef, ac.tmps.getD 153 undef, ac.tmps.getD 154 undef, ac.tmps.getD 155 undef, ac.tmps.getD 156 undef, ac.tmps.getD 157 undef, ac.tmps.getD 158 undef, ac.tmps.getD 159 undef, ac.tmps.getD 160 undef, ac.tmps.getD 161 undef, ac.tmps.getD 162 undef, ac.tmps.getD 163 undef, ac.tmps.getD 164 undef, ac.tmps.getD 165 undef, ac.tmps.getD 166 undef, ac.tmps.getD 167 undef, ac.tmps.getD 168 undef, ac.tmps.getD 169 undef, ac.tmps.getD 170 undef, ac.tmps.getD 171 undef, ac.tmps.getD 172 undef, ac.tmps.getD 173 undef, ac.tmps.getD 174 undef, ac.tmps.getD 175 undef, ac.tmps.getD 176 undef, ac.tmps.getD 177 undef, ac.tmps.getD 178 undef, ac.tmps.getD 179 undef, ac.tmps.getD 180 undef, ac.tmps.getD 181 undef, ac.tmps.getD 182 undef, ac.tmps.getD 183 undef, ac.tmps.getD 184 undef, ac.tmps.getD 185 undef, ac.tmps.getD 186 undef, ac.tmps.getD 187 undef, ac.tmps.getD 188 undef, ac.tmps.getD 189 undef, ac.tmps.getD 190 undef, ac.tmps.getD 191 undef, ac.tmps.getD 192 undef, ac.tmps.getD 193 undef, ac.tmps.getD 194 undef, ac.tmps.getD 195 undef, ac.tmps.getD 196 undef], []⟩) (c d : Cm) (q q2 : Option Addr) (cap cap2 : Nat) (g : GoodC c) (HC : Hid (Blk V.heap.size #[.int .i64 c.kind, .int .i64 c.id, .int .i64 c.txn, .bool c.com, .slice q c.ws.length cap, .string c.text] 26 X)) (HD : Hid (Blk b9 #[.int .i64 d.kind, .int .i64 d.id, .int .i64 d.txn, .bool d.com, .slice q2 d.ws.length cap2, .string d.text] 26 V)) (HW : Hid (WsV q c.ws V)) (HV : Hid (WsV q2 d.ws V)) (HBV : Hid (Below V.heap.size V X)) (HB : Hid (Below w.heap.size w V)) (kw : Is64 which) (kv : Is64 vv) (hs : s.size ≤ 60) (K : Act → World → Prop) (Q : Exit → Act → World → Prop) (hK : Hid (After K w form b9 V d q2 cap2)) (hj : which % 9 = 4) : r4.wp Try.prog (Exit.then K Q) ac X := by
  obtain ⟨u, rfl⟩ : ∃ u : Nat → Value, ac = ⟨#[u 0, u 1, u 2, u 3, u 4, .string s, .int .i64 which, .int .i64 vv, .int .i64 form, .pointer (some ⟨b9, 0, none⟩), u 10, u 11, u 12, u 13, u 14, u 15, u 16, u 17, .bool false, .pointer (some ⟨V.heap.size, 0, none⟩), u 20, u 21, u 22, u 23, u 24, u 25, u 26, u 27, u 28, u 29, u 30, u 31, u 32, u 33, u 34, u 35, u 36, u 37, u 38, u 39, u 40, u 41, u 42, u 43, u 44, u 45, u 46, u 47, u 48, u 49, u 50, u 51, u 52, u 53, u 54, u 55, u 56, u 57, u 58, u 59, u 60, u 61, u 62, u 63, u 64, u 65, u 66, u 67, u 68, u 69, u 70, u 71, u 72, u 73, u 74, u 75, u 76, u 77, u 78, u 79, u 80, u 81, u 82, u 83, u 84, u 85, u 86, u 87, u 88, u 89, u 90, u 91, u 92, u 93, u 94, u 95, u 96, u 97, u 98, u 99, u 100, u 101, u 102, u 103, u 104, u 105, u 106, u 107, u 108, u 109, u 110, u 111, u 112, u 113, u 114, u 115, u 116, u 117, u 118, u 119, u 120, u 121, u 122, u 123, u 124, u 125, u 126, u 127, u 128, u 129, u 130, u 131, u 132, u 133, u 134, u 135, u 136, u 137, u 138, u 139, u 140, u 141, u 142, u 143, u 144, u 145, u 146, u 147, u 148, u 149, u 150, u 151, u 152, u 153, u 154, u 155, u 156, u 157, u 158, u 159, u 160, u 161, u 162, u 163, u 164, u 165, u 166, u 167, u 168, u 169, u 170, u 171, u 172, u 173, u 174, u 175, u 176, u 177, u 178, u 179, u 180, u 181, u 182, u 183, u 184, u 185, u 186, u 187, u 188, u 189, u 190, u 191, u 192, u 193, u 194, u 195, u 196], []⟩ := ⟨fun i => ac.tmps.getD i undef, ha⟩
  clear ha
  unfold Try.f5 at hc
  cases hc
  have WJ := hide (fun W => within7_at kw (by decide) hj W)
  clear hj
  have k1_ := unhide HC
  have lc := k1_.lt
  have x0_ := k1_.cell 0
  have xf0_ := k1_.froz 0
  have x1_ := k1_.cell 1
  have xf1_ := k1_.froz 1
  have x2_ := k1_.cell 2
  have xf2_ := k1_.froz 2
  have x3_ := k1_.cell 3
  have xf3_ := k1_.froz 3
  have x4_ := k1_.cell 4
  have xf4_ := k1_.froz 4
  have x5_ := k1_.cell 5
  have xf5_ := k1_.froz 5
  simp at x0_ x1_ x2_ x3_ x4_ x5_
  have hct : c.text.size ≤ 40 := (rightC_of g.right).2.2.2.1
  have f := g.fineW
  have hcat : ¬ 9223372036854775807 < c.text.size + s.size := by omega
  have hF : Hid (FineW ⟨c.kind, c.id, c.txn, c.com, c.ws, c.text ++ s⟩) := hide ⟨f.kind, f.id, f.txn, f.len, f.ws, by show (c.text ++ s).size ≤ _; rw [ByteArray.size_append]; omega⟩
  clear f
  have hset := k1_.set 5 (.string (c.text ++ s))
  have HS := hide hset
  have HX := hide ((unhide HBV).setCell (p := ⟨V.heap.size, 5, none⟩) (Nat.le_refl _) (.string (c.text ++ s)))
  clear k1_ hset g
  go_wp2_with (go_at_call_of 15 (Value.int IntKind.i64 which); refine (unhide WJ _).mono ?_; rintro e X2 ⟨rfl, hX2⟩; replace hX2 := hX2.symm; subst hX2)
  exact unhide hK _ ⟨c.kind, c.id, c.txn, c.com, c.ws, c.text ++ s⟩ q cap _ (by kernel_rfl) HS (hide ((unhide HD).below (unhide HX))) (hide ((unhide HW).below (unhide HX))) (hide ((unhide HV).below (unhide HX))) hF (hide (Below.onto (unhide HB) (unhide HX)))
theorem row9_at (vv : Int) (kv : Is64 vv) (i : Nat) (hi : i < 9) : ∃ x : Int, (#[.int .i64 (-1), .int .i64 0, .int .i64 1, .int .i64 2, .int .i64 3, .int .i64 4, .int .i64 5, .int .i64 6, .int .i64 vv] : Array Value)[i]? = some (.int .i64 x) ∧ Is64 x := by
  match i, hi with
  | 0, _ => exact ⟨_, rfl, by unfold Is64; decide⟩
  | 1, _ => exact ⟨_, rfl, by unfold Is64; decide⟩
  | 2, _ => exact ⟨_, rfl, by unfold Is64; decide⟩
  | 3, _ => exact ⟨_, rfl, by unfold Is64; decide⟩
  | 4, _ => exact ⟨_, rfl, by unfold Is64; decide⟩
  | 5, _ => exact ⟨_, rfl, by unfold Is64; decide⟩
  | 6, _ => exact ⟨_, rfl, by unfold Is64; decide⟩
  | 7, _ => exact ⟨_, rfl, by unfold Is64; decide⟩
  | 8, _ => exact ⟨_, rfl, kv⟩
set_option maxRecDepth 100000 in
set_option maxHeartbeats 8000000 in
theorem right_sw0 {r0 r1 r2 r3 r4 rest : Code} (hc : Try.f5.body = some (.seq r0 (.seq r1 (.seq r2 (.seq r3 (.seq r4 rest)))))) (w : World) (s : ByteArray) (which vv form : Int) (ac : Act) (b9 : Nat) (V X : World) (ha : ac = ⟨#[ac.tmps.getD 0 undef, ac.tmps.getD 1 undef, ac.tmps.getD 2 undef, ac.tmps.getD 3 undef, ac.tmps.getD 4 undef, .string s, .int .i64 which, .int .i64 vv, .int .i64 form, .pointer (some ⟨b9, 0, none⟩), ac.tmps.getD 10 undef, ac.tmps.getD 11 undef, ac.tmps.getD 12 undef, ac.tmps.getD 13 undef, ac.tmps.getD 14 undef, ac.tmps.getD 15 undef, ac.tmps.getD 16 undef, ac.tmps.getD 17 undef, .bool false, .pointer (some ⟨V.heap.size, 0, none⟩), ac.tmps.getD 20 undef, ac.tmps.getD 21 undef, ac.tmps.getD 22 undef, ac.tmps.getD 23 undef, ac.tmps.getD 24 undef, ac.tmps.getD 25 undef, ac.tmps.getD 26 undef, ac.tmps.getD 27 undef, ac.tmps.getD 28 undef, ac.tmps.getD 29 undef, ac.tmps.getD 30 undef, ac.tmps.getD 31 undef, ac.tmps.getD 32 undef, ac.tmps.getD 33 undef, ac.tmps.getD 34 undef, ac.tmps.getD 35 undef, ac.tmps.getD 36 undef, ac.tmps.getD 37 undef, ac.tmps.getD 38 undef, ac.tmps.getD 39 undef, ac.tmps.getD 40 undef, ac.tmps.getD 41 undef, ac.tmps.getD 42 undef, ac.tmps.getD 43 undef, ac.tmps.getD 44 undef, ac.tmps.getD 45 undef, ac.tmps.getD 46 undef, ac.tmps.getD 47 undef, ac.tmps.getD 48 undef, ac.tmps.getD 49 undef, ac.tmps.getD 50 undef, ac.tmps.getD 51 undef, ac.tmps.getD 52 undef, ac.tmps.getD 53 undef, ac.tmps.getD 54 undef, ac.tmps.getD 55 undef, ac.tmps.getD 56 undef, ac.tmps.getD 57 undef, ac.tmps.getD 58 undef, ac.tmps.getD 59 undef, ac.tmps.getD 60 undef, ac.tmps.getD 61 undef, ac.tmps.getD 62 undef, ac.tmps.getD 63 undef, ac.tmps.getD 64 undef, ac.tmps.getD 65 undef, ac.tmps.getD 66 undef, ac.tmps.getD 67 undef, ac.tmps.getD 68 undef, ac.tmps.getD 69 undef, ac.tmps.getD 70 undef, ac.tmps.getD 71 undef, ac.tmps.getD 72 undef, ac.tmps.getD 73 undef, ac.tmps.getD 74 undef, ac.tmps.getD 75 undef, ac.tmps.getD 76 undef, ac.tmps.getD 77 undef, ac.tmps.getD 78 undef, ac.tmps.getD 79 undef, ac.tmps.getD 80 undef, ac.tmps.getD 81 undef, ac.tmps.getD 82 undef, ac.tmps.getD 83 undef, ac.tmps.getD 84 undef, ac.tmps.getD 85 undef, ac.tmps.getD 86 undef, ac.tmps.getD 87 undef, ac.tmps.getD 88 undef, ac.tmps.getD 89 undef, ac.tmps.getD 90 undef, ac.tmps.getD 91 undef, ac.tmps.getD 92 undef, ac.tmps.getD 93 undef, ac.tmps.getD 94 undef, ac.tmps.getD 95 undef, ac.tmps.getD 96 undef, ac.tmps.getD 97 undef, ac.tmps.getD 98 undef, ac.tmps.getD 99 undef, ac.tmps.getD 100 undef, ac.tmps.getD 101 undef, ac.tmps.getD 102 undef, ac.tmps.getD 103 undef, ac.tmps.getD 104 undef, ac.tmps.getD 105 undef, ac.tmps.getD 106 undef, ac.tmps.getD 107 undef, ac.tmps.getD 108 undef, ac.tmps.getD 109 undef, ac.tmps.getD 110 undef, ac.tmps.getD 111 undef, ac.tmps.getD 112 undef, ac.tmps.getD 113 undef, ac.tmps.getD 114 undef, ac.tmps.getD 115 undef, ac.tmps.getD 116 undef, ac.tmps.getD 117 undef, ac.tmps.getD 118 undef, ac.tmps.getD 119 undef, ac.tmps.getD 120 undef, ac.tmps.getD 121 undef, ac.tmps.getD 122 undef, ac.tmps.getD 123 undef, ac.tmps.getD 124 undef, ac.tmps.getD 125 undef, ac.tmps.getD 126 undef, ac.tmps.getD 127 undef, ac.tmps.getD 128 undef, ac.tmps.getD 129 undef, ac.tmps.getD 130 undef, ac.tmps.getD 131 undef, ac.tmps.getD 132 undef, ac.tmps.getD 133 undef, ac.tmps.getD 134 undef, ac.tmps.getD 135 undef, ac.tmps.getD 136 undef, ac.tmps.getD 137 undef, ac.tmps.getD 138 undef, ac.tmps.getD 139 undef, ac.tmps.getD 140 undef, ac.tmps.getD 141 undef, ac.tmps.getD 142 undef, ac.tmps.getD 143 undef, ac.tmps.getD 144 undef, ac.tmps.getD 145 undef, ac.tmps.getD 146 undef, ac.tmps.getD 147 undef, ac.tmps.getD 148 undef, ac.tmps.getD 149 undef, ac.tmps.getD 150 undef, ac.tmps.getD 151 undef, ac.tmps.getD 152 undef, ac.tmps.getD 153 undef, ac.tmps.getD 154 undef, ac.tmps.getD 155 undef, ac.tmps.getD 156 undef, ac.tmps.getD 157 undef, ac.tmps.getD 158 undef, ac.tmps.getD 159 undef, ac.tmps.getD 160 undef, ac.tmps.getD 161 undef, ac.tmps.getD 162 undef, ac.tmps.getD 163 undef, ac.tmps.getD 164 undef, ac.tmps.getD 165 undef, ac.tmps.getD 166 undef, ac.tmps.getD 167 undef, ac.tmps.getD 168 undef, ac.tmps.getD 169 undef, ac.tmps.getD 170 undef, ac.tmps.getD 171 undef, ac.tmps.getD 172 undef, ac.tmps.getD 173 undef, ac.tmps.getD 174 undef, ac.tmps.getD 175 undef, ac.tmps.getD 176 undef, ac.tmps.getD 177 undef, ac.tmps.getD 178 undef, ac.tmps.getD 179 undef, ac.tmps.getD 180 undef, ac.tmps.getD 181 undef, ac.tmps.getD 182 undef, ac.tmps.getD 183 undef, ac.tmps.getD 184 undef, ac.tmps.getD 185 undef, ac.tmps.getD 186 undef, ac.tmps.getD 187 undef, ac.tmps.getD 188 undef, ac.tmps.getD 189 undef, ac.tmps.getD 190 undef, ac.tmps.getD 191 undef, ac.tmps.getD 192 undef, ac.tmps.getD 193 undef, ac.tmps.getD 194 undef, ac.tmps.getD 195 undef, ac.tmps.getD 196 undef], []⟩) (c d : Cm) (q q2 : Option Addr) (cap cap2 : Nat) (g : GoodC c) (HC : Hid (Blk V.heap.size #[.int .i64 c.kind, .int .i64 c.id, .int .i64 c.txn, .bool c.com, .slice q c.ws.length cap, .string c.text] 26 X)) (HD : Hid (Blk b9 #[.int .i64 d.kind, .int .i64 d.id, .int .i64 d.txn, .bool d.com, .slice q2 d.ws.length cap2, .string d.text] 26 V)) (HW : Hid (WsV q c.ws V)) (HV : Hid (WsV q2 d.ws V)) (HBV : Hid (Below V.heap.size V X)) (HB : Hid (Below w.heap.size w V)) (kw : Is64 which) (kv : Is64 vv) (hs : s.size ≤ 60) (K : Act → World → Prop) (Q : Exit → Act → World → Prop) (hK : Hid (After K w form b9 V d q2 cap2)) (hj : which % 9 = 0) : r4.wp Try.prog (Exit.then K Q) ac X := by
  obtain ⟨u, rfl⟩ : ∃ u : Nat → Value, ac = ⟨#[u 0, u 1, u 2, u 3, u 4, .string s, .int .i64 which, .int .i64 vv, .int .i64 form, .pointer (some ⟨b9, 0, none⟩), u 10, u 11, u 12, u 13, u 14, u 15, u 16, u 17, .bool false, .pointer (some ⟨V.heap.size, 0, none⟩), u 20, u 21, u 22, u 23, u 24, u 25, u 26, u 27, u 28, u 29, u 30, u 31, u 32, u 33, u 34, u 35, u 36, u 37, u 38, u 39, u 40, u 41, u 42, u 43, u 44, u 45, u 46, u 47, u 48, u 49, u 50, u 51, u 52, u 53, u 54, u 55, u 56, u 57, u 58, u 59, u 60, u 61, u 62, u 63, u 64, u 65, u 66, u 67, u 68, u 69, u 70, u 71, u 72, u 73, u 74, u 75, u 76, u 77, u 78, u 79, u 80, u 81, u 82, u 83, u 84, u 85, u 86, u 87, u 88, u 89, u 90, u 91, u 92, u 93, u 94, u 95, u 96, u 97, u 98, u 99, u 100, u 101, u 102, u 103, u 104, u 105, u 106, u 107, u 108, u 109, u 110, u 111, u 112, u 113, u 114, u 115, u 116, u 117, u 118, u 119, u 120, u 121, u 122, u 123, u 124, u 125, u 126, u 127, u 128, u 129, u 130, u 131, u 132, u 133, u 134, u 135, u 136, u 137, u 138, u 139, u 140, u 141, u 142, u 143, u 144, u 145, u 146, u 147, u 148, u 149, u 150, u 151, u 152, u 153, u 154, u 155, u 156, u 157, u 158, u 159, u 160, u 161, u 162, u 163, u 164, u 165, u 166, u 167, u 168, u 169, u 170, u 171, u 172, u 173, u 174, u 175, u 176, u 177, u 178, u 179, u 180, u 181, u 182, u 183, u 184, u 185, u 186, u 187, u 188, u 189, u 190, u 191, u 192, u 193, u 194, u 195, u 196], []⟩ := ⟨fun i => ac.tmps.getD i undef, ha⟩
  clear ha
  unfold Try.f5 at hc
  cases hc
  have WJ := hide (fun W => within7_at kw (by decide) hj W)
  clear hj
  have k1_ := unhide HC
  have lc := k1_.lt
  have x0_ := k1_.cell 0
  have xf0_ := k1_.froz 0
  have x1_ := k1_.cell 1
  have xf1_ := k1_.froz 1
  have x2_ := k1_.cell 2
  have xf2_ := k1_.froz 2
  have x3_ := k1_.cell 3
  have xf3_ := k1_.froz 3
  have x4_ := k1_.cell 4
  have xf4_ := k1_.froz 4
  have x5_ := k1_.cell 5
  have xf5_ := k1_.froz 5
  simp at x0_ x1_ x2_ x3_ x4_ x5_
  obtain ⟨jj, hjj⟩ : ∃ j : Nat, vv % 9 = (j : Int) := ⟨(vv % 9).toNat, by omega⟩
  have hjj9 : (jj : Int) < 9 := by omega
  obtain ⟨z, hz, kz⟩ := row9_at vv kv jj (by omega)
  have WV := hide (fun W => within7_at kv (by decide) hjj W)
  have f := g.fineW
  have hF : Hid (FineW ⟨z, c.id, c.txn, c.com, c.ws, c.text⟩) := hide ⟨kz, f.id, f.txn, f.len, f.ws, f.text⟩
  have hb := below_new X (.cells #[.int .i64 (-1), .int .i64 0, .int .i64 1, .int .i64 2, .int .i64 3, .int .i64 4, .int .i64 5, .int .i64 6, .int .i64 vv] 3)
  have hrow := Blk.new X #[.int .i64 (-1), .int .i64 0, .int .i64 1, .int .i64 2, .int .i64 3, .int .i64 4, .int .i64 5, .int .i64 6, .int .i64 vv] 3
  have cz := (hrow.cell jj).trans hz
  have HS := hide ((k1_.set 0 (.int .i64 z)).below (below_new (X.setCell ⟨V.heap.size, 0, none⟩ (.int .i64 z)) (.cells #[.int .i64 (-1), .int .i64 0, .int .i64 1, .int .i64 2, .int .i64 3, .int .i64 4, .int .i64 5, .int .i64 6, .int .i64 vv] 3)))
  have HX := hide (Below.onto ((unhide HBV).setCell (p := ⟨V.heap.size, 0, none⟩) (Nat.le_refl _) (.int .i64 z)) (below_new (X.setCell ⟨V.heap.size, 0, none⟩ (.int .i64 z)) (.cells #[.int .i64 (-1), .int .i64 0, .int .i64 1, .int .i64 2, .int .i64 3, .int .i64 4, .int .i64 5, .int .i64 6, .int .i64 vv] 3)))
  clear k1_ g f hjj hz hrow hb
  go_wp2_with (first | (go_at_call_of 15 (Value.int IntKind.i64 which); refine (unhide WJ _).mono ?_; rintro e X2 ⟨rfl, hX2⟩; replace hX2 := hX2.symm; subst hX2) | (go_at_call 15; refine (unhide WV _).mono ?_; rintro e X2 ⟨rfl, hX2⟩; replace hX2 := hX2.symm; subst hX2))
  exact unhide hK _ ⟨z, c.id, c.txn, c.com, c.ws, c.text⟩ q cap _ (by kernel_rfl) HS (hide ((unhide HD).below (unhide HX))) (hide ((unhide HW).below (unhide HX))) (hide ((unhide HV).below (unhide HX))) hF (hide (Below.onto (unhide HB) (unhide HX)))
end Go.Proofs.Ytjmmfgmmmdbenaa

namespace Go.Proofs.Ytjmmfgmmmdbenaa
open Go.RowKit
set_option linter.unusedSimpArgs false
set_option linter.unusedVariables false

theorem wcells_cell {W : World} {g o2 : Nat} {ws : List Wt} (h : WsAt ws g o2 W) : ∀ j u, (wcells ws)[j]? = some u → W.cell? (Addr.add ⟨g, o2, none⟩ j) = some u := by
  intro j u hj
  have hl := (List.getElem?_eq_some_iff.1 hj).1
  rw [wcells_len] at hl
  obtain ⟨i, r, rfl, hr⟩ : ∃ i r, j = i * 3 + r ∧ r < 3 := ⟨j / 3, j % 3, by omega, Nat.mod_lt _ (by decide)⟩
  have hi : i < ws.length := by omega
  obtain ⟨a1, a2, a3⟩ := wcells_at ws i hi
  obtain ⟨⟨b1, b2, b3⟩, _⟩ := h i hi
  have e : Addr.add ⟨g, o2, none⟩ (i * 3 + r) = ⟨g, o2 + (i * 3 + r), none⟩ := by
    by_cases h0 : i * 3 + r = 0
    · rw [h0]; simp [Addr.add]
    · unfold Addr.add; rw [if_neg h0]
  rw [e]
  have : r = 0 ∨ r = 1 ∨ r = 2 := by omega
  rcases this with rfl | rfl | rfl
  · rw [Nat.add_zero] at hj ⊢; rw [a1] at hj; injection hj with hj; subst hj; exact b1
  · rw [a2] at hj; injection hj with hj; subst hj; rw [show o2 + (i * 3 + 1) = o2 + i * 3 + 1 by omega]; exact b2
  · rw [a3] at hj; injection hj with hj; subst hj; rw [show o2 + (i * 3 + 2) = o2 + i * 3 + 2 by omega]; exact b3
theorem gr_blk {b g : Nat} {cs : Array Value} {T : TypeId} {W W' : World} (h : Blk b cs T W) (hg : W.grownBy W' (some g)) (hne : b ≠ g) : Blk b cs T W' := (hg.block b h.lt (fun e => by injection e with e; exact hne e)).trans h
theorem gr_below {n g : Nat} {V W W' : World} (h : Below n V W) (hg : W.grownBy W' (some g)) (hn : n ≤ g) (hs : n ≤ W.heap.size) : Below n V W' := h.trans ⟨hg.os, hg.tape, hg.output, hg.size, fun k hk => hg.block k (Nat.lt_of_lt_of_le hk hs) (fun e => by injection e with e; omega)⟩
theorem wcells_one (ws : List Wt) : ∀ u ∈ wcells ws, u.oneCell' = true := by
  intro u hu
  obtain ⟨w, _, hw⟩ := List.mem_flatMap.1 hu
  simp at hw
  rcases hw with rfl | rfl | rfl <;> rfl
theorem run_app0 (W : World) (ty : TypeId) (g : Nat) (q : Option Addr) (ws : List Wt) (cap : Nat) (hg : Blk g #[] 40 W) (hw : WsV q ws W) (hl : ws.length ≤ 1000000) (base : Nat) (hb : base ≤ g) :
    ∃ v' w', (Builtin.append_ #[24, 24] ty #[.slice (some ⟨g, 0, none⟩) 0 0, .slice q ws.length cap]).run Try.prog W = .ok v' w' ∧ w'.ownsRow base 40 3 v' ws.length (wcells ws) ∧ W.grownBy w' (some g) := by
  obtain ⟨i0, hi, hz0, hz1, hz2⟩ := info_parts info_wt
  have hgl := hg.lt
  have hown : W.ownsRow base 40 3 (.slice (some ⟨g, 0, none⟩) 0 0) 0 [] := ⟨rfl, .inr ⟨g, 0, #[], rfl, hb, hg, Nat.le_refl _, by unfold maxLen; omega, rfl, rfl⟩⟩
  obtain ⟨gw, o2, hp, hat⟩ := hw
  have key : ∀ ad, q = some ad → (ws.length ≠ 0 → ad = ⟨gw, o2, none⟩) → ∃ v' w', (Builtin.append_ #[24, 24] ty #[.slice (some ⟨g, 0, none⟩) 0 0, .slice q ws.length cap]).run Try.prog W = .ok v' w' ∧ w'.ownsRow base 40 3 v' ws.length (wcells ws) ∧ W.grownBy w' (some g) := by
    intro ad hq had
    subst hq
    obtain ⟨v', w', hr, h2, h3, _⟩ := run_append_own (P := Try.prog) (w := W) base 24 ty 40 i0 _ 3 40 Try.underlying24 hi hz0 hz1 hz2 rfl (by decide) (.slice (some ⟨g, 0, none⟩) 0 0) 0 [] hown ad ws.length cap (wcells ws) (wcells_len ws) (fun j u hj => by
      have hl0 := (List.getElem?_eq_some_iff.1 hj).1
      rw [wcells_len] at hl0
      rw [had (by omega)]
      exact wcells_cell hat j u hj) (wcells_one ws) (by unfold maxLen; omega) (by omega) (by omega)
    refine ⟨v', w', hr, ?_, h3⟩
    simpa using h2
  by_cases h0 : ws.length = 0
  · rcases q with _ | ad
    · have hws : ws = [] := List.length_eq_zero_iff.1 h0
      subst hws
      refine ⟨.slice (some ⟨g, 0, none⟩) 0 0, W, ?_, hown, grownBy_refl _ _⟩
      simp [Builtin.append_, run_underlying Try.underlying24, sizeOf, typeInfo, hi, Builtin.lenOf, Builtin.firstCells, loadCells, loadCellsFrom, storeCells]
    · exact key ad rfl (fun h => absurd h0 h)
  · exact key _ (hp h0) (fun _ => rfl)
theorem wpList_app0 {ops : Array Oper} {rest : List Oper} {o : Oper} {a : Act} {Q : Exit → Act → World → Prop} (hgd : o.guard = none) (sl x : Operand)
    (ho : o.op = .call { callee := .builtin .append, args := #[sl, x], argTypes := #[24, 24] })
    (W : World) (g : Nat) (q : Option Addr) (ws : List Wt) (cap : Nat) (hs : a.eval sl = .slice (some ⟨g, 0, none⟩) 0 0) (hx : a.eval x = .slice q ws.length cap) (hg : Blk g #[] 40 W) (hw : WsV q ws W) (hl : ws.length ≤ 1000000) (base : Nat) (hb : base ≤ g)
    (h : ∀ v' w', w'.ownsRow base 40 3 v' ws.length (wcells ws) → W.grownBy w' (some g) → wpList Try.prog ops Q rest (a.put o.dst v') w') : wpList Try.prog ops Q (o :: rest) a W := by
  obtain ⟨v', w', hr, h2, h3⟩ := run_app0 W o.type g q ws cap hg hw hl base hb
  refine wpList_plain hgd fun _ hK => ?_
  unfold Oper.wp execOp
  simp only [ho, resolve, invoke, builtin, Sem.run_bind, Sem.run_pure, Result.andThen_ok, List.map_toArray, List.map_cons, List.map_nil, hs, hx, hr]
  exact hK _ _ (h v' w' h2 h3)
theorem step_app0 {ops : Array Oper} {o : Oper} {a : Act} {K : Act → World → Prop} {Q : Exit → Act → World → Prop} {E : Prop} (hgd : o.guard = none) (sl x : Operand)
    (ho : o.op = .call { callee := .builtin .append, args := #[sl, x], argTypes := #[24, 24] })
    (W : World) (g : Nat) (q : Option Addr) (ws : List Wt) (cap : Nat) (hs : a.eval sl = .slice (some ⟨g, 0, none⟩) 0 0) (hx : a.eval x = .slice q ws.length cap) (hg : Blk g #[] 40 W) (hw : WsV q ws W) (hl : ws.length ≤ 1000000) (base : Nat) (hb : base ≤ g)
    (h : ∀ v' w', w'.ownsRow base 40 3 v' ws.length (wcells ws) → W.grownBy w' (some g) → K (a.put o.dst v') w') : if Region.wanted o (yielded ops a.tmps) = true then Oper.wp Try.prog o a W K Q else E := by
  obtain ⟨v', w', hr, h2, h3⟩ := run_app0 W o.type g q ws cap hg hw hl base hb
  have hw : Region.wanted o (yielded ops a.tmps) = true := by simp [Region.wanted, hgd]
  rw [if_pos hw]
  unfold Oper.wp execOp
  simp only [ho, resolve, invoke, builtin, Sem.run_bind, Sem.run_pure, Result.andThen_ok, List.map_toArray, List.map_cons, List.map_nil, hs, hx, hr]
  exact h v' w' h2 h3
end Go.Proofs.Ytjmmfgmmmdbenaa

namespace Go.Proofs.Ytjmmfgmmmdbenaa
open Go.RowKit
set_option linter.unusedSimpArgs false
set_option linter.unusedVariables false

/-- a row of N writes, of which the first i have the key "k" -/
def kW (N i : Nat) : List Wt := List.replicate i ⟨⟨#[107]⟩, ⟨#[]⟩, false⟩ ++ List.replicate (N - i) ⟨⟨#[]⟩, ⟨#[]⟩, false⟩
theorem kW_len {N i : Nat} (h : i ≤ N) : (kW N i).length = N := by simp [kW]; omega
theorem kW_set {N i : Nat} (h : i < N) : (wcells (kW N i)).toArray.setIfInBounds (i * 3) (.string ⟨#[107]⟩) = (wcells (kW N (i + 1))).toArray := by
  obtain ⟨m, hm⟩ : ∃ m, N - i = m + 1 := ⟨N - i - 1, by omega⟩
  have hm2 : N - (i + 1) = m := by omega
  have hw : ∀ a b : List Wt, wcells (a ++ b) = wcells a ++ wcells b := fun a b => by simp [wcells]
  have hl : (wcells (List.replicate i (⟨⟨#[107]⟩, ⟨#[]⟩, false⟩ : Wt))).length = i * 3 := by rw [wcells_len, List.length_replicate]
  unfold kW
  rw [hm, hm2, List.replicate_succ, List.replicate_succ', List.append_assoc, hw, hw, List.setIfInBounds_toArray, List.set_append_right _ _ (by omega), hl]
  simp [wcells]
theorem made_at (z : Array Value) (n j : Nat) (hj : j < n) : (madeCells z n).toList[j]? = some (z[j % z.size]!) := by simp [madeCells, hj]
theorem made_kW (N : Nat) : madeCells #[.string ⟨#[]⟩, .string ⟨#[]⟩, .bool false] (N * 3) = (wcells (kW N 0)).toArray := by
  have hk : kW N 0 = List.replicate N ⟨⟨#[]⟩, ⟨#[]⟩, false⟩ := by simp [kW]
  apply Array.ext'
  apply List.ext_getElem?
  intro j
  by_cases hj : j < N * 3
  · obtain ⟨i, r, rfl, hr⟩ : ∃ i r, j = i * 3 + r ∧ r < 3 := ⟨j / 3, j % 3, by omega, Nat.mod_lt _ (by decide)⟩
    obtain ⟨a0, a1, a2⟩ := wcells_at (kW N 0) i (by rw [kW_len (Nat.zero_le _)]; omega)
    have hg : (kW N 0)[i]'(by rw [kW_len (Nat.zero_le _)]; omega) = ⟨⟨#[]⟩, ⟨#[]⟩, false⟩ := by simp [hk]
    rw [hg] at a0 a1 a2
    have hmod : (i * 3 + r) % 3 = r := by omega
    rw [made_at _ _ _ hj]
    obtain rfl | rfl | rfl : r = 0 ∨ r = 1 ∨ r = 2 := by omega
    · exact (show _ = some (Value.string ⟨#[]⟩) by rw [show (i * 3 + 0) % (#[.string ⟨#[]⟩, .string ⟨#[]⟩, .bool false] : Array Value).size = 0 from hmod]; rfl).trans a0.symm
    · exact (show _ = some (Value.string ⟨#[]⟩) by rw [show (i * 3 + 1) % (#[.string ⟨#[]⟩, .string ⟨#[]⟩, .bool false] : Array Value).size = 1 from hmod]; rfl).trans a1.symm
    · exact (show _ = some (Value.bool false) by rw [show (i * 3 + 2) % (#[.string ⟨#[]⟩, .string ⟨#[]⟩, .bool false] : Array Value).size = 2 from hmod]; rfl).trans a2.symm
  · rw [List.getElem?_eq_none (by simp [madeCells]; omega), List.getElem?_eq_none (by simp [wcells_len, kW_len]; omega)]
theorem kW_row {W : World} {g N : Nat} (h : Blk g (wcells (kW N N)).toArray 40 W) (hN : N ≤ 100000) : WsV (some ⟨g, 0, none⟩) (kW N N) W := by
  have hl := kW_len (Nat.le_refl N)
  have : W.ownsRow 0 40 3 (.slice (some ⟨g, 0, none⟩) (kW N N).length N) (kW N N).length (wcells (kW N N)) :=
    ⟨wcells_len _, .inr ⟨g, N, _, rfl, Nat.zero_le _, h, by omega, by unfold maxLen; omega, by simp [wcells_len, hl], by rw [List.take_of_length_le (by simp [wcells_len])]⟩⟩
  exact row_wsv this
theorem run_make8 (N : Nat) (hN : N ≤ 100000) (W : World) : (Instr.makeSlice 24 (.int .i64 (N : Int)) (.int .i64 (N : Int))).run Try.prog W = .ok (.slice (some ⟨W.heap.size, 0, none⟩) N N) (W.alloc (.cells (wcells (kW N 0)).toArray 40)) := by
  obtain ⟨i0, hi, hz0, hz1, hz2⟩ := info_parts info_wt
  have h := run_makeSlice (P := Try.prog) W 24 40 i0 _ Try.underlying24 hi hz0 .i64 .i64 (N : Int) (N : Int) (by omega) (Int.le_refl _) (by rw [hz1]; omega) (by rw [hz2]; omega) (by omega)
  rw [hz1] at h
  simp only [Int.toNat_natCast, Value.cells] at h
  rw [made_kW] at h
  exact h
theorem ne8 {N : Nat} {c : Cm} {v : Value} (h : 100 ≤ N) (i : Nat) (hi : i ≤ N) : (wcells (kW N i)).toArray ≠ #[.int .i64 c.kind, .int .i64 c.id, .int .i64 c.txn, .bool c.com, v, .string c.text] := fun e => by
  have := congrArg Array.size e
  simp [wcells_len, kW_len hi] at this
  omega
set_option maxRecDepth 100000 in
set_option maxHeartbeats 8000000 in
theorem right_sw8 {r0 r1 r2 r3 r4 rest : Code} (hc : Try.f5.body = some (.seq r0 (.seq r1 (.seq r2 (.seq r3 (.seq r4 rest)))))) (w : World) (s : ByteArray) (which vv form : Int) (ac : Act) (b9 : Nat) (V X : World) (ha : ac = ⟨#[ac.tmps.getD 0 undef, ac.tmps.getD 1 undef, ac.tmps.getD 2 undef, ac.tmps.getD 3 undef, ac.tmps.getD 4 undef, .string s, .int .i64 which, .int .i64 vv, .int .i64 form, .pointer (some ⟨b9, 0, none⟩), ac.tmps.getD 10 undef, ac.tmps.getD 11 undef, ac.tmps.getD 12 undef, ac.tmps.getD 13 undef, ac.tmps.getD 14 undef, ac.tmps.getD 15 undef, ac.tmps.getD 16 undef, ac.tmps.getD 17 undef, .bool false, .pointer (some ⟨V.heap.size, 0, none⟩), ac.tmps.getD 20 undef, ac.tmps.getD 21 undef, ac.tmps.getD 22 undef, ac.tmps.getD 23 undef, ac.tmps.getD 24 undef, ac.tmps.getD 25 undef, ac.tmps.getD 26 undef, ac.tmps.getD 27 undef, ac.tmps.getD 28 undef, ac.tmps.getD 29 undef, ac.tmps.getD 30 undef, ac.tmps.getD 31 undef, ac.tmps.getD 32 undef, ac.tmps.getD 33 undef, ac.tmps.getD 34 undef, ac.tmps.getD 35 undef, ac.tmps.getD 36 undef, ac.tmps.getD 37 undef, ac.tmps.getD 38 undef, ac.tmps.getD 39 undef, ac.tmps.getD 40 undef, ac.tmps.getD 41 undef, ac.tmps.getD 42 undef, ac.tmps.getD 43 undef, ac.tmps.getD 44 undef, ac.tmps.getD 45 undef, ac.tmps.getD 46 undef, ac.tmps.getD 47 undef, ac.tmps.getD 48 undef, ac.tmps.getD 49 undef, ac.tmps.getD 50 undef, ac.tmps.getD 51 undef, ac.tmps.getD 52 undef, ac.tmps.getD 53 undef, ac.tmps.getD 54 undef, ac.tmps.getD 55 undef, ac.tmps.getD 56 undef, ac.tmps.getD 57 undef, ac.tmps.getD 58 undef, ac.tmps.getD 59 undef, ac.tmps.getD 60 undef, ac.tmps.getD 61 undef, ac.tmps.getD 62 undef, ac.tmps.getD 63 undef, ac.tmps.getD 64 undef, ac.tmps.getD 65 undef, ac.tmps.getD 66 undef, ac.tmps.getD 67 undef, ac.tmps.getD 68 undef, ac.tmps.getD 69 undef, ac.tmps.getD 70 undef, ac.tmps.getD 71 undef, ac.tmps.getD 72 undef, ac.tmps.getD 73 undef, ac.tmps.getD 74 undef, ac.tmps.getD 75 undef, ac.tmps.getD 76 undef, ac.tmps.getD 77 undef, ac.tmps.getD 78 undef, ac.tmps.getD 79 undef, ac.tmps.getD 80 undef, ac.tmps.getD 81 undef, ac.tmps.getD 82 undef, ac.tmps.getD 83 undef, ac.tmps.getD 84 undef, ac.tmps.getD 85 undef, ac.tmps.getD 86 undef, ac.tmps.getD 87 undef, ac.tmps.getD 88 undef, ac.tmps.getD 89 undef, ac.tmps.getD 90 undef, ac.tmps.getD 91 undef, ac.tmps.getD 92 undef, ac.tmps.getD 93 undef, ac.tmps.getD 94 undef, ac.tmps.getD 95 undef, ac.tmps.getD 96 undef, ac.tmps.getD 97 undef, ac.tmps.getD 98 undef, ac.tmps.getD 99 undef, ac.tmps.getD 100 undef, ac.tmps.getD 101 undef, ac.tmps.getD 102 undef, ac.tmps.getD 103 undef, ac.tmps.getD 104 undef, ac.tmps.getD 105 undef, ac.tmps.getD 106 undef, ac.tmps.getD 107 undef, ac.tmps.getD 108 undef, ac.tmps.getD 109 undef, ac.tmps.getD 110 undef, ac.tmps.getD 111 undef, ac.tmps.getD 112 undef, ac.tmps.getD 113 undef, ac.tmps.getD 114 undef, ac.tmps.getD 115 undef, ac.tmps.getD 116 undef, ac.tmps.getD 117 undef, ac.tmps.getD 118 undef, ac.tmps.getD 119 undef, ac.tmps.getD 120 undef, ac.tmps.getD 121 undef, ac.tmps.getD 122 undef, ac.tmps.getD 123 undef, ac.tmps.getD 124 undef, ac.tmps.getD 125 undef, ac.tmps.getD 126 undef, ac.tmps.getD 127 undef, ac.tmps.getD 128 undef, ac.tmps.getD 129 undef, ac.tmps.getD 130 undef, ac.tmps.getD 131 undef, ac.tmps.getD 132 undef, ac.tmps.getD 133 undef, ac.tmps.getD 134 undef, ac.tmps.getD 135 undef, ac.tmps.getD 136 undef, ac.tmps.getD 137 undef, ac.tmps.getD 138 undef, ac.tmps.getD 139 undef, ac.tmps.getD 140 undef, ac.tmps.getD 141 undef, ac.tmps.getD 142 undef, ac.tmps.getD 143 undef, ac.tmps.getD 144 undef, ac.tmps.getD 145 undef, ac.tmps.getD 146 undef, ac.tmps.getD 147 undef, ac.tmps.getD 148 undef, ac.tmps.getD 149 undef, ac.tmps.getD 150 undef, ac.tmps.getD 151 undef, ac.tmps.getD 152 undef, ac.tmps.getD 153 undef, ac.tmps.getD 154 undef, ac.tmps.getD 155 undef, ac.tmps.getD 156 undef, ac.tmps.getD 157 undef, ac.tmps.getD 158 undef, ac.tmps.getD 159 undef, ac.tmps.getD 160 undef, ac.tmps.getD 161 undef, ac.tmps.getD 162 undef, ac.tmps.getD 163 undef, ac.tmps.getD 164 undef, ac.tmps.getD 165 undef, ac.tmps.getD 166 undef, ac.tmps.getD 167 undef, ac.tmps.getD 168 undef, ac.tmps.getD 169 undef, ac.tmps.getD 170 undef, ac.tmps.getD 171 undef, ac.tmps.getD 172 undef, ac.tmps.getD 173 undef, ac.tmps.getD 174 undef, ac.tmps.getD 175 undef, ac.tmps.getD 176 undef, ac.tmps.getD 177 undef, ac.tmps.getD 178 undef, ac.tmps.getD 179 undef, ac.tmps.getD 180 undef, ac.tmps.getD 181 undef, ac.tmps.getD 182 undef, ac.tmps.getD 183 undef, ac.tmps.getD 184 undef, ac.tmps.getD 185 undef, ac.tmps.getD 186 undef, ac.tmps.getD 187 undef, ac.tmps.getD 188 undef, ac.tmps.getD 189 undef, ac.tmps.getD 190 undef, ac.tmps.getD 191 undef, ac.tmps.getD 192 undef, ac.tmps.getD 193 undef, ac.tmps.getD 194 undef, ac.tmps.getD 195 undef, ac.tmps.getD 196 undef], []⟩) (c d : Cm) (q q2 : Option Addr) (cap cap2 : Nat) (g : GoodC c) (HC : Hid (Blk V.heap.size #[.int .i64 c.kind, .int .i64 c.id, .int .i64 c.txn, .bool c.com, .slice q c.ws.length cap, .string c.text] 26 X)) (HD : Hid (Blk b9 #[.int .i64 d.kind, .int .i64 d.id, .int .i64 d.txn, .bool d.com, .slice q2 d.ws.length cap2, .string d.text] 26 V)) (HW : Hid (WsV q c.ws V)) (HV : Hid (WsV q2 d.ws V)) (HBV : Hid (Below V.heap.size V X)) (HB : Hid (Below w.heap.size w V)) (kw : Is64 which) (kv : Is64 vv) (hs : s.size ≤ 60) (K : Act → World → Prop) (Q : Exit → Act → World → Prop) (hK : Hid (After K w form b9 V d q2 cap2)) (hj : which % 9 = 8) : r4.wp Try.prog (Exit.then K Q) ac X := by
  obtain ⟨u, rfl⟩ : ∃ u : Nat → Value, ac = ⟨#[u 0, u 1, u 2, u 3, u 4, .string s, .int .i64 which, .int .i64 vv, .int .i64 form, .pointer (some ⟨b9, 0, none⟩), u 10, u 11, u 12, u 13, u 14, u 15, u 16, u 17, .bool false, .pointer (some ⟨V.heap.size, 0, none⟩), u 20, u 21, u 22, u 23, u 24, u 25, u 26, u 27, u 28, u 29, u 30, u 31, u 32, u 33, u 34, u 35, u 36, u 37, u 38, u 39, u 40, u 41, u 42, u 43, u 44, u 45, u 46, u 47, u 48, u 49, u 50, u 51, u 52, u 53, u 54, u 55, u 56, u 57, u 58, u 59, u 60, u 61, u 62, u 63, u 64, u 65, u 66, u 67, u 68, u 69, u 70, u 71, u 72, u 73, u 74, u 75, u 76, u 77, u 78, u 79, u 80, u 81, u 82, u 83, u 84, u 85, u 86, u 87, u 88, u 89, u 90, u 91, u 92, u 93, u 94, u 95, u 96, u 97, u 98, u 99, u 100, u 101, u 102, u 103, u 104, u 105, u 106, u 107, u 108, u 109, u 110, u 111, u 112, u 113, u 114, u 115, u 116, u 117, u 118, u 119, u 120, u 121, u 122, u 123, u 124, u 125, u 126, u 127, u 128, u 129, u 130, u 131, u 132, u 133, u 134, u 135, u 136, u 137, u 138, u 139, u 140, u 141, u 142, u 143, u 144, u 145, u 146, u 147, u 148, u 149, u 150, u 151, u 152, u 153, u 154, u 155, u 156, u 157, u 158, u 159, u 160, u 161, u 162, u 163, u 164, u 165, u 166, u 167, u 168, u 169, u 170, u 171, u 172, u 173, u 174, u 175, u 176, u 177, u 178, u 179, u 180, u 181, u 182, u 183, u 184, u 185, u 186, u 187, u 188, u 189, u 190, u 191, u 192, u 193, u 194, u 195, u 196], []⟩ := ⟨fun i => ac.tmps.getD i undef, ha⟩
  clear ha
  unfold Try.f5 at hc
  cases hc
  have WJ := hide (fun W => within7_at kw (by decide) hj W)
  clear hj
  have k1_ := unhide HC
  have lc := k1_.lt
  have x0_ := k1_.cell 0
  have xf0_ := k1_.froz 0
  have x1_ := k1_.cell 1
  have xf1_ := k1_.froz 1
  have x2_ := k1_.cell 2
  have xf2_ := k1_.froz 2
  have x3_ := k1_.cell 3
  have xf3_ := k1_.froz 3
  have x4_ := k1_.cell 4
  have xf4_ := k1_.froz 4
  have x5_ := k1_.cell 5
  have xf5_ := k1_.froz 5
  simp at x0_ x1_ x2_ x3_ x4_ x5_
  obtain ⟨jj, hjj⟩ : ∃ j : Nat, vv % 10 = (j : Int) := ⟨(vv % 10).toNat, by omega⟩
  have hj10 : jj < 10 := by omega
  have WV := hide (fun W => within7_at kv (by decide) hjj W)
  have hw1 : IntKind.i64.wrap (995 + (jj : Int)) = ((995 + jj : Nat) : Int) := (IntWalk.i64_in _ (by omega)).trans (by omega)
  obtain ⟨N, hN⟩ : ∃ N : Nat, N = 995 + jj := ⟨_, rfl⟩
  have hNi : 995 + (jj : Int) = (N : Int) := by omega
  have hN1 : 100 ≤ N := by omega
  have hN2 : N ≤ 2000 := by omega
  have MK := fun W => run_make8 N (by omega) W
  have hz1 : (X.setCell ⟨V.heap.size, 4, none⟩ (.slice (some ⟨X.heap.size, 0, none⟩) N N)).heap.size = X.heap.size := by simp [World.setCell]
  have hE0 := Blk.new (X.setCell ⟨V.heap.size, 4, none⟩ (.slice (some ⟨X.heap.size, 0, none⟩) N N)) (wcells (kW N 0)).toArray 40
  rw [hz1] at hE0
  have HE := hide hE0
  have HC2 : Hid (Blk V.heap.size #[.int .i64 c.kind, .int .i64 c.id, .int .i64 c.txn, .bool c.com, (.slice (some ⟨X.heap.size, 0, none⟩) N N), .string c.text] 26 ((X.setCell ⟨V.heap.size, 4, none⟩ (.slice (some ⟨X.heap.size, 0, none⟩) N N)).alloc (.cells (wcells (kW N 0)).toArray 40))) := hide ((k1_.set 4 (.slice (some ⟨X.heap.size, 0, none⟩) N N)).below (below_new _ _))
  have HBX := hide ((((unhide HBV).setCell (p := ⟨V.heap.size, 4, none⟩) (Nat.le_refl _) (.slice (some ⟨X.heap.size, 0, none⟩) N N))).alloc (by rw [hz1]; omega) (.cells (wcells (kW N 0)).toArray 40))
  have f := g.fineW
  have hF : Hid (FineW ⟨c.kind, c.id, c.txn, c.com, kW N N, c.text⟩) := hide ⟨f.kind, f.id, f.txn, by show (kW N N).length ≤ _; rw [kW_len (Nat.le_refl _)]; omega, fun x hx => by
    have hx2 : x ∈ List.replicate N (⟨⟨#[107]⟩, ⟨#[]⟩, false⟩ : Wt) ++ List.replicate (N - N) ⟨⟨#[]⟩, ⟨#[]⟩, false⟩ := hx
    rw [Nat.sub_self] at hx2
    simp at hx2
    obtain ⟨_, rfl⟩ := hx2
    decide, f.text⟩
  clear hjj f g hE0 hz1 hN
  go_wp2_with (first | (go_at_call_of 15 (Value.int IntKind.i64 which); refine (unhide WJ _).mono ?_; rintro e X2 ⟨rfl, hX2⟩; replace hX2 := hX2.symm; subst hX2) | (go_at_call 15; refine (unhide WV _).mono ?_; rintro e X2 ⟨rfl, hX2⟩; replace hX2 := hX2.symm; subst hX2))
  have hlt := (unhide HE).lt
  generalize (X.setCell ⟨V.heap.size, 4, none⟩ (.slice (some ⟨X.heap.size, 0, none⟩) N N)).alloc (.cells (wcells (kW N 0)).toArray 40) = X0 at *
  clear MK x0_ x1_ x2_ x3_ x4_ x5_ xf0_ xf1_ xf2_ xf3_ xf4_ xf5_ k1_ HC
  go_loopw [22] (fun i wr => ∃ n : Nat, n ≤ N ∧ i = .int .i64 (n : Int) ∧ Hid (Blk X.heap.size (wcells (kW N n)).toArray 40 wr) ∧ Hid (Blk V.heap.size #[.int .i64 c.kind, .int .i64 c.id, .int .i64 c.txn, .bool c.com, (.slice (some ⟨X.heap.size, 0, none⟩) N N), .string c.text] 26 wr) ∧ Hid (Below V.heap.size V wr)) (fun i wr => N - (intOf i).toNat)
  case atStart => exact ⟨0, Nat.zero_le _, rfl, HE, HC2, HBX⟩
  case round =>
    obtain ⟨n, hn, rfl, hE, hC, hB⟩ := hrel
    have k1_ := unhide hC
    have lc1 := k1_.lt
    have x4_ := k1_.cell 4
    have xf4_ := k1_.froz 4
    simp at x4_
    have hlR := (unhide hE).lt
    by_cases hlt2 : n < N
    · have hn1 : IntKind.i64.wrap ((n : Int) + 1) = ((n + 1 : Nat) : Int) := (IntWalk.i64_in _ (by omega)).trans (by omega)
      have hsz : n * 3 < (wcells (kW N n)).toArray.size := by simp [wcells_len, kW_len hn]; omega
      have c0_ : wr.cell? ⟨X.heap.size, n * 3, none⟩ = some ((wcells (kW N n)).toArray[n * 3]'hsz) := ((unhide hE).cell (n * 3)).trans (Array.getElem?_eq_getElem hsz)
      have cf0_ := (unhide hE).froz (n * 3)
      have hE2 := hide (kW_set hlt2 ▸ (unhide hE).set (n * 3) (.string ⟨#[107]⟩))
      have hC2 := hide (blk_far1 (b := X.heap.size) (j := n * 3) (x := .string ⟨#[107]⟩) k1_ (by omega))
      have hB2 := hide ((unhide hB).setCell (p := ⟨X.heap.size, n * 3, none⟩) (Nat.le_of_lt lc) (.string ⟨#[107]⟩))
      go_wp2
      exact ⟨⟨n + 1, by omega, by simp, hE2, hC2, hB2⟩, by simp [intOf]; omega⟩
    · obtain rfl : n = N := by omega
      have HS2 : Hid (Blk V.heap.size #[.int .i64 c.kind, .int .i64 c.id, .int .i64 c.txn, .bool c.com, (.slice (some ⟨X.heap.size, 0, none⟩) (kW n n).length n), .string c.text] 26 wr) := by
        show Blk _ _ _ _
        rw [kW_len (Nat.le_refl n)]
        exact k1_
      have HR := hide (kW_row (unhide hE) (by omega))
      go_wp2
      exact unhide hK _ ⟨c.kind, c.id, c.txn, c.com, kW n n, c.text⟩ (some ⟨X.heap.size, 0, none⟩) n _ (by kernel_rfl) HS2 (hide ((unhide HD).below (unhide hB))) HR (hide ((unhide HV).below (unhide hB))) hF (hide (Below.onto (unhide HB) (unhide hB)))
end Go.Proofs.Ytjmmfgmmmdbenaa

namespace Go.Proofs.Ytjmmfgmmmdbenaa
open Go.RowKit
set_option linter.unusedSimpArgs false
set_option linter.unusedVariables false

set_option maxRecDepth 100000 in
set_option maxHeartbeats 8000000 in
theorem right_long_s (d : Cm) (q2 : Option Addr) (cap2 : Nat) (a1 a2 a3 : Int) (v4 : Value) (s : ByteArray) (which vv form : Int) (w : World) (hs : (60 : Int) < s.size) : Calls Try.prog 5 #[.agg #[.int .i64 d.kind, .int .i64 d.id, .int .i64 d.txn, .bool d.com, .slice q2 d.ws.length cap2, .string d.text], .int .i64 a1, .int .i64 a2, .int .i64 a3, v4, .string s, .int .i64 which, .int .i64 vv, .int .i64 form] w fun e w' => e = .returned (.bool true) ∧ Below w.heap.size w w' := by
  have hb0 := below_new w (.cells #[.int .i64 d.kind, .int .i64 d.id, .int .i64 d.txn, .bool d.com, .slice q2 d.ws.length cap2, .string d.text] 26)
  have hE := Blk.new w #[.int .i64 d.kind, .int .i64 d.id, .int .i64 d.txn, .bool d.com, .slice q2 d.ws.length cap2, .string d.text] 26
  go_enter Try.func5, Try.ntmps5
  go_wp2_with (go_at_call 13; refine (known7_any _).mono ?_; rintro e W1 ⟨rfl, hb1⟩; have hE1 := hE.below hb1; have el := hE1.lt; have e4_ := hE1.cell 4; have e5_ := hE1.cell 5; have ef4_ := hE1.froz 4; have ef5_ := hE1.froz 5; simp at e4_ e5_)
  go_ret
  exact ⟨rfl, Below.onto hb0 hb1⟩
set_option maxRecDepth 100000 in
set_option maxHeartbeats 8000000 in
theorem right_long_t (d : Cm) (q2 : Option Addr) (cap2 : Nat) (a1 a2 a3 : Int) (v4 : Value) (s : ByteArray) (which vv form : Int) (w : World) (hs : (s.size : Int) ≤ 60) (ht : (100 : Int) < d.text.size) : Calls Try.prog 5 #[.agg #[.int .i64 d.kind, .int .i64 d.id, .int .i64 d.txn, .bool d.com, .slice q2 d.ws.length cap2, .string d.text], .int .i64 a1, .int .i64 a2, .int .i64 a3, v4, .string s, .int .i64 which, .int .i64 vv, .int .i64 form] w fun e w' => e = .returned (.bool true) ∧ Below w.heap.size w w' := by
  have hb0 := below_new w (.cells #[.int .i64 d.kind, .int .i64 d.id, .int .i64 d.txn, .bool d.com, .slice q2 d.ws.length cap2, .string d.text] 26)
  have hE := Blk.new w #[.int .i64 d.kind, .int .i64 d.id, .int .i64 d.txn, .bool d.com, .slice q2 d.ws.length cap2, .string d.text] 26
  go_enter Try.func5, Try.ntmps5
  go_wp2_with (go_at_call 13; refine (known7_any _).mono ?_; rintro e W1 ⟨rfl, hb1⟩; have hE1 := hE.below hb1; have el := hE1.lt; have e4_ := hE1.cell 4; have e5_ := hE1.cell 5; have ef4_ := hE1.froz 4; have ef5_ := hE1.froz 5; simp at e4_ e5_)
  go_ret
  exact ⟨rfl, Below.onto hb0 hb1⟩
set_option maxRecDepth 100000 in
set_option maxHeartbeats 8000000 in
theorem right_long_w (d : Cm) (q2 : Option Addr) (cap2 : Nat) (a1 a2 a3 : Int) (v4 : Value) (s : ByteArray) (which vv form : Int) (w : World) (hs : (s.size : Int) ≤ 60) (ht : (d.text.size : Int) ≤ 100) (hw : (50 : Int) < d.ws.length) : Calls Try.prog 5 #[.agg #[.int .i64 d.kind, .int .i64 d.id, .int .i64 d.txn, .bool d.com, .slice q2 d.ws.length cap2, .string d.text], .int .i64 a1, .int .i64 a2, .int .i64 a3, v4, .string s, .int .i64 which, .int .i64 vv, .int .i64 form] w fun e w' => e = .returned (.bool true) ∧ Below w.heap.size w w' := by
  have hb0 := below_new w (.cells #[.int .i64 d.kind, .int .i64 d.id, .int .i64 d.txn, .bool d.com, .slice q2 d.ws.length cap2, .string d.text] 26)
  have hE := Blk.new w #[.int .i64 d.kind, .int .i64 d.id, .int .i64 d.txn, .bool d.com, .slice q2 d.ws.length cap2, .string d.text] 26
  go_enter Try.func5, Try.ntmps5
  go_wp2_with (go_at_call 13; refine (known7_any _).mono ?_; rintro e W1 ⟨rfl, hb1⟩; have hE1 := hE.below hb1; have el := hE1.lt; have e4_ := hE1.cell 4; have e5_ := hE1.cell 5; have ef4_ := hE1.froz 4; have ef5_ := hE1.froz 5; simp at e4_ e5_)
  go_ret
  exact ⟨rfl, Below.onto hb0 hb1⟩
set_option maxRecDepth 100000 in
set_option maxHeartbeats 8000000 in
theorem right_front {r0 r1 r2 r3 r4 rest : Code} (hc : Try.f5.body = some (.seq r0 (.seq r1 (.seq r2 (.seq r3 (.seq r4 rest)))))) (SW : Code) (d : Cm) (q2 : Option Addr) (cap2 : Nat) (a1 a2 a3 : Int) (v4 : Value) (s : ByteArray) (which vv form : Int) (w : World) (c : Cm) (MK : Hid (Mk7 a1 a2 a3 v4 s w c)) (HV0 : Hid (WsV q2 d.ws w)) (hs : (s.size : Int) ≤ 60) (ht : (d.text.size : Int) ≤ 100) (hw : (d.ws.length : Int) ≤ 50)
    (hK : Hid (∀ (ac : Act) (q : Option Addr) (cap : Nat) (V X : World), ac = ⟨#[ac.tmps.getD 0 undef, ac.tmps.getD 1 undef, ac.tmps.getD 2 undef, ac.tmps.getD 3 undef, ac.tmps.getD 4 undef, .string s, .int .i64 which, .int .i64 vv, .int .i64 form, .pointer (some ⟨w.heap.size, 0, none⟩), ac.tmps.getD 10 undef, ac.tmps.getD 11 undef, ac.tmps.getD 12 undef, ac.tmps.getD 13 undef, ac.tmps.getD 14 undef, ac.tmps.getD 15 undef, ac.tmps.getD 16 undef, ac.tmps.getD 17 undef, .bool false, .pointer (some ⟨V.heap.size, 0, none⟩), ac.tmps.getD 20 undef, ac.tmps.getD 21 undef, ac.tmps.getD 22 undef, ac.tmps.getD 23 undef, ac.tmps.getD 24 undef, ac.tmps.getD 25 undef, ac.tmps.getD 26 undef, ac.tmps.getD 27 undef, ac.tmps.getD 28 undef, ac.tmps.getD 29 undef, ac.tmps.getD 30 undef, ac.tmps.getD 31 undef, ac.tmps.getD 32 undef, ac.tmps.getD 33 undef, ac.tmps.getD 34 undef, ac.tmps.getD 35 undef, ac.tmps.getD 36 undef, ac.tmps.getD 37 undef, ac.tmps.getD 38 undef, ac.tmps.getD 39 undef, ac.tmps.getD 40 undef, ac.tmps.getD 41 undef, ac.tmps.getD 42 undef, ac.tmps.getD 43 undef, ac.tmps.getD 44 undef, ac.tmps.getD 45 undef, ac.tmps.getD 46 undef, ac.tmps.getD 47 undef, ac.tmps.getD 48 undef, ac.tmps.getD 49 undef, ac.tmps.getD 50 undef, ac.tmps.getD 51 undef, ac.tmps.getD 52 undef, ac.tmps.getD 53 undef, ac.tmps.getD 54 undef, ac.tmps.getD 55 undef, ac.tmps.getD 56 undef, ac.tmps.getD 57 undef, ac.tmps.getD 58 undef, ac.tmps.getD 59 undef, ac.tmps.getD 60 undef, ac.tmps.getD 61 undef, ac.tmps.getD 62 undef, ac.tmps.getD 63 undef, ac.tmps.getD 64 undef, ac.tmps.getD 65 undef, ac.tmps.getD 66 undef, ac.tmps.getD 67 undef, ac.tmps.getD 68 undef, ac.tmps.getD 69 undef, ac.tmps.getD 70 undef, ac.tmps.getD 71 undef, ac.tmps.getD 72 undef, ac.tmps.getD 73 undef, ac.tmps.getD 74 undef, ac.tmps.getD 75 undef, ac.tmps.getD 76 undef, ac.tmps.getD 77 undef, ac.tmps.getD 78 undef, ac.tmps.getD 79 undef, ac.tmps.getD 80 undef, ac.tmps.getD 81 undef, ac.tmps.getD 82 undef, ac.tmps.getD 83 undef, ac.tmps.getD 84 undef, ac.tmps.getD 85 undef, ac.tmps.getD 86 undef, ac.tmps.getD 87 undef, ac.tmps.getD 88 undef, ac.tmps.getD 89 undef, ac.tmps.getD 90 undef, ac.tmps.getD 91 undef, ac.tmps.getD 92 undef, ac.tmps.getD 93 undef, ac.tmps.getD 94 undef, ac.tmps.getD 95 undef, ac.tmps.getD 96 undef, ac.tmps.getD 97 undef, ac.tmps.getD 98 undef, ac.tmps.getD 99 undef, ac.tmps.getD 100 undef, ac.tmps.getD 101 undef, ac.tmps.getD 102 undef, ac.tmps.getD 103 undef, ac.tmps.getD 104 undef, ac.tmps.getD 105 undef, ac.tmps.getD 106 undef, ac.tmps.getD 107 undef, ac.tmps.getD 108 undef, ac.tmps.getD 109 undef, ac.tmps.getD 110 undef, ac.tmps.getD 111 undef, ac.tmps.getD 112 undef, ac.tmps.getD 113 undef, ac.tmps.getD 114 undef, ac.tmps.getD 115 undef, ac.tmps.getD 116 undef, ac.tmps.getD 117 undef, ac.tmps.getD 118 undef, ac.tmps.getD 119 undef, ac.tmps.getD 120 undef, ac.tmps.getD 121 undef, ac.tmps.getD 122 undef, ac.tmps.getD 123 undef, ac.tmps.getD 124 undef, ac.tmps.getD 125 undef, ac.tmps.getD 126 undef, ac.tmps.getD 127 undef, ac.tmps.getD 128 undef, ac.tmps.getD 129 undef, ac.tmps.getD 130 undef, ac.tmps.getD 131 undef, ac.tmps.getD 132 undef, ac.tmps.getD 133 undef, ac.tmps.getD 134 undef, ac.tmps.getD 135 undef, ac.tmps.getD 136 undef, ac.tmps.getD 137 undef, ac.tmps.getD 138 undef, ac.tmps.getD 139 undef, ac.tmps.getD 140 undef, ac.tmps.getD 141 undef, ac.tmps.getD 142 undef, ac.tmps.getD 143 undef, ac.tmps.getD 144 undef, ac.tmps.getD 145 undef, ac.tmps.getD 146 undef, ac.tmps.getD 147 undef, ac.tmps.getD 148 undef, ac.tmps.getD 149 undef, ac.tmps.getD 150 undef, ac.tmps.getD 151 undef, ac.tmps.getD 152 undef, ac.tmps.getD 153 undef, ac.tmps.getD 154 undef, ac.tmps.getD 155 undef, ac.tmps.getD 156 undef, ac.tmps.getD 157 undef, ac.tmps.getD 158 undef, ac.tmps.getD 159 undef, ac.tmps.getD 160 undef, ac.tmps.getD 161 undef, ac.tmps.getD 162 undef, ac.tmps.getD 163 undef, ac.tmps.getD 164 undef, ac.tmps.getD 165 undef, ac.tmps.getD 166 undef, ac.tmps.getD 167 undef, ac.tmps.getD 168 undef, ac.tmps.getD 169 undef, ac.tmps.getD 170 undef, ac.tmps.getD 171 undef, ac.tmps.getD 172 undef, ac.tmps.getD 173 undef, ac.tmps.getD 174 undef, ac.tmps.getD 175 undef, ac.tmps.getD 176 undef, ac.tmps.getD 177 undef, ac.tmps.getD 178 undef, ac.tmps.getD 179 undef, ac.tmps.getD 180 undef, ac.tmps.getD 181 undef, ac.tmps.getD 182 undef, ac.tmps.getD 183 undef, ac.tmps.getD 184 undef, ac.tmps.getD 185 undef, ac.tmps.getD 186 undef, ac.tmps.getD 187 undef, ac.tmps.getD 188 undef, ac.tmps.getD 189 undef, ac.tmps.getD 190 undef, ac.tmps.getD 191 undef, ac.tmps.getD 192 undef, ac.tmps.getD 193 undef, ac.tmps.getD 194 undef, ac.tmps.getD 195 undef, ac.tmps.getD 196 undef], []⟩ → Hid (Blk V.heap.size #[.int .i64 c.kind, .int .i64 c.id, .int .i64 c.txn, .bool c.com, .slice q c.ws.length cap, .string c.text] 26 X) → Hid (Blk w.heap.size #[.int .i64 d.kind, .int .i64 d.id, .int .i64 d.txn, .bool d.com, .slice q2 d.ws.length cap2, .string d.text] 26 V) → Hid (WsV q c.ws V) → Hid (WsV q2 d.ws V) → Hid (Below V.heap.size V X) → Hid (Below w.heap.size w V) → SW.wp Try.prog (bodyPost Try.prog Try.f5 (fun e w' => e = .returned (.bool true) ∧ Below w.heap.size w w')) ac X)) :
    (Code.seq r0 (.seq r1 (.seq r2 (.seq r3 SW)))).wp Try.prog (bodyPost Try.prog Try.f5 (fun e w' => e = .returned (.bool true) ∧ Below w.heap.size w w')) ⟨#[.agg #[.int .i64 d.kind, .int .i64 d.id, .int .i64 d.txn, .bool d.com, .slice q2 d.ws.length cap2, .string d.text], .int .i64 a1, .int .i64 a2, .int .i64 a3, v4, .string s, .int .i64 which, .int .i64 vv, .int .i64 form, undef, undef, undef, undef, undef, undef, undef, undef, undef, undef, undef, undef, undef, undef, undef, undef, undef, undef, undef, undef, undef, undef, undef, undef, undef, undef, undef, undef, undef, undef, undef, undef, undef, undef, undef, undef, undef, undef, undef, undef, undef, undef, undef, undef, undef, undef, undef, undef, undef, undef, undef, undef, undef, undef, undef, undef, undef, undef, undef, undef, undef, undef, undef, undef, undef, undef, undef, undef, undef, undef, undef, undef, undef, undef, undef, undef, undef, undef, undef, undef, undef, undef, undef, undef, undef, undef, undef, undef, undef, undef, undef, undef, undef, undef, undef, undef, undef, undef, undef, undef, undef, undef, undef, undef, undef, undef, undef, undef, undef, undef, undef, undef, undef, undef, undef, undef, undef, undef, undef, undef, undef, undef, undef, undef, undef, undef, undef, undef, undef, undef, undef, undef, undef, undef, undef, undef, undef, undef, undef, undef, undef, undef, undef, undef, undef, undef, undef, undef, undef, undef, undef, undef, undef, undef, undef, undef, undef, undef, undef, undef, undef, undef, undef, undef, undef, undef, undef, undef, undef, undef, undef, undef, undef, undef, undef, undef, undef, undef, undef, undef, undef, undef, undef, undef, undef, undef, undef, undef], []⟩ w := by
  unfold Try.f5 at hc
  cases hc
  have hb0 := below_new w (.cells #[.int .i64 d.kind, .int .i64 d.id, .int .i64 d.txn, .bool d.com, .slice q2 d.ws.length cap2, .string d.text] 26)
  have hE := Blk.new w #[.int .i64 d.kind, .int .i64 d.id, .int .i64 d.txn, .bool d.com, .slice q2 d.ws.length cap2, .string d.text] 26
  go_wp2_with (first | (go_at_call 13; refine (known7_any _).mono ?_; rintro e W1 ⟨rfl, hb1⟩; have hE1 := hE.below hb1; have el := hE1.lt; have e4_ := hE1.cell 4; have e5_ := hE1.cell 5; have ef4_ := hE1.froz 4; have ef5_ := hE1.froz 5; simp at e4_ e5_) | (go_at_call 14; refine (unhide MK _ (Below.onto hb0 hb1)).mono ?_; rintro e W2 ⟨q, cap, rfl, hws, hb2⟩; clear e4_ e5_ ef4_ ef5_ el))
  have hB2 := Below.onto (Below.onto hb0 hb1) hb2
  exact unhide hK _ q cap W2 _ (by kernel_rfl) (hide (Blk.new W2 #[.int .i64 c.kind, .int .i64 c.id, .int .i64 c.txn, .bool c.com, .slice q c.ws.length cap, .string c.text] 26)) (hide (hE1.below hb2)) (hide hws) (hide ((unhide HV0).below hB2)) (hide (below_new W2 _)) (hide hB2)
end Go.Proofs.Ytjmmfgmmmdbenaa

namespace Go.Proofs.Ytjmmfgmmmdbenaa
open Go.RowKit
set_option linter.unusedSimpArgs false
set_option linter.unusedVariables false

set_option maxRecDepth 100000 in
set_option maxHeartbeats 8000000 in
theorem right_sw5 {r0 r1 r2 r3 r4 rest : Code} (hc : Try.f5.body = some (.seq r0 (.seq r1 (.seq r2 (.seq r3 (.seq r4 rest)))))) (w : World) (s : ByteArray) (which vv form : Int) (ac : Act) (b9 : Nat) (V X : World) (ha : ac = ⟨#[ac.tmps.getD 0 undef, ac.tmps.getD 1 undef, ac.tmps.getD 2 undef, ac.tmps.getD 3 undef, ac.tmps.getD 4 undef, .string s, .int .i64 which, .int .i64 vv, .int .i64 form, .pointer (some ⟨b9, 0, none⟩), ac.tmps.getD 10 undef, ac.tmps.getD 11 undef, ac.tmps.getD 12 undef, ac.tmps.getD 13 undef, ac.tmps.getD 14 undef, ac.tmps.getD 15 undef, ac.tmps.getD 16 undef, ac.tmps.getD 17 undef, .bool false, .pointer (some ⟨V.heap.size, 0, none⟩), ac.tmps.getD 20 undef, ac.tmps.getD 21 undef, ac.tmps.getD 22 undef, ac.tmps.getD 23 undef, ac.tmps.getD 24 undef, ac.tmps.getD 25 undef, ac.tmps.getD 26 undef, ac.tmps.getD 27 undef, ac.tmps.getD 28 undef, ac.tmps.getD 29 undef, ac.tmps.getD 30 undef, ac.tmps.getD 31 undef, ac.tmps.getD 32 undef, ac.tmps.getD 33 undef, ac.tmps.getD 34 undef, ac.tmps.getD 35 undef, ac.tmps.getD 36 undef, ac.tmps.getD 37 undef, ac.tmps.getD 38 undef, ac.tmps.getD 39 undef, ac.tmps.getD 40 undef, ac.tmps.getD 41 undef, ac.tmps.getD 42 undef, ac.tmps.getD 43 undef, ac.tmps.getD 44 undef, ac.tmps.getD 45 undef, ac.tmps.getD 46 undef, ac.tmps.getD 47 undef, ac.tmps.getD 48 undef, ac.tmps.getD 49 undef, ac.tmps.getD 50 undef, ac.tmps.getD 51 undef, ac.tmps.getD 52 undef, ac.tmps.getD 53 undef, ac.tmps.getD 54 undef, ac.tmps.getD 55 undef, ac.tmps.getD 56 undef, ac.tmps.getD 57 undef, ac.tmps.getD 58 undef, ac.tmps.getD 59 undef, ac.tmps.getD 60 undef, ac.tmps.getD 61 undef, ac.tmps.getD 62 undef, ac.tmps.getD 63 undef, ac.tmps.getD 64 undef, ac.tmps.getD 65 undef, ac.tmps.getD 66 undef, ac.tmps.getD 67 undef, ac.tmps.getD 68 undef, ac.tmps.getD 69 undef, ac.tmps.getD 70 undef, ac.tmps.getD 71 undef, ac.tmps.getD 72 undef, ac.tmps.getD 73 undef, ac.tmps.getD 74 undef, ac.tmps.getD 75 undef, ac.tmps.getD 76 undef, ac.tmps.getD 77 undef, ac.tmps.getD 78 undef, ac.tmps.getD 79 undef, ac.tmps.getD 80 undef, ac.tmps.getD 81 undef, ac.tmps.getD 82 undef, ac.tmps.getD 83 undef, ac.tmps.getD 84 undef, ac.tmps.getD 85 undef, ac.tmps.getD 86 undef, ac.tmps.getD 87 undef, ac.tmps.getD 88 undef, ac.tmps.getD 89 undef, ac.tmps.getD 90 undef, ac.tmps.getD 91 undef, ac.tmps.getD 92 undef, ac.tmps.getD 93 undef, ac.tmps.getD 94 undef, ac.tmps.getD 95 undef, ac.tmps.getD 96 undef, ac.tmps.getD 97 undef, ac.tmps.getD 98 undef, ac.tmps.getD 99 undef, ac.tmps.getD 100 undef, ac.tmps.getD 101 undef, ac.tmps.getD 102 undef, ac.tmps.getD 103 undef, ac.tmps.getD 104 undef, ac.tmps.getD 105 undef, ac.tmps.getD 106 undef, ac.tmps.getD 107 undef, ac.tmps.getD 108 undef, ac.tmps.getD 109 undef, ac.tmps.getD 110 undef, ac.tmps.getD 111 undef, ac.tmps.getD 112 undef, ac.tmps.getD 113 undef, ac.tmps.getD 114 undef, ac.tmps.getD 115 undef, ac.tmps.getD 116 undef, ac.tmps.getD 117 undef, ac.tmps.getD 118 undef, ac.tmps.getD 119 undef, ac.tmps.getD 120 undef, ac.tmps.getD 121 undef, ac.tmps.getD 122 undef, ac.tmps.getD 123 undef, ac.tmps.getD 124 undef, ac.tmps.getD 125 undef, ac.tmps.getD 126 undef, ac.tmps.getD 127 undef, ac.tmps.getD 128 undef, ac.tmps.getD 129 undef, ac.tmps.getD 130 undef, ac.tmps.getD 131 undef, ac.tmps.getD 132 undef, ac.tmps.getD 133 undef, ac.tmps.getD 134 undef, ac.tmps.getD 135 undef, ac.tmps.getD 136 undef, ac.tmps.getD 137 undef, ac.tmps.getD 138 undef, ac.tmps.getD 139 undef, ac.tmps.getD 140 undef, ac.tmps.getD 141 undef, ac.tmps.getD 142 undef, ac.tmps.getD 143 undef, ac.tmps.getD 144 undef, ac.tmps.getD 145 undef, ac.tmps.getD 146 undef, ac.tmps.getD 147 undef, ac.tmps.getD 148 undef, ac.tmps.getD 149 undef, ac.tmps.getD 150 undef, ac.tmps.getD 151 undef, ac.tmps.getD 152 undef, ac.tmps.getD 153 undef, ac.tmps.getD 154 undef, ac.tmps.getD 155 undef, ac.tmps.getD 156 undef, ac.tmps.getD 157 undef, ac.tmps.getD 158 undef, ac.tmps.getD 159 undef, ac.tmps.getD 160 undef, ac.tmps.getD 161 undef, ac.tmps.getD 162 undef, ac.tmps.getD 163 undef, ac.tmps.getD 164 undef, ac.tmps.getD 165 undef, ac.tmps.getD 166 undef, ac.tmps.getD 167 undef, ac.tmps.getD 168 undef, ac.tmps.getD 169 undef, ac.tmps.getD 170 undef, ac.tmps.getD 171 undef, ac.tmps.getD 172 undef, ac.tmps.getD 173 undef, ac.tmps.getD 174 undef, ac.tmps.getD 175 undef, ac.tmps.getD 176 undef, ac.tmps.getD 177 undef, ac.tmps.getD 178 undef, ac.tmps.getD 179 undef, ac.tmps.getD 180 undef, ac.tmps.getD 181 undef, ac.tmps.getD 182 undef, ac.tmps.getD 183 undef, ac.tmps.getD 184 undef, ac.tmps.getD 185 undef, ac.tmps.getD 186 undef, ac.tmps.getD 187 undef, ac.tmps.getD 188 undef, ac.tmps.getD 189 undef, ac.tmps.getD 190 undef, ac.tmps.getD 191 undef, ac.tmps.getD 192 undef, ac.tmps.getD 193 undef, ac.tmps.getD 194 undef, ac.tmps.getD 195 undef, ac.tmps.getD 196 undef], []⟩) (c d : Cm) (q q2 : Option Addr) (cap cap2 : Nat) (g : GoodC c) (HC : Hid (Blk V.heap.size #[.int .i64 c.kind, .int .i64 c.id, .int .i64 c.txn, .bool c.com, .slice q c.ws.length cap, .string c.text] 26 X)) (HD : Hid (Blk b9 #[.int .i64 d.kind, .int .i64 d.id, .int .i64 d.txn, .bool d.com, .slice q2 d.ws.length cap2, .string d.text] 26 V)) (HW : Hid (WsV q c.ws V)) (HV : Hid (WsV q2 d.ws V)) (HBV : Hid (Below V.heap.size V X)) (HB : Hid (Below w.heap.size w V)) (kw : Is64 which) (kv : Is64 vv) (hs : s.size ≤ 60) (K : Act → World → Prop) (Q : Exit → Act → World → Prop) (hK : Hid (After K w form b9 V d q2 cap2)) (hj : which % 9 = 5) : r4.wp Try.prog (Exit.then K Q) ac X := by
  obtain ⟨u, rfl⟩ : ∃ u : Nat → Value, ac = ⟨#[u 0, u 1, u 2, u 3, u 4, .string s, .int .i64 which, .int .i64 vv, .int .i64 form, .pointer (some ⟨b9, 0, none⟩), u 10, u 11, u 12, u 13, u 14, u 15, u 16, u 17, .bool false, .pointer (some ⟨V.heap.size, 0, none⟩), u 20, u 21, u 22, u 23, u 24, u 25, u 26, u 27, u 28, u 29, u 30, u 31, u 32, u 33, u 34, u 35, u 36, u 37, u 38, u 39, u 40, u 41, u 42, u 43, u 44, u 45, u 46, u 47, u 48, u 49, u 50, u 51, u 52, u 53, u 54, u 55, u 56, u 57, u 58, u 59, u 60, u 61, u 62, u 63, u 64, u 65, u 66, u 67, u 68, u 69, u 70, u 71, u 72, u 73, u 74, u 75, u 76, u 77, u 78, u 79, u 80, u 81, u 82, u 83, u 84, u 85, u 86, u 87, u 88, u 89, u 90, u 91, u 92, u 93, u 94, u 95, u 96, u 97, u 98, u 99, u 100, u 101, u 102, u 103, u 104, u 105, u 106, u 107, u 108, u 109, u 110, u 111, u 112, u 113, u 114, u 115, u 116, u 117, u 118, u 119, u 120, u 121, u 122, u 123, u 124, u 125, u 126, u 127, u 128, u 129, u 130, u 131, u 132, u 133, u 134, u 135, u 136, u 137, u 138, u 139, u 140, u 141, u 142, u 143, u 144, u 145, u 146, u 147, u 148, u 149, u 150, u 151, u 152, u 153, u 154, u 155, u 156, u 157, u 158, u 159, u 160, u 161, u 162, u 163, u 164, u 165, u 166, u 167, u 168, u 169, u 170, u 171, u 172, u 173, u 174, u 175, u 176, u 177, u 178, u 179, u 180, u 181, u 182, u 183, u 184, u 185, u 186, u 187, u 188, u 189, u 190, u 191, u 192, u 193, u 194, u 195, u 196], []⟩ := ⟨fun i => ac.tmps.getD i undef, ha⟩
  clear ha
  unfold Try.f5 at hc
  cases hc
  have WJ := hide (fun W => within7_at kw (by decide) hj W)
  clear hj
  have k1_ := unhide HC
  have lc := k1_.lt
  have x0_ := k1_.cell 0
  have xf0_ := k1_.froz 0
  have x1_ := k1_.cell 1
  have xf1_ := k1_.froz 1
  have x2_ := k1_.cell 2
  have xf2_ := k1_.froz 2
  have x3_ := k1_.cell 3
  have xf3_ := k1_.froz 3
  have x4_ := k1_.cell 4
  have xf4_ := k1_.froz 4
  have x5_ := k1_.cell 5
  have xf5_ := k1_.froz 5
  simp at x0_ x1_ x2_ x3_ x4_ x5_
  obtain ⟨jj, hjj⟩ : ∃ j : Nat, vv % 2 = (j : Int) := ⟨(vv % 2).toNat, by omega⟩
  have WV := hide (fun W => within7_at kv (by decide) hjj W)
  obtain ⟨gg, hgg⟩ : ∃ gg : Bool, ((jj : Int) == 0) = gg := ⟨_, rfl⟩
  have hlen := g.fine.len
  have hlen2 : c.ws.length ≤ 1000 := (rightC_of g.right).2.2.2.2.1
  have f := g.fineW
  have hF : Hid (FineW ⟨c.kind, c.id, c.txn, c.com, c.ws ++ [⟨s, s, gg⟩], c.text⟩) := hide ⟨f.kind, f.id, f.txn, by show (c.ws ++ [_]).length ≤ _; simp; omega, fun x hx => by
    rcases List.mem_append.1 hx with hx | hx
    · exact f.ws x hx
    · simp at hx; subst hx; exact ⟨by show s.size ≤ _; omega, by show s.size ≤ _; omega⟩, f.text⟩
  have hb0 := below_new X (.cells #[] 40)
  have hE := Blk.new X #[] 40
  have hWX := ((unhide HW).below (unhide HBV)).below hb0
  have hCE := k1_.below hb0
  have hBE := Below.onto (unhide HBV) hb0
  obtain ⟨i0, hi, hz0, hz1, hz2⟩ := info_parts info_wt
  have hge : V.heap.size + 1 ≤ X.heap.size := by omega
  have hsz0 : (X.alloc (.cells #[] 40)).heap.size = X.heap.size + 1 := by simp
  clear k1_ g f hjj hb0
  go_wp2_with (first | (go_at_call_of 15 (Value.int IntKind.i64 which); refine (unhide WJ _).mono ?_; rintro e X2 ⟨rfl, hX2⟩; replace hX2 := hX2.symm; subst hX2) | (go_at_call 15; refine (unhide WV _).mono ?_; rintro e X2 ⟨rfl, hX2⟩; replace hX2 := hX2.symm; subst hX2) | (at_builtin; first | (refine wpList_app0 rfl _ _ rfl (X.alloc (.cells #[] 40)) X.heap.size q c.ws cap rfl rfl hE hWX hlen (V.heap.size + 1) hge ?_; intro v1 W1 ow1 gr1; clear hE hWX; have hCE1 := gr_blk hCE gr1 (by omega); have hB1 := gr_below hBE gr1 (by omega) (by rw [hsz0]; omega); have hs1 := gr1.size; clear gr1 hCE hBE) | (refine wpList_append_lies _ rfl _ _ 24 rfl (V.heap.size + 1) 40 i0 _ 3 40 Try.underlying24 hi hz0 hz1 hz2 rfl (by decide) v1 _ _ rfl (ow1.alloc _) ⟨W1.heap.size, 0, none⟩ 1 1 [.string s, .string s, .bool gg] rfl rfl (cells3_new W1 _ _ _ _ _ rfl) (by simp [Value.oneCell']) (by decide) (by unfold maxLen; omega) (by omega) (by simp; omega) _ rfl ?_; intro g2 cp2 w4 ow4 gr4 _ _; have k4 := blk_app hCE1 (Nat.lt_succ_self _) ow1 gr4; have hB4 := below_app hB1 (Nat.le_succ _) ow1 gr4; have l4 := k4.lt; have z4 := k4.cell 4; have zf4 := k4.froz 4; simp at z4)))
  have HX := hide (hB4.setCell (p := ⟨V.heap.size, 4, none⟩) (Nat.le_refl _) (.slice (some ⟨g2, 0, none⟩) (c.ws.length + 1) cp2))
  have hrow := ownsRow_setCell_below (a := ⟨V.heap.size, 4, none⟩) ow4 (by show V.heap.size < _; omega) (.slice (some ⟨g2, 0, none⟩) (c.ws.length + 1) cp2)
  have hl1 : (c.ws ++ [(⟨s, s, gg⟩ : Wt)]).length = c.ws.length + 1 := by simp
  have hrow2 : (w4.setCell ⟨V.heap.size, 4, none⟩ (.slice (some ⟨g2, 0, none⟩) (c.ws.length + 1) cp2)).ownsRow (V.heap.size + 1) 40 3 (.slice (some ⟨g2, 0, none⟩) (c.ws ++ [(⟨s, s, gg⟩ : Wt)]).length cp2) (c.ws ++ [(⟨s, s, gg⟩ : Wt)]).length (wcells (c.ws ++ [⟨s, s, gg⟩])) := by
    rw [hl1, wcells_snoc]; exact hrow
  have HS := k4.set 4 (.slice (some ⟨g2, 0, none⟩) (c.ws.length + 1) cp2)
  have HS2 : Hid (Blk V.heap.size #[.int .i64 c.kind, .int .i64 c.id, .int .i64 c.txn, .bool c.com, .slice (some ⟨g2, 0, none⟩) (c.ws ++ [(⟨s, s, gg⟩ : Wt)]).length cp2, .string c.text] 26 (w4.setCell ⟨V.heap.size, 4, none⟩ (.slice (some ⟨g2, 0, none⟩) (c.ws.length + 1) cp2))) := by
    show Blk _ _ _ _
    rw [hl1]; exact HS
  exact unhide hK _ ⟨c.kind, c.id, c.txn, c.com, c.ws ++ [⟨s, s, gg⟩], c.text⟩ (some ⟨g2, 0, none⟩) cp2 _ (by kernel_rfl) HS2 (hide ((unhide HD).below (unhide HX))) (hide (row_wsv hrow2)) (hide ((unhide HV).below (unhide HX))) hF (hide (Below.onto (unhide HB) (unhide HX)))
end Go.Proofs.Ytjmmfgmmmdbenaa

namespace Go.Proofs.Ytjmmfgmmmdbenaa
open Go.RowKit
set_option linter.unusedSimpArgs false
set_option linter.unusedVariables false

theorem run_makeB (N : Nat) (hN : N ≤ 100000) (W : World) : (Instr.makeSlice 35 (.int .i64 (N : Int)) (.int .i64 (N : Int))).run Try.prog W = .ok (.slice (some ⟨W.heap.size, 0, none⟩) N N) (W.alloc (.cells (madeCells #[.int .u8 0] N) 5)) := by
  obtain ⟨i0, hi, hz0, hz1, hz2⟩ := info_parts info_byte
  have h := run_makeSlice (P := Try.prog) W 35 5 i0 _ Try.underlying35 hi hz0 .i64 .i64 (N : Int) (N : Int) (by omega) (Int.le_refl _) (by rw [hz1]; omega) (by rw [hz2]; omega) (by omega)
  rw [hz1, Nat.mul_one] at h
  simp only [Int.toNat_natCast, Value.cells] at h
  exact h
theorem run_convB {N g : Nat} {W : World} (h : Blk g (madeCells #[.int .u8 0] N) 5 W) : (convert 35 9 (.slice (some ⟨g, 0, none⟩) N N)).run Try.prog W = .ok (.string ⟨(List.replicate N (0 : UInt8)).toArray⟩) W := by
  have e := run_convert_bytes_back (P := Try.prog) W 35 9 5 ⟨g, 0, none⟩ N (List.replicate N (0 : UInt8)) Try.underlying35 Try.underlying5 Try.underlying9 (fun j hj => by
    have hj2 : j < N := by simpa using hj
    have e1 : Addr.add ⟨g, 0, none⟩ j = ⟨g, j, none⟩ := by simp [Addr.add]; exact fun h => h.symm
    rw [e1, h.cell j, ← Array.getElem?_toList, toList_madeCells_one]
    simp [hj2])
  rw [List.length_replicate] at e
  exact e
theorem bytes_made (N : Nat) (hN : N ≤ 100000) : ∃ (BY : Array Value) (zz : ByteArray), zz.size = N ∧ (∀ W : World, (Instr.makeSlice 35 (.int .i64 (N : Int)) (.int .i64 (N : Int))).run Try.prog W = .ok (.slice (some ⟨W.heap.size, 0, none⟩) N N) (W.alloc (.cells BY 5))) ∧ ∀ (g : Nat) (W : World), Blk g BY 5 W → (convert 35 9 (.slice (some ⟨g, 0, none⟩) N N)).run Try.prog W = .ok (.string zz) W :=
  ⟨madeCells #[.int .u8 0] N, ⟨(List.replicate N (0 : UInt8)).toArray⟩, by simp [ByteArray.size], fun W => run_makeB N hN W, fun _ _ h => run_convB h⟩
end Go.Proofs.Ytjmmfgmmmdbenaa

namespace Go.Proofs.Ytjmmfgmmmdbenaa
open Go.RowKit
set_option linter.unusedSimpArgs false
set_option linter.unusedVariables false

set_option maxRecDepth 100000 in
set_option maxHeartbeats 16000000 in
theorem right_sw6 {r0 r1 r2 r3 r4 rest : Code} (hc : Try.f5.body = some (.seq r0 (.seq r1 (.seq r2 (.seq r3 (.seq r4 rest)))))) (w : World) (s : ByteArray) (which vv form : Int) (ac : Act) (b9 : Nat) (V X : World) (ha : ac = ⟨#[ac.tmps.getD 0 undef, ac.tmps.getD 1 undef, ac.tmps.getD 2 undef, ac.tmps.getD 3 undef, ac.tmps.getD 4 undef, .string s, .int .i64 which, .int .i64 vv, .int .i64 form, .pointer (some ⟨b9, 0, none⟩), ac.tmps.getD 10 undef, ac.tmps.getD 11 undef, ac.tmps.getD 12 undef, ac.tmps.getD 13 undef, ac.tmps.getD 14 undef, ac.tmps.getD 15 undef, ac.tmps.getD 16 undef, ac.tmps.getD 17 undef, .bool false, .pointer (some ⟨V.heap.size, 0, none⟩), ac.tmps.getD 20 undef, ac.tmps.getD 21 undef, ac.tmps.getD 22 undef, ac.tmps.getD 23 undef, ac.tmps.getD 24 undef, ac.tmps.getD 25 undef, ac.tmps.getD 26 undef, ac.tmps.getD 27 undef, ac.tmps.getD 28 undef, ac.tmps.getD 29 undef, ac.tmps.getD 30 undef, ac.tmps.getD 31 undef, ac.tmps.getD 32 undef, ac.tmps.getD 33 undef, ac.tmps.getD 34 undef, ac.tmps.getD 35 undef, ac.tmps.getD 36 undef, ac.tmps.getD 37 undef, ac.tmps.getD 38 undef, ac.tmps.getD 39 undef, ac.tmps.getD 40 undef, ac.tmps.getD 41 undef, ac.tmps.getD 42 undef, ac.tmps.getD 43 undef, ac.tmps.getD 44 undef, ac.tmps.getD 45 undef, ac.tmps.getD 46 undef, ac.tmps.getD 47 undef, ac.tmps.getD 48 undef, ac.tmps.getD 49 undef, ac.tmps.getD 50 undef, ac.tmps.getD 51 undef, ac.tmps.getD 52 undef, ac.tmps.getD 53 undef, ac.tmps.getD 54 undef, ac.tmps.getD 55 undef, ac.tmps.getD 56 undef, ac.tmps.getD 57 undef, ac.tmps.getD 58 undef, ac.tmps.getD 59 undef, ac.tmps.getD 60 undef, ac.tmps.getD 61 undef, ac.tmps.getD 62 undef, ac.tmps.getD 63 undef, ac.tmps.getD 64 undef, ac.tmps.getD 65 undef, ac.tmps.getD 66 undef, ac.tmps.getD 67 undef, ac.tmps.getD 68 undef, ac.tmps.getD 69 undef, ac.tmps.getD 70 undef, ac.tmps.getD 71 undef, ac.tmps.getD 72 undef, ac.tmps.getD 73 undef, ac.tmps.getD 74 undef, ac.tmps.getD 75 undef, ac.tmps.getD 76 undef, ac.tmps.getD 77 undef, ac.tmps.getD 78 undef, ac.tmps.getD 79 undef, ac.tmps.getD 80 undef, ac.tmps.getD 81 undef, ac.tmps.getD 82 undef, ac.tmps.getD 83 undef, ac.tmps.getD 84 undef, ac.tmps.getD 85 undef, ac.tmps.getD 86 undef, ac.tmps.getD 87 undef, ac.tmps.getD 88 undef, ac.tmps.getD 89 undef, ac.tmps.getD 90 undef, ac.tmps.getD 91 undef, ac.tmps.getD 92 undef, ac.tmps.getD 93 undef, ac.tmps.getD 94 undef, ac.tmps.getD 95 undef, ac.tmps.getD 96 undef, ac.tmps.getD 97 undef, ac.tmps.getD 98 undef, ac.tmps.getD 99 undef, ac.tmps.getD 100 undef, ac.tmps.getD 101 undef, ac.tmps.getD 102 undef, ac.tmps.getD 103 undef, ac.tmps.getD 104 undef, ac.tmps.getD 105 undef, ac.tmps.getD 106 undef, ac.tmps.getD 107 undef, ac.tmps.getD 108 undef, ac.tmps.getD 109 undef, ac.tmps.getD 110 undef, ac.tmps.getD 111 undef, ac.tmps.getD 112 undef, ac.tmps.getD 113 undef, ac.tmps.getD 114 undef, ac.tmps.getD 115 undef, ac.tmps.getD 116 undef, ac.tmps.getD 117 undef, ac.tmps.getD 118 undef, ac.tmps.getD 119 undef, ac.tmps.getD 120 undef, ac.tmps.getD 121 undef, ac.tmps.getD 122 undef, ac.tmps.getD 123 undef, ac.tmps.getD 124 undef, ac.tmps.getD 125 undef, ac.tmps.getD 126 undef, ac.tmps.getD 127 undef, ac.tmps.getD 128 undef, ac.tmps.getD 129 undef, ac.tmps.getD 130 undef, ac.tmps.getD 131 undef, ac.tmps.getD 132 undef, ac.tmps.getD 133 undef, ac.tmps.getD 134 undef, ac.tmps.getD 135 undef, ac.tmps.getD 136 undef, ac.tmps.getD 137 undef, ac.tmps.getD 138 undef, ac.tmps.getD 139 undef, ac.tmps.getD 140 undef, ac.tmps.getD 141 undef, ac.tmps.getD 142 undef, ac.tmps.getD 143 undef, ac.tmps.getD 144 undef, ac.tmps.getD 145 undef, ac.tmps.getD 146 undef, ac.tmps.getD 147 undef, ac.tmps.getD 148 undef, ac.tmps.getD 149 undef, ac.tmps.getD 150 undef, ac.tmps.getD 151 undef, ac.tmps.getD 152 undef, ac.tmps.getD 153 undef, ac.tmps.getD 154 undef, ac.tmps.getD 155 undef, ac.tmps.getD 156 undef, ac.tmps.getD 157 undef, ac.tmps.getD 158 undef, ac.tmps.getD 159 undef, ac.tmps.getD 160 undef, ac.tmps.getD 161 undef, ac.tmps.getD 162 undef, ac.tmps.getD 163 undef, ac.tmps.getD 164 undef, ac.tmps.getD 165 undef, ac.tmps.getD 166 undef, ac.tmps.getD 167 undef, ac.tmps.getD 168 undef, ac.tmps.getD 169 undef, ac.tmps.getD 170 undef, ac.tmps.getD 171 undef, ac.tmps.getD 172 undef, ac.tmps.getD 173 undef, ac.tmps.getD 174 undef, ac.tmps.getD 175 undef, ac.tmps.getD 176 undef, ac.tmps.getD 177 undef, ac.tmps.getD 178 undef, ac.tmps.getD 179 undef, ac.tmps.getD 180 undef, ac.tmps.getD 181 undef, ac.tmps.getD 182 undef, ac.tmps.getD 183 undef, ac.tmps.getD 184 undef, ac.tmps.getD 185 undef, ac.tmps.getD 186 undef, ac.tmps.getD 187 undef, ac.tmps.getD 188 undef, ac.tmps.getD 189 undef, ac.tmps.getD 190 undef, ac.tmps.getD 191 undef, ac.tmps.getD 192 undef, ac.tmps.getD 193 undef, ac.tmps.getD 194 undef, ac.tmps.getD 195 undef, ac.tmps.getD 196 undef], []⟩) (c d : Cm) (q q2 : Option Addr) (cap cap2 : Nat) (g : GoodC c) (HC : Hid (Blk V.heap.size #[.int .i64 c.kind, .int .i64 c.id, .int .i64 c.txn, .bool c.com, .slice q c.ws.length cap, .string c.text] 26 X)) (HD : Hid (Blk b9 #[.int .i64 d.kind, .int .i64 d.id, .int .i64 d.txn, .bool d.com, .slice q2 d.ws.length cap2, .string d.text] 26 V)) (HW : Hid (WsV q c.ws V)) (HV : Hid (WsV q2 d.ws V)) (HBV : Hid (Below V.heap.size V X)) (HB : Hid (Below w.heap.size w V)) (kw : Is64 which) (kv : Is64 vv) (hs : s.size ≤ 60) (K : Act → World → Prop) (Q : Exit → Act → World → Prop) (hK : Hid (After K w form b9 V d q2 cap2)) (hj : which % 9 = 6) : r4.wp Try.prog (Exit.then K Q) ac X := by
  obtain ⟨u, rfl⟩ : ∃ u : Nat → Value, ac = ⟨#[u 0, u 1, u 2, u 3, u 4, .string s, .int .i64 which, .int .i64 vv, .int .i64 form, .pointer (some ⟨b9, 0, none⟩), u 10, u 11, u 12, u 13, u 14, u 15, u 16, u 17, .bool false, .pointer (some ⟨V.heap.size, 0, none⟩), u 20, u 21, u 22, u 23, u 24, u 25, u 26, u 27, u 28, u 29, u 30, u 31, u 32, u 33, u 34, u 35, u 36, u 37, u 38, u 39, u 40, u 41, u 42, u 43, u 44, u 45, u 46, u 47, u 48, u 49, u 50, u 51, u 52, u 53, u 54, u 55, u 56, u 57, u 58, u 59, u 60, u 61, u 62, u 63, u 64, u 65, u 66, u 67, u 68, u 69, u 70, u 71, u 72, u 73, u 74, u 75, u 76, u 77, u 78, u 79, u 80, u 81, u 82, u 83, u 84, u 85, u 86, u 87, u 88, u 89, u 90, u 91, u 92, u 93, u 94, u 95, u 96, u 97, u 98, u 99, u 100, u 101, u 102, u 103, u 104, u 105, u 106, u 107, u 108, u 109, u 110, u 111, u 112, u 113, u 114, u 115, u 116, u 117, u 118, u 119, u 120, u 121, u 122, u 123, u 124, u 125, u 126, u 127, u 128, u 129, u 130, u 131, u 132, u 133, u 134, u 135, u 136, u 137, u 138, u 139, u 140, u 141, u 142, u 143, u 144, u 145, u 146, u 147, u 148, u 149, u 150, u 151, u 152, u 153, u 154, u 155, u 156, u 157, u 158, u 159, u 160, u 161, u 162, u 163, u 164, u 165, u 166, u 167, u 168, u 169, u 170, u 171, u 172, u 173, u 174, u 175, u 176, u 177, u 178, u 179, u 180, u 181, u 182, u 183, u 184, u 185, u 186, u 187, u 188, u 189, u 190, u 191, u 192, u 193, u 194, u 195, u 196], []⟩ := ⟨fun i => ac.tmps.getD i undef, ha⟩
  clear ha
  unfold Try.f5 at hc
  cases hc
  have WJ := hide (fun W => within7_at kw (by decide) hj W)
  clear hj
  have k1_ := unhide HC
  have lc := k1_.lt
  have x0_ := k1_.cell 0
  have xf0_ := k1_.froz 0
  have x1_ := k1_.cell 1
  have xf1_ := k1_.froz 1
  have x2_ := k1_.cell 2
  have xf2_ := k1_.froz 2
  have x3_ := k1_.cell 3
  have xf3_ := k1_.froz 3
  have x4_ := k1_.cell 4
  have xf4_ := k1_.froz 4
  have x5_ := k1_.cell 5
  have xf5_ := k1_.froz 5
  simp at x0_ x1_ x2_ x3_ x4_ x5_
  obtain ⟨jj, hjj⟩ : ∃ j : Nat, vv % 8 = (j : Int) := ⟨(vv % 8).toNat, by omega⟩
  have hj8 : jj < 8 := by omega
  have WV := hide (fun W => within7_at kv (by decide) hjj W)
  have hw1 : IntKind.i64.wrap (296 + (jj : Int)) = ((296 + jj : Nat) : Int) := (IntWalk.i64_in _ (by omega)).trans (by omega)
  obtain ⟨N, hN⟩ : ∃ N : Nat, N = 296 + jj := ⟨_, rfl⟩
  have hNi : 296 + (jj : Int) = (N : Int) := by omega
  have hN2 : N ≤ 10000 := by omega
  obtain ⟨BY, zz, hzz, MK, CV9⟩ := bytes_made N (by omega)
  have CVH := hide CV9
  have hlen := g.fine.len
  have hlen2 : c.ws.length ≤ 1000 := (rightC_of g.right).2.2.2.2.1
  have f := g.fineW
  have hF : Hid (FineW ⟨c.kind, c.id, c.txn, c.com, c.ws ++ [⟨zz, ⟨#[]⟩, false⟩], c.text⟩) := hide ⟨f.kind, f.id, f.txn, by show (c.ws ++ [_]).length ≤ _; simp; omega, fun x hx => by
    rcases List.mem_append.1 hx with hx | hx
    · exact f.ws x hx
    · simp at hx; subst hx; exact ⟨by show ByteArray.size zz ≤ _; rw [hzz]; omega, by show ByteArray.size ⟨#[]⟩ ≤ _; decide⟩, f.text⟩
  have hge : V.heap.size < X.heap.size := lc
  have hb0 := below_new X (.cells BY 5)
  have HE := hide (Blk.new X BY 5)
  have HC1 := hide (k1_.below hb0)
  have HW1 := hide (((unhide HW).below (unhide HBV)).below hb0)
  have HB1 := hide (Below.onto (unhide HBV) hb0)
  have hsz1 : X.heap.size + 1 ≤ (X.alloc (.cells BY 5)).heap.size := by simp
  obtain ⟨i0, hi, hz0, hz1, hz2⟩ := info_parts info_wt
  clear hjj f g hb0 CV9 hN hzz k1_
  clear x0_ x1_ x2_ x3_ x4_ x5_ xf0_ xf1_ xf2_ xf3_ xf4_ xf5_
  clear HC HW HBV
  go_wp2_with (first | (go_at_call_of 15 (Value.int IntKind.i64 which); refine (unhide WJ _).mono ?_; rintro e X2 ⟨rfl, hX2⟩; replace hX2 := hX2.symm; subst hX2) | (go_at_call 15; refine (unhide WV _).mono ?_; rintro e X2 ⟨rfl, hX2⟩; replace hX2 := hX2.symm; subst hX2))
  clear MK
  generalize X.heap.size = xb at *
  generalize X.alloc (.cells BY 5) = Y at *
  have FIN : Hid (∀ (g2 cp2 : Nat) (w4 : World) (ac' : Act), ac' = ⟨#[ac'.tmps.getD 0 undef, ac'.tmps.getD 1 undef, ac'.tmps.getD 2 undef, ac'.tmps.getD 3 undef, ac'.tmps.getD 4 undef, ac'.tmps.getD 5 undef, ac'.tmps.getD 6 undef, ac'.tmps.getD 7 undef, .int .i64 form, .pointer (some ⟨b9, 0, none⟩), ac'.tmps.getD 10 undef, ac'.tmps.getD 11 undef, ac'.tmps.getD 12 undef, ac'.tmps.getD 13 undef, ac'.tmps.getD 14 undef, ac'.tmps.getD 15 undef, ac'.tmps.getD 16 undef, ac'.tmps.getD 17 undef, .bool false, .pointer (some ⟨V.heap.size, 0, none⟩), ac'.tmps.getD 20 undef, ac'.tmps.getD 21 undef, ac'.tmps.getD 22 undef, ac'.tmps.getD 23 undef, ac'.tmps.getD 24 undef, ac'.tmps.getD 25 undef, ac'.tmps.getD 26 undef, ac'.tmps.getD 27 undef, ac'.tmps.getD 28 undef, ac'.tmps.getD 29 undef, ac'.tmps.getD 30 undef, ac'.tmps.getD 31 undef, ac'.tmps.getD 32 undef, ac'.tmps.getD 33 undef, ac'.tmps.getD 34 undef, ac'.tmps.getD 35 undef, ac'.tmps.getD 36 undef, ac'.tmps.getD 37 undef, ac'.tmps.getD 38 undef, ac'.tmps.getD 39 undef, ac'.tmps.getD 40 undef, ac'.tmps.getD 41 undef, ac'.tmps.getD 42 undef, ac'.tmps.getD 43 undef, ac'.tmps.getD 44 undef, ac'.tmps.getD 45 undef, ac'.tmps.getD 46 undef, ac'.tmps.getD 47 undef, ac'.tmps.getD 48 undef, ac'.tmps.getD 49 undef, ac'.tmps.getD 50 undef, ac'.tmps.getD 51 undef, ac'.tmps.getD 52 undef, ac'.tmps.getD 53 undef, ac'.tmps.getD 54 undef, ac'.tmps.getD 55 undef, ac'.tmps.getD 56 undef, ac'.tmps.getD 57 undef, ac'.tmps.getD 58 undef, ac'.tmps.getD 59 undef, ac'.tmps.getD 60 undef, ac'.tmps.getD 61 undef, ac'.tmps.getD 62 undef, ac'.tmps.getD 63 undef, ac'.tmps.getD 64 undef, ac'.tmps.getD 65 undef, ac'.tmps.getD 66 undef, ac'.tmps.getD 67 undef, ac'.tmps.getD 68 undef, ac'.tmps.getD 69 undef, ac'.tmps.getD 70 undef, ac'.tmps.getD 71 undef, ac'.tmps.getD 72 undef, ac'.tmps.getD 73 undef, ac'.tmps.getD 74 undef, ac'.tmps.getD 75 undef, ac'.tmps.getD 76 undef, ac'.tmps.getD 77 undef, ac'.tmps.getD 78 undef, ac'.tmps.getD 79 undef, ac'.tmps.getD 80 undef, ac'.tmps.getD 81 undef, ac'.tmps.getD 82 undef, ac'.tmps.getD 83 undef, ac'.tmps.getD 84 undef, ac'.tmps.getD 85 undef, ac'.tmps.getD 86 undef, ac'.tmps.getD 87 undef, ac'.tmps.getD 88 undef, ac'.tmps.getD 89 undef, ac'.tmps.getD 90 undef, ac'.tmps.getD 91 undef, ac'.tmps.getD 92 undef, ac'.tmps.getD 93 undef, ac'.tmps.getD 94 undef, ac'.tmps.getD 95 undef, ac'.tmps.getD 96 undef, ac'.tmps.getD 97 undef, ac'.tmps.getD 98 undef, ac'.tmps.getD 99 undef, ac'.tmps.getD 100 undef, ac'.tmps.getD 101 undef, ac'.tmps.getD 102 undef, ac'.tmps.getD 103 undef, ac'.tmps.getD 104 undef, ac'.tmps.getD 105 undef, ac'.tmps.getD 106 undef, ac'.tmps.getD 107 undef, ac'.tmps.getD 108 undef, ac'.tmps.getD 109 undef, ac'.tmps.getD 110 undef, ac'.tmps.getD 111 undef, ac'.tmps.getD 112 undef, ac'.tmps.getD 113 undef, ac'.tmps.getD 114 undef, ac'.tmps.getD 115 undef, ac'.tmps.getD 116 undef, ac'.tmps.getD 117 undef, ac'.tmps.getD 118 undef, ac'.tmps.getD 119 undef, ac'.tmps.getD 120 undef, ac'.tmps.getD 121 undef, ac'.tmps.getD 122 undef, ac'.tmps.getD 123 undef, ac'.tmps.getD 124 undef, ac'.tmps.getD 125 undef, ac'.tmps.getD 126 undef, ac'.tmps.getD 127 undef, ac'.tmps.getD 128 undef, ac'.tmps.getD 129 undef, ac'.tmps.getD 130 undef, ac'.tmps.getD 131 undef, ac'.tmps.getD 132 undef, ac'.tmps.getD 133 undef, ac'.tmps.getD 134 undef, ac'.tmps.getD 135 undef, ac'.tmps.getD 136 undef, ac'.tmps.getD 137 undef, ac'.tmps.getD 138 undef, ac'.tmps.getD 139 undef, ac'.tmps.getD 140 undef, ac'.tmps.getD 141 undef, ac'.tmps.getD 142 undef, ac'.tmps.getD 143 undef, ac'.tmps.getD 144 undef, ac'.tmps.getD 145 undef, ac'.tmps.getD 146 undef, ac'.tmps.getD 147 undef, ac'.tmps.getD 148 undef, ac'.tmps.getD 149 undef, ac'.tmps.getD 150 undef, ac'.tmps.getD 151 undef, ac'.tmps.getD 152 undef, ac'.tmps.getD 153 undef, ac'.tmps.getD 154 undef, ac'.tmps.getD 155 undef, ac'.tmps.getD 156 undef, ac'.tmps.getD 157 undef, ac'.tmps.getD 158 undef, ac'.tmps.getD 159 undef, ac'.tmps.getD 160 undef, ac'.tmps.getD 161 undef, ac'.tmps.getD 162 undef, ac'.tmps.getD 163 undef, ac'.tmps.getD 164 undef, ac'.tmps.getD 165 undef, ac'.tmps.getD 166 undef, ac'.tmps.getD 167 undef, ac'.tmps.getD 168 undef, ac'.tmps.getD 169 undef, ac'.tmps.getD 170 undef, ac'.tmps.getD 171 undef, ac'.tmps.getD 172 undef, ac'.tmps.getD 173 undef, ac'.tmps.getD 174 undef, ac'.tmps.getD 175 undef, ac'.tmps.getD 176 undef, ac'.tmps.getD 177 undef, ac'.tmps.getD 178 undef, ac'.tmps.getD 179 undef, ac'.tmps.getD 180 undef, ac'.tmps.getD 181 undef, ac'.tmps.getD 182 undef, ac'.tmps.getD 183 undef, ac'.tmps.getD 184 undef, ac'.tmps.getD 185 undef, ac'.tmps.getD 186 undef, ac'.tmps.getD 187 undef, ac'.tmps.getD 188 undef, ac'.tmps.getD 189 undef, ac'.tmps.getD 190 undef, ac'.tmps.getD 191 undef, ac'.tmps.getD 192 undef, ac'.tmps.getD 193 undef, ac'.tmps.getD 194 undef, ac'.tmps.getD 195 undef, ac'.tmps.getD 196 undef], []⟩ → w4.ownsRow (xb + 1) 40 3 (.slice (some ⟨g2, 0, none⟩) (c.ws.length + 1) cp2) (c.ws.length + 1) (wcells c.ws ++ [.string zz, .string ⟨#[]⟩, .bool false]) → Blk V.heap.size #[.int .i64 c.kind, .int .i64 c.id, .int .i64 c.txn, .bool c.com, .slice q c.ws.length cap, .string c.text] 26 w4 → Below V.heap.size V w4 → K ac' (w4.setCell ⟨V.heap.size, 4, none⟩ (.slice (some ⟨g2, 0, none⟩) (c.ws.length + 1) cp2))) := hide (fun g2 cp2 w4 ac' hac ow4 k4 hB4 => by
    have HX := hide (hB4.setCell (p := ⟨V.heap.size, 4, none⟩) (Nat.le_refl _) (.slice (some ⟨g2, 0, none⟩) (c.ws.length + 1) cp2))
    have hrow := ownsRow_setCell_below (a := ⟨V.heap.size, 4, none⟩) ow4 (by show V.heap.size < _; omega) (.slice (some ⟨g2, 0, none⟩) (c.ws.length + 1) cp2)
    have hl1 : (c.ws ++ [(⟨zz, ⟨#[]⟩, false⟩ : Wt)]).length = c.ws.length + 1 := by simp
    have hrow2 : (w4.setCell ⟨V.heap.size, 4, none⟩ (.slice (some ⟨g2, 0, none⟩) (c.ws.length + 1) cp2)).ownsRow (xb + 1) 40 3 (.slice (some ⟨g2, 0, none⟩) (c.ws ++ [(⟨zz, ⟨#[]⟩, false⟩ : Wt)]).length cp2) (c.ws ++ [(⟨zz, ⟨#[]⟩, false⟩ : Wt)]).length (wcells (c.ws ++ [⟨zz, ⟨#[]⟩, false⟩])) := by
      rw [hl1, wcells_snoc]; exact hrow
    have HS := k4.set 4 (.slice (some ⟨g2, 0, none⟩) (c.ws.length + 1) cp2)
    have HS2 : Hid (Blk V.heap.size #[.int .i64 c.kind, .int .i64 c.id, .int .i64 c.txn, .bool c.com, .slice (some ⟨g2, 0, none⟩) (c.ws ++ [(⟨zz, ⟨#[]⟩, false⟩ : Wt)]).length cp2, .string c.text] 26 (w4.setCell ⟨V.heap.size, 4, none⟩ (.slice (some ⟨g2, 0, none⟩) (c.ws.length + 1) cp2))) := by
      show Blk _ _ _ _
      rw [hl1]; exact HS
    exact unhide hK ac' ⟨c.kind, c.id, c.txn, c.com, c.ws ++ [⟨zz, ⟨#[]⟩, false⟩], c.text⟩ (some ⟨g2, 0, none⟩) cp2 _ hac HS2 (hide ((unhide HD).below (unhide HX))) (hide (row_wsv hrow2)) (hide ((unhide HV).below (unhide HX))) hF (hide (Below.onto (unhide HB) (unhide HX))))
  clear hK hF HV HD HB
  have hbd : Below Y.heap.size Y Y.drew := (Below.refl _ _).drew
  refine wp_region_noPanic ?_
  refine wp_region_held_drew (S := (fun W => Blk xb BY 5 W)) (by kernel_rfl) ((unhide HE).below hbd) (fun hHeld => ?_)
  replace HC1 := hide ((unhide HC1).below hbd)
  replace HW1 := hide ((unhide HW1).below hbd)
  replace HB1 := hide (Below.onto (unhide HB1) hbd)
  replace hsz1 := Nat.le_trans hsz1 hbd.size
  clear hbd HE
  revert hHeld
  generalize Y.drew = Yd at *
  intro hHeld
  refine wpAnyH_take (i := 1) (oi := ?oi20057) (v := ?v20057) ?hi20057 (by kernel_rfl) (by kernel_rfl) (by kernel_rfl) (fun _ _ _ h => h) (Or.inl ⟨?hw20057, ?hy20057⟩) (by assumption) ?rest20057
  case hi20057 => (simp only [List.getElem?_toArray, List.getElem?_cons_zero, List.getElem?_cons_succ]; rfl)
  case hw20057 => rfl
  case hy20057 => first | (intro wx hSw; go_simp; done) | (intro wx hSw; go_simp; with_reducible rfl)
  simp only [Act.put, List.setIfInBounds_toArray, List.set_cons_zero, List.set_cons_succ]
  refine wpAnyH_take (i := 4) (oi := ?oi20058) (v := ?v20058) ?hi20058 (by kernel_rfl) (by kernel_rfl) (by kernel_rfl) (fun _ _ _ h => h) (Or.inl ⟨?hw20058, ?hy20058⟩) (by assumption) ?rest20058
  case hi20058 => (simp only [List.getElem?_toArray, List.getElem?_cons_zero, List.getElem?_cons_succ]; rfl)
  case hw20058 => rfl
  case hy20058 => first | (intro wx hSw; go_simp; done) | (intro wx hSw; go_simp; with_reducible rfl)
  simp only [Act.put, List.setIfInBounds_toArray, List.set_cons_zero, List.set_cons_succ]
  refine wpAnyH_take (i := 5) (oi := ?oi20059) (v := ?v20059) ?hi20059 (by kernel_rfl) (by kernel_rfl) (by kernel_rfl) (fun _ _ _ h => h) (Or.inl ⟨?hw20059, ?hy20059⟩) (by assumption) ?rest20059
  case hi20059 => (simp only [List.getElem?_toArray, List.getElem?_cons_zero, List.getElem?_cons_succ]; rfl)
  case hw20059 => rfl
  case hy20059 => first | (intro wx hSw; have hcv := unhide CVH _ _ hSw; go_simp; done) | (intro wx hSw; have hcv := unhide CVH _ _ hSw; go_simp; with_reducible rfl)
  simp only [Act.put, List.setIfInBounds_toArray, List.set_cons_zero, List.set_cons_succ]
  refine wpAnyH_take (i := 6) (oi := ?oi20060) (v := ?v20060) ?hi20060 (by kernel_rfl) (by kernel_rfl) (by kernel_rfl) (fun _ _ _ h => h) (Or.inl ⟨?hw20060, ?hy20060⟩) (by assumption) ?rest20060
  case hi20060 => (simp only [List.getElem?_toArray, List.getElem?_cons_zero, List.getElem?_cons_succ]; rfl)
  case hw20060 => rfl
  case hy20060 => first | (intro wx hSw; go_simp; done) | (intro wx hSw; go_simp; with_reducible rfl)
  simp only [Act.put, List.setIfInBounds_toArray, List.set_cons_zero, List.set_cons_succ]
  refine wpAnyH_ready (rs := [0, 2, 7]) (by kernel_rfl) (by simp) ?_
  refine AllReadyH.cons rfl (fun K20061 hK20061 => ?_) ?_
  · go_simp
    refine hK20061.out _ _ ?hs20061 (fun hHeld20061 => ?_)
    case hs20061 => exact hHeld.below (below_new _ _)
    clear hHeld
    have hHeld := hHeld20061; clear hHeld20061 hK20061 K20061
    have hgx0 := hsz1
    have hb := below_new Yd (.cells #[] 40)
    have hbs := hb.size
    replace HC1 := hide ((unhide HC1).below hb)
    replace HW1 := hide ((unhide HW1).below hb)
    replace HB1 := hide (Below.onto (unhide HB1) hb)
    replace hsz1 := Nat.le_trans hsz1 hbs
    have RE := hide (Blk.new Yd #[] 40)
    obtain ⟨ge, hgq⟩ : ∃ b, b = Yd.heap.size := ⟨_, rfl⟩
    rw [← hgq] at RE
    have hgx : xb + 1 ≤ ge := by omega
    generalize Yd.alloc (.cells #[] 40) = Y1 at *
    clear hb
    refine wpAnyH_ready (rs := [2, 7]) (by kernel_rfl) (by simp) ?_
    refine AllReadyH.cons rfl (fun K20062 hK20062 => ?_) ?_
    · have z1 := (unhide HC1).cell 4
      have zf1 := (unhide HC1).froz 4
      have zl1 := (unhide HC1).lt
      simp at z1
      go_simp
      refine hK20062.out _ _ ?hs20062 (fun hHeld20062 => ?_)
      case hs20062 => exact hHeld
      clear hHeld
      have hHeld := hHeld20062; clear hHeld20062 hK20062 K20062
      clear z1 zf1 zl1
      refine wpAnyH_ready (rs := [3, 7]) (by kernel_rfl) (by simp) ?_
      refine AllReadyH.cons rfl (fun K20063 hK20063 => ?_) ?_
      · refine step_app0 rfl _ _ rfl Y1 ge q c.ws cap (by rw [hgq]; rfl) rfl (unhide RE) (unhide HW1) (by omega) (xb + 1) hgx ?_
        intro v1 Y3 ow1 gr1
        change K20063 (Act.put _ (some 110) _) _
        simp only [Act.put, List.setIfInBounds_toArray, List.set_cons_zero, List.set_cons_succ]
        refine hK20063.out _ _ ?hs20063 (fun hHeld20063 => ?_)
        case hs20063 => exact gr_blk hHeld gr1 (by omega)
        clear hHeld
        have hHeld := hHeld20063; clear hHeld20063 hK20063 K20063
        replace HB1 := hide (gr_below (unhide HB1) gr1 (by omega) (unhide HB1).size)
        replace HC1 := hide (gr_blk (unhide HC1) gr1 (by omega))
        replace hsz1 := Nat.le_trans hsz1 gr1.size
        have OW := hide ow1
        clear gr1 ow1 RE HW1
        refine wpAnyH_ready (rs := [7]) (by kernel_rfl) (by simp) ?_
        refine AllReadyH.cons rfl (fun K20064 hK20064 => ?_) AllReadyH.nil
        go_simp
        refine hK20064.out _ _ ?hs20064 (fun hHeld20064 => ?_)
        case hs20064 => exact hHeld.below (below_new _ _)
        clear hHeld
        have hHeld := hHeld20064; clear hHeld20064 hK20064 K20064
        have hb := below_new Y3 (.cells #[.string zz, .string ⟨#[]⟩, .bool false] 40)
        have hbs := hb.size
        replace HC1 := hide ((unhide HC1).below hb)
        replace HB1 := hide (Below.onto (unhide HB1) hb)
        replace hsz1 := Nat.le_trans hsz1 hbs
        replace OW := hide ((unhide OW).alloc (.cells #[.string zz, .string ⟨#[]⟩, .bool false] 40))
        have RW := hide (Blk.new Y3 #[.string zz, .string ⟨#[]⟩, .bool false] 40)
        obtain ⟨bw, hbq⟩ : ∃ b, b = Y3.heap.size := ⟨_, rfl⟩
        rw [← hbq] at RW
        have hsY : Y3.heap.size < (Y3.alloc (.cells #[.string zz, .string ⟨#[]⟩, .bool false] 40)).heap.size := by simp
        generalize Y3.alloc (.cells #[.string zz, .string ⟨#[]⟩, .bool false] 40) = Y4 at *
        clear hb
        refine wpAnyH_ready (rs := [8]) (by kernel_rfl) (by simp) ?_
        refine AllReadyH.cons rfl (fun K20065 hK20065 => ?_) AllReadyH.nil
        have hnv : some V.heap.size ≠ v1.ownBlock := fun e => by have h9 := ((unhide OW).lt _ e.symm).1; omega
        have hnx : some xb ≠ v1.ownBlock := fun e => by have h9 := ((unhide OW).lt _ e.symm).1; omega
        have hnews : ∀ j u, ([.string zz, .string ⟨#[]⟩, .bool false] : List Value)[j]? = some u → Y4.cell? (Addr.add ⟨bw, 0, none⟩ j) = some u := fun j u hj => by
          have e1 : Addr.add ⟨bw, 0, none⟩ j = ⟨bw, j, none⟩ := by simp [Addr.add]; exact fun h => h.symm
          rw [e1, (unhide RW).cell j]
          simpa using hj
        refine step_append_lies _ rfl _ _ 24 rfl (xb + 1) 40 i0 _ 3 40 Try.underlying24 hi hz0 hz1 hz2 rfl (by decide) v1 _ _ rfl (unhide OW) ⟨bw, 0, none⟩ 1 1 [.string zz, .string ⟨#[]⟩, .bool false] (by rw [hbq]; rfl) rfl hnews (by simp [Value.oneCell']) (by decide) (by unfold maxLen; omega) (by omega) hsz1 _ rfl ?_
        intro g2 cp2 w4 ow4 gr4 _ _
        change K20065 (Act.put _ (some 115) _) _
        simp only [Act.put, List.setIfInBounds_toArray, List.set_cons_zero, List.set_cons_succ]
        refine hK20065.out _ _ ?hs20065 (fun hHeld20065 => ?_)
        case hs20065 => exact (gr4.block _ hHeld.lt hnx).trans hHeld
        clear hHeld
        have hHeld := hHeld20065; clear hHeld20065 hK20065 K20065
        refine wpAnyH_take (i := 9) (oi := ?oi20066) (v := ?v20066) ?hi20066 (by kernel_rfl) (by kernel_rfl) (by kernel_rfl) (fun _ _ _ h => h) (Or.inl ⟨?hw20066, ?hy20066⟩) (by assumption) ?rest20066
        case hi20066 => (simp only [List.getElem?_toArray, List.getElem?_cons_zero, List.getElem?_cons_succ]; rfl)
        case hw20066 => rfl
        case hy20066 => first | (intro wx hSw; go_simp; done) | (intro wx hSw; go_simp; with_reducible rfl)
        simp only [Act.put, List.setIfInBounds_toArray, List.set_cons_zero, List.set_cons_succ]
        have k4 : Blk V.heap.size #[.int .i64 c.kind, .int .i64 c.id, .int .i64 c.txn, .bool c.com, .slice q c.ws.length cap, .string c.text] 26 w4 := (gr4.block _ (unhide HC1).lt hnv).trans (unhide HC1)
        have hB4 : Below V.heap.size V w4 := (unhide HB1).grown gr4 (unhide HB1).size (fun j e => by have h9 := ((unhide OW).lt _ e).1; omega)
        have l4 := k4.lt
        have z4 := k4.cell 4
        have zf4 := k4.froz 4
        simp at z4
        refine wpAnyH_ready (rs := [10]) (by kernel_rfl) (by simp) ?_
        refine AllReadyH.cons rfl (fun K20067 hK20067 => ?_) AllReadyH.nil
        go_simp
        refine hK20067.out _ _ ?hs20067 (fun hHeld20067 => ?_)
        case hs20067 => exact blk_far1 hHeld (by omega)
        clear hHeld
        have hHeld := hHeld20067; clear hHeld20067 hK20067 K20067
        refine wpAnyH_done (by kernel_rfl) ?_ _
        refine NoPanic.normal ?_
        skip
        exact unhide FIN g2 cp2 w4 _ (by kernel_rfl) ow4 k4 hB4
      refine AllReadyH.cons rfl (fun K20068 hK20068 => ?_) AllReadyH.nil
      · go_simp
        refine hK20068.out _ _ ?hs20068 (fun hHeld20068 => ?_)
        case hs20068 => exact hHeld.below (below_new _ _)
        clear hHeld
        have hHeld := hHeld20068; clear hHeld20068 hK20068 K20068
        have hgl := (unhide RE).lt
        have hb := below_new Y1 (.cells #[.string zz, .string ⟨#[]⟩, .bool false] 40)
        have hbs := hb.size
        replace HC1 := hide ((unhide HC1).below hb)
        replace HW1 := hide ((unhide HW1).below hb)
        replace HB1 := hide (Below.onto (unhide HB1) hb)
        replace hsz1 := Nat.le_trans hsz1 hbs
        replace RE := hide ((unhide RE).below hb)
        have RW := hide (Blk.new Y1 #[.string zz, .string ⟨#[]⟩, .bool false] 40)
        obtain ⟨bw, hbq⟩ : ∃ b, b = Y1.heap.size := ⟨_, rfl⟩
        rw [← hbq] at RW
        have hbg : bw ≠ ge := by omega
        have hsY : Y1.heap.size < (Y1.alloc (.cells #[.string zz, .string ⟨#[]⟩, .bool false] 40)).heap.size := by simp
        generalize Y1.alloc (.cells #[.string zz, .string ⟨#[]⟩, .bool false] 40) = Y5 at *
        clear hb
        refine wpAnyH_ready (rs := [3]) (by kernel_rfl) (by simp) ?_
        refine AllReadyH.cons rfl (fun K20069 hK20069 => ?_) AllReadyH.nil
        refine step_app0 rfl _ _ rfl Y5 ge q c.ws cap (by rw [hgq]; rfl) rfl (unhide RE) (unhide HW1) (by omega) (xb + 1) hgx ?_
        intro v1 Y6 ow1 gr1
        change K20069 (Act.put _ (some 110) _) _
        simp only [Act.put, List.setIfInBounds_toArray, List.set_cons_zero, List.set_cons_succ]
        refine hK20069.out _ _ ?hs20069 (fun hHeld20069 => ?_)
        case hs20069 => exact gr_blk hHeld gr1 (by omega)
        clear hHeld
        have hHeld := hHeld20069; clear hHeld20069 hK20069 K20069
        replace HB1 := hide (gr_below (unhide HB1) gr1 (by omega) (unhide HB1).size)
        replace HC1 := hide (gr_blk (unhide HC1) gr1 (by omega))
        replace hsz1 := Nat.le_trans hsz1 gr1.size
        have OW := hide ow1
        replace RW := hide (gr_blk (unhide RW) gr1 hbg)
        have hbs2 := gr1.size
        clear gr1 ow1 RE HW1
        refine wpAnyH_ready (rs := [8]) (by kernel_rfl) (by simp) ?_
        refine AllReadyH.cons rfl (fun K20070 hK20070 => ?_) AllReadyH.nil
        have hnv : some V.heap.size ≠ v1.ownBlock := fun e => by have h9 := ((unhide OW).lt _ e.symm).1; omega
        have hnx : some xb ≠ v1.ownBlock := fun e => by have h9 := ((unhide OW).lt _ e.symm).1; omega
        have hnews : ∀ j u, ([.string zz, .string ⟨#[]⟩, .bool false] : List Value)[j]? = some u → Y6.cell? (Addr.add ⟨bw, 0, none⟩ j) = some u := fun j u hj => by
          have e1 : Addr.add ⟨bw, 0, none⟩ j = ⟨bw, j, none⟩ := by simp [Addr.add]; exact fun h => h.symm
          rw [e1, (unhide RW).cell j]
          simpa using hj
        refine step_append_lies _ rfl _ _ 24 rfl (xb + 1) 40 i0 _ 3 40 Try.underlying24 hi hz0 hz1 hz2 rfl (by decide) v1 _ _ rfl (unhide OW) ⟨bw, 0, none⟩ 1 1 [.string zz, .string ⟨#[]⟩, .bool false] (by rw [hbq]; rfl) rfl hnews (by simp [Value.oneCell']) (by decide) (by unfold maxLen; omega) (by omega) hsz1 _ rfl ?_
        intro g2 cp2 w4 ow4 gr4 _ _
        change K20070 (Act.put _ (some 115) _) _
        simp only [Act.put, List.setIfInBounds_toArray, List.set_cons_zero, List.set_cons_succ]
        refine hK20070.out _ _ ?hs20070 (fun hHeld20070 => ?_)
        case hs20070 => exact (gr4.block _ hHeld.lt hnx).trans hHeld
        clear hHeld
        have hHeld := hHeld20070; clear hHeld20070 hK20070 K20070
        refine wpAnyH_take (i := 9) (oi := ?oi20071) (v := ?v20071) ?hi20071 (by kernel_rfl) (by kernel_rfl) (by kernel_rfl) (fun _ _ _ h => h) (Or.inl ⟨?hw20071, ?hy20071⟩) (by assumption) ?rest20071
        case hi20071 => (simp only [List.getElem?_toArray, List.getElem?_cons_zero, List.getElem?_cons_succ]; rfl)
        case hw20071 => rfl
        case hy20071 => first | (intro wx hSw; go_simp; done) | (intro wx hSw; go_simp; with_reducible rfl)
        simp only [Act.put, List.setIfInBounds_toArray, List.set_cons_zero, List.set_cons_succ]
        have k4 : Blk V.heap.size #[.int .i64 c.kind, .int .i64 c.id, .int .i64 c.txn, .bool c.com, .slice q c.ws.length cap, .string c.text] 26 w4 := (gr4.block _ (unhide HC1).lt hnv).trans (unhide HC1)
        have hB4 : Below V.heap.size V w4 := (unhide HB1).grown gr4 (unhide HB1).size (fun j e => by have h9 := ((unhide OW).lt _ e).1; omega)
        have l4 := k4.lt
        have z4 := k4.cell 4
        have zf4 := k4.froz 4
        simp at z4
        refine wpAnyH_ready (rs := [10]) (by kernel_rfl) (by simp) ?_
        refine AllReadyH.cons rfl (fun K20072 hK20072 => ?_) AllReadyH.nil
        go_simp
        refine hK20072.out _ _ ?hs20072 (fun hHeld20072 => ?_)
        case hs20072 => exact blk_far1 hHeld (by omega)
        clear hHeld
        have hHeld := hHeld20072; clear hHeld20072 hK20072 K20072
        refine wpAnyH_done (by kernel_rfl) ?_ _
        refine NoPanic.normal ?_
        skip
        exact unhide FIN g2 cp2 w4 _ (by kernel_rfl) ow4 k4 hB4
    refine AllReadyH.cons rfl (fun K20073 hK20073 => ?_) AllReadyH.nil
    · go_simp
      refine hK20073.out _ _ ?hs20073 (fun hHeld20073 => ?_)
      case hs20073 => exact hHeld.below (below_new _ _)
      clear hHeld
      have hHeld := hHeld20073; clear hHeld20073 hK20073 K20073
      have hgl := (unhide RE).lt
      have hb := below_new Y1 (.cells #[.string zz, .string ⟨#[]⟩, .bool false] 40)
      have hbs := hb.size
      replace HC1 := hide ((unhide HC1).below hb)
      replace HW1 := hide ((unhide HW1).below hb)
      replace HB1 := hide (Below.onto (unhide HB1) hb)
      replace hsz1 := Nat.le_trans hsz1 hbs
      replace RE := hide ((unhide RE).below hb)
      have RW := hide (Blk.new Y1 #[.string zz, .string ⟨#[]⟩, .bool false] 40)
      obtain ⟨bw, hbq⟩ : ∃ b, b = Y1.heap.size := ⟨_, rfl⟩
      rw [← hbq] at RW
      have hbg : bw ≠ ge := by omega
      have hsY : Y1.heap.size < (Y1.alloc (.cells #[.string zz, .string ⟨#[]⟩, .bool false] 40)).heap.size := by simp
      generalize Y1.alloc (.cells #[.string zz, .string ⟨#[]⟩, .bool false] 40) = Y7 at *
      clear hb
      refine wpAnyH_ready (rs := [2]) (by kernel_rfl) (by simp) ?_
      refine AllReadyH.cons rfl (fun K20074 hK20074 => ?_) AllReadyH.nil
      have z1 := (unhide HC1).cell 4
      have zf1 := (unhide HC1).froz 4
      have zl1 := (unhide HC1).lt
      simp at z1
      go_simp
      refine hK20074.out _ _ ?hs20074 (fun hHeld20074 => ?_)
      case hs20074 => exact hHeld
      clear hHeld
      have hHeld := hHeld20074; clear hHeld20074 hK20074 K20074
      clear z1 zf1 zl1
      refine wpAnyH_ready (rs := [3]) (by kernel_rfl) (by simp) ?_
      refine AllReadyH.cons rfl (fun K20075 hK20075 => ?_) AllReadyH.nil
      refine step_app0 rfl _ _ rfl Y7 ge q c.ws cap (by rw [hgq]; rfl) rfl (unhide RE) (unhide HW1) (by omega) (xb + 1) hgx ?_
      intro v1 Y9 ow1 gr1
      change K20075 (Act.put _ (some 110) _) _
      simp only [Act.put, List.setIfInBounds_toArray, List.set_cons_zero, List.set_cons_succ]
      refine hK20075.out _ _ ?hs20075 (fun hHeld20075 => ?_)
      case hs20075 => exact gr_blk hHeld gr1 (by omega)
      clear hHeld
      have hHeld := hHeld20075; clear hHeld20075 hK20075 K20075
      replace HB1 := hide (gr_below (unhide HB1) gr1 (by omega) (unhide HB1).size)
      replace HC1 := hide (gr_blk (unhide HC1) gr1 (by omega))
      replace hsz1 := Nat.le_trans hsz1 gr1.size
      have OW := hide ow1
      replace RW := hide (gr_blk (unhide RW) gr1 hbg)
      have hbs2 := gr1.size
      clear gr1 ow1 RE HW1
      refine wpAnyH_ready (rs := [8]) (by kernel_rfl) (by simp) ?_
      refine AllReadyH.cons rfl (fun K20076 hK20076 => ?_) AllReadyH.nil
      have hnv : some V.heap.size ≠ v1.ownBlock := fun e => by have h9 := ((unhide OW).lt _ e.symm).1; omega
      have hnx : some xb ≠ v1.ownBlock := fun e => by have h9 := ((unhide OW).lt _ e.symm).1; omega
      have hnews : ∀ j u, ([.string zz, .string ⟨#[]⟩, .bool false] : List Value)[j]? = some u → Y9.cell? (Addr.add ⟨bw, 0, none⟩ j) = some u := fun j u hj => by
        have e1 : Addr.add ⟨bw, 0, none⟩ j = ⟨bw, j, none⟩ := by simp [Addr.add]; exact fun h => h.symm
        rw [e1, (unhide RW).cell j]
        simpa using hj
      refine step_append_lies _ rfl _ _ 24 rfl (xb + 1) 40 i0 _ 3 40 Try.underlying24 hi hz0 hz1 hz2 rfl (by decide) v1 _ _ rfl (unhide OW) ⟨bw, 0, none⟩ 1 1 [.string zz, .string ⟨#[]⟩, .bool false] (by rw [hbq]; rfl) rfl hnews (by simp [Value.oneCell']) (by decide) (by unfold maxLen; omega) (by omega) hsz1 _ rfl ?_
      intro g2 cp2 w4 ow4 gr4 _ _
      change K20076 (Act.put _ (some 115) _) _
      simp only [Act.put, List.setIfInBounds_toArray, List.set_cons_zero, List.set_cons_succ]
      refine hK20076.out _ _ ?hs20076 (fun hHeld20076 => ?_)
      case hs20076 => exact (gr4.block _ hHeld.lt hnx).trans hHeld
      clear hHeld
      have hHeld := hHeld20076; clear hHeld20076 hK20076 K20076
      refine wpAnyH_take (i := 9) (oi := ?oi20077) (v := ?v20077) ?hi20077 (by kernel_rfl) (by kernel_rfl) (by kernel_rfl) (fun _ _ _ h => h) (Or.inl ⟨?hw20077, ?hy20077⟩) (by assumption) ?rest20077
      case hi20077 => (simp only [List.getElem?_toArray, List.getElem?_cons_zero, List.getElem?_cons_succ]; rfl)
      case hw20077 => rfl
      case hy20077 => first | (intro wx hSw; go_simp; done) | (intro wx hSw; go_simp; with_reducible rfl)
      simp only [Act.put, List.setIfInBounds_toArray, List.set_cons_zero, List.set_cons_succ]
      have k4 : Blk V.heap.size #[.int .i64 c.kind, .int .i64 c.id, .int .i64 c.txn, .bool c.com, .slice q c.ws.length cap, .string c.text] 26 w4 := (gr4.block _ (unhide HC1).lt hnv).trans (unhide HC1)
      have hB4 : Below V.heap.size V w4 := (unhide HB1).grown gr4 (unhide HB1).size (fun j e => by have h9 := ((unhide OW).lt _ e).1; omega)
      have l4 := k4.lt
      have z4 := k4.cell 4
      have zf4 := k4.froz 4
      simp at z4
      refine wpAnyH_ready (rs := [10]) (by kernel_rfl) (by simp) ?_
      refine AllReadyH.cons rfl (fun K20078 hK20078 => ?_) AllReadyH.nil
      go_simp
      refine hK20078.out _ _ ?hs20078 (fun hHeld20078 => ?_)
      case hs20078 => exact blk_far1 hHeld (by omega)
      clear hHeld
      have hHeld := hHeld20078; clear hHeld20078 hK20078 K20078
      refine wpAnyH_done (by kernel_rfl) ?_ _
      refine NoPanic.normal ?_
      skip
      exact unhide FIN g2 cp2 w4 _ (by kernel_rfl) ow4 k4 hB4
  refine AllReadyH.cons rfl (fun K20079 hK20079 => ?_) ?_
  · have z1 := (unhide HC1).cell 4
    have zf1 := (unhide HC1).froz 4
    have zl1 := (unhide HC1).lt
    simp at z1
    go_simp
    refine hK20079.out _ _ ?hs20079 (fun hHeld20079 => ?_)
    case hs20079 => exact hHeld
    clear hHeld
    have hHeld := hHeld20079; clear hHeld20079 hK20079 K20079
    clear z1 zf1 zl1
    refine wpAnyH_ready (rs := [0, 7]) (by kernel_rfl) (by simp) ?_
    refine AllReadyH.cons rfl (fun K20080 hK20080 => ?_) ?_
    · go_simp
      refine hK20080.out _ _ ?hs20080 (fun hHeld20080 => ?_)
      case hs20080 => exact hHeld.below (below_new _ _)
      clear hHeld
      have hHeld := hHeld20080; clear hHeld20080 hK20080 K20080
      have hgx0 := hsz1
      have hb := below_new Yd (.cells #[] 40)
      have hbs := hb.size
      replace HC1 := hide ((unhide HC1).below hb)
      replace HW1 := hide ((unhide HW1).below hb)
      replace HB1 := hide (Below.onto (unhide HB1) hb)
      replace hsz1 := Nat.le_trans hsz1 hbs
      have RE := hide (Blk.new Yd #[] 40)
      obtain ⟨ge, hgq⟩ : ∃ b, b = Yd.heap.size := ⟨_, rfl⟩
      rw [← hgq] at RE
      have hgx : xb + 1 ≤ ge := by omega
      generalize Yd.alloc (.cells #[] 40) = Y11 at *
      clear hb
      refine wpAnyH_ready (rs := [3, 7]) (by kernel_rfl) (by simp) ?_
      refine AllReadyH.cons rfl (fun K20081 hK20081 => ?_) ?_
      · refine step_app0 rfl _ _ rfl Y11 ge q c.ws cap (by rw [hgq]; rfl) rfl (unhide RE) (unhide HW1) (by omega) (xb + 1) hgx ?_
        intro v1 Y12 ow1 gr1
        change K20081 (Act.put _ (some 110) _) _
        simp only [Act.put, List.setIfInBounds_toArray, List.set_cons_zero, List.set_cons_succ]
        refine hK20081.out _ _ ?hs20081 (fun hHeld20081 => ?_)
        case hs20081 => exact gr_blk hHeld gr1 (by omega)
        clear hHeld
        have hHeld := hHeld20081; clear hHeld20081 hK20081 K20081
        replace HB1 := hide (gr_below (unhide HB1) gr1 (by omega) (unhide HB1).size)
        replace HC1 := hide (gr_blk (unhide HC1) gr1 (by omega))
        replace hsz1 := Nat.le_trans hsz1 gr1.size
        have OW := hide ow1
        clear gr1 ow1 RE HW1
        refine wpAnyH_ready (rs := [7]) (by kernel_rfl) (by simp) ?_
        refine AllReadyH.cons rfl (fun K20082 hK20082 => ?_) AllReadyH.nil
        go_simp
        refine hK20082.out _ _ ?hs20082 (fun hHeld20082 => ?_)
        case hs20082 => exact hHeld.below (below_new _ _)
        clear hHeld
        have hHeld := hHeld20082; clear hHeld20082 hK20082 K20082
        have hb := below_new Y12 (.cells #[.string zz, .string ⟨#[]⟩, .bool false] 40)
        have hbs := hb.size
        replace HC1 := hide ((unhide HC1).below hb)
        replace HB1 := hide (Below.onto (unhide HB1) hb)
        replace hsz1 := Nat.le_trans hsz1 hbs
        replace OW := hide ((unhide OW).alloc (.cells #[.string zz, .string ⟨#[]⟩, .bool false] 40))
        have RW := hide (Blk.new Y12 #[.string zz, .string ⟨#[]⟩, .bool false] 40)
        obtain ⟨bw, hbq⟩ : ∃ b, b = Y12.heap.size := ⟨_, rfl⟩
        rw [← hbq] at RW
        have hsY : Y12.heap.size < (Y12.alloc (.cells #[.string zz, .string ⟨#[]⟩, .bool false] 40)).heap.size := by simp
        generalize Y12.alloc (.cells #[.string zz, .string ⟨#[]⟩, .bool false] 40) = Y13 at *
        clear hb
        refine wpAnyH_ready (rs := [8]) (by kernel_rfl) (by simp) ?_
        refine AllReadyH.cons rfl (fun K20083 hK20083 => ?_) AllReadyH.nil
        have hnv : some V.heap.size ≠ v1.ownBlock := fun e => by have h9 := ((unhide OW).lt _ e.symm).1; omega
        have hnx : some xb ≠ v1.ownBlock := fun e => by have h9 := ((unhide OW).lt _ e.symm).1; omega
        have hnews : ∀ j u, ([.string zz, .string ⟨#[]⟩, .bool false] : List Value)[j]? = some u → Y13.cell? (Addr.add ⟨bw, 0, none⟩ j) = some u := fun j u hj => by
          have e1 : Addr.add ⟨bw, 0, none⟩ j = ⟨bw, j, none⟩ := by simp [Addr.add]; exact fun h => h.symm
          rw [e1, (unhide RW).cell j]
          simpa using hj
        refine step_append_lies _ rfl _ _ 24 rfl (xb + 1) 40 i0 _ 3 40 Try.underlying24 hi hz0 hz1 hz2 rfl (by decide) v1 _ _ rfl (unhide OW) ⟨bw, 0, none⟩ 1 1 [.string zz, .string ⟨#[]⟩, .bool false] (by rw [hbq]; rfl) rfl hnews (by simp [Value.oneCell']) (by decide) (by unfold maxLen; omega) (by omega) hsz1 _ rfl ?_
        intro g2 cp2 w4 ow4 gr4 _ _
        change K20083 (Act.put _ (some 115) _) _
        simp only [Act.put, List.setIfInBounds_toArray, List.set_cons_zero, List.set_cons_succ]
        refine hK20083.out _ _ ?hs20083 (fun hHeld20083 => ?_)
        case hs20083 => exact (gr4.block _ hHeld.lt hnx).trans hHeld
        clear hHeld
        have hHeld := hHeld20083; clear hHeld20083 hK20083 K20083
        refine wpAnyH_take (i := 9) (oi := ?oi20084) (v := ?v20084) ?hi20084 (by kernel_rfl) (by kernel_rfl) (by kernel_rfl) (fun _ _ _ h => h) (Or.inl ⟨?hw20084, ?hy20084⟩) (by assumption) ?rest20084
        case hi20084 => (simp only [List.getElem?_toArray, List.getElem?_cons_zero, List.getElem?_cons_succ]; rfl)
        case hw20084 => rfl
        case hy20084 => first | (intro wx hSw; go_simp; done) | (intro wx hSw; go_simp; with_reducible rfl)
        simp only [Act.put, List.setIfInBounds_toArray, List.set_cons_zero, List.set_cons_succ]
        have k4 : Blk V.heap.size #[.int .i64 c.kind, .int .i64 c.id, .int .i64 c.txn, .bool c.com, .slice q c.ws.length cap, .string c.text] 26 w4 := (gr4.block _ (unhide HC1).lt hnv).trans (unhide HC1)
        have hB4 : Below V.heap.size V w4 := (unhide HB1).grown gr4 (unhide HB1).size (fun j e => by have h9 := ((unhide OW).lt _ e).1; omega)
        have l4 := k4.lt
        have z4 := k4.cell 4
        have zf4 := k4.froz 4
        simp at z4
        refine wpAnyH_ready (rs := [10]) (by kernel_rfl) (by simp) ?_
        refine AllReadyH.cons rfl (fun K20085 hK20085 => ?_) AllReadyH.nil
        go_simp
        refine hK20085.out _ _ ?hs20085 (fun hHeld20085 => ?_)
        case hs20085 => exact blk_far1 hHeld (by omega)
        clear hHeld
        have hHeld := hHeld20085; clear hHeld20085 hK20085 K20085
        refine wpAnyH_done (by kernel_rfl) ?_ _
        refine NoPanic.normal ?_
        skip
        exact unhide FIN g2 cp2 w4 _ (by kernel_rfl) ow4 k4 hB4
      refine AllReadyH.cons rfl (fun K20086 hK20086 => ?_) AllReadyH.nil
      · go_simp
        refine hK20086.out _ _ ?hs20086 (fun hHeld20086 => ?_)
        case hs20086 => exact hHeld.below (below_new _ _)
        clear hHeld
        have hHeld := hHeld20086; clear hHeld20086 hK20086 K20086
        have hgl := (unhide RE).lt
        have hb := below_new Y11 (.cells #[.string zz, .string ⟨#[]⟩, .bool false] 40)
        have hbs := hb.size
        replace HC1 := hide ((unhide HC1).below hb)
        replace HW1 := hide ((unhide HW1).below hb)
        replace HB1 := hide (Below.onto (unhide HB1) hb)
        replace hsz1 := Nat.le_trans hsz1 hbs
        replace RE := hide ((unhide RE).below hb)
        have RW := hide (Blk.new Y11 #[.string zz, .string ⟨#[]⟩, .bool false] 40)
        obtain ⟨bw, hbq⟩ : ∃ b, b = Y11.heap.size := ⟨_, rfl⟩
        rw [← hbq] at RW
        have hbg : bw ≠ ge := by omega
        have hsY : Y11.heap.size < (Y11.alloc (.cells #[.string zz, .string ⟨#[]⟩, .bool false] 40)).heap.size := by simp
        generalize Y11.alloc (.cells #[.string zz, .string ⟨#[]⟩, .bool false] 40) = Y14 at *
        clear hb
        refine wpAnyH_ready (rs := [3]) (by kernel_rfl) (by simp) ?_
        refine AllReadyH.cons rfl (fun K20087 hK20087 => ?_) AllReadyH.nil
        refine step_app0 rfl _ _ rfl Y14 ge q c.ws cap (by rw [hgq]; rfl) rfl (unhide RE) (unhide HW1) (by omega) (xb + 1) hgx ?_
        intro v1 Y15 ow1 gr1
        change K20087 (Act.put _ (some 110) _) _
        simp only [Act.put, List.setIfInBounds_toArray, List.set_cons_zero, List.set_cons_succ]
        refine hK20087.out _ _ ?hs20087 (fun hHeld20087 => ?_)
        case hs20087 => exact gr_blk hHeld gr1 (by omega)
        clear hHeld
        have hHeld := hHeld20087; clear hHeld20087 hK20087 K20087
        replace HB1 := hide (gr_below (unhide HB1) gr1 (by omega) (unhide HB1).size)
        replace HC1 := hide (gr_blk (unhide HC1) gr1 (by omega))
        replace hsz1 := Nat.le_trans hsz1 gr1.size
        have OW := hide ow1
        replace RW := hide (gr_blk (unhide RW) gr1 hbg)
        have hbs2 := gr1.size
        clear gr1 ow1 RE HW1
        refine wpAnyH_ready (rs := [8]) (by kernel_rfl) (by simp) ?_
        refine AllReadyH.cons rfl (fun K20088 hK20088 => ?_) AllReadyH.nil
        have hnv : some V.heap.size ≠ v1.ownBlock := fun e => by have h9 := ((unhide OW).lt _ e.symm).1; omega
        have hnx : some xb ≠ v1.ownBlock := fun e => by have h9 := ((unhide OW).lt _ e.symm).1; omega
        have hnews : ∀ j u, ([.string zz, .string ⟨#[]⟩, .bool false] : List Value)[j]? = some u → Y15.cell? (Addr.add ⟨bw, 0, none⟩ j) = some u := fun j u hj => by
          have e1 : Addr.add ⟨bw, 0, none⟩ j = ⟨bw, j, none⟩ := by simp [Addr.add]; exact fun h => h.symm
          rw [e1, (unhide RW).cell j]
          simpa using hj
        refine step_append_lies _ rfl _ _ 24 rfl (xb + 1) 40 i0 _ 3 40 Try.underlying24 hi hz0 hz1 hz2 rfl (by decide) v1 _ _ rfl (unhide OW) ⟨bw, 0, none⟩ 1 1 [.string zz, .string ⟨#[]⟩, .bool false] (by rw [hbq]; rfl) rfl hnews (by simp [Value.oneCell']) (by decide) (by unfold maxLen; omega) (by omega) hsz1 _ rfl ?_
        intro g2 cp2 w4 ow4 gr4 _ _
        change K20088 (Act.put _ (some 115) _) _
        simp only [Act.put, List.setIfInBounds_toArray, List.set_cons_zero, List.set_cons_succ]
        refine hK20088.out _ _ ?hs20088 (fun hHeld20088 => ?_)
        case hs20088 => exact (gr4.block _ hHeld.lt hnx).trans hHeld
        clear hHeld
        have hHeld := hHeld20088; clear hHeld20088 hK20088 K20088
        refine wpAnyH_take (i := 9) (oi := ?oi20089) (v := ?v20089) ?hi20089 (by kernel_rfl) (by kernel_rfl) (by kernel_rfl) (fun _ _ _ h => h) (Or.inl ⟨?hw20089, ?hy20089⟩) (by assumption) ?rest20089
        case hi20089 => (simp only [List.getElem?_toArray, List.getElem?_cons_zero, List.getElem?_cons_succ]; rfl)
        case hw20089 => rfl
        case hy20089 => first | (intro wx hSw; go_simp; done) | (intro wx hSw; go_simp; with_reducible rfl)
        simp only [Act.put, List.setIfInBounds_toArray, List.set_cons_zero, List.set_cons_succ]
        have k4 : Blk V.heap.size #[.int .i64 c.kind, .int .i64 c.id, .int .i64 c.txn, .bool c.com, .slice q c.ws.length cap, .string c.text] 26 w4 := (gr4.block _ (unhide HC1).lt hnv).trans (unhide HC1)
        have hB4 : Below V.heap.size V w4 := (unhide HB1).grown gr4 (unhide HB1).size (fun j e => by have h9 := ((unhide OW).lt _ e).1; omega)
        have l4 := k4.lt
        have z4 := k4.cell 4
        have zf4 := k4.froz 4
        simp at z4
        refine wpAnyH_ready (rs := [10]) (by kernel_rfl) (by simp) ?_
        refine AllReadyH.cons rfl (fun K20090 hK20090 => ?_) AllReadyH.nil
        go_simp
        refine hK20090.out _ _ ?hs20090 (fun hHeld20090 => ?_)
        case hs20090 => exact blk_far1 hHeld (by omega)
        clear hHeld
        have hHeld := hHeld20090; clear hHeld20090 hK20090 K20090
        refine wpAnyH_done (by kernel_rfl) ?_ _
        refine NoPanic.normal ?_
        skip
        exact unhide FIN g2 cp2 w4 _ (by kernel_rfl) ow4 k4 hB4
    refine AllReadyH.cons rfl (fun K20091 hK20091 => ?_) AllReadyH.nil
    · go_simp
      refine hK20091.out _ _ ?hs20091 (fun hHeld20091 => ?_)
      case hs20091 => exact hHeld.below (below_new _ _)
      clear hHeld
      have hHeld := hHeld20091; clear hHeld20091 hK20091 K20091
      have hb := below_new Yd (.cells #[.string zz, .string ⟨#[]⟩, .bool false] 40)
      have hbs := hb.size
      replace HC1 := hide ((unhide HC1).below hb)
      replace HW1 := hide ((unhide HW1).below hb)
      replace HB1 := hide (Below.onto (unhide HB1) hb)
      replace hsz1 := Nat.le_trans hsz1 hbs
      have RW := hide (Blk.new Yd #[.string zz, .string ⟨#[]⟩, .bool false] 40)
      obtain ⟨bw, hbq⟩ : ∃ b, b = Yd.heap.size := ⟨_, rfl⟩
      rw [← hbq] at RW
      have hsY : Yd.heap.size < (Yd.alloc (.cells #[.string zz, .string ⟨#[]⟩, .bool false] 40)).heap.size := by simp
      generalize Yd.alloc (.cells #[.string zz, .string ⟨#[]⟩, .bool false] 40) = Y16 at *
      clear hb
      refine wpAnyH_ready (rs := [0]) (by kernel_rfl) (by simp) ?_
      refine AllReadyH.cons rfl (fun K20092 hK20092 => ?_) AllReadyH.nil
      go_simp
      refine hK20092.out _ _ ?hs20092 (fun hHeld20092 => ?_)
      case hs20092 => exact hHeld.below (below_new _ _)
      clear hHeld
      have hHeld := hHeld20092; clear hHeld20092 hK20092 K20092
      have hgx0 := hsz1
      have hb := below_new Y16 (.cells #[] 40)
      have hbs := hb.size
      replace HC1 := hide ((unhide HC1).below hb)
      replace HW1 := hide ((unhide HW1).below hb)
      replace HB1 := hide (Below.onto (unhide HB1) hb)
      replace hsz1 := Nat.le_trans hsz1 hbs
      replace RW := hide ((unhide RW).below hb)
      have RE := hide (Blk.new Y16 #[] 40)
      obtain ⟨ge, hgq⟩ : ∃ b, b = Y16.heap.size := ⟨_, rfl⟩
      rw [← hgq] at RE
      have hgx : xb + 1 ≤ ge := by omega
      have hbg : bw ≠ ge := by omega
      generalize Y16.alloc (.cells #[] 40) = Y17 at *
      clear hb
      refine wpAnyH_ready (rs := [3]) (by kernel_rfl) (by simp) ?_
      refine AllReadyH.cons rfl (fun K20093 hK20093 => ?_) AllReadyH.nil
      refine step_app0 rfl _ _ rfl Y17 ge q c.ws cap (by rw [hgq]; rfl) rfl (unhide RE) (unhide HW1) (by omega) (xb + 1) hgx ?_
      intro v1 Y18 ow1 gr1
      change K20093 (Act.put _ (some 110) _) _
      simp only [Act.put, List.setIfInBounds_toArray, List.set_cons_zero, List.set_cons_succ]
      refine hK20093.out _ _ ?hs20093 (fun hHeld20093 => ?_)
      case hs20093 => exact gr_blk hHeld gr1 (by omega)
      clear hHeld
      have hHeld := hHeld20093; clear hHeld20093 hK20093 K20093
      replace HB1 := hide (gr_below (unhide HB1) gr1 (by omega) (unhide HB1).size)
      replace HC1 := hide (gr_blk (unhide HC1) gr1 (by omega))
      replace hsz1 := Nat.le_trans hsz1 gr1.size
      have OW := hide ow1
      replace RW := hide (gr_blk (unhide RW) gr1 hbg)
      have hbs2 := gr1.size
      clear gr1 ow1 RE HW1
      refine wpAnyH_ready (rs := [8]) (by kernel_rfl) (by simp) ?_
      refine AllReadyH.cons rfl (fun K20094 hK20094 => ?_) AllReadyH.nil
      have hnv : some V.heap.size ≠ v1.ownBlock := fun e => by have h9 := ((unhide OW).lt _ e.symm).1; omega
      have hnx : some xb ≠ v1.ownBlock := fun e => by have h9 := ((unhide OW).lt _ e.symm).1; omega
      have hnews : ∀ j u, ([.string zz, .string ⟨#[]⟩, .bool false] : List Value)[j]? = some u → Y18.cell? (Addr.add ⟨bw, 0, none⟩ j) = some u := fun j u hj => by
        have e1 : Addr.add ⟨bw, 0, none⟩ j = ⟨bw, j, none⟩ := by simp [Addr.add]; exact fun h => h.symm
        rw [e1, (unhide RW).cell j]
        simpa using hj
      refine step_append_lies _ rfl _ _ 24 rfl (xb + 1) 40 i0 _ 3 40 Try.underlying24 hi hz0 hz1 hz2 rfl (by decide) v1 _ _ rfl (unhide OW) ⟨bw, 0, none⟩ 1 1 [.string zz, .string ⟨#[]⟩, .bool false] (by rw [hbq]; rfl) rfl hnews (by simp [Value.oneCell']) (by decide) (by unfold maxLen; omega) (by omega) hsz1 _ rfl ?_
      intro g2 cp2 w4 ow4 gr4 _ _
      change K20094 (Act.put _ (some 115) _) _
      simp only [Act.put, List.setIfInBounds_toArray, List.set_cons_zero, List.set_cons_succ]
      refine hK20094.out _ _ ?hs20094 (fun hHeld20094 => ?_)
      case hs20094 => exact (gr4.block _ hHeld.lt hnx).trans hHeld
      clear hHeld
      have hHeld := hHeld20094; clear hHeld20094 hK20094 K20094
      refine wpAnyH_take (i := 9) (oi := ?oi20095) (v := ?v20095) ?hi20095 (by kernel_rfl) (by kernel_rfl) (by kernel_rfl) (fun _ _ _ h => h) (Or.inl ⟨?hw20095, ?hy20095⟩) (by assumption) ?rest20095
      case hi20095 => (simp only [List.getElem?_toArray, List.getElem?_cons_zero, List.getElem?_cons_succ]; rfl)
      case hw20095 => rfl
      case hy20095 => first | (intro wx hSw; go_simp; done) | (intro wx hSw; go_simp; with_reducible rfl)
      simp only [Act.put, List.setIfInBounds_toArray, List.set_cons_zero, List.set_cons_succ]
      have k4 : Blk V.heap.size #[.int .i64 c.kind, .int .i64 c.id, .int .i64 c.txn, .bool c.com, .slice q c.ws.length cap, .string c.text] 26 w4 := (gr4.block _ (unhide HC1).lt hnv).trans (unhide HC1)
      have hB4 : Below V.heap.size V w4 := (unhide HB1).grown gr4 (unhide HB1).size (fun j e => by have h9 := ((unhide OW).lt _ e).1; omega)
      have l4 := k4.lt
      have z4 := k4.cell 4
      have zf4 := k4.froz 4
      simp at z4
      refine wpAnyH_ready (rs := [10]) (by kernel_rfl) (by simp) ?_
      refine AllReadyH.cons rfl (fun K20096 hK20096 => ?_) AllReadyH.nil
      go_simp
      refine hK20096.out _ _ ?hs20096 (fun hHeld20096 => ?_)
      case hs20096 => exact blk_far1 hHeld (by omega)
      clear hHeld
      have hHeld := hHeld20096; clear hHeld20096 hK20096 K20096
      refine wpAnyH_done (by kernel_rfl) ?_ _
      refine NoPanic.normal ?_
      skip
      exact unhide FIN g2 cp2 w4 _ (by kernel_rfl) ow4 k4 hB4
  refine AllReadyH.cons rfl (fun K20097 hK20097 => ?_) AllReadyH.nil
  · go_simp
    refine hK20097.out _ _ ?hs20097 (fun hHeld20097 => ?_)
    case hs20097 => exact hHeld.below (below_new _ _)
    clear hHeld
    have hHeld := hHeld20097; clear hHeld20097 hK20097 K20097
    have hb := below_new Yd (.cells #[.string zz, .string ⟨#[]⟩, .bool false] 40)
    have hbs := hb.size
    replace HC1 := hide ((unhide HC1).below hb)
    replace HW1 := hide ((unhide HW1).below hb)
    replace HB1 := hide (Below.onto (unhide HB1) hb)
    replace hsz1 := Nat.le_trans hsz1 hbs
    have RW := hide (Blk.new Yd #[.string zz, .string ⟨#[]⟩, .bool false] 40)
    obtain ⟨bw, hbq⟩ : ∃ b, b = Yd.heap.size := ⟨_, rfl⟩
    rw [← hbq] at RW
    have hsY : Yd.heap.size < (Yd.alloc (.cells #[.string zz, .string ⟨#[]⟩, .bool false] 40)).heap.size := by simp
    generalize Yd.alloc (.cells #[.string zz, .string ⟨#[]⟩, .bool false] 40) = Y19 at *
    clear hb
    refine wpAnyH_ready (rs := [0, 2]) (by kernel_rfl) (by simp) ?_
    refine AllReadyH.cons rfl (fun K20098 hK20098 => ?_) ?_
    · go_simp
      refine hK20098.out _ _ ?hs20098 (fun hHeld20098 => ?_)
      case hs20098 => exact hHeld.below (below_new _ _)
      clear hHeld
      have hHeld := hHeld20098; clear hHeld20098 hK20098 K20098
      have hgx0 := hsz1
      have hb := below_new Y19 (.cells #[] 40)
      have hbs := hb.size
      replace HC1 := hide ((unhide HC1).below hb)
      replace HW1 := hide ((unhide HW1).below hb)
      replace HB1 := hide (Below.onto (unhide HB1) hb)
      replace hsz1 := Nat.le_trans hsz1 hbs
      replace RW := hide ((unhide RW).below hb)
      have RE := hide (Blk.new Y19 #[] 40)
      obtain ⟨ge, hgq⟩ : ∃ b, b = Y19.heap.size := ⟨_, rfl⟩
      rw [← hgq] at RE
      have hgx : xb + 1 ≤ ge := by omega
      have hbg : bw ≠ ge := by omega
      generalize Y19.alloc (.cells #[] 40) = Y20 at *
      clear hb
      refine wpAnyH_ready (rs := [2]) (by kernel_rfl) (by simp) ?_
      refine AllReadyH.cons rfl (fun K20099 hK20099 => ?_) AllReadyH.nil
      have z1 := (unhide HC1).cell 4
      have zf1 := (unhide HC1).froz 4
      have zl1 := (unhide HC1).lt
      simp at z1
      go_simp
      refine hK20099.out _ _ ?hs20099 (fun hHeld20099 => ?_)
      case hs20099 => exact hHeld
      clear hHeld
      have hHeld := hHeld20099; clear hHeld20099 hK20099 K20099
      clear z1 zf1 zl1
      refine wpAnyH_ready (rs := [3]) (by kernel_rfl) (by simp) ?_
      refine AllReadyH.cons rfl (fun K20100 hK20100 => ?_) AllReadyH.nil
      refine step_app0 rfl _ _ rfl Y20 ge q c.ws cap (by rw [hgq]; rfl) rfl (unhide RE) (unhide HW1) (by omega) (xb + 1) hgx ?_
      intro v1 Y22 ow1 gr1
      change K20100 (Act.put _ (some 110) _) _
      simp only [Act.put, List.setIfInBounds_toArray, List.set_cons_zero, List.set_cons_succ]
      refine hK20100.out _ _ ?hs20100 (fun hHeld20100 => ?_)
      case hs20100 => exact gr_blk hHeld gr1 (by omega)
      clear hHeld
      have hHeld := hHeld20100; clear hHeld20100 hK20100 K20100
      replace HB1 := hide (gr_below (unhide HB1) gr1 (by omega) (unhide HB1).size)
      replace HC1 := hide (gr_blk (unhide HC1) gr1 (by omega))
      replace hsz1 := Nat.le_trans hsz1 gr1.size
      have OW := hide ow1
      replace RW := hide (gr_blk (unhide RW) gr1 hbg)
      have hbs2 := gr1.size
      clear gr1 ow1 RE HW1
      refine wpAnyH_ready (rs := [8]) (by kernel_rfl) (by simp) ?_
      refine AllReadyH.cons rfl (fun K20101 hK20101 => ?_) AllReadyH.nil
      have hnv : some V.heap.size ≠ v1.ownBlock := fun e => by have h9 := ((unhide OW).lt _ e.symm).1; omega
      have hnx : some xb ≠ v1.ownBlock := fun e => by have h9 := ((unhide OW).lt _ e.symm).1; omega
      have hnews : ∀ j u, ([.string zz, .string ⟨#[]⟩, .bool false] : List Value)[j]? = some u → Y22.cell? (Addr.add ⟨bw, 0, none⟩ j) = some u := fun j u hj => by
        have e1 : Addr.add ⟨bw, 0, none⟩ j = ⟨bw, j, none⟩ := by simp [Addr.add]; exact fun h => h.symm
        rw [e1, (unhide RW).cell j]
        simpa using hj
      refine step_append_lies _ rfl _ _ 24 rfl (xb + 1) 40 i0 _ 3 40 Try.underlying24 hi hz0 hz1 hz2 rfl (by decide) v1 _ _ rfl (unhide OW) ⟨bw, 0, none⟩ 1 1 [.string zz, .string ⟨#[]⟩, .bool false] (by rw [hbq]; rfl) rfl hnews (by simp [Value.oneCell']) (by decide) (by unfold maxLen; omega) (by omega) hsz1 _ rfl ?_
      intro g2 cp2 w4 ow4 gr4 _ _
      change K20101 (Act.put _ (some 115) _) _
      simp only [Act.put, List.setIfInBounds_toArray, List.set_cons_zero, List.set_cons_succ]
      refine hK20101.out _ _ ?hs20101 (fun hHeld20101 => ?_)
      case hs20101 => exact (gr4.block _ hHeld.lt hnx).trans hHeld
      clear hHeld
      have hHeld := hHeld20101; clear hHeld20101 hK20101 K20101
      refine wpAnyH_take (i := 9) (oi := ?oi20102) (v := ?v20102) ?hi20102 (by kernel_rfl) (by kernel_rfl) (by kernel_rfl) (fun _ _ _ h => h) (Or.inl ⟨?hw20102, ?hy20102⟩) (by assumption) ?rest20102
      case hi20102 => (simp only [List.getElem?_toArray, List.getElem?_cons_zero, List.getElem?_cons_succ]; rfl)
      case hw20102 => rfl
      case hy20102 => first | (intro wx hSw; go_simp; done) | (intro wx hSw; go_simp; with_reducible rfl)
      simp only [Act.put, List.setIfInBounds_toArray, List.set_cons_zero, List.set_cons_succ]
      have k4 : Blk V.heap.size #[.int .i64 c.kind, .int .i64 c.id, .int .i64 c.txn, .bool c.com, .slice q c.ws.length cap, .string c.text] 26 w4 := (gr4.block _ (unhide HC1).lt hnv).trans (unhide HC1)
      have hB4 : Below V.heap.size V w4 := (unhide HB1).grown gr4 (unhide HB1).size (fun j e => by have h9 := ((unhide OW).lt _ e).1; omega)
      have l4 := k4.lt
      have z4 := k4.cell 4
      have zf4 := k4.froz 4
      simp at z4
      refine wpAnyH_ready (rs := [10]) (by kernel_rfl) (by simp) ?_
      refine AllReadyH.cons rfl (fun K20103 hK20103 => ?_) AllReadyH.nil
      go_simp
      refine hK20103.out _ _ ?hs20103 (fun hHeld20103 => ?_)
      case hs20103 => exact blk_far1 hHeld (by omega)
      clear hHeld
      have hHeld := hHeld20103; clear hHeld20103 hK20103 K20103
      refine wpAnyH_done (by kernel_rfl) ?_ _
      refine NoPanic.normal ?_
      skip
      exact unhide FIN g2 cp2 w4 _ (by kernel_rfl) ow4 k4 hB4
    refine AllReadyH.cons rfl (fun K20104 hK20104 => ?_) AllReadyH.nil
    · have z1 := (unhide HC1).cell 4
      have zf1 := (unhide HC1).froz 4
      have zl1 := (unhide HC1).lt
      simp at z1
      go_simp
      refine hK20104.out _ _ ?hs20104 (fun hHeld20104 => ?_)
      case hs20104 => exact hHeld
      clear hHeld
      have hHeld := hHeld20104; clear hHeld20104 hK20104 K20104
      clear z1 zf1 zl1
      refine wpAnyH_ready (rs := [0]) (by kernel_rfl) (by simp) ?_
      refine AllReadyH.cons rfl (fun K20105 hK20105 => ?_) AllReadyH.nil
      go_simp
      refine hK20105.out _ _ ?hs20105 (fun hHeld20105 => ?_)
      case hs20105 => exact hHeld.below (below_new _ _)
      clear hHeld
      have hHeld := hHeld20105; clear hHeld20105 hK20105 K20105
      have hgx0 := hsz1
      have hb := below_new Y19 (.cells #[] 40)
      have hbs := hb.size
      replace HC1 := hide ((unhide HC1).below hb)
      replace HW1 := hide ((unhide HW1).below hb)
      replace HB1 := hide (Below.onto (unhide HB1) hb)
      replace hsz1 := Nat.le_trans hsz1 hbs
      replace RW := hide ((unhide RW).below hb)
      have RE := hide (Blk.new Y19 #[] 40)
      obtain ⟨ge, hgq⟩ : ∃ b, b = Y19.heap.size := ⟨_, rfl⟩
      rw [← hgq] at RE
      have hgx : xb + 1 ≤ ge := by omega
      have hbg : bw ≠ ge := by omega
      generalize Y19.alloc (.cells #[] 40) = Y24 at *
      clear hb
      refine wpAnyH_ready (rs := [3]) (by kernel_rfl) (by simp) ?_
      refine AllReadyH.cons rfl (fun K20106 hK20106 => ?_) AllReadyH.nil
      refine step_app0 rfl _ _ rfl Y24 ge q c.ws cap (by rw [hgq]; rfl) rfl (unhide RE) (unhide HW1) (by omega) (xb + 1) hgx ?_
      intro v1 Y25 ow1 gr1
      change K20106 (Act.put _ (some 110) _) _
      simp only [Act.put, List.setIfInBounds_toArray, List.set_cons_zero, List.set_cons_succ]
      refine hK20106.out _ _ ?hs20106 (fun hHeld20106 => ?_)
      case hs20106 => exact gr_blk hHeld gr1 (by omega)
      clear hHeld
      have hHeld := hHeld20106; clear hHeld20106 hK20106 K20106
      replace HB1 := hide (gr_below (unhide HB1) gr1 (by omega) (unhide HB1).size)
      replace HC1 := hide (gr_blk (unhide HC1) gr1 (by omega))
      replace hsz1 := Nat.le_trans hsz1 gr1.size
      have OW := hide ow1
      replace RW := hide (gr_blk (unhide RW) gr1 hbg)
      have hbs2 := gr1.size
      clear gr1 ow1 RE HW1
      refine wpAnyH_ready (rs := [8]) (by kernel_rfl) (by simp) ?_
      refine AllReadyH.cons rfl (fun K20107 hK20107 => ?_) AllReadyH.nil
      have hnv : some V.heap.size ≠ v1.ownBlock := fun e => by have h9 := ((unhide OW).lt _ e.symm).1; omega
      have hnx : some xb ≠ v1.ownBlock := fun e => by have h9 := ((unhide OW).lt _ e.symm).1; omega
      have hnews : ∀ j u, ([.string zz, .string ⟨#[]⟩, .bool false] : List Value)[j]? = some u → Y25.cell? (Addr.add ⟨bw, 0, none⟩ j) = some u := fun j u hj => by
        have e1 : Addr.add ⟨bw, 0, none⟩ j = ⟨bw, j, none⟩ := by simp [Addr.add]; exact fun h => h.symm
        rw [e1, (unhide RW).cell j]
        simpa using hj
      refine step_append_lies _ rfl _ _ 24 rfl (xb + 1) 40 i0 _ 3 40 Try.underlying24 hi hz0 hz1 hz2 rfl (by decide) v1 _ _ rfl (unhide OW) ⟨bw, 0, none⟩ 1 1 [.string zz, .string ⟨#[]⟩, .bool false] (by rw [hbq]; rfl) rfl hnews (by simp [Value.oneCell']) (by decide) (by unfold maxLen; omega) (by omega) hsz1 _ rfl ?_
      intro g2 cp2 w4 ow4 gr4 _ _
      change K20107 (Act.put _ (some 115) _) _
      simp only [Act.put, List.setIfInBounds_toArray, List.set_cons_zero, List.set_cons_succ]
      refine hK20107.out _ _ ?hs20107 (fun hHeld20107 => ?_)
      case hs20107 => exact (gr4.block _ hHeld.lt hnx).trans hHeld
      clear hHeld
      have hHeld := hHeld20107; clear hHeld20107 hK20107 K20107
      refine wpAnyH_take (i := 9) (oi := ?oi20108) (v := ?v20108) ?hi20108 (by kernel_rfl) (by kernel_rfl) (by kernel_rfl) (fun _ _ _ h => h) (Or.inl ⟨?hw20108, ?hy20108⟩) (by assumption) ?rest20108
      case hi20108 => (simp only [List.getElem?_toArray, List.getElem?_cons_zero, List.getElem?_cons_succ]; rfl)
      case hw20108 => rfl
      case hy20108 => first | (intro wx hSw; go_simp; done) | (intro wx hSw; go_simp; with_reducible rfl)
      simp only [Act.put, List.setIfInBounds_toArray, List.set_cons_zero, List.set_cons_succ]
      have k4 : Blk V.heap.size #[.int .i64 c.kind, .int .i64 c.id, .int .i64 c.txn, .bool c.com, .slice q c.ws.length cap, .string c.text] 26 w4 := (gr4.block _ (unhide HC1).lt hnv).trans (unhide HC1)
      have hB4 : Below V.heap.size V w4 := (unhide HB1).grown gr4 (unhide HB1).size (fun j e => by have h9 := ((unhide OW).lt _ e).1; omega)
      have l4 := k4.lt
      have z4 := k4.cell 4
      have zf4 := k4.froz 4
      simp at z4
      refine wpAnyH_ready (rs := [10]) (by kernel_rfl) (by simp) ?_
      refine AllReadyH.cons rfl (fun K20109 hK20109 => ?_) AllReadyH.nil
      go_simp
      refine hK20109.out _ _ ?hs20109 (fun hHeld20109 => ?_)
      case hs20109 => exact blk_far1 hHeld (by omega)
      clear hHeld
      have hHeld := hHeld20109; clear hHeld20109 hK20109 K20109
      refine wpAnyH_done (by kernel_rfl) ?_ _
      refine NoPanic.normal ?_
      skip
      exact unhide FIN g2 cp2 w4 _ (by kernel_rfl) ow4 k4 hB4
end Go.Proofs.Ytjmmfgmmmdbenaa

namespace Go.Proofs.Ytjmmfgmmmdbenaa
open Go.RowKit
set_option linter.unusedSimpArgs false
set_option linter.unusedVariables false

set_option maxRecDepth 100000 in
set_option maxHeartbeats 16000000 in
theorem right_sw7 {r0 r1 r2 r3 r4 rest : Code} (hc : Try.f5.body = some (.seq r0 (.seq r1 (.seq r2 (.seq r3 (.seq r4 rest)))))) (w : World) (s : ByteArray) (which vv form : Int) (ac : Act) (b9 : Nat) (V X : World) (ha : ac = ⟨#[ac.tmps.getD 0 undef, ac.tmps.getD 1 undef, ac.tmps.getD 2 undef, ac.tmps.getD 3 undef, ac.tmps.getD 4 undef, .string s, .int .i64 which, .int .i64 vv, .int .i64 form, .pointer (some ⟨b9, 0, none⟩), ac.tmps.getD 10 undef, ac.tmps.getD 11 undef, ac.tmps.getD 12 undef, ac.tmps.getD 13 undef, ac.tmps.getD 14 undef, ac.tmps.getD 15 undef, ac.tmps.getD 16 undef, ac.tmps.getD 17 undef, .bool false, .pointer (some ⟨V.heap.size, 0, none⟩), ac.tmps.getD 20 undef, ac.tmps.getD 21 undef, ac.tmps.getD 22 undef, ac.tmps.getD 23 undef, ac.tmps.getD 24 undef, ac.tmps.getD 25 undef, ac.tmps.getD 26 undef, ac.tmps.getD 27 undef, ac.tmps.getD 28 undef, ac.tmps.getD 29 undef, ac.tmps.getD 30 undef, ac.tmps.getD 31 undef, ac.tmps.getD 32 undef, ac.tmps.getD 33 undef, ac.tmps.getD 34 undef, ac.tmps.getD 35 undef, ac.tmps.getD 36 undef, ac.tmps.getD 37 undef, ac.tmps.getD 38 undef, ac.tmps.getD 39 undef, ac.tmps.getD 40 undef, ac.tmps.getD 41 undef, ac.tmps.getD 42 undef, ac.tmps.getD 43 undef, ac.tmps.getD 44 undef, ac.tmps.getD 45 undef, ac.tmps.getD 46 undef, ac.tmps.getD 47 undef, ac.tmps.getD 48 undef, ac.tmps.getD 49 undef, ac.tmps.getD 50 undef, ac.tmps.getD 51 undef, ac.tmps.getD 52 undef, ac.tmps.getD 53 undef, ac.tmps.getD 54 undef, ac.tmps.getD 55 undef, ac.tmps.getD 56 undef, ac.tmps.getD 57 undef, ac.tmps.getD 58 undef, ac.tmps.getD 59 undef, ac.tmps.getD 60 undef, ac.tmps.getD 61 undef, ac.tmps.getD 62 undef, ac.tmps.getD 63 undef, ac.tmps.getD 64 undef, ac.tmps.getD 65 undef, ac.tmps.getD 66 undef, ac.tmps.getD 67 undef, ac.tmps.getD 68 undef, ac.tmps.getD 69 undef, ac.tmps.getD 70 undef, ac.tmps.getD 71 undef, ac.tmps.getD 72 undef, ac.tmps.getD 73 undef, ac.tmps.getD 74 undef, ac.tmps.getD 75 undef, ac.tmps.getD 76 undef, ac.tmps.getD 77 undef, ac.tmps.getD 78 undef, ac.tmps.getD 79 undef, ac.tmps.getD 80 undef, ac.tmps.getD 81 undef, ac.tmps.getD 82 undef, ac.tmps.getD 83 undef, ac.tmps.getD 84 undef, ac.tmps.getD 85 undef, ac.tmps.getD 86 undef, ac.tmps.getD 87 undef, ac.tmps.getD 88 undef, ac.tmps.getD 89 undef, ac.tmps.getD 90 undef, ac.tmps.getD 91 undef, ac.tmps.getD 92 undef, ac.tmps.getD 93 undef, ac.tmps.getD 94 undef, ac.tmps.getD 95 undef, ac.tmps.getD 96 undef, ac.tmps.getD 97 undef, ac.tmps.getD 98 undef, ac.tmps.getD 99 undef, ac.tmps.getD 100 undef, ac.tmps.getD 101 undef, ac.tmps.getD 102 undef, ac.tmps.getD 103 undef, ac.tmps.getD 104 undef, ac.tmps.getD 105 undef, ac.tmps.getD 106 undef, ac.tmps.getD 107 undef, ac.tmps.getD 108 undef, ac.tmps.getD 109 undef, ac.tmps.getD 110 undef, ac.tmps.getD 111 undef, ac.tmps.getD 112 undef, ac.tmps.getD 113 undef, ac.tmps.getD 114 undef, ac.tmps.getD 115 undef, ac.tmps.getD 116 undef, ac.tmps.getD 117 undef, ac.tmps.getD 118 undef, ac.tmps.getD 119 undef, ac.tmps.getD 120 undef, ac.tmps.getD 121 undef, ac.tmps.getD 122 undef, ac.tmps.getD 123 undef, ac.tmps.getD 124 undef, ac.tmps.getD 125 undef, ac.tmps.getD 126 undef, ac.tmps.getD 127 undef, ac.tmps.getD 128 undef, ac.tmps.getD 129 undef, ac.tmps.getD 130 undef, ac.tmps.getD 131 undef, ac.tmps.getD 132 undef, ac.tmps.getD 133 undef, ac.tmps.getD 134 undef, ac.tmps.getD 135 undef, ac.tmps.getD 136 undef, ac.tmps.getD 137 undef, ac.tmps.getD 138 undef, ac.tmps.getD 139 undef, ac.tmps.getD 140 undef, ac.tmps.getD 141 undef, ac.tmps.getD 142 undef, ac.tmps.getD 143 undef, ac.tmps.getD 144 undef, ac.tmps.getD 145 undef, ac.tmps.getD 146 undef, ac.tmps.getD 147 undef, ac.tmps.getD 148 undef, ac.tmps.getD 149 undef, ac.tmps.getD 150 undef, ac.tmps.getD 151 undef, ac.tmps.getD 152 undef, ac.tmps.getD 153 undef, ac.tmps.getD 154 undef, ac.tmps.getD 155 undef, ac.tmps.getD 156 undef, ac.tmps.getD 157 undef, ac.tmps.getD 158 undef, ac.tmps.getD 159 undef, ac.tmps.getD 160 undef, ac.tmps.getD 161 undef, ac.tmps.getD 162 undef, ac.tmps.getD 163 undef, ac.tmps.getD 164 undef, ac.tmps.getD 165 undef, ac.tmps.getD 166 undef, ac.tmps.getD 167 undef, ac.tmps.getD 168 undef, ac.tmps.getD 169 undef, ac.tmps.getD 170 undef, ac.tmps.getD 171 undef, ac.tmps.getD 172 undef, ac.tmps.getD 173 undef, ac.tmps.getD 174 undef, ac.tmps.getD 175 undef, ac.tmps.getD 176 undef, ac.tmps.getD 177 undef, ac.tmps.getD 178 undef, ac.tmps.getD 179 undef, ac.tmps.getD 180 undef, ac.tmps.getD 181 undef, ac.tmps.getD 182 undef, ac.tmps.getD 183 undef, ac.tmps.getD 184 undef, ac.tmps.getD 185 undef, ac.tmps.getD 186 undef, ac.tmps.getD 187 undef, ac.tmps.getD 188 undef, ac.tmps.getD 189 undef, ac.tmps.getD 190 undef, ac.tmps.getD 191 undef, ac.tmps.getD 192 undef, ac.tmps.getD 193 undef, ac.tmps.getD 194 undef, ac.tmps.getD 195 undef, ac.tmps.getD 196 undef], []⟩) (c d : Cm) (q q2 : Option Addr) (cap cap2 : Nat) (g : GoodC c) (HC : Hid (Blk V.heap.size #[.int .i64 c.kind, .int .i64 c.id, .int .i64 c.txn, .bool c.com, .slice q c.ws.length cap, .string c.text] 26 X)) (HD : Hid (Blk b9 #[.int .i64 d.kind, .int .i64 d.id, .int .i64 d.txn, .bool d.com, .slice q2 d.ws.length cap2, .string d.text] 26 V)) (HW : Hid (WsV q c.ws V)) (HV : Hid (WsV q2 d.ws V)) (HBV : Hid (Below V.heap.size V X)) (HB : Hid (Below w.heap.size w V)) (kw : Is64 which) (kv : Is64 vv) (hs : s.size ≤ 60) (K : Act → World → Prop) (Q : Exit → Act → World → Prop) (hK : Hid (After K w form b9 V d q2 cap2)) (hj : which % 9 = 7) : r4.wp Try.prog (Exit.then K Q) ac X := by
  obtain ⟨u, rfl⟩ : ∃ u : Nat → Value, ac = ⟨#[u 0, u 1, u 2, u 3, u 4, .string s, .int .i64 which, .int .i64 vv, .int .i64 form, .pointer (some ⟨b9, 0, none⟩), u 10, u 11, u 12, u 13, u 14, u 15, u 16, u 17, .bool false, .pointer (some ⟨V.heap.size, 0, none⟩), u 20, u 21, u 22, u 23, u 24, u 25, u 26, u 27, u 28, u 29, u 30, u 31, u 32, u 33, u 34, u 35, u 36, u 37, u 38, u 39, u 40, u 41, u 42, u 43, u 44, u 45, u 46, u 47, u 48, u 49, u 50, u 51, u 52, u 53, u 54, u 55, u 56, u 57, u 58, u 59, u 60, u 61, u 62, u 63, u 64, u 65, u 66, u 67, u 68, u 69, u 70, u 71, u 72, u 73, u 74, u 75, u 76, u 77, u 78, u 79, u 80, u 81, u 82, u 83, u 84, u 85, u 86, u 87, u 88, u 89, u 90, u 91, u 92, u 93, u 94, u 95, u 96, u 97, u 98, u 99, u 100, u 101, u 102, u 103, u 104, u 105, u 106, u 107, u 108, u 109, u 110, u 111, u 112, u 113, u 114, u 115, u 116, u 117, u 118, u 119, u 120, u 121, u 122, u 123, u 124, u 125, u 126, u 127, u 128, u 129, u 130, u 131, u 132, u 133, u 134, u 135, u 136, u 137, u 138, u 139, u 140, u 141, u 142, u 143, u 144, u 145, u 146, u 147, u 148, u 149, u 150, u 151, u 152, u 153, u 154, u 155, u 156, u 157, u 158, u 159, u 160, u 161, u 162, u 163, u 164, u 165, u 166, u 167, u 168, u 169, u 170, u 171, u 172, u 173, u 174, u 175, u 176, u 177, u 178, u 179, u 180, u 181, u 182, u 183, u 184, u 185, u 186, u 187, u 188, u 189, u 190, u 191, u 192, u 193, u 194, u 195, u 196], []⟩ := ⟨fun i => ac.tmps.getD i undef, ha⟩
  clear ha
  unfold Try.f5 at hc
  cases hc
  have WJ := hide (fun W => within7_at kw (by decide) hj W)
  clear hj
  have k1_ := unhide HC
  have lc := k1_.lt
  have x0_ := k1_.cell 0
  have xf0_ := k1_.froz 0
  have x1_ := k1_.cell 1
  have xf1_ := k1_.froz 1
  have x2_ := k1_.cell 2
  have xf2_ := k1_.froz 2
  have x3_ := k1_.cell 3
  have xf3_ := k1_.froz 3
  have x4_ := k1_.cell 4
  have xf4_ := k1_.froz 4
  have x5_ := k1_.cell 5
  have xf5_ := k1_.froz 5
  simp at x0_ x1_ x2_ x3_ x4_ x5_
  obtain ⟨jj, hjj⟩ : ∃ j : Nat, vv % 8 = (j : Int) := ⟨(vv % 8).toNat, by omega⟩
  have hj8 : jj < 8 := by omega
  have WV := hide (fun W => within7_at kv (by decide) hjj W)
  have hw1 : IntKind.i64.wrap (3996 + (jj : Int)) = ((3996 + jj : Nat) : Int) := (IntWalk.i64_in _ (by omega)).trans (by omega)
  obtain ⟨N, hN⟩ : ∃ N : Nat, N = 3996 + jj := ⟨_, rfl⟩
  have hNi : 3996 + (jj : Int) = (N : Int) := by omega
  have hN2 : N ≤ 10000 := by omega
  obtain ⟨BY, zz, hzz, MK, CV9⟩ := bytes_made N (by omega)
  have CVH := hide CV9
  have hlen := g.fine.len
  have hlen2 : c.ws.length ≤ 1000 := (rightC_of g.right).2.2.2.2.1
  have f := g.fineW
  have hF : Hid (FineW ⟨c.kind, c.id, c.txn, c.com, c.ws ++ [⟨⟨#[107]⟩, zz, false⟩], c.text⟩) := hide ⟨f.kind, f.id, f.txn, by show (c.ws ++ [_]).length ≤ _; simp; omega, fun x hx => by
    rcases List.mem_append.1 hx with hx | hx
    · exact f.ws x hx
    · simp at hx; subst hx; exact ⟨by show ByteArray.size ⟨#[107]⟩ ≤ _; decide, by show ByteArray.size zz ≤ _; rw [hzz]; omega⟩, f.text⟩
  have hge : V.heap.size < X.heap.size := lc
  have hb0 := below_new X (.cells BY 5)
  have HE := hide (Blk.new X BY 5)
  have HC1 := hide (k1_.below hb0)
  have HW1 := hide (((unhide HW).below (unhide HBV)).below hb0)
  have HB1 := hide (Below.onto (unhide HBV) hb0)
  have hsz1 : X.heap.size + 1 ≤ (X.alloc (.cells BY 5)).heap.size := by simp
  obtain ⟨i0, hi, hz0, hz1, hz2⟩ := info_parts info_wt
  clear hjj f g hb0 CV9 hN hzz k1_
  clear x0_ x1_ x2_ x3_ x4_ x5_ xf0_ xf1_ xf2_ xf3_ xf4_ xf5_
  clear HC HW HBV
  go_wp2_with (first | (go_at_call_of 15 (Value.int IntKind.i64 which); refine (unhide WJ _).mono ?_; rintro e X2 ⟨rfl, hX2⟩; replace hX2 := hX2.symm; subst hX2) | (go_at_call 15; refine (unhide WV _).mono ?_; rintro e X2 ⟨rfl, hX2⟩; replace hX2 := hX2.symm; subst hX2))
  clear MK
  generalize X.heap.size = xb at *
  generalize X.alloc (.cells BY 5) = Y at *
  have FIN : Hid (∀ (g2 cp2 : Nat) (w4 : World) (ac' : Act), ac' = ⟨#[ac'.tmps.getD 0 undef, ac'.tmps.getD 1 undef, ac'.tmps.getD 2 undef, ac'.tmps.getD 3 undef, ac'.tmps.getD 4 undef, ac'.tmps.getD 5 undef, ac'.tmps.getD 6 undef, ac'.tmps.getD 7 undef, .int .i64 form, .pointer (some ⟨b9, 0, none⟩), ac'.tmps.getD 10 undef, ac'.tmps.getD 11 undef, ac'.tmps.getD 12 undef, ac'.tmps.getD 13 undef, ac'.tmps.getD 14 undef, ac'.tmps.getD 15 undef, ac'.tmps.getD 16 undef, ac'.tmps.getD 17 undef, .bool false, .pointer (some ⟨V.heap.size, 0, none⟩), ac'.tmps.getD 20 undef, ac'.tmps.getD 21 undef, ac'.tmps.getD 22 undef, ac'.tmps.getD 23 undef, ac'.tmps.getD 24 undef, ac'.tmps.getD 25 undef, ac'.tmps.getD 26 undef, ac'.tmps.getD 27 undef, ac'.tmps.getD 28 undef, ac'.tmps.getD 29 undef, ac'.tmps.getD 30 undef, ac'.tmps.getD 31 undef, ac'.tmps.getD 32 undef, ac'.tmps.getD 33 undef, ac'.tmps.getD 34 undef, ac'.tmps.getD 35 undef, ac'.tmps.getD 36 undef, ac'.tmps.getD 37 undef, ac'.tmps.getD 38 undef, ac'.tmps.getD 39 undef, ac'.tmps.getD 40 undef, ac'.tmps.getD 41 undef, ac'.tmps.getD 42 undef, ac'.tmps.getD 43 undef, ac'.tmps.getD 44 undef, ac'.tmps.getD 45 undef, ac'.tmps.getD 46 undef, ac'.tmps.getD 47 undef, ac'.tmps.getD 48 undef, ac'.tmps.getD 49 undef, ac'.tmps.getD 50 undef, ac'.tmps.getD 51 undef, ac'.tmps.getD 52 undef, ac'.tmps.getD 53 undef, ac'.tmps.getD 54 undef, ac'.tmps.getD 55 undef, ac'.tmps.getD 56 undef, ac'.tmps.getD 57 undef, ac'.tmps.getD 58 undef, ac'.tmps.getD 59 undef, ac'.tmps.getD 60 undef, ac'.tmps.getD 61 undef, ac'.tmps.getD 62 undef, ac'.tmps.getD 63 undef, ac'.tmps.getD 64 undef, ac'.tmps.getD 65 undef, ac'.tmps.getD 66 undef, ac'.tmps.getD 67 undef, ac'.tmps.getD 68 undef, ac'.tmps.getD 69 undef, ac'.tmps.getD 70 undef, ac'.tmps.getD 71 undef, ac'.tmps.getD 72 undef, ac'.tmps.getD 73 undef, ac'.tmps.getD 74 undef, ac'.tmps.getD 75 undef, ac'.tmps.getD 76 undef, ac'.tmps.getD 77 undef, ac'.tmps.getD 78 undef, ac'.tmps.getD 79 undef, ac'.tmps.getD 80 undef, ac'.tmps.getD 81 undef, ac'.tmps.getD 82 undef, ac'.tmps.getD 83 undef, ac'.tmps.getD 84 undef, ac'.tmps.getD 85 undef, ac'.tmps.getD 86 undef, ac'.tmps.getD 87 undef, ac'.tmps.getD 88 undef, ac'.tmps.getD 89 undef, ac'.tmps.getD 90 undef, ac'.tmps.getD 91 undef, ac'.tmps.getD 92 undef, ac'.tmps.getD 93 undef, ac'.tmps.getD 94 undef, ac'.tmps.getD 95 undef, ac'.tmps.getD 96 undef, ac'.tmps.getD 97 undef, ac'.tmps.getD 98 undef, ac'.tmps.getD 99 undef, ac'.tmps.getD 100 undef, ac'.tmps.getD 101 undef, ac'.tmps.getD 102 undef, ac'.tmps.getD 103 undef, ac'.tmps.getD 104 undef, ac'.tmps.getD 105 undef, ac'.tmps.getD 106 undef, ac'.tmps.getD 107 undef, ac'.tmps.getD 108 undef, ac'.tmps.getD 109 undef, ac'.tmps.getD 110 undef, ac'.tmps.getD 111 undef, ac'.tmps.getD 112 undef, ac'.tmps.getD 113 undef, ac'.tmps.getD 114 undef, ac'.tmps.getD 115 undef, ac'.tmps.getD 116 undef, ac'.tmps.getD 117 undef, ac'.tmps.getD 118 undef, ac'.tmps.getD 119 undef, ac'.tmps.getD 120 undef, ac'.tmps.getD 121 undef, ac'.tmps.getD 122 undef, ac'.tmps.getD 123 undef, ac'.tmps.getD 124 undef, ac'.tmps.getD 125 undef, ac'.tmps.getD 126 undef, ac'.tmps.getD 127 undef, ac'.tmps.getD 128 undef, ac'.tmps.getD 129 undef, ac'.tmps.getD 130 undef, ac'.tmps.getD 131 undef, ac'.tmps.getD 132 undef, ac'.tmps.getD 133 undef, ac'.tmps.getD 134 undef, ac'.tmps.getD 135 undef, ac'.tmps.getD 136 undef, ac'.tmps.getD 137 undef, ac'.tmps.getD 138 undef, ac'.tmps.getD 139 undef, ac'.tmps.getD 140 undef, ac'.tmps.getD 141 undef, ac'.tmps.getD 142 undef, ac'.tmps.getD 143 undef, ac'.tmps.getD 144 undef, ac'.tmps.getD 145 undef, ac'.tmps.getD 146 undef, ac'.tmps.getD 147 undef, ac'.tmps.getD 148 undef, ac'.tmps.getD 149 undef, ac'.tmps.getD 150 undef, ac'.tmps.getD 151 undef, ac'.tmps.getD 152 undef, ac'.tmps.getD 153 undef, ac'.tmps.getD 154 undef, ac'.tmps.getD 155 undef, ac'.tmps.getD 156 undef, ac'.tmps.getD 157 undef, ac'.tmps.getD 158 undef, ac'.tmps.getD 159 undef, ac'.tmps.getD 160 undef, ac'.tmps.getD 161 undef, ac'.tmps.getD 162 undef, ac'.tmps.getD 163 undef, ac'.tmps.getD 164 undef, ac'.tmps.getD 165 undef, ac'.tmps.getD 166 undef, ac'.tmps.getD 167 undef, ac'.tmps.getD 168 undef, ac'.tmps.getD 169 undef, ac'.tmps.getD 170 undef, ac'.tmps.getD 171 undef, ac'.tmps.getD 172 undef, ac'.tmps.getD 173 undef, ac'.tmps.getD 174 undef, ac'.tmps.getD 175 undef, ac'.tmps.getD 176 undef, ac'.tmps.getD 177 undef, ac'.tmps.getD 178 undef, ac'.tmps.getD 179 undef, ac'.tmps.getD 180 undef, ac'.tmps.getD 181 undef, ac'.tmps.getD 182 undef, ac'.tmps.getD 183 undef, ac'.tmps.getD 184 undef, ac'.tmps.getD 185 undef, ac'.tmps.getD 186 undef, ac'.tmps.getD 187 undef, ac'.tmps.getD 188 undef, ac'.tmps.getD 189 undef, ac'.tmps.getD 190 undef, ac'.tmps.getD 191 undef, ac'.tmps.getD 192 undef, ac'.tmps.getD 193 undef, ac'.tmps.getD 194 undef, ac'.tmps.getD 195 undef, ac'.tmps.getD 196 undef], []⟩ → w4.ownsRow (xb + 1) 40 3 (.slice (some ⟨g2, 0, none⟩) (c.ws.length + 1) cp2) (c.ws.length + 1) (wcells c.ws ++ [.string ⟨#[107]⟩, .string zz, .bool false]) → Blk V.heap.size #[.int .i64 c.kind, .int .i64 c.id, .int .i64 c.txn, .bool c.com, .slice q c.ws.length cap, .string c.text] 26 w4 → Below V.heap.size V w4 → K ac' (w4.setCell ⟨V.heap.size, 4, none⟩ (.slice (some ⟨g2, 0, none⟩) (c.ws.length + 1) cp2))) := hide (fun g2 cp2 w4 ac' hac ow4 k4 hB4 => by
    have HX := hide (hB4.setCell (p := ⟨V.heap.size, 4, none⟩) (Nat.le_refl _) (.slice (some ⟨g2, 0, none⟩) (c.ws.length + 1) cp2))
    have hrow := ownsRow_setCell_below (a := ⟨V.heap.size, 4, none⟩) ow4 (by show V.heap.size < _; omega) (.slice (some ⟨g2, 0, none⟩) (c.ws.length + 1) cp2)
    have hl1 : (c.ws ++ [(⟨⟨#[107]⟩, zz, false⟩ : Wt)]).length = c.ws.length + 1 := by simp
    have hrow2 : (w4.setCell ⟨V.heap.size, 4, none⟩ (.slice (some ⟨g2, 0, none⟩) (c.ws.length + 1) cp2)).ownsRow (xb + 1) 40 3 (.slice (some ⟨g2, 0, none⟩) (c.ws ++ [(⟨⟨#[107]⟩, zz, false⟩ : Wt)]).length cp2) (c.ws ++ [(⟨⟨#[107]⟩, zz, false⟩ : Wt)]).length (wcells (c.ws ++ [⟨⟨#[107]⟩, zz, false⟩])) := by
      rw [hl1, wcells_snoc]; exact hrow
    have HS := k4.set 4 (.slice (some ⟨g2, 0, none⟩) (c.ws.length + 1) cp2)
    have HS2 : Hid (Blk V.heap.size #[.int .i64 c.kind, .int .i64 c.id, .int .i64 c.txn, .bool c.com, .slice (some ⟨g2, 0, none⟩) (c.ws ++ [(⟨⟨#[107]⟩, zz, false⟩ : Wt)]).length cp2, .string c.text] 26 (w4.setCell ⟨V.heap.size, 4, none⟩ (.slice (some ⟨g2, 0, none⟩) (c.ws.length + 1) cp2))) := by
      show Blk _ _ _ _
      rw [hl1]; exact HS
    exact unhide hK ac' ⟨c.kind, c.id, c.txn, c.com, c.ws ++ [⟨⟨#[107]⟩, zz, false⟩], c.text⟩ (some ⟨g2, 0, none⟩) cp2 _ hac HS2 (hide ((unhide HD).below (unhide HX))) (hide (row_wsv hrow2)) (hide ((unhide HV).below (unhide HX))) hF (hide (Below.onto (unhide HB) (unhide HX))))
  clear hK hF HV HD HB
  have hbd : Below Y.heap.size Y Y.drew := (Below.refl _ _).drew
  refine wp_region_noPanic ?_
  refine wp_region_held_drew (S := (fun W => Blk xb BY 5 W)) (by kernel_rfl) ((unhide HE).below hbd) (fun hHeld => ?_)
  replace HC1 := hide ((unhide HC1).below hbd)
  replace HW1 := hide ((unhide HW1).below hbd)
  replace HB1 := hide (Below.onto (unhide HB1) hbd)
  replace hsz1 := Nat.le_trans hsz1 hbd.size
  clear hbd HE
  revert hHeld
  generalize Y.drew = Yd at *
  intro hHeld
  refine wpAnyH_take (i := 1) (oi := ?oi20110) (v := ?v20110) ?hi20110 (by kernel_rfl) (by kernel_rfl) (by kernel_rfl) (fun _ _ _ h => h) (Or.inl ⟨?hw20110, ?hy20110⟩) (by assumption) ?rest20110
  case hi20110 => (simp only [List.getElem?_toArray, List.getElem?_cons_zero, List.getElem?_cons_succ]; rfl)
  case hw20110 => rfl
  case hy20110 => first | (intro wx hSw; go_simp; done) | (intro wx hSw; go_simp; with_reducible rfl)
  simp only [Act.put, List.setIfInBounds_toArray, List.set_cons_zero, List.set_cons_succ]
  refine wpAnyH_take (i := 4) (oi := ?oi20111) (v := ?v20111) ?hi20111 (by kernel_rfl) (by kernel_rfl) (by kernel_rfl) (fun _ _ _ h => h) (Or.inl ⟨?hw20111, ?hy20111⟩) (by assumption) ?rest20111
  case hi20111 => (simp only [List.getElem?_toArray, List.getElem?_cons_zero, List.getElem?_cons_succ]; rfl)
  case hw20111 => rfl
  case hy20111 => first | (intro wx hSw; go_simp; done) | (intro wx hSw; go_simp; with_reducible rfl)
  simp only [Act.put, List.setIfInBounds_toArray, List.set_cons_zero, List.set_cons_succ]
  refine wpAnyH_take (i := 5) (oi := ?oi20112) (v := ?v20112) ?hi20112 (by kernel_rfl) (by kernel_rfl) (by kernel_rfl) (fun _ _ _ h => h) (Or.inl ⟨?hw20112, ?hy20112⟩) (by assumption) ?rest20112
  case hi20112 => (simp only [List.getElem?_toArray, List.getElem?_cons_zero, List.getElem?_cons_succ]; rfl)
  case hw20112 => rfl
  case hy20112 => first | (intro wx hSw; have hcv := unhide CVH _ _ hSw; go_simp; done) | (intro wx hSw; have hcv := unhide CVH _ _ hSw; go_simp; with_reducible rfl)
  simp only [Act.put, List.setIfInBounds_toArray, List.set_cons_zero, List.set_cons_succ]
  refine wpAnyH_take (i := 6) (oi := ?oi20113) (v := ?v20113) ?hi20113 (by kernel_rfl) (by kernel_rfl) (by kernel_rfl) (fun _ _ _ h => h) (Or.inl ⟨?hw20113, ?hy20113⟩) (by assumption) ?rest20113
  case hi20113 => (simp only [List.getElem?_toArray, List.getElem?_cons_zero, List.getElem?_cons_succ]; rfl)
  case hw20113 => rfl
  case hy20113 => first | (intro wx hSw; go_simp; done) | (intro wx hSw; go_simp; with_reducible rfl)
  simp only [Act.put, List.setIfInBounds_toArray, List.set_cons_zero, List.set_cons_succ]
  refine wpAnyH_ready (rs := [0, 2, 7]) (by kernel_rfl) (by simp) ?_
  refine AllReadyH.cons rfl (fun K20114 hK20114 => ?_) ?_
  · go_simp
    refine hK20114.out _ _ ?hs20114 (fun hHeld20114 => ?_)
    case hs20114 => exact hHeld.below (below_new _ _)
    clear hHeld
    have hHeld := hHeld20114; clear hHeld20114 hK20114 K20114
    have hgx0 := hsz1
    have hb := below_new Yd (.cells #[] 40)
    have hbs := hb.size
    replace HC1 := hide ((unhide HC1).below hb)
    replace HW1 := hide ((unhide HW1).below hb)
    replace HB1 := hide (Below.onto (unhide HB1) hb)
    replace hsz1 := Nat.le_trans hsz1 hbs
    have RE := hide (Blk.new Yd #[] 40)
    obtain ⟨ge, hgq⟩ : ∃ b, b = Yd.heap.size := ⟨_, rfl⟩
    rw [← hgq] at RE
    have hgx : xb + 1 ≤ ge := by omega
    generalize Yd.alloc (.cells #[] 40) = Y26 at *
    clear hb
    refine wpAnyH_ready (rs := [2, 7]) (by kernel_rfl) (by simp) ?_
    refine AllReadyH.cons rfl (fun K20115 hK20115 => ?_) ?_
    · have z1 := (unhide HC1).cell 4
      have zf1 := (unhide HC1).froz 4
      have zl1 := (unhide HC1).lt
      simp at z1
      go_simp
      refine hK20115.out _ _ ?hs20115 (fun hHeld20115 => ?_)
      case hs20115 => exact hHeld
      clear hHeld
      have hHeld := hHeld20115; clear hHeld20115 hK20115 K20115
      clear z1 zf1 zl1
      refine wpAnyH_ready (rs := [3, 7]) (by kernel_rfl) (by simp) ?_
      refine AllReadyH.cons rfl (fun K20116 hK20116 => ?_) ?_
      · refine step_app0 rfl _ _ rfl Y26 ge q c.ws cap (by rw [hgq]; rfl) rfl (unhide RE) (unhide HW1) (by omega) (xb + 1) hgx ?_
        intro v1 Y28 ow1 gr1
        change K20116 (Act.put _ (some 126) _) _
        simp only [Act.put, List.setIfInBounds_toArray, List.set_cons_zero, List.set_cons_succ]
        refine hK20116.out _ _ ?hs20116 (fun hHeld20116 => ?_)
        case hs20116 => exact gr_blk hHeld gr1 (by omega)
        clear hHeld
        have hHeld := hHeld20116; clear hHeld20116 hK20116 K20116
        replace HB1 := hide (gr_below (unhide HB1) gr1 (by omega) (unhide HB1).size)
        replace HC1 := hide (gr_blk (unhide HC1) gr1 (by omega))
        replace hsz1 := Nat.le_trans hsz1 gr1.size
        have OW := hide ow1
        clear gr1 ow1 RE HW1
        refine wpAnyH_ready (rs := [7]) (by kernel_rfl) (by simp) ?_
        refine AllReadyH.cons rfl (fun K20117 hK20117 => ?_) AllReadyH.nil
        go_simp
        refine hK20117.out _ _ ?hs20117 (fun hHeld20117 => ?_)
        case hs20117 => exact hHeld.below (below_new _ _)
        clear hHeld
        have hHeld := hHeld20117; clear hHeld20117 hK20117 K20117
        have hb := below_new Y28 (.cells #[.string ⟨#[107]⟩, .string zz, .bool false] 40)
        have hbs := hb.size
        replace HC1 := hide ((unhide HC1).below hb)
        replace HB1 := hide (Below.onto (unhide HB1) hb)
        replace hsz1 := Nat.le_trans hsz1 hbs
        replace OW := hide ((unhide OW).alloc (.cells #[.string ⟨#[107]⟩, .string zz, .bool false] 40))
        have RW := hide (Blk.new Y28 #[.string ⟨#[107]⟩, .string zz, .bool false] 40)
        obtain ⟨bw, hbq⟩ : ∃ b, b = Y28.heap.size := ⟨_, rfl⟩
        rw [← hbq] at RW
        have hsY : Y28.heap.size < (Y28.alloc (.cells #[.string ⟨#[107]⟩, .string zz, .bool false] 40)).heap.size := by simp
        generalize Y28.alloc (.cells #[.string ⟨#[107]⟩, .string zz, .bool false] 40) = Y29 at *
        clear hb
        refine wpAnyH_ready (rs := [8]) (by kernel_rfl) (by simp) ?_
        refine AllReadyH.cons rfl (fun K20118 hK20118 => ?_) AllReadyH.nil
        have hnv : some V.heap.size ≠ v1.ownBlock := fun e => by have h9 := ((unhide OW).lt _ e.symm).1; omega
        have hnx : some xb ≠ v1.ownBlock := fun e => by have h9 := ((unhide OW).lt _ e.symm).1; omega
        have hnews : ∀ j u, ([.string ⟨#[107]⟩, .string zz, .bool false] : List Value)[j]? = some u → Y29.cell? (Addr.add ⟨bw, 0, none⟩ j) = some u := fun j u hj => by
          have e1 : Addr.add ⟨bw, 0, none⟩ j = ⟨bw, j, none⟩ := by simp [Addr.add]; exact fun h => h.symm
          rw [e1, (unhide RW).cell j]
          simpa using hj
        refine step_append_lies _ rfl _ _ 24 rfl (xb + 1) 40 i0 _ 3 40 Try.underlying24 hi hz0 hz1 hz2 rfl (by decide) v1 _ _ rfl (unhide OW) ⟨bw, 0, none⟩ 1 1 [.string ⟨#[107]⟩, .string zz, .bool false] (by rw [hbq]; rfl) rfl hnews (by simp [Value.oneCell']) (by decide) (by unfold maxLen; omega) (by omega) hsz1 _ rfl ?_
        intro g2 cp2 w4 ow4 gr4 _ _
        change K20118 (Act.put _ (some 131) _) _
        simp only [Act.put, List.setIfInBounds_toArray, List.set_cons_zero, List.set_cons_succ]
        refine hK20118.out _ _ ?hs20118 (fun hHeld20118 => ?_)
        case hs20118 => exact (gr4.block _ hHeld.lt hnx).trans hHeld
        clear hHeld
        have hHeld := hHeld20118; clear hHeld20118 hK20118 K20118
        refine wpAnyH_take (i := 9) (oi := ?oi20119) (v := ?v20119) ?hi20119 (by kernel_rfl) (by kernel_rfl) (by kernel_rfl) (fun _ _ _ h => h) (Or.inl ⟨?hw20119, ?hy20119⟩) (by assumption) ?rest20119
        case hi20119 => (simp only [List.getElem?_toArray, List.getElem?_cons_zero, List.getElem?_cons_succ]; rfl)
        case hw20119 => rfl
        case hy20119 => first | (intro wx hSw; go_simp; done) | (intro wx hSw; go_simp; with_reducible rfl)
        simp only [Act.put, List.setIfInBounds_toArray, List.set_cons_zero, List.set_cons_succ]
        have k4 : Blk V.heap.size #[.int .i64 c.kind, .int .i64 c.id, .int .i64 c.txn, .bool c.com, .slice q c.ws.length cap, .string c.text] 26 w4 := (gr4.block _ (unhide HC1).lt hnv).trans (unhide HC1)
        have hB4 : Below V.heap.size V w4 := (unhide HB1).grown gr4 (unhide HB1).size (fun j e => by have h9 := ((unhide OW).lt _ e).1; omega)
        have l4 := k4.lt
        have z4 := k4.cell 4
        have zf4 := k4.froz 4
        simp at z4
        refine wpAnyH_ready (rs := [10]) (by kernel_rfl) (by simp) ?_
        refine AllReadyH.cons rfl (fun K20120 hK20120 => ?_) AllReadyH.nil
        go_simp
        refine hK20120.out _ _ ?hs20120 (fun hHeld20120 => ?_)
        case hs20120 => exact blk_far1 hHeld (by omega)
        clear hHeld
        have hHeld := hHeld20120; clear hHeld20120 hK20120 K20120
        refine wpAnyH_done (by kernel_rfl) ?_ _
        refine NoPanic.normal ?_
        skip
        exact unhide FIN g2 cp2 w4 _ (by kernel_rfl) ow4 k4 hB4
      refine AllReadyH.cons rfl (fun K20121 hK20121 => ?_) AllReadyH.nil
      · go_simp
        refine hK20121.out _ _ ?hs20121 (fun hHeld20121 => ?_)
        case hs20121 => exact hHeld.below (below_new _ _)
        clear hHeld
        have hHeld := hHeld20121; clear hHeld20121 hK20121 K20121
        have hgl := (unhide RE).lt
        have hb := below_new Y26 (.cells #[.string ⟨#[107]⟩, .string zz, .bool false] 40)
        have hbs := hb.size
        replace HC1 := hide ((unhide HC1).below hb)
        replace HW1 := hide ((unhide HW1).below hb)
        replace HB1 := hide (Below.onto (unhide HB1) hb)
        replace hsz1 := Nat.le_trans hsz1 hbs
        replace RE := hide ((unhide RE).below hb)
        have RW := hide (Blk.new Y26 #[.string ⟨#[107]⟩, .string zz, .bool false] 40)
        obtain ⟨bw, hbq⟩ : ∃ b, b = Y26.heap.size := ⟨_, rfl⟩
        rw [← hbq] at RW
        have hbg : bw ≠ ge := by omega
        have hsY : Y26.heap.size < (Y26.alloc (.cells #[.string ⟨#[107]⟩, .string zz, .bool false] 40)).heap.size := by simp
        generalize Y26.alloc (.cells #[.string ⟨#[107]⟩, .string zz, .bool false] 40) = Y30 at *
        clear hb
        refine wpAnyH_ready (rs := [3]) (by kernel_rfl) (by simp) ?_
        refine AllReadyH.cons rfl (fun K20122 hK20122 => ?_) AllReadyH.nil
        refine step_app0 rfl _ _ rfl Y30 ge q c.ws cap (by rw [hgq]; rfl) rfl (unhide RE) (unhide HW1) (by omega) (xb + 1) hgx ?_
        intro v1 Y31 ow1 gr1
        change K20122 (Act.put _ (some 126) _) _
        simp only [Act.put, List.setIfInBounds_toArray, List.set_cons_zero, List.set_cons_succ]
        refine hK20122.out _ _ ?hs20122 (fun hHeld20122 => ?_)
        case hs20122 => exact gr_blk hHeld gr1 (by omega)
        clear hHeld
        have hHeld := hHeld20122; clear hHeld20122 hK20122 K20122
        replace HB1 := hide (gr_below (unhide HB1) gr1 (by omega) (unhide HB1).size)
        replace HC1 := hide (gr_blk (unhide HC1) gr1 (by omega))
        replace hsz1 := Nat.le_trans hsz1 gr1.size
        have OW := hide ow1
        replace RW := hide (gr_blk (unhide RW) gr1 hbg)
        have hbs2 := gr1.size
        clear gr1 ow1 RE HW1
        refine wpAnyH_ready (rs := [8]) (by kernel_rfl) (by simp) ?_
        refine AllReadyH.cons rfl (fun K20123 hK20123 => ?_) AllReadyH.nil
        have hnv : some V.heap.size ≠ v1.ownBlock := fun e => by have h9 := ((unhide OW).lt _ e.symm).1; omega
        have hnx : some xb ≠ v1.ownBlock := fun e => by have h9 := ((unhide OW).lt _ e.symm).1; omega
        have hnews : ∀ j u, ([.string ⟨#[107]⟩, .string zz, .bool false] : List Value)[j]? = some u → Y31.cell? (Addr.add ⟨bw, 0, none⟩ j) = some u := fun j u hj => by
          have e1 : Addr.add ⟨bw, 0, none⟩ j = ⟨bw, j, none⟩ := by simp [Addr.add]; exact fun h => h.symm
          rw [e1, (unhide RW).cell j]
          simpa using hj
        refine step_append_lies _ rfl _ _ 24 rfl (xb + 1) 40 i0 _ 3 40 Try.underlying24 hi hz0 hz1 hz2 rfl (by decide) v1 _ _ rfl (unhide OW) ⟨bw, 0, none⟩ 1 1 [.string ⟨#[107]⟩, .string zz, .bool false] (by rw [hbq]; rfl) rfl hnews (by simp [Value.oneCell']) (by decide) (by unfold maxLen; omega) (by omega) hsz1 _ rfl ?_
        intro g2 cp2 w4 ow4 gr4 _ _
        change K20123 (Act.put _ (some 131) _) _
        simp only [Act.put, List.setIfInBounds_toArray, List.set_cons_zero, List.set_cons_succ]
        refine hK20123.out _ _ ?hs20123 (fun hHeld20123 => ?_)
        case hs20123 => exact (gr4.block _ hHeld.lt hnx).trans hHeld
        clear hHeld
        have hHeld := hHeld20123; clear hHeld20123 hK20123 K20123
        refine wpAnyH_take (i := 9) (oi := ?oi20124) (v := ?v20124) ?hi20124 (by kernel_rfl) (by kernel_rfl) (by kernel_rfl) (fun _ _ _ h => h) (Or.inl ⟨?hw20124, ?hy20124⟩) (by assumption) ?rest20124
        case hi20124 => (simp only [List.getElem?_toArray, List.getElem?_cons_zero, List.getElem?_cons_succ]; rfl)
        case hw20124 => rfl
        case hy20124 => first | (intro wx hSw; go_simp; done) | (intro wx hSw; go_simp; with_reducible rfl)
        simp only [Act.put, List.setIfInBounds_toArray, List.set_cons_zero, List.set_cons_succ]
        have k4 : Blk V.heap.size #[.int .i64 c.kind, .int .i64 c.id, .int .i64 c.txn, .bool c.com, .slice q c.ws.length cap, .string c.text] 26 w4 := (gr4.block _ (unhide HC1).lt hnv).trans (unhide HC1)
        have hB4 : Below V.heap.size V w4 := (unhide HB1).grown gr4 (unhide HB1).size (fun j e => by have h9 := ((unhide OW).lt _ e).1; omega)
        have l4 := k4.lt
        have z4 := k4.cell 4
        have zf4 := k4.froz 4
        simp at z4
        refine wpAnyH_ready (rs := [10]) (by kernel_rfl) (by simp) ?_
        refine AllReadyH.cons rfl (fun K20125 hK20125 => ?_) AllReadyH.nil
        go_simp
        refine hK20125.out _ _ ?hs20125 (fun hHeld20125 => ?_)
        case hs20125 => exact blk_far1 hHeld (by omega)
        clear hHeld
        have hHeld := hHeld20125; clear hHeld20125 hK20125 K20125
        refine wpAnyH_done (by kernel_rfl) ?_ _
        refine NoPanic.normal ?_
        skip
        exact unhide FIN g2 cp2 w4 _ (by kernel_rfl) ow4 k4 hB4
    refine AllReadyH.cons rfl (fun K20126 hK20126 => ?_) AllReadyH.nil
    · go_simp
      refine hK20126.out _ _ ?hs20126 (fun hHeld20126 => ?_)
      case hs20126 => exact hHeld.below (below_new _ _)
      clear hHeld
      have hHeld := hHeld20126; clear hHeld20126 hK20126 K20126
      have hgl := (unhide RE).lt
      have hb := below_new Y26 (.cells #[.string ⟨#[107]⟩, .string zz, .bool false] 40)
      have hbs := hb.size
      replace HC1 := hide ((unhide HC1).below hb)
      replace HW1 := hide ((unhide HW1).below hb)
      replace HB1 := hide (Below.onto (unhide HB1) hb)
      replace hsz1 := Nat.le_trans hsz1 hbs
      replace RE := hide ((unhide RE).below hb)
      have RW := hide (Blk.new Y26 #[.string ⟨#[107]⟩, .string zz, .bool false] 40)
      obtain ⟨bw, hbq⟩ : ∃ b, b = Y26.heap.size := ⟨_, rfl⟩
      rw [← hbq] at RW
      have hbg : bw ≠ ge := by omega
      have hsY : Y26.heap.size < (Y26.alloc (.cells #[.string ⟨#[107]⟩, .string zz, .bool false] 40)).heap.size := by simp
      generalize Y26.alloc (.cells #[.string ⟨#[107]⟩, .string zz, .bool false] 40) = Y32 at *
      clear hb
      refine wpAnyH_ready (rs := [2]) (by kernel_rfl) (by simp) ?_
      refine AllReadyH.cons rfl (fun K20127 hK20127 => ?_) AllReadyH.nil
      have z1 := (unhide HC1).cell 4
      have zf1 := (unhide HC1).froz 4
      have zl1 := (unhide HC1).lt
      simp at z1
      go_simp
      refine hK20127.out _ _ ?hs20127 (fun hHeld20127 => ?_)
      case hs20127 => exact hHeld
      clear hHeld
      have hHeld := hHeld20127; clear hHeld20127 hK20127 K20127
      clear z1 zf1 zl1
      refine wpAnyH_ready (rs := [3]) (by kernel_rfl) (by simp) ?_
      refine AllReadyH.cons rfl (fun K20128 hK20128 => ?_) AllReadyH.nil
      refine step_app0 rfl _ _ rfl Y32 ge q c.ws cap (by rw [hgq]; rfl) rfl (unhide RE) (unhide HW1) (by omega) (xb + 1) hgx ?_
      intro v1 Y34 ow1 gr1
      change K20128 (Act.put _ (some 126) _) _
      simp only [Act.put, List.setIfInBounds_toArray, List.set_cons_zero, List.set_cons_succ]
      refine hK20128.out _ _ ?hs20128 (fun hHeld20128 => ?_)
      case hs20128 => exact gr_blk hHeld gr1 (by omega)
      clear hHeld
      have hHeld := hHeld20128; clear hHeld20128 hK20128 K20128
      replace HB1 := hide (gr_below (unhide HB1) gr1 (by omega) (unhide HB1).size)
      replace HC1 := hide (gr_blk (unhide HC1) gr1 (by omega))
      replace hsz1 := Nat.le_trans hsz1 gr1.size
      have OW := hide ow1
      replace RW := hide (gr_blk (unhide RW) gr1 hbg)
      have hbs2 := gr1.size
      clear gr1 ow1 RE HW1
      refine wpAnyH_ready (rs := [8]) (by kernel_rfl) (by simp) ?_
      refine AllReadyH.cons rfl (fun K20129 hK20129 => ?_) AllReadyH.nil
      have hnv : some V.heap.size ≠ v1.ownBlock := fun e => by have h9 := ((unhide OW).lt _ e.symm).1; omega
      have hnx : some xb ≠ v1.ownBlock := fun e => by have h9 := ((unhide OW).lt _ e.symm).1; omega
      have hnews : ∀ j u, ([.string ⟨#[107]⟩, .string zz, .bool false] : List Value)[j]? = some u → Y34.cell? (Addr.add ⟨bw, 0, none⟩ j) = some u := fun j u hj => by
        have e1 : Addr.add ⟨bw, 0, none⟩ j = ⟨bw, j, none⟩ := by simp [Addr.add]; exact fun h => h.symm
        rw [e1, (unhide RW).cell j]
        simpa using hj
      refine step_append_lies _ rfl _ _ 24 rfl (xb + 1) 40 i0 _ 3 40 Try.underlying24 hi hz0 hz1 hz2 rfl (by decide) v1 _ _ rfl (unhide OW) ⟨bw, 0, none⟩ 1 1 [.string ⟨#[107]⟩, .string zz, .bool false] (by rw [hbq]; rfl) rfl hnews (by simp [Value.oneCell']) (by decide) (by unfold maxLen; omega) (by omega) hsz1 _ rfl ?_
      intro g2 cp2 w4 ow4 gr4 _ _
      change K20129 (Act.put _ (some 131) _) _
      simp only [Act.put, List.setIfInBounds_toArray, List.set_cons_zero, List.set_cons_succ]
      refine hK20129.out _ _ ?hs20129 (fun hHeld20129 => ?_)
      case hs20129 => exact (gr4.block _ hHeld.lt hnx).trans hHeld
      clear hHeld
      have hHeld := hHeld20129; clear hHeld20129 hK20129 K20129
      refine wpAnyH_take (i := 9) (oi := ?oi20130) (v := ?v20130) ?hi20130 (by kernel_rfl) (by kernel_rfl) (by kernel_rfl) (fun _ _ _ h => h) (Or.inl ⟨?hw20130, ?hy20130⟩) (by assumption) ?rest20130
      case hi20130 => (simp only [List.getElem?_toArray, List.getElem?_cons_zero, List.getElem?_cons_succ]; rfl)
      case hw20130 => rfl
      case hy20130 => first | (intro wx hSw; go_simp; done) | (intro wx hSw; go_simp; with_reducible rfl)
      simp only [Act.put, List.setIfInBounds_toArray, List.set_cons_zero, List.set_cons_succ]
      have k4 : Blk V.heap.size #[.int .i64 c.kind, .int .i64 c.id, .int .i64 c.txn, .bool c.com, .slice q c.ws.length cap, .string c.text] 26 w4 := (gr4.block _ (unhide HC1).lt hnv).trans (unhide HC1)
      have hB4 : Below V.heap.size V w4 := (unhide HB1).grown gr4 (unhide HB1).size (fun j e => by have h9 := ((unhide OW).lt _ e).1; omega)
      have l4 := k4.lt
      have z4 := k4.cell 4
      have zf4 := k4.froz 4
      simp at z4
      refine wpAnyH_ready (rs := [10]) (by kernel_rfl) (by simp) ?_
      refine AllReadyH.cons rfl (fun K20131 hK20131 => ?_) AllReadyH.nil
      go_simp
      refine hK20131.out _ _ ?hs20131 (fun hHeld20131 => ?_)
      case hs20131 => exact blk_far1 hHeld (by omega)
      clear hHeld
      have hHeld := hHeld20131; clear hHeld20131 hK20131 K20131
      refine wpAnyH_done (by kernel_rfl) ?_ _
      refine NoPanic.normal ?_
      skip
      exact unhide FIN g2 cp2 w4 _ (by kernel_rfl) ow4 k4 hB4
  refine AllReadyH.cons rfl (fun K20132 hK20132 => ?_) ?_
  · have z1 := (unhide HC1).cell 4
    have zf1 := (unhide HC1).froz 4
    have zl1 := (unhide HC1).lt
    simp at z1
    go_simp
    refine hK20132.out _ _ ?hs20132 (fun hHeld20132 => ?_)
    case hs20132 => exact hHeld
    clear hHeld
    have hHeld := hHeld20132; clear hHeld20132 hK20132 K20132
    clear z1 zf1 zl1
    refine wpAnyH_ready (rs := [0, 7]) (by kernel_rfl) (by simp) ?_
    refine AllReadyH.cons rfl (fun K20133 hK20133 => ?_) ?_
    · go_simp
      refine hK20133.out _ _ ?hs20133 (fun hHeld20133 => ?_)
      case hs20133 => exact hHeld.below (below_new _ _)
      clear hHeld
      have hHeld := hHeld20133; clear hHeld20133 hK20133 K20133
      have hgx0 := hsz1
      have hb := below_new Yd (.cells #[] 40)
      have hbs := hb.size
      replace HC1 := hide ((unhide HC1).below hb)
      replace HW1 := hide ((unhide HW1).below hb)
      replace HB1 := hide (Below.onto (unhide HB1) hb)
      replace hsz1 := Nat.le_trans hsz1 hbs
      have RE := hide (Blk.new Yd #[] 40)
      obtain ⟨ge, hgq⟩ : ∃ b, b = Yd.heap.size := ⟨_, rfl⟩
      rw [← hgq] at RE
      have hgx : xb + 1 ≤ ge := by omega
      generalize Yd.alloc (.cells #[] 40) = Y36 at *
      clear hb
      refine wpAnyH_ready (rs := [3, 7]) (by kernel_rfl) (by simp) ?_
      refine AllReadyH.cons rfl (fun K20134 hK20134 => ?_) ?_
      · refine step_app0 rfl _ _ rfl Y36 ge q c.ws cap (by rw [hgq]; rfl) rfl (unhide RE) (unhide HW1) (by omega) (xb + 1) hgx ?_
        intro v1 Y37 ow1 gr1
        change K20134 (Act.put _ (some 126) _) _
        simp only [Act.put, List.setIfInBounds_toArray, List.set_cons_zero, List.set_cons_succ]
        refine hK20134.out _ _ ?hs20134 (fun hHeld20134 => ?_)
        case hs20134 => exact gr_blk hHeld gr1 (by omega)
        clear hHeld
        have hHeld := hHeld20134; clear hHeld20134 hK20134 K20134
        replace HB1 := hide (gr_below (unhide HB1) gr1 (by omega) (unhide HB1).size)
        replace HC1 := hide (gr_blk (unhide HC1) gr1 (by omega))
        replace hsz1 := Nat.le_trans hsz1 gr1.size
        have OW := hide ow1
        clear gr1 ow1 RE HW1
        refine wpAnyH_ready (rs := [7]) (by kernel_rfl) (by simp) ?_
        refine AllReadyH.cons rfl (fun K20135 hK20135 => ?_) AllReadyH.nil
        go_simp
        refine hK20135.out _ _ ?hs20135 (fun hHeld20135 => ?_)
        case hs20135 => exact hHeld.below (below_new _ _)
        clear hHeld
        have hHeld := hHeld20135; clear hHeld20135 hK20135 K20135
        have hb := below_new Y37 (.cells #[.string ⟨#[107]⟩, .string zz, .bool false] 40)
        have hbs := hb.size
        replace HC1 := hide ((unhide HC1).below hb)
        replace HB1 := hide (Below.onto (unhide HB1) hb)
        replace hsz1 := Nat.le_trans hsz1 hbs
        replace OW := hide ((unhide OW).alloc (.cells #[.string ⟨#[107]⟩, .string zz, .bool false] 40))
        have RW := hide (Blk.new Y37 #[.string ⟨#[107]⟩, .string zz, .bool false] 40)
        obtain ⟨bw, hbq⟩ : ∃ b, b = Y37.heap.size := ⟨_, rfl⟩
        rw [← hbq] at RW
        have hsY : Y37.heap.size < (Y37.alloc (.cells #[.string ⟨#[107]⟩, .string zz, .bool false] 40)).heap.size := by simp
        generalize Y37.alloc (.cells #[.string ⟨#[107]⟩, .string zz, .bool false] 40) = Y38 at *
        clear hb
        refine wpAnyH_ready (rs := [8]) (by kernel_rfl) (by simp) ?_
        refine AllReadyH.cons rfl (fun K20136 hK20136 => ?_) AllReadyH.nil
        have hnv : some V.heap.size ≠ v1.ownBlock := fun e => by have h9 := ((unhide OW).lt _ e.symm).1; omega
        have hnx : some xb ≠ v1.ownBlock := fun e => by have h9 := ((unhide OW).lt _ e.symm).1; omega
        have hnews : ∀ j u, ([.string ⟨#[107]⟩, .string zz, .bool false] : List Value)[j]? = some u → Y38.cell? (Addr.add ⟨bw, 0, none⟩ j) = some u := fun j u hj => by
          have e1 : Addr.add ⟨bw, 0, none⟩ j = ⟨bw, j, none⟩ := by simp [Addr.add]; exact fun h => h.symm
          rw [e1, (unhide RW).cell j]
          simpa using hj
        refine step_append_lies _ rfl _ _ 24 rfl (xb + 1) 40 i0 _ 3 40 Try.underlying24 hi hz0 hz1 hz2 rfl (by decide) v1 _ _ rfl (unhide OW) ⟨bw, 0, none⟩ 1 1 [.string ⟨#[107]⟩, .string zz, .bool false] (by rw [hbq]; rfl) rfl hnews (by simp [Value.oneCell']) (by decide) (by unfold maxLen; omega) (by omega) hsz1 _ rfl ?_
        intro g2 cp2 w4 ow4 gr4 _ _
        change K20136 (Act.put _ (some 131) _) _
        simp only [Act.put, List.setIfInBounds_toArray, List.set_cons_zero, List.set_cons_succ]
        refine hK20136.out _ _ ?hs20136 (fun hHeld20136 => ?_)
        case hs20136 => exact (gr4.block _ hHeld.lt hnx).trans hHeld
        clear hHeld
        have hHeld := hHeld20136; clear hHeld20136 hK20136 K20136
        refine wpAnyH_take (i := 9) (oi := ?oi20137) (v := ?v20137) ?hi20137 (by kernel_rfl) (by kernel_rfl) (by kernel_rfl) (fun _ _ _ h => h) (Or.inl ⟨?hw20137, ?hy20137⟩) (by assumption) ?rest20137
        case hi20137 => (simp only [List.getElem?_toArray, List.getElem?_cons_zero, List.getElem?_cons_succ]; rfl)
        case hw20137 => rfl
        case hy20137 => first | (intro wx hSw; go_simp; done) | (intro wx hSw; go_simp; with_reducible rfl)
        simp only [Act.put, List.setIfInBounds_toArray, List.set_cons_zero, List.set_cons_succ]
        have k4 : Blk V.heap.size #[.int .i64 c.kind, .int .i64 c.id, .int .i64 c.txn, .bool c.com, .slice q c.ws.length cap, .string c.text] 26 w4 := (gr4.block _ (unhide HC1).lt hnv).trans (unhide HC1)
        have hB4 : Below V.heap.size V w4 := (unhide HB1).grown gr4 (unhide HB1).size (fun j e => by have h9 := ((unhide OW).lt _ e).1; omega)
        have l4 := k4.lt
        have z4 := k4.cell 4
        have zf4 := k4.froz 4
        simp at z4
        refine wpAnyH_ready (rs := [10]) (by kernel_rfl) (by simp) ?_
        refine AllReadyH.cons rfl (fun K20138 hK20138 => ?_) AllReadyH.nil
        go_simp
        refine hK20138.out _ _ ?hs20138 (fun hHeld20138 => ?_)
        case hs20138 => exact blk_far1 hHeld (by omega)
        clear hHeld
        have hHeld := hHeld20138; clear hHeld20138 hK20138 K20138
        refine wpAnyH_done (by kernel_rfl) ?_ _
        refine NoPanic.normal ?_
        skip
        exact unhide FIN g2 cp2 w4 _ (by kernel_rfl) ow4 k4 hB4
      refine AllReadyH.cons rfl (fun K20139 hK20139 => ?_) AllReadyH.nil
      · go_simp
        refine hK20139.out _ _ ?hs20139 (fun hHeld20139 => ?_)
        case hs20139 => exact hHeld.below (below_new _ _)
        clear hHeld
        have hHeld := hHeld20139; clear hHeld20139 hK20139 K20139
        have hgl := (unhide RE).lt
        have hb := below_new Y36 (.cells #[.string ⟨#[107]⟩, .string zz, .bool false] 40)
        have hbs := hb.size
        replace HC1 := hide ((unhide HC1).below hb)
        replace HW1 := hide ((unhide HW1).below hb)
        replace HB1 := hide (Below.onto (unhide HB1) hb)
        replace hsz1 := Nat.le_trans hsz1 hbs
        replace RE := hide ((unhide RE).below hb)
        have RW := hide (Blk.new Y36 #[.string ⟨#[107]⟩, .string zz, .bool false] 40)
        obtain ⟨bw, hbq⟩ : ∃ b, b = Y36.heap.size := ⟨_, rfl⟩
        rw [← hbq] at RW
        have hbg : bw ≠ ge := by omega
        have hsY : Y36.heap.size < (Y36.alloc (.cells #[.string ⟨#[107]⟩, .string zz, .bool false] 40)).heap.size := by simp
        generalize Y36.alloc (.cells #[.string ⟨#[107]⟩, .string zz, .bool false] 40) = Y39 at *
        clear hb
        refine wpAnyH_ready (rs := [3]) (by kernel_rfl) (by simp) ?_
        refine AllReadyH.cons rfl (fun K20140 hK20140 => ?_) AllReadyH.nil
        refine step_app0 rfl _ _ rfl Y39 ge q c.ws cap (by rw [hgq]; rfl) rfl (unhide RE) (unhide HW1) (by omega) (xb + 1) hgx ?_
        intro v1 Y40 ow1 gr1
        change K20140 (Act.put _ (some 126) _) _
        simp only [Act.put, List.setIfInBounds_toArray, List.set_cons_zero, List.set_cons_succ]
        refine hK20140.out _ _ ?hs20140 (fun hHeld20140 => ?_)
        case hs20140 => exact gr_blk hHeld gr1 (by omega)
        clear hHeld
        have hHeld := hHeld20140; clear hHeld20140 hK20140 K20140
        replace HB1 := hide (gr_below (unhide HB1) gr1 (by omega) (unhide HB1).size)
        replace HC1 := hide (gr_blk (unhide HC1) gr1 (by omega))
        replace hsz1 := Nat.le_trans hsz1 gr1.size
        have OW := hide ow1
        replace RW := hide (gr_blk (unhide RW) gr1 hbg)
        have hbs2 := gr1.size
        clear gr1 ow1 RE HW1
        refine wpAnyH_ready (rs := [8]) (by kernel_rfl) (by simp) ?_
        refine AllReadyH.cons rfl (fun K20141 hK20141 => ?_) AllReadyH.nil
        have hnv : some V.heap.size ≠ v1.ownBlock := fun e => by have h9 := ((unhide OW).lt _ e.symm).1; omega
        have hnx : some xb ≠ v1.ownBlock := fun e => by have h9 := ((unhide OW).lt _ e.symm).1; omega
        have hnews : ∀ j u, ([.string ⟨#[107]⟩, .string zz, .bool false] : List Value)[j]? = some u → Y40.cell? (Addr.add ⟨bw, 0, none⟩ j) = some u := fun j u hj => by
          have e1 : Addr.add ⟨bw, 0, none⟩ j = ⟨bw, j, none⟩ := by simp [Addr.add]; exact fun h => h.symm
          rw [e1, (unhide RW).cell j]
          simpa using hj
        refine step_append_lies _ rfl _ _ 24 rfl (xb + 1) 40 i0 _ 3 40 Try.underlying24 hi hz0 hz1 hz2 rfl (by decide) v1 _ _ rfl (unhide OW) ⟨bw, 0, none⟩ 1 1 [.string ⟨#[107]⟩, .string zz, .bool false] (by rw [hbq]; rfl) rfl hnews (by simp [Value.oneCell']) (by decide) (by unfold maxLen; omega) (by omega) hsz1 _ rfl ?_
        intro g2 cp2 w4 ow4 gr4 _ _
        change K20141 (Act.put _ (some 131) _) _
        simp only [Act.put, List.setIfInBounds_toArray, List.set_cons_zero, List.set_cons_succ]
        refine hK20141.out _ _ ?hs20141 (fun hHeld20141 => ?_)
        case hs20141 => exact (gr4.block _ hHeld.lt hnx).trans hHeld
        clear hHeld
        have hHeld := hHeld20141; clear hHeld20141 hK20141 K20141
        refine wpAnyH_take (i := 9) (oi := ?oi20142) (v := ?v20142) ?hi20142 (by kernel_rfl) (by kernel_rfl) (by kernel_rfl) (fun _ _ _ h => h) (Or.inl ⟨?hw20142, ?hy20142⟩) (by assumption) ?rest20142
        case hi20142 => (simp only [List.getElem?_toArray, List.getElem?_cons_zero, List.getElem?_cons_succ]; rfl)
        case hw20142 => rfl
        case hy20142 => first | (intro wx hSw; go_simp; done) | (intro wx hSw; go_simp; with_reducible rfl)
        simp only [Act.put, List.setIfInBounds_toArray, List.set_cons_zero, List.set_cons_succ]
        have k4 : Blk V.heap.size #[.int .i64 c.kind, .int .i64 c.id, .int .i64 c.txn, .bool c.com, .slice q c.ws.length cap, .string c.text] 26 w4 := (gr4.block _ (unhide HC1).lt hnv).trans (unhide HC1)
        have hB4 : Below V.heap.size V w4 := (unhide HB1).grown gr4 (unhide HB1).size (fun j e => by have h9 := ((unhide OW).lt _ e).1; omega)
        have l4 := k4.lt
        have z4 := k4.cell 4
        have zf4 := k4.froz 4
        simp at z4
        refine wpAnyH_ready (rs := [10]) (by kernel_rfl) (by simp) ?_
        refine AllReadyH.cons rfl (fun K20143 hK20143 => ?_) AllReadyH.nil
        go_simp
        refine hK20143.out _ _ ?hs20143 (fun hHeld20143 => ?_)
        case hs20143 => exact blk_far1 hHeld (by omega)
        clear hHeld
        have hHeld := hHeld20143; clear hHeld20143 hK20143 K20143
        refine wpAnyH_done (by kernel_rfl) ?_ _
        refine NoPanic.normal ?_
        skip
        exact unhide FIN g2 cp2 w4 _ (by kernel_rfl) ow4 k4 hB4
    refine AllReadyH.cons rfl (fun K20144 hK20144 => ?_) AllReadyH.nil
    · go_simp
      refine hK20144.out _ _ ?hs20144 (fun hHeld20144 => ?_)
      case hs20144 => exact hHeld.below (below_new _ _)
      clear hHeld
      have hHeld := hHeld20144; clear hHeld20144 hK20144 K20144
      have hb := below_new Yd (.cells #[.string ⟨#[107]⟩, .string zz, .bool false] 40)
      have hbs := hb.size
      replace HC1 := hide ((unhide HC1).below hb)
      replace HW1 := hide ((unhide HW1).below hb)
      replace HB1 := hide (Below.onto (unhide HB1) hb)
      replace hsz1 := Nat.le_trans hsz1 hbs
      have RW := hide (Blk.new Yd #[.string ⟨#[107]⟩, .string zz, .bool false] 40)
      obtain ⟨bw, hbq⟩ : ∃ b, b = Yd.heap.size := ⟨_, rfl⟩
      rw [← hbq] at RW
      have hsY : Yd.heap.size < (Yd.alloc (.cells #[.string ⟨#[107]⟩, .string zz, .bool false] 40)).heap.size := by simp
      generalize Yd.alloc (.cells #[.string ⟨#[107]⟩, .string zz, .bool false] 40) = Y41 at *
      clear hb
      refine wpAnyH_ready (rs := [0]) (by kernel_rfl) (by simp) ?_
      refine AllReadyH.cons rfl (fun K20145 hK20145 => ?_) AllReadyH.nil
      go_simp
      refine hK20145.out _ _ ?hs20145 (fun hHeld20145 => ?_)
      case hs20145 => exact hHeld.below (below_new _ _)
      clear hHeld
      have hHeld := hHeld20145; clear hHeld20145 hK20145 K20145
      have hgx0 := hsz1
      have hb := below_new Y41 (.cells #[] 40)
      have hbs := hb.size
      replace HC1 := hide ((unhide HC1).below hb)
      replace HW1 := hide ((unhide HW1).below hb)
      replace HB1 := hide (Below.onto (unhide HB1) hb)
      replace hsz1 := Nat.le_trans hsz1 hbs
      replace RW := hide ((unhide RW).below hb)
      have RE := hide (Blk.new Y41 #[] 40)
      obtain ⟨ge, hgq⟩ : ∃ b, b = Y41.heap.size := ⟨_, rfl⟩
      rw [← hgq] at RE
      have hgx : xb + 1 ≤ ge := by omega
      have hbg : bw ≠ ge := by omega
      generalize Y41.alloc (.cells #[] 40) = Y42 at *
      clear hb
      refine wpAnyH_ready (rs := [3]) (by kernel_rfl) (by simp) ?_
      refine AllReadyH.cons rfl (fun K20146 hK20146 => ?_) AllReadyH.nil
      refine step_app0 rfl _ _ rfl Y42 ge q c.ws cap (by rw [hgq]; rfl) rfl (unhide RE) (unhide HW1) (by omega) (xb + 1) hgx ?_
      intro v1 Y43 ow1 gr1
      change K20146 (Act.put _ (some 126) _) _
      simp only [Act.put, List.setIfInBounds_toArray, List.set_cons_zero, List.set_cons_succ]
      refine hK20146.out _ _ ?hs20146 (fun hHeld20146 => ?_)
      case hs20146 => exact gr_blk hHeld gr1 (by omega)
      clear hHeld
      have hHeld := hHeld20146; clear hHeld20146 hK20146 K20146
      replace HB1 := hide (gr_below (unhide HB1) gr1 (by omega) (unhide HB1).size)
      replace HC1 := hide (gr_blk (unhide HC1) gr1 (by omega))
      replace hsz1 := Nat.le_trans hsz1 gr1.size
      have OW := hide ow1
      replace RW := hide (gr_blk (unhide RW) gr1 hbg)
      have hbs2 := gr1.size
      clear gr1 ow1 RE HW1
      refine wpAnyH_ready (rs := [8]) (by kernel_rfl) (by simp) ?_
      refine AllReadyH.cons rfl (fun K20147 hK20147 => ?_) AllReadyH.nil
      have hnv : some V.heap.size ≠ v1.ownBlock := fun e => by have h9 := ((unhide OW).lt _ e.symm).1; omega
      have hnx : some xb ≠ v1.ownBlock := fun e => by have h9 := ((unhide OW).lt _ e.symm).1; omega
      have hnews : ∀ j u, ([.string ⟨#[107]⟩, .string zz, .bool false] : List Value)[j]? = some u → Y43.cell? (Addr.add ⟨bw, 0, none⟩ j) = some u := fun j u hj => by
        have e1 : Addr.add ⟨bw, 0, none⟩ j = ⟨bw, j, none⟩ := by simp [Addr.add]; exact fun h => h.symm
        rw [e1, (unhide RW).cell j]
        simpa using hj
      refine step_append_lies _ rfl _ _ 24 rfl (xb + 1) 40 i0 _ 3 40 Try.underlying24 hi hz0 hz1 hz2 rfl (by decide) v1 _ _ rfl (unhide OW) ⟨bw, 0, none⟩ 1 1 [.string ⟨#[107]⟩, .string zz, .bool false] (by rw [hbq]; rfl) rfl hnews (by simp [Value.oneCell']) (by decide) (by unfold maxLen; omega) (by omega) hsz1 _ rfl ?_
      intro g2 cp2 w4 ow4 gr4 _ _
      change K20147 (Act.put _ (some 131) _) _
      simp only [Act.put, List.setIfInBounds_toArray, List.set_cons_zero, List.set_cons_succ]
      refine hK20147.out _ _ ?hs20147 (fun hHeld20147 => ?_)
      case hs20147 => exact (gr4.block _ hHeld.lt hnx).trans hHeld
      clear hHeld
      have hHeld := hHeld20147; clear hHeld20147 hK20147 K20147
      refine wpAnyH_take (i := 9) (oi := ?oi20148) (v := ?v20148) ?hi20148 (by kernel_rfl) (by kernel_rfl) (by kernel_rfl) (fun _ _ _ h => h) (Or.inl ⟨?hw20148, ?hy20148⟩) (by assumption) ?rest20148
      case hi20148 => (simp only [List.getElem?_toArray, List.getElem?_cons_zero, List.getElem?_cons_succ]; rfl)
      case hw20148 => rfl
      case hy20148 => first | (intro wx hSw; go_simp; done) | (intro wx hSw; go_simp; with_reducible rfl)
      simp only [Act.put, List.setIfInBounds_toArray, List.set_cons_zero, List.set_cons_succ]
      have k4 : Blk V.heap.size #[.int .i64 c.kind, .int .i64 c.id, .int .i64 c.txn, .bool c.com, .slice q c.ws.length cap, .string c.text] 26 w4 := (gr4.block _ (unhide HC1).lt hnv).trans (unhide HC1)
      have hB4 : Below V.heap.size V w4 := (unhide HB1).grown gr4 (unhide HB1).size (fun j e => by have h9 := ((unhide OW).lt _ e).1; omega)
      have l4 := k4.lt
      have z4 := k4.cell 4
      have zf4 := k4.froz 4
      simp at z4
      refine wpAnyH_ready (rs := [10]) (by kernel_rfl) (by simp) ?_
      refine AllReadyH.cons rfl (fun K20149 hK20149 => ?_) AllReadyH.nil
      go_simp
      refine hK20149.out _ _ ?hs20149 (fun hHeld20149 => ?_)
      case hs20149 => exact blk_far1 hHeld (by omega)
      clear hHeld
      have hHeld := hHeld20149; clear hHeld20149 hK20149 K20149
      refine wpAnyH_done (by kernel_rfl) ?_ _
      refine NoPanic.normal ?_
      skip
      exact unhide FIN g2 cp2 w4 _ (by kernel_rfl) ow4 k4 hB4
  refine AllReadyH.cons rfl (fun K20150 hK20150 => ?_) AllReadyH.nil
  · go_simp
    refine hK20150.out _ _ ?hs20150 (fun hHeld20150 => ?_)
    case hs20150 => exact hHeld.below (below_new _ _)
    clear hHeld
    have hHeld := hHeld20150; clear hHeld20150 hK20150 K20150
    have hb := below_new Yd (.cells #[.string ⟨#[107]⟩, .string zz, .bool false] 40)
    have hbs := hb.size
    replace HC1 := hide ((unhide HC1).below hb)
    replace HW1 := hide ((unhide HW1).below hb)
    replace HB1 := hide (Below.onto (unhide HB1) hb)
    replace hsz1 := Nat.le_trans hsz1 hbs
    have RW := hide (Blk.new Yd #[.string ⟨#[107]⟩, .string zz, .bool false] 40)
    obtain ⟨bw, hbq⟩ : ∃ b, b = Yd.heap.size := ⟨_, rfl⟩
    rw [← hbq] at RW
    have hsY : Yd.heap.size < (Yd.alloc (.cells #[.string ⟨#[107]⟩, .string zz, .bool false] 40)).heap.size := by simp
    generalize Yd.alloc (.cells #[.string ⟨#[107]⟩, .string zz, .bool false] 40) = Y44 at *
    clear hb
    refine wpAnyH_ready (rs := [0, 2]) (by kernel_rfl) (by simp) ?_
    refine AllReadyH.cons rfl (fun K20151 hK20151 => ?_) ?_
    · go_simp
      refine hK20151.out _ _ ?hs20151 (fun hHeld20151 => ?_)
      case hs20151 => exact hHeld.below (below_new _ _)
      clear hHeld
      have hHeld := hHeld20151; clear hHeld20151 hK20151 K20151
      have hgx0 := hsz1
      have hb := below_new Y44 (.cells #[] 40)
      have hbs := hb.size
      replace HC1 := hide ((unhide HC1).below hb)
      replace HW1 := hide ((unhide HW1).below hb)
      replace HB1 := hide (Below.onto (unhide HB1) hb)
      replace hsz1 := Nat.le_trans hsz1 hbs
      replace RW := hide ((unhide RW).below hb)
      have RE := hide (Blk.new Y44 #[] 40)
      obtain ⟨ge, hgq⟩ : ∃ b, b = Y44.heap.size := ⟨_, rfl⟩
      rw [← hgq] at RE
      have hgx : xb + 1 ≤ ge := by omega
      have hbg : bw ≠ ge := by omega
      generalize Y44.alloc (.cells #[] 40) = Y45 at *
      clear hb
      refine wpAnyH_ready (rs := [2]) (by kernel_rfl) (by simp) ?_
      refine AllReadyH.cons rfl (fun K20152 hK20152 => ?_) AllReadyH.nil
      have z1 := (unhide HC1).cell 4
      have zf1 := (unhide HC1).froz 4
      have zl1 := (unhide HC1).lt
      simp at z1
      go_simp
      refine hK20152.out _ _ ?hs20152 (fun hHeld20152 => ?_)
      case hs20152 => exact hHeld
      clear hHeld
      have hHeld := hHeld20152; clear hHeld20152 hK20152 K20152
      clear z1 zf1 zl1
      refine wpAnyH_ready (rs := [3]) (by kernel_rfl) (by simp) ?_
      refine AllReadyH.cons rfl (fun K20153 hK20153 => ?_) AllReadyH.nil
      refine step_app0 rfl _ _ rfl Y45 ge q c.ws cap (by rw [hgq]; rfl) rfl (unhide RE) (unhide HW1) (by omega) (xb + 1) hgx ?_
      intro v1 Y47 ow1 gr1
      change K20153 (Act.put _ (some 126) _) _
      simp only [Act.put, List.setIfInBounds_toArray, List.set_cons_zero, List.set_cons_succ]
      refine hK20153.out _ _ ?hs20153 (fun hHeld20153 => ?_)
      case hs20153 => exact gr_blk hHeld gr1 (by omega)
      clear hHeld
      have hHeld := hHeld20153; clear hHeld20153 hK20153 K20153
      replace HB1 := hide (gr_below (unhide HB1) gr1 (by omega) (unhide HB1).size)
      replace HC1 := hide (gr_blk (unhide HC1) gr1 (by omega))
      replace hsz1 := Nat.le_trans hsz1 gr1.size
      have OW := hide ow1
      replace RW := hide (gr_blk (unhide RW) gr1 hbg)
      have hbs2 := gr1.size
      clear gr1 ow1 RE HW1
      refine wpAnyH_ready (rs := [8]) (by kernel_rfl) (by simp) ?_
      refine AllReadyH.cons rfl (fun K20154 hK20154 => ?_) AllReadyH.nil
      have hnv : some V.heap.size ≠ v1.ownBlock := fun e => by have h9 := ((unhide OW).lt _ e.symm).1; omega
      have hnx : some xb ≠ v1.ownBlock := fun e => by have h9 := ((unhide OW).lt _ e.symm).1; omega
      have hnews : ∀ j u, ([.string ⟨#[107]⟩, .string zz, .bool false] : List Value)[j]? = some u → Y47.cell? (Addr.add ⟨bw, 0, none⟩ j) = some u := fun j u hj => by
        have e1 : Addr.add ⟨bw, 0, none⟩ j = ⟨bw, j, none⟩ := by simp [Addr.add]; exact fun h => h.symm
        rw [e1, (unhide RW).cell j]
        simpa using hj
      refine step_append_lies _ rfl _ _ 24 rfl (xb + 1) 40 i0 _ 3 40 Try.underlying24 hi hz0 hz1 hz2 rfl (by decide) v1 _ _ rfl (unhide OW) ⟨bw, 0, none⟩ 1 1 [.string ⟨#[107]⟩, .string zz, .bool false] (by rw [hbq]; rfl) rfl hnews (by simp [Value.oneCell']) (by decide) (by unfold maxLen; omega) (by omega) hsz1 _ rfl ?_
      intro g2 cp2 w4 ow4 gr4 _ _
      change K20154 (Act.put _ (some 131) _) _
      simp only [Act.put, List.setIfInBounds_toArray, List.set_cons_zero, List.set_cons_succ]
      refine hK20154.out _ _ ?hs20154 (fun hHeld20154 => ?_)
      case hs20154 => exact (gr4.block _ hHeld.lt hnx).trans hHeld
      clear hHeld
      have hHeld := hHeld20154; clear hHeld20154 hK20154 K20154
      refine wpAnyH_take (i := 9) (oi := ?oi20155) (v := ?v20155) ?hi20155 (by kernel_rfl) (by kernel_rfl) (by kernel_rfl) (fun _ _ _ h => h) (Or.inl ⟨?hw20155, ?hy20155⟩) (by assumption) ?rest20155
      case hi20155 => (simp only [List.getElem?_toArray, List.getElem?_cons_zero, List.getElem?_cons_succ]; rfl)
      case hw20155 => rfl
      case hy20155 => first | (intro wx hSw; go_simp; done) | (intro wx hSw; go_simp; with_reducible rfl)
      simp only [Act.put, List.setIfInBounds_toArray, List.set_cons_zero, List.set_cons_succ]
      have k4 : Blk V.heap.size #[.int .i64 c.kind, .int .i64 c.id, .int .i64 c.txn, .bool c.com, .slice q c.ws.length cap, .string c.text] 26 w4 := (gr4.block _ (unhide HC1).lt hnv).trans (unhide HC1)
      have hB4 : Below V.heap.size V w4 := (unhide HB1).grown gr4 (unhide HB1).size (fun j e => by have h9 := ((unhide OW).lt _ e).1; omega)
      have l4 := k4.lt
      have z4 := k4.cell 4
      have zf4 := k4.froz 4
      simp at z4
      refine wpAnyH_ready (rs := [10]) (by kernel_rfl) (by simp) ?_
      refine AllReadyH.cons rfl (fun K20156 hK20156 => ?_) AllReadyH.nil
      go_simp
      refine hK20156.out _ _ ?hs20156 (fun hHeld20156 => ?_)
      case hs20156 => exact blk_far1 hHeld (by omega)
      clear hHeld
      have hHeld := hHeld20156; clear hHeld20156 hK20156 K20156
      refine wpAnyH_done (by kernel_rfl) ?_ _
      refine NoPanic.normal ?_
      skip
      exact unhide FIN g2 cp2 w4 _ (by kernel_rfl) ow4 k4 hB4
    refine AllReadyH.cons rfl (fun K20157 hK20157 => ?_) AllReadyH.nil
    · have z1 := (unhide HC1).cell 4
      have zf1 := (unhide HC1).froz 4
      have zl1 := (unhide HC1).lt
      simp at z1
      go_simp
      refine hK20157.out _ _ ?hs20157 (fun hHeld20157 => ?_)
      case hs20157 => exact hHeld
      clear hHeld
      have hHeld := hHeld20157; clear hHeld20157 hK20157 K20157
      clear z1 zf1 zl1
      refine wpAnyH_ready (rs := [0]) (by kernel_rfl) (by simp) ?_
      refine AllReadyH.cons rfl (fun K20158 hK20158 => ?_) AllReadyH.nil
      go_simp
      refine hK20158.out _ _ ?hs20158 (fun hHeld20158 => ?_)
      case hs20158 => exact hHeld.below (below_new _ _)
      clear hHeld
      have hHeld := hHeld20158; clear hHeld20158 hK20158 K20158
      have hgx0 := hsz1
      have hb := below_new Y44 (.cells #[] 40)
      have hbs := hb.size
      replace HC1 := hide ((unhide HC1).below hb)
      replace HW1 := hide ((unhide HW1).below hb)
      replace HB1 := hide (Below.onto (unhide HB1) hb)
      replace hsz1 := Nat.le_trans hsz1 hbs
      replace RW := hide ((unhide RW).below hb)
      have RE := hide (Blk.new Y44 #[] 40)
      obtain ⟨ge, hgq⟩ : ∃ b, b = Y44.heap.size := ⟨_, rfl⟩
      rw [← hgq] at RE
      have hgx : xb + 1 ≤ ge := by omega
      have hbg : bw ≠ ge := by omega
      generalize Y44.alloc (.cells #[] 40) = Y49 at *
      clear hb
      refine wpAnyH_ready (rs := [3]) (by kernel_rfl) (by simp) ?_
      refine AllReadyH.cons rfl (fun K20159 hK20159 => ?_) AllReadyH.nil
      refine step_app0 rfl _ _ rfl Y49 ge q c.ws cap (by rw [hgq]; rfl) rfl (unhide RE) (unhide HW1) (by omega) (xb + 1) hgx ?_
      intro v1 Y50 ow1 gr1
      change K20159 (Act.put _ (some 126) _) _
      simp only [Act.put, List.setIfInBounds_toArray, List.set_cons_zero, List.set_cons_succ]
      refine hK20159.out _ _ ?hs20159 (fun hHeld20159 => ?_)
      case hs20159 => exact gr_blk hHeld gr1 (by omega)
      clear hHeld
      have hHeld := hHeld20159; clear hHeld20159 hK20159 K20159
      replace HB1 := hide (gr_below (unhide HB1) gr1 (by omega) (unhide HB1).size)
      replace HC1 := hide (gr_blk (unhide HC1) gr1 (by omega))
      replace hsz1 := Nat.le_trans hsz1 gr1.size
      have OW := hide ow1
      replace RW := hide (gr_blk (unhide RW) gr1 hbg)
      have hbs2 := gr1.size
      clear gr1 ow1 RE HW1
      refine wpAnyH_ready (rs := [8]) (by kernel_rfl) (by simp) ?_
      refine AllReadyH.cons rfl (fun K20160 hK20160 => ?_) AllReadyH.nil
      have hnv : some V.heap.size ≠ v1.ownBlock := fun e => by have h9 := ((unhide OW).lt _ e.symm).1; omega
      have hnx : some xb ≠ v1.ownBlock := fun e => by have h9 := ((unhide OW).lt _ e.symm).1; omega
      have hnews : ∀ j u, ([.string ⟨#[107]⟩, .string zz, .bool false] : List Value)[j]? = some u → Y50.cell? (Addr.add ⟨bw, 0, none⟩ j) = some u := fun j u hj => by
        have e1 : Addr.add ⟨bw, 0, none⟩ j = ⟨bw, j, none⟩ := by simp [Addr.add]; exact fun h => h.symm
        rw [e1, (unhide RW).cell j]
        simpa using hj
      refine step_append_lies _ rfl _ _ 24 rfl (xb + 1) 40 i0 _ 3 40 Try.underlying24 hi hz0 hz1 hz2 rfl (by decide) v1 _ _ rfl (unhide OW) ⟨bw, 0, none⟩ 1 1 [.string ⟨#[107]⟩, .string zz, .bool false] (by rw [hbq]; rfl) rfl hnews (by simp [Value.oneCell']) (by decide) (by unfold maxLen; omega) (by omega) hsz1 _ rfl ?_
      intro g2 cp2 w4 ow4 gr4 _ _
      change K20160 (Act.put _ (some 131) _) _
      simp only [Act.put, List.setIfInBounds_toArray, List.set_cons_zero, List.set_cons_succ]
      refine hK20160.out _ _ ?hs20160 (fun hHeld20160 => ?_)
      case hs20160 => exact (gr4.block _ hHeld.lt hnx).trans hHeld
      clear hHeld
      have hHeld := hHeld20160; clear hHeld20160 hK20160 K20160
      refine wpAnyH_take (i := 9) (oi := ?oi20161) (v := ?v20161) ?hi20161 (by kernel_rfl) (by kernel_rfl) (by kernel_rfl) (fun _ _ _ h => h) (Or.inl ⟨?hw20161, ?hy20161⟩) (by assumption) ?rest20161
      case hi20161 => (simp only [List.getElem?_toArray, List.getElem?_cons_zero, List.getElem?_cons_succ]; rfl)
      case hw20161 => rfl
      case hy20161 => first | (intro wx hSw; go_simp; done) | (intro wx hSw; go_simp; with_reducible rfl)
      simp only [Act.put, List.setIfInBounds_toArray, List.set_cons_zero, List.set_cons_succ]
      have k4 : Blk V.heap.size #[.int .i64 c.kind, .int .i64 c.id, .int .i64 c.txn, .bool c.com, .slice q c.ws.length cap, .string c.text] 26 w4 := (gr4.block _ (unhide HC1).lt hnv).trans (unhide HC1)
      have hB4 : Below V.heap.size V w4 := (unhide HB1).grown gr4 (unhide HB1).size (fun j e => by have h9 := ((unhide OW).lt _ e).1; omega)
      have l4 := k4.lt
      have z4 := k4.cell 4
      have zf4 := k4.froz 4
      simp at z4
      refine wpAnyH_ready (rs := [10]) (by kernel_rfl) (by simp) ?_
      refine AllReadyH.cons rfl (fun K20162 hK20162 => ?_) AllReadyH.nil
      go_simp
      refine hK20162.out _ _ ?hs20162 (fun hHeld20162 => ?_)
      case hs20162 => exact blk_far1 hHeld (by omega)
      clear hHeld
      have hHeld := hHeld20162; clear hHeld20162 hK20162 K20162
      refine wpAnyH_done (by kernel_rfl) ?_ _
      refine NoPanic.normal ?_
      skip
      exact unhide FIN g2 cp2 w4 _ (by kernel_rfl) ow4 k4 hB4
end Go.Proofs.Ytjmmfgmmmdbenaa

namespace Go.Proofs.Ytjmmfgmmmdbenaa
open Go.RowKit
set_option linter.unusedSimpArgs false
set_option linter.unusedVariables false

theorem right_main {r0 r1 r2 r3 r4 rest : Code} (hc : Try.f5.body = some (.seq r0 (.seq r1 (.seq r2 (.seq r3 (.seq r4 rest)))))) (d : Cm) (q2 : Option Addr) (cap2 : Nat) (a1 a2 a3 : Int) (v4 : Value) (s : ByteArray) (which vv form : Int) (w : World) (c : Cm) (g : GoodC c) (MK : Hid (Mk7 a1 a2 a3 v4 s w c)) (HV0 : Hid (WsV q2 d.ws w)) (FD : Hid (FineW d)) (hs : (s.size : Int) ≤ 60) (ht : (d.text.size : Int) ≤ 100) (hw : (d.ws.length : Int) ≤ 50) (kw : Is64 which) (kv : Is64 vv) :
    (Code.seq r0 (.seq r1 (.seq r2 (.seq r3 (.seq r4 rest))))).wp Try.prog (bodyPost Try.prog Try.f5 (fun e w' => e = .returned (.bool true) ∧ Below w.heap.size w w')) ⟨#[.agg #[.int .i64 d.kind, .int .i64 d.id, .int .i64 d.txn, .bool d.com, .slice q2 d.ws.length cap2, .string d.text], .int .i64 a1, .int .i64 a2, .int .i64 a3, v4, .string s, .int .i64 which, .int .i64 vv, .int .i64 form, undef, undef, undef, undef, undef, undef, undef, undef, undef, undef, undef, undef, undef, undef, undef, undef, undef, undef, undef, undef, undef, undef, undef, undef, undef, undef, undef, undef, undef, undef, undef, undef, undef, undef, undef, undef, undef, undef, undef, undef, undef, undef, undef, undef, undef, undef, undef, undef, undef, undef, undef, undef, undef, undef, undef, undef, undef, undef, undef, undef, undef, undef, undef, undef, undef, undef, undef, undef, undef, undef, undef, undef, undef, undef, undef, undef, undef, undef, undef, undef, undef, undef, undef, undef, undef, undef, undef, undef, undef, undef, undef, undef, undef, undef, undef, undef, undef, undef, undef, undef, undef, undef, undef, undef, undef, undef, undef, undef, undef, undef, undef, undef, undef, undef, undef, undef, undef, undef, undef, undef, undef, undef, undef, undef, undef, undef, undef, undef, undef, undef, undef, undef, undef, undef, undef, undef, undef, undef, undef, undef, undef, undef, undef, undef, undef, undef, undef, undef, undef, undef, undef, undef, undef, undef, undef, undef, undef, undef, undef, undef, undef, undef, undef, undef, undef, undef, undef, undef, undef, undef, undef, undef, undef, undef, undef, undef, undef, undef, undef, undef, undef, undef, undef, undef, undef, undef, undef, undef], []⟩ w := by
  have hs2 : s.size ≤ 60 := by omega
  refine right_front hc (.seq r4 rest) d q2 cap2 a1 a2 a3 v4 s which vv form w c MK HV0 hs ht hw (hide (fun ac q cap V X ha HC HD HW HV HBV HB => wp_seq ?_))
  have hA : Hid (After (rest.wp Try.prog (bodyPost Try.prog Try.f5 (fun e w' => e = .returned (.bool true) ∧ Below w.heap.size w w'))) w form w.heap.size V d q2 cap2) := hide (fun ac' c' q' cap' X' ha' h1 h2 h3 h4 h5 h6 => right_tail hc w form ac' V.heap.size w.heap.size X' ha' c' d q' q2 cap' cap2 h1 h2 h3 h4 h5 FD h6)
  have hj : which % 9 = 0 ∨ which % 9 = 1 ∨ which % 9 = 2 ∨ which % 9 = 3 ∨ which % 9 = 4 ∨ which % 9 = 5 ∨ which % 9 = 6 ∨ which % 9 = 7 ∨ which % 9 = 8 := by omega
  rcases hj with hj | hj | hj | hj | hj | hj | hj | hj | hj
  · exact right_sw0 hc w s which vv form ac w.heap.size V X ha c d q q2 cap cap2 g HC HD HW HV HBV HB kw kv hs2 _ _ hA hj
  · exact right_sw1 hc w s which vv form ac w.heap.size V X ha c d q q2 cap cap2 g HC HD HW HV HBV HB kw kv hs2 _ _ hA hj
  · exact right_sw2 hc w s which vv form ac w.heap.size V X ha c d q q2 cap cap2 g HC HD HW HV HBV HB kw kv hs2 _ _ hA hj
  · exact right_sw3 hc w s which vv form ac w.heap.size V X ha c d q q2 cap cap2 g HC HD HW HV HBV HB kw kv hs2 _ _ hA hj
  · exact right_sw4 hc w s which vv form ac w.heap.size V X ha c d q q2 cap cap2 g HC HD HW HV HBV HB kw kv hs2 _ _ hA hj
  · exact right_sw5 hc w s which vv form ac w.heap.size V X ha c d q q2 cap cap2 g HC HD HW HV HBV HB kw kv hs2 _ _ hA hj
  · exact right_sw6 hc w s which vv form ac w.heap.size V X ha c d q q2 cap cap2 g HC HD HW HV HBV HB kw kv hs2 _ _ hA hj
  · exact right_sw7 hc w s which vv form ac w.heap.size V X ha c d q q2 cap cap2 g HC HD HW HV HBV HB kw kv hs2 _ _ hA hj
  · exact right_sw8 hc w s which vv form ac w.heap.size V X ha c d q q2 cap cap2 g HC HD HW HV HBV HB kw kv hs2 _ _ hA hj
set_option maxRecDepth 100000 in
theorem cmdRight_walk (d : Cm) (q2 : Option Addr) (cap2 : Nat) (a1 a2 a3 : Int) (v4 : Value) (zs : List Int) (s : ByteArray) (which vv form : Int) (k1 : Is64 a1) (k2 : Is64 a2) (k3 : Is64 a3) (kw : Is64 which) (kv : Is64 vv) (kf : Is64 form) (w : World) (HV0 : WsV q2 d.ws w) (FD : d.ws.length ≤ 50 → FineW d) (w4 : Ints v4 zs w) :
    Calls Try.prog 5 #[.agg #[.int .i64 d.kind, .int .i64 d.id, .int .i64 d.txn, .bool d.com, .slice q2 d.ws.length cap2, .string d.text], .int .i64 a1, .int .i64 a2, .int .i64 a3, v4, .string s, .int .i64 which, .int .i64 vv, .int .i64 form] w fun e w' => e = .returned (.bool true) ∧ Below w.heap.size w w' := by
  by_cases hs : (s.size : Int) ≤ 60
  · by_cases ht : (d.text.size : Int) ≤ 100
    · by_cases hw : (d.ws.length : Int) ≤ 50
      · have MK := hide (mk7_of a1 a2 a3 v4 zs s w k1 k2 k3 w4 (by omega))
        have g := mkC_good a1 a2 a3 zs s (by omega)
        generalize mkC a1 a2 a3 zs s = c at *
        go_enter Try.func5, Try.ntmps5
        exact right_main rfl d q2 cap2 a1 a2 a3 v4 s which vv form w c g MK (hide HV0) (hide (FD (by omega))) hs ht hw kw kv
      · exact right_long_w d q2 cap2 a1 a2 a3 v4 s which vv form w hs ht (by omega)
    · exact right_long_t d q2 cap2 a1 a2 a3 v4 s which vv form w hs (by omega)
  · exact right_long_s d q2 cap2 a1 a2 a3 v4 s which vv form w (by omega)
end Go.Proofs.Ytjmmfgmmmdbenaa

namespace Go.Proofs.Ytjmmfgmmmdbenaa
open Go.ChangeShapes Go.WideShapes Go.ChangeAt Go.RowKit
set_option linter.unusedVariables false

theorem is64_litQ {n : Int} (h : (Lit.int .i64 n).wf = true) : Is64 n := bounds_i64 h
theorem laidOut : laidOutB Try.prog = true := by kernel_rfl
theorem cellsInt : Try.prog.cellsOf 3 = 1 := by kernel_rfl
set_option maxRecDepth 100000 in
theorem ints_of {H : Type} {enc : TypeId × Value → H} {W : World} {base : Nat} {v : Value} {d : DataW H} {p : List MemPlace} (hval : Value.okWide Try.prog W .any base 22 v) (h : DataW.Trod enc Try.prog W 0 (fun _ => true) true 22 v d p) : ∃ zs, Ints v zs W := by
  obtain ⟨a0, len, cap, rfl⟩ := okWide_slice Try.underlying22 hval
  obtain ⟨fuel, hf⟩ := h
  rcases open_ints Try.underlying22 Try.underlying3 cellsInt hf with ⟨hcs, hx⟩ | ⟨a, len', cap', zs, hcs, _, hl, hm, hz, hx, hcell, hwz⟩
  · simp [Value.cells] at hcs
    obtain ⟨rfl, rfl, rfl⟩ := hcs
    exact ⟨[], .inl ⟨rfl, rfl⟩⟩
  · simp [Value.cells] at hcs
    obtain ⟨rfl, rfl, rfl⟩ := hcs
    simp only [if_true] at hz
    have hl2 : (zs.take len).length = len := by rw [List.length_take]; omega
    refine ⟨zs.take len, .inr ⟨a, cap, by rw [hl2], by rw [hl2]; exact Nat.le_trans hl hm, fun i hi => ?_⟩⟩
    rw [hl2] at hi
    have hi' : i < zs.length := by omega
    have hc := hcell i hi'
    have e : zs.getD i 0 = (zs.take len)[i]'(by rw [hl2]; exact hi) := by simp [List.getD, hi']
    rw [e] at hc
    refine ⟨hc, World.block_lt_of_cell? W _ hc, ?_⟩
    have hw := hwz (zs[i]) (List.getElem_mem hi')
    have e2 : (zs.take len)[i]'(by rw [hl2]; exact hi) = zs[i] := by simp
    rw [e2]
    exact is64_litQ hw
end Go.Proofs.Ytjmmfgmmmdbenaa

namespace Go.Proofs.Ytjmmfgmmmdbenaa
open Go.ChangeShapes Go.WideShapes Go.ChangeAt Go.RowKit
set_option linter.unusedVariables false

theorem cellsStr : Try.prog.cellsOf 9 = 1 := by kernel_rfl
theorem cellsBool : Try.prog.cellsOf 4 = 1 := by kernel_rfl
theorem cellsWt : Try.prog.cellsOf 40 = 3 := by kernel_rfl
theorem cellsCm : Try.prog.cellsOf 26 = 6 := by kernel_rfl
theorem cellsSlW : Try.prog.cellsOf 24 = 1 := by kernel_rfl
set_option maxRecDepth 100000 in
theorem wt_trod {H : Type} {enc : TypeId × Value → H} {W : World} (fuel : Nat) (cs : List Value) (x : DataW H × List MemPlace) (h : DataW.trod enc Try.prog W 0 (fun _ => true) true fuel 40 cs = some x) : ∃ t : Wt, cs = [.string t.k, .string t.v, .bool t.g] ∧ t.k.size ≤ maxLen ∧ t.v.size ≤ maxLen := by
  obtain ⟨xs, m, _, _, hl, hxl, hf⟩ := DataW.trod_struct Try.underlying40 h
  rw [cellsWt] at hl
  match cs, hl with
  | [c0, c1, c2], _ =>
    have hx3 : xs.length = 3 := hxl
    have f0 : DataW.trod enc Try.prog W 0 (fun _ => true) true m 9 ((([c0, c1, c2] : List Value).drop 0).take (Try.prog.cellsOf 9)) = xs[0]? := hf 0 _ rfl
    rw [cellsStr, List.getElem?_eq_getElem (by omega)] at f0
    have f1 : DataW.trod enc Try.prog W 0 (fun _ => true) true m 9 ((([c0, c1, c2] : List Value).drop 1).take (Try.prog.cellsOf 9)) = xs[1]? := hf 1 _ rfl
    rw [cellsStr, List.getElem?_eq_getElem (by omega)] at f1
    have f2 : DataW.trod enc Try.prog W 0 (fun _ => true) true m 4 ((([c0, c1, c2] : List Value).drop 2).take (Try.prog.cellsOf 4)) = xs[2]? := hf 2 _ rfl
    rw [cellsBool, List.getElem?_eq_getElem (by omega)] at f2
    obtain ⟨K, e0, _, k0⟩ := DataW.trod_string Try.underlying9 f0
    obtain ⟨S, e1, _, k1⟩ := DataW.trod_string Try.underlying9 f1
    obtain ⟨G, e2, _⟩ := DataW.trod_bool Try.underlying4 f2
    have d0 : c0 = .string K := by simpa using e0
    have d1 : c1 = .string S := by simpa using e1
    have d2 : c2 = .bool G := by simpa using e2
    subst d0 d1 d2
    exact ⟨⟨K, S, G⟩, rfl, k0, k1⟩
set_option maxRecDepth 100000 in
theorem ws_trod {H : Type} {enc : TypeId × Value → H} {W : World} (fuel : Nat) (cs : List Value) (x : DataW H × List MemPlace) (h : DataW.trod enc Try.prog W 0 (fun _ => true) true fuel 24 cs = some x) : ∃ (ws : List Wt) (q : Option Addr) (cap : Nat), cs = [.slice q ws.length cap] ∧ WsV q ws W ∧ ∀ t ∈ ws, t.k.size ≤ maxLen ∧ t.v.size ≤ maxLen := by
  rcases DataW.trod_slice Try.underlying24 h with ⟨rfl, _⟩ | ⟨a, len, cap, elems, rest, n, _, rfl, _, hb, hl, hm, hlen, hel, _, _⟩
  · exact ⟨[], none, 0, rfl, ⟨0, 0, fun h => absurd rfl h, fun i hi => absurd hi (by simp)⟩, fun t ht => by cases ht⟩
  · have hP : ∀ i, ∃ t : Wt, i < len → (∀ j u, ([.string t.k, .string t.v, .bool t.g] : List Value)[j]? = some u → W.cell? ((a.add (i * 3)).add j) = some u) ∧ t.k.size ≤ maxLen ∧ t.v.size ≤ maxLen := fun i => by
      by_cases hi : i < len
      · have he := hel i hi
        rw [cellsWt, List.getElem?_eq_getElem (by omega), Option.bind_eq_some_iff] at he
        obtain ⟨cs3, hcs, hy⟩ := he
        obtain ⟨_, h3, hc⟩ := World.cells?_some hcs
        obtain ⟨t, rfl, k0, k1⟩ := wt_trod n cs3 _ hy
        refine ⟨t, fun _ => ⟨fun j u hj => ?_, k0, k1⟩⟩
        have hj3 : j < 3 := (List.getElem?_eq_some_iff.1 hj).1
        exact (hc j hj3).trans hj
      · exact ⟨⟨⟨#[]⟩, ⟨#[]⟩, false⟩, fun h => absurd h hi⟩
    obtain ⟨f, hf⟩ : ∃ f : Nat → Wt, ∀ i, i < len → (∀ j u, ([.string (f i).k, .string (f i).v, .bool (f i).g] : List Value)[j]? = some u → W.cell? ((a.add (i * 3)).add j) = some u) ∧ (f i).k.size ≤ maxLen ∧ (f i).v.size ≤ maxLen := ⟨fun i => Classical.choose (hP i), fun i => Classical.choose_spec (hP i)⟩
    have hwl : ((List.range len).map f).length = len := by simp
    refine ⟨(List.range len).map f, some a, cap, by rw [hwl], ?_, fun t ht => ?_⟩
    · by_cases h0 : len = 0
      · exact ⟨0, 0, fun h => absurd (hwl.trans h0) h, fun i hi => absurd hi (by rw [hwl]; omega)⟩
      · obtain ⟨b, off, spot⟩ := a
        have hspot : spot = none := by simpa [Addr.add] using World.cell?_spot ((hf 0 (by omega)).1 0 _ rfl)
        subst hspot
        refine ⟨b, off, fun _ => rfl, fun i hi => ?_⟩
        have hi2 : i < len := by rw [hwl] at hi; exact hi
        have e : ((List.range len).map f)[i] = f i := by simp
        rw [e]
        have h1 := (hf i hi2).1
        have c0 := h1 0 _ rfl
        have c1 := h1 1 _ rfl
        have c2 := h1 2 _ rfl
        rw [Go.WideShapes.add_plain, Go.WideShapes.add_plain] at c0 c1 c2
        exact ⟨⟨c0, c1, c2⟩, World.block_lt_of_cell? W _ c0⟩
    · obtain ⟨i, hi, rfl⟩ := List.mem_map.1 ht
      exact (hf i (List.mem_range.1 hi)).2
set_option maxRecDepth 100000 in
theorem cmd_of {H : Type} {enc : TypeId × Value → H} {W : World} {base : Nat} {v : Value} {d : DataW H} {p : List MemPlace} (hval : Value.okWide Try.prog W .any base 26 v) (h : DataW.Trod enc Try.prog W 0 (fun _ => true) true 26 v d p) : ∃ (c : Cm) (q : Option Addr) (cap : Nat), v = .agg #[.int .i64 c.kind, .int .i64 c.id, .int .i64 c.txn, .bool c.com, .slice q c.ws.length cap, .string c.text] ∧ WsV q c.ws W ∧ (c.ws.length ≤ 50 → FineW c) := by
  obtain ⟨cs, rfl, hsz⟩ := okWide_struct Try.underlying26 hval
  obtain ⟨fuel, hf0⟩ := h
  rw [cellsCm] at hsz
  obtain ⟨l⟩ := cs
  match l, hsz with
  | [c0, c1, c2, c3, c4, c5], _ =>
    have hf1 : DataW.trod enc Try.prog W 0 (fun _ => true) true fuel 26 [c0, c1, c2, c3, c4, c5] = some (d, p) := by simpa [Value.cells] using hf0
    obtain ⟨xs, m, _, _, hl, hxl, hf⟩ := DataW.trod_struct Try.underlying26 hf1
    have hx6 : xs.length = 6 := hxl
    have f0 : DataW.trod enc Try.prog W 0 (fun _ => true) true m 3 ((([c0, c1, c2, c3, c4, c5] : List Value).drop 0).take (Try.prog.cellsOf 3)) = xs[0]? := hf 0 _ rfl
    rw [cellsInt, List.getElem?_eq_getElem (by omega)] at f0
    have f1 : DataW.trod enc Try.prog W 0 (fun _ => true) true m 3 ((([c0, c1, c2, c3, c4, c5] : List Value).drop 1).take (Try.prog.cellsOf 3)) = xs[1]? := hf 1 _ rfl
    rw [cellsInt, List.getElem?_eq_getElem (by omega)] at f1
    have f2 : DataW.trod enc Try.prog W 0 (fun _ => true) true m 3 ((([c0, c1, c2, c3, c4, c5] : List Value).drop 2).take (Try.prog.cellsOf 3)) = xs[2]? := hf 2 _ rfl
    rw [cellsInt, List.getElem?_eq_getElem (by omega)] at f2
    have f3 : DataW.trod enc Try.prog W 0 (fun _ => true) true m 4 ((([c0, c1, c2, c3, c4, c5] : List Value).drop 3).take (Try.prog.cellsOf 4)) = xs[3]? := hf 3 _ rfl
    rw [cellsBool, List.getElem?_eq_getElem (by omega)] at f3
    have f4 : DataW.trod enc Try.prog W 0 (fun _ => true) true m 24 ((([c0, c1, c2, c3, c4, c5] : List Value).drop 4).take (Try.prog.cellsOf 24)) = xs[4]? := hf 4 _ rfl
    rw [cellsSlW, List.getElem?_eq_getElem (by omega)] at f4
    have f5 : DataW.trod enc Try.prog W 0 (fun _ => true) true m 9 ((([c0, c1, c2, c3, c4, c5] : List Value).drop 5).take (Try.prog.cellsOf 9)) = xs[5]? := hf 5 _ rfl
    rw [cellsStr, List.getElem?_eq_getElem (by omega)] at f5
    obtain ⟨K, e0, _, k0⟩ := DataW.trod_int Try.underlying3 f0
    obtain ⟨I, e1, _, k1⟩ := DataW.trod_int Try.underlying3 f1
    obtain ⟨X, e2, _, k2⟩ := DataW.trod_int Try.underlying3 f2
    obtain ⟨B, e3, _⟩ := DataW.trod_bool Try.underlying4 f3
    obtain ⟨ws, q, cap, e4, k4, k5⟩ := ws_trod m _ _ f4
    obtain ⟨S, e5, _, k6⟩ := DataW.trod_string Try.underlying9 f5
    have d0 : c0 = .int .i64 K := by simpa using e0
    have d1 : c1 = .int .i64 I := by simpa using e1
    have d2 : c2 = .int .i64 X := by simpa using e2
    have d3 : c3 = .bool B := by simpa using e3
    have d4 : c4 = .slice q ws.length cap := by simpa using e4
    have d5 : c5 = .string S := by simpa using e5
    subst d0 d1 d2 d3 d4 d5
    exact ⟨⟨K, I, X, B, ws, S⟩, q, cap, rfl, k4, fun hl => ⟨is64_litQ k0, is64_litQ k1, is64_litQ k2, Nat.le_trans hl (by decide), fun t ht => by have h9 := k5 t ht; unfold maxLen at h9; omega, by unfold maxLen at k6; show S.size ≤ _; omega⟩⟩
end Go.Proofs.Ytjmmfgmmmdbenaa

