/-
  CmdRight: behind its switch: both commands in five forms.
-/
import Derived.Test.YtjmmfgmmmdbenaaCEw
import Derived.Test.YtjmmfgmmmdbenaaREw
import Derived.Test.YtjmmfgmmmdbenaaCP
namespace Go.Proofs.Ytjmmfgmmmdbenaa
open Go.RowKit
set_option linter.unusedSimpArgs false
set_option linter.unusedVariables false

theorem forms_at (form : Int) (k : Nat) (hk : k < 5) : ∃ f : Int, (#[.int .i64 1, .int .i64 2, .int .i64 0, .int .i64 3, .int .i64 form] : Array Value)[k]? = some (.int .i64 f) := by
  match k, hk with
  | 0, _ => exact ⟨_, rfl⟩
  | 1, _ => exact ⟨_, rfl⟩
  | 2, _ => exact ⟨_, rfl⟩
  | 3, _ => exact ⟨_, rfl⟩
  | 4, _ => exact ⟨_, rfl⟩
theorem cmvW {c : Cm} {q : Option Addr} {cap : Nat} {W : World} (h : WsV q c.ws W) : CmV (.agg #[.int .i64 c.kind, .int .i64 c.id, .int .i64 c.txn, .bool c.com, .slice q c.ws.length cap, .string c.text]) c W := ⟨q, cap, rfl, h⟩
set_option maxRecDepth 100000 in
set_option maxHeartbeats 32000000 in
theorem right_tail {r0 r1 r2 r3 r4 rest : Code} (hc : Try.f5.body = some (.seq r0 (.seq r1 (.seq r2 (.seq r3 (.seq r4 rest)))))) (w : World) (form : Int) (ac : Act) (b b9 : Nat) (X : World) (ha : ac = ⟨#[ac.tmps.getD 0 undef, ac.tmps.getD 1 undef, ac.tmps.getD 2 undef, ac.tmps.getD 3 undef, ac.tmps.getD 4 undef, ac.tmps.getD 5 undef, ac.tmps.getD 6 undef, ac.tmps.getD 7 undef, .int .i64 form, .pointer (some ⟨b9, 0, none⟩), ac.tmps.getD 10 undef, ac.tmps.getD 11 undef, ac.tmps.getD 12 undef, ac.tmps.getD 13 undef, ac.tmps.getD 14 undef, ac.tmps.getD 15 undef, ac.tmps.getD 16 undef, ac.tmps.getD 17 undef, .bool false, .pointer (some ⟨b, 0, none⟩), ac.tmps.getD 20 undef, ac.tmps.getD 21 undef, ac.tmps.getD 22 undef, ac.tmps.getD 23 undef, ac.tmps.getD 24 undef, ac.tmps.getD 25 undef, ac.tmps.getD 26 undef, ac.tmps.getD 27 undef, ac.tmps.getD 28 undef, ac.tmps.getD 29 undef, ac.tmps.getD 30 undef, ac.tmps.getD 31 undef, ac.tmps.getD 32 undef, ac.tmps.getD 33 undef, ac.tmps.getD 34 undef, ac.tmps.getD 35 undef, ac.tmps.getD 36 undef, ac.tmps.getD 37 undef, ac.tmps.getD 38 undef, ac.tmps.getD 39 undef, ac.tmps.getD 40 undef, ac.tmps.getD 41 undef, ac.tmps.getD 42 undef, ac.tmps.getD 43 undef, ac.tmps.getD 44 undef, ac.tmps.getD 45 undef, ac.tmps.getD 46 undef, ac.tmps.getD 47 undef, ac.tmps.getD 48 undef, ac.tmps.getD 49 undef, ac.tmps.getD 50 undef, ac.tmps.getD 51 undef, ac.tmps.getD 52 undef, ac.tmps.getD 53 undef, ac.tmps.getD 54 undef, ac.tmps.getD 55 undef, ac.tmps.getD 56 undef, ac.tmps.getD 57 undef, ac.tmps.getD 58 undef, ac.tmps.getD 59 undef, ac.tmps.getD 60 undef, ac.tmps.getD 61 undef, ac.tmps.getD 62 undef, ac.tmps.getD 63 undef, ac.tmps.getD 64 undef, ac.tmps.getD 65 undef, ac.tmps.getD 66 undef, ac.tmps.getD 67 undef, ac.tmps.getD 68 undef, ac.tmps.getD 69 undef, ac.tmps.getD 70 undef, ac.tmps.getD 71 undef, ac.tmps.getD 72 undef, ac.tmps.getD 73 undef, ac.tmps.getD 74 undef, ac.tmps.getD 75 undef, ac.tmps.getD 76 undef, ac.tmps.getD 77 undef, ac.tmps.getD 78 undef, ac.tmps.getD 79 undef, ac.tmps.getD 80 undef, ac.tmps.getD 81 undef, ac.tmps.getD 82 undef, ac.tmps.getD 83 undef, ac.tmps.getD 84 undef, ac.tmps.getD 85 undef, ac.tmps.getD 86 undef, ac.tmps.getD 87 undef, ac.tmps.getD 88 undef, ac.tmps.getD 89 undef, ac.tmps.getD 90 undef, ac.tmps.getD 91 undef, ac.tmps.getD 92 undef, ac.tmps.getD 93 undef, ac.tmps.getD 94 undef, ac.tmps.getD 95 undef, ac.tmps.getD 96 undef, ac.tmps.getD 97 undef, ac.tmps.getD 98 undef, ac.tmps.getD 99 undef, ac.tmps.getD 100 undef, ac.tmps.getD 101 undef, ac.tmps.getD 102 undef, ac.tmps.getD 103 undef, ac.tmps.getD 104 undef, ac.tmps.getD 105 undef, ac.tmps.getD 106 undef, ac.tmps.getD 107 undef, ac.tmps.getD 108 undef, ac.tmps.getD 109 undef, ac.tmps.getD 110 undef, ac.tmps.getD 111 undef, ac.tmps.getD 112 undef, ac.tmps.getD 113 undef, ac.tmps.getD 114 undef, ac.tmps.getD 115 undef, ac.tmps.getD 116 undef, ac.tmps.getD 117 undef, ac.tmps.getD 118 undef, ac.tmps.getD 119 undef, ac.tmps.getD 120 undef, ac.tmps.getD 121 undef, ac.tmps.getD 122 undef, ac.tmps.getD 123 undef, ac.tmps.getD 124 undef, ac.tmps.getD 125 undef, ac.tmps.getD 126 undef, ac.tmps.getD 127 undef, ac.tmps.getD 128 undef, ac.tmps.getD 129 undef, ac.tmps.getD 130 undef, ac.tmps.getD 131 undef, ac.tmps.getD 132 undef, ac.tmps.getD 133 undef, ac.tmps.getD 134 undef, ac.tmps.getD 135 undef, ac.tmps.getD 136 undef, ac.tmps.getD 137 undef, ac.tmps.getD 138 undef, ac.tmps.getD 139 undef, ac.tmps.getD 140 undef, ac.tmps.getD 141 undef, ac.tmps.getD 142 undef, ac.tmps.getD 143 undef, ac.tmps.getD 144 undef, ac.tmps.getD 145 undef, ac.tmps.getD 146 undef, ac.tmps.getD 147 undef, ac.tmps.getD 148 undef, ac.tmps.getD 149 undef, ac.tmps.getD 150 undef, ac.tmps.getD 151 undef, ac.tmps.getD 152 undef, ac.tmps.getD 153 undef, ac.tmps.getD 154 undef, ac.tmps.getD 155 undef, ac.tmps.getD 156 undef, ac.tmps.getD 157 undef, ac.tmps.getD 158 undef, ac.tmps.getD 159 undef, ac.tmps.getD 160 undef, ac.tmps.getD 161 undef, ac.tmps.getD 162 undef, ac.tmps.getD 163 undef, ac.tmps.getD 164 undef, ac.tmps.getD 165 undef, ac.tmps.getD 166 undef, ac.tmps.getD 167 undef, ac.tmps.getD 168 undef, ac.tmps.getD 169 undef, ac.tmps.getD 170 undef, ac.tmps.getD 171 undef, ac.tmps.getD 172 undef, ac.tmps.getD 173 undef, ac.tmps.getD 174 undef, ac.tmps.getD 175 undef, ac.tmps.getD 176 undef, ac.tmps.getD 177 undef, ac.tmps.getD 178 undef, ac.tmps.getD 179 undef, ac.tmps.getD 180 undef, ac.tmps.getD 181 undef, ac.tmps.getD 182 undef, ac.tmps.getD 183 undef, ac.tmps.getD 184 undef, ac.tmps.getD 185 undef, ac.tmps.getD 186 undef, ac.tmps.getD 187 undef, ac.tmps.getD 188 undef, ac.tmps.getD 189 undef, ac.tmps.getD 190 undef, ac.tmps.getD 191 undef, ac.tmps.getD 192 undef, ac.tmps.getD 193 undef, ac.tmps.getD 194 undef, ac.tmps.getD 195 undef, ac.tmps.getD 196 undef], []⟩)
    (c d : Cm) (q q2 : Option Addr) (cap cap2 : Nat) (HC : Hid (Blk b #[.int .i64 c.kind, .int .i64 c.id, .int .i64 c.txn, .bool c.com, .slice q c.ws.length cap, .string c.text] 26 X)) (HD : Hid (Blk b9 #[.int .i64 d.kind, .int .i64 d.id, .int .i64 d.txn, .bool d.com, .slice q2 d.ws.length cap2, .string d.text] 26 X)) (HW : Hid (WsV q c.ws X)) (HV : Hid (WsV q2 d.ws X)) (FC : Hid (FineW c)) (FD : Hid (FineW d)) (HB : Hid (Below w.heap.size w X)) :
    rest.wp Try.prog (bodyPost Try.prog Try.f5 (fun e w' => e = .returned (.bool true) ∧ Below w.heap.size w w')) ac X := by
  obtain ⟨u, rfl⟩ : ∃ u : Nat → Value, ac = ⟨#[u 0, u 1, u 2, u 3, u 4, u 5, u 6, u 7, .int .i64 form, .pointer (some ⟨b9, 0, none⟩), u 10, u 11, u 12, u 13, u 14, u 15, u 16, u 17, .bool false, .pointer (some ⟨b, 0, none⟩), u 20, u 21, u 22, u 23, u 24, u 25, u 26, u 27, u 28, u 29, u 30, u 31, u 32, u 33, u 34, u 35, u 36, u 37, u 38, u 39, u 40, u 41, u 42, u 43, u 44, u 45, u 46, u 47, u 48, u 49, u 50, u 51, u 52, u 53, u 54, u 55, u 56, u 57, u 58, u 59, u 60, u 61, u 62, u 63, u 64, u 65, u 66, u 67, u 68, u 69, u 70, u 71, u 72, u 73, u 74, u 75, u 76, u 77, u 78, u 79, u 80, u 81, u 82, u 83, u 84, u 85, u 86, u 87, u 88, u 89, u 90, u 91, u 92, u 93, u 94, u 95, u 96, u 97, u 98, u 99, u 100, u 101, u 102, u 103, u 104, u 105, u 106, u 107, u 108, u 109, u 110, u 111, u 112, u 113, u 114, u 115, u 116, u 117, u 118, u 119, u 120, u 121, u 122, u 123, u 124, u 125, u 126, u 127, u 128, u 129, u 130, u 131, u 132, u 133, u 134, u 135, u 136, u 137, u 138, u 139, u 140, u 141, u 142, u 143, u 144, u 145, u 146, u 147, u 148, u 149, u 150, u 151, u 152, u 153, u 154, u 155, u 156, u 157, u 158, u 159, u 160, u 161, u 162, u 163, u 164, u 165, u 166, u 167, u 168, u 169, u 170, u 171, u 172, u 173, u 174, u 175, u 176, u 177, u 178, u 179, u 180, u 181, u 182, u 183, u 184, u 185, u 186, u 187, u 188, u 189, u 190, u 191, u 192, u 193, u 194, u 195, u 196], []⟩ := ⟨fun i => ac.tmps.getD i undef, ha⟩
  clear ha
  unfold Try.f5 at hc
  cases hc
  have k1_ := unhide HC
  have k2_ := unhide HD
  have lc := k1_.lt
  have ld := k2_.lt
  have x0_ := k1_.cell 0
  have y0_ := k2_.cell 0
  have x1_ := k1_.cell 1
  have y1_ := k2_.cell 1
  have x2_ := k1_.cell 2
  have y2_ := k2_.cell 2
  have x3_ := k1_.cell 3
  have y3_ := k2_.cell 3
  have x4_ := k1_.cell 4
  have y4_ := k2_.cell 4
  have x5_ := k1_.cell 5
  have y5_ := k2_.cell 5
  simp at x0_ y0_ x1_ y1_ x2_ y2_ x3_ y3_ x4_ y4_ x5_ y5_
  clear k1_ k2_
  go_wp2
  have HL := hide ((Blk.new X #[.int .i64 c.kind, .int .i64 c.id, .int .i64 c.txn, .bool c.com, .slice q c.ws.length cap, .string c.text, .int .i64 d.kind, .int .i64 d.id, .int .i64 d.txn, .bool d.com, .slice q2 d.ws.length cap2, .string d.text] 26).below (below_new (X.alloc (.cells #[.int .i64 c.kind, .int .i64 c.id, .int .i64 c.txn, .bool c.com, .slice q c.ws.length cap, .string c.text, .int .i64 d.kind, .int .i64 d.id, .int .i64 d.txn, .bool d.com, .slice q2 d.ws.length cap2, .string d.text] 26)) (.cells #[.int .i64 1, .int .i64 2, .int .i64 0, .int .i64 3, .int .i64 form] 3)))
  have hF := Blk.new (X.alloc (.cells #[.int .i64 c.kind, .int .i64 c.id, .int .i64 c.txn, .bool c.com, .slice q c.ws.length cap, .string c.text, .int .i64 d.kind, .int .i64 d.id, .int .i64 d.txn, .bool d.com, .slice q2 d.ws.length cap2, .string d.text] 26)) #[.int .i64 1, .int .i64 2, .int .i64 0, .int .i64 3, .int .i64 form] 3
  rw [World.size_alloc] at hF
  have HF := hide hF
  have hbn := Below.onto (below_new X (.cells #[.int .i64 c.kind, .int .i64 c.id, .int .i64 c.txn, .bool c.com, .slice q c.ws.length cap, .string c.text, .int .i64 d.kind, .int .i64 d.id, .int .i64 d.txn, .bool d.com, .slice q2 d.ws.length cap2, .string d.text] 26)) (below_new (X.alloc (.cells #[.int .i64 c.kind, .int .i64 c.id, .int .i64 c.txn, .bool c.com, .slice q c.ws.length cap, .string c.text, .int .i64 d.kind, .int .i64 d.id, .int .i64 d.txn, .bool d.com, .slice q2 d.ws.length cap2, .string d.text] 26)) (.cells #[.int .i64 1, .int .i64 2, .int .i64 0, .int .i64 3, .int .i64 form] 3))
  replace HW := hide ((unhide HW).below hbn)
  replace HV := hide ((unhide HV).below hbn)
  replace HB := hide (Below.onto (unhide HB) hbn)
  clear hbn hF HC HD lc ld x0_ y0_ x1_ y1_ x2_ y2_ x3_ y3_ x4_ y4_ x5_ y5_
  generalize (X.alloc (.cells #[.int .i64 c.kind, .int .i64 c.id, .int .i64 c.txn, .bool c.com, .slice q c.ws.length cap, .string c.text, .int .i64 d.kind, .int .i64 d.id, .int .i64 d.txn, .bool d.com, .slice q2 d.ws.length cap2, .string d.text] 26)).alloc (.cells #[.int .i64 1, .int .i64 2, .int .i64 0, .int .i64 3, .int .i64 form] 3) = X1 at *
  generalize X.heap.size = l0 at *
  go_loopw [25] (fun i wr => ∃ n : Nat, n ≤ 2 ∧ i = .int .i64 (n : Int) ∧ Hid (Blk l0 #[.int .i64 c.kind, .int .i64 c.id, .int .i64 c.txn, .bool c.com, .slice q c.ws.length cap, .string c.text, .int .i64 d.kind, .int .i64 d.id, .int .i64 d.txn, .bool d.com, .slice q2 d.ws.length cap2, .string d.text] 26 wr) ∧ Hid (Blk (l0 + 1) #[.int .i64 1, .int .i64 2, .int .i64 0, .int .i64 3, .int .i64 form] 3 wr) ∧ Hid (WsV q c.ws wr) ∧ Hid (WsV q2 d.ws wr) ∧ Hid (Below w.heap.size w wr)) (fun i wr => 2 - (intOf i).toNat)
  case atStart => exact ⟨0, by omega, rfl, HL, HF, HW, HV, HB⟩
  case round =>
    clear HL HF HW HV HB
    obtain ⟨n, hn, rfl, HL, HF, HW, HV, HB⟩ := hrel
    by_cases h2 : n < 2
    case neg =>
      obtain rfl : n = 2 := by omega
      go_wp2
      go_ret
      exact ⟨rfl, unhide HB⟩
    case pos =>
    have hnn : n = 0 ∨ n = 1 := by omega
    rcases hnn with rfl | rfl
    · go_wp2
      go_loopw [26] (fun j wr => ∃ m : Nat, m ≤ 5 ∧ j = .int .i64 (m : Int) ∧ Hid (Blk l0 #[.int .i64 c.kind, .int .i64 c.id, .int .i64 c.txn, .bool c.com, .slice q c.ws.length cap, .string c.text, .int .i64 d.kind, .int .i64 d.id, .int .i64 d.txn, .bool d.com, .slice q2 d.ws.length cap2, .string d.text] 26 wr) ∧ Hid (Blk (l0 + 1) #[.int .i64 1, .int .i64 2, .int .i64 0, .int .i64 3, .int .i64 form] 3 wr) ∧ Hid (WsV q c.ws wr) ∧ Hid (WsV q2 d.ws wr) ∧ Hid (Below w.heap.size w wr)) (fun j wr => 5 - (intOf j).toNat)
      case atStart => exact ⟨0, by omega, rfl, HL, HF, HW, HV, HB⟩
      case round =>
        clear HL HF HW HV HB
        obtain ⟨m, hm, rfl, HL, HF, HW, HV, HB⟩ := hrel
        by_cases h5 : m < 5
        case neg =>
          obtain rfl : m = 5 := by omega
          go_wp2
          exact ⟨⟨1, by omega, by go_num, HL, HF, HW, HV, HB⟩, by simp [intOf]⟩
        case pos =>
        obtain ⟨f, hf⟩ := forms_at form m h5
        have HX := hide hf
        have hmi : (m : Int) < 5 := by omega
        clear hf
        have E1 := hide (fun v W hv => encodeWd_any f c v W hv (unhide FC))
        have E2 := hide (fun v W hv => rencodeWd_any f c v W hv (unhide FC))
        obtain ⟨s0, hs0⟩ : ∃ s, encS f c = s := ⟨_, rfl⟩
        obtain ⟨k0, hk0⟩ : ∃ s, okC f c = s := ⟨_, rfl⟩
        rw [hs0, hk0] at E1 E2
        clear hs0 hk0
        go_wp2
        rename_i hrest
        have hbd : Below wr.heap.size wr wr.drew := (Below.refl _ _).drew
        replace HL := hide ((unhide HL).below hbd)
        replace HF := hide ((unhide HF).below hbd)
        replace HW := hide ((unhide HW).below hbd)
        replace HV := hide ((unhide HV).below hbd)
        replace HB := hide (Below.onto (unhide HB) hbd)
        refine wp_region_noPanic ?_
        refine wp_region_held_drew (S := (fun X => Blk l0 #[.int .i64 c.kind, .int .i64 c.id, .int .i64 c.txn, .bool c.com, .slice q c.ws.length cap, .string c.text, .int .i64 d.kind, .int .i64 d.id, .int .i64 d.txn, .bool d.com, .slice q2 d.ws.length cap2, .string d.text] 26 X ∧ Blk (l0 + 1) #[.int .i64 1, .int .i64 2, .int .i64 0, .int .i64 3, .int .i64 form] 3 X)) (by kernel_rfl) (⟨unhide HL, unhide HF⟩) (fun hHeld => ?_)
        clear hbd
        generalize wr.drew = Z0 at *
        refine wpAnyH_take (i := 0) (oi := ?oi20001) (v := ?v20001) ?hi20001 (by kernel_rfl) (by kernel_rfl) (by kernel_rfl) (fun _ _ _ h => h) (Or.inl ⟨?hw20001, ?hy20001⟩) (by assumption) ?rest20001
        case hi20001 => (simp only [List.getElem?_toArray, List.getElem?_cons_zero]; rfl)
        case hw20001 => rfl
        case hy20001 => first | (intro wx hSw; go_simp; done) | (intro wx hSw; go_simp; with_reducible rfl)
        simp only [Act.put, List.setIfInBounds_toArray, List.set_cons_zero, List.set_cons_succ]
        refine wpAnyH_take (i := 1) (oi := ?oi20002) (v := ?v20002) ?hi20002 (by kernel_rfl) (by kernel_rfl) (by kernel_rfl) (fun _ _ _ h => h) (Or.inl ⟨?hw20002, ?hy20002⟩) (by assumption) ?rest20002
        case hi20002 => (simp only [List.getElem?_toArray, List.getElem?_cons_zero, List.getElem?_cons_succ]; rfl)
        case hw20002 => rfl
        case hy20002 => first | (intro wx hSw; go_simp; done) | (intro wx hSw; go_simp; with_reducible rfl)
        simp only [Act.put, List.setIfInBounds_toArray, List.set_cons_zero, List.set_cons_succ]
        refine wpAnyH_take (i := 2) (oi := ?oi20003) (v := ?v20003) ?hi20003 (by kernel_rfl) (by kernel_rfl) (by kernel_rfl) (fun _ _ _ h => h) (Or.inl ⟨?hw20003, ?hy20003⟩) (by assumption) ?rest20003
        case hi20003 => (simp only [List.getElem?_toArray, List.getElem?_cons_zero, List.getElem?_cons_succ]; rfl)
        case hw20003 => rfl
        case hy20003 => first | (intro wx hSw; go_simp; done) | (intro wx hSw; go_simp; with_reducible rfl)
        simp only [Act.put, List.setIfInBounds_toArray, List.set_cons_zero, List.set_cons_succ]
        refine wpAnyH_take (i := 3) (oi := ?oi20004) (v := ?v20004) ?hi20004 (by kernel_rfl) (by kernel_rfl) (by kernel_rfl) (fun _ _ _ h => h) (Or.inl ⟨?hw20004, ?hy20004⟩) (by assumption) ?rest20004
        case hi20004 => (simp only [List.getElem?_toArray, List.getElem?_cons_zero, List.getElem?_cons_succ]; rfl)
        case hw20004 => rfl
        case hy20004 => first | (intro wx hSw; have q0_ := hSw.1.cell 0; have q1_ := hSw.1.cell 1; have q2_ := hSw.1.cell 2; have q3_ := hSw.1.cell 3; have q4_ := hSw.1.cell 4; have q5_ := hSw.1.cell 5; simp at q0_ q1_ q2_ q3_ q4_ q5_; go_simp; done) | (intro wx hSw; have q0_ := hSw.1.cell 0; have q1_ := hSw.1.cell 1; have q2_ := hSw.1.cell 2; have q3_ := hSw.1.cell 3; have q4_ := hSw.1.cell 4; have q5_ := hSw.1.cell 5; simp at q0_ q1_ q2_ q3_ q4_ q5_; go_simp; with_reducible rfl)
        simp only [Act.put, List.setIfInBounds_toArray, List.set_cons_zero, List.set_cons_succ]
        refine wpAnyH_take (i := 4) (oi := ?oi20005) (v := ?v20005) ?hi20005 (by kernel_rfl) (by kernel_rfl) (by kernel_rfl) (fun _ _ _ h => h) (Or.inl ⟨?hw20005, ?hy20005⟩) (by assumption) ?rest20005
        case hi20005 => (simp only [List.getElem?_toArray, List.getElem?_cons_zero, List.getElem?_cons_succ]; rfl)
        case hw20005 => rfl
        case hy20005 => first | (intro wx hSw; go_simp; done) | (intro wx hSw; go_simp; with_reducible rfl)
        simp only [Act.put, List.setIfInBounds_toArray, List.set_cons_zero, List.set_cons_succ]
        refine wpAnyH_take (i := 5) (oi := ?oi20006) (v := ?v20006) ?hi20006 (by kernel_rfl) (by kernel_rfl) (by kernel_rfl) (fun _ _ _ h => h) (Or.inl ⟨?hw20006, ?hy20006⟩) (by assumption) ?rest20006
        case hi20006 => (simp only [List.getElem?_toArray, List.getElem?_cons_zero, List.getElem?_cons_succ]; rfl)
        case hw20006 => rfl
        case hy20006 => first | (intro wx hSw; go_simp; done) | (intro wx hSw; go_simp; with_reducible rfl)
        simp only [Act.put, List.setIfInBounds_toArray, List.set_cons_zero, List.set_cons_succ]
        refine wpAnyH_take (i := 6) (oi := ?oi20007) (v := ?v20007) ?hi20007 (by kernel_rfl) (by kernel_rfl) (by kernel_rfl) (fun _ _ _ h => h) (Or.inl ⟨?hw20007, ?hy20007⟩) (by assumption) ?rest20007
        case hi20007 => (simp only [List.getElem?_toArray, List.getElem?_cons_zero, List.getElem?_cons_succ]; rfl)
        case hw20007 => rfl
        case hy20007 => first | (intro wx hSw; go_simp; done) | (intro wx hSw; go_simp; with_reducible rfl)
        simp only [Act.put, List.setIfInBounds_toArray, List.set_cons_zero, List.set_cons_succ]
        refine wpAnyH_take (i := 7) (oi := ?oi20008) (v := ?v20008) ?hi20008 (by kernel_rfl) (by kernel_rfl) (by kernel_rfl) (fun _ _ _ h => h) (Or.inl ⟨?hw20008, ?hy20008⟩) (by assumption) ?rest20008
        case hi20008 => (simp only [List.getElem?_toArray, List.getElem?_cons_zero, List.getElem?_cons_succ]; rfl)
        case hw20008 => rfl
        case hy20008 => first | (intro wx hSw; have q_ := hSw.2.cell m; rw [unhide HX] at q_; go_simp; done) | (intro wx hSw; have q_ := hSw.2.cell m; rw [unhide HX] at q_; go_simp; with_reducible rfl)
        simp only [Act.put, List.setIfInBounds_toArray, List.set_cons_zero, List.set_cons_succ]
        refine wpAnyH_ready (rs := [8]) (by kernel_rfl) (by simp) ?_
        refine AllReadyH.cons rfl (fun K20009 hK20009 => ?_) AllReadyH.nil
        go_simp
        go_wp2_with (go_at_call 16; refine (unhide E1 (.agg #[.int .i64 c.kind, .int .i64 c.id, .int .i64 c.txn, .bool c.com, .slice q c.ws.length cap, .string c.text]) Z0 (cmvW (unhide HW))).mono ?_; rintro e W1 ⟨rfl, hb0⟩)
        replace HL := hide ((unhide HL).below hb0); replace HF := hide ((unhide HF).below hb0); replace HW := hide ((unhide HW).below hb0); replace HV := hide ((unhide HV).below hb0); replace HB := hide (Below.onto (unhide HB) hb0); clear hb0
        refine hK20009.out _ _ ?hs20009 (fun hHeld20009 => ?_)
        case hs20009 => exact ⟨unhide HL, unhide HF⟩
        clear hHeld
        have hHeld := hHeld20009; clear hHeld20009 hK20009 K20009
        refine wpAnyH_take (i := 9) (oi := ?oi20010) (v := ?v20010) ?hi20010 (by kernel_rfl) (by kernel_rfl) (by kernel_rfl) (fun _ _ _ h => h) (Or.inl ⟨?hw20010, ?hy20010⟩) (by assumption) ?rest20010
        case hi20010 => (simp only [List.getElem?_toArray, List.getElem?_cons_zero, List.getElem?_cons_succ]; rfl)
        case hw20010 => rfl
        case hy20010 => first | (intro wx hSw; go_simp; done) | (intro wx hSw; go_simp; with_reducible rfl)
        simp only [Act.put, List.setIfInBounds_toArray, List.set_cons_zero, List.set_cons_succ]
        refine wpAnyH_take (i := 10) (oi := ?oi20011) (v := ?v20011) ?hi20011 (by kernel_rfl) (by kernel_rfl) (by kernel_rfl) (fun _ _ _ h => h) (Or.inl ⟨?hw20011, ?hy20011⟩) (by assumption) ?rest20011
        case hi20011 => (simp only [List.getElem?_toArray, List.getElem?_cons_zero, List.getElem?_cons_succ]; rfl)
        case hw20011 => rfl
        case hy20011 => first | (intro wx hSw; go_simp; done) | (intro wx hSw; go_simp; with_reducible rfl)
        simp only [Act.put, List.setIfInBounds_toArray, List.set_cons_zero, List.set_cons_succ]
        refine wpAnyH_take (i := 11) (oi := ?oi20012) (v := ?v20012) ?hi20012 (by kernel_rfl) (by kernel_rfl) (by kernel_rfl) (fun _ _ _ h => h) (Or.inl ⟨?hw20012, ?hy20012⟩) (by assumption) ?rest20012
        case hi20012 => (simp only [List.getElem?_toArray, List.getElem?_cons_zero, List.getElem?_cons_succ]; rfl)
        case hw20012 => rfl
        case hy20012 => first | (intro wx hSw; go_simp; done) | (intro wx hSw; go_simp; with_reducible rfl)
        simp only [Act.put, List.setIfInBounds_toArray, List.set_cons_zero, List.set_cons_succ]
        refine wpAnyH_ready (rs := [12]) (by kernel_rfl) (by simp) ?_
        refine AllReadyH.cons rfl (fun K20013 hK20013 => ?_) AllReadyH.nil
        go_simp
        refine hK20013.out _ _ ?hs20013 (fun hHeld20013 => ?_)
        case hs20013 => exact ⟨unhide HL, unhide HF⟩
        clear hHeld
        have hHeld := hHeld20013; clear hHeld20013 hK20013 K20013
        refine wpAnyH_ready (rs := [13]) (by kernel_rfl) (by simp) ?_
        refine AllReadyH.cons rfl (fun K20014 hK20014 => ?_) AllReadyH.nil
        go_simp
        refine hK20014.out _ _ ?hs20014 (fun hHeld20014 => ?_)
        case hs20014 => exact ⟨unhide HL, unhide HF⟩
        clear hHeld
        have hHeld := hHeld20014; clear hHeld20014 hK20014 K20014
        refine wpAnyH_done (by kernel_rfl) ?_ _
        refine NoPanic.normal ?_
        refine hrest _ _ ?_
        clear hHeld
        go_wp2
        rename_i hrest
        have hbd : Below W1.heap.size W1 W1.drew := (Below.refl _ _).drew
        replace HL := hide ((unhide HL).below hbd)
        replace HF := hide ((unhide HF).below hbd)
        replace HW := hide ((unhide HW).below hbd)
        replace HV := hide ((unhide HV).below hbd)
        replace HB := hide (Below.onto (unhide HB) hbd)
        refine wp_region_noPanic ?_
        refine wp_region_held_drew (S := (fun X => Blk l0 #[.int .i64 c.kind, .int .i64 c.id, .int .i64 c.txn, .bool c.com, .slice q c.ws.length cap, .string c.text, .int .i64 d.kind, .int .i64 d.id, .int .i64 d.txn, .bool d.com, .slice q2 d.ws.length cap2, .string d.text] 26 X ∧ Blk (l0 + 1) #[.int .i64 1, .int .i64 2, .int .i64 0, .int .i64 3, .int .i64 form] 3 X)) (by kernel_rfl) (⟨unhide HL, unhide HF⟩) (fun hHeld => ?_)
        clear hbd
        generalize W1.drew = Z1 at *
        refine wpAnyH_take (i := 0) (oi := ?oi20015) (v := ?v20015) ?hi20015 (by kernel_rfl) (by kernel_rfl) (by kernel_rfl) (fun _ _ _ h => h) (Or.inl ⟨?hw20015, ?hy20015⟩) (by assumption) ?rest20015
        case hi20015 => (simp only [List.getElem?_toArray, List.getElem?_cons_zero]; rfl)
        case hw20015 => rfl
        case hy20015 => first | (intro wx hSw; go_simp; done) | (intro wx hSw; go_simp; with_reducible rfl)
        simp only [Act.put, List.setIfInBounds_toArray, List.set_cons_zero, List.set_cons_succ]
        refine wpAnyH_take (i := 1) (oi := ?oi20016) (v := ?v20016) ?hi20016 (by kernel_rfl) (by kernel_rfl) (by kernel_rfl) (fun _ _ _ h => h) (Or.inl ⟨?hw20016, ?hy20016⟩) (by assumption) ?rest20016
        case hi20016 => (simp only [List.getElem?_toArray, List.getElem?_cons_zero, List.getElem?_cons_succ]; rfl)
        case hw20016 => rfl
        case hy20016 => first | (intro wx hSw; go_simp; done) | (intro wx hSw; go_simp; with_reducible rfl)
        simp only [Act.put, List.setIfInBounds_toArray, List.set_cons_zero, List.set_cons_succ]
        refine wpAnyH_take (i := 2) (oi := ?oi20017) (v := ?v20017) ?hi20017 (by kernel_rfl) (by kernel_rfl) (by kernel_rfl) (fun _ _ _ h => h) (Or.inl ⟨?hw20017, ?hy20017⟩) (by assumption) ?rest20017
        case hi20017 => (simp only [List.getElem?_toArray, List.getElem?_cons_zero, List.getElem?_cons_succ]; rfl)
        case hw20017 => rfl
        case hy20017 => first | (intro wx hSw; go_simp; done) | (intro wx hSw; go_simp; with_reducible rfl)
        simp only [Act.put, List.setIfInBounds_toArray, List.set_cons_zero, List.set_cons_succ]
        refine wpAnyH_take (i := 3) (oi := ?oi20018) (v := ?v20018) ?hi20018 (by kernel_rfl) (by kernel_rfl) (by kernel_rfl) (fun _ _ _ h => h) (Or.inl ⟨?hw20018, ?hy20018⟩) (by assumption) ?rest20018
        case hi20018 => (simp only [List.getElem?_toArray, List.getElem?_cons_zero, List.getElem?_cons_succ]; rfl)
        case hw20018 => rfl
        case hy20018 => first | (intro wx hSw; have q0_ := hSw.1.cell 0; have q1_ := hSw.1.cell 1; have q2_ := hSw.1.cell 2; have q3_ := hSw.1.cell 3; have q4_ := hSw.1.cell 4; have q5_ := hSw.1.cell 5; simp at q0_ q1_ q2_ q3_ q4_ q5_; go_simp; done) | (intro wx hSw; have q0_ := hSw.1.cell 0; have q1_ := hSw.1.cell 1; have q2_ := hSw.1.cell 2; have q3_ := hSw.1.cell 3; have q4_ := hSw.1.cell 4; have q5_ := hSw.1.cell 5; simp at q0_ q1_ q2_ q3_ q4_ q5_; go_simp; with_reducible rfl)
        simp only [Act.put, List.setIfInBounds_toArray, List.set_cons_zero, List.set_cons_succ]
        refine wpAnyH_take (i := 4) (oi := ?oi20019) (v := ?v20019) ?hi20019 (by kernel_rfl) (by kernel_rfl) (by kernel_rfl) (fun _ _ _ h => h) (Or.inl ⟨?hw20019, ?hy20019⟩) (by assumption) ?rest20019
        case hi20019 => (simp only [List.getElem?_toArray, List.getElem?_cons_zero, List.getElem?_cons_succ]; rfl)
        case hw20019 => rfl
        case hy20019 => first | (intro wx hSw; go_simp; done) | (intro wx hSw; go_simp; with_reducible rfl)
        simp only [Act.put, List.setIfInBounds_toArray, List.set_cons_zero, List.set_cons_succ]
        refine wpAnyH_take (i := 5) (oi := ?oi20020) (v := ?v20020) ?hi20020 (by kernel_rfl) (by kernel_rfl) (by kernel_rfl) (fun _ _ _ h => h) (Or.inl ⟨?hw20020, ?hy20020⟩) (by assumption) ?rest20020
        case hi20020 => (simp only [List.getElem?_toArray, List.getElem?_cons_zero, List.getElem?_cons_succ]; rfl)
        case hw20020 => rfl
        case hy20020 => first | (intro wx hSw; go_simp; done) | (intro wx hSw; go_simp; with_reducible rfl)
        simp only [Act.put, List.setIfInBounds_toArray, List.set_cons_zero, List.set_cons_succ]
        refine wpAnyH_take (i := 6) (oi := ?oi20021) (v := ?v20021) ?hi20021 (by kernel_rfl) (by kernel_rfl) (by kernel_rfl) (fun _ _ _ h => h) (Or.inl ⟨?hw20021, ?hy20021⟩) (by assumption) ?rest20021
        case hi20021 => (simp only [List.getElem?_toArray, List.getElem?_cons_zero, List.getElem?_cons_succ]; rfl)
        case hw20021 => rfl
        case hy20021 => first | (intro wx hSw; go_simp; done) | (intro wx hSw; go_simp; with_reducible rfl)
        simp only [Act.put, List.setIfInBounds_toArray, List.set_cons_zero, List.set_cons_succ]
        refine wpAnyH_take (i := 7) (oi := ?oi20022) (v := ?v20022) ?hi20022 (by kernel_rfl) (by kernel_rfl) (by kernel_rfl) (fun _ _ _ h => h) (Or.inl ⟨?hw20022, ?hy20022⟩) (by assumption) ?rest20022
        case hi20022 => (simp only [List.getElem?_toArray, List.getElem?_cons_zero, List.getElem?_cons_succ]; rfl)
        case hw20022 => rfl
        case hy20022 => first | (intro wx hSw; have q_ := hSw.2.cell m; rw [unhide HX] at q_; go_simp; done) | (intro wx hSw; have q_ := hSw.2.cell m; rw [unhide HX] at q_; go_simp; with_reducible rfl)
        simp only [Act.put, List.setIfInBounds_toArray, List.set_cons_zero, List.set_cons_succ]
        refine wpAnyH_ready (rs := [8]) (by kernel_rfl) (by simp) ?_
        refine AllReadyH.cons rfl (fun K20023 hK20023 => ?_) AllReadyH.nil
        go_simp
        go_wp2_with (go_at_call 17; refine (unhide E2 (.agg #[.int .i64 c.kind, .int .i64 c.id, .int .i64 c.txn, .bool c.com, .slice q c.ws.length cap, .string c.text]) Z1 (cmvW (unhide HW))).mono ?_; rintro e W2 ⟨rfl, hb1⟩)
        replace HL := hide ((unhide HL).below hb1); replace HF := hide ((unhide HF).below hb1); replace HW := hide ((unhide HW).below hb1); replace HV := hide ((unhide HV).below hb1); replace HB := hide (Below.onto (unhide HB) hb1); clear hb1
        refine hK20023.out _ _ ?hs20023 (fun hHeld20023 => ?_)
        case hs20023 => exact ⟨unhide HL, unhide HF⟩
        clear hHeld
        have hHeld := hHeld20023; clear hHeld20023 hK20023 K20023
        refine wpAnyH_take (i := 9) (oi := ?oi20024) (v := ?v20024) ?hi20024 (by kernel_rfl) (by kernel_rfl) (by kernel_rfl) (fun _ _ _ h => h) (Or.inl ⟨?hw20024, ?hy20024⟩) (by assumption) ?rest20024
        case hi20024 => (simp only [List.getElem?_toArray, List.getElem?_cons_zero, List.getElem?_cons_succ]; rfl)
        case hw20024 => rfl
        case hy20024 => first | (intro wx hSw; go_simp; done) | (intro wx hSw; go_simp; with_reducible rfl)
        simp only [Act.put, List.setIfInBounds_toArray, List.set_cons_zero, List.set_cons_succ]
        refine wpAnyH_take (i := 10) (oi := ?oi20025) (v := ?v20025) ?hi20025 (by kernel_rfl) (by kernel_rfl) (by kernel_rfl) (fun _ _ _ h => h) (Or.inl ⟨?hw20025, ?hy20025⟩) (by assumption) ?rest20025
        case hi20025 => (simp only [List.getElem?_toArray, List.getElem?_cons_zero, List.getElem?_cons_succ]; rfl)
        case hw20025 => rfl
        case hy20025 => first | (intro wx hSw; go_simp; done) | (intro wx hSw; go_simp; with_reducible rfl)
        simp only [Act.put, List.setIfInBounds_toArray, List.set_cons_zero, List.set_cons_succ]
        refine wpAnyH_take (i := 11) (oi := ?oi20026) (v := ?v20026) ?hi20026 (by kernel_rfl) (by kernel_rfl) (by kernel_rfl) (fun _ _ _ h => h) (Or.inl ⟨?hw20026, ?hy20026⟩) (by assumption) ?rest20026
        case hi20026 => (simp only [List.getElem?_toArray, List.getElem?_cons_zero, List.getElem?_cons_succ]; rfl)
        case hw20026 => rfl
        case hy20026 => first | (intro wx hSw; go_simp; done) | (intro wx hSw; go_simp; with_reducible rfl)
        simp only [Act.put, List.setIfInBounds_toArray, List.set_cons_zero, List.set_cons_succ]
        refine wpAnyH_ready (rs := [12]) (by kernel_rfl) (by simp) ?_
        refine AllReadyH.cons rfl (fun K20027 hK20027 => ?_) AllReadyH.nil
        go_simp
        refine hK20027.out _ _ ?hs20027 (fun hHeld20027 => ?_)
        case hs20027 => exact ⟨unhide HL, unhide HF⟩
        clear hHeld
        have hHeld := hHeld20027; clear hHeld20027 hK20027 K20027
        refine wpAnyH_ready (rs := [13]) (by kernel_rfl) (by simp) ?_
        refine AllReadyH.cons rfl (fun K20028 hK20028 => ?_) AllReadyH.nil
        go_simp
        refine hK20028.out _ _ ?hs20028 (fun hHeld20028 => ?_)
        case hs20028 => exact ⟨unhide HL, unhide HF⟩
        clear hHeld
        have hHeld := hHeld20028; clear hHeld20028 hK20028 K20028
        refine wpAnyH_done (by kernel_rfl) ?_ _
        refine NoPanic.normal ?_
        refine hrest _ _ ?_
        clear hHeld
        go_wp2
        go_roundw
        case rel =>
          refine ⟨_, _, _, _, _, _, _, _, _, _, _, _, _, _, _, _, _, _, _, _, _, _, _, _, _, _, _, _, _, _, _, _, _, _, _, _, _, _, _, _, _, _, ?_, rfl⟩
          exact ⟨m + 1, by omega, by go_num, HL, HF, HW, HV, HB⟩
        case measure => simp [intOf] <;> omega
    · go_wp2
      go_loopw [26] (fun j wr => ∃ m : Nat, m ≤ 5 ∧ j = .int .i64 (m : Int) ∧ Hid (Blk l0 #[.int .i64 c.kind, .int .i64 c.id, .int .i64 c.txn, .bool c.com, .slice q c.ws.length cap, .string c.text, .int .i64 d.kind, .int .i64 d.id, .int .i64 d.txn, .bool d.com, .slice q2 d.ws.length cap2, .string d.text] 26 wr) ∧ Hid (Blk (l0 + 1) #[.int .i64 1, .int .i64 2, .int .i64 0, .int .i64 3, .int .i64 form] 3 wr) ∧ Hid (WsV q c.ws wr) ∧ Hid (WsV q2 d.ws wr) ∧ Hid (Below w.heap.size w wr)) (fun j wr => 5 - (intOf j).toNat)
      case atStart => exact ⟨0, by omega, rfl, HL, HF, HW, HV, HB⟩
      case round =>
        clear HL HF HW HV HB
        obtain ⟨m, hm, rfl, HL, HF, HW, HV, HB⟩ := hrel
        by_cases h5 : m < 5
        case neg =>
          obtain rfl : m = 5 := by omega
          go_wp2
          exact ⟨⟨2, by omega, by go_num, HL, HF, HW, HV, HB⟩, by simp [intOf]⟩
        case pos =>
        obtain ⟨f, hf⟩ := forms_at form m h5
        have HX := hide hf
        have hmi : (m : Int) < 5 := by omega
        clear hf
        have E1 := hide (fun v W hv => encodeWd_any f d v W hv (unhide FD))
        have E2 := hide (fun v W hv => rencodeWd_any f d v W hv (unhide FD))
        obtain ⟨s0, hs0⟩ : ∃ s, encS f d = s := ⟨_, rfl⟩
        obtain ⟨k0, hk0⟩ : ∃ s, okC f d = s := ⟨_, rfl⟩
        rw [hs0, hk0] at E1 E2
        clear hs0 hk0
        go_wp2
        rename_i hrest
        have hbd : Below wr.heap.size wr wr.drew := (Below.refl _ _).drew
        replace HL := hide ((unhide HL).below hbd)
        replace HF := hide ((unhide HF).below hbd)
        replace HW := hide ((unhide HW).below hbd)
        replace HV := hide ((unhide HV).below hbd)
        replace HB := hide (Below.onto (unhide HB) hbd)
        refine wp_region_noPanic ?_
        refine wp_region_held_drew (S := (fun X => Blk l0 #[.int .i64 c.kind, .int .i64 c.id, .int .i64 c.txn, .bool c.com, .slice q c.ws.length cap, .string c.text, .int .i64 d.kind, .int .i64 d.id, .int .i64 d.txn, .bool d.com, .slice q2 d.ws.length cap2, .string d.text] 26 X ∧ Blk (l0 + 1) #[.int .i64 1, .int .i64 2, .int .i64 0, .int .i64 3, .int .i64 form] 3 X)) (by kernel_rfl) (⟨unhide HL, unhide HF⟩) (fun hHeld => ?_)
        clear hbd
        generalize wr.drew = Z0 at *
        refine wpAnyH_take (i := 0) (oi := ?oi20029) (v := ?v20029) ?hi20029 (by kernel_rfl) (by kernel_rfl) (by kernel_rfl) (fun _ _ _ h => h) (Or.inl ⟨?hw20029, ?hy20029⟩) (by assumption) ?rest20029
        case hi20029 => (simp only [List.getElem?_toArray, List.getElem?_cons_zero]; rfl)
        case hw20029 => rfl
        case hy20029 => first | (intro wx hSw; go_simp; done) | (intro wx hSw; go_simp; with_reducible rfl)
        simp only [Act.put, List.setIfInBounds_toArray, List.set_cons_zero, List.set_cons_succ]
        refine wpAnyH_take (i := 1) (oi := ?oi20030) (v := ?v20030) ?hi20030 (by kernel_rfl) (by kernel_rfl) (by kernel_rfl) (fun _ _ _ h => h) (Or.inl ⟨?hw20030, ?hy20030⟩) (by assumption) ?rest20030
        case hi20030 => (simp only [List.getElem?_toArray, List.getElem?_cons_zero, List.getElem?_cons_succ]; rfl)
        case hw20030 => rfl
        case hy20030 => first | (intro wx hSw; go_simp; done) | (intro wx hSw; go_simp; with_reducible rfl)
        simp only [Act.put, List.setIfInBounds_toArray, List.set_cons_zero, List.set_cons_succ]
        refine wpAnyH_take (i := 2) (oi := ?oi20031) (v := ?v20031) ?hi20031 (by kernel_rfl) (by kernel_rfl) (by kernel_rfl) (fun _ _ _ h => h) (Or.inl ⟨?hw20031, ?hy20031⟩) (by assumption) ?rest20031
        case hi20031 => (simp only [List.getElem?_toArray, List.getElem?_cons_zero, List.getElem?_cons_succ]; rfl)
        case hw20031 => rfl
        case hy20031 => first | (intro wx hSw; go_simp; done) | (intro wx hSw; go_simp; with_reducible rfl)
        simp only [Act.put, List.setIfInBounds_toArray, List.set_cons_zero, List.set_cons_succ]
        refine wpAnyH_take (i := 3) (oi := ?oi20032) (v := ?v20032) ?hi20032 (by kernel_rfl) (by kernel_rfl) (by kernel_rfl) (fun _ _ _ h => h) (Or.inl ⟨?hw20032, ?hy20032⟩) (by assumption) ?rest20032
        case hi20032 => (simp only [List.getElem?_toArray, List.getElem?_cons_zero, List.getElem?_cons_succ]; rfl)
        case hw20032 => rfl
        case hy20032 => first | (intro wx hSw; have q0_ := hSw.1.cell 6; have q1_ := hSw.1.cell 7; have q2_ := hSw.1.cell 8; have q3_ := hSw.1.cell 9; have q4_ := hSw.1.cell 10; have q5_ := hSw.1.cell 11; simp at q0_ q1_ q2_ q3_ q4_ q5_; go_simp; done) | (intro wx hSw; have q0_ := hSw.1.cell 6; have q1_ := hSw.1.cell 7; have q2_ := hSw.1.cell 8; have q3_ := hSw.1.cell 9; have q4_ := hSw.1.cell 10; have q5_ := hSw.1.cell 11; simp at q0_ q1_ q2_ q3_ q4_ q5_; go_simp; with_reducible rfl)
        simp only [Act.put, List.setIfInBounds_toArray, List.set_cons_zero, List.set_cons_succ]
        refine wpAnyH_take (i := 4) (oi := ?oi20033) (v := ?v20033) ?hi20033 (by kernel_rfl) (by kernel_rfl) (by kernel_rfl) (fun _ _ _ h => h) (Or.inl ⟨?hw20033, ?hy20033⟩) (by assumption) ?rest20033
        case hi20033 => (simp only [List.getElem?_toArray, List.getElem?_cons_zero, List.getElem?_cons_succ]; rfl)
        case hw20033 => rfl
        case hy20033 => first | (intro wx hSw; go_simp; done) | (intro wx hSw; go_simp; with_reducible rfl)
        simp only [Act.put, List.setIfInBounds_toArray, List.set_cons_zero, List.set_cons_succ]
        refine wpAnyH_take (i := 5) (oi := ?oi20034) (v := ?v20034) ?hi20034 (by kernel_rfl) (by kernel_rfl) (by kernel_rfl) (fun _ _ _ h => h) (Or.inl ⟨?hw20034, ?hy20034⟩) (by assumption) ?rest20034
        case hi20034 => (simp only [List.getElem?_toArray, List.getElem?_cons_zero, List.getElem?_cons_succ]; rfl)
        case hw20034 => rfl
        case hy20034 => first | (intro wx hSw; go_simp; done) | (intro wx hSw; go_simp; with_reducible rfl)
        simp only [Act.put, List.setIfInBounds_toArray, List.set_cons_zero, List.set_cons_succ]
        refine wpAnyH_take (i := 6) (oi := ?oi20035) (v := ?v20035) ?hi20035 (by kernel_rfl) (by kernel_rfl) (by kernel_rfl) (fun _ _ _ h => h) (Or.inl ⟨?hw20035, ?hy20035⟩) (by assumption) ?rest20035
        case hi20035 => (simp only [List.getElem?_toArray, List.getElem?_cons_zero, List.getElem?_cons_succ]; rfl)
        case hw20035 => rfl
        case hy20035 => first | (intro wx hSw; go_simp; done) | (intro wx hSw; go_simp; with_reducible rfl)
        simp only [Act.put, List.setIfInBounds_toArray, List.set_cons_zero, List.set_cons_succ]
        refine wpAnyH_take (i := 7) (oi := ?oi20036) (v := ?v20036) ?hi20036 (by kernel_rfl) (by kernel_rfl) (by kernel_rfl) (fun _ _ _ h => h) (Or.inl ⟨?hw20036, ?hy20036⟩) (by assumption) ?rest20036
        case hi20036 => (simp only [List.getElem?_toArray, List.getElem?_cons_zero, List.getElem?_cons_succ]; rfl)
        case hw20036 => rfl
        case hy20036 => first | (intro wx hSw; have q_ := hSw.2.cell m; rw [unhide HX] at q_; go_simp; done) | (intro wx hSw; have q_ := hSw.2.cell m; rw [unhide HX] at q_; go_simp; with_reducible rfl)
        simp only [Act.put, List.setIfInBounds_toArray, List.set_cons_zero, List.set_cons_succ]
        refine wpAnyH_ready (rs := [8]) (by kernel_rfl) (by simp) ?_
        refine AllReadyH.cons rfl (fun K20037 hK20037 => ?_) AllReadyH.nil
        go_simp
        go_wp2_with (go_at_call 16; refine (unhide E1 (.agg #[.int .i64 d.kind, .int .i64 d.id, .int .i64 d.txn, .bool d.com, .slice q2 d.ws.length cap2, .string d.text]) Z0 (cmvW (unhide HV))).mono ?_; rintro e W1 ⟨rfl, hb0⟩)
        replace HL := hide ((unhide HL).below hb0); replace HF := hide ((unhide HF).below hb0); replace HW := hide ((unhide HW).below hb0); replace HV := hide ((unhide HV).below hb0); replace HB := hide (Below.onto (unhide HB) hb0); clear hb0
        refine hK20037.out _ _ ?hs20037 (fun hHeld20037 => ?_)
        case hs20037 => exact ⟨unhide HL, unhide HF⟩
        clear hHeld
        have hHeld := hHeld20037; clear hHeld20037 hK20037 K20037
        refine wpAnyH_take (i := 9) (oi := ?oi20038) (v := ?v20038) ?hi20038 (by kernel_rfl) (by kernel_rfl) (by kernel_rfl) (fun _ _ _ h => h) (Or.inl ⟨?hw20038, ?hy20038⟩) (by assumption) ?rest20038
        case hi20038 => (simp only [List.getElem?_toArray, List.getElem?_cons_zero, List.getElem?_cons_succ]; rfl)
        case hw20038 => rfl
        case hy20038 => first | (intro wx hSw; go_simp; done) | (intro wx hSw; go_simp; with_reducible rfl)
        simp only [Act.put, List.setIfInBounds_toArray, List.set_cons_zero, List.set_cons_succ]
        refine wpAnyH_take (i := 10) (oi := ?oi20039) (v := ?v20039) ?hi20039 (by kernel_rfl) (by kernel_rfl) (by kernel_rfl) (fun _ _ _ h => h) (Or.inl ⟨?hw20039, ?hy20039⟩) (by assumption) ?rest20039
        case hi20039 => (simp only [List.getElem?_toArray, List.getElem?_cons_zero, List.getElem?_cons_succ]; rfl)
        case hw20039 => rfl
        case hy20039 => first | (intro wx hSw; go_simp; done) | (intro wx hSw; go_simp; with_reducible rfl)
        simp only [Act.put, List.setIfInBounds_toArray, List.set_cons_zero, List.set_cons_succ]
        refine wpAnyH_take (i := 11) (oi := ?oi20040) (v := ?v20040) ?hi20040 (by kernel_rfl) (by kernel_rfl) (by kernel_rfl) (fun _ _ _ h => h) (Or.inl ⟨?hw20040, ?hy20040⟩) (by assumption) ?rest20040
        case hi20040 => (simp only [List.getElem?_toArray, List.getElem?_cons_zero, List.getElem?_cons_succ]; rfl)
        case hw20040 => rfl
        case hy20040 => first | (intro wx hSw; go_simp; done) | (intro wx hSw; go_simp; with_reducible rfl)
        simp only [Act.put, List.setIfInBounds_toArray, List.set_cons_zero, List.set_cons_succ]
        refine wpAnyH_ready (rs := [12]) (by kernel_rfl) (by simp) ?_
        refine AllReadyH.cons rfl (fun K20041 hK20041 => ?_) AllReadyH.nil
        go_simp
        refine hK20041.out _ _ ?hs20041 (fun hHeld20041 => ?_)
        case hs20041 => exact ⟨unhide HL, unhide HF⟩
        clear hHeld
        have hHeld := hHeld20041; clear hHeld20041 hK20041 K20041
        refine wpAnyH_ready (rs := [13]) (by kernel_rfl) (by simp) ?_
        refine AllReadyH.cons rfl (fun K20042 hK20042 => ?_) AllReadyH.nil
        go_simp
        refine hK20042.out _ _ ?hs20042 (fun hHeld20042 => ?_)
        case hs20042 => exact ⟨unhide HL, unhide HF⟩
        clear hHeld
        have hHeld := hHeld20042; clear hHeld20042 hK20042 K20042
        refine wpAnyH_done (by kernel_rfl) ?_ _
        refine NoPanic.normal ?_
        refine hrest _ _ ?_
        clear hHeld
        go_wp2
        rename_i hrest
        have hbd : Below W1.heap.size W1 W1.drew := (Below.refl _ _).drew
        replace HL := hide ((unhide HL).below hbd)
        replace HF := hide ((unhide HF).below hbd)
        replace HW := hide ((unhide HW).below hbd)
        replace HV := hide ((unhide HV).below hbd)
        replace HB := hide (Below.onto (unhide HB) hbd)
        refine wp_region_noPanic ?_
        refine wp_region_held_drew (S := (fun X => Blk l0 #[.int .i64 c.kind, .int .i64 c.id, .int .i64 c.txn, .bool c.com, .slice q c.ws.length cap, .string c.text, .int .i64 d.kind, .int .i64 d.id, .int .i64 d.txn, .bool d.com, .slice q2 d.ws.length cap2, .string d.text] 26 X ∧ Blk (l0 + 1) #[.int .i64 1, .int .i64 2, .int .i64 0, .int .i64 3, .int .i64 form] 3 X)) (by kernel_rfl) (⟨unhide HL, unhide HF⟩) (fun hHeld => ?_)
        clear hbd
        generalize W1.drew = Z1 at *
        refine wpAnyH_take (i := 0) (oi := ?oi20043) (v := ?v20043) ?hi20043 (by kernel_rfl) (by kernel_rfl) (by kernel_rfl) (fun _ _ _ h => h) (Or.inl ⟨?hw20043, ?hy20043⟩) (by assumption) ?rest20043
        case hi20043 => (simp only [List.getElem?_toArray, List.getElem?_cons_zero]; rfl)
        case hw20043 => rfl
        case hy20043 => first | (intro wx hSw; go_simp; done) | (intro wx hSw; go_simp; with_reducible rfl)
        simp only [Act.put, List.setIfInBounds_toArray, List.set_cons_zero, List.set_cons_succ]
        refine wpAnyH_take (i := 1) (oi := ?oi20044) (v := ?v20044) ?hi20044 (by kernel_rfl) (by kernel_rfl) (by kernel_rfl) (fun _ _ _ h => h) (Or.inl ⟨?hw20044, ?hy20044⟩) (by assumption) ?rest20044
        case hi20044 => (simp only [List.getElem?_toArray, List.getElem?_cons_zero, List.getElem?_cons_succ]; rfl)
        case hw20044 => rfl
        case hy20044 => first | (intro wx hSw; go_simp; done) | (intro wx hSw; go_simp; with_reducible rfl)
        simp only [Act.put, List.setIfInBounds_toArray, List.set_cons_zero, List.set_cons_succ]
        refine wpAnyH_take (i := 2) (oi := ?oi20045) (v := ?v20045) ?hi20045 (by kernel_rfl) (by kernel_rfl) (by kernel_rfl) (fun _ _ _ h => h) (Or.inl ⟨?hw20045, ?hy20045⟩) (by assumption) ?rest20045
        case hi20045 => (simp only [List.getElem?_toArray, List.getElem?_cons_zero, List.getElem?_cons_succ]; rfl)
        case hw20045 => rfl
        case hy20045 => first | (intro wx hSw; go_simp; done) | (intro wx hSw; go_simp; with_reducible rfl)
        simp only [Act.put, List.setIfInBounds_toArray, List.set_cons_zero, List.set_cons_succ]
        refine wpAnyH_take (i := 3) (oi := ?oi20046) (v := ?v20046) ?hi20046 (by kernel_rfl) (by kernel_rfl) (by kernel_rfl) (fun _ _ _ h => h) (Or.inl ⟨?hw20046, ?hy20046⟩) (by assumption) ?rest20046
        case hi20046 => (simp only [List.getElem?_toArray, List.getElem?_cons_zero, List.getElem?_cons_succ]; rfl)
        case hw20046 => rfl
        case hy20046 => first | (intro wx hSw; have q0_ := hSw.1.cell 6; have q1_ := hSw.1.cell 7; have q2_ := hSw.1.cell 8; have q3_ := hSw.1.cell 9; have q4_ := hSw.1.cell 10; have q5_ := hSw.1.cell 11; simp at q0_ q1_ q2_ q3_ q4_ q5_; go_simp; done) | (intro wx hSw; have q0_ := hSw.1.cell 6; have q1_ := hSw.1.cell 7; have q2_ := hSw.1.cell 8; have q3_ := hSw.1.cell 9; have q4_ := hSw.1.cell 10; have q5_ := hSw.1.cell 11; simp at q0_ q1_ q2_ q3_ q4_ q5_; go_simp; with_reducible rfl)
        simp only [Act.put, List.setIfInBounds_toArray, List.set_cons_zero, List.set_cons_succ]
        refine wpAnyH_take (i := 4) (oi := ?oi20047) (v := ?v20047) ?hi20047 (by kernel_rfl) (by kernel_rfl) (by kernel_rfl) (fun _ _ _ h => h) (Or.inl ⟨?hw20047, ?hy20047⟩) (by assumption) ?rest20047
        case hi20047 => (simp only [List.getElem?_toArray, List.getElem?_cons_zero, List.getElem?_cons_succ]; rfl)
        case hw20047 => rfl
        case hy20047 => first | (intro wx hSw; go_simp; done) | (intro wx hSw; go_simp; with_reducible rfl)
        simp only [Act.put, List.setIfInBounds_toArray, List.set_cons_zero, List.set_cons_succ]
        refine wpAnyH_take (i := 5) (oi := ?oi20048) (v := ?v20048) ?hi20048 (by kernel_rfl) (by kernel_rfl) (by kernel_rfl) (fun _ _ _ h => h) (Or.inl ⟨?hw20048, ?hy20048⟩) (by assumption) ?rest20048
        case hi20048 => (simp only [List.getElem?_toArray, List.getElem?_cons_zero, List.getElem?_cons_succ]; rfl)
        case hw20048 => rfl
        case hy20048 => first | (intro wx hSw; go_simp; done) | (intro wx hSw; go_simp; with_reducible rfl)
        simp only [Act.put, List.setIfInBounds_toArray, List.set_cons_zero, List.set_cons_succ]
        refine wpAnyH_take (i := 6) (oi := ?oi20049) (v := ?v20049) ?hi20049 (by kernel_rfl) (by kernel_rfl) (by kernel_rfl) (fun _ _ _ h => h) (Or.inl ⟨?hw20049, ?hy20049⟩) (by assumption) ?rest20049
        case hi20049 => (simp only [List.getElem?_toArray, List.getElem?_cons_zero, List.getElem?_cons_succ]; rfl)
        case hw20049 => rfl
        case hy20049 => first | (intro wx hSw; go_simp; done) | (intro wx hSw; go_simp; with_reducible rfl)
        simp only [Act.put, List.setIfInBounds_toArray, List.set_cons_zero, List.set_cons_succ]
        refine wpAnyH_take (i := 7) (oi := ?oi20050) (v := ?v20050) ?hi20050 (by kernel_rfl) (by kernel_rfl) (by kernel_rfl) (fun _ _ _ h => h) (Or.inl ⟨?hw20050, ?hy20050⟩) (by assumption) ?rest20050
        case hi20050 => (simp only [List.getElem?_toArray, List.getElem?_cons_zero, List.getElem?_cons_succ]; rfl)
        case hw20050 => rfl
        case hy20050 => first | (intro wx hSw; have q_ := hSw.2.cell m; rw [unhide HX] at q_; go_simp; done) | (intro wx hSw; have q_ := hSw.2.cell m; rw [unhide HX] at q_; go_simp; with_reducible rfl)
        simp only [Act.put, List.setIfInBounds_toArray, List.set_cons_zero, List.set_cons_succ]
        refine wpAnyH_ready (rs := [8]) (by kernel_rfl) (by simp) ?_
        refine AllReadyH.cons rfl (fun K20051 hK20051 => ?_) AllReadyH.nil
        go_simp
        go_wp2_with (go_at_call 17; refine (unhide E2 (.agg #[.int .i64 d.kind, .int .i64 d.id, .int .i64 d.txn, .bool d.com, .slice q2 d.ws.length cap2, .string d.text]) Z1 (cmvW (unhide HV))).mono ?_; rintro e W2 ⟨rfl, hb1⟩)
        replace HL := hide ((unhide HL).below hb1); replace HF := hide ((unhide HF).below hb1); replace HW := hide ((unhide HW).below hb1); replace HV := hide ((unhide HV).below hb1); replace HB := hide (Below.onto (unhide HB) hb1); clear hb1
        refine hK20051.out _ _ ?hs20051 (fun hHeld20051 => ?_)
        case hs20051 => exact ⟨unhide HL, unhide HF⟩
        clear hHeld
        have hHeld := hHeld20051; clear hHeld20051 hK20051 K20051
        refine wpAnyH_take (i := 9) (oi := ?oi20052) (v := ?v20052) ?hi20052 (by kernel_rfl) (by kernel_rfl) (by kernel_rfl) (fun _ _ _ h => h) (Or.inl ⟨?hw20052, ?hy20052⟩) (by assumption) ?rest20052
        case hi20052 => (simp only [List.getElem?_toArray, List.getElem?_cons_zero, List.getElem?_cons_succ]; rfl)
        case hw20052 => rfl
        case hy20052 => first | (intro wx hSw; go_simp; done) | (intro wx hSw; go_simp; with_reducible rfl)
        simp only [Act.put, List.setIfInBounds_toArray, List.set_cons_zero, List.set_cons_succ]
        refine wpAnyH_take (i := 10) (oi := ?oi20053) (v := ?v20053) ?hi20053 (by kernel_rfl) (by kernel_rfl) (by kernel_rfl) (fun _ _ _ h => h) (Or.inl ⟨?hw20053, ?hy20053⟩) (by assumption) ?rest20053
        case hi20053 => (simp only [List.getElem?_toArray, List.getElem?_cons_zero, List.getElem?_cons_succ]; rfl)
        case hw20053 => rfl
        case hy20053 => first | (intro wx hSw; go_simp; done) | (intro wx hSw; go_simp; with_reducible rfl)
        simp only [Act.put, List.setIfInBounds_toArray, List.set_cons_zero, List.set_cons_succ]
        refine wpAnyH_take (i := 11) (oi := ?oi20054) (v := ?v20054) ?hi20054 (by kernel_rfl) (by kernel_rfl) (by kernel_rfl) (fun _ _ _ h => h) (Or.inl ⟨?hw20054, ?hy20054⟩) (by assumption) ?rest20054
        case hi20054 => (simp only [List.getElem?_toArray, List.getElem?_cons_zero, List.getElem?_cons_succ]; rfl)
        case hw20054 => rfl
        case hy20054 => first | (intro wx hSw; go_simp; done) | (intro wx hSw; go_simp; with_reducible rfl)
        simp only [Act.put, List.setIfInBounds_toArray, List.set_cons_zero, List.set_cons_succ]
        refine wpAnyH_ready (rs := [12]) (by kernel_rfl) (by simp) ?_
        refine AllReadyH.cons rfl (fun K20055 hK20055 => ?_) AllReadyH.nil
        go_simp
        refine hK20055.out _ _ ?hs20055 (fun hHeld20055 => ?_)
        case hs20055 => exact ⟨unhide HL, unhide HF⟩
        clear hHeld
        have hHeld := hHeld20055; clear hHeld20055 hK20055 K20055
        refine wpAnyH_ready (rs := [13]) (by kernel_rfl) (by simp) ?_
        refine AllReadyH.cons rfl (fun K20056 hK20056 => ?_) AllReadyH.nil
        go_simp
        refine hK20056.out _ _ ?hs20056 (fun hHeld20056 => ?_)
        case hs20056 => exact ⟨unhide HL, unhide HF⟩
        clear hHeld
        have hHeld := hHeld20056; clear hHeld20056 hK20056 K20056
        refine wpAnyH_done (by kernel_rfl) ?_ _
        refine NoPanic.normal ?_
        refine hrest _ _ ?_
        clear hHeld
        go_wp2
        go_roundw
        case rel =>
          refine ⟨_, _, _, _, _, _, _, _, _, _, _, _, _, _, _, _, _, _, _, _, _, _, _, _, _, _, _, _, _, _, _, _, _, _, _, _, _, _, _, _, _, _, ?_, rfl⟩
          exact ⟨m + 1, by omega, by go_num, HL, HF, HW, HV, HB⟩
        case measure => simp [intOf] <;> omega
end Go.Proofs.Ytjmmfgmmmdbenaa
