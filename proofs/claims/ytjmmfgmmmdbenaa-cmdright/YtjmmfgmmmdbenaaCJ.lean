/-
  The statements' known.
-/
import Derived.Test.YtjmmfgmmmdbenaaCI
namespace Go.Proofs.Ytjmmfgmmmdbenaa
open Go.RowKit
set_option linter.unusedSimpArgs false
set_option linter.unusedVariables false

set_option maxRecDepth 100000 in
set_option maxHeartbeats 4000000 in
theorem known7_any (w : World) : Calls Try.prog 13 #[] w fun e w' => e = .returned (.bool true) ∧ Below w.heap.size w w' := by
  have D0 := hide (fun W => decode_none ⟨#[]⟩ (by decide) W (fun f c _ _ _ h => by obtain ⟨a, l, e⟩ := enc_cons f c; rw [e] at h; cases h))
  have ok1 : okC 1 c1 = true := by decide
  have ok2 : okC 2 c1 = true := by decide
  have ok5 : okC 1 c5 = false := by decide
  have E1 := hide (fun W => encode_any 1 c1 _ W ⟨none, 0, rfl, wsv_nil W⟩ (fine_of (by unfold Is64; omega) (by unfold Is64; omega) (by unfold Is64; omega)))
  have E5 := hide (fun W => encode_any 1 c5 _ W ⟨none, 0, rfl, wsv_nil W⟩ (fine_of (by unfold Is64; omega) (by unfold Is64; omega) (by unfold Is64; omega)))
  rw [ok1] at E1
  rw [ok5, encS_no ok5] at E5
  have b1 := encS_by8 ok1
  have b2 := encS_by8 ok2
  have z1 : (encS 1 c1).size = 21 := by rw [← by8_len, b1]; simp [enc, enc1, ls, fx2, fx_len, fl]
  have z2 : (encS 2 c1).size ≤ 10000000 := by rw [← by8_len, b2]; exact enc_len 2 c1 (by decide) (by decide) (by decide) (by simp) (by decide)
  have U1 := hide (fun W => up_of (encS 1 c1) (by omega) W 1 c1 (by omega) ok1 (by decide) (by decide) b1)
  have D2 := hide (fun W => decode_of (encS 2 c1) (by omega) W 2 c1 (by omega) ok2 (by decide) (by decide) b2)
  have E1' : ∃ s1 : ByteArray, encS 1 c1 = s1 ∧ Hid (∀ W, Calls Try.prog 16 #[.agg #[.int .i64 1, .int .i64 300, .int .i64 3, .bool false, .slice none 0 0, .string ⟨#[]⟩], .int .i64 1] W fun e w' => e = .returned (.tuple #[.string s1, .bool true]) ∧ Below W.heap.size W w') := ⟨_, rfl, E1⟩
  have E5' : Hid (∀ W, Calls Try.prog 16 #[.agg #[.int .i64 5, .int .i64 0, .int .i64 0, .bool false, .slice none 0 0, .string ⟨#[]⟩], .int .i64 1] W fun e w' => e = .returned (.tuple #[.string ⟨#[]⟩, .bool false]) ∧ Below W.heap.size W w') := E5
  obtain ⟨s1, hs1, E1'⟩ := E1'
  obtain ⟨s2, hs2⟩ : ∃ s2 : ByteArray, encS 2 c1 = s2 := ⟨_, rfl⟩
  rw [hs1] at z1 U1
  rw [hs2] at U1 D2
  have D2' : Hid (∀ W, Calls Try.prog 18 #[.string s2] W fun e w' => ∃ p cap, e = .returned (.tuple #[.agg #[.int .i64 1, .int .i64 300, .int .i64 3, .bool false, .slice p 0 cap, .string ⟨#[]⟩], .int .i64 2, .bool true]) ∧ Below W.heap.size W w') := hide (fun W => ((unhide D2) W).mono (by rintro e W' ⟨p, cap, h1, _, h2⟩; exact ⟨p, cap, h1, h2⟩))
  have D0' : Hid (∀ W, Calls Try.prog 18 #[.string ⟨#[]⟩] W fun e w' => e = .returned (.tuple #[.agg #[.int .i64 0, .int .i64 0, .int .i64 0, .bool false, .slice none 0 0, .string ⟨#[]⟩], .int .i64 0, .bool false]) ∧ Below W.heap.size W w') := D0
  clear b1 b2 ok1 ok2 ok5 hs1 hs2 D0 D2 E1 E5
  clear z2
  have z1i : (s1.size : Int) = 21 := by omega
  go_enter Try.func13, Try.ntmps13
  go_wp2_with (first | (go_at_call 18; first | (refine (unhide D0' _).mono ?_; rintro e W1 ⟨rfl, hb1⟩; clear D0') | (refine (unhide D2' _).mono ?_; rintro e W4 ⟨p, cap, rfl, hb4⟩)) | (go_at_call 16; first | (refine (unhide E1' _).mono ?_; rintro e W2 ⟨rfl, hb2⟩; clear E1') | (refine (unhide E5' _).mono ?_; rintro e W5 ⟨rfl, hb5⟩; have hs2 := hb2.size; have hs3 := hb3.size; have hs4 := hb4.size; have hkc := (Blk.new (W1.alloc (.cells #[.int .i64 0, .int .i64 0, .int .i64 0, .bool false, .slice none 0 0, .string ⟨#[]⟩] 26)) #[.int .i64 1, .int .i64 300, .int .i64 3, .bool false, .slice none 0 0, .string ⟨#[]⟩] 26).below (Below.onto (Below.onto (Below.onto (Below.onto hb2 hb3) hb4) (below_new W4 (.cells #[.int .i64 1, .int .i64 300, .int .i64 3, .bool false, .slice p 0 cap, .string ⟨#[]⟩] 26))) hb5); have hkd := (Blk.new W4 #[.int .i64 1, .int .i64 300, .int .i64 3, .bool false, .slice p 0 cap, .string ⟨#[]⟩] 26).below hb5; have k0_ := hkc.cell 0; have k1_ := hkc.cell 1; have k2_ := hkc.cell 2; have k3_ := hkc.cell 3; have k4_ := hkc.cell 4; have k5_ := hkc.cell 5; simp at k0_ k1_ k2_ k3_ k4_ k5_; have d0_ := hkd.cell 0; have d1_ := hkd.cell 1; have d2_ := hkd.cell 2; have d3_ := hkd.cell 3; have d4_ := hkd.cell 4; have d5_ := hkd.cell 5; simp at d0_ d1_ d2_ d3_ d4_ d5_)) | (go_at_call 21; refine (unhide U1 _).mono ?_; rintro e W3 ⟨rfl, hb3⟩) | (go_at_call 19; refine (same0_any _ 1 300 3 false E0 none p 0 cap).mono ?_; rintro e W6 ⟨rfl, hb6⟩))
  go_ret
  exact ⟨rfl, Below.onto (Below.onto (Below.onto (Below.onto (Below.onto (Below.onto (Below.onto (Below.onto hb1 (below_new W1 _)) (below_new _ _)) hb2) hb3) hb4) (below_new W4 _)) hb5) hb6⟩
end Go.Proofs.Ytjmmfgmmmdbenaa
