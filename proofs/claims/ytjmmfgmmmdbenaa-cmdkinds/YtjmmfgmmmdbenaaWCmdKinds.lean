/-
  The walk of the law CmdKinds.
-/
import Derived.Test.YtjmmfgmmmdbenaaCJ
import Derived.OpenShut
import Derived.ProofKit
import Derived.Carry
namespace Go.Proofs.Ytjmmfgmmmdbenaa
open Go.RowKit
set_option linter.unusedSimpArgs false
set_option linter.unusedVariables false

theorem enc_known (f : Int) (c : Cm) (b : Bool) (hok : okC f c = b) (hf : Fine c) : ∃ s : ByteArray, ∀ (v : Value) (W : World), CmV v c W → Calls Try.prog 16 #[v, .int .i64 f] W fun e w' => e = .returned (.tuple #[.string s, .bool b]) ∧ Below W.heap.size W w' :=
  ⟨encS f c, fun v W h => by rw [← hok]; exact encode_any f c v W h hf⟩
theorem within7_is {x n j : Int} (hx : Is64 x) (hn : 0 < n ∧ n ≤ 9223372036854775807) (hj : x % n = j) (w : World) :
    Calls Try.prog 15 #[.int .i64 x, .int .i64 n] w fun e w' => e = .returned (.int .i64 j) ∧ w' = w := hj ▸ within7_any x n w hx hn
theorem wsv_one {g : Nat} {x : Wt} {T : TypeId} {W : World} (h : Blk g #[.string x.k, .string x.v, .bool x.g] T W) : WsV (some ⟨g, 0, none⟩) [x] W :=
  ⟨g, 0, fun _ => rfl, fun i hi => by
    obtain rfl : i = 0 := by simp at hi; omega
    exact ⟨⟨h.cell 0, h.cell 1, h.cell 2⟩, h.lt⟩⟩
set_option maxRecDepth 100000 in
set_option maxHeartbeats 8000000 in
theorem kinds0 (kind which : Int) (w : World) (hk : Is64 kind) (hh : Is64 which) (hm : which % 4 = 0) : Calls Try.prog 11 #[.int .i64 kind, .int .i64 which] w fun e w' => e = .returned (.bool true) ∧ Below w.heap.size w w' := by
  have WM := hide (fun W => within7_is hh (by decide) hm W)
  have hd : kind % 6 = 0 ∨ kind % 6 = 1 ∨ kind % 6 = 2 ∨ kind % 6 = 3 ∨ kind % 6 = 4 ∨ kind % 6 = 5 := by omega
  clear hm
  rcases hd with hd | hd
  · have WK := hide (fun W => within7_is hk (by decide) hd W)
    have hf : Fine (⟨0, 1, 1, true, [], ⟨#[]⟩⟩ : Cm) := ⟨by unfold Is64; decide, by unfold Is64; decide, by unfold Is64; decide, by decide, by decide +kernel, by decide +kernel⟩
    obtain ⟨s2, E2⟩ := enc_known 2 (⟨0, 1, 1, true, [], ⟨#[]⟩⟩ : Cm) false (by decide +kernel) hf
    obtain ⟨s1, E1⟩ := enc_known 1 (⟨0, 1, 1, true, [], ⟨#[]⟩⟩ : Cm) false (by decide +kernel) hf
    replace E2 := hide E2
    replace E1 := hide E1
    clear hf hd
    go_enter Try.func11, Try.ntmps11
    go_wp2_with (first | (go_at_call 13; refine (known7_any _).mono ?_; rintro e W1 ⟨rfl, hb1⟩) | (go_at_call_of 15 (Value.int IntKind.i64 kind); refine (unhide WK _).mono ?_; rintro e W2 ⟨rfl, hW2⟩; replace hW2 := hW2.symm; subst hW2) | (go_at_call_of 15 (Value.int IntKind.i64 which); refine (unhide WM _).mono ?_; rintro e W2 ⟨rfl, hW2⟩; replace hW2 := hW2.symm; subst hW2) | (go_at_call 16; first | (refine (unhide E2 (.agg #[.int .i64 0, .int .i64 1, .int .i64 1, .bool true, .slice none 0 0, .string ⟨#[]⟩]) (W1.alloc (.cells #[.int .i64 0, .int .i64 1, .int .i64 1, .bool true, .slice none 0 0, .string ⟨#[]⟩] 26)) ⟨none, 0, rfl, (wsv_nil _)⟩).mono ?_; rintro e W3 ⟨rfl, hb2⟩; clear E2; have hk1 := (Blk.new W1 #[.int .i64 0, .int .i64 1, .int .i64 1, .bool true, .slice none 0 0, .string ⟨#[]⟩] 26).below hb2; have q0 := hk1.cell 0; have q1 := hk1.cell 1; have q2 := hk1.cell 2; have q3 := hk1.cell 3; have q4 := hk1.cell 4; have q5 := hk1.cell 5; simp at q0 q1 q2 q3 q4 q5; replace hk1 := hide hk1) | (refine (unhide E1 (.agg #[.int .i64 0, .int .i64 1, .int .i64 1, .bool true, .slice none 0 0, .string ⟨#[]⟩]) W3 ⟨none, 0, rfl, (wsv_nil _)⟩).mono ?_; rintro e W4 ⟨rfl, hb3⟩; have p0 := ((unhide hk1).below hb3).cell 0; simp at p0; clear E1)))
    have hB := Below.onto hb1 (below_new W1 (.cells #[.int .i64 0, .int .i64 1, .int .i64 1, .bool true, .slice none 0 0, .string ⟨#[]⟩] 26))
    go_ret
    exact ⟨rfl, Below.onto (Below.onto hB hb2) hb3⟩
  rcases hd with hd | hd
  · have WK := hide (fun W => within7_is hk (by decide) hd W)
    have hf : Fine (⟨1, 1, 1, true, [], ⟨#[]⟩⟩ : Cm) := ⟨by unfold Is64; decide, by unfold Is64; decide, by unfold Is64; decide, by decide, by decide +kernel, by decide +kernel⟩
    obtain ⟨s2, E2⟩ := enc_known 2 (⟨1, 1, 1, true, [], ⟨#[]⟩⟩ : Cm) false (by decide +kernel) hf
    obtain ⟨s1, E1⟩ := enc_known 1 (⟨1, 1, 1, true, [], ⟨#[]⟩⟩ : Cm) false (by decide +kernel) hf
    replace E2 := hide E2
    replace E1 := hide E1
    clear hf hd
    go_enter Try.func11, Try.ntmps11
    go_wp2_with (first | (go_at_call 13; refine (known7_any _).mono ?_; rintro e W1 ⟨rfl, hb1⟩) | (go_at_call_of 15 (Value.int IntKind.i64 kind); refine (unhide WK _).mono ?_; rintro e W2 ⟨rfl, hW2⟩; replace hW2 := hW2.symm; subst hW2) | (go_at_call_of 15 (Value.int IntKind.i64 which); refine (unhide WM _).mono ?_; rintro e W2 ⟨rfl, hW2⟩; replace hW2 := hW2.symm; subst hW2) | (go_at_call 16; first | (refine (unhide E2 (.agg #[.int .i64 1, .int .i64 1, .int .i64 1, .bool true, .slice none 0 0, .string ⟨#[]⟩]) (W1.alloc (.cells #[.int .i64 1, .int .i64 1, .int .i64 1, .bool true, .slice none 0 0, .string ⟨#[]⟩] 26)) ⟨none, 0, rfl, (wsv_nil _)⟩).mono ?_; rintro e W3 ⟨rfl, hb2⟩; clear E2; have hk1 := (Blk.new W1 #[.int .i64 1, .int .i64 1, .int .i64 1, .bool true, .slice none 0 0, .string ⟨#[]⟩] 26).below hb2; have q0 := hk1.cell 0; have q1 := hk1.cell 1; have q2 := hk1.cell 2; have q3 := hk1.cell 3; have q4 := hk1.cell 4; have q5 := hk1.cell 5; simp at q0 q1 q2 q3 q4 q5; replace hk1 := hide hk1) | (refine (unhide E1 (.agg #[.int .i64 1, .int .i64 1, .int .i64 1, .bool true, .slice none 0 0, .string ⟨#[]⟩]) W3 ⟨none, 0, rfl, (wsv_nil _)⟩).mono ?_; rintro e W4 ⟨rfl, hb3⟩; have p0 := ((unhide hk1).below hb3).cell 0; simp at p0; clear E1)))
    have hB := Below.onto hb1 (below_new W1 (.cells #[.int .i64 1, .int .i64 1, .int .i64 1, .bool true, .slice none 0 0, .string ⟨#[]⟩] 26))
    go_ret
    exact ⟨rfl, Below.onto (Below.onto hB hb2) hb3⟩
  rcases hd with hd | hd
  · have WK := hide (fun W => within7_is hk (by decide) hd W)
    have hf : Fine (⟨2, 1, 1, true, [], ⟨#[]⟩⟩ : Cm) := ⟨by unfold Is64; decide, by unfold Is64; decide, by unfold Is64; decide, by decide, by decide +kernel, by decide +kernel⟩
    obtain ⟨s2, E2⟩ := enc_known 2 (⟨2, 1, 1, true, [], ⟨#[]⟩⟩ : Cm) true (by decide +kernel) hf
    obtain ⟨s1, E1⟩ := enc_known 1 (⟨2, 1, 1, true, [], ⟨#[]⟩⟩ : Cm) true (by decide +kernel) hf
    replace E2 := hide E2
    replace E1 := hide E1
    clear hf hd
    go_enter Try.func11, Try.ntmps11
    go_wp2_with (first | (go_at_call 13; refine (known7_any _).mono ?_; rintro e W1 ⟨rfl, hb1⟩) | (go_at_call_of 15 (Value.int IntKind.i64 kind); refine (unhide WK _).mono ?_; rintro e W2 ⟨rfl, hW2⟩; replace hW2 := hW2.symm; subst hW2) | (go_at_call_of 15 (Value.int IntKind.i64 which); refine (unhide WM _).mono ?_; rintro e W2 ⟨rfl, hW2⟩; replace hW2 := hW2.symm; subst hW2) | (go_at_call 16; first | (refine (unhide E2 (.agg #[.int .i64 2, .int .i64 1, .int .i64 1, .bool true, .slice none 0 0, .string ⟨#[]⟩]) (W1.alloc (.cells #[.int .i64 2, .int .i64 1, .int .i64 1, .bool true, .slice none 0 0, .string ⟨#[]⟩] 26)) ⟨none, 0, rfl, (wsv_nil _)⟩).mono ?_; rintro e W3 ⟨rfl, hb2⟩; clear E2; have hk1 := (Blk.new W1 #[.int .i64 2, .int .i64 1, .int .i64 1, .bool true, .slice none 0 0, .string ⟨#[]⟩] 26).below hb2; have q0 := hk1.cell 0; have q1 := hk1.cell 1; have q2 := hk1.cell 2; have q3 := hk1.cell 3; have q4 := hk1.cell 4; have q5 := hk1.cell 5; simp at q0 q1 q2 q3 q4 q5; replace hk1 := hide hk1) | (refine (unhide E1 (.agg #[.int .i64 2, .int .i64 1, .int .i64 1, .bool true, .slice none 0 0, .string ⟨#[]⟩]) W3 ⟨none, 0, rfl, (wsv_nil _)⟩).mono ?_; rintro e W4 ⟨rfl, hb3⟩; have p0 := ((unhide hk1).below hb3).cell 0; simp at p0; clear E1)))
    have hB := Below.onto hb1 (below_new W1 (.cells #[.int .i64 2, .int .i64 1, .int .i64 1, .bool true, .slice none 0 0, .string ⟨#[]⟩] 26))
    go_ret
    exact ⟨rfl, Below.onto (Below.onto hB hb2) hb3⟩
  rcases hd with hd | hd
  · have WK := hide (fun W => within7_is hk (by decide) hd W)
    have hf : Fine (⟨3, 1, 1, true, [], ⟨#[]⟩⟩ : Cm) := ⟨by unfold Is64; decide, by unfold Is64; decide, by unfold Is64; decide, by decide, by decide +kernel, by decide +kernel⟩
    obtain ⟨s2, E2⟩ := enc_known 2 (⟨3, 1, 1, true, [], ⟨#[]⟩⟩ : Cm) true (by decide +kernel) hf
    obtain ⟨s1, E1⟩ := enc_known 1 (⟨3, 1, 1, true, [], ⟨#[]⟩⟩ : Cm) true (by decide +kernel) hf
    replace E2 := hide E2
    replace E1 := hide E1
    clear hf hd
    go_enter Try.func11, Try.ntmps11
    go_wp2_with (first | (go_at_call 13; refine (known7_any _).mono ?_; rintro e W1 ⟨rfl, hb1⟩) | (go_at_call_of 15 (Value.int IntKind.i64 kind); refine (unhide WK _).mono ?_; rintro e W2 ⟨rfl, hW2⟩; replace hW2 := hW2.symm; subst hW2) | (go_at_call_of 15 (Value.int IntKind.i64 which); refine (unhide WM _).mono ?_; rintro e W2 ⟨rfl, hW2⟩; replace hW2 := hW2.symm; subst hW2) | (go_at_call 16; first | (refine (unhide E2 (.agg #[.int .i64 3, .int .i64 1, .int .i64 1, .bool true, .slice none 0 0, .string ⟨#[]⟩]) (W1.alloc (.cells #[.int .i64 3, .int .i64 1, .int .i64 1, .bool true, .slice none 0 0, .string ⟨#[]⟩] 26)) ⟨none, 0, rfl, (wsv_nil _)⟩).mono ?_; rintro e W3 ⟨rfl, hb2⟩; clear E2; have hk1 := (Blk.new W1 #[.int .i64 3, .int .i64 1, .int .i64 1, .bool true, .slice none 0 0, .string ⟨#[]⟩] 26).below hb2; have q0 := hk1.cell 0; have q1 := hk1.cell 1; have q2 := hk1.cell 2; have q3 := hk1.cell 3; have q4 := hk1.cell 4; have q5 := hk1.cell 5; simp at q0 q1 q2 q3 q4 q5; replace hk1 := hide hk1) | (refine (unhide E1 (.agg #[.int .i64 3, .int .i64 1, .int .i64 1, .bool true, .slice none 0 0, .string ⟨#[]⟩]) W3 ⟨none, 0, rfl, (wsv_nil _)⟩).mono ?_; rintro e W4 ⟨rfl, hb3⟩; have p0 := ((unhide hk1).below hb3).cell 0; simp at p0; clear E1)))
    have hB := Below.onto hb1 (below_new W1 (.cells #[.int .i64 3, .int .i64 1, .int .i64 1, .bool true, .slice none 0 0, .string ⟨#[]⟩] 26))
    go_ret
    exact ⟨rfl, Below.onto (Below.onto hB hb2) hb3⟩
  rcases hd with hd | hd
  · have WK := hide (fun W => within7_is hk (by decide) hd W)
    have hf : Fine (⟨4, 1, 1, true, [], ⟨#[]⟩⟩ : Cm) := ⟨by unfold Is64; decide, by unfold Is64; decide, by unfold Is64; decide, by decide, by decide +kernel, by decide +kernel⟩
    obtain ⟨s2, E2⟩ := enc_known 2 (⟨4, 1, 1, true, [], ⟨#[]⟩⟩ : Cm) false (by decide +kernel) hf
    obtain ⟨s1, E1⟩ := enc_known 1 (⟨4, 1, 1, true, [], ⟨#[]⟩⟩ : Cm) false (by decide +kernel) hf
    replace E2 := hide E2
    replace E1 := hide E1
    clear hf hd
    go_enter Try.func11, Try.ntmps11
    go_wp2_with (first | (go_at_call 13; refine (known7_any _).mono ?_; rintro e W1 ⟨rfl, hb1⟩) | (go_at_call_of 15 (Value.int IntKind.i64 kind); refine (unhide WK _).mono ?_; rintro e W2 ⟨rfl, hW2⟩; replace hW2 := hW2.symm; subst hW2) | (go_at_call_of 15 (Value.int IntKind.i64 which); refine (unhide WM _).mono ?_; rintro e W2 ⟨rfl, hW2⟩; replace hW2 := hW2.symm; subst hW2) | (go_at_call 16; first | (refine (unhide E2 (.agg #[.int .i64 4, .int .i64 1, .int .i64 1, .bool true, .slice none 0 0, .string ⟨#[]⟩]) (W1.alloc (.cells #[.int .i64 4, .int .i64 1, .int .i64 1, .bool true, .slice none 0 0, .string ⟨#[]⟩] 26)) ⟨none, 0, rfl, (wsv_nil _)⟩).mono ?_; rintro e W3 ⟨rfl, hb2⟩; clear E2; have hk1 := (Blk.new W1 #[.int .i64 4, .int .i64 1, .int .i64 1, .bool true, .slice none 0 0, .string ⟨#[]⟩] 26).below hb2; have q0 := hk1.cell 0; have q1 := hk1.cell 1; have q2 := hk1.cell 2; have q3 := hk1.cell 3; have q4 := hk1.cell 4; have q5 := hk1.cell 5; simp at q0 q1 q2 q3 q4 q5; replace hk1 := hide hk1) | (refine (unhide E1 (.agg #[.int .i64 4, .int .i64 1, .int .i64 1, .bool true, .slice none 0 0, .string ⟨#[]⟩]) W3 ⟨none, 0, rfl, (wsv_nil _)⟩).mono ?_; rintro e W4 ⟨rfl, hb3⟩; have p0 := ((unhide hk1).below hb3).cell 0; simp at p0; clear E1)))
    have hB := Below.onto hb1 (below_new W1 (.cells #[.int .i64 4, .int .i64 1, .int .i64 1, .bool true, .slice none 0 0, .string ⟨#[]⟩] 26))
    go_ret
    exact ⟨rfl, Below.onto (Below.onto hB hb2) hb3⟩
  · have WK := hide (fun W => within7_is hk (by decide) hd W)
    have hf : Fine (⟨5, 1, 1, true, [], ⟨#[]⟩⟩ : Cm) := ⟨by unfold Is64; decide, by unfold Is64; decide, by unfold Is64; decide, by decide, by decide +kernel, by decide +kernel⟩
    obtain ⟨s2, E2⟩ := enc_known 2 (⟨5, 1, 1, true, [], ⟨#[]⟩⟩ : Cm) false (by decide +kernel) hf
    obtain ⟨s1, E1⟩ := enc_known 1 (⟨5, 1, 1, true, [], ⟨#[]⟩⟩ : Cm) false (by decide +kernel) hf
    replace E2 := hide E2
    replace E1 := hide E1
    clear hf hd
    go_enter Try.func11, Try.ntmps11
    go_wp2_with (first | (go_at_call 13; refine (known7_any _).mono ?_; rintro e W1 ⟨rfl, hb1⟩) | (go_at_call_of 15 (Value.int IntKind.i64 kind); refine (unhide WK _).mono ?_; rintro e W2 ⟨rfl, hW2⟩; replace hW2 := hW2.symm; subst hW2) | (go_at_call_of 15 (Value.int IntKind.i64 which); refine (unhide WM _).mono ?_; rintro e W2 ⟨rfl, hW2⟩; replace hW2 := hW2.symm; subst hW2) | (go_at_call 16; first | (refine (unhide E2 (.agg #[.int .i64 5, .int .i64 1, .int .i64 1, .bool true, .slice none 0 0, .string ⟨#[]⟩]) (W1.alloc (.cells #[.int .i64 5, .int .i64 1, .int .i64 1, .bool true, .slice none 0 0, .string ⟨#[]⟩] 26)) ⟨none, 0, rfl, (wsv_nil _)⟩).mono ?_; rintro e W3 ⟨rfl, hb2⟩; clear E2; have hk1 := (Blk.new W1 #[.int .i64 5, .int .i64 1, .int .i64 1, .bool true, .slice none 0 0, .string ⟨#[]⟩] 26).below hb2; have q0 := hk1.cell 0; have q1 := hk1.cell 1; have q2 := hk1.cell 2; have q3 := hk1.cell 3; have q4 := hk1.cell 4; have q5 := hk1.cell 5; simp at q0 q1 q2 q3 q4 q5; replace hk1 := hide hk1) | (refine (unhide E1 (.agg #[.int .i64 5, .int .i64 1, .int .i64 1, .bool true, .slice none 0 0, .string ⟨#[]⟩]) W3 ⟨none, 0, rfl, (wsv_nil _)⟩).mono ?_; rintro e W4 ⟨rfl, hb3⟩; have p0 := ((unhide hk1).below hb3).cell 0; simp at p0; clear E1)))
    have hB := Below.onto hb1 (below_new W1 (.cells #[.int .i64 5, .int .i64 1, .int .i64 1, .bool true, .slice none 0 0, .string ⟨#[]⟩] 26))
    go_ret
    exact ⟨rfl, Below.onto (Below.onto hB hb2) hb3⟩
set_option maxRecDepth 100000 in
set_option maxHeartbeats 8000000 in
theorem kinds1 (kind which : Int) (w : World) (hk : Is64 kind) (hh : Is64 which) (hm : which % 4 = 1) : Calls Try.prog 11 #[.int .i64 kind, .int .i64 which] w fun e w' => e = .returned (.bool true) ∧ Below w.heap.size w w' := by
  have WM := hide (fun W => within7_is hh (by decide) hm W)
  have hd : kind % 6 = 0 ∨ kind % 6 = 1 ∨ kind % 6 = 2 ∨ kind % 6 = 3 ∨ kind % 6 = 4 ∨ kind % 6 = 5 := by omega
  clear hm
  rcases hd with hd | hd
  · have WK := hide (fun W => within7_is hk (by decide) hd W)
    have hf : Fine (⟨0, 1, 1, false, [⟨⟨#[107]⟩, ⟨#[]⟩, false⟩], ⟨#[]⟩⟩ : Cm) := ⟨by unfold Is64; decide, by unfold Is64; decide, by unfold Is64; decide, by decide, by decide +kernel, by decide +kernel⟩
    obtain ⟨s2, E2⟩ := enc_known 2 (⟨0, 1, 1, false, [⟨⟨#[107]⟩, ⟨#[]⟩, false⟩], ⟨#[]⟩⟩ : Cm) false (by decide +kernel) hf
    obtain ⟨s1, E1⟩ := enc_known 1 (⟨0, 1, 1, false, [⟨⟨#[107]⟩, ⟨#[]⟩, false⟩], ⟨#[]⟩⟩ : Cm) false (by decide +kernel) hf
    replace E2 := hide E2
    replace E1 := hide E1
    clear hf hd
    go_enter Try.func11, Try.ntmps11
    go_wp2_with (first | (go_at_call 13; refine (known7_any _).mono ?_; rintro e W1 ⟨rfl, hb1⟩) | (go_at_call_of 15 (Value.int IntKind.i64 kind); refine (unhide WK _).mono ?_; rintro e W2 ⟨rfl, hW2⟩; replace hW2 := hW2.symm; subst hW2) | (go_at_call_of 15 (Value.int IntKind.i64 which); refine (unhide WM _).mono ?_; rintro e W2 ⟨rfl, hW2⟩; replace hW2 := hW2.symm; subst hW2) | (go_at_call 16; first | (refine (unhide E2 (.agg #[.int .i64 0, .int .i64 1, .int .i64 1, .bool false, .slice (some ⟨W1.heap.size + 1, 0, none⟩) 1 1, .string ⟨#[]⟩]) ((W1.alloc (.cells #[.int .i64 0, .int .i64 1, .int .i64 1, .bool false, .slice (some ⟨W1.heap.size + 1, 0, none⟩) 1 1, .string ⟨#[]⟩] 26)).alloc (.cells #[.string ⟨#[107]⟩, .string ⟨#[]⟩, .bool false] 40)) ⟨(some ⟨W1.heap.size + 1, 0, none⟩), 1, rfl, (by have h := Blk.new (W1.alloc (.cells #[.int .i64 0, .int .i64 1, .int .i64 1, .bool false, .slice (some ⟨W1.heap.size + 1, 0, none⟩) 1 1, .string ⟨#[]⟩] 26)) #[.string ⟨#[107]⟩, .string ⟨#[]⟩, .bool false] 40; rw [World.size_alloc] at h; exact wsv_one (x := ⟨⟨#[107]⟩, ⟨#[]⟩, false⟩) h)⟩).mono ?_; rintro e W3 ⟨rfl, hb2⟩; clear E2; have hk1 := ((Blk.new W1 #[.int .i64 0, .int .i64 1, .int .i64 1, .bool false, .slice (some ⟨W1.heap.size + 1, 0, none⟩) 1 1, .string ⟨#[]⟩] 26).below (below_new (W1.alloc (.cells #[.int .i64 0, .int .i64 1, .int .i64 1, .bool false, .slice (some ⟨W1.heap.size + 1, 0, none⟩) 1 1, .string ⟨#[]⟩] 26)) (.cells #[.string ⟨#[107]⟩, .string ⟨#[]⟩, .bool false] 40))).below hb2; have q0 := hk1.cell 0; have q1 := hk1.cell 1; have q2 := hk1.cell 2; have q3 := hk1.cell 3; have q4 := hk1.cell 4; have q5 := hk1.cell 5; simp at q0 q1 q2 q3 q4 q5; replace hk1 := hide hk1) | (refine (unhide E1 (.agg #[.int .i64 0, .int .i64 1, .int .i64 1, .bool false, .slice (some ⟨W1.heap.size + 1, 0, none⟩) 1 1, .string ⟨#[]⟩]) W3 ⟨(some ⟨W1.heap.size + 1, 0, none⟩), 1, rfl, (WsV.below (W := ((W1.alloc (.cells #[.int .i64 0, .int .i64 1, .int .i64 1, .bool false, .slice (some ⟨W1.heap.size + 1, 0, none⟩) 1 1, .string ⟨#[]⟩] 26)).alloc (.cells #[.string ⟨#[107]⟩, .string ⟨#[]⟩, .bool false] 40))) (by have h := Blk.new (W1.alloc (.cells #[.int .i64 0, .int .i64 1, .int .i64 1, .bool false, .slice (some ⟨W1.heap.size + 1, 0, none⟩) 1 1, .string ⟨#[]⟩] 26)) #[.string ⟨#[107]⟩, .string ⟨#[]⟩, .bool false] 40; rw [World.size_alloc] at h; exact wsv_one (x := ⟨⟨#[107]⟩, ⟨#[]⟩, false⟩) h) hb2)⟩).mono ?_; rintro e W4 ⟨rfl, hb3⟩; have p0 := ((unhide hk1).below hb3).cell 0; simp at p0; clear E1)))
    have hB := Below.onto (Below.onto hb1 (below_new W1 (.cells #[.int .i64 0, .int .i64 1, .int .i64 1, .bool false, .slice (some ⟨W1.heap.size + 1, 0, none⟩) 1 1, .string ⟨#[]⟩] 26))) (below_new (W1.alloc (.cells #[.int .i64 0, .int .i64 1, .int .i64 1, .bool false, .slice (some ⟨W1.heap.size + 1, 0, none⟩) 1 1, .string ⟨#[]⟩] 26)) (.cells #[.string ⟨#[107]⟩, .string ⟨#[]⟩, .bool false] 40))
    go_ret
    exact ⟨rfl, Below.onto (Below.onto hB hb2) hb3⟩
  rcases hd with hd | hd
  · have WK := hide (fun W => within7_is hk (by decide) hd W)
    have hf : Fine (⟨1, 1, 1, false, [⟨⟨#[107]⟩, ⟨#[]⟩, false⟩], ⟨#[]⟩⟩ : Cm) := ⟨by unfold Is64; decide, by unfold Is64; decide, by unfold Is64; decide, by decide, by decide +kernel, by decide +kernel⟩
    obtain ⟨s2, E2⟩ := enc_known 2 (⟨1, 1, 1, false, [⟨⟨#[107]⟩, ⟨#[]⟩, false⟩], ⟨#[]⟩⟩ : Cm) false (by decide +kernel) hf
    obtain ⟨s1, E1⟩ := enc_known 1 (⟨1, 1, 1, false, [⟨⟨#[107]⟩, ⟨#[]⟩, false⟩], ⟨#[]⟩⟩ : Cm) false (by decide +kernel) hf
    replace E2 := hide E2
    replace E1 := hide E1
    clear hf hd
    go_enter Try.func11, Try.ntmps11
    go_wp2_with (first | (go_at_call 13; refine (known7_any _).mono ?_; rintro e W1 ⟨rfl, hb1⟩) | (go_at_call_of 15 (Value.int IntKind.i64 kind); refine (unhide WK _).mono ?_; rintro e W2 ⟨rfl, hW2⟩; replace hW2 := hW2.symm; subst hW2) | (go_at_call_of 15 (Value.int IntKind.i64 which); refine (unhide WM _).mono ?_; rintro e W2 ⟨rfl, hW2⟩; replace hW2 := hW2.symm; subst hW2) | (go_at_call 16; first | (refine (unhide E2 (.agg #[.int .i64 1, .int .i64 1, .int .i64 1, .bool false, .slice (some ⟨W1.heap.size + 1, 0, none⟩) 1 1, .string ⟨#[]⟩]) ((W1.alloc (.cells #[.int .i64 1, .int .i64 1, .int .i64 1, .bool false, .slice (some ⟨W1.heap.size + 1, 0, none⟩) 1 1, .string ⟨#[]⟩] 26)).alloc (.cells #[.string ⟨#[107]⟩, .string ⟨#[]⟩, .bool false] 40)) ⟨(some ⟨W1.heap.size + 1, 0, none⟩), 1, rfl, (by have h := Blk.new (W1.alloc (.cells #[.int .i64 1, .int .i64 1, .int .i64 1, .bool false, .slice (some ⟨W1.heap.size + 1, 0, none⟩) 1 1, .string ⟨#[]⟩] 26)) #[.string ⟨#[107]⟩, .string ⟨#[]⟩, .bool false] 40; rw [World.size_alloc] at h; exact wsv_one (x := ⟨⟨#[107]⟩, ⟨#[]⟩, false⟩) h)⟩).mono ?_; rintro e W3 ⟨rfl, hb2⟩; clear E2; have hk1 := ((Blk.new W1 #[.int .i64 1, .int .i64 1, .int .i64 1, .bool false, .slice (some ⟨W1.heap.size + 1, 0, none⟩) 1 1, .string ⟨#[]⟩] 26).below (below_new (W1.alloc (.cells #[.int .i64 1, .int .i64 1, .int .i64 1, .bool false, .slice (some ⟨W1.heap.size + 1, 0, none⟩) 1 1, .string ⟨#[]⟩] 26)) (.cells #[.string ⟨#[107]⟩, .string ⟨#[]⟩, .bool false] 40))).below hb2; have q0 := hk1.cell 0; have q1 := hk1.cell 1; have q2 := hk1.cell 2; have q3 := hk1.cell 3; have q4 := hk1.cell 4; have q5 := hk1.cell 5; simp at q0 q1 q2 q3 q4 q5; replace hk1 := hide hk1) | (refine (unhide E1 (.agg #[.int .i64 1, .int .i64 1, .int .i64 1, .bool false, .slice (some ⟨W1.heap.size + 1, 0, none⟩) 1 1, .string ⟨#[]⟩]) W3 ⟨(some ⟨W1.heap.size + 1, 0, none⟩), 1, rfl, (WsV.below (W := ((W1.alloc (.cells #[.int .i64 1, .int .i64 1, .int .i64 1, .bool false, .slice (some ⟨W1.heap.size + 1, 0, none⟩) 1 1, .string ⟨#[]⟩] 26)).alloc (.cells #[.string ⟨#[107]⟩, .string ⟨#[]⟩, .bool false] 40))) (by have h := Blk.new (W1.alloc (.cells #[.int .i64 1, .int .i64 1, .int .i64 1, .bool false, .slice (some ⟨W1.heap.size + 1, 0, none⟩) 1 1, .string ⟨#[]⟩] 26)) #[.string ⟨#[107]⟩, .string ⟨#[]⟩, .bool false] 40; rw [World.size_alloc] at h; exact wsv_one (x := ⟨⟨#[107]⟩, ⟨#[]⟩, false⟩) h) hb2)⟩).mono ?_; rintro e W4 ⟨rfl, hb3⟩; have p0 := ((unhide hk1).below hb3).cell 0; simp at p0; clear E1)))
    have hB := Below.onto (Below.onto hb1 (below_new W1 (.cells #[.int .i64 1, .int .i64 1, .int .i64 1, .bool false, .slice (some ⟨W1.heap.size + 1, 0, none⟩) 1 1, .string ⟨#[]⟩] 26))) (below_new (W1.alloc (.cells #[.int .i64 1, .int .i64 1, .int .i64 1, .bool false, .slice (some ⟨W1.heap.size + 1, 0, none⟩) 1 1, .string ⟨#[]⟩] 26)) (.cells #[.string ⟨#[107]⟩, .string ⟨#[]⟩, .bool false] 40))
    go_ret
    exact ⟨rfl, Below.onto (Below.onto hB hb2) hb3⟩
  rcases hd with hd | hd
  · have WK := hide (fun W => within7_is hk (by decide) hd W)
    have hf : Fine (⟨2, 1, 1, false, [⟨⟨#[107]⟩, ⟨#[]⟩, false⟩], ⟨#[]⟩⟩ : Cm) := ⟨by unfold Is64; decide, by unfold Is64; decide, by unfold Is64; decide, by decide, by decide +kernel, by decide +kernel⟩
    obtain ⟨s2, E2⟩ := enc_known 2 (⟨2, 1, 1, false, [⟨⟨#[107]⟩, ⟨#[]⟩, false⟩], ⟨#[]⟩⟩ : Cm) true (by decide +kernel) hf
    obtain ⟨s1, E1⟩ := enc_known 1 (⟨2, 1, 1, false, [⟨⟨#[107]⟩, ⟨#[]⟩, false⟩], ⟨#[]⟩⟩ : Cm) true (by decide +kernel) hf
    replace E2 := hide E2
    replace E1 := hide E1
    clear hf hd
    go_enter Try.func11, Try.ntmps11
    go_wp2_with (first | (go_at_call 13; refine (known7_any _).mono ?_; rintro e W1 ⟨rfl, hb1⟩) | (go_at_call_of 15 (Value.int IntKind.i64 kind); refine (unhide WK _).mono ?_; rintro e W2 ⟨rfl, hW2⟩; replace hW2 := hW2.symm; subst hW2) | (go_at_call_of 15 (Value.int IntKind.i64 which); refine (unhide WM _).mono ?_; rintro e W2 ⟨rfl, hW2⟩; replace hW2 := hW2.symm; subst hW2) | (go_at_call 16; first | (refine (unhide E2 (.agg #[.int .i64 2, .int .i64 1, .int .i64 1, .bool false, .slice (some ⟨W1.heap.size + 1, 0, none⟩) 1 1, .string ⟨#[]⟩]) ((W1.alloc (.cells #[.int .i64 2, .int .i64 1, .int .i64 1, .bool false, .slice (some ⟨W1.heap.size + 1, 0, none⟩) 1 1, .string ⟨#[]⟩] 26)).alloc (.cells #[.string ⟨#[107]⟩, .string ⟨#[]⟩, .bool false] 40)) ⟨(some ⟨W1.heap.size + 1, 0, none⟩), 1, rfl, (by have h := Blk.new (W1.alloc (.cells #[.int .i64 2, .int .i64 1, .int .i64 1, .bool false, .slice (some ⟨W1.heap.size + 1, 0, none⟩) 1 1, .string ⟨#[]⟩] 26)) #[.string ⟨#[107]⟩, .string ⟨#[]⟩, .bool false] 40; rw [World.size_alloc] at h; exact wsv_one (x := ⟨⟨#[107]⟩, ⟨#[]⟩, false⟩) h)⟩).mono ?_; rintro e W3 ⟨rfl, hb2⟩; clear E2; have hk1 := ((Blk.new W1 #[.int .i64 2, .int .i64 1, .int .i64 1, .bool false, .slice (some ⟨W1.heap.size + 1, 0, none⟩) 1 1, .string ⟨#[]⟩] 26).below (below_new (W1.alloc (.cells #[.int .i64 2, .int .i64 1, .int .i64 1, .bool false, .slice (some ⟨W1.heap.size + 1, 0, none⟩) 1 1, .string ⟨#[]⟩] 26)) (.cells #[.string ⟨#[107]⟩, .string ⟨#[]⟩, .bool false] 40))).below hb2; have q0 := hk1.cell 0; have q1 := hk1.cell 1; have q2 := hk1.cell 2; have q3 := hk1.cell 3; have q4 := hk1.cell 4; have q5 := hk1.cell 5; simp at q0 q1 q2 q3 q4 q5; replace hk1 := hide hk1) | (refine (unhide E1 (.agg #[.int .i64 2, .int .i64 1, .int .i64 1, .bool false, .slice (some ⟨W1.heap.size + 1, 0, none⟩) 1 1, .string ⟨#[]⟩]) W3 ⟨(some ⟨W1.heap.size + 1, 0, none⟩), 1, rfl, (WsV.below (W := ((W1.alloc (.cells #[.int .i64 2, .int .i64 1, .int .i64 1, .bool false, .slice (some ⟨W1.heap.size + 1, 0, none⟩) 1 1, .string ⟨#[]⟩] 26)).alloc (.cells #[.string ⟨#[107]⟩, .string ⟨#[]⟩, .bool false] 40))) (by have h := Blk.new (W1.alloc (.cells #[.int .i64 2, .int .i64 1, .int .i64 1, .bool false, .slice (some ⟨W1.heap.size + 1, 0, none⟩) 1 1, .string ⟨#[]⟩] 26)) #[.string ⟨#[107]⟩, .string ⟨#[]⟩, .bool false] 40; rw [World.size_alloc] at h; exact wsv_one (x := ⟨⟨#[107]⟩, ⟨#[]⟩, false⟩) h) hb2)⟩).mono ?_; rintro e W4 ⟨rfl, hb3⟩; have p0 := ((unhide hk1).below hb3).cell 0; simp at p0; clear E1)))
    have hB := Below.onto (Below.onto hb1 (below_new W1 (.cells #[.int .i64 2, .int .i64 1, .int .i64 1, .bool false, .slice (some ⟨W1.heap.size + 1, 0, none⟩) 1 1, .string ⟨#[]⟩] 26))) (below_new (W1.alloc (.cells #[.int .i64 2, .int .i64 1, .int .i64 1, .bool false, .slice (some ⟨W1.heap.size + 1, 0, none⟩) 1 1, .string ⟨#[]⟩] 26)) (.cells #[.string ⟨#[107]⟩, .string ⟨#[]⟩, .bool false] 40))
    go_ret
    exact ⟨rfl, Below.onto (Below.onto hB hb2) hb3⟩
  rcases hd with hd | hd
  · have WK := hide (fun W => within7_is hk (by decide) hd W)
    have hf : Fine (⟨3, 1, 1, false, [⟨⟨#[107]⟩, ⟨#[]⟩, false⟩], ⟨#[]⟩⟩ : Cm) := ⟨by unfold Is64; decide, by unfold Is64; decide, by unfold Is64; decide, by decide, by decide +kernel, by decide +kernel⟩
    obtain ⟨s2, E2⟩ := enc_known 2 (⟨3, 1, 1, false, [⟨⟨#[107]⟩, ⟨#[]⟩, false⟩], ⟨#[]⟩⟩ : Cm) true (by decide +kernel) hf
    obtain ⟨s1, E1⟩ := enc_known 1 (⟨3, 1, 1, false, [⟨⟨#[107]⟩, ⟨#[]⟩, false⟩], ⟨#[]⟩⟩ : Cm) true (by decide +kernel) hf
    replace E2 := hide E2
    replace E1 := hide E1
    clear hf hd
    go_enter Try.func11, Try.ntmps11
    go_wp2_with (first | (go_at_call 13; refine (known7_any _).mono ?_; rintro e W1 ⟨rfl, hb1⟩) | (go_at_call_of 15 (Value.int IntKind.i64 kind); refine (unhide WK _).mono ?_; rintro e W2 ⟨rfl, hW2⟩; replace hW2 := hW2.symm; subst hW2) | (go_at_call_of 15 (Value.int IntKind.i64 which); refine (unhide WM _).mono ?_; rintro e W2 ⟨rfl, hW2⟩; replace hW2 := hW2.symm; subst hW2) | (go_at_call 16; first | (refine (unhide E2 (.agg #[.int .i64 3, .int .i64 1, .int .i64 1, .bool false, .slice (some ⟨W1.heap.size + 1, 0, none⟩) 1 1, .string ⟨#[]⟩]) ((W1.alloc (.cells #[.int .i64 3, .int .i64 1, .int .i64 1, .bool false, .slice (some ⟨W1.heap.size + 1, 0, none⟩) 1 1, .string ⟨#[]⟩] 26)).alloc (.cells #[.string ⟨#[107]⟩, .string ⟨#[]⟩, .bool false] 40)) ⟨(some ⟨W1.heap.size + 1, 0, none⟩), 1, rfl, (by have h := Blk.new (W1.alloc (.cells #[.int .i64 3, .int .i64 1, .int .i64 1, .bool false, .slice (some ⟨W1.heap.size + 1, 0, none⟩) 1 1, .string ⟨#[]⟩] 26)) #[.string ⟨#[107]⟩, .string ⟨#[]⟩, .bool false] 40; rw [World.size_alloc] at h; exact wsv_one (x := ⟨⟨#[107]⟩, ⟨#[]⟩, false⟩) h)⟩).mono ?_; rintro e W3 ⟨rfl, hb2⟩; clear E2; have hk1 := ((Blk.new W1 #[.int .i64 3, .int .i64 1, .int .i64 1, .bool false, .slice (some ⟨W1.heap.size + 1, 0, none⟩) 1 1, .string ⟨#[]⟩] 26).below (below_new (W1.alloc (.cells #[.int .i64 3, .int .i64 1, .int .i64 1, .bool false, .slice (some ⟨W1.heap.size + 1, 0, none⟩) 1 1, .string ⟨#[]⟩] 26)) (.cells #[.string ⟨#[107]⟩, .string ⟨#[]⟩, .bool false] 40))).below hb2; have q0 := hk1.cell 0; have q1 := hk1.cell 1; have q2 := hk1.cell 2; have q3 := hk1.cell 3; have q4 := hk1.cell 4; have q5 := hk1.cell 5; simp at q0 q1 q2 q3 q4 q5; replace hk1 := hide hk1) | (refine (unhide E1 (.agg #[.int .i64 3, .int .i64 1, .int .i64 1, .bool false, .slice (some ⟨W1.heap.size + 1, 0, none⟩) 1 1, .string ⟨#[]⟩]) W3 ⟨(some ⟨W1.heap.size + 1, 0, none⟩), 1, rfl, (WsV.below (W := ((W1.alloc (.cells #[.int .i64 3, .int .i64 1, .int .i64 1, .bool false, .slice (some ⟨W1.heap.size + 1, 0, none⟩) 1 1, .string ⟨#[]⟩] 26)).alloc (.cells #[.string ⟨#[107]⟩, .string ⟨#[]⟩, .bool false] 40))) (by have h := Blk.new (W1.alloc (.cells #[.int .i64 3, .int .i64 1, .int .i64 1, .bool false, .slice (some ⟨W1.heap.size + 1, 0, none⟩) 1 1, .string ⟨#[]⟩] 26)) #[.string ⟨#[107]⟩, .string ⟨#[]⟩, .bool false] 40; rw [World.size_alloc] at h; exact wsv_one (x := ⟨⟨#[107]⟩, ⟨#[]⟩, false⟩) h) hb2)⟩).mono ?_; rintro e W4 ⟨rfl, hb3⟩; have p0 := ((unhide hk1).below hb3).cell 0; simp at p0; clear E1)))
    have hB := Below.onto (Below.onto hb1 (below_new W1 (.cells #[.int .i64 3, .int .i64 1, .int .i64 1, .bool false, .slice (some ⟨W1.heap.size + 1, 0, none⟩) 1 1, .string ⟨#[]⟩] 26))) (below_new (W1.alloc (.cells #[.int .i64 3, .int .i64 1, .int .i64 1, .bool false, .slice (some ⟨W1.heap.size + 1, 0, none⟩) 1 1, .string ⟨#[]⟩] 26)) (.cells #[.string ⟨#[107]⟩, .string ⟨#[]⟩, .bool false] 40))
    go_ret
    exact ⟨rfl, Below.onto (Below.onto hB hb2) hb3⟩
  rcases hd with hd | hd
  · have WK := hide (fun W => within7_is hk (by decide) hd W)
    have hf : Fine (⟨4, 1, 1, false, [⟨⟨#[107]⟩, ⟨#[]⟩, false⟩], ⟨#[]⟩⟩ : Cm) := ⟨by unfold Is64; decide, by unfold Is64; decide, by unfold Is64; decide, by decide, by decide +kernel, by decide +kernel⟩
    obtain ⟨s2, E2⟩ := enc_known 2 (⟨4, 1, 1, false, [⟨⟨#[107]⟩, ⟨#[]⟩, false⟩], ⟨#[]⟩⟩ : Cm) false (by decide +kernel) hf
    obtain ⟨s1, E1⟩ := enc_known 1 (⟨4, 1, 1, false, [⟨⟨#[107]⟩, ⟨#[]⟩, false⟩], ⟨#[]⟩⟩ : Cm) false (by decide +kernel) hf
    replace E2 := hide E2
    replace E1 := hide E1
    clear hf hd
    go_enter Try.func11, Try.ntmps11
    go_wp2_with (first | (go_at_call 13; refine (known7_any _).mono ?_; rintro e W1 ⟨rfl, hb1⟩) | (go_at_call_of 15 (Value.int IntKind.i64 kind); refine (unhide WK _).mono ?_; rintro e W2 ⟨rfl, hW2⟩; replace hW2 := hW2.symm; subst hW2) | (go_at_call_of 15 (Value.int IntKind.i64 which); refine (unhide WM _).mono ?_; rintro e W2 ⟨rfl, hW2⟩; replace hW2 := hW2.symm; subst hW2) | (go_at_call 16; first | (refine (unhide E2 (.agg #[.int .i64 4, .int .i64 1, .int .i64 1, .bool false, .slice (some ⟨W1.heap.size + 1, 0, none⟩) 1 1, .string ⟨#[]⟩]) ((W1.alloc (.cells #[.int .i64 4, .int .i64 1, .int .i64 1, .bool false, .slice (some ⟨W1.heap.size + 1, 0, none⟩) 1 1, .string ⟨#[]⟩] 26)).alloc (.cells #[.string ⟨#[107]⟩, .string ⟨#[]⟩, .bool false] 40)) ⟨(some ⟨W1.heap.size + 1, 0, none⟩), 1, rfl, (by have h := Blk.new (W1.alloc (.cells #[.int .i64 4, .int .i64 1, .int .i64 1, .bool false, .slice (some ⟨W1.heap.size + 1, 0, none⟩) 1 1, .string ⟨#[]⟩] 26)) #[.string ⟨#[107]⟩, .string ⟨#[]⟩, .bool false] 40; rw [World.size_alloc] at h; exact wsv_one (x := ⟨⟨#[107]⟩, ⟨#[]⟩, false⟩) h)⟩).mono ?_; rintro e W3 ⟨rfl, hb2⟩; clear E2; have hk1 := ((Blk.new W1 #[.int .i64 4, .int .i64 1, .int .i64 1, .bool false, .slice (some ⟨W1.heap.size + 1, 0, none⟩) 1 1, .string ⟨#[]⟩] 26).below (below_new (W1.alloc (.cells #[.int .i64 4, .int .i64 1, .int .i64 1, .bool false, .slice (some ⟨W1.heap.size + 1, 0, none⟩) 1 1, .string ⟨#[]⟩] 26)) (.cells #[.string ⟨#[107]⟩, .string ⟨#[]⟩, .bool false] 40))).below hb2; have q0 := hk1.cell 0; have q1 := hk1.cell 1; have q2 := hk1.cell 2; have q3 := hk1.cell 3; have q4 := hk1.cell 4; have q5 := hk1.cell 5; simp at q0 q1 q2 q3 q4 q5; replace hk1 := hide hk1) | (refine (unhide E1 (.agg #[.int .i64 4, .int .i64 1, .int .i64 1, .bool false, .slice (some ⟨W1.heap.size + 1, 0, none⟩) 1 1, .string ⟨#[]⟩]) W3 ⟨(some ⟨W1.heap.size + 1, 0, none⟩), 1, rfl, (WsV.below (W := ((W1.alloc (.cells #[.int .i64 4, .int .i64 1, .int .i64 1, .bool false, .slice (some ⟨W1.heap.size + 1, 0, none⟩) 1 1, .string ⟨#[]⟩] 26)).alloc (.cells #[.string ⟨#[107]⟩, .string ⟨#[]⟩, .bool false] 40))) (by have h := Blk.new (W1.alloc (.cells #[.int .i64 4, .int .i64 1, .int .i64 1, .bool false, .slice (some ⟨W1.heap.size + 1, 0, none⟩) 1 1, .string ⟨#[]⟩] 26)) #[.string ⟨#[107]⟩, .string ⟨#[]⟩, .bool false] 40; rw [World.size_alloc] at h; exact wsv_one (x := ⟨⟨#[107]⟩, ⟨#[]⟩, false⟩) h) hb2)⟩).mono ?_; rintro e W4 ⟨rfl, hb3⟩; have p0 := ((unhide hk1).below hb3).cell 0; simp at p0; clear E1)))
    have hB := Below.onto (Below.onto hb1 (below_new W1 (.cells #[.int .i64 4, .int .i64 1, .int .i64 1, .bool false, .slice (some ⟨W1.heap.size + 1, 0, none⟩) 1 1, .string ⟨#[]⟩] 26))) (below_new (W1.alloc (.cells #[.int .i64 4, .int .i64 1, .int .i64 1, .bool false, .slice (some ⟨W1.heap.size + 1, 0, none⟩) 1 1, .string ⟨#[]⟩] 26)) (.cells #[.string ⟨#[107]⟩, .string ⟨#[]⟩, .bool false] 40))
    go_ret
    exact ⟨rfl, Below.onto (Below.onto hB hb2) hb3⟩
  · have WK := hide (fun W => within7_is hk (by decide) hd W)
    have hf : Fine (⟨5, 1, 1, false, [⟨⟨#[107]⟩, ⟨#[]⟩, false⟩], ⟨#[]⟩⟩ : Cm) := ⟨by unfold Is64; decide, by unfold Is64; decide, by unfold Is64; decide, by decide, by decide +kernel, by decide +kernel⟩
    obtain ⟨s2, E2⟩ := enc_known 2 (⟨5, 1, 1, false, [⟨⟨#[107]⟩, ⟨#[]⟩, false⟩], ⟨#[]⟩⟩ : Cm) false (by decide +kernel) hf
    obtain ⟨s1, E1⟩ := enc_known 1 (⟨5, 1, 1, false, [⟨⟨#[107]⟩, ⟨#[]⟩, false⟩], ⟨#[]⟩⟩ : Cm) false (by decide +kernel) hf
    replace E2 := hide E2
    replace E1 := hide E1
    clear hf hd
    go_enter Try.func11, Try.ntmps11
    go_wp2_with (first | (go_at_call 13; refine (known7_any _).mono ?_; rintro e W1 ⟨rfl, hb1⟩) | (go_at_call_of 15 (Value.int IntKind.i64 kind); refine (unhide WK _).mono ?_; rintro e W2 ⟨rfl, hW2⟩; replace hW2 := hW2.symm; subst hW2) | (go_at_call_of 15 (Value.int IntKind.i64 which); refine (unhide WM _).mono ?_; rintro e W2 ⟨rfl, hW2⟩; replace hW2 := hW2.symm; subst hW2) | (go_at_call 16; first | (refine (unhide E2 (.agg #[.int .i64 5, .int .i64 1, .int .i64 1, .bool false, .slice (some ⟨W1.heap.size + 1, 0, none⟩) 1 1, .string ⟨#[]⟩]) ((W1.alloc (.cells #[.int .i64 5, .int .i64 1, .int .i64 1, .bool false, .slice (some ⟨W1.heap.size + 1, 0, none⟩) 1 1, .string ⟨#[]⟩] 26)).alloc (.cells #[.string ⟨#[107]⟩, .string ⟨#[]⟩, .bool false] 40)) ⟨(some ⟨W1.heap.size + 1, 0, none⟩), 1, rfl, (by have h := Blk.new (W1.alloc (.cells #[.int .i64 5, .int .i64 1, .int .i64 1, .bool false, .slice (some ⟨W1.heap.size + 1, 0, none⟩) 1 1, .string ⟨#[]⟩] 26)) #[.string ⟨#[107]⟩, .string ⟨#[]⟩, .bool false] 40; rw [World.size_alloc] at h; exact wsv_one (x := ⟨⟨#[107]⟩, ⟨#[]⟩, false⟩) h)⟩).mono ?_; rintro e W3 ⟨rfl, hb2⟩; clear E2; have hk1 := ((Blk.new W1 #[.int .i64 5, .int .i64 1, .int .i64 1, .bool false, .slice (some ⟨W1.heap.size + 1, 0, none⟩) 1 1, .string ⟨#[]⟩] 26).below (below_new (W1.alloc (.cells #[.int .i64 5, .int .i64 1, .int .i64 1, .bool false, .slice (some ⟨W1.heap.size + 1, 0, none⟩) 1 1, .string ⟨#[]⟩] 26)) (.cells #[.string ⟨#[107]⟩, .string ⟨#[]⟩, .bool false] 40))).below hb2; have q0 := hk1.cell 0; have q1 := hk1.cell 1; have q2 := hk1.cell 2; have q3 := hk1.cell 3; have q4 := hk1.cell 4; have q5 := hk1.cell 5; simp at q0 q1 q2 q3 q4 q5; replace hk1 := hide hk1) | (refine (unhide E1 (.agg #[.int .i64 5, .int .i64 1, .int .i64 1, .bool false, .slice (some ⟨W1.heap.size + 1, 0, none⟩) 1 1, .string ⟨#[]⟩]) W3 ⟨(some ⟨W1.heap.size + 1, 0, none⟩), 1, rfl, (WsV.below (W := ((W1.alloc (.cells #[.int .i64 5, .int .i64 1, .int .i64 1, .bool false, .slice (some ⟨W1.heap.size + 1, 0, none⟩) 1 1, .string ⟨#[]⟩] 26)).alloc (.cells #[.string ⟨#[107]⟩, .string ⟨#[]⟩, .bool false] 40))) (by have h := Blk.new (W1.alloc (.cells #[.int .i64 5, .int .i64 1, .int .i64 1, .bool false, .slice (some ⟨W1.heap.size + 1, 0, none⟩) 1 1, .string ⟨#[]⟩] 26)) #[.string ⟨#[107]⟩, .string ⟨#[]⟩, .bool false] 40; rw [World.size_alloc] at h; exact wsv_one (x := ⟨⟨#[107]⟩, ⟨#[]⟩, false⟩) h) hb2)⟩).mono ?_; rintro e W4 ⟨rfl, hb3⟩; have p0 := ((unhide hk1).below hb3).cell 0; simp at p0; clear E1)))
    have hB := Below.onto (Below.onto hb1 (below_new W1 (.cells #[.int .i64 5, .int .i64 1, .int .i64 1, .bool false, .slice (some ⟨W1.heap.size + 1, 0, none⟩) 1 1, .string ⟨#[]⟩] 26))) (below_new (W1.alloc (.cells #[.int .i64 5, .int .i64 1, .int .i64 1, .bool false, .slice (some ⟨W1.heap.size + 1, 0, none⟩) 1 1, .string ⟨#[]⟩] 26)) (.cells #[.string ⟨#[107]⟩, .string ⟨#[]⟩, .bool false] 40))
    go_ret
    exact ⟨rfl, Below.onto (Below.onto hB hb2) hb3⟩
set_option maxRecDepth 100000 in
set_option maxHeartbeats 8000000 in
theorem kinds2 (kind which : Int) (w : World) (hk : Is64 kind) (hh : Is64 which) (hm : which % 4 = 2) : Calls Try.prog 11 #[.int .i64 kind, .int .i64 which] w fun e w' => e = .returned (.bool true) ∧ Below w.heap.size w w' := by
  have WM := hide (fun W => within7_is hh (by decide) hm W)
  have hd : kind % 6 = 0 ∨ kind % 6 = 1 ∨ kind % 6 = 2 ∨ kind % 6 = 3 ∨ kind % 6 = 4 ∨ kind % 6 = 5 := by omega
  clear hm
  rcases hd with hd | hd
  · have WK := hide (fun W => within7_is hk (by decide) hd W)
    have hf : Fine (⟨0, 1, 1, false, [], ⟨#[116]⟩⟩ : Cm) := ⟨by unfold Is64; decide, by unfold Is64; decide, by unfold Is64; decide, by decide, by decide +kernel, by decide +kernel⟩
    obtain ⟨s2, E2⟩ := enc_known 2 (⟨0, 1, 1, false, [], ⟨#[116]⟩⟩ : Cm) false (by decide +kernel) hf
    obtain ⟨s1, E1⟩ := enc_known 1 (⟨0, 1, 1, false, [], ⟨#[116]⟩⟩ : Cm) false (by decide +kernel) hf
    replace E2 := hide E2
    replace E1 := hide E1
    clear hf hd
    go_enter Try.func11, Try.ntmps11
    go_wp2_with (first | (go_at_call 13; refine (known7_any _).mono ?_; rintro e W1 ⟨rfl, hb1⟩) | (go_at_call_of 15 (Value.int IntKind.i64 kind); refine (unhide WK _).mono ?_; rintro e W2 ⟨rfl, hW2⟩; replace hW2 := hW2.symm; subst hW2) | (go_at_call_of 15 (Value.int IntKind.i64 which); refine (unhide WM _).mono ?_; rintro e W2 ⟨rfl, hW2⟩; replace hW2 := hW2.symm; subst hW2) | (go_at_call 16; first | (refine (unhide E2 (.agg #[.int .i64 0, .int .i64 1, .int .i64 1, .bool false, .slice none 0 0, .string ⟨#[116]⟩]) (W1.alloc (.cells #[.int .i64 0, .int .i64 1, .int .i64 1, .bool false, .slice none 0 0, .string ⟨#[116]⟩] 26)) ⟨none, 0, rfl, (wsv_nil _)⟩).mono ?_; rintro e W3 ⟨rfl, hb2⟩; clear E2; have hk1 := (Blk.new W1 #[.int .i64 0, .int .i64 1, .int .i64 1, .bool false, .slice none 0 0, .string ⟨#[116]⟩] 26).below hb2; have q0 := hk1.cell 0; have q1 := hk1.cell 1; have q2 := hk1.cell 2; have q3 := hk1.cell 3; have q4 := hk1.cell 4; have q5 := hk1.cell 5; simp at q0 q1 q2 q3 q4 q5; replace hk1 := hide hk1) | (refine (unhide E1 (.agg #[.int .i64 0, .int .i64 1, .int .i64 1, .bool false, .slice none 0 0, .string ⟨#[116]⟩]) W3 ⟨none, 0, rfl, (wsv_nil _)⟩).mono ?_; rintro e W4 ⟨rfl, hb3⟩; have p0 := ((unhide hk1).below hb3).cell 0; simp at p0; clear E1)))
    have hB := Below.onto hb1 (below_new W1 (.cells #[.int .i64 0, .int .i64 1, .int .i64 1, .bool false, .slice none 0 0, .string ⟨#[116]⟩] 26))
    go_ret
    exact ⟨rfl, Below.onto (Below.onto hB hb2) hb3⟩
  rcases hd with hd | hd
  · have WK := hide (fun W => within7_is hk (by decide) hd W)
    have hf : Fine (⟨1, 1, 1, false, [], ⟨#[116]⟩⟩ : Cm) := ⟨by unfold Is64; decide, by unfold Is64; decide, by unfold Is64; decide, by decide, by decide +kernel, by decide +kernel⟩
    obtain ⟨s2, E2⟩ := enc_known 2 (⟨1, 1, 1, false, [], ⟨#[116]⟩⟩ : Cm) false (by decide +kernel) hf
    obtain ⟨s1, E1⟩ := enc_known 1 (⟨1, 1, 1, false, [], ⟨#[116]⟩⟩ : Cm) false (by decide +kernel) hf
    replace E2 := hide E2
    replace E1 := hide E1
    clear hf hd
    go_enter Try.func11, Try.ntmps11
    go_wp2_with (first | (go_at_call 13; refine (known7_any _).mono ?_; rintro e W1 ⟨rfl, hb1⟩) | (go_at_call_of 15 (Value.int IntKind.i64 kind); refine (unhide WK _).mono ?_; rintro e W2 ⟨rfl, hW2⟩; replace hW2 := hW2.symm; subst hW2) | (go_at_call_of 15 (Value.int IntKind.i64 which); refine (unhide WM _).mono ?_; rintro e W2 ⟨rfl, hW2⟩; replace hW2 := hW2.symm; subst hW2) | (go_at_call 16; first | (refine (unhide E2 (.agg #[.int .i64 1, .int .i64 1, .int .i64 1, .bool false, .slice none 0 0, .string ⟨#[116]⟩]) (W1.alloc (.cells #[.int .i64 1, .int .i64 1, .int .i64 1, .bool false, .slice none 0 0, .string ⟨#[116]⟩] 26)) ⟨none, 0, rfl, (wsv_nil _)⟩).mono ?_; rintro e W3 ⟨rfl, hb2⟩; clear E2; have hk1 := (Blk.new W1 #[.int .i64 1, .int .i64 1, .int .i64 1, .bool false, .slice none 0 0, .string ⟨#[116]⟩] 26).below hb2; have q0 := hk1.cell 0; have q1 := hk1.cell 1; have q2 := hk1.cell 2; have q3 := hk1.cell 3; have q4 := hk1.cell 4; have q5 := hk1.cell 5; simp at q0 q1 q2 q3 q4 q5; replace hk1 := hide hk1) | (refine (unhide E1 (.agg #[.int .i64 1, .int .i64 1, .int .i64 1, .bool false, .slice none 0 0, .string ⟨#[116]⟩]) W3 ⟨none, 0, rfl, (wsv_nil _)⟩).mono ?_; rintro e W4 ⟨rfl, hb3⟩; have p0 := ((unhide hk1).below hb3).cell 0; simp at p0; clear E1)))
    have hB := Below.onto hb1 (below_new W1 (.cells #[.int .i64 1, .int .i64 1, .int .i64 1, .bool false, .slice none 0 0, .string ⟨#[116]⟩] 26))
    go_ret
    exact ⟨rfl, Below.onto (Below.onto hB hb2) hb3⟩
  rcases hd with hd | hd
  · have WK := hide (fun W => within7_is hk (by decide) hd W)
    have hf : Fine (⟨2, 1, 1, false, [], ⟨#[116]⟩⟩ : Cm) := ⟨by unfold Is64; decide, by unfold Is64; decide, by unfold Is64; decide, by decide, by decide +kernel, by decide +kernel⟩
    obtain ⟨s2, E2⟩ := enc_known 2 (⟨2, 1, 1, false, [], ⟨#[116]⟩⟩ : Cm) false (by decide +kernel) hf
    obtain ⟨s1, E1⟩ := enc_known 1 (⟨2, 1, 1, false, [], ⟨#[116]⟩⟩ : Cm) false (by decide +kernel) hf
    replace E2 := hide E2
    replace E1 := hide E1
    clear hf hd
    go_enter Try.func11, Try.ntmps11
    go_wp2_with (first | (go_at_call 13; refine (known7_any _).mono ?_; rintro e W1 ⟨rfl, hb1⟩) | (go_at_call_of 15 (Value.int IntKind.i64 kind); refine (unhide WK _).mono ?_; rintro e W2 ⟨rfl, hW2⟩; replace hW2 := hW2.symm; subst hW2) | (go_at_call_of 15 (Value.int IntKind.i64 which); refine (unhide WM _).mono ?_; rintro e W2 ⟨rfl, hW2⟩; replace hW2 := hW2.symm; subst hW2) | (go_at_call 16; first | (refine (unhide E2 (.agg #[.int .i64 2, .int .i64 1, .int .i64 1, .bool false, .slice none 0 0, .string ⟨#[116]⟩]) (W1.alloc (.cells #[.int .i64 2, .int .i64 1, .int .i64 1, .bool false, .slice none 0 0, .string ⟨#[116]⟩] 26)) ⟨none, 0, rfl, (wsv_nil _)⟩).mono ?_; rintro e W3 ⟨rfl, hb2⟩; clear E2; have hk1 := (Blk.new W1 #[.int .i64 2, .int .i64 1, .int .i64 1, .bool false, .slice none 0 0, .string ⟨#[116]⟩] 26).below hb2; have q0 := hk1.cell 0; have q1 := hk1.cell 1; have q2 := hk1.cell 2; have q3 := hk1.cell 3; have q4 := hk1.cell 4; have q5 := hk1.cell 5; simp at q0 q1 q2 q3 q4 q5; replace hk1 := hide hk1) | (refine (unhide E1 (.agg #[.int .i64 2, .int .i64 1, .int .i64 1, .bool false, .slice none 0 0, .string ⟨#[116]⟩]) W3 ⟨none, 0, rfl, (wsv_nil _)⟩).mono ?_; rintro e W4 ⟨rfl, hb3⟩; have p0 := ((unhide hk1).below hb3).cell 0; simp at p0; clear E1)))
    have hB := Below.onto hb1 (below_new W1 (.cells #[.int .i64 2, .int .i64 1, .int .i64 1, .bool false, .slice none 0 0, .string ⟨#[116]⟩] 26))
    go_ret
    exact ⟨rfl, Below.onto (Below.onto hB hb2) hb3⟩
  rcases hd with hd | hd
  · have WK := hide (fun W => within7_is hk (by decide) hd W)
    have hf : Fine (⟨3, 1, 1, false, [], ⟨#[116]⟩⟩ : Cm) := ⟨by unfold Is64; decide, by unfold Is64; decide, by unfold Is64; decide, by decide, by decide +kernel, by decide +kernel⟩
    obtain ⟨s2, E2⟩ := enc_known 2 (⟨3, 1, 1, false, [], ⟨#[116]⟩⟩ : Cm) false (by decide +kernel) hf
    obtain ⟨s1, E1⟩ := enc_known 1 (⟨3, 1, 1, false, [], ⟨#[116]⟩⟩ : Cm) false (by decide +kernel) hf
    replace E2 := hide E2
    replace E1 := hide E1
    clear hf hd
    go_enter Try.func11, Try.ntmps11
    go_wp2_with (first | (go_at_call 13; refine (known7_any _).mono ?_; rintro e W1 ⟨rfl, hb1⟩) | (go_at_call_of 15 (Value.int IntKind.i64 kind); refine (unhide WK _).mono ?_; rintro e W2 ⟨rfl, hW2⟩; replace hW2 := hW2.symm; subst hW2) | (go_at_call_of 15 (Value.int IntKind.i64 which); refine (unhide WM _).mono ?_; rintro e W2 ⟨rfl, hW2⟩; replace hW2 := hW2.symm; subst hW2) | (go_at_call 16; first | (refine (unhide E2 (.agg #[.int .i64 3, .int .i64 1, .int .i64 1, .bool false, .slice none 0 0, .string ⟨#[116]⟩]) (W1.alloc (.cells #[.int .i64 3, .int .i64 1, .int .i64 1, .bool false, .slice none 0 0, .string ⟨#[116]⟩] 26)) ⟨none, 0, rfl, (wsv_nil _)⟩).mono ?_; rintro e W3 ⟨rfl, hb2⟩; clear E2; have hk1 := (Blk.new W1 #[.int .i64 3, .int .i64 1, .int .i64 1, .bool false, .slice none 0 0, .string ⟨#[116]⟩] 26).below hb2; have q0 := hk1.cell 0; have q1 := hk1.cell 1; have q2 := hk1.cell 2; have q3 := hk1.cell 3; have q4 := hk1.cell 4; have q5 := hk1.cell 5; simp at q0 q1 q2 q3 q4 q5; replace hk1 := hide hk1) | (refine (unhide E1 (.agg #[.int .i64 3, .int .i64 1, .int .i64 1, .bool false, .slice none 0 0, .string ⟨#[116]⟩]) W3 ⟨none, 0, rfl, (wsv_nil _)⟩).mono ?_; rintro e W4 ⟨rfl, hb3⟩; have p0 := ((unhide hk1).below hb3).cell 0; simp at p0; clear E1)))
    have hB := Below.onto hb1 (below_new W1 (.cells #[.int .i64 3, .int .i64 1, .int .i64 1, .bool false, .slice none 0 0, .string ⟨#[116]⟩] 26))
    go_ret
    exact ⟨rfl, Below.onto (Below.onto hB hb2) hb3⟩
  rcases hd with hd | hd
  · have WK := hide (fun W => within7_is hk (by decide) hd W)
    have hf : Fine (⟨4, 1, 1, false, [], ⟨#[116]⟩⟩ : Cm) := ⟨by unfold Is64; decide, by unfold Is64; decide, by unfold Is64; decide, by decide, by decide +kernel, by decide +kernel⟩
    obtain ⟨s2, E2⟩ := enc_known 2 (⟨4, 1, 1, false, [], ⟨#[116]⟩⟩ : Cm) false (by decide +kernel) hf
    obtain ⟨s1, E1⟩ := enc_known 1 (⟨4, 1, 1, false, [], ⟨#[116]⟩⟩ : Cm) false (by decide +kernel) hf
    replace E2 := hide E2
    replace E1 := hide E1
    clear hf hd
    go_enter Try.func11, Try.ntmps11
    go_wp2_with (first | (go_at_call 13; refine (known7_any _).mono ?_; rintro e W1 ⟨rfl, hb1⟩) | (go_at_call_of 15 (Value.int IntKind.i64 kind); refine (unhide WK _).mono ?_; rintro e W2 ⟨rfl, hW2⟩; replace hW2 := hW2.symm; subst hW2) | (go_at_call_of 15 (Value.int IntKind.i64 which); refine (unhide WM _).mono ?_; rintro e W2 ⟨rfl, hW2⟩; replace hW2 := hW2.symm; subst hW2) | (go_at_call 16; first | (refine (unhide E2 (.agg #[.int .i64 4, .int .i64 1, .int .i64 1, .bool false, .slice none 0 0, .string ⟨#[116]⟩]) (W1.alloc (.cells #[.int .i64 4, .int .i64 1, .int .i64 1, .bool false, .slice none 0 0, .string ⟨#[116]⟩] 26)) ⟨none, 0, rfl, (wsv_nil _)⟩).mono ?_; rintro e W3 ⟨rfl, hb2⟩; clear E2; have hk1 := (Blk.new W1 #[.int .i64 4, .int .i64 1, .int .i64 1, .bool false, .slice none 0 0, .string ⟨#[116]⟩] 26).below hb2; have q0 := hk1.cell 0; have q1 := hk1.cell 1; have q2 := hk1.cell 2; have q3 := hk1.cell 3; have q4 := hk1.cell 4; have q5 := hk1.cell 5; simp at q0 q1 q2 q3 q4 q5; replace hk1 := hide hk1) | (refine (unhide E1 (.agg #[.int .i64 4, .int .i64 1, .int .i64 1, .bool false, .slice none 0 0, .string ⟨#[116]⟩]) W3 ⟨none, 0, rfl, (wsv_nil _)⟩).mono ?_; rintro e W4 ⟨rfl, hb3⟩; have p0 := ((unhide hk1).below hb3).cell 0; simp at p0; clear E1)))
    have hB := Below.onto hb1 (below_new W1 (.cells #[.int .i64 4, .int .i64 1, .int .i64 1, .bool false, .slice none 0 0, .string ⟨#[116]⟩] 26))
    go_ret
    exact ⟨rfl, Below.onto (Below.onto hB hb2) hb3⟩
  · have WK := hide (fun W => within7_is hk (by decide) hd W)
    have hf : Fine (⟨5, 1, 1, false, [], ⟨#[116]⟩⟩ : Cm) := ⟨by unfold Is64; decide, by unfold Is64; decide, by unfold Is64; decide, by decide, by decide +kernel, by decide +kernel⟩
    obtain ⟨s2, E2⟩ := enc_known 2 (⟨5, 1, 1, false, [], ⟨#[116]⟩⟩ : Cm) true (by decide +kernel) hf
    obtain ⟨s1, E1⟩ := enc_known 1 (⟨5, 1, 1, false, [], ⟨#[116]⟩⟩ : Cm) false (by decide +kernel) hf
    replace E2 := hide E2
    replace E1 := hide E1
    clear hf hd
    go_enter Try.func11, Try.ntmps11
    go_wp2_with (first | (go_at_call 13; refine (known7_any _).mono ?_; rintro e W1 ⟨rfl, hb1⟩) | (go_at_call_of 15 (Value.int IntKind.i64 kind); refine (unhide WK _).mono ?_; rintro e W2 ⟨rfl, hW2⟩; replace hW2 := hW2.symm; subst hW2) | (go_at_call_of 15 (Value.int IntKind.i64 which); refine (unhide WM _).mono ?_; rintro e W2 ⟨rfl, hW2⟩; replace hW2 := hW2.symm; subst hW2) | (go_at_call 16; first | (refine (unhide E2 (.agg #[.int .i64 5, .int .i64 1, .int .i64 1, .bool false, .slice none 0 0, .string ⟨#[116]⟩]) (W1.alloc (.cells #[.int .i64 5, .int .i64 1, .int .i64 1, .bool false, .slice none 0 0, .string ⟨#[116]⟩] 26)) ⟨none, 0, rfl, (wsv_nil _)⟩).mono ?_; rintro e W3 ⟨rfl, hb2⟩; clear E2; have hk1 := (Blk.new W1 #[.int .i64 5, .int .i64 1, .int .i64 1, .bool false, .slice none 0 0, .string ⟨#[116]⟩] 26).below hb2; have q0 := hk1.cell 0; have q1 := hk1.cell 1; have q2 := hk1.cell 2; have q3 := hk1.cell 3; have q4 := hk1.cell 4; have q5 := hk1.cell 5; simp at q0 q1 q2 q3 q4 q5; replace hk1 := hide hk1) | (refine (unhide E1 (.agg #[.int .i64 5, .int .i64 1, .int .i64 1, .bool false, .slice none 0 0, .string ⟨#[116]⟩]) W3 ⟨none, 0, rfl, (wsv_nil _)⟩).mono ?_; rintro e W4 ⟨rfl, hb3⟩; have p0 := ((unhide hk1).below hb3).cell 0; simp at p0; clear E1)))
    have hB := Below.onto hb1 (below_new W1 (.cells #[.int .i64 5, .int .i64 1, .int .i64 1, .bool false, .slice none 0 0, .string ⟨#[116]⟩] 26))
    go_ret
    exact ⟨rfl, Below.onto (Below.onto hB hb2) hb3⟩
set_option maxRecDepth 100000 in
set_option maxHeartbeats 8000000 in
theorem kinds3 (kind which : Int) (w : World) (hk : Is64 kind) (hh : Is64 which) (hm : which % 4 = 3) : Calls Try.prog 11 #[.int .i64 kind, .int .i64 which] w fun e w' => e = .returned (.bool true) ∧ Below w.heap.size w w' := by
  have WM := hide (fun W => within7_is hh (by decide) hm W)
  have hd : kind % 6 = 0 ∨ kind % 6 = 1 ∨ kind % 6 = 2 ∨ kind % 6 = 3 ∨ kind % 6 = 4 ∨ kind % 6 = 5 := by omega
  clear hm
  rcases hd with hd | hd
  · have WK := hide (fun W => within7_is hk (by decide) hd W)
    have hf : Fine (⟨0, 1, 1, false, [], ⟨#[]⟩⟩ : Cm) := ⟨by unfold Is64; decide, by unfold Is64; decide, by unfold Is64; decide, by decide, by decide +kernel, by decide +kernel⟩
    obtain ⟨s2, E2⟩ := enc_known 2 (⟨0, 1, 1, false, [], ⟨#[]⟩⟩ : Cm) true (by decide +kernel) hf
    obtain ⟨s1, E1⟩ := enc_known 1 (⟨0, 1, 1, false, [], ⟨#[]⟩⟩ : Cm) true (by decide +kernel) hf
    replace E2 := hide E2
    replace E1 := hide E1
    clear hf hd
    go_enter Try.func11, Try.ntmps11
    go_wp2_with (first | (go_at_call 13; refine (known7_any _).mono ?_; rintro e W1 ⟨rfl, hb1⟩) | (go_at_call_of 15 (Value.int IntKind.i64 kind); refine (unhide WK _).mono ?_; rintro e W2 ⟨rfl, hW2⟩; replace hW2 := hW2.symm; subst hW2) | (go_at_call_of 15 (Value.int IntKind.i64 which); refine (unhide WM _).mono ?_; rintro e W2 ⟨rfl, hW2⟩; replace hW2 := hW2.symm; subst hW2) | (go_at_call 16; first | (refine (unhide E2 (.agg #[.int .i64 0, .int .i64 1, .int .i64 1, .bool false, .slice none 0 0, .string ⟨#[]⟩]) (W1.alloc (.cells #[.int .i64 0, .int .i64 1, .int .i64 1, .bool false, .slice none 0 0, .string ⟨#[]⟩] 26)) ⟨none, 0, rfl, (wsv_nil _)⟩).mono ?_; rintro e W3 ⟨rfl, hb2⟩; clear E2; have hk1 := (Blk.new W1 #[.int .i64 0, .int .i64 1, .int .i64 1, .bool false, .slice none 0 0, .string ⟨#[]⟩] 26).below hb2; have q0 := hk1.cell 0; have q1 := hk1.cell 1; have q2 := hk1.cell 2; have q3 := hk1.cell 3; have q4 := hk1.cell 4; have q5 := hk1.cell 5; simp at q0 q1 q2 q3 q4 q5; replace hk1 := hide hk1) | (refine (unhide E1 (.agg #[.int .i64 0, .int .i64 1, .int .i64 1, .bool false, .slice none 0 0, .string ⟨#[]⟩]) W3 ⟨none, 0, rfl, (wsv_nil _)⟩).mono ?_; rintro e W4 ⟨rfl, hb3⟩; have p0 := ((unhide hk1).below hb3).cell 0; simp at p0; clear E1)))
    have hB := Below.onto hb1 (below_new W1 (.cells #[.int .i64 0, .int .i64 1, .int .i64 1, .bool false, .slice none 0 0, .string ⟨#[]⟩] 26))
    go_ret
    exact ⟨rfl, Below.onto (Below.onto hB hb2) hb3⟩
  rcases hd with hd | hd
  · have WK := hide (fun W => within7_is hk (by decide) hd W)
    have hf : Fine (⟨1, 1, 1, false, [], ⟨#[]⟩⟩ : Cm) := ⟨by unfold Is64; decide, by unfold Is64; decide, by unfold Is64; decide, by decide, by decide +kernel, by decide +kernel⟩
    obtain ⟨s2, E2⟩ := enc_known 2 (⟨1, 1, 1, false, [], ⟨#[]⟩⟩ : Cm) true (by decide +kernel) hf
    obtain ⟨s1, E1⟩ := enc_known 1 (⟨1, 1, 1, false, [], ⟨#[]⟩⟩ : Cm) true (by decide +kernel) hf
    replace E2 := hide E2
    replace E1 := hide E1
    clear hf hd
    go_enter Try.func11, Try.ntmps11
    go_wp2_with (first | (go_at_call 13; refine (known7_any _).mono ?_; rintro e W1 ⟨rfl, hb1⟩) | (go_at_call_of 15 (Value.int IntKind.i64 kind); refine (unhide WK _).mono ?_; rintro e W2 ⟨rfl, hW2⟩; replace hW2 := hW2.symm; subst hW2) | (go_at_call_of 15 (Value.int IntKind.i64 which); refine (unhide WM _).mono ?_; rintro e W2 ⟨rfl, hW2⟩; replace hW2 := hW2.symm; subst hW2) | (go_at_call 16; first | (refine (unhide E2 (.agg #[.int .i64 1, .int .i64 1, .int .i64 1, .bool false, .slice none 0 0, .string ⟨#[]⟩]) (W1.alloc (.cells #[.int .i64 1, .int .i64 1, .int .i64 1, .bool false, .slice none 0 0, .string ⟨#[]⟩] 26)) ⟨none, 0, rfl, (wsv_nil _)⟩).mono ?_; rintro e W3 ⟨rfl, hb2⟩; clear E2; have hk1 := (Blk.new W1 #[.int .i64 1, .int .i64 1, .int .i64 1, .bool false, .slice none 0 0, .string ⟨#[]⟩] 26).below hb2; have q0 := hk1.cell 0; have q1 := hk1.cell 1; have q2 := hk1.cell 2; have q3 := hk1.cell 3; have q4 := hk1.cell 4; have q5 := hk1.cell 5; simp at q0 q1 q2 q3 q4 q5; replace hk1 := hide hk1) | (refine (unhide E1 (.agg #[.int .i64 1, .int .i64 1, .int .i64 1, .bool false, .slice none 0 0, .string ⟨#[]⟩]) W3 ⟨none, 0, rfl, (wsv_nil _)⟩).mono ?_; rintro e W4 ⟨rfl, hb3⟩; have p0 := ((unhide hk1).below hb3).cell 0; simp at p0; clear E1)))
    have hB := Below.onto hb1 (below_new W1 (.cells #[.int .i64 1, .int .i64 1, .int .i64 1, .bool false, .slice none 0 0, .string ⟨#[]⟩] 26))
    go_ret
    exact ⟨rfl, Below.onto (Below.onto hB hb2) hb3⟩
  rcases hd with hd | hd
  · have WK := hide (fun W => within7_is hk (by decide) hd W)
    have hf : Fine (⟨2, 1, 1, false, [], ⟨#[]⟩⟩ : Cm) := ⟨by unfold Is64; decide, by unfold Is64; decide, by unfold Is64; decide, by decide, by decide +kernel, by decide +kernel⟩
    obtain ⟨s2, E2⟩ := enc_known 2 (⟨2, 1, 1, false, [], ⟨#[]⟩⟩ : Cm) true (by decide +kernel) hf
    obtain ⟨s1, E1⟩ := enc_known 1 (⟨2, 1, 1, false, [], ⟨#[]⟩⟩ : Cm) true (by decide +kernel) hf
    replace E2 := hide E2
    replace E1 := hide E1
    clear hf hd
    go_enter Try.func11, Try.ntmps11
    go_wp2_with (first | (go_at_call 13; refine (known7_any _).mono ?_; rintro e W1 ⟨rfl, hb1⟩) | (go_at_call_of 15 (Value.int IntKind.i64 kind); refine (unhide WK _).mono ?_; rintro e W2 ⟨rfl, hW2⟩; replace hW2 := hW2.symm; subst hW2) | (go_at_call_of 15 (Value.int IntKind.i64 which); refine (unhide WM _).mono ?_; rintro e W2 ⟨rfl, hW2⟩; replace hW2 := hW2.symm; subst hW2) | (go_at_call 16; first | (refine (unhide E2 (.agg #[.int .i64 2, .int .i64 1, .int .i64 1, .bool false, .slice none 0 0, .string ⟨#[]⟩]) (W1.alloc (.cells #[.int .i64 2, .int .i64 1, .int .i64 1, .bool false, .slice none 0 0, .string ⟨#[]⟩] 26)) ⟨none, 0, rfl, (wsv_nil _)⟩).mono ?_; rintro e W3 ⟨rfl, hb2⟩; clear E2; have hk1 := (Blk.new W1 #[.int .i64 2, .int .i64 1, .int .i64 1, .bool false, .slice none 0 0, .string ⟨#[]⟩] 26).below hb2; have q0 := hk1.cell 0; have q1 := hk1.cell 1; have q2 := hk1.cell 2; have q3 := hk1.cell 3; have q4 := hk1.cell 4; have q5 := hk1.cell 5; simp at q0 q1 q2 q3 q4 q5; replace hk1 := hide hk1) | (refine (unhide E1 (.agg #[.int .i64 2, .int .i64 1, .int .i64 1, .bool false, .slice none 0 0, .string ⟨#[]⟩]) W3 ⟨none, 0, rfl, (wsv_nil _)⟩).mono ?_; rintro e W4 ⟨rfl, hb3⟩; have p0 := ((unhide hk1).below hb3).cell 0; simp at p0; clear E1)))
    have hB := Below.onto hb1 (below_new W1 (.cells #[.int .i64 2, .int .i64 1, .int .i64 1, .bool false, .slice none 0 0, .string ⟨#[]⟩] 26))
    go_ret
    exact ⟨rfl, Below.onto (Below.onto hB hb2) hb3⟩
  rcases hd with hd | hd
  · have WK := hide (fun W => within7_is hk (by decide) hd W)
    have hf : Fine (⟨3, 1, 1, false, [], ⟨#[]⟩⟩ : Cm) := ⟨by unfold Is64; decide, by unfold Is64; decide, by unfold Is64; decide, by decide, by decide +kernel, by decide +kernel⟩
    obtain ⟨s2, E2⟩ := enc_known 2 (⟨3, 1, 1, false, [], ⟨#[]⟩⟩ : Cm) true (by decide +kernel) hf
    obtain ⟨s1, E1⟩ := enc_known 1 (⟨3, 1, 1, false, [], ⟨#[]⟩⟩ : Cm) true (by decide +kernel) hf
    replace E2 := hide E2
    replace E1 := hide E1
    clear hf hd
    go_enter Try.func11, Try.ntmps11
    go_wp2_with (first | (go_at_call 13; refine (known7_any _).mono ?_; rintro e W1 ⟨rfl, hb1⟩) | (go_at_call_of 15 (Value.int IntKind.i64 kind); refine (unhide WK _).mono ?_; rintro e W2 ⟨rfl, hW2⟩; replace hW2 := hW2.symm; subst hW2) | (go_at_call_of 15 (Value.int IntKind.i64 which); refine (unhide WM _).mono ?_; rintro e W2 ⟨rfl, hW2⟩; replace hW2 := hW2.symm; subst hW2) | (go_at_call 16; first | (refine (unhide E2 (.agg #[.int .i64 3, .int .i64 1, .int .i64 1, .bool false, .slice none 0 0, .string ⟨#[]⟩]) (W1.alloc (.cells #[.int .i64 3, .int .i64 1, .int .i64 1, .bool false, .slice none 0 0, .string ⟨#[]⟩] 26)) ⟨none, 0, rfl, (wsv_nil _)⟩).mono ?_; rintro e W3 ⟨rfl, hb2⟩; clear E2; have hk1 := (Blk.new W1 #[.int .i64 3, .int .i64 1, .int .i64 1, .bool false, .slice none 0 0, .string ⟨#[]⟩] 26).below hb2; have q0 := hk1.cell 0; have q1 := hk1.cell 1; have q2 := hk1.cell 2; have q3 := hk1.cell 3; have q4 := hk1.cell 4; have q5 := hk1.cell 5; simp at q0 q1 q2 q3 q4 q5; replace hk1 := hide hk1) | (refine (unhide E1 (.agg #[.int .i64 3, .int .i64 1, .int .i64 1, .bool false, .slice none 0 0, .string ⟨#[]⟩]) W3 ⟨none, 0, rfl, (wsv_nil _)⟩).mono ?_; rintro e W4 ⟨rfl, hb3⟩; have p0 := ((unhide hk1).below hb3).cell 0; simp at p0; clear E1)))
    have hB := Below.onto hb1 (below_new W1 (.cells #[.int .i64 3, .int .i64 1, .int .i64 1, .bool false, .slice none 0 0, .string ⟨#[]⟩] 26))
    go_ret
    exact ⟨rfl, Below.onto (Below.onto hB hb2) hb3⟩
  rcases hd with hd | hd
  · have WK := hide (fun W => within7_is hk (by decide) hd W)
    have hf : Fine (⟨4, 1, 1, false, [], ⟨#[]⟩⟩ : Cm) := ⟨by unfold Is64; decide, by unfold Is64; decide, by unfold Is64; decide, by decide, by decide +kernel, by decide +kernel⟩
    obtain ⟨s2, E2⟩ := enc_known 2 (⟨4, 1, 1, false, [], ⟨#[]⟩⟩ : Cm) true (by decide +kernel) hf
    obtain ⟨s1, E1⟩ := enc_known 1 (⟨4, 1, 1, false, [], ⟨#[]⟩⟩ : Cm) true (by decide +kernel) hf
    replace E2 := hide E2
    replace E1 := hide E1
    clear hf hd
    go_enter Try.func11, Try.ntmps11
    go_wp2_with (first | (go_at_call 13; refine (known7_any _).mono ?_; rintro e W1 ⟨rfl, hb1⟩) | (go_at_call_of 15 (Value.int IntKind.i64 kind); refine (unhide WK _).mono ?_; rintro e W2 ⟨rfl, hW2⟩; replace hW2 := hW2.symm; subst hW2) | (go_at_call_of 15 (Value.int IntKind.i64 which); refine (unhide WM _).mono ?_; rintro e W2 ⟨rfl, hW2⟩; replace hW2 := hW2.symm; subst hW2) | (go_at_call 16; first | (refine (unhide E2 (.agg #[.int .i64 4, .int .i64 1, .int .i64 1, .bool false, .slice none 0 0, .string ⟨#[]⟩]) (W1.alloc (.cells #[.int .i64 4, .int .i64 1, .int .i64 1, .bool false, .slice none 0 0, .string ⟨#[]⟩] 26)) ⟨none, 0, rfl, (wsv_nil _)⟩).mono ?_; rintro e W3 ⟨rfl, hb2⟩; clear E2; have hk1 := (Blk.new W1 #[.int .i64 4, .int .i64 1, .int .i64 1, .bool false, .slice none 0 0, .string ⟨#[]⟩] 26).below hb2; have q0 := hk1.cell 0; have q1 := hk1.cell 1; have q2 := hk1.cell 2; have q3 := hk1.cell 3; have q4 := hk1.cell 4; have q5 := hk1.cell 5; simp at q0 q1 q2 q3 q4 q5; replace hk1 := hide hk1) | (refine (unhide E1 (.agg #[.int .i64 4, .int .i64 1, .int .i64 1, .bool false, .slice none 0 0, .string ⟨#[]⟩]) W3 ⟨none, 0, rfl, (wsv_nil _)⟩).mono ?_; rintro e W4 ⟨rfl, hb3⟩; have p0 := ((unhide hk1).below hb3).cell 0; simp at p0; clear E1)))
    have hB := Below.onto hb1 (below_new W1 (.cells #[.int .i64 4, .int .i64 1, .int .i64 1, .bool false, .slice none 0 0, .string ⟨#[]⟩] 26))
    go_ret
    exact ⟨rfl, Below.onto (Below.onto hB hb2) hb3⟩
  · have WK := hide (fun W => within7_is hk (by decide) hd W)
    have hf : Fine (⟨5, 1, 1, false, [], ⟨#[]⟩⟩ : Cm) := ⟨by unfold Is64; decide, by unfold Is64; decide, by unfold Is64; decide, by decide, by decide +kernel, by decide +kernel⟩
    obtain ⟨s2, E2⟩ := enc_known 2 (⟨5, 1, 1, false, [], ⟨#[]⟩⟩ : Cm) true (by decide +kernel) hf
    obtain ⟨s1, E1⟩ := enc_known 1 (⟨5, 1, 1, false, [], ⟨#[]⟩⟩ : Cm) false (by decide +kernel) hf
    replace E2 := hide E2
    replace E1 := hide E1
    clear hf hd
    go_enter Try.func11, Try.ntmps11
    go_wp2_with (first | (go_at_call 13; refine (known7_any _).mono ?_; rintro e W1 ⟨rfl, hb1⟩) | (go_at_call_of 15 (Value.int IntKind.i64 kind); refine (unhide WK _).mono ?_; rintro e W2 ⟨rfl, hW2⟩; replace hW2 := hW2.symm; subst hW2) | (go_at_call_of 15 (Value.int IntKind.i64 which); refine (unhide WM _).mono ?_; rintro e W2 ⟨rfl, hW2⟩; replace hW2 := hW2.symm; subst hW2) | (go_at_call 16; first | (refine (unhide E2 (.agg #[.int .i64 5, .int .i64 1, .int .i64 1, .bool false, .slice none 0 0, .string ⟨#[]⟩]) (W1.alloc (.cells #[.int .i64 5, .int .i64 1, .int .i64 1, .bool false, .slice none 0 0, .string ⟨#[]⟩] 26)) ⟨none, 0, rfl, (wsv_nil _)⟩).mono ?_; rintro e W3 ⟨rfl, hb2⟩; clear E2; have hk1 := (Blk.new W1 #[.int .i64 5, .int .i64 1, .int .i64 1, .bool false, .slice none 0 0, .string ⟨#[]⟩] 26).below hb2; have q0 := hk1.cell 0; have q1 := hk1.cell 1; have q2 := hk1.cell 2; have q3 := hk1.cell 3; have q4 := hk1.cell 4; have q5 := hk1.cell 5; simp at q0 q1 q2 q3 q4 q5; replace hk1 := hide hk1) | (refine (unhide E1 (.agg #[.int .i64 5, .int .i64 1, .int .i64 1, .bool false, .slice none 0 0, .string ⟨#[]⟩]) W3 ⟨none, 0, rfl, (wsv_nil _)⟩).mono ?_; rintro e W4 ⟨rfl, hb3⟩; have p0 := ((unhide hk1).below hb3).cell 0; simp at p0; clear E1)))
    have hB := Below.onto hb1 (below_new W1 (.cells #[.int .i64 5, .int .i64 1, .int .i64 1, .bool false, .slice none 0 0, .string ⟨#[]⟩] 26))
    go_ret
    exact ⟨rfl, Below.onto (Below.onto hB hb2) hb3⟩
open Go.ChangeShapes Go.WideShapes Go.ChangeAt in
theorem cmdKinds_walk (kind which : Int) (hk : (Lit.int .i64 kind).wf = true) (hh : (Lit.int .i64 which).wf = true) (w : World) :
    Calls Try.prog 11 #[.int .i64 kind, .int .i64 which] w fun e w' => e = .returned (.bool true) ∧ Below w.heap.size w w' := by
  have k1 : Is64 kind := bounds_i64 hk
  have k2 : Is64 which := bounds_i64 hh
  have h : which % 4 = 0 ∨ which % 4 = 1 ∨ which % 4 = 2 ∨ which % 4 = 3 := by omega
  rcases h with h | h | h | h
  · exact kinds0 kind which w k1 k2 h
  · exact kinds1 kind which w k1 k2 h
  · exact kinds2 kind which w k1 k2 h
  · exact kinds3 kind which w k1 k2 h
end Go.Proofs.Ytjmmfgmmmdbenaa
