/-
  The reference's Encode, for texts as long as may be.
-/
import Derived.Test.YtjmmfgmmmdbenaaRF7
import Derived.Test.YtjmmfgmmmdbenaaRS7
import Derived.Test.YtjmmfgmmmdbenaaRBw
namespace Go.Proofs.Ytjmmfgmmmdbenaa
open Go.RowKit
set_option linter.unusedSimpArgs false
set_option linter.unusedVariables false

set_option maxRecDepth 100000 in
set_option maxHeartbeats 8000000 in
theorem rencodeWd_any (f : Int) (c : Cm) (v : Value) (w : World) (hv : CmV v c w) (hf : FineW c) : Calls Try.prog 17 #[v, .int .i64 f] w fun e w' => e = .returned (.tuple #[.string (encS f c), .bool (okC f c)]) ∧ Below w.heap.size w w' := by
  obtain ⟨p, cap, rfl, hw⟩ := hv
  have hb0 := below_new w (.cells #[.int .i64 c.kind, .int .i64 c.id, .int .i64 c.txn, .bool c.com, .slice p c.ws.length cap, .string c.text] 26)
  have HC := hide (Blk.new w #[.int .i64 c.kind, .int .i64 c.id, .int .i64 c.txn, .bool c.com, .slice p c.ws.length cap, .string c.text] 26)
  have HW := hide (hw.below hb0)
  have HB := hide hb0
  have R := hide (fun W (hW : WsV p c.ws W) => rrightWd_any c (.agg #[.int .i64 c.kind, .int .i64 c.id, .int .i64 c.txn, .bool c.com, .slice p c.ws.length cap, .string c.text]) W ⟨p, cap, rfl, hW⟩ hf)
  have HFI := hide hf.id
  have HFT := hide hf.txn
  clear hw hb0 hf
  obtain ⟨rc, hrc⟩ : ∃ rc, rightC c = rc := ⟨_, rfl⟩
  rw [hrc] at R
  have HRC := hide hrc
  have NO := hide (show (rc = true → ¬ (f = 2 ∨ f = 1 ∧ c.kind ≠ 5)) → encS f c = ⟨#[]⟩ ∧ okC f c = false from fun h => by
    have h2 : okC f c = false := by
      unfold okC hasB
      rw [hrc]
      cases rc
      · rfl
      · rw [Bool.true_and]; exact decide_eq_false (h rfl)
    exact ⟨encS_no h2, h2⟩)
  have YES := hide (show rc = true → (f = 2 ∨ f = 1 ∧ c.kind ≠ 5) → encS f c = ⟨(enc f c).toArray⟩ ∧ okC f c = true from fun h1 h => by
    have h2 : okC f c = true := by
      unfold okC hasB
      rw [hrc, h1, Bool.true_and]
      exact decide_eq_true h
    exact ⟨by unfold encS; rw [if_pos h2], h2⟩)
  clear hrc
  cases rc
  case false =>
    obtain ⟨n1, n2⟩ := unhide NO (fun h => absurd h (by decide))
    rw [n1, n2]
    clear n1 n2 NO YES
    go_enter Try.func17, Try.ntmps17
    go_wp2_with (go_at_call 28; refine (unhide R _ (unhide HW)).mono ?_; rintro e W1 ⟨rfl, hb1⟩; have k_ := (unhide HC).below hb1; have HC1 := hide k_; have HW1 := hide ((unhide HW).below hb1); have HB1 := hide (Below.onto (unhide HB) hb1); have x0_ := k_.cell 0; have x1_ := k_.cell 1; have x2_ := k_.cell 2; have x3_ := k_.cell 3; have x4_ := k_.cell 4; have x5_ := k_.cell 5; simp at x0_ x1_ x2_ x3_ x4_ x5_; clear k_ hb1)
    go_ret2
    exact ⟨rfl, unhide HB1⟩
  case true =>
    by_cases hA : f < 1
    · obtain ⟨n1, n2⟩ := unhide NO (fun _ h => by omega)
      rw [n1, n2]
      clear n1 n2 NO YES
      go_enter Try.func17, Try.ntmps17
      go_wp2_with (go_at_call 28; refine (unhide R _ (unhide HW)).mono ?_; rintro e W1 ⟨rfl, hb1⟩; have k_ := (unhide HC).below hb1; have HC1 := hide k_; have HW1 := hide ((unhide HW).below hb1); have HB1 := hide (Below.onto (unhide HB) hb1); have x0_ := k_.cell 0; have x1_ := k_.cell 1; have x2_ := k_.cell 2; have x3_ := k_.cell 3; have x4_ := k_.cell 4; have x5_ := k_.cell 5; simp at x0_ x1_ x2_ x3_ x4_ x5_; clear k_ hb1)
      go_ret2
      exact ⟨rfl, unhide HB1⟩
    by_cases hB : 2 < f
    · obtain ⟨n1, n2⟩ := unhide NO (fun _ h => by omega)
      rw [n1, n2]
      clear n1 n2 NO YES
      go_enter Try.func17, Try.ntmps17
      go_wp2_with (go_at_call 28; refine (unhide R _ (unhide HW)).mono ?_; rintro e W1 ⟨rfl, hb1⟩; have k_ := (unhide HC).below hb1; have HC1 := hide k_; have HW1 := hide ((unhide HW).below hb1); have HB1 := hide (Below.onto (unhide HB) hb1); have x0_ := k_.cell 0; have x1_ := k_.cell 1; have x2_ := k_.cell 2; have x3_ := k_.cell 3; have x4_ := k_.cell 4; have x5_ := k_.cell 5; simp at x0_ x1_ x2_ x3_ x4_ x5_; clear k_ hb1)
      go_ret2
      exact ⟨rfl, unhide HB1⟩
    by_cases h2 : f = 2
    · subst h2
      obtain ⟨n1, n2⟩ := unhide YES rfl (.inl rfl)
      rw [n1, n2]
      have hen : Hid (enc 2 c = enc2 c) := rfl
      rw [hen.out]
      clear n1 n2 NO YES hen
      go_enter Try.func17, Try.ntmps17
      go_wp2_with (first | (go_at_call 28; refine (unhide R _ (unhide HW)).mono ?_; rintro e W1 ⟨rfl, hb1⟩; have k_ := (unhide HC).below hb1; have HC1 := hide k_; have HW1 := hide ((unhide HW).below hb1); have HB1 := hide (Below.onto (unhide HB) hb1); have x0_ := k_.cell 0; have x1_ := k_.cell 1; have x2_ := k_.cell 2; have x3_ := k_.cell 3; have x4_ := k_.cell 4; have x5_ := k_.cell 5; simp at x0_ x1_ x2_ x3_ x4_ x5_; clear k_ hb1) | (go_at_call 30; refine (rsecond_any c (.agg #[.int .i64 c.kind, .int .i64 c.id, .int .i64 c.txn, .bool c.com, .slice p c.ws.length cap, .string c.text]) W1 ⟨p, cap, rfl, unhide HW1⟩ (unhide HRC) (unhide HFI).2 (unhide HFT).2).mono ?_; rintro e W2 ⟨v2, rfl, hown, hb2⟩; have hrun := string_of hown; clear hown))
      go_ret2
      exact ⟨rfl, Below.onto (unhide HB1) hb2⟩
    obtain rfl : f = 1 := by omega
    clear hA hB h2
    by_cases h5 : c.kind = 5
    · have hk5 : (c.kind == 5) = true := by rw [h5]; rfl
      have H5 := hide h5
      clear h5
      obtain ⟨n1, n2⟩ := unhide NO (fun _ h => by have := unhide H5; omega)
      rw [n1, n2]
      clear n1 n2 NO YES
      go_enter Try.func17, Try.ntmps17
      go_wp2_with (go_at_call 28; refine (unhide R _ (unhide HW)).mono ?_; rintro e W1 ⟨rfl, hb1⟩; have k_ := (unhide HC).below hb1; have HC1 := hide k_; have HW1 := hide ((unhide HW).below hb1); have HB1 := hide (Below.onto (unhide HB) hb1); have x0_ := k_.cell 0; have x1_ := k_.cell 1; have x2_ := k_.cell 2; have x3_ := k_.cell 3; have x4_ := k_.cell 4; have x5_ := k_.cell 5; simp at x0_ x1_ x2_ x3_ x4_ x5_; clear k_ hb1)
      go_ret2
      exact ⟨rfl, unhide HB1⟩
    · have hk5 : (c.kind == 5) = false := by rw [beq_eq_false_iff_ne]; exact h5
      have H5 := hide h5
      clear h5
      obtain ⟨n1, n2⟩ := unhide YES rfl (.inr ⟨rfl, unhide H5⟩)
      rw [n1, n2]
      have hen : Hid (enc 1 c = enc1 c) := rfl
      rw [hen.out]
      clear n1 n2 NO YES hen
      go_enter Try.func17, Try.ntmps17
      go_wp2_with (first | (go_at_call 28; refine (unhide R _ (unhide HW)).mono ?_; rintro e W1 ⟨rfl, hb1⟩; have k_ := (unhide HC).below hb1; have HC1 := hide k_; have HW1 := hide ((unhide HW).below hb1); have HB1 := hide (Below.onto (unhide HB) hb1); have x0_ := k_.cell 0; have x1_ := k_.cell 1; have x2_ := k_.cell 2; have x3_ := k_.cell 3; have x4_ := k_.cell 4; have x5_ := k_.cell 5; simp at x0_ x1_ x2_ x3_ x4_ x5_; clear k_ hb1) | (go_at_call 29; refine (rfirst_any c (.agg #[.int .i64 c.kind, .int .i64 c.id, .int .i64 c.txn, .bool c.com, .slice p c.ws.length cap, .string c.text]) W1 ⟨p, cap, rfl, unhide HW1⟩ (unhide HRC) (unhide HFI).2 (unhide HFT).2).mono ?_; rintro e W2 ⟨v2, rfl, hown, hb2⟩; have hrun := string_of hown; clear hown))
      go_ret2
      exact ⟨rfl, Below.onto (unhide HB1) hb2⟩
end Go.Proofs.Ytjmmfgmmmdbenaa
