/-
  Package cmd's Up.
-/
import Derived.Test.YtjmmfgmmmdbenaaCF
namespace Go.Proofs.Ytjmmfgmmmdbenaa
open Go.RowKit
set_option linter.unusedSimpArgs false
set_option linter.unusedVariables false

theorem okC_two {f : Int} {c : Cm} (h : okC f c = true) : okC 2 c = true := by
  unfold okC at h ⊢
  rw [Bool.and_eq_true] at h
  rw [h.1]; rfl
/-- what Up tells -/
def UpP (s : ByteArray) (q : Option (Int × Cm)) (w : World) (e : Ending) (W' : World) : Prop :=
  ∃ (c : Cm) (f : Int) (is : Bool), e = .returned (.tuple #[.string (if is then encS 2 c else ⟨#[]⟩), .bool is]) ∧ (is = true → (f = 1 ∨ f = 2) ∧ CQf f c ∧ okC f c = true ∧ by8 s = enc f c) ∧ (∀ g d, q = some (g, d) → is = true ∧ f = g ∧ c = d) ∧ Below w.heap.size w W'
set_option maxRecDepth 100000 in
set_option maxHeartbeats 4000000 in
theorem up_any (s : ByteArray) (hs : s.size ≤ 1099511627776) (w : World) (q : Option (Int × Cm)) (hq : ∀ f d, q = some (f, d) → (f = 1 ∨ f = 2) ∧ okC f d = true ∧ d.id ≤ 9223372036854775807 ∧ d.txn ≤ 9223372036854775807 ∧ by8 s = enc f d) : Calls Try.prog 21 #[.string s] w (UpP s q w) := by
  have D := hide (decode_any s hs w q hq)
  clear hq
  go_enter Try.func21, Try.ntmps21
  go_wp2_with (first | (go_at_call 18; refine (unhide D).mono ?_; rintro e W1 ⟨c, v, f, is, rfl, hrow, hno, hyes, hqd, hb1⟩; obtain ⟨pv, cv, rfl⟩ := row_slice hrow; have HQD := hide hqd; have HB1 := hide hb1; clear hqd hno; rcases is with _ | _; (clear hyes hrow); rotate_left; (have HYES := hide (hyes rfl); clear hyes; have HOK := hide (okC_two (unhide HYES).2.2.1); have HE := hide (fun W (hW : WsV pv c.ws W) => encode_any 2 c (.agg (cmA c (.slice pv c.ws.length cv))) W ⟨pv, cv, rfl, hW⟩ (cq_fine (unhide HYES).2.1)); have HWV := hide ((row_wsv hrow).below (below_new W1 (.cells (cmA c (.slice pv c.ws.length cv)) 26))); (rw [unhide HOK] at HE); clear hrow)) | (go_at_call 16; refine (unhide HE _ (unhide HWV)).mono ?_; rintro e W2 ⟨rfl, hb2⟩))
  · go_ret2
    exact ⟨c, f, true, rfl, fun _ => unhide HYES, fun g d h => ⟨rfl, (unhide HQD g d h).2⟩, Below.onto (Below.onto hb1 (below_new W1 _)) hb2⟩
  · go_ret2
    exact ⟨c, f, false, rfl, (fun h => by cases h), (fun g d h => by have := (unhide HQD g d h).1; simp at this), Below.onto hb1 (below_new W1 _)⟩
end Go.Proofs.Ytjmmfgmmmdbenaa
