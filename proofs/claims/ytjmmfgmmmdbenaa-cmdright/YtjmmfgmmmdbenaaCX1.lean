/-
  Package cmd: right.
-/
import Derived.Test.YtjmmfgmmmdbenaaCX0
namespace Go.Proofs.Ytjmmfgmmmdbenaa
open Go.RowKit
set_option linter.unusedSimpArgs false
set_option linter.unusedVariables false

set_option maxRecDepth 100000 in
set_option maxHeartbeats 4000000 in
theorem right_any (c : Cm) (v : Value) (w : World) (hv : CmV v c w) (hf : Fine c) : Calls Try.prog 24 #[v] w fun e w' => e = .returned (.bool (rightC c)) ∧ Below w.heap.size w w' := by
  obtain ⟨p, cap, rfl, hw⟩ := hv
  obtain ⟨k, i, t, m, ws, x⟩ := c
  have hfl := hf.len
  have hft := hf.text
  have hws : ∀ x ∈ ws, x.k.size ≤ 1099511627776 ∧ x.v.size ≤ 1099511627776 := fun x hx => by have := hf.ws x hx; omega
  simp only at *
  have C := hide (fun W (hW : WsV p ws W) => contains_any p ws cap W hW hfl hws)
  have D := hide (fun W => decides_any k W)
  have hn := nil_iff x
  have hb0 := below_new w (.cells #[.int .i64 k, .int .i64 i, .int .i64 t, .bool m, .slice p ws.length cap, .string x] 26)
  have HWV := hide (fun (cs : Array Value) => hw.below (below_new w (.cells cs 26)))
  have HB0 := hide (fun (cs : Array Value) => below_new w (.cells cs 26))
  obtain ⟨RC, hRC⟩ : ∃ RC, rightC ⟨k, i, t, m, ws, x⟩ = RC := ⟨_, rfl⟩
  rw [hRC]
  have HRC : Hid (RC = true ↔ ((0 ≤ k ∧ k ≤ 5 ∧ 0 ≤ i ∧ 0 ≤ t) ∧ (doesB k = false → m = false ∧ ws.length = 0) ∧ (k ≠ 5 → x.size = 0) ∧ x.size ≤ 40 ∧ ws.length ≤ 1000 ∧ decide (∀ x ∈ ws, rightW x = true) = true)) := by
    show _ ↔ _
    rw [← hRC]; simp only [rightC, decide_eq_true_eq]
  clear hf hw hws hb0 hRC
  generalize hR : (decide (∀ x ∈ ws, rightW x = true)) = R at *
  clear hR
  generalize hDD : doesB k = dd at *
  clear hDD
  have fin : ∀ b : Bool, (b = true ↔ ((0 ≤ k ∧ k ≤ 5 ∧ 0 ≤ i ∧ 0 ≤ t) ∧ (dd = false → m = false ∧ ws.length = 0) ∧ (k ≠ 5 → x.size = 0) ∧ x.size ≤ 40 ∧ ws.length ≤ 1000 ∧ R = true)) → Ending.returned (.bool b) = .returned (.bool RC) := fun b hb => retB (by rw [Bool.eq_iff_iff]; exact hb.trans (unhide HRC).symm)
  have FIN := hide fin
  clear fin
  cases m <;> cases dd <;> cases R
  all_goals
    go_enter Try.func24, Try.ntmps24
    go_wp2_with (first | (go_at_call 35; refine (unhide D _).mono ?_; rintro e W1 ⟨rfl, rfl⟩) | (go_at_call 36; refine (unhide C _ (unhide HWV _)).mono ?_; rintro e W1 ⟨rfl, hb1⟩))
    all_goals
      go_ret
      refine ⟨unhide FIN _ ?_, by first | exact unhide HB0 _ | exact Below.onto (unhide HB0 _) hb1⟩
      have hl0 : ws = [] ↔ ws.length = 0 := List.length_eq_zero_iff.symm
      try simp
      try simp only [empty_iff, hl0, bne_iff_ne, ne_eq, Bool.not_eq_true', Bool.not_eq_false', decide_eq_false_iff_not, decide_eq_true_eq, bne_eq_false_iff_eq] at *
      try omega
end Go.Proofs.Ytjmmfgmmmdbenaa
