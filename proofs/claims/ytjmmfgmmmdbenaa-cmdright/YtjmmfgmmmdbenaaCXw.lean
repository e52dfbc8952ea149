/-
  Package cmd's right, for texts as long as may be.
-/
import Derived.Test.YtjmmfgmmmdbenaaCX1
namespace Go.Proofs.Ytjmmfgmmmdbenaa
open Go.RowKit
set_option linter.unusedSimpArgs false
set_option linter.unusedVariables false

set_option maxRecDepth 100000 in
set_option maxHeartbeats 2000000 in
theorem wrongWd_any (x : Wt) (w : World) (hk : x.k.size ≤ 9223372036854775807) (hv : x.v.size ≤ 9223372036854775807) : Calls Try.prog 37 #[wtV x] w fun e w' => e = .returned (.bool (!rightW x)) ∧ Below w.heap.size w w' := by
  obtain ⟨k, v, g⟩ := x
  have h1 := nil_iff k
  have h2 := nil_iff v
  unfold rightW
  simp only at hk hv ⊢
  cases hg : g
  all_goals
    go_enter Try.func37, Try.ntmps37
    go_wp2
    all_goals
      go_ret
      refine ⟨retB ?_, (Below.refl _ _).alloc (Nat.le_refl _) _⟩
      clear h1 h2
      rw [Bool.eq_iff_iff]
      simp
      try simp only [empty_iff] at *
      try omega

set_option maxRecDepth 100000 in
set_option maxHeartbeats 2000000 in
theorem indexWd_any (p : Option Addr) (ws : List Wt) (cap : Nat) (w : World) (hw : WsV p ws w) (hl : ws.length ≤ 1000000) (hs : ∀ x ∈ ws, x.k.size ≤ 9223372036854775807 ∧ x.v.size ≤ 9223372036854775807) :
    Calls Try.prog 46 #[.slice p ws.length cap, .func (.func 37) #[] #[]] w fun e w' => (∃ i : Int, e = .returned (.int .i64 i) ∧ (0 ≤ i ↔ ¬ ∀ x ∈ ws, rightW x = true)) ∧ Below w.heap.size w w' := by
  have HW := hide hw
  have HS := hide hs
  clear hw hs
  go_enter Try.func46, Try.ntmps46
  go_wp2
  go_loopw [5, 8] (fun _ i wr => ∃ k : Nat, k ≤ ws.length ∧ i = .int .i64 (k : Int) ∧ Hid (∀ j (h : j < ws.length), j < k → rightW ws[j] = true) ∧ Below w.heap.size w wr)
    (fun _ i wr => ws.length - (intOf i).toNat)
  case atStart => exact ⟨0, Nat.zero_le _, rfl, (fun j h h2 => by omega), Below.refl _ _⟩
  case round =>
    obtain ⟨k, hk, rfl, HK, hB⟩ := hrel
    by_cases hlt : k < ws.length
    · obtain ⟨g, o2, hp, hat⟩ := unhide HW
      obtain rfl := hp (by omega)
      obtain ⟨⟨c0, c1, c2⟩, _⟩ := Lay.below (hat k hlt) hB
      have hws := unhide HS ws[k] (List.getElem_mem hlt)
      have C := hide (fun W => wrongWd_any ws[k] W hws.1 hws.2)
      have hwk : IntKind.i64.wrap ((k : Int) * 3) = (k : Int) * 3 := IntWalk.i64_in _ (by omega)
      have HR : Hid (∀ b, b = rightW ws[k] → b = rightW ws[k]) := fun _ h => h
      clear hp hat hws
      obtain ⟨rb, hrb⟩ : ∃ rb, rightW ws[k] = rb := ⟨_, rfl⟩
      have HRB := hide hrb
      rw [hrb] at C
      clear hrb HR
      cases rb
      all_goals
        go_wp2_with (go_at_call 37; refine (unhide C _).mono ?_; rintro e W1 ⟨rfl, hb1⟩)
      · go_ret
        refine ⟨⟨_, rfl, ?_⟩, hB.trans (hb1.mono hB.size)⟩
        refine ⟨fun _ h => ?_, fun _ => by omega⟩
        have := h ws[k] (List.getElem_mem hlt)
        rw [unhide HRB] at this; cases this
      · go_roundw
        case rel => exact ⟨k + 1, by omega, by go_num, (fun j h h2 => by
          by_cases hj : j < k
          · exact unhide HK j h hj
          · obtain rfl : j = k := by omega
            exact unhide HRB), hB.trans (hb1.mono hB.size)⟩
        case measure => simp [intOf] <;> omega
    · obtain rfl : k = ws.length := by omega
      go_wp2
      go_ret
      refine ⟨⟨_, rfl, ?_⟩, hB⟩
      refine ⟨fun h => by omega, fun h => absurd (fun x hx => ?_) h⟩
      obtain ⟨j, hj, rfl⟩ := List.getElem_of_mem hx
      exact unhide HK j hj hj
set_option maxHeartbeats 400000 in
theorem containsWd_any (p : Option Addr) (ws : List Wt) (cap : Nat) (w : World) (hw : WsV p ws w) (hl : ws.length ≤ 1000000) (hs : ∀ x ∈ ws, x.k.size ≤ 9223372036854775807 ∧ x.v.size ≤ 9223372036854775807) :
    Calls Try.prog 36 #[.slice p ws.length cap, .func (.func 37) #[] #[]] w fun e w' => e = .returned (.bool (!decide (∀ x ∈ ws, rightW x = true))) ∧ Below w.heap.size w w' := by
  have C := hide (indexWd_any p ws cap w hw hl hs)
  clear hw hl hs
  go_enter Try.func36, Try.ntmps36
  go_wp2_with (go_at_call 46; refine (unhide C).mono ?_; rintro e W1 ⟨⟨i, rfl, hi⟩, hb1⟩; have HI := hide hi; clear hi)
  go_ret
  refine ⟨retB ?_, hb1⟩
  have := unhide HI
  rw [Bool.eq_iff_iff]
  simp only [decide_eq_true_eq, Bool.not_eq_true', decide_eq_false_iff_not]
  exact this
/-- a command whose sizes are an int's -/
structure FineW (c : Cm) : Prop where
  kind : Is64 c.kind
  id : Is64 c.id
  txn : Is64 c.txn
  len : c.ws.length ≤ 1000000
  ws : ∀ x ∈ c.ws, x.k.size ≤ 9223372036854775807 ∧ x.v.size ≤ 9223372036854775807
  text : c.text.size ≤ 9223372036854775807
set_option maxRecDepth 100000 in
set_option maxHeartbeats 4000000 in
theorem rightWd_any (c : Cm) (v : Value) (w : World) (hv : CmV v c w) (hf : FineW c) : Calls Try.prog 24 #[v] w fun e w' => e = .returned (.bool (rightC c)) ∧ Below w.heap.size w w' := by
  obtain ⟨p, cap, rfl, hw⟩ := hv
  obtain ⟨k, i, t, m, ws, x⟩ := c
  have hfl := hf.len
  have hft := hf.text
  have hws : ∀ x ∈ ws, x.k.size ≤ 9223372036854775807 ∧ x.v.size ≤ 9223372036854775807 := fun x hx => by have := hf.ws x hx; omega
  simp only at *
  have C := hide (fun W (hW : WsV p ws W) => containsWd_any p ws cap W hW hfl hws)
  have D := hide (fun W => decides_any k W)
  have hn := nil_iff x
  have hb0 := below_new w (.cells #[.int .i64 k, .int .i64 i, .int .i64 t, .bool m, .slice p ws.length cap, .string x] 26)
  have HWV := hide (fun (cs : Array Value) => hw.below (below_new w (.cells cs 26)))
  have HB0 := hide (fun (cs : Array Value) => below_new w (.cells cs 26))
  obtain ⟨RC, hRC⟩ : ∃ RC, rightC ⟨k, i, t, m, ws, x⟩ = RC := ⟨_, rfl⟩
  rw [hRC]
  have HRC : Hid (RC = true ↔ ((0 ≤ k ∧ k ≤ 5 ∧ 0 ≤ i ∧ 0 ≤ t) ∧ (doesB k = false → m = false ∧ ws.length = 0) ∧ (k ≠ 5 → x.size = 0) ∧ x.size ≤ 40 ∧ ws.length ≤ 1000 ∧ decide (∀ x ∈ ws, rightW x = true) = true)) := by
    show _ ↔ _
    rw [← hRC]; simp only [rightC, decide_eq_true_eq]
  clear hf hw hws hb0 hRC
  generalize hR : (decide (∀ x ∈ ws, rightW x = true)) = R at *
  clear hR
  generalize hDD : doesB k = dd at *
  clear hDD
  have fin : ∀ b : Bool, (b = true ↔ ((0 ≤ k ∧ k ≤ 5 ∧ 0 ≤ i ∧ 0 ≤ t) ∧ (dd = false → m = false ∧ ws.length = 0) ∧ (k ≠ 5 → x.size = 0) ∧ x.size ≤ 40 ∧ ws.length ≤ 1000 ∧ R = true)) → Ending.returned (.bool b) = .returned (.bool RC) := fun b hb => retB (by rw [Bool.eq_iff_iff]; exact hb.trans (unhide HRC).symm)
  have FIN := hide fin
  clear fin
  cases m <;> cases dd <;> cases R
  all_goals
    go_enter Try.func24, Try.ntmps24
    go_wp2_with (first | (go_at_call 35; refine (unhide D _).mono ?_; rintro e W1 ⟨rfl, rfl⟩) | (go_at_call 36; refine (unhide C _ (unhide HWV _)).mono ?_; rintro e W1 ⟨rfl, hb1⟩))
    all_goals
      go_ret
      refine ⟨unhide FIN _ ?_, by first | exact unhide HB0 _ | exact Below.onto (unhide HB0 _) hb1⟩
      have hl0 : ws = [] ↔ ws.length = 0 := List.length_eq_zero_iff.symm
      try simp
      try simp only [empty_iff, hl0, bne_iff_ne, ne_eq, Bool.not_eq_true', Bool.not_eq_false', decide_eq_false_iff_not, decide_eq_true_eq, bne_eq_false_iff_eq] at *
      try omega
end Go.Proofs.Ytjmmfgmmmdbenaa
