/-
  Package cmd: what is right; which form has which kind.
-/
import Derived.Test.YtjmmfgmmmdbenaaCD
import Derived.Shelf.Abstract
namespace Go.Proofs.Ytjmmfgmmmdbenaa
open Go.RowKit
set_option linter.unusedSimpArgs false
set_option linter.unusedVariables false

theorem retB {a b : Bool} (h : a = b) : Ending.returned (.bool a) = .returned (.bool b) := by rw [h]
theorem s0 : (⟨#[]⟩ : ByteArray).size = 0 := rfl
theorem nil_iff (s : ByteArray) : s.toList.isEmpty = decide (s.size = 0) := by
  by_cases h : s.size = 0
  · rw [size0 h]; decide +kernel
  · rw [ba_ne s (by omega)]; simp [h]
set_option maxHeartbeats 400000 in
theorem decides_any (k : Int) (w : World) : Calls Try.prog 35 #[.int .i64 k] w fun e w' => e = .returned (.bool (doesB k)) ∧ w' = w := by
  unfold doesB
  go_enter Try.func35, Try.ntmps35
  go_wp2
  all_goals
    go_ret
    exact ⟨retB (by rw [Bool.eq_iff_iff]; simp <;> omega), rfl⟩
set_option maxHeartbeats 400000 in
theorem has_any (f k : Int) (w : World) : Calls Try.prog 25 #[.int .i64 f, .int .i64 k] w fun e w' => e = .returned (.bool (hasB f k)) ∧ w' = w := by
  unfold hasB
  go_enter Try.func25, Try.ntmps25
  go_wp2
  all_goals
    go_ret
    exact ⟨retB (by rw [Bool.eq_iff_iff]; simp <;> omega), rfl⟩
theorem empty_iff (s : ByteArray) : s = ByteArray.empty ↔ s.size = 0 := ⟨fun h => by rw [h]; rfl, size0⟩
abbrev wtV (x : Wt) : Value := .agg #[.string x.k, .string x.v, .bool x.g]
set_option maxRecDepth 100000 in
set_option maxHeartbeats 2000000 in
theorem wrong_any (x : Wt) (w : World) (hk : x.k.size ≤ 1099511627776) (hv : x.v.size ≤ 1099511627776) : Calls Try.prog 37 #[wtV x] w fun e w' => e = .returned (.bool (!rightW x)) ∧ Below w.heap.size w w' := by
  obtain ⟨k, v, g⟩ := x
  have h1 := nil_iff k
  have h2 := nil_iff v
  unfold rightW
  simp only at hk hv ⊢
  cases hg : g
  all_goals
    go_enter Try.func37, Try.ntmps37
    go_wp2
    all_goals
      go_ret
      refine ⟨retB ?_, (Below.refl _ _).alloc (Nat.le_refl _) _⟩
      clear h1 h2
      rw [Bool.eq_iff_iff]
      simp
      try simp only [empty_iff] at *
      try omega

/-- a row of writes, wherever it lies -/
def WsV (p : Option Addr) (ws : List Wt) (W : World) : Prop := ∃ g o2, (ws.length ≠ 0 → p = some ⟨g, o2, none⟩) ∧ WsAt ws g o2 W
theorem WsV.below {p : Option Addr} {ws : List Wt} {W W' : World} (h : WsV p ws W) (hb : Below W.heap.size W W') : WsV p ws W' := by
  obtain ⟨g, o2, h1, h2⟩ := h
  exact ⟨g, o2, h1, fun i hi => Lay.below (h2 i hi) hb⟩
set_option maxRecDepth 100000 in
set_option maxHeartbeats 2000000 in
theorem index_any (p : Option Addr) (ws : List Wt) (cap : Nat) (w : World) (hw : WsV p ws w) (hl : ws.length ≤ 1000000) (hs : ∀ x ∈ ws, x.k.size ≤ 1099511627776 ∧ x.v.size ≤ 1099511627776) :
    Calls Try.prog 46 #[.slice p ws.length cap, .func (.func 37) #[] #[]] w fun e w' => (∃ i : Int, e = .returned (.int .i64 i) ∧ (0 ≤ i ↔ ¬ ∀ x ∈ ws, rightW x = true)) ∧ Below w.heap.size w w' := by
  have HW := hide hw
  have HS := hide hs
  clear hw hs
  go_enter Try.func46, Try.ntmps46
  go_wp2
  go_loopw [5, 8] (fun _ i wr => ∃ k : Nat, k ≤ ws.length ∧ i = .int .i64 (k : Int) ∧ Hid (∀ j (h : j < ws.length), j < k → rightW ws[j] = true) ∧ Below w.heap.size w wr)
    (fun _ i wr => ws.length - (intOf i).toNat)
  case atStart => exact ⟨0, Nat.zero_le _, rfl, (fun j h h2 => by omega), Below.refl _ _⟩
  case round =>
    obtain ⟨k, hk, rfl, HK, hB⟩ := hrel
    by_cases hlt : k < ws.length
    · obtain ⟨g, o2, hp, hat⟩ := unhide HW
      obtain rfl := hp (by omega)
      obtain ⟨⟨c0, c1, c2⟩, _⟩ := Lay.below (hat k hlt) hB
      have hws := unhide HS ws[k] (List.getElem_mem hlt)
      have C := hide (fun W => wrong_any ws[k] W hws.1 hws.2)
      have hwk : IntKind.i64.wrap ((k : Int) * 3) = (k : Int) * 3 := IntWalk.i64_in _ (by omega)
      have HR : Hid (∀ b, b = rightW ws[k] → b = rightW ws[k]) := fun _ h => h
      clear hp hat hws
      obtain ⟨rb, hrb⟩ : ∃ rb, rightW ws[k] = rb := ⟨_, rfl⟩
      have HRB := hide hrb
      rw [hrb] at C
      clear hrb HR
      cases rb
      all_goals
        go_wp2_with (go_at_call 37; refine (unhide C _).mono ?_; rintro e W1 ⟨rfl, hb1⟩)
      · go_ret
        refine ⟨⟨_, rfl, ?_⟩, hB.trans (hb1.mono hB.size)⟩
        refine ⟨fun _ h => ?_, fun _ => by omega⟩
        have := h ws[k] (List.getElem_mem hlt)
        rw [unhide HRB] at this; cases this
      · go_roundw
        case rel => exact ⟨k + 1, by omega, by go_num, (fun j h h2 => by
          by_cases hj : j < k
          · exact unhide HK j h hj
          · obtain rfl : j = k := by omega
            exact unhide HRB), hB.trans (hb1.mono hB.size)⟩
        case measure => simp [intOf] <;> omega
    · obtain rfl : k = ws.length := by omega
      go_wp2
      go_ret
      refine ⟨⟨_, rfl, ?_⟩, hB⟩
      refine ⟨fun h => by omega, fun h => absurd (fun x hx => ?_) h⟩
      obtain ⟨j, hj, rfl⟩ := List.getElem_of_mem hx
      exact unhide HK j hj hj
set_option maxHeartbeats 400000 in
theorem contains_any (p : Option Addr) (ws : List Wt) (cap : Nat) (w : World) (hw : WsV p ws w) (hl : ws.length ≤ 1000000) (hs : ∀ x ∈ ws, x.k.size ≤ 1099511627776 ∧ x.v.size ≤ 1099511627776) :
    Calls Try.prog 36 #[.slice p ws.length cap, .func (.func 37) #[] #[]] w fun e w' => e = .returned (.bool (!decide (∀ x ∈ ws, rightW x = true))) ∧ Below w.heap.size w w' := by
  have C := hide (index_any p ws cap w hw hl hs)
  clear hw hl hs
  go_enter Try.func36, Try.ntmps36
  go_wp2_with (go_at_call 46; refine (unhide C).mono ?_; rintro e W1 ⟨⟨i, rfl, hi⟩, hb1⟩; have HI := hide hi; clear hi)
  go_ret
  refine ⟨retB ?_, hb1⟩
  have := unhide HI
  rw [Bool.eq_iff_iff]
  simp only [decide_eq_true_eq, Bool.not_eq_true', decide_eq_false_iff_not]
  exact this
/-- a command as a value -/
def CmV (v : Value) (c : Cm) (W : World) : Prop := ∃ p cap, v = .agg #[.int .i64 c.kind, .int .i64 c.id, .int .i64 c.txn, .bool c.com, .slice p c.ws.length cap, .string c.text] ∧ WsV p c.ws W
theorem CmV.below {v : Value} {c : Cm} {W W' : World} (h : CmV v c W) (hb : Below W.heap.size W W') : CmV v c W' := by
  obtain ⟨p, cap, h1, h2⟩ := h
  exact ⟨p, cap, h1, h2.below hb⟩
/-- a command whose sizes are an int's -/
structure Fine (c : Cm) : Prop where
  kind : Is64 c.kind
  id : Is64 c.id
  txn : Is64 c.txn
  len : c.ws.length ≤ 1000000
  ws : ∀ x ∈ c.ws, x.k.size ≤ 1073741824 ∧ x.v.size ≤ 1073741824
  text : c.text.size ≤ 1073741824
end Go.Proofs.Ytjmmfgmmmdbenaa
