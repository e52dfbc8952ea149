/-
  What the laws of commands want: a command that may be, written, read, raised.
-/
import Derived.Test.YtjmmfgmmmdbenaaCN1
import Derived.Test.YtjmmfgmmmdbenaaCJ
namespace Go.Proofs.Ytjmmfgmmmdbenaa
open Go.RowKit
set_option linter.unusedSimpArgs false
set_option linter.unusedVariables false

/-- what Make returns, and leaves -/
def Made7 (c : Cm) (w : World) (e : Ending) (W : World) : Prop := ∃ q cap, e = .returned (.agg #[.int .i64 c.kind, .int .i64 c.id, .int .i64 c.txn, .bool c.com, .slice q c.ws.length cap, .string c.text]) ∧ WsV q c.ws W ∧ Below w.heap.size w W
/-- Make makes c, whatever was added to w -/
def Mk7 (a0 a1 a2 : Int) (v : Value) (s : ByteArray) (w : World) (c : Cm) : Prop := ∀ W, Below w.heap.size w W → Calls Try.prog 14 #[.int .i64 a0, .int .i64 a1, .int .i64 a2, v, .string s] W (Made7 c W)
def GoodC (c : Cm) : Prop := okC 2 c = true ∧ c.id ≤ 9223372036854775807 ∧ c.txn ≤ 9223372036854775807
theorem GoodC.right {c : Cm} (h : GoodC c) : rightC c = true := by
  have := h.1
  unfold okC at this
  rw [Bool.and_eq_true] at this
  exact this.1
theorem GoodC.fine {c : Cm} (h : GoodC c) : Fine c := by
  obtain ⟨⟨a1, a2, a3, a4⟩, a5, a6, a7, a8, a9⟩ := rightC_of h.right
  obtain ⟨_, h2, h3⟩ := h
  exact ⟨by unfold Is64; omega, by unfold Is64; omega, by unfold Is64; omega, by omega, fun x hx => by have := rightW_of (a9 x hx); omega, by omega⟩
theorem GoodC.len {c : Cm} (h : GoodC c) (f : Int) : (enc f c).length ≤ 1099511627776 := (right_fine h.right h.fine.id h.fine.txn f).2
theorem GoodC.size {c : Cm} (h : GoodC c) (f : Int) : (encS f c).size ≤ 1099511627776 := by
  unfold encS
  split
  · have := h.len f
    rw [← by8_len]; simpa [by8] using this
  · exact Nat.zero_le _
theorem GoodC.ok {c : Cm} (h : GoodC c) {f : Int} (hf : f = 2 ∨ f = 1 ∧ c.kind ≠ 5) : okC f c = true := by
  unfold okC hasB
  rw [h.right, Bool.true_and]
  exact decide_eq_true hf
theorem GoodC.no {c : Cm} (h : GoodC c) (h5 : c.kind = 5) : okC 1 c = false := by
  unfold okC hasB
  rw [h.right, Bool.true_and]
  exact decide_eq_false (by omega)
theorem encG {c : Cm} (g : GoodC c) {f : Int} (hf : f = 2 ∨ f = 1 ∧ c.kind ≠ 5) (v : Value) (W : World) (hv : CmV v c W) : Calls Try.prog 16 #[v, .int .i64 f] W fun e w' => e = .returned (.tuple #[.string (encS f c), .bool true]) ∧ Below W.heap.size W w' := by
  have h := encode_any f c v W hv g.fine
  rw [g.ok hf] at h; exact h
theorem encN {c : Cm} (g : GoodC c) (h5 : c.kind = 5) (v : Value) (W : World) (hv : CmV v c W) : Calls Try.prog 16 #[v, .int .i64 1] W fun e w' => e = .returned (.tuple #[.string ⟨#[]⟩, .bool false]) ∧ Below W.heap.size W w' := by
  have h := encode_any 1 c v W hv g.fine
  rw [g.no h5, encS_no (g.no h5)] at h; exact h
theorem f12 {c : Cm} {f : Int} (hf : f = 2 ∨ f = 1 ∧ c.kind ≠ 5) : f = 1 ∨ f = 2 := by omega
theorem decG {c : Cm} (g : GoodC c) {f : Int} (hf : f = 2 ∨ f = 1 ∧ c.kind ≠ 5) (W : World) : Calls Try.prog 18 #[.string (encS f c)] W fun e w' => ∃ p cap, e = .returned (.tuple #[.agg #[.int .i64 c.kind, .int .i64 c.id, .int .i64 c.txn, .bool c.com, .slice p c.ws.length cap, .string c.text], .int .i64 f, .bool true]) ∧ w'.ownsRow W.heap.size 40 3 (.slice p c.ws.length cap) c.ws.length (wcells c.ws) ∧ Below W.heap.size W w' :=
  decode_of (encS f c) (g.size f) W f c (f12 hf) (g.ok hf) g.2.1 g.2.2 (encS_by8 (g.ok hf))
theorem upG {c : Cm} (g : GoodC c) {f : Int} (hf : f = 2 ∨ f = 1 ∧ c.kind ≠ 5) (W : World) : Calls Try.prog 21 #[.string (encS f c)] W fun e w' => e = .returned (.tuple #[.string (encS 2 c), .bool true]) ∧ Below W.heap.size W w' :=
  up_of (encS f c) (g.size f) W f c (f12 hf) (g.ok hf) g.2.1 g.2.2 (encS_by8 (g.ok hf))
/-- bytes that no command has -/
def NoneB (s : ByteArray) : Prop := ∀ f c, (f = 1 ∨ f = 2) → okC f c = true → CQf f c → by8 s = enc f c → False
theorem none_nil : NoneB ⟨#[]⟩ := by
  intro f c _ _ _ h
  obtain ⟨a, l, h2⟩ := enc_cons f c
  rw [h2] at h
  cases h
theorem upN (s : ByteArray) (hs : s.size ≤ 1099511627776) (h : NoneB s) (W : World) : Calls Try.prog 21 #[.string s] W fun e w' => e = .returned (.tuple #[.string ⟨#[]⟩, .bool false]) ∧ Below W.heap.size W w' := by
  refine (up_any s hs W none (fun f d h => by cases h)).mono ?_
  rintro e W' ⟨c, f, is, rfl, hyes, _, hb⟩
  cases is
  · exact ⟨rfl, hb⟩
  · obtain ⟨a1, a2, a3, a4⟩ := hyes rfl
    exact (h f c a1 a3 a2 a4).elim
theorem decN (s : ByteArray) (hs : s.size ≤ 1099511627776) (h : NoneB s) (W : World) : Calls Try.prog 18 #[.string s] W fun e w' => e = .returned (.tuple #[.agg #[.int .i64 0, .int .i64 0, .int .i64 0, .bool false, .slice none 0 0, .string ⟨#[]⟩], .int .i64 0, .bool false]) ∧ Below W.heap.size W w' := decode_none s hs W h
theorem sameG {c d : Cm} (gc : c.ws.length ≤ 1000000) (gd : d.ws.length ≤ 1000000) (b : Bool) (hb : b = true ↔ c = d) (v u : Value) (W : World) (hv : CmV v c W) (hu : CmV u d W) : Calls Try.prog 19 #[v, u] W fun e w' => e = .returned (.bool b) ∧ Below W.heap.size W w' := by
  refine (same7_any c d v u W hv hu gc gd).mono ?_
  rintro e W' ⟨⟨b', rfl, h⟩, hbw⟩
  refine ⟨retB ?_, hbw⟩
  rw [Bool.eq_iff_iff]
  exact h.trans hb.symm
abbrev agC (c : Cm) (q : Option Addr) (cap : Nat) : Value := .agg #[.int .i64 c.kind, .int .i64 c.id, .int .i64 c.txn, .bool c.com, .slice q c.ws.length cap, .string c.text]
theorem cmv {c : Cm} {q : Option Addr} {cap : Nat} {W : World} (h : WsV q c.ws W) : CmV (.agg #[.int .i64 c.kind, .int .i64 c.id, .int .i64 c.txn, .bool c.com, .slice q c.ws.length cap, .string c.text]) c W := ⟨q, cap, rfl, h⟩
end Go.Proofs.Ytjmmfgmmmdbenaa
