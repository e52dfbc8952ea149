/-
  A region of open order, its state under a name; what truths of truths are.
-/
import Derived.Test.YtliefgkhpgigaaaEVA
namespace Go.Proofs.Ytliefgkhpgigaaa
open Go.RowKit
set_option linter.unusedSimpArgs false
set_option linter.unusedVariables false

theorem anyH_name {P : Program} {md : Region.Mode} {ops : Array Oper} {Q : Exit → Act → World → Prop} {S : World → Prop} {fuel : Nat} {listed : Array Bool} {a : Act} {w : World}
    (h : ∀ G : Nat → Array Bool → Act → World → Prop, (∀ f l a w, wpAnyH P md ops Q S f l a w → G f l a w) → (∀ f l a w, G f l a w → wpAnyH P md ops Q S f l a w) → G fuel listed a w) : wpAnyH P md ops Q S fuel listed a w :=
  h _ (fun _ _ _ _ x => x) (fun _ _ _ _ x => x)
theorem Blk.set {b c : Nat} {cs : Array Value} {T : TypeId} {W : World} (h : Blk c cs T W) (hne : c ≠ b) (j : Nat) (y : Value) : Blk c cs T (W.setCell ⟨b, j, none⟩ y) := (Below.heap_setCell _ _ _ _ (by simp; omega)).trans h
/-- a block's number that is not below another; whatever the world -/
def GeB (n b : Nat) (_ : World) : Prop := n ≤ b
theorem GeB.call {n b : Nat} {W W' : World} (h : GeB n b W) (_ : Below W.heap.size W W') : GeB n b W' := h
theorem evalT_any (nm : ByteArray) (v : Value) (cs : List C3) (p : Option Addr) (vs : List V4) (rcap : Nat) (e0 : Ex) (lv0 : Value) (r : V4 × Int) (w : World) (hr : evalR cs vs e0 = r) (hv : ColsOf v cs w) (hrow : RowOf p vs w) (hvs : ∀ v ∈ vs, OkV v) (hD : e0.deep ≤ 1000) (hR : Rep e0 lv0 w) (hE : ExOk e0) :
    Calls Try.prog 19 #[TabN nm v, .slice p vs.length rcap, .agg (exC e0 lv0).toArray] w (FinV r w) := hr ▸ eval_any _ _ _ _ _ _ _ _ _ _ _ v cs p vs rcap e0 lv0 w hv hrow hvs hD hR hE
theorem okInt (n : Int) (h : Is64 n) : OkV (2, n, 0, S0) := ⟨h, (by omega : (0 : Int) ≤ 0 ∧ (0 : Int) ≤ 6), fun _ => rfl, (by decide : S0.size ≤ 281474976710656)⟩
theorem s0_nil : S0.toList = [] := by decide +kernel
theorem nm_a (x y p q : V4) : valR ⟨#[97]⟩ cols4 [x, y, p, q] = (x, 0) := by
  have h1 : ((⟨#[97]⟩ : ByteArray).toList == (⟨#[97]⟩ : ByteArray).toList) = true := by decide +kernel
  simp only [valR, valFrom, h1, if_true]
theorem nm_b (x y p q : V4) : valR ⟨#[98]⟩ cols4 [x, y, p, q] = (y, 0) := by
  have h1 : ((⟨#[97]⟩ : ByteArray).toList == (⟨#[98]⟩ : ByteArray).toList) = false := by decide +kernel
  have h2 : ((⟨#[98]⟩ : ByteArray).toList == (⟨#[98]⟩ : ByteArray).toList) = true := by decide +kernel
  simp only [valR, valFrom, h1, h2, if_true, Bool.false_eq_true, if_false]
theorem nm_c (x y p q : V4) : valR ⟨#[99]⟩ cols4 [x, y, p, q] = (p, 0) := by
  have h1 : ((⟨#[97]⟩ : ByteArray).toList == (⟨#[99]⟩ : ByteArray).toList) = false := by decide +kernel
  have h2 : ((⟨#[98]⟩ : ByteArray).toList == (⟨#[99]⟩ : ByteArray).toList) = false := by decide +kernel
  have h3 : ((⟨#[99]⟩ : ByteArray).toList == (⟨#[99]⟩ : ByteArray).toList) = true := by decide +kernel
  simp only [valR, valFrom, h1, h2, h3, if_true, Bool.false_eq_true, if_false]
theorem nm_d (x y p q : V4) : valR ⟨#[100]⟩ cols4 [x, y, p, q] = (q, 0) := by
  have h1 : ((⟨#[97]⟩ : ByteArray).toList == (⟨#[100]⟩ : ByteArray).toList) = false := by decide +kernel
  have h2 : ((⟨#[98]⟩ : ByteArray).toList == (⟨#[100]⟩ : ByteArray).toList) = false := by decide +kernel
  have h3 : ((⟨#[99]⟩ : ByteArray).toList == (⟨#[100]⟩ : ByteArray).toList) = false := by decide +kernel
  have h4 : ((⟨#[100]⟩ : ByteArray).toList == (⟨#[100]⟩ : ByteArray).toList) = true := by decide +kernel
  simp only [valR, valFrom, h1, h2, h3, h4, if_true, Bool.false_eq_true, if_false]
theorem ev_col {cs : List C3} {vs : List V4} {s : ByteArray} {x : V4} (h : valR s cs vs = (x, 0)) : evalR cs vs (colX s) = (x, 0) := by
  show fin Z4 (valR s cs vs) = _
  rw [h]; rfl
theorem ev_two {cs : List C3} {vs : List V4} {a b : Ex} {x y : V4} (k : Int) (ha : evalR cs vs a = (x, 0)) (hb : evalR cs vs b = (y, 0)) : evalR cs vs (twoX k a b) = fin Z4 (valF cs vs (twoX k a b) x y) := by
  show (if (evalR cs vs a).2 = 0 then (if (evalR cs vs b).2 = 0 then fin Z4 (valF cs vs (twoX k a b) (evalR cs vs a).1 (evalR cs vs b).1) else (Z4, (evalR cs vs b).2)) else (Z4, (evalR cs vs a).2)) = _
  rw [ha, hb]; rfl
theorem ev_one {cs : List C3} {vs : List V4} {a : Ex} {x : V4} (k : Int) (ha : evalR cs vs a = (x, 0)) : evalR cs vs (oneX k a) = fin Z4 (valF cs vs (oneX k a) x Z4) := by
  show (if (evalR cs vs a).2 = 0 then fin Z4 (valF cs vs (oneX k a) (evalR cs vs a).1 Z4) else (Z4, (evalR cs vs a).2)) = _
  rw [ha]; rfl
theorem ok_row4 {x y p q : V4} (hx : OkV x) (hy : OkV y) (hp : OkV p) (hq : OkV q) : ∀ v ∈ [x, y, p, q], OkV v := by
  intro v hv
  simp only [List.mem_cons, List.not_mem_nil, or_false] at hv
  rcases hv with rfl | rfl | rfl | rfl
  · exact hx
  · exact hy
  · exact hp
  · exact hq
def nT (v : V4) : V4 := valT (-truV v)
def aT (v u : V4) : V4 := valT (min (truV v) (truV u))
def oT (v u : V4) : V4 := valT (max (truV v) (truV u))
theorem ev_not {cs : List C3} {vs : List V4} {a : Ex} {x : V4} (ha : evalR cs vs a = (x, 0)) : evalR cs vs (oneX 3 a) = (nT x, 0) := by
  rw [ev_one 3 ha]; rfl
theorem ev_and {cs : List C3} {vs : List V4} {a b : Ex} {x y : V4} (ha : evalR cs vs a = (x, 0)) (hb : evalR cs vs b = (y, 0)) : evalR cs vs (twoX 13 a b) = (aT x y, 0) := by
  rw [ev_two 13 ha hb]; rfl
theorem ev_or {cs : List C3} {vs : List V4} {a b : Ex} {x y : V4} (ha : evalR cs vs a = (x, 0)) (hb : evalR cs vs b = (y, 0)) : evalR cs vs (twoX 14 a b) = (oT x y, 0) := by
  rw [ev_two 14 ha hb]; rfl
theorem ok_one {k : Int} {a : Ex} (h : ExOk a) : ExOk (oneX k a) := ⟨okZ, h⟩
theorem ok_two {k : Int} {a b : Ex} (h : ExOk a) (h' : ExOk b) : ExOk (twoX k a b) := ⟨okZ, h, h'⟩
theorem ok_col (s : ByteArray) : ExOk (colX s) := okZ
end Go.Proofs.Ytliefgkhpgigaaa
