/-
  Package cmd: codes that hold in every world that has their blocks.
-/
import Derived.Test.YtjmmfgmmmdbenaaCK
namespace Go.Proofs.Ytjmmfgmmmdbenaa
open Go.RowKit
set_option linter.unusedSimpArgs false
set_option linter.unusedVariables false

/-- from block n on W has what w has -/
def SameFrom (n : Nat) (w W : World) : Prop := w.heap.size ≤ W.heap.size ∧ ∀ k, n ≤ k → k < w.heap.size → W.heap[k]? = w.heap[k]?
theorem SameFrom.refl (n : Nat) (w : World) : SameFrom n w w := ⟨Nat.le_refl _, fun _ _ _ => rfl⟩
theorem SameFrom.trans {n : Nat} {A B C : World} (h : SameFrom n A B) (g : SameFrom n B C) : SameFrom n A C := ⟨Nat.le_trans h.1 g.1, fun k h1 h2 => (g.2 k h1 (Nat.lt_of_lt_of_le h2 h.1)).trans (h.2 k h1 h2)⟩
theorem SameFrom.of_below {n : Nat} {w W : World} (h : Below w.heap.size w W) : SameFrom n w W := ⟨h.size, fun k _ h2 => h.block k h2⟩
theorem SameFrom.set {n b o : Nat} {w : World} {v : Value} (h : b < n) : SameFrom n w (w.setCell ⟨b, o, none⟩ v) := ⟨by simp [World.setCell], fun k h1 h2 => Below.heap_setCell _ _ _ _ (by show k ≠ b; omega)⟩
theorem Blk.sf {n b : Nat} {cs : Array Value} {T : TypeId} {w W : World} (h : Blk b cs T w) (hn : n ≤ b) (hs : SameFrom n w W) : Blk b cs T W := (hs.2 b hn h.lt).trans h
theorem Blk.call {b : Nat} {cs : Array Value} {T : TypeId} {W W' : World} (h : Blk b cs T W) (hb : Below W.heap.size W W') : Blk b cs T W' := h.below hb
theorem Blk.set2 {b vb : Nat} {cs : Array Value} {T : TypeId} {W : World} {x y : Value} (h : Blk b cs T W) (hne : b ≠ vb) : Blk b cs T ((W.setCell ⟨vb, 0, none⟩ x).setCell ⟨vb, 1, none⟩ y) :=
  (Below.heap_setCell _ _ _ _ (by show b ≠ vb; exact hne)).trans ((Below.heap_setCell _ _ _ _ (by show b ≠ vb; exact hne)).trans h)
theorem Blk.two {vb : Nat} {p q x y : Value} {T : TypeId} {W : World} (h : Blk vb #[p, q] T W) : Blk vb #[x, y] T ((W.setCell ⟨vb, 0, none⟩ x).setCell ⟨vb, 1, none⟩ y) := by
  have := (h.set 0 x).set 1 y
  exact this
theorem set2_size (W : World) (vb : Nat) (x y : Value) : ((W.setCell ⟨vb, 0, none⟩ x).setCell ⟨vb, 1, none⟩ y).heap.size = W.heap.size := by simp [World.setCell]
theorem Below.set2 {n vb : Nat} {w W : World} {x y : Value} (h : Below n w W) (hv : n ≤ vb) : Below n w ((W.setCell ⟨vb, 0, none⟩ x).setCell ⟨vb, 1, none⟩ y) := (h.setCell (p := ⟨vb, 0, none⟩) hv x).setCell (p := ⟨vb, 1, none⟩) hv y
def PutsR {α : Type} (fv : Value) (n : Nat) (w : World) (L : Lay α) (D : α → Prop) (f : α → List UInt8) : Prop := ∀ W, SameFrom n w W → Puts fv W L D f
def TakesR {α : Type} (fv : Value) (n : Nat) (w : World) (L : LayT α) (P Q D : α → Prop) (f : α → List UInt8) (M M' : α → α → Prop) : Prop := ∀ W, SameFrom n w W → Takes fv W L P Q D f M M'
theorem PutsR.on {α : Type} {fv : Value} {n : Nat} {w W : World} {L : Lay α} {D : α → Prop} {f : α → List UInt8} (h : PutsR fv n w L D f) (hs : SameFrom n w W) : PutsR fv n W L D f := fun V hV => h V (hs.trans hV)
theorem TakesR.on {α : Type} {fv : Value} {n : Nat} {w W : World} {L : LayT α} {P Q D : α → Prop} {f : α → List UInt8} {M M' : α → α → Prop} (h : TakesR fv n w L P Q D f M M') (hs : SameFrom n w W) : TakesR fv n W L P Q D f M M' := fun V hV => h V (hs.trans hV)
theorem Puts.fn {α : Type} {fv : Value} {w : World} {L : Lay α} {D : α → Prop} {f : α → List UInt8} (h : Puts fv w L D f) : IsFn fv := by obtain ⟨K, caps, h, _⟩ := h; exact ⟨K, caps, h⟩
theorem Takes.fn {α : Type} {fv : Value} {w : World} {L : LayT α} {P Q D : α → Prop} {f : α → List UInt8} {M M' : α → α → Prop} (h : Takes fv w L P Q D f M M') : IsFn fv := by obtain ⟨K, caps, h, _⟩ := h; exact ⟨K, caps, h⟩
theorem Takes.imp {α : Type} {fv : Value} {w0 : World} {L : LayT α} {P Q D D' P' Q' : α → Prop} {f f' : α → List UInt8} {M M' N N' : α → α → Prop} (h : Takes fv w0 L P Q D f M M') (hD : ∀ x, D' x → D x ∧ f x = f' x) (hP : ∀ x, P' x → P x) (hQ : ∀ x, Q x → Q' x) (hM : ∀ x y, N x y → M x y) (hM' : ∀ x y, M' x y → N' x y) : Takes fv w0 L P' Q' D' f' N N' := by
  obtain ⟨K, caps, rfl, hE, hc⟩ := h
  refine ⟨K, caps, rfl, hE, fun s W b o base x q h1 h2 h3 h4 h5 h6 h7 h8 => (hc s W b o base x q h1 h2 h3 h4 h5 (hP _ h6) h7 (fun xt r hq => ?_)).mono ?_⟩
  · obtain ⟨g1, g2, g3⟩ := h8 xt r hq
    obtain ⟨g4, g5⟩ := hD _ g1
    exact ⟨g4, hM _ _ g2, by rw [g5]; exact g3⟩
  · rintro e W' ⟨ok, x', r, he, hg, h0, h1⟩
    refine ⟨ok, x', r, he, hg, h0, fun hk => ?_⟩
    obtain ⟨g1, g2, g3, g4, g5⟩ := h1 hk
    exact ⟨hQ _ g1, g2, g3, fun xt r0 hq => ⟨hM' _ _ (g4 xt r0 hq).1, (g4 xt r0 hq).2⟩, g5⟩
end Go.Proofs.Ytjmmfgmmmdbenaa
