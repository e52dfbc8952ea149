/-
  An expression at a place of a list; errors of expressions; Holds over a plain table.
-/
import Derived.Test.YtliefgkhpgigaaaEVC
namespace Go.Proofs.Ytliefgkhpgigaaa
open Go.RowKit
set_option linter.unusedSimpArgs false
set_option linter.unusedVariables false

/-- an expression that lies at a place of a list -/
def ElAt (g j : Nat) (e : Ex) (lv : Value) (W : World) : Prop := g < W.heap.size ∧ W.cell? ⟨g, j * 7, none⟩ = some (.int .i64 e.k) ∧ W.cell? ⟨g, j * 7 + 1, none⟩ = some (.string e.nm) ∧ W.cell? ⟨g, j * 7 + 2, none⟩ = some (.int .i64 e.v.1) ∧ W.cell? ⟨g, j * 7 + 3, none⟩ = some (.int .i64 e.v.2.1) ∧ W.cell? ⟨g, j * 7 + 4, none⟩ = some (.int .i64 e.v.2.2.1) ∧ W.cell? ⟨g, j * 7 + 5, none⟩ = some (.string e.v.2.2.2) ∧ W.cell? ⟨g, j * 7 + 6, none⟩ = some lv
theorem ElAt.call {g j : Nat} {e : Ex} {lv : Value} {W W' : World} (h : ElAt g j e lv W) (hb : Below W.heap.size W W') : ElAt g j e lv W' := by
  obtain ⟨h0, h1, h2, h3, h4, h5, h6, h7⟩ := h
  exact ⟨Nat.lt_of_lt_of_le h0 hb.size, (hb.cell (p := ⟨g, j * 7, none⟩) h0).trans h1, (hb.cell (p := ⟨g, j * 7 + 1, none⟩) h0).trans h2, (hb.cell (p := ⟨g, j * 7 + 2, none⟩) h0).trans h3, (hb.cell (p := ⟨g, j * 7 + 3, none⟩) h0).trans h4, (hb.cell (p := ⟨g, j * 7 + 4, none⟩) h0).trans h5, (hb.cell (p := ⟨g, j * 7 + 5, none⟩) h0).trans h6, (hb.cell (p := ⟨g, j * 7 + 6, none⟩) h0).trans h7⟩
theorem el_of {g j : Nat} {A : Array Value} {T : TypeId} {W : World} {e : Ex} {lv : Value} (h : Blk g A T W) (hA : (A.toList.drop (j * 7)).take 7 = exC e lv) : ElAt g j e lv W := by
  obtain ⟨h0, h1⟩ := cells_of (cs := exC e lv) h hA
  exact ⟨h0, h1 0 (by simp), h1 1 (by simp), h1 2 (by simp), h1 3 (by simp), h1 4 (by simp), h1 5 (by simp), h1 6 (by simp)⟩
theorem ev_err1 {cs : List C3} {vs : List V4} {a b : Ex} {z : V4} {e : Int} (k : Int) (ha : evalR cs vs a = (z, e)) (he : e ≠ 0) : evalR cs vs (twoX k a b) = (Z4, e) := by
  show (if (evalR cs vs a).2 = 0 then (if (evalR cs vs b).2 = 0 then fin Z4 (valF cs vs (twoX k a b) (evalR cs vs a).1 (evalR cs vs b).1) else (Z4, (evalR cs vs b).2)) else (Z4, (evalR cs vs a).2)) = _
  rw [ha, if_neg he]
theorem ev_err2 {cs : List C3} {vs : List V4} {a b : Ex} {x z : V4} {e : Int} (k : Int) (ha : evalR cs vs a = (x, 0)) (hb : evalR cs vs b = (z, e)) (he : e ≠ 0) : evalR cs vs (twoX k a b) = (Z4, e) := by
  show (if (evalR cs vs a).2 = 0 then (if (evalR cs vs b).2 = 0 then fin Z4 (valF cs vs (twoX k a b) (evalR cs vs a).1 (evalR cs vs b).1) else (Z4, (evalR cs vs b).2)) else (Z4, (evalR cs vs a).2)) = _
  rw [ha, hb, if_pos rfl, if_neg he]
theorem ev_err {cs : List C3} {vs : List V4} {a : Ex} {z : V4} {e : Int} (k : Int) (ha : evalR cs vs a = (z, e)) (he : e ≠ 0) : evalR cs vs (oneX k a) = (Z4, e) := by
  show (if (evalR cs vs a).2 = 0 then fin Z4 (valF cs vs (oneX k a) (evalR cs vs a).1 Z4) else (Z4, (evalR cs vs a).2)) = _
  rw [ha, if_neg he]
theorem holdsT_any (nm : ByteArray) (v : Value) (cs : List C3) (p : Option Addr) (vs : List V4) (rcap : Nat) (e0 : Ex) (lv0 : Value) (r : Bool × Bool × Int) (w : World) (hr : holdsR cs vs e0 = r) (hv : ColsOf v cs w) (hrow : RowOf p vs w) (hvs : ∀ v ∈ vs, OkV v) (hD : e0.deep ≤ 1000) (hR : Rep e0 lv0 w) (hE : ExOk e0) :
    Calls Try.prog 22 #[TabN nm v, .slice p vs.length rcap, .agg (exC e0 lv0).toArray] w (Fin3 r w) := hr ▸ holds_any _ _ _ _ _ _ _ _ _ _ _ v cs p vs rcap e0 lv0 w hv hrow hvs hD hR hE
end Go.Proofs.Ytliefgkhpgigaaa
