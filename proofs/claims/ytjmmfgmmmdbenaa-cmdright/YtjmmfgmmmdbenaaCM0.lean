/-
  The statements' Make: which command it makes.
-/
import Derived.Test.YtjmmfgmmmdbenaaCI0
import Derived.Test.YtjmmfgmmmdbenaaCN0
import Derived.Test.YtjmmfgmmmdbenaaCZ
namespace Go.Proofs.Ytjmmfgmmmdbenaa
open Go.RowKit
set_option linter.unusedSimpArgs false
set_option linter.unusedVariables false

theorem within7_at {x n j : Int} (hx : Is64 x) (hn : 0 < n ∧ n ≤ 9223372036854775807) (hj : x % n = j) (w : World) :
    Calls Try.prog 15 #[.int .i64 x, .int .i64 n] w fun e w' => e = .returned (.int .i64 j) ∧ w' = w := hj ▸ within7_any x n w hx hn
/-- what holds of a stronger condition on worlds holds of a weaker one -/
theorem wpAnyH_weaken {P : Program} {md : Region.Mode} {ops : Array Oper} {Q : Exit → Act → World → Prop} {S T : World → Prop} (hST : ∀ w, S w → T w) :
    ∀ (fuel : Nat) (listed : Array Bool) (a : Act) (w : World), wpAnyH P md ops Q S fuel listed a w → wpAnyH P md ops Q T fuel listed a w
  | 0, _, _, _, h => h
  | fuel + 1, _, _, _, h => ⟨h.1, fun i hi => wpOp_mono (fun a' w' h' => ⟨hST _ h'.1, wpAnyH_weaken hST fuel _ a' w' h'.2⟩) (h.2 i hi)⟩
/-- a list of numbers that came in -/
def IntsP (p : Option Addr) (zs : List Int) (W : World) : Prop := zs.length ≤ maxLen ∧ ∀ i (h : i < zs.length), ∃ a, p = some a ∧ W.cell? (a.add i) = some (.int .i64 zs[i]) ∧ (a.add i).block < W.heap.size ∧ Is64 zs[i]
/-- likewise, as a value -/
def Ints (v : Value) (zs : List Int) (W : World) : Prop := (v = .slice none 0 0 ∧ zs = []) ∨
  ∃ a cap, v = .slice (some a) zs.length cap ∧ zs.length ≤ maxLen ∧ (∀ i (h : i < zs.length), W.cell? (a.add i) = some (.int .i64 zs[i]) ∧ (a.add i).block < W.heap.size ∧ Is64 zs[i])
theorem Ints.parts {v : Value} {zs : List Int} {W : World} (h : Ints v zs W) : ∃ p cap, v = .slice p zs.length cap ∧ IntsP p zs W := by
  rcases h with ⟨rfl, rfl⟩ | ⟨a, cap, rfl, h1, h2⟩
  · exact ⟨none, 0, rfl, by simp, fun i hi => absurd hi (by simp)⟩
  · exact ⟨some a, cap, rfl, h1, fun i hi => ⟨a, rfl, h2 i hi⟩⟩
theorem IntsP.call {p : Option Addr} {zs : List Int} {W W' : World} (h : IntsP p zs W) (hb : Below W.heap.size W W') : IntsP p zs W' := by
  refine ⟨h.1, fun i hi => ?_⟩
  obtain ⟨a, h1, h2, h3, h4⟩ := h.2 i hi
  exact ⟨a, h1, (hb.cell h3).trans h2, Nat.lt_of_lt_of_le h3 hb.size, h4⟩
theorem Blk.far6 {g b : Nat} {cs : Array Value} {x0 x1 x2 x3 x4 x5 : Value} {T : TypeId} {W : World} (h : Blk g cs T W) (hne : g ≠ b) : Blk g cs T ((((((W.setCell ⟨b, 0, none⟩ x0).setCell ⟨b, 1, none⟩ x1).setCell ⟨b, 2, none⟩ x2).setCell ⟨b, 3, none⟩ x3).setCell ⟨b, 4, none⟩ x4).setCell ⟨b, 5, none⟩ x5) := by
  have f : ∀ {W : World} (j : Nat) (y : Value), Blk g cs T W → Blk g cs T (W.setCell ⟨b, j, none⟩ y) := fun j y h => (Below.heap_setCell _ _ _ _ (by show g ≠ b; exact hne)).trans h
  exact f _ _ (f _ _ (f _ _ (f _ _ (f _ _ (f _ _ h)))))
theorem blk_ne {b b' : Nat} {cs cs' : Array Value} {T T' : TypeId} {W : World} (h : Blk b cs T W) (h' : Blk b' cs' T' W) (hne : cs ≠ cs') : b ≠ b' := by
  rintro rfl
  apply hne
  have e := h.symm.trans h'
  injection e with e
  injection e with e1 e2 e3
/-- what Make returns -/
def MadeP (k x t d2 : Int) (s : ByteArray) (zs : List Int) (w : World) (e : Ending) (W' : World) : Prop :=
  ∃ q cap, e = .returned (.agg #[.int .i64 k, .int .i64 x, .int .i64 t, .bool (doesB k && decide (d2 = 0)), .slice q (if doesB k then mkWs s zs else []).length cap, .string (if k = 5 then s.extract 0 (min s.size 40) else ⟨#[]⟩)]) ∧
    W'.ownsRow (w.heap.size + 1) 40 3 (.slice q (if doesB k then mkWs s zs else []).length cap) (if doesB k then mkWs s zs else []).length (wcells (if doesB k then mkWs s zs else [])) ∧ Below w.heap.size w W'
theorem cells3_new (W : World) (x y z : Value) (T : TypeId) (m : Nat) (hm : m = W.heap.size) : ∀ j v, [x, y, z][j]? = some v → (W.alloc (.cells #[x, y, z] T)).cell? (Addr.add ⟨m, 0, none⟩ j) = some v := by
  subst hm
  intro j v h
  have hc := cell_of_row _ W.heap.size j _ _ _ (heap_alloc_new W (.cells #[x, y, z] T))
  match j, h with
  | 0, h => exact hc.trans h
  | 1, h => exact hc.trans h
  | 2, h => exact hc.trans h
theorem below_app {B : Nat} {w Y w1 : World} {v : Value} {k n : Nat} {xs : List Value} {T : TypeId} {o : Obj} (hB : Below w.heap.size w Y) (hw : w.heap.size ≤ B) (hrow : Y.ownsRow B T n v k xs) (hg : (Y.alloc o).grownBy w1 v.ownBlock) : Below w.heap.size w w1 := by
  refine (hB.alloc hB.size o).grown hg (Nat.le_trans hB.size (by simp)) ?_
  intro j e
  rcases hrow.2 with ⟨rfl, _⟩ | ⟨g, cap, cur, rfl, hge, _⟩
  · cases e
  · simp [Value.ownBlock] at e; omega
theorem blk_app {B b : Nat} {cs : Array Value} {Y w1 : World} {v : Value} {k n : Nat} {xs : List Value} {T T2 : TypeId} {o : Obj} (h : Blk b cs T2 Y) (hb : b < B) (hrow : Y.ownsRow B T n v k xs) (hg : (Y.alloc o).grownBy w1 v.ownBlock) : Blk b cs T2 w1 := by
  have h1 := h.below (below_new Y o)
  refine (hg.block b h1.lt ?_).trans h1
  intro e
  rcases hrow.2 with ⟨rfl, _⟩ | ⟨g, cap, cur, rfl, hge, _⟩
  · cases e
  · simp [Value.ownBlock] at e; omega
theorem blk_far1 {g b j : Nat} {cs : Array Value} {x : Value} {T : TypeId} {W : World} (h : Blk g cs T W) (hne : g ≠ b) : Blk g cs T (W.setCell ⟨b, j, none⟩ x) := (Below.heap_setCell _ _ _ _ (by show g ≠ b; exact hne)).trans h
theorem blk_far3 {g b : Nat} {cs : Array Value} {x0 x1 x2 : Value} {T : TypeId} {W : World} (h : Blk g cs T W) (hne : g ≠ b) : Blk g cs T (((W.setCell ⟨b, 0, none⟩ x0).setCell ⟨b, 1, none⟩ x1).setCell ⟨b, 2, none⟩ x2) := blk_far1 (blk_far1 (blk_far1 h hne) hne) hne
theorem Blk.three {b : Nat} {a0 a1 a2 x0 x1 x2 : Value} {T : TypeId} {W : World} (h : Blk b #[a0, a1, a2] T W) : Blk b #[x0, x1, x2] T (((W.setCell ⟨b, 0, none⟩ x0).setCell ⟨b, 1, none⟩ x1).setCell ⟨b, 2, none⟩ x2) := by
  have := ((h.set 0 x0).set 1 x1).set 2 x2
  exact this
theorem owns_far {B b j n k : Nat} {W : World} {T : TypeId} {v x : Value} {xs : List Value} (h : W.ownsRow B T k v n xs) (hne : v.ownBlock ≠ some b) : (W.setCell ⟨b, j, none⟩ x).ownsRow B T k v n xs :=
  h.kept (row := some b) ⟨rfl, rfl, rfl, by simp [World.setCell], fun k hk hne' => Below.heap_setCell _ _ _ _ (by show k ≠ b; intro e; exact hne' (by rw [e]))⟩ (.inr hne)
theorem owns_far3 {B b n k : Nat} {W : World} {T : TypeId} {v x0 x1 x2 : Value} {xs : List Value} (h : W.ownsRow B T k v n xs) (hne : v.ownBlock ≠ some b) : (((W.setCell ⟨b, 0, none⟩ x0).setCell ⟨b, 1, none⟩ x1).setCell ⟨b, 2, none⟩ x2).ownsRow B T k v n xs := owns_far (owns_far (owns_far h hne) hne) hne
theorem Below.three {n b : Nat} {x0 x1 x2 : Value} {w W : World} (h : Below n w W) (hb : n ≤ b) : Below n w (((W.setCell ⟨b, 0, none⟩ x0).setCell ⟨b, 1, none⟩ x1).setCell ⟨b, 2, none⟩ x2) :=
  ((h.setCell (p := ⟨b, 0, none⟩) hb _).setCell (p := ⟨b, 1, none⟩) hb _).setCell (p := ⟨b, 2, none⟩) hb _
def W7 (a n j : Int) : Prop := ∀ W, Calls Try.prog 15 #[.int .i64 a, .int .i64 n] W fun e w' => e = .returned (.int .i64 j) ∧ w' = W
theorem six_ne_three {a0 a1 a2 a3 a4 a5 b0 b1 b2 : Value} : (#[b0, b1, b2] : Array Value) ≠ #[a0, a1, a2, a3, a4, a5] := fun h => by have := congrArg Array.size h; simp at this
end Go.Proofs.Ytjmmfgmmmdbenaa
