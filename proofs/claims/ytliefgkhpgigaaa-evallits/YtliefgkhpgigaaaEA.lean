/-
  Jumps to labels with what holds there; expressions as trees, as they lie; a fold of a tree and the stack that goes through it.
-/
import Derived.Test.YtliefgkhpgigaaaF
import Derived.ScopeJumps
import Derived.WalkMore
import Derived.Laws.AppendOwn
namespace Go
/-- As Q; by a goto: J. -/
def Exit.jumps (J : Nat → Act → World → Prop) (Q : Exit → Act → World → Prop) : Exit → Act → World → Prop
  | .goto l, a, w => J l a w
  | e, a, w => Q e a w
/-- a scope whose jumps, to whatever label, lower a number that is no part of the state -/
theorem wp_scope_ghost {P : Program} {a : Act} {w : World} {Q : Exit → Act → World → Prop} {c : Code} (J : Nat → Nat → Act → World → Prop)
    (first : c.wp P (Exit.jumps (fun l a w => ∃ n, J l n a w) Q) a w)
    (pass : ∀ l n a w, J l n a w → ∃ rest, findLabel c l = some rest ∧ rest.wp P (Exit.jumps (fun l' a' w' => ∃ n', n' < n ∧ J l' n' a' w') Q) a w) : (Code.scope c).wp P Q a w := by
  intro b k cs
  have from_jump : ∀ n l a w, J l n a w → ∃ rest, findLabel c l = some rest ∧ ∃ e a' w', Q e a' w' ∧ Arrives P (lone (b.at a (.code rest :: .inScope c :: k)) cs w) b k cs e a' w' := by
    intro n
    induction n using Nat.strongRecOn with
    | _ n ih =>
      intro l a w hJ
      obtain ⟨rest, hf, hw⟩ := pass l n a w hJ
      refine ⟨rest, hf, ?_⟩
      obtain ⟨e, a₁, w₁, hq, harr⟩ := hw b (.inScope c :: k) cs
      cases e with
      | normal => exact ⟨.normal, a₁, w₁, hq, Steps.trans harr (.one step_inScope)⟩
      | exit id => exact ⟨.exit id, a₁, w₁, hq, fun k' hk => harr k' (by simp [exitTo, hk])⟩
      | goto l' =>
        obtain ⟨n', hlt, hJ'⟩ := hq
        obtain ⟨rest', hf', e₂, a₂, w₂, hq₂, harr₂⟩ := ih n' hlt l' a₁ w₁ hJ'
        exact ⟨e₂, a₂, w₂, hq₂, .of_steps (harr _ (by simp [gotoIn, hf'])) harr₂⟩
      | ret => exact ⟨_, a₁, w₁, hq, harr⟩
      | panic ch => exact ⟨_, a₁, w₁, hq, harr⟩
      | outgrown => exact ⟨_, a₁, w₁, hq, harr⟩
  obtain ⟨e, a₁, w₁, hq, harr⟩ := first b (.inScope c :: k) cs
  cases e with
  | normal => exact ⟨.normal, a₁, w₁, hq, .head step_scope (Steps.trans harr (.one step_inScope))⟩
  | exit id => exact ⟨.exit id, a₁, w₁, hq, fun k' hk => .head step_scope (harr k' (by simp [exitTo, hk]))⟩
  | goto l' =>
    obtain ⟨n, hJ'⟩ := hq
    obtain ⟨rest', hf', e₂, a₂, w₂, hq₂, harr₂⟩ := from_jump n l' a₁ w₁ hJ'
    exact ⟨e₂, a₂, w₂, hq₂, .of_steps (.head step_scope (harr _ (by simp [gotoIn, hf']))) harr₂⟩
  | ret => exact ⟨_, a₁, w₁, hq, .of_steps (.one step_scope) harr⟩
  | panic ch => exact ⟨_, a₁, w₁, hq, .of_steps (.one step_scope) harr⟩
  | outgrown => exact ⟨_, a₁, w₁, hq, .of_steps (.one step_scope) harr⟩
theorem Exit.jumps_mono {J J' : Nat → Act → World → Prop} {Q : Exit → Act → World → Prop} (h : ∀ l a w, J l a w → J' l a w) : ∀ e a w, Exit.jumps J Q e a w → Exit.jumps J' Q e a w := by
  intro e a w hq
  cases e with
  | goto l => exact h l a w hq
  | _ => exact hq
/-- the same, where the run may also fall through a label: what falls there with a lower number goes on as from a jump -/
theorem wp_scope_fall {P : Program} {a : Act} {w : World} {Q : Exit → Act → World → Prop} {c : Code} (J : Nat → Nat → Act → World → Prop)
    (first : (∀ l n a w, J l n a w → ∀ rest, findLabel c l = some (.seq .skip rest) → rest.wp P (Exit.jumps (fun l a w => ∃ n, J l n a w) Q) a w) → c.wp P (Exit.jumps (fun l a w => ∃ n, J l n a w) Q) a w)
    (pass : ∀ l n a w, (∀ l' n' a' w', n' < n → J l' n' a' w' → ∀ rest, findLabel c l' = some (.seq .skip rest) → rest.wp P (Exit.jumps (fun l' a' w' => ∃ n', n' < n ∧ J l' n' a' w') Q) a' w') → J l n a w →
      ∃ rest, findLabel c l = some (.seq .skip rest) ∧ rest.wp P (Exit.jumps (fun l' a' w' => ∃ n', n' < n ∧ J l' n' a' w') Q) a w) : (Code.scope c).wp P Q a w := by
  have all : ∀ n l a w, J l n a w → ∃ rest, findLabel c l = some (.seq .skip rest) ∧ rest.wp P (Exit.jumps (fun l' a' w' => ∃ n', n' < n ∧ J l' n' a' w') Q) a w := by
    intro n
    induction n using Nat.strongRecOn with
    | _ n ih =>
      intro l a w hJ
      refine pass l n a w ?_ hJ
      intro l' n' a' w' hlt hJ' rest hf
      obtain ⟨rest', hf', hw⟩ := ih n' hlt l' a' w' hJ'
      rw [hf] at hf'
      cases hf'
      exact Code.wp_mono (Exit.jumps_mono (fun l a w ⟨m, hm, h⟩ => ⟨m, Nat.lt_trans hm hlt, h⟩)) hw
  refine wp_scope_ghost J (first ?_) (fun l n a w hJ => ?_)
  · intro l n a w hJ rest hf
    obtain ⟨rest', hf', hw⟩ := all n l a w hJ
    rw [hf] at hf'
    cases hf'
    exact Code.wp_mono (Exit.jumps_mono (fun l a w ⟨m, _, h⟩ => ⟨m, h⟩)) hw
  · obtain ⟨rest, hf, hw⟩ := all n l a w hJ
    exact ⟨_, hf, wp_seq (wp_skip hw)⟩
end Go
namespace Go.Proofs.Ytliefgkhpgigaaa
open Go.RowKit
set_option linter.unusedSimpArgs false
set_option linter.unusedVariables false

abbrev V4 := Int × Int × Int × ByteArray
/-- an expression: its kind, name, value, children -/
inductive Ex where
  | leaf (k : Int) (nm : ByteArray) (v : V4)
  | one (k : Int) (nm : ByteArray) (v : V4) (c : Ex)
  | two (k : Int) (nm : ByteArray) (v : V4) (a b : Ex)
def Ex.k : Ex → Int
  | .leaf k _ _ => k
  | .one k _ _ _ => k
  | .two k _ _ _ _ => k
def Ex.nm : Ex → ByteArray
  | .leaf _ n _ => n
  | .one _ n _ _ => n
  | .two _ n _ _ _ => n
def Ex.v : Ex → V4
  | .leaf _ _ v => v
  | .one _ _ v _ => v
  | .two _ _ v _ _ => v
def Ex.deep : Ex → Nat
  | .leaf _ _ _ => 1
  | .one _ _ _ c => c.deep + 1
  | .two _ _ _ a b => max a.deep b.deep + 1
def Ex.size : Ex → Nat
  | .leaf _ _ _ => 1
  | .one _ _ _ c => c.size + 1
  | .two _ _ _ a b => a.size + b.size + 1
/-- an expression's cells; lv: the list of its children -/
abbrev exC (e : Ex) (lv : Value) : List Value := [.int .i64 e.k, .string e.nm, .int .i64 e.v.1, .int .i64 e.v.2.1, .int .i64 e.v.2.2.1, .string e.v.2.2.2, lv]
def CellsAt (g o : Nat) (cs : List Value) (W : World) : Prop := g < W.heap.size ∧ ∀ j, j < cs.length → W.cell? ⟨g, o + j, none⟩ = cs[j]?
theorem CellsAt.call {g o : Nat} {cs : List Value} {W W' : World} (h : CellsAt g o cs W) (hb : Below W.heap.size W W') : CellsAt g o cs W' :=
  ⟨Nat.lt_of_lt_of_le h.1 hb.size, fun j hj => (hb.cell (p := ⟨g, o + j, none⟩) h.1).trans (h.2 j hj)⟩
/-- how an expression's children lie -/
def Rep : Ex → Value → World → Prop
  | .leaf _ _ _, lv, _ => lv = .slice none 0 0
  | .one _ _ _ c, lv, W => ∃ g cap lc, lv = .slice (some ⟨g, 0, none⟩) 1 cap ∧ CellsAt g 0 (exC c lc) W ∧ Rep c lc W
  | .two _ _ _ a b, lv, W => ∃ g cap la lb, lv = .slice (some ⟨g, 0, none⟩) 2 cap ∧ CellsAt g 0 (exC a la) W ∧ CellsAt g 7 (exC b lb) W ∧ Rep a la W ∧ Rep b lb W
theorem Rep.call : ∀ {e : Ex} {lv : Value} {W W' : World}, Rep e lv W → Below W.heap.size W W' → Rep e lv W'
  | .leaf _ _ _, _, _, _, h, _ => h
  | .one _ _ _ c, _, _, _, ⟨g, cap, lc, h1, h2, h3⟩, hb => ⟨g, cap, lc, h1, h2.call hb, Rep.call h3 hb⟩
  | .two _ _ _ a b, _, _, _, ⟨g, cap, la, lb, h1, h2, h3, h4, h5⟩, hb => ⟨g, cap, la, lb, h1, h2.call hb, h3.call hb, Rep.call h4 hb, Rep.call h5 hb⟩
/-- nothing that lies below a mark has turned, and the expression lies below it -/
def Low (e : Ex) (lv : Value) (w : World) : Prop := Rep e lv w

section
variable {T : Type} (z : T) (f : Ex → T → T → T × Int)
def fin (r : T × Int) : T × Int := if r.2 = 0 then r else (z, r.2)
/-- what comes of an expression: of its children first -/
def foldF : Ex → T × Int
  | .leaf k n v => fin z (f (.leaf k n v) z z)
  | .one k n v c => if (foldF c).2 = 0 then fin z (f (.one k n v c) (foldF c).1 z) else (z, (foldF c).2)
  | .two k n v a b => if (foldF a).2 = 0 then (if (foldF b).2 = 0 then fin z (f (.two k n v a b) (foldF a).1 (foldF b).1) else (z, (foldF b).2)) else (z, (foldF a).2)
end
/-- a stack's frame: an expression, its list of children, how many of them are done, what was made of them -/
structure Fr (T : Type) where
  e : Ex
  lv : Value
  d : Nat
  a : T
  b : T
section
variable {T : Type} (z : T) (f : Ex → T → T → T × Int)
def Fr.put (r : Fr T) (x : T) : Fr T := if r.d = 0 then { r with d := 1, a := x } else { r with d := r.d + 1, b := x }
/-- what comes of a frame: of the children that are left, then of itself -/
def contF (r : Fr T) : T × Int :=
  match r.e, r.d with
  | .leaf _ _ _, _ => fin z (f r.e r.a r.b)
  | .one _ _ _ c, 0 => if (foldF z f c).2 = 0 then fin z (f r.e (foldF z f c).1 r.b) else (z, (foldF z f c).2)
  | .one _ _ _ _, _ + 1 => fin z (f r.e r.a r.b)
  | .two _ _ _ x y, 0 => if (foldF z f x).2 = 0 then (if (foldF z f y).2 = 0 then fin z (f r.e (foldF z f x).1 (foldF z f y).1) else (z, (foldF z f y).2)) else (z, (foldF z f x).2)
  | .two _ _ _ _ y, 1 => if (foldF z f y).2 = 0 then fin z (f r.e r.a (foldF z f y).1) else (z, (foldF z f y).2)
  | .two _ _ _ _ _, _ + 2 => fin z (f r.e r.a r.b)
/-- what comes of a stack, the top first, once its lower part has a result -/
def up : List (Fr T) → T × Int → T × Int
  | [], r => r
  | g :: S, r => if r.2 = 0 then up S (contF z f (g.put r.1)) else (z, r.2)
theorem up_err (S : List (Fr T)) (er : Int) (h : er ≠ 0) : up z f S (z, er) = (z, er) := by
  cases S with
  | nil => rfl
  | cons g S => unfold up; rw [if_neg h]
/-- the child that a frame waits for, or is to go to -/
def Fr.kid (r : Fr T) : Option Ex :=
  match r.e, r.d with
  | .one _ _ _ c, 0 => some c
  | .two _ _ _ x _, 0 => some x
  | .two _ _ _ _ y, 1 => some y
  | _, _ => none
/-- how much is left of a frame, its next child put by -/
def Fr.rem (r : Fr T) : Nat :=
  match r.e, r.d with
  | .two _ _ _ _ y, 0 => 3 * y.size + 1
  | _, _ => 1
def Fr.remTop (r : Fr T) : Nat := r.rem + (match r.kid with | some c => 3 * c.size | none => 0)
theorem cont_start (e : Ex) (lv : Value) : contF z f ⟨e, lv, 0, z, z⟩ = foldF z f e := by
  cases e <;> rfl
theorem rem_start (e : Ex) (lv : Value) : (Fr.remTop (⟨e, lv, 0, z, z⟩ : Fr T)) + 2 = 3 * e.size := by
  cases e <;> simp [Fr.remTop, Fr.rem, Fr.kid, Ex.size] <;> omega
theorem up_cons (g : Fr T) (S : List (Fr T)) (r : T × Int) : up z f (g :: S) r = if r.2 = 0 then up z f S (contF z f (g.put r.1)) else (z, r.2) := rfl
theorem kid_cont {r : Fr T} {c : Ex} (hk : r.kid = some c) : contF z f r = if (foldF z f c).2 = 0 then contF z f (r.put (foldF z f c).1) else (z, (foldF z f c).2) := by
  obtain ⟨e, lv, d, a, b⟩ := r
  match e, d, hk with
  | .one k n v x, 0, hk => cases hk; rfl
  | .two k n v x y, 0, hk => cases hk; rfl
  | .two k n v x y, 1, hk => cases hk; rfl
theorem cont_kid {r : Fr T} {c : Ex} (hk : r.kid = some c) (S : List (Fr T)) : up z f S (contF z f r) = up z f (r :: S) (foldF z f c) := by
  rw [up_cons, kid_cont z f hk]
  by_cases h : (foldF z f c).2 = 0
  · rw [if_pos h, if_pos h]
  · rw [if_neg h, if_neg h]; exact up_err z f S _ h
theorem rem_kid {r : Fr T} {c : Ex} (hk : r.kid = some c) : r.remTop = r.rem + 3 * c.size := by unfold Fr.remTop; rw [hk]
theorem rem_put {r : Fr T} {c : Ex} (hk : r.kid = some c) (x : T) : (r.put x).remTop = r.rem := by
  obtain ⟨e, lv, d, a, b⟩ := r
  match e, d, hk with
  | .one k n v x, 0, hk => rfl
  | .two k n v x y, 0, hk => simp [Fr.put, Fr.remTop, Fr.rem, Fr.kid]; omega
  | .two k n v x y, 1, hk => rfl
theorem cont_none {r : Fr T} (hk : r.kid = none) : contF z f r = fin z (f r.e r.a r.b) := by
  obtain ⟨e, lv, d, a, b⟩ := r
  match e, d, hk with
  | .leaf k n v, d, _ => rfl
  | .one k n v x, d + 1, _ => rfl
  | .two k n v x y, d + 2, _ => rfl
end
end Go.Proofs.Ytliefgkhpgigaaa
