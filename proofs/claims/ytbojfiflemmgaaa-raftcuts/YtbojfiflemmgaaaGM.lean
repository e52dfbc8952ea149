/-
  A struct stored whole into a block of its own.
-/
import Derived.Test.YtbojfiflemmgaaaGG
import Derived.Deep.MidRow
namespace Go.Proofs.Ytbojfiflemmgaaa
open Go.RowKit
set_option linter.unusedSimpArgs false
set_option linter.unusedVariables false

theorem setCells_keeps (b : Nat) : ∀ (vs : List Value) (o : Nat) (W : World), W.grownBy (W.setCells b o vs) (some b) ∧ (W.setCells b o vs).heap.size = W.heap.size
  | [], _, W => ⟨⟨rfl, rfl, rfl, Nat.le_refl _, fun _ _ _ => rfl⟩, rfl⟩
  | v :: r, o, W => by
    obtain ⟨h1, h2⟩ := setCells_keeps b r (o + 1) (W.setCell ⟨b, o, none⟩ v)
    have hs : (W.setCell ⟨b, o, none⟩ v).heap.size = W.heap.size := by simp [World.setCell]
    refine ⟨⟨h1.os, h1.tape, h1.output, by show W.heap.size ≤ ((W.setCell ⟨b, o, none⟩ v).setCells b (o + 1) r).heap.size; omega, fun k hk hne => ?_⟩, by show ((W.setCell ⟨b, o, none⟩ v).setCells b (o + 1) r).heap.size = _; omega⟩
    show ((W.setCell ⟨b, o, none⟩ v).setCells b (o + 1) r).heap[k]? = _
    rw [h1.block k (by omega) hne]
    exact heap_set fun e => hne (by rw [e])
theorem setCells_blk (b : Nat) (T : TypeId) : ∀ (vs : List Value) (o : Nat) (ys : Array Value) (W : World), Blk b ys T W → o + vs.length ≤ ys.size →
    ∃ zs, Blk b zs T (W.setCells b o vs) ∧ zs.size = ys.size ∧ ∀ j, zs[j]? = if o ≤ j ∧ j < o + vs.length then vs[j - o]? else ys[j]?
  | [], o, ys, W, h, _ => ⟨ys, h, rfl, fun j => by rw [if_neg (by simp)]⟩
  | v :: r, o, ys, W, h, hl => by
    simp only [List.length_cons] at hl
    obtain ⟨zs, h1, h2, h3⟩ := setCells_blk b T r (o + 1) _ _ (h.set o v) (by simp; omega)
    refine ⟨zs, h1, by simpa using h2, fun j => ?_⟩
    rw [h3 j]
    simp only [List.length_cons]
    by_cases hj : j = o
    · subst hj
      rw [if_neg (by omega), if_pos (by omega), Nat.sub_self]
      simp [Array.getElem?_setIfInBounds, show j < ys.size by omega]
    · by_cases hj2 : o + 1 ≤ j ∧ j < o + 1 + r.length
      · rw [if_pos hj2, if_pos (by omega), show j - o = (j - (o + 1)) + 1 by omega, List.getElem?_cons_succ]
      · rw [if_neg hj2, if_neg (by omega), Array.getElem?_setIfInBounds, if_neg (by omega)]
theorem whole_set {b : Nat} {ys cs : Array Value} {T : TypeId} {W : World} (hb : Blk b ys T W) (hsz : cs.size = ys.size) : Blk b cs T (W.setCells b 0 cs.toList) ∧ W.grownBy (W.setCells b 0 cs.toList) (some b) := by
  obtain ⟨g1, g2⟩ := setCells_keeps b cs.toList 0 W
  obtain ⟨zs, z1, z2, z3⟩ := setCells_blk b T cs.toList 0 ys W hb (by simp; omega)
  have hz : zs = cs := by
    apply Array.ext_getElem?
    intro j
    rw [z3 j]
    by_cases hj : j < cs.size
    · rw [if_pos (by simp; omega)]; simp
    · rw [if_neg (by simp; omega), Array.getElem?_eq_none (by omega), Array.getElem?_eq_none (by omega)]
  rw [hz] at z1
  exact ⟨z1, g1⟩
/-- a struct stored whole, at a step -/
theorem step_whole {ops : Array Oper} {o : Oper} {a : Act} {K : Act → World → Prop} {Q : Exit → Act → World → Prop} {E : Prop} (hgd : o.guard = none) (ty : TypeId) (x y : Operand) (ho : o.op = .store ty x y)
    (b : Nat) (ys cs : Array Value) (T : TypeId) (W : World) (hb : Blk b ys T W) (hsz : cs.size = ys.size) (hx : a.eval x = ptr b 0) (hy : a.eval y = .agg cs) (hi : (Try.prog.info? ty).map (·.size) = some cs.size) (h1 : cs.all (·.oneCell') = true)
    (h : ∀ w', Blk b cs T w' → W.grownBy w' (some b) → w'.heap.size = W.heap.size → K (a.put o.dst undef) w') : if Region.wanted o (yielded ops a.tmps) = true then Oper.wp Try.prog o a W K Q else E := by
  have hw : Region.wanted o (yielded ops a.tmps) = true := by simp [Region.wanted, hgd]
  rw [if_pos hw]
  refine wp_store_mid ty x y ho b 0 cs hx hy (fun j hj => ?_) hi h1 ?_
  · rw [Nat.zero_add, hb.cell j, Array.getElem?_eq_getElem (by omega)]
    exact ⟨rfl, hb.froz j⟩
  · obtain ⟨g1, g2⟩ := setCells_keeps b cs.toList 0 W
    obtain ⟨zs, z1, z2, z3⟩ := setCells_blk b T cs.toList 0 ys W hb (by simp; omega)
    have hz : zs = cs := by
      apply Array.ext_getElem?
      intro j
      rw [z3 j]
      by_cases hj : j < cs.size
      · rw [if_pos (by simp; omega)]; simp
      · rw [if_neg (by simp; omega), Array.getElem?_eq_none (by omega), Array.getElem?_eq_none (by omega)]
    rw [hz] at z1
    exact h _ z1 g1 g2
theorem Blk.grown {b g : Nat} {cs : Array Value} {T : TypeId} {W W' : World} (h : Blk b cs T W) (hg : W.grownBy W' (some g)) (hne : b ≠ g) : Blk b cs T W' := (hg.block b h.lt (fun e => hne (by injection e))).trans h
theorem own_grown {g base s m : Nat} {v : Value} {T : TypeId} {cs : List Value} {W W' : World} (h : W.ownsRow base T s v m cs) (hg : W.grownBy W' (some g)) (hb : g < base) : W'.ownsRow base T s v m cs :=
  own_keep h fun k hk hl => hg.block k hl fun e => by
    have h1 := (h.lt k hk).1
    injection e with e
    omega
theorem below_grown {B g : Nat} {w W W' : World} (h : Below B w W) (hg : W.grownBy W' (some g)) (hb : B ≤ g) (hB : B ≤ W.heap.size) : Below B w W' :=
  h.trans ⟨hg.os, hg.tape, hg.output, hg.size, fun k hk => hg.block k (by omega) fun e => by injection e with e; omega⟩
end Go.Proofs.Ytbojfiflemmgaaa
