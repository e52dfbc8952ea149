/-
  A row of writes put behind an empty one.
-/
import Derived.Test.YtjmmfgmmmdbenaaWR1
import Derived.Laws.MakeOwn
namespace Go.Proofs.Ytjmmfgmmmdbenaa
open Go.RowKit
set_option linter.unusedSimpArgs false
set_option linter.unusedVariables false

theorem wcells_cell {W : World} {g o2 : Nat} {ws : List Wt} (h : WsAt ws g o2 W) : ∀ j u, (wcells ws)[j]? = some u → W.cell? (Addr.add ⟨g, o2, none⟩ j) = some u := by
  intro j u hj
  have hl := (List.getElem?_eq_some_iff.1 hj).1
  rw [wcells_len] at hl
  obtain ⟨i, r, rfl, hr⟩ : ∃ i r, j = i * 3 + r ∧ r < 3 := ⟨j / 3, j % 3, by omega, Nat.mod_lt _ (by decide)⟩
  have hi : i < ws.length := by omega
  obtain ⟨a1, a2, a3⟩ := wcells_at ws i hi
  obtain ⟨⟨b1, b2, b3⟩, _⟩ := h i hi
  have e : Addr.add ⟨g, o2, none⟩ (i * 3 + r) = ⟨g, o2 + (i * 3 + r), none⟩ := by
    by_cases h0 : i * 3 + r = 0
    · rw [h0]; simp [Addr.add]
    · unfold Addr.add; rw [if_neg h0]
  rw [e]
  have : r = 0 ∨ r = 1 ∨ r = 2 := by omega
  rcases this with rfl | rfl | rfl
  · rw [Nat.add_zero] at hj ⊢; rw [a1] at hj; injection hj with hj; subst hj; exact b1
  · rw [a2] at hj; injection hj with hj; subst hj; rw [show o2 + (i * 3 + 1) = o2 + i * 3 + 1 by omega]; exact b2
  · rw [a3] at hj; injection hj with hj; subst hj; rw [show o2 + (i * 3 + 2) = o2 + i * 3 + 2 by omega]; exact b3
theorem gr_blk {b g : Nat} {cs : Array Value} {T : TypeId} {W W' : World} (h : Blk b cs T W) (hg : W.grownBy W' (some g)) (hne : b ≠ g) : Blk b cs T W' := (hg.block b h.lt (fun e => by injection e with e; exact hne e)).trans h
theorem gr_below {n g : Nat} {V W W' : World} (h : Below n V W) (hg : W.grownBy W' (some g)) (hn : n ≤ g) (hs : n ≤ W.heap.size) : Below n V W' := h.trans ⟨hg.os, hg.tape, hg.output, hg.size, fun k hk => hg.block k (Nat.lt_of_lt_of_le hk hs) (fun e => by injection e with e; omega)⟩
theorem wcells_one (ws : List Wt) : ∀ u ∈ wcells ws, u.oneCell' = true := by
  intro u hu
  obtain ⟨w, _, hw⟩ := List.mem_flatMap.1 hu
  simp at hw
  rcases hw with rfl | rfl | rfl <;> rfl
theorem run_app0 (W : World) (ty : TypeId) (g : Nat) (q : Option Addr) (ws : List Wt) (cap : Nat) (hg : Blk g #[] 40 W) (hw : WsV q ws W) (hl : ws.length ≤ 1000000) (base : Nat) (hb : base ≤ g) :
    ∃ v' w', (Builtin.append_ #[24, 24] ty #[.slice (some ⟨g, 0, none⟩) 0 0, .slice q ws.length cap]).run Try.prog W = .ok v' w' ∧ w'.ownsRow base 40 3 v' ws.length (wcells ws) ∧ W.grownBy w' (some g) := by
  obtain ⟨i0, hi, hz0, hz1, hz2⟩ := info_parts info_wt
  have hgl := hg.lt
  have hown : W.ownsRow base 40 3 (.slice (some ⟨g, 0, none⟩) 0 0) 0 [] := ⟨rfl, .inr ⟨g, 0, #[], rfl, hb, hg, Nat.le_refl _, by unfold maxLen; omega, rfl, rfl⟩⟩
  obtain ⟨gw, o2, hp, hat⟩ := hw
  have key : ∀ ad, q = some ad → (ws.length ≠ 0 → ad = ⟨gw, o2, none⟩) → ∃ v' w', (Builtin.append_ #[24, 24] ty #[.slice (some ⟨g, 0, none⟩) 0 0, .slice q ws.length cap]).run Try.prog W = .ok v' w' ∧ w'.ownsRow base 40 3 v' ws.length (wcells ws) ∧ W.grownBy w' (some g) := by
    intro ad hq had
    subst hq
    obtain ⟨v', w', hr, h2, h3, _⟩ := run_append_own (P := Try.prog) (w := W) base 24 ty 40 i0 _ 3 40 Try.underlying24 hi hz0 hz1 hz2 rfl (by decide) (.slice (some ⟨g, 0, none⟩) 0 0) 0 [] hown ad ws.length cap (wcells ws) (wcells_len ws) (fun j u hj => by
      have hl0 := (List.getElem?_eq_some_iff.1 hj).1
      rw [wcells_len] at hl0
      rw [had (by omega)]
      exact wcells_cell hat j u hj) (wcells_one ws) (by unfold maxLen; omega) (by omega) (by omega)
    refine ⟨v', w', hr, ?_, h3⟩
    simpa using h2
  by_cases h0 : ws.length = 0
  · rcases q with _ | ad
    · have hws : ws = [] := List.length_eq_zero_iff.1 h0
      subst hws
      refine ⟨.slice (some ⟨g, 0, none⟩) 0 0, W, ?_, hown, grownBy_refl _ _⟩
      simp [Builtin.append_, run_underlying Try.underlying24, sizeOf, typeInfo, hi, Builtin.lenOf, Builtin.firstCells, loadCells, loadCellsFrom, storeCells]
    · exact key ad rfl (fun h => absurd h0 h)
  · exact key _ (hp h0) (fun _ => rfl)
theorem wpList_app0 {ops : Array Oper} {rest : List Oper} {o : Oper} {a : Act} {Q : Exit → Act → World → Prop} (hgd : o.guard = none) (sl x : Operand)
    (ho : o.op = .call { callee := .builtin .append, args := #[sl, x], argTypes := #[24, 24] })
    (W : World) (g : Nat) (q : Option Addr) (ws : List Wt) (cap : Nat) (hs : a.eval sl = .slice (some ⟨g, 0, none⟩) 0 0) (hx : a.eval x = .slice q ws.length cap) (hg : Blk g #[] 40 W) (hw : WsV q ws W) (hl : ws.length ≤ 1000000) (base : Nat) (hb : base ≤ g)
    (h : ∀ v' w', w'.ownsRow base 40 3 v' ws.length (wcells ws) → W.grownBy w' (some g) → wpList Try.prog ops Q rest (a.put o.dst v') w') : wpList Try.prog ops Q (o :: rest) a W := by
  obtain ⟨v', w', hr, h2, h3⟩ := run_app0 W o.type g q ws cap hg hw hl base hb
  refine wpList_plain hgd fun _ hK => ?_
  unfold Oper.wp execOp
  simp only [ho, resolve, invoke, builtin, Sem.run_bind, Sem.run_pure, Result.andThen_ok, List.map_toArray, List.map_cons, List.map_nil, hs, hx, hr]
  exact hK _ _ (h v' w' h2 h3)
theorem step_app0 {ops : Array Oper} {o : Oper} {a : Act} {K : Act → World → Prop} {Q : Exit → Act → World → Prop} {E : Prop} (hgd : o.guard = none) (sl x : Operand)
    (ho : o.op = .call { callee := .builtin .append, args := #[sl, x], argTypes := #[24, 24] })
    (W : World) (g : Nat) (q : Option Addr) (ws : List Wt) (cap : Nat) (hs : a.eval sl = .slice (some ⟨g, 0, none⟩) 0 0) (hx : a.eval x = .slice q ws.length cap) (hg : Blk g #[] 40 W) (hw : WsV q ws W) (hl : ws.length ≤ 1000000) (base : Nat) (hb : base ≤ g)
    (h : ∀ v' w', w'.ownsRow base 40 3 v' ws.length (wcells ws) → W.grownBy w' (some g) → K (a.put o.dst v') w') : if Region.wanted o (yielded ops a.tmps) = true then Oper.wp Try.prog o a W K Q else E := by
  obtain ⟨v', w', hr, h2, h3⟩ := run_app0 W o.type g q ws cap hg hw hl base hb
  have hw : Region.wanted o (yielded ops a.tmps) = true := by simp [Region.wanted, hgd]
  rw [if_pos hw]
  unfold Oper.wp execOp
  simp only [ho, resolve, invoke, builtin, Sem.run_bind, Sem.run_pure, Result.andThen_ok, List.map_toArray, List.map_cons, List.map_nil, hs, hx, hr]
  exact h v' w' h2 h3
end Go.Proofs.Ytjmmfgmmmdbenaa
