/-
  A range over a function whose body never leaves: the things come one by one. (Inside the widest fence.)
-/
import Derived.Test.YtbojfiflemmgaaaG1
import Derived.RangeFuncNested
import Derived.RangeFuncBox
import Derived.RangeFuncBound
import Derived.RangeFuncCalls
import Derived.RangeFuncLeaves
import Derived.Shelf.Abstract
import Derived.Shelf.RegionOpen
import Derived.OwnWalkIn
import Derived.TacticsInMore
import Derived.LoopNIn
import Derived.LoopIn
import Derived.Maps.AppendAt
namespace Go.Proofs.Ytbojfiflemmgaaa
open Go.RowKit Go.Shelf
set_option linter.unusedSimpArgs false
set_option linter.unusedVariables false

theorem range_all {α : Type} {n : Nat} {g : Operand} {ps : Array Tmp} {assign body : Code} {Q : Exit → Act → World → Prop} {a : Act} {w : World} (h1 : 1 ≤ n)
    {gf : Nat} {bd lb : Array Value} (hg : a.eval g = .func (.func gf) bd lb) (eg : ∀ args w, (callFunc gf args).run Try.prog w = .ok (.enter gf args) w)
    (encs : α → Array Value) (xs : List α) (hps : ∀ x, (encs x).size = ps.size)
    (I : Nat → World → Prop) (hIm : ∀ k W W', I k W → Below W.heap.size W W' → I k W')
    (hIp : ∀ k W j o, I k W → w.heap.size ≤ j → (∃ r, W.heap[j]? = some (.loop r)) → I k (W.putObj j o)) (h0 : I 0 w)
    (hseq : ∀ (L : Nat) (J : Nat → World → Prop) (W : World), (∀ k W1, J k W1 → I k W1) → (∀ k W1 W2, J k W1 → Below W1.heap.size W1 W2 → J k W2) →
      (∀ k (hk : k < xs.length) W1, J k W1 → YieldAt Fence.wide (n - 1 - 1) Try.prog L (encs xs[k]) W1 fun e W' => e = .returned (.bool true) ∧ J (k + 1) W') → J 0 W →
      CallsIn Fence.wide (n - 1) Try.prog gf (bd ++ #[.func (.yield L) #[] #[]] ++ lb) W fun e W' => (∃ v, e = .returned v) ∧ J xs.length W')
    (ax : α → Act)
    (hassign : ∀ (L k : Nat) (x : α) (W : World) (K : Act → World → Prop), I k W → K (ax x) W →
      assign.wpIn (Fence.wide.inRound L) (n - 1 - 1) Try.prog (Exit.then K (fun _ _ _ => False)) { tmps := (ps.zip (encs x)).foldl (fun t (p, v) => t.setIfInBounds p v) a.tmps, defers := [] } W)
    (hbody : ∀ (L k : Nat) (hk : k < xs.length) (W : World), I k W →
      body.wpIn (Fence.wide.inRound L) (n - 1 - 1) Try.prog (fun e _ W' => e = .normal ∧ KeepsFrom w.heap.size W W' ∧ I (k + 1) W') (ax xs[k]) W)
    (hdone : ∀ (D : Nat) (W : World), w.heap.size ≤ D → I xs.length W → W.heap[D]? = some (.deferred (some [])) → Q .normal { a with defers := { target := .collected D, args := #[] } :: a.defers } W) :
    (Code.rangeFunc g ps assign body).wpIn Fence.wide n Try.prog Q a w := by
  refine wpIn_rangeFunc fun fn hfn => ?_
  generalize hH : w.heap.size = H at *
  let rec' : LoopState → Option Code → Loop := fun st pe => { state := st, pending := pe, fn := fn, tmps := a.tmps, params := ps, assign := assign, body := body, defers := H }
  have hent := run_enterLoop_outer (P := Try.prog) (w := w) fn a.tmps ps assign body
  rw [hH] at hent
  obtain ⟨W1, hW1⟩ : ∃ W1, (w.alloc (.deferred (some []))).alloc (.loop (rec' .ready none)) = W1 := ⟨_, rfl⟩
  have hb1 : Below w.heap.size w W1 := by rw [← hW1]; exact ((Below.refl _ w).alloc (Nat.le_refl _) _).alloc (by simp) _
  have hl1 : W1.heap[H + 1]? = some (.loop (rec' .ready none)) := by
    have := World.alloc_heap_new (w.alloc (.deferred (some []))) (.loop (rec' .ready none))
    rw [World.size_alloc, hH] at this; rw [← hW1]; exact this
  have hd1 : W1.heap[H]? = some (.deferred (some [])) := by
    rw [← hW1, ← hH]; exact (Below.heap_alloc _ _ _ (by simp)).trans (World.alloc_heap_new w _)
  refine ⟨H + 1, [{ target := .collected H, args := #[] }], W1, { target := .fn (.func gf) lb, args := bd ++ #[.func (.yield (H + 1)) #[] #[]] }, W1, gf, bd ++ #[.func (.yield (H + 1)) #[] #[]] ++ lb, W1, ?_, ?_, ?_, ?_, fun _ => h1, ?_⟩
  · rw [← hW1]; exact hent
  · simp only [resolve, hg]; simp [go_sem]
  · intro f' _; exact trivial
  · simp [invoke, go_sem, eg]
  have I1 : I 0 W1 := hIm _ _ _ h0 hb1
  have lt_of {W : World} {k : Nat} {o : Obj} (h : W.heap[k]? = some o) : k < W.heap.size := (Array.getElem?_eq_some_iff.1 h).1
  refine (hseq (H + 1) (fun k W => I k W ∧ W.heap[H + 1]? = some (.loop (rec' .ready none)) ∧ W.heap[H]? = some (.deferred (some []))) W1 (fun k W h => h.1) ?_ ?_ ⟨I1, hl1, hd1⟩).mono ?_
  · rintro k W W' ⟨hi, hl, hd⟩ hb
    exact ⟨hIm _ _ _ hi hb, (hb.block _ (lt_of hl)).trans hl, (hb.block _ (lt_of hd)).trans hd⟩
  · rintro k hk W2 ⟨hi2, hl2, hd2⟩
    refine ⟨fn, _, assign, body, run_yield (P := Try.prog) (args := encs xs[k]) hl2 (hps _), roundIn_of_wpIn hfn (hassign _ k _ W2 _ hi2 ?_)⟩
    refine ⟨_, run_beginRound hl2 rfl, ?_⟩
    obtain ⟨W3, hW3⟩ : ∃ W3, W2.putObj (H + 1) (.loop { rec' .ready none with state := .busy }) = W3 := ⟨_, rfl⟩
    have hl3 : W3.heap[H + 1]? = some (.loop { rec' .ready none with state := .busy }) := by rw [← hW3]; exact World.putObj_heap_same (lt_of hl2)
    have hd3 : W3.heap[H]? = some (.deferred (some [])) := by rw [← hW3]; exact (World.putObj_heap_other (by omega)).trans hd2
    have hi3 : I k W3 := by rw [← hW3]; exact hIp _ _ _ _ hi2 (by omega) ⟨_, hl2⟩
    rw [hW3]
    refine wpIn_mono (hbody (H + 1) k hk W3 hi3) ?_
    rintro e a4 W4 ⟨rfl, hkp, hi4⟩
    have hl4 := hkp.same _ _ (by omega) hl3 rfl
    have hd4 := hkp.same _ _ (Nat.le_refl _) hd3 rfl
    exact ⟨_, _, run_endRound (P := Try.prog) none hl4, rfl, hIp _ _ _ _ hi4 (by omega) ⟨_, hl4⟩, World.putObj_heap_same (lt_of hl4), (World.putObj_heap_other (by omega)).trans hd4⟩
  · rintro e W2 ⟨⟨v, rfl⟩, hi, hl, hd⟩
    exact ⟨none, _, run_endLoop (P := Try.prog) hl (by simp [rec']), hdone H _ (by omega) (hIp _ _ _ _ hi (by omega) ⟨_, hl⟩) ((World.putObj_heap_other (by omega)).trans hd)⟩
end Go.Proofs.Ytbojfiflemmgaaa
