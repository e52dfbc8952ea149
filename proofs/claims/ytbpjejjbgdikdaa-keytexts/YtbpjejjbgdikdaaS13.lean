/-
  A range over a function that keeps a variable of its own: the law that package key's ReadRow goes by. (Inside the widest fence.)
-/
import Derived.Test.YtbpjejjbgdikdaaS2
namespace Go.Proofs.Ytbpjejjbgdikdaa
open Go.RowKit Go.Shelf
set_option linter.unusedSimpArgs false
set_option linter.unusedVariables false

/-- what a round keeps: whatever the iterator's own box holds -/
def KB (Bn : Nat) (tb : TypeId) (A B : World) : Prop := ∀ v, Boxed A Bn tb v → Boxed B Bn tb v
theorem KB.trans {Bn : Nat} {tb : TypeId} {A B C : World} (h : KB Bn tb A B) (k : KB Bn tb B C) : KB Bn tb A C := fun v hv => k v (h v hv)
theorem KB.put {Bn : Nat} {tb : TypeId} {W : World} {L : Nat} (o : Obj) (h : Bn < L) : KB Bn tb W (W.putObj L o) := fun v hv => hv.kept (grownBy_putObj' W L o) (fun e => by cases e; omega)

/-- what the iterator does between two rounds: it makes new memory; it turns its own box -/
structure Bears {α : Type} (Bn : Nat) (J : List α → World → Prop) : Prop where
  more : ∀ pre W W', J pre W → Below W.heap.size W W' → J pre W'
  turn : ∀ pre W u, J pre W → J pre (W.setCell ⟨Bn, 0, none⟩ u)

/-- an iterator's word: it hands on xs one by one, or a part of it, a round having said no more -/
def Gives {α : Type} (n : Nat) (gf : Nat) (lb : Array Value) (encs : α → Array Value) (Bn : Nat) (tb : TypeId) (S Sp : List α → Prop) (N : Nat) (w : World) : Prop :=
  ∀ (L : Nat) (J Jx : List α → World → Prop) (W : World), Below w.heap.size w W → Bears Bn J →
    (∀ pre x W1, J pre W1 → pre.length < N → YieldAt Fence.wide (n - 1) Try.prog L (encs x) W1 fun e W' =>
      (e = .returned (.bool true) ∧ J (pre ++ [x]) W' ∧ KB Bn tb W1 W') ∨ (e = .returned (.bool false) ∧ Jx (pre ++ [x]) W')) →
    J [] W →
    CallsIn Fence.wide n Try.prog gf (#[.func (.yield L) #[] #[]] ++ lb) W fun e W' => (∃ v, e = .returned v) ∧ ((∃ xs, S xs ∧ J xs W') ∨ (∃ pre, Sp pre ∧ Jx pre W'))

theorem range_state {α : Type} {n : Nat} {g : Operand} {ps : Array Tmp} {assign body : Code} {Q : Exit → Act → World → Prop} {a : Act} {w : World} (h1 : 1 ≤ n)
    {gf : Nat} {lb : Array Value} (hg : a.eval g = .func (.func gf) #[] lb) (eg : ∀ args w, (callFunc gf args).run Try.prog w = .ok (.enter gf args) w)
    {encs : α → Array Value} {Bn : Nat} {tb : TypeId} {S Sp : List α → Prop} {N : Nat} (hseq : Gives (n - 1) gf lb encs Bn tb S Sp N w) (hBn : Bn < w.heap.size) (hps : ∀ x, (encs x).size = ps.size)
    (I : List α → World → Prop) (Ix : Code → List α → World → Prop) (hI : Bears Bn I) (hIp : ∀ pre W k o, I pre W → w.heap.size ≤ k → (∃ r, W.heap[k]? = some (.loop r)) → I pre (W.putObj k o)) (hIxp : ∀ c pre W k o, Ix c pre W → w.heap.size ≤ k → (∃ r, W.heap[k]? = some (.loop r)) → Ix c pre (W.putObj k o)) (h0 : I [] w)
    (Ax : α → Act → World → Prop) (hAp : ∀ x a' W k o, Ax x a' W → (∃ r, W.heap[k]? = some (.loop r)) → Ax x a' (W.putObj k o))
    (hassign : ∀ (L : Nat) (pre : List α) (x : α) (W : World) (K : Act → World → Prop), I pre W → (∀ a' W', Below W.heap.size W W' → I pre W' → Ax x a' W' → K a' W') →
      assign.wpIn (Fence.wide.inRound L) (n - 1 - 1) Try.prog (Exit.then K (fun _ _ _ => False)) { tmps := (ps.zip (encs x)).foldl (fun t (p, v) => t.setIfInBounds p v) a.tmps, defers := [] } W)
    (hbody : ∀ (L : Nat) (pre : List α) (x : α) (a' : Act) (W : World), w.heap.size ≤ L → L < W.heap.size → (∃ r, W.heap[L]? = some (.loop r)) → I pre W → Ax x a' W → pre.length < N → body.wpIn (Fence.wide.inRound L) (n - 1 - 1) Try.prog (ownPostG w.heap.size (KB Bn tb) I Ix (pre ++ [x]) W) a' W)
    (hdone : ∀ (D : Nat) (xs : List α) (W : World), w.heap.size ≤ D → S xs → I xs W → W.heap[D]? = some (.deferred (some [])) → Q .normal { a with defers := { target := .collected D, args := #[] } :: a.defers } W)
    (hstop : ∀ (D : Nat) (c : Code) (pre : List α) (W : World), w.heap.size ≤ D → Sp pre → Ix c pre W → W.heap[D]? = some (.deferred (some [])) → c.wpIn Fence.wide n Try.prog Q { a with defers := { target := .collected D, args := #[] } :: a.defers } W) :
    (Code.rangeFunc g ps assign body).wpIn Fence.wide n Try.prog Q a w := by
  refine wpIn_rangeFunc fun fn hfn => ?_
  -- the block for deferred calls is H, the loop's record H + 1
  generalize hH : w.heap.size = H at *
  let rec' : LoopState → Option Code → Loop := fun st pe => { state := st, pending := pe, fn := fn, tmps := a.tmps, params := ps, assign := assign, body := body, defers := H }
  have hent := run_enterLoop_outer (P := Try.prog) (w := w) fn a.tmps ps assign body
  rw [hH] at hent
  obtain ⟨W1, hW1⟩ : ∃ W1, (w.alloc (.deferred (some []))).alloc (.loop (rec' .ready none)) = W1 := ⟨_, rfl⟩
  have hb1 : Below w.heap.size w W1 := by rw [← hW1]; exact ((Below.refl _ w).alloc (Nat.le_refl _) _).alloc (by simp) _
  have hl1 : W1.heap[H + 1]? = some (.loop (rec' .ready none)) := by
    have := World.alloc_heap_new (w.alloc (.deferred (some []))) (.loop (rec' .ready none))
    rw [World.size_alloc, hH] at this; rw [← hW1]; exact this
  have hd1 : W1.heap[H]? = some (.deferred (some [])) := by
    rw [← hW1, ← hH]; exact (Below.heap_alloc _ _ _ (by simp)).trans (World.alloc_heap_new w _)
  refine ⟨H + 1, [{ target := .collected H, args := #[] }], W1, { target := .fn (.func gf) lb, args := #[.func (.yield (H + 1)) #[] #[]] }, W1, gf, #[.func (.yield (H + 1)) #[] #[]] ++ lb, W1, ?_, ?_, ?_, ?_, fun _ => h1, ?_⟩
  · rw [← hW1]; exact hent
  · simp only [resolve, hg]; simp [go_sem]
  · intro f' _; exact trivial
  · simp [invoke, go_sem, eg]
  have I1 : I [] W1 := hI.more _ _ _ h0 hb1
  have lt_of {W : World} {k : Nat} {o : Obj} (h : W.heap[k]? = some o) : k < W.heap.size := (Array.getElem?_eq_some_iff.1 h).1
  refine (hseq (H + 1) (fun pre W => I pre W ∧ W.heap[H + 1]? = some (.loop (rec' .ready none)) ∧ W.heap[H]? = some (.deferred (some [])))
    (fun pre W => ∃ c, Ix c pre W ∧ W.heap[H + 1]? = some (.loop (rec' .done (some c))) ∧ W.heap[H]? = some (.deferred (some []))) W1 hb1 ⟨?_, ?_⟩ ?_ ⟨I1, hl1, hd1⟩).mono ?_
  · rintro pre W W' ⟨hi, hl, hd⟩ hb
    exact ⟨hI.more _ _ _ hi hb, (hb.block _ (lt_of hl)).trans hl, (hb.block _ (lt_of hd)).trans hd⟩
  · rintro pre W u ⟨hi, hl, hd⟩
    exact ⟨hI.turn _ _ _ hi, (Below.heap_setCell _ _ _ _ (by simp; omega)).trans hl, (Below.heap_setCell _ _ _ _ (by simp; omega)).trans hd⟩
  · rintro pre x W ⟨hi, hl, hd⟩ hlen
    refine ⟨fn, _, assign, body, run_yield (P := Try.prog) (args := encs x) hl (hps x), roundIn_of_wpIn hfn (hassign _ pre x W _ hi ?_)⟩
    intro a' W2 hb2 hi2 hx2
    have hl2 : W2.heap[H + 1]? = some (.loop (rec' .ready none)) := (hb2.block _ (lt_of hl)).trans hl
    have hd2 : W2.heap[H]? = some (.deferred (some [])) := (hb2.block _ (lt_of hd)).trans hd
    have kb2 : KB Bn tb W W2 := fun v hv => (hb2.block _ hv.lt).trans hv
    refine ⟨_, run_beginRound hl2 rfl, ?_⟩
    obtain ⟨W3, hW3⟩ : ∃ W3, W2.putObj (H + 1) (.loop { rec' .ready none with state := .busy }) = W3 := ⟨_, rfl⟩
    have hl3 : W3.heap[H + 1]? = some (.loop { rec' .ready none with state := .busy }) := by rw [← hW3]; exact World.putObj_heap_same (lt_of hl2)
    have hd3 : W3.heap[H]? = some (.deferred (some [])) := by rw [← hW3]; exact (World.putObj_heap_other (by omega)).trans hd2
    have hi3 : I pre W3 := by rw [← hW3]; exact hIp _ _ _ _ hi2 (by omega) ⟨_, hl2⟩
    have hx3 : Ax x a' W3 := by rw [← hW3]; exact hAp _ _ _ _ _ hx2 ⟨_, hl2⟩
    have kb3 : KB Bn tb W W3 := kb2.trans (by rw [← hW3]; exact KB.put _ (by omega))
    rw [hW3]
    refine wpIn_mono (hbody (H + 1) pre x a' W3 (by omega) (lt_of hl3) ⟨_, hl3⟩ hi3 hx3 hlen) ?_
    have fin : ∀ (jump : Option Code) (W4 : World), KeepsFrom H W3 W4 →
        (Instr.endRound (H + 1) jump).run Try.prog W4 = .ok (.bool jump.isNone) (W4.putObj (H + 1) (.loop (rec' (if jump.isNone then .ready else .done) jump))) ∧ (∃ r, W4.heap[H + 1]? = some (.loop r)) ∧
        (W4.putObj (H + 1) (.loop (rec' (if jump.isNone then .ready else .done) jump))).heap[H + 1]? = some (.loop (rec' (if jump.isNone then .ready else .done) jump)) ∧
        (W4.putObj (H + 1) (.loop (rec' (if jump.isNone then .ready else .done) jump))).heap[H]? = some (.deferred (some [])) := by
      intro jump W4 hk
      have hl4 := hk.same _ _ (by omega) hl3 rfl
      exact ⟨run_endRound (P := Try.prog) jump hl4, ⟨_, hl4⟩, World.putObj_heap_same (lt_of hl4), (World.putObj_heap_other (by omega)).trans (hk.same _ _ (Nat.le_refl _) hd3 rfl)⟩
    rintro e a4 W4 hp
    cases e with
    | normal =>
      obtain ⟨hk, hkb, hi4⟩ := hp
      obtain ⟨hr, hlt, hl4, hd4⟩ := fin none W4 hk
      exact ⟨_, _, hr, .inl ⟨rfl, ⟨hIp _ _ _ _ hi4 (by omega) hlt, hl4, hd4⟩, (kb3.trans hkb).trans (KB.put _ (by omega))⟩⟩
    | ret =>
      obtain ⟨hk, hi4⟩ := hp
      obtain ⟨hr, hlt, hl4, hd4⟩ := fin (some .ret) W4 hk
      exact ⟨_, _, hr, .inr ⟨rfl, .ret, hIxp _ _ _ _ _ hi4 (by omega) hlt, hl4, hd4⟩⟩
    | exit id =>
      obtain ⟨hk, hi4⟩ := hp
      obtain ⟨hr, hlt, hl4, hd4⟩ := fin (some (.exit id)) W4 hk
      exact ⟨_, _, hr, .inr ⟨rfl, .exit id, hIxp _ _ _ _ _ hi4 (by omega) hlt, hl4, hd4⟩⟩
    | goto t =>
      obtain ⟨hk, hi4⟩ := hp
      obtain ⟨hr, hlt, hl4, hd4⟩ := fin (some (.goto t)) W4 hk
      exact ⟨_, _, hr, .inr ⟨rfl, .goto t, hIxp _ _ _ _ _ hi4 (by omega) hlt, hl4, hd4⟩⟩
    | panic ch => exact hp.elim
    | outgrown => exact hp.elim
  · rintro e W2 ⟨⟨v, rfl⟩, (⟨xs, hS, hi, hl, hd⟩ | ⟨pre, hSp, c, hi, hl, hd⟩)⟩
    · exact ⟨none, _, run_endLoop (P := Try.prog) hl (by simp [rec']), hdone H xs _ (by omega) hS (hIp _ _ _ _ hi (by omega) ⟨_, hl⟩) ((World.putObj_heap_other (by omega)).trans hd)⟩
    · exact ⟨some c, _, run_endLoop (P := Try.prog) hl (by simp [rec']), hstop H c pre _ (by omega) hSp (hIxp _ _ _ _ _ hi (by omega) ⟨_, hl⟩) ((World.putObj_heap_other (by omega)).trans hd)⟩
end Go.Proofs.Ytbpjejjbgdikdaa
