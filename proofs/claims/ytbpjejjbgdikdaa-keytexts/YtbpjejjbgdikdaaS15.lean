/-
  A region that draws its order inside a round of a range over a function: by the orders outside of it. The rows that package key's ReadRow holds.
-/
import Derived.Test.YtbpjejjbgdikdaaS14
import Derived.Deep.RegionHeld3
namespace Go.Proofs.Ytbpjejjbgdikdaa
open Go.RowKit Go.Shelf
set_option linter.unusedSimpArgs false
set_option linter.unusedVariables false

/-- only the ordinary way out -/
def Nrm (K : Act → World → Prop) : Exit → Act → World → Prop
  | .normal, a, w => K a w
  | _, _, _ => False
theorem nrm_no {K : Act → World → Prop} (h : LetsOut (Nrm K)) : False := by obtain ⟨_, _, h⟩ := h; exact h
theorem rowsIn_of {n : Nat} {row : String} {args : Array Value} {w : World} {R : Value → World → Prop} (h : Rows Try.prog row args w R) : RowsIn Fence.wide n Try.prog row args w R :=
  fun c cs _ => by obtain ⟨v, w', r, s⟩ := h c cs; exact ⟨v, w', r, stepsIn_wide.2 s⟩
theorem uponIn_of {L n : Nat} {o : Oper} {a : Act} {next next' : Act → World → Prop} {K : Act → World → Prop} {Q : Exit → Act → World → Prop} (hn : ∀ a w, next a w → next' a w) :
    ∀ r, Oper.upon Try.prog o a next (Nrm K) r → Oper.uponIn (Fence.wide.inRound L) n Try.prog o a next' Q r := by
  intro r h
  match r, h with
  | .ok (.value v) w', h => exact hn _ _ h
  | .ok .skip w', h => exact hn _ _ h
  | .ok (.defer d) w', h => exact hn _ _ h
  | .ok (.enter f args) w', h =>
    refine ⟨fun e => (by cases e), CallsIn.inRound L (callsIn_wide.2 (Calls.mono h ?_))⟩
    intro e w'' he
    match e, he with
    | .returned v, he => exact hn _ _ he
    | .panicked c, he => exact he.elim
    | .outgrown, he => exact (nrm_no he).elim
  | .ok (.row row args) w', h => exact ⟨fun e => (by cases e), rowsIn_of (h.mono fun v w'' hv => hn _ _ hv)⟩
  | .halt (.panic v) w', h => exact h.elim
theorem anyIn_of {L n : Nat} {ops : Array Oper} {K : Act → World → Prop} {Q : Exit → Act → World → Prop} (hdf : ∀ (i : Nat) (o : Oper) c, ops[i]? = some o → o.op ≠ .defer c) (hQ : ∀ a w, K a w → Q .normal a w) :
    ∀ (fuel : Nat) (listed : Array Bool) (a : Act) (w : World), wpAny Try.prog .any ops (Nrm K) fuel listed a w → wpAnyIn (Fence.wide.inRound L) n Try.prog .any ops Q fuel listed a w
  | 0, _, _, _, h => ⟨h.1, hQ _ _ h.2⟩
  | fuel + 1, listed, a, w, h => by
    refine ⟨fun e => hQ _ _ (h.1 e), fun i hi => ?_⟩
    have hop := h.2 i hi
    unfold wpOp at hop
    unfold wpOpIn
    cases ho : ops[i]? with
    | none => rw [ho] at hop; exact anyIn_of hdf hQ fuel _ a w hop
    | some o =>
      rw [ho] at hop
      dsimp only at hop ⊢
      split
      · rename_i hw
        rw [if_pos hw] at hop
        rcases hop with hop | hop
        · refine ⟨fun _ _ => trivial, ?_⟩
          show Oper.uponIn _ _ _ _ _ _ _ ((o.semAt (some L) a.eval).run Try.prog w)
          rw [Oper.semAt_some L _ _ (fun c => hdf i o c ho)]
          exact uponIn_of (fun a' w' h' => anyIn_of hdf hQ fuel _ a' w' h') _ hop
        · exact (nrm_no hop.2).elim
      · rename_i hw
        rw [if_neg hw] at hop
        exact ⟨fun _ _ => trivial, anyIn_of hdf hQ fuel _ _ w hop⟩
theorem region_round {L n id : Nat} {ops : Array Oper} {K : Act → World → Prop} {Q : Exit → Act → World → Prop} {a : Act} {w : World} {S : World → Prop} (hm : Try.prog.follows .mixedOrders = true)
    (hdf : ∀ (i : Nat) (o : Oper) c, ops[i]? = some o → o.op ≠ .defer c) (hQ : ∀ a w, K a w → Q .normal a w) (hS : S w.drew)
    (h : S w.drew → wpAnyH Try.prog .any ops (Nrm K) S ops.size (Array.replicate ops.size false) a w.drew) : (Code.region id ops true).wpIn (Fence.wide.inRound L) n Try.prog Q a w :=
  wpIn_region_any hm (anyIn_of hdf hQ _ _ _ _ (wpAny_of_held _ _ _ _ (h hS)))
theorem weakenH {P : Program} {md : Region.Mode} {ops : Array Oper} {Q : Exit → Act → World → Prop} {S T : World → Prop} (hST : ∀ w, S w → T w) :
    ∀ (fuel : Nat) (listed : Array Bool) (a : Act) (w : World), wpAnyH P md ops Q S fuel listed a w → wpAnyH P md ops Q T fuel listed a w
  | 0, _, _, _, h => h
  | fuel + 1, _, _, _, h => ⟨h.1, fun i hi => wpOp_mono (fun a' w' h' => ⟨hST _ h'.1, weakenH hST fuel _ a' w' h'.2⟩) (h.2 i hi)⟩

/-- values that were read, in a row's cells -/
def cellsR (l : List RW) : List Value := l.flatMap (fun x => [.int .i64 x.1.1, .int .i64 x.1.2.1, .int .i64 x.1.2.2.1, .string (Str x.1.2.2.2)])
def usedR (l : List RW) : Nat := (l.map (·.2)).foldl (· + ·) 0
theorem cellsR_snoc (l : List RW) (x : RW) : cellsR (l ++ [x]) = cellsR l ++ [.int .i64 x.1.1, .int .i64 x.1.2.1, .int .i64 x.1.2.2.1, .string (Str x.1.2.2.2)] := by simp [cellsR]
theorem usedR_snoc (l : List RW) (x : RW) : usedR (l ++ [x]) = usedR l + x.2 := by simp [usedR]
/-- where ReadRow stands behind values that were read -/
def eR (l : List RW) : Int := l.foldl (fun e x => IntKind.i64.wrap (e + (x.2 : Int))) 1
theorem eR_snoc (l : List RW) (x : RW) : eR (l ++ [x]) = IntKind.i64.wrap (eR l + (x.2 : Int)) := by simp [eR]
/-- ReadRow's own variables -/
structure RR (w : World) (c : Nat) (pre : List RW) (v : Value) (W : World) : Prop where
  r0 : Boxed W w.heap.size 31 (.slice none 0 0)
  r1 : Boxed W (w.heap.size + 1) 4 (.bool false)
  l : Boxed W (w.heap.size + 1 + 1) 31 v
  cnt : Boxed W (w.heap.size + 1 + 1 + 1) 3 (.int .i64 (c : Int))
  en : Boxed W (w.heap.size + 1 + 1 + 1 + 1) 3 (.int .i64 (eR pre))
  row : W.ownsRow (w.heap.size + 6) 24 4 v pre.length (cellsR pre)
  below : Below w.heap.size w W
  size : w.heap.size + 6 ≤ W.heap.size
section
variable {w : World} {c : Nat} {pre : List RW} {v : Value} {W W' : World}
theorem RR.kept (h : RR w c pre v W) {row : Option Nat} (hg : W.grownBy W' row) (hr : ∀ k, row = some k → w.heap.size + 5 ≤ k) (hrow : v.ownBlock = none ∨ v.ownBlock ≠ row) : RR w c pre v W' :=
  ⟨h.r0.kept hg (fun e => by have := hr _ e.symm; omega), h.r1.kept hg (fun e => by have := hr _ e.symm; omega), h.l.kept hg (fun e => by have := hr _ e.symm; omega), h.cnt.kept hg (fun e => by have := hr _ e.symm; omega), h.en.kept hg (fun e => by have := hr _ e.symm; omega), h.row.kept hg hrow, h.below.grown hg h.below.size (fun k e => by have := hr k e; omega), Nat.le_trans h.size hg.size⟩
theorem RR.own (h : RR w c pre v W) {k : Nat} (e : v.ownBlock = some k) : w.heap.size + 6 ≤ k ∧ ∃ cur, W.heap[k]? = some (.cells cur 24 (0, 0)) := by
  rcases h.row.2 with ⟨rfl, _⟩ | ⟨g, cap, cur, rfl, hge, hgb, _⟩
  · cases e
  · cases e; exact ⟨hge, cur, hgb⟩
theorem RR.call (h : RR w c pre v W) (hb : Below W.heap.size W W') : RR w c pre v W' :=
  h.kept (row := none) ⟨hb.os, hb.tape, hb.output, hb.size, fun j hj _ => hb.block j hj⟩ (fun _ e => by cases e) (by cases hv : v.ownBlock <;> simp)
theorem RR.turn (h : RR w c pre v W) (u : Value) : RR w c pre v (W.setCell ⟨w.heap.size + 1 + 1 + 1 + 1 + 1, 0, none⟩ u) :=
  h.kept (grownBy_setCell' W _ u) (fun k e => by cases e; exact Nat.le_refl _) (by
    cases hv : v.ownBlock with
    | none => exact .inl rfl
    | some k => right; intro e; cases e; have := (h.own hv).1; omega)
theorem RR.put (h : RR w c pre v W) {k : Nat} (o : Obj) (hk : w.heap.size + 6 ≤ k) (hl : ∃ r, W.heap[k]? = some (.loop r)) : RR w c pre v (W.putObj k o) :=
  h.kept (grownBy_putObj' W k o) (fun j e => by cases e; omega) (by
    cases hv : v.ownBlock with
    | none => exact .inl rfl
    | some j =>
      right; intro e; cases e
      obtain ⟨_, cur, hc⟩ := h.own hv
      obtain ⟨r, hr⟩ := hl
      rw [hr] at hc; cases hc)
theorem RR.app (h : RR w c pre v W) {x : RW} {o : Obj} {g cap : Nat} {w1 : World}
    (hown : w1.ownsRow (w.heap.size + 6) 24 4 (.slice (some ⟨g, 0, none⟩) (pre.length + 1) cap) (pre.length + 1) (cellsR pre ++ [.int .i64 x.1.1, .int .i64 x.1.2.1, .int .i64 x.1.2.2.1, .string (Str x.1.2.2.2)]))
    (hgrow : (W.alloc o).grownBy w1 v.ownBlock) :
    Boxed w1 (w.heap.size + 1 + 1) 31 v ∧ Boxed w1 (w.heap.size + 1 + 1 + 1 + 1) 3 (.int .i64 (eR pre)) ∧
    RR w c (pre ++ [x]) (.slice (some ⟨g, 0, none⟩) (pre.length + 1) cap) ((w1.setCell ⟨w.heap.size + 1 + 1, 0, none⟩ (.slice (some ⟨g, 0, none⟩) (pre.length + 1) cap)).setCell ⟨w.heap.size + 1 + 1 + 1 + 1, 0, none⟩ (.int .i64 (IntKind.i64.wrap (eR pre + (x.2 : Int))))) ∧
    KeepsOthers W ((w1.setCell ⟨w.heap.size + 1 + 1, 0, none⟩ (.slice (some ⟨g, 0, none⟩) (pre.length + 1) cap)).setCell ⟨w.heap.size + 1 + 1 + 1 + 1, 0, none⟩ (.int .i64 (IntKind.i64.wrap (eR pre + (x.2 : Int))))) ∧
    (∀ t, KB (w.heap.size + 1 + 1 + 1 + 1 + 1) t W ((w1.setCell ⟨w.heap.size + 1 + 1, 0, none⟩ (.slice (some ⟨g, 0, none⟩) (pre.length + 1) cap)).setCell ⟨w.heap.size + 1 + 1 + 1 + 1, 0, none⟩ (.int .i64 (IntKind.i64.wrap (eR pre + (x.2 : Int)))))) := by
  have hf : ∀ k, k < w.heap.size + 6 → some k ≠ v.ownBlock := fun k hk e => by have := (h.own e.symm).1; omega
  have kb : ∀ {k : Nat} {t : TypeId} {u : Value}, Boxed W k t u → k < w.heap.size + 6 → Boxed w1 k t u := fun hb hk => (hb.alloc o).kept hgrow (hf _ hk)
  have hl := kb h.l (by omega)
  have he := kb h.en (by omega)
  have hrw : (w1.setCell ⟨w.heap.size + 1 + 1, 0, none⟩ (.slice (some ⟨g, 0, none⟩) (pre.length + 1) cap)).ownsRow (w.heap.size + 6) 24 4 (.slice (some ⟨g, 0, none⟩) (pre.length + 1) cap) (pre.length + 1) (cellsR pre ++ [.int .i64 x.1.1, .int .i64 x.1.2.1, .int .i64 x.1.2.2.1, .string (Str x.1.2.2.2)]) :=
    hown.kept (grownBy_setCell' w1 _ _) (.inr (hl.not_row (by decide) hown).symm)
  have hg6 : w.heap.size + 6 ≤ g := by
    rcases hown.2 with ⟨e, _⟩ | ⟨g', _, _, e, hge, _⟩
    · cases e
    · cases e; exact hge
  have hko : KeepsOthers W w1 := (KeepsOthers.alloc W o).trans (KeepsOthers.of_grownBy hgrow fun j o' ej hj => by
    obtain ⟨_, cur, hcur⟩ := h.own ej
    have hlt : j < W.heap.size := (Array.getElem?_eq_some_iff.1 hcur).1
    rw [Below.heap_alloc _ _ _ hlt, hcur] at hj; cases hj; rfl)
  refine ⟨hl, he, ⟨((kb h.r0 (by omega)).other (by omega) _).other (by omega) _, ((kb h.r1 (by omega)).other (by omega) _).other (by omega) _, (hl.set _).other (by omega) _, ((kb h.cnt (by omega)).other (by omega) _).other (by omega) _, ?_, ?_, ?_, ?_⟩, (hko.trans (KeepsOthers.setCell _ _ _)).trans (KeepsOthers.setCell _ _ _), ?_⟩
  · rw [eR_snoc]; exact (he.other (by omega) _).set _
  · rw [cellsR_snoc, show (pre ++ [x]).length = pre.length + 1 by simp]
    exact hrw.kept (grownBy_setCell' _ _ _) (.inr (by simp [Value.ownBlock]; omega))
  · exact (((h.below.alloc h.below.size o).grown hgrow (by simp; have := h.below.size; omega) (fun k e => by have := (h.own e).1; omega)).setCell (p := ⟨w.heap.size + 1 + 1, 0, none⟩) (by simp; omega) _).setCell (p := ⟨w.heap.size + 1 + 1 + 1 + 1, 0, none⟩) (by simp; omega) _
  · have h1 := hgrow.size; have h2 := h.size; simp at h1 ⊢; omega
  · intro t u hu
    exact ((kb hu (by omega)).other (by omega) _).other (by omega) _
end
end Go.Proofs.Ytbpjejjbgdikdaa
