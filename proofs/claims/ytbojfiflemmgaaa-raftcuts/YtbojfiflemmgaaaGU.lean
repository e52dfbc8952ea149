/-
  A region that draws its order inside a round of a range over a function: by the orders outside of it.
-/
import Derived.Test.YtbojfiflemmgaaaGR
import Derived.Deep.RegionHeld3
namespace Go.Proofs.Ytbojfiflemmgaaa
open Go.RowKit Go.Shelf
set_option linter.unusedSimpArgs false
set_option linter.unusedVariables false

/-- only the ordinary way out -/
def Nrm (K : Act → World → Prop) : Exit → Act → World → Prop
  | .normal, a, w => K a w
  | _, _, _ => False
theorem nrm_no {K : Act → World → Prop} (h : LetsOut (Nrm K)) : False := by obtain ⟨_, _, h⟩ := h; exact h
theorem rowsIn_of {n : Nat} {row : String} {args : Array Value} {w : World} {R : Value → World → Prop} (h : Rows Try.prog row args w R) : RowsIn Fence.wide n Try.prog row args w R :=
  fun c cs _ => by obtain ⟨v, w', r, s⟩ := h c cs; exact ⟨v, w', r, stepsIn_wide.2 s⟩
theorem uponIn_of {L n : Nat} {o : Oper} {a : Act} {next next' : Act → World → Prop} {K : Act → World → Prop} {Q : Exit → Act → World → Prop} (hn : ∀ a w, next a w → next' a w) :
    ∀ r, Oper.upon Try.prog o a next (Nrm K) r → Oper.uponIn (Fence.wide.inRound L) n Try.prog o a next' Q r := by
  intro r h
  match r, h with
  | .ok (.value v) w', h => exact hn _ _ h
  | .ok .skip w', h => exact hn _ _ h
  | .ok (.defer d) w', h => exact hn _ _ h
  | .ok (.enter f args) w', h =>
    refine ⟨fun e => (by cases e), CallsIn.inRound L (callsIn_wide.2 (Calls.mono h ?_))⟩
    intro e w'' he
    match e, he with
    | .returned v, he => exact hn _ _ he
    | .panicked c, he => exact he.elim
    | .outgrown, he => exact (nrm_no he).elim
  | .ok (.row row args) w', h => exact ⟨fun e => (by cases e), rowsIn_of (h.mono fun v w'' hv => hn _ _ hv)⟩
  | .halt (.panic v) w', h => exact h.elim
theorem anyIn_of {L n : Nat} {ops : Array Oper} {K : Act → World → Prop} {Q : Exit → Act → World → Prop} (hdf : ∀ (i : Nat) (o : Oper) c, ops[i]? = some o → o.op ≠ .defer c) (hQ : ∀ a w, K a w → Q .normal a w) :
    ∀ (fuel : Nat) (listed : Array Bool) (a : Act) (w : World), wpAny Try.prog .any ops (Nrm K) fuel listed a w → wpAnyIn (Fence.wide.inRound L) n Try.prog .any ops Q fuel listed a w
  | 0, _, _, _, h => ⟨h.1, hQ _ _ h.2⟩
  | fuel + 1, listed, a, w, h => by
    refine ⟨fun e => hQ _ _ (h.1 e), fun i hi => ?_⟩
    have hop := h.2 i hi
    unfold wpOp at hop
    unfold wpOpIn
    cases ho : ops[i]? with
    | none => rw [ho] at hop; exact anyIn_of hdf hQ fuel _ a w hop
    | some o =>
      rw [ho] at hop
      dsimp only at hop ⊢
      split
      · rename_i hw
        rw [if_pos hw] at hop
        rcases hop with hop | hop
        · refine ⟨fun _ _ => trivial, ?_⟩
          show Oper.uponIn _ _ _ _ _ _ _ ((o.semAt (some L) a.eval).run Try.prog w)
          rw [Oper.semAt_some L _ _ (fun c => hdf i o c ho)]
          exact uponIn_of (fun a' w' h' => anyIn_of hdf hQ fuel _ a' w' h') _ hop
        · exact (nrm_no hop.2).elim
      · rename_i hw
        rw [if_neg hw] at hop
        exact ⟨fun _ _ => trivial, anyIn_of hdf hQ fuel _ _ w hop⟩
theorem region_round {L n id : Nat} {ops : Array Oper} {K : Act → World → Prop} {Q : Exit → Act → World → Prop} {a : Act} {w : World} {S : World → Prop} (hm : Try.prog.follows .mixedOrders = true)
    (hdf : ∀ (i : Nat) (o : Oper) c, ops[i]? = some o → o.op ≠ .defer c) (hQ : ∀ a w, K a w → Q .normal a w) (hS : S w.drew)
    (h : S w.drew → wpAnyH Try.prog .any ops (Nrm K) S ops.size (Array.replicate ops.size false) a w.drew) : (Code.region id ops true).wpIn (Fence.wide.inRound L) n Try.prog Q a w :=
  wpIn_region_any hm (anyIn_of hdf hQ _ _ _ _ (wpAny_of_held _ _ _ _ (h hS)))
def noDefer (ops : Array Oper) : Bool := ops.toList.all (fun o => match o.op with | .defer _ => false | _ => true)
theorem noDefer_ok {ops : Array Oper} (h : noDefer ops = true) : ∀ (i : Nat) (o : Oper) c, ops[i]? = some o → o.op ≠ .defer c := by
  intro i o c ho e
  have hm : o ∈ ops.toList := by
    have := Array.mem_of_getElem? ho
    simpa using this
  have := List.all_eq_true.1 h o hm
  rw [e] at this
  cases this
end Go.Proofs.Ytbojfiflemmgaaa
