/-
  Package raft's Handle of an MVote, an MVoted.
-/
import Derived.Test.YtbojfiflemmgaaaHE
namespace Go.Proofs.Ytbojfiflemmgaaa
open Go.RowKit
set_option linter.unusedSimpArgs false
set_option linter.unusedVariables false

/-- raft.Handle of an MVote, an MVoted that can come, of whatever term -/
theorem handle12_any (q0 : Q5) (n : Nd) (m : Ms) (p : Option Addr) (c : Nat) (W : World) (h : SeesN q0 n W) (f : Fit n) (hm : May n m) (hk : m.kind = 1 ∨ m.kind = 2) (ht : m.term ≤ 1099511627776) (hlg : n.log.length < 500000) :
    Calls Try.prog 16 #[.agg (ndA n q0), .agg (msA m (.slice p m.ents.length c))] W fun e W' => ∃ q sv es, e = .returned (.tuple #[.agg (ndA (handleM n m).1 q), sv]) ∧ Out (handleM n m).1 (handleM n m).2 q sv es W W' := by
  refine handleC_any q0 n m p c W _ _ h f (fun b q W1 h1 => takes_any b q _ n [] m p c W1 h1 hm (by rcases hk with e | e <;> rw [e] <;> omega)) (fun b q W1 h1 _ _ => ?_)
  have hfr := hm.frm
  obtain ⟨kd, fr, to, tm, ix, lt, ok, ents, cm, fm⟩ := m
  simp only at hk ht hfr
  rcases hk with rfl | rfl
  · by_cases hh : n.term < tm
    · exact handle1h_any b q _ n [] fr to tm ix lt ok ents cm fm p c W1 h1 f ht hh hfr hlg (by simp)
    · exact handle1n_any b q _ n [] fr to tm ix lt ok ents cm fm p c W1 h1 f ht hh hfr hlg (by simp)
  · by_cases hh : n.term < tm
    · exact handle2h_any b q _ n [] fr to tm ix lt ok ents cm fm p c W1 h1 f ht hh hfr hlg (by simp)
    · exact handle2n_any b q _ n [] fr to tm ix lt ok ents cm fm p c W1 h1 f ht hh hfr hlg (by simp)
end Go.Proofs.Ytbojfiflemmgaaa
