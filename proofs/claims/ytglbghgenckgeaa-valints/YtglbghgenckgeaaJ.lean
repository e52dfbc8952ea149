/-
  A region in the order of the text, an operation at a time.
-/
import Derived.WalkKit
namespace Go.Proofs.Ytglbghgenckgeaa
open Go.RowKit
set_option linter.unusedSimpArgs false
set_option linter.unusedVariables false

section
variable {P : Program} {ops : Array Oper} {Q : Exit → Act → World → Prop} {o : Oper} {rest : List Oper} {a : Act} {w : World} {v : Value}
/-- an operation whose guard says no -/
theorem wpl_skip (hw : Region.wanted o (yielded ops a.tmps) = false) (h : wpList P ops Q rest (a.put o.dst undef) w) : wpList P ops Q (o :: rest) a w :=
  wpList_step (fun K hK => by simp only [hw, Bool.false_eq_true, if_false]; exact hK _ _ h)
/-- an operation that yields a value -/
theorem wpl_val (hw : Region.wanted o (yielded ops a.tmps) = true) (hr : (execOp a.eval o).run P w = .ok (.value v) w) (h : wpList P ops Q rest (a.put o.dst v) w) : wpList P ops Q (o :: rest) a w :=
  wpList_step (fun K hK => by simp only [hw, if_true, Oper.wp, hr, Oper.upon]; exact hK _ _ h)
end
end Go.Proofs.Ytglbghgenckgeaa
