/-
  What package eval's compared returns, of any answers of val.Same and val.Less.
-/
import Derived.Test.YtliefgkhpgigaaaER
namespace Go.Proofs.Ytliefgkhpgigaaa
open Go.RowKit
set_option linter.unusedSimpArgs false
set_option linter.unusedVariables false

def cmpT (k : Int) (kn bs bl : Bool) : Int := if kn = false then 0 else if k = 9 then truI bs else if k = 10 then truI (!bs) else if k = 11 then truI bl else truI (bl || bs)
set_option maxHeartbeats 2000000 in
theorem compared_of (k : Int) (a b : V4) (kn bs bl k2 : Bool) (w : World)
    (hS : ∀ W, Calls Try.prog 86 #[.agg (vC a).toArray, .agg (vC b).toArray] W fun e W' => e = .returned (.tuple #[.bool bs, .bool kn]) ∧ Below W.heap.size W W')
    (hL : ∀ W, Calls Try.prog 87 #[.agg (vC a).toArray, .agg (vC b).toArray] W fun e W' => e = .returned (.tuple #[.bool bl, .bool k2]) ∧ Below W.heap.size W W') :
    Calls Try.prog 80 #[.int .i64 k, .agg (vC a).toArray, .agg (vC b).toArray] w fun e W => e = .returned (.int .i64 (cmpT k kn bs bl)) ∧ Below w.heap.size w W := by
  have CS := hide hS
  have CL := hide hL
  have CT := hide (fun p W => truthIf_any p W)
  clear hS hL
  go_enter Try.func80, Try.ntmps80
  go_wp2_with fail
  refine (unhide CS _).mono ?_
  rintro e W1 ⟨rfl, hb1⟩
  have h1 := bb_call (bb_new w a b) hb1
  have H1 := hide h1
  obtain ⟨-, ha, hb⟩ := h1
  have x0 := cell_of_row _ _ 0 _ _ _ ha
  have x1 := cell_of_row _ _ 1 _ _ _ ha
  have x2 := cell_of_row _ _ 2 _ _ _ ha
  have x3 := cell_of_row _ _ 3 _ _ _ ha
  have y0 := cell_of_row _ _ 0 _ _ _ hb
  have y1 := cell_of_row _ _ 1 _ _ _ hb
  have y2 := cell_of_row _ _ 2 _ _ _ hb
  have y3 := cell_of_row _ _ 3 _ _ _ hb
  have l0 := (Array.getElem?_eq_some_iff.1 ha).1
  have l1 := (Array.getElem?_eq_some_iff.1 hb).1
  simp at x0 x1 x2 x3 y0 y1 y2 y3
  clear ha hb hb1
  go_wp2_with fail
  refine (unhide CL _).mono ?_
  rintro e W2 ⟨rfl, hb2⟩
  have H2 := hide (bb_call (unhide H1) hb2)
  clear x0 x1 x2 x3 y0 y1 y2 y3 hb2 H1 l0 l1
  cases kn
  · clear CS CL CT
    go_wp2_with fail
    go_ret
    exact ⟨rfl, (unhide H2).1⟩
  · clear CS CL
    by_cases h9 : k = 9
    · subst h9
      go_wp2_with (go_at_call 72; refine (unhide CT _ _).mono ?_; rintro e W3 ⟨rfl, rfl⟩)
      go_ret
      exact ⟨rfl, (unhide H2).1⟩
    by_cases h10 : k = 10
    · subst h10
      go_wp2_with (go_at_call 72; refine (unhide CT _ _).mono ?_; rintro e W3 ⟨rfl, rfl⟩)
      go_ret
      exact ⟨rfl, (unhide H2).1⟩
    by_cases h11 : k = 11
    · subst h11
      go_wp2_with (go_at_call 72; refine (unhide CT _ _).mono ?_; rintro e W3 ⟨rfl, rfl⟩)
      go_ret
      exact ⟨rfl, (unhide H2).1⟩
    have HR : Hid (cmpT k true bs bl = truI (bl || bs)) := by
      show _ = _
      unfold cmpT
      rw [if_neg (by decide), if_neg h9, if_neg h10, if_neg h11]
    have e9 : (k == 9) = false := beq_eq_false_iff_ne.2 h9
    have e10 : (k == 10) = false := beq_eq_false_iff_ne.2 h10
    have e11 : (k == 11) = false := beq_eq_false_iff_ne.2 h11
    clear h9 h10 h11
    cases bl
    · cases bs
      all_goals
        go_wp2_with (go_at_call 72; refine (unhide CT _ _).mono ?_; rintro e W3 ⟨rfl, rfl⟩)
        go_ret
        exact ⟨by rw [HR.out]; rfl, (unhide H2).1⟩
    · cases bs
      all_goals
        go_wp2_with (go_at_call 72; refine (unhide CT _ _).mono ?_; rintro e W3 ⟨rfl, rfl⟩)
        go_ret
        exact ⟨by rw [HR.out]; rfl, (unhide H2).1⟩
end Go.Proofs.Ytliefgkhpgigaaa
