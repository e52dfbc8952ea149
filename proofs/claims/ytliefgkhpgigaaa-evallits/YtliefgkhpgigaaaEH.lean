/-
  What package eval's typeOf returns, by kinds, and Type: an expression's type.
-/
import Derived.Test.YtliefgkhpgigaaaEG
import Derived.Test.YtliefgkhpgigaaaEF
namespace Go.Proofs.Ytliefgkhpgigaaa
open Go.RowKit
set_option linter.unusedSimpArgs false
set_option linter.unusedVariables false

def typeR (cs : List C3) (k : Int) (nm : ByteArray) (v1 a b : Int) : Int × Int :=
  if k = 1 then (v1, 0) else if k = 2 then ((colR nm cs).1.2.1, (colR nm cs).2)
  else if k = 3 ∨ k = 13 ∨ k = 14 then typeIfR (logB a && logB b) 1
  else if k = 4 ∨ k = 6 ∨ k = 7 ∨ k = 8 then typeIfR (numBt a && numBt b && matchB a b) (notN a b)
  else if k = 9 ∨ k = 10 ∨ k = 11 ∨ k = 12 then typeIfR (matchB a b) 1
  else if k = 5 then (1, 0) else (0, 0)
theorem below_two (w : World) (o1 o2 : Obj) : Below w.heap.size w ((w.alloc o1).alloc o2) := ((Below.refl _ w).alloc (Nat.le_refl _) _).alloc (by simp) _
set_option maxHeartbeats 1000000 in
theorem typeOf_1 (t0 t2 t3 t4 t5 t6 t7 t8 t9 t10 t11 v lv : Value) (cs : List C3) (nm vt : ByteArray) (v1 v2 v3 a b : Int) (w : World) : Calls Try.prog 38 #[Tab t0 v t2 t3 t4 t5 t6 t7 t8 t9 t10 t11, .agg #[.int .i64 1, .string nm, .int .i64 v1, .int .i64 v2, .int .i64 v3, .string vt, lv], .int .i64 a, .int .i64 b] w fun e W => e = .returned (.tuple #[.int .i64 v1, .int .i64 0]) ∧ Below w.heap.size w W := by
  go_enter Try.func38, Try.ntmps38
  go_wp2
  go_ret2
  exact ⟨rfl, below_two w _ _⟩
set_option maxHeartbeats 1000000 in
theorem typeOf_2 (t0 t2 t3 t4 t5 t6 t7 t8 t9 t10 t11 v lv : Value) (cs : List C3) (nm vt : ByteArray) (v1 v2 v3 a b : Int) (w : World) (hv : ColsOf v cs w) : Calls Try.prog 38 #[Tab t0 v t2 t3 t4 t5 t6 t7 t8 t9 t10 t11, .agg #[.int .i64 2, .string nm, .int .i64 v1, .int .i64 v2, .int .i64 v3, .string vt, lv], .int .i64 a, .int .i64 b] w fun e W => e = .returned (.tuple #[.int .i64 (colR nm cs).1.2.1, .int .i64 (colR nm cs).2]) ∧ Below w.heap.size w W := by
  have C := hide (ofColC_any t0 t2 t3 t4 t5 t6 t7 t8 t9 t10 t11 v cs nm ((w.alloc (.cells #[t0, v, t2, t3, t4, t5, t6, t7, t8, t9, t10, t11] 34)).alloc (.cells #[.int .i64 2, .string nm, .int .i64 v1, .int .i64 v2, .int .i64 v3, .string vt, lv] 31)) (hv.call (below_two w _ _)))
  generalize colR nm cs = cr at *
  clear hv
  go_enter Try.func38, Try.ntmps38
  go_wp2_with (go_at_call 57; refine (unhide C).mono ?_; rintro e W1 ⟨rfl, hb1⟩)
  go_ret2
  have h2 := below_two w (.cells #[t0, v, t2, t3, t4, t5, t6, t7, t8, t9, t10, t11] 34) (.cells #[.int .i64 2, .string nm, .int .i64 v1, .int .i64 v2, .int .i64 v3, .string vt, lv] 31)
  exact ⟨rfl, (h2.trans (hb1.mono h2.size)).alloc (Nat.le_trans h2.size hb1.size) _⟩
set_option maxHeartbeats 1000000 in
theorem typeOf_5 (t0 t2 t3 t4 t5 t6 t7 t8 t9 t10 t11 v lv : Value) (cs : List C3) (nm vt : ByteArray) (v1 v2 v3 a b : Int) (w : World) : Calls Try.prog 38 #[Tab t0 v t2 t3 t4 t5 t6 t7 t8 t9 t10 t11, .agg #[.int .i64 5, .string nm, .int .i64 v1, .int .i64 v2, .int .i64 v3, .string vt, lv], .int .i64 a, .int .i64 b] w fun e W => e = .returned (.tuple #[.int .i64 1, .int .i64 0]) ∧ Below w.heap.size w W := by
  go_enter Try.func38, Try.ntmps38
  go_wp2
  go_ret2
  exact ⟨rfl, below_two w _ _⟩
set_option maxHeartbeats 2000000 in
theorem typeOf_o (t0 t2 t3 t4 t5 t6 t7 t8 t9 t10 t11 v lv : Value) (cs : List C3) (nm vt : ByteArray) (v1 v2 v3 a b : Int) (w : World) (k : Int) (hk : k < 1 ∨ 14 < k) : Calls Try.prog 38 #[Tab t0 v t2 t3 t4 t5 t6 t7 t8 t9 t10 t11, .agg #[.int .i64 k, .string nm, .int .i64 v1, .int .i64 v2, .int .i64 v3, .string vt, lv], .int .i64 a, .int .i64 b] w fun e W => e = .returned (.tuple #[.int .i64 0, .int .i64 0]) ∧ Below w.heap.size w W := by
  have h1 : (k == 1) = false := beq_eq_false_iff_ne.2 (by omega)
  have h2 : (k == 2) = false := beq_eq_false_iff_ne.2 (by omega)
  have h3 : (k == 3) = false := beq_eq_false_iff_ne.2 (by omega)
  have h4 : (k == 4) = false := beq_eq_false_iff_ne.2 (by omega)
  have h5 : (k == 5) = false := beq_eq_false_iff_ne.2 (by omega)
  have h6 : (k == 6) = false := beq_eq_false_iff_ne.2 (by omega)
  have h7 : (k == 7) = false := beq_eq_false_iff_ne.2 (by omega)
  have h8 : (k == 8) = false := beq_eq_false_iff_ne.2 (by omega)
  have h9 : (k == 9) = false := beq_eq_false_iff_ne.2 (by omega)
  have h10 : (k == 10) = false := beq_eq_false_iff_ne.2 (by omega)
  have h11 : (k == 11) = false := beq_eq_false_iff_ne.2 (by omega)
  have h12 : (k == 12) = false := beq_eq_false_iff_ne.2 (by omega)
  have h13 : (k == 13) = false := beq_eq_false_iff_ne.2 (by omega)
  have h14 : (k == 14) = false := beq_eq_false_iff_ne.2 (by omega)
  clear hk
  go_enter Try.func38, Try.ntmps38
  go_wp2
  go_ret2
  exact ⟨rfl, below_two w _ _⟩
set_option maxHeartbeats 1000000 in
theorem typeOf_3 (t0 t2 t3 t4 t5 t6 t7 t8 t9 t10 t11 v lv : Value) (cs : List C3) (nm vt : ByteArray) (v1 v2 v3 a b : Int) (w : World) : Calls Try.prog 38 #[Tab t0 v t2 t3 t4 t5 t6 t7 t8 t9 t10 t11, .agg #[.int .i64 3, .string nm, .int .i64 v1, .int .i64 v2, .int .i64 v3, .string vt, lv], .int .i64 a, .int .i64 b] w fun e W => e = .returned (.tuple #[.int .i64 (typeIfR (logB a && logB b) 1).1, .int .i64 (typeIfR (logB a && logB b) 1).2]) ∧ Below w.heap.size w W := by
  have CA := hide (fun W => logical_any a W)
  have CB := hide (fun W => logical_any b W)
  cases ha : logB a
  · rw [ha] at CA
    have CT := hide (fun W => typeIf_any false 1 W)
    rw [Bool.false_and]
    generalize typeIfR false 1 = tr at *
    go_enter Try.func38, Try.ntmps38
    go_wp2_with (first | (go_at_call 59; refine (unhide CA _).mono ?_; rintro e W1 ⟨rfl, rfl⟩) | (go_at_call 58; refine (unhide CT _).mono ?_; rintro e W1 ⟨rfl, rfl⟩))
    go_ret2
    exact ⟨rfl, below_two w _ _⟩
  · rw [ha] at CA
    rw [Bool.true_and]
    generalize logB b = lb at *
    have CT := hide (fun W => typeIf_any lb 1 W)
    generalize typeIfR lb 1 = tr at *
    go_enter Try.func38, Try.ntmps38
    go_wp2_with (first | (go_at_call_of 59 (Value.int IntKind.i64 a); refine (unhide CA _).mono ?_; clear CA; rintro e W1 ⟨rfl, rfl⟩) | (go_at_call 59; refine (unhide CB _).mono ?_; rintro e W1 ⟨rfl, rfl⟩) | (go_at_call 58; refine (unhide CT _).mono ?_; rintro e W1 ⟨rfl, rfl⟩))
    go_ret2
    exact ⟨rfl, below_two w _ _⟩
set_option maxHeartbeats 1000000 in
theorem typeOf_13 (t0 t2 t3 t4 t5 t6 t7 t8 t9 t10 t11 v lv : Value) (cs : List C3) (nm vt : ByteArray) (v1 v2 v3 a b : Int) (w : World) : Calls Try.prog 38 #[Tab t0 v t2 t3 t4 t5 t6 t7 t8 t9 t10 t11, .agg #[.int .i64 13, .string nm, .int .i64 v1, .int .i64 v2, .int .i64 v3, .string vt, lv], .int .i64 a, .int .i64 b] w fun e W => e = .returned (.tuple #[.int .i64 (typeIfR (logB a && logB b) 1).1, .int .i64 (typeIfR (logB a && logB b) 1).2]) ∧ Below w.heap.size w W := by
  have CA := hide (fun W => logical_any a W)
  have CB := hide (fun W => logical_any b W)
  cases ha : logB a
  · rw [ha] at CA
    have CT := hide (fun W => typeIf_any false 1 W)
    rw [Bool.false_and]
    generalize typeIfR false 1 = tr at *
    go_enter Try.func38, Try.ntmps38
    go_wp2_with (first | (go_at_call 59; refine (unhide CA _).mono ?_; rintro e W1 ⟨rfl, rfl⟩) | (go_at_call 58; refine (unhide CT _).mono ?_; rintro e W1 ⟨rfl, rfl⟩))
    go_ret2
    exact ⟨rfl, below_two w _ _⟩
  · rw [ha] at CA
    rw [Bool.true_and]
    generalize logB b = lb at *
    have CT := hide (fun W => typeIf_any lb 1 W)
    generalize typeIfR lb 1 = tr at *
    go_enter Try.func38, Try.ntmps38
    go_wp2_with (first | (go_at_call_of 59 (Value.int IntKind.i64 a); refine (unhide CA _).mono ?_; clear CA; rintro e W1 ⟨rfl, rfl⟩) | (go_at_call 59; refine (unhide CB _).mono ?_; rintro e W1 ⟨rfl, rfl⟩) | (go_at_call 58; refine (unhide CT _).mono ?_; rintro e W1 ⟨rfl, rfl⟩))
    go_ret2
    exact ⟨rfl, below_two w _ _⟩
set_option maxHeartbeats 1000000 in
theorem typeOf_14 (t0 t2 t3 t4 t5 t6 t7 t8 t9 t10 t11 v lv : Value) (cs : List C3) (nm vt : ByteArray) (v1 v2 v3 a b : Int) (w : World) : Calls Try.prog 38 #[Tab t0 v t2 t3 t4 t5 t6 t7 t8 t9 t10 t11, .agg #[.int .i64 14, .string nm, .int .i64 v1, .int .i64 v2, .int .i64 v3, .string vt, lv], .int .i64 a, .int .i64 b] w fun e W => e = .returned (.tuple #[.int .i64 (typeIfR (logB a && logB b) 1).1, .int .i64 (typeIfR (logB a && logB b) 1).2]) ∧ Below w.heap.size w W := by
  have CA := hide (fun W => logical_any a W)
  have CB := hide (fun W => logical_any b W)
  cases ha : logB a
  · rw [ha] at CA
    have CT := hide (fun W => typeIf_any false 1 W)
    rw [Bool.false_and]
    generalize typeIfR false 1 = tr at *
    go_enter Try.func38, Try.ntmps38
    go_wp2_with (first | (go_at_call 59; refine (unhide CA _).mono ?_; rintro e W1 ⟨rfl, rfl⟩) | (go_at_call 58; refine (unhide CT _).mono ?_; rintro e W1 ⟨rfl, rfl⟩))
    go_ret2
    exact ⟨rfl, below_two w _ _⟩
  · rw [ha] at CA
    rw [Bool.true_and]
    generalize logB b = lb at *
    have CT := hide (fun W => typeIf_any lb 1 W)
    generalize typeIfR lb 1 = tr at *
    go_enter Try.func38, Try.ntmps38
    go_wp2_with (first | (go_at_call_of 59 (Value.int IntKind.i64 a); refine (unhide CA _).mono ?_; clear CA; rintro e W1 ⟨rfl, rfl⟩) | (go_at_call 59; refine (unhide CB _).mono ?_; rintro e W1 ⟨rfl, rfl⟩) | (go_at_call 58; refine (unhide CT _).mono ?_; rintro e W1 ⟨rfl, rfl⟩))
    go_ret2
    exact ⟨rfl, below_two w _ _⟩
set_option maxHeartbeats 1000000 in
theorem typeOf_9 (t0 t2 t3 t4 t5 t6 t7 t8 t9 t10 t11 v lv : Value) (cs : List C3) (nm vt : ByteArray) (v1 v2 v3 a b : Int) (w : World) : Calls Try.prog 38 #[Tab t0 v t2 t3 t4 t5 t6 t7 t8 t9 t10 t11, .agg #[.int .i64 9, .string nm, .int .i64 v1, .int .i64 v2, .int .i64 v3, .string vt, lv], .int .i64 a, .int .i64 b] w fun e W => e = .returned (.tuple #[.int .i64 (typeIfR (matchB a b) 1).1, .int .i64 (typeIfR (matchB a b) 1).2]) ∧ Below w.heap.size w W := by
  have CM := hide (fun W => match_any a b W)
  have CT := hide (fun W => typeIf_any (matchB a b) 1 W)
  generalize matchB a b = mb at *
  generalize typeIfR mb 1 = tr at *
  go_enter Try.func38, Try.ntmps38
  go_wp2_with (first | (go_at_call 61; refine (unhide CM _).mono ?_; rintro e W1 ⟨rfl, rfl⟩) | (go_at_call 58; refine (unhide CT _).mono ?_; rintro e W1 ⟨rfl, rfl⟩))
  go_ret2
  exact ⟨rfl, below_two w _ _⟩
set_option maxHeartbeats 1000000 in
theorem typeOf_10 (t0 t2 t3 t4 t5 t6 t7 t8 t9 t10 t11 v lv : Value) (cs : List C3) (nm vt : ByteArray) (v1 v2 v3 a b : Int) (w : World) : Calls Try.prog 38 #[Tab t0 v t2 t3 t4 t5 t6 t7 t8 t9 t10 t11, .agg #[.int .i64 10, .string nm, .int .i64 v1, .int .i64 v2, .int .i64 v3, .string vt, lv], .int .i64 a, .int .i64 b] w fun e W => e = .returned (.tuple #[.int .i64 (typeIfR (matchB a b) 1).1, .int .i64 (typeIfR (matchB a b) 1).2]) ∧ Below w.heap.size w W := by
  have CM := hide (fun W => match_any a b W)
  have CT := hide (fun W => typeIf_any (matchB a b) 1 W)
  generalize matchB a b = mb at *
  generalize typeIfR mb 1 = tr at *
  go_enter Try.func38, Try.ntmps38
  go_wp2_with (first | (go_at_call 61; refine (unhide CM _).mono ?_; rintro e W1 ⟨rfl, rfl⟩) | (go_at_call 58; refine (unhide CT _).mono ?_; rintro e W1 ⟨rfl, rfl⟩))
  go_ret2
  exact ⟨rfl, below_two w _ _⟩
set_option maxHeartbeats 1000000 in
theorem typeOf_11 (t0 t2 t3 t4 t5 t6 t7 t8 t9 t10 t11 v lv : Value) (cs : List C3) (nm vt : ByteArray) (v1 v2 v3 a b : Int) (w : World) : Calls Try.prog 38 #[Tab t0 v t2 t3 t4 t5 t6 t7 t8 t9 t10 t11, .agg #[.int .i64 11, .string nm, .int .i64 v1, .int .i64 v2, .int .i64 v3, .string vt, lv], .int .i64 a, .int .i64 b] w fun e W => e = .returned (.tuple #[.int .i64 (typeIfR (matchB a b) 1).1, .int .i64 (typeIfR (matchB a b) 1).2]) ∧ Below w.heap.size w W := by
  have CM := hide (fun W => match_any a b W)
  have CT := hide (fun W => typeIf_any (matchB a b) 1 W)
  generalize matchB a b = mb at *
  generalize typeIfR mb 1 = tr at *
  go_enter Try.func38, Try.ntmps38
  go_wp2_with (first | (go_at_call 61; refine (unhide CM _).mono ?_; rintro e W1 ⟨rfl, rfl⟩) | (go_at_call 58; refine (unhide CT _).mono ?_; rintro e W1 ⟨rfl, rfl⟩))
  go_ret2
  exact ⟨rfl, below_two w _ _⟩
set_option maxHeartbeats 1000000 in
theorem typeOf_12 (t0 t2 t3 t4 t5 t6 t7 t8 t9 t10 t11 v lv : Value) (cs : List C3) (nm vt : ByteArray) (v1 v2 v3 a b : Int) (w : World) : Calls Try.prog 38 #[Tab t0 v t2 t3 t4 t5 t6 t7 t8 t9 t10 t11, .agg #[.int .i64 12, .string nm, .int .i64 v1, .int .i64 v2, .int .i64 v3, .string vt, lv], .int .i64 a, .int .i64 b] w fun e W => e = .returned (.tuple #[.int .i64 (typeIfR (matchB a b) 1).1, .int .i64 (typeIfR (matchB a b) 1).2]) ∧ Below w.heap.size w W := by
  have CM := hide (fun W => match_any a b W)
  have CT := hide (fun W => typeIf_any (matchB a b) 1 W)
  generalize matchB a b = mb at *
  generalize typeIfR mb 1 = tr at *
  go_enter Try.func38, Try.ntmps38
  go_wp2_with (first | (go_at_call 61; refine (unhide CM _).mono ?_; rintro e W1 ⟨rfl, rfl⟩) | (go_at_call 58; refine (unhide CT _).mono ?_; rintro e W1 ⟨rfl, rfl⟩))
  go_ret2
  exact ⟨rfl, below_two w _ _⟩
set_option maxHeartbeats 2000000 in
theorem typeOf_4 (t0 t2 t3 t4 t5 t6 t7 t8 t9 t10 t11 v lv : Value) (cs : List C3) (nm vt : ByteArray) (v1 v2 v3 a b : Int) (w : World) : Calls Try.prog 38 #[Tab t0 v t2 t3 t4 t5 t6 t7 t8 t9 t10 t11, .agg #[.int .i64 4, .string nm, .int .i64 v1, .int .i64 v2, .int .i64 v3, .string vt, lv], .int .i64 a, .int .i64 b] w fun e W => e = .returned (.tuple #[.int .i64 (typeIfR (numBt a && numBt b && matchB a b) (notN a b)).1, .int .i64 (typeIfR (numBt a && numBt b && matchB a b) (notN a b)).2]) ∧ Below w.heap.size w W := by
  have CA := hide (fun W => enumeric_any a W)
  have CB := hide (fun W => enumeric_any b W)
  have CM := hide (fun W => match_any a b W)
  have CN := hide (fun W => notNull_any a b W)
  generalize notN a b = nn at *
  generalize matchB a b = mb at *
  cases ha : numBt a
  · rw [ha] at CA
    rw [Bool.false_and, Bool.false_and]
    have CT := hide (fun W => typeIf_any false nn W)
    generalize typeIfR false nn = tr at *
    go_enter Try.func38, Try.ntmps38
    go_wp2_with (first | (go_at_call 60; refine (unhide CA _).mono ?_; rintro e W1 ⟨rfl, rfl⟩) | (go_at_call 62; refine (unhide CN _).mono ?_; rintro e W1 ⟨rfl, rfl⟩) | (go_at_call 58; refine (unhide CT _).mono ?_; rintro e W1 ⟨rfl, rfl⟩))
    go_ret2
    exact ⟨rfl, below_two w _ _⟩
  · rw [ha] at CA
    rw [Bool.true_and]
    cases hb : numBt b
    · rw [hb] at CB
      rw [Bool.false_and]
      have CT := hide (fun W => typeIf_any false nn W)
      generalize typeIfR false nn = tr at *
      go_enter Try.func38, Try.ntmps38
      go_wp2_with (first | (go_at_call_of 60 (Value.int IntKind.i64 a); refine (unhide CA _).mono ?_; clear CA; rintro e W1 ⟨rfl, rfl⟩) | (go_at_call 60; refine (unhide CB _).mono ?_; rintro e W1 ⟨rfl, rfl⟩) | (go_at_call 62; refine (unhide CN _).mono ?_; rintro e W1 ⟨rfl, rfl⟩) | (go_at_call 58; refine (unhide CT _).mono ?_; rintro e W1 ⟨rfl, rfl⟩))
      go_ret2
      exact ⟨rfl, below_two w _ _⟩
    · rw [hb] at CB
      rw [Bool.true_and]
      have CT := hide (fun W => typeIf_any mb nn W)
      generalize typeIfR mb nn = tr at *
      go_enter Try.func38, Try.ntmps38
      go_wp2_with (first | (go_at_call_of 60 (Value.int IntKind.i64 a); refine (unhide CA _).mono ?_; clear CA; rintro e W1 ⟨rfl, rfl⟩) | (go_at_call 60; refine (unhide CB _).mono ?_; rintro e W1 ⟨rfl, rfl⟩) | (go_at_call 61; refine (unhide CM _).mono ?_; rintro e W1 ⟨rfl, rfl⟩) | (go_at_call 62; refine (unhide CN _).mono ?_; rintro e W1 ⟨rfl, rfl⟩) | (go_at_call 58; refine (unhide CT _).mono ?_; rintro e W1 ⟨rfl, rfl⟩))
      go_ret2
      exact ⟨rfl, below_two w _ _⟩
set_option maxHeartbeats 2000000 in
theorem typeOf_6 (t0 t2 t3 t4 t5 t6 t7 t8 t9 t10 t11 v lv : Value) (cs : List C3) (nm vt : ByteArray) (v1 v2 v3 a b : Int) (w : World) : Calls Try.prog 38 #[Tab t0 v t2 t3 t4 t5 t6 t7 t8 t9 t10 t11, .agg #[.int .i64 6, .string nm, .int .i64 v1, .int .i64 v2, .int .i64 v3, .string vt, lv], .int .i64 a, .int .i64 b] w fun e W => e = .returned (.tuple #[.int .i64 (typeIfR (numBt a && numBt b && matchB a b) (notN a b)).1, .int .i64 (typeIfR (numBt a && numBt b && matchB a b) (notN a b)).2]) ∧ Below w.heap.size w W := by
  have CA := hide (fun W => enumeric_any a W)
  have CB := hide (fun W => enumeric_any b W)
  have CM := hide (fun W => match_any a b W)
  have CN := hide (fun W => notNull_any a b W)
  generalize notN a b = nn at *
  generalize matchB a b = mb at *
  cases ha : numBt a
  · rw [ha] at CA
    rw [Bool.false_and, Bool.false_and]
    have CT := hide (fun W => typeIf_any false nn W)
    generalize typeIfR false nn = tr at *
    go_enter Try.func38, Try.ntmps38
    go_wp2_with (first | (go_at_call 60; refine (unhide CA _).mono ?_; rintro e W1 ⟨rfl, rfl⟩) | (go_at_call 62; refine (unhide CN _).mono ?_; rintro e W1 ⟨rfl, rfl⟩) | (go_at_call 58; refine (unhide CT _).mono ?_; rintro e W1 ⟨rfl, rfl⟩))
    go_ret2
    exact ⟨rfl, below_two w _ _⟩
  · rw [ha] at CA
    rw [Bool.true_and]
    cases hb : numBt b
    · rw [hb] at CB
      rw [Bool.false_and]
      have CT := hide (fun W => typeIf_any false nn W)
      generalize typeIfR false nn = tr at *
      go_enter Try.func38, Try.ntmps38
      go_wp2_with (first | (go_at_call_of 60 (Value.int IntKind.i64 a); refine (unhide CA _).mono ?_; clear CA; rintro e W1 ⟨rfl, rfl⟩) | (go_at_call 60; refine (unhide CB _).mono ?_; rintro e W1 ⟨rfl, rfl⟩) | (go_at_call 62; refine (unhide CN _).mono ?_; rintro e W1 ⟨rfl, rfl⟩) | (go_at_call 58; refine (unhide CT _).mono ?_; rintro e W1 ⟨rfl, rfl⟩))
      go_ret2
      exact ⟨rfl, below_two w _ _⟩
    · rw [hb] at CB
      rw [Bool.true_and]
      have CT := hide (fun W => typeIf_any mb nn W)
      generalize typeIfR mb nn = tr at *
      go_enter Try.func38, Try.ntmps38
      go_wp2_with (first | (go_at_call_of 60 (Value.int IntKind.i64 a); refine (unhide CA _).mono ?_; clear CA; rintro e W1 ⟨rfl, rfl⟩) | (go_at_call 60; refine (unhide CB _).mono ?_; rintro e W1 ⟨rfl, rfl⟩) | (go_at_call 61; refine (unhide CM _).mono ?_; rintro e W1 ⟨rfl, rfl⟩) | (go_at_call 62; refine (unhide CN _).mono ?_; rintro e W1 ⟨rfl, rfl⟩) | (go_at_call 58; refine (unhide CT _).mono ?_; rintro e W1 ⟨rfl, rfl⟩))
      go_ret2
      exact ⟨rfl, below_two w _ _⟩
set_option maxHeartbeats 2000000 in
theorem typeOf_7 (t0 t2 t3 t4 t5 t6 t7 t8 t9 t10 t11 v lv : Value) (cs : List C3) (nm vt : ByteArray) (v1 v2 v3 a b : Int) (w : World) : Calls Try.prog 38 #[Tab t0 v t2 t3 t4 t5 t6 t7 t8 t9 t10 t11, .agg #[.int .i64 7, .string nm, .int .i64 v1, .int .i64 v2, .int .i64 v3, .string vt, lv], .int .i64 a, .int .i64 b] w fun e W => e = .returned (.tuple #[.int .i64 (typeIfR (numBt a && numBt b && matchB a b) (notN a b)).1, .int .i64 (typeIfR (numBt a && numBt b && matchB a b) (notN a b)).2]) ∧ Below w.heap.size w W := by
  have CA := hide (fun W => enumeric_any a W)
  have CB := hide (fun W => enumeric_any b W)
  have CM := hide (fun W => match_any a b W)
  have CN := hide (fun W => notNull_any a b W)
  generalize notN a b = nn at *
  generalize matchB a b = mb at *
  cases ha : numBt a
  · rw [ha] at CA
    rw [Bool.false_and, Bool.false_and]
    have CT := hide (fun W => typeIf_any false nn W)
    generalize typeIfR false nn = tr at *
    go_enter Try.func38, Try.ntmps38
    go_wp2_with (first | (go_at_call 60; refine (unhide CA _).mono ?_; rintro e W1 ⟨rfl, rfl⟩) | (go_at_call 62; refine (unhide CN _).mono ?_; rintro e W1 ⟨rfl, rfl⟩) | (go_at_call 58; refine (unhide CT _).mono ?_; rintro e W1 ⟨rfl, rfl⟩))
    go_ret2
    exact ⟨rfl, below_two w _ _⟩
  · rw [ha] at CA
    rw [Bool.true_and]
    cases hb : numBt b
    · rw [hb] at CB
      rw [Bool.false_and]
      have CT := hide (fun W => typeIf_any false nn W)
      generalize typeIfR false nn = tr at *
      go_enter Try.func38, Try.ntmps38
      go_wp2_with (first | (go_at_call_of 60 (Value.int IntKind.i64 a); refine (unhide CA _).mono ?_; clear CA; rintro e W1 ⟨rfl, rfl⟩) | (go_at_call 60; refine (unhide CB _).mono ?_; rintro e W1 ⟨rfl, rfl⟩) | (go_at_call 62; refine (unhide CN _).mono ?_; rintro e W1 ⟨rfl, rfl⟩) | (go_at_call 58; refine (unhide CT _).mono ?_; rintro e W1 ⟨rfl, rfl⟩))
      go_ret2
      exact ⟨rfl, below_two w _ _⟩
    · rw [hb] at CB
      rw [Bool.true_and]
      have CT := hide (fun W => typeIf_any mb nn W)
      generalize typeIfR mb nn = tr at *
      go_enter Try.func38, Try.ntmps38
      go_wp2_with (first | (go_at_call_of 60 (Value.int IntKind.i64 a); refine (unhide CA _).mono ?_; clear CA; rintro e W1 ⟨rfl, rfl⟩) | (go_at_call 60; refine (unhide CB _).mono ?_; rintro e W1 ⟨rfl, rfl⟩) | (go_at_call 61; refine (unhide CM _).mono ?_; rintro e W1 ⟨rfl, rfl⟩) | (go_at_call 62; refine (unhide CN _).mono ?_; rintro e W1 ⟨rfl, rfl⟩) | (go_at_call 58; refine (unhide CT _).mono ?_; rintro e W1 ⟨rfl, rfl⟩))
      go_ret2
      exact ⟨rfl, below_two w _ _⟩
set_option maxHeartbeats 2000000 in
theorem typeOf_8 (t0 t2 t3 t4 t5 t6 t7 t8 t9 t10 t11 v lv : Value) (cs : List C3) (nm vt : ByteArray) (v1 v2 v3 a b : Int) (w : World) : Calls Try.prog 38 #[Tab t0 v t2 t3 t4 t5 t6 t7 t8 t9 t10 t11, .agg #[.int .i64 8, .string nm, .int .i64 v1, .int .i64 v2, .int .i64 v3, .string vt, lv], .int .i64 a, .int .i64 b] w fun e W => e = .returned (.tuple #[.int .i64 (typeIfR (numBt a && numBt b && matchB a b) (notN a b)).1, .int .i64 (typeIfR (numBt a && numBt b && matchB a b) (notN a b)).2]) ∧ Below w.heap.size w W := by
  have CA := hide (fun W => enumeric_any a W)
  have CB := hide (fun W => enumeric_any b W)
  have CM := hide (fun W => match_any a b W)
  have CN := hide (fun W => notNull_any a b W)
  generalize notN a b = nn at *
  generalize matchB a b = mb at *
  cases ha : numBt a
  · rw [ha] at CA
    rw [Bool.false_and, Bool.false_and]
    have CT := hide (fun W => typeIf_any false nn W)
    generalize typeIfR false nn = tr at *
    go_enter Try.func38, Try.ntmps38
    go_wp2_with (first | (go_at_call 60; refine (unhide CA _).mono ?_; rintro e W1 ⟨rfl, rfl⟩) | (go_at_call 62; refine (unhide CN _).mono ?_; rintro e W1 ⟨rfl, rfl⟩) | (go_at_call 58; refine (unhide CT _).mono ?_; rintro e W1 ⟨rfl, rfl⟩))
    go_ret2
    exact ⟨rfl, below_two w _ _⟩
  · rw [ha] at CA
    rw [Bool.true_and]
    cases hb : numBt b
    · rw [hb] at CB
      rw [Bool.false_and]
      have CT := hide (fun W => typeIf_any false nn W)
      generalize typeIfR false nn = tr at *
      go_enter Try.func38, Try.ntmps38
      go_wp2_with (first | (go_at_call_of 60 (Value.int IntKind.i64 a); refine (unhide CA _).mono ?_; clear CA; rintro e W1 ⟨rfl, rfl⟩) | (go_at_call 60; refine (unhide CB _).mono ?_; rintro e W1 ⟨rfl, rfl⟩) | (go_at_call 62; refine (unhide CN _).mono ?_; rintro e W1 ⟨rfl, rfl⟩) | (go_at_call 58; refine (unhide CT _).mono ?_; rintro e W1 ⟨rfl, rfl⟩))
      go_ret2
      exact ⟨rfl, below_two w _ _⟩
    · rw [hb] at CB
      rw [Bool.true_and]
      have CT := hide (fun W => typeIf_any mb nn W)
      generalize typeIfR mb nn = tr at *
      go_enter Try.func38, Try.ntmps38
      go_wp2_with (first | (go_at_call_of 60 (Value.int IntKind.i64 a); refine (unhide CA _).mono ?_; clear CA; rintro e W1 ⟨rfl, rfl⟩) | (go_at_call 60; refine (unhide CB _).mono ?_; rintro e W1 ⟨rfl, rfl⟩) | (go_at_call 61; refine (unhide CM _).mono ?_; rintro e W1 ⟨rfl, rfl⟩) | (go_at_call 62; refine (unhide CN _).mono ?_; rintro e W1 ⟨rfl, rfl⟩) | (go_at_call 58; refine (unhide CT _).mono ?_; rintro e W1 ⟨rfl, rfl⟩))
      go_ret2
      exact ⟨rfl, below_two w _ _⟩

theorem typeOf_any (t0 t2 t3 t4 t5 t6 t7 t8 t9 t10 t11 v lv : Value) (cs : List C3) (nm vt : ByteArray) (v1 v2 v3 a b : Int) (w : World) (k : Int) (hv : ColsOf v cs w) : Calls Try.prog 38 #[Tab t0 v t2 t3 t4 t5 t6 t7 t8 t9 t10 t11, .agg #[.int .i64 k, .string nm, .int .i64 v1, .int .i64 v2, .int .i64 v3, .string vt, lv], .int .i64 a, .int .i64 b] w fun e W => e = .returned (.tuple #[.int .i64 (typeR cs k nm v1 a b).1, .int .i64 (typeR cs k nm v1 a b).2]) ∧ Below w.heap.size w W := by
  have hd : (k < 1 ∨ 14 < k) ∨ k = 1 ∨ k = 2 ∨ k = 3 ∨ k = 4 ∨ k = 5 ∨ k = 6 ∨ k = 7 ∨ k = 8 ∨ k = 9 ∨ k = 10 ∨ k = 11 ∨ k = 12 ∨ k = 13 ∨ k = 14 := by omega
  rcases hd with hd | rfl | rfl | rfl | rfl | rfl | rfl | rfl | rfl | rfl | rfl | rfl | rfl | rfl | rfl
  · have e : typeR cs k nm v1 a b = (0, 0) := by
      unfold typeR
      rw [if_neg (by omega), if_neg (by omega), if_neg (by omega), if_neg (by omega), if_neg (by omega), if_neg (by omega)]
    rw [e]; exact typeOf_o t0 t2 t3 t4 t5 t6 t7 t8 t9 t10 t11 v lv cs nm vt v1 v2 v3 a b w k hd
  · exact typeOf_1 t0 t2 t3 t4 t5 t6 t7 t8 t9 t10 t11 v lv cs nm vt v1 v2 v3 a b w
  · exact typeOf_2 t0 t2 t3 t4 t5 t6 t7 t8 t9 t10 t11 v lv cs nm vt v1 v2 v3 a b w hv
  · exact typeOf_3 t0 t2 t3 t4 t5 t6 t7 t8 t9 t10 t11 v lv cs nm vt v1 v2 v3 a b w
  · exact typeOf_4 t0 t2 t3 t4 t5 t6 t7 t8 t9 t10 t11 v lv cs nm vt v1 v2 v3 a b w
  · exact typeOf_5 t0 t2 t3 t4 t5 t6 t7 t8 t9 t10 t11 v lv cs nm vt v1 v2 v3 a b w
  · exact typeOf_6 t0 t2 t3 t4 t5 t6 t7 t8 t9 t10 t11 v lv cs nm vt v1 v2 v3 a b w
  · exact typeOf_7 t0 t2 t3 t4 t5 t6 t7 t8 t9 t10 t11 v lv cs nm vt v1 v2 v3 a b w
  · exact typeOf_8 t0 t2 t3 t4 t5 t6 t7 t8 t9 t10 t11 v lv cs nm vt v1 v2 v3 a b w
  · exact typeOf_9 t0 t2 t3 t4 t5 t6 t7 t8 t9 t10 t11 v lv cs nm vt v1 v2 v3 a b w
  · exact typeOf_10 t0 t2 t3 t4 t5 t6 t7 t8 t9 t10 t11 v lv cs nm vt v1 v2 v3 a b w
  · exact typeOf_11 t0 t2 t3 t4 t5 t6 t7 t8 t9 t10 t11 v lv cs nm vt v1 v2 v3 a b w
  · exact typeOf_12 t0 t2 t3 t4 t5 t6 t7 t8 t9 t10 t11 v lv cs nm vt v1 v2 v3 a b w
  · exact typeOf_13 t0 t2 t3 t4 t5 t6 t7 t8 t9 t10 t11 v lv cs nm vt v1 v2 v3 a b w
  · exact typeOf_14 t0 t2 t3 t4 t5 t6 t7 t8 t9 t10 t11 v lv cs nm vt v1 v2 v3 a b w
end Go.Proofs.Ytliefgkhpgigaaa
