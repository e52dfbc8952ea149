/-
  What the reference's functions number, plus, times, ints return.
-/
import Derived.Test.YtphnpcidndmlnaaC
import Derived.Test.YtphnpcidndmlnaaF
namespace Go.Proofs.Ytphnpcidndmlnaa
open Go.RowKit
set_option linter.unusedSimpArgs false
set_option linter.unusedVariables false

set_option maxHeartbeats 400000 in
theorem rnumber_any (k n s : Int) (t : ByteArray) (w : World) :
    Calls Try.prog 53 #[V k n s t] w fun e w' => e = .returned (.bool (k == 0 || k == 2 || k == 3)) ∧ Below w.heap.size w w' := by
  go_enter Try.func53, Try.ntmps53
  go_wp2
  all_goals
    go_ret
    exact ⟨ret_bool (by simp_all), (Below.refl _ _).alloc (Nat.le_refl _) _⟩

theorem plus_ok (a b : Int) (ha : Is64 a) (hb : Is64 b) : ((decide (0 ≤ a) != decide (0 ≤ b)) || (decide (0 ≤ wrap64 (a + b)) == decide (0 ≤ a))) = inI (a + b) := by
  unfold wrap64 inI Is64 at *
  rw [Bool.eq_iff_iff]; simp only [Bool.or_eq_true, bne_iff_ne, ne_eq, beq_iff_eq, decide_eq_decide, decide_eq_true_eq]; omega
theorem minus_ok (a b : Int) (ha : Is64 a) (hb : Is64 b) : ((decide (0 ≤ a) == decide (0 ≤ b)) || (decide (0 ≤ wrap64 (a - b)) == decide (0 ≤ a))) = inI (a - b) := by
  unfold wrap64 inI Is64 at *
  rw [Bool.eq_iff_iff]; simp only [Bool.or_eq_true, beq_iff_eq, decide_eq_decide, decide_eq_true_eq]; omega

set_option maxHeartbeats 800000 in
theorem rplus_any (a b : Int) (w : World) (ha : Is64 a) (hb : Is64 b) :
    Calls Try.prog 73 #[.int .i64 a, .int .i64 b] w fun e w' => e = .returned (.tuple #[.int .i64 (wrap64 (a + b)), .bool (inI (a + b))]) ∧ w' = w := by
  have H : Hid (((decide (0 ≤ a) != decide (0 ≤ b)) || (decide (0 ≤ wrap64 (a + b)) == decide (0 ≤ a))) = inI (a + b)) := plus_ok a b ha hb
  clear ha hb
  generalize inI (a + b) = r at *
  by_cases h1 : 0 ≤ a <;> by_cases h2 : 0 ≤ b
  · have G : Hid (decide (0 ≤ wrap64 (a + b)) = r) := by show _ = _; rw [← H.out]; simp [h1, h2]
    go_enter Try.func73, Try.ntmps73
    go_wp2
    go_ret2
    exact ⟨tup_ib rfl G.out, rfl⟩
  · have G : Hid (true = r) := by show _ = _; rw [← H.out]; simp [h1, h2]
    go_enter Try.func73, Try.ntmps73
    go_wp2
    go_ret2
    exact ⟨tup_ib rfl G.out, rfl⟩
  · have G : Hid (true = r) := by show _ = _; rw [← H.out]; simp [h1, h2]
    go_enter Try.func73, Try.ntmps73
    go_wp2
    go_ret2
    exact ⟨tup_ib rfl G.out, rfl⟩
  · have G : Hid ((!decide (0 ≤ wrap64 (a + b))) = r) := by show _ = _; rw [← H.out]; simp [h1, h2]
    go_enter Try.func73, Try.ntmps73
    go_wp2
    go_ret2
    exact ⟨tup_ib rfl (by have := G.out; simpa using this), rfl⟩

theorem times_zero (a b : Int) (h : a = 0 ∨ b = 0) : 0 = wrap64 (a * b) ∧ true = inI (a * b) := by
  have : a * b = 0 := by rcases h with rfl | rfl <;> simp
  rw [this]; exact ⟨by decide +kernel, by decide +kernel⟩
theorem least_back (a : Int) (ha : a = -1) : ¬ wrap64 ((wrap64 (a * -9223372036854775808)).tdiv (-9223372036854775808)) = a := by
  subst ha; decide +kernel

set_option maxHeartbeats 1600000 in
theorem rtimes_any (a b : Int) (w : World) (ha : Is64 a) (hb : Is64 b) :
    Calls Try.prog 74 #[.int .i64 a, .int .i64 b] w fun e w' => e = .returned (.tuple #[.int .i64 (wrap64 (a * b)), .bool (inI (a * b))]) ∧ w' = w := by
  by_cases hz : a = 0 ∨ b = 0
  · have HZ := hide (times_zero a b hz)
    by_cases h1 : a = 0
    · have g1 : (a == 0) = true := by simpa using h1
      clear h1 hz
      go_enter Try.func74, Try.ntmps74
      go_wp2
      go_ret2
      exact ⟨tup_ib (unhide HZ).1 (unhide HZ).2, rfl⟩
    · have g1 : (a == 0) = false := by simpa using h1
      have g2 : (b == 0) = true := by simp; omega
      clear h1 hz
      go_enter Try.func74, Try.ntmps74
      go_wp2
      go_ret2
      exact ⟨tup_ib (unhide HZ).1 (unhide HZ).2, rfl⟩
  · have h1 : a ≠ 0 := fun e => hz (Or.inl e)
    have h2 : b ≠ 0 := fun e => hz (Or.inr e)
    have g1 : (a == 0) = false := by simpa using h1
    have g2 : (b == 0) = false := by simpa using h2
    have hb0 : ¬ b = 0 := h2
    have H : Hid (((wrap64 ((wrap64 (a * b)).tdiv b) == a) && !((a == -1) && (b == -9223372036854775808)) && !((b == -1) && (a == -9223372036854775808))) = inI (a * b)) := by
      show _ = _
      by_cases h : wrap64 ((wrap64 (a * b)).tdiv b) = a
      · by_cases hm : a = -9223372036854775808 ∧ b = -1
        · rw [show inI (a * b) = false by rw [hm.1, hm.2]; decide +kernel]; simp [hm.1, hm.2]
        · rw [inI_true (mul_yes a b ha hb h2 h hm)]
          have g3 : ¬ (a = -1 ∧ b = -9223372036854775808) := fun g => least_back a g.1 (by rw [g.2] at h; exact h)
          simp [h]; omega
      · rw [inI_false (mul_no a b ha h2 h)]; simp [h]
    clear hz h1 ha hb h2
    generalize inI (a * b) = r at *
    obtain ⟨c, hc⟩ : ∃ c, wrap64 (a * b) = c := ⟨_, rfl⟩
    rw [hc] at H
    rw [hc]
    obtain ⟨q, hq⟩ : ∃ q, wrap64 (c.tdiv b) = q := ⟨_, rfl⟩
    rw [hq] at H
    cases e1 : (q == a)
    · have G : Hid (false = r) := by show _ = _; rw [← H.out, e1]; rfl
      clear H
      go_enter Try.func74, Try.ntmps74
      go_wp2
      go_ret2
      exact ⟨tup_ib hc G.out, rfl⟩
    · cases e2 : (a == -1) <;> cases e3 : (b == -9223372036854775808) <;> cases e4 : (b == -1) <;> cases e5 : (a == -9223372036854775808)
      all_goals
        first | (have G : Hid (true = r) := (by show _ = _; rw [← H.out, e1, e2, e3, e4, e5]; rfl)) | (have G : Hid (false = r) := (by show _ = _; rw [← H.out, e1, e2, e3, e4, e5]; rfl))
        clear H
        go_enter Try.func74, Try.ntmps74
        go_wp2
        go_ret2
        exact ⟨tup_ib hc G.out, rfl⟩

/-- what is told of two ints -/
def intT (k a b : Int) : Value := if inI (opN k a b) = true then .tuple #[V 2 (wrap64 (opN k a b)) 0 ⟨#[]⟩, .int .i64 0] else .tuple #[V 0 0 0 ⟨#[]⟩, .int .i64 10]

set_option maxHeartbeats 1600000 in
theorem rints_any (k a b : Int) (w : World) (hk : k = 6 ∨ k = 7 ∨ k = 8) (ha : Is64 a) (hb : Is64 b) :
    Calls Try.prog 54 #[.int .i64 k, .int .i64 a, .int .i64 b] w fun e w' => e = .returned (intT k a b) ∧ Below w.heap.size w w' := by
  unfold intT
  rcases hk with rfl | rfl | rfl
  · have C := hide (fun W => rtimes_any a b W ha hb)
    rw [show opN 6 a b = a * b from rfl]
    clear ha hb
    generalize wrap64 (a * b) = c at *
    cases hi : inI (a * b)
    all_goals
      rw [hi] at C
      go_enter Try.func54, Try.ntmps54
      go_wp2_with (go_at_call 74; refine (unhide C _).mono ?_; rintro e w' ⟨rfl, rfl⟩)
    · exact bodyPost_ret (v := .tuple #[V 0 0 0 ⟨#[]⟩, .int .i64 10]) (by simp [results, Try.results54, go_sem]) rfl ⟨rfl, (Below.refl _ _).alloc (Nat.le_refl _) _⟩
    · exact bodyPost_ret (v := .tuple #[V 2 c 0 ⟨#[]⟩, .int .i64 0]) (by simp [results, Try.results54, go_sem]) rfl ⟨rfl, (Below.refl _ _).alloc (Nat.le_refl _) _⟩
  · have C := hide (fun W => rplus_any a b W ha hb)
    rw [show opN 7 a b = a + b from rfl]
    clear ha hb
    generalize wrap64 (a + b) = c at *
    cases hi : inI (a + b)
    all_goals
      rw [hi] at C
      go_enter Try.func54, Try.ntmps54
      go_wp2_with (go_at_call 73; refine (unhide C _).mono ?_; rintro e w' ⟨rfl, rfl⟩)
    · exact bodyPost_ret (v := .tuple #[V 0 0 0 ⟨#[]⟩, .int .i64 10]) (by simp [results, Try.results54, go_sem]) rfl ⟨rfl, (Below.refl _ _).alloc (Nat.le_refl _) _⟩
    · exact bodyPost_ret (v := .tuple #[V 2 c 0 ⟨#[]⟩, .int .i64 0]) (by simp [results, Try.results54, go_sem]) rfl ⟨rfl, (Below.refl _ _).alloc (Nat.le_refl _) _⟩
  · rw [show opN 8 a b = a - b from rfl]
    have H : Hid (((decide (0 ≤ a) == decide (0 ≤ b)) || (decide (0 ≤ wrap64 (a - b)) == decide (0 ≤ a))) = inI (a - b)) := minus_ok a b ha hb
    clear ha hb
    obtain ⟨c, hc⟩ : ∃ c, wrap64 (a - b) = c := ⟨_, rfl⟩
    rw [hc] at H
    rw [hc]
    have HC := hide hc
    cases hi : inI (a - b)
    all_goals
      rw [hi] at H
      by_cases h1 : 0 ≤ a <;> by_cases h2 : 0 ≤ b <;> by_cases h3 : 0 ≤ c
    all_goals
      first | (exfalso; have := H.out; simp [h1, h2, h3] at this; done) | skip
    all_goals
      go_enter Try.func54, Try.ntmps54
      go_wp2
      first
        | exact bodyPost_ret (v := .tuple #[V 0 0 0 ⟨#[]⟩, .int .i64 10]) (by simp [results, Try.results54, go_sem]) rfl ⟨rfl, (Below.refl _ _).alloc (Nat.le_refl _) _⟩
        | exact bodyPost_ret (v := .tuple #[V 2 c 0 ⟨#[]⟩, .int .i64 0]) (by simp [results, Try.results54, go_sem]) rfl ⟨rfl, (Below.refl _ _).alloc (Nat.le_refl _) _⟩
end Go.Proofs.Ytphnpcidndmlnaa
