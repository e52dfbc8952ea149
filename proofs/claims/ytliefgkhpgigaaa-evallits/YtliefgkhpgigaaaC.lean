/-
  What val.Norm and the reference's Norm return: for every value.
-/
import Derived.Test.YtliefgkhpgigaaaB
namespace Go.Proofs.Ytliefgkhpgigaaa
open Go.RowKit
set_option linter.unusedSimpArgs false
set_option linter.unusedVariables false

/-- the last noughts taken away, s times at most -/
def normS : Nat → Int → Int × Int
  | 0, n => (n, 0)
  | k + 1, n => if n.tmod 10 = 0 then normS k (n.tdiv 10) else (n, k + 1)
def normN (n s : Int) : Int := if s ≤ 0 then n else (normS s.toNat n).1
def normC (n s : Int) : Int := if s ≤ 0 then s else (normS s.toNat n).2
def SameNorm (n s n' s' : Int) : Prop := normN n' s' = normN n s ∧ normC n' s' = normC n s

theorem normS_zero (k : Nat) : normS k 0 = (0, 0) := by
  induction k with
  | zero => rfl
  | succ k ih => unfold normS; rw [if_pos (by decide)]; exact ih
theorem norm_done {n s : Int} (h : s ≤ 0 ∨ n.tmod 10 ≠ 0) : normN n s = n ∧ normC n s = s := by
  unfold normN normC
  by_cases hs : s ≤ 0
  · rw [if_pos hs, if_pos hs]; exact ⟨rfl, rfl⟩
  · have hm : n.tmod 10 ≠ 0 := by rcases h with h | h; exact absurd h hs; exact h
    obtain ⟨k, hk⟩ : ∃ k : Nat, s = k + 1 := ⟨(s - 1).toNat, by omega⟩
    subst hk
    rw [if_neg hs, if_neg hs, show ((k : Int) + 1).toNat = k + 1 by omega]
    unfold normS; rw [if_neg hm]; exact ⟨rfl, by simp⟩
theorem norm_step {n s : Int} (hs : 0 < s) (hm : n.tmod 10 = 0) : SameNorm n s (n.tdiv 10) (s - 1) := by
  obtain ⟨k, hk⟩ : ∃ k : Nat, s = k + 1 := ⟨(s - 1).toNat, by omega⟩
  subst hk
  unfold SameNorm normN normC
  rw [if_neg (show ¬ ((k : Int) + 1 ≤ 0) by omega), if_neg (show ¬ ((k : Int) + 1 ≤ 0) by omega), show ((k : Int) + 1).toNat = k + 1 by omega, show ((k : Int) + 1 - 1) = k by omega]
  have e : normS (k + 1) n = normS k (n.tdiv 10) := by rw [normS, if_pos hm]
  rw [e]
  by_cases h0 : (k : Int) ≤ 0
  · have : k = 0 := by omega
    subst this; exact ⟨rfl, rfl⟩
  · rw [if_neg h0, if_neg h0, show ((k : Int)).toNat = k by omega]; exact ⟨rfl, rfl⟩
theorem same_refl (n s : Int) : SameNorm n s n s := ⟨rfl, rfl⟩
theorem same_trans {n s a b c d : Int} (h : SameNorm n s a b) (g : SameNorm a b c d) : SameNorm n s c d := ⟨g.1.trans h.1, g.2.trans h.2⟩
theorem norm_zero {s : Int} (h : 0 < s) : normN 0 s = 0 ∧ normC 0 s = 0 := by
  unfold normN normC; rw [if_neg (by omega), if_neg (by omega), normS_zero]; exact ⟨rfl, rfl⟩
theorem tdiv_ten_bd {n : Int} (h : Is64 n) : Is64 (n.tdiv 10) := by
  have h1 : (n.tdiv 10).natAbs = n.natAbs / 10 := Int.natAbs_tdiv n 10
  unfold Is64 at *; omega
theorem retV {k n s n' s' : Int} {t : ByteArray} (h1 : n = n') (h2 : s = s') : Ending.returned (V k n s t) = .returned (V k n' s' t) := by rw [h1, h2]

/-- the scale that lies in the third cell of a block -/
def scaleAt (b : Nat) (W : World) : Nat := match W.cell? ⟨b, 2, none⟩ with | some (.int _ q) => q.toNat | _ => 0

set_option maxHeartbeats 400000 in
theorem norm_other (k n s : Int) (t : ByteArray) (w : World) (h3 : k ≠ 3) :
    Calls Try.prog 94 #[V k n s t] w fun e w' => e = .returned (V k n s t) ∧ Below w.heap.size w w' := by
  have hB : (k != 3) = true := bne_iff_ne.2 h3
  clear h3
  go_enter Try.func94, Try.ntmps94
  go_wp2
  exact bodyPost_ret (v := V k n s t) (by simp [results, Try.results94, go_sem]) rfl ⟨rfl, ((Below.refl _ _).alloc (Nat.le_refl _) _).alloc (by simp) _⟩

set_option maxHeartbeats 800000 in
theorem norm_dec (n s : Int) (t : ByteArray) (w : World) (hn : Is64 n) (hs : Is64 s) :
    Calls Try.prog 94 #[V 3 n s t] w fun e w' => e = .returned (V 3 (normN n s) (normC n s) t) ∧ Below w.heap.size w w' := by
  by_cases h0 : n = 0
  · subst h0
    by_cases hp : 0 < s
    · have HZ : Hid (normN 0 s = 0 ∧ normC 0 s = 0) := norm_zero hp
      go_enter Try.func94, Try.ntmps94
      go_wp2
      refine wp_loop_rounds 1 ?_
      rw [rounds_succ]
      go_wp2
      refine bodyPost_ret (v := V 3 0 0 t) (by simp [results, Try.results94, go_sem]) rfl ⟨retV HZ.out.1.symm HZ.out.2.symm, ((Below.refl _ _).alloc (Nat.le_refl _) _).alloc (by simp) _⟩
    · have HZ : Hid (normN 0 s = 0 ∧ normC 0 s = s) := norm_done (Or.inl (by omega))
      go_enter Try.func94, Try.ntmps94
      go_wp2
      refine wp_loop_rounds 1 ?_
      rw [rounds_succ]
      go_wp2
      refine bodyPost_ret (v := V 3 0 s t) (by simp [results, Try.results94, go_sem]) rfl ⟨retV HZ.out.1.symm HZ.out.2.symm, ((Below.refl _ _).alloc (Nat.le_refl _) _).alloc (by simp) _⟩
  · have hB : (n == 0) = false := by simpa using h0
    clear h0
    go_enter Try.func94, Try.ntmps94
    go_wp2
    go_loopw [] (fun W => ∃ n' s' : Int, Is64 n' ∧ Is64 s' ∧ SameNorm n s n' s' ∧ W = (w.alloc (.cells #[.int .i64 3, .int .i64 n', .int .i64 s', .string t] 28)).alloc (.cells #[.int .i64 0, .int .i64 0, .int .i64 0, .string ByteArray.empty] 28)) (fun W => scaleAt w.heap.size W)
    case atStart => exact ⟨n, s, hn, hs, same_refl n s, rfl⟩
    case round =>
      obtain ⟨n', s', hn', hs', hsame, rfl⟩ := hrel
      have HS : Hid (SameNorm n s n' s') := hsame
      clear hsame
      by_cases hc : 0 < s'
      · cases hd : (n'.tmod 10 == 0)
        · have HD : Hid (normN n' s' = n' ∧ normC n' s' = s') := norm_done (Or.inr (by simpa using hd))
          go_wp2
          exact bodyPost_ret (v := V 3 n' s' t) (by simp [results, Try.results94, go_sem]) rfl ⟨retV (HD.out.1.symm.trans HS.out.1) (HD.out.2.symm.trans HS.out.2), ((Below.refl _ _).alloc (Nat.le_refl _) _).alloc (by simp) _⟩
        · have HD : Hid (SameNorm n' s' (n'.tdiv 10) (s' - 1)) := norm_step hc (by simpa using hd)
          have hq := tdiv_ten_bd hn'
          go_wp2
          refine ⟨⟨n'.tdiv 10, s' - 1, hq, by unfold Is64 at *; omega, same_trans HS.out HD.out, rfl⟩, ?_⟩
          simp [scaleAt, go_sem]; omega
      · have HD : Hid (normN n' s' = n' ∧ normC n' s' = s') := norm_done (Or.inl (by omega))
        go_wp2
        exact bodyPost_ret (v := V 3 n' s' t) (by simp [results, Try.results94, go_sem]) rfl ⟨retV (HD.out.1.symm.trans HS.out.1) (HD.out.2.symm.trans HS.out.2), ((Below.refl _ _).alloc (Nat.le_refl _) _).alloc (by simp) _⟩

set_option maxHeartbeats 400000 in
theorem rnorm_other (k n s : Int) (t : ByteArray) (w : World) (h3 : k ≠ 3) :
    Calls Try.prog 64 #[V k n s t] w fun e w' => e = .returned (V k n s t) ∧ Below w.heap.size w w' := by
  have hB : (k == 3) = false := by simpa using h3
  clear h3
  go_enter Try.func64, Try.ntmps64
  go_wp2
  refine wp_loop_rounds 1 ?_
  rw [rounds_succ]
  go_wp2
  exact bodyPost_ret (v := V k n s t) (by simp [results, Try.results64, go_sem]) rfl ⟨rfl, ((Below.refl _ _).alloc (Nat.le_refl _) _).alloc (by simp) _⟩

set_option maxHeartbeats 800000 in
theorem rnorm_dec (n s : Int) (t : ByteArray) (w : World) (hn : Is64 n) (hs : Is64 s) :
    Calls Try.prog 64 #[V 3 n s t] w fun e w' => e = .returned (V 3 (normN n s) (normC n s) t) ∧ Below w.heap.size w w' := by
  by_cases h0 : n = 0
  · subst h0
    by_cases hp : 0 < s
    · have HZ : Hid (normN 0 s = 0 ∧ normC 0 s = 0) := norm_zero hp
      go_enter Try.func64, Try.ntmps64
      go_wp2
      refine wp_loop_rounds 1 ?_
      rw [rounds_succ]
      go_wp2
      refine bodyPost_ret (v := V 3 0 0 t) (by simp [results, Try.results64, go_sem]) rfl ⟨retV HZ.out.1.symm HZ.out.2.symm, ((Below.refl _ _).alloc (Nat.le_refl _) _).alloc (by simp) _⟩
    · have HZ : Hid (normN 0 s = 0 ∧ normC 0 s = s) := norm_done (Or.inl (by omega))
      go_enter Try.func64, Try.ntmps64
      go_wp2
      refine wp_loop_rounds 1 ?_
      rw [rounds_succ]
      go_wp2
      refine bodyPost_ret (v := V 3 0 s t) (by simp [results, Try.results64, go_sem]) rfl ⟨retV HZ.out.1.symm HZ.out.2.symm, ((Below.refl _ _).alloc (Nat.le_refl _) _).alloc (by simp) _⟩
  · have hB : (n == 0) = false := by simpa using h0
    clear h0
    by_cases hp : 0 < s
    all_goals
      go_enter Try.func64, Try.ntmps64
      go_wp2
      go_loopw [] (fun W => ∃ n' s' : Int, Is64 n' ∧ Is64 s' ∧ SameNorm n s n' s' ∧ W = (w.alloc (.cells #[.int .i64 3, .int .i64 n', .int .i64 s', .string t] 28)).alloc (.cells #[.int .i64 0, .int .i64 0, .int .i64 0, .string ByteArray.empty] 28)) (fun W => scaleAt w.heap.size W)
      case atStart => exact ⟨n, s, hn, hs, same_refl n s, rfl⟩
      case round =>
        obtain ⟨n', s', hn', hs', hsame, rfl⟩ := hrel
        have HS : Hid (SameNorm n s n' s') := hsame
        clear hsame
        by_cases hc : 0 < s'
        · cases hd : (n'.tmod 10 == 0)
          · have HD : Hid (normN n' s' = n' ∧ normC n' s' = s') := norm_done (Or.inr (by simpa using hd))
            go_wp2
            exact bodyPost_ret (v := V 3 n' s' t) (by simp [results, Try.results64, go_sem]) rfl ⟨retV (HD.out.1.symm.trans HS.out.1) (HD.out.2.symm.trans HS.out.2), ((Below.refl _ _).alloc (Nat.le_refl _) _).alloc (by simp) _⟩
          · have HD : Hid (SameNorm n' s' (n'.tdiv 10) (s' - 1)) := norm_step hc (by simpa using hd)
            have hq := tdiv_ten_bd hn'
            go_wp2
            refine ⟨⟨n'.tdiv 10, s' - 1, hq, by unfold Is64 at *; omega, same_trans HS.out HD.out, rfl⟩, ?_⟩
            simp [scaleAt, go_sem]; omega
        · have HD : Hid (normN n' s' = n' ∧ normC n' s' = s') := norm_done (Or.inl (by omega))
          go_wp2
          exact bodyPost_ret (v := V 3 n' s' t) (by simp [results, Try.results64, go_sem]) rfl ⟨retV (HD.out.1.symm.trans HS.out.1) (HD.out.2.symm.trans HS.out.2), ((Below.refl _ _).alloc (Nat.le_refl _) _).alloc (by simp) _⟩

def nN (k n s : Int) : Int := if k = 3 then normN n s else n
def nS (k n s : Int) : Int := if k = 3 then normC n s else s
theorem norm_any (k n s : Int) (t : ByteArray) (w : World) (hn : Is64 n) (hs : Is64 s) :
    Calls Try.prog 94 #[V k n s t] w fun e w' => e = .returned (V k (nN k n s) (nS k n s) t) ∧ Below w.heap.size w w' := by
  unfold nN nS
  by_cases h3 : k = 3
  · subst h3; rw [if_pos rfl, if_pos rfl]; exact norm_dec n s t w hn hs
  · rw [if_neg h3, if_neg h3]; exact norm_other k n s t w h3
theorem rnorm_any (k n s : Int) (t : ByteArray) (w : World) (hn : Is64 n) (hs : Is64 s) :
    Calls Try.prog 64 #[V k n s t] w fun e w' => e = .returned (V k (nN k n s) (nS k n s) t) ∧ Below w.heap.size w w' := by
  unfold nN nS
  by_cases h3 : k = 3
  · subst h3; rw [if_pos rfl, if_pos rfl]; exact rnorm_dec n s t w hn hs
  · rw [if_neg h3, if_neg h3]; exact rnorm_other k n s t w h3
end Go.Proofs.Ytliefgkhpgigaaa
