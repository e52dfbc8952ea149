/-
  The statements' within; a node alone; the statements' known.
-/
import Derived.Test.YtbojfiflemmgaaaGJ
namespace Go.Proofs.Ytbojfiflemmgaaa
open Go.RowKit
set_option linter.unusedSimpArgs false
set_option linter.unusedVariables false

def Is64 (x : Int) : Prop := -9223372036854775808 ≤ x ∧ x ≤ 9223372036854775807
theorem wrap64_is (n : Int) (h : Is64 n) : wrap64 n = n := by unfold wrap64; unfold Is64 at h; omega
theorem tmod_lt8 (a n : Int) (hn : 0 < n) (h : a.tmod n < 0) : a.tmod n + n = a % n ∧ -n < a.tmod n := by
  have h1 := Int.tmod_eq_emod (a := a) (b := n)
  have h2 := Int.emod_nonneg a (show n ≠ 0 by omega)
  have h3 := Int.emod_lt_of_pos a hn
  rw [h1] at h ⊢
  split at h <;> rename_i hc
  · omega
  · rw [if_neg hc]; constructor <;> omega
theorem tmod_ge8 (a n : Int) (hn : 0 < n) (h : 0 ≤ a.tmod n) : a.tmod n = a % n := by
  have h1 := Int.tmod_eq_emod (a := a) (b := n)
  have h2 := Int.emod_nonneg a (show n ≠ 0 by omega)
  have h3 := Int.emod_lt_of_pos a hn
  rw [h1] at h ⊢
  split at h <;> rename_i hc
  · rw [if_pos hc]; omega
  · exfalso; omega
theorem within8_any (x n : Int) (w : World) (hx : Is64 x) (hn : 0 < n ∧ n ≤ 9223372036854775807) :
    Calls Try.prog 14 #[.int .i64 x, .int .i64 n] w fun e w' => e = .returned (.int .i64 (x % n)) ∧ w' = w := by
  have hb := Int.emod_lt_of_pos x hn.1
  have hb' := Int.emod_nonneg x (show n ≠ 0 by omega)
  have hlt := tmod_lt8 x n hn.1
  have hge := tmod_ge8 x n hn.1
  have H1 : Hid (x.tmod n < 0 → x.tmod n + n = x % n ∧ -n < x.tmod n) := hlt
  have H2 : Hid (0 ≤ x.tmod n → x.tmod n = x % n) := hge
  clear hlt hge
  go_enter Try.func14, Try.ntmps14
  go_wp2
  · go_ret
    refine ⟨ret_int ?_, rfl⟩
    have := H1.out ‹_›
    rw [this.1]; exact wrap64_is (x % n) ⟨by omega, by omega⟩
  · go_ret
    exact ⟨ret_int (H2.out ‹_›), rfl⟩
theorem within8_is {x n : Int} {j : Nat} (hx : Is64 x) (hn : 0 < n ∧ n ≤ 9223372036854775807) (hj : x % n = j) (w : World) :
    Calls Try.prog 14 #[.int .i64 x, .int .i64 n] w fun e w' => e = .returned (nI j) ∧ w' = w := by
  have := within8_any x n w hx hn
  rw [hj] at this
  exact this

/-- a node alone, of k, behind t ticks: te times it has stood, and it stands next at du -/
structure Lone (i k t te du : Nat) (n : Nd) : Prop where
  id : n.id = i
  size : n.votes.length = k
  next : n.next.length = k
  mat : n.mat.length = k
  forms : n.forms.length = k
  log : n.log = []
  role : n.role = if te = 0 then 0 else 1
  commit : n.commit = 0
  clock : n.clock = t
  term : n.term = te
  due : n.due = du
  small : te ≤ t
  later : t < du
  most : du ≤ t + 5 + 2 * i
theorem lone_new (i k : Nat) : Lone i k 0 0 (5 + 2 * i) (newM i k 1) :=
  ⟨rfl, by simp [newM], by simp [newM], by simp [newM], by simp [newM], rfl, rfl, rfl, rfl, rfl, rfl, Nat.le_refl _, by omega, by omega⟩
theorem Lone.ok {i k t te du : Nat} {n : Nd} (h : Lone i k t te du n) (hi : i < k) (hk : k ≤ 5) (ht : t ≤ 1000) : TickOk n := by
  have h1 := h.small
  have h2 := h.most
  refine ⟨⟨?_, ?_, ?_, ?_, ?_, ?_, ?_, ?_, ?_, ?_, ?_, ?_⟩, ?_, ?_, ?_, ?_⟩
  · rw [h.id, h.size]; exact hi
  · rw [h.size]; exact hk
  · rw [h.next, h.size]
  · rw [h.mat, h.size]
  · rw [h.forms, h.size]
  · rw [h.log]; simp
  · rw [h.log]; intro e he; cases he
  · rw [h.log]; intro e he; cases he
  · rw [h.term]; omega
  · rw [h.commit]; omega
  · rw [h.clock]; omega
  · rw [h.due]; omega
  · intro hr; rw [h.role] at hr; split at hr <;> omega
  · rw [h.term]; omega
  · rw [h.clock]; omega
  · rw [h.log]; simp
theorem votes_one (k i : Nat) (hi : i < k) : votesOf ((List.replicate k false).set i true) = 1 := by
  unfold votesOf
  induction k generalizing i with
  | zero => omega
  | succ k ih =>
    rw [List.replicate_succ]
    cases i with
    | zero =>
      rw [List.set_cons_zero, List.filter_cons_of_pos (by rfl)]
      have : (List.replicate k false).filter id = [] := by rw [List.filter_eq_nil_iff]; intro a ha; rw [List.eq_of_mem_replicate ha]; simp
      rw [this]; rfl
    | succ i => rw [List.set_cons_succ, List.filter_cons_of_neg (by simp)]; exact ih i (by omega)
theorem lone_wait {i k t te du : Nat} {n : Nd} (h : Lone i k t te du n) (hd : t + 1 ≠ du) : Lone i k (t + 1) te du (tickM n).1 ∧ (tickM n).2 = [] := by
  have hl := h.later
  have hm := h.most
  have hr : n.role ≠ 2 := by rw [h.role]; split <;> omega
  have e : tickM n = (tickN n, []) := by
    unfold tickM
    simp only [show (tickN n).role ≠ 2 from hr, if_false]
    rw [if_pos (by rw [show (tickN n).clock = n.clock + 1 from rfl, show (tickN n).due = n.due from rfl, h.clock, h.due]; omega)]
  rw [e]
  exact ⟨⟨h.id, h.size, h.next, h.mat, h.forms, h.log, h.role, h.commit, by simp [tickN, h.clock], h.term, h.due, by have := h.small; omega, by omega, by omega⟩, rfl⟩
theorem lone_stand {i k t te du : Nat} {n : Nd} (h : Lone i k t te du n) (hd : t + 1 = du) (hi : i < k) (hk : 2 ≤ k) :
    Lone i k (t + 1) (te + 1) (t + 1 + 5 + 2 * i) (tickM n).1 ∧ (tickM n).2 = (othersM (tickN n)).map (askM (standN (tickN n))) := by
  have hr : n.role ≠ 2 := by rw [h.role]; split <;> omega
  have hv : ¬ (standN (tickN n)).size < 2 * votesOf (countN (standN (tickN n)) (tickN n).id).votes := by
    have h1 : (standN (tickN n)).size = k := by simp [Nd.size, standN, tickN, h.size]
    have h2 : (countN (standN (tickN n)) (tickN n).id).votes = (List.replicate k false).set i true := by simp [countN, standN, tickN, h.size, h.id, Nd.size]
    rw [h1, h2, votes_one k i hi]
    omega
  have e : tickM n = (countN (standN (tickN n)) (tickN n).id, (othersM (tickN n)).map (askM (standN (tickN n)))) := by
    unfold tickM
    simp only [show (tickN n).role ≠ 2 from hr, if_false]
    rw [if_neg (by rw [show (tickN n).clock = n.clock + 1 from rfl, show (tickN n).due = n.due from rfl, h.clock, h.due]; omega)]
    unfold standM countM
    rw [if_neg hv]
    simp
  rw [e]
  refine ⟨⟨h.id, by simp [countN, standN, tickN, h.size, Nd.size], h.next, h.mat, h.forms, h.log, ?_, h.commit, ?_, ?_, ?_, by have := h.small; omega, by omega, by omega⟩, rfl⟩
  · simp [countN, standN, tickN]
  · simp [countN, standN, tickN, h.clock]
  · simp [countN, standN, tickN, h.term]
  · simp [countN, standN, tickN, h.clock, h.id]
theorem others_cnt (n i : Nat) (h : i < n) : ((List.range n).filter fun j => j != i).length = n - 1 := by
  induction n with
  | zero => omega
  | succ n ih =>
    rw [List.range_succ, List.filter_append, List.length_append]
    by_cases hi : i = n
    · subst hi
      have : (List.range i).filter (fun j => j != i) = List.range i := by
        rw [List.filter_eq_self]; intro a ha; rw [List.mem_range] at ha; simp; omega
      rw [this]; simp
    · rw [ih (by omega), List.filter_cons_of_pos (by simp; omega)]; simp; omega
/-- what a node alone asks, when it stands -/
theorem lone_asks {i k t te du : Nat} {n : Nd} (h : Lone i k t te du n) (hi : i < k) :
    ((othersM (tickN n)).map (askM (standN (tickN n)))).length = k - 1 ∧ ∀ m ∈ (othersM (tickN n)).map (askM (standN (tickN n))), m.kind = 1 ∧ m.term = te + 1 ∧ m.frm = i ∧ m.to ≠ i := by
  refine ⟨?_, ?_⟩
  · rw [List.length_map]
    unfold othersM
    rw [show (tickN n).size = k from h.size, show (tickN n).id = i from h.id]
    exact others_cnt k i hi
  · intro m hm
    obtain ⟨j, hj, rfl⟩ := List.mem_map.1 hm
    refine ⟨rfl, ?_, h.id, ?_⟩
    · simp [askM, standN, tickN, h.term]
    · have := (List.mem_filter.1 hj).2
      rw [show (tickN n).id = i from h.id] at this
      simpa [askM] using this

/-- a node that is the only one, of form 2, behind k ticks -/
def soleAt : Nat → Nd
  | 0 => newM 0 1 2
  | k + 1 => (tickM (soleAt k)).1
theorem sole_wait : ∀ k, k < 5 → soleAt k = { newM 0 1 2 with clock := k } := by
  intro k hk
  have : k = 0 ∨ k = 1 ∨ k = 2 ∨ k = 3 ∨ k = 4 := by omega
  rcases this with rfl | rfl | rfl | rfl | rfl <;> rfl
theorem sole_ok (k : Nat) (hk : k < 5) : TickOk (soleAt k) := by
  rw [sole_wait k hk]
  have h0 : Lone 0 1 0 0 5 (newM 0 1 2) := ⟨rfl, rfl, rfl, rfl, rfl, rfl, rfl, rfl, rfl, rfl, rfl, Nat.le_refl _, by omega, by omega⟩
  have h1 : Lone 0 1 k 0 5 { newM 0 1 2 with clock := k } := ⟨rfl, rfl, rfl, rfl, rfl, rfl, rfl, rfl, rfl, rfl, rfl, by omega, by omega, by omega⟩
  exact h1.ok (by omega) (by omega) (by omega)
theorem sole_end : (soleAt 5).role = 2 ∧ (soleAt 5).term = 1 ∧ (soleAt 5).log.length = 1 ∧ (soleAt 5).commit = 1 := ⟨rfl, rfl, rfl, rfl⟩
end Go.Proofs.Ytbojfiflemmgaaa
