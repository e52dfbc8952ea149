/-
  A candidate and its votes.
-/
import Derived.Test.YtbojfiflemmgaaaRTb
import Derived.Test.YtbojfiflemmgaaaHC
namespace Go.Proofs.Ytbojfiflemmgaaa
open Go.RowKit
set_option linter.unusedSimpArgs false
set_option linter.unusedVariables false

/-- numbers that came in, at a place -/
def IntsP (p : Option Addr) (zs : List Int) (W : World) : Prop := zs.length ≤ maxLen ∧ ∀ i (h : i < zs.length), ∃ a, p = some a ∧ W.cell? (a.add i) = some (.int .i64 zs[i]) ∧ (a.add i).block < W.heap.size ∧ Is64 zs[i]
/-- likewise, as a value -/
def Ints (v : Value) (zs : List Int) (W : World) : Prop := (v = .slice none 0 0 ∧ zs = []) ∨
  ∃ a cap, v = .slice (some a) zs.length cap ∧ zs.length ≤ maxLen ∧ (∀ i (h : i < zs.length), W.cell? (a.add i) = some (.int .i64 zs[i]) ∧ (a.add i).block < W.heap.size ∧ Is64 zs[i])
theorem Ints.parts {v : Value} {zs : List Int} {W : World} (h : Ints v zs W) : ∃ p cap, v = .slice p zs.length cap ∧ IntsP p zs W := by
  rcases h with ⟨rfl, rfl⟩ | ⟨a, cap, rfl, h1, h2⟩
  · exact ⟨none, 0, rfl, by simp, fun i hi => absurd hi (by simp)⟩
  · exact ⟨some a, cap, rfl, h1, fun i hi => ⟨a, rfl, h2 i hi⟩⟩
theorem IntsP.call {p : Option Addr} {zs : List Int} {W W' : World} (h : IntsP p zs W) (hb : Below W.heap.size W W') : IntsP p zs W' := by
  refine ⟨h.1, fun i hi => ?_⟩
  obtain ⟨a, h1, h2, h3, h4⟩ := h.2 i hi
  exact ⟨a, h1, (World.cell?_of_block (hb.block _ h3)).trans h2, Nat.lt_of_lt_of_le h3 hb.size, h4⟩

abbrev vm (fr : Nat) (ok : Bool) : Ms := ⟨2, fr, 0, 1, 0, 0, ok, [], 0, 0⟩
/-- a node that has stood once, or leads by it -/
structure Elect (k : Nat) (n : Nd) : Prop where
  id : n.id = 0
  size : n.votes.length = k
  next : n.next.length = k
  mat : n.mat.length = k
  forms : n.forms.length = k
  commit : n.commit = 0
  clock : n.clock ≤ 1000
  term : n.term = 1
  due : n.due ≤ 1000
structure Cand (k got : Nat) (n : Nd) : Prop where
  el : Elect k n
  role : n.role = 1
  log : n.log = []
  votes : votesOf n.votes = got
  few : 2 * got ≤ k
structure Lead (k : Nat) (n : Nd) : Prop where
  el : Elect k n
  role : n.role = 2
  log : n.log = [⟨1, noBytes⟩]
/-- whom a candidate has heard of, or that it leads -/
def Voting (k got : Nat) (n : Nd) (Hs : List Bool) : Prop := (Cand k got n ∧ ∀ j, j < k → Hs[j]? = n.votes[j]?) ∨ (Lead k n ∧ k < 2 * got)
theorem Elect.fit {k : Nat} {n : Nd} (h : Elect k n) (hk : 0 < k) (hk5 : k ≤ 5) (hl : n.log = [] ∨ n.log = [⟨1, noBytes⟩]) : Fit n := by
  refine ⟨by rw [h.id, h.size]; exact hk, by rw [h.size]; exact hk5, by rw [h.next, h.size], by rw [h.mat, h.size], by rw [h.forms, h.size], ?_, ?_, ?_, by rw [h.term]; omega, by rw [h.commit]; omega, by have := h.clock; omega, by have := h.due; omega⟩
  · rcases hl with e | e <;> rw [e] <;> simp
  · rcases hl with e | e <;> rw [e]
    · intro x hx; cases hx
    · intro x hx; obtain rfl := List.mem_singleton.1 hx; exact Nat.zero_le _
  · rcases hl with e | e <;> rw [e]
    · intro x hx; cases hx
    · intro x hx; obtain rfl := List.mem_singleton.1 hx; show 1 ≤ _; omega
theorem votesOf_set (l : List Bool) : ∀ (i : Nat), l[i]? = some false → votesOf (l.set i true) = votesOf l + 1 := by
  induction l with
  | nil => intro i h; cases h
  | cons x l ih =>
    intro i h
    cases i with
    | zero =>
      simp at h
      subst h
      rfl
    | succ i =>
      have := ih i (by simpa using h)
      unfold votesOf at this ⊢
      rw [List.set_cons_succ]
      cases x
      · simpa using this
      · simp at this ⊢; omega
theorem set_same (l : List Bool) (i : Nat) (h : l[i]? = some true) : l.set i true = l := by
  apply List.ext_getElem?
  intro j
  rw [List.getElem?_set]
  split
  · rename_i e; subst e
    have := (List.getElem?_eq_some_iff.1 h).1
    rw [if_pos this, h]
  · rfl
theorem Lead.no {k : Nat} {n : Nd} (h : Lead k n) (m : Ms) : votedM n m = (n, []) := votedM_no1 (by rw [h.role]; omega)
theorem Cand.no {k got : Nat} {n : Nd} (h : Cand k got n) (fr : Nat) : votedM n (vm fr false) = (n, []) := votedM_no3 rfl
theorem Cand.has {k got fr : Nat} {n : Nd} (h : Cand k got n) (hv : n.votes[fr]? = some true) : votedM n (vm fr true) = (n, []) := by
  rw [votedM_yes h.role h.el.term.symm rfl]
  have e : countN n fr = n := by unfold countN; rw [set_same _ _ hv]
  unfold countM
  rw [e, if_neg]
  rw [h.votes, show n.size = k from h.el.size]
  have := h.few
  omega
theorem Elect.count {k fr : Nat} {n : Nd} (h : Elect k n) : Elect k (countN n fr) := ⟨h.id, by simp [countN, h.size], h.next, h.mat, h.forms, h.commit, h.clock, h.term, h.due⟩
theorem Cand.more {k got fr : Nat} {n : Nd} (h : Cand k got n) (hv : n.votes[fr]? = some false) (hg : 2 * (got + 1) ≤ k) : votedM n (vm fr true) = (countN n fr, []) ∧ Cand k (got + 1) (countN n fr) := by
  have hs : votesOf (countN n fr).votes = got + 1 := by rw [← h.votes]; exact votesOf_set _ _ hv
  refine ⟨?_, h.el.count, h.role, h.log, hs, hg⟩
  rw [votedM_yes h.role h.el.term.symm rfl]
  unfold countM
  rw [if_neg]
  rw [hs, show n.size = k from h.el.size]
  omega
theorem Cand.wins {k got fr : Nat} {n : Nd} (h : Cand k got n) (hv : n.votes[fr]? = some false) (hg : ¬ 2 * (got + 1) ≤ k) (hk : 2 ≤ k) (hk5 : k ≤ 5) : ∃ n' ms, votedM n (vm fr true) = (n', ms) ∧ Lead k n' ∧ ms.length = k - 1 := by
  have hs : votesOf (countN n fr).votes = got + 1 := by rw [← h.votes]; exact votesOf_set _ _ hv
  have e := h.el.count (fr := fr)
  have e2 : votedM n (vm fr true) = leadM (countN n fr) := by
    rw [votedM_yes h.role h.el.term.symm rfl]
    unfold countM
    rw [if_pos (by rw [hs, show n.size = k from h.el.size]; omega)]
  refine ⟨(leadM (countN n fr)).1, (leadM (countN n fr)).2, e2, ?_⟩
  have hz : (leadN (countN n fr)).size ≠ 1 := by rw [show (leadN (countN n fr)).size = (countN n fr).votes.length from rfl, e.size]; omega
  refine ⟨⟨⟨e.id, e.size, ?_, ?_, e.forms, ?_, e.clock, e.term, e.due⟩, rfl, ?_⟩, ?_⟩
  · simp [leadM, addM, addN, leadN, e.size, Nd.size]
  · simp [leadM, addM, addN, leadN, e.size, Nd.size]
  · show (if (leadN (countN n fr)).size = 1 then _ else _) = 0
    rw [if_neg hz]; exact e.commit
  · show (countN n fr).log ++ [⟨(countN n fr).term, noBytes⟩] = _
    rw [show (countN n fr).log = n.log from rfl, h.log, e.term]; rfl
  · show (spreadM (addN (leadN (countN n fr)) noBytes)).length = _
    unfold spreadM
    rw [List.length_map]
    unfold othersM
    rw [show (addN (leadN (countN n fr)) noBytes).size = k from e.size, show (addN (leadN (countN n fr)) noBytes).id = 0 from e.id]
    exact others_cnt k 0 (by omega)
/-- the first of k, behind t ticks -/
def aloneAt (k : Nat) : Nat → Nd
  | 0 => newM 0 k 1
  | t + 1 => (tickM (aloneAt k t)).1
theorem alone_wait (k : Nat) : ∀ t, t < 5 → Lone 0 k t 0 5 (aloneAt k t)
  | 0, _ => lone_new 0 k
  | t + 1, h => (lone_wait (alone_wait k t (by omega)) (by omega)).1
theorem alone_stood (k : Nat) (hk : 2 ≤ k) : Cand k 1 (aloneAt k 5) ∧ (aloneAt k 5).votes = (List.replicate k false).set 0 true := by
  have h := alone_wait k 4 (by omega)
  have h5 : aloneAt k 5 = (tickM (aloneAt k 4)).1 := rfl
  rw [h5]
  generalize aloneAt k 4 = n at h ⊢
  have l := (lone_stand h rfl (by omega) hk).1
  have hv : (tickM n).1.votes = (List.replicate k false).set 0 true := by
    have hr : n.role ≠ 2 := by rw [h.role]; split <;> omega
    unfold tickM
    simp only [show (tickN n).role ≠ 2 from hr, if_false]
    rw [if_neg (by rw [show (tickN n).clock = n.clock + 1 from rfl, show (tickN n).due = n.due from rfl, h.clock, h.due]; omega)]
    unfold standM countM
    rw [if_neg]
    · simp [countN, standN, tickN, h.size, h.id, Nd.size]
    · have h1 : (standN (tickN n)).size = k := by simp [Nd.size, standN, tickN, h.size]
      have h2 : (countN (standN (tickN n)) (tickN n).id).votes = (List.replicate k false).set 0 true := by simp [countN, standN, tickN, h.size, h.id, Nd.size]
      rw [h1, h2, votes_one k 0 (by omega)]
      omega
  generalize (tickM n).1 = a at l hv ⊢
  refine ⟨⟨⟨l.id, l.size, l.next, l.mat, l.forms, l.commit, by rw [l.clock]; omega, l.term, by rw [l.due]; omega⟩, l.role, l.log, ?_, by omega⟩, hv⟩
  rw [hv]
  exact votes_one k 0 (by omega)
end Go.Proofs.Ytbojfiflemmgaaa
