/-
  What val.Less, val.Same return.
-/
import Derived.Test.YtliefgkhpgigaaaO
import Derived.Test.YtliefgkhpgigaaaN
namespace Go.Proofs.Ytliefgkhpgigaaa
open Go.RowKit
set_option linter.unusedSimpArgs false
set_option linter.unusedVariables false

def oneK (k k' : Int) : Bool := k != 0 && k == k'
theorem oneKind_c (k n s : Int) (t : ByteArray) (k' n' s' : Int) (t' : ByteArray) (w : World) :
    Calls Try.prog 96 #[V k n s t, V k' n' s' t'] w fun e w' => e = .returned (.bool (oneK k k')) ∧ Below w.heap.size w w' := ofOneKind_any k n s t k' n' s' t' w
theorem tup_bb {a b c d : Bool} (h1 : a = b) (h2 : c = d) : Ending.returned (.tuple #[.bool a, .bool c]) = .returned (.tuple #[.bool b, .bool d]) := by rw [h1, h2]

set_option maxHeartbeats 800000 in
theorem less_any (k n s : Int) (t : ByteArray) (k' n' s' : Int) (t' : ByteArray) (w : World) (hn : Is64 n) (hn' : Is64 n') (hs : 0 ≤ s ∧ s ≤ 6) (hs' : 0 ≤ s' ∧ s' ≤ 6) :
    Calls Try.prog 87 #[V k n s t, V k' n' s' t'] w fun e w' =>
      e = .returned (.tuple #[.bool (oneK k k' && decide (ordV k n s t k' n' s' t' < 0)), .bool (oneK k k')]) ∧ Below w.heap.size w w' := by
  have CO := hide (fun W => order_any k n s t k' n' s' t' W hn hn' hs hs')
  have CK := hide (fun W => oneKind_c k n s t k' n' s' t' W)
  clear hn hn' hs hs'
  generalize ordV k n s t k' n' s' t' = o at *
  cases hk : oneK k k'
  all_goals
    rw [hk] at CK
    clear hk
    go_enter Try.func87, Try.ntmps87
    go_wp2_with fail
    refine (unhide CK _).mono ?_
    rintro e w1 ⟨rfl, hb1⟩
    have hz1 := hb1.size
    have HB1 := hide hb1
    obtain ⟨hc1, hf1⟩ := bcell hb1
    clear hb1
    simp at hz1
    go_wp2_with fail
  · go_ret2
    exact ⟨tup_bb rfl rfl, (((Below.refl _ _).alloc (Nat.le_refl _) _).alloc (by simp) _).trans ((unhide HB1).mono (by simp; omega))⟩
  · refine (unhide CO _).mono ?_
    rintro e w2 ⟨rfl, hb2⟩
    go_wp2_with fail
    go_ret2
    exact ⟨tup_bb rfl rfl, ((((Below.refl _ _).alloc (Nat.le_refl _) _).alloc (by simp) _).trans ((unhide HB1).mono (by simp; omega))).trans (hb2.mono (by omega))⟩

set_option maxHeartbeats 800000 in
theorem same_any (k n s : Int) (t : ByteArray) (k' n' s' : Int) (t' : ByteArray) (w : World) (hn : Is64 n) (hn' : Is64 n') (hs : 0 ≤ s ∧ s ≤ 6) (hs' : 0 ≤ s' ∧ s' ≤ 6) :
    Calls Try.prog 86 #[V k n s t, V k' n' s' t'] w fun e w' =>
      e = .returned (.tuple #[.bool (oneK k k' && (ordV k n s t k' n' s' t' == 0)), .bool (oneK k k')]) ∧ Below w.heap.size w w' := by
  have CO := hide (fun W => order_any k n s t k' n' s' t' W hn hn' hs hs')
  have CK := hide (fun W => oneKind_c k n s t k' n' s' t' W)
  clear hn hn' hs hs'
  generalize ordV k n s t k' n' s' t' = o at *
  cases hk : oneK k k'
  all_goals
    rw [hk] at CK
    clear hk
    go_enter Try.func86, Try.ntmps86
    go_wp2_with fail
    refine (unhide CK _).mono ?_
    rintro e w1 ⟨rfl, hb1⟩
    have hz1 := hb1.size
    have HB1 := hide hb1
    obtain ⟨hc1, hf1⟩ := bcell hb1
    clear hb1
    simp at hz1
    go_wp2_with fail
  · go_ret2
    exact ⟨tup_bb rfl rfl, (((Below.refl _ _).alloc (Nat.le_refl _) _).alloc (by simp) _).trans ((unhide HB1).mono (by simp; omega))⟩
  · refine (unhide CO _).mono ?_
    rintro e w2 ⟨rfl, hb2⟩
    go_wp2_with fail
    go_ret2
    exact ⟨tup_bb rfl rfl, ((((Below.refl _ _).alloc (Nat.le_refl _) _).alloc (by simp) _).trans ((unhide HB1).mono (by simp; omega))).trans (hb2.mono (by omega))⟩

end Go.Proofs.Ytliefgkhpgigaaa
