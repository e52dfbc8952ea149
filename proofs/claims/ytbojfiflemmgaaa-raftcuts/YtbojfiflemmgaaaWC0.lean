/-
  RaftCuts: a follower's log, what comes to it, what it makes of it.
-/
import Derived.Test.YtbojfiflemmgaaaRNc
import Derived.Test.YtbojfiflemmgaaaRNb
import Derived.Test.YtbojfiflemmgaaaRCa
import Derived.Test.YtbojfiflemmgaaaHM
import Derived.Test.YtbojfiflemmgaaaRLa
import Derived.Test.YtbojfiflemmgaaaRTc
namespace Go.Proofs.Ytbojfiflemmgaaa
open Go.RowKit
set_option linter.unusedSimpArgs false
set_option linter.unusedVariables false

abbrev cutN (L : List En) (t : Nat) : Nd := { newM 1 3 1 with log := L, term := t }
abbrev cutM (t at' lt : Nat) (ents : List En) : Ms := ⟨3, 0, 1, t + 1, at', lt, false, ents, 0, 0⟩
/-- a log as the statement makes it -/
structure CutL (L : List En) (t : Nat) : Prop where
  len : L.length ≤ 8
  small : Small L
  terms : ∀ e ∈ L, e.term ≤ 1000
  term : t ≤ 1000
theorem CutL.fit {L : List En} {t : Nat} (h : CutL L t) : Fit (cutN L t) :=
  ⟨show 1 < 3 by decide, show 3 ≤ 5 by decide, rfl, rfl, rfl, by show L.length ≤ _; have := h.len; omega, h.small, fun e he => by have := h.terms e he; omega, by show t ≤ _; have := h.term; omega, by show (0 : Nat) ≤ _; omega, by show (0 : Nat) ≤ _; omega, by show 5 + 2 * 1 ≤ _; omega⟩
theorem cut_may {L : List En} {t at' : Nat} {ents : List En} : May (cutN L t) (cutM t at' (termAt L at') ents) :=
  ⟨⟨by show 1 ≤ 3; omega, by show 3 ≤ 4; omega⟩, rfl, by show (0 : Nat) ≠ 1; omega, by show 0 < 3; omega, fun h => by show termAt L at' = 0; rw [show at' = 0 from h]; exact termAt_out L 0 (.inl (by omega)), fun h => by exact absurd (show (3 : Nat) = 4 from h) (by omega)⟩
theorem cut_handle {L : List En} {t at' : Nat} {ents : List En} (hat : at' ≤ L.length) :
    (handleM (cutN L t) (cutM t at' (termAt L at') ents)).1.log = putM L at' ents ∧ (handleM (cutN L t) (cutM t at' (termAt L at') ents)).2 = [⟨4, 1, 0, t + 1, at' + ents.length, 0, true, [], 0, 1⟩] := by
  have h1 : heardM (cutN L t) (cutM t at' (termAt L at') ents) = { cutN L t with term := t + 1, vote := -1, role := 0 } := if_pos (show t < t + 1 by omega)
  have h2 : handleM (cutN L t) (cutM t at' (termAt L at') ents) = followM { cutN L t with term := t + 1, vote := -1, role := 0 } (cutM t at' (termAt L at') ents) := by
    unfold handleM
    rw [h1]
    rfl
  have h3 : fits { cutN L t with term := t + 1, vote := -1, role := 0 } (cutM t at' (termAt L at') ents) = true := decide_eq_true ⟨hat, .inr rfl⟩
  rw [h2, follow_yes (show ¬ t + 1 < t + 1 by omega) h3]
  exact ⟨rfl, rfl⟩
theorem Sees.front {s : Nat} {p : Option Addr} {n c k : Nat} {cs : List Value} {W : World} (h : Sees s (.slice p n c) n cs W) (hk : k ≤ n) : Sees s (.slice p k c) k (cs.take (k * s)) W := by
  obtain ⟨p', c', he, h1, h2, h3, h4⟩ := h
  injection he with e1 _ e3
  subst e1 e3
  refine ⟨p, c, rfl, by omega, h2, by rw [List.length_take, h3]; exact Nat.min_eq_left (Nat.mul_le_mul_right s hk), ?_⟩
  rcases h4 with ⟨h4, h5⟩ | ⟨g, o, h4, hg, hc⟩
  · exact .inl ⟨h4, by omega⟩
  · exact .inr ⟨g, o, h4, hg, fun j u hu => hc j u (by
      have hj := (List.getElem?_eq_some_iff.1 hu).1
      simp at hj
      rw [List.getElem?_take_of_lt (by omega)] at hu
      exact hu)⟩
theorem sees_front {l : List En} {p : Option Addr} {c k : Nat} {W : World} (h : Sees 2 (.slice p l.length c) l.length (enC l) W) (hk : k ≤ l.length) : Sees 2 (.slice p k c) k (enC (l.take k)) W := by
  have := h.front hk
  rw [enC_take] at this
  exact this
/-- an entry put behind a row of entries, at a plain region's list -/
theorem wpList_appE {ops : Array Oper} {rest : List Oper} {o : Oper} {a : Act} {Q : Exit → Act → World → Prop} (hgd : o.guard = none) (sl x : Operand)
    (ho : o.op = .call { callee := .builtin .append, args := #[sl, x], argTypes := #[29, 29] })
    (X : World) (t : Nat) (d : ByteArray) (base : Nat) (v : Value) (l : List En) (hown : X.ownsRow base 34 2 v l.length (enC l)) (hs : a.eval sl = v)
    (hx : a.eval x = .slice (some ⟨X.heap.size, 0, none⟩) 1 1) (hlen : l.length ≤ 1000000) (hbase : base ≤ X.heap.size)
    (h : ∀ g cap w', w'.ownsRow base 34 2 (.slice (some ⟨g, 0, none⟩) (l.length + 1) cap) (l ++ [(⟨t, d⟩ : En)]).length (enC (l ++ [(⟨t, d⟩ : En)])) → (X.alloc (.cells (enA t d) 34)).grownBy w' v.ownBlock → wpList Try.prog ops Q rest (a.put o.dst (.slice (some ⟨g, 0, none⟩) (l.length + 1) cap)) w') :
    wpList Try.prog ops Q (o :: rest) a (X.alloc (.cells (enA t d) 34)) := by
  obtain ⟨i0, hi, hz0, hz1, hz2⟩ := info_parts info_en
  refine wpList_append_lies _ hgd sl x 29 ho base 34 i0 _ 2 24 Try.underlying29 hi hz0 hz1 hz2 rfl (by decide) v l.length (enC l) hs (hown.alloc _) ⟨X.heap.size, 0, none⟩ 1 1 [nI t, .string d] hx rfl (cells_new X (enA t d) 34) (by simp [Value.oneCell']) (by decide) (by unfold maxLen; omega) (by omega) (by simp; omega) (X.heap.size + 1) (by simp) ?_
  intro g cap w1 hown1 hgrow1 hat1 _
  refine h g cap w1 ?_ hgrow1
  rw [enC_app, List.length_append, List.length_singleton]
  exact hown1
end Go.Proofs.Ytbojfiflemmgaaa
