/-
  Package raft's follow: what holds on the way.
-/
import Derived.Test.YtbojfiflemmgaaaHI
import Derived.Test.YtbojfiflemmgaaaHE
namespace Go.Proofs.Ytbojfiflemmgaaa
open Go.RowKit
set_option linter.unusedSimpArgs false
set_option linter.unusedVariables false

/-- a node that is being worked on, a message that came (mb), one that is told (bb) -/
structure Fol (b : Nat) (q : Q5) (sv : Value) (n : Nd) (S : List (Ms × Value)) (m : Ms) (ev : Value) (k : Ms) (mb bb : Nat) (F0 : Nat → Prop) (W X : World) : Prop where
  st : St b q sv n S X
  mB : Blk mb (msA m ev) 37 X
  kB : Blk bb (msA k (.slice none 0 0)) 37 X
  keep : Keep W X F0 (Foot b q sv)
  fm : ¬ Foot b q sv mb
  fb : ¬ Foot b q sv bb
  ne : mb ≠ bb
  nb : W.heap.size ≤ bb
  see : Sees 2 ev m.ents.length (enC m.ents) X
  fe : ∀ j, ev.ownBlock = some j → ¬ Foot b q sv j ∧ j ≠ bb
  sf : ∀ x ∈ S, ∀ j, x.2.ownBlock = some j → j ≠ bb
section
variable {b : Nat} {q q' : Q5} {sv : Value} {n n' : Nd} {S : List (Ms × Value)} {m k k' : Ms} {ev : Value} {mb bb : Nat} {F0 : Nat → Prop} {W X X' : World}
theorem Fol.call (h : Fol b q sv n S m ev k mb bb F0 W X) (hb : Below X.heap.size X X') : Fol b q sv n S m ev k mb bb F0 W X' :=
  ⟨h.st.call hb, h.mB.below hb, h.kB.below hb, h.keep.trans (Keep.call _ hb), h.fm, h.fb, h.ne, h.nb, h.see.below hb, h.fe, h.sf⟩
theorem Fol.node (h : Fol b q sv n S m ev k mb bb F0 W X) (hs : St b q' sv n' S X') (hK : Keep X X' (Foot b q sv) (Foot b q' sv)) : Fol b q' sv n' S m ev k mb bb F0 W X' :=
  ⟨hs, hK.blk h.mB h.fm, hK.blk h.kB h.fb, h.keep.trans hK, (hK.block _ h.mB.lt h.fm).2, (hK.block _ h.kB.lt h.fb).2, h.ne, h.nb, hK.sees h.see fun j hj => (h.fe j hj).1, fun j hj => ⟨(hK.block j (h.see.lt hj) (h.fe j hj).1).2, (h.fe j hj).2⟩, h.sf⟩
theorem Keep.newset {F1 : Nat → Prop} {j : Nat} {y : Value} (h : Keep W X F0 F1) (hb : W.heap.size ≤ bb) : Keep W (X.setCell ⟨bb, j, none⟩ y) F0 F1 :=
  ⟨h.os, h.tape, h.output, by simp [World.setCell]; exact h.size, fun k hk hf => ⟨(heap_set (by omega)).trans (h.block k hk hf).1, (h.block k hk hf).2⟩⟩
theorem Fol.told (h : Fol b q sv n S m ev k mb bb F0 W X) (j : Nat) (y : Value) (hc : (msA k (.slice none 0 0)).setIfInBounds j y = msA k' (.slice none 0 0)) : Fol b q sv n S m ev k' mb bb F0 W (X.setCell ⟨bb, j, none⟩ y) := by
  have hk := h.kB.set j y
  rw [hc] at hk
  refine ⟨h.st.keep fun i hi _ => heap_set ?_, h.mB.far h.ne, hk, h.keep.newset h.nb, h.fm, h.fb, h.ne, h.nb, h.see.keep fun i hi _ => heap_set (h.fe i hi).2, h.fe, h.sf⟩
  rcases hi with hi | ⟨x, hx, hi⟩
  · exact fun e => h.fb (e ▸ hi)
  · exact h.sf x hx i hi
end
abbrev backK (index : Nat) (ok : Bool) (form : Nat) : Ms := ⟨4, 0, 0, 0, index, 0, ok, [], 0, form⟩
theorem back_eq (n : Nd) (m : Ms) (index : Nat) (ok : Bool) (form : Nat) : sentM n m.frm (backK index ok form) = backM n m 4 index ok form := rfl
theorem follow_low {n : Nd} {m : Ms} (h : m.term < n.term) : followM n m = (n, [backM n m 4 n.last false n.form]) := if_pos h
theorem follow_no {n : Nd} {m : Ms} (h : ¬ m.term < n.term) (hf : fits n m = false) : followM n m = (followN n, [backM n m 4 (min n.last (m.index - 1)) false n.form]) := by
  unfold followM
  rw [if_neg h, hf]; rfl
theorem follow_yes {n : Nd} {m : Ms} (h : ¬ m.term < n.term) (hf : fits n m = true) : followM n m = (tookN n m, [backM n m 4 (m.index + m.ents.length) true n.form]) := by
  unfold followM
  rw [if_neg h, hf]; rfl
/-- at follow's label -/
def JFol (b : Nat) (sv : Value) (n : Nd) (S : List (Ms × Value)) (m : Ms) (ev : Value) (mb bb : Nat) (F0 : Nat → Prop) (W : World) (lb g : Nat) (a : Act) (wr : World) : Prop :=
  lb = 0 ∧ g = 0 ∧ ∃ (n' : Nd) (q' : Q5) (k : Ms) (u : Nat → Value), a = ⟨#[ptr b 0, .agg (msA m ev), undef, ptr mb 0, ptr bb 0, u 5, u 6, u 7, u 8, u 9, u 10, u 11, u 12, u 13, u 14, u 15, u 16, u 17, u 18, u 19, u 20, u 21, u 22, u 23, u 24, u 25, u 26, u 27, u 28, u 29, u 30, u 31, u 32, u 33, u 34, u 35, u 36, u 37, u 38, u 39, u 40, u 41, u 42, u 43, u 44, u 45, u 46, u 47, u 48, u 49, u 50, u 51, u 52, u 53, u 54, u 55, u 56, u 57, u 58, u 59, u 60, u 61, u 62, u 63, u 64, u 65, u 66, u 67, u 68, u 69, u 70, u 71, u 72, u 73, u 74, u 75, u 76, u 77, u 78, u 79, u 80, u 81, u 82, u 83, u 84, u 85, u 86], []⟩ ∧
    Hid (Fol b q' sv n' S m ev k mb bb F0 W wr) ∧ Hid (followM n m = (n', [sentM n' m.frm k])) ∧ k.ents = []
theorem JFol.intro {b : Nat} {sv : Value} {n : Nd} {S : List (Ms × Value)} {m : Ms} {ev : Value} {mb bb : Nat} {F0 : Nat → Prop} {W : World} {lb g : Nat} {wr : World} (a : Act) (n' : Nd) (q' : Q5) (k : Ms) (hl : lb = 0) (hg : g = 0)
    (ha : a = ⟨#[ptr b 0, .agg (msA m ev), undef, ptr mb 0, ptr bb 0, a.tmps.getD 5 undef, a.tmps.getD 6 undef, a.tmps.getD 7 undef, a.tmps.getD 8 undef, a.tmps.getD 9 undef, a.tmps.getD 10 undef, a.tmps.getD 11 undef, a.tmps.getD 12 undef, a.tmps.getD 13 undef, a.tmps.getD 14 undef, a.tmps.getD 15 undef, a.tmps.getD 16 undef, a.tmps.getD 17 undef, a.tmps.getD 18 undef, a.tmps.getD 19 undef, a.tmps.getD 20 undef, a.tmps.getD 21 undef, a.tmps.getD 22 undef, a.tmps.getD 23 undef, a.tmps.getD 24 undef, a.tmps.getD 25 undef, a.tmps.getD 26 undef, a.tmps.getD 27 undef, a.tmps.getD 28 undef, a.tmps.getD 29 undef, a.tmps.getD 30 undef, a.tmps.getD 31 undef, a.tmps.getD 32 undef, a.tmps.getD 33 undef, a.tmps.getD 34 undef, a.tmps.getD 35 undef, a.tmps.getD 36 undef, a.tmps.getD 37 undef, a.tmps.getD 38 undef, a.tmps.getD 39 undef, a.tmps.getD 40 undef, a.tmps.getD 41 undef, a.tmps.getD 42 undef, a.tmps.getD 43 undef, a.tmps.getD 44 undef, a.tmps.getD 45 undef, a.tmps.getD 46 undef, a.tmps.getD 47 undef, a.tmps.getD 48 undef, a.tmps.getD 49 undef, a.tmps.getD 50 undef, a.tmps.getD 51 undef, a.tmps.getD 52 undef, a.tmps.getD 53 undef, a.tmps.getD 54 undef, a.tmps.getD 55 undef, a.tmps.getD 56 undef, a.tmps.getD 57 undef, a.tmps.getD 58 undef, a.tmps.getD 59 undef, a.tmps.getD 60 undef, a.tmps.getD 61 undef, a.tmps.getD 62 undef, a.tmps.getD 63 undef, a.tmps.getD 64 undef, a.tmps.getD 65 undef, a.tmps.getD 66 undef, a.tmps.getD 67 undef, a.tmps.getD 68 undef, a.tmps.getD 69 undef, a.tmps.getD 70 undef, a.tmps.getD 71 undef, a.tmps.getD 72 undef, a.tmps.getD 73 undef, a.tmps.getD 74 undef, a.tmps.getD 75 undef, a.tmps.getD 76 undef, a.tmps.getD 77 undef, a.tmps.getD 78 undef, a.tmps.getD 79 undef, a.tmps.getD 80 undef, a.tmps.getD 81 undef, a.tmps.getD 82 undef, a.tmps.getD 83 undef, a.tmps.getD 84 undef, a.tmps.getD 85 undef, a.tmps.getD 86 undef], []⟩) (h1 : Fol b q' sv n' S m ev k mb bb F0 W wr) (h2 : followM n m = (n', [sentM n' m.frm k])) (h3 : k.ents = []) : JFol b sv n S m ev mb bb F0 W lb g a wr :=
  ⟨hl, hg, n', q', k, (fun i => a.tmps.getD i undef), ha, hide h1, hide h2, h3⟩
end Go.Proofs.Ytbojfiflemmgaaa
