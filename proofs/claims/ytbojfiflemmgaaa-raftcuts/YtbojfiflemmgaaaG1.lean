/-
  Rows that are read, rows of one's own, blocks; what a call leaves of all else.
-/
import Derived.Test.YtbojfiflemmgaaaRows
import Derived.Test.YtbojfiflemmgaaaG0
import Derived.WalkKit
import Derived.WalkSpells
import Derived.WalkLawsBesides
import Derived.Deep.AppendLies
import Derived.Deep.DrawnRows
import Derived.Deep.RegionHeld3
import Derived.Laws.EntriesVeiled
namespace Go.Proofs.Ytbojfiflemmgaaa
open Go.RowKit
set_option linter.unusedSimpArgs false
set_option linter.unusedVariables false

theorem hide {p : Prop} (h : p) : Hid p := h
theorem unhide {p : Prop} (h : Hid p) : p := h
theorem info_parts {o : Option TypeInfo} {z : Value} {s b : Nat} (h : o.map (fun i => (i.zero, i.size, i.bytes)) = some (some z, s, b)) : ∃ i, o = some i ∧ i.zero = some z ∧ i.size = s ∧ i.bytes = b := by
  cases o with
  | none => simp at h
  | some i =>
    simp at h
    exact ⟨i, rfl, h.1, h.2.1, h.2.2⟩
theorem info_bool : (Try.prog.info? 4).map (fun i => (i.zero, i.size, i.bytes)) = some (some (.bool false), 1, 1) := by kernel_rfl
theorem info_int : (Try.prog.info? 3).map (fun i => (i.zero, i.size, i.bytes)) = some (some (.int .i64 0), 1, 8) := by kernel_rfl
theorem info_en : (Try.prog.info? 34).map (fun i => (i.zero, i.size, i.bytes)) = some (some (.agg #[.int .i64 0, .string ⟨#[]⟩]), 2, 24) := by kernel_rfl
theorem info_ms : (Try.prog.info? 37).map (fun i => (i.zero, i.size, i.bytes)) = some (some (.agg #[.int .i64 0, .int .i64 0, .int .i64 0, .int .i64 0, .int .i64 0, .int .i64 0, .bool false, .slice none 0 0, .int .i64 0, .int .i64 0]), 10, 96) := by kernel_rfl
theorem ret_int {k : IntKind} {a b : Int} (h : a = b) : Ending.returned (.int k a) = .returned (.int k b) := by rw [h]
theorem ret_bool {a b : Bool} (h : a = b) : Ending.returned (.bool a) = .returned (.bool b) := by rw [h]

abbrev ptr (b o : Nat) : Value := .pointer (some ⟨b, o, none⟩)
abbrev nI (n : Nat) : Value := .int .i64 (n : Int)
/-- a block, whole -/
def Blk (b : Nat) (cs : Array Value) (T : TypeId) (W : World) : Prop := W.heap[b]? = some (.cells cs T (0, 0))
theorem Blk.lt {b : Nat} {cs : Array Value} {T : TypeId} {W : World} (h : Blk b cs T W) : b < W.heap.size := (Array.getElem?_eq_some_iff.1 h).1
theorem Blk.cell {b : Nat} {cs : Array Value} {T : TypeId} {W : World} (h : Blk b cs T W) (j : Nat) : W.cell? ⟨b, j, none⟩ = cs[j]? := cell_of_row W _ j cs _ _ h
theorem Blk.froz {b : Nat} {cs : Array Value} {T : TypeId} {W : World} (h : Blk b cs T W) (j : Nat) : W.frozen? ⟨b, j, none⟩ = false := by simp [World.frozen?, show W.heap[b]? = _ from h]
theorem Blk.new (W : World) (cs : Array Value) (T : TypeId) : Blk W.heap.size cs T (W.alloc (.cells cs T)) := heap_alloc_new W _
theorem Blk.below {b : Nat} {cs : Array Value} {T : TypeId} {W W' : World} (h : Blk b cs T W) (hb : Below W.heap.size W W') : Blk b cs T W' := (hb.block _ h.lt).trans h
theorem below_new (W : World) (o : Obj) : Below W.heap.size W (W.alloc o) := (Below.refl _ W).alloc (Nat.le_refl _) _
theorem Below.onto {w0 w1 W : World} (h : Below w0.heap.size w0 w1) (g : Below w1.heap.size w1 W) : Below w0.heap.size w0 W := h.trans (g.mono h.size)
theorem Blk.set {b : Nat} {cs : Array Value} {T : TypeId} {W : World} (h : Blk b cs T W) (j : Nat) (y : Value) : Blk b (cs.setIfInBounds j y) T (W.setCell ⟨b, j, none⟩ y) := by
  show (W.heap.modify b _)[b]? = _
  rw [Array.getElem?_modify, if_pos rfl, show W.heap[b]? = _ from h]
  rfl
theorem heap_set {b j k : Nat} {W : World} {y : Value} (h : k ≠ b) : (W.setCell ⟨b, j, none⟩ y).heap[k]? = W.heap[k]? := Below.heap_setCell _ _ _ _ (by show k ≠ b; exact h)
theorem Blk.far {g b j : Nat} {cs : Array Value} {x : Value} {T : TypeId} {W : World} (h : Blk g cs T W) (hne : g ≠ b) : Blk g cs T (W.setCell ⟨b, j, none⟩ x) := (heap_set hne).trans h
theorem blk_two {b : Nat} {cs cs' : Array Value} {T T' : TypeId} {W : World} (h : Blk b cs T W) (h' : Blk b cs' T' W) : T = T' := by
  have e := h.symm.trans h'
  injection e with e
  injection e

/-- a block of cells -/
def IsC (g : Nat) (W : World) : Prop := ∃ cur T fz, W.heap[g]? = some (.cells cur T fz)
theorem IsC.lt {g : Nat} {W : World} (h : IsC g W) : g < W.heap.size := by obtain ⟨_, _, _, h⟩ := h; exact (Array.getElem?_eq_some_iff.1 h).1
/-- a row that is read: n things of s cells each -/
def Sees (s : Nat) (v : Value) (n : Nat) (cs : List Value) (W : World) : Prop :=
  ∃ p cap, v = .slice p n cap ∧ n ≤ cap ∧ cap ≤ maxLen ∧ cs.length = n * s ∧ ((p = none ∧ n = 0) ∨ ∃ g o, p = some ⟨g, o, none⟩ ∧ IsC g W ∧ ∀ j u, cs[j]? = some u → W.cell? ⟨g, o + j, none⟩ = some u)
theorem Sees.keep {s : Nat} {v : Value} {n : Nat} {cs : List Value} {W W' : World} (h : Sees s v n cs W) (hk : ∀ k, v.ownBlock = some k → k < W.heap.size → W'.heap[k]? = W.heap[k]?) : Sees s v n cs W' := by
  obtain ⟨p, cap, rfl, h1, h2, h3, h4⟩ := h
  refine ⟨p, cap, rfl, h1, h2, h3, ?_⟩
  rcases h4 with h4 | ⟨g, o, rfl, hg, hc⟩
  · exact .inl h4
  · have hb := hk g rfl hg.lt
    obtain ⟨cur, T, fz, hh⟩ := hg
    exact .inr ⟨g, o, rfl, ⟨cur, T, fz, hb.trans hh⟩, fun j u hu => (World.cell?_of_block (a := ⟨g, o + j, none⟩) hb).trans (hc j u hu)⟩
theorem Sees.below {s : Nat} {v : Value} {n : Nat} {cs : List Value} {W W' : World} (h : Sees s v n cs W) (hb : Below W.heap.size W W') : Sees s v n cs W' := h.keep fun k _ hk => hb.block k hk
theorem Sees.of_own {base s : Nat} {T : TypeId} {v : Value} {n : Nat} {cs : List Value} {W : World} (h : W.ownsRow base T s v n cs) : Sees s v n cs W := by
  obtain ⟨h1, h2⟩ := h
  rcases h2 with ⟨rfl, rfl⟩ | ⟨g, cap, cur, rfl, hb, hg, hn, hc, hs, ht⟩
  · exact ⟨none, 0, rfl, Nat.le_refl _, Nat.zero_le _, h1, .inl ⟨rfl, rfl⟩⟩
  · refine ⟨_, cap, rfl, hn, hc, h1, .inr ⟨g, 0, rfl, ⟨cur, T, (0, 0), hg⟩, fun j u hu => ?_⟩⟩
    rw [Nat.zero_add, cell_of_row W g j cur _ _ hg]
    have hj : j < n * s := by have := (List.getElem?_eq_some_iff.1 hu).1; omega
    rw [← ht, List.getElem?_take_of_lt hj, Array.getElem?_toList] at hu
    exact hu
theorem Sees.nil (s : Nat) (W : World) : Sees s (.slice none 0 0) 0 [] W := ⟨none, 0, rfl, Nat.le_refl _, Nat.zero_le _, by simp, .inl ⟨rfl, rfl⟩⟩
theorem Sees.lt {s : Nat} {v : Value} {n k : Nat} {cs : List Value} {W : World} (h : Sees s v n cs W) (hk : v.ownBlock = some k) : k < W.heap.size := by
  obtain ⟨p, cap, rfl, _, _, _, ⟨rfl, _⟩ | ⟨g, o, rfl, hg, _⟩⟩ := h
  · cases hk
  · simp [Value.ownBlock] at hk
    subst hk
    exact hg.lt
theorem Sees.isC {s : Nat} {v : Value} {n k : Nat} {cs : List Value} {W : World} (h : Sees s v n cs W) (hk : v.ownBlock = some k) : IsC k W := by
  obtain ⟨p, cap, rfl, _, _, _, ⟨rfl, _⟩ | ⟨g, o, rfl, hg, _⟩⟩ := h
  · cases hk
  · simp [Value.ownBlock] at hk
    subst hk
    exact hg
theorem Sees.one {s : Nat} {v : Value} {n : Nat} {cs : List Value} {W : World} (h : Sees s v n cs W) : v.oneCell' = true := by
  obtain ⟨p, c, rfl, _⟩ := h; rfl

/-- what a call leaves of all that is not in F, and in F' of what lay only what was in F -/
structure Keep (W W' : World) (F F' : Nat → Prop) : Prop where
  os : W'.os = W.os
  tape : W'.tape = W.tape
  output : W'.output = W.output
  size : W.heap.size ≤ W'.heap.size
  block : ∀ k, k < W.heap.size → ¬ F k → W'.heap[k]? = W.heap[k]? ∧ ¬ F' k
theorem Keep.refl (W : World) (F : Nat → Prop) : Keep W W F F := ⟨rfl, rfl, rfl, Nat.le_refl _, fun k _ h => ⟨rfl, h⟩⟩
theorem Keep.trans {A B C : World} {F G H : Nat → Prop} (h : Keep A B F G) (g : Keep B C G H) : Keep A C F H :=
  ⟨g.os.trans h.os, g.tape.trans h.tape, g.output.trans h.output, Nat.le_trans h.size g.size, fun k hk hf => by
    obtain ⟨h1, h2⟩ := h.block k hk hf
    obtain ⟨g1, g2⟩ := g.block k (Nat.lt_of_lt_of_le hk h.size) h2
    exact ⟨g1.trans h1, g2⟩⟩
theorem Keep.call {W W' : World} (F : Nat → Prop) (h : Below W.heap.size W W') : Keep W W' F F := ⟨h.os, h.tape, h.output, h.size, fun k hk hf => ⟨h.block k hk, hf⟩⟩
theorem Keep.start {W W' : World} {F : Nat → Prop} (h : Below W.heap.size W W') (hF : ∀ k, F k → W.heap.size ≤ k) : Keep W W' (fun _ => False) F :=
  ⟨h.os, h.tape, h.output, h.size, fun k hk _ => ⟨h.block k hk, fun hf => by have := hF k hf; omega⟩⟩
theorem Keep.set {W : World} {F : Nat → Prop} {b j : Nat} {v : Value} (hb : F b) : Keep W (W.setCell ⟨b, j, none⟩ v) F F :=
  ⟨rfl, rfl, rfl, by simp [World.setCell], fun k hk hf => ⟨heap_set fun e => hf (e ▸ hb), hf⟩⟩
theorem Keep.grown {W W' : World} {F F' : Nat → Prop} {row : Option Nat} (h : W.grownBy W' row) (hr : ∀ k, row = some k → F k) (hF : ∀ k, F' k → F k ∨ W.heap.size ≤ k) : Keep W W' F F' :=
  ⟨h.os, h.tape, h.output, h.size, fun k hk hf => ⟨h.block k hk fun e => hf (hr k e.symm), fun h' => by
    rcases hF k h' with h1 | h1
    · exact hf h1
    · omega⟩⟩
theorem Keep.mono {W W' : World} {F F' G G' : Nat → Prop} (h : Keep W W' F F') (h1 : ∀ k, k < W.heap.size → F k → G k) (h2 : ∀ k, G' k → F' k ∨ G k ∨ W.heap.size ≤ k) : Keep W W' G G' :=
  ⟨h.os, h.tape, h.output, h.size, fun k hk hf => by
    obtain ⟨a, b⟩ := h.block k hk fun e => hf (h1 k hk e)
    exact ⟨a, fun e => by
      rcases h2 k e with h3 | h3 | h3
      · exact b h3
      · exact hf h3
      · omega⟩⟩
theorem Keep.below {W W' : World} {F' : Nat → Prop} (h : Keep W W' (fun _ => False) F') : Below W.heap.size W W' := ⟨h.os, h.tape, h.output, h.size, fun k hk => (h.block k hk id).1⟩
theorem Keep.blk {W W' : World} {F F' : Nat → Prop} {b : Nat} {cs : Array Value} {T : TypeId} (h : Keep W W' F F') (hb : Blk b cs T W) (hf : ¬ F b) : Blk b cs T W' := (h.block b hb.lt hf).1.trans hb
theorem Keep.new {W W' : World} {F F' : Nat → Prop} (h : Keep W W' F F') {k : Nat} (hk : F' k) : F k ∨ W.heap.size ≤ k := by
  rcases Nat.lt_or_ge k W.heap.size with h1 | h1
  · exact .inl (Classical.byContradiction fun hf => (h.block k h1 hf).2 hk)
  · exact .inr h1
theorem Keep.sees {W W' : World} {F F' : Nat → Prop} {s : Nat} {v : Value} {n : Nat} {cs : List Value} (h : Keep W W' F F') (hs : Sees s v n cs W) (hf : ∀ k, v.ownBlock = some k → ¬ F k) : Sees s v n cs W' := hs.keep fun k hk hl => (h.block k hl (hf k hk)).1

/-- cells of lists -/
def enC (l : List En) : List Value := l.flatMap fun e => [nI e.term, .string e.data]
def boC (l : List Bool) : List Value := l.map Value.bool
def inC (l : List Nat) : List Value := l.map nI
def msC (m : Ms) (e : Value) : List Value := [nI m.kind, nI m.frm, nI m.to, nI m.term, nI m.index, nI m.lterm, .bool m.ok, e, nI m.commit, nI m.form]
def mssC (S : List (Ms × Value)) : List Value := S.flatMap fun x => msC x.1 x.2
theorem enC_len (l : List En) : (enC l).length = l.length * 2 := by
  induction l with
  | nil => rfl
  | cons e l ih =>
    have h3 : enC (e :: l) = nI e.term :: .string e.data :: enC l := rfl
    rw [h3, List.length_cons, List.length_cons, List.length_cons, ih]; omega
theorem mssC_len (S : List (Ms × Value)) : (mssC S).length = S.length * 10 := by
  induction S with
  | nil => rfl
  | cons e l ih =>
    have h3 : mssC (e :: l) = msC e.1 e.2 ++ mssC l := rfl
    rw [h3, List.length_append, ih, List.length_cons, show (msC e.1 e.2).length = 10 from rfl]; omega
theorem boC_len (l : List Bool) : (boC l).length = l.length * 1 := by simp [boC]
theorem inC_len (l : List Nat) : (inC l).length = l.length * 1 := by simp [inC]
theorem enC_app (a b : List En) : enC (a ++ b) = enC a ++ enC b := by simp [enC]
theorem mssC_app (a b : List (Ms × Value)) : mssC (a ++ b) = mssC a ++ mssC b := by simp [mssC]
theorem enC_take (l : List En) : ∀ k, (enC l).take (k * 2) = enC (l.take k) := by
  induction l with
  | nil => intro k; simp [enC]
  | cons e l ih =>
    intro k
    cases k with
    | zero => simp [enC]
    | succ k =>
      have h2 : (k + 1) * 2 = k * 2 + 1 + 1 := by omega
      have h3 : enC (e :: l) = nI e.term :: .string e.data :: enC l := rfl
      rw [h2, h3, List.take_succ_cons, List.take_succ_cons, ih k]
      rfl
theorem enC_at (l : List En) : ∀ (i : Nat) (h : i < l.length), (enC l)[i * 2]? = some (nI l[i].term) ∧ (enC l)[i * 2 + 1]? = some (.string l[i].data) := by
  induction l with
  | nil => intro i h; exact absurd h (by simp)
  | cons e l ih =>
    intro i h
    have h3 : enC (e :: l) = nI e.term :: .string e.data :: enC l := rfl
    cases i with
    | zero => rw [h3]; exact ⟨rfl, rfl⟩
    | succ i =>
      have h2 : (i + 1) * 2 = i * 2 + 1 + 1 := by omega
      rw [h2, h3, List.getElem?_cons_succ, List.getElem?_cons_succ, List.getElem?_cons_succ, List.getElem?_cons_succ]
      exact ih i (by simpa using h)
theorem boC_at (l : List Bool) (i : Nat) (h : i < l.length) : (boC l)[i]? = some (.bool l[i]) := by simp [boC, h]
theorem inC_at (l : List Nat) (i : Nat) (h : i < l.length) : (inC l)[i]? = some (nI l[i]) := by simp [inC, h]
end Go.Proofs.Ytbojfiflemmgaaa
