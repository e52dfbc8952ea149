/-
  What package key's appendKey and Key return and leave: a value's bytes.
-/
import Derived.Test.YtbpjejjbgdikdaaS3
import Derived.Test.YtbpjejjbgdikdaaS4
import Derived.Laws.Bits64
namespace Go.Proofs.Ytbpjejjbgdikdaa
open Go.RowKit Go.Shelf
set_option linter.unusedSimpArgs false
set_option linter.unusedVariables false

/-- a value's bytes -/
def keyN (k n s : Int) (t : ByteArray) : List Int :=
  k :: (if k = 1 then [n] else if k = 2 then beK 56 (n + 9223372036854775808) 8 else if k = 3 then beK 56 (fl n s + 9223372036854775808) 8 ++ beK 24 (fr n s) 4 else if k = 4 ∨ k = 5 then markL t else [])
abbrev I8 (l : List Int) : List Value := l.map (Value.int .u8)

/-- bytes that are being appended: the box at w's end holds the slice v; behind it lies a value's box -/
structure AK (w : World) (B : Nat) (v0 : Value) (cs : Array Value) (k : Nat) (xs : List Value) (v : Value) (W : World) : Prop where
  box : Boxed W w.heap.size 49 v
  val : W.heap[w.heap.size + 1]? = some (.cells cs 24 (0, 0))
  row : W.ownsRow B 5 1 v k xs
  grown : w.grownBy W v0.ownBlock
  lies : v.ownBlock = v0.ownBlock ∨ ∃ g, v.ownBlock = some g ∧ w.heap.size ≤ g
  base : B ≤ w.heap.size
theorem AK.cell {w : World} {B : Nat} {v0 : Value} {cs : Array Value} {k : Nat} {xs : List Value} {v : Value} {W : World} (h : AK w B v0 cs k xs v W) (j : Nat) : W.cell? ⟨w.heap.size + 1, j, none⟩ = cs[j]? := cell_of_row W _ j cs _ _ h.val
theorem AK.low {w : World} {B : Nat} {v0 : Value} {cs : Array Value} {k : Nat} {xs : List Value} {v : Value} {W : World} (h : AK w B v0 cs k xs v W) : B ≤ W.heap.size := Nat.le_trans h.base h.grown.size
theorem AK.far {w : World} {B : Nat} {v0 : Value} {cs : Array Value} {k : Nat} {xs : List Value} {v : Value} {W : World} (h : AK w B v0 cs k xs v W) : some (w.heap.size + 1) ≠ v.ownBlock := by
  rcases h.row.2 with ⟨rfl, _⟩ | ⟨g, cap, cur, rfl, _, hgb, _⟩
  · simp [Value.ownBlock]
  · intro e'
    obtain rfl : w.heap.size + 1 = g := by simpa [Value.ownBlock] using e'
    have := h.val.symm.trans hgb
    simp at this
/-- behind a call that appends: what lies, and what is behind the store -/
theorem AK.call {w : World} {B : Nat} {v0 : Value} {cs : Array Value} {k k' : Nat} {xs xs' : List Value} {v : Value} {W W' : World} {g cap : Nat} (h : AK w B v0 cs k xs v W)
    (hown : W'.ownsRow B 5 1 (.slice (some ⟨g, 0, none⟩) k' cap) k' xs') (hgrow : W.grownBy W' v.ownBlock) (hat : v.ownBlock = some g ∨ W.heap.size ≤ g) :
    AK w B v0 cs k' xs' (.slice (some ⟨g, 0, none⟩) k' cap) (W'.setCell ⟨w.heap.size, 0, none⟩ (.slice (some ⟨g, 0, none⟩) k' cap)) ∧ W'.cell? ⟨w.heap.size, 0, none⟩ = some v ∧ W'.frozen? ⟨w.heap.size, 0, none⟩ = false ∧ (∀ j, W'.cell? ⟨w.heap.size + 1, j, none⟩ = cs[j]?) := by
  have hb' : Boxed W' w.heap.size 49 v := h.box.kept hgrow (h.box.not_row (by decide) h.row)
  have hv' : W'.heap[w.heap.size + 1]? = some (.cells cs 24 (0, 0)) := (hgrow.block _ (Array.getElem?_eq_some_iff.1 h.val).1 h.far).trans h.val
  have hgr : w.grownBy W' v0.ownBlock := grownBy_trans h.grown hgrow (by
    rcases h.lies with e | ⟨g', e, hge⟩
    · exact Or.inl e
    · right; intro r er; rw [e] at er; cases er; exact hge)
  refine ⟨⟨hb'.set _, ?_, hown.kept (grownBy_setCell' W' _ _) (.inr (hb'.not_row (by decide) hown).symm), grownBy_trans hgr (grownBy_setCell' W' _ _) (Or.inr fun r e => by cases e; exact Nat.le_refl _), ?_, h.base⟩, hb'.cell, hb'.frozen, fun j => cell_of_row W' _ j cs _ _ hv'⟩
  · exact (Below.heap_setCell _ _ _ _ (by simp)).trans hv'
  · rcases hat with e | e
    · rcases h.lies with e' | ⟨g', e', hge⟩
      · left; rw [← e', e]; rfl
      · right; rw [e] at e'; cases e'; exact ⟨g, rfl, hge⟩
    · right; exact ⟨g, rfl, Nat.le_trans h.grown.size e⟩
theorem AK.start {w : World} {B : Nat} {p : Option Addr} {c0 : Nat} {cs : Array Value} {k : Nat} {xs : List Value} (hrow : w.ownsRow B 5 1 (.slice p k c0) k xs) (hB : B ≤ w.heap.size) :
    AK w B (.slice p k c0) cs k xs (.slice p k c0) ((w.alloc (.cells #[.slice p k c0] 49)).alloc (.cells cs 24)) := by
  refine ⟨(Boxed.new w _ _).alloc _, ?_, (hrow.alloc _).alloc _, grownBy_trans (grownBy_alloc' w _ _) (grownBy_alloc' _ _ none) (Or.inr fun _ h => by cases h), .inl rfl, hB⟩
  have := World.alloc_heap_new (w.alloc (.cells #[.slice p k c0] 49)) (.cells cs 24)
  rwa [World.size_alloc] at this

theorem nat_xor_top (a : Nat) (h : a < 18446744073709551616) : a ^^^ 9223372036854775808 = if a < 9223372036854775808 then a + 9223372036854775808 else a - 9223372036854775808 := by
  have h1 := Nat.div_add_mod (a ^^^ 9223372036854775808) (2 ^ 63)
  rw [Nat.xor_div_two_pow, Nat.xor_mod_two_pow, show (9223372036854775808 / 2 ^ 63 : Nat) = 1 by decide, show (9223372036854775808 % 2 ^ 63 : Nat) = 0 by decide, Nat.xor_zero] at h1
  by_cases hl : a < 9223372036854775808
  · rw [if_pos hl, show a / 2 ^ 63 = 0 by omega, show (0 ^^^ 1 : Nat) = 1 by decide] at *
    omega
  · rw [if_neg hl, show a / 2 ^ 63 = 1 by omega, show (1 ^^^ 1 : Nat) = 0 by decide] at *
    omega
/-- the highest bit of a number turned -/
theorem xor_top {n : Int} (hn : Is64 n) : bits BinOp.xor IntKind.u64 (IntKind.u64.wrap n) 9223372036854775808 = n + 9223372036854775808 := by
  have hw : IntKind.u64.wrap n = ((n % 18446744073709551616).toNat : Int) := by
    show n % 18446744073709551616 = _
    omega
  have := bits_xor_u64_nat (n % 18446744073709551616).toNat 9223372036854775808 (by omega) (by decide)
  rw [hw]
  refine this.trans ?_
  rw [nat_xor_top _ (by omega)]
  unfold Is64 at hn
  split <;> omega
theorem AK.below {w : World} {B : Nat} {v0 : Value} {cs : Array Value} {k : Nat} {xs : List Value} {v : Value} {W W' : World} (h : AK w B v0 cs k xs v W) (hb : Below W.heap.size W W') : AK w B v0 cs k xs v W' := by
  have hg : W.grownBy W' none := ⟨hb.os, hb.tape, hb.output, hb.size, fun j hj _ => hb.block j hj⟩
  exact ⟨h.box.kept hg (by simp), (hb.block _ (Array.getElem?_eq_some_iff.1 h.val).1).trans h.val, h.row.kept hg (by
    rcases h.row.2 with ⟨rfl, _⟩ | ⟨g, cap, cur, rfl, _⟩ <;> simp [Value.ownBlock]), grownBy_trans h.grown hg (Or.inr fun _ e => by cases e), h.lies, h.base⟩

def Post (B : Nat) (v0 : Value) (w : World) (k : Nat) (xs : List Value) (e : Ending) (W' : World) : Prop :=
  ∃ g cap, e = .returned (.slice (some ⟨g, 0, none⟩) k cap) ∧ W'.ownsRow B 5 1 (.slice (some ⟨g, 0, none⟩) k cap) k xs ∧ w.grownBy W' v0.ownBlock ∧ (v0.ownBlock = some g ∨ w.heap.size ≤ g)
theorem AK.done {w : World} {B : Nat} {v0 : Value} {cs : Array Value} {k : Nat} {xs : List Value} {g cap : Nat} {W : World} (h : AK w B v0 cs k xs (.slice (some ⟨g, 0, none⟩) k cap) W) : Post B v0 w k xs (.returned (.slice (some ⟨g, 0, none⟩) k cap)) W := by
  refine ⟨g, cap, rfl, h.row, h.grown, ?_⟩
  rcases h.lies with e | ⟨g', e, hge⟩
  · left; rw [← e]; rfl
  · right; cases e; exact hge

set_option maxHeartbeats 1000000 in
theorem appendKey0 (B : Nat) (p : Option Addr) (k c0 : Nat) (xs : List Value) (n s : Int) (t : ByteArray) (w : World) (hrow : w.ownsRow B 5 1 (.slice p k c0) k xs) (hBw : B ≤ w.heap.size) (hk : k ≤ 900000) :
    Calls Try.prog 27 #[.slice p k c0, V 0 n s t] w (Post B (.slice p k c0) w (k + 1) (xs ++ I8 (beK 0 0 1))) := by
  have H0 := AK.start (cs := #[.int .i64 0, .int .i64 n, .int .i64 s, .string t]) hrow hBw
  go_enter Try.func27, Try.ntmps27
  go_wp2_with (first | (go_at_call 39; refine (app8_any B _ _ _ _ _ (by decide) _ H0.row H0.low (by omega)).mono ?_; rintro e W1 ⟨g1, c1, rfl, hown1, hgr1, hat1⟩; obtain ⟨H1, hc1, hf1, hv1⟩ := H0.call hown1 hgr1 hat1; clear H0; have hv10 := hv1 0; have hv11 := hv1 1; have hv12 := hv1 2; have hv13 := hv1 3; simp at hv10 hv11 hv12 hv13))
  go_ret
  exact H1.done

set_option maxHeartbeats 1000000 in
theorem appendKey1 (B : Nat) (p : Option Addr) (k c0 : Nat) (xs : List Value) (n s : Int) (t : ByteArray) (w : World) (hrow : w.ownsRow B 5 1 (.slice p k c0) k xs) (hBw : B ≤ w.heap.size) (hk : k ≤ 900000) (hn : n = 0 ∨ n = 1) :
    Calls Try.prog 27 #[.slice p k c0, V 1 n s t] w (Post B (.slice p k c0) w (k + 1 + 1) (xs ++ I8 (beK 0 1 1) ++ I8 (beK 0 n 1))) := by
  have H0 := AK.start (cs := #[.int .i64 1, .int .i64 n, .int .i64 s, .string t]) hrow hBw
  have e8 : n % 256 = n := by omega
  have b8 : 0 ≤ n ∧ n < 2 ^ 8 := by omega
  go_enter Try.func27, Try.ntmps27
  go_wp2_with (first | (go_at_call 39; refine (app8_any B _ _ _ _ _ (by decide) _ H0.row H0.low (by omega)).mono ?_; rintro e W1 ⟨g1, c1, rfl, hown1, hgr1, hat1⟩; obtain ⟨H1, hc1, hf1, hv1⟩ := H0.call hown1 hgr1 hat1; clear H0; have hv10 := hv1 0; have hv11 := hv1 1; have hv12 := hv1 2; have hv13 := hv1 3; simp at hv10 hv11 hv12 hv13) | (go_at_call 39; refine (app8_any B _ _ _ _ _ b8 _ H1.row H1.low (by omega)).mono ?_; rintro e W2 ⟨g2, c2, rfl, hown2, hgr2, hat2⟩; obtain ⟨H2, hc2, hf2, hv2⟩ := H1.call hown2 hgr2 hat2; clear H1; have hv20 := hv2 0; have hv21 := hv2 1; have hv22 := hv2 2; have hv23 := hv2 3; simp at hv20 hv21 hv22 hv23))
  go_ret
  exact H2.done

set_option maxHeartbeats 1000000 in
theorem appendKey2 (B : Nat) (p : Option Addr) (k c0 : Nat) (xs : List Value) (n s : Int) (t : ByteArray) (w : World) (hrow : w.ownsRow B 5 1 (.slice p k c0) k xs) (hBw : B ≤ w.heap.size) (hk : k ≤ 900000) (hn : Is64 n) :
    Calls Try.prog 27 #[.slice p k c0, V 2 n s t] w (Post B (.slice p k c0) w (k + 1 + 8) (xs ++ I8 (beK 0 2 1) ++ I8 (beK 56 (n + 9223372036854775808) 8))) := by
  have H0 := AK.start (cs := #[.int .i64 2, .int .i64 n, .int .i64 s, .string t]) hrow hBw
  have ex := xor_top hn
  have bx : 0 ≤ n + 9223372036854775808 ∧ n + 9223372036854775808 < 2 ^ 64 := by unfold Is64 at hn; omega
  go_enter Try.func27, Try.ntmps27
  go_wp2_with (first | (go_at_call 39; refine (app8_any B _ _ _ _ _ (by decide) _ H0.row H0.low (by omega)).mono ?_; rintro e W1 ⟨g1, c1, rfl, hown1, hgr1, hat1⟩; obtain ⟨H1, hc1, hf1, hv1⟩ := H0.call hown1 hgr1 hat1; clear H0; have hv10 := hv1 0; have hv11 := hv1 1; have hv12 := hv1 2; have hv13 := hv1 3; simp at hv10 hv11 hv12 hv13) | (go_at_call 40; refine (app64_any B _ _ _ _ _ bx _ H1.row H1.low (by omega)).mono ?_; rintro e W2 ⟨g2, c2, rfl, hown2, hgr2, hat2⟩; obtain ⟨H2, hc2, hf2, hv2⟩ := H1.call hown2 hgr2 hat2; clear H1; have hv20 := hv2 0; have hv21 := hv2 1; have hv22 := hv2 2; have hv23 := hv2 3; simp at hv20 hv21 hv22 hv23))
  go_ret
  exact H2.done

set_option maxHeartbeats 1000000 in
theorem appendKey3 (B : Nat) (p : Option Addr) (k c0 : Nat) (xs : List Value) (n s : Int) (t : ByteArray) (w : World) (hrow : w.ownsRow B 5 1 (.slice p k c0) k xs) (hBw : B ≤ w.heap.size) (hk : k ≤ 900000) (hn : n.natAbs < 1000000000000000) (h0 : 0 ≤ s) (h6 : s ≤ 6) :
    Calls Try.prog 27 #[.slice p k c0, V 3 n s t] w (Post B (.slice p k c0) w (k + 1 + 8 + 4) (xs ++ I8 (beK 0 3 1) ++ I8 (beK 56 (fl n s + 9223372036854775808) 8) ++ I8 (beK 24 (fr n s) 4))) := by
  have H0 := AK.start (cs := #[.int .i64 3, .int .i64 n, .int .i64 s, .string t]) hrow hBw
  have hfb := fl_bd (s := s) hn
  have hff := fr_bd (n := n) h0 h6
  have CP := hide (fun W => kparts_any 3 n s t W hn h0 h6)
  generalize fl n s = q at *
  generalize fr n s = f at *
  have ex := xor_top (n := q) (by unfold Is64; omega)
  have bx : 0 ≤ q + 9223372036854775808 ∧ q + 9223372036854775808 < 2 ^ 64 := by omega
  have bf : 0 ≤ f ∧ f < 2 ^ 32 := by omega
  have ef : f % 4294967296 = f := by omega
  go_enter Try.func27, Try.ntmps27
  go_wp2_with (first | (go_at_call 41; refine (unhide CP _).mono ?_; rintro e WP ⟨rfl, hbp⟩; have HP := H1.below hbp; clear H1; have hpc := HP.box.cell; have hpf := HP.box.frozen) | (go_at_call 39; refine (app8_any B _ _ _ _ _ (by decide) _ H0.row H0.low (by omega)).mono ?_; rintro e W1 ⟨g1, c1, rfl, hown1, hgr1, hat1⟩; obtain ⟨H1, hc1, hf1, hv1⟩ := H0.call hown1 hgr1 hat1; clear H0; have hv10 := hv1 0; have hv11 := hv1 1; have hv12 := hv1 2; have hv13 := hv1 3; simp at hv10 hv11 hv12 hv13) | (go_at_call 40; refine (app64_any B _ _ _ _ _ bx _ HP.row HP.low (by omega)).mono ?_; rintro e W2 ⟨g2, c2, rfl, hown2, hgr2, hat2⟩; obtain ⟨H2, hc2, hf2, hv2⟩ := HP.call hown2 hgr2 hat2; clear HP; have hv20 := hv2 0; have hv21 := hv2 1; have hv22 := hv2 2; have hv23 := hv2 3; simp at hv20 hv21 hv22 hv23) | (go_at_call 42; refine (app32_any B _ _ _ _ _ bf _ H2.row H2.low (by omega)).mono ?_; rintro e W3 ⟨g3, c3, rfl, hown3, hgr3, hat3⟩; obtain ⟨H3, hc3, hf3, hv3⟩ := H2.call hown3 hgr3 hat3; clear H2; have hv30 := hv3 0; have hv31 := hv3 1; have hv32 := hv3 2; have hv33 := hv3 3; simp at hv30 hv31 hv32 hv33))
  go_ret
  exact H3.done

end Go.Proofs.Ytbpjejjbgdikdaa
