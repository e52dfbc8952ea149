/-
  What the reference's first, second do at a step: bytes put behind a row; a text's bytes as a list.
-/
import Derived.Test.YtjmmfgmmmdbenaaRA
import Derived.Laws.IdiomStrings
namespace Go.Proofs.Ytjmmfgmmmdbenaa
open Go.RowKit
set_option linter.unusedSimpArgs false
set_option linter.unusedVariables false

theorem ob_ne {W : World} {base b : Nat} {v : Value} {xs : List UInt8} {cs : Array Value} {T : TypeId} (h : OwnB W base v xs) (hb : Blk b cs T W) (hT : T ≠ 5) : v.ownBlock ≠ some b := by
  intro e
  rcases h.2 with ⟨rfl, _⟩ | ⟨g, cap, cur, rfl, _, hg, _⟩
  · cases e
  · simp [Value.ownBlock] at e
    subst e
    have h2 := hg.symm.trans hb
    injection h2 with h2
    injection h2 with h3 h4 h5
    exact hT h4.symm
theorem Blk.gr {b : Nat} {cs : Array Value} {T : TypeId} {W W' : World} {v : Value} (h : Blk b cs T W) (hg : W.grownBy W' v.ownBlock) (hne : v.ownBlock ≠ some b) : Blk b cs T W' := (hg.block b h.lt (fun e => hne e.symm)).trans h
theorem below_gr {n base : Nat} {w W W' : World} {v : Value} {xs : List UInt8} (hB : Below n w W) (ho : OwnB W base v xs) (hn : n ≤ base) (hs : base ≤ W.heap.size) (hg : W.grownBy W' v.ownBlock) : Below n w W' :=
  hB.trans ⟨hg.os, hg.tape, hg.output, hg.size, fun k hk => hg.block k (by omega) (fun e => by have := (ho.lt k e.symm).1; omega)⟩
theorem ownB_new2 (W : World) (base : Nat) (hb : base ≤ W.heap.size) (a b : UInt8) : OwnB (W.alloc (.cells #[.int .u8 (a.toNat : Int), .int .u8 (b.toNat : Int)] 5)) base (.slice (some ⟨W.heap.size, 0, none⟩) 2 2) [a, b] :=
  ⟨rfl, .inr ⟨W.heap.size, 2, _, rfl, hb, heap_alloc_new W _, Nat.le_refl _, by unfold maxLen; omega, rfl, rfl⟩⟩
/-- one byte put behind a row, at a step -/
theorem step_app1 {ops : Array Oper} {o : Oper} {a : Act} {K : Act → World → Prop} {Q : Exit → Act → World → Prop} {E : Prop} (hgd : o.guard = none) (sl x : Operand)
    (ho : o.op = .call { callee := .builtin .append, args := #[sl, x], argTypes := #[35, 35] })
    (W : World) (y : UInt8) (base : Nat) (v : Value) (xs : List UInt8) (hown : OwnB W base v xs) (hs : a.eval sl = v)
    (hx : a.eval x = .slice (some ⟨W.heap.size, 0, none⟩) 1 1) (hlen : xs.length ≤ 2199023255552) (hb : base ≤ W.heap.size)
    (h : ∀ v' w', OwnB w' base v' (xs ++ [y]) → (W.alloc (.cells #[.int .u8 (y.toNat : Int)] 5)).grownBy w' v.ownBlock → K (a.put o.dst v') w') : if Region.wanted o (yielded ops a.tmps) = true then Oper.wp Try.prog o a (W.alloc (.cells #[.int .u8 (y.toNat : Int)] 5)) K Q else E := by
  obtain ⟨i0, hi, hz0, hz1, hz2⟩ := info_parts info_byte
  refine step_append_lies _ hgd sl x 35 ho base 5 i0 (.int .u8 0) 1 1 Try.underlying35 hi hz0 hz1 hz2 rfl (by decide) v xs.length (B8 xs) hs (hown.alloc _) ⟨W.heap.size, 0, none⟩ 1 1 [.int .u8 (y.toNat : Int)] hx rfl (cell_one_new W _ _) (by simp [Value.oneCell']) (by decide) (by unfold maxLen; omega) (by omega) (by simp; omega) _ rfl ?_
  intro g cap w1 hown1 hgrow1 hat1 _
  exact h _ w1 (ownB_snoc rfl hown1) hgrow1
/-- likewise, the byte's block wherever it is -/
theorem step_app1b {ops : Array Oper} {o : Oper} {a : Act} {K : Act → World → Prop} {Q : Exit → Act → World → Prop} {E : Prop} (hgd : o.guard = none) (sl x : Operand)
    (ho : o.op = .call { callee := .builtin .append, args := #[sl, x], argTypes := #[35, 35] })
    (W : World) (b : Nat) (y : UInt8) (base : Nat) (v : Value) (xs : List UInt8) (hown : OwnB W base v xs) (hblk : Blk b #[.int .u8 (y.toNat : Int)] 5 W) (hs : a.eval sl = v)
    (hx : a.eval x = .slice (some ⟨b, 0, none⟩) 1 1) (hlen : xs.length ≤ 2199023255552) (hb : base ≤ W.heap.size)
    (h : ∀ v' w', OwnB w' base v' (xs ++ [y]) → W.grownBy w' v.ownBlock → K (a.put o.dst v') w') : if Region.wanted o (yielded ops a.tmps) = true then Oper.wp Try.prog o a W K Q else E := by
  obtain ⟨i0, hi, hz0, hz1, hz2⟩ := info_parts info_byte
  refine step_append_lies _ hgd sl x 35 ho base 5 i0 (.int .u8 0) 1 1 Try.underlying35 hi hz0 hz1 hz2 rfl (by decide) v xs.length (B8 xs) hs hown ⟨b, 0, none⟩ 1 1 [.int .u8 (y.toNat : Int)] hx rfl (fun j u hj => by
    match j, hj with
    | 0, hj => exact (hblk.cell 0).trans hj) (by simp [Value.oneCell']) (by decide) (by unfold maxLen; omega) (by omega) hb _ rfl ?_
  intro g cap w1 hown1 hgrow1 hat1 _
  exact h _ w1 (ownB_snoc rfl hown1) hgrow1
/-- a list of bytes put behind a row, at a step -/
theorem step_appT {ops : Array Oper} {o : Oper} {a : Act} {K : Act → World → Prop} {Q : Exit → Act → World → Prop} {E : Prop} (hgd : o.guard = none) (sl x : Operand)
    (ho : o.op = .call { callee := .builtin .append, args := #[sl, x], argTypes := #[35, 35] })
    (W : World) (base : Nat) (v : Value) (xs : List UInt8) (s : ByteArray) (ad : Addr) (c : Nat) (hown : OwnB W base v xs) (hs : a.eval sl = v)
    (hx : a.eval x = .slice (some ad) s.size c) (hcell : ∀ j u, (B8 (by8 s))[j]? = some u → W.cell? (ad.add j) = some u) (hlen : xs.length + s.size ≤ 2199023255552) (hb : base ≤ W.heap.size)
    (h : ∀ v' w', OwnB w' base v' (xs ++ by8 s) → W.grownBy w' v.ownBlock → K (a.put o.dst v') w') : if Region.wanted o (yielded ops a.tmps) = true then Oper.wp Try.prog o a W K Q else E := by
  have hw : Region.wanted o (yielded ops a.tmps) = true := by simp [Region.wanted, hgd]
  rw [if_pos hw]
  obtain ⟨i0, hi, hz0, hz1, hz2⟩ := info_parts info_byte
  have hl : (B8 (by8 s)).length = s.size := by simp [B8]
  obtain ⟨v', w', hr, h2, h3, _⟩ := run_append_own (P := Try.prog) (w := W) base 35 o.type 5 i0 (.int .u8 0) 1 1 Try.underlying35 hi hz0 hz1 hz2 rfl (by decide) v xs.length (B8 xs) hown ad s.size c (B8 (by8 s)) (by rw [hl]; simp) hcell (by intro u hu; obtain ⟨y, _, rfl⟩ := List.mem_map.1 hu; rfl) (by unfold maxLen; omega) (by omega) hb
  unfold Oper.wp execOp
  simp only [ho, resolve, invoke, builtin, Sem.run_bind, Sem.run_pure, Result.andThen_ok, List.map_toArray, List.map_cons, List.map_nil, hs, hx, hr]
  have hl2 : (xs ++ by8 s).length = xs.length + s.size := by rw [List.length_append, by8_len]
  refine h v' w' ?_ h3
  show w'.ownsRow base 5 1 v' (xs ++ by8 s).length (B8 (xs ++ by8 s))
  rw [hl2, show B8 (xs ++ by8 s) = B8 xs ++ B8 (by8 s) by simp [B8]]
  exact h2
/-- a block that no row of our own is -/
def Mark (b : Nat) (W : World) : Prop := ∃ cs m1 m2, W.heap[b]? = some (.cells cs 5 (m1, m2 + 1))
theorem Mark.lt {b : Nat} {W : World} (h : Mark b W) : b < W.heap.size := by
  obtain ⟨_, _, _, h⟩ := h
  exact (Array.getElem?_eq_some_iff.1 h).1
theorem Mark.below {b : Nat} {W W' : World} (h : Mark b W) (hb : Below W.heap.size W W') : Mark b W' := by
  have hl := h.lt
  obtain ⟨cs, m1, m2, h⟩ := h
  exact ⟨cs, m1, m2, (hb.block b hl).trans h⟩
theorem ob_mark {W : World} {base b : Nat} {v : Value} {xs : List UInt8} (h : OwnB W base v xs) (hm : Mark b W) : v.ownBlock ≠ some b := by
  intro e
  obtain ⟨cs, m1, m2, hm⟩ := hm
  rcases h.2 with ⟨rfl, _⟩ | ⟨g, cap, cur, rfl, _, hg, _⟩
  · cases e
  · simp [Value.ownBlock] at e
    subst e
    have h2 := hg.symm.trans hm
    injection h2 with h2
    injection h2 with h3 h4 h5
    injection h5 with h6 h7
    exact absurd h7 (by omega)
theorem Mark.gr {b : Nat} {W W' : World} {v : Value} (h : Mark b W) (hg : W.grownBy W' v.ownBlock) (hne : v.ownBlock ≠ some b) : Mark b W' := by
  have hl := h.lt
  obtain ⟨cs, m1, m2, h⟩ := h
  exact ⟨cs, m1, m2, (hg.block b hl (fun e => hne e.symm)).trans h⟩
/-- a text's bytes as a list of their own -/
def Conv (s : ByteArray) (W W' : World) (v : Value) : Prop := ∃ b c, v = .slice (some ⟨b, 0, none⟩) s.size c ∧ W.heap.size ≤ b ∧ b < W'.heap.size ∧ Below W.heap.size W W' ∧ Mark b W' ∧ ∀ j u, (B8 (by8 s))[j]? = some u → W'.cell? ⟨b, j, none⟩ = some u
theorem addr0 (b j : Nat) : Addr.add ⟨b, 0, none⟩ j = ⟨b, j, none⟩ := by
  by_cases h0 : j = 0
  · subst h0; simp [Addr.add]
  · simp [Addr.add, h0]
theorem conv_run (s : ByteArray) (W : World) : ∃ v W', (convert 9 35 (.string s)).run Try.prog W = .ok v W' ∧ Conv s W W' v := by
  refine ⟨_, _, run_bytes_of_string (P := Try.prog) W 9 35 5 s (by kernel_rfl) (by kernel_rfl) (by kernel_rfl), W.heap.size, _, rfl, Nat.le_refl _, ?_, ?_, ?_, ?_⟩
  · show _ < (World.alloc _ _).heap.size
    simp
  · exact (Below.refl _ _).drew.alloc (by simp) _
  · refine ⟨bytesRow s (grownCap W s.size 0 5), (bytesRow s (grownCap W s.size 0 5)).size, (bytesRow s (grownCap W s.size 0 5)).size, ?_⟩
    have h := heap_alloc_new W.drew (.cells (bytesRow s (grownCap W s.size 0 5)) 5 ((bytesRow s (grownCap W s.size 0 5)).size, (bytesRow s (grownCap W s.size 0 5)).size + 1))
    rw [show (W.drew).heap.size = W.heap.size by simp] at h
    exact h
  · intro j u hj
    have hjs : j < s.size := by
      have := (List.getElem?_eq_some_iff.1 hj).1
      simpa [B8] using this
    have h1 := World.cell?_alloc_mark W.drew (bytesRow s (grownCap W s.size 0 5)) 5 ((bytesRow s (grownCap W s.size 0 5)).size, (bytesRow s (grownCap W s.size 0 5)).size + 1) j
    have h2 : (B8 (by8 s))[j]? = some (.int .u8 (s.data[j].toNat : Int)) := by
      show (List.map _ s.data.toList)[j]? = _
      rw [List.getElem?_map, Array.getElem?_toList, Array.getElem?_eq_getElem hjs]
      rfl
    rw [h2] at hj
    injection hj with hj
    subst hj
    rw [show (W.drew).heap.size = W.heap.size by simp] at h1
    exact h1.trans (bytesRow_at s _ j hjs)
theorem rfix8 (n : Int) (W : World) (base : Nat) (v : Value) (xs : List UInt8) (hn : Is64 n) (hown : OwnB W base v xs) (hbase : base ≤ W.heap.size) (hlen : xs.length ≤ 1099511627776) :
    Calls Try.prog 40 #[v, .int .i64 n, .int .i64 8] W fun e W' => ∃ v', e = .returned v' ∧ OwnB W' base v' (xs ++ fx 8 n) ∧ KeepB W W' v v' := rfixed_any 8 n W base v xs (by decide) hn hown hbase hlen
theorem rfix2 (n : Int) (W : World) (base : Nat) (v : Value) (xs : List UInt8) (hn : Is64 n) (hown : OwnB W base v xs) (hbase : base ≤ W.heap.size) (hlen : xs.length ≤ 1099511627776) :
    Calls Try.prog 40 #[v, .int .i64 n, .int .i64 2] W fun e W' => ∃ v', e = .returned v' ∧ OwnB W' base v' (xs ++ fx 2 n) ∧ KeepB W W' v v' := rfixed_any 2 n W base v xs (by decide) hn hown hbase hlen
theorem rsh (n : Int) (h0 : 0 ≤ n) (W : World) (base : Nat) (v : Value) (xs : List UInt8) (hn : n ≤ 9223372036854775807) (hown : OwnB W base v xs) (hbase : base ≤ W.heap.size) (hlen : xs.length ≤ 1099511627776) :
    Calls Try.prog 42 #[v, .int .i64 n] W fun e W' => ∃ v', e = .returned v' ∧ OwnB W' base v' (xs ++ sh n.toNat) ∧ KeepB W W' v v' := by
  have h := rfree_any n.toNat W base v xs (by omega) hown hbase hlen
  rw [Int.toNat_of_nonneg h0] at h
  exact h
theorem conv_keep {s : ByteArray} {W W' : World} {v : Value} {b : Nat} (h : ∀ j u, (B8 (by8 s))[j]? = some u → W.cell? ⟨b, j, none⟩ = some u) (hl : b < W.heap.size) (hg : W.grownBy W' v.ownBlock) (hne : v.ownBlock ≠ some b) : ∀ j u, (B8 (by8 s))[j]? = some u → W'.cell? ⟨b, j, none⟩ = some u :=
  fun j u hj => (World.cell?_of_block (a := ⟨b, j, none⟩) (hg.block b hl (fun e => hne e.symm))).trans (h j u hj)
theorem conv_below {s : ByteArray} {W W' : World} {b : Nat} (h : ∀ j u, (B8 (by8 s))[j]? = some u → W.cell? ⟨b, j, none⟩ = some u) (hl : b < W.heap.size) (hb : Below W.heap.size W W') : ∀ j u, (B8 (by8 s))[j]? = some u → W'.cell? ⟨b, j, none⟩ = some u :=
  fun j u hj => (World.cell?_of_block (a := ⟨b, j, none⟩) (hb.block b hl)).trans (h j u hj)
theorem fl_byte (b : Bool) : ∃ y : UInt8, fl b = [y] ∧ (if b then (1 : Int) else 0) = (y.toNat : Int) := by
  cases b
  · exact ⟨0, rfl, rfl⟩
  · exact ⟨1, rfl, rfl⟩
theorem rbit_y (b : Bool) (y : UInt8) (hy : (if b then (1 : Int) else 0) = (y.toNat : Int)) (w : World) : Calls Try.prog 41 #[.bool b] w fun e w' => e = .returned (.int .u8 (y.toNat : Int)) ∧ w' = w := by
  rw [← hy]
  exact rbit_any b w
end Go.Proofs.Ytjmmfgmmmdbenaa
