/-
  Package cmd: what it means that a function value puts, or takes, a thing; numbers of a fixed size, put.
-/
import Derived.Test.YtjmmfgmmmdbenaaRows
import Derived.Test.YtjmmfgmmmdbenaaC0
import Derived.Test.YtjmmfgmmmdbenaaM
import Derived.WalkKit
import Derived.WalkSpells
import Derived.WalkLawsBesides
import Derived.Deep.AppendLies
import Derived.Deep.DrawnRows
import Derived.Deep.RegionHeld3
import Derived.Test.YtjmmfgmmmdbenaaCS
namespace Go.Proofs.Ytjmmfgmmmdbenaa
open Go.RowKit
set_option linter.unusedSimpArgs false
set_option linter.unusedVariables false

theorem hide {p : Prop} (h : p) : Hid p := h
theorem unhide {p : Prop} (h : Hid p) : p := h
theorem info_byte : (Try.prog.info? 5).map (fun i => (i.zero, i.size, i.bytes)) = some (some (.int .u8 0), 1, 1) := by kernel_rfl
theorem info_parts {o : Option TypeInfo} {z : Value} {s b : Nat} (h : o.map (fun i => (i.zero, i.size, i.bytes)) = some (some z, s, b)) : ∃ i, o = some i ∧ i.zero = some z ∧ i.size = s ∧ i.bytes = b := by
  cases o with
  | none => simp at h
  | some i =>
    simp at h
    exact ⟨i, rfl, h.1, h.2.1, h.2.2⟩

abbrev ptr (b o : Nat) : Value := .pointer (some ⟨b, o, none⟩)
abbrev B8 (xs : List UInt8) : List Value := xs.map fun b => Value.int .u8 (b.toNat : Int)
abbrev OwnB (W : World) (base : Nat) (v : Value) (xs : List UInt8) : Prop := W.ownsRow base 5 1 v xs.length (B8 xs)
/-- bytes have been put behind a row: nothing else that lay has turned -/
structure KeepB (W W' : World) (v v' : Value) : Prop where
  grown : W.grownBy W' v.ownBlock
  own : v'.ownBlock = v.ownBlock ∨ ∀ k, v'.ownBlock = some k → W.heap.size ≤ k
theorem grownBy_trans {A B C : World} {row row' : Option Nat} (h : A.grownBy B row) (g : B.grownBy C row') (hr : row' = row ∨ ∀ k, row' = some k → A.heap.size ≤ k) : A.grownBy C row :=
  ⟨g.os.trans h.os, g.tape.trans h.tape, g.output.trans h.output, Nat.le_trans h.size g.size, fun k hk hne => (g.block k (Nat.lt_of_lt_of_le hk h.size) (by
    rcases hr with rfl | hr
    · exact hne
    · intro e; have := hr k e.symm; omega)).trans (h.block k hk hne)⟩
theorem grownBy_refl (W : World) (row : Option Nat) : W.grownBy W row := ⟨rfl, rfl, rfl, Nat.le_refl _, fun _ _ _ => rfl⟩
theorem grownBy_below {W W' : World} (row : Option Nat) (h : Below W.heap.size W W') : W.grownBy W' row := ⟨h.os, h.tape, h.output, h.size, fun k hk _ => h.block k hk⟩
theorem KeepB.refl (W : World) (v : Value) : KeepB W W v v := ⟨grownBy_refl _ _, .inl rfl⟩
theorem KeepB.trans {A B C : World} {v v' v'' : Value} (h : KeepB A B v v') (g : KeepB B C v' v'') : KeepB A C v v'' :=
  ⟨grownBy_trans h.grown g.grown h.own, by
    rcases g.own with e | e
    · rw [e]; exact h.own
    · exact .inr fun k hk => Nat.le_trans h.grown.size (e k hk)⟩
theorem KeepB.pre {A B C : World} {v v' : Value} (h : Below A.heap.size A B) (g : KeepB B C v v') : KeepB A C v v' :=
  ⟨grownBy_trans (grownBy_below v.ownBlock h) g.grown (.inl rfl), by
    rcases g.own with e | e
    · exact .inl e
    · exact .inr fun k hk => Nat.le_trans h.size (e k hk)⟩
theorem KeepB.block {W W' : World} {v v' : Value} (h : KeepB W W' v v') {k : Nat} (hk : k < W.heap.size) (hne : v.ownBlock ≠ some k) : W'.heap[k]? = W.heap[k]? := h.grown.block k hk fun e => hne e.symm
theorem KeepB.apart {W W' : World} {v v' : Value} (h : KeepB W W' v v') {k : Nat} (hk : k < W.heap.size) (hne : v.ownBlock ≠ some k) : v'.ownBlock ≠ some k := by
  rcases h.own with e | e
  · rw [e]; exact hne
  · intro h'; have := e k h'; omega
theorem KeepB.below {W W' : World} {v v' : Value} {xs : List UInt8} {base : Nat} (h : KeepB W W' v v') (ho : OwnB W base v xs) (hb : base ≤ W.heap.size) : Below base W W' :=
  ⟨h.grown.os, h.grown.tape, h.grown.output, h.grown.size, fun k hk => h.grown.block k (by omega) fun e => by have := (ho.lt k e.symm).1; omega⟩
theorem KeepB.grow {W W1 : World} {v : Value} {g n cap : Nat} {o : Obj} (hg : (W.alloc o).grownBy W1 v.ownBlock) (hat : v.ownBlock = some g ∨ g = (W.alloc o).heap.size) : KeepB W W1 v (.slice (some ⟨g, 0, none⟩) n cap) :=
  ⟨grownBy_trans (World.grownBy_alloc W o v.ownBlock) hg (.inl rfl), by
    rcases hat with e | e
    · exact .inl e.symm
    · refine .inr fun k hk => ?_
      simp [Value.ownBlock] at hk
      subst hk; rw [e]; simp⟩

theorem cell_one_new (W : World) (x : Value) (T : TypeId) : ∀ j u, [x][j]? = some u → (W.alloc (.cells #[x] T)).cell? (Addr.add ⟨W.heap.size, 0, none⟩ j) = some u := by
  intro j u h
  have hc := cell_of_row _ W.heap.size j _ _ _ (heap_alloc_new W (.cells #[x] T))
  match j, h with
  | 0, h => exact hc.trans h
theorem pow8 (j : Nat) : (2 : Int) ^ (8 * j) = 2 ^ (8 * j) := rfl
theorem bt_val (x : Int) : Value.int .u8 (x % 256) = .int .u8 ((bt x).toNat : Int) := by rw [bt_nat]
theorem ownB_snoc {W : World} {base : Nat} {xs : List UInt8} {v : Value} {b : UInt8} {n : Nat} (hn : n = xs.length + 1) (h : W.ownsRow base 5 1 v n (B8 xs ++ [.int .u8 (b.toNat : Int)])) : OwnB W base v (xs ++ [b]) := by
  subst hn
  unfold OwnB
  rw [List.length_append, show B8 (xs ++ [b]) = B8 xs ++ [.int .u8 (b.toNat : Int)] by simp [B8]]
  exact h

/-- one byte put behind a row of bytes -/
theorem wpList_app1 {ops : Array Oper} {rest : List Oper} {o : Oper} {a : Act} {Q : Exit → Act → World → Prop} (hgd : o.guard = none) (sl x : Operand)
    (ho : o.op = .call { callee := .builtin .append, args := #[sl, x], argTypes := #[35, 35] })
    (wr : World) (b : UInt8) (y : Int) (hy : y = (b.toNat : Int)) (base : Nat) (v : Value) (xs : List UInt8) (hown : OwnB wr base v xs) (hs : a.eval sl = v)
    (hx : a.eval x = .slice (some ⟨wr.heap.size, 0, none⟩) 1 1) (hlen : xs.length ≤ 2199023255552) (hb : base ≤ wr.heap.size)
    (h : ∀ g cap w', OwnB w' base (.slice (some ⟨g, 0, none⟩) (xs.length + 1) cap) (xs ++ [b]) → KeepB wr w' v (.slice (some ⟨g, 0, none⟩) (xs.length + 1) cap) → wpList Try.prog ops Q rest (a.put o.dst (.slice (some ⟨g, 0, none⟩) (xs.length + 1) cap)) w') :
    wpList Try.prog ops Q (o :: rest) a (wr.alloc (.cells #[.int .u8 y] 5)) := by
  obtain ⟨i0, hi, hz0, hz1, hz2⟩ := info_parts info_byte
  subst hy
  refine wpList_append_lies _ hgd sl x 35 ho base 5 i0 (.int .u8 0) 1 1 Try.underlying35 hi hz0 hz1 hz2 rfl (by decide) v xs.length (B8 xs) hs (hown.alloc _) ⟨wr.heap.size, 0, none⟩ 1 1 [.int .u8 (b.toNat : Int)] hx rfl (cell_one_new wr _ _) (by simp [Value.oneCell']) (by decide) (by unfold maxLen; omega) (by omega) (by simp; omega) _ rfl ?_
  intro g cap w1 hown1 hgrow1 hat1 _
  exact h g cap w1 (ownB_snoc rfl hown1) (KeepB.grow hgrow1 hat1)

set_option maxRecDepth 100000 in
set_option maxHeartbeats 2000000 in
theorem fixput_any (s bs : Nat) (n : Int) (W : World) (base : Nat) (v : Value) (xs : List UInt8) (blk off : Nat) (hs : s ≤ 8) (hn : Is64 n)
    (hbox : W.cell? ⟨bs, 0, none⟩ = some (.int .i64 (s : Int))) (hcell : W.cell? ⟨blk, off, none⟩ = some (.int .i64 n)) (hne : v.ownBlock ≠ some blk)
    (hown : OwnB W base v xs) (hbase : base ≤ W.heap.size) (hlen : xs.length ≤ 1099511627776) :
    Calls Try.prog 65 #[v, ptr blk off, ptr bs 0] W fun e W' => ∃ v', e = .returned v' ∧ OwnB W' base v' (xs ++ fx s n) ∧ KeepB W W' v v' := by
  have hlb := World.block_lt_of_cell? W _ hcell
  simp only at hlb
  have e1 : IntKind.i64.wrap ((s : Int) - 1) = (s : Int) - 1 := IntWalk.i64_in _ (by omega)
  go_enter Try.func65, Try.ntmps65
  go_wp2
  go_loopw [0, 6] (fun u i wr => ∃ k : Nat, k ≤ s ∧ i = .int .i64 ((k : Int) - 1) ∧ ∃ ys, OwnB wr base u ys ∧ Hid (ys ++ fx k n = xs ++ fx s n) ∧ KeepB W wr v u ∧ ys.length ≤ xs.length + (s - k))
    (fun u i wr => (intOf i + 1).toNat)
  case atStart => exact ⟨s, Nat.le_refl _, rfl, xs, hown, rfl, KeepB.refl _ _, by omega⟩
  case round =>
    obtain ⟨k, hk, rfl, ys, hrow, hys, hK, hyl⟩ := hrel
    have hszz := hK.grown.size
    have hcell2 : wr.cell? ⟨blk, off, none⟩ = some (.int .i64 n) := (World.cell?_of_block (w := W) (hK.block hlb hne)).trans hcell
    by_cases h0 : k = 0
    · subst h0
      go_wp2
      go_ret
      refine ⟨_, rfl, ?_, hK⟩
      have := hys.out
      simp [fx] at this
      rw [← this]; exact hrow
    · obtain ⟨j, rfl⟩ : ∃ j, k = j + 1 := ⟨k - 1, by omega⟩
      go_wp2_with (at_builtin; refine wpList_app1 rfl _ _ rfl wr (bt (n / 2 ^ (8 * j))) _ (bt_nat _).symm base _ ys hrow rfl rfl (by omega) (by omega) ?_; intro g cap w1 hown1 hK1)
      go_roundw
      case rel => exact ⟨j, by omega, by go_num, _, hown1, by show _ = _; rw [← hys.out]; simp [fx], hK.trans hK1, by simp; omega⟩
      case measure => simp [intOf] <;> omega
end Go.Proofs.Ytjmmfgmmmdbenaa
