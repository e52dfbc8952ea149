/-
  Package cmd: numbers by seven bits, truths, marks, put.
-/
import Derived.Test.YtjmmfgmmmdbenaaC1
namespace Go.Proofs.Ytjmmfgmmmdbenaa
open Go.RowKit
set_option linter.unusedSimpArgs false
set_option linter.unusedVariables false

/-- at putShort's label -/
def JP (W : World) (base : Nat) (v : Value) (xs : List UInt8) (blk off : Nat) (n0 : Nat) (l n : Nat) (a : Act) (wr : World) : Prop :=
  l = 0 ∧ ∃ (vb : Value) (ys : List UInt8) (u : Nat → Value), a = ⟨#[vb, ptr blk off, undef, undef, .slice none 0 0, .int .i64 (n : Int), u 6, u 7, u 8, u 9, u 10, u 11, u 12, u 13, u 14, u 15, u 16, u 17, u 18, u 19, u 20, u 21, u 22, u 23], []⟩ ∧
    OwnB wr base vb ys ∧ Hid (ys ++ sh n = xs ++ sh n0) ∧ KeepB W wr v vb ∧ n ≤ 9223372036854775807 ∧ ys.length + (sh n).length = xs.length + (sh n0).length
theorem JP.intro {W : World} {base : Nat} {v : Value} {xs : List UInt8} {blk off n0 l n : Nat} {wr : World} (a : Act) (vb : Value) (ys : List UInt8) (hl : l = 0)
    (ha : a = ⟨#[vb, ptr blk off, undef, undef, .slice none 0 0, .int .i64 (n : Int), a.tmps.getD 6 undef, a.tmps.getD 7 undef, a.tmps.getD 8 undef, a.tmps.getD 9 undef, a.tmps.getD 10 undef, a.tmps.getD 11 undef, a.tmps.getD 12 undef, a.tmps.getD 13 undef, a.tmps.getD 14 undef, a.tmps.getD 15 undef, a.tmps.getD 16 undef, a.tmps.getD 17 undef, a.tmps.getD 18 undef, a.tmps.getD 19 undef, a.tmps.getD 20 undef, a.tmps.getD 21 undef, a.tmps.getD 22 undef, a.tmps.getD 23 undef], []⟩)
    (h1 : OwnB wr base vb ys) (h2 : ys ++ sh n = xs ++ sh n0) (h3 : KeepB W wr v vb) (h4 : n ≤ 9223372036854775807) (h5 : ys.length + (sh n).length = xs.length + (sh n0).length) : JP W base v xs blk off n0 l n a wr :=
  ⟨hl, vb, ys, (fun i => a.tmps.getD i undef), ha, h1, h2, h3, h4, h5⟩

theorem or128 (n : Nat) : bits BinOp.or IntKind.u8 ((n : Int) % 256) 128 = ((n % 128 + 128 : Nat) : Int) := by
  have key : ∀ m : Fin 256, bits BinOp.or IntKind.u8 ((m.val : Nat) : Int) 128 = ((m.val % 128 + 128 : Nat) : Int) := by decide +kernel
  have := key ⟨n % 256, by omega⟩
  simp only at this
  rw [show ((n : Int) % 256) = ((n % 256 : Nat) : Int) by omega, this]
  omega
set_option maxRecDepth 100000 in
set_option maxHeartbeats 2000000 in
theorem putShort_any (n0 : Nat) (W : World) (base : Nat) (v : Value) (xs : List UInt8) (blk off : Nat) (hn : n0 ≤ 9223372036854775807)
    (hcell : W.cell? ⟨blk, off, none⟩ = some (.int .i64 (n0 : Int))) (hown : OwnB W base v xs) (hbase : base ≤ W.heap.size) (hlen : xs.length ≤ 1099511627776) :
    Calls Try.prog 91 #[v, ptr blk off] W fun e W' => ∃ v', e = .returned v' ∧ OwnB W' base v' (xs ++ sh n0) ∧ KeepB W W' v v' := by
  go_enter Try.func91, Try.ntmps91
  go_wp2
  refine wp_scope_fall (JP W base v xs blk off n0) ?first ?pass
  case first =>
    intro fall
    go_wp2
    rename_i hrest
    go_step3
    refine hrest _ _ ?_
    clear hrest
    exact fall 0 n0 _ _ (JP.intro _ _ xs rfl rfl hown rfl (KeepB.refl _ _) hn rfl) _ (by kernel_rfl)
  case pass =>
    intro l n a wr fall hJ
    clear fall
    obtain ⟨rfl, vb, ys, u, rfl, hrow, hys, hK, hnn, hyl⟩ := hJ
    have hszz := hK.grown.size
    refine ⟨_, rfl, ?_⟩
    have hl0 := sh_len 8 n0 (by omega)
    by_cases h : n < 128
    · have hb : Hid ((n : Int) = ((UInt8.ofNat n).toNat : Int)) := by show _ = _; rw [u8_ofNat (by omega)]
      go_wp2_with (at_builtin; refine wpList_app1 rfl _ _ rfl wr (UInt8.ofNat n) _ hb.out base _ ys hrow rfl rfl (by omega) (by omega) ?_; intro g cap w1 hown1 hK1)
      change bodyPost Try.prog Try.f91 (fun e W' => ∃ v', e = .returned v' ∧ OwnB W' base v' (xs ++ sh n0) ∧ KeepB W W' v v') Exit.ret _ _
      go_ret
      refine ⟨_, rfl, ?_, hK.trans hK1⟩
      have hh := hys.out
      rw [sh_lt h] at hh
      rw [← hh]
      simpa using hown1
    · have hor : Hid (bits BinOp.or IntKind.u8 ((n : Int) % 256) 128 = ((UInt8.ofNat (n % 128 + 128)).toNat : Int)) := by
        show _ = _
        rw [u8_ofNat (by omega)]
        exact or128 n
      go_wp2_with (at_builtin; refine wpList_app1 rfl _ _ rfl wr (UInt8.ofNat (n % 128 + 128)) _ hor.out base _ ys hrow rfl rfl (by omega) (by omega) ?_; intro g cap w1 hown1 hK1)
      have hge := sh_ge (n := n) (by omega)
      refine wp_goto ⟨n / 128, by omega, JP.intro _ _ (ys ++ [UInt8.ofNat (n % 128 + 128)]) rfl (by rfl) (by simpa using hown1) ?_ (hK.trans hK1) (by omega) ?_⟩
      · rw [← hys.out, hge]; simp
      · rw [← hyl, hge]; simp; omega
end Go.Proofs.Ytjmmfgmmmdbenaa
