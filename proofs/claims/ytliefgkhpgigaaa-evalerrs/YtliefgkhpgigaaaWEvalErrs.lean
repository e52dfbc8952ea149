/-
  EvalErrs: the walk.
-/
import Derived.Test.YtliefgkhpgigaaaVErA
namespace Go.Proofs.Ytliefgkhpgigaaa
open Go.RowKit
set_option linter.unusedSimpArgs false
set_option linter.unusedVariables false

set_option maxHeartbeats 64000000 in
set_option maxRecDepth 100000 in
theorem errs_walk (which : Int) (hw : Is64 which) (w : World) :
    Calls Try.prog 7 #[.int .i64 which] w fun e w' => e = .returned (.bool true) ∧ Below w.heap.size w w' := by
  have CW := hide (fun W => within4_any which 17 W hw (by decide))
  have h0 := Int.emod_nonneg which (show (17 : Int) ≠ 0 by decide)
  have h1 := Int.emod_lt_of_pos which (show (0 : Int) < 17 by decide)
  obtain ⟨jj, hj⟩ : ∃ j : Nat, which % 17 = (j : Int) := ⟨(which % 17).toNat, by omega⟩
  have hj6 : jj < 17 := by omega
  rw [hj] at CW
  clear h0 h1 hj hw
  go_enter Try.func7, Try.ntmps7
  go_wp2_with fail
  refine (known4_any _).mono ?_
  rintro e W1 ⟨rfl, hb⟩
  have G : Hid (Grown w W1) := hb
  clear hb
  go_wp2_with fail
  refine (colsL_any _).mono ?_
  rintro e W2 ⟨gc, rfl, hC, hb⟩
  replace G := hide ((unhide G).call hb)
  replace hC := hide hC
  clear hb
  go_wp2_with fail
  have hT := Blk.new W2 #[.string ⟨#[116]⟩, .slice (some ⟨gc, 0, none⟩) 4 4, .int .i64 0, .slice none 0 0, .int .i64 0, .string S0, .int .i64 0, .int .i64 0, .int .i64 0, .string S0, .slice none 0 0, .slice none 0 0] 34
  replace hT := hT.call (below_new (W2.alloc (.cells #[.string ⟨#[116]⟩, .slice (some ⟨gc, 0, none⟩) 4 4, .int .i64 0, .slice none 0 0, .int .i64 0, .string S0, .int .i64 0, .int .i64 0, .int .i64 0, .string S0, .slice none 0 0, .slice none 0 0] 34)) (.cells #[.int .i64 1, .string ⟨#[]⟩, .int .i64 2, .int .i64 1, .int .i64 0, .string ⟨#[]⟩, .slice none 0 0] 31))
  replace hT := hT.call (below_new ((W2.alloc (.cells #[.string ⟨#[116]⟩, .slice (some ⟨gc, 0, none⟩) 4 4, .int .i64 0, .slice none 0 0, .int .i64 0, .string S0, .int .i64 0, .int .i64 0, .int .i64 0, .string S0, .slice none 0 0, .slice none 0 0] 34)).alloc (.cells #[.int .i64 1, .string ⟨#[]⟩, .int .i64 2, .int .i64 1, .int .i64 0, .string ⟨#[]⟩, .slice none 0 0] 31)) (.cells #[.int .i64 1, .string ⟨#[]⟩, .int .i64 3, .int .i64 1, .int .i64 0, .string ⟨#[]⟩, .slice none 0 0] 31))
  replace hT := hT.call (below_new (((W2.alloc (.cells #[.string ⟨#[116]⟩, .slice (some ⟨gc, 0, none⟩) 4 4, .int .i64 0, .slice none 0 0, .int .i64 0, .string S0, .int .i64 0, .int .i64 0, .int .i64 0, .string S0, .slice none 0 0, .slice none 0 0] 34)).alloc (.cells #[.int .i64 1, .string ⟨#[]⟩, .int .i64 2, .int .i64 1, .int .i64 0, .string ⟨#[]⟩, .slice none 0 0] 31)).alloc (.cells #[.int .i64 1, .string ⟨#[]⟩, .int .i64 3, .int .i64 1, .int .i64 0, .string ⟨#[]⟩, .slice none 0 0] 31)) (.cells #[.int .i64 1, .string ⟨#[]⟩, .int .i64 4, .int .i64 0, .int .i64 0, .string ⟨#[120]⟩, .slice none 0 0] 31))
  replace hT := hT.call (below_new ((((W2.alloc (.cells #[.string ⟨#[116]⟩, .slice (some ⟨gc, 0, none⟩) 4 4, .int .i64 0, .slice none 0 0, .int .i64 0, .string S0, .int .i64 0, .int .i64 0, .int .i64 0, .string S0, .slice none 0 0, .slice none 0 0] 34)).alloc (.cells #[.int .i64 1, .string ⟨#[]⟩, .int .i64 2, .int .i64 1, .int .i64 0, .string ⟨#[]⟩, .slice none 0 0] 31)).alloc (.cells #[.int .i64 1, .string ⟨#[]⟩, .int .i64 3, .int .i64 1, .int .i64 0, .string ⟨#[]⟩, .slice none 0 0] 31)).alloc (.cells #[.int .i64 1, .string ⟨#[]⟩, .int .i64 4, .int .i64 0, .int .i64 0, .string ⟨#[120]⟩, .slice none 0 0] 31)) (.cells #[.int .i64 1, .string ⟨#[]⟩, .int .i64 0, .int .i64 0, .int .i64 0, .string ⟨#[]⟩, .slice none 0 0] 31))
  replace hT := hide hT
  have h4 := Blk.new (W2.alloc (.cells #[.string ⟨#[116]⟩, .slice (some ⟨gc, 0, none⟩) 4 4, .int .i64 0, .slice none 0 0, .int .i64 0, .string S0, .int .i64 0, .int .i64 0, .int .i64 0, .string S0, .slice none 0 0, .slice none 0 0] 34)) #[.int .i64 1, .string ⟨#[]⟩, .int .i64 2, .int .i64 1, .int .i64 0, .string ⟨#[]⟩, .slice none 0 0] 31
  rw [World.size_alloc] at h4
  replace h4 := h4.call (below_new ((W2.alloc (.cells #[.string ⟨#[116]⟩, .slice (some ⟨gc, 0, none⟩) 4 4, .int .i64 0, .slice none 0 0, .int .i64 0, .string S0, .int .i64 0, .int .i64 0, .int .i64 0, .string S0, .slice none 0 0, .slice none 0 0] 34)).alloc (.cells #[.int .i64 1, .string ⟨#[]⟩, .int .i64 2, .int .i64 1, .int .i64 0, .string ⟨#[]⟩, .slice none 0 0] 31)) (.cells #[.int .i64 1, .string ⟨#[]⟩, .int .i64 3, .int .i64 1, .int .i64 0, .string ⟨#[]⟩, .slice none 0 0] 31))
  replace h4 := h4.call (below_new (((W2.alloc (.cells #[.string ⟨#[116]⟩, .slice (some ⟨gc, 0, none⟩) 4 4, .int .i64 0, .slice none 0 0, .int .i64 0, .string S0, .int .i64 0, .int .i64 0, .int .i64 0, .string S0, .slice none 0 0, .slice none 0 0] 34)).alloc (.cells #[.int .i64 1, .string ⟨#[]⟩, .int .i64 2, .int .i64 1, .int .i64 0, .string ⟨#[]⟩, .slice none 0 0] 31)).alloc (.cells #[.int .i64 1, .string ⟨#[]⟩, .int .i64 3, .int .i64 1, .int .i64 0, .string ⟨#[]⟩, .slice none 0 0] 31)) (.cells #[.int .i64 1, .string ⟨#[]⟩, .int .i64 4, .int .i64 0, .int .i64 0, .string ⟨#[120]⟩, .slice none 0 0] 31))
  replace h4 := h4.call (below_new ((((W2.alloc (.cells #[.string ⟨#[116]⟩, .slice (some ⟨gc, 0, none⟩) 4 4, .int .i64 0, .slice none 0 0, .int .i64 0, .string S0, .int .i64 0, .int .i64 0, .int .i64 0, .string S0, .slice none 0 0, .slice none 0 0] 34)).alloc (.cells #[.int .i64 1, .string ⟨#[]⟩, .int .i64 2, .int .i64 1, .int .i64 0, .string ⟨#[]⟩, .slice none 0 0] 31)).alloc (.cells #[.int .i64 1, .string ⟨#[]⟩, .int .i64 3, .int .i64 1, .int .i64 0, .string ⟨#[]⟩, .slice none 0 0] 31)).alloc (.cells #[.int .i64 1, .string ⟨#[]⟩, .int .i64 4, .int .i64 0, .int .i64 0, .string ⟨#[120]⟩, .slice none 0 0] 31)) (.cells #[.int .i64 1, .string ⟨#[]⟩, .int .i64 0, .int .i64 0, .int .i64 0, .string ⟨#[]⟩, .slice none 0 0] 31))
  replace h4 := hide h4
  have h5 := Blk.new ((W2.alloc (.cells #[.string ⟨#[116]⟩, .slice (some ⟨gc, 0, none⟩) 4 4, .int .i64 0, .slice none 0 0, .int .i64 0, .string S0, .int .i64 0, .int .i64 0, .int .i64 0, .string S0, .slice none 0 0, .slice none 0 0] 34)).alloc (.cells #[.int .i64 1, .string ⟨#[]⟩, .int .i64 2, .int .i64 1, .int .i64 0, .string ⟨#[]⟩, .slice none 0 0] 31)) #[.int .i64 1, .string ⟨#[]⟩, .int .i64 3, .int .i64 1, .int .i64 0, .string ⟨#[]⟩, .slice none 0 0] 31
  rw [World.size_alloc, World.size_alloc] at h5
  replace h5 := h5.call (below_new (((W2.alloc (.cells #[.string ⟨#[116]⟩, .slice (some ⟨gc, 0, none⟩) 4 4, .int .i64 0, .slice none 0 0, .int .i64 0, .string S0, .int .i64 0, .int .i64 0, .int .i64 0, .string S0, .slice none 0 0, .slice none 0 0] 34)).alloc (.cells #[.int .i64 1, .string ⟨#[]⟩, .int .i64 2, .int .i64 1, .int .i64 0, .string ⟨#[]⟩, .slice none 0 0] 31)).alloc (.cells #[.int .i64 1, .string ⟨#[]⟩, .int .i64 3, .int .i64 1, .int .i64 0, .string ⟨#[]⟩, .slice none 0 0] 31)) (.cells #[.int .i64 1, .string ⟨#[]⟩, .int .i64 4, .int .i64 0, .int .i64 0, .string ⟨#[120]⟩, .slice none 0 0] 31))
  replace h5 := h5.call (below_new ((((W2.alloc (.cells #[.string ⟨#[116]⟩, .slice (some ⟨gc, 0, none⟩) 4 4, .int .i64 0, .slice none 0 0, .int .i64 0, .string S0, .int .i64 0, .int .i64 0, .int .i64 0, .string S0, .slice none 0 0, .slice none 0 0] 34)).alloc (.cells #[.int .i64 1, .string ⟨#[]⟩, .int .i64 2, .int .i64 1, .int .i64 0, .string ⟨#[]⟩, .slice none 0 0] 31)).alloc (.cells #[.int .i64 1, .string ⟨#[]⟩, .int .i64 3, .int .i64 1, .int .i64 0, .string ⟨#[]⟩, .slice none 0 0] 31)).alloc (.cells #[.int .i64 1, .string ⟨#[]⟩, .int .i64 4, .int .i64 0, .int .i64 0, .string ⟨#[120]⟩, .slice none 0 0] 31)) (.cells #[.int .i64 1, .string ⟨#[]⟩, .int .i64 0, .int .i64 0, .int .i64 0, .string ⟨#[]⟩, .slice none 0 0] 31))
  replace h5 := hide h5
  have h6 := Blk.new (((W2.alloc (.cells #[.string ⟨#[116]⟩, .slice (some ⟨gc, 0, none⟩) 4 4, .int .i64 0, .slice none 0 0, .int .i64 0, .string S0, .int .i64 0, .int .i64 0, .int .i64 0, .string S0, .slice none 0 0, .slice none 0 0] 34)).alloc (.cells #[.int .i64 1, .string ⟨#[]⟩, .int .i64 2, .int .i64 1, .int .i64 0, .string ⟨#[]⟩, .slice none 0 0] 31)).alloc (.cells #[.int .i64 1, .string ⟨#[]⟩, .int .i64 3, .int .i64 1, .int .i64 0, .string ⟨#[]⟩, .slice none 0 0] 31)) #[.int .i64 1, .string ⟨#[]⟩, .int .i64 4, .int .i64 0, .int .i64 0, .string ⟨#[120]⟩, .slice none 0 0] 31
  rw [World.size_alloc, World.size_alloc, World.size_alloc] at h6
  replace h6 := h6.call (below_new ((((W2.alloc (.cells #[.string ⟨#[116]⟩, .slice (some ⟨gc, 0, none⟩) 4 4, .int .i64 0, .slice none 0 0, .int .i64 0, .string S0, .int .i64 0, .int .i64 0, .int .i64 0, .string S0, .slice none 0 0, .slice none 0 0] 34)).alloc (.cells #[.int .i64 1, .string ⟨#[]⟩, .int .i64 2, .int .i64 1, .int .i64 0, .string ⟨#[]⟩, .slice none 0 0] 31)).alloc (.cells #[.int .i64 1, .string ⟨#[]⟩, .int .i64 3, .int .i64 1, .int .i64 0, .string ⟨#[]⟩, .slice none 0 0] 31)).alloc (.cells #[.int .i64 1, .string ⟨#[]⟩, .int .i64 4, .int .i64 0, .int .i64 0, .string ⟨#[120]⟩, .slice none 0 0] 31)) (.cells #[.int .i64 1, .string ⟨#[]⟩, .int .i64 0, .int .i64 0, .int .i64 0, .string ⟨#[]⟩, .slice none 0 0] 31))
  replace h6 := hide h6
  have h7 := Blk.new ((((W2.alloc (.cells #[.string ⟨#[116]⟩, .slice (some ⟨gc, 0, none⟩) 4 4, .int .i64 0, .slice none 0 0, .int .i64 0, .string S0, .int .i64 0, .int .i64 0, .int .i64 0, .string S0, .slice none 0 0, .slice none 0 0] 34)).alloc (.cells #[.int .i64 1, .string ⟨#[]⟩, .int .i64 2, .int .i64 1, .int .i64 0, .string ⟨#[]⟩, .slice none 0 0] 31)).alloc (.cells #[.int .i64 1, .string ⟨#[]⟩, .int .i64 3, .int .i64 1, .int .i64 0, .string ⟨#[]⟩, .slice none 0 0] 31)).alloc (.cells #[.int .i64 1, .string ⟨#[]⟩, .int .i64 4, .int .i64 0, .int .i64 0, .string ⟨#[120]⟩, .slice none 0 0] 31)) #[.int .i64 1, .string ⟨#[]⟩, .int .i64 0, .int .i64 0, .int .i64 0, .string ⟨#[]⟩, .slice none 0 0] 31
  rw [World.size_alloc, World.size_alloc, World.size_alloc, World.size_alloc] at h7
  replace h7 := hide h7
  have gg : Below W2.heap.size W2 (((((W2.alloc (.cells #[.string ⟨#[116]⟩, .slice (some ⟨gc, 0, none⟩) 4 4, .int .i64 0, .slice none 0 0, .int .i64 0, .string S0, .int .i64 0, .int .i64 0, .int .i64 0, .string S0, .slice none 0 0, .slice none 0 0] 34)).alloc (.cells #[.int .i64 1, .string ⟨#[]⟩, .int .i64 2, .int .i64 1, .int .i64 0, .string ⟨#[]⟩, .slice none 0 0] 31)).alloc (.cells #[.int .i64 1, .string ⟨#[]⟩, .int .i64 3, .int .i64 1, .int .i64 0, .string ⟨#[]⟩, .slice none 0 0] 31)).alloc (.cells #[.int .i64 1, .string ⟨#[]⟩, .int .i64 4, .int .i64 0, .int .i64 0, .string ⟨#[120]⟩, .slice none 0 0] 31)).alloc (.cells #[.int .i64 1, .string ⟨#[]⟩, .int .i64 0, .int .i64 0, .int .i64 0, .string ⟨#[]⟩, .slice none 0 0] 31)) := below_5 W2 _ _ _ _ _
  replace G := hide ((unhide G).call gg)
  replace hC := hide ((unhide hC).call gg)
  clear gg
  generalize (((((W2.alloc (.cells #[.string ⟨#[116]⟩, .slice (some ⟨gc, 0, none⟩) 4 4, .int .i64 0, .slice none 0 0, .int .i64 0, .string S0, .int .i64 0, .int .i64 0, .int .i64 0, .string S0, .slice none 0 0, .slice none 0 0] 34)).alloc (.cells #[.int .i64 1, .string ⟨#[]⟩, .int .i64 2, .int .i64 1, .int .i64 0, .string ⟨#[]⟩, .slice none 0 0] 31)).alloc (.cells #[.int .i64 1, .string ⟨#[]⟩, .int .i64 3, .int .i64 1, .int .i64 0, .string ⟨#[]⟩, .slice none 0 0] 31)).alloc (.cells #[.int .i64 1, .string ⟨#[]⟩, .int .i64 4, .int .i64 0, .int .i64 0, .string ⟨#[120]⟩, .slice none 0 0] 31)).alloc (.cells #[.int .i64 1, .string ⟨#[]⟩, .int .i64 0, .int .i64 0, .int .i64 0, .string ⟨#[]⟩, .slice none 0 0] 31)) = X at *
  generalize W2.heap.size + 1 + 1 + 1 + 1 = b7 at *
  generalize W2.heap.size + 1 + 1 + 1 = b6 at *
  generalize W2.heap.size + 1 + 1 = b5 at *
  generalize W2.heap.size + 1 = b4 at *
  generalize W2.heap.size = bt at *
  have hS : Hid (SE b4 b5 b6 b7 X) := ⟨unhide h4, unhide h5, unhide h6, unhide h7⟩
  clear h4 h5 h6 h7
  rename_i K7 hk7
  have REST7 : ∀ (ac : Act) (bl : Nat) (lv : Value) (ee : Ex) (kv ev : Int) (X : World), ac = ⟨#[.int .i64 which, ac.tmps.getD 1 undef, ac.tmps.getD 2 undef, .pointer (some ⟨bt, 0, none⟩), ac.tmps.getD 4 undef, ac.tmps.getD 5 undef, ac.tmps.getD 6 undef, ac.tmps.getD 7 undef, .slice (some ⟨bl, 0, none⟩) 17 17, ac.tmps.getD 9 undef, ac.tmps.getD 10 undef, ac.tmps.getD 11 undef, ac.tmps.getD 12 undef, ac.tmps.getD 13 undef, ac.tmps.getD 14 undef, ac.tmps.getD 15 undef, ac.tmps.getD 16 undef, ac.tmps.getD 17 undef, ac.tmps.getD 18 undef, ac.tmps.getD 19 undef, ac.tmps.getD 20 undef, ac.tmps.getD 21 undef, ac.tmps.getD 22 undef, ac.tmps.getD 23 undef, ac.tmps.getD 24 undef, ac.tmps.getD 25 undef, ac.tmps.getD 26 undef, ac.tmps.getD 27 undef, ac.tmps.getD 28 undef, ac.tmps.getD 29 undef, ac.tmps.getD 30 undef, ac.tmps.getD 31 undef, ac.tmps.getD 32 undef, ac.tmps.getD 33 undef, ac.tmps.getD 34 undef, ac.tmps.getD 35 undef, ac.tmps.getD 36 undef, ac.tmps.getD 37 undef, ac.tmps.getD 38 undef, ac.tmps.getD 39 undef, ac.tmps.getD 40 undef, ac.tmps.getD 41 undef, ac.tmps.getD 42 undef, ac.tmps.getD 43 undef, ac.tmps.getD 44 undef, ac.tmps.getD 45 undef, ac.tmps.getD 46 undef, ac.tmps.getD 47 undef, ac.tmps.getD 48 undef, ac.tmps.getD 49 undef, ac.tmps.getD 50 undef, ac.tmps.getD 51 undef, ac.tmps.getD 52 undef, ac.tmps.getD 53 undef, ac.tmps.getD 54 undef, ac.tmps.getD 55 undef, ac.tmps.getD 56 undef, ac.tmps.getD 57 undef, ac.tmps.getD 58 undef, ac.tmps.getD 59 undef, ac.tmps.getD 60 undef, ac.tmps.getD 61 undef, ac.tmps.getD 62 undef, ac.tmps.getD 63 undef, ac.tmps.getD 64 undef, ac.tmps.getD 65 undef, ac.tmps.getD 66 undef, ac.tmps.getD 67 undef, ac.tmps.getD 68 undef, ac.tmps.getD 69 undef, ac.tmps.getD 70 undef, ac.tmps.getD 71 undef, ac.tmps.getD 72 undef, ac.tmps.getD 73 undef, ac.tmps.getD 74 undef, ac.tmps.getD 75 undef, ac.tmps.getD 76 undef, ac.tmps.getD 77 undef, ac.tmps.getD 78 undef, ac.tmps.getD 79 undef, ac.tmps.getD 80 undef, ac.tmps.getD 81 undef, ac.tmps.getD 82 undef, ac.tmps.getD 83 undef, ac.tmps.getD 84 undef, ac.tmps.getD 85 undef, ac.tmps.getD 86 undef, ac.tmps.getD 87 undef, ac.tmps.getD 88 undef, ac.tmps.getD 89 undef, ac.tmps.getD 90 undef, ac.tmps.getD 91 undef, ac.tmps.getD 92 undef, ac.tmps.getD 93 undef, ac.tmps.getD 94 undef, ac.tmps.getD 95 undef, ac.tmps.getD 96 undef, ac.tmps.getD 97 undef, ac.tmps.getD 98 undef, ac.tmps.getD 99 undef, ac.tmps.getD 100 undef, ac.tmps.getD 101 undef], []⟩ → TyIs ee kv ev → (#[.int .i64 4, .int .i64 4, .int .i64 5, .int .i64 5, .int .i64 5, .int .i64 5, .int .i64 5, .int .i64 5, .int .i64 0, .int .i64 0, .int .i64 0, .int .i64 0, .int .i64 0, .int .i64 4, .int .i64 0, .int .i64 5, .int .i64 0] : Array Value)[jj]? = some (.int .i64 ev) → (#[.int .i64 0, .int .i64 0, .int .i64 0, .int .i64 0, .int .i64 0, .int .i64 0, .int .i64 0, .int .i64 0, .int .i64 1, .int .i64 3, .int .i64 0, .int .i64 1, .int .i64 1, .int .i64 0, .int .i64 0, .int .i64 0, .int .i64 1] : Array Value)[jj]? = some (.int .i64 kv) → Hid (Grown w X) → Hid (ColsOf (.slice (some ⟨gc, 0, none⟩) 4 4) cols4 X) → Hid (Blk bt #[.string ⟨#[116]⟩, .slice (some ⟨gc, 0, none⟩) 4 4, .int .i64 0, N0, .int .i64 0, .string S0, .int .i64 0, .int .i64 0, .int .i64 0, .string S0, N0, N0] 34 X) → Hid (ElAt bl jj ee lv X) → Hid (Rep ee lv X) → K7 ac X := by
    clear G hC hT hS
    intro ac bl lv ee kv ev X ha hTy hAE hAK G hC hT hE hRE
    obtain ⟨u, rfl⟩ : ∃ u : Nat → Value, ac = ⟨#[.int .i64 which, u 1, u 2, .pointer (some ⟨bt, 0, none⟩), u 4, u 5, u 6, u 7, .slice (some ⟨bl, 0, none⟩) 17 17, u 9, u 10, u 11, u 12, u 13, u 14, u 15, u 16, u 17, u 18, u 19, u 20, u 21, u 22, u 23, u 24, u 25, u 26, u 27, u 28, u 29, u 30, u 31, u 32, u 33, u 34, u 35, u 36, u 37, u 38, u 39, u 40, u 41, u 42, u 43, u 44, u 45, u 46, u 47, u 48, u 49, u 50, u 51, u 52, u 53, u 54, u 55, u 56, u 57, u 58, u 59, u 60, u 61, u 62, u 63, u 64, u 65, u 66, u 67, u 68, u 69, u 70, u 71, u 72, u 73, u 74, u 75, u 76, u 77, u 78, u 79, u 80, u 81, u 82, u 83, u 84, u 85, u 86, u 87, u 88, u 89, u 90, u 91, u 92, u 93, u 94, u 95, u 96, u 97, u 98, u 99, u 100, u 101], []⟩ := ⟨fun i => ac.tmps.getD i undef, ha⟩
    clear ha
    refine hk7 _ _ ?_
    clear hk7
    have hji : (jj : Int) < 17 := by omega
    have CT := hide (fun (W : World) h1 h3 => (hTy.1 ▸ type_any (.string ⟨#[116]⟩) (.int .i64 0) N0 (.int .i64 0) (.string S0) (.int .i64 0) (.int .i64 0) (.int .i64 0) (.string S0) N0 N0 (.slice (some ⟨gc, 0, none⟩) 4 4) lv cols4 ee W h1 hTy.2 h3 : Calls Try.prog 16 #[TabN ⟨#[116]⟩ (.slice (some ⟨gc, 0, none⟩) 4 4), .agg (exC ee lv).toArray] W (Fin (kv, ev) W)))
    have HAE := hide hAE
    have HAK := hide hAK
    clear hTy hAE hAK
    go_wp2_with fail
    refine (unhide CW _).mono ?_
    rintro e W9 ⟨rfl, rfl⟩
    have hbe := (Blk.new X #[.int .i64 4, .int .i64 4, .int .i64 5, .int .i64 5, .int .i64 5, .int .i64 5, .int .i64 5, .int .i64 5, .int .i64 0, .int .i64 0, .int .i64 0, .int .i64 0, .int .i64 0, .int .i64 4, .int .i64 0, .int .i64 5, .int .i64 0] 37).call (below_new _ (.cells #[.int .i64 0, .int .i64 0, .int .i64 0, .int .i64 0, .int .i64 0, .int .i64 0, .int .i64 0, .int .i64 0, .int .i64 1, .int .i64 3, .int .i64 0, .int .i64 1, .int .i64 1, .int .i64 0, .int .i64 0, .int .i64 0, .int .i64 1] 3))
    have hbk := Blk.new (X.alloc (.cells #[.int .i64 4, .int .i64 4, .int .i64 5, .int .i64 5, .int .i64 5, .int .i64 5, .int .i64 5, .int .i64 5, .int .i64 0, .int .i64 0, .int .i64 0, .int .i64 0, .int .i64 0, .int .i64 4, .int .i64 0, .int .i64 5, .int .i64 0] 37)) #[.int .i64 0, .int .i64 0, .int .i64 0, .int .i64 0, .int .i64 0, .int .i64 0, .int .i64 0, .int .i64 0, .int .i64 1, .int .i64 3, .int .i64 0, .int .i64 1, .int .i64 1, .int .i64 0, .int .i64 0, .int .i64 0, .int .i64 1] 3
    rw [World.size_alloc] at hbk
    have gg := below_2 X (.cells #[.int .i64 4, .int .i64 4, .int .i64 5, .int .i64 5, .int .i64 5, .int .i64 5, .int .i64 5, .int .i64 5, .int .i64 0, .int .i64 0, .int .i64 0, .int .i64 0, .int .i64 0, .int .i64 4, .int .i64 0, .int .i64 5, .int .i64 0] 37) (.cells #[.int .i64 0, .int .i64 0, .int .i64 0, .int .i64 0, .int .i64 0, .int .i64 0, .int .i64 0, .int .i64 0, .int .i64 1, .int .i64 3, .int .i64 0, .int .i64 1, .int .i64 1, .int .i64 0, .int .i64 0, .int .i64 0, .int .i64 1] 3)
    replace G := hide ((unhide G).call gg)
    replace hC := hide ((unhide hC).call gg)
    replace hT := hide ((unhide hT).call gg)
    replace hE := hide ((unhide hE).call gg)
    replace hRE := hide ((unhide hRE).call gg)
    replace hbe := hide hbe
    replace hbk := hide hbk
    clear gg CW
    go_wp2_with fail
    generalize (X.alloc (.cells #[.int .i64 4, .int .i64 4, .int .i64 5, .int .i64 5, .int .i64 5, .int .i64 5, .int .i64 5, .int .i64 5, .int .i64 0, .int .i64 0, .int .i64 0, .int .i64 0, .int .i64 0, .int .i64 4, .int .i64 0, .int .i64 5, .int .i64 0] 37)).alloc (.cells #[.int .i64 0, .int .i64 0, .int .i64 0, .int .i64 0, .int .i64 0, .int .i64 0, .int .i64 0, .int .i64 0, .int .i64 1, .int .i64 3, .int .i64 0, .int .i64 1, .int .i64 1, .int .i64 0, .int .i64 0, .int .i64 0, .int .i64 1] 3) = X9 at *
    generalize X.heap.size + 1 = bk at *
    generalize X.heap.size = be at *
    rename_i K11 hk11
    have REST11 : ∀ (ac : Act) (X : World), ac = ⟨#[.int .i64 which, ac.tmps.getD 1 undef, ac.tmps.getD 2 undef, .pointer (some ⟨bt, 0, none⟩), ac.tmps.getD 4 undef, ac.tmps.getD 5 undef, ac.tmps.getD 6 undef, ac.tmps.getD 7 undef, .slice (some ⟨bl, 0, none⟩) 17 17, .slice (some ⟨be, 0, none⟩) 17 17, .slice (some ⟨bk, 0, none⟩) 17 17, .int .i64 (jj : Int), .int .i64 kv, .int .i64 ev, ac.tmps.getD 14 undef, ac.tmps.getD 15 undef, ac.tmps.getD 16 undef, ac.tmps.getD 17 undef, ac.tmps.getD 18 undef, ac.tmps.getD 19 undef, ac.tmps.getD 20 undef, ac.tmps.getD 21 undef, ac.tmps.getD 22 undef, ac.tmps.getD 23 undef, ac.tmps.getD 24 undef, ac.tmps.getD 25 undef, ac.tmps.getD 26 undef, ac.tmps.getD 27 undef, ac.tmps.getD 28 undef, ac.tmps.getD 29 undef, ac.tmps.getD 30 undef, ac.tmps.getD 31 undef, ac.tmps.getD 32 undef, ac.tmps.getD 33 undef, ac.tmps.getD 34 undef, ac.tmps.getD 35 undef, ac.tmps.getD 36 undef, ac.tmps.getD 37 undef, ac.tmps.getD 38 undef, ac.tmps.getD 39 undef, ac.tmps.getD 40 undef, ac.tmps.getD 41 undef, ac.tmps.getD 42 undef, ac.tmps.getD 43 undef, ac.tmps.getD 44 undef, ac.tmps.getD 45 undef, ac.tmps.getD 46 undef, ac.tmps.getD 47 undef, ac.tmps.getD 48 undef, ac.tmps.getD 49 undef, ac.tmps.getD 50 undef, ac.tmps.getD 51 undef, ac.tmps.getD 52 undef, ac.tmps.getD 53 undef, ac.tmps.getD 54 undef, ac.tmps.getD 55 undef, ac.tmps.getD 56 undef, ac.tmps.getD 57 undef, ac.tmps.getD 58 undef, ac.tmps.getD 59 undef, ac.tmps.getD 60 undef, ac.tmps.getD 61 undef, ac.tmps.getD 62 undef, ac.tmps.getD 63 undef, ac.tmps.getD 64 undef, ac.tmps.getD 65 undef, ac.tmps.getD 66 undef, ac.tmps.getD 67 undef, ac.tmps.getD 68 undef, ac.tmps.getD 69 undef, ac.tmps.getD 70 undef, ac.tmps.getD 71 undef, ac.tmps.getD 72 undef, ac.tmps.getD 73 undef, ac.tmps.getD 74 undef, ac.tmps.getD 75 undef, ac.tmps.getD 76 undef, ac.tmps.getD 77 undef, ac.tmps.getD 78 undef, ac.tmps.getD 79 undef, ac.tmps.getD 80 undef, ac.tmps.getD 81 undef, ac.tmps.getD 82 undef, ac.tmps.getD 83 undef, ac.tmps.getD 84 undef, ac.tmps.getD 85 undef, ac.tmps.getD 86 undef, ac.tmps.getD 87 undef, ac.tmps.getD 88 undef, ac.tmps.getD 89 undef, ac.tmps.getD 90 undef, ac.tmps.getD 91 undef, ac.tmps.getD 92 undef, ac.tmps.getD 93 undef, ac.tmps.getD 94 undef, ac.tmps.getD 95 undef, ac.tmps.getD 96 undef, ac.tmps.getD 97 undef, ac.tmps.getD 98 undef, ac.tmps.getD 99 undef, ac.tmps.getD 100 undef, ac.tmps.getD 101 undef], []⟩ → Hid (Grown w X) → Hid (ColsOf (.slice (some ⟨gc, 0, none⟩) 4 4) cols4 X) → Hid (Blk bt #[.string ⟨#[116]⟩, .slice (some ⟨gc, 0, none⟩) 4 4, .int .i64 0, N0, .int .i64 0, .string S0, .int .i64 0, .int .i64 0, .int .i64 0, .string S0, N0, N0] 34 X) → Hid (ElAt bl jj ee lv X) → Hid (Rep ee lv X) → Hid (Blk be #[.int .i64 4, .int .i64 4, .int .i64 5, .int .i64 5, .int .i64 5, .int .i64 5, .int .i64 5, .int .i64 5, .int .i64 0, .int .i64 0, .int .i64 0, .int .i64 0, .int .i64 0, .int .i64 4, .int .i64 0, .int .i64 5, .int .i64 0] 37 X) → Hid (Blk bk #[.int .i64 0, .int .i64 0, .int .i64 0, .int .i64 0, .int .i64 0, .int .i64 0, .int .i64 0, .int .i64 0, .int .i64 1, .int .i64 3, .int .i64 0, .int .i64 1, .int .i64 1, .int .i64 0, .int .i64 0, .int .i64 0, .int .i64 1] 3 X) → K11 ac X := by
      clear CT G hC hT hE hRE hbe hbk
      intro ac X ha G hC hT hE hRE hbe hbk
      obtain ⟨u, rfl⟩ : ∃ u : Nat → Value, ac = ⟨#[.int .i64 which, u 1, u 2, .pointer (some ⟨bt, 0, none⟩), u 4, u 5, u 6, u 7, .slice (some ⟨bl, 0, none⟩) 17 17, .slice (some ⟨be, 0, none⟩) 17 17, .slice (some ⟨bk, 0, none⟩) 17 17, .int .i64 (jj : Int), .int .i64 kv, .int .i64 ev, u 14, u 15, u 16, u 17, u 18, u 19, u 20, u 21, u 22, u 23, u 24, u 25, u 26, u 27, u 28, u 29, u 30, u 31, u 32, u 33, u 34, u 35, u 36, u 37, u 38, u 39, u 40, u 41, u 42, u 43, u 44, u 45, u 46, u 47, u 48, u 49, u 50, u 51, u 52, u 53, u 54, u 55, u 56, u 57, u 58, u 59, u 60, u 61, u 62, u 63, u 64, u 65, u 66, u 67, u 68, u 69, u 70, u 71, u 72, u 73, u 74, u 75, u 76, u 77, u 78, u 79, u 80, u 81, u 82, u 83, u 84, u 85, u 86, u 87, u 88, u 89, u 90, u 91, u 92, u 93, u 94, u 95, u 96, u 97, u 98, u 99, u 100, u 101], []⟩ := ⟨fun i => ac.tmps.getD i undef, ha⟩
      clear ha
      refine hk11 _ _ ?_
      clear hk11
      have le := (unhide hbe).lt
      have lk := (unhide hbk).lt
      have ce := ((unhide hbe).cell jj).trans (unhide HAE)
      have ck := ((unhide hbk).cell jj).trans (unhide HAK)
      go_wp2_with fail
      go_ret
      exact ⟨rfl, unhide G⟩
    have REST11 := hide REST11
    clear hk11 HAE HAK
    refine wp_region_noPanic ?_
    refine wp_region_held_drew (S := (fun X => Blk bt #[.string ⟨#[116]⟩, .slice (some ⟨gc, 0, none⟩) 4 4, .int .i64 0, N0, .int .i64 0, .string S0, .int .i64 0, .int .i64 0, .int .i64 0, .string S0, N0, N0] 34 X ∧ ElAt bl jj ee lv X)) (by kernel_rfl) (⟨(unhide hT).call (Below.refl _ _).drew, (unhide hE).call (Below.refl _ _).drew⟩) (fun hHeld => ?_)
    have hbd : Below X9.heap.size X9 X9.drew := (Below.refl _ _).drew
    replace G := hide ((unhide G).call hbd)
    replace hC := hide ((unhide hC).call hbd)
    replace hT := hide ((unhide hT).call hbd)
    replace hE := hide ((unhide hE).call hbd)
    replace hRE := hide ((unhide hRE).call hbd)
    replace hbe := hide ((unhide hbe).call hbd)
    replace hbk := hide ((unhide hbk).call hbd)
    clear hbd
    generalize X9.drew = Wd at *
    refine wpAnyH_take (i := 0) (oi := ?oi20001) (v := ?v20001) ?hi20001 (by kernel_rfl) (by kernel_rfl) (by kernel_rfl) (fun _ _ _ h => h) (Or.inl ⟨?hw20001, ?hy20001⟩) (by assumption) ?rest20001
    case hi20001 => (simp only [List.getElem?_toArray, List.getElem?_cons_zero]; rfl)
    case hw20001 => rfl
    case hy20001 => first | (intro wx hSw; have hT := hSw.1; have t0 := Blk.cell hT 0; have t1 := Blk.cell hT 1; have t2 := Blk.cell hT 2; have t3 := Blk.cell hT 3; have t4 := Blk.cell hT 4; have t5 := Blk.cell hT 5; have t6 := Blk.cell hT 6; have t7 := Blk.cell hT 7; have t8 := Blk.cell hT 8; have t9 := Blk.cell hT 9; have t10 := Blk.cell hT 10; have t11 := Blk.cell hT 11; simp at t0 t1 t2 t3 t4 t5 t6 t7 t8 t9 t10 t11; go_simp; done) | (intro wx hSw; have hT := hSw.1; have t0 := Blk.cell hT 0; have t1 := Blk.cell hT 1; have t2 := Blk.cell hT 2; have t3 := Blk.cell hT 3; have t4 := Blk.cell hT 4; have t5 := Blk.cell hT 5; have t6 := Blk.cell hT 6; have t7 := Blk.cell hT 7; have t8 := Blk.cell hT 8; have t9 := Blk.cell hT 9; have t10 := Blk.cell hT 10; have t11 := Blk.cell hT 11; simp at t0 t1 t2 t3 t4 t5 t6 t7 t8 t9 t10 t11; go_simp; with_reducible rfl)
    simp only [Act.put, List.setIfInBounds_toArray, List.set_cons_zero, List.set_cons_succ]
    refine wpAnyH_take (i := 1) (oi := ?oi20002) (v := ?v20002) ?hi20002 (by kernel_rfl) (by kernel_rfl) (by kernel_rfl) (fun _ _ _ h => h) (Or.inl ⟨?hw20002, ?hy20002⟩) (by assumption) ?rest20002
    case hi20002 => (simp only [List.getElem?_toArray, List.getElem?_cons_zero, List.getElem?_cons_succ]; rfl)
    case hw20002 => rfl
    case hy20002 => first | (intro wx hSw; go_simp; done) | (intro wx hSw; go_simp; with_reducible rfl)
    simp only [Act.put, List.setIfInBounds_toArray, List.set_cons_zero, List.set_cons_succ]
    refine wpAnyH_take (i := 2) (oi := ?oi20003) (v := ?v20003) ?hi20003 (by kernel_rfl) (by kernel_rfl) (by kernel_rfl) (fun _ _ _ h => h) (Or.inl ⟨?hw20003, ?hy20003⟩) (by assumption) ?rest20003
    case hi20003 => (simp only [List.getElem?_toArray, List.getElem?_cons_zero, List.getElem?_cons_succ]; rfl)
    case hw20003 => rfl
    case hy20003 => first | (intro wx hSw; go_simp; done) | (intro wx hSw; go_simp; with_reducible rfl)
    simp only [Act.put, List.setIfInBounds_toArray, List.set_cons_zero, List.set_cons_succ]
    refine wpAnyH_take (i := 3) (oi := ?oi20004) (v := ?v20004) ?hi20004 (by kernel_rfl) (by kernel_rfl) (by kernel_rfl) (fun _ _ _ h => h) (Or.inl ⟨?hw20004, ?hy20004⟩) (by assumption) ?rest20004
    case hi20004 => (simp only [List.getElem?_toArray, List.getElem?_cons_zero, List.getElem?_cons_succ]; rfl)
    case hw20004 => rfl
    case hy20004 => first | (intro wx hSw; go_simp; done) | (intro wx hSw; go_simp; with_reducible rfl)
    simp only [Act.put, List.setIfInBounds_toArray, List.set_cons_zero, List.set_cons_succ]
    refine wpAnyH_take (i := 4) (oi := ?oi20005) (v := ?v20005) ?hi20005 (by kernel_rfl) (by kernel_rfl) (by kernel_rfl) (fun _ _ _ h => h) (Or.inl ⟨?hw20005, ?hy20005⟩) (by assumption) ?rest20005
    case hi20005 => (simp only [List.getElem?_toArray, List.getElem?_cons_zero, List.getElem?_cons_succ]; rfl)
    case hw20005 => rfl
    case hy20005 => first | (intro wx hSw; obtain ⟨l0, e0, e1, e2, e3, e4, e5, e6⟩ := hSw.2; go_simp; done) | (intro wx hSw; obtain ⟨l0, e0, e1, e2, e3, e4, e5, e6⟩ := hSw.2; go_simp; with_reducible rfl)
    simp only [Act.put, List.setIfInBounds_toArray, List.set_cons_zero, List.set_cons_succ]
    refine anyH_name ?_
    intro GG hin hout
    have HIN := hide hin
    have HOUT := hide hout
    clear hin hout hHeld
    have C1 : ∀ (ac : Act) (X : World), ac = ⟨#[.int .i64 which, ac.tmps.getD 1 undef, ac.tmps.getD 2 undef, .pointer (some ⟨bt, 0, none⟩), ac.tmps.getD 4 undef, ac.tmps.getD 5 undef, ac.tmps.getD 6 undef, ac.tmps.getD 7 undef, .slice (some ⟨bl, 0, none⟩) 17 17, .slice (some ⟨be, 0, none⟩) 17 17, .slice (some ⟨bk, 0, none⟩) 17 17, .int .i64 (jj : Int), ac.tmps.getD 12 undef, ac.tmps.getD 13 undef, ac.tmps.getD 14 undef, ac.tmps.getD 15 undef, ac.tmps.getD 16 undef, ac.tmps.getD 17 undef, ac.tmps.getD 18 undef, ac.tmps.getD 19 undef, ac.tmps.getD 20 undef, ac.tmps.getD 21 undef, ac.tmps.getD 22 undef, ac.tmps.getD 23 undef, ac.tmps.getD 24 undef, ac.tmps.getD 25 undef, ac.tmps.getD 26 undef, ac.tmps.getD 27 undef, ac.tmps.getD 28 undef, ac.tmps.getD 29 undef, ac.tmps.getD 30 undef, ac.tmps.getD 31 undef, ac.tmps.getD 32 undef, ac.tmps.getD 33 undef, ac.tmps.getD 34 undef, ac.tmps.getD 35 undef, ac.tmps.getD 36 undef, ac.tmps.getD 37 undef, ac.tmps.getD 38 undef, ac.tmps.getD 39 undef, ac.tmps.getD 40 undef, ac.tmps.getD 41 undef, ac.tmps.getD 42 undef, ac.tmps.getD 43 undef, ac.tmps.getD 44 undef, ac.tmps.getD 45 undef, ac.tmps.getD 46 undef, ac.tmps.getD 47 undef, ac.tmps.getD 48 undef, ac.tmps.getD 49 undef, ac.tmps.getD 50 undef, ac.tmps.getD 51 undef, ac.tmps.getD 52 undef, ac.tmps.getD 53 undef, ac.tmps.getD 54 undef, ac.tmps.getD 55 undef, ac.tmps.getD 56 undef, ac.tmps.getD 57 undef, ac.tmps.getD 58 undef, ac.tmps.getD 59 undef, ac.tmps.getD 60 undef, ac.tmps.getD 61 undef, ac.tmps.getD 62 undef, ac.tmps.getD 63 undef, ac.tmps.getD 64 undef, ac.tmps.getD 65 undef, ac.tmps.getD 66 undef, ac.tmps.getD 67 undef, ac.tmps.getD 68 undef, ac.tmps.getD 69 undef, ac.tmps.getD 70 undef, ac.tmps.getD 71 undef, ac.tmps.getD 72 undef, ac.tmps.getD 73 undef, ac.tmps.getD 74 undef, ac.tmps.getD 75 undef, ac.tmps.getD 76 undef, ac.tmps.getD 77 undef, ac.tmps.getD 78 undef, ac.tmps.getD 79 undef, .agg #[.string ⟨#[116]⟩, .slice (some ⟨gc, 0, none⟩) 4 4, .int .i64 0, N0, .int .i64 0, .string S0, .int .i64 0, .int .i64 0, .int .i64 0, .string S0, N0, N0], ac.tmps.getD 81 undef, ac.tmps.getD 82 undef, ac.tmps.getD 83 undef, .agg #[.int .i64 ee.k, .string ee.nm, .int .i64 ee.v.1, .int .i64 ee.v.2.1, .int .i64 ee.v.2.2.1, .string ee.v.2.2.2, lv], ac.tmps.getD 85 undef, .int .i64 kv, .int .i64 ev, ac.tmps.getD 88 undef, ac.tmps.getD 89 undef, ac.tmps.getD 90 undef, ac.tmps.getD 91 undef, ac.tmps.getD 92 undef, ac.tmps.getD 93 undef, ac.tmps.getD 94 undef, ac.tmps.getD 95 undef, ac.tmps.getD 96 undef, ac.tmps.getD 97 undef, ac.tmps.getD 98 undef, ac.tmps.getD 99 undef, ac.tmps.getD 100 undef, ac.tmps.getD 101 undef], []⟩ → Below Wd.heap.size Wd X → GG 2 #[true, true, true, true, true, true, true, true, true, false, false] ac X := by
      intro ac X ha GD
      obtain ⟨u, rfl⟩ : ∃ u : Nat → Value, ac = ⟨#[.int .i64 which, u 1, u 2, .pointer (some ⟨bt, 0, none⟩), u 4, u 5, u 6, u 7, .slice (some ⟨bl, 0, none⟩) 17 17, .slice (some ⟨be, 0, none⟩) 17 17, .slice (some ⟨bk, 0, none⟩) 17 17, .int .i64 (jj : Int), u 12, u 13, u 14, u 15, u 16, u 17, u 18, u 19, u 20, u 21, u 22, u 23, u 24, u 25, u 26, u 27, u 28, u 29, u 30, u 31, u 32, u 33, u 34, u 35, u 36, u 37, u 38, u 39, u 40, u 41, u 42, u 43, u 44, u 45, u 46, u 47, u 48, u 49, u 50, u 51, u 52, u 53, u 54, u 55, u 56, u 57, u 58, u 59, u 60, u 61, u 62, u 63, u 64, u 65, u 66, u 67, u 68, u 69, u 70, u 71, u 72, u 73, u 74, u 75, u 76, u 77, u 78, u 79, .agg #[.string ⟨#[116]⟩, .slice (some ⟨gc, 0, none⟩) 4 4, .int .i64 0, N0, .int .i64 0, .string S0, .int .i64 0, .int .i64 0, .int .i64 0, .string S0, N0, N0], u 81, u 82, u 83, .agg #[.int .i64 ee.k, .string ee.nm, .int .i64 ee.v.1, .int .i64 ee.v.2.1, .int .i64 ee.v.2.2.1, .string ee.v.2.2.2, lv], u 85, .int .i64 kv, .int .i64 ev, u 88, u 89, u 90, u 91, u 92, u 93, u 94, u 95, u 96, u 97, u 98, u 99, u 100, u 101], []⟩ := ⟨fun i => ac.tmps.getD i undef, ha⟩
      clear ha
      refine unhide HIN _ _ _ _ ?_
      have hHeld : (fun X => Blk bt #[.string ⟨#[116]⟩, .slice (some ⟨gc, 0, none⟩) 4 4, .int .i64 0, N0, .int .i64 0, .string S0, .int .i64 0, .int .i64 0, .int .i64 0, .string S0, N0, N0] 34 X ∧ ElAt bl jj ee lv X) X := ⟨(unhide hT).call GD, (unhide hE).call GD⟩
      refine wpAnyH_take (i := 9) (oi := ?oi20006) (v := ?v20006) ?hi20006 (by kernel_rfl) (by kernel_rfl) (by kernel_rfl) (fun _ _ _ h => h) (Or.inl ⟨?hw20006, ?hy20006⟩) (by assumption) ?rest20006
      case hi20006 => (simp only [List.getElem?_toArray, List.getElem?_cons_zero, List.getElem?_cons_succ]; rfl)
      case hw20006 => rfl
      case hy20006 => first | (intro wx hSw; go_simp; done) | (intro wx hSw; go_simp; with_reducible rfl)
      simp only [Act.put, List.setIfInBounds_toArray, List.set_cons_zero, List.set_cons_succ]
      refine wpAnyH_take (i := 10) (oi := ?oi20007) (v := ?v20007) ?hi20007 (by kernel_rfl) (by kernel_rfl) (by kernel_rfl) (fun _ _ _ h => h) (Or.inl ⟨?hw20007, ?hy20007⟩) (by assumption) ?rest20007
      case hi20007 => (simp only [List.getElem?_toArray, List.getElem?_cons_zero, List.getElem?_cons_succ]; rfl)
      case hw20007 => rfl
      case hy20007 => first | (intro wx hSw; go_simp; done) | (intro wx hSw; go_simp; with_reducible rfl)
      simp only [Act.put, List.setIfInBounds_toArray, List.set_cons_zero, List.set_cons_succ]
      refine wpAnyH_done (by kernel_rfl) ?_ _
      refine NoPanic.normal ?_
      skip
      exact unhide REST11 _ _ (by kernel_rfl) (hide ((unhide G).call GD)) (hide ((unhide hC).call GD)) (hide ((unhide hT).call GD)) (hide ((unhide hE).call GD)) (hide ((unhide hRE).call GD)) (hide ((unhide hbe).call GD)) (hide ((unhide hbk).call GD))
    have C1 := hide C1
    have C0 : ∀ (ac : Act) (X : World), ac = ⟨#[.int .i64 which, ac.tmps.getD 1 undef, ac.tmps.getD 2 undef, .pointer (some ⟨bt, 0, none⟩), ac.tmps.getD 4 undef, ac.tmps.getD 5 undef, ac.tmps.getD 6 undef, ac.tmps.getD 7 undef, .slice (some ⟨bl, 0, none⟩) 17 17, .slice (some ⟨be, 0, none⟩) 17 17, .slice (some ⟨bk, 0, none⟩) 17 17, .int .i64 (jj : Int), ac.tmps.getD 12 undef, ac.tmps.getD 13 undef, ac.tmps.getD 14 undef, ac.tmps.getD 15 undef, ac.tmps.getD 16 undef, ac.tmps.getD 17 undef, ac.tmps.getD 18 undef, ac.tmps.getD 19 undef, ac.tmps.getD 20 undef, ac.tmps.getD 21 undef, ac.tmps.getD 22 undef, ac.tmps.getD 23 undef, ac.tmps.getD 24 undef, ac.tmps.getD 25 undef, ac.tmps.getD 26 undef, ac.tmps.getD 27 undef, ac.tmps.getD 28 undef, ac.tmps.getD 29 undef, ac.tmps.getD 30 undef, ac.tmps.getD 31 undef, ac.tmps.getD 32 undef, ac.tmps.getD 33 undef, ac.tmps.getD 34 undef, ac.tmps.getD 35 undef, ac.tmps.getD 36 undef, ac.tmps.getD 37 undef, ac.tmps.getD 38 undef, ac.tmps.getD 39 undef, ac.tmps.getD 40 undef, ac.tmps.getD 41 undef, ac.tmps.getD 42 undef, ac.tmps.getD 43 undef, ac.tmps.getD 44 undef, ac.tmps.getD 45 undef, ac.tmps.getD 46 undef, ac.tmps.getD 47 undef, ac.tmps.getD 48 undef, ac.tmps.getD 49 undef, ac.tmps.getD 50 undef, ac.tmps.getD 51 undef, ac.tmps.getD 52 undef, ac.tmps.getD 53 undef, ac.tmps.getD 54 undef, ac.tmps.getD 55 undef, ac.tmps.getD 56 undef, ac.tmps.getD 57 undef, ac.tmps.getD 58 undef, ac.tmps.getD 59 undef, ac.tmps.getD 60 undef, ac.tmps.getD 61 undef, ac.tmps.getD 62 undef, ac.tmps.getD 63 undef, ac.tmps.getD 64 undef, ac.tmps.getD 65 undef, ac.tmps.getD 66 undef, ac.tmps.getD 67 undef, ac.tmps.getD 68 undef, ac.tmps.getD 69 undef, ac.tmps.getD 70 undef, ac.tmps.getD 71 undef, ac.tmps.getD 72 undef, ac.tmps.getD 73 undef, ac.tmps.getD 74 undef, ac.tmps.getD 75 undef, ac.tmps.getD 76 undef, ac.tmps.getD 77 undef, ac.tmps.getD 78 undef, ac.tmps.getD 79 undef, .agg #[.string ⟨#[116]⟩, .slice (some ⟨gc, 0, none⟩) 4 4, .int .i64 0, N0, .int .i64 0, .string S0, .int .i64 0, .int .i64 0, .int .i64 0, .string S0, N0, N0], ac.tmps.getD 81 undef, ac.tmps.getD 82 undef, ac.tmps.getD 83 undef, .agg #[.int .i64 ee.k, .string ee.nm, .int .i64 ee.v.1, .int .i64 ee.v.2.1, .int .i64 ee.v.2.2.1, .string ee.v.2.2.2, lv], ac.tmps.getD 85 undef, ac.tmps.getD 86 undef, ac.tmps.getD 87 undef, ac.tmps.getD 88 undef, ac.tmps.getD 89 undef, ac.tmps.getD 90 undef, ac.tmps.getD 91 undef, ac.tmps.getD 92 undef, ac.tmps.getD 93 undef, ac.tmps.getD 94 undef, ac.tmps.getD 95 undef, ac.tmps.getD 96 undef, ac.tmps.getD 97 undef, ac.tmps.getD 98 undef, ac.tmps.getD 99 undef, ac.tmps.getD 100 undef, ac.tmps.getD 101 undef], []⟩ → Below Wd.heap.size Wd X → GG 6 #[true, true, true, true, true, false, false, false, false, false, false] ac X := by
      intro ac X ha GD
      obtain ⟨u, rfl⟩ : ∃ u : Nat → Value, ac = ⟨#[.int .i64 which, u 1, u 2, .pointer (some ⟨bt, 0, none⟩), u 4, u 5, u 6, u 7, .slice (some ⟨bl, 0, none⟩) 17 17, .slice (some ⟨be, 0, none⟩) 17 17, .slice (some ⟨bk, 0, none⟩) 17 17, .int .i64 (jj : Int), u 12, u 13, u 14, u 15, u 16, u 17, u 18, u 19, u 20, u 21, u 22, u 23, u 24, u 25, u 26, u 27, u 28, u 29, u 30, u 31, u 32, u 33, u 34, u 35, u 36, u 37, u 38, u 39, u 40, u 41, u 42, u 43, u 44, u 45, u 46, u 47, u 48, u 49, u 50, u 51, u 52, u 53, u 54, u 55, u 56, u 57, u 58, u 59, u 60, u 61, u 62, u 63, u 64, u 65, u 66, u 67, u 68, u 69, u 70, u 71, u 72, u 73, u 74, u 75, u 76, u 77, u 78, u 79, .agg #[.string ⟨#[116]⟩, .slice (some ⟨gc, 0, none⟩) 4 4, .int .i64 0, N0, .int .i64 0, .string S0, .int .i64 0, .int .i64 0, .int .i64 0, .string S0, N0, N0], u 81, u 82, u 83, .agg #[.int .i64 ee.k, .string ee.nm, .int .i64 ee.v.1, .int .i64 ee.v.2.1, .int .i64 ee.v.2.2.1, .string ee.v.2.2.2, lv], u 85, u 86, u 87, u 88, u 89, u 90, u 91, u 92, u 93, u 94, u 95, u 96, u 97, u 98, u 99, u 100, u 101], []⟩ := ⟨fun i => ac.tmps.getD i undef, ha⟩
      clear ha
      refine unhide HIN _ _ _ _ ?_
      have hHeld : (fun X => Blk bt #[.string ⟨#[116]⟩, .slice (some ⟨gc, 0, none⟩) 4 4, .int .i64 0, N0, .int .i64 0, .string S0, .int .i64 0, .int .i64 0, .int .i64 0, .string S0, N0, N0] 34 X ∧ ElAt bl jj ee lv X) X := ⟨(unhide hT).call GD, (unhide hE).call GD⟩
      refine wpAnyH_ready (rs := [5]) (by kernel_rfl) (by simp) ?_
      refine AllReadyH.cons rfl (fun K20008 hK20008 => ?_) AllReadyH.nil
      go_simp
      go_wp2_with (go_at_call 16; refine (unhide CT _ ((unhide hC).call GD) ((unhide hRE).call GD)).mono ?_; rintro e X2 ⟨rfl, hb⟩)
      refine hK20008.out _ _ ?hs20008 (fun hH20008 => ?_)
      case hs20008 => exact ⟨hHeld.1.call hb, hHeld.2.call hb⟩
      clear hHeld
      have hHeld := hH20008; clear hH20008 hK20008 K20008
      refine wpAnyH_take (i := 6) (oi := ?oi20009) (v := ?v20009) ?hi20009 (by kernel_rfl) (by kernel_rfl) (by kernel_rfl) (fun _ _ _ h => h) (Or.inl ⟨?hw20009, ?hy20009⟩) (by assumption) ?rest20009
      case hi20009 => (simp only [List.getElem?_toArray, List.getElem?_cons_zero, List.getElem?_cons_succ]; rfl)
      case hw20009 => rfl
      case hy20009 => first | (intro wx hSw; go_simp; done) | (intro wx hSw; go_simp; with_reducible rfl)
      simp only [Act.put, List.setIfInBounds_toArray, List.set_cons_zero, List.set_cons_succ]
      refine wpAnyH_take (i := 7) (oi := ?oi20010) (v := ?v20010) ?hi20010 (by kernel_rfl) (by kernel_rfl) (by kernel_rfl) (fun _ _ _ h => h) (Or.inl ⟨?hw20010, ?hy20010⟩) (by assumption) ?rest20010
      case hi20010 => (simp only [List.getElem?_toArray, List.getElem?_cons_zero, List.getElem?_cons_succ]; rfl)
      case hw20010 => rfl
      case hy20010 => first | (intro wx hSw; go_simp; done) | (intro wx hSw; go_simp; with_reducible rfl)
      simp only [Act.put, List.setIfInBounds_toArray, List.set_cons_zero, List.set_cons_succ]
      refine wpAnyH_take (i := 8) (oi := ?oi20011) (v := ?v20011) ?hi20011 (by kernel_rfl) (by kernel_rfl) (by kernel_rfl) (fun _ _ _ h => h) (Or.inl ⟨?hw20011, ?hy20011⟩) (by assumption) ?rest20011
      case hi20011 => (simp only [List.getElem?_toArray, List.getElem?_cons_zero, List.getElem?_cons_succ]; rfl)
      case hw20011 => rfl
      case hy20011 => first | (intro wx hSw; go_simp; done) | (intro wx hSw; go_simp; with_reducible rfl)
      simp only [Act.put, List.setIfInBounds_toArray, List.set_cons_zero, List.set_cons_succ]
      refine unhide HOUT _ _ _ _ ?_
      exact unhide C1 _  _ (by kernel_rfl) (GD.trans (hb.mono GD.size)) 
    have C0 := hide C0
    exact unhide C0 _ _ (by kernel_rfl) (Below.refl _ _)
  exact er6 rfl w which jj hj6 gc bt b4 b5 b6 b7 _ _ REST7 _ X (by kernel_rfl) G hC hT hS
end Go.Proofs.Ytliefgkhpgigaaa
