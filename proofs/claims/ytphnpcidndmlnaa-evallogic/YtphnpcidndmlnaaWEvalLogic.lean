/-
  EvalLogic: the walk.
-/
import Derived.Test.YtphnpcidndmlnaaVLgA
import Derived.Test.YtphnpcidndmlnaaVLgB
import Derived.Test.YtphnpcidndmlnaaVLgC
import Derived.Test.YtphnpcidndmlnaaVLgD
import Derived.Test.YtphnpcidndmlnaaVLgE
namespace Go.Proofs.Ytphnpcidndmlnaa
open Go.RowKit
set_option linter.unusedSimpArgs false
set_option linter.unusedVariables false

set_option maxHeartbeats 32000000 in
set_option maxRecDepth 100000 in
theorem logic_walk (p q : Int) (hp : Is64 p) (hq : Is64 q) (w : World) :
    Calls Try.prog 4 #[.int .i64 p, .int .i64 q] w fun e w' => e = .returned (.bool true) ∧ Below w.heap.size w w' := by
  have CWp := hide (fun W => within4_any p 3 W hp (by decide))
  have CWq := hide (fun W => within4_any q 3 W hq (by decide))
  have CP := hide (fun W => truthL_any p W hp)
  have CQ := hide (fun W => truthL_any q W hq)
  have CT0 : Hid (∀ W, Calls Try.prog 25 #[.int .i64 0] W fun e W' => e = .returned (.agg (vC (1, 1, 0, S0)).toArray) ∧ Below W.heap.size W W') := fun W => truthL_any 0 W (is64_n _ (by decide))
  have CT1 : Hid (∀ W, Calls Try.prog 25 #[.int .i64 1] W fun e W' => e = .returned (.agg (vC (1, 0, 0, S0)).toArray) ∧ Below W.heap.size W W') := fun W => truthL_any 1 W (is64_n _ (by decide))
  have CT2 : Hid (∀ W, Calls Try.prog 25 #[.int .i64 2] W fun e W' => e = .returned (.agg (vC Z4).toArray) ∧ Below W.heap.size W W') := fun W => truthL_any 2 W (is64_n _ (by decide))
  have h0 := Int.emod_nonneg p (show (3 : Int) ≠ 0 by decide)
  have h1 := Int.emod_lt_of_pos p (show (0 : Int) < 3 by decide)
  have h2 := Int.emod_nonneg q (show (3 : Int) ≠ 0 by decide)
  have h3 := Int.emod_lt_of_pos q (show (0 : Int) < 3 by decide)
  have hm : p % 3 = 0 ∨ p % 3 = 1 ∨ p % 3 = 2 := by omega
  have hn : q % 3 = 0 ∨ q % 3 = 1 ∨ q % 3 = 2 := by omega
  generalize p % 3 = m at *
  generalize q % 3 = n at *
  have hOK := hide (ok_row4 okZ okZ (truthV_ok m) (truthV_ok n))
  obtain ⟨vp, HVP⟩ : ∃ v, Hid (v = truthV m) := ⟨_, rfl⟩
  obtain ⟨vq, HVQ⟩ : ∃ v, Hid (v = truthV n) := ⟨_, rfl⟩
  rw [← HVP.out] at CP hOK
  rw [← HVQ.out] at CQ hOK
  obtain ⟨ra, Hra⟩ : ∃ v, Hid (v = aT vp vq) := ⟨_, rfl⟩
  obtain ⟨ro, Hro⟩ : ∃ v, Hid (v = oT vp vq) := ⟨_, rfl⟩
  obtain ⟨rx, Hrx⟩ : ∃ v, Hid (v = nT (oT (nT vp) (nT vq))) := ⟨_, rfl⟩
  obtain ⟨ry, Hry⟩ : ∃ v, Hid (v = nT (aT (nT vp) (nT vq))) := ⟨_, rfl⟩
  clear h0 h1 h2 h3 hp hq
  go_enter Try.func4, Try.ntmps4
  go_wp2_with fail
  refine (known4_any _).mono ?_
  rintro e W1 ⟨rfl, hb1⟩
  have G : Hid (Grown w W1) := hb1
  clear hb1
  go_wp2_with fail
  refine (colsL_any _).mono ?_
  rintro e W2 ⟨gc, rfl, hC, hb2⟩
  replace G := hide ((unhide G).call hb2)
  replace hC := hide hC
  clear hb2
  go_wp2_with fail
  refine (unhide CP _).mono ?_
  rintro e W3 ⟨rfl, hb3⟩
  replace G := hide ((unhide G).call hb3)
  replace hC := hide ((unhide hC).call hb3)
  clear hb3
  go_wp2_with fail
  refine (unhide CQ _).mono ?_
  rintro e W4 ⟨rfl, hb4⟩
  replace G := hide ((unhide G).call hb4)
  replace hC := hide ((unhide hC).call hb4)
  clear hb4 CP CQ
  go_wp2_with fail
  have hR0 := (Blk.new W4 #[.int .i64 0, .int .i64 0, .int .i64 0, .string ⟨#[]⟩, .int .i64 0, .int .i64 0, .int .i64 0, .string ⟨#[]⟩, .int .i64 vp.1, .int .i64 vp.2.1, .int .i64 vp.2.2.1, .string vp.2.2.2, .int .i64 vq.1, .int .i64 vq.2.1, .int .i64 vq.2.2.1, .string vq.2.2.2] 28).call (below_new _ (.cells #[.string ⟨#[116]⟩, .slice (some ⟨gc, 0, none⟩) 4 4, .int .i64 0, .slice none 0 0, .int .i64 0, .string S0, .int .i64 0, .int .i64 0, .int .i64 0, .string S0, .slice none 0 0, .slice none 0 0] 34))
  have hT := Blk.new (W4.alloc (.cells #[.int .i64 0, .int .i64 0, .int .i64 0, .string ⟨#[]⟩, .int .i64 0, .int .i64 0, .int .i64 0, .string ⟨#[]⟩, .int .i64 vp.1, .int .i64 vp.2.1, .int .i64 vp.2.2.1, .string vp.2.2.2, .int .i64 vq.1, .int .i64 vq.2.1, .int .i64 vq.2.2.1, .string vq.2.2.2] 28)) #[.string ⟨#[116]⟩, .slice (some ⟨gc, 0, none⟩) 4 4, .int .i64 0, .slice none 0 0, .int .i64 0, .string S0, .int .i64 0, .int .i64 0, .int .i64 0, .string S0, .slice none 0 0, .slice none 0 0] 34
  rw [World.size_alloc] at hT
  have gg := below_2 W4 (.cells #[.int .i64 0, .int .i64 0, .int .i64 0, .string ⟨#[]⟩, .int .i64 0, .int .i64 0, .int .i64 0, .string ⟨#[]⟩, .int .i64 vp.1, .int .i64 vp.2.1, .int .i64 vp.2.2.1, .string vp.2.2.2, .int .i64 vq.1, .int .i64 vq.2.1, .int .i64 vq.2.2.1, .string vq.2.2.2] 28) (.cells #[.string ⟨#[116]⟩, .slice (some ⟨gc, 0, none⟩) 4 4, .int .i64 0, .slice none 0 0, .int .i64 0, .string S0, .int .i64 0, .int .i64 0, .int .i64 0, .string S0, .slice none 0 0, .slice none 0 0] 34)
  replace G := hide ((unhide G).call gg)
  replace hC := hide ((unhide hC).call gg)
  have hR := hide (row_of (vs := [Z4, Z4, vp, vq]) hR0 rfl (by simp))
  replace hT := hide hT
  clear gg hR0
  generalize (W4.alloc (.cells #[.int .i64 0, .int .i64 0, .int .i64 0, .string ⟨#[]⟩, .int .i64 0, .int .i64 0, .int .i64 0, .string ⟨#[]⟩, .int .i64 vp.1, .int .i64 vp.2.1, .int .i64 vp.2.2.1, .string vp.2.2.2, .int .i64 vq.1, .int .i64 vq.2.1, .int .i64 vq.2.2.1, .string vq.2.2.2] 28)).alloc (.cells #[.string ⟨#[116]⟩, .slice (some ⟨gc, 0, none⟩) 4 4, .int .i64 0, .slice none 0 0, .int .i64 0, .string S0, .int .i64 0, .int .i64 0, .int .i64 0, .string S0, .slice none 0 0, .slice none 0 0] 34) = X at *
  generalize W4.heap.size + 1 = bt at *
  generalize W4.heap.size = br at *
  rename_i K0 hk0
  have REST0 : Hid (∀ (ac : Act) (bra : Nat) (X : World), ac = ⟨#[.int .i64 p, .int .i64 q, ac.tmps.getD 2 undef, ac.tmps.getD 3 undef, ac.tmps.getD 4 undef, .pointer (some ⟨bt, 0, none⟩), .slice (some ⟨br, 0, none⟩) 4 4, .pointer (some ⟨bra, 0, none⟩), .int .i64 0, ac.tmps.getD 9 undef, ac.tmps.getD 10 undef, ac.tmps.getD 11 undef, ac.tmps.getD 12 undef, ac.tmps.getD 13 undef, ac.tmps.getD 14 undef, ac.tmps.getD 15 undef, ac.tmps.getD 16 undef, ac.tmps.getD 17 undef, ac.tmps.getD 18 undef, ac.tmps.getD 19 undef, ac.tmps.getD 20 undef, ac.tmps.getD 21 undef, ac.tmps.getD 22 undef, ac.tmps.getD 23 undef, ac.tmps.getD 24 undef, ac.tmps.getD 25 undef, ac.tmps.getD 26 undef, ac.tmps.getD 27 undef, ac.tmps.getD 28 undef, ac.tmps.getD 29 undef, ac.tmps.getD 30 undef, ac.tmps.getD 31 undef, ac.tmps.getD 32 undef, ac.tmps.getD 33 undef, ac.tmps.getD 34 undef, ac.tmps.getD 35 undef, ac.tmps.getD 36 undef, ac.tmps.getD 37 undef, ac.tmps.getD 38 undef, ac.tmps.getD 39 undef, ac.tmps.getD 40 undef, ac.tmps.getD 41 undef, ac.tmps.getD 42 undef, ac.tmps.getD 43 undef, ac.tmps.getD 44 undef, ac.tmps.getD 45 undef, ac.tmps.getD 46 undef, ac.tmps.getD 47 undef, ac.tmps.getD 48 undef, ac.tmps.getD 49 undef, ac.tmps.getD 50 undef, ac.tmps.getD 51 undef, ac.tmps.getD 52 undef, ac.tmps.getD 53 undef, ac.tmps.getD 54 undef, ac.tmps.getD 55 undef, ac.tmps.getD 56 undef, ac.tmps.getD 57 undef, ac.tmps.getD 58 undef, ac.tmps.getD 59 undef, ac.tmps.getD 60 undef, ac.tmps.getD 61 undef, ac.tmps.getD 62 undef, ac.tmps.getD 63 undef, ac.tmps.getD 64 undef, ac.tmps.getD 65 undef, ac.tmps.getD 66 undef, ac.tmps.getD 67 undef, ac.tmps.getD 68 undef, ac.tmps.getD 69 undef, ac.tmps.getD 70 undef, ac.tmps.getD 71 undef, ac.tmps.getD 72 undef, ac.tmps.getD 73 undef, ac.tmps.getD 74 undef, ac.tmps.getD 75 undef, ac.tmps.getD 76 undef, ac.tmps.getD 77 undef, ac.tmps.getD 78 undef, ac.tmps.getD 79 undef, ac.tmps.getD 80 undef, ac.tmps.getD 81 undef, ac.tmps.getD 82 undef, ac.tmps.getD 83 undef, ac.tmps.getD 84 undef, ac.tmps.getD 85 undef, ac.tmps.getD 86 undef, ac.tmps.getD 87 undef, ac.tmps.getD 88 undef, ac.tmps.getD 89 undef, ac.tmps.getD 90 undef, ac.tmps.getD 91 undef, ac.tmps.getD 92 undef, ac.tmps.getD 93 undef, ac.tmps.getD 94 undef, ac.tmps.getD 95 undef, ac.tmps.getD 96 undef, ac.tmps.getD 97 undef, ac.tmps.getD 98 undef, ac.tmps.getD 99 undef, ac.tmps.getD 100 undef, ac.tmps.getD 101 undef, ac.tmps.getD 102 undef, ac.tmps.getD 103 undef, ac.tmps.getD 104 undef, ac.tmps.getD 105 undef, ac.tmps.getD 106 undef, ac.tmps.getD 107 undef, ac.tmps.getD 108 undef, ac.tmps.getD 109 undef, ac.tmps.getD 110 undef, ac.tmps.getD 111 undef, ac.tmps.getD 112 undef, ac.tmps.getD 113 undef, ac.tmps.getD 114 undef, ac.tmps.getD 115 undef, ac.tmps.getD 116 undef, ac.tmps.getD 117 undef, ac.tmps.getD 118 undef, ac.tmps.getD 119 undef, ac.tmps.getD 120 undef, ac.tmps.getD 121 undef, ac.tmps.getD 122 undef, ac.tmps.getD 123 undef, ac.tmps.getD 124 undef, ac.tmps.getD 125 undef, ac.tmps.getD 126 undef, ac.tmps.getD 127 undef, ac.tmps.getD 128 undef, ac.tmps.getD 129 undef, ac.tmps.getD 130 undef, ac.tmps.getD 131 undef, ac.tmps.getD 132 undef, ac.tmps.getD 133 undef, ac.tmps.getD 134 undef, ac.tmps.getD 135 undef, ac.tmps.getD 136 undef, ac.tmps.getD 137 undef, ac.tmps.getD 138 undef, ac.tmps.getD 139 undef, ac.tmps.getD 140 undef, ac.tmps.getD 141 undef], []⟩ → Hid (Grown w X) → Hid (ColsOf (.slice (some ⟨gc, 0, none⟩) 4 4) cols4 X) → Hid (RowOf (some ⟨br, 0, none⟩) [Z4, Z4, vp, vq] X) → Hid (Blk bt #[.string ⟨#[116]⟩, .slice (some ⟨gc, 0, none⟩) 4 4, .int .i64 0, N0, .int .i64 0, .string S0, .int .i64 0, .int .i64 0, .int .i64 0, .string S0, N0, N0] 34 X) → Hid (Blk bra #[.int .i64 ra.1, .int .i64 ra.2.1, .int .i64 ra.2.2.1, .string ra.2.2.2] 28 X) → K0 ac X) := by
    intro ac bra X ha xG xhC xhR xhT hra
    refine hk0 _ _ ?_
    clear hk0 G hC hR hT
    have G := xG
    have hC := xhC
    have hR := xhR
    have hT := xhT
    clear xG xhC xhR xhT
    have ha0 := ha
    obtain ⟨u, rfl⟩ : ∃ u : Nat → Value, ac = ⟨#[.int .i64 p, .int .i64 q, u 2, u 3, u 4, .pointer (some ⟨bt, 0, none⟩), .slice (some ⟨br, 0, none⟩) 4 4, .pointer (some ⟨bra, 0, none⟩), .int .i64 0, u 9, u 10, u 11, u 12, u 13, u 14, u 15, u 16, u 17, u 18, u 19, u 20, u 21, u 22, u 23, u 24, u 25, u 26, u 27, u 28, u 29, u 30, u 31, u 32, u 33, u 34, u 35, u 36, u 37, u 38, u 39, u 40, u 41, u 42, u 43, u 44, u 45, u 46, u 47, u 48, u 49, u 50, u 51, u 52, u 53, u 54, u 55, u 56, u 57, u 58, u 59, u 60, u 61, u 62, u 63, u 64, u 65, u 66, u 67, u 68, u 69, u 70, u 71, u 72, u 73, u 74, u 75, u 76, u 77, u 78, u 79, u 80, u 81, u 82, u 83, u 84, u 85, u 86, u 87, u 88, u 89, u 90, u 91, u 92, u 93, u 94, u 95, u 96, u 97, u 98, u 99, u 100, u 101, u 102, u 103, u 104, u 105, u 106, u 107, u 108, u 109, u 110, u 111, u 112, u 113, u 114, u 115, u 116, u 117, u 118, u 119, u 120, u 121, u 122, u 123, u 124, u 125, u 126, u 127, u 128, u 129, u 130, u 131, u 132, u 133, u 134, u 135, u 136, u 137, u 138, u 139, u 140, u 141], []⟩ := ⟨fun i => ac.tmps.getD i undef, ha⟩
    clear ha ha0
    go_wp2_with fail
    rename_i K1 hk1
    have REST1 : Hid (∀ (ac : Act) (bro : Nat) (X : World), ac = ⟨#[.int .i64 p, .int .i64 q, ac.tmps.getD 2 undef, ac.tmps.getD 3 undef, ac.tmps.getD 4 undef, .pointer (some ⟨bt, 0, none⟩), .slice (some ⟨br, 0, none⟩) 4 4, .pointer (some ⟨bra, 0, none⟩), .int .i64 0, .pointer (some ⟨bro, 0, none⟩), .int .i64 0, ac.tmps.getD 11 undef, ac.tmps.getD 12 undef, ac.tmps.getD 13 undef, ac.tmps.getD 14 undef, ac.tmps.getD 15 undef, ac.tmps.getD 16 undef, ac.tmps.getD 17 undef, ac.tmps.getD 18 undef, ac.tmps.getD 19 undef, ac.tmps.getD 20 undef, ac.tmps.getD 21 undef, ac.tmps.getD 22 undef, ac.tmps.getD 23 undef, ac.tmps.getD 24 undef, ac.tmps.getD 25 undef, ac.tmps.getD 26 undef, ac.tmps.getD 27 undef, ac.tmps.getD 28 undef, ac.tmps.getD 29 undef, ac.tmps.getD 30 undef, ac.tmps.getD 31 undef, ac.tmps.getD 32 undef, ac.tmps.getD 33 undef, ac.tmps.getD 34 undef, ac.tmps.getD 35 undef, ac.tmps.getD 36 undef, ac.tmps.getD 37 undef, ac.tmps.getD 38 undef, ac.tmps.getD 39 undef, ac.tmps.getD 40 undef, ac.tmps.getD 41 undef, ac.tmps.getD 42 undef, ac.tmps.getD 43 undef, ac.tmps.getD 44 undef, ac.tmps.getD 45 undef, ac.tmps.getD 46 undef, ac.tmps.getD 47 undef, ac.tmps.getD 48 undef, ac.tmps.getD 49 undef, ac.tmps.getD 50 undef, ac.tmps.getD 51 undef, ac.tmps.getD 52 undef, ac.tmps.getD 53 undef, ac.tmps.getD 54 undef, ac.tmps.getD 55 undef, ac.tmps.getD 56 undef, ac.tmps.getD 57 undef, ac.tmps.getD 58 undef, ac.tmps.getD 59 undef, ac.tmps.getD 60 undef, ac.tmps.getD 61 undef, ac.tmps.getD 62 undef, ac.tmps.getD 63 undef, ac.tmps.getD 64 undef, ac.tmps.getD 65 undef, ac.tmps.getD 66 undef, ac.tmps.getD 67 undef, ac.tmps.getD 68 undef, ac.tmps.getD 69 undef, ac.tmps.getD 70 undef, ac.tmps.getD 71 undef, ac.tmps.getD 72 undef, ac.tmps.getD 73 undef, ac.tmps.getD 74 undef, ac.tmps.getD 75 undef, ac.tmps.getD 76 undef, ac.tmps.getD 77 undef, ac.tmps.getD 78 undef, ac.tmps.getD 79 undef, ac.tmps.getD 80 undef, ac.tmps.getD 81 undef, ac.tmps.getD 82 undef, ac.tmps.getD 83 undef, ac.tmps.getD 84 undef, ac.tmps.getD 85 undef, ac.tmps.getD 86 undef, ac.tmps.getD 87 undef, ac.tmps.getD 88 undef, ac.tmps.getD 89 undef, ac.tmps.getD 90 undef, ac.tmps.getD 91 undef, ac.tmps.getD 92 undef, ac.tmps.getD 93 undef, ac.tmps.getD 94 undef, ac.tmps.getD 95 undef, ac.tmps.getD 96 undef, ac.tmps.getD 97 undef, ac.tmps.getD 98 undef, ac.tmps.getD 99 undef, ac.tmps.getD 100 undef, ac.tmps.getD 101 undef, ac.tmps.getD 102 undef, ac.tmps.getD 103 undef, ac.tmps.getD 104 undef, ac.tmps.getD 105 undef, ac.tmps.getD 106 undef, ac.tmps.getD 107 undef, ac.tmps.getD 108 undef, ac.tmps.getD 109 undef, ac.tmps.getD 110 undef, ac.tmps.getD 111 undef, ac.tmps.getD 112 undef, ac.tmps.getD 113 undef, ac.tmps.getD 114 undef, ac.tmps.getD 115 undef, ac.tmps.getD 116 undef, ac.tmps.getD 117 undef, ac.tmps.getD 118 undef, ac.tmps.getD 119 undef, ac.tmps.getD 120 undef, ac.tmps.getD 121 undef, ac.tmps.getD 122 undef, ac.tmps.getD 123 undef, ac.tmps.getD 124 undef, ac.tmps.getD 125 undef, ac.tmps.getD 126 undef, ac.tmps.getD 127 undef, ac.tmps.getD 128 undef, ac.tmps.getD 129 undef, ac.tmps.getD 130 undef, ac.tmps.getD 131 undef, ac.tmps.getD 132 undef, ac.tmps.getD 133 undef, ac.tmps.getD 134 undef, ac.tmps.getD 135 undef, ac.tmps.getD 136 undef, ac.tmps.getD 137 undef, ac.tmps.getD 138 undef, ac.tmps.getD 139 undef, ac.tmps.getD 140 undef, ac.tmps.getD 141 undef], []⟩ → Hid (Grown w X) → Hid (ColsOf (.slice (some ⟨gc, 0, none⟩) 4 4) cols4 X) → Hid (RowOf (some ⟨br, 0, none⟩) [Z4, Z4, vp, vq] X) → Hid (Blk bt #[.string ⟨#[116]⟩, .slice (some ⟨gc, 0, none⟩) 4 4, .int .i64 0, N0, .int .i64 0, .string S0, .int .i64 0, .int .i64 0, .int .i64 0, .string S0, N0, N0] 34 X) → Hid (Blk bra #[.int .i64 ra.1, .int .i64 ra.2.1, .int .i64 ra.2.2.1, .string ra.2.2.2] 28 X) → Hid (Blk bro #[.int .i64 ro.1, .int .i64 ro.2.1, .int .i64 ro.2.2.1, .string ro.2.2.2] 28 X) → K1 ac X) := by
      intro ac bro X ha xG xhC xhR xhT xhra hro
      refine hk1 _ _ ?_
      clear hk1 G hC hR hT hra
      have G := xG
      have hC := xhC
      have hR := xhR
      have hT := xhT
      have hra := xhra
      clear xG xhC xhR xhT xhra
      have ha0 := ha
      obtain ⟨u, rfl⟩ : ∃ u : Nat → Value, ac = ⟨#[.int .i64 p, .int .i64 q, u 2, u 3, u 4, .pointer (some ⟨bt, 0, none⟩), .slice (some ⟨br, 0, none⟩) 4 4, .pointer (some ⟨bra, 0, none⟩), .int .i64 0, .pointer (some ⟨bro, 0, none⟩), .int .i64 0, u 11, u 12, u 13, u 14, u 15, u 16, u 17, u 18, u 19, u 20, u 21, u 22, u 23, u 24, u 25, u 26, u 27, u 28, u 29, u 30, u 31, u 32, u 33, u 34, u 35, u 36, u 37, u 38, u 39, u 40, u 41, u 42, u 43, u 44, u 45, u 46, u 47, u 48, u 49, u 50, u 51, u 52, u 53, u 54, u 55, u 56, u 57, u 58, u 59, u 60, u 61, u 62, u 63, u 64, u 65, u 66, u 67, u 68, u 69, u 70, u 71, u 72, u 73, u 74, u 75, u 76, u 77, u 78, u 79, u 80, u 81, u 82, u 83, u 84, u 85, u 86, u 87, u 88, u 89, u 90, u 91, u 92, u 93, u 94, u 95, u 96, u 97, u 98, u 99, u 100, u 101, u 102, u 103, u 104, u 105, u 106, u 107, u 108, u 109, u 110, u 111, u 112, u 113, u 114, u 115, u 116, u 117, u 118, u 119, u 120, u 121, u 122, u 123, u 124, u 125, u 126, u 127, u 128, u 129, u 130, u 131, u 132, u 133, u 134, u 135, u 136, u 137, u 138, u 139, u 140, u 141], []⟩ := ⟨fun i => ac.tmps.getD i undef, ha⟩
      clear ha ha0
      go_wp2_with fail
      rename_i K2 hk2
      have REST2 : Hid (∀ (ac : Act) (brx : Nat) (X : World), ac = ⟨#[.int .i64 p, .int .i64 q, ac.tmps.getD 2 undef, ac.tmps.getD 3 undef, ac.tmps.getD 4 undef, .pointer (some ⟨bt, 0, none⟩), .slice (some ⟨br, 0, none⟩) 4 4, .pointer (some ⟨bra, 0, none⟩), .int .i64 0, .pointer (some ⟨bro, 0, none⟩), .int .i64 0, .pointer (some ⟨brx, 0, none⟩), .int .i64 0, ac.tmps.getD 13 undef, ac.tmps.getD 14 undef, ac.tmps.getD 15 undef, ac.tmps.getD 16 undef, ac.tmps.getD 17 undef, ac.tmps.getD 18 undef, ac.tmps.getD 19 undef, ac.tmps.getD 20 undef, ac.tmps.getD 21 undef, ac.tmps.getD 22 undef, ac.tmps.getD 23 undef, ac.tmps.getD 24 undef, ac.tmps.getD 25 undef, ac.tmps.getD 26 undef, ac.tmps.getD 27 undef, ac.tmps.getD 28 undef, ac.tmps.getD 29 undef, ac.tmps.getD 30 undef, ac.tmps.getD 31 undef, ac.tmps.getD 32 undef, ac.tmps.getD 33 undef, ac.tmps.getD 34 undef, ac.tmps.getD 35 undef, ac.tmps.getD 36 undef, ac.tmps.getD 37 undef, ac.tmps.getD 38 undef, ac.tmps.getD 39 undef, ac.tmps.getD 40 undef, ac.tmps.getD 41 undef, ac.tmps.getD 42 undef, ac.tmps.getD 43 undef, ac.tmps.getD 44 undef, ac.tmps.getD 45 undef, ac.tmps.getD 46 undef, ac.tmps.getD 47 undef, ac.tmps.getD 48 undef, ac.tmps.getD 49 undef, ac.tmps.getD 50 undef, ac.tmps.getD 51 undef, ac.tmps.getD 52 undef, ac.tmps.getD 53 undef, ac.tmps.getD 54 undef, ac.tmps.getD 55 undef, ac.tmps.getD 56 undef, ac.tmps.getD 57 undef, ac.tmps.getD 58 undef, ac.tmps.getD 59 undef, ac.tmps.getD 60 undef, ac.tmps.getD 61 undef, ac.tmps.getD 62 undef, ac.tmps.getD 63 undef, ac.tmps.getD 64 undef, ac.tmps.getD 65 undef, ac.tmps.getD 66 undef, ac.tmps.getD 67 undef, ac.tmps.getD 68 undef, ac.tmps.getD 69 undef, ac.tmps.getD 70 undef, ac.tmps.getD 71 undef, ac.tmps.getD 72 undef, ac.tmps.getD 73 undef, ac.tmps.getD 74 undef, ac.tmps.getD 75 undef, ac.tmps.getD 76 undef, ac.tmps.getD 77 undef, ac.tmps.getD 78 undef, ac.tmps.getD 79 undef, ac.tmps.getD 80 undef, ac.tmps.getD 81 undef, ac.tmps.getD 82 undef, ac.tmps.getD 83 undef, ac.tmps.getD 84 undef, ac.tmps.getD 85 undef, ac.tmps.getD 86 undef, ac.tmps.getD 87 undef, ac.tmps.getD 88 undef, ac.tmps.getD 89 undef, ac.tmps.getD 90 undef, ac.tmps.getD 91 undef, ac.tmps.getD 92 undef, ac.tmps.getD 93 undef, ac.tmps.getD 94 undef, ac.tmps.getD 95 undef, ac.tmps.getD 96 undef, ac.tmps.getD 97 undef, ac.tmps.getD 98 undef, ac.tmps.getD 99 undef, ac.tmps.getD 100 undef, ac.tmps.getD 101 undef, ac.tmps.getD 102 undef, ac.tmps.getD 103 undef, ac.tmps.getD 104 undef, ac.tmps.getD 105 undef, ac.tmps.getD 106 undef, ac.tmps.getD 107 undef, ac.tmps.getD 108 undef, ac.tmps.getD 109 undef, ac.tmps.getD 110 undef, ac.tmps.getD 111 undef, ac.tmps.getD 112 undef, ac.tmps.getD 113 undef, ac.tmps.getD 114 undef, ac.tmps.getD 115 undef, ac.tmps.getD 116 undef, ac.tmps.getD 117 undef, ac.tmps.getD 118 undef, ac.tmps.getD 119 undef, ac.tmps.getD 120 undef, ac.tmps.getD 121 undef, ac.tmps.getD 122 undef, ac.tmps.getD 123 undef, ac.tmps.getD 124 undef, ac.tmps.getD 125 undef, ac.tmps.getD 126 undef, ac.tmps.getD 127 undef, ac.tmps.getD 128 undef, ac.tmps.getD 129 undef, ac.tmps.getD 130 undef, ac.tmps.getD 131 undef, ac.tmps.getD 132 undef, ac.tmps.getD 133 undef, ac.tmps.getD 134 undef, ac.tmps.getD 135 undef, ac.tmps.getD 136 undef, ac.tmps.getD 137 undef, ac.tmps.getD 138 undef, ac.tmps.getD 139 undef, ac.tmps.getD 140 undef, ac.tmps.getD 141 undef], []⟩ → Hid (Grown w X) → Hid (ColsOf (.slice (some ⟨gc, 0, none⟩) 4 4) cols4 X) → Hid (RowOf (some ⟨br, 0, none⟩) [Z4, Z4, vp, vq] X) → Hid (Blk bt #[.string ⟨#[116]⟩, .slice (some ⟨gc, 0, none⟩) 4 4, .int .i64 0, N0, .int .i64 0, .string S0, .int .i64 0, .int .i64 0, .int .i64 0, .string S0, N0, N0] 34 X) → Hid (Blk bra #[.int .i64 ra.1, .int .i64 ra.2.1, .int .i64 ra.2.2.1, .string ra.2.2.2] 28 X) → Hid (Blk bro #[.int .i64 ro.1, .int .i64 ro.2.1, .int .i64 ro.2.2.1, .string ro.2.2.2] 28 X) → Hid (Blk brx #[.int .i64 rx.1, .int .i64 rx.2.1, .int .i64 rx.2.2.1, .string rx.2.2.2] 28 X) → K2 ac X) := by
        intro ac brx X ha xG xhC xhR xhT xhra xhro hrx
        refine hk2 _ _ ?_
        clear hk2 G hC hR hT hra hro
        have G := xG
        have hC := xhC
        have hR := xhR
        have hT := xhT
        have hra := xhra
        have hro := xhro
        clear xG xhC xhR xhT xhra xhro
        have ha0 := ha
        obtain ⟨u, rfl⟩ : ∃ u : Nat → Value, ac = ⟨#[.int .i64 p, .int .i64 q, u 2, u 3, u 4, .pointer (some ⟨bt, 0, none⟩), .slice (some ⟨br, 0, none⟩) 4 4, .pointer (some ⟨bra, 0, none⟩), .int .i64 0, .pointer (some ⟨bro, 0, none⟩), .int .i64 0, .pointer (some ⟨brx, 0, none⟩), .int .i64 0, u 13, u 14, u 15, u 16, u 17, u 18, u 19, u 20, u 21, u 22, u 23, u 24, u 25, u 26, u 27, u 28, u 29, u 30, u 31, u 32, u 33, u 34, u 35, u 36, u 37, u 38, u 39, u 40, u 41, u 42, u 43, u 44, u 45, u 46, u 47, u 48, u 49, u 50, u 51, u 52, u 53, u 54, u 55, u 56, u 57, u 58, u 59, u 60, u 61, u 62, u 63, u 64, u 65, u 66, u 67, u 68, u 69, u 70, u 71, u 72, u 73, u 74, u 75, u 76, u 77, u 78, u 79, u 80, u 81, u 82, u 83, u 84, u 85, u 86, u 87, u 88, u 89, u 90, u 91, u 92, u 93, u 94, u 95, u 96, u 97, u 98, u 99, u 100, u 101, u 102, u 103, u 104, u 105, u 106, u 107, u 108, u 109, u 110, u 111, u 112, u 113, u 114, u 115, u 116, u 117, u 118, u 119, u 120, u 121, u 122, u 123, u 124, u 125, u 126, u 127, u 128, u 129, u 130, u 131, u 132, u 133, u 134, u 135, u 136, u 137, u 138, u 139, u 140, u 141], []⟩ := ⟨fun i => ac.tmps.getD i undef, ha⟩
        clear ha ha0
        go_wp2_with fail
        rename_i K3 hk3
        have REST3 : Hid (∀ (ac : Act) (bry : Nat) (X : World), ac = ⟨#[.int .i64 p, .int .i64 q, ac.tmps.getD 2 undef, ac.tmps.getD 3 undef, ac.tmps.getD 4 undef, .pointer (some ⟨bt, 0, none⟩), .slice (some ⟨br, 0, none⟩) 4 4, .pointer (some ⟨bra, 0, none⟩), .int .i64 0, .pointer (some ⟨bro, 0, none⟩), .int .i64 0, .pointer (some ⟨brx, 0, none⟩), .int .i64 0, .pointer (some ⟨bry, 0, none⟩), .int .i64 0, ac.tmps.getD 15 undef, ac.tmps.getD 16 undef, ac.tmps.getD 17 undef, ac.tmps.getD 18 undef, ac.tmps.getD 19 undef, ac.tmps.getD 20 undef, ac.tmps.getD 21 undef, ac.tmps.getD 22 undef, ac.tmps.getD 23 undef, ac.tmps.getD 24 undef, ac.tmps.getD 25 undef, ac.tmps.getD 26 undef, ac.tmps.getD 27 undef, ac.tmps.getD 28 undef, ac.tmps.getD 29 undef, ac.tmps.getD 30 undef, ac.tmps.getD 31 undef, ac.tmps.getD 32 undef, ac.tmps.getD 33 undef, ac.tmps.getD 34 undef, ac.tmps.getD 35 undef, ac.tmps.getD 36 undef, ac.tmps.getD 37 undef, ac.tmps.getD 38 undef, ac.tmps.getD 39 undef, ac.tmps.getD 40 undef, ac.tmps.getD 41 undef, ac.tmps.getD 42 undef, ac.tmps.getD 43 undef, ac.tmps.getD 44 undef, ac.tmps.getD 45 undef, ac.tmps.getD 46 undef, ac.tmps.getD 47 undef, ac.tmps.getD 48 undef, ac.tmps.getD 49 undef, ac.tmps.getD 50 undef, ac.tmps.getD 51 undef, ac.tmps.getD 52 undef, ac.tmps.getD 53 undef, ac.tmps.getD 54 undef, ac.tmps.getD 55 undef, ac.tmps.getD 56 undef, ac.tmps.getD 57 undef, ac.tmps.getD 58 undef, ac.tmps.getD 59 undef, ac.tmps.getD 60 undef, ac.tmps.getD 61 undef, ac.tmps.getD 62 undef, ac.tmps.getD 63 undef, ac.tmps.getD 64 undef, ac.tmps.getD 65 undef, ac.tmps.getD 66 undef, ac.tmps.getD 67 undef, ac.tmps.getD 68 undef, ac.tmps.getD 69 undef, ac.tmps.getD 70 undef, ac.tmps.getD 71 undef, ac.tmps.getD 72 undef, ac.tmps.getD 73 undef, ac.tmps.getD 74 undef, ac.tmps.getD 75 undef, ac.tmps.getD 76 undef, ac.tmps.getD 77 undef, ac.tmps.getD 78 undef, ac.tmps.getD 79 undef, ac.tmps.getD 80 undef, ac.tmps.getD 81 undef, ac.tmps.getD 82 undef, ac.tmps.getD 83 undef, ac.tmps.getD 84 undef, ac.tmps.getD 85 undef, ac.tmps.getD 86 undef, ac.tmps.getD 87 undef, ac.tmps.getD 88 undef, ac.tmps.getD 89 undef, ac.tmps.getD 90 undef, ac.tmps.getD 91 undef, ac.tmps.getD 92 undef, ac.tmps.getD 93 undef, ac.tmps.getD 94 undef, ac.tmps.getD 95 undef, ac.tmps.getD 96 undef, ac.tmps.getD 97 undef, ac.tmps.getD 98 undef, ac.tmps.getD 99 undef, ac.tmps.getD 100 undef, ac.tmps.getD 101 undef, ac.tmps.getD 102 undef, ac.tmps.getD 103 undef, ac.tmps.getD 104 undef, ac.tmps.getD 105 undef, ac.tmps.getD 106 undef, ac.tmps.getD 107 undef, ac.tmps.getD 108 undef, ac.tmps.getD 109 undef, ac.tmps.getD 110 undef, ac.tmps.getD 111 undef, ac.tmps.getD 112 undef, ac.tmps.getD 113 undef, ac.tmps.getD 114 undef, ac.tmps.getD 115 undef, ac.tmps.getD 116 undef, ac.tmps.getD 117 undef, ac.tmps.getD 118 undef, ac.tmps.getD 119 undef, ac.tmps.getD 120 undef, ac.tmps.getD 121 undef, ac.tmps.getD 122 undef, ac.tmps.getD 123 undef, ac.tmps.getD 124 undef, ac.tmps.getD 125 undef, ac.tmps.getD 126 undef, ac.tmps.getD 127 undef, ac.tmps.getD 128 undef, ac.tmps.getD 129 undef, ac.tmps.getD 130 undef, ac.tmps.getD 131 undef, ac.tmps.getD 132 undef, ac.tmps.getD 133 undef, ac.tmps.getD 134 undef, ac.tmps.getD 135 undef, ac.tmps.getD 136 undef, ac.tmps.getD 137 undef, ac.tmps.getD 138 undef, ac.tmps.getD 139 undef, ac.tmps.getD 140 undef, ac.tmps.getD 141 undef], []⟩ → Hid (Grown w X) → Hid (ColsOf (.slice (some ⟨gc, 0, none⟩) 4 4) cols4 X) → Hid (RowOf (some ⟨br, 0, none⟩) [Z4, Z4, vp, vq] X) → Hid (Blk bt #[.string ⟨#[116]⟩, .slice (some ⟨gc, 0, none⟩) 4 4, .int .i64 0, N0, .int .i64 0, .string S0, .int .i64 0, .int .i64 0, .int .i64 0, .string S0, N0, N0] 34 X) → Hid (Blk bra #[.int .i64 ra.1, .int .i64 ra.2.1, .int .i64 ra.2.2.1, .string ra.2.2.2] 28 X) → Hid (Blk bro #[.int .i64 ro.1, .int .i64 ro.2.1, .int .i64 ro.2.2.1, .string ro.2.2.2] 28 X) → Hid (Blk brx #[.int .i64 rx.1, .int .i64 rx.2.1, .int .i64 rx.2.2.1, .string rx.2.2.2] 28 X) → Hid (Blk bry #[.int .i64 ry.1, .int .i64 ry.2.1, .int .i64 ry.2.2.1, .string ry.2.2.2] 28 X) → K3 ac X) := by
          intro ac bry X ha xG xhC xhR xhT xhra xhro xhrx hry
          refine hk3 _ _ ?_
          clear hk3 G hC hR hT hra hro hrx
          have G := xG
          have hC := xhC
          have hR := xhR
          have hT := xhT
          have hra := xhra
          have hro := xhro
          have hrx := xhrx
          clear xG xhC xhR xhT xhra xhro xhrx
          exact lgF rfl w p q m n vp vq ra ro rx ry hm hn HVP HVQ Hra Hro Hrx Hry CT0 CT1 CT2 CWp CWq gc br bt bra bro brx bry _ X ha G hC hR hT hra hro hrx hry
        exact lg3 rfl w p q vp vq ra ro rx ry hOK Hry gc br bt bra bro brx _ _ REST3 _ X (by kernel_rfl) G hC hR hT hra hro hrx
      exact lg2 rfl w p q vp vq ra ro rx hOK Hrx gc br bt bra bro _ _ REST2 _ X (by kernel_rfl) G hC hR hT hra hro
    exact lg1 rfl w p q vp vq ra ro hOK Hro gc br bt bra _ _ REST1 _ X (by kernel_rfl) G hC hR hT hra
  exact lg0 rfl w p q vp vq ra hOK Hra gc br bt  _ _ REST0 _ X (by kernel_rfl) G hC hR hT
end Go.Proofs.Ytphnpcidndmlnaa
