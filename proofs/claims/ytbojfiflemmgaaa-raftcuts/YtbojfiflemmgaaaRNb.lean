/-
  The reference's due, New.
-/
import Derived.Test.YtbojfiflemmgaaaRN
namespace Go.Proofs.Ytbojfiflemmgaaa
open Go.RowKit
set_option linter.unusedSimpArgs false
set_option linter.unusedVariables false

set_option maxHeartbeats 1000000 in
theorem rdue_any (v : Int) (i k : Nat) (x1 x2 x3 x4 x5 x6 x7 x8 x9 x10 x12 : Value) (W : World) (hi : i ≤ 5) (hk : k ≤ 1099511627776) :
    Calls Try.prog 39 #[.agg #[nI i, x1, x2, x3, x4, x5, x6, x7, x8, x9, x10, nI k, x12]] W fun e W' => e = .returned (.int .i64 ((k + 5 + 2 * i : Nat) : Int)) ∧ Below W.heap.size W W' := by
  have h0 : (W.alloc (.cells #[nI i, x1, x2, x3, x4, x5, x6, x7, x8, x9, x10, nI k, x12] 32)).cell? ⟨W.heap.size, 0, none⟩ = some (.int .i64 (i : Int)) := (Blk.new W _ 32).cell 0
  have h11 : (W.alloc (.cells #[nI i, x1, x2, x3, x4, x5, x6, x7, x8, x9, x10, nI k, x12] 32)).cell? ⟨W.heap.size, 11, none⟩ = some (.int .i64 (k : Int)) := (Blk.new W _ 32).cell 11
  have e1 : IntKind.i64.wrap ((k : Int) + 5) = (k : Int) + 5 := IntWalk.i64_in _ (by omega)
  have e2 : IntKind.i64.wrap (2 * (i : Int)) = 2 * (i : Int) := IntWalk.i64_in _ (by omega)
  have e3 : IntKind.i64.wrap ((k : Int) + 5 + 2 * (i : Int)) = (k : Int) + 5 + 2 * (i : Int) := IntWalk.i64_in _ (by omega)
  go_enter Try.func39, Try.ntmps39
  go_wp2
  go_ret
  exact ⟨ret_int (by omega), below_new _ _⟩
def pt (s k : Nat) : List Nat := List.replicate k 1 ++ List.replicate (s - k) 0
theorem pt_len {s k : Nat} (h : k ≤ s) : (pt s k).length = s := by simp [pt]; omega
theorem pt_set {s k : Nat} (h : k < s) : (inC (pt s k)).toArray.setIfInBounds k (.int .i64 1) = (inC (pt s (k + 1))).toArray := by
  obtain ⟨m, hm⟩ : ∃ m, s - k = m + 1 := ⟨s - k - 1, by omega⟩
  have hm2 : s - (k + 1) = m := by omega
  apply Array.ext'
  have hn : nI 1 = .int .i64 1 := rfl
  unfold pt
  rw [Array.toList_setIfInBounds, hm, hm2, ← hn]
  show (inC _).set k (nI 1) = _
  rw [inC_set, List.replicate_succ, List.set_append_right _ _ (by simp), List.length_replicate, Nat.sub_self, List.set_cons_zero, List.replicate_succ', List.append_assoc]
  rfl
theorem pt_zero (s : Nat) : (inC (pt s 0)).toArray = (List.replicate s (Value.int .i64 0)).toArray := by simp [pt, inC]
theorem own_of_blk {b m : Nat} {T : TypeId} {cs : List Value} {W : World} {base : Nat} (h : Blk b cs.toArray T W) (hb : base ≤ b) (hm : m ≤ maxLen) (hl : cs.length = m) : W.ownsRow base T 1 (.slice (some ⟨b, 0, none⟩) m m) m cs :=
  ⟨by omega, .inr ⟨b, m, cs.toArray, rfl, hb, h, Nat.le_refl _, hm, by simp [hl], by rw [List.take_of_length_le (by simp [hl])]⟩⟩
set_option maxRecDepth 100000 in
set_option maxHeartbeats 8000000 in
theorem rnew_any (i s f : Nat) (W : World) (hi : i < s) (hs : s ≤ 5) (hf : f ≤ 2) :
    Calls Try.prog 23 #[nI i, nI s, nI f] W fun e W' => ∃ q, e = .returned (.agg (ndA (newM i s f) q)) ∧ OutN (newM i s f) q W W' ∧ q.lv = .slice none 0 0 := by
  have DU := hide (fun X (v1 v2 v3 v4 : Value) => (rdue_any 0 i 0 (.int .i64 0) (.int .i64 (-1)) (.slice none 0 0) (nI f) (.int .i64 0) (.int .i64 0) v1 v2 v3 v4 (.int .i64 0) X (by omega) (by omega) : Calls Try.prog 39 #[.agg #[.int .i64 (i : Int), .int .i64 0, .int .i64 (-1), .slice none 0 0, .int .i64 (f : Int), .int .i64 0, .int .i64 0, v1, v2, v3, v4, .int .i64 0, .int .i64 0]] X _))
  go_enter Try.func23, Try.ntmps23
  go_wp2
  rename_i hrest
  have H0 := hide (Blk.new W #[.int .i64 0, .int .i64 0, .int .i64 0, .slice none 0 0, .int .i64 0, .int .i64 0, .int .i64 0, .slice none 0 0, .slice none 0 0, .slice none 0 0, .slice none 0 0, .int .i64 0, .int .i64 0] 32)
  have hz : (W.alloc (.cells #[.int .i64 0, .int .i64 0, .int .i64 0, .slice none 0 0, .int .i64 0, .int .i64 0, .int .i64 0, .slice none 0 0, .slice none 0 0, .slice none 0 0, .slice none 0 0, .int .i64 0, .int .i64 0] 32)).heap.size = W.heap.size + 1 := by simp
  have hb_ : Blk (W.heap.size + 1) (ndV i f (.slice none 0 0) (.slice none 0 0) (.slice none 0 0) (.slice none 0 0)) 32 ((W.alloc (.cells #[.int .i64 0, .int .i64 0, .int .i64 0, .slice none 0 0, .int .i64 0, .int .i64 0, .int .i64 0, .slice none 0 0, .slice none 0 0, .slice none 0 0, .slice none 0 0, .int .i64 0, .int .i64 0] 32)).alloc (.cells (ndV i f (.slice none 0 0) (.slice none 0 0) (.slice none 0 0) (.slice none 0 0)) 32)) := by
    have := Blk.new (W.alloc (.cells #[.int .i64 0, .int .i64 0, .int .i64 0, .slice none 0 0, .int .i64 0, .int .i64 0, .int .i64 0, .slice none 0 0, .slice none 0 0, .slice none 0 0, .slice none 0 0, .int .i64 0, .int .i64 0] 32)) (ndV i f (.slice none 0 0) (.slice none 0 0) (.slice none 0 0) (.slice none 0 0)) 32
    rw [hz] at this
    exact this
  have R0 := hide ((unhide H0).below (below_new _ (.cells (ndV i f (.slice none 0 0) (.slice none 0 0) (.slice none 0 0) (.slice none 0 0)) 32)))
  have B0 : Below W.heap.size W ((W.alloc (.cells #[.int .i64 0, .int .i64 0, .int .i64 0, .slice none 0 0, .int .i64 0, .int .i64 0, .int .i64 0, .slice none 0 0, .slice none 0 0, .slice none 0 0, .slice none 0 0, .int .i64 0, .int .i64 0] 32)).alloc (.cells (ndV i f (.slice none 0 0) (.slice none 0 0) (.slice none 0 0) (.slice none 0 0)) 32)) := Below.onto (below_new W _) (below_new _ _)
  generalize hX : (W.alloc (.cells #[.int .i64 0, .int .i64 0, .int .i64 0, .slice none 0 0, .int .i64 0, .int .i64 0, .int .i64 0, .slice none 0 0, .slice none 0 0, .slice none 0 0, .slice none 0 0, .int .i64 0, .int .i64 0] 32)).alloc (.cells (ndV i f (.slice none 0 0) (.slice none 0 0) (.slice none 0 0) (.slice none 0 0)) 32) = X0 at hb_ R0 B0 ⊢
  have hz0 : X0.heap.size = W.heap.size + 2 := by rw [← hX]; simp
  clear hX hz H0
  refine rnew_lists' rfl _ i s f (W.heap.size + 1) W.heap.size _ _ (by rfl) hs hb_ ?_
  intro ac b1 b2 b3 b4 X hac hK hN hM1 hg1 hM2 hg2 hM3 hg3 hM4 hg4 hd12 hd13 hd14 hd23 hd24 hd34
  obtain ⟨u, rfl⟩ : ∃ u : Nat → Value, ac = ⟨#[nI i, nI s, nI f, undef, undef, undef, ptr W.heap.size 0, ptr (W.heap.size + 1) 0, undef, u 9, u 10, u 11, nI s, (.slice (some ⟨b1, 0, none⟩) s s), nI s, (.slice (some ⟨b2, 0, none⟩) s s), nI s, (.slice (some ⟨b3, 0, none⟩) s s), nI s, (.slice (some ⟨b4, 0, none⟩) s s), ptr (W.heap.size + 1) 7, ptr (W.heap.size + 1) 8, ptr (W.heap.size + 1) 9, ptr (W.heap.size + 1) 10, u 24, u 25, u 26, u 27, u 28, u 29, u 30, u 31, u 32, u 33, u 34, u 35, u 36, u 37, u 38, u 39, u 40], []⟩ := ⟨fun i => ac.tmps.getD i undef, hac⟩
  clear hac hb_
  have BX : Hid (Below W.heap.size W X) := hide (B0.trans ⟨hK.os, hK.tape, hK.output, hK.size, fun k hk => (hK.block k (by omega) (by omega)).1⟩)
  have RX := hide (hK.blk (unhide R0) (by omega))
  rw [hz0] at hg1 hg2 hg3 hg4
  clear R0 B0 hK hz0 hd13
  refine hrest _ _ ?_
  clear hrest
  have hM2' : Hid (Blk b2 (inC (pt s 0)).toArray 3 X) := by rw [pt_zero]; exact hM2
  have hM4' : Hid (Blk b4 (inC (pt s 0)).toArray 3 X) := by rw [pt_zero]; exact hM4
  clear hM2 hM4
  go_wp2
  go_loopw [8] (fun ix wr => ∃ k : Nat, k ≤ s ∧ ix = .int .i64 (k : Int) ∧ Hid (Blk (W.heap.size + 1) (ndV i f (.slice (some ⟨b1, 0, none⟩) s s) (.slice (some ⟨b2, 0, none⟩) s s) (.slice (some ⟨b3, 0, none⟩) s s) (.slice (some ⟨b4, 0, none⟩) s s)) 32 wr) ∧ Hid (Blk b1 (List.replicate s (Value.bool false)).toArray 4 wr) ∧ Hid (Blk b2 (inC (pt s k)).toArray 3 wr) ∧ Hid (Blk b3 (List.replicate s (Value.int .i64 0)).toArray 3 wr) ∧ Hid (Blk b4 (inC (pt s k)).toArray 3 wr) ∧ Hid (Blk W.heap.size #[.int .i64 0, .int .i64 0, .int .i64 0, .slice none 0 0, .int .i64 0, .int .i64 0, .int .i64 0, .slice none 0 0, .slice none 0 0, .slice none 0 0, .slice none 0 0, .int .i64 0, .int .i64 0] 32 wr) ∧ Hid (Below W.heap.size W wr)) (fun ix wr => s - (intOf ix).toNat)
  case atStart => exact ⟨0, Nat.zero_le _, rfl, hN, hM1, hM2', hM3, hM4', RX, BX⟩
  case round =>
    obtain ⟨k, hk, rfl, kN, k1, k2, k3, k4, kR, kB⟩ := hrel
    clear hN hM1 hM2' hM3 hM4' RX BX
    by_cases hlt : k < s
    · have hnx : IntKind.i64.wrap ((k : Int) + 1) = ((k + 1 : Nat) : Int) := (IntWalk.i64_in _ (by omega)).trans (by omega)
      have c8 : wr.cell? ⟨W.heap.size + 1, 8, none⟩ = some (.slice (some ⟨b2, 0, none⟩) s s) := (unhide kN).cell 8
      have c10 : wr.cell? ⟨W.heap.size + 1, 10, none⟩ = some (.slice (some ⟨b4, 0, none⟩) s s) := (unhide kN).cell 10
      have z2 : k < (inC (pt s k)).toArray.size := by simp [inC, pt_len hk]; omega
      have y2 := (unhide k2).cell k
      have y4 := (unhide k4).cell k
      rw [Array.getElem?_eq_getElem z2] at y2 y4
      obtain ⟨x0, hx0⟩ : ∃ x0, (inC (pt s k)).toArray[k]'z2 = x0 := ⟨_, rfl⟩
      rw [hx0] at y2 y4
      clear hx0 z2
      have f2 := (unhide k2).froz
      have f4 := (unhide k4).froz
      have l2 := (unhide k2).lt
      have l4 := (unhide k4).lt
      have lN := (unhide kN).lt
      have i0 : (0 : Int) ≤ (k : Int) := by omega
      have i1 : (k : Int) < (s : Int) := by omega
      have n2 : b2 ≠ W.heap.size + 1 := by have := unhide hg2; omega
      have n4 : b4 ≠ W.heap.size + 1 := by have := unhide hg4; omega
      have n24 := unhide hd24
      have n42 : b4 ≠ b2 := fun e => n24 e.symm
      have HP := hide (pt_set hlt)
      go_wp2
      go_region_held3 (fun w' => w'.cell? ⟨W.heap.size + 1, 8, none⟩ = some (.slice (some ⟨b2, 0, none⟩) s s) ∧ w'.cell? ⟨W.heap.size + 1, 10, none⟩ = some (.slice (some ⟨b4, 0, none⟩) s s)) (first | exact ⟨(World.cell?_setCell_far _ _ _ _ n2).trans c8, (World.cell?_setCell_far _ _ _ _ n2).trans c10⟩ | exact ⟨(World.cell?_setCell_far _ _ _ _ n4).trans ((World.cell?_setCell_far _ _ _ _ n2).trans c8), (World.cell?_setCell_far _ _ _ _ n4).trans ((World.cell?_setCell_far _ _ _ _ n2).trans c10)⟩ | go_keep) (fail)
      have q2 := ((unhide k2).set k (.int .i64 1))
      have q4 := (((unhide k4).far n42 (j := k) (x := .int .i64 1)).set k (.int .i64 1))
      rw [unhide HP] at q2 q4
      have R1 := hide ((((unhide kN).far (fun e => n2 e.symm) (j := k) (x := .int .i64 1)).far (fun e => n4 e.symm) (j := k) (x := .int .i64 1)).below (below_drew _))
      have R2 := hide ((((unhide k1).far (unhide hd12) (j := k) (x := .int .i64 1)).far (unhide hd14) (j := k) (x := .int .i64 1)).below (below_drew _))
      have R3 := hide ((q2.far n24 (j := k) (x := .int .i64 1)).below (below_drew _))
      have R4 := hide ((((unhide k3).far (fun e => unhide hd23 e.symm) (j := k) (x := .int .i64 1)).far (unhide hd34) (j := k) (x := .int .i64 1)).below (below_drew _))
      have R5 := hide (q4.below (below_drew _))
      have R6 := hide ((((unhide kR).far (by have := unhide hg2; omega : W.heap.size ≠ b2) (j := k) (x := .int .i64 1)).far (by have := unhide hg4; omega : W.heap.size ≠ b4) (j := k) (x := .int .i64 1)).below (below_drew _))
      have R7 := hide ((((unhide kB).setCell (p := ⟨b2, k, none⟩) (by have := unhide hg2; show _ ≤ b2; omega) (.int .i64 1)).setCell (p := ⟨b4, k, none⟩) (by have := unhide hg4; show _ ≤ b4; omega) (.int .i64 1)).drew)
      clear q2 q4
      go_wp2
      go_roundw
      case rel => exact ⟨k + 1, by omega, by go_num, R1, R2, R3, R4, R5, R6, R7⟩
      case measure => simp [intOf] <;> omega
    · obtain rfl : k = s := by omega
      have m0 := (unhide kN).cell 0
      have m1 := (unhide kN).cell 1
      have m2 := (unhide kN).cell 2
      have m3 := (unhide kN).cell 3
      have m4 := (unhide kN).cell 4
      have m5 := (unhide kN).cell 5
      have m6 := (unhide kN).cell 6
      have m7 := (unhide kN).cell 7
      have m8 := (unhide kN).cell 8
      have m9 := (unhide kN).cell 9
      have m10 := (unhide kN).cell 10
      have m11 := (unhide kN).cell 11
      have m12 := (unhide kN).cell 12
      simp at m0 m1 m2 m3 m4 m5 m6 m7 m8 m9 m10 m11 m12
      have nz := (unhide kN).froz
      have lN := (unhide kN).lt
      have lR := (unhide kR).lt
      go_wp2_with (go_at_call 39; refine (unhide DU _ _ _ _ _).mono ?_; rintro e w5 ⟨rfl, hw⟩; have kN2 := hide ((unhide kN).below hw); have k1' := hide ((unhide k1).below hw); have k2' := hide ((unhide k2).below hw); have k3' := hide ((unhide k3).below hw); have k4' := hide ((unhide k4).below hw); have kR2 := hide ((unhide kR).below hw); have kB2 := hide (Below.onto (unhide kB) hw); have x0_ := (unhide kN2).cell 0; have y0_ := (unhide kR2).cell 0; have x1_ := (unhide kN2).cell 1; have y1_ := (unhide kR2).cell 1; have x2_ := (unhide kN2).cell 2; have y2_ := (unhide kR2).cell 2; have x3_ := (unhide kN2).cell 3; have y3_ := (unhide kR2).cell 3; have x4_ := (unhide kN2).cell 4; have y4_ := (unhide kR2).cell 4; have x5_ := (unhide kN2).cell 5; have y5_ := (unhide kR2).cell 5; have x6_ := (unhide kN2).cell 6; have y6_ := (unhide kR2).cell 6; have x7_ := (unhide kN2).cell 7; have y7_ := (unhide kR2).cell 7; have x8_ := (unhide kN2).cell 8; have y8_ := (unhide kR2).cell 8; have x9_ := (unhide kN2).cell 9; have y9_ := (unhide kR2).cell 9; have x10_ := (unhide kN2).cell 10; have y10_ := (unhide kR2).cell 10; have x11_ := (unhide kN2).cell 11; have y11_ := (unhide kR2).cell 11; have x12_ := (unhide kN2).cell 12; have y12_ := (unhide kR2).cell 12; simp at x0_ y0_ x1_ y1_ x2_ y2_ x3_ y3_ x4_ y4_ x5_ y5_ x6_ y6_ x7_ y7_ x8_ y8_ x9_ y9_ x10_ y10_ x11_ y11_ x12_ y12_; have nz2 := (unhide kN2).froz; have rz2 := (unhide kR2).froz; have ln2 := (unhide kN2).lt; have lr2 := (unhide kR2).lt; clear hw m0 m1 m2 m3 m4 m5 m6 m7 m8 m9 m10 m11 m12 nz)
      rw [show (5 : Int) + 2 * (i : Int) = ((5 + 2 * i : Nat) : Int) by omega]
      generalize hX : World.setCell _ _ _ = X5
      have hX2 : (w5.setCell ⟨W.heap.size + 1, 12, none⟩ (nI (5 + 2 * i))).setCells W.heap.size 0 (ndA (newM i k f) ⟨.slice none 0 0, .slice (some ⟨b1, 0, none⟩) k k, .slice (some ⟨b2, 0, none⟩) k k, .slice (some ⟨b3, 0, none⟩) k k, .slice (some ⟨b4, 0, none⟩) k k⟩).toList = X5 := hX
      clear hX x0_ y0_ x1_ y1_ x2_ y2_ x3_ y3_ x4_ y4_ x5_ y5_ x6_ y6_ x7_ y7_ x8_ y8_ x9_ y9_ x10_ y10_ x11_ y11_ x12_ y12_ nz2 rz2
      have kR3 : Blk W.heap.size #[.int .i64 0, .int .i64 0, .int .i64 0, .slice none 0 0, .int .i64 0, .int .i64 0, .int .i64 0, .slice none 0 0, .slice none 0 0, .slice none 0 0, .slice none 0 0, .int .i64 0, .int .i64 0] 32 (w5.setCell ⟨W.heap.size + 1, 12, none⟩ (nI (5 + 2 * i))) := (unhide kR2).far (by omega)
      obtain ⟨hb5, hg5⟩ := whole_set (cs := ndA (newM i k f) ⟨.slice none 0 0, .slice (some ⟨b1, 0, none⟩) k k, .slice (some ⟨b2, 0, none⟩) k k, .slice (some ⟨b3, 0, none⟩) k k, .slice (some ⟨b4, 0, none⟩) k k⟩) kR3 rfl
      rw [hX2] at hb5 hg5
      clear hX2 kR3
      have r0 := hb5.cell 0
      have r1 := hb5.cell 1
      have r2 := hb5.cell 2
      have r3 := hb5.cell 3
      have r4 := hb5.cell 4
      have r5 := hb5.cell 5
      have r6 := hb5.cell 6
      have r7 := hb5.cell 7
      have r8 := hb5.cell 8
      have r9 := hb5.cell 9
      have r10 := hb5.cell 10
      have r11 := hb5.cell 11
      have r12 := hb5.cell 12
      simp at r0 r1 r2 r3 r4 r5 r6 r7 r8 r9 r10 r11 r12
      refine bodyPost_ret (v := .agg (ndA (newM i k f) ⟨.slice none 0 0, .slice (some ⟨b1, 0, none⟩) k k, .slice (some ⟨b2, 0, none⟩) k k, .slice (some ⟨b3, 0, none⟩) k k, .slice (some ⟨b4, 0, none⟩) k k⟩)) (by simp [results, Try.results23, go_sem, r0, r1, r2, r3, r4, r5, r6, r7, r8, r9, r10, r11, r12]) rfl ?_
      have g1 := unhide hg1
      have g2 := unhide hg2
      have g3 := unhide hg3
      have g4 := unhide hg4
      have P1 := ((unhide k1').far (by omega : b1 ≠ W.heap.size + 1) (j := 12) (x := nI (5 + 2 * i))).grown hg5 (by omega)
      have P2 := ((unhide k2').far (by omega : b2 ≠ W.heap.size + 1) (j := 12) (x := nI (5 + 2 * i))).grown hg5 (by omega)
      have P3 := ((unhide k3').far (by omega : b3 ≠ W.heap.size + 1) (j := 12) (x := nI (5 + 2 * i))).grown hg5 (by omega)
      have P4 := ((unhide k4').far (by omega : b4 ≠ W.heap.size + 1) (j := 12) (x := nI (5 + 2 * i))).grown hg5 (by omega)
      have e1 : (List.replicate k (Value.bool false)) = boC (List.replicate k false) := by simp [boC]
      have e3 : (List.replicate k (Value.int .i64 0)) = inC (List.replicate k 0) := by simp [inC]
      have e2 : pt k k = List.replicate k 1 := by simp [pt]
      rw [e1] at P1
      rw [e2] at P2 P4
      rw [e3] at P3
      have ap : ∀ x y : Nat, x ≠ y → Apart (.slice (some ⟨x, 0, none⟩) k k) (.slice (some ⟨y, 0, none⟩) k k) := fun x y h j h1 h2 => by
        simp [Value.ownBlock] at h1 h2
        omega
      have hk5 : k ≤ maxLen := by unfold maxLen; omega
      refine ⟨⟨.slice none 0 0, .slice (some ⟨b1, 0, none⟩) k k, .slice (some ⟨b2, 0, none⟩) k k, .slice (some ⟨b3, 0, none⟩) k k, .slice (some ⟨b4, 0, none⟩) k k⟩, rfl, ⟨⟨World.ownsRow_nil _ _ _ _, ?_, ?_, ?_, ?_, ap _ _ (unhide hd23), ap _ _ (unhide hd24), ap _ _ (unhide hd34)⟩, ?_, ?_⟩, rfl⟩
      · simpa [newM] using own_of_blk (base := 0) P1 (Nat.zero_le _) hk5 (by simp [boC])
      · simpa [newM] using own_of_blk (base := 0) P2 (Nat.zero_le _) hk5 (by simp [inC])
      · simpa [newM] using own_of_blk (base := 0) P3 (Nat.zero_le _) hk5 (by simp [inC])
      · simpa [newM] using own_of_blk (base := 0) P4 (Nat.zero_le _) hk5 (by simp [inC])
      · rintro j (hj | hj | hj | hj | hj) <;> simp [Value.ownBlock] at hj <;> omega
      · exact below_grown ((unhide kB2).setCell (p := ⟨W.heap.size + 1, 12, none⟩) (by show _ ≤ W.heap.size + 1; omega) _) hg5 (Nat.le_refl _) (by have := (unhide kB2).size; simp [World.setCell]; omega)
end Go.Proofs.Ytbojfiflemmgaaa
