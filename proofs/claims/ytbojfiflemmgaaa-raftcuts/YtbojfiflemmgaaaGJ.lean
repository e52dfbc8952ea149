/-
  Package raft's New.
-/
import Derived.Test.YtbojfiflemmgaaaGI
namespace Go.Proofs.Ytbojfiflemmgaaa
open Go.RowKit
set_option linter.unusedSimpArgs false
set_option linter.unusedVariables false

/-- what a call tells: a node, all of it in new memory -/
structure OutN (n' : Nd) (q : Q5) (W W' : World) : Prop where
  rows : Rows q n' W'
  new : ∀ k, Foot5 q k → W.heap.size ≤ k
  below : Below W.heap.size W W'
theorem own_below {W W' : World} {base s m : Nat} {v : Value} {T : TypeId} {cs : List Value} (h : W.ownsRow base T s v m cs) (hb : Below W.heap.size W W') : W'.ownsRow base T s v m cs := own_keep h fun k _ hl => hb.block k hl
theorem own_cell1 {W : World} {base s m b j : Nat} {v y : Value} {T : TypeId} {cs : List Value} (h : W.ownsRow base T s v m cs) (hb : b < base) : (W.setCell ⟨b, j, none⟩ y).ownsRow base T s v m cs := own_keep h fun k hk hl => by
  have := (h.lt k hk).1
  exact heap_set (by omega)
set_option maxRecDepth 100000 in
set_option maxHeartbeats 8000000 in
theorem new_any (i s f : Nat) (W : World) (hi : i < s) (hs : s ≤ 5) (hf : 1 ≤ f ∧ f ≤ 2) :
    Calls Try.prog 21 #[nI i, nI s, nI f] W fun e W' => ∃ q, e = .returned (.agg (ndA (newM i s f) q)) ∧ OutN (newM i s f) q W W' := by
  have MY := hide (fun W => may_any (i : Int) (s : Int) (f : Int) W)
  have hmy : decide ((0 : Int) ≤ (i : Int) ∧ (i : Int) < (s : Int) ∧ (s : Int) ≤ 5 ∧ (1 : Int) ≤ (f : Int) ∧ (f : Int) ≤ 2) = true := decide_eq_true (by omega)
  rw [hmy] at MY
  have AB := hide (fun W => all_bool_any s false W (by omega))
  have A1 := hide (fun W => (all_int_any s 1 W (by omega) : Calls Try.prog 37 #[.int .i64 (s : Int), .int .i64 1] W _))
  have A0 := hide (fun W => (all_int_any s 0 W (by omega) : Calls Try.prog 37 #[.int .i64 (s : Int), .int .i64 0] W _))
  have A2 := hide (fun W => (all_int_any s 1 W (by omega) : Calls Try.prog 37 #[.int .i64 (s : Int), .int .i64 1] W _))
  have DU := hide (fun W => (due_any 0 i W (by omega) (by omega) : Calls Try.prog 38 #[.int .i64 0, .int .i64 (i : Int)] W _))
  have K0 := hide (Blk.new W #[.int .i64 0, .int .i64 0, .int .i64 0, .slice none 0 0, .int .i64 0, .int .i64 0, .int .i64 0, .slice none 0 0, .slice none 0 0, .slice none 0 0, .slice none 0 0, .int .i64 0, .int .i64 0] 32)
  have HB0 := hide (below_new W (.cells #[.int .i64 0, .int .i64 0, .int .i64 0, .slice none 0 0, .int .i64 0, .int .i64 0, .int .i64 0, .slice none 0 0, .slice none 0 0, .slice none 0 0, .slice none 0 0, .int .i64 0, .int .i64 0] 32))
  have hz0 : (W.alloc (.cells #[.int .i64 0, .int .i64 0, .int .i64 0, .slice none 0 0, .int .i64 0, .int .i64 0, .int .i64 0, .slice none 0 0, .slice none 0 0, .slice none 0 0, .slice none 0 0, .int .i64 0, .int .i64 0] 32)).heap.size = W.heap.size + 1 := by simp
  have hZ0 := hide hz0
  clear hmy hz0
  go_enter Try.func21, Try.ntmps21
  go_wp2_with (first
    | (go_at_call 32; refine (unhide MY _).mono ?_; rintro e w' ⟨rfl, rfl⟩)
    | (go_at_call 36; refine (unhide AB _).mono ?_; rintro e W1 ⟨u1, rfl, ho1, hn1, hc1⟩; obtain ⟨p1, c1, hu1⟩ := own_slice ho1; subst hu1; have O1 := hide ho1; have C1 := hide hc1; have k1 := hide ((unhide K0).below hc1); clear ho1 hc1 hn1)
    | (go_at_call 37; refine (unhide A1 _).mono ?_; clear A1; rintro e W2 ⟨u2, rfl, ho2, hn2, hc2⟩; obtain ⟨p2, c2, hu2⟩ := own_slice ho2; subst hu2; have O2 := hide ho2; have C2 := hide hc2; have k2 := hide ((unhide k1).below hc2); clear ho2 hc2 hn2)
    | (go_at_call 37; refine (unhide A0 _).mono ?_; clear A0; rintro e W3 ⟨u3, rfl, ho3, hn3, hc3⟩; obtain ⟨p3, c3, hu3⟩ := own_slice ho3; subst hu3; have O3 := hide ho3; have C3 := hide hc3; have k3 := hide ((unhide k2).below hc3); clear ho3 hc3 hn3)
    | (go_at_call 37; refine (unhide A2 _).mono ?_; clear A2; rintro e W4 ⟨u4, rfl, ho4, hn4, hc4⟩; obtain ⟨p4, c4, hu4⟩ := own_slice ho4; subst hu4; have O4 := hide ho4; have C4 := hide hc4; have k4 := (unhide k3).below hc4; have kz_ := k4.froz; have kl_ := k4.lt; have x0_ := k4.cell 0; have x1_ := k4.cell 1; have x2_ := k4.cell 2; have x3_ := k4.cell 3; have x4_ := k4.cell 4; have x5_ := k4.cell 5; have x6_ := k4.cell 6; have x7_ := k4.cell 7; have x8_ := k4.cell 8; have x9_ := k4.cell 9; have x10_ := k4.cell 10; have x11_ := k4.cell 11; have x12_ := k4.cell 12; simp at x0_ x1_ x2_ x3_ x4_ x5_ x6_ x7_ x8_ x9_ x10_ x11_ x12_; clear ho4 hc4 hn4)
    | (go_at_call 38; refine (unhide DU _).mono ?_; rintro e w' ⟨rfl, hW⟩; replace hW := hW.symm; subst hW))
  generalize hX : World.setCell _ _ _ = X
  have hX2 : W4.setCells W.heap.size 0 (ndA (newM i s f) ⟨.slice none 0 0, .slice p1 s c1, .slice p2 s c2, .slice p3 s c3, .slice p4 s c4⟩).toList = X := hX
  clear hX
  obtain ⟨hb_, hg_⟩ := whole_set (cs := ndA (newM i s f) ⟨.slice none 0 0, .slice p1 s c1, .slice p2 s c2, .slice p3 s c3, .slice p4 s c4⟩) k4 rfl
  rw [hX2] at hb_ hg_
  clear hX2 x0_ x1_ x2_ x3_ x4_ x5_ x6_ x7_ x8_ x9_ x10_ x11_ x12_ kz_ kl_
  have r0 := hb_.cell 0
  have r1 := hb_.cell 1
  have r2 := hb_.cell 2
  have r3 := hb_.cell 3
  have r4 := hb_.cell 4
  have r5 := hb_.cell 5
  have r6 := hb_.cell 6
  have r7 := hb_.cell 7
  have r8 := hb_.cell 8
  have r9 := hb_.cell 9
  have r10 := hb_.cell 10
  have r11 := hb_.cell 11
  have r12 := hb_.cell 12
  simp at r0 r1 r2 r3 r4 r5 r6 r7 r8 r9 r10 r11 r12
  refine bodyPost_ret (v := .agg (ndA (newM i s f) ⟨.slice none 0 0, .slice p1 s c1, .slice p2 s c2, .slice p3 s c3, .slice p4 s c4⟩)) (by simp [results, Try.results21, go_sem, r0, r1, r2, r3, r4, r5, r6, r7, r8, r9, r10, r11, r12]) rfl ?_
  have z1 := (unhide HB0).size
  have z2 := unhide hZ0
  have z3 := (unhide C1).size
  have z4 := (unhide C2).size
  have z5 := (unhide C3).size
  have z6 := (unhide C4).size
  have o1 := unhide O1
  rw [z2] at o1
  have P1 := own_mono (own_grown (own_below (own_below (own_below o1 (unhide C2)) (unhide C3)) (unhide C4)) hg_ (by omega))
  have P2 := own_mono (own_grown (own_below (own_below (unhide O2) (unhide C3)) (unhide C4)) hg_ (by omega))
  have P3 := own_mono (own_grown (own_below (unhide O3) (unhide C4)) hg_ (by omega))
  have P4 := own_mono (own_grown (unhide O4) hg_ (by omega))
  refine ⟨_, rfl, ⟨World.ownsRow_nil _ _ _ _, by simpa [newM] using P1, by simpa [newM] using P2, by simpa [newM] using P3, by simpa [newM] using P4, apart_new (unhide O2) (Nat.le_refl _) (unhide O3), apart_new (unhide O2) (by omega) (unhide O4), apart_new (unhide O3) (Nat.le_refl _) (unhide O4)⟩, ?_, ?_⟩
  · rintro k (hk | hk | hk | hk | hk)
    · cases hk
    · have := (o1.lt k hk).1; omega
    · have := ((unhide O2).lt k hk).1; omega
    · have := ((unhide O3).lt k hk).1; omega
    · have := ((unhide O4).lt k hk).1; omega
  · have b1 := (unhide HB0).trans ((unhide C1).mono z1)
    have b2 := b1.trans ((unhide C2).mono (by omega))
    have b3 := b2.trans ((unhide C3).mono (by omega))
    have b4 := b3.trans ((unhide C4).mono (by omega))
    exact b4.trans ⟨hg_.os, hg_.tape, hg_.output, hg_.size, fun k hk => hg_.block k (by omega) fun e => by injection e with e; omega⟩
end Go.Proofs.Ytbojfiflemmgaaa
