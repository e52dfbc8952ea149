/-
  Package cmd's layout of form 2, and its layout.
-/
import Derived.Test.YtjmmfgmmmdbenaaCQ0
namespace Go.Proofs.Ytjmmfgmmmdbenaa
open Go.RowKit
set_option linter.unusedSimpArgs false
set_option linter.unusedVariables false

theorem W2B.sf {bv v0 v1 u0 u1 g0 g1 bk k0 k1 gp a0 : Nat} {n : Nat} {w W : World} (h : W2B bv v0 v1 u0 u1 g0 g1 bk k0 k1 gp a0 w) (hl : n ≤ bv ∧ n ≤ v0 ∧ n ≤ v1 ∧ n ≤ u0 ∧ n ≤ u1 ∧ n ≤ g0 ∧ n ≤ g1 ∧ n ≤ bk ∧ n ≤ k0 ∧ n ≤ k1 ∧ n ≤ gp ∧ n ≤ a0) (hs : SameFrom n w W) : W2B bv v0 v1 u0 u1 g0 g1 bk k0 k1 gp a0 W := by
  obtain ⟨Thv1, hhv1⟩ := h.hv1
  obtain ⟨Thu0, hhu0⟩ := h.hu0
  obtain ⟨Thg1, hhg1⟩ := h.hg1
  obtain ⟨Thk1, hhk1⟩ := h.hk1
  exact ⟨h.hbv.sf (by omega) hs, h.hv0.sf (by omega) hs, ⟨_, hhv1.sf (by omega) hs⟩, ⟨_, hhu0.sf (by omega) hs⟩, h.hu1.sf (by omega) hs, h.hg0.sf (by omega) hs, ⟨_, hhg1.sf (by omega) hs⟩, h.hbk.sf (by omega) hs, h.hk0.sf (by omega) hs, ⟨_, hhk1.sf (by omega) hs⟩, h.hgp.sf (by omega) hs, h.ha0.sf (by omega) hs⟩
theorem W2B.set2 {bv v0 v1 u0 u1 g0 g1 bk k0 k1 gp a0 : Nat} {vb : Nat} {x y : Value} {T : TypeId} {W : World} (h : W2B bv v0 v1 u0 u1 g0 g1 bk k0 k1 gp a0 W) (hv : Blk vb #[.nilFunc, .nilFunc] T W) : W2B bv v0 v1 u0 u1 g0 g1 bk k0 k1 gp a0 ((W.setCell ⟨vb, 0, none⟩ x).setCell ⟨vb, 1, none⟩ y) := by
  obtain ⟨Thv1, hhv1⟩ := h.hv1
  obtain ⟨Thu0, hhu0⟩ := h.hu0
  obtain ⟨Thg1, hhg1⟩ := h.hg1
  obtain ⟨Thk1, hhk1⟩ := h.hk1
  exact ⟨h.hbv.set2 (h.hbv.ne hv (by simp)), h.hv0.set2 (h.hv0.ne hv (by simp)), ⟨_, hhv1.set2 (hhv1.ne hv (by simp))⟩, ⟨_, hhu0.set2 (hhu0.ne hv (by simp))⟩, h.hu1.set2 (h.hu1.ne hv (by simp)), h.hg0.set2 (h.hg0.ne hv (by simp)), ⟨_, hhg1.set2 (hhg1.ne hv (by simp))⟩, h.hbk.set2 (h.hbk.ne hv (by simp)), h.hk0.set2 (h.hk0.ne hv (by simp)), ⟨_, hhk1.set2 (hhk1.ne hv (by simp))⟩, h.hgp.set2 (h.hgp.ne hv (by simp)), h.ha0.set2 (h.ha0.ne hv (by simp))⟩

structure L2B (n : Nat) (Kh Kg : FuncId) (ph pg : Array Value) (al l0 l1 w0_ w1_ tb n0_ n1_ gp2 a1 : Nat) (W : World) : Prop where
  hl0 : Blk l0 #[Fv 91 #[], Fv 92 #[]] 77 W
  hl1 : Blk l1 #[Fv 67 #[ptr al 0], Fv 68 #[ptr al 0]] 82 W
  hw0 : Blk w0_ #[Fv 89 #[ptr l0 0, ptr l1 0], Fv 90 #[ptr l0 0, ptr l1 0]] 104 W
  hw1 : ∃ T, Blk w1_ #[Fv 60 #[]] T W
  htb : Blk tb #[Fv 91 #[], Fv 92 #[]] 77 W
  hn0 : Blk n0_ #[Fv 71 #[ptr tb 0], Fv 72 #[ptr tb 0]] 88 W
  hn1 : ∃ T, Blk n1_ #[Fv 64 #[]] T W
  hgp : Blk gp2 #[Fv Kh ph, Fv Kg pg, Fv 87 #[ptr w0_ 0, ptr w1_ 0], Fv 88 #[ptr w0_ 0, ptr w1_ 0], Fv 95 #[ptr n0_ 0, ptr n1_ 0], Fv 96 #[ptr n0_ 0, ptr n1_ 0]] 52 W
  ha1 : Blk a1 #[.slice (some ⟨gp2, 0, none⟩) 3 3] 118 W
theorem L2B.sf {n0 : Nat} {Kh Kg : FuncId} {ph pg : Array Value} {al l0 l1 w0_ w1_ tb n0_ n1_ gp2 a1 : Nat} {n : Nat} {w W : World} (h : L2B n0 Kh Kg ph pg al l0 l1 w0_ w1_ tb n0_ n1_ gp2 a1 w) (hl : n ≤ l0 ∧ n ≤ l1 ∧ n ≤ w0_ ∧ n ≤ w1_ ∧ n ≤ tb ∧ n ≤ n0_ ∧ n ≤ n1_ ∧ n ≤ gp2 ∧ n ≤ a1) (hs : SameFrom n w W) : L2B n0 Kh Kg ph pg al l0 l1 w0_ w1_ tb n0_ n1_ gp2 a1 W := by
  obtain ⟨Thw1, hhw1⟩ := h.hw1
  obtain ⟨Thn1, hhn1⟩ := h.hn1
  exact ⟨h.hl0.sf (by omega) hs, h.hl1.sf (by omega) hs, h.hw0.sf (by omega) hs, ⟨_, hhw1.sf (by omega) hs⟩, h.htb.sf (by omega) hs, h.hn0.sf (by omega) hs, ⟨_, hhn1.sf (by omega) hs⟩, h.hgp.sf (by omega) hs, h.ha1.sf (by omega) hs⟩
abbrev DP2 (c : Cm) : Prop := Is64 c.kind ∧ QS c.id ∧ QS c.txn ∧ c.ws.length ≤ 1000000 ∧ (∀ w ∈ c.ws, DWp w) ∧ c.text.size ≤ 1099511627776
abbrev DT2 (c : Cm) : Prop := (0 ≤ c.kind ∧ c.kind < 256) ∧ QS c.id ∧ QS c.txn ∧ c.ws.length ≤ 1000 ∧ (∀ w ∈ c.ws, DWu w) ∧ c.text.size ≤ 4000
abbrev C2I (c : Cm) : Prop := QF 1 c.kind ∧ QS c.id ∧ QS c.txn ∧ (c.ws.length ≤ 1000 ∧ ∀ w ∈ c.ws, J2 3 w) ∧ c.text = E0
abbrev C2Q (c : Cm) : Prop := QF 1 c.kind ∧ QS c.id ∧ QS c.txn ∧ (c.ws.length ≤ 1000 ∧ ∀ w ∈ c.ws, J2 3 w) ∧ c.text.size ≤ 4000
theorem enc2_is (c : Cm) : headF 50 shI c ++ (shI (c.ws.length : Int) ++ c.ws.flatMap wr2 ++ tx sh c.text) = enc2 c := by simp [headF, enc2, ls, shI]
theorem L2B.puts {n : Nat} {Kh Kg : FuncId} {ph pg : Array Value} {al l0 l1 w0_ w1_ tb n0_ n1_ gp2 a1 : Nat} {W : World} (h : L2B n Kh Kg ph pg al l0 l1 w0_ w1_ tb n0_ n1_ gp2 a1 W) (hH : Puts (Fv Kh ph) W layCm (fun c => Is64 c.kind ∧ (0 ≤ c.id ∧ c.id ≤ 9223372036854775807) ∧ (0 ≤ c.txn ∧ c.txn ≤ 9223372036854775807)) (headF 50 shI)) (hG : IsFn (Fv Kg pg))
    (hA : Puts (Fv 67 #[ptr al 0]) W layW DWp wr2) : Puts (Fv 78 #[ptr a1 0]) W layCm DP2 enc2 := by
  obtain ⟨Tw, hw1⟩ := h.hw1
  obtain ⟨Tn, hn1⟩ := h.hn1
  refine (allCmdPuts layCm [⟨Fv Kh ph, Fv Kg pg, fun c => Is64 c.kind ∧ (0 ≤ c.id ∧ c.id ≤ 9223372036854775807) ∧ (0 ≤ c.txn ∧ c.txn ≤ 9223372036854775807), headF 50 shI⟩, ⟨Fv 87 #[ptr w0_ 0, ptr w1_ 0], Fv 88 #[ptr w0_ 0, ptr w1_ 0], fun c => (0 ≤ (c.ws.length : Int) ∧ (c.ws.length : Int) ≤ 9223372036854775807) ∧ c.ws.length ≤ 1000000 ∧ ∀ w ∈ c.ws, DWp w, fun c => shI (c.ws.length : Int) ++ c.ws.flatMap wr2⟩, ⟨Fv 95 #[ptr n0_ 0, ptr n1_ 0], Fv 96 #[ptr n0_ 0, ptr n1_ 0], fun c => c.text.size ≤ 1099511627776, fun c => tx sh c.text⟩] a1 gp2 3 52 W ?_ ?_ (by simp) (h.ha1.cell 0) h.hgp).imp (fun c hc => ⟨?_, ?_⟩)
  · intro p hp2
    simp only [List.mem_cons, List.not_mem_nil, or_false] at hp2
    rcases hp2 with rfl | rfl | rfl
    · exact hH
    · exact cWsPuts _ _ _ _ _ _ W (fun ws => (0 ≤ (ws.length : Int) ∧ (ws.length : Int) ≤ 9223372036854775807) ∧ ws.length ≤ 1000000 ∧ ∀ w ∈ ws, DWp w) (fun ws => shI (ws.length : Int) ++ ws.flatMap wr2) (listPuts _ _ _ _ l0 l1 W _ shI DWp wr2 (shPuts W) hA h.hl0 h.hl1) h.hw0 hw1
    · exact cTextPuts _ _ _ _ _ _ W (fun s => s.size ≤ 1099511627776) (tx sh) (txPuts2 tb W h.htb) h.hn0 hn1
  · intro p hp2
    simp only [List.mem_cons, List.not_mem_nil, or_false] at hp2
    rcases hp2 with rfl | rfl | rfl
    · exact hG
    · exact ⟨_, _, rfl⟩
    · exact ⟨_, _, rfl⟩
  · intro p hp2
    simp only [List.mem_cons, List.not_mem_nil, or_false] at hp2
    rcases hp2 with rfl | rfl | rfl
    · exact ⟨hc.1, hc.2.1, hc.2.2.1⟩
    · exact ⟨by have := hc.2.2.2.1; omega, hc.2.2.2.1, hc.2.2.2.2.1⟩
    · exact hc.2.2.2.2.2
  · rw [← enc2_is]; simp [allF]
theorem L2B.takes {n : Nat} {Kh Kg : FuncId} {ph pg : Array Value} {al l0 l1 w0_ w1_ tb n0_ n1_ gp2 a1 : Nat} {W : World} (h : L2B n Kh Kg ph pg al l0 l1 w0_ w1_ tb n0_ n1_ gp2 a1 W) (hH : IsFn (Fv Kh ph)) (hG : Takes (Fv Kg pg) W layTCm (HI QS 0) (HI QS 5) (fun c => (0 ≤ c.kind ∧ c.kind < 256) ∧ (0 ≤ c.id ∧ c.id ≤ 9223372036854775807) ∧ (0 ≤ c.txn ∧ c.txn ≤ 9223372036854775807)) (headF 50 shI) (HM 0) (HM 5))
    (hA : Takes (Fv 68 #[ptr al 0]) W layTW (J2 0) (J2 3) DWu wr2 (N2 0) (N2 3)) : Takes (Fv 79 #[ptr a1 0]) W layTCm (fun c => c = zC) C2Q DT2 enc2 (fun _ _ => True) (fun c d => c = d) := by
  obtain ⟨Tw, hw1⟩ := h.hw1
  obtain ⟨Tn, hn1⟩ := h.hn1
  refine (allCmdTakes layTCm [⟨Fv Kh ph, Fv Kg pg, fun c => (0 ≤ c.kind ∧ c.kind < 256) ∧ (0 ≤ c.id ∧ c.id ≤ 9223372036854775807) ∧ (0 ≤ c.txn ∧ c.txn ≤ 9223372036854775807), headF 50 shI⟩, ⟨Fv 87 #[ptr w0_ 0, ptr w1_ 0], Fv 88 #[ptr w0_ 0, ptr w1_ 0], fun c => (0 ≤ (c.ws.length : Int) ∧ (c.ws.length : Int) ≤ 9223372036854775807) ∧ c.ws.length ≤ 1000 ∧ ∀ w ∈ c.ws, DWu w, fun c => shI (c.ws.length : Int) ++ c.ws.flatMap wr2⟩, ⟨Fv 95 #[ptr n0_ 0, ptr n1_ 0], Fv 96 #[ptr n0_ 0, ptr n1_ 0], fun c => c.text.size ≤ 4000, fun c => tx sh c.text⟩]
      (fun i => match i with | 0 => HI QS 0 | 1 => HI QS 5 | 2 => C2I | _ => C2Q) (fun i => match i with | 0 => HM 0 | 1 => HM 5 | 2 => C1M | _ => (fun c d => c = d)) a1 gp2 3 52 W ?_ ?_ (by simp) (h.ha1.cell 0) h.hgp).imp (fun c hc => ⟨?_, ?_⟩) (fun _ h => h) (fun _ h => h) (fun _ _ h => h) (fun _ _ h => h)
  · intro i hi
    match i, hi with
    | 0, _ => exact hG
    | 1, _ => exact cWsTakes _ _ _ _ _ _ W (HI QS 5) C2I (fun c => (0 ≤ (c.ws.length : Int) ∧ (c.ws.length : Int) ≤ 9223372036854775807) ∧ c.ws.length ≤ 1000 ∧ ∀ w ∈ c.ws, DWu w) (fun ws => ws.length ≤ 1000 ∧ ∀ w ∈ ws, J2 3 w) (fun ws => (0 ≤ (ws.length : Int) ∧ (ws.length : Int) ≤ 9223372036854775807) ∧ ws.length ≤ 1000 ∧ ∀ w ∈ ws, DWu w) (fun ws => shI (ws.length : Int) ++ ws.flatMap wr2) (HM 5) C1M (fun x hx => hx.2.2.2.1) (fun x y hx hy => ⟨hx.1, hx.2.1, hx.2.2.1, hy, hx.2.2.2.2⟩) (fun x hx => hx) (fun x xt hx => ⟨hx.1, hx.2.1, hx.2.2.1, hx.2.2.2, rfl⟩) (listTakes _ _ _ _ l0 l1 W QS _ shI (fun y hy => hy) (J2 0) (J2 3) DWu wr2 (N2 0) (N2 3) (shTakes W) hA rfl (fun _ _ => trivial) (fun _ _ h => h) h.hl0 h.hl1) h.hw0 hw1
    | 2, _ => exact cTextTakes _ _ _ _ _ _ W C2I C2Q (fun c => c.text.size ≤ 4000) (fun y => y.size ≤ 4000) (fun x => x.size ≤ 4000) (tx sh) C1M (fun c d => c = d) (fun x hx => hx.2.2.2.2) (fun x y hx hy => ⟨hx.1, hx.2.1, hx.2.2.1, hx.2.2.2.1, hy⟩) (fun x hx => hx) (fun x xt hx => by
        obtain ⟨k, i, t, m, ws, x⟩ := x
        obtain ⟨k', i', t', m', ws', x'⟩ := xt
        obtain ⟨e1, e2, e3, e4, e5⟩ := hx
        simp only at e1 e2 e3 e4 e5
        subst e1; subst e2; subst e3; subst e4; subst e5; rfl) (txTakes2 tb W h.htb) h.hn0 hn1
  · intro p hp2
    simp only [List.mem_cons, List.not_mem_nil, or_false] at hp2
    rcases hp2 with rfl | rfl | rfl
    · exact hH
    · exact ⟨_, _, rfl⟩
    · exact ⟨_, _, rfl⟩
  · intro p hp2
    simp only [List.mem_cons, List.not_mem_nil, or_false] at hp2
    obtain ⟨e1, e2, e3, e4, e5, e6⟩ := hc
    rcases hp2 with rfl | rfl | rfl
    · exact ⟨e1, e2, e3⟩
    · exact ⟨by omega, e4, e5⟩
    · exact e6
  · rw [← enc2_is]; simp [allF]

set_option maxRecDepth 100000 in
set_option maxHeartbeats 40000000 in
theorem layoutTwo_any (w : World) : Calls Try.prog 39 #[] w fun e w' => ∃ K1 p1 K2 p2, e = .returned (Cv (Fv K1 p1) (Fv K2 p2)) ∧ PutsR (Fv K1 p1) (w.heap.size + 1) w' layCm DP2 enc2 ∧ TakesR (Fv K2 p2) (w.heap.size + 1) w' layTCm (fun c => c = zC) C2Q DT2 enc2 (fun _ _ => True) (fun c d => c = d) ∧ Below w.heap.size w w' := by
  go_enter Try.func39, Try.ntmps39
  go_wp2_with (first | (go_at_call 61; refine (shortC_any _).mono ?_; rintro e X0 ⟨rfl, hb0⟩; have hrb := (Blk.new w #[.nilFunc, .nilFunc] 52).below hb0) | (go_at_call 50; refine (textC_any _ _ _ _ _).mono ?_; rintro e X1 ⟨bv, rfl, ⟨hbv, lbv⟩, hb1⟩) | (go_at_call 49; refine (partWritestringC_any _ _ _ _ _ _).mono ?_; rintro e X2 ⟨v0, v1, rfl, ⟨hv0, lv0⟩, ⟨⟨Tv, hv1⟩, lv1⟩, hb2⟩) | (go_at_call 62; refine (unlessC_any _ _ _ _ _ _).mono ?_; rintro e X3 ⟨u0, u1, rfl, ⟨⟨Tu, hu0⟩, lu0⟩, ⟨hu1, lu1⟩, hb3⟩))
  rename_i KK hrest
  have z0 := hb0.size
  have z1 := hb1.size
  have z2 := hb2.size
  have z3 := hb3.size
  simp only [World.size_alloc] at z0 z1 lbv
  have hb1' : Below X0.heap.size X0 X1 := (below_new X0 _).trans (hb1.mono (by simp))
  have hbX : Below X3.heap.size X3 (X3.alloc (.cells #[Fv 93 #[ptr u0 0, ptr u1 0], Fv 94 #[ptr u0 0, ptr u1 0]] 82)).drew := (below_new _ _).drew
  have hsvb : Blk X0.heap.size #[Fv 91 #[], Fv 92 #[]] 77 (X3.alloc (.cells #[Fv 93 #[ptr u0 0, ptr u1 0], Fv 94 #[ptr u0 0, ptr u1 0]] 82)).drew := (((Blk.new X0 #[Fv 91 #[], Fv 92 #[]] 77).below hb1).below (Below.onto hb2 hb3)).below hbX
  have HS : Blk X0.heap.size #[Fv 91 #[], Fv 92 #[]] 77 (X3.alloc (.cells #[Fv 93 #[ptr u0 0, ptr u1 0], Fv 94 #[ptr u0 0, ptr u1 0]] 82)).drew ∧ Blk X3.heap.size #[Fv 93 #[ptr u0 0, ptr u1 0], Fv 94 #[ptr u0 0, ptr u1 0]] 82 (X3.alloc (.cells #[Fv 93 #[ptr u0 0, ptr u1 0], Fv 94 #[ptr u0 0, ptr u1 0]] 82)).drew := ⟨hsvb, Blk.new X3 _ _⟩
  have hkl := HS.2.lt
  refine wp_region_noPanic ?_
  refine wp_region_held_drew (S := (fun X => Blk X0.heap.size #[Fv 91 #[], Fv 92 #[]] 77 X ∧ Blk X3.heap.size #[Fv 93 #[ptr u0 0, ptr u1 0], Fv 94 #[ptr u0 0, ptr u1 0]] 82 X)) (by kernel_rfl) (HS) (fun hHeld => ?_)
  generalize (X3.alloc (.cells #[Fv 93 #[ptr u0 0, ptr u1 0], Fv 94 #[ptr u0 0, ptr u1 0]] 82)).drew = Xs at *
  have hb3X : Below X2.heap.size X2 Xs := Below.onto hb3 hbX
  have hb2X : Below X1.heap.size X1 Xs := Below.onto hb2 hb3X
  have HW0 : Hid (Below w.heap.size w Xs) := (((below_new w _).trans (hb0.mono (by simp))).trans (hb1'.mono (by omega))).trans (hb2X.mono (by omega))
  replace hrb := hrb.below (Below.onto hb1' hb2X)
  have HRB0 := hide hrb
  replace hbv := hbv.below hb2X
  replace hv0 := hv0.below hb3X
  replace hv1 := hv1.below hb3X
  replace hu0 := hu0.below hbX
  replace hu1 := hu1.below hbX
  clear HS hsvb hb0 hb1 hb1' hb2 hb3 hb2X hb3X hbX hrb
  have hsv0 : w.heap.size + 1 ≤ X0.heap.size := z0
  have hkv0 : w.heap.size + 1 ≤ X3.heap.size := by omega
  generalize X0.heap.size = sv at *
  generalize X3.heap.size = kv at *
  have REST : Hid (∀ (ac : Act) (X : World) (vb g0 g1 bk k0 k1 gp a0 : Nat), ac = ⟨#[ptr w.heap.size 0, ptr sv 0, ptr kv 0, ptr vb 0, ac.tmps.getD 4 undef, ac.tmps.getD 5 undef, ac.tmps.getD 6 undef, ac.tmps.getD 7 undef, ac.tmps.getD 8 undef, ac.tmps.getD 9 undef, ac.tmps.getD 10 undef, ac.tmps.getD 11 undef, ac.tmps.getD 12 undef, ac.tmps.getD 13 undef, ac.tmps.getD 14 undef, ac.tmps.getD 15 undef, ac.tmps.getD 16 undef, ac.tmps.getD 17 undef, ac.tmps.getD 18 undef, ac.tmps.getD 19 undef, ac.tmps.getD 20 undef, ac.tmps.getD 21 undef, ac.tmps.getD 22 undef, ac.tmps.getD 23 undef, ac.tmps.getD 24 undef, ac.tmps.getD 25 undef, ac.tmps.getD 26 undef, ac.tmps.getD 27 undef], []⟩ → Below Xs.heap.size Xs X → Blk sv #[Fv 91 #[], Fv 92 #[]] 77 X → W2B bv v0 v1 u0 u1 g0 g1 bk k0 k1 gp a0 X → Blk vb #[.nilFunc, .nilFunc] 82 X → (w.heap.size + 1 ≤ bv ∧ w.heap.size + 1 ≤ v0 ∧ w.heap.size + 1 ≤ v1 ∧ w.heap.size + 1 ≤ u0 ∧ w.heap.size + 1 ≤ u1 ∧ w.heap.size + 1 ≤ g0 ∧ w.heap.size + 1 ≤ g1 ∧ w.heap.size + 1 ≤ bk ∧ w.heap.size + 1 ≤ k0 ∧ w.heap.size + 1 ≤ k1 ∧ w.heap.size + 1 ≤ gp ∧ w.heap.size + 1 ≤ a0 ∧ w.heap.size + 1 ≤ vb) →
      KK ac ((X.setCell ⟨vb, 0, none⟩ (Fv 67 #[ptr a0 0])).setCell ⟨vb, 1, none⟩ (Fv 68 #[ptr a0 0]))) := by
    intro ac X vb g0 g1 bk k0 k1 gp a0 ha hbl hsvX HWX hvb hl
    obtain ⟨u, rfl⟩ : ∃ u : Nat → Value, ac = ⟨#[ptr w.heap.size 0, ptr sv 0, ptr kv 0, ptr vb 0, u 4, u 5, u 6, u 7, u 8, u 9, u 10, u 11, u 12, u 13, u 14, u 15, u 16, u 17, u 18, u 19, u 20, u 21, u 22, u 23, u 24, u 25, u 26, u 27], []⟩ := ⟨fun i => ac.tmps.getD i undef, ha⟩
    clear ha
    refine hrest _ _ ?_
    clear hrest
    have HW1 := HWX.set2 (x := Fv 67 #[ptr a0 0]) (y := Fv 68 #[ptr a0 0]) hvb
    have HSV := hide (hsvX.set2 (x := Fv 67 #[ptr a0 0]) (y := Fv 68 #[ptr a0 0]) (hsvX.ne hvb (by simp)))
    have HVB := hide (hvb.two (x := Fv 67 #[ptr a0 0]) (y := Fv 68 #[ptr a0 0]))
    have hrbX : Blk w.heap.size #[.nilFunc, .nilFunc] 52 X := (unhide HRB0).below hbl
    have HRB := hide (hrbX.set2 (x := Fv 67 #[ptr a0 0]) (y := Fv 68 #[ptr a0 0]) (by omega : w.heap.size ≠ vb))
    have HBW : Hid (Below w.heap.size w ((X.setCell ⟨vb, 0, none⟩ (Fv 67 #[ptr a0 0])).setCell ⟨vb, 1, none⟩ (Fv 68 #[ptr a0 0]))) := Below.set2 (Below.onto (unhide HW0) hbl) (by omega)
    have hszF := set2_size X vb (Fv 67 #[ptr a0 0]) (Fv 68 #[ptr a0 0])
    have hvl := hvb.lt
    generalize (X.setCell ⟨vb, 0, none⟩ (Fv 67 #[ptr a0 0])).setCell ⟨vb, 1, none⟩ (Fv 68 #[ptr a0 0]) = Y at *
    have HWY := hide HW1
    clear HWX hvb hsvX HW1 hrbX hbl
    go_wp2
    rename_i hrest
    have hYd : Below Y.heap.size Y Y.drew := (Below.refl _ _).drew
    refine wp_region_noPanic ?_
    refine wp_region_held_drew (S := (fun X => Blk sv #[Fv 91 #[], Fv 92 #[]] 77 X ∧ Blk vb #[Fv 67 #[ptr a0 0], Fv 68 #[ptr a0 0]] 82 X)) (by kernel_rfl) (⟨(unhide HSV).below (Below.refl _ _).drew, (unhide HVB).below (Below.refl _ _).drew⟩) (fun hHeld => ?_)
    generalize Y.drew = Yd at *
    have yd := hYd.size
    have HRBd := hide ((unhide HRB).below hYd)
    refine wpAnyH_take (i := 0) (oi := ?oi20117) (v := ?v20117) ?hi20117 (by kernel_rfl) (by kernel_rfl) (by kernel_rfl) (fun _ _ _ h => h) (Or.inl ⟨?hw20117, ?hy20117⟩) (by assumption) ?rest20117
    case hi20117 => (simp only [List.getElem?_toArray, List.getElem?_cons_zero]; rfl)
    case hw20117 => rfl
    case hy20117 => first | (intro wx hSw; obtain ⟨hw1, hw2⟩ := hSw; have hs0 := hw1.cell 0; have hs1 := hw1.cell 1; have hs2 := hw2.cell 0; have hs3 := hw2.cell 1; simp at hs0 hs1 hs2 hs3; go_simp; done) | (intro wx hSw; obtain ⟨hw1, hw2⟩ := hSw; have hs0 := hw1.cell 0; have hs1 := hw1.cell 1; have hs2 := hw2.cell 0; have hs3 := hw2.cell 1; simp at hs0 hs1 hs2 hs3; go_simp; with_reducible rfl)
    simp only [Act.put, List.setIfInBounds_toArray, List.set_cons_zero, List.set_cons_succ]
    refine wpAnyH_take (i := 2) (oi := ?oi20118) (v := ?v20118) ?hi20118 (by kernel_rfl) (by kernel_rfl) (by kernel_rfl) (fun _ _ _ h => h) (Or.inl ⟨?hw20118, ?hy20118⟩) (by assumption) ?rest20118
    case hi20118 => (simp only [List.getElem?_toArray, List.getElem?_cons_zero, List.getElem?_cons_succ]; rfl)
    case hw20118 => rfl
    case hy20118 => first | (intro wx hSw; obtain ⟨hw1, hw2⟩ := hSw; have hs0 := hw1.cell 0; have hs1 := hw1.cell 1; have hs2 := hw2.cell 0; have hs3 := hw2.cell 1; simp at hs0 hs1 hs2 hs3; go_simp; done) | (intro wx hSw; obtain ⟨hw1, hw2⟩ := hSw; have hs0 := hw1.cell 0; have hs1 := hw1.cell 1; have hs2 := hw2.cell 0; have hs3 := hw2.cell 1; simp at hs0 hs1 hs2 hs3; go_simp; with_reducible rfl)
    simp only [Act.put, List.setIfInBounds_toArray, List.set_cons_zero, List.set_cons_succ]
    refine wpAnyH_take (i := 3) (oi := ?oi20119) (v := ?v20119) ?hi20119 (by kernel_rfl) (by kernel_rfl) (by kernel_rfl) (fun _ _ _ h => h) (Or.inl ⟨?hw20119, ?hy20119⟩) (by assumption) ?rest20119
    case hi20119 => (simp only [List.getElem?_toArray, List.getElem?_cons_zero, List.getElem?_cons_succ]; rfl)
    case hw20119 => rfl
    case hy20119 => first | (intro wx hSw; obtain ⟨hw1, hw2⟩ := hSw; have hs0 := hw1.cell 0; have hs1 := hw1.cell 1; have hs2 := hw2.cell 0; have hs3 := hw2.cell 1; simp at hs0 hs1 hs2 hs3; go_simp; done) | (intro wx hSw; obtain ⟨hw1, hw2⟩ := hSw; have hs0 := hw1.cell 0; have hs1 := hw1.cell 1; have hs2 := hw2.cell 0; have hs3 := hw2.cell 1; simp at hs0 hs1 hs2 hs3; go_simp; with_reducible rfl)
    simp only [Act.put, List.setIfInBounds_toArray, List.set_cons_zero, List.set_cons_succ]
    refine wpAnyH_take (i := 6) (oi := ?oi20120) (v := ?v20120) ?hi20120 (by kernel_rfl) (by kernel_rfl) (by kernel_rfl) (fun _ _ _ h => h) (Or.inl ⟨?hw20120, ?hy20120⟩) (by assumption) ?rest20120
    case hi20120 => (simp only [List.getElem?_toArray, List.getElem?_cons_zero, List.getElem?_cons_succ]; rfl)
    case hw20120 => rfl
    case hy20120 => first | (intro wx hSw; obtain ⟨hw1, hw2⟩ := hSw; have hs0 := hw1.cell 0; have hs1 := hw1.cell 1; have hs2 := hw2.cell 0; have hs3 := hw2.cell 1; simp at hs0 hs1 hs2 hs3; go_simp; done) | (intro wx hSw; obtain ⟨hw1, hw2⟩ := hSw; have hs0 := hw1.cell 0; have hs1 := hw1.cell 1; have hs2 := hw2.cell 0; have hs3 := hw2.cell 1; simp at hs0 hs1 hs2 hs3; go_simp; with_reducible rfl)
    simp only [Act.put, List.setIfInBounds_toArray, List.set_cons_zero, List.set_cons_succ]
    have HN1 := hide (fun V (hV : SameFrom (w.heap.size + 1) Yd V) => shPuts V)
    have HN2 := hide (fun V (hV : SameFrom (w.heap.size + 1) Yd V) => shTakes V)
    refine wpAnyH_ready (rs := [1]) (by kernel_rfl) (by simp) ?_
    refine AllReadyH.cons rfl (fun K20121 hK20121 => ?_) AllReadyH.nil
    go_simp
    go_wp2_with (go_at_call 57; refine (head_any 50 _ _ _ _ (w.heap.size + 1) Yd (by omega) _ _ _ _ (unhide HN1) (unhide HN2)).mono ?_; rintro e Y2 ⟨Kh, ph, Kg, pg, rfl, hHP, hHT, hc2⟩)
    refine hK20121.out _ _ ?hs20121 (fun hHeld20121 => ?_)
    case hs20121 => exact ⟨hHeld.1.below hc2, hHeld.2.below hc2⟩
    clear hHeld
    have hHeld := hHeld20121; clear hHeld20121 hK20121 K20121
    refine wpAnyH_ready (rs := [4]) (by kernel_rfl) (by simp) ?_
    refine AllReadyH.cons rfl (fun K20122 hK20122 => ?_) AllReadyH.nil
    go_simp
    go_wp2_with (go_at_call 59; refine (listC_any _ _ _ _ _ _ _ _ _).mono ?_; rintro e Y3 ⟨l0, l1, rfl, ⟨hl0, ll0⟩, ⟨hl1, ll1⟩, hc3⟩)
    refine hK20122.out _ _ ?hs20122 (fun hHeld20122 => ?_)
    case hs20122 => exact ⟨hHeld.1.below hc3, hHeld.2.below hc3⟩
    clear hHeld
    have hHeld := hHeld20122; clear hHeld20122 hK20122 K20122
    refine wpAnyH_ready (rs := [5]) (by kernel_rfl) (by simp) ?_
    refine AllReadyH.cons rfl (fun K20123 hK20123 => ?_) AllReadyH.nil
    go_simp
    go_wp2_with (go_at_call 58; refine (partCmdWritesC_any _ _ _ _ _ _).mono ?_; rintro e Y4 ⟨w0_, w1_, rfl, ⟨hw0, lw0⟩, ⟨⟨Tw, hw1⟩, lw1⟩, hc4⟩)
    refine hK20123.out _ _ ?hs20123 (fun hHeld20123 => ?_)
    case hs20123 => exact ⟨hHeld.1.below hc4, hHeld.2.below hc4⟩
    clear hHeld
    have hHeld := hHeld20123; clear hHeld20123 hK20123 K20123
    refine wpAnyH_ready (rs := [7]) (by kernel_rfl) (by simp) ?_
    refine AllReadyH.cons rfl (fun K20124 hK20124 => ?_) AllReadyH.nil
    go_simp
    go_wp2_with (go_at_call 50; refine (textC_any _ _ _ _ _).mono ?_; rintro e Y5 ⟨tb, rfl, ⟨htb, ltb⟩, hc5⟩)
    refine hK20124.out _ _ ?hs20124 (fun hHeld20124 => ?_)
    case hs20124 => exact ⟨hHeld.1.below hc5, hHeld.2.below hc5⟩
    clear hHeld
    have hHeld := hHeld20124; clear hHeld20124 hK20124 K20124
    refine wpAnyH_ready (rs := [8]) (by kernel_rfl) (by simp) ?_
    refine AllReadyH.cons rfl (fun K20125 hK20125 => ?_) AllReadyH.nil
    go_simp
    go_wp2_with (go_at_call 63; refine (partCmdstringC_any _ _ _ _ _ _).mono ?_; rintro e Y6 ⟨n0_, n1_, rfl, ⟨hn0_, ln0_⟩, ⟨⟨Tn, hn1_⟩, ln1_⟩, hc6⟩)
    refine hK20125.out _ _ ?hs20125 (fun hHeld20125 => ?_)
    case hs20125 => exact ⟨hHeld.1.below hc6, hHeld.2.below hc6⟩
    clear hHeld
    have hHeld := hHeld20125; clear hHeld20125 hK20125 K20125
    refine wpAnyH_ready (rs := [9]) (by kernel_rfl) (by simp) ?_
    refine AllReadyH.cons rfl (fun K20126 hK20126 => ?_) AllReadyH.nil
    go_simp
    refine hK20126.out _ _ ?hs20126 (fun hHeld20126 => ?_)
    case hs20126 => exact ⟨hHeld.1.below (below_new Y6 (.cells #[Fv Kh ph, Fv Kg pg, Fv 87 #[ptr w0_ 0, ptr w1_ 0], Fv 88 #[ptr w0_ 0, ptr w1_ 0], Fv 95 #[ptr n0_ 0, ptr n1_ 0], Fv 96 #[ptr n0_ 0, ptr n1_ 0]] 52)), hHeld.2.below (below_new Y6 (.cells #[Fv Kh ph, Fv Kg pg, Fv 87 #[ptr w0_ 0, ptr w1_ 0], Fv 88 #[ptr w0_ 0, ptr w1_ 0], Fv 95 #[ptr n0_ 0, ptr n1_ 0], Fv 96 #[ptr n0_ 0, ptr n1_ 0]] 52))⟩
    clear hHeld
    have hHeld := hHeld20126; clear hHeld20126 hK20126 K20126
    have hgp2 := Blk.new Y6 #[Fv Kh ph, Fv Kg pg, Fv 87 #[ptr w0_ 0, ptr w1_ 0], Fv 88 #[ptr w0_ 0, ptr w1_ 0], Fv 95 #[ptr n0_ 0, ptr n1_ 0], Fv 96 #[ptr n0_ 0, ptr n1_ 0]] 52
    have hc7 := below_new Y6 (.cells #[Fv Kh ph, Fv Kg pg, Fv 87 #[ptr w0_ 0, ptr w1_ 0], Fv 88 #[ptr w0_ 0, ptr w1_ 0], Fv 95 #[ptr n0_ 0, ptr n1_ 0], Fv 96 #[ptr n0_ 0, ptr n1_ 0]] 52)
    generalize hX : Y6.alloc (.cells #[Fv Kh ph, Fv Kg pg, Fv 87 #[ptr w0_ 0, ptr w1_ 0], Fv 88 #[ptr w0_ 0, ptr w1_ 0], Fv 95 #[ptr n0_ 0, ptr n1_ 0], Fv 96 #[ptr n0_ 0, ptr n1_ 0]] 52) = Y7 at *
    clear hX
    refine wpAnyH_ready (rs := [10]) (by kernel_rfl) (by simp) ?_
    refine AllReadyH.cons rfl (fun K20127 hK20127 => ?_) AllReadyH.nil
    go_simp
    go_wp2_with (go_at_call 56; refine (allCmdC_any _ _ _ _).mono ?_; rintro e Y8 ⟨a1, rfl, ⟨ha1, la1⟩, hc8⟩)
    refine hK20127.out _ _ ?hs20127 (fun hHeld20127 => ?_)
    case hs20127 => exact ⟨hHeld.1.below hc8, hHeld.2.below hc8⟩
    clear hHeld
    have hHeld := hHeld20127; clear hHeld20127 hK20127 K20127
    have d8 := hc8
    have d7 := Below.onto hc7 d8
    have d6 := Below.onto hc6 d7
    have d5 := Below.onto hc5 d6
    have d4 := Below.onto hc4 d5
    have d3 := Below.onto hc3 d4
    have d2 := Below.onto hc2 d3
    have hr9 : Blk w.heap.size #[.nilFunc, .nilFunc] 52 Y8 := (unhide HRBd).below d2
    have hq0 := hr9.cell 0
    have hq1 := hr9.cell 1
    have hz0 := hr9.froz 0
    have hz1 := hr9.froz 1
    simp at hq0 hq1
    refine wpAnyH_ready (rs := [11]) (by kernel_rfl) (by simp) ?_
    refine AllReadyH.cons rfl (fun K20128 hK20128 => ?_) AllReadyH.nil
    go_simp
    refine hK20128.out _ _ ?hs20128 (fun hHeld20128 => ?_)
    case hs20128 => exact ⟨hHeld.1.set2 (by omega), hHeld.2.set2 (by omega)⟩
    clear hHeld
    have hHeld := hHeld20128; clear hHeld20128 hK20128 K20128
    refine wpAnyH_done (by kernel_rfl) ?_ _
    refine NoPanic.normal ?_
    refine hrest _ _ ?_
    clear hHeld
    have hfin := hr9.two (x := Fv 78 #[ptr a1 0]) (y := Fv 79 #[ptr a1 0])
    have hn0 := hfin.cell 0
    have hn1 := hfin.cell 1
    simp at hn0 hn1
    have y2 := hc2.size
    have y3 := hc3.size
    have y4 := hc4.size
    have y5 := hc5.size
    have y6 := hc6.size
    have y7 := hc7.size
    have y8 := hc8.size
    have hset : SameFrom (w.heap.size + 1) Y8 ((Y8.setCell ⟨w.heap.size, 0, none⟩ (Fv 78 #[ptr a1 0])).setCell ⟨w.heap.size, 1, none⟩ (Fv 79 #[ptr a1 0])) := (SameFrom.set (by omega)).trans (SameFrom.set (by omega))
    have hsfY : SameFrom (w.heap.size + 1) Y ((Y8.setCell ⟨w.heap.size, 0, none⟩ (Fv 78 #[ptr a1 0])).setCell ⟨w.heap.size, 1, none⟩ (Fv 79 #[ptr a1 0])) := (SameFrom.of_below (Below.onto hYd d2)).trans hset
    have hsf2 : SameFrom (w.heap.size + 1) Y2 ((Y8.setCell ⟨w.heap.size, 0, none⟩ (Fv 78 #[ptr a1 0])).setCell ⟨w.heap.size, 1, none⟩ (Fv 79 #[ptr a1 0])) := (SameFrom.of_below d3).trans hset
    have HWF := hide ((unhide HWY).sf (n := w.heap.size + 1) (by omega) hsfY)
    have HL : Hid (L2B (w.heap.size + 1) Kh Kg ph pg a0 l0 l1 w0_ w1_ tb n0_ n1_ Y6.heap.size a1 ((Y8.setCell ⟨w.heap.size, 0, none⟩ (Fv 78 #[ptr a1 0])).setCell ⟨w.heap.size, 1, none⟩ (Fv 79 #[ptr a1 0]))) :=
      ⟨(hl0.below d4).set2 (by omega), (hl1.below d4).set2 (by omega), (hw0.below d5).set2 (by omega), ⟨_, (hw1.below d5).set2 (by omega)⟩, (htb.below d6).set2 (by omega), (hn0_.below d7).set2 (by omega), ⟨_, (hn1_.below d7).set2 (by omega)⟩, (hgp2.below d8).set2 (by omega), ha1.set2 (by omega)⟩
    have HHP := hide (hHP.on hsf2)
    have HHT := hide (hHT.on hsf2)
    have HBF : Hid (Below w.heap.size w ((Y8.setCell ⟨w.heap.size, 0, none⟩ (Fv 78 #[ptr a1 0])).setCell ⟨w.heap.size, 1, none⟩ (Fv 79 #[ptr a1 0]))) := Below.set2 (Below.onto (Below.onto (unhide HBW) hYd) d2) (Nat.le_refl _)
    clear hHP hHT
    go_wp2_with fail
    refine bodyPost_ret (v := Cv (Fv 78 #[ptr a1 0]) (Fv 79 #[ptr a1 0])) (by simp [results, Try.results39, go_sem, hn0, hn1]) rfl ?_
    exact ⟨_, _, _, _, rfl, fun V hV => ((unhide HL).sf (by omega) hV).puts (unhide HHP V hV) (unhide HHT V hV).fn ((unhide HWF).sf (n := w.heap.size + 1) (by omega) hV).puts, fun V hV => ((unhide HL).sf (by omega) hV).takes (unhide HHP V hV).fn (unhide HHT V hV) ((unhide HWF).sf (n := w.heap.size + 1) (by omega) hV).takes, unhide HBF⟩
  clear hrest
  refine wpAnyH_take (i := 2) (oi := ?oi20074) (v := ?v20074) ?hi20074 (by kernel_rfl) (by kernel_rfl) (by kernel_rfl) (fun _ _ _ h => h) (Or.inl ⟨?hw20074, ?hy20074⟩) (by assumption) ?rest20074
  case hi20074 => (simp only [List.getElem?_toArray, List.getElem?_cons_zero, List.getElem?_cons_succ]; rfl)
  case hw20074 => rfl
  case hy20074 => first | (intro wx hSw; obtain ⟨hw1, hw2⟩ := hSw; have hs0 := hw1.cell 0; have hs1 := hw1.cell 1; have hs2 := hw2.cell 0; have hs3 := hw2.cell 1; simp at hs0 hs1 hs2 hs3; go_simp; done) | (intro wx hSw; obtain ⟨hw1, hw2⟩ := hSw; have hs0 := hw1.cell 0; have hs1 := hw1.cell 1; have hs2 := hw2.cell 0; have hs3 := hw2.cell 1; simp at hs0 hs1 hs2 hs3; go_simp; with_reducible rfl)
  simp only [Act.put, List.setIfInBounds_toArray, List.set_cons_zero, List.set_cons_succ]
  refine wpAnyH_take (i := 5) (oi := ?oi20075) (v := ?v20075) ?hi20075 (by kernel_rfl) (by kernel_rfl) (by kernel_rfl) (fun _ _ _ h => h) (Or.inl ⟨?hw20075, ?hy20075⟩) (by assumption) ?rest20075
  case hi20075 => (simp only [List.getElem?_toArray, List.getElem?_cons_zero, List.getElem?_cons_succ]; rfl)
  case hw20075 => rfl
  case hy20075 => first | (intro wx hSw; obtain ⟨hw1, hw2⟩ := hSw; have hs0 := hw1.cell 0; have hs1 := hw1.cell 1; have hs2 := hw2.cell 0; have hs3 := hw2.cell 1; simp at hs0 hs1 hs2 hs3; go_simp; done) | (intro wx hSw; obtain ⟨hw1, hw2⟩ := hSw; have hs0 := hw1.cell 0; have hs1 := hw1.cell 1; have hs2 := hw2.cell 0; have hs3 := hw2.cell 1; simp at hs0 hs1 hs2 hs3; go_simp; with_reducible rfl)
  simp only [Act.put, List.setIfInBounds_toArray, List.set_cons_zero, List.set_cons_succ]
  refine wpAnyH_ready (rs := [0, 8]) (by kernel_rfl) (by simp) ?_
  refine AllReadyH.cons rfl (fun K20076 hK20076 => ?_) ?_
  · go_simp
    go_wp2_with (go_at_call 54; refine (flagC_any _).mono ?_; rintro e X1_ ⟨rfl, hb1_⟩)
    refine hK20076.out _ _ ?hs20076 (fun hHeld20076 => ?_)
    case hs20076 => exact ⟨hHeld.1.below hb1_, hHeld.2.below hb1_⟩
    clear hHeld
    have hHeld := hHeld20076; clear hHeld20076 hK20076 K20076
    refine wpAnyH_ready (rs := [1, 8]) (by kernel_rfl) (by simp) ?_
    refine AllReadyH.cons rfl (fun K20077 hK20077 => ?_) ?_
    · go_simp
      go_wp2_with (go_at_call 53; refine (partWriteboolC_any _ _ _ _ _ _).mono ?_; rintro e X2_ ⟨g0, g1, rfl, ⟨hg0, lg0⟩, ⟨⟨Tg, hg1⟩, lg1⟩, hb2_⟩)
      refine hK20077.out _ _ ?hs20077 (fun hHeld20077 => ?_)
      case hs20077 => exact ⟨hHeld.1.below hb2_, hHeld.2.below hb2_⟩
      clear hHeld
      have hHeld := hHeld20077; clear hHeld20077 hK20077 K20077
      refine wpAnyH_ready (rs := [3, 8]) (by kernel_rfl) (by simp) ?_
      refine AllReadyH.cons rfl (fun K20078 hK20078 => ?_) ?_
      · go_simp
        go_wp2_with (go_at_call 50; refine (textC_any _ _ _ _ _).mono ?_; rintro e X3_ ⟨bk, rfl, ⟨hbk, lbk⟩, hb3_⟩)
        refine hK20078.out _ _ ?hs20078 (fun hHeld20078 => ?_)
        case hs20078 => exact ⟨hHeld.1.below hb3_, hHeld.2.below hb3_⟩
        clear hHeld
        have hHeld := hHeld20078; clear hHeld20078 hK20078 K20078
        refine wpAnyH_ready (rs := [4, 8]) (by kernel_rfl) (by simp) ?_
        refine AllReadyH.cons rfl (fun K20079 hK20079 => ?_) ?_
        · go_simp
          go_wp2_with (go_at_call 49; refine (partWritestringC_any _ _ _ _ _ _).mono ?_; rintro e X4_ ⟨k0, k1, rfl, ⟨hk0, lk0⟩, ⟨⟨Tk, hk1⟩, lk1⟩, hb4_⟩)
          refine hK20079.out _ _ ?hs20079 (fun hHeld20079 => ?_)
          case hs20079 => exact ⟨hHeld.1.below hb4_, hHeld.2.below hb4_⟩
          clear hHeld
          have hHeld := hHeld20079; clear hHeld20079 hK20079 K20079
          refine wpAnyH_ready (rs := [6, 8]) (by kernel_rfl) (by simp) ?_
          refine AllReadyH.cons rfl (fun K20080 hK20080 => ?_) ?_
          · go_simp
            refine hK20080.out _ _ ?hs20080 (fun hHeld20080 => ?_)
            case hs20080 => exact ⟨hHeld.1.below (below_new X4_ (.cells #[Fv 74 #[ptr g0 0, ptr g1 0], Fv 75 #[ptr g0 0, ptr g1 0], Fv 69 #[ptr k0 0, ptr k1 0], Fv 70 #[ptr k0 0, ptr k1 0], Fv 93 #[ptr u0 0, ptr u1 0], Fv 94 #[ptr u0 0, ptr u1 0]] 82)), hHeld.2.below (below_new X4_ (.cells #[Fv 74 #[ptr g0 0, ptr g1 0], Fv 75 #[ptr g0 0, ptr g1 0], Fv 69 #[ptr k0 0, ptr k1 0], Fv 70 #[ptr k0 0, ptr k1 0], Fv 93 #[ptr u0 0, ptr u1 0], Fv 94 #[ptr u0 0, ptr u1 0]] 82))⟩
            clear hHeld
            have hHeld := hHeld20080; clear hHeld20080 hK20080 K20080
            have hgp := Blk.new X4_ #[Fv 74 #[ptr g0 0, ptr g1 0], Fv 75 #[ptr g0 0, ptr g1 0], Fv 69 #[ptr k0 0, ptr k1 0], Fv 70 #[ptr k0 0, ptr k1 0], Fv 93 #[ptr u0 0, ptr u1 0], Fv 94 #[ptr u0 0, ptr u1 0]] 82
            have hb5_ := below_new X4_ (.cells #[Fv 74 #[ptr g0 0, ptr g1 0], Fv 75 #[ptr g0 0, ptr g1 0], Fv 69 #[ptr k0 0, ptr k1 0], Fv 70 #[ptr k0 0, ptr k1 0], Fv 93 #[ptr u0 0, ptr u1 0], Fv 94 #[ptr u0 0, ptr u1 0]] 82)
            obtain ⟨gp, egp⟩ : ∃ g, g = X4_.heap.size := ⟨_, rfl⟩
            rw [← egp] at hgp
            have lgp : X4_.heap.size ≤ gp := Nat.le_of_eq egp.symm
            generalize hX : X4_.alloc (.cells #[Fv 74 #[ptr g0 0, ptr g1 0], Fv 75 #[ptr g0 0, ptr g1 0], Fv 69 #[ptr k0 0, ptr k1 0], Fv 70 #[ptr k0 0, ptr k1 0], Fv 93 #[ptr u0 0, ptr u1 0], Fv 94 #[ptr u0 0, ptr u1 0]] 82) = X5_ at *
            clear hX
            try rw [← egp]
            clear egp
            refine wpAnyH_ready (rs := [7, 8]) (by kernel_rfl) (by simp) ?_
            refine AllReadyH.cons rfl (fun K20081 hK20081 => ?_) ?_
            · go_simp
              go_wp2_with (go_at_call 48; refine (allWriteC_any _ _ _ _).mono ?_; rintro e X6_ ⟨a0, rfl, ⟨ha0, la0⟩, hb6_⟩)
              refine hK20081.out _ _ ?hs20081 (fun hHeld20081 => ?_)
              case hs20081 => exact ⟨hHeld.1.below hb6_, hHeld.2.below hb6_⟩
              clear hHeld
              have hHeld := hHeld20081; clear hHeld20081 hK20081 K20081
              refine wpAnyH_ready (rs := [8]) (by kernel_rfl) (by simp) ?_
              refine AllReadyH.cons rfl (fun K20082 hK20082 => ?_) AllReadyH.nil
              go_simp
              refine hK20082.out _ _ ?hs20082 (fun hHeld20082 => ?_)
              case hs20082 => exact ⟨hHeld.1.below (below_new X6_ (.cells #[.nilFunc, .nilFunc] 82)), hHeld.2.below (below_new X6_ (.cells #[.nilFunc, .nilFunc] 82))⟩
              clear hHeld
              have hHeld := hHeld20082; clear hHeld20082 hK20082 K20082
              have hvb := Blk.new X6_ #[.nilFunc, .nilFunc] 82
              have hb7_ := below_new X6_ (.cells #[.nilFunc, .nilFunc] 82)
              generalize hX : X6_.alloc (.cells #[.nilFunc, .nilFunc] 82) = X7_ at *
              clear hX
              have lvb : X6_.heap.size < X7_.heap.size := hvb.lt
              have z0_ := hb1_.size
              have z1_ := hb2_.size
              have z2_ := hb3_.size
              have z3_ := hb4_.size
              have z4_ := hb5_.size
              have z5_ := hb6_.size
              have z6_ := hb7_.size
              have hvbX : Blk (X6_.heap.size) #[.nilFunc, .nilFunc] 82 X7_ := hvb
              have hq0 := hvbX.cell 0
              have hq1 := hvbX.cell 1
              have hz0 := hvbX.froz 0
              have hz1 := hvbX.froz 1
              simp at hq0 hq1
              have htot : Below Xs.heap.size Xs X7_ := (Below.onto hb1_ (Below.onto hb2_ (Below.onto hb3_ (Below.onto hb4_ (Below.onto hb5_ (Below.onto hb6_ hb7_))))))
              have HW : W2B bv v0 v1 u0 u1 g0 g1 bk k0 k1 gp a0 X7_ := ⟨hbv.below htot, hv0.below htot, ⟨_, hv1.below htot⟩, ⟨_, hu0.below htot⟩, hu1.below htot, (hg0.below (Below.onto hb3_ (Below.onto hb4_ (Below.onto hb5_ (Below.onto hb6_ hb7_))))), ⟨_, (hg1.below (Below.onto hb3_ (Below.onto hb4_ (Below.onto hb5_ (Below.onto hb6_ hb7_)))))⟩, (hbk.below (Below.onto hb4_ (Below.onto hb5_ (Below.onto hb6_ hb7_)))), (hk0.below (Below.onto hb5_ (Below.onto hb6_ hb7_))), ⟨_, (hk1.below (Below.onto hb5_ (Below.onto hb6_ hb7_)))⟩, (hgp.below (Below.onto hb6_ hb7_)), (ha0.below hb7_)⟩
              have HSS := hide hHeld
              refine wpAnyH_ready (rs := [9]) (by kernel_rfl) (by simp) ?_
              refine AllReadyH.cons rfl (fun K20083 hK20083 => ?_) AllReadyH.nil
              go_simp
              refine hK20083.out _ _ ?hs20083 (fun hHeld20083 => ?_)
              case hs20083 => exact ⟨hHeld.1.set2 (hHeld.1.ne hvbX (by simp)), hHeld.2.set2 (hHeld.2.ne hvbX (by simp))⟩
              clear hHeld
              have hHeld := hHeld20083; clear hHeld20083 hK20083 K20083
              refine wpAnyH_done (by kernel_rfl) ?_ _
              refine NoPanic.normal ?_
              skip
              exact unhide REST _ X7_ (X6_.heap.size) g0 g1 bk k0 k1 gp a0 (by rfl) htot (unhide HSS).1 HW hvbX (by omega)
            refine AllReadyH.cons rfl (fun K20084 hK20084 => ?_) AllReadyH.nil
            · go_simp
              refine hK20084.out _ _ ?hs20084 (fun hHeld20084 => ?_)
              case hs20084 => exact ⟨hHeld.1.below (below_new X5_ (.cells #[.nilFunc, .nilFunc] 82)), hHeld.2.below (below_new X5_ (.cells #[.nilFunc, .nilFunc] 82))⟩
              clear hHeld
              have hHeld := hHeld20084; clear hHeld20084 hK20084 K20084
              have hvb := Blk.new X5_ #[.nilFunc, .nilFunc] 82
              have hb8_ := below_new X5_ (.cells #[.nilFunc, .nilFunc] 82)
              generalize hX : X5_.alloc (.cells #[.nilFunc, .nilFunc] 82) = X8_ at *
              clear hX
              have lvb : X5_.heap.size < X8_.heap.size := hvb.lt
              refine wpAnyH_ready (rs := [7]) (by kernel_rfl) (by simp) ?_
              refine AllReadyH.cons rfl (fun K20085 hK20085 => ?_) AllReadyH.nil
              go_simp
              go_wp2_with (go_at_call 48; refine (allWriteC_any _ _ _ _).mono ?_; rintro e X9_ ⟨a0, rfl, ⟨ha0, la0⟩, hb9_⟩)
              refine hK20085.out _ _ ?hs20085 (fun hHeld20085 => ?_)
              case hs20085 => exact ⟨hHeld.1.below hb9_, hHeld.2.below hb9_⟩
              clear hHeld
              have hHeld := hHeld20085; clear hHeld20085 hK20085 K20085
              have z0_ := hb1_.size
              have z1_ := hb2_.size
              have z2_ := hb3_.size
              have z3_ := hb4_.size
              have z4_ := hb5_.size
              have z5_ := hb8_.size
              have z6_ := hb9_.size
              have hvbX : Blk (X5_.heap.size) #[.nilFunc, .nilFunc] 82 X9_ := (hvb.below hb9_)
              have hq0 := hvbX.cell 0
              have hq1 := hvbX.cell 1
              have hz0 := hvbX.froz 0
              have hz1 := hvbX.froz 1
              simp at hq0 hq1
              have htot : Below Xs.heap.size Xs X9_ := (Below.onto hb1_ (Below.onto hb2_ (Below.onto hb3_ (Below.onto hb4_ (Below.onto hb5_ (Below.onto hb8_ hb9_))))))
              have HW : W2B bv v0 v1 u0 u1 g0 g1 bk k0 k1 gp a0 X9_ := ⟨hbv.below htot, hv0.below htot, ⟨_, hv1.below htot⟩, ⟨_, hu0.below htot⟩, hu1.below htot, (hg0.below (Below.onto hb3_ (Below.onto hb4_ (Below.onto hb5_ (Below.onto hb8_ hb9_))))), ⟨_, (hg1.below (Below.onto hb3_ (Below.onto hb4_ (Below.onto hb5_ (Below.onto hb8_ hb9_)))))⟩, (hbk.below (Below.onto hb4_ (Below.onto hb5_ (Below.onto hb8_ hb9_)))), (hk0.below (Below.onto hb5_ (Below.onto hb8_ hb9_))), ⟨_, (hk1.below (Below.onto hb5_ (Below.onto hb8_ hb9_)))⟩, (hgp.below (Below.onto hb8_ hb9_)), ha0⟩
              have HSS := hide hHeld
              refine wpAnyH_ready (rs := [9]) (by kernel_rfl) (by simp) ?_
              refine AllReadyH.cons rfl (fun K20086 hK20086 => ?_) AllReadyH.nil
              go_simp
              refine hK20086.out _ _ ?hs20086 (fun hHeld20086 => ?_)
              case hs20086 => exact ⟨hHeld.1.set2 (hHeld.1.ne hvbX (by simp)), hHeld.2.set2 (hHeld.2.ne hvbX (by simp))⟩
              clear hHeld
              have hHeld := hHeld20086; clear hHeld20086 hK20086 K20086
              refine wpAnyH_done (by kernel_rfl) ?_ _
              refine NoPanic.normal ?_
              skip
              exact unhide REST _ X9_ (X5_.heap.size) g0 g1 bk k0 k1 gp a0 (by rfl) htot (unhide HSS).1 HW hvbX (by omega)
          refine AllReadyH.cons rfl (fun K20087 hK20087 => ?_) AllReadyH.nil
          · go_simp
            refine hK20087.out _ _ ?hs20087 (fun hHeld20087 => ?_)
            case hs20087 => exact ⟨hHeld.1.below (below_new X4_ (.cells #[.nilFunc, .nilFunc] 82)), hHeld.2.below (below_new X4_ (.cells #[.nilFunc, .nilFunc] 82))⟩
            clear hHeld
            have hHeld := hHeld20087; clear hHeld20087 hK20087 K20087
            have hvb := Blk.new X4_ #[.nilFunc, .nilFunc] 82
            have hb10_ := below_new X4_ (.cells #[.nilFunc, .nilFunc] 82)
            generalize hX : X4_.alloc (.cells #[.nilFunc, .nilFunc] 82) = X10_ at *
            clear hX
            have lvb : X4_.heap.size < X10_.heap.size := hvb.lt
            refine wpAnyH_ready (rs := [6]) (by kernel_rfl) (by simp) ?_
            refine AllReadyH.cons rfl (fun K20088 hK20088 => ?_) AllReadyH.nil
            go_simp
            refine hK20088.out _ _ ?hs20088 (fun hHeld20088 => ?_)
            case hs20088 => exact ⟨hHeld.1.below (below_new X10_ (.cells #[Fv 74 #[ptr g0 0, ptr g1 0], Fv 75 #[ptr g0 0, ptr g1 0], Fv 69 #[ptr k0 0, ptr k1 0], Fv 70 #[ptr k0 0, ptr k1 0], Fv 93 #[ptr u0 0, ptr u1 0], Fv 94 #[ptr u0 0, ptr u1 0]] 82)), hHeld.2.below (below_new X10_ (.cells #[Fv 74 #[ptr g0 0, ptr g1 0], Fv 75 #[ptr g0 0, ptr g1 0], Fv 69 #[ptr k0 0, ptr k1 0], Fv 70 #[ptr k0 0, ptr k1 0], Fv 93 #[ptr u0 0, ptr u1 0], Fv 94 #[ptr u0 0, ptr u1 0]] 82))⟩
            clear hHeld
            have hHeld := hHeld20088; clear hHeld20088 hK20088 K20088
            have hgp := Blk.new X10_ #[Fv 74 #[ptr g0 0, ptr g1 0], Fv 75 #[ptr g0 0, ptr g1 0], Fv 69 #[ptr k0 0, ptr k1 0], Fv 70 #[ptr k0 0, ptr k1 0], Fv 93 #[ptr u0 0, ptr u1 0], Fv 94 #[ptr u0 0, ptr u1 0]] 82
            have hb11_ := below_new X10_ (.cells #[Fv 74 #[ptr g0 0, ptr g1 0], Fv 75 #[ptr g0 0, ptr g1 0], Fv 69 #[ptr k0 0, ptr k1 0], Fv 70 #[ptr k0 0, ptr k1 0], Fv 93 #[ptr u0 0, ptr u1 0], Fv 94 #[ptr u0 0, ptr u1 0]] 82)
            obtain ⟨gp, egp⟩ : ∃ g, g = X10_.heap.size := ⟨_, rfl⟩
            rw [← egp] at hgp
            have lgp : X10_.heap.size ≤ gp := Nat.le_of_eq egp.symm
            generalize hX : X10_.alloc (.cells #[Fv 74 #[ptr g0 0, ptr g1 0], Fv 75 #[ptr g0 0, ptr g1 0], Fv 69 #[ptr k0 0, ptr k1 0], Fv 70 #[ptr k0 0, ptr k1 0], Fv 93 #[ptr u0 0, ptr u1 0], Fv 94 #[ptr u0 0, ptr u1 0]] 82) = X11_ at *
            clear hX
            try rw [← egp]
            clear egp
            refine wpAnyH_ready (rs := [7]) (by kernel_rfl) (by simp) ?_
            refine AllReadyH.cons rfl (fun K20089 hK20089 => ?_) AllReadyH.nil
            go_simp
            go_wp2_with (go_at_call 48; refine (allWriteC_any _ _ _ _).mono ?_; rintro e X12_ ⟨a0, rfl, ⟨ha0, la0⟩, hb12_⟩)
            refine hK20089.out _ _ ?hs20089 (fun hHeld20089 => ?_)
            case hs20089 => exact ⟨hHeld.1.below hb12_, hHeld.2.below hb12_⟩
            clear hHeld
            have hHeld := hHeld20089; clear hHeld20089 hK20089 K20089
            have z0_ := hb1_.size
            have z1_ := hb2_.size
            have z2_ := hb3_.size
            have z3_ := hb4_.size
            have z4_ := hb10_.size
            have z5_ := hb11_.size
            have z6_ := hb12_.size
            have hvbX : Blk (X4_.heap.size) #[.nilFunc, .nilFunc] 82 X12_ := (hvb.below (Below.onto hb11_ hb12_))
            have hq0 := hvbX.cell 0
            have hq1 := hvbX.cell 1
            have hz0 := hvbX.froz 0
            have hz1 := hvbX.froz 1
            simp at hq0 hq1
            have htot : Below Xs.heap.size Xs X12_ := (Below.onto hb1_ (Below.onto hb2_ (Below.onto hb3_ (Below.onto hb4_ (Below.onto hb10_ (Below.onto hb11_ hb12_))))))
            have HW : W2B bv v0 v1 u0 u1 g0 g1 bk k0 k1 gp a0 X12_ := ⟨hbv.below htot, hv0.below htot, ⟨_, hv1.below htot⟩, ⟨_, hu0.below htot⟩, hu1.below htot, (hg0.below (Below.onto hb3_ (Below.onto hb4_ (Below.onto hb10_ (Below.onto hb11_ hb12_))))), ⟨_, (hg1.below (Below.onto hb3_ (Below.onto hb4_ (Below.onto hb10_ (Below.onto hb11_ hb12_)))))⟩, (hbk.below (Below.onto hb4_ (Below.onto hb10_ (Below.onto hb11_ hb12_)))), (hk0.below (Below.onto hb10_ (Below.onto hb11_ hb12_))), ⟨_, (hk1.below (Below.onto hb10_ (Below.onto hb11_ hb12_)))⟩, (hgp.below hb12_), ha0⟩
            have HSS := hide hHeld
            refine wpAnyH_ready (rs := [9]) (by kernel_rfl) (by simp) ?_
            refine AllReadyH.cons rfl (fun K20090 hK20090 => ?_) AllReadyH.nil
            go_simp
            refine hK20090.out _ _ ?hs20090 (fun hHeld20090 => ?_)
            case hs20090 => exact ⟨hHeld.1.set2 (hHeld.1.ne hvbX (by simp)), hHeld.2.set2 (hHeld.2.ne hvbX (by simp))⟩
            clear hHeld
            have hHeld := hHeld20090; clear hHeld20090 hK20090 K20090
            refine wpAnyH_done (by kernel_rfl) ?_ _
            refine NoPanic.normal ?_
            skip
            exact unhide REST _ X12_ (X4_.heap.size) g0 g1 bk k0 k1 gp a0 (by rfl) htot (unhide HSS).1 HW hvbX (by omega)
        refine AllReadyH.cons rfl (fun K20091 hK20091 => ?_) AllReadyH.nil
        · go_simp
          refine hK20091.out _ _ ?hs20091 (fun hHeld20091 => ?_)
          case hs20091 => exact ⟨hHeld.1.below (below_new X3_ (.cells #[.nilFunc, .nilFunc] 82)), hHeld.2.below (below_new X3_ (.cells #[.nilFunc, .nilFunc] 82))⟩
          clear hHeld
          have hHeld := hHeld20091; clear hHeld20091 hK20091 K20091
          have hvb := Blk.new X3_ #[.nilFunc, .nilFunc] 82
          have hb13_ := below_new X3_ (.cells #[.nilFunc, .nilFunc] 82)
          generalize hX : X3_.alloc (.cells #[.nilFunc, .nilFunc] 82) = X13_ at *
          clear hX
          have lvb : X3_.heap.size < X13_.heap.size := hvb.lt
          refine wpAnyH_ready (rs := [4]) (by kernel_rfl) (by simp) ?_
          refine AllReadyH.cons rfl (fun K20092 hK20092 => ?_) AllReadyH.nil
          go_simp
          go_wp2_with (go_at_call 49; refine (partWritestringC_any _ _ _ _ _ _).mono ?_; rintro e X14_ ⟨k0, k1, rfl, ⟨hk0, lk0⟩, ⟨⟨Tk, hk1⟩, lk1⟩, hb14_⟩)
          refine hK20092.out _ _ ?hs20092 (fun hHeld20092 => ?_)
          case hs20092 => exact ⟨hHeld.1.below hb14_, hHeld.2.below hb14_⟩
          clear hHeld
          have hHeld := hHeld20092; clear hHeld20092 hK20092 K20092
          refine wpAnyH_ready (rs := [6]) (by kernel_rfl) (by simp) ?_
          refine AllReadyH.cons rfl (fun K20093 hK20093 => ?_) AllReadyH.nil
          go_simp
          refine hK20093.out _ _ ?hs20093 (fun hHeld20093 => ?_)
          case hs20093 => exact ⟨hHeld.1.below (below_new X14_ (.cells #[Fv 74 #[ptr g0 0, ptr g1 0], Fv 75 #[ptr g0 0, ptr g1 0], Fv 69 #[ptr k0 0, ptr k1 0], Fv 70 #[ptr k0 0, ptr k1 0], Fv 93 #[ptr u0 0, ptr u1 0], Fv 94 #[ptr u0 0, ptr u1 0]] 82)), hHeld.2.below (below_new X14_ (.cells #[Fv 74 #[ptr g0 0, ptr g1 0], Fv 75 #[ptr g0 0, ptr g1 0], Fv 69 #[ptr k0 0, ptr k1 0], Fv 70 #[ptr k0 0, ptr k1 0], Fv 93 #[ptr u0 0, ptr u1 0], Fv 94 #[ptr u0 0, ptr u1 0]] 82))⟩
          clear hHeld
          have hHeld := hHeld20093; clear hHeld20093 hK20093 K20093
          have hgp := Blk.new X14_ #[Fv 74 #[ptr g0 0, ptr g1 0], Fv 75 #[ptr g0 0, ptr g1 0], Fv 69 #[ptr k0 0, ptr k1 0], Fv 70 #[ptr k0 0, ptr k1 0], Fv 93 #[ptr u0 0, ptr u1 0], Fv 94 #[ptr u0 0, ptr u1 0]] 82
          have hb15_ := below_new X14_ (.cells #[Fv 74 #[ptr g0 0, ptr g1 0], Fv 75 #[ptr g0 0, ptr g1 0], Fv 69 #[ptr k0 0, ptr k1 0], Fv 70 #[ptr k0 0, ptr k1 0], Fv 93 #[ptr u0 0, ptr u1 0], Fv 94 #[ptr u0 0, ptr u1 0]] 82)
          obtain ⟨gp, egp⟩ : ∃ g, g = X14_.heap.size := ⟨_, rfl⟩
          rw [← egp] at hgp
          have lgp : X14_.heap.size ≤ gp := Nat.le_of_eq egp.symm
          generalize hX : X14_.alloc (.cells #[Fv 74 #[ptr g0 0, ptr g1 0], Fv 75 #[ptr g0 0, ptr g1 0], Fv 69 #[ptr k0 0, ptr k1 0], Fv 70 #[ptr k0 0, ptr k1 0], Fv 93 #[ptr u0 0, ptr u1 0], Fv 94 #[ptr u0 0, ptr u1 0]] 82) = X15_ at *
          clear hX
          try rw [← egp]
          clear egp
          refine wpAnyH_ready (rs := [7]) (by kernel_rfl) (by simp) ?_
          refine AllReadyH.cons rfl (fun K20094 hK20094 => ?_) AllReadyH.nil
          go_simp
          go_wp2_with (go_at_call 48; refine (allWriteC_any _ _ _ _).mono ?_; rintro e X16_ ⟨a0, rfl, ⟨ha0, la0⟩, hb16_⟩)
          refine hK20094.out _ _ ?hs20094 (fun hHeld20094 => ?_)
          case hs20094 => exact ⟨hHeld.1.below hb16_, hHeld.2.below hb16_⟩
          clear hHeld
          have hHeld := hHeld20094; clear hHeld20094 hK20094 K20094
          have z0_ := hb1_.size
          have z1_ := hb2_.size
          have z2_ := hb3_.size
          have z3_ := hb13_.size
          have z4_ := hb14_.size
          have z5_ := hb15_.size
          have z6_ := hb16_.size
          have hvbX : Blk (X3_.heap.size) #[.nilFunc, .nilFunc] 82 X16_ := (hvb.below (Below.onto hb14_ (Below.onto hb15_ hb16_)))
          have hq0 := hvbX.cell 0
          have hq1 := hvbX.cell 1
          have hz0 := hvbX.froz 0
          have hz1 := hvbX.froz 1
          simp at hq0 hq1
          have htot : Below Xs.heap.size Xs X16_ := (Below.onto hb1_ (Below.onto hb2_ (Below.onto hb3_ (Below.onto hb13_ (Below.onto hb14_ (Below.onto hb15_ hb16_))))))
          have HW : W2B bv v0 v1 u0 u1 g0 g1 bk k0 k1 gp a0 X16_ := ⟨hbv.below htot, hv0.below htot, ⟨_, hv1.below htot⟩, ⟨_, hu0.below htot⟩, hu1.below htot, (hg0.below (Below.onto hb3_ (Below.onto hb13_ (Below.onto hb14_ (Below.onto hb15_ hb16_))))), ⟨_, (hg1.below (Below.onto hb3_ (Below.onto hb13_ (Below.onto hb14_ (Below.onto hb15_ hb16_)))))⟩, (hbk.below (Below.onto hb13_ (Below.onto hb14_ (Below.onto hb15_ hb16_)))), (hk0.below (Below.onto hb15_ hb16_)), ⟨_, (hk1.below (Below.onto hb15_ hb16_))⟩, (hgp.below hb16_), ha0⟩
          have HSS := hide hHeld
          refine wpAnyH_ready (rs := [9]) (by kernel_rfl) (by simp) ?_
          refine AllReadyH.cons rfl (fun K20095 hK20095 => ?_) AllReadyH.nil
          go_simp
          refine hK20095.out _ _ ?hs20095 (fun hHeld20095 => ?_)
          case hs20095 => exact ⟨hHeld.1.set2 (hHeld.1.ne hvbX (by simp)), hHeld.2.set2 (hHeld.2.ne hvbX (by simp))⟩
          clear hHeld
          have hHeld := hHeld20095; clear hHeld20095 hK20095 K20095
          refine wpAnyH_done (by kernel_rfl) ?_ _
          refine NoPanic.normal ?_
          skip
          exact unhide REST _ X16_ (X3_.heap.size) g0 g1 bk k0 k1 gp a0 (by rfl) htot (unhide HSS).1 HW hvbX (by omega)
      refine AllReadyH.cons rfl (fun K20096 hK20096 => ?_) AllReadyH.nil
      · go_simp
        refine hK20096.out _ _ ?hs20096 (fun hHeld20096 => ?_)
        case hs20096 => exact ⟨hHeld.1.below (below_new X2_ (.cells #[.nilFunc, .nilFunc] 82)), hHeld.2.below (below_new X2_ (.cells #[.nilFunc, .nilFunc] 82))⟩
        clear hHeld
        have hHeld := hHeld20096; clear hHeld20096 hK20096 K20096
        have hvb := Blk.new X2_ #[.nilFunc, .nilFunc] 82
        have hb17_ := below_new X2_ (.cells #[.nilFunc, .nilFunc] 82)
        generalize hX : X2_.alloc (.cells #[.nilFunc, .nilFunc] 82) = X17_ at *
        clear hX
        have lvb : X2_.heap.size < X17_.heap.size := hvb.lt
        refine wpAnyH_ready (rs := [3]) (by kernel_rfl) (by simp) ?_
        refine AllReadyH.cons rfl (fun K20097 hK20097 => ?_) AllReadyH.nil
        go_simp
        go_wp2_with (go_at_call 50; refine (textC_any _ _ _ _ _).mono ?_; rintro e X18_ ⟨bk, rfl, ⟨hbk, lbk⟩, hb18_⟩)
        refine hK20097.out _ _ ?hs20097 (fun hHeld20097 => ?_)
        case hs20097 => exact ⟨hHeld.1.below hb18_, hHeld.2.below hb18_⟩
        clear hHeld
        have hHeld := hHeld20097; clear hHeld20097 hK20097 K20097
        refine wpAnyH_ready (rs := [4]) (by kernel_rfl) (by simp) ?_
        refine AllReadyH.cons rfl (fun K20098 hK20098 => ?_) AllReadyH.nil
        go_simp
        go_wp2_with (go_at_call 49; refine (partWritestringC_any _ _ _ _ _ _).mono ?_; rintro e X19_ ⟨k0, k1, rfl, ⟨hk0, lk0⟩, ⟨⟨Tk, hk1⟩, lk1⟩, hb19_⟩)
        refine hK20098.out _ _ ?hs20098 (fun hHeld20098 => ?_)
        case hs20098 => exact ⟨hHeld.1.below hb19_, hHeld.2.below hb19_⟩
        clear hHeld
        have hHeld := hHeld20098; clear hHeld20098 hK20098 K20098
        refine wpAnyH_ready (rs := [6]) (by kernel_rfl) (by simp) ?_
        refine AllReadyH.cons rfl (fun K20099 hK20099 => ?_) AllReadyH.nil
        go_simp
        refine hK20099.out _ _ ?hs20099 (fun hHeld20099 => ?_)
        case hs20099 => exact ⟨hHeld.1.below (below_new X19_ (.cells #[Fv 74 #[ptr g0 0, ptr g1 0], Fv 75 #[ptr g0 0, ptr g1 0], Fv 69 #[ptr k0 0, ptr k1 0], Fv 70 #[ptr k0 0, ptr k1 0], Fv 93 #[ptr u0 0, ptr u1 0], Fv 94 #[ptr u0 0, ptr u1 0]] 82)), hHeld.2.below (below_new X19_ (.cells #[Fv 74 #[ptr g0 0, ptr g1 0], Fv 75 #[ptr g0 0, ptr g1 0], Fv 69 #[ptr k0 0, ptr k1 0], Fv 70 #[ptr k0 0, ptr k1 0], Fv 93 #[ptr u0 0, ptr u1 0], Fv 94 #[ptr u0 0, ptr u1 0]] 82))⟩
        clear hHeld
        have hHeld := hHeld20099; clear hHeld20099 hK20099 K20099
        have hgp := Blk.new X19_ #[Fv 74 #[ptr g0 0, ptr g1 0], Fv 75 #[ptr g0 0, ptr g1 0], Fv 69 #[ptr k0 0, ptr k1 0], Fv 70 #[ptr k0 0, ptr k1 0], Fv 93 #[ptr u0 0, ptr u1 0], Fv 94 #[ptr u0 0, ptr u1 0]] 82
        have hb20_ := below_new X19_ (.cells #[Fv 74 #[ptr g0 0, ptr g1 0], Fv 75 #[ptr g0 0, ptr g1 0], Fv 69 #[ptr k0 0, ptr k1 0], Fv 70 #[ptr k0 0, ptr k1 0], Fv 93 #[ptr u0 0, ptr u1 0], Fv 94 #[ptr u0 0, ptr u1 0]] 82)
        obtain ⟨gp, egp⟩ : ∃ g, g = X19_.heap.size := ⟨_, rfl⟩
        rw [← egp] at hgp
        have lgp : X19_.heap.size ≤ gp := Nat.le_of_eq egp.symm
        generalize hX : X19_.alloc (.cells #[Fv 74 #[ptr g0 0, ptr g1 0], Fv 75 #[ptr g0 0, ptr g1 0], Fv 69 #[ptr k0 0, ptr k1 0], Fv 70 #[ptr k0 0, ptr k1 0], Fv 93 #[ptr u0 0, ptr u1 0], Fv 94 #[ptr u0 0, ptr u1 0]] 82) = X20_ at *
        clear hX
        try rw [← egp]
        clear egp
        refine wpAnyH_ready (rs := [7]) (by kernel_rfl) (by simp) ?_
        refine AllReadyH.cons rfl (fun K20100 hK20100 => ?_) AllReadyH.nil
        go_simp
        go_wp2_with (go_at_call 48; refine (allWriteC_any _ _ _ _).mono ?_; rintro e X21_ ⟨a0, rfl, ⟨ha0, la0⟩, hb21_⟩)
        refine hK20100.out _ _ ?hs20100 (fun hHeld20100 => ?_)
        case hs20100 => exact ⟨hHeld.1.below hb21_, hHeld.2.below hb21_⟩
        clear hHeld
        have hHeld := hHeld20100; clear hHeld20100 hK20100 K20100
        have z0_ := hb1_.size
        have z1_ := hb2_.size
        have z2_ := hb17_.size
        have z3_ := hb18_.size
        have z4_ := hb19_.size
        have z5_ := hb20_.size
        have z6_ := hb21_.size
        have hvbX : Blk (X2_.heap.size) #[.nilFunc, .nilFunc] 82 X21_ := (hvb.below (Below.onto hb18_ (Below.onto hb19_ (Below.onto hb20_ hb21_))))
        have hq0 := hvbX.cell 0
        have hq1 := hvbX.cell 1
        have hz0 := hvbX.froz 0
        have hz1 := hvbX.froz 1
        simp at hq0 hq1
        have htot : Below Xs.heap.size Xs X21_ := (Below.onto hb1_ (Below.onto hb2_ (Below.onto hb17_ (Below.onto hb18_ (Below.onto hb19_ (Below.onto hb20_ hb21_))))))
        have HW : W2B bv v0 v1 u0 u1 g0 g1 bk k0 k1 gp a0 X21_ := ⟨hbv.below htot, hv0.below htot, ⟨_, hv1.below htot⟩, ⟨_, hu0.below htot⟩, hu1.below htot, (hg0.below (Below.onto hb17_ (Below.onto hb18_ (Below.onto hb19_ (Below.onto hb20_ hb21_))))), ⟨_, (hg1.below (Below.onto hb17_ (Below.onto hb18_ (Below.onto hb19_ (Below.onto hb20_ hb21_)))))⟩, (hbk.below (Below.onto hb19_ (Below.onto hb20_ hb21_))), (hk0.below (Below.onto hb20_ hb21_)), ⟨_, (hk1.below (Below.onto hb20_ hb21_))⟩, (hgp.below hb21_), ha0⟩
        have HSS := hide hHeld
        refine wpAnyH_ready (rs := [9]) (by kernel_rfl) (by simp) ?_
        refine AllReadyH.cons rfl (fun K20101 hK20101 => ?_) AllReadyH.nil
        go_simp
        refine hK20101.out _ _ ?hs20101 (fun hHeld20101 => ?_)
        case hs20101 => exact ⟨hHeld.1.set2 (hHeld.1.ne hvbX (by simp)), hHeld.2.set2 (hHeld.2.ne hvbX (by simp))⟩
        clear hHeld
        have hHeld := hHeld20101; clear hHeld20101 hK20101 K20101
        refine wpAnyH_done (by kernel_rfl) ?_ _
        refine NoPanic.normal ?_
        skip
        exact unhide REST _ X21_ (X2_.heap.size) g0 g1 bk k0 k1 gp a0 (by rfl) htot (unhide HSS).1 HW hvbX (by omega)
    refine AllReadyH.cons rfl (fun K20102 hK20102 => ?_) AllReadyH.nil
    · go_simp
      refine hK20102.out _ _ ?hs20102 (fun hHeld20102 => ?_)
      case hs20102 => exact ⟨hHeld.1.below (below_new X1_ (.cells #[.nilFunc, .nilFunc] 82)), hHeld.2.below (below_new X1_ (.cells #[.nilFunc, .nilFunc] 82))⟩
      clear hHeld
      have hHeld := hHeld20102; clear hHeld20102 hK20102 K20102
      have hvb := Blk.new X1_ #[.nilFunc, .nilFunc] 82
      have hb22_ := below_new X1_ (.cells #[.nilFunc, .nilFunc] 82)
      generalize hX : X1_.alloc (.cells #[.nilFunc, .nilFunc] 82) = X22_ at *
      clear hX
      have lvb : X1_.heap.size < X22_.heap.size := hvb.lt
      refine wpAnyH_ready (rs := [1]) (by kernel_rfl) (by simp) ?_
      refine AllReadyH.cons rfl (fun K20103 hK20103 => ?_) AllReadyH.nil
      go_simp
      go_wp2_with (go_at_call 53; refine (partWriteboolC_any _ _ _ _ _ _).mono ?_; rintro e X23_ ⟨g0, g1, rfl, ⟨hg0, lg0⟩, ⟨⟨Tg, hg1⟩, lg1⟩, hb23_⟩)
      refine hK20103.out _ _ ?hs20103 (fun hHeld20103 => ?_)
      case hs20103 => exact ⟨hHeld.1.below hb23_, hHeld.2.below hb23_⟩
      clear hHeld
      have hHeld := hHeld20103; clear hHeld20103 hK20103 K20103
      refine wpAnyH_ready (rs := [3]) (by kernel_rfl) (by simp) ?_
      refine AllReadyH.cons rfl (fun K20104 hK20104 => ?_) AllReadyH.nil
      go_simp
      go_wp2_with (go_at_call 50; refine (textC_any _ _ _ _ _).mono ?_; rintro e X24_ ⟨bk, rfl, ⟨hbk, lbk⟩, hb24_⟩)
      refine hK20104.out _ _ ?hs20104 (fun hHeld20104 => ?_)
      case hs20104 => exact ⟨hHeld.1.below hb24_, hHeld.2.below hb24_⟩
      clear hHeld
      have hHeld := hHeld20104; clear hHeld20104 hK20104 K20104
      refine wpAnyH_ready (rs := [4]) (by kernel_rfl) (by simp) ?_
      refine AllReadyH.cons rfl (fun K20105 hK20105 => ?_) AllReadyH.nil
      go_simp
      go_wp2_with (go_at_call 49; refine (partWritestringC_any _ _ _ _ _ _).mono ?_; rintro e X25_ ⟨k0, k1, rfl, ⟨hk0, lk0⟩, ⟨⟨Tk, hk1⟩, lk1⟩, hb25_⟩)
      refine hK20105.out _ _ ?hs20105 (fun hHeld20105 => ?_)
      case hs20105 => exact ⟨hHeld.1.below hb25_, hHeld.2.below hb25_⟩
      clear hHeld
      have hHeld := hHeld20105; clear hHeld20105 hK20105 K20105
      refine wpAnyH_ready (rs := [6]) (by kernel_rfl) (by simp) ?_
      refine AllReadyH.cons rfl (fun K20106 hK20106 => ?_) AllReadyH.nil
      go_simp
      refine hK20106.out _ _ ?hs20106 (fun hHeld20106 => ?_)
      case hs20106 => exact ⟨hHeld.1.below (below_new X25_ (.cells #[Fv 74 #[ptr g0 0, ptr g1 0], Fv 75 #[ptr g0 0, ptr g1 0], Fv 69 #[ptr k0 0, ptr k1 0], Fv 70 #[ptr k0 0, ptr k1 0], Fv 93 #[ptr u0 0, ptr u1 0], Fv 94 #[ptr u0 0, ptr u1 0]] 82)), hHeld.2.below (below_new X25_ (.cells #[Fv 74 #[ptr g0 0, ptr g1 0], Fv 75 #[ptr g0 0, ptr g1 0], Fv 69 #[ptr k0 0, ptr k1 0], Fv 70 #[ptr k0 0, ptr k1 0], Fv 93 #[ptr u0 0, ptr u1 0], Fv 94 #[ptr u0 0, ptr u1 0]] 82))⟩
      clear hHeld
      have hHeld := hHeld20106; clear hHeld20106 hK20106 K20106
      have hgp := Blk.new X25_ #[Fv 74 #[ptr g0 0, ptr g1 0], Fv 75 #[ptr g0 0, ptr g1 0], Fv 69 #[ptr k0 0, ptr k1 0], Fv 70 #[ptr k0 0, ptr k1 0], Fv 93 #[ptr u0 0, ptr u1 0], Fv 94 #[ptr u0 0, ptr u1 0]] 82
      have hb26_ := below_new X25_ (.cells #[Fv 74 #[ptr g0 0, ptr g1 0], Fv 75 #[ptr g0 0, ptr g1 0], Fv 69 #[ptr k0 0, ptr k1 0], Fv 70 #[ptr k0 0, ptr k1 0], Fv 93 #[ptr u0 0, ptr u1 0], Fv 94 #[ptr u0 0, ptr u1 0]] 82)
      obtain ⟨gp, egp⟩ : ∃ g, g = X25_.heap.size := ⟨_, rfl⟩
      rw [← egp] at hgp
      have lgp : X25_.heap.size ≤ gp := Nat.le_of_eq egp.symm
      generalize hX : X25_.alloc (.cells #[Fv 74 #[ptr g0 0, ptr g1 0], Fv 75 #[ptr g0 0, ptr g1 0], Fv 69 #[ptr k0 0, ptr k1 0], Fv 70 #[ptr k0 0, ptr k1 0], Fv 93 #[ptr u0 0, ptr u1 0], Fv 94 #[ptr u0 0, ptr u1 0]] 82) = X26_ at *
      clear hX
      try rw [← egp]
      clear egp
      refine wpAnyH_ready (rs := [7]) (by kernel_rfl) (by simp) ?_
      refine AllReadyH.cons rfl (fun K20107 hK20107 => ?_) AllReadyH.nil
      go_simp
      go_wp2_with (go_at_call 48; refine (allWriteC_any _ _ _ _).mono ?_; rintro e X27_ ⟨a0, rfl, ⟨ha0, la0⟩, hb27_⟩)
      refine hK20107.out _ _ ?hs20107 (fun hHeld20107 => ?_)
      case hs20107 => exact ⟨hHeld.1.below hb27_, hHeld.2.below hb27_⟩
      clear hHeld
      have hHeld := hHeld20107; clear hHeld20107 hK20107 K20107
      have z0_ := hb1_.size
      have z1_ := hb22_.size
      have z2_ := hb23_.size
      have z3_ := hb24_.size
      have z4_ := hb25_.size
      have z5_ := hb26_.size
      have z6_ := hb27_.size
      have hvbX : Blk (X1_.heap.size) #[.nilFunc, .nilFunc] 82 X27_ := (hvb.below (Below.onto hb23_ (Below.onto hb24_ (Below.onto hb25_ (Below.onto hb26_ hb27_)))))
      have hq0 := hvbX.cell 0
      have hq1 := hvbX.cell 1
      have hz0 := hvbX.froz 0
      have hz1 := hvbX.froz 1
      simp at hq0 hq1
      have htot : Below Xs.heap.size Xs X27_ := (Below.onto hb1_ (Below.onto hb22_ (Below.onto hb23_ (Below.onto hb24_ (Below.onto hb25_ (Below.onto hb26_ hb27_))))))
      have HW : W2B bv v0 v1 u0 u1 g0 g1 bk k0 k1 gp a0 X27_ := ⟨hbv.below htot, hv0.below htot, ⟨_, hv1.below htot⟩, ⟨_, hu0.below htot⟩, hu1.below htot, (hg0.below (Below.onto hb24_ (Below.onto hb25_ (Below.onto hb26_ hb27_)))), ⟨_, (hg1.below (Below.onto hb24_ (Below.onto hb25_ (Below.onto hb26_ hb27_))))⟩, (hbk.below (Below.onto hb25_ (Below.onto hb26_ hb27_))), (hk0.below (Below.onto hb26_ hb27_)), ⟨_, (hk1.below (Below.onto hb26_ hb27_))⟩, (hgp.below hb27_), ha0⟩
      have HSS := hide hHeld
      refine wpAnyH_ready (rs := [9]) (by kernel_rfl) (by simp) ?_
      refine AllReadyH.cons rfl (fun K20108 hK20108 => ?_) AllReadyH.nil
      go_simp
      refine hK20108.out _ _ ?hs20108 (fun hHeld20108 => ?_)
      case hs20108 => exact ⟨hHeld.1.set2 (hHeld.1.ne hvbX (by simp)), hHeld.2.set2 (hHeld.2.ne hvbX (by simp))⟩
      clear hHeld
      have hHeld := hHeld20108; clear hHeld20108 hK20108 K20108
      refine wpAnyH_done (by kernel_rfl) ?_ _
      refine NoPanic.normal ?_
      skip
      exact unhide REST _ X27_ (X1_.heap.size) g0 g1 bk k0 k1 gp a0 (by rfl) htot (unhide HSS).1 HW hvbX (by omega)
  refine AllReadyH.cons rfl (fun K20109 hK20109 => ?_) AllReadyH.nil
  · go_simp
    refine hK20109.out _ _ ?hs20109 (fun hHeld20109 => ?_)
    case hs20109 => exact ⟨hHeld.1.below (below_new Xs (.cells #[.nilFunc, .nilFunc] 82)), hHeld.2.below (below_new Xs (.cells #[.nilFunc, .nilFunc] 82))⟩
    clear hHeld
    have hHeld := hHeld20109; clear hHeld20109 hK20109 K20109
    have hvb := Blk.new Xs #[.nilFunc, .nilFunc] 82
    have hb28_ := below_new Xs (.cells #[.nilFunc, .nilFunc] 82)
    generalize hX : Xs.alloc (.cells #[.nilFunc, .nilFunc] 82) = X28_ at *
    clear hX
    have lvb : Xs.heap.size < X28_.heap.size := hvb.lt
    refine wpAnyH_ready (rs := [0]) (by kernel_rfl) (by simp) ?_
    refine AllReadyH.cons rfl (fun K20110 hK20110 => ?_) AllReadyH.nil
    go_simp
    go_wp2_with (go_at_call 54; refine (flagC_any _).mono ?_; rintro e X29_ ⟨rfl, hb29_⟩)
    refine hK20110.out _ _ ?hs20110 (fun hHeld20110 => ?_)
    case hs20110 => exact ⟨hHeld.1.below hb29_, hHeld.2.below hb29_⟩
    clear hHeld
    have hHeld := hHeld20110; clear hHeld20110 hK20110 K20110
    refine wpAnyH_ready (rs := [1]) (by kernel_rfl) (by simp) ?_
    refine AllReadyH.cons rfl (fun K20111 hK20111 => ?_) AllReadyH.nil
    go_simp
    go_wp2_with (go_at_call 53; refine (partWriteboolC_any _ _ _ _ _ _).mono ?_; rintro e X30_ ⟨g0, g1, rfl, ⟨hg0, lg0⟩, ⟨⟨Tg, hg1⟩, lg1⟩, hb30_⟩)
    refine hK20111.out _ _ ?hs20111 (fun hHeld20111 => ?_)
    case hs20111 => exact ⟨hHeld.1.below hb30_, hHeld.2.below hb30_⟩
    clear hHeld
    have hHeld := hHeld20111; clear hHeld20111 hK20111 K20111
    refine wpAnyH_ready (rs := [3]) (by kernel_rfl) (by simp) ?_
    refine AllReadyH.cons rfl (fun K20112 hK20112 => ?_) AllReadyH.nil
    go_simp
    go_wp2_with (go_at_call 50; refine (textC_any _ _ _ _ _).mono ?_; rintro e X31_ ⟨bk, rfl, ⟨hbk, lbk⟩, hb31_⟩)
    refine hK20112.out _ _ ?hs20112 (fun hHeld20112 => ?_)
    case hs20112 => exact ⟨hHeld.1.below hb31_, hHeld.2.below hb31_⟩
    clear hHeld
    have hHeld := hHeld20112; clear hHeld20112 hK20112 K20112
    refine wpAnyH_ready (rs := [4]) (by kernel_rfl) (by simp) ?_
    refine AllReadyH.cons rfl (fun K20113 hK20113 => ?_) AllReadyH.nil
    go_simp
    go_wp2_with (go_at_call 49; refine (partWritestringC_any _ _ _ _ _ _).mono ?_; rintro e X32_ ⟨k0, k1, rfl, ⟨hk0, lk0⟩, ⟨⟨Tk, hk1⟩, lk1⟩, hb32_⟩)
    refine hK20113.out _ _ ?hs20113 (fun hHeld20113 => ?_)
    case hs20113 => exact ⟨hHeld.1.below hb32_, hHeld.2.below hb32_⟩
    clear hHeld
    have hHeld := hHeld20113; clear hHeld20113 hK20113 K20113
    refine wpAnyH_ready (rs := [6]) (by kernel_rfl) (by simp) ?_
    refine AllReadyH.cons rfl (fun K20114 hK20114 => ?_) AllReadyH.nil
    go_simp
    refine hK20114.out _ _ ?hs20114 (fun hHeld20114 => ?_)
    case hs20114 => exact ⟨hHeld.1.below (below_new X32_ (.cells #[Fv 74 #[ptr g0 0, ptr g1 0], Fv 75 #[ptr g0 0, ptr g1 0], Fv 69 #[ptr k0 0, ptr k1 0], Fv 70 #[ptr k0 0, ptr k1 0], Fv 93 #[ptr u0 0, ptr u1 0], Fv 94 #[ptr u0 0, ptr u1 0]] 82)), hHeld.2.below (below_new X32_ (.cells #[Fv 74 #[ptr g0 0, ptr g1 0], Fv 75 #[ptr g0 0, ptr g1 0], Fv 69 #[ptr k0 0, ptr k1 0], Fv 70 #[ptr k0 0, ptr k1 0], Fv 93 #[ptr u0 0, ptr u1 0], Fv 94 #[ptr u0 0, ptr u1 0]] 82))⟩
    clear hHeld
    have hHeld := hHeld20114; clear hHeld20114 hK20114 K20114
    have hgp := Blk.new X32_ #[Fv 74 #[ptr g0 0, ptr g1 0], Fv 75 #[ptr g0 0, ptr g1 0], Fv 69 #[ptr k0 0, ptr k1 0], Fv 70 #[ptr k0 0, ptr k1 0], Fv 93 #[ptr u0 0, ptr u1 0], Fv 94 #[ptr u0 0, ptr u1 0]] 82
    have hb33_ := below_new X32_ (.cells #[Fv 74 #[ptr g0 0, ptr g1 0], Fv 75 #[ptr g0 0, ptr g1 0], Fv 69 #[ptr k0 0, ptr k1 0], Fv 70 #[ptr k0 0, ptr k1 0], Fv 93 #[ptr u0 0, ptr u1 0], Fv 94 #[ptr u0 0, ptr u1 0]] 82)
    obtain ⟨gp, egp⟩ : ∃ g, g = X32_.heap.size := ⟨_, rfl⟩
    rw [← egp] at hgp
    have lgp : X32_.heap.size ≤ gp := Nat.le_of_eq egp.symm
    generalize hX : X32_.alloc (.cells #[Fv 74 #[ptr g0 0, ptr g1 0], Fv 75 #[ptr g0 0, ptr g1 0], Fv 69 #[ptr k0 0, ptr k1 0], Fv 70 #[ptr k0 0, ptr k1 0], Fv 93 #[ptr u0 0, ptr u1 0], Fv 94 #[ptr u0 0, ptr u1 0]] 82) = X33_ at *
    clear hX
    try rw [← egp]
    clear egp
    refine wpAnyH_ready (rs := [7]) (by kernel_rfl) (by simp) ?_
    refine AllReadyH.cons rfl (fun K20115 hK20115 => ?_) AllReadyH.nil
    go_simp
    go_wp2_with (go_at_call 48; refine (allWriteC_any _ _ _ _).mono ?_; rintro e X34_ ⟨a0, rfl, ⟨ha0, la0⟩, hb34_⟩)
    refine hK20115.out _ _ ?hs20115 (fun hHeld20115 => ?_)
    case hs20115 => exact ⟨hHeld.1.below hb34_, hHeld.2.below hb34_⟩
    clear hHeld
    have hHeld := hHeld20115; clear hHeld20115 hK20115 K20115
    have z0_ := hb28_.size
    have z1_ := hb29_.size
    have z2_ := hb30_.size
    have z3_ := hb31_.size
    have z4_ := hb32_.size
    have z5_ := hb33_.size
    have z6_ := hb34_.size
    have hvbX : Blk (Xs.heap.size) #[.nilFunc, .nilFunc] 82 X34_ := (hvb.below (Below.onto hb29_ (Below.onto hb30_ (Below.onto hb31_ (Below.onto hb32_ (Below.onto hb33_ hb34_))))))
    have hq0 := hvbX.cell 0
    have hq1 := hvbX.cell 1
    have hz0 := hvbX.froz 0
    have hz1 := hvbX.froz 1
    simp at hq0 hq1
    have htot : Below Xs.heap.size Xs X34_ := (Below.onto hb28_ (Below.onto hb29_ (Below.onto hb30_ (Below.onto hb31_ (Below.onto hb32_ (Below.onto hb33_ hb34_))))))
    have HW : W2B bv v0 v1 u0 u1 g0 g1 bk k0 k1 gp a0 X34_ := ⟨hbv.below htot, hv0.below htot, ⟨_, hv1.below htot⟩, ⟨_, hu0.below htot⟩, hu1.below htot, (hg0.below (Below.onto hb31_ (Below.onto hb32_ (Below.onto hb33_ hb34_)))), ⟨_, (hg1.below (Below.onto hb31_ (Below.onto hb32_ (Below.onto hb33_ hb34_))))⟩, (hbk.below (Below.onto hb32_ (Below.onto hb33_ hb34_))), (hk0.below (Below.onto hb33_ hb34_)), ⟨_, (hk1.below (Below.onto hb33_ hb34_))⟩, (hgp.below hb34_), ha0⟩
    have HSS := hide hHeld
    refine wpAnyH_ready (rs := [9]) (by kernel_rfl) (by simp) ?_
    refine AllReadyH.cons rfl (fun K20116 hK20116 => ?_) AllReadyH.nil
    go_simp
    refine hK20116.out _ _ ?hs20116 (fun hHeld20116 => ?_)
    case hs20116 => exact ⟨hHeld.1.set2 (hHeld.1.ne hvbX (by simp)), hHeld.2.set2 (hHeld.2.ne hvbX (by simp))⟩
    clear hHeld
    have hHeld := hHeld20116; clear hHeld20116 hK20116 K20116
    refine wpAnyH_done (by kernel_rfl) ?_ _
    refine NoPanic.normal ?_
    skip
    exact unhide REST _ X34_ (Xs.heap.size) g0 g1 bk k0 k1 gp a0 (by rfl) htot (unhide HSS).1 HW hvbX (by omega)
end Go.Proofs.Ytjmmfgmmmdbenaa
