/-
  Package cmd's layout of form 1.
-/
import Derived.Test.YtjmmfgmmmdbenaaCH
import Derived.Test.YtjmmfgmmmdbenaaCO
namespace Go.Proofs.Ytjmmfgmmmdbenaa
open Go.RowKit
set_option linter.unusedSimpArgs false
set_option linter.unusedVariables false

theorem Blk.ne {b b' : Nat} {cs cs' : Array Value} {T T' : TypeId} {W : World} (h : Blk b cs T W) (h' : Blk b' cs' T' W) (hne : cs ≠ cs') : b ≠ b' := by
  rintro rfl
  apply hne
  have e := h.symm.trans h'
  injection e with e
  injection e with e1 e2 e3
theorem W1B.sf {szb bk k0 k1 bv v0 v1 g0 g1 gp a0 : Nat} {n : Nat} {w W : World} (h : W1B szb bk k0 k1 bv v0 v1 g0 g1 gp a0 w) (hl : n ≤ szb ∧ n ≤ bk ∧ n ≤ k0 ∧ n ≤ k1 ∧ n ≤ bv ∧ n ≤ v0 ∧ n ≤ v1 ∧ n ≤ g0 ∧ n ≤ g1 ∧ n ≤ gp ∧ n ≤ a0) (hs : SameFrom n w W) : W1B szb bk k0 k1 bv v0 v1 g0 g1 gp a0 W := by
  obtain ⟨Thk1, hhk1⟩ := h.hk1
  obtain ⟨Thv1, hhv1⟩ := h.hv1
  obtain ⟨Thg1, hhg1⟩ := h.hg1
  exact ⟨h.hsz.sf (by omega) hs, h.hbk.sf (by omega) hs, h.hk0.sf (by omega) hs, ⟨_, hhk1.sf (by omega) hs⟩, h.hbv.sf (by omega) hs, h.hv0.sf (by omega) hs, ⟨_, hhv1.sf (by omega) hs⟩, h.hg0.sf (by omega) hs, ⟨_, hhg1.sf (by omega) hs⟩, h.hgp.sf (by omega) hs, h.ha0.sf (by omega) hs⟩
theorem W1B.set2 {szb bk k0 k1 bv v0 v1 g0 g1 gp a0 : Nat} {vb : Nat} {x y : Value} {T : TypeId} {W : World} (h : W1B szb bk k0 k1 bv v0 v1 g0 g1 gp a0 W) (hv : Blk vb #[.nilFunc, .nilFunc] T W) : W1B szb bk k0 k1 bv v0 v1 g0 g1 gp a0 ((W.setCell ⟨vb, 0, none⟩ x).setCell ⟨vb, 1, none⟩ y) := by
  obtain ⟨Thk1, hhk1⟩ := h.hk1
  obtain ⟨Thv1, hhv1⟩ := h.hv1
  obtain ⟨Thg1, hhg1⟩ := h.hg1
  exact ⟨h.hsz.set2 (h.hsz.ne hv (by simp)), h.hbk.set2 (h.hbk.ne hv (by simp)), h.hk0.set2 (h.hk0.ne hv (by simp)), ⟨_, hhk1.set2 (hhk1.ne hv (by simp))⟩, h.hbv.set2 (h.hbv.ne hv (by simp)), h.hv0.set2 (h.hv0.ne hv (by simp)), ⟨_, hhv1.set2 (hhv1.ne hv (by simp))⟩, h.hg0.set2 (h.hg0.ne hv (by simp)), ⟨_, hhg1.set2 (hhg1.ne hv (by simp))⟩, h.hgp.set2 (h.hgp.ne hv (by simp)), h.ha0.set2 (h.ha0.ne hv (by simp))⟩

/-- what form 1's blocks are, behind all -/
structure L1B (n : Nat) (Kh Kg : FuncId) (ph pg : Array Value) (szb al l0 l1 w0_ w1_ gp2 a1 : Nat) (W : World) : Prop where
  hsz : Blk szb #[.int .i64 2] 3 W
  hl0 : Blk l0 #[Fv 65 #[ptr szb 0], Fv 66 #[ptr szb 0]] 77 W
  hl1 : Blk l1 #[Fv 67 #[ptr al 0], Fv 68 #[ptr al 0]] 82 W
  hw0 : Blk w0_ #[Fv 89 #[ptr l0 0, ptr l1 0], Fv 90 #[ptr l0 0, ptr l1 0]] 104 W
  hw1 : ∃ T, Blk w1_ #[Fv 60 #[]] T W
  hgp : Blk gp2 #[Fv Kh ph, Fv Kg pg, Fv 87 #[ptr w0_ 0, ptr w1_ 0], Fv 88 #[ptr w0_ 0, ptr w1_ 0]] 52 W
  ha1 : Blk a1 #[.slice (some ⟨gp2, 0, none⟩) 2 2] 118 W
theorem L1B.sf {n0 : Nat} {Kh Kg : FuncId} {ph pg : Array Value} {szb al l0 l1 w0_ w1_ gp2 a1 : Nat} {n : Nat} {w W : World} (h : L1B n0 Kh Kg ph pg szb al l0 l1 w0_ w1_ gp2 a1 w) (hl : n ≤ szb ∧ n ≤ l0 ∧ n ≤ l1 ∧ n ≤ w0_ ∧ n ≤ w1_ ∧ n ≤ gp2 ∧ n ≤ a1) (hs : SameFrom n w W) : L1B n0 Kh Kg ph pg szb al l0 l1 w0_ w1_ gp2 a1 W := by
  obtain ⟨Thw1, hhw1⟩ := h.hw1
  exact ⟨h.hsz.sf (by omega) hs, h.hl0.sf (by omega) hs, h.hl1.sf (by omega) hs, h.hw0.sf (by omega) hs, ⟨_, hhw1.sf (by omega) hs⟩, h.hgp.sf (by omega) hs, h.ha1.sf (by omega) hs⟩
abbrev DP (c : Cm) : Prop := Is64 c.kind ∧ Is64 c.id ∧ Is64 c.txn ∧ c.ws.length ≤ 1000000 ∧ ∀ w ∈ c.ws, DWp w
abbrev DT1 (c : Cm) : Prop := (0 ≤ c.kind ∧ c.kind < 256) ∧ QS c.id ∧ QS c.txn ∧ c.ws.length ≤ 1000 ∧ ∀ w ∈ c.ws, DWt w
abbrev C1Q (c : Cm) : Prop := QF 1 c.kind ∧ QF 8 c.id ∧ QF 8 c.txn ∧ (c.ws.length ≤ 1000 ∧ ∀ w ∈ c.ws, J1 3 w) ∧ c.text = E0
abbrev C1M (c d : Cm) : Prop := c.kind = d.kind ∧ c.id = d.id ∧ c.txn = d.txn ∧ c.com = d.com ∧ c.ws = d.ws
theorem enc1_is (c : Cm) : headF 49 (fx 8) c ++ (fx 2 (c.ws.length : Int) ++ c.ws.flatMap wr1) = enc1 c := by simp [headF, enc1, ls, fx2]
theorem L1B.puts {n : Nat} {Kh Kg : FuncId} {ph pg : Array Value} {szb al l0 l1 w0_ w1_ gp2 a1 : Nat} {W : World} (h : L1B n Kh Kg ph pg szb al l0 l1 w0_ w1_ gp2 a1 W) (hH : Puts (Fv Kh ph) W layCm (fun c => Is64 c.kind ∧ Is64 c.id ∧ Is64 c.txn) (headF 49 (fx 8))) (hG : IsFn (Fv Kg pg))
    (hA : Puts (Fv 67 #[ptr al 0]) W layW DWp wr1) : Puts (Fv 78 #[ptr a1 0]) W layCm DP enc1 := by
  obtain ⟨Tw, hw1⟩ := h.hw1
  refine (allCmdPuts layCm [⟨Fv Kh ph, Fv Kg pg, fun c => Is64 c.kind ∧ Is64 c.id ∧ Is64 c.txn, headF 49 (fx 8)⟩, ⟨Fv 87 #[ptr w0_ 0, ptr w1_ 0], Fv 88 #[ptr w0_ 0, ptr w1_ 0], fun c => Is64 c.ws.length ∧ c.ws.length ≤ 1000000 ∧ ∀ w ∈ c.ws, DWp w, fun c => fx 2 (c.ws.length : Int) ++ c.ws.flatMap wr1⟩] a1 gp2 2 52 W ?_ ?_ (by simp) (h.ha1.cell 0) h.hgp).imp (fun c hc => ⟨?_, ?_⟩)
  · intro p hp2
    simp only [List.mem_cons, List.not_mem_nil, or_false] at hp2
    rcases hp2 with rfl | rfl
    · exact hH
    · exact cWsPuts _ _ _ _ _ _ W (fun ws => Is64 ws.length ∧ ws.length ≤ 1000000 ∧ ∀ w ∈ ws, DWp w) (fun ws => fx 2 (ws.length : Int) ++ ws.flatMap wr1) (listPuts _ _ _ _ l0 l1 W Is64 (fx 2) DWp wr1 (fixPuts 2 szb W (by omega) (h.hsz.cell 0)) hA h.hl0 h.hl1) h.hw0 hw1
  · intro p hp2
    simp only [List.mem_cons, List.not_mem_nil, or_false] at hp2
    rcases hp2 with rfl | rfl
    · exact hG
    · exact ⟨_, _, rfl⟩
  · intro p hp2
    simp only [List.mem_cons, List.not_mem_nil, or_false] at hp2
    rcases hp2 with rfl | rfl
    · exact ⟨hc.1, hc.2.1, hc.2.2.1⟩
    · exact ⟨by have := hc.2.2.2.1; unfold Is64; omega, hc.2.2.2.1, hc.2.2.2.2⟩
  · rw [← enc1_is]; simp [allF]
theorem L1B.takes {n : Nat} {Kh Kg : FuncId} {ph pg : Array Value} {szb al l0 l1 w0_ w1_ gp2 a1 : Nat} {W : World} (h : L1B n Kh Kg ph pg szb al l0 l1 w0_ w1_ gp2 a1 W) (hH : IsFn (Fv Kh ph)) (hG : Takes (Fv Kg pg) W layTCm (HI (QF 8) 0) (HI (QF 8) 5) (fun c => (0 ≤ c.kind ∧ c.kind < 256) ∧ (0 ≤ c.id ∧ c.id < 2 ^ (8 * 8) ∧ c.id ≤ 9223372036854775807) ∧ (0 ≤ c.txn ∧ c.txn < 2 ^ (8 * 8) ∧ c.txn ≤ 9223372036854775807)) (headF 49 (fx 8)) (HM 0) (HM 5))
    (hA : Takes (Fv 68 #[ptr al 0]) W layTW (J1 0) (J1 3) DWt wr1 (N1 0) (N1 3)) : Takes (Fv 79 #[ptr a1 0]) W layTCm (fun c => c = zC) C1Q DT1 enc1 (fun _ _ => True) C1M := by
  obtain ⟨Tw, hw1⟩ := h.hw1
  refine (allCmdTakes layTCm [⟨Fv Kh ph, Fv Kg pg, fun c => (0 ≤ c.kind ∧ c.kind < 256) ∧ (0 ≤ c.id ∧ c.id < 2 ^ (8 * 8) ∧ c.id ≤ 9223372036854775807) ∧ (0 ≤ c.txn ∧ c.txn < 2 ^ (8 * 8) ∧ c.txn ≤ 9223372036854775807), headF 49 (fx 8)⟩, ⟨Fv 87 #[ptr w0_ 0, ptr w1_ 0], Fv 88 #[ptr w0_ 0, ptr w1_ 0], fun c => (0 ≤ (c.ws.length : Int) ∧ (c.ws.length : Int) < 2 ^ (8 * 2) ∧ (c.ws.length : Int) ≤ 9223372036854775807) ∧ c.ws.length ≤ 1000 ∧ ∀ w ∈ c.ws, DWt w, fun c => fx 2 (c.ws.length : Int) ++ c.ws.flatMap wr1⟩]
      (fun i => match i with | 0 => HI (QF 8) 0 | 1 => HI (QF 8) 5 | _ => C1Q) (fun i => match i with | 0 => HM 0 | 1 => HM 5 | _ => C1M) a1 gp2 2 52 W ?_ ?_ (by simp) (h.ha1.cell 0) h.hgp).imp (fun c hc => ⟨?_, ?_⟩) (fun _ h => h) (fun _ h => h) (fun _ _ h => h) (fun _ _ h => h)
  · intro i hi
    match i, hi with
    | 0, _ => exact hG
    | 1, _ => exact cWsTakes _ _ _ _ _ _ W (HI (QF 8) 5) C1Q (fun c => (0 ≤ (c.ws.length : Int) ∧ (c.ws.length : Int) < 2 ^ (8 * 2) ∧ (c.ws.length : Int) ≤ 9223372036854775807) ∧ c.ws.length ≤ 1000 ∧ ∀ w ∈ c.ws, DWt w) (fun ws => ws.length ≤ 1000 ∧ ∀ w ∈ ws, J1 3 w) (fun ws => (0 ≤ (ws.length : Int) ∧ (ws.length : Int) < 2 ^ (8 * 2) ∧ (ws.length : Int) ≤ 9223372036854775807) ∧ ws.length ≤ 1000 ∧ ∀ w ∈ ws, DWt w) (fun ws => fx 2 (ws.length : Int) ++ ws.flatMap wr1) (HM 5) C1M (fun x hx => hx.2.2.2.1) (fun x y hx hy => ⟨hx.1, hx.2.1, hx.2.2.1, hy, hx.2.2.2.2⟩) (fun x hx => hx) (fun x xt hx => ⟨hx.1, hx.2.1, hx.2.2.1, hx.2.2.2, rfl⟩) (listTakes _ _ _ _ l0 l1 W (QF 2) _ (fx 2) (fun y hy => by have := hy.2 (by omega); omega) (J1 0) (J1 3) DWt wr1 (N1 0) (N1 3) (fixTakes 2 szb W (by omega) (h.hsz.cell 0)) hA rfl (fun _ _ => trivial) (fun _ _ h => h) h.hl0 h.hl1) h.hw0 hw1
  · intro p hp2
    simp only [List.mem_cons, List.not_mem_nil, or_false] at hp2
    rcases hp2 with rfl | rfl
    · exact hH
    · exact ⟨_, _, rfl⟩
  · intro p hp2
    simp only [List.mem_cons, List.not_mem_nil, or_false] at hp2
    have p8 : (2 : Int) ^ (8 * 8) = 18446744073709551616 := by decide
    have p2 : (2 : Int) ^ (8 * 2) = 65536 := by decide
    obtain ⟨e1, ⟨e2, e3⟩, ⟨e4, e5⟩, e6, e7⟩ := hc
    rcases hp2 with rfl | rfl
    · exact ⟨e1, ⟨e2, by omega, e3⟩, ⟨e4, by omega, e5⟩⟩
    · exact ⟨⟨by omega, by rw [p2]; omega, by omega⟩, e6, e7⟩
  · rw [← enc1_is]; simp [allF]

end Go.Proofs.Ytjmmfgmmmdbenaa
