/-
  Package cmd's head: the parts that both forms begin with.
-/
import Derived.Test.YtjmmfgmmmdbenaaCR
namespace Go.Proofs.Ytjmmfgmmmdbenaa
open Go.RowKit
set_option linter.unusedSimpArgs false
set_option linter.unusedVariables false

/-- a command of which so many of its first parts have been taken -/
def HI (Qn : Int → Prop) : Nat → Cm → Prop
  | 0, c => c = zC
  | 1, c => c = zC
  | 2, c => QF 1 c.kind ∧ c.id = 0 ∧ c.txn = 0 ∧ c.com = false ∧ c.ws = [] ∧ c.text = E0
  | 3, c => QF 1 c.kind ∧ Qn c.id ∧ c.txn = 0 ∧ c.com = false ∧ c.ws = [] ∧ c.text = E0
  | 4, c => QF 1 c.kind ∧ Qn c.id ∧ Qn c.txn ∧ c.com = false ∧ c.ws = [] ∧ c.text = E0
  | _, c => QF 1 c.kind ∧ Qn c.id ∧ Qn c.txn ∧ c.ws = [] ∧ c.text = E0
def HM : Nat → Cm → Cm → Prop
  | 0, _, _ => True
  | 1, _, _ => True
  | 2, c, d => c.kind = d.kind
  | 3, c, d => c.kind = d.kind ∧ c.id = d.id
  | 4, c, d => c.kind = d.kind ∧ c.id = d.id ∧ c.txn = d.txn
  | _, c, d => c.kind = d.kind ∧ c.id = d.id ∧ c.txn = d.txn ∧ c.com = d.com
def headF (m : UInt8) (fn : Int → List UInt8) (c : Cm) : List UInt8 := m :: (fx 1 c.kind ++ (fn c.id ++ (fn c.txn ++ fl c.com)))

/-- the parts' blocks -/
structure HeadB (Kn Kt : FuncId) (pn pt : Array Value) (n : Nat) (m : UInt8) (s0 f0 k0 k1 i0 i1 t0 t1 c0 c1 gp a0 : Nat) (W : World) : Prop where
  hs0 : Blk s0 #[.int .u8 (m.toNat : Int)] 5 W
  hf0 : Blk f0 #[.int .i64 1] 3 W
  hk0 : Blk k0 #[Fv 65 #[ptr f0 0], Fv 66 #[ptr f0 0]] 77 W
  hk1 : ∃ T, Blk k1 #[Fv 82 #[]] T W
  hi0 : Blk i0 #[Fv Kn pn, Fv Kt pt] 77 W
  hi1 : ∃ T, Blk i1 #[Fv 83 #[]] T W
  ht0 : Blk t0 #[Fv Kn pn, Fv Kt pt] 77 W
  ht1 : ∃ T, Blk t1 #[Fv 84 #[]] T W
  hc0 : Blk c0 #[Fv 76 #[], Fv 77 #[]] 95 W
  hc1 : ∃ T, Blk c1 #[Fv 86 #[]] T W
  hgp : Blk gp #[Fv 98 #[ptr s0 0], Fv 99 #[ptr s0 0], Fv 100 #[ptr k0 0, ptr k1 0], Fv 101 #[ptr k0 0, ptr k1 0], Fv 100 #[ptr i0 0, ptr i1 0], Fv 101 #[ptr i0 0, ptr i1 0], Fv 100 #[ptr t0 0, ptr t1 0], Fv 101 #[ptr t0 0, ptr t1 0], Fv 102 #[ptr c0 0, ptr c1 0], Fv 103 #[ptr c0 0, ptr c1 0]] 52 W
  ha0 : Blk a0 #[.slice (some ⟨gp, 0, none⟩) 5 5] 118 W
theorem HeadB.puts {Kn Kt : FuncId} {pn pt : Array Value} {n : Nat} {m : UInt8} {s0 f0 k0 k1 i0 i1 t0 t1 c0 c1 gp a0 : Nat} {W : World} (h : HeadB Kn Kt pn pt n m s0 f0 k0 k1 i0 i1 t0 t1 c0 c1 gp a0 W) {Dn : Int → Prop} {fn : Int → List UInt8} (hp : Puts (Fv Kn pn) W layI Dn fn) :
    Puts (Fv 78 #[ptr a0 0]) W layCm (fun c => Is64 c.kind ∧ Dn c.id ∧ Dn c.txn) (headF m fn) := by
  obtain ⟨Tk, hk1⟩ := h.hk1
  obtain ⟨Ti, hi1⟩ := h.hi1
  obtain ⟨Tt, ht1⟩ := h.ht1
  obtain ⟨Tc, hc1⟩ := h.hc1
  refine (allCmdPuts layCm [⟨Fv 98 #[ptr s0 0], Fv 99 #[ptr s0 0], fun _ => True, fun _ => [m]⟩, ⟨Fv 100 #[ptr k0 0, ptr k1 0], Fv 101 #[ptr k0 0, ptr k1 0], fun c => Is64 c.kind, fun c => fx 1 c.kind⟩, ⟨Fv 100 #[ptr i0 0, ptr i1 0], Fv 101 #[ptr i0 0, ptr i1 0], fun c => Dn c.id, fun c => fn c.id⟩, ⟨Fv 100 #[ptr t0 0, ptr t1 0], Fv 101 #[ptr t0 0, ptr t1 0], fun c => Dn c.txn, fun c => fn c.txn⟩, ⟨Fv 102 #[ptr c0 0, ptr c1 0], Fv 103 #[ptr c0 0, ptr c1 0], fun _ => True, fun c => fl c.com⟩] a0 gp 5 52 W ?_ ?_ (by simp) (h.ha0.cell 0) h.hgp).imp (fun c hc => ⟨?_, ?_⟩)
  · intro p hp2
    simp only [List.mem_cons, List.not_mem_nil, or_false] at hp2
    rcases hp2 with rfl | rfl | rfl | rfl | rfl
    · exact signPuts layCm m s0 W (h.hs0.cell 0)
    · exact cKindPuts _ _ _ _ _ _ W Is64 (fx 1) (fixPuts 1 f0 W (by omega) (h.hf0.cell 0)) h.hk0 hk1
    · exact cIdPuts _ _ _ _ _ _ W Dn fn hp h.hi0 hi1
    · exact cTxnPuts _ _ _ _ _ _ W Dn fn hp h.ht0 ht1
    · exact cComPuts _ _ _ _ _ _ W (fun _ => True) fl (flagPuts W) h.hc0 hc1
  · intro p hp2
    simp only [List.mem_cons, List.not_mem_nil, or_false] at hp2
    rcases hp2 with rfl | rfl | rfl | rfl | rfl <;> exact ⟨_, _, rfl⟩
  · intro p hp2
    simp only [List.mem_cons, List.not_mem_nil, or_false] at hp2
    rcases hp2 with rfl | rfl | rfl | rfl | rfl
    · trivial
    · exact hc.1
    · exact hc.2.1
    · exact hc.2.2
    · trivial
  · simp [allF, headF]
theorem HeadB.takes {Kn Kt : FuncId} {pn pt : Array Value} {n : Nat} {m : UInt8} {s0 f0 k0 k1 i0 i1 t0 t1 c0 c1 gp a0 : Nat} {W : World} (h : HeadB Kn Kt pn pt n m s0 f0 k0 k1 i0 i1 t0 t1 c0 c1 gp a0 W) {Qn DT : Int → Prop} {fn : Int → List UInt8} (ht : Takes (Fv Kt pt) W tI (fun x => x = 0) Qn DT fn (fun _ _ => True) (fun y yt => y = yt)) :
    Takes (Fv 79 #[ptr a0 0]) W layTCm (HI Qn 0) (HI Qn 5) (fun c => (0 ≤ c.kind ∧ c.kind < 256) ∧ DT c.id ∧ DT c.txn) (headF m fn) (HM 0) (HM 5) := by
  obtain ⟨Tk, hk1⟩ := h.hk1
  obtain ⟨Ti, hi1⟩ := h.hi1
  obtain ⟨Tt, ht1⟩ := h.ht1
  obtain ⟨Tc, hc1⟩ := h.hc1
  refine (allCmdTakes layTCm [⟨Fv 98 #[ptr s0 0], Fv 99 #[ptr s0 0], fun _ => True, fun _ => [m]⟩, ⟨Fv 100 #[ptr k0 0, ptr k1 0], Fv 101 #[ptr k0 0, ptr k1 0], fun c => 0 ≤ c.kind ∧ c.kind < 256, fun c => fx 1 c.kind⟩, ⟨Fv 100 #[ptr i0 0, ptr i1 0], Fv 101 #[ptr i0 0, ptr i1 0], fun c => DT c.id, fun c => fn c.id⟩, ⟨Fv 100 #[ptr t0 0, ptr t1 0], Fv 101 #[ptr t0 0, ptr t1 0], fun c => DT c.txn, fun c => fn c.txn⟩, ⟨Fv 102 #[ptr c0 0, ptr c1 0], Fv 103 #[ptr c0 0, ptr c1 0], fun _ => True, fun c => fl c.com⟩] (HI Qn) HM a0 gp 5 52 W ?_ ?_ (by simp) (h.ha0.cell 0) h.hgp).imp (fun c hc => ⟨?_, ?_⟩) (fun _ h => h) (fun _ h => h) (fun _ _ h => h) (fun _ _ h => h)
  · intro i hi
    match i, hi with
    | 0, _ => exact (signTakes layTCm (HI Qn 0) (HM 0) m s0 W (h.hs0.cell 0) :)
    | 1, _ => exact cKindTakes _ _ _ _ _ _ W (HI Qn 1) (HI Qn 2) (fun c => 0 ≤ c.kind ∧ c.kind < 256) (QF 1) (fun x => 0 ≤ x ∧ x < 2 ^ (8 * 1) ∧ x ≤ 9223372036854775807) (fx 1) (HM 1) (HM 2) (fun x hx => by rw [show x = zC from hx]) (fun x y hx hy => by rw [show x = zC from hx]; exact ⟨hy, rfl, rfl, rfl, rfl, rfl⟩) (fun x hx => ⟨hx.1, by show x.kind < 256; exact hx.2, by omega⟩) (fun x xt _ => rfl) (fixTakes 1 f0 W (by omega) (h.hf0.cell 0)) h.hk0 hk1
    | 2, _ => exact cIdTakes _ _ _ _ _ _ W (HI Qn 2) (HI Qn 3) (fun c => DT c.id) Qn DT fn (HM 2) (HM 3) (fun x hx => hx.2.1) (fun x y hx hy => ⟨hx.1, hy, hx.2.2⟩) (fun x hx => hx) (fun x xt hx => ⟨hx, rfl⟩) ht h.hi0 hi1
    | 3, _ => exact cTxnTakes _ _ _ _ _ _ W (HI Qn 3) (HI Qn 4) (fun c => DT c.txn) Qn DT fn (HM 3) (HM 4) (fun x hx => hx.2.2.1) (fun x y hx hy => ⟨hx.1, hx.2.1, hy, hx.2.2.2⟩) (fun x hx => hx) (fun x xt hx => ⟨hx.1, hx.2, rfl⟩) ht h.ht0 ht1
    | 4, _ => exact cComTakes _ _ _ _ _ _ W (HI Qn 4) (HI Qn 5) (fun _ => True) (fun _ => True) (fun _ => True) fl (HM 4) (HM 5) (fun x hx => hx.2.2.2.1) (fun x y hx hy => ⟨hx.1, hx.2.1, hx.2.2.1, hx.2.2.2.2⟩) (fun x hx => trivial) (fun x xt hx => ⟨hx.1, hx.2.1, hx.2.2, rfl⟩) (flagTakes W) h.hc0 hc1
  · intro p hp2
    simp only [List.mem_cons, List.not_mem_nil, or_false] at hp2
    rcases hp2 with rfl | rfl | rfl | rfl | rfl <;> exact ⟨_, _, rfl⟩
  · intro p hp2
    simp only [List.mem_cons, List.not_mem_nil, or_false] at hp2
    rcases hp2 with rfl | rfl | rfl | rfl | rfl
    · trivial
    · exact hc.1
    · exact hc.2.1
    · exact hc.2.2
    · trivial
  · simp [allF, headF]
theorem HeadB.sf {Kn Kt : FuncId} {pn pt : Array Value} {n : Nat} {m : UInt8} {s0 f0 k0 k1 i0 i1 t0 t1 c0 c1 gp a0 : Nat} {w W : World} (h : HeadB Kn Kt pn pt n m s0 f0 k0 k1 i0 i1 t0 t1 c0 c1 gp a0 w) (hl : n ≤ s0 ∧ n ≤ f0 ∧ n ≤ k0 ∧ n ≤ k1 ∧ n ≤ i0 ∧ n ≤ i1 ∧ n ≤ t0 ∧ n ≤ t1 ∧ n ≤ c0 ∧ n ≤ c1 ∧ n ≤ gp ∧ n ≤ a0) (hs : SameFrom n w W) : HeadB Kn Kt pn pt n m s0 f0 k0 k1 i0 i1 t0 t1 c0 c1 gp a0 W := by
  obtain ⟨⟨_, h1⟩, ⟨_, h2⟩, ⟨_, h3⟩, ⟨_, h4⟩⟩ := (⟨h.hk1, h.hi1, h.ht1, h.hc1⟩ : _ ∧ _ ∧ _ ∧ _)
  exact ⟨h.hs0.sf (by omega) hs, h.hf0.sf (by omega) hs, h.hk0.sf (by omega) hs, ⟨_, h1.sf (by omega) hs⟩, h.hi0.sf (by omega) hs, ⟨_, h2.sf (by omega) hs⟩, h.ht0.sf (by omega) hs, ⟨_, h3.sf (by omega) hs⟩, h.hc0.sf (by omega) hs, ⟨_, h4.sf (by omega) hs⟩, h.hgp.sf (by omega) hs, h.ha0.sf (by omega) hs⟩

set_option maxRecDepth 100000 in
set_option maxHeartbeats 8000000 in
theorem head_any (m : UInt8) (Kn Kt : FuncId) (pn pt : Array Value) (n : Nat) (w : World) (hn : n ≤ w.heap.size) (Dn Qn DT : Int → Prop) (fn : Int → List UInt8)
    (HP : PutsR (Fv Kn pn) n w layI Dn fn) (HT : TakesR (Fv Kt pt) n w tI (fun x => x = 0) Qn DT fn (fun _ _ => True) (fun y yt => y = yt)) :
    Calls Try.prog 57 #[.int .u8 (m.toNat : Int), Cv (Fv Kn pn) (Fv Kt pt)] w fun e w' => ∃ K1 p1 K2 p2, e = .returned (Cv (Fv K1 p1) (Fv K2 p2)) ∧
      PutsR (Fv K1 p1) n w' layCm (fun c => Is64 c.kind ∧ Dn c.id ∧ Dn c.txn) (headF m fn) ∧ TakesR (Fv K2 p2) n w' layTCm (HI Qn 0) (HI Qn 5) (fun c => (0 ≤ c.kind ∧ c.kind < 256) ∧ DT c.id ∧ DT c.txn) (headF m fn) (HM 0) (HM 5) ∧ Below w.heap.size w w' := by
  have HP' := hide HP
  have HT' := hide HT
  clear HP HT
  go_enter Try.func57, Try.ntmps57
  go_wp2
  rename_i hrest
  have hb0 : Below w.heap.size w ((w.alloc (.cells #[Fv Kn pn, Fv Kt pt] 77)).alloc (.cells #[.nilFunc, .nilFunc] 52)).drew := ((below_new w _).alloc (by simp) _).drew
  have HS : Blk w.heap.size #[Fv Kn pn, Fv Kt pt] 77 ((w.alloc (.cells #[Fv Kn pn, Fv Kt pt] 77)).alloc (.cells #[.nilFunc, .nilFunc] 52)).drew := (Blk.new w _ _).below (below_new _ _).drew
  have HR : Hid (Blk (w.heap.size + 1) #[.nilFunc, .nilFunc] 52 ((w.alloc (.cells #[Fv Kn pn, Fv Kt pt] 77)).alloc (.cells #[.nilFunc, .nilFunc] 52)).drew) := by
    have := Blk.new (w.alloc (.cells #[Fv Kn pn, Fv Kt pt] 77)) #[.nilFunc, .nilFunc] 52
    simp only [World.size_alloc] at this
    exact this
  have hsz0 : w.heap.size + 2 ≤ ((w.alloc (.cells #[Fv Kn pn, Fv Kt pt] 77)).alloc (.cells #[.nilFunc, .nilFunc] 52)).drew.heap.size := by simp
  refine wp_region_noPanic ?_
  refine wp_region_held_drew (S := (fun X => Blk w.heap.size #[Fv Kn pn, Fv Kt pt] 77 X)) (by kernel_rfl) (HS) (fun hHeld => ?_)
  clear HS
  generalize ((w.alloc (.cells #[Fv Kn pn, Fv Kt pt] 77)).alloc (.cells #[.nilFunc, .nilFunc] 52)).drew = X0 at *
  refine wpAnyH_take (i := 0) (oi := ?oi20001) (v := ?v20001) ?hi20001 (by kernel_rfl) (by kernel_rfl) (by kernel_rfl) (fun _ _ _ h => h) (Or.inl ⟨?hw20001, ?hy20001⟩) (by assumption) ?rest20001
  case hi20001 => (simp only [List.getElem?_toArray, List.getElem?_cons_zero]; rfl)
  case hw20001 => rfl
  case hy20001 => first | (intro wx hSw; have hs0 := hSw.cell 0; have hs1 := hSw.cell 1; simp at hs0 hs1; go_simp; done) | (intro wx hSw; have hs0 := hSw.cell 0; have hs1 := hSw.cell 1; simp at hs0 hs1; go_simp; with_reducible rfl)
  simp only [Act.put, List.setIfInBounds_toArray, List.set_cons_zero, List.set_cons_succ]
  refine wpAnyH_take (i := 4) (oi := ?oi20002) (v := ?v20002) ?hi20002 (by kernel_rfl) (by kernel_rfl) (by kernel_rfl) (fun _ _ _ h => h) (Or.inl ⟨?hw20002, ?hy20002⟩) (by assumption) ?rest20002
  case hi20002 => (simp only [List.getElem?_toArray, List.getElem?_cons_zero, List.getElem?_cons_succ]; rfl)
  case hw20002 => rfl
  case hy20002 => first | (intro wx hSw; have hs0 := hSw.cell 0; have hs1 := hSw.cell 1; simp at hs0 hs1; go_simp; done) | (intro wx hSw; have hs0 := hSw.cell 0; have hs1 := hSw.cell 1; simp at hs0 hs1; go_simp; with_reducible rfl)
  simp only [Act.put, List.setIfInBounds_toArray, List.set_cons_zero, List.set_cons_succ]
  refine wpAnyH_take (i := 6) (oi := ?oi20003) (v := ?v20003) ?hi20003 (by kernel_rfl) (by kernel_rfl) (by kernel_rfl) (fun _ _ _ h => h) (Or.inl ⟨?hw20003, ?hy20003⟩) (by assumption) ?rest20003
  case hi20003 => (simp only [List.getElem?_toArray, List.getElem?_cons_zero, List.getElem?_cons_succ]; rfl)
  case hw20003 => rfl
  case hy20003 => first | (intro wx hSw; have hs0 := hSw.cell 0; have hs1 := hSw.cell 1; simp at hs0 hs1; go_simp; done) | (intro wx hSw; have hs0 := hSw.cell 0; have hs1 := hSw.cell 1; simp at hs0 hs1; go_simp; with_reducible rfl)
  simp only [Act.put, List.setIfInBounds_toArray, List.set_cons_zero, List.set_cons_succ]
  refine wpAnyH_ready (rs := [1]) (by kernel_rfl) (by simp) ?_
  refine AllReadyH.cons rfl (fun K20004 hK20004 => ?_) AllReadyH.nil
  go_simp
  go_wp2_with (go_at_call 80; refine (signC_any _ _).mono ?_; rintro e X1 ⟨s0, rfl, ⟨hs0, ls0⟩, hb1⟩)
  refine hK20004.out _ _ ?hs20004 (fun hHeld20004 => ?_)
  case hs20004 => exact hHeld.below hb1
  clear hHeld
  have hHeld := hHeld20004; clear hHeld20004 hK20004 K20004
  refine wpAnyH_ready (rs := [2]) (by kernel_rfl) (by simp) ?_
  refine AllReadyH.cons rfl (fun K20005 hK20005 => ?_) AllReadyH.nil
  go_simp
  go_wp2_with (go_at_call 47; refine (fixedC_any _ _).mono ?_; rintro e X2 ⟨f0, rfl, ⟨hf0, lf0⟩, hb2⟩)
  refine hK20005.out _ _ ?hs20005 (fun hHeld20005 => ?_)
  case hs20005 => exact hHeld.below hb2
  clear hHeld
  have hHeld := hHeld20005; clear hHeld20005 hK20005 K20005
  refine wpAnyH_ready (rs := [3]) (by kernel_rfl) (by simp) ?_
  refine AllReadyH.cons rfl (fun K20006 hK20006 => ?_) AllReadyH.nil
  go_simp
  go_wp2_with (go_at_call 81; refine (partCmdintC_any _ _ _ _ _ _).mono ?_; rintro e X3 ⟨k0, k1, rfl, ⟨hk0, lk0⟩, ⟨⟨Tk, hk1⟩, lk1⟩, hb3⟩)
  refine hK20006.out _ _ ?hs20006 (fun hHeld20006 => ?_)
  case hs20006 => exact hHeld.below hb3
  clear hHeld
  have hHeld := hHeld20006; clear hHeld20006 hK20006 K20006
  refine wpAnyH_ready (rs := [5]) (by kernel_rfl) (by simp) ?_
  refine AllReadyH.cons rfl (fun K20007 hK20007 => ?_) AllReadyH.nil
  go_simp
  go_wp2_with (go_at_call 81; refine (partCmdintC_any _ _ _ _ _ _).mono ?_; rintro e X4 ⟨i0, i1, rfl, ⟨hi0, li0⟩, ⟨⟨Ti, hi1⟩, li1⟩, hb4⟩)
  refine hK20007.out _ _ ?hs20007 (fun hHeld20007 => ?_)
  case hs20007 => exact hHeld.below hb4
  clear hHeld
  have hHeld := hHeld20007; clear hHeld20007 hK20007 K20007
  refine wpAnyH_ready (rs := [7]) (by kernel_rfl) (by simp) ?_
  refine AllReadyH.cons rfl (fun K20008 hK20008 => ?_) AllReadyH.nil
  go_simp
  go_wp2_with (go_at_call 81; refine (partCmdintC_any _ _ _ _ _ _).mono ?_; rintro e X5 ⟨t0, t1, rfl, ⟨ht0, lt0⟩, ⟨⟨Tt, ht1⟩, lt1⟩, hb5⟩)
  refine hK20008.out _ _ ?hs20008 (fun hHeld20008 => ?_)
  case hs20008 => exact hHeld.below hb5
  clear hHeld
  have hHeld := hHeld20008; clear hHeld20008 hK20008 K20008
  refine wpAnyH_ready (rs := [8]) (by kernel_rfl) (by simp) ?_
  refine AllReadyH.cons rfl (fun K20009 hK20009 => ?_) AllReadyH.nil
  go_simp
  go_wp2_with (go_at_call 54; refine (flagC_any _).mono ?_; rintro e X6 ⟨rfl, hb6⟩)
  refine hK20009.out _ _ ?hs20009 (fun hHeld20009 => ?_)
  case hs20009 => exact hHeld.below hb6
  clear hHeld
  have hHeld := hHeld20009; clear hHeld20009 hK20009 K20009
  refine wpAnyH_ready (rs := [9]) (by kernel_rfl) (by simp) ?_
  refine AllReadyH.cons rfl (fun K20010 hK20010 => ?_) AllReadyH.nil
  go_simp
  go_wp2_with (go_at_call 85; refine (partCmdboolC_any _ _ _ _ _ _).mono ?_; rintro e X7 ⟨c0, c1, rfl, ⟨hc0, lc0⟩, ⟨⟨Tc, hc1⟩, lc1⟩, hb7⟩)
  refine hK20010.out _ _ ?hs20010 (fun hHeld20010 => ?_)
  case hs20010 => exact hHeld.below hb7
  clear hHeld
  have hHeld := hHeld20010; clear hHeld20010 hK20010 K20010
  refine wpAnyH_ready (rs := [10]) (by kernel_rfl) (by simp) ?_
  refine AllReadyH.cons rfl (fun K20011 hK20011 => ?_) AllReadyH.nil
  go_simp
  refine hK20011.out _ _ ?hs20011 (fun hHeld20011 => ?_)
  case hs20011 => exact hHeld.below (below_new X7 (.cells #[Fv 98 #[ptr s0 0], Fv 99 #[ptr s0 0], Fv 100 #[ptr k0 0, ptr k1 0], Fv 101 #[ptr k0 0, ptr k1 0], Fv 100 #[ptr i0 0, ptr i1 0], Fv 101 #[ptr i0 0, ptr i1 0], Fv 100 #[ptr t0 0, ptr t1 0], Fv 101 #[ptr t0 0, ptr t1 0], Fv 102 #[ptr c0 0, ptr c1 0], Fv 103 #[ptr c0 0, ptr c1 0]] 52))
  clear hHeld
  have hHeld := hHeld20011; clear hHeld20011 hK20011 K20011
  have hgp := Blk.new X7 #[Fv 98 #[ptr s0 0], Fv 99 #[ptr s0 0], Fv 100 #[ptr k0 0, ptr k1 0], Fv 101 #[ptr k0 0, ptr k1 0], Fv 100 #[ptr i0 0, ptr i1 0], Fv 101 #[ptr i0 0, ptr i1 0], Fv 100 #[ptr t0 0, ptr t1 0], Fv 101 #[ptr t0 0, ptr t1 0], Fv 102 #[ptr c0 0, ptr c1 0], Fv 103 #[ptr c0 0, ptr c1 0]] 52
  have hb8 := below_new X7 (.cells #[Fv 98 #[ptr s0 0], Fv 99 #[ptr s0 0], Fv 100 #[ptr k0 0, ptr k1 0], Fv 101 #[ptr k0 0, ptr k1 0], Fv 100 #[ptr i0 0, ptr i1 0], Fv 101 #[ptr i0 0, ptr i1 0], Fv 100 #[ptr t0 0, ptr t1 0], Fv 101 #[ptr t0 0, ptr t1 0], Fv 102 #[ptr c0 0, ptr c1 0], Fv 103 #[ptr c0 0, ptr c1 0]] 52)
  generalize hX8 : X7.alloc (.cells #[Fv 98 #[ptr s0 0], Fv 99 #[ptr s0 0], Fv 100 #[ptr k0 0, ptr k1 0], Fv 101 #[ptr k0 0, ptr k1 0], Fv 100 #[ptr i0 0, ptr i1 0], Fv 101 #[ptr i0 0, ptr i1 0], Fv 100 #[ptr t0 0, ptr t1 0], Fv 101 #[ptr t0 0, ptr t1 0], Fv 102 #[ptr c0 0, ptr c1 0], Fv 103 #[ptr c0 0, ptr c1 0]] 52) = X8 at *
  clear hX8
  refine wpAnyH_ready (rs := [11]) (by kernel_rfl) (by simp) ?_
  refine AllReadyH.cons rfl (fun K20012 hK20012 => ?_) AllReadyH.nil
  go_simp
  go_wp2_with (go_at_call 56; refine (allCmdC_any _ _ _ _).mono ?_; rintro e X9 ⟨a0, rfl, ⟨ha0, la0⟩, hb9⟩)
  refine hK20012.out _ _ ?hs20012 (fun hHeld20012 => ?_)
  case hs20012 => exact hHeld.below hb9
  clear hHeld
  have hHeld := hHeld20012; clear hHeld20012 hK20012 K20012
  have hr9 : Blk (w.heap.size + 1) #[.nilFunc, .nilFunc] 52 X9 := (((((((((unhide HR).below hb1).below hb2).below hb3).below hb4).below hb5).below hb6).below hb7).below hb8).below hb9
  have hq0 := hr9.cell 0
  have hq1 := hr9.cell 1
  have hz0 := hr9.froz 0
  have hz1 := hr9.froz 1
  simp at hq0 hq1
  refine wpAnyH_ready (rs := [12]) (by kernel_rfl) (by simp) ?_
  refine AllReadyH.cons rfl (fun K20013 hK20013 => ?_) AllReadyH.nil
  go_simp
  refine hK20013.out _ _ ?hs20013 (fun hHeld20013 => ?_)
  case hs20013 => exact hHeld.set2 (by omega)
  clear hHeld
  have hHeld := hHeld20013; clear hHeld20013 hK20013 K20013
  refine wpAnyH_done (by kernel_rfl) ?_ _
  refine NoPanic.normal ?_
  refine hrest _ _ ?_
  clear hHeld
  have hfin := hr9.two (x := Fv 78 #[ptr a0 0]) (y := Fv 79 #[ptr a0 0])
  have hn0 := hfin.cell 0
  have hn1 := hfin.cell 1
  simp at hn0 hn1
  have z1 := hb1.size
  have z2 := hb2.size
  have z3 := hb3.size
  have z4 := hb4.size
  have z5 := hb5.size
  have z6 := hb6.size
  have z7 := hb7.size
  have z8 := hb8.size
  have z9 := hb9.size
  have c9 := hb9
  have c8 := Below.onto hb8 c9
  have c7 := Below.onto hb7 c8
  have c6 := Below.onto hb6 c7
  have c5 := Below.onto hb5 c6
  have c4 := Below.onto hb4 c5
  have c3 := Below.onto hb3 c4
  have c2 := Below.onto hb2 c3
  have c1' := Below.onto hb1 c2
  have c0' := Below.onto hb0 c1'
  have HB : HeadB Kn Kt pn pt n m s0 f0 k0 k1 i0 i1 t0 t1 c0 c1 X7.heap.size a0 ((X9.setCell ⟨w.heap.size + 1, 0, none⟩ (Fv 78 #[ptr a0 0])).setCell ⟨w.heap.size + 1, 1, none⟩ (Fv 79 #[ptr a0 0])) :=
    ⟨(hs0.below c2).set2 (by omega), (hf0.below c3).set2 (by omega), (hk0.below c4).set2 (by omega), ⟨_, (hk1.below c4).set2 (by omega)⟩, (hi0.below c5).set2 (by omega), ⟨_, (hi1.below c5).set2 (by omega)⟩, (ht0.below c6).set2 (by omega), ⟨_, (ht1.below c6).set2 (by omega)⟩, (hc0.below c8).set2 (by omega), ⟨_, (hc1.below c8).set2 (by omega)⟩, (hgp.below c9).set2 (by omega), ha0.set2 (by omega)⟩
  have hbl : Below w.heap.size w ((X9.setCell ⟨w.heap.size + 1, 0, none⟩ (Fv 78 #[ptr a0 0])).setCell ⟨w.heap.size + 1, 1, none⟩ (Fv 79 #[ptr a0 0])) := Below.set2 c0' (by omega)
  have HBH := hide HB
  have HBL := hide hbl
  clear HB hbl
  go_wp2_with fail
  refine bodyPost_ret (v := Cv (Fv 78 #[ptr a0 0]) (Fv 79 #[ptr a0 0])) (by simp [results, Try.results57, go_sem, hn0, hn1]) rfl ?_
  have hl : n ≤ s0 ∧ n ≤ f0 ∧ n ≤ k0 ∧ n ≤ k1 ∧ n ≤ i0 ∧ n ≤ i1 ∧ n ≤ t0 ∧ n ≤ t1 ∧ n ≤ c0 ∧ n ≤ c1 ∧ n ≤ X7.heap.size ∧ n ≤ a0 := ⟨by omega, by omega, by omega, by omega, by omega, by omega, by omega, by omega, by omega, by omega, by omega, by omega⟩
  have hsf : SameFrom n w ((X9.setCell ⟨w.heap.size + 1, 0, none⟩ (Fv 78 #[ptr a0 0])).setCell ⟨w.heap.size + 1, 1, none⟩ (Fv 79 #[ptr a0 0])) := SameFrom.of_below (unhide HBL)
  exact ⟨_, _, _, _, rfl, fun V hV => ((unhide HBH).sf hl hV).puts (unhide HP' V (hsf.trans hV)), fun V hV => ((unhide HBH).sf hl hV).takes (unhide HT' V (hsf.trans hV)), unhide HBL⟩
end Go.Proofs.Ytjmmfgmmmdbenaa
