/-
  Package cmd: a write's two codes.
-/
import Derived.Test.YtjmmfgmmmdbenaaCR
namespace Go.Proofs.Ytjmmfgmmmdbenaa
open Go.RowKit
set_option linter.unusedSimpArgs false
set_option linter.unusedVariables false

/-- a write of which so many parts have been taken, in form 1, in form 2 -/
def J1 : Nat → Wt → Prop
  | 0, w => w = zW
  | 1, w => w.k.size ≤ 4000 ∧ w.v = E0 ∧ w.g = false
  | 2, w => w.k.size ≤ 4000 ∧ w.v.size ≤ 4000 ∧ w.g = false
  | _, w => w.k.size ≤ 4000 ∧ w.v.size ≤ 4000
def N1 : Nat → Wt → Wt → Prop
  | 0, _, _ => True
  | 1, w, x => w.k = x.k
  | 2, w, x => w.k = x.k ∧ w.v = x.v
  | _, w, x => w = x
def J2 : Nat → Wt → Prop
  | 0, w => w = zW
  | 1, w => w.k = E0 ∧ w.v = E0
  | 2, w => w.k.size ≤ 4000 ∧ w.v = E0
  | _, w => w.k.size ≤ 4000 ∧ w.v.size ≤ 4000
def N2 : Nat → Wt → Wt → Prop
  | 0, _, _ => True
  | 1, w, x => w.g = x.g
  | 2, w, x => w.g = x.g ∧ w.k = x.k
  | _, w, x => w = x
theorem txPuts1 (szb bt : Nat) (W : World) (hsz : Blk szb #[.int .i64 2] 3 W) (hbt : Blk bt #[Fv 65 #[ptr szb 0], Fv 66 #[ptr szb 0]] 77 W) :
    Puts (Fv 71 #[ptr bt 0]) W layS (fun s => s.size ≤ 1099511627776) (tx fx2) :=
  (textput_any _ _ bt W Is64 (fx 2) (fixPuts 2 szb W (by omega) (hsz.cell 0)) hbt).imp (fun x hx => ⟨⟨by show Is64 _; unfold Is64; omega, hx⟩, rfl⟩)
theorem txTakes1 (szb bt : Nat) (W : World) (hsz : Blk szb #[.int .i64 2] 3 W) (hbt : Blk bt #[Fv 65 #[ptr szb 0], Fv 66 #[ptr szb 0]] 77 W) :
    Takes (Fv 72 #[ptr bt 0]) W tS (fun x => x = E0) (fun y => y.size ≤ 4000) (fun x => x.size ≤ 4000) (tx fx2) (fun _ _ => True) (fun y yt => y = yt) :=
  (textTakes _ _ bt W (QF 2) _ (fx 2) (fun y hy => by have := hy.2 (by omega); omega) (fixTakes 2 szb W (by omega) (hsz.cell 0)) hbt).imp (fun x hx => ⟨⟨⟨by omega, by show (x.size : Int) < 65536; omega, by omega⟩, hx⟩, rfl⟩) (fun _ h => h) (fun _ h => h) (fun _ _ h => h) (fun _ _ h => h)
theorem txPuts2 (bt : Nat) (W : World) (hbt : Blk bt #[Fv 91 #[], Fv 92 #[]] 77 W) :
    Puts (Fv 71 #[ptr bt 0]) W layS (fun s => s.size ≤ 1099511627776) (tx sh) :=
  (textput_any _ _ bt W _ shI (shPuts W) hbt).imp (fun x hx => ⟨⟨⟨by omega, by omega⟩, hx⟩, rfl⟩)
theorem txTakes2 (bt : Nat) (W : World) (hbt : Blk bt #[Fv 91 #[], Fv 92 #[]] 77 W) :
    Takes (Fv 72 #[ptr bt 0]) W tS (fun x => x = E0) (fun y => y.size ≤ 4000) (fun x => x.size ≤ 4000) (tx sh) (fun _ _ => True) (fun y yt => y = yt) :=
  (textTakes _ _ bt W QS _ shI (fun y hy => hy) (shTakes W) hbt).imp (fun x hx => ⟨⟨⟨by omega, by omega⟩, hx⟩, rfl⟩) (fun _ h => h) (fun _ h => h) (fun _ _ h => h) (fun _ _ h => h)

structure W1B (szb bk k0 k1 bv v0 v1 g0 g1 gp a0 : Nat) (W : World) : Prop where
  hsz : Blk szb #[.int .i64 2] 3 W
  hbk : Blk bk #[Fv 65 #[ptr szb 0], Fv 66 #[ptr szb 0]] 77 W
  hk0 : Blk k0 #[Fv 71 #[ptr bk 0], Fv 72 #[ptr bk 0]] 88 W
  hk1 : ∃ T, Blk k1 #[Fv 51 #[]] T W
  hbv : Blk bv #[Fv 65 #[ptr szb 0], Fv 66 #[ptr szb 0]] 77 W
  hv0 : Blk v0 #[Fv 71 #[ptr bv 0], Fv 72 #[ptr bv 0]] 88 W
  hv1 : ∃ T, Blk v1 #[Fv 52 #[]] T W
  hg0 : Blk g0 #[Fv 76 #[], Fv 77 #[]] 95 W
  hg1 : ∃ T, Blk g1 #[Fv 55 #[]] T W
  hgp : Blk gp #[Fv 69 #[ptr k0 0, ptr k1 0], Fv 70 #[ptr k0 0, ptr k1 0], Fv 69 #[ptr v0 0, ptr v1 0], Fv 70 #[ptr v0 0, ptr v1 0], Fv 74 #[ptr g0 0, ptr g1 0], Fv 75 #[ptr g0 0, ptr g1 0]] 82 W
  ha0 : Blk a0 #[.slice (some ⟨gp, 0, none⟩) 3 3] 113 W
abbrev DWp (w : Wt) : Prop := w.k.size ≤ 1099511627776 ∧ w.v.size ≤ 1099511627776
abbrev DWt (w : Wt) : Prop := w.k.size ≤ 4000 ∧ w.v.size ≤ 4000
theorem W1B.puts {szb bk k0 k1 bv v0 v1 g0 g1 gp a0 : Nat} {W : World} (h : W1B szb bk k0 k1 bv v0 v1 g0 g1 gp a0 W) : Puts (Fv 67 #[ptr a0 0]) W layW DWp wr1 := by
  obtain ⟨Tk, hk1⟩ := h.hk1
  obtain ⟨Tv, hv1⟩ := h.hv1
  obtain ⟨Tg, hg1⟩ := h.hg1
  refine (allWritePuts layW [⟨Fv 69 #[ptr k0 0, ptr k1 0], Fv 70 #[ptr k0 0, ptr k1 0], fun w => w.k.size ≤ 1099511627776, fun w => tx fx2 w.k⟩, ⟨Fv 69 #[ptr v0 0, ptr v1 0], Fv 70 #[ptr v0 0, ptr v1 0], fun w => w.v.size ≤ 1099511627776, fun w => tx fx2 w.v⟩, ⟨Fv 74 #[ptr g0 0, ptr g1 0], Fv 75 #[ptr g0 0, ptr g1 0], fun _ => True, fun w => fl w.g⟩] a0 gp 3 82 W ?_ ?_ (by simp) (h.ha0.cell 0) h.hgp).imp (fun c hc => ⟨?_, ?_⟩)
  · intro p hp2
    simp only [List.mem_cons, List.not_mem_nil, or_false] at hp2
    rcases hp2 with rfl | rfl | rfl
    · exact wKPuts _ _ _ _ _ _ W (fun s => s.size ≤ 1099511627776) (tx fx2) (txPuts1 szb bk W h.hsz h.hbk) h.hk0 hk1
    · exact wVPuts _ _ _ _ _ _ W (fun s => s.size ≤ 1099511627776) (tx fx2) (txPuts1 szb bv W h.hsz h.hbv) h.hv0 hv1
    · exact wGPuts _ _ _ _ _ _ W (fun _ => True) fl (flagPuts W) h.hg0 hg1
  · intro p hp2
    simp only [List.mem_cons, List.not_mem_nil, or_false] at hp2
    rcases hp2 with rfl | rfl | rfl <;> exact ⟨_, _, rfl⟩
  · intro p hp2
    simp only [List.mem_cons, List.not_mem_nil, or_false] at hp2
    rcases hp2 with rfl | rfl | rfl
    · exact hc.1
    · exact hc.2
    · trivial
  · simp [allF, wr1]
theorem W1B.takes {szb bk k0 k1 bv v0 v1 g0 g1 gp a0 : Nat} {W : World} (h : W1B szb bk k0 k1 bv v0 v1 g0 g1 gp a0 W) : Takes (Fv 68 #[ptr a0 0]) W layTW (J1 0) (J1 3) DWt wr1 (N1 0) (N1 3) := by
  obtain ⟨Tk, hk1⟩ := h.hk1
  obtain ⟨Tv, hv1⟩ := h.hv1
  obtain ⟨Tg, hg1⟩ := h.hg1
  refine (allWriteTakes layTW [⟨Fv 69 #[ptr k0 0, ptr k1 0], Fv 70 #[ptr k0 0, ptr k1 0], fun w => w.k.size ≤ 4000, fun w => tx fx2 w.k⟩, ⟨Fv 69 #[ptr v0 0, ptr v1 0], Fv 70 #[ptr v0 0, ptr v1 0], fun w => w.v.size ≤ 4000, fun w => tx fx2 w.v⟩, ⟨Fv 74 #[ptr g0 0, ptr g1 0], Fv 75 #[ptr g0 0, ptr g1 0], fun _ => True, fun w => fl w.g⟩] J1 N1 a0 gp 3 82 W ?_ ?_ (by simp) (h.ha0.cell 0) h.hgp).imp (fun c hc => ⟨?_, ?_⟩) (fun _ h => h) (fun _ h => h) (fun _ _ h => h) (fun _ _ h => h)
  · intro i hi
    match i, hi with
    | 0, _ => exact wKTakes _ _ _ _ _ _ W (J1 0) (J1 1) (fun w => w.k.size ≤ 4000) (fun y => y.size ≤ 4000) (fun x => x.size ≤ 4000) (tx fx2) (N1 0) (N1 1) (fun x hx => by rw [show x = zW from hx]) (fun x y hx hy => by rw [show x = zW from hx]; exact ⟨hy, rfl, rfl⟩) (fun x hx => hx) (fun x xt _ => rfl) (txTakes1 szb bk W h.hsz h.hbk) h.hk0 hk1
    | 1, _ => exact wVTakes _ _ _ _ _ _ W (J1 1) (J1 2) (fun w => w.v.size ≤ 4000) (fun y => y.size ≤ 4000) (fun x => x.size ≤ 4000) (tx fx2) (N1 1) (N1 2) (fun x hx => hx.2.1) (fun x y hx hy => ⟨hx.1, hy, hx.2.2⟩) (fun x hx => hx) (fun x xt hx => ⟨hx, rfl⟩) (txTakes1 szb bv W h.hsz h.hbv) h.hv0 hv1
    | 2, _ => exact wGTakes _ _ _ _ _ _ W (J1 2) (J1 3) (fun _ => True) (fun _ => True) (fun _ => True) fl (N1 2) (N1 3) (fun x hx => hx.2.2) (fun x y hx hy => ⟨hx.1, hx.2.1⟩) (fun x hx => trivial) (fun x xt hx => by
        obtain ⟨k, v, g⟩ := x
        obtain ⟨k', v', g'⟩ := xt
        obtain ⟨e1, e2⟩ := hx
        simp only at e1 e2
        subst e1; subst e2; rfl) (flagTakes W) h.hg0 hg1
  · intro p hp2
    simp only [List.mem_cons, List.not_mem_nil, or_false] at hp2
    rcases hp2 with rfl | rfl | rfl <;> exact ⟨_, _, rfl⟩
  · intro p hp2
    simp only [List.mem_cons, List.not_mem_nil, or_false] at hp2
    rcases hp2 with rfl | rfl | rfl
    · exact hc.1
    · exact hc.2
    · trivial
  · simp [allF, wr1]

structure W2B (bv v0 v1 u0 u1 g0 g1 bk k0 k1 gp a0 : Nat) (W : World) : Prop where
  hbv : Blk bv #[Fv 91 #[], Fv 92 #[]] 77 W
  hv0 : Blk v0 #[Fv 71 #[ptr bv 0], Fv 72 #[ptr bv 0]] 88 W
  hv1 : ∃ T, Blk v1 #[Fv 52 #[]] T W
  hu0 : ∃ T, Blk u0 #[Fv 55 #[]] T W
  hu1 : Blk u1 #[Fv 69 #[ptr v0 0, ptr v1 0], Fv 70 #[ptr v0 0, ptr v1 0]] 82 W
  hg0 : Blk g0 #[Fv 76 #[], Fv 77 #[]] 95 W
  hg1 : ∃ T, Blk g1 #[Fv 55 #[]] T W
  hbk : Blk bk #[Fv 91 #[], Fv 92 #[]] 77 W
  hk0 : Blk k0 #[Fv 71 #[ptr bk 0], Fv 72 #[ptr bk 0]] 88 W
  hk1 : ∃ T, Blk k1 #[Fv 51 #[]] T W
  hgp : Blk gp #[Fv 74 #[ptr g0 0, ptr g1 0], Fv 75 #[ptr g0 0, ptr g1 0], Fv 69 #[ptr k0 0, ptr k1 0], Fv 70 #[ptr k0 0, ptr k1 0], Fv 93 #[ptr u0 0, ptr u1 0], Fv 94 #[ptr u0 0, ptr u1 0]] 82 W
  ha0 : Blk a0 #[.slice (some ⟨gp, 0, none⟩) 3 3] 113 W
abbrev DWu (w : Wt) : Prop := w.k.size ≤ 4000 ∧ w.v.size ≤ 4000 ∧ (w.g = true → w.v = E0)
theorem W2B.puts {bv v0 v1 u0 u1 g0 g1 bk k0 k1 gp a0 : Nat} {W : World} (h : W2B bv v0 v1 u0 u1 g0 g1 bk k0 k1 gp a0 W) : Puts (Fv 67 #[ptr a0 0]) W layW DWp wr2 := by
  obtain ⟨Tk, hk1⟩ := h.hk1
  obtain ⟨Tv, hv1⟩ := h.hv1
  obtain ⟨Tg, hg1⟩ := h.hg1
  obtain ⟨Tu, hu0⟩ := h.hu0
  refine (allWritePuts layW [⟨Fv 74 #[ptr g0 0, ptr g1 0], Fv 75 #[ptr g0 0, ptr g1 0], fun _ => True, fun w => fl w.g⟩, ⟨Fv 69 #[ptr k0 0, ptr k1 0], Fv 70 #[ptr k0 0, ptr k1 0], fun w => w.k.size ≤ 1099511627776, fun w => tx sh w.k⟩, ⟨Fv 93 #[ptr u0 0, ptr u1 0], Fv 94 #[ptr u0 0, ptr u1 0], fun w => w.g = false → w.v.size ≤ 1099511627776, fun w => if w.g then [] else tx sh w.v⟩] a0 gp 3 82 W ?_ ?_ (by simp) (h.ha0.cell 0) h.hgp).imp (fun c hc => ⟨?_, ?_⟩)
  · intro p hp2
    simp only [List.mem_cons, List.not_mem_nil, or_false] at hp2
    rcases hp2 with rfl | rfl | rfl
    · exact wGPuts _ _ _ _ _ _ W (fun _ => True) fl (flagPuts W) h.hg0 hg1
    · exact wKPuts _ _ _ _ _ _ W (fun s => s.size ≤ 1099511627776) (tx sh) (txPuts2 bk W h.hbk) h.hk0 hk1
    · exact unlessPuts layW (fun w => w.g) 2 _ _ _ _ _ u0 u1 W (fun w => w.v.size ≤ 1099511627776) (fun w => tx sh w.v) (fun x b o g W h => h.1.2.2) (wVPuts _ _ _ _ _ _ W (fun s => s.size ≤ 1099511627776) (tx sh) (txPuts2 bv W h.hbv) h.hv0 hv1) gonePlace hu0 h.hu1
  · intro p hp2
    simp only [List.mem_cons, List.not_mem_nil, or_false] at hp2
    rcases hp2 with rfl | rfl | rfl <;> exact ⟨_, _, rfl⟩
  · intro p hp2
    simp only [List.mem_cons, List.not_mem_nil, or_false] at hp2
    rcases hp2 with rfl | rfl | rfl
    · trivial
    · exact hc.1
    · exact fun _ => hc.2
  · simp [allF, wr2]
theorem W2B.takes {bv v0 v1 u0 u1 g0 g1 bk k0 k1 gp a0 : Nat} {W : World} (h : W2B bv v0 v1 u0 u1 g0 g1 bk k0 k1 gp a0 W) : Takes (Fv 68 #[ptr a0 0]) W layTW (J2 0) (J2 3) DWu wr2 (N2 0) (N2 3) := by
  obtain ⟨Tk, hk1⟩ := h.hk1
  obtain ⟨Tv, hv1⟩ := h.hv1
  obtain ⟨Tg, hg1⟩ := h.hg1
  obtain ⟨Tu, hu0⟩ := h.hu0
  have e3 : ∀ (x xt : Wt), N2 2 x xt → (∀ v, v = xt.v → N2 3 { x with v := v } xt) := by
    rintro ⟨k, v, g⟩ ⟨k', v', g'⟩ ⟨e1, e2⟩ v1 e4
    simp only at e1 e2 e4
    subst e1; subst e2; subst e4; rfl
  refine (allWriteTakes layTW [⟨Fv 74 #[ptr g0 0, ptr g1 0], Fv 75 #[ptr g0 0, ptr g1 0], fun _ => True, fun w => fl w.g⟩, ⟨Fv 69 #[ptr k0 0, ptr k1 0], Fv 70 #[ptr k0 0, ptr k1 0], fun w => w.k.size ≤ 4000, fun w => tx sh w.k⟩, ⟨Fv 93 #[ptr u0 0, ptr u1 0], Fv 94 #[ptr u0 0, ptr u1 0], DWu, fun w => if w.g then [] else tx sh w.v⟩] J2 N2 a0 gp 3 82 W ?_ ?_ (by simp) (h.ha0.cell 0) h.hgp).imp (fun c hc => ⟨?_, ?_⟩) (fun _ h => h) (fun _ h => h) (fun _ _ h => h) (fun _ _ h => h)
  · intro i hi
    match i, hi with
    | 0, _ => exact wGTakes _ _ _ _ _ _ W (J2 0) (J2 1) (fun _ => True) (fun _ => True) (fun _ => True) fl (N2 0) (N2 1) (fun x hx => by rw [show x = zW from hx]) (fun x y hx hy => by rw [show x = zW from hx]; exact ⟨rfl, rfl⟩) (fun x hx => trivial) (fun x xt _ => rfl) (flagTakes W) h.hg0 hg1
    | 1, _ => exact wKTakes _ _ _ _ _ _ W (J2 1) (J2 2) (fun w => w.k.size ≤ 4000) (fun y => y.size ≤ 4000) (fun x => x.size ≤ 4000) (tx sh) (N2 1) (N2 2) (fun x hx => hx.1) (fun x y hx hy => ⟨hy, hx.2⟩) (fun x hx => hx) (fun x xt hx => ⟨hx, rfl⟩) (txTakes2 bk W h.hbk) h.hk0 hk1
    | 2, _ => exact unlessTakes layTW (fun w => w.g) 2 _ _ _ _ _ u0 u1 W (J2 2) (J2 3) (fun w => w.v.size ≤ 4000) DWu (fun w => tx sh w.v) (N2 2) (N2 3) (fun x b o base W h => h.2.2.2) (fun x xt hx => hx.1) (fun x hx _ => ⟨hx.1, by rw [hx.2]; decide⟩) (fun x xt hx hm hd hg => by
        have := e3 x xt hm x.v (by rw [hx.2, hd.2.2 hg])
        exact this) (fun x hx _ => hx.2.1) (wVTakes _ _ _ _ _ _ W (J2 2) (J2 3) (fun w => w.v.size ≤ 4000) (fun y => y.size ≤ 4000) (fun x => x.size ≤ 4000) (tx sh) (N2 2) (N2 3) (fun x hx => hx.2) (fun x y hx hy => ⟨hx.1, hy⟩) (fun x hx => hx) (fun x xt hx => e3 x xt hx _ rfl) (txTakes2 bv W h.hbv) h.hv0 hv1) gonePlace hu0 h.hu1
  · intro p hp2
    simp only [List.mem_cons, List.not_mem_nil, or_false] at hp2
    rcases hp2 with rfl | rfl | rfl <;> exact ⟨_, _, rfl⟩
  · intro p hp2
    simp only [List.mem_cons, List.not_mem_nil, or_false] at hp2
    rcases hp2 with rfl | rfl | rfl
    · trivial
    · exact hc.1
    · exact hc
  · simp [allF, wr2]
end Go.Proofs.Ytjmmfgmmmdbenaa
