/-
  Commands and writes as they lie; each of their fields, put and taken.
-/
import Derived.Test.YtjmmfgmmmdbenaaCL
namespace Go.Proofs.Ytjmmfgmmmdbenaa
open Go.RowKit
set_option linter.unusedSimpArgs false
set_option linter.unusedVariables false

abbrev E0 : ByteArray := ⟨#[]⟩
abbrev zW : Wt := ⟨E0, E0, false⟩
abbrev zC : Cm := ⟨0, 0, 0, false, [], E0⟩
def layCm : Lay Cm where
  R c b o g W := (W.cell? ⟨b, o, none⟩ = some (.int .i64 c.kind) ∧ W.cell? ⟨b, o + 1, none⟩ = some (.int .i64 c.id) ∧ W.cell? ⟨b, o + 2, none⟩ = some (.int .i64 c.txn) ∧ W.cell? ⟨b, o + 3, none⟩ = some (.bool c.com) ∧ W.cell? ⟨b, o + 5, none⟩ = some (.string c.text)) ∧ layWs.R c.ws b (o + 4) g W
  lt h := layWs.lt h.2
  kept h h1 h2 := by
    have hc : ∀ j, _ := fun j => World.cell?_of_block (a := ⟨_, j, none⟩) h1
    exact ⟨⟨(hc _).trans h.1.1, (hc _).trans h.1.2.1, (hc _).trans h.1.2.2.1, (hc _).trans h.1.2.2.2.1, (hc _).trans h.1.2.2.2.2⟩, layWs.kept h.2 h1 h2⟩
def layTCm : LayT Cm where
  n := 6
  R c b o base W := (Mem b W ∧ W.cell? ⟨b, o, none⟩ = some (.int .i64 c.kind) ∧ W.cell? ⟨b, o + 1, none⟩ = some (.int .i64 c.id) ∧ W.cell? ⟨b, o + 2, none⟩ = some (.int .i64 c.txn) ∧ W.cell? ⟨b, o + 3, none⟩ = some (.bool c.com) ∧ W.cell? ⟨b, o + 5, none⟩ = some (.string c.text)) ∧ layTWs.R c.ws b (o + 4) base W
  keep h hb := by
    obtain ⟨⟨⟨cur, T, h1⟩, h2, h3, h4, h5, h6⟩, h7⟩ := h
    have hc : ∀ j, _ := fun j => World.cell?_of_block (a := ⟨_, j, none⟩) (hb.block _ h1.lt)
    exact ⟨⟨⟨cur, T, h1.below hb⟩, (hc _).trans h2, (hc _).trans h3, (hc _).trans h4, (hc _).trans h5, (hc _).trans h6⟩, layTWs.keep h7 hb⟩
theorem layTWs_upd {ws : List Wt} {b o base o' n : Nat} {W W' : World} (h : layTWs.R ws b o base W) (hu : Upd b o' n W W') (hd : o < o' ∨ o' + n ≤ o) (hb : b < base) : layTWs.R ws b o base W' := by
  obtain ⟨hm, v, h2, h3, h4⟩ := h
  refine ⟨hu.mem hm, v, (hu.cell hm hd).trans h2, World.ownsRow.kept h3 hu.grown (.inr fun e => ?_), h4⟩
  have := (h3.lt b e).1
  omega

theorem wKPuts (fs ft : Value) (Tf Tp : TypeId) (bf bp : Nat) (w0 : World) (D : ByteArray → Prop) (f : ByteArray → List UInt8) (hf : Puts fs w0 layS D f) (hbf0 : Blk bf #[fs, ft] Tf w0) (hbp0 : Blk bp #[.func (.func 51) #[] #[]] Tp w0) :
    Puts (.func (.func 69) #[] #[ptr bf 0, ptr bp 0]) w0 layW (fun x => D x.k) (fun x => f x.k) :=
  partWritestringPuts layW layS (fun w => w.k) 0 fs ft _ Tf Tp bf bp w0 D f (fun x b o g W h => ⟨h.1.1, h.2⟩) hf keyPlace hbf0 hbp0
theorem wKTakes (fs ft : Value) (Tf Tp : TypeId) (bf bp : Nat) (w0 : World) (P Q D : Wt → Prop) (QF : ByteArray → Prop) (DF : ByteArray → Prop) (f : ByteArray → List UInt8) (M M' : Wt → Wt → Prop)
    (hP : ∀ x, P x → x.k = E0) (hQ : ∀ x y, P x → QF y → Q { x with k := y }) (hD : ∀ x, D x → DF x.k) (hM : ∀ x xt, M x xt → M' { x with k := xt.k } xt) (hf : Takes ft w0 tS (fun x => x = E0) QF DF f (fun _ _ => True) (fun y yt => y = yt)) (hbf0 : Blk bf #[fs, ft] Tf w0) (hbp0 : Blk bp #[.func (.func 51) #[] #[]] Tp w0) :
    Takes (.func (.func 70) #[] #[ptr bf 0, ptr bp 0]) w0 layTW P Q D (fun x => f x.k) M M' :=
  partWritestringTakes layTW tS (fun w => w.k) (fun w y => { w with k := y }) 0 fs ft _ Tf Tp bf bp w0 P Q (fun x => x = E0) QF D DF f M M' hP hQ hD hM
    (fun x b o base W h => ⟨h.1, h.2.1⟩) (fun x y b o base W W' hb hbb h hx hu hy => ⟨hu.mem h.1, hy.2, (hu.cell h.1 (.inr (by show _ ≤ _; exact Nat.le_refl _))).trans h.2.2.1, (hu.cell h.1 (.inr (by show o + 0 + 1 ≤ o + 2; omega))).trans h.2.2.2⟩) (by decide) hf keyPlace hbf0 hbp0

theorem wVPuts (fs ft : Value) (Tf Tp : TypeId) (bf bp : Nat) (w0 : World) (D : ByteArray → Prop) (f : ByteArray → List UInt8) (hf : Puts fs w0 layS D f) (hbf0 : Blk bf #[fs, ft] Tf w0) (hbp0 : Blk bp #[.func (.func 52) #[] #[]] Tp w0) :
    Puts (.func (.func 69) #[] #[ptr bf 0, ptr bp 0]) w0 layW (fun x => D x.v) (fun x => f x.v) :=
  partWritestringPuts layW layS (fun w => w.v) 1 fs ft _ Tf Tp bf bp w0 D f (fun x b o g W h => ⟨h.1.2.1, h.2⟩) hf valuePlace hbf0 hbp0
theorem wVTakes (fs ft : Value) (Tf Tp : TypeId) (bf bp : Nat) (w0 : World) (P Q D : Wt → Prop) (QF : ByteArray → Prop) (DF : ByteArray → Prop) (f : ByteArray → List UInt8) (M M' : Wt → Wt → Prop)
    (hP : ∀ x, P x → x.v = E0) (hQ : ∀ x y, P x → QF y → Q { x with v := y }) (hD : ∀ x, D x → DF x.v) (hM : ∀ x xt, M x xt → M' { x with v := xt.v } xt) (hf : Takes ft w0 tS (fun x => x = E0) QF DF f (fun _ _ => True) (fun y yt => y = yt)) (hbf0 : Blk bf #[fs, ft] Tf w0) (hbp0 : Blk bp #[.func (.func 52) #[] #[]] Tp w0) :
    Takes (.func (.func 70) #[] #[ptr bf 0, ptr bp 0]) w0 layTW P Q D (fun x => f x.v) M M' :=
  partWritestringTakes layTW tS (fun w => w.v) (fun w y => { w with v := y }) 1 fs ft _ Tf Tp bf bp w0 P Q (fun x => x = E0) QF D DF f M M' hP hQ hD hM
    (fun x b o base W h => ⟨h.1, h.2.2.1⟩) (fun x y b o base W W' hb hbb h hx hu hy => ⟨hu.mem h.1, (hu.cell h.1 (.inl (by omega))).trans h.2.1, hy.2, (hu.cell h.1 (.inr (by show o + 1 + 1 ≤ o + 2; omega))).trans h.2.2.2⟩) (by decide) hf valuePlace hbf0 hbp0

theorem wGPuts (fs ft : Value) (Tf Tp : TypeId) (bf bp : Nat) (w0 : World) (D : Bool → Prop) (f : Bool → List UInt8) (hf : Puts fs w0 layB D f) (hbf0 : Blk bf #[fs, ft] Tf w0) (hbp0 : Blk bp #[.func (.func 55) #[] #[]] Tp w0) :
    Puts (.func (.func 74) #[] #[ptr bf 0, ptr bp 0]) w0 layW (fun x => D x.g) (fun x => f x.g) :=
  partWriteboolPuts layW layB (fun w => w.g) 2 fs ft _ Tf Tp bf bp w0 D f (fun x b o g W h => ⟨h.1.2.2, h.2⟩) hf gonePlace hbf0 hbp0
theorem wGTakes (fs ft : Value) (Tf Tp : TypeId) (bf bp : Nat) (w0 : World) (P Q D : Wt → Prop) (QF : Bool → Prop) (DF : Bool → Prop) (f : Bool → List UInt8) (M M' : Wt → Wt → Prop)
    (hP : ∀ x, P x → x.g = false) (hQ : ∀ x y, P x → QF y → Q { x with g := y }) (hD : ∀ x, D x → DF x.g) (hM : ∀ x xt, M x xt → M' { x with g := xt.g } xt) (hf : Takes ft w0 tB (fun x => x = false) QF DF f (fun _ _ => True) (fun y yt => y = yt)) (hbf0 : Blk bf #[fs, ft] Tf w0) (hbp0 : Blk bp #[.func (.func 55) #[] #[]] Tp w0) :
    Takes (.func (.func 75) #[] #[ptr bf 0, ptr bp 0]) w0 layTW P Q D (fun x => f x.g) M M' :=
  partWriteboolTakes layTW tB (fun w => w.g) (fun w y => { w with g := y }) 2 fs ft _ Tf Tp bf bp w0 P Q (fun x => x = false) QF D DF f M M' hP hQ hD hM
    (fun x b o base W h => ⟨h.1, h.2.2.2⟩) (fun x y b o base W W' hb hbb h hx hu hy => ⟨hu.mem h.1, (hu.cell h.1 (.inl (by omega))).trans h.2.1, (hu.cell h.1 (.inl (by omega))).trans h.2.2.1, hy.2⟩) (by decide) hf gonePlace hbf0 hbp0

theorem cKindPuts (fs ft : Value) (Tf Tp : TypeId) (bf bp : Nat) (w0 : World) (D : Int → Prop) (f : Int → List UInt8) (hf : Puts fs w0 layI D f) (hbf0 : Blk bf #[fs, ft] Tf w0) (hbp0 : Blk bp #[.func (.func 82) #[] #[]] Tp w0) :
    Puts (.func (.func 100) #[] #[ptr bf 0, ptr bp 0]) w0 layCm (fun x => D x.kind) (fun x => f x.kind) :=
  partCmdintPuts layCm layI (fun w => w.kind) 0 fs ft _ Tf Tp bf bp w0 D f (fun x b o g W h => ⟨h.1.1, (layWs.lt h.2).2⟩) hf kindPlace hbf0 hbp0
theorem cKindTakes (fs ft : Value) (Tf Tp : TypeId) (bf bp : Nat) (w0 : World) (P Q D : Cm → Prop) (QF : Int → Prop) (DF : Int → Prop) (f : Int → List UInt8) (M M' : Cm → Cm → Prop)
    (hP : ∀ x, P x → x.kind = 0) (hQ : ∀ x y, P x → QF y → Q { x with kind := y }) (hD : ∀ x, D x → DF x.kind) (hM : ∀ x xt, M x xt → M' { x with kind := xt.kind } xt) (hf : Takes ft w0 tI (fun x => x = 0) QF DF f (fun _ _ => True) (fun y yt => y = yt)) (hbf0 : Blk bf #[fs, ft] Tf w0) (hbp0 : Blk bp #[.func (.func 82) #[] #[]] Tp w0) :
    Takes (.func (.func 101) #[] #[ptr bf 0, ptr bp 0]) w0 layTCm P Q D (fun x => f x.kind) M M' :=
  partCmdintTakes layTCm tI (fun w => w.kind) (fun w y => { w with kind := y }) 0 fs ft _ Tf Tp bf bp w0 P Q (fun x => x = 0) QF D DF f M M' hP hQ hD hM
    (fun x b o base W h => ⟨h.1.1, h.1.2.1⟩) (fun x y b o base W W' hb hbb h hx hu hy => ⟨⟨hu.mem h.1.1, hy.2, (hu.cell h.1.1 (.inr (by show o + 0 + 1 ≤ o + 1; omega))).trans h.1.2.2.1, (hu.cell h.1.1 (.inr (by show o + 0 + 1 ≤ o + 2; omega))).trans h.1.2.2.2.1, (hu.cell h.1.1 (.inr (by show o + 0 + 1 ≤ o + 3; omega))).trans h.1.2.2.2.2.1, (hu.cell h.1.1 (.inr (by show o + 0 + 1 ≤ o + 5; omega))).trans h.1.2.2.2.2.2⟩, layTWs_upd h.2 hu (.inr (by show o + 0 + 1 ≤ o + 4; omega)) hb⟩) (by decide) hf kindPlace hbf0 hbp0

theorem cIdPuts (fs ft : Value) (Tf Tp : TypeId) (bf bp : Nat) (w0 : World) (D : Int → Prop) (f : Int → List UInt8) (hf : Puts fs w0 layI D f) (hbf0 : Blk bf #[fs, ft] Tf w0) (hbp0 : Blk bp #[.func (.func 83) #[] #[]] Tp w0) :
    Puts (.func (.func 100) #[] #[ptr bf 0, ptr bp 0]) w0 layCm (fun x => D x.id) (fun x => f x.id) :=
  partCmdintPuts layCm layI (fun w => w.id) 1 fs ft _ Tf Tp bf bp w0 D f (fun x b o g W h => ⟨h.1.2.1, (layWs.lt h.2).2⟩) hf idPlace hbf0 hbp0
theorem cIdTakes (fs ft : Value) (Tf Tp : TypeId) (bf bp : Nat) (w0 : World) (P Q D : Cm → Prop) (QF : Int → Prop) (DF : Int → Prop) (f : Int → List UInt8) (M M' : Cm → Cm → Prop)
    (hP : ∀ x, P x → x.id = 0) (hQ : ∀ x y, P x → QF y → Q { x with id := y }) (hD : ∀ x, D x → DF x.id) (hM : ∀ x xt, M x xt → M' { x with id := xt.id } xt) (hf : Takes ft w0 tI (fun x => x = 0) QF DF f (fun _ _ => True) (fun y yt => y = yt)) (hbf0 : Blk bf #[fs, ft] Tf w0) (hbp0 : Blk bp #[.func (.func 83) #[] #[]] Tp w0) :
    Takes (.func (.func 101) #[] #[ptr bf 0, ptr bp 0]) w0 layTCm P Q D (fun x => f x.id) M M' :=
  partCmdintTakes layTCm tI (fun w => w.id) (fun w y => { w with id := y }) 1 fs ft _ Tf Tp bf bp w0 P Q (fun x => x = 0) QF D DF f M M' hP hQ hD hM
    (fun x b o base W h => ⟨h.1.1, h.1.2.2.1⟩) (fun x y b o base W W' hb hbb h hx hu hy => ⟨⟨hu.mem h.1.1, (hu.cell h.1.1 (.inl (by show o + 0 < o + 1; omega))).trans h.1.2.1, hy.2, (hu.cell h.1.1 (.inr (by show o + 1 + 1 ≤ o + 2; omega))).trans h.1.2.2.2.1, (hu.cell h.1.1 (.inr (by show o + 1 + 1 ≤ o + 3; omega))).trans h.1.2.2.2.2.1, (hu.cell h.1.1 (.inr (by show o + 1 + 1 ≤ o + 5; omega))).trans h.1.2.2.2.2.2⟩, layTWs_upd h.2 hu (.inr (by show o + 1 + 1 ≤ o + 4; omega)) hb⟩) (by decide) hf idPlace hbf0 hbp0

theorem cTxnPuts (fs ft : Value) (Tf Tp : TypeId) (bf bp : Nat) (w0 : World) (D : Int → Prop) (f : Int → List UInt8) (hf : Puts fs w0 layI D f) (hbf0 : Blk bf #[fs, ft] Tf w0) (hbp0 : Blk bp #[.func (.func 84) #[] #[]] Tp w0) :
    Puts (.func (.func 100) #[] #[ptr bf 0, ptr bp 0]) w0 layCm (fun x => D x.txn) (fun x => f x.txn) :=
  partCmdintPuts layCm layI (fun w => w.txn) 2 fs ft _ Tf Tp bf bp w0 D f (fun x b o g W h => ⟨h.1.2.2.1, (layWs.lt h.2).2⟩) hf txnPlace hbf0 hbp0
theorem cTxnTakes (fs ft : Value) (Tf Tp : TypeId) (bf bp : Nat) (w0 : World) (P Q D : Cm → Prop) (QF : Int → Prop) (DF : Int → Prop) (f : Int → List UInt8) (M M' : Cm → Cm → Prop)
    (hP : ∀ x, P x → x.txn = 0) (hQ : ∀ x y, P x → QF y → Q { x with txn := y }) (hD : ∀ x, D x → DF x.txn) (hM : ∀ x xt, M x xt → M' { x with txn := xt.txn } xt) (hf : Takes ft w0 tI (fun x => x = 0) QF DF f (fun _ _ => True) (fun y yt => y = yt)) (hbf0 : Blk bf #[fs, ft] Tf w0) (hbp0 : Blk bp #[.func (.func 84) #[] #[]] Tp w0) :
    Takes (.func (.func 101) #[] #[ptr bf 0, ptr bp 0]) w0 layTCm P Q D (fun x => f x.txn) M M' :=
  partCmdintTakes layTCm tI (fun w => w.txn) (fun w y => { w with txn := y }) 2 fs ft _ Tf Tp bf bp w0 P Q (fun x => x = 0) QF D DF f M M' hP hQ hD hM
    (fun x b o base W h => ⟨h.1.1, h.1.2.2.2.1⟩) (fun x y b o base W W' hb hbb h hx hu hy => ⟨⟨hu.mem h.1.1, (hu.cell h.1.1 (.inl (by show o + 0 < o + 2; omega))).trans h.1.2.1, (hu.cell h.1.1 (.inl (by show o + 1 < o + 2; omega))).trans h.1.2.2.1, hy.2, (hu.cell h.1.1 (.inr (by show o + 2 + 1 ≤ o + 3; omega))).trans h.1.2.2.2.2.1, (hu.cell h.1.1 (.inr (by show o + 2 + 1 ≤ o + 5; omega))).trans h.1.2.2.2.2.2⟩, layTWs_upd h.2 hu (.inr (by show o + 2 + 1 ≤ o + 4; omega)) hb⟩) (by decide) hf txnPlace hbf0 hbp0

theorem cComPuts (fs ft : Value) (Tf Tp : TypeId) (bf bp : Nat) (w0 : World) (D : Bool → Prop) (f : Bool → List UInt8) (hf : Puts fs w0 layB D f) (hbf0 : Blk bf #[fs, ft] Tf w0) (hbp0 : Blk bp #[.func (.func 86) #[] #[]] Tp w0) :
    Puts (.func (.func 102) #[] #[ptr bf 0, ptr bp 0]) w0 layCm (fun x => D x.com) (fun x => f x.com) :=
  partCmdboolPuts layCm layB (fun w => w.com) 3 fs ft _ Tf Tp bf bp w0 D f (fun x b o g W h => ⟨h.1.2.2.2.1, (layWs.lt h.2).2⟩) hf commitPlace hbf0 hbp0
theorem cComTakes (fs ft : Value) (Tf Tp : TypeId) (bf bp : Nat) (w0 : World) (P Q D : Cm → Prop) (QF : Bool → Prop) (DF : Bool → Prop) (f : Bool → List UInt8) (M M' : Cm → Cm → Prop)
    (hP : ∀ x, P x → x.com = false) (hQ : ∀ x y, P x → QF y → Q { x with com := y }) (hD : ∀ x, D x → DF x.com) (hM : ∀ x xt, M x xt → M' { x with com := xt.com } xt) (hf : Takes ft w0 tB (fun x => x = false) QF DF f (fun _ _ => True) (fun y yt => y = yt)) (hbf0 : Blk bf #[fs, ft] Tf w0) (hbp0 : Blk bp #[.func (.func 86) #[] #[]] Tp w0) :
    Takes (.func (.func 103) #[] #[ptr bf 0, ptr bp 0]) w0 layTCm P Q D (fun x => f x.com) M M' :=
  partCmdboolTakes layTCm tB (fun w => w.com) (fun w y => { w with com := y }) 3 fs ft _ Tf Tp bf bp w0 P Q (fun x => x = false) QF D DF f M M' hP hQ hD hM
    (fun x b o base W h => ⟨h.1.1, h.1.2.2.2.2.1⟩) (fun x y b o base W W' hb hbb h hx hu hy => ⟨⟨hu.mem h.1.1, (hu.cell h.1.1 (.inl (by show o + 0 < o + 3; omega))).trans h.1.2.1, (hu.cell h.1.1 (.inl (by show o + 1 < o + 3; omega))).trans h.1.2.2.1, (hu.cell h.1.1 (.inl (by show o + 2 < o + 3; omega))).trans h.1.2.2.2.1, hy.2, (hu.cell h.1.1 (.inr (by show o + 3 + 1 ≤ o + 5; omega))).trans h.1.2.2.2.2.2⟩, layTWs_upd h.2 hu (.inr (by show o + 3 + 1 ≤ o + 4; omega)) hb⟩) (by decide) hf commitPlace hbf0 hbp0

theorem cWsPuts (fs ft : Value) (Tf Tp : TypeId) (bf bp : Nat) (w0 : World) (D : List Wt → Prop) (f : List Wt → List UInt8) (hf : Puts fs w0 layWs D f) (hbf0 : Blk bf #[fs, ft] Tf w0) (hbp0 : Blk bp #[.func (.func 60) #[] #[]] Tp w0) :
    Puts (.func (.func 87) #[] #[ptr bf 0, ptr bp 0]) w0 layCm (fun x => D x.ws) (fun x => f x.ws) :=
  partCmdWritesPuts layCm layWs (fun w => w.ws) 4 fs ft _ Tf Tp bf bp w0 D f (fun x b o g W h => h.2) hf writesPlace hbf0 hbp0
theorem cWsTakes (fs ft : Value) (Tf Tp : TypeId) (bf bp : Nat) (w0 : World) (P Q D : Cm → Prop) (QF : List Wt → Prop) (DF : List Wt → Prop) (f : List Wt → List UInt8) (M M' : Cm → Cm → Prop)
    (hP : ∀ x, P x → x.ws = []) (hQ : ∀ x y, P x → QF y → Q { x with ws := y }) (hD : ∀ x, D x → DF x.ws) (hM : ∀ x xt, M x xt → M' { x with ws := xt.ws } xt) (hf : Takes ft w0 layTWs (fun x => x = []) QF DF f (fun _ _ => True) (fun y yt => y = yt)) (hbf0 : Blk bf #[fs, ft] Tf w0) (hbp0 : Blk bp #[.func (.func 60) #[] #[]] Tp w0) :
    Takes (.func (.func 88) #[] #[ptr bf 0, ptr bp 0]) w0 layTCm P Q D (fun x => f x.ws) M M' :=
  partCmdWritesTakes layTCm layTWs (fun w => w.ws) (fun w y => { w with ws := y }) 4 fs ft _ Tf Tp bf bp w0 P Q (fun x => x = []) QF D DF f M M' hP hQ hD hM
    (fun x b o base W h => h.2) (fun x y b o base W W' hb hbb h hx hu hy => ⟨⟨hu.mem h.1.1, (hu.cell h.1.1 (.inl (by show o + 0 < o + 4; omega))).trans h.1.2.1, (hu.cell h.1.1 (.inl (by show o + 1 < o + 4; omega))).trans h.1.2.2.1, (hu.cell h.1.1 (.inl (by show o + 2 < o + 4; omega))).trans h.1.2.2.2.1, (hu.cell h.1.1 (.inl (by show o + 3 < o + 4; omega))).trans h.1.2.2.2.2.1, (hu.cell h.1.1 (.inr (by show o + 4 + 1 ≤ o + 5; omega))).trans h.1.2.2.2.2.2⟩, hy⟩) (by decide) hf writesPlace hbf0 hbp0

theorem cTextPuts (fs ft : Value) (Tf Tp : TypeId) (bf bp : Nat) (w0 : World) (D : ByteArray → Prop) (f : ByteArray → List UInt8) (hf : Puts fs w0 layS D f) (hbf0 : Blk bf #[fs, ft] Tf w0) (hbp0 : Blk bp #[.func (.func 64) #[] #[]] Tp w0) :
    Puts (.func (.func 95) #[] #[ptr bf 0, ptr bp 0]) w0 layCm (fun x => D x.text) (fun x => f x.text) :=
  partCmdstringPuts layCm layS (fun w => w.text) 5 fs ft _ Tf Tp bf bp w0 D f (fun x b o g W h => ⟨h.1.2.2.2.2, (layWs.lt h.2).2⟩) hf notePlace hbf0 hbp0
theorem cTextTakes (fs ft : Value) (Tf Tp : TypeId) (bf bp : Nat) (w0 : World) (P Q D : Cm → Prop) (QF : ByteArray → Prop) (DF : ByteArray → Prop) (f : ByteArray → List UInt8) (M M' : Cm → Cm → Prop)
    (hP : ∀ x, P x → x.text = E0) (hQ : ∀ x y, P x → QF y → Q { x with text := y }) (hD : ∀ x, D x → DF x.text) (hM : ∀ x xt, M x xt → M' { x with text := xt.text } xt) (hf : Takes ft w0 tS (fun x => x = E0) QF DF f (fun _ _ => True) (fun y yt => y = yt)) (hbf0 : Blk bf #[fs, ft] Tf w0) (hbp0 : Blk bp #[.func (.func 64) #[] #[]] Tp w0) :
    Takes (.func (.func 96) #[] #[ptr bf 0, ptr bp 0]) w0 layTCm P Q D (fun x => f x.text) M M' :=
  partCmdstringTakes layTCm tS (fun w => w.text) (fun w y => { w with text := y }) 5 fs ft _ Tf Tp bf bp w0 P Q (fun x => x = E0) QF D DF f M M' hP hQ hD hM
    (fun x b o base W h => ⟨h.1.1, h.1.2.2.2.2.2⟩) (fun x y b o base W W' hb hbb h hx hu hy => ⟨⟨hu.mem h.1.1, (hu.cell h.1.1 (.inl (by show o + 0 < o + 5; omega))).trans h.1.2.1, (hu.cell h.1.1 (.inl (by show o + 1 < o + 5; omega))).trans h.1.2.2.1, (hu.cell h.1.1 (.inl (by show o + 2 < o + 5; omega))).trans h.1.2.2.2.1, (hu.cell h.1.1 (.inl (by show o + 3 < o + 5; omega))).trans h.1.2.2.2.2.1, hy.2⟩, layTWs_upd h.2 hu (.inl (by show o + 4 < o + 5; omega)) hb⟩) (by decide) hf notePlace hbf0 hbp0
end Go.Proofs.Ytjmmfgmmmdbenaa
