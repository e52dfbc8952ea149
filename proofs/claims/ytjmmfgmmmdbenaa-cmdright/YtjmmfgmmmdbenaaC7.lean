/-
  Package cmd: what it means that a function value takes a thing off the front of bytes; numbers of a fixed size, taken.
-/
import Derived.Test.YtjmmfgmmmdbenaaC6
import Derived.Laws.BitsLemmas
namespace Go.Proofs.Ytjmmfgmmmdbenaa
open Go.RowKit
set_option linter.unusedSimpArgs false
set_option linter.unusedVariables false

/-- how a thing lies at a place of a block, in n cells; what it reaches lies from a block on -/
structure LayT (α : Type) where
  n : Nat
  R : α → Nat → Nat → Nat → World → Prop
  keep : ∀ {x b o base W W'}, R x b o base W → Below W.heap.size W W' → R x b o base W'
/-- block b has turned in n places from o on; blocks may be new; nothing else has turned -/
structure Upd (b o n : Nat) (W W' : World) : Prop where
  grown : W.grownBy W' (some b)
  here : ∀ cur T, Blk b cur T W → ∃ cur', Blk b cur' T W' ∧ cur'.size = cur.size ∧ ∀ j, (j < o ∨ o + n ≤ j) → cur'[j]? = cur[j]?
theorem Upd.refl (b o n : Nat) (W : World) : Upd b o n W W := ⟨grownBy_refl _ _, fun cur T h => ⟨cur, h, rfl, fun _ _ => rfl⟩⟩
theorem Upd.trans {b o n : Nat} {A B C : World} (h : Upd b o n A B) (g : Upd b o n B C) : Upd b o n A C :=
  ⟨grownBy_trans h.grown g.grown (.inl rfl), fun cur T hb => by
    obtain ⟨c1, h1, h2, h3⟩ := h.here cur T hb
    obtain ⟨c2, g1, g2, g3⟩ := g.here c1 T h1
    exact ⟨c2, g1, g2.trans h2, fun j hj => (g3 j hj).trans (h3 j hj)⟩⟩
theorem Upd.mono {b o n o' n' : Nat} {W W' : World} (h : Upd b o n W W') (h1 : o' ≤ o) (h2 : o + n ≤ o' + n') : Upd b o' n' W W' :=
  ⟨h.grown, fun cur T hb => by
    obtain ⟨c1, g1, g2, g3⟩ := h.here cur T hb
    exact ⟨c1, g1, g2, fun j hj => g3 j (by omega)⟩⟩
theorem Upd.below {b o n : Nat} {W W' : World} (hb : b < W.heap.size) (h : Below W.heap.size W W') : Upd b o n W W' :=
  ⟨grownBy_below _ h, fun cur T hc => ⟨cur, hc.below h, rfl, fun _ _ => rfl⟩⟩
theorem Blk.set {b : Nat} {cs : Array Value} {T : TypeId} {W : World} (h : Blk b cs T W) (j : Nat) (y : Value) : Blk b (cs.setIfInBounds j y) T (W.setCell ⟨b, j, none⟩ y) := by
  show (W.heap.modify b _)[b]? = _
  rw [Array.getElem?_modify, if_pos rfl, show W.heap[b]? = _ from h]
  rfl
theorem Upd.set {b o : Nat} {W : World} (y : Value) : Upd b o 1 W (W.setCell ⟨b, o, none⟩ y) :=
  ⟨⟨rfl, rfl, rfl, by simp [World.setCell], fun k hk hne => Below.heap_setCell _ _ _ _ (fun e => hne (by rw [e]))⟩, fun cur T hc => ⟨_, hc.set o y, by simp, fun j hj => by
    rw [Array.getElem?_setIfInBounds]
    rw [if_neg (by omega)]⟩⟩
def Mem (b : Nat) (W : World) : Prop := ∃ cur T, Blk b cur T W
theorem Upd.mem {b o n : Nat} {W W' : World} (h : Upd b o n W W') (hm : Mem b W) : Mem b W' := by
  obtain ⟨cur, T, hb⟩ := hm
  obtain ⟨c, h1, _⟩ := h.here cur T hb
  exact ⟨c, T, h1⟩
theorem Upd.cell {b o n j : Nat} {W W' : World} (h : Upd b o n W W') (hm : Mem b W) (hj : j < o ∨ o + n ≤ j) : W'.cell? ⟨b, j, none⟩ = W.cell? ⟨b, j, none⟩ := by
  obtain ⟨cur, T, hb⟩ := hm
  obtain ⟨c, h1, h2, h3⟩ := h.here cur T hb
  rw [h1.cell, hb.cell, h3 j hj]
/-- a thing of one cell -/
def LayT.one {α : Type} (c : α → Value) : LayT α where
  n := 1
  R x b o base W := Mem b W ∧ W.cell? ⟨b, o, none⟩ = some (c x)
  keep h hb := by
    obtain ⟨⟨cur, T, h1⟩, h2⟩ := h
    exact ⟨⟨cur, T, h1.below hb⟩, (World.cell?_of_block (a := ⟨_, _, none⟩) (hb.block _ h1.lt)).trans h2⟩
abbrev tI : LayT Int := LayT.one (Value.int .i64)
abbrev tB : LayT Bool := LayT.one Value.bool
abbrev tS : LayT ByteArray := LayT.one Value.string

/-- what a take tells and leaves: q is what it must take, if that is known -/
def TPost {α : Type} (L : LayT α) (Q : α → Prop) (M : α → α → Prop) (q : Option (α × List UInt8)) (W : World) (b o base : Nat) (s : ByteArray) (e : Ending) (W' : World) : Prop :=
  ∃ ok x' r, e = .returned (.tuple #[.string r, .bool ok]) ∧ W.grownBy W' (some b) ∧ (ok = false → q = none ∧ r = ⟨#[]⟩) ∧
    (ok = true → Q x' ∧ L.R x' b o base W' ∧ r.size ≤ s.size ∧ (∀ xt r0, q = some (xt, r0) → M x' xt ∧ by8 r = r0) ∧ Upd b o L.n W W')
/-- the function value takes a thing: of one that is P it makes one that is Q; of what was put as f says, that thing -/
def Takes {α : Type} (fv : Value) (w0 : World) (L : LayT α) (P Q : α → Prop) (D : α → Prop) (f : α → List UInt8) (M M' : α → α → Prop) : Prop :=
  ∃ K caps, fv = .func (.func K) #[] caps ∧ Enters K ∧ ∀ (s : ByteArray) (W : World) (b o base : Nat) (x : α) (q : Option (α × List UInt8)), Below w0.heap.size w0 W → w0.heap.size ≤ b → b < base → base ≤ W.heap.size →
    L.R x b o base W → P x → s.size ≤ 1099511627776 → (∀ xt r, q = some (xt, r) → D xt ∧ M x xt ∧ by8 s = f xt ++ r) →
    Calls Try.prog K (#[.string s, ptr b o] ++ caps) W (TPost L Q M' q W b o base s)
theorem Takes.mono {α : Type} {fv : Value} {w0 w1 : World} {L : LayT α} {P Q : α → Prop} {D : α → Prop} {f : α → List UInt8} {M M' : α → α → Prop} (h : Takes fv w0 L P Q D f M M') (hb : Below w0.heap.size w0 w1) : Takes fv w1 L P Q D f M M' := by
  obtain ⟨K, caps, rfl, hE, hc⟩ := h
  exact ⟨K, caps, rfl, hE, fun s W b o base x q h1 h2 => hc s W b o base x q (Below.onto hb h1) (Nat.le_trans hb.size h2)⟩
theorem TPost.fail {α : Type} {L : LayT α} {Q : α → Prop} {M : α → α → Prop} {q : Option (α × List UInt8)} {W W' : World} {b o base : Nat} {s : ByteArray} (x : α) (h : W.grownBy W' (some b)) (hq : q = none) : TPost L Q M q W b o base s (.returned (.tuple #[.string ⟨#[]⟩, .bool false])) W' :=
  ⟨false, x, ⟨#[]⟩, rfl, h, fun _ => ⟨hq, rfl⟩, fun h => by cases h⟩
theorem TPost.done {α : Type} {L : LayT α} {Q : α → Prop} {M : α → α → Prop} {q : Option (α × List UInt8)} {W W' : World} {b o base : Nat} {s r : ByteArray} {x : α} (h1 : Q x) (h2 : L.R x b o base W') (h3 : r.size ≤ s.size) (h4 : ∀ xt r0, q = some (xt, r0) → M x xt ∧ by8 r = r0) (h5 : Upd b o L.n W W') : TPost L Q M q W b o base s (.returned (.tuple #[.string r, .bool true])) W' :=
  ⟨true, x, r, rfl, h5.grown, (fun h => by cases h), fun _ => ⟨h1, h2, h3, h4, h5⟩⟩

theorem fx_get (s : Nat) (n : Int) (k : Nat) (h : k < s) : (fx s n)[k]? = some (bt (n / 2 ^ (8 * (s - 1 - k)))) := by
  induction s generalizing k with
  | zero => omega
  | succ s ih =>
    cases k with
    | zero => simp [fx]
    | succ k => simp only [fx, List.getElem?_cons_succ]; rw [ih k (by omega)]; congr 4; omega
theorem byte_at (s : ByteArray) (k : Nat) (h : k < s.size) : (by8 s)[k]? = some s[k] := by
  rw [List.getElem?_eq_getElem (by rw [by8_len]; exact h)]; rfl
theorem wraps_i64 (n : Int) (h₀ : 0 ≤ n) (h₁ : n < 2 ^ 63) : IntKind.i64.wrap n = n := by rw [IntKind.wrap_i64]; omega
theorem or_join (x y : Int) (i : Nat) (h0 : 0 ≤ x) (h1 : x % 2 ^ i = 0) (h2 : x < 2 ^ 63) (h3 : 0 ≤ y) (h4 : y < 2 ^ i) (h5 : y < 2 ^ 63) : bits .or .i64 x y = x + y :=
  bits_join .i64 63 (by decide) wraps_i64 i x y h0 h1 h2 h3 h4 h5
theorem or_is64 (x y : Int) : Is64 (bits .or .i64 x y) := by
  show Is64 (IntKind.i64.wrap _)
  rw [IntKind.wrap_i64]; unfold Is64; omega
def QF (s : Nat) (y : Int) : Prop := Is64 y ∧ (s ≤ 7 → 0 ≤ y ∧ y < 2 ^ (8 * s))

theorem by8_drop (s : ByteArray) (k : Nat) : by8 (s.extract k s.size) = (by8 s).drop k := by
  show (s.extract k s.size).data.toList = s.data.toList.drop k
  rw [ByteArray.data_extract, Array.toList_extract, List.extract_eq_take_drop, List.take_of_length_le]
  simp
theorem by8_take (s : ByteArray) (k : Nat) : by8 (s.extract 0 k) = (by8 s).take k := by
  show (s.extract 0 k).data.toList = s.data.toList.take k
  rw [ByteArray.data_extract, Array.toList_extract, List.extract_eq_take_drop]
  simp
theorem or_step (y : Int) (c : UInt8) (h0 : 0 ≤ y) (h1 : y * 256 < 2 ^ 63) : bits .or .i64 (IntKind.i64.wrap (y * 256)) (IntKind.i64.wrap (c.toNat : Int)) = y * 256 + c.toNat := by
  have hc := c.toNat_lt
  rw [wraps_i64 _ (by omega) h1, wraps_i64 _ (by omega) (by omega)]
  exact or_join _ _ 8 (by omega) (by omega) h1 (by omega) (by omega) (by omega)
theorem pow_le63 {k : Nat} (h : k ≤ 6) : (2 : Int) ^ (8 * k) ≤ 2 ^ 48 := by
  have : k = 0 ∨ k = 1 ∨ k = 2 ∨ k = 3 ∨ k = 4 ∨ k = 5 ∨ k = 6 := by omega
  rcases this with rfl | rfl | rfl | rfl | rfl | rfl | rfl <;> decide
theorem qf_step {k sz : Nat} {y : Int} (hy : QF k y) (hs : sz ≤ 8) (hk : k < sz) (c : UInt8) : QF (k + 1) (bits .or .i64 (IntKind.i64.wrap (y * 256)) (IntKind.i64.wrap (c.toNat : Int))) := by
  refine ⟨or_is64 _ _, fun h7 => ?_⟩
  obtain ⟨h1, h2⟩ := hy.2 (by omega)
  have hp := pow_le63 (k := k) (by omega)
  have hc := c.toNat_lt
  rw [or_step y c h1 (by omega), show 8 * (k + 1) = 8 * k + 8 by omega, Int.pow_add]
  generalize (2 : Int) ^ (8 * k) = p at *
  omega
theorem fx_step {sz k : Nat} {y : Int} {s : ByteArray} {q : Option (Int × List UInt8)} (HQ : ∀ xt r, q = some (xt, r) → (0 ≤ xt ∧ xt < 2 ^ (8 * sz) ∧ xt ≤ 9223372036854775807) ∧ True ∧ by8 s = fx sz xt ++ r)
    (HY : ∀ xt r, q = some (xt, r) → y = xt / 2 ^ (8 * (sz - k))) (hk : k < sz) (hks : k < s.size) : Hid (∀ xt r, q = some (xt, r) → bits .or .i64 (IntKind.i64.wrap (y * 256)) (IntKind.i64.wrap (s[k].toNat : Int)) = xt / 2 ^ (8 * (sz - (k + 1)))) := by
  intro xt r h
  obtain ⟨⟨g1, g2, g3⟩, _, g4⟩ := HQ xt r h
  have hy := HY xt r h
  have hb := byte_at s k hks
  rw [g4, List.getElem?_append_left (by rw [fx_len]; exact hk), fx_get sz xt k hk] at hb
  injection hb with hb
  have hn := bt_nat (xt / 2 ^ (8 * (sz - 1 - k)))
  rw [hb] at hn
  have hp : (2 : Int) ^ (8 * (sz - k)) = 2 ^ (8 * (sz - 1 - k)) * 256 := by rw [show 8 * (sz - k) = 8 * (sz - 1 - k) + 8 by omega, Int.pow_add]; rfl
  have hpp : (0 : Int) < 2 ^ (8 * (sz - 1 - k)) := Int.pow_pos (by omega)
  rw [hp, ← Int.ediv_ediv_of_nonneg (by omega)] at hy
  rw [show sz - (k + 1) = sz - 1 - k by omega]
  have ha0 : 0 ≤ xt / 2 ^ (8 * (sz - 1 - k)) := Int.ediv_nonneg g1 (by omega)
  have ha1 : xt / 2 ^ (8 * (sz - 1 - k)) ≤ xt := Int.ediv_le_self _ g1
  generalize xt / 2 ^ (8 * (sz - 1 - k)) = a at *
  rw [or_step y _ (by omega) (by omega)]
  omega

set_option maxRecDepth 100000 in
set_option maxHeartbeats 2000000 in
theorem fixTakes (sz bs : Nat) (w0 : World) (hs : sz ≤ 8) (hbox : w0.cell? ⟨bs, 0, none⟩ = some (.int .i64 (sz : Int))) :
    Takes (.func (.func 66) #[] #[ptr bs 0]) w0 tI (fun x => x = 0) (QF sz) (fun x => 0 ≤ x ∧ x < 2 ^ (8 * sz) ∧ x ≤ 9223372036854775807) (fx sz) (fun _ _ => True) (fun y xt => y = xt) := by
  refine ⟨_, _, rfl, (fun _ _ => by kernel_rfl), fun s W b o base x q hB h1 h2 h3 hR hx hsl hq => ?_⟩
  simp only [List.append_toArray, List.cons_append, List.nil_append]
  subst hx
  have hbl := World.block_lt_of_cell? _ _ hbox
  have hbx : W.cell? ⟨bs, 0, none⟩ = some (.int .i64 (sz : Int)) := (World.cell?_of_block (a := ⟨bs, 0, none⟩) (hB.block _ hbl)).trans hbox
  obtain ⟨hm, hc⟩ := hR
  have HQ := hide hq
  clear hq
  by_cases hlt : s.size < sz
  · go_enter Try.func66, Try.ntmps66
    go_wp2
    go_ret2
    refine TPost.fail 0 (grownBy_refl _ _) ?_
    rcases hqq : q with _ | ⟨xt, r⟩
    · rfl
    · have := congrArg List.length (unhide HQ xt r hqq).2.2
      rw [by8_len, List.length_append, fx_len] at this
      omega
  · have HM := hide hm
    clear hm
    go_enter Try.func66, Try.ntmps66
    go_wp2
    go_loopw [7, 13] (fun _ i wr => ∃ k : Nat, k ≤ sz ∧ i = .int .i64 (k : Int) ∧ ∃ y, QF k y ∧ wr.cell? ⟨b, o, none⟩ = some (.int .i64 y) ∧ Hid (∀ xt r, q = some (xt, r) → y = xt / 2 ^ (8 * (sz - k))) ∧ Upd b o 1 W wr)
      (fun _ i wr => sz - (intOf i).toNat)
    case atStart => exact ⟨0, Nat.zero_le _, rfl, 0, ⟨by decide, fun _ => by decide⟩, hc, (fun xt r h => by
      have := (unhide HQ xt r h).1
      rw [Int.ediv_eq_zero_of_lt this.1 (by simpa using this.2.1)]), Upd.refl _ _ _ _⟩
    case round =>
      obtain ⟨k, hk, rfl, y, hy, hcy, HY, hU⟩ := hrel
      by_cases hlk : k < sz
      · obtain ⟨cur, T, hbk⟩ := hU.mem (unhide HM)
        have hks : k < s.size := by omega
        have hszz := hU.grown.size
        go_wp2
        rename_i hrest
        refine wp_region_noPanic ?_
        refine wp_region_held_drew (S := (fun _ => True)) (by kernel_rfl) (trivial) (fun hHeld => ?_)
        have hbkd : Blk b cur T wr.drew := hbk
        have hcyd : wr.drew.cell? ⟨b, o, none⟩ = some (.int .i64 y) := hcy
        have hUd : Upd b o 1 W wr.drew := hU.trans ⟨⟨rfl, rfl, rfl, Nat.le_refl _, fun _ _ _ => rfl⟩, fun cur T h => ⟨cur, h, rfl, fun _ _ => rfl⟩⟩
        clear hbk hcy hU hszz
        generalize wr.drew = Wd at *
        refine wpAnyH_take (i := 0) (oi := ?oi20001) (v := ?v20001) ?hi20001 (by kernel_rfl) (by kernel_rfl) (by kernel_rfl) (fun _ _ _ h => h) (Or.inl ⟨?hw20001, ?hy20001⟩) (by assumption) ?rest20001
        case hi20001 => (simp only [List.getElem?_toArray, List.getElem?_cons_zero]; rfl)
        case hw20001 => rfl
        case hy20001 => first | (intro wx hSw; go_simp; done) | (intro wx hSw; go_simp; with_reducible rfl)
        simp only [Act.put, List.setIfInBounds_toArray, List.set_cons_zero, List.set_cons_succ]
        refine wpAnyH_take (i := 1) (oi := ?oi20002) (v := ?v20002) ?hi20002 (by kernel_rfl) (by kernel_rfl) (by kernel_rfl) (fun _ _ _ h => h) (Or.inl ⟨?hw20002, ?hy20002⟩) (by assumption) ?rest20002
        case hi20002 => (simp only [List.getElem?_toArray, List.getElem?_cons_zero, List.getElem?_cons_succ]; rfl)
        case hw20002 => rfl
        case hy20002 => first | (intro wx hSw; go_simp; done) | (intro wx hSw; go_simp; with_reducible rfl)
        simp only [Act.put, List.setIfInBounds_toArray, List.set_cons_zero, List.set_cons_succ]
        refine wpAnyH_take (i := 2) (oi := ?oi20003) (v := ?v20003) ?hi20003 (by kernel_rfl) (by kernel_rfl) (by kernel_rfl) (fun _ _ _ h => h) (Or.inl ⟨?hw20003, ?hy20003⟩) (by assumption) ?rest20003
        case hi20003 => (simp only [List.getElem?_toArray, List.getElem?_cons_zero, List.getElem?_cons_succ]; rfl)
        case hw20003 => rfl
        case hy20003 => first | (intro wx hSw; go_simp; done) | (intro wx hSw; go_simp; with_reducible rfl)
        simp only [Act.put, List.setIfInBounds_toArray, List.set_cons_zero, List.set_cons_succ]
        refine wpAnyH_take (i := 5) (oi := ?oi20004) (v := ?v20004) ?hi20004 (by kernel_rfl) (by kernel_rfl) (by kernel_rfl) (fun _ _ _ h => h) (Or.inl ⟨?hw20004, ?hy20004⟩) (by assumption) ?rest20004
        case hi20004 => (simp only [List.getElem?_toArray, List.getElem?_cons_zero, List.getElem?_cons_succ]; rfl)
        case hw20004 => rfl
        case hy20004 => first | (intro wx hSw; go_simp; done) | (intro wx hSw; go_simp; with_reducible rfl)
        simp only [Act.put, List.setIfInBounds_toArray, List.set_cons_zero, List.set_cons_succ]
        refine wpAnyH_take (i := 6) (oi := ?oi20005) (v := ?v20005) ?hi20005 (by kernel_rfl) (by kernel_rfl) (by kernel_rfl) (fun _ _ _ h => h) (Or.inl ⟨?hw20005, ?hy20005⟩) (by assumption) ?rest20005
        case hi20005 => (simp only [List.getElem?_toArray, List.getElem?_cons_zero, List.getElem?_cons_succ]; rfl)
        case hw20005 => rfl
        case hy20005 => first | (intro wx hSw; go_simp; done) | (intro wx hSw; go_simp; with_reducible rfl)
        simp only [Act.put, List.setIfInBounds_toArray, List.set_cons_zero, List.set_cons_succ]
        refine wpAnyH_take (i := 7) (oi := ?oi20006) (v := ?v20006) ?hi20006 (by kernel_rfl) (by kernel_rfl) (by kernel_rfl) (fun _ _ _ h => h) (Or.inl ⟨?hw20006, ?hy20006⟩) (by assumption) ?rest20006
        case hi20006 => (simp only [List.getElem?_toArray, List.getElem?_cons_zero, List.getElem?_cons_succ]; rfl)
        case hw20006 => rfl
        case hy20006 => first | (intro wx hSw; go_simp; done) | (intro wx hSw; go_simp; with_reducible rfl)
        simp only [Act.put, List.setIfInBounds_toArray, List.set_cons_zero, List.set_cons_succ]
        refine wpAnyH_take (i := 8) (oi := ?oi20007) (v := ?v20007) ?hi20007 (by kernel_rfl) (by kernel_rfl) (by kernel_rfl) (fun _ _ _ h => h) (Or.inl ⟨?hw20007, ?hy20007⟩) (by assumption) ?rest20007
        case hi20007 => (simp only [List.getElem?_toArray, List.getElem?_cons_zero, List.getElem?_cons_succ]; rfl)
        case hw20007 => rfl
        case hy20007 => first | (intro wx hSw; go_simp; done) | (intro wx hSw; go_simp; with_reducible rfl)
        simp only [Act.put, List.setIfInBounds_toArray, List.set_cons_zero, List.set_cons_succ]
        refine wpAnyH_ready (rs := [3]) (by kernel_rfl) (by simp) ?_
        refine AllReadyH.cons rfl (fun K20008 hK20008 => ?_) AllReadyH.nil
        go_simp
        refine hK20008.out _ _ ?hs20008 (fun hHeld20008 => ?_)
        case hs20008 => exact trivial
        clear hHeld
        have hHeld := hHeld20008; clear hHeld20008 hK20008 K20008
        refine wpAnyH_take (i := 4) (oi := ?oi20009) (v := ?v20009) ?hi20009 (by kernel_rfl) (by kernel_rfl) (by kernel_rfl) (fun _ _ _ h => h) (Or.inl ⟨?hw20009, ?hy20009⟩) (by assumption) ?rest20009
        case hi20009 => (simp only [List.getElem?_toArray, List.getElem?_cons_zero, List.getElem?_cons_succ]; rfl)
        case hw20009 => rfl
        case hy20009 => first | (intro wx hSw; go_simp; done) | (intro wx hSw; go_simp; with_reducible rfl)
        simp only [Act.put, List.setIfInBounds_toArray, List.set_cons_zero, List.set_cons_succ]
        refine wpAnyH_take (i := 9) (oi := ?oi20010) (v := ?v20010) ?hi20010 (by kernel_rfl) (by kernel_rfl) (by kernel_rfl) (fun _ _ _ h => h) (Or.inl ⟨?hw20010, ?hy20010⟩) (by assumption) ?rest20010
        case hi20010 => (simp only [List.getElem?_toArray, List.getElem?_cons_zero, List.getElem?_cons_succ]; rfl)
        case hw20010 => rfl
        case hy20010 => first | (intro wx hSw; go_simp; done) | (intro wx hSw; go_simp; with_reducible rfl)
        simp only [Act.put, List.setIfInBounds_toArray, List.set_cons_zero, List.set_cons_succ]
        refine wpAnyH_take (i := 10) (oi := ?oi20011) (v := ?v20011) ?hi20011 (by kernel_rfl) (by kernel_rfl) (by kernel_rfl) (fun _ _ _ h => h) (Or.inl ⟨?hw20011, ?hy20011⟩) (by assumption) ?rest20011
        case hi20011 => (simp only [List.getElem?_toArray, List.getElem?_cons_zero, List.getElem?_cons_succ]; rfl)
        case hw20011 => rfl
        case hy20011 => first | (intro wx hSw; go_simp; done) | (intro wx hSw; go_simp; with_reducible rfl)
        simp only [Act.put, List.setIfInBounds_toArray, List.set_cons_zero, List.set_cons_succ]
        have hfz := hbkd.froz o
        refine wpAnyH_ready (rs := [11]) (by kernel_rfl) (by simp) ?_
        refine AllReadyH.cons rfl (fun K20012 hK20012 => ?_) AllReadyH.nil
        go_simp
        refine hK20012.out _ _ ?hs20012 (fun hHeld20012 => ?_)
        case hs20012 => exact trivial
        clear hHeld
        have hHeld := hHeld20012; clear hHeld20012 hK20012 K20012
        refine wpAnyH_done (by kernel_rfl) ?_ _
        refine NoPanic.normal ?_
        refine hrest _ _ ?_
        clear hHeld
        have Q1 := qf_step hy hs hlk s[k]
        have Q2 := fx_step (unhide HQ) (unhide HY) hlk hks
        generalize bits BinOp.or IntKind.i64 (IntKind.i64.wrap (y * 256)) (IntKind.i64.wrap (s[k].toNat : Int)) = nv at *
        have hUn : Upd b o 1 W (Wd.setCell ⟨b, o, none⟩ (.int .i64 nv)) := hUd.trans (Upd.set _)
        have hcn : (Wd.setCell ⟨b, o, none⟩ (.int .i64 nv)).cell? ⟨b, o, none⟩ = some (.int .i64 nv) := (hbkd.set o _).cell o |>.trans (by rw [hbkd.cell] at hcyd; have := (Array.getElem?_eq_some_iff.1 hcyd).1; simp [this])
        go_wp2_with fail
        go_roundw
        case rel => exact ⟨k + 1, by omega, by go_num, _, Q1, hcn, Q2, hUn⟩
        case measure => simp [intOf] <;> omega
      · obtain rfl : k = sz := by omega
        have hbw : wr.cell? ⟨bs, 0, none⟩ = some (.int .i64 (k : Int)) := (World.cell?_of_block (a := ⟨bs, 0, none⟩) (hU.grown.block bs (Nat.lt_of_lt_of_le hbl hB.size) (by intro e; injection e with e; omega))).trans hbx
        have hks : k ≤ s.size := by omega
        go_wp2
        go_ret2
        refine TPost.done hy ⟨hU.mem (unhide HM), hcy⟩ ?_ (fun xt r0 h => ?_) hU
        · show (s.extract k s.size).size ≤ s.size
          rw [ByteArray.size_extract]; omega
        · have := unhide HY xt r0 h
          rw [Nat.sub_self] at this
          refine ⟨by simpa using this, ?_⟩
          show by8 (s.extract k s.size) = r0
          rw [by8_drop, (unhide HQ xt r0 h).2.2, List.drop_left' (fx_len _ _)]
end Go.Proofs.Ytjmmfgmmmdbenaa
