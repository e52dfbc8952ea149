/-
  The walk of the law ValReckons.
-/
import Derived.Test.YtofeecalpofklaaWI0
import Derived.Test.YtofeecalpofklaaH5
import Derived.Test.YtofeecalpofklaaZ5
import Derived.Deep.RegionHeld3
import Derived.Deep.DrawnRows
import Derived.Laws.IdiomStrings
namespace Go.Proofs.Ytofeecalpofklaa
open Go.RowKit
set_option linter.unusedSimpArgs false
set_option linter.unusedVariables false

def Row (b : Nat) (A : Array Value) (W : World) : Prop := b < W.heap.size ∧ ∀ j, W.cell? ⟨b, j, none⟩ = A[j]?
theorem row_alloc (A : Array Value) (T : TypeId) (W : World) : Row W.heap.size A (W.alloc (.cells A T)) := ⟨by simp, fun j => World.cell?_alloc_mark W A T (0, 0) j⟩
theorem row_below {b B : Nat} {A : Array Value} {W w1 : World} (h : Row b A W) (hB : b < B) (hb : Below B W w1) : Row b A w1 :=
  ⟨by have := hb.size; have := h.1; omega, fun j => (hb.cell (p := ⟨b, j, none⟩) hB).trans (h.2 j)⟩
theorem row_call {b : Nat} {A : Array Value} {W w1 : World} (h : Row b A W) (hb : Below W.heap.size W w1) : Row b A w1 := row_below h h.1 hb
theorem row_more {b : Nat} {A : Array Value} {W : World} (h : Row b A W) (o : Obj) : Row b A (W.alloc o) := row_call h ((Below.refl _ _).alloc (Nat.le_refl _) _)
abbrev lst (ky yn ys : Int) (yt : ByteArray) (kz zn zs : Int) (zt : ByteArray) (kx xn xs : Int) (xt : ByteArray) : Array Value :=
  #[.int .i64 ky, .int .i64 yn, .int .i64 ys, .string yt, .int .i64 kz, .int .i64 zn, .int .i64 zs, .string zt, .int .i64 kx, .int .i64 xn, .int .i64 xs, .string xt]
abbrev knd (k : Int) : Array Value := #[.int .i64 k, .int .i64 4, .int .i64 6, .int .i64 7, .int .i64 8]
/-- the world has but grown; a value and two lists stand in it -/
def SR (w : World) (bx bl bk : Nat) (kx xn xs : Int) (xt : ByteArray) (L K : Array Value) (W : World) : Prop :=
  Below w.heap.size w W ∧ Four bx (.int .i64 kx) (.int .i64 xn) (.int .i64 xs) (.string xt) W ∧ Row bl L W ∧ Row bk K W
theorem sr_below {w : World} {bx bl bk B : Nat} {kx xn xs : Int} {xt : ByteArray} {L K : Array Value} {W w1 : World} (h : SR w bx bl bk kx xn xs xt L K W) (hw : w.heap.size ≤ B) (h1 : bx < B) (h2 : bl < B) (h3 : bk < B) (hb : Below B W w1) : SR w bx bl bk kx xn xs xt L K w1 :=
  ⟨h.1.trans (hb.mono hw), four_below h.2.1 h1 hb, row_below h.2.2.1 h2 hb, row_below h.2.2.2 h3 hb⟩
theorem sr_call {w : World} {bx bl bk : Nat} {kx xn xs : Int} {xt : ByteArray} {L K : Array Value} {W w1 : World} (h : SR w bx bl bk kx xn xs xt L K W) (hb : Below W.heap.size W w1) : SR w bx bl bk kx xn xs xt L K w1 :=
  sr_below h h.1.size h.2.1.1 h.2.2.1.1 h.2.2.2.1 hb
/-- ... and what stands at two places of these lists -/
def SQ (w : World) (i j bx bl bk : Nat) (kx xn xs : Int) (xt : ByteArray) (L K : Array Value) (kk lk ln ls : Int) (lt : ByteArray) (W : World) : Prop :=
  SR w bx bl bk kx xn xs xt L K W ∧ W.cell? ⟨bk, i, none⟩ = some (.int .i64 kk) ∧
  (W.cell? ⟨bx, 0, none⟩ = some (.int .i64 kx) ∧ W.cell? ⟨bx, 1, none⟩ = some (.int .i64 xn) ∧ W.cell? ⟨bx, 2, none⟩ = some (.int .i64 xs) ∧ W.cell? ⟨bx, 3, none⟩ = some (.string xt)) ∧
  (W.cell? ⟨bl, j * 4, none⟩ = some (.int .i64 lk) ∧ W.cell? ⟨bl, j * 4 + 1, none⟩ = some (.int .i64 ln) ∧ W.cell? ⟨bl, j * 4 + 2, none⟩ = some (.int .i64 ls) ∧ W.cell? ⟨bl, j * 4 + 3, none⟩ = some (.string lt))
/-- the places of the lists -/
def At (i j : Nat) (L K : Array Value) (kk lk ln ls : Int) (lt : ByteArray) : Prop := K[i]? = some (.int .i64 kk) ∧ L[j * 4]? = some (.int .i64 lk) ∧ L[j * 4 + 1]? = some (.int .i64 ln) ∧ L[j * 4 + 2]? = some (.int .i64 ls) ∧ L[j * 4 + 3]? = some (.string lt)
theorem sq_of {w : World} {i j bx bl bk : Nat} {kx xn xs : Int} {xt : ByteArray} {L K : Array Value} {kk lk ln ls : Int} {lt : ByteArray} {W : World} (ha : At i j L K kk lk ln ls lt) (h : SR w bx bl bk kx xn xs xt L K W) : SQ w i j bx bl bk kx xn xs xt L K kk lk ln ls lt W :=
  ⟨h, (h.2.2.2.2 _).trans ha.1, ⟨h.2.1.2.1, h.2.1.2.2.1, h.2.1.2.2.2.1, h.2.1.2.2.2.2.1⟩, ⟨(h.2.2.1.2 _).trans ha.2.1, (h.2.2.1.2 _).trans ha.2.2.1, (h.2.2.1.2 _).trans ha.2.2.2.1, (h.2.2.1.2 _).trans ha.2.2.2.2⟩⟩
theorem at_lists (k ky yn ys : Int) (yt : ByteArray) (kz zn zs : Int) (zt : ByteArray) (kx xn xs : Int) (xt : ByteArray) (hy : Ok ky yn ys yt) (hz : Ok kz zn zs zt) (hx : Ok kx xn xs xt) (i j : Nat) (hi : i < 5) (hj : j < 3) :
    ∃ kk lk ln ls lt, At i j (lst ky yn ys yt kz zn zs zt kx xn xs xt) (knd k) kk lk ln ls lt ∧ Ok lk ln ls lt := by
  match i, hi, j, hj with
  | 0, _, 0, _ => exact ⟨_, _, _, _, _, ⟨rfl, rfl, rfl, rfl, rfl⟩, hy⟩
  | 0, _, 1, _ => exact ⟨_, _, _, _, _, ⟨rfl, rfl, rfl, rfl, rfl⟩, hz⟩
  | 0, _, 2, _ => exact ⟨_, _, _, _, _, ⟨rfl, rfl, rfl, rfl, rfl⟩, hx⟩
  | 1, _, 0, _ => exact ⟨_, _, _, _, _, ⟨rfl, rfl, rfl, rfl, rfl⟩, hy⟩
  | 1, _, 1, _ => exact ⟨_, _, _, _, _, ⟨rfl, rfl, rfl, rfl, rfl⟩, hz⟩
  | 1, _, 2, _ => exact ⟨_, _, _, _, _, ⟨rfl, rfl, rfl, rfl, rfl⟩, hx⟩
  | 2, _, 0, _ => exact ⟨_, _, _, _, _, ⟨rfl, rfl, rfl, rfl, rfl⟩, hy⟩
  | 2, _, 1, _ => exact ⟨_, _, _, _, _, ⟨rfl, rfl, rfl, rfl, rfl⟩, hz⟩
  | 2, _, 2, _ => exact ⟨_, _, _, _, _, ⟨rfl, rfl, rfl, rfl, rfl⟩, hx⟩
  | 3, _, 0, _ => exact ⟨_, _, _, _, _, ⟨rfl, rfl, rfl, rfl, rfl⟩, hy⟩
  | 3, _, 1, _ => exact ⟨_, _, _, _, _, ⟨rfl, rfl, rfl, rfl, rfl⟩, hz⟩
  | 3, _, 2, _ => exact ⟨_, _, _, _, _, ⟨rfl, rfl, rfl, rfl, rfl⟩, hx⟩
  | 4, _, 0, _ => exact ⟨_, _, _, _, _, ⟨rfl, rfl, rfl, rfl, rfl⟩, hy⟩
  | 4, _, 1, _ => exact ⟨_, _, _, _, _, ⟨rfl, rfl, rfl, rfl, rfl⟩, hz⟩
  | 4, _, 2, _ => exact ⟨_, _, _, _, _, ⟨rfl, rfl, rfl, rfl, rfl⟩, hx⟩

/-- what is reckoned: by val, by the reference; it is right -/
def Told (kk kx xn xs : Int) (xt : ByteArray) (lk ln ls : Int) (lt : ByteArray) (vk vn vs e : Int) : Prop :=
  (∀ W, Calls Try.prog 23 #[.int .i64 kk, V kx xn xs xt, V lk ln ls lt] W fun r w' => r = .returned (.tuple #[V vk vn vs ⟨#[]⟩, .int .i64 e]) ∧ Below W.heap.size W w') ∧
  (∀ W, Calls Try.prog 24 #[.int .i64 kk, V kx xn xs xt, V lk ln ls lt] W fun r w' => r = .returned (.tuple #[V vk vn vs ⟨#[]⟩, .int .i64 e]) ∧ Below W.heap.size W w') ∧
  (e ≠ 0 ∨ (e = 0 ∧ ∀ W, Calls Try.prog 12 #[V vk vn vs ⟨#[]⟩] W fun r w' => r = .returned (.bool true) ∧ Below W.heap.size W w'))
theorem told_ok (kk kx xn xs : Int) (xt : ByteArray) (lk ln ls : Int) (lt : ByteArray) (hx : Ok kx xn xs xt) (hl : Ok lk ln ls lt) : ∃ vk vn vs e, Told kk kx xn xs xt lk ln ls lt vk vn vs e := by
  have hr : ∀ (k kx xn xs ky yn ys : Int), (recR k kx xn xs ky yn ys).2 ≠ 0 ∨ ((recR k kx xn xs ky yn ys).2 = 0 ∧ ∀ W, Calls Try.prog 12 #[V (recR k kx xn xs ky yn ys).1.1 (recR k kx xn xs ky yn ys).1.2.1 (recR k kx xn xs ky yn ys).1.2.2 ⟨#[]⟩] W fun r w' => r = .returned (.bool true) ∧ Below W.heap.size W w') := by
    intro k kx xn xs ky yn ys
    by_cases h : (recR k kx xn xs ky yn ys).2 = 0
    · right; refine ⟨h, fun W => ?_⟩
      have := right_any (recR k kx xn xs ky yn ys).1.1 (recR k kx xn xs ky yn ys).1.2.1 (recR k kx xn xs ky yn ys).1.2.2 ⟨#[]⟩ W (by decide)
      rw [rec_right k kx xn xs ky yn ys h] at this; exact this
    · left; exact h
  have h1 := fun W => reckon_any kk kx xn xs xt lk ln ls lt W (ok_64 hx) (ok_64 hl) (fun h => ⟨ok_scale hx, ok_empty hx (by omega)⟩) (fun h => ⟨ok_scale hl, ok_empty hl (by omega)⟩)
  have h2 := fun W => rreckon_ok kk kx xn xs xt lk ln ls lt W hx hl
  by_cases h4 : kk = 4
  · simp only [if_pos h4] at h1 h2
    exact ⟨_, _, _, _, h1, h2, hr 8 kx 0 0 kx xn xs⟩
  · simp only [if_neg h4] at h1 h2
    exact ⟨_, _, _, _, h1, h2, hr kk kx xn xs lk ln ls⟩

set_option maxHeartbeats 16000000 in
set_option maxRecDepth 100000 in
theorem reckons_walk (kind a n b m rb : Int) (s : ByteArray) (w : World) (hs : s.size ≤ 100) (ht1 : -6 < a.tmod 6) (ht2 : a.tmod 6 < 6) (hr1 : 0 ≤ rb) (hr2 : rb < 40)
    (MX : Hid (∀ W, Calls Try.prog 11 #[.int .i64 a, .int .i64 n, .string s] W fun e w' => Made e (a % 6) ∧ Below W.heap.size W w'))
    (MY : Hid (∀ W, Calls Try.prog 11 #[.int .i64 b, .int .i64 m, .string s] W fun e w' => Made e (b % 6) ∧ Below W.heap.size W w'))
    (WB : Hid (∀ W, Calls Try.prog 14 #[.int .i64 b, .int .i64 40] W fun e w' => e = .returned (.int .i64 rb) ∧ w' = W))
    (MZ : Hid (∀ W q, Is64 q → Calls Try.prog 11 #[.int .i64 q, .int .i64 m, .string s] W fun e w' => Made e (q % 6) ∧ Below W.heap.size W w')) :
    Calls Try.prog 5 #[.int .i64 kind, .int .i64 a, .int .i64 n, .int .i64 b, .int .i64 m, .string s] w fun e w' => e = .returned (.bool true) ∧ Below w.heap.size w w' := by
  have hL := hide (Below.refl w.heap.size w)
  go_enter Try.func5, Try.ntmps5
  go_wp2_with fail
  refine (known_any _).mono ?_
  rintro e w1 ⟨rfl, hb1⟩
  replace hL := hide ((unhide hL).trans (hb1.mono (unhide hL).size))
  clear hb1
  go_wp2_with fail
  refine (unhide MX _).mono ?_
  rintro e w2 ⟨⟨xn, xs, xt, okx, rfl⟩, hb2⟩
  have OX := hide okx
  replace hL := hide ((unhide hL).trans (hb2.mono (unhide hL).size))
  clear hb2 okx
  go_wp2_with fail
  refine (unhide MY _).mono ?_
  rintro e w3 ⟨⟨yn, ys, yt, oky, rfl⟩, hb3⟩
  have OY := hide oky
  replace hL := hide ((unhide hL).trans (hb3.mono (unhide hL).size))
  clear hb3 oky
  generalize a % 6 = kx at *
  generalize b % 6 = ky at *
  have hX := hide (four_more (four_alloc (.int .i64 kx) (.int .i64 xn) (.int .i64 xs) (.string xt) 23 w3) (.cells #[.int .i64 ky, .int .i64 yn, .int .i64 ys, .string yt] 23))
  have hY := four_alloc (.int .i64 ky) (.int .i64 yn) (.int .i64 ys) (.string yt) 23 (w3.alloc (.cells #[.int .i64 kx, .int .i64 xn, .int .i64 xs, .string xt] 23))
  rw [World.size_alloc] at hY
  replace hY := hide hY
  replace hL := hide (((unhide hL).alloc (unhide hL).size (.cells #[.int .i64 kx, .int .i64 xn, .int .i64 xs, .string xt] 23)).alloc (Nat.le_trans (unhide hL).size (by simp)) (.cells #[.int .i64 ky, .int .i64 yn, .int .i64 ys, .string yt] 23))
  go_wp2_with (go_at_call 14; refine (unhide WB _).mono ?_; rintro e w' ⟨rfl, rfl⟩)
  refine (unhide MZ _ _ ?_).mono ?_
  · unfold Is64; omega
  rintro e w4 ⟨⟨zn, zs, zt, okz, rfl⟩, hb4⟩
  generalize (a.tmod 6 + 6 * rb) % 6 = kz at *
  have OZ := hide okz
  replace hX := hide (four_more (four_call (unhide hX) hb4) (.cells #[.int .i64 kz, .int .i64 zn, .int .i64 zs, .string zt] 23))
  replace hY := hide (four_more (four_call (unhide hY) hb4) (.cells #[.int .i64 kz, .int .i64 zn, .int .i64 zs, .string zt] 23))
  have hZ := hide (four_alloc (.int .i64 kz) (.int .i64 zn) (.int .i64 zs) (.string zt) 23 w4)
  replace hL := hide (((unhide hL).trans (hb4.mono (unhide hL).size)).alloc (Nat.le_trans (unhide hL).size hb4.size) (.cells #[.int .i64 kz, .int .i64 zn, .int .i64 zs, .string zt] 23))
  clear hb4 okz MX MY MZ WB
  obtain ⟨-, x0, x1, x2, x3, -⟩ := unhide hX
  obtain ⟨-, y0, y1, y2, y3, -⟩ := unhide hY
  obtain ⟨-, z0, z1, z2, z3, -⟩ := unhide hZ
  go_wp2_with fail
  clear x0 x1 x2 x3 y0 y1 y2 y3 z0 z1 z2 z3
  have hLs := row_alloc (lst ky yn ys yt kz zn zs zt kx xn xs xt) 23 (w4.alloc (.cells #[.int .i64 kz, .int .i64 zn, .int .i64 zs, .string zt] 23))
  rw [World.size_alloc] at hLs
  replace hLs := row_more hLs (.cells (knd kind) 3)
  have hKs := row_alloc (knd kind) 3 ((w4.alloc (.cells #[.int .i64 kz, .int .i64 zn, .int .i64 zs, .string zt] 23)).alloc (.cells (lst ky yn ys yt kz zn zs zt kx xn xs xt) 23))
  rw [World.size_alloc, World.size_alloc] at hKs
  have hS : Hid (SR w w3.heap.size (w4.heap.size + 1) (w4.heap.size + 1 + 1) kx xn xs xt (lst ky yn ys yt kz zn zs zt kx xn xs xt) (knd kind) (((w4.alloc (.cells #[.int .i64 kz, .int .i64 zn, .int .i64 zs, .string zt] 23)).alloc (.cells (lst ky yn ys yt kz zn zs zt kx xn xs xt) 23)).alloc (.cells (knd kind) 3))) :=
    ⟨((unhide hL).alloc (unhide hL).size _).alloc (Nat.le_trans (unhide hL).size (by simp)) _, four_more (four_more (unhide hX) _) _, hLs, hKs⟩
  clear hL hX hY hZ hLs hKs
  have AT := hide (fun i j => at_lists kind ky yn ys yt kz zn zs zt kx xn xs xt (unhide OY) (unhide OZ) (unhide OX) i j)
  have TO := hide (fun kk lk ln ls lt hl => told_ok kk kx xn xs xt lk ln ls lt (unhide OX) hl)
  go_loopw [18] (fun i wr => ∃ p : Nat, p ≤ 5 ∧ i = .int .i64 p ∧ Hid (SR w w3.heap.size (w4.heap.size + 1) (w4.heap.size + 1 + 1) kx xn xs xt (lst ky yn ys yt kz zn zs zt kx xn xs xt) (knd kind) wr)) (fun i _ => 5 - (intOf i).toNat)
  case atStart => exact ⟨0, by decide, rfl, hS⟩
  case round =>
    clear hS
    obtain ⟨p, hp, rfl, HS⟩ := hrel
    by_cases hlt : p < 5
    · have hlt5 : (p : Int) < 5 := by omega
      go_wp2
      go_loopw [19] (fun j wr => ∃ q : Nat, q ≤ 3 ∧ j = .int .i64 q ∧ Hid (SR w w3.heap.size (w4.heap.size + 1) (w4.heap.size + 1 + 1) kx xn xs xt (lst ky yn ys yt kz zn zs zt kx xn xs xt) (knd kind) wr)) (fun j _ => 3 - (intOf j).toNat)
      case atStart => exact ⟨0, by decide, rfl, HS⟩
      case round =>
        clear HS
        obtain ⟨q, hq, rfl, HS⟩ := hrel
        by_cases hlq : q < 3
        · have hlq3 : (q : Int) < 3 := by omega
          obtain ⟨kk, lk, ln, ls, lt, hat, okl⟩ := unhide AT p q hlt hlq
          obtain ⟨vk, vn, vs, e, htold⟩ := unhide TO kk lk ln ls lt okl
          have HAT := hide hat
          have HTO := hide htold
          clear hat htold okl
          go_wp2_with fail
          rename_i hrest
          refine wp_region_noPanic ?_
          refine wp_region_held_drew (S := SQ w p q w3.heap.size (w4.heap.size + 1) (w4.heap.size + 1 + 1) kx xn xs xt (lst ky yn ys yt kz zn zs zt kx xn xs xt) (knd kind) kk lk ln ls lt) (by kernel_rfl) (sq_of (unhide HAT) (sr_call (unhide HS) (Below.refl _ _).drew)) (fun hHeld => ?_)
          clear HS
          revert hHeld
          generalize World.drew _ = Wd7001
          intro hHeld
          refine wpAnyH_take (i := 0) (oi := ?oi1001) (v := ?v1001) ?hi1001 (by kernel_rfl) (by kernel_rfl) (by kernel_rfl) (fun _ _ _ h => h) (Or.inl ⟨?hw1001, ?hy1001⟩) (by assumption) ?rest1001
          case hi1001 => (simp only [List.getElem?_toArray, List.getElem?_cons_zero]; rfl)
          case hw1001 => rfl
          case hy1001 => first | (intro wx hSw; obtain ⟨-, k0, ⟨a0, a1, a2, a3⟩, ⟨b0, b1, b2, b3⟩⟩ := hSw; go_simp; done) | (intro wx hSw; obtain ⟨-, k0, ⟨a0, a1, a2, a3⟩, ⟨b0, b1, b2, b3⟩⟩ := hSw; go_simp; with_reducible rfl)
          simp only [Act.put, List.setIfInBounds_toArray, List.set_cons_zero, List.set_cons_succ]
          refine wpAnyH_take (i := 1) (oi := ?oi1002) (v := ?v1002) ?hi1002 (by kernel_rfl) (by kernel_rfl) (by kernel_rfl) (fun _ _ _ h => h) (Or.inl ⟨?hw1002, ?hy1002⟩) (by assumption) ?rest1002
          case hi1002 => (simp only [List.getElem?_toArray, List.getElem?_cons_zero, List.getElem?_cons_succ]; rfl)
          case hw1002 => rfl
          case hy1002 => first | (intro wx hSw; obtain ⟨-, k0, ⟨a0, a1, a2, a3⟩, ⟨b0, b1, b2, b3⟩⟩ := hSw; go_simp; done) | (intro wx hSw; obtain ⟨-, k0, ⟨a0, a1, a2, a3⟩, ⟨b0, b1, b2, b3⟩⟩ := hSw; go_simp; with_reducible rfl)
          simp only [Act.put, List.setIfInBounds_toArray, List.set_cons_zero, List.set_cons_succ]
          refine wpAnyH_take (i := 2) (oi := ?oi1003) (v := ?v1003) ?hi1003 (by kernel_rfl) (by kernel_rfl) (by kernel_rfl) (fun _ _ _ h => h) (Or.inl ⟨?hw1003, ?hy1003⟩) (by assumption) ?rest1003
          case hi1003 => (simp only [List.getElem?_toArray, List.getElem?_cons_zero, List.getElem?_cons_succ]; rfl)
          case hw1003 => rfl
          case hy1003 => first | (intro wx hSw; obtain ⟨-, k0, ⟨a0, a1, a2, a3⟩, ⟨b0, b1, b2, b3⟩⟩ := hSw; go_simp; done) | (intro wx hSw; obtain ⟨-, k0, ⟨a0, a1, a2, a3⟩, ⟨b0, b1, b2, b3⟩⟩ := hSw; go_simp; with_reducible rfl)
          simp only [Act.put, List.setIfInBounds_toArray, List.set_cons_zero, List.set_cons_succ]
          refine wpAnyH_take (i := 3) (oi := ?oi1004) (v := ?v1004) ?hi1004 (by kernel_rfl) (by kernel_rfl) (by kernel_rfl) (fun _ _ _ h => h) (Or.inl ⟨?hw1004, ?hy1004⟩) (by assumption) ?rest1004
          case hi1004 => (simp only [List.getElem?_toArray, List.getElem?_cons_zero, List.getElem?_cons_succ]; rfl)
          case hw1004 => rfl
          case hy1004 => first | (intro wx hSw; obtain ⟨-, k0, ⟨a0, a1, a2, a3⟩, ⟨b0, b1, b2, b3⟩⟩ := hSw; go_simp; done) | (intro wx hSw; obtain ⟨-, k0, ⟨a0, a1, a2, a3⟩, ⟨b0, b1, b2, b3⟩⟩ := hSw; go_simp; with_reducible rfl)
          simp only [Act.put, List.setIfInBounds_toArray, List.set_cons_zero, List.set_cons_succ]
          refine wpAnyH_take (i := 4) (oi := ?oi1005) (v := ?v1005) ?hi1005 (by kernel_rfl) (by kernel_rfl) (by kernel_rfl) (fun _ _ _ h => h) (Or.inl ⟨?hw1005, ?hy1005⟩) (by assumption) ?rest1005
          case hi1005 => (simp only [List.getElem?_toArray, List.getElem?_cons_zero, List.getElem?_cons_succ]; rfl)
          case hw1005 => rfl
          case hy1005 => first | (intro wx hSw; obtain ⟨-, k0, ⟨a0, a1, a2, a3⟩, ⟨b0, b1, b2, b3⟩⟩ := hSw; go_simp; done) | (intro wx hSw; obtain ⟨-, k0, ⟨a0, a1, a2, a3⟩, ⟨b0, b1, b2, b3⟩⟩ := hSw; go_simp; with_reducible rfl)
          simp only [Act.put, List.setIfInBounds_toArray, List.set_cons_zero, List.set_cons_succ]
          refine wpAnyH_take (i := 5) (oi := ?oi1006) (v := ?v1006) ?hi1006 (by kernel_rfl) (by kernel_rfl) (by kernel_rfl) (fun _ _ _ h => h) (Or.inl ⟨?hw1006, ?hy1006⟩) (by assumption) ?rest1006
          case hi1006 => (simp only [List.getElem?_toArray, List.getElem?_cons_zero, List.getElem?_cons_succ]; rfl)
          case hw1006 => rfl
          case hy1006 => first | (intro wx hSw; obtain ⟨-, k0, ⟨a0, a1, a2, a3⟩, ⟨b0, b1, b2, b3⟩⟩ := hSw; go_simp; done) | (intro wx hSw; obtain ⟨-, k0, ⟨a0, a1, a2, a3⟩, ⟨b0, b1, b2, b3⟩⟩ := hSw; go_simp; with_reducible rfl)
          simp only [Act.put, List.setIfInBounds_toArray, List.set_cons_zero, List.set_cons_succ]
          refine wpAnyH_take (i := 6) (oi := ?oi1007) (v := ?v1007) ?hi1007 (by kernel_rfl) (by kernel_rfl) (by kernel_rfl) (fun _ _ _ h => h) (Or.inl ⟨?hw1007, ?hy1007⟩) (by assumption) ?rest1007
          case hi1007 => (simp only [List.getElem?_toArray, List.getElem?_cons_zero, List.getElem?_cons_succ]; rfl)
          case hw1007 => rfl
          case hy1007 => first | (intro wx hSw; obtain ⟨-, k0, ⟨a0, a1, a2, a3⟩, ⟨b0, b1, b2, b3⟩⟩ := hSw; go_simp; done) | (intro wx hSw; obtain ⟨-, k0, ⟨a0, a1, a2, a3⟩, ⟨b0, b1, b2, b3⟩⟩ := hSw; go_simp; with_reducible rfl)
          simp only [Act.put, List.setIfInBounds_toArray, List.set_cons_zero, List.set_cons_succ]
          refine wpAnyH_take (i := 7) (oi := ?oi1008) (v := ?v1008) ?hi1008 (by kernel_rfl) (by kernel_rfl) (by kernel_rfl) (fun _ _ _ h => h) (Or.inl ⟨?hw1008, ?hy1008⟩) (by assumption) ?rest1008
          case hi1008 => (simp only [List.getElem?_toArray, List.getElem?_cons_zero, List.getElem?_cons_succ]; rfl)
          case hw1008 => rfl
          case hy1008 => first | (intro wx hSw; obtain ⟨-, k0, ⟨a0, a1, a2, a3⟩, ⟨b0, b1, b2, b3⟩⟩ := hSw; go_simp; done) | (intro wx hSw; obtain ⟨-, k0, ⟨a0, a1, a2, a3⟩, ⟨b0, b1, b2, b3⟩⟩ := hSw; go_simp; with_reducible rfl)
          simp only [Act.put, List.setIfInBounds_toArray, List.set_cons_zero, List.set_cons_succ]
          refine wpAnyH_take (i := 8) (oi := ?oi1009) (v := ?v1009) ?hi1009 (by kernel_rfl) (by kernel_rfl) (by kernel_rfl) (fun _ _ _ h => h) (Or.inl ⟨?hw1009, ?hy1009⟩) (by assumption) ?rest1009
          case hi1009 => (simp only [List.getElem?_toArray, List.getElem?_cons_zero, List.getElem?_cons_succ]; rfl)
          case hw1009 => rfl
          case hy1009 => first | (intro wx hSw; obtain ⟨-, k0, ⟨a0, a1, a2, a3⟩, ⟨b0, b1, b2, b3⟩⟩ := hSw; go_simp; done) | (intro wx hSw; obtain ⟨-, k0, ⟨a0, a1, a2, a3⟩, ⟨b0, b1, b2, b3⟩⟩ := hSw; go_simp; with_reducible rfl)
          simp only [Act.put, List.setIfInBounds_toArray, List.set_cons_zero, List.set_cons_succ]
          refine wpAnyH_ready (rs := [9, 13]) (by kernel_rfl) (by simp) ?_
          refine AllReadyH.cons rfl (fun K7002 hK7002 => ?_) ?_
          · go_simp
            go_wp2_with (go_at_call 23; refine ((unhide HTO).1 _).mono ?_; rintro r wc7001 ⟨rfl, hb⟩)
            refine hK7002.out _ _ ?hs7002 (fun hHeld7002 => ?_)
            case hs7002 => exact sq_of (unhide HAT) (sr_call hHeld.1 hb)
            clear hHeld
            have hHeld := hHeld7002; clear hHeld7002 hK7002 K7002
            clear hb
            refine wpAnyH_take (i := 10) (oi := ?oi1010) (v := ?v1010) ?hi1010 (by kernel_rfl) (by kernel_rfl) (by kernel_rfl) (fun _ _ _ h => h) (Or.inl ⟨?hw1010, ?hy1010⟩) (by assumption) ?rest1010
            case hi1010 => (simp only [List.getElem?_toArray, List.getElem?_cons_zero, List.getElem?_cons_succ]; rfl)
            case hw1010 => rfl
            case hy1010 => first | (intro wx hSw; obtain ⟨-, k0, ⟨a0, a1, a2, a3⟩, ⟨b0, b1, b2, b3⟩⟩ := hSw; go_simp; done) | (intro wx hSw; obtain ⟨-, k0, ⟨a0, a1, a2, a3⟩, ⟨b0, b1, b2, b3⟩⟩ := hSw; go_simp; with_reducible rfl)
            simp only [Act.put, List.setIfInBounds_toArray, List.set_cons_zero, List.set_cons_succ]
            refine wpAnyH_take (i := 11) (oi := ?oi1011) (v := ?v1011) ?hi1011 (by kernel_rfl) (by kernel_rfl) (by kernel_rfl) (fun _ _ _ h => h) (Or.inl ⟨?hw1011, ?hy1011⟩) (by assumption) ?rest1011
            case hi1011 => (simp only [List.getElem?_toArray, List.getElem?_cons_zero, List.getElem?_cons_succ]; rfl)
            case hw1011 => rfl
            case hy1011 => first | (intro wx hSw; obtain ⟨-, k0, ⟨a0, a1, a2, a3⟩, ⟨b0, b1, b2, b3⟩⟩ := hSw; go_simp; done) | (intro wx hSw; obtain ⟨-, k0, ⟨a0, a1, a2, a3⟩, ⟨b0, b1, b2, b3⟩⟩ := hSw; go_simp; with_reducible rfl)
            simp only [Act.put, List.setIfInBounds_toArray, List.set_cons_zero, List.set_cons_succ]
            refine wpAnyH_take (i := 12) (oi := ?oi1012) (v := ?v1012) ?hi1012 (by kernel_rfl) (by kernel_rfl) (by kernel_rfl) (fun _ _ _ h => h) (Or.inl ⟨?hw1012, ?hy1012⟩) (by assumption) ?rest1012
            case hi1012 => (simp only [List.getElem?_toArray, List.getElem?_cons_zero, List.getElem?_cons_succ]; rfl)
            case hw1012 => rfl
            case hy1012 => first | (intro wx hSw; obtain ⟨-, k0, ⟨a0, a1, a2, a3⟩, ⟨b0, b1, b2, b3⟩⟩ := hSw; go_simp; done) | (intro wx hSw; obtain ⟨-, k0, ⟨a0, a1, a2, a3⟩, ⟨b0, b1, b2, b3⟩⟩ := hSw; go_simp; with_reducible rfl)
            simp only [Act.put, List.setIfInBounds_toArray, List.set_cons_zero, List.set_cons_succ]
            have hW0 := hide hHeld
            refine wpAnyH_ready (rs := [13]) (by kernel_rfl) (by simp) ?_
            refine AllReadyH.cons rfl (fun K7003 hK7003 => ?_) AllReadyH.nil
            go_simp
            refine hK7003.out _ _ ?hs7003 (fun hHeld7003 => ?_)
            case hs7003 => exact sq_of (unhide HAT) (sr_call (unhide hW0).1 ((Below.refl _ _).alloc (Nat.le_refl _) _))
            clear hHeld
            have hHeld := hHeld7003; clear hHeld7003 hK7003 K7003
            refine wpAnyH_ready (rs := [14]) (by kernel_rfl) (by simp) ?_
            refine AllReadyH.cons rfl (fun K7004 hK7004 => ?_) AllReadyH.nil
            go_simp
            refine hK7004.out _ _ ?hs7004 (fun hHeld7004 => ?_)
            case hs7004 => exact sq_of (unhide HAT) (sr_call (unhide hW0).1 ((Below.refl _ _).alloc (Nat.le_refl _) _))
            clear hHeld
            have hHeld := hHeld7004; clear hHeld7004 hK7004 K7004
            refine wpAnyH_take (i := 15) (oi := ?oi1013) (v := ?v1013) ?hi1013 (by kernel_rfl) (by kernel_rfl) (by kernel_rfl) (fun _ _ _ h => h) (Or.inl ⟨?hw1013, ?hy1013⟩) (by assumption) ?rest1013
            case hi1013 => (simp only [List.getElem?_toArray, List.getElem?_cons_zero, List.getElem?_cons_succ]; rfl)
            case hw1013 => rfl
            case hy1013 => first | (intro wx hSw; obtain ⟨-, k0, ⟨a0, a1, a2, a3⟩, ⟨b0, b1, b2, b3⟩⟩ := hSw; go_simp; done) | (intro wx hSw; obtain ⟨-, k0, ⟨a0, a1, a2, a3⟩, ⟨b0, b1, b2, b3⟩⟩ := hSw; go_simp; with_reducible rfl)
            simp only [Act.put, List.setIfInBounds_toArray, List.set_cons_zero, List.set_cons_succ]
            clear hW0
            refine wpAnyH_done (by kernel_rfl) ?_ _
            refine NoPanic.normal ?_
            refine hrest _ _ ?_
            clear hrest
            have HS := hide hHeld.1
            clear hHeld
            have hV := hide (four_alloc (.int .i64 vk) (.int .i64 vn) (.int .i64 vs) (.string ⟨#[]⟩) 23 wc7001)
            go_wp2_with fail
            rename_i hrest
            refine wp_region_noPanic ?_
            refine wp_region_held_drew (S := (fun W => SQ w p q w3.heap.size (w4.heap.size + 1) (w4.heap.size + 1 + 1) kx xn xs xt (lst ky yn ys yt kz zn zs zt kx xn xs xt) (knd kind) kk lk ln ls lt W ∧ Four wc7001.heap.size (.int .i64 vk) (.int .i64 vn) (.int .i64 vs) (.string ⟨#[]⟩) W)) (by kernel_rfl) (⟨sq_of (unhide HAT) (sr_call (unhide HS) (Below.refl _ _).drew), four_drew (unhide hV)⟩) (fun hHeld => ?_)
            clear HS hV
            revert hHeld
            generalize World.drew _ = Wd7005
            intro hHeld
            refine wpAnyH_take (i := 0) (oi := ?oi1014) (v := ?v1014) ?hi1014 (by kernel_rfl) (by kernel_rfl) (by kernel_rfl) (fun _ _ _ h => h) (Or.inl ⟨?hw1014, ?hy1014⟩) (by assumption) ?rest1014
            case hi1014 => (simp only [List.getElem?_toArray, List.getElem?_cons_zero]; rfl)
            case hw1014 => rfl
            case hy1014 => first | (intro wx hSw; obtain ⟨⟨-, k0, ⟨a0, a1, a2, a3⟩, ⟨b0, b1, b2, b3⟩⟩, -⟩ := hSw; go_simp; done) | (intro wx hSw; obtain ⟨⟨-, k0, ⟨a0, a1, a2, a3⟩, ⟨b0, b1, b2, b3⟩⟩, -⟩ := hSw; go_simp; with_reducible rfl)
            simp only [Act.put, List.setIfInBounds_toArray, List.set_cons_zero, List.set_cons_succ]
            refine wpAnyH_take (i := 1) (oi := ?oi1015) (v := ?v1015) ?hi1015 (by kernel_rfl) (by kernel_rfl) (by kernel_rfl) (fun _ _ _ h => h) (Or.inl ⟨?hw1015, ?hy1015⟩) (by assumption) ?rest1015
            case hi1015 => (simp only [List.getElem?_toArray, List.getElem?_cons_zero, List.getElem?_cons_succ]; rfl)
            case hw1015 => rfl
            case hy1015 => first | (intro wx hSw; obtain ⟨⟨-, k0, ⟨a0, a1, a2, a3⟩, ⟨b0, b1, b2, b3⟩⟩, -⟩ := hSw; go_simp; done) | (intro wx hSw; obtain ⟨⟨-, k0, ⟨a0, a1, a2, a3⟩, ⟨b0, b1, b2, b3⟩⟩, -⟩ := hSw; go_simp; with_reducible rfl)
            simp only [Act.put, List.setIfInBounds_toArray, List.set_cons_zero, List.set_cons_succ]
            refine wpAnyH_take (i := 2) (oi := ?oi1016) (v := ?v1016) ?hi1016 (by kernel_rfl) (by kernel_rfl) (by kernel_rfl) (fun _ _ _ h => h) (Or.inl ⟨?hw1016, ?hy1016⟩) (by assumption) ?rest1016
            case hi1016 => (simp only [List.getElem?_toArray, List.getElem?_cons_zero, List.getElem?_cons_succ]; rfl)
            case hw1016 => rfl
            case hy1016 => first | (intro wx hSw; obtain ⟨⟨-, k0, ⟨a0, a1, a2, a3⟩, ⟨b0, b1, b2, b3⟩⟩, -⟩ := hSw; go_simp; done) | (intro wx hSw; obtain ⟨⟨-, k0, ⟨a0, a1, a2, a3⟩, ⟨b0, b1, b2, b3⟩⟩, -⟩ := hSw; go_simp; with_reducible rfl)
            simp only [Act.put, List.setIfInBounds_toArray, List.set_cons_zero, List.set_cons_succ]
            refine wpAnyH_take (i := 3) (oi := ?oi1017) (v := ?v1017) ?hi1017 (by kernel_rfl) (by kernel_rfl) (by kernel_rfl) (fun _ _ _ h => h) (Or.inl ⟨?hw1017, ?hy1017⟩) (by assumption) ?rest1017
            case hi1017 => (simp only [List.getElem?_toArray, List.getElem?_cons_zero, List.getElem?_cons_succ]; rfl)
            case hw1017 => rfl
            case hy1017 => first | (intro wx hSw; obtain ⟨⟨-, k0, ⟨a0, a1, a2, a3⟩, ⟨b0, b1, b2, b3⟩⟩, -⟩ := hSw; go_simp; done) | (intro wx hSw; obtain ⟨⟨-, k0, ⟨a0, a1, a2, a3⟩, ⟨b0, b1, b2, b3⟩⟩, -⟩ := hSw; go_simp; with_reducible rfl)
            simp only [Act.put, List.setIfInBounds_toArray, List.set_cons_zero, List.set_cons_succ]
            refine wpAnyH_take (i := 4) (oi := ?oi1018) (v := ?v1018) ?hi1018 (by kernel_rfl) (by kernel_rfl) (by kernel_rfl) (fun _ _ _ h => h) (Or.inl ⟨?hw1018, ?hy1018⟩) (by assumption) ?rest1018
            case hi1018 => (simp only [List.getElem?_toArray, List.getElem?_cons_zero, List.getElem?_cons_succ]; rfl)
            case hw1018 => rfl
            case hy1018 => first | (intro wx hSw; obtain ⟨⟨-, k0, ⟨a0, a1, a2, a3⟩, ⟨b0, b1, b2, b3⟩⟩, -⟩ := hSw; go_simp; done) | (intro wx hSw; obtain ⟨⟨-, k0, ⟨a0, a1, a2, a3⟩, ⟨b0, b1, b2, b3⟩⟩, -⟩ := hSw; go_simp; with_reducible rfl)
            simp only [Act.put, List.setIfInBounds_toArray, List.set_cons_zero, List.set_cons_succ]
            refine wpAnyH_take (i := 5) (oi := ?oi1019) (v := ?v1019) ?hi1019 (by kernel_rfl) (by kernel_rfl) (by kernel_rfl) (fun _ _ _ h => h) (Or.inl ⟨?hw1019, ?hy1019⟩) (by assumption) ?rest1019
            case hi1019 => (simp only [List.getElem?_toArray, List.getElem?_cons_zero, List.getElem?_cons_succ]; rfl)
            case hw1019 => rfl
            case hy1019 => first | (intro wx hSw; obtain ⟨⟨-, k0, ⟨a0, a1, a2, a3⟩, ⟨b0, b1, b2, b3⟩⟩, -⟩ := hSw; go_simp; done) | (intro wx hSw; obtain ⟨⟨-, k0, ⟨a0, a1, a2, a3⟩, ⟨b0, b1, b2, b3⟩⟩, -⟩ := hSw; go_simp; with_reducible rfl)
            simp only [Act.put, List.setIfInBounds_toArray, List.set_cons_zero, List.set_cons_succ]
            refine wpAnyH_take (i := 6) (oi := ?oi1020) (v := ?v1020) ?hi1020 (by kernel_rfl) (by kernel_rfl) (by kernel_rfl) (fun _ _ _ h => h) (Or.inl ⟨?hw1020, ?hy1020⟩) (by assumption) ?rest1020
            case hi1020 => (simp only [List.getElem?_toArray, List.getElem?_cons_zero, List.getElem?_cons_succ]; rfl)
            case hw1020 => rfl
            case hy1020 => first | (intro wx hSw; obtain ⟨⟨-, k0, ⟨a0, a1, a2, a3⟩, ⟨b0, b1, b2, b3⟩⟩, -⟩ := hSw; go_simp; done) | (intro wx hSw; obtain ⟨⟨-, k0, ⟨a0, a1, a2, a3⟩, ⟨b0, b1, b2, b3⟩⟩, -⟩ := hSw; go_simp; with_reducible rfl)
            simp only [Act.put, List.setIfInBounds_toArray, List.set_cons_zero, List.set_cons_succ]
            refine wpAnyH_take (i := 7) (oi := ?oi1021) (v := ?v1021) ?hi1021 (by kernel_rfl) (by kernel_rfl) (by kernel_rfl) (fun _ _ _ h => h) (Or.inl ⟨?hw1021, ?hy1021⟩) (by assumption) ?rest1021
            case hi1021 => (simp only [List.getElem?_toArray, List.getElem?_cons_zero, List.getElem?_cons_succ]; rfl)
            case hw1021 => rfl
            case hy1021 => first | (intro wx hSw; obtain ⟨⟨-, k0, ⟨a0, a1, a2, a3⟩, ⟨b0, b1, b2, b3⟩⟩, -⟩ := hSw; go_simp; done) | (intro wx hSw; obtain ⟨⟨-, k0, ⟨a0, a1, a2, a3⟩, ⟨b0, b1, b2, b3⟩⟩, -⟩ := hSw; go_simp; with_reducible rfl)
            simp only [Act.put, List.setIfInBounds_toArray, List.set_cons_zero, List.set_cons_succ]
            refine wpAnyH_take (i := 8) (oi := ?oi1022) (v := ?v1022) ?hi1022 (by kernel_rfl) (by kernel_rfl) (by kernel_rfl) (fun _ _ _ h => h) (Or.inl ⟨?hw1022, ?hy1022⟩) (by assumption) ?rest1022
            case hi1022 => (simp only [List.getElem?_toArray, List.getElem?_cons_zero, List.getElem?_cons_succ]; rfl)
            case hw1022 => rfl
            case hy1022 => first | (intro wx hSw; obtain ⟨⟨-, k0, ⟨a0, a1, a2, a3⟩, ⟨b0, b1, b2, b3⟩⟩, -⟩ := hSw; go_simp; done) | (intro wx hSw; obtain ⟨⟨-, k0, ⟨a0, a1, a2, a3⟩, ⟨b0, b1, b2, b3⟩⟩, -⟩ := hSw; go_simp; with_reducible rfl)
            simp only [Act.put, List.setIfInBounds_toArray, List.set_cons_zero, List.set_cons_succ]
            refine wpAnyH_ready (rs := [9, 13]) (by kernel_rfl) (by simp) ?_
            refine AllReadyH.cons rfl (fun K7006 hK7006 => ?_) ?_
            · go_simp
              go_wp2_with (go_at_call 24; refine ((unhide HTO).2.1 _).mono ?_; rintro r wc7005 ⟨rfl, hb⟩)
              refine hK7006.out _ _ ?hs7006 (fun hHeld7006 => ?_)
              case hs7006 => exact ⟨sq_of (unhide HAT) (sr_call hHeld.1.1 hb), four_call hHeld.2 hb⟩
              clear hHeld
              have hHeld := hHeld7006; clear hHeld7006 hK7006 K7006
              clear hb
              refine wpAnyH_take (i := 10) (oi := ?oi1023) (v := ?v1023) ?hi1023 (by kernel_rfl) (by kernel_rfl) (by kernel_rfl) (fun _ _ _ h => h) (Or.inl ⟨?hw1023, ?hy1023⟩) (by assumption) ?rest1023
              case hi1023 => (simp only [List.getElem?_toArray, List.getElem?_cons_zero, List.getElem?_cons_succ]; rfl)
              case hw1023 => rfl
              case hy1023 => first | (intro wx hSw; obtain ⟨⟨-, k0, ⟨a0, a1, a2, a3⟩, ⟨b0, b1, b2, b3⟩⟩, -⟩ := hSw; go_simp; done) | (intro wx hSw; obtain ⟨⟨-, k0, ⟨a0, a1, a2, a3⟩, ⟨b0, b1, b2, b3⟩⟩, -⟩ := hSw; go_simp; with_reducible rfl)
              simp only [Act.put, List.setIfInBounds_toArray, List.set_cons_zero, List.set_cons_succ]
              refine wpAnyH_take (i := 11) (oi := ?oi1024) (v := ?v1024) ?hi1024 (by kernel_rfl) (by kernel_rfl) (by kernel_rfl) (fun _ _ _ h => h) (Or.inl ⟨?hw1024, ?hy1024⟩) (by assumption) ?rest1024
              case hi1024 => (simp only [List.getElem?_toArray, List.getElem?_cons_zero, List.getElem?_cons_succ]; rfl)
              case hw1024 => rfl
              case hy1024 => first | (intro wx hSw; obtain ⟨⟨-, k0, ⟨a0, a1, a2, a3⟩, ⟨b0, b1, b2, b3⟩⟩, -⟩ := hSw; go_simp; done) | (intro wx hSw; obtain ⟨⟨-, k0, ⟨a0, a1, a2, a3⟩, ⟨b0, b1, b2, b3⟩⟩, -⟩ := hSw; go_simp; with_reducible rfl)
              simp only [Act.put, List.setIfInBounds_toArray, List.set_cons_zero, List.set_cons_succ]
              refine wpAnyH_take (i := 12) (oi := ?oi1025) (v := ?v1025) ?hi1025 (by kernel_rfl) (by kernel_rfl) (by kernel_rfl) (fun _ _ _ h => h) (Or.inl ⟨?hw1025, ?hy1025⟩) (by assumption) ?rest1025
              case hi1025 => (simp only [List.getElem?_toArray, List.getElem?_cons_zero, List.getElem?_cons_succ]; rfl)
              case hw1025 => rfl
              case hy1025 => first | (intro wx hSw; obtain ⟨⟨-, k0, ⟨a0, a1, a2, a3⟩, ⟨b0, b1, b2, b3⟩⟩, -⟩ := hSw; go_simp; done) | (intro wx hSw; obtain ⟨⟨-, k0, ⟨a0, a1, a2, a3⟩, ⟨b0, b1, b2, b3⟩⟩, -⟩ := hSw; go_simp; with_reducible rfl)
              simp only [Act.put, List.setIfInBounds_toArray, List.set_cons_zero, List.set_cons_succ]
              have hW0 := hide hHeld
              refine wpAnyH_ready (rs := [13]) (by kernel_rfl) (by simp) ?_
              refine AllReadyH.cons rfl (fun K7007 hK7007 => ?_) AllReadyH.nil
              go_simp
              refine hK7007.out _ _ ?hs7007 (fun hHeld7007 => ?_)
              case hs7007 => exact ⟨sq_of (unhide HAT) (sr_call (unhide hW0).1.1 ((Below.refl _ _).alloc (Nat.le_refl _) _)), four_more (unhide hW0).2 _⟩
              clear hHeld
              have hHeld := hHeld7007; clear hHeld7007 hK7007 K7007
              refine wpAnyH_ready (rs := [14]) (by kernel_rfl) (by simp) ?_
              refine AllReadyH.cons rfl (fun K7008 hK7008 => ?_) AllReadyH.nil
              go_simp
              refine hK7008.out _ _ ?hs7008 (fun hHeld7008 => ?_)
              case hs7008 => exact ⟨sq_of (unhide HAT) (sr_call (unhide hW0).1.1 ((Below.refl _ _).alloc (Nat.le_refl _) _)), four_more (unhide hW0).2 _⟩
              clear hHeld
              have hHeld := hHeld7008; clear hHeld7008 hK7008 K7008
              refine wpAnyH_take (i := 15) (oi := ?oi1026) (v := ?v1026) ?hi1026 (by kernel_rfl) (by kernel_rfl) (by kernel_rfl) (fun _ _ _ h => h) (Or.inl ⟨?hw1026, ?hy1026⟩) (by assumption) ?rest1026
              case hi1026 => (simp only [List.getElem?_toArray, List.getElem?_cons_zero, List.getElem?_cons_succ]; rfl)
              case hw1026 => rfl
              case hy1026 => first | (intro wx hSw; obtain ⟨⟨-, k0, ⟨a0, a1, a2, a3⟩, ⟨b0, b1, b2, b3⟩⟩, -⟩ := hSw; go_simp; done) | (intro wx hSw; obtain ⟨⟨-, k0, ⟨a0, a1, a2, a3⟩, ⟨b0, b1, b2, b3⟩⟩, -⟩ := hSw; go_simp; with_reducible rfl)
              simp only [Act.put, List.setIfInBounds_toArray, List.set_cons_zero, List.set_cons_succ]
              clear hW0
              refine wpAnyH_done (by kernel_rfl) ?_ _
              refine NoPanic.normal ?_
              refine hrest _ _ ?_
              clear hrest
              have HS := hide hHeld.1.1
              have hV := hide hHeld.2
              clear hHeld
              have hU := hide (four_alloc (.int .i64 vk) (.int .i64 vn) (.int .i64 vs) (.string ⟨#[]⟩) 23 wc7005)
              obtain ⟨-, v0, v1, v2, v3, -⟩ := unhide hV
              obtain ⟨-, u0, u1, u2, u3, -⟩ := unhide hU
              clear hV hU
              have hT := (unhide HTO).2.2
              clear HTO HAT
              rcases hT with hne | ⟨rfl, hR⟩
              · have he0 : (e == 0) = false := by simpa using hne
                clear hne
                go_wp2_with fail
                go_roundw
                case rel => exact ⟨q + 1, by omega, by go_num, HS⟩
                case measure => simp [intOf]; omega
              · have HR := hide hR
                clear hR
                go_wp2_with fail
                refine (unhide HR _).mono ?_
                rintro r w9 ⟨rfl, hb⟩
                replace HS := hide (sr_call (unhide HS) hb)
                clear hb v0 v1 v2 v3 u0 u1 u2 u3
                go_wp2_with fail
                go_roundw
                case rel => exact ⟨q + 1, by omega, by go_num, HS⟩
                case measure => simp [intOf]; omega
            refine AllReadyH.cons rfl (fun K7009 hK7009 => ?_) AllReadyH.nil
            have hW0 := hide hHeld
            go_simp
            refine hK7009.out _ _ ?hs7009 (fun hHeld7009 => ?_)
            case hs7009 => exact ⟨sq_of (unhide HAT) (sr_call (unhide hW0).1.1 ((Below.refl _ _).alloc (Nat.le_refl _) _)), four_more (unhide hW0).2 _⟩
            clear hHeld
            have hHeld := hHeld7009; clear hHeld7009 hK7009 K7009
            have hZ := hide (four_alloc (.int .i64 0) (.int .i64 0) (.int .i64 0) (.string ⟨#[]⟩) 23 Wd7005)
            refine wpAnyH_ready (rs := [9]) (by kernel_rfl) (by simp) ?_
            refine AllReadyH.cons rfl (fun K7010 hK7010 => ?_) AllReadyH.nil
            go_simp
            go_wp2_with (go_at_call 24; refine ((unhide HTO).2.1 _).mono ?_; rintro r wc7005 ⟨rfl, hb⟩)
            replace hZ := hide (four_call (unhide hZ) hb)
            refine hK7010.out _ _ ?hs7010 (fun hHeld7010 => ?_)
            case hs7010 => exact ⟨sq_of (unhide HAT) (sr_call hHeld.1.1 hb), four_call hHeld.2 hb⟩
            clear hHeld
            have hHeld := hHeld7010; clear hHeld7010 hK7010 K7010
            clear hb
            refine wpAnyH_take (i := 10) (oi := ?oi1027) (v := ?v1027) ?hi1027 (by kernel_rfl) (by kernel_rfl) (by kernel_rfl) (fun _ _ _ h => h) (Or.inl ⟨?hw1027, ?hy1027⟩) (by assumption) ?rest1027
            case hi1027 => (simp only [List.getElem?_toArray, List.getElem?_cons_zero, List.getElem?_cons_succ]; rfl)
            case hw1027 => rfl
            case hy1027 => first | (intro wx hSw; obtain ⟨⟨-, k0, ⟨a0, a1, a2, a3⟩, ⟨b0, b1, b2, b3⟩⟩, -⟩ := hSw; go_simp; done) | (intro wx hSw; obtain ⟨⟨-, k0, ⟨a0, a1, a2, a3⟩, ⟨b0, b1, b2, b3⟩⟩, -⟩ := hSw; go_simp; with_reducible rfl)
            simp only [Act.put, List.setIfInBounds_toArray, List.set_cons_zero, List.set_cons_succ]
            refine wpAnyH_take (i := 11) (oi := ?oi1028) (v := ?v1028) ?hi1028 (by kernel_rfl) (by kernel_rfl) (by kernel_rfl) (fun _ _ _ h => h) (Or.inl ⟨?hw1028, ?hy1028⟩) (by assumption) ?rest1028
            case hi1028 => (simp only [List.getElem?_toArray, List.getElem?_cons_zero, List.getElem?_cons_succ]; rfl)
            case hw1028 => rfl
            case hy1028 => first | (intro wx hSw; obtain ⟨⟨-, k0, ⟨a0, a1, a2, a3⟩, ⟨b0, b1, b2, b3⟩⟩, -⟩ := hSw; go_simp; done) | (intro wx hSw; obtain ⟨⟨-, k0, ⟨a0, a1, a2, a3⟩, ⟨b0, b1, b2, b3⟩⟩, -⟩ := hSw; go_simp; with_reducible rfl)
            simp only [Act.put, List.setIfInBounds_toArray, List.set_cons_zero, List.set_cons_succ]
            refine wpAnyH_take (i := 12) (oi := ?oi1029) (v := ?v1029) ?hi1029 (by kernel_rfl) (by kernel_rfl) (by kernel_rfl) (fun _ _ _ h => h) (Or.inl ⟨?hw1029, ?hy1029⟩) (by assumption) ?rest1029
            case hi1029 => (simp only [List.getElem?_toArray, List.getElem?_cons_zero, List.getElem?_cons_succ]; rfl)
            case hw1029 => rfl
            case hy1029 => first | (intro wx hSw; obtain ⟨⟨-, k0, ⟨a0, a1, a2, a3⟩, ⟨b0, b1, b2, b3⟩⟩, -⟩ := hSw; go_simp; done) | (intro wx hSw; obtain ⟨⟨-, k0, ⟨a0, a1, a2, a3⟩, ⟨b0, b1, b2, b3⟩⟩, -⟩ := hSw; go_simp; with_reducible rfl)
            simp only [Act.put, List.setIfInBounds_toArray, List.set_cons_zero, List.set_cons_succ]
            refine wpAnyH_ready (rs := [14]) (by kernel_rfl) (by simp) ?_
            refine AllReadyH.cons rfl (fun K7011 hK7011 => ?_) AllReadyH.nil
            obtain ⟨z0, z1, z2, z3, z4, z5, z6, z7, z8⟩ := unhide hZ
            go_simp
            clear z0 z1 z2 z3 z4 z5 z6 z7 z8
            refine hK7011.out _ _ ?hs7011 (fun hHeld7011 => ?_)
            case hs7011 => exact ⟨sq_of (unhide HAT) (sr_below hHeld.1.1 (unhide hW0).1.1.1.size (unhide hW0).1.1.2.1.1 (unhide hW0).1.1.2.2.1.1 (unhide hW0).1.1.2.2.2.1 (below_set4 _ _ _ _ _ _)), four_below hHeld.2 (unhide hW0).2.1 (below_set4 _ _ _ _ _ _)⟩
            clear hHeld
            have hHeld := hHeld7011; clear hHeld7011 hK7011 K7011
            refine wpAnyH_take (i := 15) (oi := ?oi1030) (v := ?v1030) ?hi1030 (by kernel_rfl) (by kernel_rfl) (by kernel_rfl) (fun _ _ _ h => h) (Or.inl ⟨?hw1030, ?hy1030⟩) (by assumption) ?rest1030
            case hi1030 => (simp only [List.getElem?_toArray, List.getElem?_cons_zero, List.getElem?_cons_succ]; rfl)
            case hw1030 => rfl
            case hy1030 => first | (intro wx hSw; obtain ⟨⟨-, k0, ⟨a0, a1, a2, a3⟩, ⟨b0, b1, b2, b3⟩⟩, -⟩ := hSw; go_simp; done) | (intro wx hSw; obtain ⟨⟨-, k0, ⟨a0, a1, a2, a3⟩, ⟨b0, b1, b2, b3⟩⟩, -⟩ := hSw; go_simp; with_reducible rfl)
            simp only [Act.put, List.setIfInBounds_toArray, List.set_cons_zero, List.set_cons_succ]
            clear hW0
            refine wpAnyH_done (by kernel_rfl) ?_ _
            refine NoPanic.normal ?_
            refine hrest _ _ ?_
            clear hrest
            have HS := hide hHeld.1.1
            have hV := hide hHeld.2
            clear hHeld
            have hU := hide (four_set (unhide hZ) (.int .i64 vk) (.int .i64 vn) (.int .i64 vs) (.string ⟨#[]⟩))
            clear hZ
            obtain ⟨-, v0, v1, v2, v3, -⟩ := unhide hV
            obtain ⟨-, u0, u1, u2, u3, -⟩ := unhide hU
            clear hV hU
            have hT := (unhide HTO).2.2
            clear HTO HAT
            rcases hT with hne | ⟨rfl, hR⟩
            · have he0 : (e == 0) = false := by simpa using hne
              clear hne
              go_wp2_with fail
              go_roundw
              case rel => exact ⟨q + 1, by omega, by go_num, HS⟩
              case measure => simp [intOf]; omega
            · have HR := hide hR
              clear hR
              go_wp2_with fail
              refine (unhide HR _).mono ?_
              rintro r w9 ⟨rfl, hb⟩
              replace HS := hide (sr_call (unhide HS) hb)
              clear hb v0 v1 v2 v3 u0 u1 u2 u3
              go_wp2_with fail
              go_roundw
              case rel => exact ⟨q + 1, by omega, by go_num, HS⟩
              case measure => simp [intOf]; omega
          refine AllReadyH.cons rfl (fun K7012 hK7012 => ?_) AllReadyH.nil
          have hW0 := hide hHeld
          go_simp
          refine hK7012.out _ _ ?hs7012 (fun hHeld7012 => ?_)
          case hs7012 => exact sq_of (unhide HAT) (sr_call (unhide hW0).1 ((Below.refl _ _).alloc (Nat.le_refl _) _))
          clear hHeld
          have hHeld := hHeld7012; clear hHeld7012 hK7012 K7012
          have hZ := hide (four_alloc (.int .i64 0) (.int .i64 0) (.int .i64 0) (.string ⟨#[]⟩) 23 Wd7001)
          refine wpAnyH_ready (rs := [9]) (by kernel_rfl) (by simp) ?_
          refine AllReadyH.cons rfl (fun K7013 hK7013 => ?_) AllReadyH.nil
          go_simp
          go_wp2_with (go_at_call 23; refine ((unhide HTO).1 _).mono ?_; rintro r wc7001 ⟨rfl, hb⟩)
          replace hZ := hide (four_call (unhide hZ) hb)
          refine hK7013.out _ _ ?hs7013 (fun hHeld7013 => ?_)
          case hs7013 => exact sq_of (unhide HAT) (sr_call hHeld.1 hb)
          clear hHeld
          have hHeld := hHeld7013; clear hHeld7013 hK7013 K7013
          clear hb
          refine wpAnyH_take (i := 10) (oi := ?oi1031) (v := ?v1031) ?hi1031 (by kernel_rfl) (by kernel_rfl) (by kernel_rfl) (fun _ _ _ h => h) (Or.inl ⟨?hw1031, ?hy1031⟩) (by assumption) ?rest1031
          case hi1031 => (simp only [List.getElem?_toArray, List.getElem?_cons_zero, List.getElem?_cons_succ]; rfl)
          case hw1031 => rfl
          case hy1031 => first | (intro wx hSw; obtain ⟨-, k0, ⟨a0, a1, a2, a3⟩, ⟨b0, b1, b2, b3⟩⟩ := hSw; go_simp; done) | (intro wx hSw; obtain ⟨-, k0, ⟨a0, a1, a2, a3⟩, ⟨b0, b1, b2, b3⟩⟩ := hSw; go_simp; with_reducible rfl)
          simp only [Act.put, List.setIfInBounds_toArray, List.set_cons_zero, List.set_cons_succ]
          refine wpAnyH_take (i := 11) (oi := ?oi1032) (v := ?v1032) ?hi1032 (by kernel_rfl) (by kernel_rfl) (by kernel_rfl) (fun _ _ _ h => h) (Or.inl ⟨?hw1032, ?hy1032⟩) (by assumption) ?rest1032
          case hi1032 => (simp only [List.getElem?_toArray, List.getElem?_cons_zero, List.getElem?_cons_succ]; rfl)
          case hw1032 => rfl
          case hy1032 => first | (intro wx hSw; obtain ⟨-, k0, ⟨a0, a1, a2, a3⟩, ⟨b0, b1, b2, b3⟩⟩ := hSw; go_simp; done) | (intro wx hSw; obtain ⟨-, k0, ⟨a0, a1, a2, a3⟩, ⟨b0, b1, b2, b3⟩⟩ := hSw; go_simp; with_reducible rfl)
          simp only [Act.put, List.setIfInBounds_toArray, List.set_cons_zero, List.set_cons_succ]
          refine wpAnyH_take (i := 12) (oi := ?oi1033) (v := ?v1033) ?hi1033 (by kernel_rfl) (by kernel_rfl) (by kernel_rfl) (fun _ _ _ h => h) (Or.inl ⟨?hw1033, ?hy1033⟩) (by assumption) ?rest1033
          case hi1033 => (simp only [List.getElem?_toArray, List.getElem?_cons_zero, List.getElem?_cons_succ]; rfl)
          case hw1033 => rfl
          case hy1033 => first | (intro wx hSw; obtain ⟨-, k0, ⟨a0, a1, a2, a3⟩, ⟨b0, b1, b2, b3⟩⟩ := hSw; go_simp; done) | (intro wx hSw; obtain ⟨-, k0, ⟨a0, a1, a2, a3⟩, ⟨b0, b1, b2, b3⟩⟩ := hSw; go_simp; with_reducible rfl)
          simp only [Act.put, List.setIfInBounds_toArray, List.set_cons_zero, List.set_cons_succ]
          refine wpAnyH_ready (rs := [14]) (by kernel_rfl) (by simp) ?_
          refine AllReadyH.cons rfl (fun K7014 hK7014 => ?_) AllReadyH.nil
          obtain ⟨z0, z1, z2, z3, z4, z5, z6, z7, z8⟩ := unhide hZ
          go_simp
          clear z0 z1 z2 z3 z4 z5 z6 z7 z8
          refine hK7014.out _ _ ?hs7014 (fun hHeld7014 => ?_)
          case hs7014 => exact sq_of (unhide HAT) (sr_below hHeld.1 (unhide hW0).1.1.size (unhide hW0).1.2.1.1 (unhide hW0).1.2.2.1.1 (unhide hW0).1.2.2.2.1 (below_set4 _ _ _ _ _ _))
          clear hHeld
          have hHeld := hHeld7014; clear hHeld7014 hK7014 K7014
          refine wpAnyH_take (i := 15) (oi := ?oi1034) (v := ?v1034) ?hi1034 (by kernel_rfl) (by kernel_rfl) (by kernel_rfl) (fun _ _ _ h => h) (Or.inl ⟨?hw1034, ?hy1034⟩) (by assumption) ?rest1034
          case hi1034 => (simp only [List.getElem?_toArray, List.getElem?_cons_zero, List.getElem?_cons_succ]; rfl)
          case hw1034 => rfl
          case hy1034 => first | (intro wx hSw; obtain ⟨-, k0, ⟨a0, a1, a2, a3⟩, ⟨b0, b1, b2, b3⟩⟩ := hSw; go_simp; done) | (intro wx hSw; obtain ⟨-, k0, ⟨a0, a1, a2, a3⟩, ⟨b0, b1, b2, b3⟩⟩ := hSw; go_simp; with_reducible rfl)
          simp only [Act.put, List.setIfInBounds_toArray, List.set_cons_zero, List.set_cons_succ]
          clear hW0
          refine wpAnyH_done (by kernel_rfl) ?_ _
          refine NoPanic.normal ?_
          refine hrest _ _ ?_
          clear hrest
          have HS := hide hHeld.1
          clear hHeld
          have hV := hide (four_set (unhide hZ) (.int .i64 vk) (.int .i64 vn) (.int .i64 vs) (.string ⟨#[]⟩))
          clear hZ
          go_wp2_with fail
          rename_i hrest
          refine wp_region_noPanic ?_
          refine wp_region_held_drew (S := (fun W => SQ w p q w3.heap.size (w4.heap.size + 1) (w4.heap.size + 1 + 1) kx xn xs xt (lst ky yn ys yt kz zn zs zt kx xn xs xt) (knd kind) kk lk ln ls lt W ∧ Four Wd7001.heap.size (.int .i64 vk) (.int .i64 vn) (.int .i64 vs) (.string ⟨#[]⟩) W)) (by kernel_rfl) (⟨sq_of (unhide HAT) (sr_call (unhide HS) (Below.refl _ _).drew), four_drew (unhide hV)⟩) (fun hHeld => ?_)
          clear HS hV
          revert hHeld
          generalize World.drew _ = Wd7015
          intro hHeld
          refine wpAnyH_take (i := 0) (oi := ?oi1035) (v := ?v1035) ?hi1035 (by kernel_rfl) (by kernel_rfl) (by kernel_rfl) (fun _ _ _ h => h) (Or.inl ⟨?hw1035, ?hy1035⟩) (by assumption) ?rest1035
          case hi1035 => (simp only [List.getElem?_toArray, List.getElem?_cons_zero]; rfl)
          case hw1035 => rfl
          case hy1035 => first | (intro wx hSw; obtain ⟨⟨-, k0, ⟨a0, a1, a2, a3⟩, ⟨b0, b1, b2, b3⟩⟩, -⟩ := hSw; go_simp; done) | (intro wx hSw; obtain ⟨⟨-, k0, ⟨a0, a1, a2, a3⟩, ⟨b0, b1, b2, b3⟩⟩, -⟩ := hSw; go_simp; with_reducible rfl)
          simp only [Act.put, List.setIfInBounds_toArray, List.set_cons_zero, List.set_cons_succ]
          refine wpAnyH_take (i := 1) (oi := ?oi1036) (v := ?v1036) ?hi1036 (by kernel_rfl) (by kernel_rfl) (by kernel_rfl) (fun _ _ _ h => h) (Or.inl ⟨?hw1036, ?hy1036⟩) (by assumption) ?rest1036
          case hi1036 => (simp only [List.getElem?_toArray, List.getElem?_cons_zero, List.getElem?_cons_succ]; rfl)
          case hw1036 => rfl
          case hy1036 => first | (intro wx hSw; obtain ⟨⟨-, k0, ⟨a0, a1, a2, a3⟩, ⟨b0, b1, b2, b3⟩⟩, -⟩ := hSw; go_simp; done) | (intro wx hSw; obtain ⟨⟨-, k0, ⟨a0, a1, a2, a3⟩, ⟨b0, b1, b2, b3⟩⟩, -⟩ := hSw; go_simp; with_reducible rfl)
          simp only [Act.put, List.setIfInBounds_toArray, List.set_cons_zero, List.set_cons_succ]
          refine wpAnyH_take (i := 2) (oi := ?oi1037) (v := ?v1037) ?hi1037 (by kernel_rfl) (by kernel_rfl) (by kernel_rfl) (fun _ _ _ h => h) (Or.inl ⟨?hw1037, ?hy1037⟩) (by assumption) ?rest1037
          case hi1037 => (simp only [List.getElem?_toArray, List.getElem?_cons_zero, List.getElem?_cons_succ]; rfl)
          case hw1037 => rfl
          case hy1037 => first | (intro wx hSw; obtain ⟨⟨-, k0, ⟨a0, a1, a2, a3⟩, ⟨b0, b1, b2, b3⟩⟩, -⟩ := hSw; go_simp; done) | (intro wx hSw; obtain ⟨⟨-, k0, ⟨a0, a1, a2, a3⟩, ⟨b0, b1, b2, b3⟩⟩, -⟩ := hSw; go_simp; with_reducible rfl)
          simp only [Act.put, List.setIfInBounds_toArray, List.set_cons_zero, List.set_cons_succ]
          refine wpAnyH_take (i := 3) (oi := ?oi1038) (v := ?v1038) ?hi1038 (by kernel_rfl) (by kernel_rfl) (by kernel_rfl) (fun _ _ _ h => h) (Or.inl ⟨?hw1038, ?hy1038⟩) (by assumption) ?rest1038
          case hi1038 => (simp only [List.getElem?_toArray, List.getElem?_cons_zero, List.getElem?_cons_succ]; rfl)
          case hw1038 => rfl
          case hy1038 => first | (intro wx hSw; obtain ⟨⟨-, k0, ⟨a0, a1, a2, a3⟩, ⟨b0, b1, b2, b3⟩⟩, -⟩ := hSw; go_simp; done) | (intro wx hSw; obtain ⟨⟨-, k0, ⟨a0, a1, a2, a3⟩, ⟨b0, b1, b2, b3⟩⟩, -⟩ := hSw; go_simp; with_reducible rfl)
          simp only [Act.put, List.setIfInBounds_toArray, List.set_cons_zero, List.set_cons_succ]
          refine wpAnyH_take (i := 4) (oi := ?oi1039) (v := ?v1039) ?hi1039 (by kernel_rfl) (by kernel_rfl) (by kernel_rfl) (fun _ _ _ h => h) (Or.inl ⟨?hw1039, ?hy1039⟩) (by assumption) ?rest1039
          case hi1039 => (simp only [List.getElem?_toArray, List.getElem?_cons_zero, List.getElem?_cons_succ]; rfl)
          case hw1039 => rfl
          case hy1039 => first | (intro wx hSw; obtain ⟨⟨-, k0, ⟨a0, a1, a2, a3⟩, ⟨b0, b1, b2, b3⟩⟩, -⟩ := hSw; go_simp; done) | (intro wx hSw; obtain ⟨⟨-, k0, ⟨a0, a1, a2, a3⟩, ⟨b0, b1, b2, b3⟩⟩, -⟩ := hSw; go_simp; with_reducible rfl)
          simp only [Act.put, List.setIfInBounds_toArray, List.set_cons_zero, List.set_cons_succ]
          refine wpAnyH_take (i := 5) (oi := ?oi1040) (v := ?v1040) ?hi1040 (by kernel_rfl) (by kernel_rfl) (by kernel_rfl) (fun _ _ _ h => h) (Or.inl ⟨?hw1040, ?hy1040⟩) (by assumption) ?rest1040
          case hi1040 => (simp only [List.getElem?_toArray, List.getElem?_cons_zero, List.getElem?_cons_succ]; rfl)
          case hw1040 => rfl
          case hy1040 => first | (intro wx hSw; obtain ⟨⟨-, k0, ⟨a0, a1, a2, a3⟩, ⟨b0, b1, b2, b3⟩⟩, -⟩ := hSw; go_simp; done) | (intro wx hSw; obtain ⟨⟨-, k0, ⟨a0, a1, a2, a3⟩, ⟨b0, b1, b2, b3⟩⟩, -⟩ := hSw; go_simp; with_reducible rfl)
          simp only [Act.put, List.setIfInBounds_toArray, List.set_cons_zero, List.set_cons_succ]
          refine wpAnyH_take (i := 6) (oi := ?oi1041) (v := ?v1041) ?hi1041 (by kernel_rfl) (by kernel_rfl) (by kernel_rfl) (fun _ _ _ h => h) (Or.inl ⟨?hw1041, ?hy1041⟩) (by assumption) ?rest1041
          case hi1041 => (simp only [List.getElem?_toArray, List.getElem?_cons_zero, List.getElem?_cons_succ]; rfl)
          case hw1041 => rfl
          case hy1041 => first | (intro wx hSw; obtain ⟨⟨-, k0, ⟨a0, a1, a2, a3⟩, ⟨b0, b1, b2, b3⟩⟩, -⟩ := hSw; go_simp; done) | (intro wx hSw; obtain ⟨⟨-, k0, ⟨a0, a1, a2, a3⟩, ⟨b0, b1, b2, b3⟩⟩, -⟩ := hSw; go_simp; with_reducible rfl)
          simp only [Act.put, List.setIfInBounds_toArray, List.set_cons_zero, List.set_cons_succ]
          refine wpAnyH_take (i := 7) (oi := ?oi1042) (v := ?v1042) ?hi1042 (by kernel_rfl) (by kernel_rfl) (by kernel_rfl) (fun _ _ _ h => h) (Or.inl ⟨?hw1042, ?hy1042⟩) (by assumption) ?rest1042
          case hi1042 => (simp only [List.getElem?_toArray, List.getElem?_cons_zero, List.getElem?_cons_succ]; rfl)
          case hw1042 => rfl
          case hy1042 => first | (intro wx hSw; obtain ⟨⟨-, k0, ⟨a0, a1, a2, a3⟩, ⟨b0, b1, b2, b3⟩⟩, -⟩ := hSw; go_simp; done) | (intro wx hSw; obtain ⟨⟨-, k0, ⟨a0, a1, a2, a3⟩, ⟨b0, b1, b2, b3⟩⟩, -⟩ := hSw; go_simp; with_reducible rfl)
          simp only [Act.put, List.setIfInBounds_toArray, List.set_cons_zero, List.set_cons_succ]
          refine wpAnyH_take (i := 8) (oi := ?oi1043) (v := ?v1043) ?hi1043 (by kernel_rfl) (by kernel_rfl) (by kernel_rfl) (fun _ _ _ h => h) (Or.inl ⟨?hw1043, ?hy1043⟩) (by assumption) ?rest1043
          case hi1043 => (simp only [List.getElem?_toArray, List.getElem?_cons_zero, List.getElem?_cons_succ]; rfl)
          case hw1043 => rfl
          case hy1043 => first | (intro wx hSw; obtain ⟨⟨-, k0, ⟨a0, a1, a2, a3⟩, ⟨b0, b1, b2, b3⟩⟩, -⟩ := hSw; go_simp; done) | (intro wx hSw; obtain ⟨⟨-, k0, ⟨a0, a1, a2, a3⟩, ⟨b0, b1, b2, b3⟩⟩, -⟩ := hSw; go_simp; with_reducible rfl)
          simp only [Act.put, List.setIfInBounds_toArray, List.set_cons_zero, List.set_cons_succ]
          refine wpAnyH_ready (rs := [9, 13]) (by kernel_rfl) (by simp) ?_
          refine AllReadyH.cons rfl (fun K7016 hK7016 => ?_) ?_
          · go_simp
            go_wp2_with (go_at_call 24; refine ((unhide HTO).2.1 _).mono ?_; rintro r wc7015 ⟨rfl, hb⟩)
            refine hK7016.out _ _ ?hs7016 (fun hHeld7016 => ?_)
            case hs7016 => exact ⟨sq_of (unhide HAT) (sr_call hHeld.1.1 hb), four_call hHeld.2 hb⟩
            clear hHeld
            have hHeld := hHeld7016; clear hHeld7016 hK7016 K7016
            clear hb
            refine wpAnyH_take (i := 10) (oi := ?oi1044) (v := ?v1044) ?hi1044 (by kernel_rfl) (by kernel_rfl) (by kernel_rfl) (fun _ _ _ h => h) (Or.inl ⟨?hw1044, ?hy1044⟩) (by assumption) ?rest1044
            case hi1044 => (simp only [List.getElem?_toArray, List.getElem?_cons_zero, List.getElem?_cons_succ]; rfl)
            case hw1044 => rfl
            case hy1044 => first | (intro wx hSw; obtain ⟨⟨-, k0, ⟨a0, a1, a2, a3⟩, ⟨b0, b1, b2, b3⟩⟩, -⟩ := hSw; go_simp; done) | (intro wx hSw; obtain ⟨⟨-, k0, ⟨a0, a1, a2, a3⟩, ⟨b0, b1, b2, b3⟩⟩, -⟩ := hSw; go_simp; with_reducible rfl)
            simp only [Act.put, List.setIfInBounds_toArray, List.set_cons_zero, List.set_cons_succ]
            refine wpAnyH_take (i := 11) (oi := ?oi1045) (v := ?v1045) ?hi1045 (by kernel_rfl) (by kernel_rfl) (by kernel_rfl) (fun _ _ _ h => h) (Or.inl ⟨?hw1045, ?hy1045⟩) (by assumption) ?rest1045
            case hi1045 => (simp only [List.getElem?_toArray, List.getElem?_cons_zero, List.getElem?_cons_succ]; rfl)
            case hw1045 => rfl
            case hy1045 => first | (intro wx hSw; obtain ⟨⟨-, k0, ⟨a0, a1, a2, a3⟩, ⟨b0, b1, b2, b3⟩⟩, -⟩ := hSw; go_simp; done) | (intro wx hSw; obtain ⟨⟨-, k0, ⟨a0, a1, a2, a3⟩, ⟨b0, b1, b2, b3⟩⟩, -⟩ := hSw; go_simp; with_reducible rfl)
            simp only [Act.put, List.setIfInBounds_toArray, List.set_cons_zero, List.set_cons_succ]
            refine wpAnyH_take (i := 12) (oi := ?oi1046) (v := ?v1046) ?hi1046 (by kernel_rfl) (by kernel_rfl) (by kernel_rfl) (fun _ _ _ h => h) (Or.inl ⟨?hw1046, ?hy1046⟩) (by assumption) ?rest1046
            case hi1046 => (simp only [List.getElem?_toArray, List.getElem?_cons_zero, List.getElem?_cons_succ]; rfl)
            case hw1046 => rfl
            case hy1046 => first | (intro wx hSw; obtain ⟨⟨-, k0, ⟨a0, a1, a2, a3⟩, ⟨b0, b1, b2, b3⟩⟩, -⟩ := hSw; go_simp; done) | (intro wx hSw; obtain ⟨⟨-, k0, ⟨a0, a1, a2, a3⟩, ⟨b0, b1, b2, b3⟩⟩, -⟩ := hSw; go_simp; with_reducible rfl)
            simp only [Act.put, List.setIfInBounds_toArray, List.set_cons_zero, List.set_cons_succ]
            have hW0 := hide hHeld
            refine wpAnyH_ready (rs := [13]) (by kernel_rfl) (by simp) ?_
            refine AllReadyH.cons rfl (fun K7017 hK7017 => ?_) AllReadyH.nil
            go_simp
            refine hK7017.out _ _ ?hs7017 (fun hHeld7017 => ?_)
            case hs7017 => exact ⟨sq_of (unhide HAT) (sr_call (unhide hW0).1.1 ((Below.refl _ _).alloc (Nat.le_refl _) _)), four_more (unhide hW0).2 _⟩
            clear hHeld
            have hHeld := hHeld7017; clear hHeld7017 hK7017 K7017
            refine wpAnyH_ready (rs := [14]) (by kernel_rfl) (by simp) ?_
            refine AllReadyH.cons rfl (fun K7018 hK7018 => ?_) AllReadyH.nil
            go_simp
            refine hK7018.out _ _ ?hs7018 (fun hHeld7018 => ?_)
            case hs7018 => exact ⟨sq_of (unhide HAT) (sr_call (unhide hW0).1.1 ((Below.refl _ _).alloc (Nat.le_refl _) _)), four_more (unhide hW0).2 _⟩
            clear hHeld
            have hHeld := hHeld7018; clear hHeld7018 hK7018 K7018
            refine wpAnyH_take (i := 15) (oi := ?oi1047) (v := ?v1047) ?hi1047 (by kernel_rfl) (by kernel_rfl) (by kernel_rfl) (fun _ _ _ h => h) (Or.inl ⟨?hw1047, ?hy1047⟩) (by assumption) ?rest1047
            case hi1047 => (simp only [List.getElem?_toArray, List.getElem?_cons_zero, List.getElem?_cons_succ]; rfl)
            case hw1047 => rfl
            case hy1047 => first | (intro wx hSw; obtain ⟨⟨-, k0, ⟨a0, a1, a2, a3⟩, ⟨b0, b1, b2, b3⟩⟩, -⟩ := hSw; go_simp; done) | (intro wx hSw; obtain ⟨⟨-, k0, ⟨a0, a1, a2, a3⟩, ⟨b0, b1, b2, b3⟩⟩, -⟩ := hSw; go_simp; with_reducible rfl)
            simp only [Act.put, List.setIfInBounds_toArray, List.set_cons_zero, List.set_cons_succ]
            clear hW0
            refine wpAnyH_done (by kernel_rfl) ?_ _
            refine NoPanic.normal ?_
            refine hrest _ _ ?_
            clear hrest
            have HS := hide hHeld.1.1
            have hV := hide hHeld.2
            clear hHeld
            have hU := hide (four_alloc (.int .i64 vk) (.int .i64 vn) (.int .i64 vs) (.string ⟨#[]⟩) 23 wc7015)
            obtain ⟨-, v0, v1, v2, v3, -⟩ := unhide hV
            obtain ⟨-, u0, u1, u2, u3, -⟩ := unhide hU
            clear hV hU
            have hT := (unhide HTO).2.2
            clear HTO HAT
            rcases hT with hne | ⟨rfl, hR⟩
            · have he0 : (e == 0) = false := by simpa using hne
              clear hne
              go_wp2_with fail
              go_roundw
              case rel => exact ⟨q + 1, by omega, by go_num, HS⟩
              case measure => simp [intOf]; omega
            · have HR := hide hR
              clear hR
              go_wp2_with fail
              refine (unhide HR _).mono ?_
              rintro r w9 ⟨rfl, hb⟩
              replace HS := hide (sr_call (unhide HS) hb)
              clear hb v0 v1 v2 v3 u0 u1 u2 u3
              go_wp2_with fail
              go_roundw
              case rel => exact ⟨q + 1, by omega, by go_num, HS⟩
              case measure => simp [intOf]; omega
          refine AllReadyH.cons rfl (fun K7019 hK7019 => ?_) AllReadyH.nil
          have hW0 := hide hHeld
          go_simp
          refine hK7019.out _ _ ?hs7019 (fun hHeld7019 => ?_)
          case hs7019 => exact ⟨sq_of (unhide HAT) (sr_call (unhide hW0).1.1 ((Below.refl _ _).alloc (Nat.le_refl _) _)), four_more (unhide hW0).2 _⟩
          clear hHeld
          have hHeld := hHeld7019; clear hHeld7019 hK7019 K7019
          have hZ := hide (four_alloc (.int .i64 0) (.int .i64 0) (.int .i64 0) (.string ⟨#[]⟩) 23 Wd7015)
          refine wpAnyH_ready (rs := [9]) (by kernel_rfl) (by simp) ?_
          refine AllReadyH.cons rfl (fun K7020 hK7020 => ?_) AllReadyH.nil
          go_simp
          go_wp2_with (go_at_call 24; refine ((unhide HTO).2.1 _).mono ?_; rintro r wc7015 ⟨rfl, hb⟩)
          replace hZ := hide (four_call (unhide hZ) hb)
          refine hK7020.out _ _ ?hs7020 (fun hHeld7020 => ?_)
          case hs7020 => exact ⟨sq_of (unhide HAT) (sr_call hHeld.1.1 hb), four_call hHeld.2 hb⟩
          clear hHeld
          have hHeld := hHeld7020; clear hHeld7020 hK7020 K7020
          clear hb
          refine wpAnyH_take (i := 10) (oi := ?oi1048) (v := ?v1048) ?hi1048 (by kernel_rfl) (by kernel_rfl) (by kernel_rfl) (fun _ _ _ h => h) (Or.inl ⟨?hw1048, ?hy1048⟩) (by assumption) ?rest1048
          case hi1048 => (simp only [List.getElem?_toArray, List.getElem?_cons_zero, List.getElem?_cons_succ]; rfl)
          case hw1048 => rfl
          case hy1048 => first | (intro wx hSw; obtain ⟨⟨-, k0, ⟨a0, a1, a2, a3⟩, ⟨b0, b1, b2, b3⟩⟩, -⟩ := hSw; go_simp; done) | (intro wx hSw; obtain ⟨⟨-, k0, ⟨a0, a1, a2, a3⟩, ⟨b0, b1, b2, b3⟩⟩, -⟩ := hSw; go_simp; with_reducible rfl)
          simp only [Act.put, List.setIfInBounds_toArray, List.set_cons_zero, List.set_cons_succ]
          refine wpAnyH_take (i := 11) (oi := ?oi1049) (v := ?v1049) ?hi1049 (by kernel_rfl) (by kernel_rfl) (by kernel_rfl) (fun _ _ _ h => h) (Or.inl ⟨?hw1049, ?hy1049⟩) (by assumption) ?rest1049
          case hi1049 => (simp only [List.getElem?_toArray, List.getElem?_cons_zero, List.getElem?_cons_succ]; rfl)
          case hw1049 => rfl
          case hy1049 => first | (intro wx hSw; obtain ⟨⟨-, k0, ⟨a0, a1, a2, a3⟩, ⟨b0, b1, b2, b3⟩⟩, -⟩ := hSw; go_simp; done) | (intro wx hSw; obtain ⟨⟨-, k0, ⟨a0, a1, a2, a3⟩, ⟨b0, b1, b2, b3⟩⟩, -⟩ := hSw; go_simp; with_reducible rfl)
          simp only [Act.put, List.setIfInBounds_toArray, List.set_cons_zero, List.set_cons_succ]
          refine wpAnyH_take (i := 12) (oi := ?oi1050) (v := ?v1050) ?hi1050 (by kernel_rfl) (by kernel_rfl) (by kernel_rfl) (fun _ _ _ h => h) (Or.inl ⟨?hw1050, ?hy1050⟩) (by assumption) ?rest1050
          case hi1050 => (simp only [List.getElem?_toArray, List.getElem?_cons_zero, List.getElem?_cons_succ]; rfl)
          case hw1050 => rfl
          case hy1050 => first | (intro wx hSw; obtain ⟨⟨-, k0, ⟨a0, a1, a2, a3⟩, ⟨b0, b1, b2, b3⟩⟩, -⟩ := hSw; go_simp; done) | (intro wx hSw; obtain ⟨⟨-, k0, ⟨a0, a1, a2, a3⟩, ⟨b0, b1, b2, b3⟩⟩, -⟩ := hSw; go_simp; with_reducible rfl)
          simp only [Act.put, List.setIfInBounds_toArray, List.set_cons_zero, List.set_cons_succ]
          refine wpAnyH_ready (rs := [14]) (by kernel_rfl) (by simp) ?_
          refine AllReadyH.cons rfl (fun K7021 hK7021 => ?_) AllReadyH.nil
          obtain ⟨z0, z1, z2, z3, z4, z5, z6, z7, z8⟩ := unhide hZ
          go_simp
          clear z0 z1 z2 z3 z4 z5 z6 z7 z8
          refine hK7021.out _ _ ?hs7021 (fun hHeld7021 => ?_)
          case hs7021 => exact ⟨sq_of (unhide HAT) (sr_below hHeld.1.1 (unhide hW0).1.1.1.size (unhide hW0).1.1.2.1.1 (unhide hW0).1.1.2.2.1.1 (unhide hW0).1.1.2.2.2.1 (below_set4 _ _ _ _ _ _)), four_below hHeld.2 (unhide hW0).2.1 (below_set4 _ _ _ _ _ _)⟩
          clear hHeld
          have hHeld := hHeld7021; clear hHeld7021 hK7021 K7021
          refine wpAnyH_take (i := 15) (oi := ?oi1051) (v := ?v1051) ?hi1051 (by kernel_rfl) (by kernel_rfl) (by kernel_rfl) (fun _ _ _ h => h) (Or.inl ⟨?hw1051, ?hy1051⟩) (by assumption) ?rest1051
          case hi1051 => (simp only [List.getElem?_toArray, List.getElem?_cons_zero, List.getElem?_cons_succ]; rfl)
          case hw1051 => rfl
          case hy1051 => first | (intro wx hSw; obtain ⟨⟨-, k0, ⟨a0, a1, a2, a3⟩, ⟨b0, b1, b2, b3⟩⟩, -⟩ := hSw; go_simp; done) | (intro wx hSw; obtain ⟨⟨-, k0, ⟨a0, a1, a2, a3⟩, ⟨b0, b1, b2, b3⟩⟩, -⟩ := hSw; go_simp; with_reducible rfl)
          simp only [Act.put, List.setIfInBounds_toArray, List.set_cons_zero, List.set_cons_succ]
          clear hW0
          refine wpAnyH_done (by kernel_rfl) ?_ _
          refine NoPanic.normal ?_
          refine hrest _ _ ?_
          clear hrest
          have HS := hide hHeld.1.1
          have hV := hide hHeld.2
          clear hHeld
          have hU := hide (four_set (unhide hZ) (.int .i64 vk) (.int .i64 vn) (.int .i64 vs) (.string ⟨#[]⟩))
          clear hZ
          obtain ⟨-, v0, v1, v2, v3, -⟩ := unhide hV
          obtain ⟨-, u0, u1, u2, u3, -⟩ := unhide hU
          clear hV hU
          have hT := (unhide HTO).2.2
          clear HTO HAT
          rcases hT with hne | ⟨rfl, hR⟩
          · have he0 : (e == 0) = false := by simpa using hne
            clear hne
            go_wp2_with fail
            go_roundw
            case rel => exact ⟨q + 1, by omega, by go_num, HS⟩
            case measure => simp [intOf]; omega
          · have HR := hide hR
            clear hR
            go_wp2_with fail
            refine (unhide HR _).mono ?_
            rintro r w9 ⟨rfl, hb⟩
            replace HS := hide (sr_call (unhide HS) hb)
            clear hb v0 v1 v2 v3 u0 u1 u2 u3
            go_wp2_with fail
            go_roundw
            case rel => exact ⟨q + 1, by omega, by go_num, HS⟩
            case measure => simp [intOf]; omega
        · go_wp2_with fail
          go_roundw
          case rel => exact ⟨p + 1, by omega, by go_num, HS⟩
          case measure => simp [intOf]; omega
    · go_wp2_with fail
      go_ret
      exact ⟨rfl, (unhide HS).1⟩

set_option maxHeartbeats 1000000 in
theorem reckons_long (kind a n b m : Int) (s : ByteArray) (w : World) (h : (100 : Int) < s.size) :
    Calls Try.prog 5 #[.int .i64 kind, .int .i64 a, .int .i64 n, .int .i64 b, .int .i64 m, .string s] w fun e w' => e = .returned (.bool true) ∧ Below w.heap.size w w' := by
  go_enter Try.func5, Try.ntmps5
  go_wp2_with fail
  refine (known_any _).mono ?_
  rintro e w1 ⟨rfl, hb1⟩
  go_wp2_with fail
  go_ret
  exact ⟨rfl, hb1⟩
theorem tmod6 (a : Int) : -6 < a.tmod 6 ∧ a.tmod 6 < 6 := by
  have := Int.natAbs_tmod a 6
  have h : a.natAbs % 6 < 6 := Nat.mod_lt _ (by decide)
  have e : (6 : Int).natAbs = 6 := rfl
  rw [e] at this; omega
theorem valReckons_walk (kind a n b m : Int) (s : ByteArray) (wk : (Lit.int .i64 kind).wf = true) (wa : (Lit.int .i64 a).wf = true) (wn : (Lit.int .i64 n).wf = true) (wb : (Lit.int .i64 b).wf = true) (wm : (Lit.int .i64 m).wf = true) (hs : s.size ≤ maxLen) (w : World) :
    Calls Try.prog 5 #[.int .i64 kind, .int .i64 a, .int .i64 n, .int .i64 b, .int .i64 m, .string s] w fun e w' => e = .returned (.bool true) ∧ Below w.heap.size w w' := by
  unfold maxLen at hs
  by_cases h : s.size ≤ 100
  · exact reckons_walk kind a n b m (b % 40) s w h (tmod6 a).1 (tmod6 a).2 (by omega) (by omega) (fun W => make_any a n s W (is64_wf wa) (is64_wf wn) hs) (fun W => make_any b m s W (is64_wf wb) (is64_wf wm) hs)
      (fun W => within1_any b 40 W (is64_wf wb) (by decide)) (fun W q hq => make_any q m s W hq (is64_wf wm) hs)
  · exact reckons_long kind a n b m s w (by omega)
end Go.Proofs.Ytofeecalpofklaa
