/-
  The walk of the law ValKnown.
-/
import Derived.Test.YtofeecalpofklaaWI0
import Derived.Test.YtofeecalpofklaaH
import Derived.Deep.RegionHeld3
import Derived.Deep.DrawnRows
import Derived.Laws.IdiomStrings
import Derived.Deep.QuietTactic
import Derived.BigQuiet
namespace Go.Proofs.Ytofeecalpofklaa
open Go.RowKit
set_option linter.unusedSimpArgs false
set_option linter.unusedVariables false

set_option maxHeartbeats 400000 in
theorem num_any (n s : Int) (w : World) :
    Calls Try.prog 25 #[.int .i64 n, .int .i64 s] w fun e w' => e = .returned (if s < 0 then V 2 n 0 EZ else V 3 n s EZ) ∧ Below w.heap.size w w' := by
  by_cases h : s < 0
  · rw [if_pos h]
    go_enter Try.func25, Try.ntmps25
    go_wp2
    exact bodyPost_ret (v := V 2 n 0 EZ) (by simp [results, Try.results25, go_sem]) rfl ⟨rfl, (Below.refl _ _).alloc (Nat.le_refl _) _⟩
  · rw [if_neg h]
    go_enter Try.func25, Try.ntmps25
    go_wp2
    exact bodyPost_ret (v := V 3 n s EZ) (by simp [results, Try.results25, go_sem]) rfl ⟨rfl, (Below.refl _ _).alloc (Nat.le_refl _) _⟩

/-- a block's cells -/
def Row (b : Nat) (A : Array Value) (W : World) : Prop := b < W.heap.size ∧ ∀ j, W.cell? ⟨b, j, none⟩ = A[j]?
theorem row_alloc (A : Array Value) (T : TypeId) (W : World) : Row W.heap.size A (W.alloc (.cells A T)) := ⟨by simp, fun j => World.cell?_alloc_mark W A T (0, 0) j⟩
theorem row_call {b : Nat} {A : Array Value} {W w1 : World} (h : Row b A W) (hb : Below W.heap.size W w1) : Row b A w1 :=
  ⟨Nat.lt_of_lt_of_le h.1 hb.size, fun j => (hb.cell (p := ⟨b, j, none⟩) h.1).trans (h.2 j)⟩
theorem row_more {b : Nat} {A : Array Value} {W : World} (h : Row b A W) (o : Obj) : Row b A (W.alloc o) := row_call h ((Below.refl _ _).alloc (Nat.le_refl _) _)
theorem row_far {b c o : Nat} {A : Array Value} {W : World} {y : Value} (hne : c ≠ b) (h : Row b A W) : Row b A (W.setCell ⟨c, o, none⟩ y) :=
  ⟨by simpa using h.1, fun j => by rw [World.cell?_setCell_other _ _ _ _ (by intro e; exact hne (by injection e))]; exact h.2 j⟩

abbrev kA : Array Value := #[.int .i64 2, .int .i64 9223372036854775807, .int .i64 0, .string EZ, .int .i64 2, .int .i64 (-9223372036854775808), .int .i64 0, .string EZ, .int .i64 2, .int .i64 (-9223372036854775808), .int .i64 0, .string EZ, .int .i64 2, .int .i64 3, .int .i64 0, .string EZ, .int .i64 3, .int .i64 15, .int .i64 1, .string EZ, .int .i64 3, .int .i64 1, .int .i64 6, .string EZ, .int .i64 3, .int .i64 1, .int .i64 6, .string EZ, .int .i64 3, .int .i64 999999999999999, .int .i64 0, .string EZ, .int .i64 3, .int .i64 (-5), .int .i64 1, .string EZ, .int .i64 3, .int .i64 25, .int .i64 2, .string EZ, .int .i64 3, .int .i64 1099511627776, .int .i64 6, .string EZ, .int .i64 3, .int .i64 999999999999999, .int .i64 0, .string EZ]
abbrev kB : Array Value := #[.int .i64 2, .int .i64 1, .int .i64 0, .string EZ, .int .i64 2, .int .i64 (-1), .int .i64 0, .string EZ, .int .i64 2, .int .i64 0, .int .i64 0, .string EZ, .int .i64 2, .int .i64 (-4), .int .i64 0, .string EZ, .int .i64 3, .int .i64 25, .int .i64 2, .string EZ, .int .i64 3, .int .i64 1, .int .i64 1, .string EZ, .int .i64 3, .int .i64 5, .int .i64 0, .string EZ, .int .i64 3, .int .i64 1, .int .i64 0, .string EZ, .int .i64 3, .int .i64 5, .int .i64 1, .string EZ, .int .i64 3, .int .i64 4, .int .i64 0, .string EZ, .int .i64 3, .int .i64 1000000, .int .i64 0, .string EZ, .int .i64 3, .int .i64 (-1), .int .i64 1, .string EZ]
abbrev kO : Array Value := #[.int .i64 7, .int .i64 6, .int .i64 4, .int .i64 6, .int .i64 7, .int .i64 6, .int .i64 6, .int .i64 7, .int .i64 7, .int .i64 6, .int .i64 6, .int .i64 7]
abbrev kW : Array Value := #[.int .i64 0, .int .i64 0, .int .i64 0, .string EZ, .int .i64 0, .int .i64 0, .int .i64 0, .string EZ, .int .i64 0, .int .i64 0, .int .i64 0, .string EZ, .int .i64 2, .int .i64 (-12), .int .i64 0, .string EZ, .int .i64 3, .int .i64 175, .int .i64 2, .string EZ, .int .i64 0, .int .i64 0, .int .i64 0, .string EZ, .int .i64 3, .int .i64 5, .int .i64 6, .string EZ, .int .i64 0, .int .i64 0, .int .i64 0, .string EZ, .int .i64 3, .int .i64 0, .int .i64 0, .string EZ, .int .i64 3, .int .i64 1, .int .i64 0, .string EZ, .int .i64 3, .int .i64 1099511627776, .int .i64 0, .string EZ, .int .i64 0, .int .i64 0, .int .i64 0, .string EZ]

/-- what stands at place i of the four lists, and what is reckoned of it -/
def At (i : Nat) (o ak an az bk bn bs wk wn ws vk vn vs e : Int) : Prop :=
  kO[i]? = some (.int .i64 o) ∧
  (kA[i * 4]? = some (.int .i64 ak) ∧ kA[i * 4 + 1]? = some (.int .i64 an) ∧ kA[i * 4 + 2]? = some (.int .i64 az) ∧ kA[i * 4 + 3]? = some (.string EZ)) ∧
  (kB[i * 4]? = some (.int .i64 bk) ∧ kB[i * 4 + 1]? = some (.int .i64 bn) ∧ kB[i * 4 + 2]? = some (.int .i64 bs) ∧ kB[i * 4 + 3]? = some (.string EZ)) ∧
  (kW[i * 4]? = some (.int .i64 wk) ∧ kW[i * 4 + 1]? = some (.int .i64 wn) ∧ kW[i * 4 + 2]? = some (.int .i64 ws) ∧ kW[i * 4 + 3]? = some (.string EZ)) ∧
  (∀ W, Calls Try.prog 23 #[.int .i64 o, V ak an az EZ, V bk bn bs EZ] W fun r w' => r = .returned (.tuple #[V vk vn vs EZ, .int .i64 e]) ∧ Below W.heap.size W w') ∧
  ((wk = 0 ∧ e = 10 ∧ vk = 0 ∧ vn = 0 ∧ vs = 0) ∨ ((wk = 2 ∨ wk = 3) ∧ e = 0 ∧ vk = wk ∧ vn = wn ∧ vs = ws))
theorem rk (o ak an az bk bn bs vk vn vs e : Int) (h1 : inI an = true) (h2 : inI bn = true) (h3 : ak = 3 → 0 ≤ az ∧ az ≤ 6) (h4 : bk = 3 → 0 ≤ bs ∧ bs ≤ 6) (h : (if o = 4 then recR 8 ak 0 0 ak an az else recR o ak an az bk bn bs) = ((vk, vn, vs), e)) (W : World) :
    Calls Try.prog 23 #[.int .i64 o, V ak an az EZ, V bk bn bs EZ] W fun r w' => r = .returned (.tuple #[V vk vn vs EZ, .int .i64 e]) ∧ Below W.heap.size W w' :=
  (reckon_any o ak an az EZ bk bn bs EZ W (is64_of h1) (is64_of h2) (fun g => ⟨h3 g, rfl⟩) (fun g => ⟨h4 g, rfl⟩)).mono (fun _ _ hh => ⟨hh.1.trans (recV_eq h), hh.2⟩)
theorem at_all (i : Nat) (hi : i < 12) : ∃ o ak an az bk bn bs wk wn ws vk vn vs e, At i o ak an az bk bn bs wk wn ws vk vn vs e := by
  match i, hi with
  | 0, _ => exact ⟨7, 2, 9223372036854775807, 0, 2, 1, 0, 0, 0, 0, 0, 0, 0, 10, rfl, ⟨rfl, rfl, rfl, rfl⟩, ⟨rfl, rfl, rfl, rfl⟩, ⟨rfl, rfl, rfl, rfl⟩, rk _ _ _ _ _ _ _ _ _ _ _ (by decide +kernel) (by decide +kernel) (by decide) (by decide) (by decide +kernel), by decide⟩
  | 1, _ => exact ⟨6, 2, (-9223372036854775808), 0, 2, (-1), 0, 0, 0, 0, 0, 0, 0, 10, rfl, ⟨rfl, rfl, rfl, rfl⟩, ⟨rfl, rfl, rfl, rfl⟩, ⟨rfl, rfl, rfl, rfl⟩, rk _ _ _ _ _ _ _ _ _ _ _ (by decide +kernel) (by decide +kernel) (by decide) (by decide) (by decide +kernel), by decide⟩
  | 2, _ => exact ⟨4, 2, (-9223372036854775808), 0, 2, 0, 0, 0, 0, 0, 0, 0, 0, 10, rfl, ⟨rfl, rfl, rfl, rfl⟩, ⟨rfl, rfl, rfl, rfl⟩, ⟨rfl, rfl, rfl, rfl⟩, rk _ _ _ _ _ _ _ _ _ _ _ (by decide +kernel) (by decide +kernel) (by decide) (by decide) (by decide +kernel), by decide⟩
  | 3, _ => exact ⟨6, 2, 3, 0, 2, (-4), 0, 2, (-12), 0, 2, (-12), 0, 0, rfl, ⟨rfl, rfl, rfl, rfl⟩, ⟨rfl, rfl, rfl, rfl⟩, ⟨rfl, rfl, rfl, rfl⟩, rk _ _ _ _ _ _ _ _ _ _ _ (by decide +kernel) (by decide +kernel) (by decide) (by decide) (by decide +kernel), by decide⟩
  | 4, _ => exact ⟨7, 3, 15, 1, 3, 25, 2, 3, 175, 2, 3, 175, 2, 0, rfl, ⟨rfl, rfl, rfl, rfl⟩, ⟨rfl, rfl, rfl, rfl⟩, ⟨rfl, rfl, rfl, rfl⟩, rk _ _ _ _ _ _ _ _ _ _ _ (by decide +kernel) (by decide +kernel) (by decide) (by decide) (by decide +kernel), by decide⟩
  | 5, _ => exact ⟨6, 3, 1, 6, 3, 1, 1, 0, 0, 0, 0, 0, 0, 10, rfl, ⟨rfl, rfl, rfl, rfl⟩, ⟨rfl, rfl, rfl, rfl⟩, ⟨rfl, rfl, rfl, rfl⟩, rk _ _ _ _ _ _ _ _ _ _ _ (by decide +kernel) (by decide +kernel) (by decide) (by decide) (by decide +kernel), by decide⟩
  | 6, _ => exact ⟨6, 3, 1, 6, 3, 5, 0, 3, 5, 6, 3, 5, 6, 0, rfl, ⟨rfl, rfl, rfl, rfl⟩, ⟨rfl, rfl, rfl, rfl⟩, ⟨rfl, rfl, rfl, rfl⟩, rk _ _ _ _ _ _ _ _ _ _ _ (by decide +kernel) (by decide +kernel) (by decide) (by decide) (by decide +kernel), by decide⟩
  | 7, _ => exact ⟨7, 3, 999999999999999, 0, 3, 1, 0, 0, 0, 0, 0, 0, 0, 10, rfl, ⟨rfl, rfl, rfl, rfl⟩, ⟨rfl, rfl, rfl, rfl⟩, ⟨rfl, rfl, rfl, rfl⟩, rk _ _ _ _ _ _ _ _ _ _ _ (by decide +kernel) (by decide +kernel) (by decide) (by decide) (by decide +kernel), by decide⟩
  | 8, _ => exact ⟨7, 3, (-5), 1, 3, 5, 1, 3, 0, 0, 3, 0, 0, 0, rfl, ⟨rfl, rfl, rfl, rfl⟩, ⟨rfl, rfl, rfl, rfl⟩, ⟨rfl, rfl, rfl, rfl⟩, rk _ _ _ _ _ _ _ _ _ _ _ (by decide +kernel) (by decide +kernel) (by decide) (by decide) (by decide +kernel), by decide⟩
  | 9, _ => exact ⟨6, 3, 25, 2, 3, 4, 0, 3, 1, 0, 3, 1, 0, 0, rfl, ⟨rfl, rfl, rfl, rfl⟩, ⟨rfl, rfl, rfl, rfl⟩, ⟨rfl, rfl, rfl, rfl⟩, rk _ _ _ _ _ _ _ _ _ _ _ (by decide +kernel) (by decide +kernel) (by decide) (by decide) (by decide +kernel), by decide⟩
  | 10, _ => exact ⟨6, 3, 1099511627776, 6, 3, 1000000, 0, 3, 1099511627776, 0, 3, 1099511627776, 0, 0, rfl, ⟨rfl, rfl, rfl, rfl⟩, ⟨rfl, rfl, rfl, rfl⟩, ⟨rfl, rfl, rfl, rfl⟩, rk _ _ _ _ _ _ _ _ _ _ _ (by decide +kernel) (by decide +kernel) (by decide) (by decide) (by decide +kernel), by decide⟩
  | 11, _ => exact ⟨7, 3, 999999999999999, 0, 3, (-1), 1, 0, 0, 0, 0, 0, 0, 10, rfl, ⟨rfl, rfl, rfl, rfl⟩, ⟨rfl, rfl, rfl, rfl⟩, ⟨rfl, rfl, rfl, rfl⟩, rk _ _ _ _ _ _ _ _ _ _ _ (by decide +kernel) (by decide +kernel) (by decide) (by decide) (by decide +kernel), by decide⟩


/-- the world has but grown; the four lists stand in it -/
def SK (w : World) (i bA bB bO bW : Nat) (o ak an az bk bn bs wk wn ws : Int) (W : World) : Prop :=
  Below w.heap.size w W ∧ (bA < W.heap.size ∧ bB < W.heap.size ∧ bO < W.heap.size ∧ bW < W.heap.size) ∧ W.cell? ⟨bO, i, none⟩ = some (.int .i64 o) ∧
  (W.cell? ⟨bA, i * 4, none⟩ = some (.int .i64 ak) ∧ W.cell? ⟨bA, i * 4 + 1, none⟩ = some (.int .i64 an) ∧ W.cell? ⟨bA, i * 4 + 2, none⟩ = some (.int .i64 az) ∧ W.cell? ⟨bA, i * 4 + 3, none⟩ = some (.string EZ)) ∧
  (W.cell? ⟨bB, i * 4, none⟩ = some (.int .i64 bk) ∧ W.cell? ⟨bB, i * 4 + 1, none⟩ = some (.int .i64 bn) ∧ W.cell? ⟨bB, i * 4 + 2, none⟩ = some (.int .i64 bs) ∧ W.cell? ⟨bB, i * 4 + 3, none⟩ = some (.string EZ)) ∧
  (W.cell? ⟨bW, i * 4, none⟩ = some (.int .i64 wk) ∧ W.cell? ⟨bW, i * 4 + 1, none⟩ = some (.int .i64 wn) ∧ W.cell? ⟨bW, i * 4 + 2, none⟩ = some (.int .i64 ws) ∧ W.cell? ⟨bW, i * 4 + 3, none⟩ = some (.string EZ))
theorem cell_kept {b B j : Nat} {v : Value} {W w1 : World} (hb : Below B W w1) (h : b < B) (hc : W.cell? ⟨b, j, none⟩ = some v) : w1.cell? ⟨b, j, none⟩ = some v := (hb.cell (p := ⟨b, j, none⟩) h).trans hc
theorem sk_below {w : World} {i bA bB bO bW : Nat} {o ak an az bk bn bs wk wn ws : Int} {W w1 : World} {B : Nat} (h : SK w i bA bB bO bW o ak an az bk bn bs wk wn ws W) (hw : w.heap.size ≤ B) (h1 : bA < B) (h2 : bB < B) (h3 : bO < B) (h4 : bW < B) (hb : Below B W w1) :
    SK w i bA bB bO bW o ak an az bk bn bs wk wn ws w1 := by
  obtain ⟨g1, g2, c0, ⟨a0, a1, a2, a3⟩, ⟨b0, b1, b2, b3⟩, ⟨d0, d1, d2, d3⟩⟩ := h
  have hz := hb.size
  exact ⟨g1.trans (hb.mono hw), ⟨by omega, by omega, by omega, by omega⟩, cell_kept hb h3 c0, ⟨cell_kept hb h1 a0, cell_kept hb h1 a1, cell_kept hb h1 a2, cell_kept hb h1 a3⟩,
    ⟨cell_kept hb h2 b0, cell_kept hb h2 b1, cell_kept hb h2 b2, cell_kept hb h2 b3⟩, ⟨cell_kept hb h4 d0, cell_kept hb h4 d1, cell_kept hb h4 d2, cell_kept hb h4 d3⟩⟩
theorem sk_call {w : World} {i bA bB bO bW : Nat} {o ak an az bk bn bs wk wn ws : Int} {W w1 : World} (h : SK w i bA bB bO bW o ak an az bk bn bs wk wn ws W) (hb : Below W.heap.size W w1) :
    SK w i bA bB bO bW o ak an az bk bn bs wk wn ws w1 := sk_below h h.1.size h.2.1.1 h.2.1.2.1 h.2.1.2.2.1 h.2.1.2.2.2 hb
theorem sk_start {w : World} {i bA bB bO bW : Nat} {o ak an az bk bn bs wk wn ws vk vn vs e : Int} {W : World} (h : At i o ak an az bk bn bs wk wn ws vk vn vs e) (hL : Below w.heap.size w W) (hA : Row bA kA W) (hB : Row bB kB W) (hO : Row bO kO W) (hW : Row bW kW W) :
    SK w i bA bB bO bW o ak an az bk bn bs wk wn ws W.drew := by
  obtain ⟨h0, ⟨a0, a1, a2, a3⟩, ⟨b0, b1, b2, b3⟩, ⟨d0, d1, d2, d3⟩, -⟩ := h
  exact ⟨hL.drew, ⟨hA.1, hB.1, hO.1, hW.1⟩, (hO.2 _).trans h0, ⟨(hA.2 _).trans a0, (hA.2 _).trans a1, (hA.2 _).trans a2, (hA.2 _).trans a3⟩, ⟨(hB.2 _).trans b0, (hB.2 _).trans b1, (hB.2 _).trans b2, (hB.2 _).trans b3⟩, ⟨(hW.2 _).trans d0, (hW.2 _).trans d1, (hW.2 _).trans d2, (hW.2 _).trans d3⟩⟩

set_option maxHeartbeats 8000000 in
set_option maxRecDepth 100000 in
theorem known_walk (which o ak an az bk bn bs wk wn ws vk vn vs r : Int) (i : Nat) (w : World) (hi : (i : Int) < 12)
    (WI : Hid (∀ W, Calls Try.prog 14 #[.int .i64 which, .int .i64 12] W fun e w' => e = .returned (.int .i64 (i : Int)) ∧ w' = W))
    (HA : Hid (At i o ak an az bk bn bs wk wn ws vk vn vs r)) :
    Calls Try.prog 7 #[.int .i64 which] w fun e w' => e = .returned (.bool true) ∧ Below w.heap.size w w' := by
  have hL := hide (Below.refl w.heap.size w)
  go_enter Try.func7, Try.ntmps7
  go_wp2_with fail
  refine (known_any _).mono ?_
  rintro e w0 ⟨rfl, hb0⟩
  replace hL := hide ((unhide hL).trans (hb0.mono (unhide hL).size))
  clear hb0
  go_wp2_with fail
  refine (num_any _ _ _).mono ?_
  rintro e w1 ⟨rfl, hb1⟩
  replace hL := hide ((unhide hL).trans (hb1.mono (unhide hL).size))
  clear hb1
  rw [if_pos (by decide)]
  go_wp2_with fail
  refine (num_any _ _ _).mono ?_
  rintro e w2 ⟨rfl, hb2⟩
  replace hL := hide ((unhide hL).trans (hb2.mono (unhide hL).size))
  clear hb2
  rw [if_pos (by decide)]
  go_wp2_with fail
  refine (num_any _ _ _).mono ?_
  rintro e w3 ⟨rfl, hb3⟩
  replace hL := hide ((unhide hL).trans (hb3.mono (unhide hL).size))
  clear hb3
  rw [if_pos (by decide)]
  go_wp2_with fail
  refine (num_any _ _ _).mono ?_
  rintro e w4 ⟨rfl, hb4⟩
  replace hL := hide ((unhide hL).trans (hb4.mono (unhide hL).size))
  clear hb4
  rw [if_pos (by decide)]
  go_wp2_with fail
  refine (num_any _ _ _).mono ?_
  rintro e w5 ⟨rfl, hb5⟩
  replace hL := hide ((unhide hL).trans (hb5.mono (unhide hL).size))
  clear hb5
  rw [if_neg (by decide)]
  go_wp2_with fail
  refine (num_any _ _ _).mono ?_
  rintro e w6 ⟨rfl, hb6⟩
  replace hL := hide ((unhide hL).trans (hb6.mono (unhide hL).size))
  clear hb6
  rw [if_neg (by decide)]
  go_wp2_with fail
  refine (num_any _ _ _).mono ?_
  rintro e w7 ⟨rfl, hb7⟩
  replace hL := hide ((unhide hL).trans (hb7.mono (unhide hL).size))
  clear hb7
  rw [if_neg (by decide)]
  go_wp2_with fail
  refine (num_any _ _ _).mono ?_
  rintro e w8 ⟨rfl, hb8⟩
  replace hL := hide ((unhide hL).trans (hb8.mono (unhide hL).size))
  clear hb8
  rw [if_neg (by decide)]
  go_wp2_with fail
  refine (num_any _ _ _).mono ?_
  rintro e w9 ⟨rfl, hb9⟩
  replace hL := hide ((unhide hL).trans (hb9.mono (unhide hL).size))
  clear hb9
  rw [if_neg (by decide)]
  go_wp2_with fail
  refine (num_any _ _ _).mono ?_
  rintro e w10 ⟨rfl, hb10⟩
  replace hL := hide ((unhide hL).trans (hb10.mono (unhide hL).size))
  clear hb10
  rw [if_neg (by decide)]
  go_wp2_with fail
  refine (num_any _ _ _).mono ?_
  rintro e w11 ⟨rfl, hb11⟩
  replace hL := hide ((unhide hL).trans (hb11.mono (unhide hL).size))
  clear hb11
  rw [if_neg (by decide)]
  go_wp2_with fail
  refine (num_any _ _ _).mono ?_
  rintro e w12 ⟨rfl, hb12⟩
  replace hL := hide ((unhide hL).trans (hb12.mono (unhide hL).size))
  clear hb12
  rw [if_neg (by decide)]
  have hA := hide (row_alloc kA 23 w12)
  replace hL := hide ((unhide hL).alloc (unhide hL).size (.cells kA 23))
  go_wp2_with fail
  refine (num_any _ _ _).mono ?_
  rintro e w13 ⟨rfl, hb13⟩
  replace hA := hide (row_call (unhide hA) hb13)
  replace hL := hide ((unhide hL).trans (hb13.mono (unhide hL).size))
  clear hb13
  rw [if_pos (by decide)]
  go_wp2_with fail
  refine (num_any _ _ _).mono ?_
  rintro e w14 ⟨rfl, hb14⟩
  replace hA := hide (row_call (unhide hA) hb14)
  replace hL := hide ((unhide hL).trans (hb14.mono (unhide hL).size))
  clear hb14
  rw [if_pos (by decide)]
  go_wp2_with fail
  refine (num_any _ _ _).mono ?_
  rintro e w15 ⟨rfl, hb15⟩
  replace hA := hide (row_call (unhide hA) hb15)
  replace hL := hide ((unhide hL).trans (hb15.mono (unhide hL).size))
  clear hb15
  rw [if_pos (by decide)]
  go_wp2_with fail
  refine (num_any _ _ _).mono ?_
  rintro e w16 ⟨rfl, hb16⟩
  replace hA := hide (row_call (unhide hA) hb16)
  replace hL := hide ((unhide hL).trans (hb16.mono (unhide hL).size))
  clear hb16
  rw [if_pos (by decide)]
  go_wp2_with fail
  refine (num_any _ _ _).mono ?_
  rintro e w17 ⟨rfl, hb17⟩
  replace hA := hide (row_call (unhide hA) hb17)
  replace hL := hide ((unhide hL).trans (hb17.mono (unhide hL).size))
  clear hb17
  rw [if_neg (by decide)]
  go_wp2_with fail
  refine (num_any _ _ _).mono ?_
  rintro e w18 ⟨rfl, hb18⟩
  replace hA := hide (row_call (unhide hA) hb18)
  replace hL := hide ((unhide hL).trans (hb18.mono (unhide hL).size))
  clear hb18
  rw [if_neg (by decide)]
  go_wp2_with fail
  refine (num_any _ _ _).mono ?_
  rintro e w19 ⟨rfl, hb19⟩
  replace hA := hide (row_call (unhide hA) hb19)
  replace hL := hide ((unhide hL).trans (hb19.mono (unhide hL).size))
  clear hb19
  rw [if_neg (by decide)]
  go_wp2_with fail
  refine (num_any _ _ _).mono ?_
  rintro e w20 ⟨rfl, hb20⟩
  replace hA := hide (row_call (unhide hA) hb20)
  replace hL := hide ((unhide hL).trans (hb20.mono (unhide hL).size))
  clear hb20
  rw [if_neg (by decide)]
  go_wp2_with fail
  refine (num_any _ _ _).mono ?_
  rintro e w21 ⟨rfl, hb21⟩
  replace hA := hide (row_call (unhide hA) hb21)
  replace hL := hide ((unhide hL).trans (hb21.mono (unhide hL).size))
  clear hb21
  rw [if_neg (by decide)]
  go_wp2_with fail
  refine (num_any _ _ _).mono ?_
  rintro e w22 ⟨rfl, hb22⟩
  replace hA := hide (row_call (unhide hA) hb22)
  replace hL := hide ((unhide hL).trans (hb22.mono (unhide hL).size))
  clear hb22
  rw [if_neg (by decide)]
  go_wp2_with fail
  refine (num_any _ _ _).mono ?_
  rintro e w23 ⟨rfl, hb23⟩
  replace hA := hide (row_call (unhide hA) hb23)
  replace hL := hide ((unhide hL).trans (hb23.mono (unhide hL).size))
  clear hb23
  rw [if_neg (by decide)]
  go_wp2_with fail
  refine (num_any _ _ _).mono ?_
  rintro e w24 ⟨rfl, hb24⟩
  replace hA := hide (row_call (unhide hA) hb24)
  replace hL := hide ((unhide hL).trans (hb24.mono (unhide hL).size))
  clear hb24
  rw [if_neg (by decide)]
  replace hA := hide (row_more (unhide hA) (.cells kB 23))
  have hB := hide (row_alloc kB 23 w24)
  replace hL := hide ((unhide hL).alloc (unhide hL).size (.cells kB 23))
  replace hA := hide (row_more (unhide hA) (.cells kO 3))
  replace hB := hide (row_more (unhide hB) (.cells kO 3))
  have hO := row_alloc kO 3 (w24.alloc (.cells kB 23))
  rw [World.size_alloc] at hO
  replace hO := hide hO
  replace hL := hide ((unhide hL).alloc (unhide hL).size (.cells kO 3))
  go_wp2_with fail
  refine (num_any _ _ _).mono ?_
  rintro e w25 ⟨rfl, hb25⟩
  replace hA := hide (row_call (unhide hA) hb25)
  replace hB := hide (row_call (unhide hB) hb25)
  replace hO := hide (row_call (unhide hO) hb25)
  replace hL := hide ((unhide hL).trans (hb25.mono (unhide hL).size))
  clear hb25
  rw [if_pos (by decide)]
  go_wp2_with fail
  refine (num_any _ _ _).mono ?_
  rintro e w26 ⟨rfl, hb26⟩
  replace hA := hide (row_call (unhide hA) hb26)
  replace hB := hide (row_call (unhide hB) hb26)
  replace hO := hide (row_call (unhide hO) hb26)
  replace hL := hide ((unhide hL).trans (hb26.mono (unhide hL).size))
  clear hb26
  rw [if_neg (by decide)]
  go_wp2_with fail
  refine (num_any _ _ _).mono ?_
  rintro e w27 ⟨rfl, hb27⟩
  replace hA := hide (row_call (unhide hA) hb27)
  replace hB := hide (row_call (unhide hB) hb27)
  replace hO := hide (row_call (unhide hO) hb27)
  replace hL := hide ((unhide hL).trans (hb27.mono (unhide hL).size))
  clear hb27
  rw [if_neg (by decide)]
  go_wp2_with fail
  refine (num_any _ _ _).mono ?_
  rintro e w28 ⟨rfl, hb28⟩
  replace hA := hide (row_call (unhide hA) hb28)
  replace hB := hide (row_call (unhide hB) hb28)
  replace hO := hide (row_call (unhide hO) hb28)
  replace hL := hide ((unhide hL).trans (hb28.mono (unhide hL).size))
  clear hb28
  rw [if_neg (by decide)]
  go_wp2_with fail
  refine (num_any _ _ _).mono ?_
  rintro e w29 ⟨rfl, hb29⟩
  replace hA := hide (row_call (unhide hA) hb29)
  replace hB := hide (row_call (unhide hB) hb29)
  replace hO := hide (row_call (unhide hO) hb29)
  replace hL := hide ((unhide hL).trans (hb29.mono (unhide hL).size))
  clear hb29
  rw [if_neg (by decide)]
  go_wp2_with fail
  refine (num_any _ _ _).mono ?_
  rintro e w30 ⟨rfl, hb30⟩
  replace hA := hide (row_call (unhide hA) hb30)
  replace hB := hide (row_call (unhide hB) hb30)
  replace hO := hide (row_call (unhide hO) hb30)
  replace hL := hide ((unhide hL).trans (hb30.mono (unhide hL).size))
  clear hb30
  rw [if_neg (by decide)]
  replace hA := hide (row_more (unhide hA) (.cells kW 23))
  replace hB := hide (row_more (unhide hB) (.cells kW 23))
  replace hO := hide (row_more (unhide hO) (.cells kW 23))
  have hW := hide (row_alloc kW 23 w30)
  replace hL := hide ((unhide hL).alloc (unhide hL).size (.cells kW 23))
  go_wp2_with fail
  refine (unhide WI _).mono ?_
  rintro e wq ⟨rfl, rfl⟩
  go_wp2_with fail
  have hS := hide (sk_start (unhide HA) (unhide hL) (unhide hA) (unhide hB) (unhide hO) (unhide hW))
  clear hL hA hB hO hW
  rename_i Q1 K1 hrest
  refine wp_region_noPanic ?_
  refine wp_region_held_drew (S := SK w i w12.heap.size w24.heap.size (w24.heap.size + 1) w30.heap.size o ak an az bk bn bs wk wn ws) (by kernel_rfl) (unhide hS) (fun hHeld => ?_)
  revert hHeld
  generalize World.drew _ = Wd
  intro hHeld
  refine wpAnyH_take (i := 0) (oi := ?oi1001) (v := ?v1001) ?hi1001 (by kernel_rfl) (by kernel_rfl) (by kernel_rfl) (fun _ _ _ h => h) (Or.inl ⟨?hw1001, ?hy1001⟩) (by assumption) ?rest1001
  case hi1001 => (simp only [List.getElem?_toArray, List.getElem?_cons_zero]; rfl)
  case hw1001 => rfl
  case hy1001 => first | (intro wx hSw; obtain ⟨-, -, o0, ⟨a0, a1, a2, a3⟩, ⟨b0, b1, b2, b3⟩, -⟩ := hSw; go_simp; done) | (intro wx hSw; obtain ⟨-, -, o0, ⟨a0, a1, a2, a3⟩, ⟨b0, b1, b2, b3⟩, -⟩ := hSw; go_simp; with_reducible rfl)
  simp only [Act.put, List.setIfInBounds_toArray, List.set_cons_zero, List.set_cons_succ]
  refine wpAnyH_take (i := 1) (oi := ?oi1002) (v := ?v1002) ?hi1002 (by kernel_rfl) (by kernel_rfl) (by kernel_rfl) (fun _ _ _ h => h) (Or.inl ⟨?hw1002, ?hy1002⟩) (by assumption) ?rest1002
  case hi1002 => (simp only [List.getElem?_toArray, List.getElem?_cons_zero, List.getElem?_cons_succ]; rfl)
  case hw1002 => rfl
  case hy1002 => first | (intro wx hSw; obtain ⟨-, -, o0, ⟨a0, a1, a2, a3⟩, ⟨b0, b1, b2, b3⟩, -⟩ := hSw; go_simp; done) | (intro wx hSw; obtain ⟨-, -, o0, ⟨a0, a1, a2, a3⟩, ⟨b0, b1, b2, b3⟩, -⟩ := hSw; go_simp; with_reducible rfl)
  simp only [Act.put, List.setIfInBounds_toArray, List.set_cons_zero, List.set_cons_succ]
  refine wpAnyH_take (i := 2) (oi := ?oi1003) (v := ?v1003) ?hi1003 (by kernel_rfl) (by kernel_rfl) (by kernel_rfl) (fun _ _ _ h => h) (Or.inl ⟨?hw1003, ?hy1003⟩) (by assumption) ?rest1003
  case hi1003 => (simp only [List.getElem?_toArray, List.getElem?_cons_zero, List.getElem?_cons_succ]; rfl)
  case hw1003 => rfl
  case hy1003 => first | (intro wx hSw; obtain ⟨-, -, o0, ⟨a0, a1, a2, a3⟩, ⟨b0, b1, b2, b3⟩, -⟩ := hSw; go_simp; done) | (intro wx hSw; obtain ⟨-, -, o0, ⟨a0, a1, a2, a3⟩, ⟨b0, b1, b2, b3⟩, -⟩ := hSw; go_simp; with_reducible rfl)
  simp only [Act.put, List.setIfInBounds_toArray, List.set_cons_zero, List.set_cons_succ]
  refine wpAnyH_take (i := 3) (oi := ?oi1004) (v := ?v1004) ?hi1004 (by kernel_rfl) (by kernel_rfl) (by kernel_rfl) (fun _ _ _ h => h) (Or.inl ⟨?hw1004, ?hy1004⟩) (by assumption) ?rest1004
  case hi1004 => (simp only [List.getElem?_toArray, List.getElem?_cons_zero, List.getElem?_cons_succ]; rfl)
  case hw1004 => rfl
  case hy1004 => first | (intro wx hSw; obtain ⟨-, -, o0, ⟨a0, a1, a2, a3⟩, ⟨b0, b1, b2, b3⟩, -⟩ := hSw; go_simp; done) | (intro wx hSw; obtain ⟨-, -, o0, ⟨a0, a1, a2, a3⟩, ⟨b0, b1, b2, b3⟩, -⟩ := hSw; go_simp; with_reducible rfl)
  simp only [Act.put, List.setIfInBounds_toArray, List.set_cons_zero, List.set_cons_succ]
  refine wpAnyH_take (i := 4) (oi := ?oi1005) (v := ?v1005) ?hi1005 (by kernel_rfl) (by kernel_rfl) (by kernel_rfl) (fun _ _ _ h => h) (Or.inl ⟨?hw1005, ?hy1005⟩) (by assumption) ?rest1005
  case hi1005 => (simp only [List.getElem?_toArray, List.getElem?_cons_zero, List.getElem?_cons_succ]; rfl)
  case hw1005 => rfl
  case hy1005 => first | (intro wx hSw; obtain ⟨-, -, o0, ⟨a0, a1, a2, a3⟩, ⟨b0, b1, b2, b3⟩, -⟩ := hSw; go_simp; done) | (intro wx hSw; obtain ⟨-, -, o0, ⟨a0, a1, a2, a3⟩, ⟨b0, b1, b2, b3⟩, -⟩ := hSw; go_simp; with_reducible rfl)
  simp only [Act.put, List.setIfInBounds_toArray, List.set_cons_zero, List.set_cons_succ]
  refine wpAnyH_take (i := 5) (oi := ?oi1006) (v := ?v1006) ?hi1006 (by kernel_rfl) (by kernel_rfl) (by kernel_rfl) (fun _ _ _ h => h) (Or.inl ⟨?hw1006, ?hy1006⟩) (by assumption) ?rest1006
  case hi1006 => (simp only [List.getElem?_toArray, List.getElem?_cons_zero, List.getElem?_cons_succ]; rfl)
  case hw1006 => rfl
  case hy1006 => first | (intro wx hSw; obtain ⟨-, -, o0, ⟨a0, a1, a2, a3⟩, ⟨b0, b1, b2, b3⟩, -⟩ := hSw; go_simp; done) | (intro wx hSw; obtain ⟨-, -, o0, ⟨a0, a1, a2, a3⟩, ⟨b0, b1, b2, b3⟩, -⟩ := hSw; go_simp; with_reducible rfl)
  simp only [Act.put, List.setIfInBounds_toArray, List.set_cons_zero, List.set_cons_succ]
  refine wpAnyH_take (i := 6) (oi := ?oi1007) (v := ?v1007) ?hi1007 (by kernel_rfl) (by kernel_rfl) (by kernel_rfl) (fun _ _ _ h => h) (Or.inl ⟨?hw1007, ?hy1007⟩) (by assumption) ?rest1007
  case hi1007 => (simp only [List.getElem?_toArray, List.getElem?_cons_zero, List.getElem?_cons_succ]; rfl)
  case hw1007 => rfl
  case hy1007 => first | (intro wx hSw; obtain ⟨-, -, o0, ⟨a0, a1, a2, a3⟩, ⟨b0, b1, b2, b3⟩, -⟩ := hSw; go_simp; done) | (intro wx hSw; obtain ⟨-, -, o0, ⟨a0, a1, a2, a3⟩, ⟨b0, b1, b2, b3⟩, -⟩ := hSw; go_simp; with_reducible rfl)
  simp only [Act.put, List.setIfInBounds_toArray, List.set_cons_zero, List.set_cons_succ]
  refine wpAnyH_take (i := 7) (oi := ?oi1008) (v := ?v1008) ?hi1008 (by kernel_rfl) (by kernel_rfl) (by kernel_rfl) (fun _ _ _ h => h) (Or.inl ⟨?hw1008, ?hy1008⟩) (by assumption) ?rest1008
  case hi1008 => (simp only [List.getElem?_toArray, List.getElem?_cons_zero, List.getElem?_cons_succ]; rfl)
  case hw1008 => rfl
  case hy1008 => first | (intro wx hSw; obtain ⟨-, -, o0, ⟨a0, a1, a2, a3⟩, ⟨b0, b1, b2, b3⟩, -⟩ := hSw; go_simp; done) | (intro wx hSw; obtain ⟨-, -, o0, ⟨a0, a1, a2, a3⟩, ⟨b0, b1, b2, b3⟩, -⟩ := hSw; go_simp; with_reducible rfl)
  simp only [Act.put, List.setIfInBounds_toArray, List.set_cons_zero, List.set_cons_succ]
  refine wpAnyH_take (i := 8) (oi := ?oi1009) (v := ?v1009) ?hi1009 (by kernel_rfl) (by kernel_rfl) (by kernel_rfl) (fun _ _ _ h => h) (Or.inl ⟨?hw1009, ?hy1009⟩) (by assumption) ?rest1009
  case hi1009 => (simp only [List.getElem?_toArray, List.getElem?_cons_zero, List.getElem?_cons_succ]; rfl)
  case hw1009 => rfl
  case hy1009 => first | (intro wx hSw; obtain ⟨-, -, o0, ⟨a0, a1, a2, a3⟩, ⟨b0, b1, b2, b3⟩, -⟩ := hSw; go_simp; done) | (intro wx hSw; obtain ⟨-, -, o0, ⟨a0, a1, a2, a3⟩, ⟨b0, b1, b2, b3⟩, -⟩ := hSw; go_simp; with_reducible rfl)
  simp only [Act.put, List.setIfInBounds_toArray, List.set_cons_zero, List.set_cons_succ]
  refine wpAnyH_take (i := 9) (oi := ?oi1010) (v := ?v1010) ?hi1010 (by kernel_rfl) (by kernel_rfl) (by kernel_rfl) (fun _ _ _ h => h) (Or.inl ⟨?hw1010, ?hy1010⟩) (by assumption) ?rest1010
  case hi1010 => (simp only [List.getElem?_toArray, List.getElem?_cons_zero, List.getElem?_cons_succ]; rfl)
  case hw1010 => rfl
  case hy1010 => first | (intro wx hSw; obtain ⟨-, -, o0, ⟨a0, a1, a2, a3⟩, ⟨b0, b1, b2, b3⟩, -⟩ := hSw; go_simp; done) | (intro wx hSw; obtain ⟨-, -, o0, ⟨a0, a1, a2, a3⟩, ⟨b0, b1, b2, b3⟩, -⟩ := hSw; go_simp; with_reducible rfl)
  simp only [Act.put, List.setIfInBounds_toArray, List.set_cons_zero, List.set_cons_succ]
  refine wpAnyH_take (i := 10) (oi := ?oi1011) (v := ?v1011) ?hi1011 (by kernel_rfl) (by kernel_rfl) (by kernel_rfl) (fun _ _ _ h => h) (Or.inl ⟨?hw1011, ?hy1011⟩) (by assumption) ?rest1011
  case hi1011 => (simp only [List.getElem?_toArray, List.getElem?_cons_zero, List.getElem?_cons_succ]; rfl)
  case hw1011 => rfl
  case hy1011 => first | (intro wx hSw; obtain ⟨-, -, o0, ⟨a0, a1, a2, a3⟩, ⟨b0, b1, b2, b3⟩, -⟩ := hSw; go_simp; done) | (intro wx hSw; obtain ⟨-, -, o0, ⟨a0, a1, a2, a3⟩, ⟨b0, b1, b2, b3⟩, -⟩ := hSw; go_simp; with_reducible rfl)
  simp only [Act.put, List.setIfInBounds_toArray, List.set_cons_zero, List.set_cons_succ]
  refine wpAnyH_take (i := 11) (oi := ?oi1012) (v := ?v1012) ?hi1012 (by kernel_rfl) (by kernel_rfl) (by kernel_rfl) (fun _ _ _ h => h) (Or.inl ⟨?hw1012, ?hy1012⟩) (by assumption) ?rest1012
  case hi1012 => (simp only [List.getElem?_toArray, List.getElem?_cons_zero, List.getElem?_cons_succ]; rfl)
  case hw1012 => rfl
  case hy1012 => first | (intro wx hSw; obtain ⟨-, -, o0, ⟨a0, a1, a2, a3⟩, ⟨b0, b1, b2, b3⟩, -⟩ := hSw; go_simp; done) | (intro wx hSw; obtain ⟨-, -, o0, ⟨a0, a1, a2, a3⟩, ⟨b0, b1, b2, b3⟩, -⟩ := hSw; go_simp; with_reducible rfl)
  simp only [Act.put, List.setIfInBounds_toArray, List.set_cons_zero, List.set_cons_succ]
  refine wpAnyH_ready (rs := [12, 16]) (by kernel_rfl) (by simp) ?_
  refine AllReadyH.cons rfl (fun K5001 hK5001 => ?_) ?_
  · go_simp
    go_wp2_with (go_at_call 23; refine ((unhide HA).2.2.2.2.1 _).mono ?_; rintro e wc ⟨rfl, hb⟩)
    refine hK5001.out _ _ ?hs5001 (fun hHeld5001 => ?_)
    case hs5001 => exact sk_call hHeld hb
    clear hHeld
    have hHeld := hHeld5001; clear hHeld5001 hK5001 K5001
    clear hb
    refine wpAnyH_take (i := 13) (oi := ?oi1013) (v := ?v1013) ?hi1013 (by kernel_rfl) (by kernel_rfl) (by kernel_rfl) (fun _ _ _ h => h) (Or.inl ⟨?hw1013, ?hy1013⟩) (by assumption) ?rest1013
    case hi1013 => (simp only [List.getElem?_toArray, List.getElem?_cons_zero, List.getElem?_cons_succ]; rfl)
    case hw1013 => rfl
    case hy1013 => first | (intro wx hSw; obtain ⟨-, -, o0, ⟨a0, a1, a2, a3⟩, ⟨b0, b1, b2, b3⟩, -⟩ := hSw; go_simp; done) | (intro wx hSw; obtain ⟨-, -, o0, ⟨a0, a1, a2, a3⟩, ⟨b0, b1, b2, b3⟩, -⟩ := hSw; go_simp; with_reducible rfl)
    simp only [Act.put, List.setIfInBounds_toArray, List.set_cons_zero, List.set_cons_succ]
    refine wpAnyH_take (i := 14) (oi := ?oi1014) (v := ?v1014) ?hi1014 (by kernel_rfl) (by kernel_rfl) (by kernel_rfl) (fun _ _ _ h => h) (Or.inl ⟨?hw1014, ?hy1014⟩) (by assumption) ?rest1014
    case hi1014 => (simp only [List.getElem?_toArray, List.getElem?_cons_zero, List.getElem?_cons_succ]; rfl)
    case hw1014 => rfl
    case hy1014 => first | (intro wx hSw; obtain ⟨-, -, o0, ⟨a0, a1, a2, a3⟩, ⟨b0, b1, b2, b3⟩, -⟩ := hSw; go_simp; done) | (intro wx hSw; obtain ⟨-, -, o0, ⟨a0, a1, a2, a3⟩, ⟨b0, b1, b2, b3⟩, -⟩ := hSw; go_simp; with_reducible rfl)
    simp only [Act.put, List.setIfInBounds_toArray, List.set_cons_zero, List.set_cons_succ]
    refine wpAnyH_take (i := 15) (oi := ?oi1015) (v := ?v1015) ?hi1015 (by kernel_rfl) (by kernel_rfl) (by kernel_rfl) (fun _ _ _ h => h) (Or.inl ⟨?hw1015, ?hy1015⟩) (by assumption) ?rest1015
    case hi1015 => (simp only [List.getElem?_toArray, List.getElem?_cons_zero, List.getElem?_cons_succ]; rfl)
    case hw1015 => rfl
    case hy1015 => first | (intro wx hSw; obtain ⟨-, -, o0, ⟨a0, a1, a2, a3⟩, ⟨b0, b1, b2, b3⟩, -⟩ := hSw; go_simp; done) | (intro wx hSw; obtain ⟨-, -, o0, ⟨a0, a1, a2, a3⟩, ⟨b0, b1, b2, b3⟩, -⟩ := hSw; go_simp; with_reducible rfl)
    simp only [Act.put, List.setIfInBounds_toArray, List.set_cons_zero, List.set_cons_succ]
    have hW0 := hide hHeld
    refine wpAnyH_ready (rs := [16]) (by kernel_rfl) (by simp) ?_
    refine AllReadyH.cons rfl (fun K5002 hK5002 => ?_) AllReadyH.nil
    go_simp
    refine hK5002.out _ _ ?hs5002 (fun hHeld5002 => ?_)
    case hs5002 => exact sk_call (unhide hW0) ((Below.refl _ _).alloc (Nat.le_refl _) _)
    clear hHeld
    have hHeld := hHeld5002; clear hHeld5002 hK5002 K5002
    refine wpAnyH_ready (rs := [17]) (by kernel_rfl) (by simp) ?_
    refine AllReadyH.cons rfl (fun K5003 hK5003 => ?_) AllReadyH.nil
    go_simp
    refine hK5003.out _ _ ?hs5003 (fun hHeld5003 => ?_)
    case hs5003 => exact sk_call (unhide hW0) ((Below.refl _ _).alloc (Nat.le_refl _) _)
    clear hHeld
    have hHeld := hHeld5003; clear hHeld5003 hK5003 K5003
    refine wpAnyH_take (i := 18) (oi := ?oi1016) (v := ?v1016) ?hi1016 (by kernel_rfl) (by kernel_rfl) (by kernel_rfl) (fun _ _ _ h => h) (Or.inl ⟨?hw1016, ?hy1016⟩) (by assumption) ?rest1016
    case hi1016 => (simp only [List.getElem?_toArray, List.getElem?_cons_zero, List.getElem?_cons_succ]; rfl)
    case hw1016 => rfl
    case hy1016 => first | (intro wx hSw; obtain ⟨-, -, o0, ⟨a0, a1, a2, a3⟩, ⟨b0, b1, b2, b3⟩, -⟩ := hSw; go_simp; done) | (intro wx hSw; obtain ⟨-, -, o0, ⟨a0, a1, a2, a3⟩, ⟨b0, b1, b2, b3⟩, -⟩ := hSw; go_simp; with_reducible rfl)
    simp only [Act.put, List.setIfInBounds_toArray, List.set_cons_zero, List.set_cons_succ]
    have hV := four_alloc (.int .i64 vk) (.int .i64 vn) (.int .i64 vs) (.string EZ) 23 wc
    clear hW0
    refine wpAnyH_done (by kernel_rfl) ?_ _
    refine NoPanic.normal ?_
    refine hrest _ _ ?_
    obtain ⟨HB, -, -, -, -, ⟨d0, d1, d2, d3⟩⟩ := hHeld
    have HW := hide HB
    clear HB hrest
    obtain ⟨-, p0, p1, p2, p3, -⟩ := hV
    have hcase := (unhide HA).2.2.2.2.2
    clear HA
    rcases hcase with ⟨rfl, rfl, rfl, rfl, rfl⟩ | ⟨hk, rfl, rfl, rfl, rfl⟩
    · go_wp2_with fail
      go_ret
      exact ⟨rfl, unhide HW⟩
    · rcases hk with rfl | rfl
      all_goals
        go_wp2_with fail
        go_quiet (fail)
        go_wp2
        go_ret
        exact ⟨rfl, below_drewN (unhide HW) _⟩
  refine AllReadyH.cons rfl (fun K5004 hK5004 => ?_) AllReadyH.nil
  have hW0 := hide hHeld
  go_simp
  refine hK5004.out _ _ ?hs5004 (fun hHeld5004 => ?_)
  case hs5004 => exact sk_call (unhide hW0) ((Below.refl _ _).alloc (Nat.le_refl _) _)
  clear hHeld
  have hHeld := hHeld5004; clear hHeld5004 hK5004 K5004
  have hZ := hide (four_alloc (.int .i64 0) (.int .i64 0) (.int .i64 0) (.string EZ) 23 Wd)
  refine wpAnyH_ready (rs := [12]) (by kernel_rfl) (by simp) ?_
  refine AllReadyH.cons rfl (fun K5005 hK5005 => ?_) AllReadyH.nil
  go_simp
  go_wp2_with (go_at_call 23; refine ((unhide HA).2.2.2.2.1 _).mono ?_; rintro e wc ⟨rfl, hb⟩)
  replace hZ := hide (four_call (unhide hZ) hb)
  refine hK5005.out _ _ ?hs5005 (fun hHeld5005 => ?_)
  case hs5005 => exact sk_call hHeld hb
  clear hHeld
  have hHeld := hHeld5005; clear hHeld5005 hK5005 K5005
  clear hb
  refine wpAnyH_take (i := 13) (oi := ?oi1017) (v := ?v1017) ?hi1017 (by kernel_rfl) (by kernel_rfl) (by kernel_rfl) (fun _ _ _ h => h) (Or.inl ⟨?hw1017, ?hy1017⟩) (by assumption) ?rest1017
  case hi1017 => (simp only [List.getElem?_toArray, List.getElem?_cons_zero, List.getElem?_cons_succ]; rfl)
  case hw1017 => rfl
  case hy1017 => first | (intro wx hSw; obtain ⟨-, -, o0, ⟨a0, a1, a2, a3⟩, ⟨b0, b1, b2, b3⟩, -⟩ := hSw; go_simp; done) | (intro wx hSw; obtain ⟨-, -, o0, ⟨a0, a1, a2, a3⟩, ⟨b0, b1, b2, b3⟩, -⟩ := hSw; go_simp; with_reducible rfl)
  simp only [Act.put, List.setIfInBounds_toArray, List.set_cons_zero, List.set_cons_succ]
  refine wpAnyH_take (i := 14) (oi := ?oi1018) (v := ?v1018) ?hi1018 (by kernel_rfl) (by kernel_rfl) (by kernel_rfl) (fun _ _ _ h => h) (Or.inl ⟨?hw1018, ?hy1018⟩) (by assumption) ?rest1018
  case hi1018 => (simp only [List.getElem?_toArray, List.getElem?_cons_zero, List.getElem?_cons_succ]; rfl)
  case hw1018 => rfl
  case hy1018 => first | (intro wx hSw; obtain ⟨-, -, o0, ⟨a0, a1, a2, a3⟩, ⟨b0, b1, b2, b3⟩, -⟩ := hSw; go_simp; done) | (intro wx hSw; obtain ⟨-, -, o0, ⟨a0, a1, a2, a3⟩, ⟨b0, b1, b2, b3⟩, -⟩ := hSw; go_simp; with_reducible rfl)
  simp only [Act.put, List.setIfInBounds_toArray, List.set_cons_zero, List.set_cons_succ]
  refine wpAnyH_take (i := 15) (oi := ?oi1019) (v := ?v1019) ?hi1019 (by kernel_rfl) (by kernel_rfl) (by kernel_rfl) (fun _ _ _ h => h) (Or.inl ⟨?hw1019, ?hy1019⟩) (by assumption) ?rest1019
  case hi1019 => (simp only [List.getElem?_toArray, List.getElem?_cons_zero, List.getElem?_cons_succ]; rfl)
  case hw1019 => rfl
  case hy1019 => first | (intro wx hSw; obtain ⟨-, -, o0, ⟨a0, a1, a2, a3⟩, ⟨b0, b1, b2, b3⟩, -⟩ := hSw; go_simp; done) | (intro wx hSw; obtain ⟨-, -, o0, ⟨a0, a1, a2, a3⟩, ⟨b0, b1, b2, b3⟩, -⟩ := hSw; go_simp; with_reducible rfl)
  simp only [Act.put, List.setIfInBounds_toArray, List.set_cons_zero, List.set_cons_succ]
  refine wpAnyH_ready (rs := [17]) (by kernel_rfl) (by simp) ?_
  refine AllReadyH.cons rfl (fun K5006 hK5006 => ?_) AllReadyH.nil
  obtain ⟨z0, z1, z2, z3, z4, z5, z6, z7, z8⟩ := unhide hZ
  go_simp
  clear z0 z1 z2 z3 z4 z5 z6 z7 z8
  refine hK5006.out _ _ ?hs5006 (fun hHeld5006 => ?_)
  case hs5006 => exact sk_below hHeld (unhide hW0).1.size (unhide hW0).2.1.1 (unhide hW0).2.1.2.1 (unhide hW0).2.1.2.2.1 (unhide hW0).2.1.2.2.2 (below_set4 _ _ _ _ _ _)
  clear hHeld
  have hHeld := hHeld5006; clear hHeld5006 hK5006 K5006
  refine wpAnyH_take (i := 18) (oi := ?oi1020) (v := ?v1020) ?hi1020 (by kernel_rfl) (by kernel_rfl) (by kernel_rfl) (fun _ _ _ h => h) (Or.inl ⟨?hw1020, ?hy1020⟩) (by assumption) ?rest1020
  case hi1020 => (simp only [List.getElem?_toArray, List.getElem?_cons_zero, List.getElem?_cons_succ]; rfl)
  case hw1020 => rfl
  case hy1020 => first | (intro wx hSw; obtain ⟨-, -, o0, ⟨a0, a1, a2, a3⟩, ⟨b0, b1, b2, b3⟩, -⟩ := hSw; go_simp; done) | (intro wx hSw; obtain ⟨-, -, o0, ⟨a0, a1, a2, a3⟩, ⟨b0, b1, b2, b3⟩, -⟩ := hSw; go_simp; with_reducible rfl)
  simp only [Act.put, List.setIfInBounds_toArray, List.set_cons_zero, List.set_cons_succ]
  have hV := four_set (unhide hZ) (.int .i64 vk) (.int .i64 vn) (.int .i64 vs) (.string EZ)
  clear hZ hW0
  refine wpAnyH_done (by kernel_rfl) ?_ _
  refine NoPanic.normal ?_
  refine hrest _ _ ?_
  obtain ⟨HB, -, -, -, -, ⟨d0, d1, d2, d3⟩⟩ := hHeld
  have HW := hide HB
  clear HB hrest
  obtain ⟨-, p0, p1, p2, p3, -⟩ := hV
  have hcase := (unhide HA).2.2.2.2.2
  clear HA
  rcases hcase with ⟨rfl, rfl, rfl, rfl, rfl⟩ | ⟨hk, rfl, rfl, rfl, rfl⟩
  · go_wp2_with fail
    go_ret
    exact ⟨rfl, unhide HW⟩
  · rcases hk with rfl | rfl
    all_goals
      go_wp2_with fail
      go_quiet (fail)
      go_wp2
      go_ret
      exact ⟨rfl, below_drewN (unhide HW) _⟩

theorem valKnown_walk (which : Int) (ww : (Lit.int .i64 which).wf = true) (w : World) :
    Calls Try.prog 7 #[.int .i64 which] w fun e w' => e = .returned (.bool true) ∧ Below w.heap.size w w' := by
  obtain ⟨i, hi⟩ : ∃ i : Nat, which % 12 = (i : Int) := ⟨(which % 12).toNat, by omega⟩
  obtain ⟨o, ak, an, az, bk, bn, bs, wk, wn, ws, vk, vn, vs, e, h⟩ := at_all i (by omega)
  exact known_walk which o ak an az bk bn bs wk wn ws vk vn vs e i w (by omega) (fun W => within1_at (is64_wf ww) (by decide) hi W) h
end Go.Proofs.Ytofeecalpofklaa
