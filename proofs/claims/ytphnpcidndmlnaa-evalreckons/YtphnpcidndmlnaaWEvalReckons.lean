/-
  EvalReckons: the walk.
-/
import Derived.Test.YtphnpcidndmlnaaEVA
import Derived.Test.YtphnpcidndmlnaaZ5
namespace Go.Proofs.Ytphnpcidndmlnaa
open Go.RowKit
set_option linter.unusedSimpArgs false
set_option linter.unusedVariables false

theorem evalT_any (nm : ByteArray) (v : Value) (cs : List C3) (p : Option Addr) (vs : List V4) (rcap : Nat) (e0 : Ex) (lv0 : Value) (r : V4 × Int) (w : World) (hr : evalR cs vs e0 = r) (hv : ColsOf v cs w) (hrow : RowOf p vs w) (hvs : ∀ v ∈ vs, OkV v) (hD : e0.deep ≤ 1000) (hR : Rep e0 lv0 w) (hE : ExOk e0) :
    Calls Try.prog 19 #[TabN nm v, .slice p vs.length rcap, .agg (exC e0 lv0).toArray] w (FinV r w) := hr ▸ eval_any _ _ _ _ _ _ _ _ _ _ _ v cs p vs rcap e0 lv0 w hv hrow hvs hD hR hE
theorem okInt (n : Int) (h : Is64 n) : OkV (2, n, 0, S0) := ⟨h, (by omega : (0 : Int) ≤ 0 ∧ (0 : Int) ≤ 6), fun _ => rfl, (by decide : S0.size ≤ 281474976710656)⟩
theorem s0_nil : S0.toList = [] := by decide +kernel
theorem ok1Int (n : Int) (h : Is64 n) : Ok 2 n 0 S0 := ⟨by decide, by unfold rightB; rw [if_neg (by decide), if_neg (by decide), if_pos rfl]; exact decide_eq_true ⟨rfl, s0_nil⟩, h, by decide, by decide, fun _ => rfl⟩
theorem ok1Z : Ok 0 0 0 S0 := ⟨by decide, by unfold rightB; rw [if_pos rfl]; exact decide_eq_true ⟨rfl, rfl, s0_nil⟩, is64_n _ (by decide), by decide, by decide, fun _ => rfl⟩
theorem nm_a (x y p q : V4) : valR ⟨#[97]⟩ cols4 [x, y, p, q] = (x, 0) := by
  have h1 : ((⟨#[97]⟩ : ByteArray).toList == (⟨#[97]⟩ : ByteArray).toList) = true := by decide +kernel
  simp only [valR, valFrom, h1, if_true]
theorem nm_b (x y p q : V4) : valR ⟨#[98]⟩ cols4 [x, y, p, q] = (y, 0) := by
  have h1 : ((⟨#[97]⟩ : ByteArray).toList == (⟨#[98]⟩ : ByteArray).toList) = false := by decide +kernel
  have h2 : ((⟨#[98]⟩ : ByteArray).toList == (⟨#[98]⟩ : ByteArray).toList) = true := by decide +kernel
  simp only [valR, valFrom, h1, h2, if_true, Bool.false_eq_true, if_false]
theorem nm_c (x y p q : V4) : valR ⟨#[99]⟩ cols4 [x, y, p, q] = (p, 0) := by
  have h1 : ((⟨#[97]⟩ : ByteArray).toList == (⟨#[99]⟩ : ByteArray).toList) = false := by decide +kernel
  have h2 : ((⟨#[98]⟩ : ByteArray).toList == (⟨#[99]⟩ : ByteArray).toList) = false := by decide +kernel
  have h3 : ((⟨#[99]⟩ : ByteArray).toList == (⟨#[99]⟩ : ByteArray).toList) = true := by decide +kernel
  simp only [valR, valFrom, h1, h2, h3, if_true, Bool.false_eq_true, if_false]
theorem nm_d (x y p q : V4) : valR ⟨#[100]⟩ cols4 [x, y, p, q] = (q, 0) := by
  have h1 : ((⟨#[97]⟩ : ByteArray).toList == (⟨#[100]⟩ : ByteArray).toList) = false := by decide +kernel
  have h2 : ((⟨#[98]⟩ : ByteArray).toList == (⟨#[100]⟩ : ByteArray).toList) = false := by decide +kernel
  have h3 : ((⟨#[99]⟩ : ByteArray).toList == (⟨#[100]⟩ : ByteArray).toList) = false := by decide +kernel
  have h4 : ((⟨#[100]⟩ : ByteArray).toList == (⟨#[100]⟩ : ByteArray).toList) = true := by decide +kernel
  simp only [valR, valFrom, h1, h2, h3, h4, if_true, Bool.false_eq_true, if_false]
theorem ev_col {cs : List C3} {vs : List V4} {s : ByteArray} {x : V4} (h : valR s cs vs = (x, 0)) : evalR cs vs (colX s) = (x, 0) := by
  show fin Z4 (valR s cs vs) = _
  rw [h]; rfl
theorem ev_two {cs : List C3} {vs : List V4} {a b : Ex} {x y : V4} (k : Int) (ha : evalR cs vs a = (x, 0)) (hb : evalR cs vs b = (y, 0)) : evalR cs vs (twoX k a b) = fin Z4 (valF cs vs (twoX k a b) x y) := by
  show (if (evalR cs vs a).2 = 0 then (if (evalR cs vs b).2 = 0 then fin Z4 (valF cs vs (twoX k a b) (evalR cs vs a).1 (evalR cs vs b).1) else (Z4, (evalR cs vs b).2)) else (Z4, (evalR cs vs a).2)) = _
  rw [ha, hb]; rfl
theorem ev_one {cs : List C3} {vs : List V4} {a : Ex} {x : V4} (k : Int) (ha : evalR cs vs a = (x, 0)) : evalR cs vs (oneX k a) = fin Z4 (valF cs vs (oneX k a) x Z4) := by
  show (if (evalR cs vs a).2 = 0 then fin Z4 (valF cs vs (oneX k a) (evalR cs vs a).1 Z4) else (Z4, (evalR cs vs a).2)) = _
  rw [ha]; rfl
theorem rk_two (k : Int) (x y p q : V4) (h : k = 6 ∨ k = 7 ∨ k = 8) : evalR cols4 [x, y, p, q] (twoX k (colX ⟨#[97]⟩) (colX ⟨#[98]⟩)) = recW k x y := by
  rw [ev_two k (ev_col (nm_a x y p q)) (ev_col (nm_b x y p q))]
  rcases h with rfl | rfl | rfl
  · exact fin_rec _ _ _
  · exact fin_rec _ _ _
  · exact fin_rec _ _ _
theorem rk_neg (x y p q : V4) : evalR cols4 [x, y, p, q] (oneX 4 (colX ⟨#[97]⟩)) = recW 4 x Z4 := by
  rw [ev_one 4 (ev_col (nm_a x y p q))]
  exact fin_rec _ _ _
theorem rreckon_W (k : Int) (a b : V4) (W : World) (ha : Ok a.1 a.2.1 a.2.2.1 a.2.2.2) (hb : Ok b.1 b.2.1 b.2.2.1 b.2.2.2) : Calls Try.prog 30 #[.int .i64 k, .agg (vC a).toArray, .agg (vC b).toArray] W (FinV (recW k a b) W) := rreckon_ok k a.1 a.2.1 a.2.2.1 a.2.2.2 b.1 b.2.1 b.2.2.1 b.2.2.2 W ha hb
theorem two_deep (k : Int) (s t : ByteArray) : (twoX k (colX s) (colX t)).deep ≤ 1000 := show 2 ≤ 1000 by decide
theorem one_deep (k : Int) (s : ByteArray) : (oneX k (colX s)).deep ≤ 1000 := show 2 ≤ 1000 by decide
theorem one_ok (k : Int) (s : ByteArray) : ExOk (oneX k (colX s)) := ⟨okZ, okZ⟩
theorem two_ok (k : Int) (s t : ByteArray) : ExOk (twoX k (colX s) (colX t)) := ⟨okZ, okZ, okZ⟩
theorem ok_row4 {x y p q : V4} (hx : OkV x) (hy : OkV y) (hp : OkV p) (hq : OkV q) : ∀ v ∈ [x, y, p, q], OkV v := by
  intro v hv
  simp only [List.mem_cons, List.not_mem_nil, or_false] at hv
  rcases hv with rfl | rfl | rfl | rfl
  · exact hx
  · exact hy
  · exact hp
  · exact hq
set_option maxHeartbeats 16000000 in
set_option maxRecDepth 100000 in
theorem reckons_walk (a b kind : Int) (ha : Is64 a) (hb : Is64 b) (hk : Is64 kind) (w : World) :
    Calls Try.prog 8 #[.int .i64 a, .int .i64 b, .int .i64 kind] w fun e w' => e = .returned (.bool true) ∧ Below w.heap.size w w' := by
  have hOK := hide (ok_row4 (okInt a ha) (okInt b hb) okZ okZ)
  have CR := hide (fun k W => rreckon_W k (2, a, 0, S0) (2, b, 0, S0) W (ok1Int a ha) (ok1Int b hb))
  have CN := hide (fun W => rreckon_W 4 (2, a, 0, S0) Z4 W (ok1Int a ha) ok1Z)
  have CW := hide (fun W => within4_any kind 3 W hk (by decide))
  have h0 := Int.emod_nonneg kind (show (3 : Int) ≠ 0 by decide)
  have h3 := Int.emod_lt_of_pos kind (show (0 : Int) < 3 by decide)
  have hm : kind % 3 = 0 ∨ kind % 3 = 1 ∨ kind % 3 = 2 := by omega
  generalize kind % 3 = m at *
  clear h0 h3 ha hb hk
  go_enter Try.func8, Try.ntmps8
  go_wp2_with fail
  refine (known4_any _).mono ?_
  rintro e W1 ⟨rfl, hb1⟩
  have G : Hid (Grown w W1) := hb1
  clear hb1
  go_wp2_with fail
  refine (colsL_any _).mono ?_
  rintro e W2 ⟨gc, rfl, hC, hb2⟩
  replace G := hide ((unhide G).call hb2)
  replace hC := hide hC
  clear hb2
  go_wp2_with fail
  rename_i K7 hr7 K6 hr6
  have REST7 : ∀ (ac : Act) (k : Int) (bt bx by_ br : Nat) (X : World), ac = ⟨#[ac.tmps.getD 0 undef, ac.tmps.getD 1 undef, ac.tmps.getD 2 undef, ac.tmps.getD 3 undef, ac.tmps.getD 4 undef, ac.tmps.getD 5 undef, ac.tmps.getD 6 undef, .pointer (some ⟨bt, 0, none⟩), .pointer (some ⟨bx, 0, none⟩), .pointer (some ⟨by_, 0, none⟩), .slice (some ⟨br, 0, none⟩) 4 4, .int .i64 k, ac.tmps.getD 12 undef, ac.tmps.getD 13 undef, ac.tmps.getD 14 undef, ac.tmps.getD 15 undef, ac.tmps.getD 16 undef, ac.tmps.getD 17 undef, ac.tmps.getD 18 undef, ac.tmps.getD 19 undef, ac.tmps.getD 20 undef, ac.tmps.getD 21 undef, ac.tmps.getD 22 undef, ac.tmps.getD 23 undef, ac.tmps.getD 24 undef, ac.tmps.getD 25 undef, ac.tmps.getD 26 undef, ac.tmps.getD 27 undef, ac.tmps.getD 28 undef, ac.tmps.getD 29 undef, ac.tmps.getD 30 undef, ac.tmps.getD 31 undef, ac.tmps.getD 32 undef, ac.tmps.getD 33 undef, ac.tmps.getD 34 undef, ac.tmps.getD 35 undef, ac.tmps.getD 36 undef, ac.tmps.getD 37 undef, ac.tmps.getD 38 undef, ac.tmps.getD 39 undef, ac.tmps.getD 40 undef, ac.tmps.getD 41 undef, ac.tmps.getD 42 undef, ac.tmps.getD 43 undef, ac.tmps.getD 44 undef, ac.tmps.getD 45 undef, ac.tmps.getD 46 undef, ac.tmps.getD 47 undef, ac.tmps.getD 48 undef, ac.tmps.getD 49 undef, ac.tmps.getD 50 undef, ac.tmps.getD 51 undef, ac.tmps.getD 52 undef, ac.tmps.getD 53 undef, ac.tmps.getD 54 undef, ac.tmps.getD 55 undef, ac.tmps.getD 56 undef, ac.tmps.getD 57 undef, ac.tmps.getD 58 undef, ac.tmps.getD 59 undef, ac.tmps.getD 60 undef, ac.tmps.getD 61 undef, ac.tmps.getD 62 undef, ac.tmps.getD 63 undef, ac.tmps.getD 64 undef, ac.tmps.getD 65 undef, ac.tmps.getD 66 undef, ac.tmps.getD 67 undef, ac.tmps.getD 68 undef, ac.tmps.getD 69 undef, ac.tmps.getD 70 undef, ac.tmps.getD 71 undef, ac.tmps.getD 72 undef, ac.tmps.getD 73 undef, ac.tmps.getD 74 undef, ac.tmps.getD 75 undef, ac.tmps.getD 76 undef, ac.tmps.getD 77 undef, ac.tmps.getD 78 undef, ac.tmps.getD 79 undef, ac.tmps.getD 80 undef, ac.tmps.getD 81 undef, ac.tmps.getD 82 undef, ac.tmps.getD 83 undef, ac.tmps.getD 84 undef, ac.tmps.getD 85 undef, ac.tmps.getD 86 undef], []⟩ → (k = 6 ∨ k = 7 ∨ k = 8) → Hid (Grown w X) → Hid (ColsOf (.slice (some ⟨gc, 0, none⟩) 4 4) cols4 X) → Hid (RowOf (some ⟨br, 0, none⟩) [(2, a, 0, S0), (2, b, 0, S0), Z4, Z4] X) → Hid (Blk bt #[.string ⟨#[116]⟩, .slice (some ⟨gc, 0, none⟩) 4 4, .int .i64 0, N0, .int .i64 0, .string S0, .int .i64 0, .int .i64 0, .int .i64 0, .string S0, N0, N0] 34 X) → Hid (Blk bx #[.int .i64 2, .int .i64 a, .int .i64 0, .string S0] 28 X) → Hid (Blk by_ #[.int .i64 2, .int .i64 b, .int .i64 0, .string S0] 28 X) → K7 ac X := by
    clear G hC
    intro ac k bt bx by_ br X ha hk G hC hR hT hX hY
    obtain ⟨u, rfl⟩ : ∃ u : Nat → Value, ac = ⟨#[u 0, u 1, u 2, u 3, u 4, u 5, u 6, .pointer (some ⟨bt, 0, none⟩), .pointer (some ⟨bx, 0, none⟩), .pointer (some ⟨by_, 0, none⟩), .slice (some ⟨br, 0, none⟩) 4 4, .int .i64 k, u 12, u 13, u 14, u 15, u 16, u 17, u 18, u 19, u 20, u 21, u 22, u 23, u 24, u 25, u 26, u 27, u 28, u 29, u 30, u 31, u 32, u 33, u 34, u 35, u 36, u 37, u 38, u 39, u 40, u 41, u 42, u 43, u 44, u 45, u 46, u 47, u 48, u 49, u 50, u 51, u 52, u 53, u 54, u 55, u 56, u 57, u 58, u 59, u 60, u 61, u 62, u 63, u 64, u 65, u 66, u 67, u 68, u 69, u 70, u 71, u 72, u 73, u 74, u 75, u 76, u 77, u 78, u 79, u 80, u 81, u 82, u 83, u 84, u 85, u 86], []⟩ := ⟨fun i => ac.tmps.getD i undef, ha⟩
    clear ha
    refine hr7 _ _ ?_
    clear hr7 hr6
    have CE := hide (fun (W : World) (g : Nat) (h1 : ColsOf (.slice (some ⟨gc, 0, none⟩) 4 4) cols4 W) (h2 : RowOf (some ⟨br, 0, none⟩) [(2, a, 0, S0), (2, b, 0, S0), Z4, Z4] W) (h3 : Rep (twoX k (colX ⟨#[97]⟩) (colX ⟨#[98]⟩)) (.slice (some ⟨g, 0, none⟩) 2 2) W) => evalT_any ⟨#[116]⟩ (.slice (some ⟨gc, 0, none⟩) 4 4) cols4 (some ⟨br, 0, none⟩) [(2, a, 0, S0), (2, b, 0, S0), Z4, Z4] 4 (twoX k (colX ⟨#[97]⟩) (colX ⟨#[98]⟩)) (.slice (some ⟨g, 0, none⟩) 2 2) _ W (rk_two k _ _ _ _ hk) h1 h2 (unhide hOK) (two_deep _ _ _) h3 (two_ok _ _ _))
    have CK := hide (unhide CR k)
    generalize recW k (2, a, 0, S0) (2, b, 0, S0) = r at *
    clear hk
    go_wp2_with fail
    rename_i K8 hr8
    have REST8 : ∀ (ac : Act) (bv : Nat) (X : World), ac = ⟨#[ac.tmps.getD 0 undef, ac.tmps.getD 1 undef, ac.tmps.getD 2 undef, ac.tmps.getD 3 undef, ac.tmps.getD 4 undef, ac.tmps.getD 5 undef, ac.tmps.getD 6 undef, .pointer (some ⟨bt, 0, none⟩), .pointer (some ⟨bx, 0, none⟩), .pointer (some ⟨by_, 0, none⟩), .slice (some ⟨br, 0, none⟩) 4 4, .int .i64 k, .pointer (some ⟨bv, 0, none⟩), .int .i64 r.2, ac.tmps.getD 14 undef, ac.tmps.getD 15 undef, ac.tmps.getD 16 undef, ac.tmps.getD 17 undef, ac.tmps.getD 18 undef, ac.tmps.getD 19 undef, ac.tmps.getD 20 undef, ac.tmps.getD 21 undef, ac.tmps.getD 22 undef, ac.tmps.getD 23 undef, ac.tmps.getD 24 undef, ac.tmps.getD 25 undef, ac.tmps.getD 26 undef, ac.tmps.getD 27 undef, ac.tmps.getD 28 undef, ac.tmps.getD 29 undef, ac.tmps.getD 30 undef, ac.tmps.getD 31 undef, ac.tmps.getD 32 undef, ac.tmps.getD 33 undef, ac.tmps.getD 34 undef, ac.tmps.getD 35 undef, ac.tmps.getD 36 undef, ac.tmps.getD 37 undef, ac.tmps.getD 38 undef, ac.tmps.getD 39 undef, ac.tmps.getD 40 undef, ac.tmps.getD 41 undef, ac.tmps.getD 42 undef, ac.tmps.getD 43 undef, ac.tmps.getD 44 undef, ac.tmps.getD 45 undef, ac.tmps.getD 46 undef, ac.tmps.getD 47 undef, ac.tmps.getD 48 undef, ac.tmps.getD 49 undef, ac.tmps.getD 50 undef, ac.tmps.getD 51 undef, ac.tmps.getD 52 undef, ac.tmps.getD 53 undef, ac.tmps.getD 54 undef, ac.tmps.getD 55 undef, ac.tmps.getD 56 undef, ac.tmps.getD 57 undef, ac.tmps.getD 58 undef, ac.tmps.getD 59 undef, ac.tmps.getD 60 undef, ac.tmps.getD 61 undef, ac.tmps.getD 62 undef, ac.tmps.getD 63 undef, ac.tmps.getD 64 undef, ac.tmps.getD 65 undef, ac.tmps.getD 66 undef, ac.tmps.getD 67 undef, ac.tmps.getD 68 undef, ac.tmps.getD 69 undef, ac.tmps.getD 70 undef, ac.tmps.getD 71 undef, ac.tmps.getD 72 undef, ac.tmps.getD 73 undef, ac.tmps.getD 74 undef, ac.tmps.getD 75 undef, ac.tmps.getD 76 undef, ac.tmps.getD 77 undef, ac.tmps.getD 78 undef, ac.tmps.getD 79 undef, ac.tmps.getD 80 undef, ac.tmps.getD 81 undef, ac.tmps.getD 82 undef, ac.tmps.getD 83 undef, ac.tmps.getD 84 undef, ac.tmps.getD 85 undef, ac.tmps.getD 86 undef], []⟩ → Hid (Grown w X) → Hid (ColsOf (.slice (some ⟨gc, 0, none⟩) 4 4) cols4 X) → Hid (RowOf (some ⟨br, 0, none⟩) [(2, a, 0, S0), (2, b, 0, S0), Z4, Z4] X) → Hid (Blk bt #[.string ⟨#[116]⟩, .slice (some ⟨gc, 0, none⟩) 4 4, .int .i64 0, N0, .int .i64 0, .string S0, .int .i64 0, .int .i64 0, .int .i64 0, .string S0, N0, N0] 34 X) → Hid (Blk bx #[.int .i64 2, .int .i64 a, .int .i64 0, .string S0] 28 X) → Hid (Blk by_ #[.int .i64 2, .int .i64 b, .int .i64 0, .string S0] 28 X) → Hid (Blk bv #[.int .i64 r.1.1, .int .i64 r.1.2.1, .int .i64 r.1.2.2.1, .string r.1.2.2.2] 28 X) → K8 ac X := by
      clear CE G hC hR hT hX hY
      intro ac bv X ha G hC hR hT hX hY hV
      obtain ⟨u, rfl⟩ : ∃ u : Nat → Value, ac = ⟨#[u 0, u 1, u 2, u 3, u 4, u 5, u 6, .pointer (some ⟨bt, 0, none⟩), .pointer (some ⟨bx, 0, none⟩), .pointer (some ⟨by_, 0, none⟩), .slice (some ⟨br, 0, none⟩) 4 4, .int .i64 k, .pointer (some ⟨bv, 0, none⟩), .int .i64 r.2, u 14, u 15, u 16, u 17, u 18, u 19, u 20, u 21, u 22, u 23, u 24, u 25, u 26, u 27, u 28, u 29, u 30, u 31, u 32, u 33, u 34, u 35, u 36, u 37, u 38, u 39, u 40, u 41, u 42, u 43, u 44, u 45, u 46, u 47, u 48, u 49, u 50, u 51, u 52, u 53, u 54, u 55, u 56, u 57, u 58, u 59, u 60, u 61, u 62, u 63, u 64, u 65, u 66, u 67, u 68, u 69, u 70, u 71, u 72, u 73, u 74, u 75, u 76, u 77, u 78, u 79, u 80, u 81, u 82, u 83, u 84, u 85, u 86], []⟩ := ⟨fun i => ac.tmps.getD i undef, ha⟩
      clear ha
      refine hr8 _ _ ?_
      clear hr8
      have hXlt := (unhide hX).lt
      have hX0 := (unhide hX).cell 0
      have hX1 := (unhide hX).cell 1
      have hX2 := (unhide hX).cell 2
      have hX3 := (unhide hX).cell 3
      simp at hX0 hX1 hX2 hX3
      have hYlt := (unhide hY).lt
      have hY0 := (unhide hY).cell 0
      have hY1 := (unhide hY).cell 1
      have hY2 := (unhide hY).cell 2
      have hY3 := (unhide hY).cell 3
      simp at hY0 hY1 hY2 hY3
      go_wp2_with fail
      refine (unhide CK _).mono ?_
      rintro e W8 ⟨rfl, hb8⟩
      replace G := hide ((unhide G).call hb8)
      replace hC := hide ((unhide hC).call hb8)
      replace hR := hide ((unhide hR).call hb8)
      replace hT := hide ((unhide hT).call hb8)
      replace hX := hide ((unhide hX).call hb8)
      replace hY := hide ((unhide hY).call hb8)
      replace hV := hide ((unhide hV).call hb8)
      clear hb8 CK
      clear hXlt hX0 hX1 hX2 hX3
      clear hYlt hY0 hY1 hY2 hY3
      go_wp2_with fail
      rename_i K10 hr10
      have hW := hide (Blk.new W8 #[.int .i64 r.1.1, .int .i64 r.1.2.1, .int .i64 r.1.2.2.1, .string r.1.2.2.2] 28)
      have hb9 := below_new W8 (.cells #[.int .i64 r.1.1, .int .i64 r.1.2.1, .int .i64 r.1.2.2.1, .string r.1.2.2.2] 28)
      replace G := hide ((unhide G).call hb9)
      replace hC := hide ((unhide hC).call hb9)
      replace hR := hide ((unhide hR).call hb9)
      replace hT := hide ((unhide hT).call hb9)
      replace hX := hide ((unhide hX).call hb9)
      replace hY := hide ((unhide hY).call hb9)
      replace hV := hide ((unhide hV).call hb9)
      clear hb9
      generalize W8.alloc (.cells #[.int .i64 r.1.1, .int .i64 r.1.2.1, .int .i64 r.1.2.2.1, .string r.1.2.2.2] 28) = X9 at *
      generalize W8.heap.size = bw at *
      have CE := hide (fun (W : World) (g : Nat) (h1 : ColsOf (.slice (some ⟨gc, 0, none⟩) 4 4) cols4 W) (h2 : RowOf (some ⟨br, 0, none⟩) [(2, a, 0, S0), (2, b, 0, S0), Z4, Z4] W) (h3 : Rep (oneX 4 (colX ⟨#[97]⟩)) (.slice (some ⟨g, 0, none⟩) 1 1) W) => evalT_any ⟨#[116]⟩ (.slice (some ⟨gc, 0, none⟩) 4 4) cols4 (some ⟨br, 0, none⟩) [(2, a, 0, S0), (2, b, 0, S0), Z4, Z4] 4 (oneX 4 (colX ⟨#[97]⟩)) (.slice (some ⟨g, 0, none⟩) 1 1) _ W (rk_neg _ _ _ _) h1 h2 (unhide hOK) (one_deep _ _) h3 (one_ok _ _))
      have CK := hide (unhide CN)
      generalize recW 4 (2, a, 0, S0) Z4 = q at *
      have REST10 : ∀ (ac : Act) (bn : Nat) (X : World), ac = ⟨#[ac.tmps.getD 0 undef, ac.tmps.getD 1 undef, ac.tmps.getD 2 undef, ac.tmps.getD 3 undef, ac.tmps.getD 4 undef, ac.tmps.getD 5 undef, ac.tmps.getD 6 undef, .pointer (some ⟨bt, 0, none⟩), .pointer (some ⟨bx, 0, none⟩), .pointer (some ⟨by_, 0, none⟩), .slice (some ⟨br, 0, none⟩) 4 4, .int .i64 k, .pointer (some ⟨bv, 0, none⟩), .int .i64 r.2, .pointer (some ⟨bw, 0, none⟩), .int .i64 r.2, .pointer (some ⟨bn, 0, none⟩), .int .i64 q.2, ac.tmps.getD 18 undef, ac.tmps.getD 19 undef, ac.tmps.getD 20 undef, ac.tmps.getD 21 undef, ac.tmps.getD 22 undef, ac.tmps.getD 23 undef, ac.tmps.getD 24 undef, ac.tmps.getD 25 undef, ac.tmps.getD 26 undef, ac.tmps.getD 27 undef, ac.tmps.getD 28 undef, ac.tmps.getD 29 undef, ac.tmps.getD 30 undef, ac.tmps.getD 31 undef, ac.tmps.getD 32 undef, ac.tmps.getD 33 undef, ac.tmps.getD 34 undef, ac.tmps.getD 35 undef, ac.tmps.getD 36 undef, ac.tmps.getD 37 undef, ac.tmps.getD 38 undef, ac.tmps.getD 39 undef, ac.tmps.getD 40 undef, ac.tmps.getD 41 undef, ac.tmps.getD 42 undef, ac.tmps.getD 43 undef, ac.tmps.getD 44 undef, ac.tmps.getD 45 undef, ac.tmps.getD 46 undef, ac.tmps.getD 47 undef, ac.tmps.getD 48 undef, ac.tmps.getD 49 undef, ac.tmps.getD 50 undef, ac.tmps.getD 51 undef, ac.tmps.getD 52 undef, ac.tmps.getD 53 undef, ac.tmps.getD 54 undef, ac.tmps.getD 55 undef, ac.tmps.getD 56 undef, ac.tmps.getD 57 undef, ac.tmps.getD 58 undef, ac.tmps.getD 59 undef, ac.tmps.getD 60 undef, ac.tmps.getD 61 undef, ac.tmps.getD 62 undef, ac.tmps.getD 63 undef, ac.tmps.getD 64 undef, ac.tmps.getD 65 undef, ac.tmps.getD 66 undef, ac.tmps.getD 67 undef, ac.tmps.getD 68 undef, ac.tmps.getD 69 undef, ac.tmps.getD 70 undef, ac.tmps.getD 71 undef, ac.tmps.getD 72 undef, ac.tmps.getD 73 undef, ac.tmps.getD 74 undef, ac.tmps.getD 75 undef, ac.tmps.getD 76 undef, ac.tmps.getD 77 undef, ac.tmps.getD 78 undef, ac.tmps.getD 79 undef, ac.tmps.getD 80 undef, ac.tmps.getD 81 undef, ac.tmps.getD 82 undef, ac.tmps.getD 83 undef, ac.tmps.getD 84 undef, ac.tmps.getD 85 undef, ac.tmps.getD 86 undef], []⟩ → Hid (Grown w X) → Hid (ColsOf (.slice (some ⟨gc, 0, none⟩) 4 4) cols4 X) → Hid (RowOf (some ⟨br, 0, none⟩) [(2, a, 0, S0), (2, b, 0, S0), Z4, Z4] X) → Hid (Blk bt #[.string ⟨#[116]⟩, .slice (some ⟨gc, 0, none⟩) 4 4, .int .i64 0, N0, .int .i64 0, .string S0, .int .i64 0, .int .i64 0, .int .i64 0, .string S0, N0, N0] 34 X) → Hid (Blk bx #[.int .i64 2, .int .i64 a, .int .i64 0, .string S0] 28 X) → Hid (Blk by_ #[.int .i64 2, .int .i64 b, .int .i64 0, .string S0] 28 X) → Hid (Blk bv #[.int .i64 r.1.1, .int .i64 r.1.2.1, .int .i64 r.1.2.2.1, .string r.1.2.2.2] 28 X) → Hid (Blk bw #[.int .i64 r.1.1, .int .i64 r.1.2.1, .int .i64 r.1.2.2.1, .string r.1.2.2.2] 28 X) → Hid (Blk bn #[.int .i64 q.1.1, .int .i64 q.1.2.1, .int .i64 q.1.2.2.1, .string q.1.2.2.2] 28 X) → K10 ac X := by
        clear CE G hC hR hT hX hY hV hW
        intro ac bn X ha G hC hR hT hX hY hV hW hN
        obtain ⟨u, rfl⟩ : ∃ u : Nat → Value, ac = ⟨#[u 0, u 1, u 2, u 3, u 4, u 5, u 6, .pointer (some ⟨bt, 0, none⟩), .pointer (some ⟨bx, 0, none⟩), .pointer (some ⟨by_, 0, none⟩), .slice (some ⟨br, 0, none⟩) 4 4, .int .i64 k, .pointer (some ⟨bv, 0, none⟩), .int .i64 r.2, .pointer (some ⟨bw, 0, none⟩), .int .i64 r.2, .pointer (some ⟨bn, 0, none⟩), .int .i64 q.2, u 18, u 19, u 20, u 21, u 22, u 23, u 24, u 25, u 26, u 27, u 28, u 29, u 30, u 31, u 32, u 33, u 34, u 35, u 36, u 37, u 38, u 39, u 40, u 41, u 42, u 43, u 44, u 45, u 46, u 47, u 48, u 49, u 50, u 51, u 52, u 53, u 54, u 55, u 56, u 57, u 58, u 59, u 60, u 61, u 62, u 63, u 64, u 65, u 66, u 67, u 68, u 69, u 70, u 71, u 72, u 73, u 74, u 75, u 76, u 77, u 78, u 79, u 80, u 81, u 82, u 83, u 84, u 85, u 86], []⟩ := ⟨fun i => ac.tmps.getD i undef, ha⟩
        clear ha
        refine hr10 _ _ ?_
        clear hr10
        have hXlt := (unhide hX).lt
        have hX0 := (unhide hX).cell 0
        have hX1 := (unhide hX).cell 1
        have hX2 := (unhide hX).cell 2
        have hX3 := (unhide hX).cell 3
        simp at hX0 hX1 hX2 hX3
        go_wp2_with fail
        refine (unhide CK _).mono ?_
        rintro e W10 ⟨rfl, hb10⟩
        replace G := hide ((unhide G).call hb10)
        replace hC := hide ((unhide hC).call hb10)
        replace hR := hide ((unhide hR).call hb10)
        replace hT := hide ((unhide hT).call hb10)
        replace hX := hide ((unhide hX).call hb10)
        replace hY := hide ((unhide hY).call hb10)
        replace hV := hide ((unhide hV).call hb10)
        replace hW := hide ((unhide hW).call hb10)
        replace hN := hide ((unhide hN).call hb10)
        clear hb10 CK
        clear hXlt hX0 hX1 hX2 hX3
        have hVlt := (unhide hV).lt
        have hV0 := (unhide hV).cell 0
        have hV1 := (unhide hV).cell 1
        have hV2 := (unhide hV).cell 2
        have hV3 := (unhide hV).cell 3
        simp at hV0 hV1 hV2 hV3
        have hWlt := (unhide hW).lt
        have hW0 := (unhide hW).cell 0
        have hW1 := (unhide hW).cell 1
        have hW2 := (unhide hW).cell 2
        have hW3 := (unhide hW).cell 3
        simp at hW0 hW1 hW2 hW3
        have hNlt := (unhide hN).lt
        have hN0 := (unhide hN).cell 0
        have hN1 := (unhide hN).cell 1
        have hN2 := (unhide hN).cell 2
        have hN3 := (unhide hN).cell 3
        simp at hN0 hN1 hN2 hN3
        go_wp2_with fail
        go_ret
        exact ⟨rfl, (unhide G).alloc (Below.size (unhide G)) _⟩
      have REST10 := hide REST10
      clear hr10 CK
      refine wp_region_noPanic ?_
      refine wp_region_held_drew (S := (fun X => Blk bt #[.string ⟨#[116]⟩, .slice (some ⟨gc, 0, none⟩) 4 4, .int .i64 0, N0, .int .i64 0, .string S0, .int .i64 0, .int .i64 0, .int .i64 0, .string S0, N0, N0] 34 X)) (by kernel_rfl) ((unhide hT).call (Below.refl _ _).drew) (fun hHeld => ?_)
      have hbd : Below X9.heap.size X9 X9.drew := (Below.refl _ _).drew
      replace G := hide ((unhide G).call hbd)
      replace hC := hide ((unhide hC).call hbd)
      replace hR := hide ((unhide hR).call hbd)
      replace hT := hide ((unhide hT).call hbd)
      replace hX := hide ((unhide hX).call hbd)
      replace hY := hide ((unhide hY).call hbd)
      replace hV := hide ((unhide hV).call hbd)
      replace hW := hide ((unhide hW).call hbd)
      clear hbd
      generalize X9.drew = Wd at *
      refine wpAnyH_take (i := 0) (oi := ?oi20001) (v := ?v20001) ?hi20001 (by kernel_rfl) (by kernel_rfl) (by kernel_rfl) (fun _ _ _ h => h) (Or.inl ⟨?hw20001, ?hy20001⟩) (by assumption) ?rest20001
      case hi20001 => (simp only [List.getElem?_toArray, List.getElem?_cons_zero]; rfl)
      case hw20001 => rfl
      case hy20001 => first | (intro wx hSw; have hT := hSw; have t0 := Blk.cell hT 0; have t1 := Blk.cell hT 1; have t2 := Blk.cell hT 2; have t3 := Blk.cell hT 3; have t4 := Blk.cell hT 4; have t5 := Blk.cell hT 5; have t6 := Blk.cell hT 6; have t7 := Blk.cell hT 7; have t8 := Blk.cell hT 8; have t9 := Blk.cell hT 9; have t10 := Blk.cell hT 10; have t11 := Blk.cell hT 11; simp at t0 t1 t2 t3 t4 t5 t6 t7 t8 t9 t10 t11; go_simp; done) | (intro wx hSw; have hT := hSw; have t0 := Blk.cell hT 0; have t1 := Blk.cell hT 1; have t2 := Blk.cell hT 2; have t3 := Blk.cell hT 3; have t4 := Blk.cell hT 4; have t5 := Blk.cell hT 5; have t6 := Blk.cell hT 6; have t7 := Blk.cell hT 7; have t8 := Blk.cell hT 8; have t9 := Blk.cell hT 9; have t10 := Blk.cell hT 10; have t11 := Blk.cell hT 11; simp at t0 t1 t2 t3 t4 t5 t6 t7 t8 t9 t10 t11; go_simp; with_reducible rfl)
      simp only [Act.put, List.setIfInBounds_toArray, List.set_cons_zero, List.set_cons_succ]
      refine wpAnyH_take (i := 1) (oi := ?oi20002) (v := ?v20002) ?hi20002 (by kernel_rfl) (by kernel_rfl) (by kernel_rfl) (fun _ _ _ h => h) (Or.inl ⟨?hw20002, ?hy20002⟩) (by assumption) ?rest20002
      case hi20002 => (simp only [List.getElem?_toArray, List.getElem?_cons_zero, List.getElem?_cons_succ]; rfl)
      case hw20002 => rfl
      case hy20002 => first | (intro wx hSw; have hT := hSw; have t0 := Blk.cell hT 0; have t1 := Blk.cell hT 1; have t2 := Blk.cell hT 2; have t3 := Blk.cell hT 3; have t4 := Blk.cell hT 4; have t5 := Blk.cell hT 5; have t6 := Blk.cell hT 6; have t7 := Blk.cell hT 7; have t8 := Blk.cell hT 8; have t9 := Blk.cell hT 9; have t10 := Blk.cell hT 10; have t11 := Blk.cell hT 11; simp at t0 t1 t2 t3 t4 t5 t6 t7 t8 t9 t10 t11; go_simp; done) | (intro wx hSw; have hT := hSw; have t0 := Blk.cell hT 0; have t1 := Blk.cell hT 1; have t2 := Blk.cell hT 2; have t3 := Blk.cell hT 3; have t4 := Blk.cell hT 4; have t5 := Blk.cell hT 5; have t6 := Blk.cell hT 6; have t7 := Blk.cell hT 7; have t8 := Blk.cell hT 8; have t9 := Blk.cell hT 9; have t10 := Blk.cell hT 10; have t11 := Blk.cell hT 11; simp at t0 t1 t2 t3 t4 t5 t6 t7 t8 t9 t10 t11; go_simp; with_reducible rfl)
      simp only [Act.put, List.setIfInBounds_toArray, List.set_cons_zero, List.set_cons_succ]
      have GD : Below Wd.heap.size Wd Wd := Below.refl _ _
      refine wpAnyH_ready (rs := [2, 9]) (by kernel_rfl) (by simp) ?_
      refine AllReadyH.cons rfl (fun K20003 hK20003 => ?_) ?_
      · go_simp
        go_wp2_with (go_at_call 27; refine (colL_any _ _).mono ?_; rintro e X1 ⟨rfl, hb1⟩)
        refine hK20003.out _ _ ?hs20003 (fun hHeld20003 => ?_)
        case hs20003 => exact hHeld.call hb1
        clear hHeld
        have hHeld := hHeld20003; clear hHeld20003 hK20003 K20003
        replace GD := GD.trans (hb1.mono GD.size)
        clear hb1
        refine wpAnyH_ready (rs := [3, 9]) (by kernel_rfl) (by simp) ?_
        refine AllReadyH.cons rfl (fun K20004 hK20004 => ?_) ?_
        · go_simp
          refine hK20004.out _ _ ?hs20004 (fun hHeld20004 => ?_)
          case hs20004 => exact hHeld.call (below_new _ _)
          clear hHeld
          have hHeld := hHeld20004; clear hHeld20004 hK20004 K20004
          have hb2 := below_new X1 (.cells (exC (colX ⟨#[97]⟩) N0).toArray 31)
          have hr2 : Rep (oneX 4 (colX ⟨#[97]⟩)) (.slice (some ⟨X1.heap.size, 0, none⟩) 1 1) (X1.alloc (.cells (exC (colX ⟨#[97]⟩) N0).toArray 31)) := ⟨_, _, N0, rfl, cells_of (Blk.new X1 (exC (colX ⟨#[97]⟩) N0).toArray 31) rfl, rfl⟩
          generalize hX2 : X1.alloc (.cells (exC (colX ⟨#[97]⟩) N0).toArray 31) = X2 at *
          clear hX2
          replace GD := GD.trans (hb2.mono GD.size)
          clear hb2
          refine wpAnyH_take (i := 4) (oi := ?oi20005) (v := ?v20005) ?hi20005 (by kernel_rfl) (by kernel_rfl) (by kernel_rfl) (fun _ _ _ h => h) (Or.inl ⟨?hw20005, ?hy20005⟩) (by assumption) ?rest20005
          case hi20005 => (simp only [List.getElem?_toArray, List.getElem?_cons_zero, List.getElem?_cons_succ]; rfl)
          case hw20005 => rfl
          case hy20005 => first | (intro wx hSw; go_simp; done) | (intro wx hSw; go_simp; with_reducible rfl)
          simp only [Act.put, List.setIfInBounds_toArray, List.set_cons_zero, List.set_cons_succ]
          refine wpAnyH_ready (rs := [5, 9]) (by kernel_rfl) (by simp) ?_
          refine AllReadyH.cons rfl (fun K20006 hK20006 => ?_) ?_
          · go_simp
            go_wp2_with (go_at_call 19; refine (unhide CE _ _ ((unhide hC).call GD) ((unhide hR).call GD) hr2).mono ?_; rintro e X3 ⟨rfl, hb3⟩)
            refine hK20006.out _ _ ?hs20006 (fun hHeld20006 => ?_)
            case hs20006 => exact hHeld.call hb3
            clear hHeld
            have hHeld := hHeld20006; clear hHeld20006 hK20006 K20006
            replace GD := GD.trans (hb3.mono GD.size)
            clear hb3
            clear hr2
            refine wpAnyH_take (i := 6) (oi := ?oi20007) (v := ?v20007) ?hi20007 (by kernel_rfl) (by kernel_rfl) (by kernel_rfl) (fun _ _ _ h => h) (Or.inl ⟨?hw20007, ?hy20007⟩) (by assumption) ?rest20007
            case hi20007 => (simp only [List.getElem?_toArray, List.getElem?_cons_zero, List.getElem?_cons_succ]; rfl)
            case hw20007 => rfl
            case hy20007 => first | (intro wx hSw; go_simp; done) | (intro wx hSw; go_simp; with_reducible rfl)
            simp only [Act.put, List.setIfInBounds_toArray, List.set_cons_zero, List.set_cons_succ]
            refine wpAnyH_take (i := 7) (oi := ?oi20008) (v := ?v20008) ?hi20008 (by kernel_rfl) (by kernel_rfl) (by kernel_rfl) (fun _ _ _ h => h) (Or.inl ⟨?hw20008, ?hy20008⟩) (by assumption) ?rest20008
            case hi20008 => (simp only [List.getElem?_toArray, List.getElem?_cons_zero, List.getElem?_cons_succ]; rfl)
            case hw20008 => rfl
            case hy20008 => first | (intro wx hSw; go_simp; done) | (intro wx hSw; go_simp; with_reducible rfl)
            simp only [Act.put, List.setIfInBounds_toArray, List.set_cons_zero, List.set_cons_succ]
            refine wpAnyH_take (i := 8) (oi := ?oi20009) (v := ?v20009) ?hi20009 (by kernel_rfl) (by kernel_rfl) (by kernel_rfl) (fun _ _ _ h => h) (Or.inl ⟨?hw20009, ?hy20009⟩) (by assumption) ?rest20009
            case hi20009 => (simp only [List.getElem?_toArray, List.getElem?_cons_zero, List.getElem?_cons_succ]; rfl)
            case hw20009 => rfl
            case hy20009 => first | (intro wx hSw; go_simp; done) | (intro wx hSw; go_simp; with_reducible rfl)
            simp only [Act.put, List.setIfInBounds_toArray, List.set_cons_zero, List.set_cons_succ]
            refine wpAnyH_ready (rs := [9]) (by kernel_rfl) (by simp) ?_
            refine AllReadyH.cons rfl (fun K20010 hK20010 => ?_) AllReadyH.nil
            go_simp
            refine hK20010.out _ _ ?hs20010 (fun hHeld20010 => ?_)
            case hs20010 => exact hHeld.call (below_new _ _)
            clear hHeld
            have hHeld := hHeld20010; clear hHeld20010 hK20010 K20010
            have hb4 := below_new X3 (.cells (vC Z4).toArray 28)
            have rb := Blk.new X3 (vC Z4).toArray 28
            have hge : Wd.heap.size ≤ X3.heap.size := GD.size
            generalize X3.alloc (.cells (vC Z4).toArray 28) = X4 at *
            replace GD := GD.trans (hb4.mono GD.size)
            clear hb4
            have rlt := rb.lt
            have rc0 := rb.cell 0
            have rf0 := rb.froz 0
            have rc1 := rb.cell 1
            have rf1 := rb.froz 1
            have rc2 := rb.cell 2
            have rf2 := rb.froz 2
            have rc3 := rb.cell 3
            have rf3 := rb.froz 3
            simp at rc0 rc1 rc2 rc3
            have GE : Below Wd.heap.size Wd ((((X4.setCell ⟨X3.heap.size, 0, none⟩ (.int .i64 q.1.1)).setCell ⟨X3.heap.size, 1, none⟩ (.int .i64 q.1.2.1)).setCell ⟨X3.heap.size, 2, none⟩ (.int .i64 q.1.2.2.1)).setCell ⟨X3.heap.size, 3, none⟩ (.string q.1.2.2.2)) := (((GD.setCell (p := ⟨X3.heap.size, 0, none⟩) hge _).setCell (p := ⟨X3.heap.size, 1, none⟩) hge _).setCell (p := ⟨X3.heap.size, 2, none⟩) hge _).setCell (p := ⟨X3.heap.size, 3, none⟩) hge _
            have RE : Blk X3.heap.size #[.int .i64 q.1.1, .int .i64 q.1.2.1, .int .i64 q.1.2.2.1, .string q.1.2.2.2] 28 ((((X4.setCell ⟨X3.heap.size, 0, none⟩ (.int .i64 q.1.1)).setCell ⟨X3.heap.size, 1, none⟩ (.int .i64 q.1.2.1)).setCell ⟨X3.heap.size, 2, none⟩ (.int .i64 q.1.2.2.1)).setCell ⟨X3.heap.size, 3, none⟩ (.string q.1.2.2.2)) := heapSet4 rb _ _ _ _
            refine wpAnyH_ready (rs := [10]) (by kernel_rfl) (by simp) ?_
            refine AllReadyH.cons rfl (fun K20011 hK20011 => ?_) AllReadyH.nil
            go_simp
            refine hK20011.out _ _ ?hs20011 (fun hHeld20011 => ?_)
            case hs20011 => exact (unhide hT).call GE
            clear hHeld
            have hHeld := hHeld20011; clear hHeld20011 hK20011 K20011
            refine wpAnyH_take (i := 11) (oi := ?oi20012) (v := ?v20012) ?hi20012 (by kernel_rfl) (by kernel_rfl) (by kernel_rfl) (fun _ _ _ h => h) (Or.inl ⟨?hw20012, ?hy20012⟩) (by assumption) ?rest20012
            case hi20012 => (simp only [List.getElem?_toArray, List.getElem?_cons_zero, List.getElem?_cons_succ]; rfl)
            case hw20012 => rfl
            case hy20012 => first | (intro wx hSw; go_simp; done) | (intro wx hSw; go_simp; with_reducible rfl)
            simp only [Act.put, List.setIfInBounds_toArray, List.set_cons_zero, List.set_cons_succ]
            refine wpAnyH_done (by kernel_rfl) ?_ _
            refine NoPanic.normal ?_
            skip
            exact unhide REST10 _ X3.heap.size _ rfl (hide ((unhide G).call GE)) (hide ((unhide hC).call GE)) (hide ((unhide hR).call GE)) (hide ((unhide hT).call GE)) (hide ((unhide hX).call GE)) (hide ((unhide hY).call GE)) (hide ((unhide hV).call GE)) (hide ((unhide hW).call GE)) (hide RE)
          refine AllReadyH.cons rfl (fun K20013 hK20013 => ?_) AllReadyH.nil
          · go_simp
            refine hK20013.out _ _ ?hs20013 (fun hHeld20013 => ?_)
            case hs20013 => exact hHeld.call (below_new _ _)
            clear hHeld
            have hHeld := hHeld20013; clear hHeld20013 hK20013 K20013
            have hb5 := below_new X2 (.cells (vC Z4).toArray 28)
            have rb := Blk.new X2 (vC Z4).toArray 28
            have hge : Wd.heap.size ≤ X2.heap.size := GD.size
            generalize X2.alloc (.cells (vC Z4).toArray 28) = X5 at *
            replace GD := GD.trans (hb5.mono GD.size)
            replace hr2 := hr2.call hb5
            clear hb5
            refine wpAnyH_ready (rs := [5]) (by kernel_rfl) (by simp) ?_
            refine AllReadyH.cons rfl (fun K20014 hK20014 => ?_) AllReadyH.nil
            go_simp
            go_wp2_with (go_at_call 19; refine (unhide CE _ _ ((unhide hC).call GD) ((unhide hR).call GD) hr2).mono ?_; rintro e X6 ⟨rfl, hb6⟩)
            refine hK20014.out _ _ ?hs20014 (fun hHeld20014 => ?_)
            case hs20014 => exact hHeld.call hb6
            clear hHeld
            have hHeld := hHeld20014; clear hHeld20014 hK20014 K20014
            replace GD := GD.trans (hb6.mono GD.size)
            replace rb := rb.call hb6
            clear hb6
            clear hr2
            refine wpAnyH_take (i := 6) (oi := ?oi20015) (v := ?v20015) ?hi20015 (by kernel_rfl) (by kernel_rfl) (by kernel_rfl) (fun _ _ _ h => h) (Or.inl ⟨?hw20015, ?hy20015⟩) (by assumption) ?rest20015
            case hi20015 => (simp only [List.getElem?_toArray, List.getElem?_cons_zero, List.getElem?_cons_succ]; rfl)
            case hw20015 => rfl
            case hy20015 => first | (intro wx hSw; go_simp; done) | (intro wx hSw; go_simp; with_reducible rfl)
            simp only [Act.put, List.setIfInBounds_toArray, List.set_cons_zero, List.set_cons_succ]
            refine wpAnyH_take (i := 7) (oi := ?oi20016) (v := ?v20016) ?hi20016 (by kernel_rfl) (by kernel_rfl) (by kernel_rfl) (fun _ _ _ h => h) (Or.inl ⟨?hw20016, ?hy20016⟩) (by assumption) ?rest20016
            case hi20016 => (simp only [List.getElem?_toArray, List.getElem?_cons_zero, List.getElem?_cons_succ]; rfl)
            case hw20016 => rfl
            case hy20016 => first | (intro wx hSw; go_simp; done) | (intro wx hSw; go_simp; with_reducible rfl)
            simp only [Act.put, List.setIfInBounds_toArray, List.set_cons_zero, List.set_cons_succ]
            refine wpAnyH_take (i := 8) (oi := ?oi20017) (v := ?v20017) ?hi20017 (by kernel_rfl) (by kernel_rfl) (by kernel_rfl) (fun _ _ _ h => h) (Or.inl ⟨?hw20017, ?hy20017⟩) (by assumption) ?rest20017
            case hi20017 => (simp only [List.getElem?_toArray, List.getElem?_cons_zero, List.getElem?_cons_succ]; rfl)
            case hw20017 => rfl
            case hy20017 => first | (intro wx hSw; go_simp; done) | (intro wx hSw; go_simp; with_reducible rfl)
            simp only [Act.put, List.setIfInBounds_toArray, List.set_cons_zero, List.set_cons_succ]
            have rlt := rb.lt
            have rc0 := rb.cell 0
            have rf0 := rb.froz 0
            have rc1 := rb.cell 1
            have rf1 := rb.froz 1
            have rc2 := rb.cell 2
            have rf2 := rb.froz 2
            have rc3 := rb.cell 3
            have rf3 := rb.froz 3
            simp at rc0 rc1 rc2 rc3
            have GE : Below Wd.heap.size Wd ((((X6.setCell ⟨X2.heap.size, 0, none⟩ (.int .i64 q.1.1)).setCell ⟨X2.heap.size, 1, none⟩ (.int .i64 q.1.2.1)).setCell ⟨X2.heap.size, 2, none⟩ (.int .i64 q.1.2.2.1)).setCell ⟨X2.heap.size, 3, none⟩ (.string q.1.2.2.2)) := (((GD.setCell (p := ⟨X2.heap.size, 0, none⟩) hge _).setCell (p := ⟨X2.heap.size, 1, none⟩) hge _).setCell (p := ⟨X2.heap.size, 2, none⟩) hge _).setCell (p := ⟨X2.heap.size, 3, none⟩) hge _
            have RE : Blk X2.heap.size #[.int .i64 q.1.1, .int .i64 q.1.2.1, .int .i64 q.1.2.2.1, .string q.1.2.2.2] 28 ((((X6.setCell ⟨X2.heap.size, 0, none⟩ (.int .i64 q.1.1)).setCell ⟨X2.heap.size, 1, none⟩ (.int .i64 q.1.2.1)).setCell ⟨X2.heap.size, 2, none⟩ (.int .i64 q.1.2.2.1)).setCell ⟨X2.heap.size, 3, none⟩ (.string q.1.2.2.2)) := heapSet4 rb _ _ _ _
            refine wpAnyH_ready (rs := [10]) (by kernel_rfl) (by simp) ?_
            refine AllReadyH.cons rfl (fun K20018 hK20018 => ?_) AllReadyH.nil
            go_simp
            refine hK20018.out _ _ ?hs20018 (fun hHeld20018 => ?_)
            case hs20018 => exact (unhide hT).call GE
            clear hHeld
            have hHeld := hHeld20018; clear hHeld20018 hK20018 K20018
            refine wpAnyH_take (i := 11) (oi := ?oi20019) (v := ?v20019) ?hi20019 (by kernel_rfl) (by kernel_rfl) (by kernel_rfl) (fun _ _ _ h => h) (Or.inl ⟨?hw20019, ?hy20019⟩) (by assumption) ?rest20019
            case hi20019 => (simp only [List.getElem?_toArray, List.getElem?_cons_zero, List.getElem?_cons_succ]; rfl)
            case hw20019 => rfl
            case hy20019 => first | (intro wx hSw; go_simp; done) | (intro wx hSw; go_simp; with_reducible rfl)
            simp only [Act.put, List.setIfInBounds_toArray, List.set_cons_zero, List.set_cons_succ]
            refine wpAnyH_done (by kernel_rfl) ?_ _
            refine NoPanic.normal ?_
            skip
            exact unhide REST10 _ X2.heap.size _ rfl (hide ((unhide G).call GE)) (hide ((unhide hC).call GE)) (hide ((unhide hR).call GE)) (hide ((unhide hT).call GE)) (hide ((unhide hX).call GE)) (hide ((unhide hY).call GE)) (hide ((unhide hV).call GE)) (hide ((unhide hW).call GE)) (hide RE)
        refine AllReadyH.cons rfl (fun K20020 hK20020 => ?_) AllReadyH.nil
        · go_simp
          refine hK20020.out _ _ ?hs20020 (fun hHeld20020 => ?_)
          case hs20020 => exact hHeld.call (below_new _ _)
          clear hHeld
          have hHeld := hHeld20020; clear hHeld20020 hK20020 K20020
          have hb7 := below_new X1 (.cells (vC Z4).toArray 28)
          have rb := Blk.new X1 (vC Z4).toArray 28
          have hge : Wd.heap.size ≤ X1.heap.size := GD.size
          generalize X1.alloc (.cells (vC Z4).toArray 28) = X7 at *
          replace GD := GD.trans (hb7.mono GD.size)
          clear hb7
          refine wpAnyH_ready (rs := [3]) (by kernel_rfl) (by simp) ?_
          refine AllReadyH.cons rfl (fun K20021 hK20021 => ?_) AllReadyH.nil
          go_simp
          refine hK20021.out _ _ ?hs20021 (fun hHeld20021 => ?_)
          case hs20021 => exact hHeld.call (below_new _ _)
          clear hHeld
          have hHeld := hHeld20021; clear hHeld20021 hK20021 K20021
          have hb8 := below_new X7 (.cells (exC (colX ⟨#[97]⟩) N0).toArray 31)
          have hr8 : Rep (oneX 4 (colX ⟨#[97]⟩)) (.slice (some ⟨X7.heap.size, 0, none⟩) 1 1) (X7.alloc (.cells (exC (colX ⟨#[97]⟩) N0).toArray 31)) := ⟨_, _, N0, rfl, cells_of (Blk.new X7 (exC (colX ⟨#[97]⟩) N0).toArray 31) rfl, rfl⟩
          generalize hX8 : X7.alloc (.cells (exC (colX ⟨#[97]⟩) N0).toArray 31) = X8 at *
          clear hX8
          replace GD := GD.trans (hb8.mono GD.size)
          replace rb := rb.call hb8
          clear hb8
          refine wpAnyH_take (i := 4) (oi := ?oi20022) (v := ?v20022) ?hi20022 (by kernel_rfl) (by kernel_rfl) (by kernel_rfl) (fun _ _ _ h => h) (Or.inl ⟨?hw20022, ?hy20022⟩) (by assumption) ?rest20022
          case hi20022 => (simp only [List.getElem?_toArray, List.getElem?_cons_zero, List.getElem?_cons_succ]; rfl)
          case hw20022 => rfl
          case hy20022 => first | (intro wx hSw; go_simp; done) | (intro wx hSw; go_simp; with_reducible rfl)
          simp only [Act.put, List.setIfInBounds_toArray, List.set_cons_zero, List.set_cons_succ]
          refine wpAnyH_ready (rs := [5]) (by kernel_rfl) (by simp) ?_
          refine AllReadyH.cons rfl (fun K20023 hK20023 => ?_) AllReadyH.nil
          go_simp
          go_wp2_with (go_at_call 19; refine (unhide CE _ _ ((unhide hC).call GD) ((unhide hR).call GD) hr8).mono ?_; rintro e X9 ⟨rfl, hb9⟩)
          refine hK20023.out _ _ ?hs20023 (fun hHeld20023 => ?_)
          case hs20023 => exact hHeld.call hb9
          clear hHeld
          have hHeld := hHeld20023; clear hHeld20023 hK20023 K20023
          replace GD := GD.trans (hb9.mono GD.size)
          replace rb := rb.call hb9
          clear hb9
          clear hr8
          refine wpAnyH_take (i := 6) (oi := ?oi20024) (v := ?v20024) ?hi20024 (by kernel_rfl) (by kernel_rfl) (by kernel_rfl) (fun _ _ _ h => h) (Or.inl ⟨?hw20024, ?hy20024⟩) (by assumption) ?rest20024
          case hi20024 => (simp only [List.getElem?_toArray, List.getElem?_cons_zero, List.getElem?_cons_succ]; rfl)
          case hw20024 => rfl
          case hy20024 => first | (intro wx hSw; go_simp; done) | (intro wx hSw; go_simp; with_reducible rfl)
          simp only [Act.put, List.setIfInBounds_toArray, List.set_cons_zero, List.set_cons_succ]
          refine wpAnyH_take (i := 7) (oi := ?oi20025) (v := ?v20025) ?hi20025 (by kernel_rfl) (by kernel_rfl) (by kernel_rfl) (fun _ _ _ h => h) (Or.inl ⟨?hw20025, ?hy20025⟩) (by assumption) ?rest20025
          case hi20025 => (simp only [List.getElem?_toArray, List.getElem?_cons_zero, List.getElem?_cons_succ]; rfl)
          case hw20025 => rfl
          case hy20025 => first | (intro wx hSw; go_simp; done) | (intro wx hSw; go_simp; with_reducible rfl)
          simp only [Act.put, List.setIfInBounds_toArray, List.set_cons_zero, List.set_cons_succ]
          refine wpAnyH_take (i := 8) (oi := ?oi20026) (v := ?v20026) ?hi20026 (by kernel_rfl) (by kernel_rfl) (by kernel_rfl) (fun _ _ _ h => h) (Or.inl ⟨?hw20026, ?hy20026⟩) (by assumption) ?rest20026
          case hi20026 => (simp only [List.getElem?_toArray, List.getElem?_cons_zero, List.getElem?_cons_succ]; rfl)
          case hw20026 => rfl
          case hy20026 => first | (intro wx hSw; go_simp; done) | (intro wx hSw; go_simp; with_reducible rfl)
          simp only [Act.put, List.setIfInBounds_toArray, List.set_cons_zero, List.set_cons_succ]
          have rlt := rb.lt
          have rc0 := rb.cell 0
          have rf0 := rb.froz 0
          have rc1 := rb.cell 1
          have rf1 := rb.froz 1
          have rc2 := rb.cell 2
          have rf2 := rb.froz 2
          have rc3 := rb.cell 3
          have rf3 := rb.froz 3
          simp at rc0 rc1 rc2 rc3
          have GE : Below Wd.heap.size Wd ((((X9.setCell ⟨X1.heap.size, 0, none⟩ (.int .i64 q.1.1)).setCell ⟨X1.heap.size, 1, none⟩ (.int .i64 q.1.2.1)).setCell ⟨X1.heap.size, 2, none⟩ (.int .i64 q.1.2.2.1)).setCell ⟨X1.heap.size, 3, none⟩ (.string q.1.2.2.2)) := (((GD.setCell (p := ⟨X1.heap.size, 0, none⟩) hge _).setCell (p := ⟨X1.heap.size, 1, none⟩) hge _).setCell (p := ⟨X1.heap.size, 2, none⟩) hge _).setCell (p := ⟨X1.heap.size, 3, none⟩) hge _
          have RE : Blk X1.heap.size #[.int .i64 q.1.1, .int .i64 q.1.2.1, .int .i64 q.1.2.2.1, .string q.1.2.2.2] 28 ((((X9.setCell ⟨X1.heap.size, 0, none⟩ (.int .i64 q.1.1)).setCell ⟨X1.heap.size, 1, none⟩ (.int .i64 q.1.2.1)).setCell ⟨X1.heap.size, 2, none⟩ (.int .i64 q.1.2.2.1)).setCell ⟨X1.heap.size, 3, none⟩ (.string q.1.2.2.2)) := heapSet4 rb _ _ _ _
          refine wpAnyH_ready (rs := [10]) (by kernel_rfl) (by simp) ?_
          refine AllReadyH.cons rfl (fun K20027 hK20027 => ?_) AllReadyH.nil
          go_simp
          refine hK20027.out _ _ ?hs20027 (fun hHeld20027 => ?_)
          case hs20027 => exact (unhide hT).call GE
          clear hHeld
          have hHeld := hHeld20027; clear hHeld20027 hK20027 K20027
          refine wpAnyH_take (i := 11) (oi := ?oi20028) (v := ?v20028) ?hi20028 (by kernel_rfl) (by kernel_rfl) (by kernel_rfl) (fun _ _ _ h => h) (Or.inl ⟨?hw20028, ?hy20028⟩) (by assumption) ?rest20028
          case hi20028 => (simp only [List.getElem?_toArray, List.getElem?_cons_zero, List.getElem?_cons_succ]; rfl)
          case hw20028 => rfl
          case hy20028 => first | (intro wx hSw; go_simp; done) | (intro wx hSw; go_simp; with_reducible rfl)
          simp only [Act.put, List.setIfInBounds_toArray, List.set_cons_zero, List.set_cons_succ]
          refine wpAnyH_done (by kernel_rfl) ?_ _
          refine NoPanic.normal ?_
          skip
          exact unhide REST10 _ X1.heap.size _ rfl (hide ((unhide G).call GE)) (hide ((unhide hC).call GE)) (hide ((unhide hR).call GE)) (hide ((unhide hT).call GE)) (hide ((unhide hX).call GE)) (hide ((unhide hY).call GE)) (hide ((unhide hV).call GE)) (hide ((unhide hW).call GE)) (hide RE)
      refine AllReadyH.cons rfl (fun K20029 hK20029 => ?_) AllReadyH.nil
      · go_simp
        refine hK20029.out _ _ ?hs20029 (fun hHeld20029 => ?_)
        case hs20029 => exact hHeld.call (below_new _ _)
        clear hHeld
        have hHeld := hHeld20029; clear hHeld20029 hK20029 K20029
        have hb10 := below_new Wd (.cells (vC Z4).toArray 28)
        have rb := Blk.new Wd (vC Z4).toArray 28
        have hge : Wd.heap.size ≤ Wd.heap.size := GD.size
        generalize Wd.alloc (.cells (vC Z4).toArray 28) = X10 at *
        replace GD := GD.trans (hb10.mono GD.size)
        clear hb10
        refine wpAnyH_ready (rs := [2]) (by kernel_rfl) (by simp) ?_
        refine AllReadyH.cons rfl (fun K20030 hK20030 => ?_) AllReadyH.nil
        go_simp
        go_wp2_with (go_at_call 27; refine (colL_any _ _).mono ?_; rintro e X11 ⟨rfl, hb11⟩)
        refine hK20030.out _ _ ?hs20030 (fun hHeld20030 => ?_)
        case hs20030 => exact hHeld.call hb11
        clear hHeld
        have hHeld := hHeld20030; clear hHeld20030 hK20030 K20030
        replace GD := GD.trans (hb11.mono GD.size)
        replace rb := rb.call hb11
        clear hb11
        refine wpAnyH_ready (rs := [3]) (by kernel_rfl) (by simp) ?_
        refine AllReadyH.cons rfl (fun K20031 hK20031 => ?_) AllReadyH.nil
        go_simp
        refine hK20031.out _ _ ?hs20031 (fun hHeld20031 => ?_)
        case hs20031 => exact hHeld.call (below_new _ _)
        clear hHeld
        have hHeld := hHeld20031; clear hHeld20031 hK20031 K20031
        have hb12 := below_new X11 (.cells (exC (colX ⟨#[97]⟩) N0).toArray 31)
        have hr12 : Rep (oneX 4 (colX ⟨#[97]⟩)) (.slice (some ⟨X11.heap.size, 0, none⟩) 1 1) (X11.alloc (.cells (exC (colX ⟨#[97]⟩) N0).toArray 31)) := ⟨_, _, N0, rfl, cells_of (Blk.new X11 (exC (colX ⟨#[97]⟩) N0).toArray 31) rfl, rfl⟩
        generalize hX12 : X11.alloc (.cells (exC (colX ⟨#[97]⟩) N0).toArray 31) = X12 at *
        clear hX12
        replace GD := GD.trans (hb12.mono GD.size)
        replace rb := rb.call hb12
        clear hb12
        refine wpAnyH_take (i := 4) (oi := ?oi20032) (v := ?v20032) ?hi20032 (by kernel_rfl) (by kernel_rfl) (by kernel_rfl) (fun _ _ _ h => h) (Or.inl ⟨?hw20032, ?hy20032⟩) (by assumption) ?rest20032
        case hi20032 => (simp only [List.getElem?_toArray, List.getElem?_cons_zero, List.getElem?_cons_succ]; rfl)
        case hw20032 => rfl
        case hy20032 => first | (intro wx hSw; go_simp; done) | (intro wx hSw; go_simp; with_reducible rfl)
        simp only [Act.put, List.setIfInBounds_toArray, List.set_cons_zero, List.set_cons_succ]
        refine wpAnyH_ready (rs := [5]) (by kernel_rfl) (by simp) ?_
        refine AllReadyH.cons rfl (fun K20033 hK20033 => ?_) AllReadyH.nil
        go_simp
        go_wp2_with (go_at_call 19; refine (unhide CE _ _ ((unhide hC).call GD) ((unhide hR).call GD) hr12).mono ?_; rintro e X13 ⟨rfl, hb13⟩)
        refine hK20033.out _ _ ?hs20033 (fun hHeld20033 => ?_)
        case hs20033 => exact hHeld.call hb13
        clear hHeld
        have hHeld := hHeld20033; clear hHeld20033 hK20033 K20033
        replace GD := GD.trans (hb13.mono GD.size)
        replace rb := rb.call hb13
        clear hb13
        clear hr12
        refine wpAnyH_take (i := 6) (oi := ?oi20034) (v := ?v20034) ?hi20034 (by kernel_rfl) (by kernel_rfl) (by kernel_rfl) (fun _ _ _ h => h) (Or.inl ⟨?hw20034, ?hy20034⟩) (by assumption) ?rest20034
        case hi20034 => (simp only [List.getElem?_toArray, List.getElem?_cons_zero, List.getElem?_cons_succ]; rfl)
        case hw20034 => rfl
        case hy20034 => first | (intro wx hSw; go_simp; done) | (intro wx hSw; go_simp; with_reducible rfl)
        simp only [Act.put, List.setIfInBounds_toArray, List.set_cons_zero, List.set_cons_succ]
        refine wpAnyH_take (i := 7) (oi := ?oi20035) (v := ?v20035) ?hi20035 (by kernel_rfl) (by kernel_rfl) (by kernel_rfl) (fun _ _ _ h => h) (Or.inl ⟨?hw20035, ?hy20035⟩) (by assumption) ?rest20035
        case hi20035 => (simp only [List.getElem?_toArray, List.getElem?_cons_zero, List.getElem?_cons_succ]; rfl)
        case hw20035 => rfl
        case hy20035 => first | (intro wx hSw; go_simp; done) | (intro wx hSw; go_simp; with_reducible rfl)
        simp only [Act.put, List.setIfInBounds_toArray, List.set_cons_zero, List.set_cons_succ]
        refine wpAnyH_take (i := 8) (oi := ?oi20036) (v := ?v20036) ?hi20036 (by kernel_rfl) (by kernel_rfl) (by kernel_rfl) (fun _ _ _ h => h) (Or.inl ⟨?hw20036, ?hy20036⟩) (by assumption) ?rest20036
        case hi20036 => (simp only [List.getElem?_toArray, List.getElem?_cons_zero, List.getElem?_cons_succ]; rfl)
        case hw20036 => rfl
        case hy20036 => first | (intro wx hSw; go_simp; done) | (intro wx hSw; go_simp; with_reducible rfl)
        simp only [Act.put, List.setIfInBounds_toArray, List.set_cons_zero, List.set_cons_succ]
        have rlt := rb.lt
        have rc0 := rb.cell 0
        have rf0 := rb.froz 0
        have rc1 := rb.cell 1
        have rf1 := rb.froz 1
        have rc2 := rb.cell 2
        have rf2 := rb.froz 2
        have rc3 := rb.cell 3
        have rf3 := rb.froz 3
        simp at rc0 rc1 rc2 rc3
        have GE : Below Wd.heap.size Wd ((((X13.setCell ⟨Wd.heap.size, 0, none⟩ (.int .i64 q.1.1)).setCell ⟨Wd.heap.size, 1, none⟩ (.int .i64 q.1.2.1)).setCell ⟨Wd.heap.size, 2, none⟩ (.int .i64 q.1.2.2.1)).setCell ⟨Wd.heap.size, 3, none⟩ (.string q.1.2.2.2)) := (((GD.setCell (p := ⟨Wd.heap.size, 0, none⟩) hge _).setCell (p := ⟨Wd.heap.size, 1, none⟩) hge _).setCell (p := ⟨Wd.heap.size, 2, none⟩) hge _).setCell (p := ⟨Wd.heap.size, 3, none⟩) hge _
        have RE : Blk Wd.heap.size #[.int .i64 q.1.1, .int .i64 q.1.2.1, .int .i64 q.1.2.2.1, .string q.1.2.2.2] 28 ((((X13.setCell ⟨Wd.heap.size, 0, none⟩ (.int .i64 q.1.1)).setCell ⟨Wd.heap.size, 1, none⟩ (.int .i64 q.1.2.1)).setCell ⟨Wd.heap.size, 2, none⟩ (.int .i64 q.1.2.2.1)).setCell ⟨Wd.heap.size, 3, none⟩ (.string q.1.2.2.2)) := heapSet4 rb _ _ _ _
        refine wpAnyH_ready (rs := [10]) (by kernel_rfl) (by simp) ?_
        refine AllReadyH.cons rfl (fun K20037 hK20037 => ?_) AllReadyH.nil
        go_simp
        refine hK20037.out _ _ ?hs20037 (fun hHeld20037 => ?_)
        case hs20037 => exact (unhide hT).call GE
        clear hHeld
        have hHeld := hHeld20037; clear hHeld20037 hK20037 K20037
        refine wpAnyH_take (i := 11) (oi := ?oi20038) (v := ?v20038) ?hi20038 (by kernel_rfl) (by kernel_rfl) (by kernel_rfl) (fun _ _ _ h => h) (Or.inl ⟨?hw20038, ?hy20038⟩) (by assumption) ?rest20038
        case hi20038 => (simp only [List.getElem?_toArray, List.getElem?_cons_zero, List.getElem?_cons_succ]; rfl)
        case hw20038 => rfl
        case hy20038 => first | (intro wx hSw; go_simp; done) | (intro wx hSw; go_simp; with_reducible rfl)
        simp only [Act.put, List.setIfInBounds_toArray, List.set_cons_zero, List.set_cons_succ]
        refine wpAnyH_done (by kernel_rfl) ?_ _
        refine NoPanic.normal ?_
        skip
        exact unhide REST10 _ Wd.heap.size _ rfl (hide ((unhide G).call GE)) (hide ((unhide hC).call GE)) (hide ((unhide hR).call GE)) (hide ((unhide hT).call GE)) (hide ((unhide hX).call GE)) (hide ((unhide hY).call GE)) (hide ((unhide hV).call GE)) (hide ((unhide hW).call GE)) (hide RE)
    have REST8 := hide REST8
    clear hr8 CK
    refine wp_region_noPanic ?_
    refine wp_region_held_drew (S := (fun X => Blk bt #[.string ⟨#[116]⟩, .slice (some ⟨gc, 0, none⟩) 4 4, .int .i64 0, N0, .int .i64 0, .string S0, .int .i64 0, .int .i64 0, .int .i64 0, .string S0, N0, N0] 34 X)) (by kernel_rfl) ((unhide hT).call (Below.refl _ _).drew) (fun hHeld => ?_)
    have hbd : Below X.heap.size X X.drew := (Below.refl _ _).drew
    replace G := hide ((unhide G).call hbd)
    replace hC := hide ((unhide hC).call hbd)
    replace hR := hide ((unhide hR).call hbd)
    replace hT := hide ((unhide hT).call hbd)
    replace hX := hide ((unhide hX).call hbd)
    replace hY := hide ((unhide hY).call hbd)
    clear hbd
    generalize X.drew = Wd at *
    refine wpAnyH_take (i := 0) (oi := ?oi20039) (v := ?v20039) ?hi20039 (by kernel_rfl) (by kernel_rfl) (by kernel_rfl) (fun _ _ _ h => h) (Or.inl ⟨?hw20039, ?hy20039⟩) (by assumption) ?rest20039
    case hi20039 => (simp only [List.getElem?_toArray, List.getElem?_cons_zero]; rfl)
    case hw20039 => rfl
    case hy20039 => first | (intro wx hSw; have hT := hSw; have t0 := Blk.cell hT 0; have t1 := Blk.cell hT 1; have t2 := Blk.cell hT 2; have t3 := Blk.cell hT 3; have t4 := Blk.cell hT 4; have t5 := Blk.cell hT 5; have t6 := Blk.cell hT 6; have t7 := Blk.cell hT 7; have t8 := Blk.cell hT 8; have t9 := Blk.cell hT 9; have t10 := Blk.cell hT 10; have t11 := Blk.cell hT 11; simp at t0 t1 t2 t3 t4 t5 t6 t7 t8 t9 t10 t11; go_simp; done) | (intro wx hSw; have hT := hSw; have t0 := Blk.cell hT 0; have t1 := Blk.cell hT 1; have t2 := Blk.cell hT 2; have t3 := Blk.cell hT 3; have t4 := Blk.cell hT 4; have t5 := Blk.cell hT 5; have t6 := Blk.cell hT 6; have t7 := Blk.cell hT 7; have t8 := Blk.cell hT 8; have t9 := Blk.cell hT 9; have t10 := Blk.cell hT 10; have t11 := Blk.cell hT 11; simp at t0 t1 t2 t3 t4 t5 t6 t7 t8 t9 t10 t11; go_simp; with_reducible rfl)
    simp only [Act.put, List.setIfInBounds_toArray, List.set_cons_zero, List.set_cons_succ]
    refine wpAnyH_take (i := 1) (oi := ?oi20040) (v := ?v20040) ?hi20040 (by kernel_rfl) (by kernel_rfl) (by kernel_rfl) (fun _ _ _ h => h) (Or.inl ⟨?hw20040, ?hy20040⟩) (by assumption) ?rest20040
    case hi20040 => (simp only [List.getElem?_toArray, List.getElem?_cons_zero, List.getElem?_cons_succ]; rfl)
    case hw20040 => rfl
    case hy20040 => first | (intro wx hSw; have hT := hSw; have t0 := Blk.cell hT 0; have t1 := Blk.cell hT 1; have t2 := Blk.cell hT 2; have t3 := Blk.cell hT 3; have t4 := Blk.cell hT 4; have t5 := Blk.cell hT 5; have t6 := Blk.cell hT 6; have t7 := Blk.cell hT 7; have t8 := Blk.cell hT 8; have t9 := Blk.cell hT 9; have t10 := Blk.cell hT 10; have t11 := Blk.cell hT 11; simp at t0 t1 t2 t3 t4 t5 t6 t7 t8 t9 t10 t11; go_simp; done) | (intro wx hSw; have hT := hSw; have t0 := Blk.cell hT 0; have t1 := Blk.cell hT 1; have t2 := Blk.cell hT 2; have t3 := Blk.cell hT 3; have t4 := Blk.cell hT 4; have t5 := Blk.cell hT 5; have t6 := Blk.cell hT 6; have t7 := Blk.cell hT 7; have t8 := Blk.cell hT 8; have t9 := Blk.cell hT 9; have t10 := Blk.cell hT 10; have t11 := Blk.cell hT 11; simp at t0 t1 t2 t3 t4 t5 t6 t7 t8 t9 t10 t11; go_simp; with_reducible rfl)
    simp only [Act.put, List.setIfInBounds_toArray, List.set_cons_zero, List.set_cons_succ]
    refine wpAnyH_take (i := 2) (oi := ?oi20041) (v := ?v20041) ?hi20041 (by kernel_rfl) (by kernel_rfl) (by kernel_rfl) (fun _ _ _ h => h) (Or.inl ⟨?hw20041, ?hy20041⟩) (by assumption) ?rest20041
    case hi20041 => (simp only [List.getElem?_toArray, List.getElem?_cons_zero, List.getElem?_cons_succ]; rfl)
    case hw20041 => rfl
    case hy20041 => first | (intro wx hSw; have hT := hSw; have t0 := Blk.cell hT 0; have t1 := Blk.cell hT 1; have t2 := Blk.cell hT 2; have t3 := Blk.cell hT 3; have t4 := Blk.cell hT 4; have t5 := Blk.cell hT 5; have t6 := Blk.cell hT 6; have t7 := Blk.cell hT 7; have t8 := Blk.cell hT 8; have t9 := Blk.cell hT 9; have t10 := Blk.cell hT 10; have t11 := Blk.cell hT 11; simp at t0 t1 t2 t3 t4 t5 t6 t7 t8 t9 t10 t11; go_simp; done) | (intro wx hSw; have hT := hSw; have t0 := Blk.cell hT 0; have t1 := Blk.cell hT 1; have t2 := Blk.cell hT 2; have t3 := Blk.cell hT 3; have t4 := Blk.cell hT 4; have t5 := Blk.cell hT 5; have t6 := Blk.cell hT 6; have t7 := Blk.cell hT 7; have t8 := Blk.cell hT 8; have t9 := Blk.cell hT 9; have t10 := Blk.cell hT 10; have t11 := Blk.cell hT 11; simp at t0 t1 t2 t3 t4 t5 t6 t7 t8 t9 t10 t11; go_simp; with_reducible rfl)
    simp only [Act.put, List.setIfInBounds_toArray, List.set_cons_zero, List.set_cons_succ]
    have GD : Below Wd.heap.size Wd Wd := Below.refl _ _
    refine wpAnyH_ready (rs := [3, 10]) (by kernel_rfl) (by simp) ?_
    refine AllReadyH.cons rfl (fun K20042 hK20042 => ?_) ?_
    · go_simp
      go_wp2_with (go_at_call 27; refine (colL_any _ _).mono ?_; rintro e X1 ⟨rfl, hb1⟩)
      refine hK20042.out _ _ ?hs20042 (fun hHeld20042 => ?_)
      case hs20042 => exact hHeld.call hb1
      clear hHeld
      have hHeld := hHeld20042; clear hHeld20042 hK20042 K20042
      replace GD := GD.trans (hb1.mono GD.size)
      clear hb1
      refine wpAnyH_ready (rs := [4, 10]) (by kernel_rfl) (by simp) ?_
      refine AllReadyH.cons rfl (fun K20043 hK20043 => ?_) ?_
      · go_simp
        go_wp2_with (go_at_call 27; refine (colL_any _ _).mono ?_; rintro e X2 ⟨rfl, hb2⟩)
        refine hK20043.out _ _ ?hs20043 (fun hHeld20043 => ?_)
        case hs20043 => exact hHeld.call hb2
        clear hHeld
        have hHeld := hHeld20043; clear hHeld20043 hK20043 K20043
        replace GD := GD.trans (hb2.mono GD.size)
        clear hb2
        refine wpAnyH_ready (rs := [5, 10]) (by kernel_rfl) (by simp) ?_
        refine AllReadyH.cons rfl (fun K20044 hK20044 => ?_) ?_
        · go_simp
          go_wp2_with (go_at_call 26; refine (twoL_any _ (colX ⟨#[97]⟩) (colX ⟨#[98]⟩) _ _ _ rfl rfl).mono ?_; rintro e X3 ⟨g3, rfl, hr3, hb3⟩)
          refine hK20044.out _ _ ?hs20044 (fun hHeld20044 => ?_)
          case hs20044 => exact hHeld.call hb3
          clear hHeld
          have hHeld := hHeld20044; clear hHeld20044 hK20044 K20044
          replace GD := GD.trans (hb3.mono GD.size)
          clear hb3
          refine wpAnyH_ready (rs := [6, 10]) (by kernel_rfl) (by simp) ?_
          refine AllReadyH.cons rfl (fun K20045 hK20045 => ?_) ?_
          · go_simp
            go_wp2_with (go_at_call 19; refine (unhide CE _ _ ((unhide hC).call GD) ((unhide hR).call GD) hr3).mono ?_; rintro e X4 ⟨rfl, hb4⟩)
            refine hK20045.out _ _ ?hs20045 (fun hHeld20045 => ?_)
            case hs20045 => exact hHeld.call hb4
            clear hHeld
            have hHeld := hHeld20045; clear hHeld20045 hK20045 K20045
            replace GD := GD.trans (hb4.mono GD.size)
            clear hb4
            clear hr3
            refine wpAnyH_take (i := 7) (oi := ?oi20046) (v := ?v20046) ?hi20046 (by kernel_rfl) (by kernel_rfl) (by kernel_rfl) (fun _ _ _ h => h) (Or.inl ⟨?hw20046, ?hy20046⟩) (by assumption) ?rest20046
            case hi20046 => (simp only [List.getElem?_toArray, List.getElem?_cons_zero, List.getElem?_cons_succ]; rfl)
            case hw20046 => rfl
            case hy20046 => first | (intro wx hSw; go_simp; done) | (intro wx hSw; go_simp; with_reducible rfl)
            simp only [Act.put, List.setIfInBounds_toArray, List.set_cons_zero, List.set_cons_succ]
            refine wpAnyH_take (i := 8) (oi := ?oi20047) (v := ?v20047) ?hi20047 (by kernel_rfl) (by kernel_rfl) (by kernel_rfl) (fun _ _ _ h => h) (Or.inl ⟨?hw20047, ?hy20047⟩) (by assumption) ?rest20047
            case hi20047 => (simp only [List.getElem?_toArray, List.getElem?_cons_zero, List.getElem?_cons_succ]; rfl)
            case hw20047 => rfl
            case hy20047 => first | (intro wx hSw; go_simp; done) | (intro wx hSw; go_simp; with_reducible rfl)
            simp only [Act.put, List.setIfInBounds_toArray, List.set_cons_zero, List.set_cons_succ]
            refine wpAnyH_take (i := 9) (oi := ?oi20048) (v := ?v20048) ?hi20048 (by kernel_rfl) (by kernel_rfl) (by kernel_rfl) (fun _ _ _ h => h) (Or.inl ⟨?hw20048, ?hy20048⟩) (by assumption) ?rest20048
            case hi20048 => (simp only [List.getElem?_toArray, List.getElem?_cons_zero, List.getElem?_cons_succ]; rfl)
            case hw20048 => rfl
            case hy20048 => first | (intro wx hSw; go_simp; done) | (intro wx hSw; go_simp; with_reducible rfl)
            simp only [Act.put, List.setIfInBounds_toArray, List.set_cons_zero, List.set_cons_succ]
            refine wpAnyH_ready (rs := [10]) (by kernel_rfl) (by simp) ?_
            refine AllReadyH.cons rfl (fun K20049 hK20049 => ?_) AllReadyH.nil
            go_simp
            refine hK20049.out _ _ ?hs20049 (fun hHeld20049 => ?_)
            case hs20049 => exact hHeld.call (below_new _ _)
            clear hHeld
            have hHeld := hHeld20049; clear hHeld20049 hK20049 K20049
            have hb5 := below_new X4 (.cells (vC Z4).toArray 28)
            have rb := Blk.new X4 (vC Z4).toArray 28
            have hge : Wd.heap.size ≤ X4.heap.size := GD.size
            generalize X4.alloc (.cells (vC Z4).toArray 28) = X5 at *
            replace GD := GD.trans (hb5.mono GD.size)
            clear hb5
            have rlt := rb.lt
            have rc0 := rb.cell 0
            have rf0 := rb.froz 0
            have rc1 := rb.cell 1
            have rf1 := rb.froz 1
            have rc2 := rb.cell 2
            have rf2 := rb.froz 2
            have rc3 := rb.cell 3
            have rf3 := rb.froz 3
            simp at rc0 rc1 rc2 rc3
            have GE : Below Wd.heap.size Wd ((((X5.setCell ⟨X4.heap.size, 0, none⟩ (.int .i64 r.1.1)).setCell ⟨X4.heap.size, 1, none⟩ (.int .i64 r.1.2.1)).setCell ⟨X4.heap.size, 2, none⟩ (.int .i64 r.1.2.2.1)).setCell ⟨X4.heap.size, 3, none⟩ (.string r.1.2.2.2)) := (((GD.setCell (p := ⟨X4.heap.size, 0, none⟩) hge _).setCell (p := ⟨X4.heap.size, 1, none⟩) hge _).setCell (p := ⟨X4.heap.size, 2, none⟩) hge _).setCell (p := ⟨X4.heap.size, 3, none⟩) hge _
            have RE : Blk X4.heap.size #[.int .i64 r.1.1, .int .i64 r.1.2.1, .int .i64 r.1.2.2.1, .string r.1.2.2.2] 28 ((((X5.setCell ⟨X4.heap.size, 0, none⟩ (.int .i64 r.1.1)).setCell ⟨X4.heap.size, 1, none⟩ (.int .i64 r.1.2.1)).setCell ⟨X4.heap.size, 2, none⟩ (.int .i64 r.1.2.2.1)).setCell ⟨X4.heap.size, 3, none⟩ (.string r.1.2.2.2)) := heapSet4 rb _ _ _ _
            refine wpAnyH_ready (rs := [11]) (by kernel_rfl) (by simp) ?_
            refine AllReadyH.cons rfl (fun K20050 hK20050 => ?_) AllReadyH.nil
            go_simp
            refine hK20050.out _ _ ?hs20050 (fun hHeld20050 => ?_)
            case hs20050 => exact (unhide hT).call GE
            clear hHeld
            have hHeld := hHeld20050; clear hHeld20050 hK20050 K20050
            refine wpAnyH_take (i := 12) (oi := ?oi20051) (v := ?v20051) ?hi20051 (by kernel_rfl) (by kernel_rfl) (by kernel_rfl) (fun _ _ _ h => h) (Or.inl ⟨?hw20051, ?hy20051⟩) (by assumption) ?rest20051
            case hi20051 => (simp only [List.getElem?_toArray, List.getElem?_cons_zero, List.getElem?_cons_succ]; rfl)
            case hw20051 => rfl
            case hy20051 => first | (intro wx hSw; go_simp; done) | (intro wx hSw; go_simp; with_reducible rfl)
            simp only [Act.put, List.setIfInBounds_toArray, List.set_cons_zero, List.set_cons_succ]
            refine wpAnyH_done (by kernel_rfl) ?_ _
            refine NoPanic.normal ?_
            skip
            exact unhide REST8 _ X4.heap.size _ rfl (hide ((unhide G).call GE)) (hide ((unhide hC).call GE)) (hide ((unhide hR).call GE)) (hide ((unhide hT).call GE)) (hide ((unhide hX).call GE)) (hide ((unhide hY).call GE)) (hide RE)
          refine AllReadyH.cons rfl (fun K20052 hK20052 => ?_) AllReadyH.nil
          · go_simp
            refine hK20052.out _ _ ?hs20052 (fun hHeld20052 => ?_)
            case hs20052 => exact hHeld.call (below_new _ _)
            clear hHeld
            have hHeld := hHeld20052; clear hHeld20052 hK20052 K20052
            have hb6 := below_new X3 (.cells (vC Z4).toArray 28)
            have rb := Blk.new X3 (vC Z4).toArray 28
            have hge : Wd.heap.size ≤ X3.heap.size := GD.size
            generalize X3.alloc (.cells (vC Z4).toArray 28) = X6 at *
            replace GD := GD.trans (hb6.mono GD.size)
            replace hr3 := hr3.call hb6
            clear hb6
            refine wpAnyH_ready (rs := [6]) (by kernel_rfl) (by simp) ?_
            refine AllReadyH.cons rfl (fun K20053 hK20053 => ?_) AllReadyH.nil
            go_simp
            go_wp2_with (go_at_call 19; refine (unhide CE _ _ ((unhide hC).call GD) ((unhide hR).call GD) hr3).mono ?_; rintro e X7 ⟨rfl, hb7⟩)
            refine hK20053.out _ _ ?hs20053 (fun hHeld20053 => ?_)
            case hs20053 => exact hHeld.call hb7
            clear hHeld
            have hHeld := hHeld20053; clear hHeld20053 hK20053 K20053
            replace GD := GD.trans (hb7.mono GD.size)
            replace rb := rb.call hb7
            clear hb7
            clear hr3
            refine wpAnyH_take (i := 7) (oi := ?oi20054) (v := ?v20054) ?hi20054 (by kernel_rfl) (by kernel_rfl) (by kernel_rfl) (fun _ _ _ h => h) (Or.inl ⟨?hw20054, ?hy20054⟩) (by assumption) ?rest20054
            case hi20054 => (simp only [List.getElem?_toArray, List.getElem?_cons_zero, List.getElem?_cons_succ]; rfl)
            case hw20054 => rfl
            case hy20054 => first | (intro wx hSw; go_simp; done) | (intro wx hSw; go_simp; with_reducible rfl)
            simp only [Act.put, List.setIfInBounds_toArray, List.set_cons_zero, List.set_cons_succ]
            refine wpAnyH_take (i := 8) (oi := ?oi20055) (v := ?v20055) ?hi20055 (by kernel_rfl) (by kernel_rfl) (by kernel_rfl) (fun _ _ _ h => h) (Or.inl ⟨?hw20055, ?hy20055⟩) (by assumption) ?rest20055
            case hi20055 => (simp only [List.getElem?_toArray, List.getElem?_cons_zero, List.getElem?_cons_succ]; rfl)
            case hw20055 => rfl
            case hy20055 => first | (intro wx hSw; go_simp; done) | (intro wx hSw; go_simp; with_reducible rfl)
            simp only [Act.put, List.setIfInBounds_toArray, List.set_cons_zero, List.set_cons_succ]
            refine wpAnyH_take (i := 9) (oi := ?oi20056) (v := ?v20056) ?hi20056 (by kernel_rfl) (by kernel_rfl) (by kernel_rfl) (fun _ _ _ h => h) (Or.inl ⟨?hw20056, ?hy20056⟩) (by assumption) ?rest20056
            case hi20056 => (simp only [List.getElem?_toArray, List.getElem?_cons_zero, List.getElem?_cons_succ]; rfl)
            case hw20056 => rfl
            case hy20056 => first | (intro wx hSw; go_simp; done) | (intro wx hSw; go_simp; with_reducible rfl)
            simp only [Act.put, List.setIfInBounds_toArray, List.set_cons_zero, List.set_cons_succ]
            have rlt := rb.lt
            have rc0 := rb.cell 0
            have rf0 := rb.froz 0
            have rc1 := rb.cell 1
            have rf1 := rb.froz 1
            have rc2 := rb.cell 2
            have rf2 := rb.froz 2
            have rc3 := rb.cell 3
            have rf3 := rb.froz 3
            simp at rc0 rc1 rc2 rc3
            have GE : Below Wd.heap.size Wd ((((X7.setCell ⟨X3.heap.size, 0, none⟩ (.int .i64 r.1.1)).setCell ⟨X3.heap.size, 1, none⟩ (.int .i64 r.1.2.1)).setCell ⟨X3.heap.size, 2, none⟩ (.int .i64 r.1.2.2.1)).setCell ⟨X3.heap.size, 3, none⟩ (.string r.1.2.2.2)) := (((GD.setCell (p := ⟨X3.heap.size, 0, none⟩) hge _).setCell (p := ⟨X3.heap.size, 1, none⟩) hge _).setCell (p := ⟨X3.heap.size, 2, none⟩) hge _).setCell (p := ⟨X3.heap.size, 3, none⟩) hge _
            have RE : Blk X3.heap.size #[.int .i64 r.1.1, .int .i64 r.1.2.1, .int .i64 r.1.2.2.1, .string r.1.2.2.2] 28 ((((X7.setCell ⟨X3.heap.size, 0, none⟩ (.int .i64 r.1.1)).setCell ⟨X3.heap.size, 1, none⟩ (.int .i64 r.1.2.1)).setCell ⟨X3.heap.size, 2, none⟩ (.int .i64 r.1.2.2.1)).setCell ⟨X3.heap.size, 3, none⟩ (.string r.1.2.2.2)) := heapSet4 rb _ _ _ _
            refine wpAnyH_ready (rs := [11]) (by kernel_rfl) (by simp) ?_
            refine AllReadyH.cons rfl (fun K20057 hK20057 => ?_) AllReadyH.nil
            go_simp
            refine hK20057.out _ _ ?hs20057 (fun hHeld20057 => ?_)
            case hs20057 => exact (unhide hT).call GE
            clear hHeld
            have hHeld := hHeld20057; clear hHeld20057 hK20057 K20057
            refine wpAnyH_take (i := 12) (oi := ?oi20058) (v := ?v20058) ?hi20058 (by kernel_rfl) (by kernel_rfl) (by kernel_rfl) (fun _ _ _ h => h) (Or.inl ⟨?hw20058, ?hy20058⟩) (by assumption) ?rest20058
            case hi20058 => (simp only [List.getElem?_toArray, List.getElem?_cons_zero, List.getElem?_cons_succ]; rfl)
            case hw20058 => rfl
            case hy20058 => first | (intro wx hSw; go_simp; done) | (intro wx hSw; go_simp; with_reducible rfl)
            simp only [Act.put, List.setIfInBounds_toArray, List.set_cons_zero, List.set_cons_succ]
            refine wpAnyH_done (by kernel_rfl) ?_ _
            refine NoPanic.normal ?_
            skip
            exact unhide REST8 _ X3.heap.size _ rfl (hide ((unhide G).call GE)) (hide ((unhide hC).call GE)) (hide ((unhide hR).call GE)) (hide ((unhide hT).call GE)) (hide ((unhide hX).call GE)) (hide ((unhide hY).call GE)) (hide RE)
        refine AllReadyH.cons rfl (fun K20059 hK20059 => ?_) AllReadyH.nil
        · go_simp
          refine hK20059.out _ _ ?hs20059 (fun hHeld20059 => ?_)
          case hs20059 => exact hHeld.call (below_new _ _)
          clear hHeld
          have hHeld := hHeld20059; clear hHeld20059 hK20059 K20059
          have hb8 := below_new X2 (.cells (vC Z4).toArray 28)
          have rb := Blk.new X2 (vC Z4).toArray 28
          have hge : Wd.heap.size ≤ X2.heap.size := GD.size
          generalize X2.alloc (.cells (vC Z4).toArray 28) = X8 at *
          replace GD := GD.trans (hb8.mono GD.size)
          clear hb8
          refine wpAnyH_ready (rs := [5]) (by kernel_rfl) (by simp) ?_
          refine AllReadyH.cons rfl (fun K20060 hK20060 => ?_) AllReadyH.nil
          go_simp
          go_wp2_with (go_at_call 26; refine (twoL_any _ (colX ⟨#[97]⟩) (colX ⟨#[98]⟩) _ _ _ rfl rfl).mono ?_; rintro e X9 ⟨g9, rfl, hr9, hb9⟩)
          refine hK20060.out _ _ ?hs20060 (fun hHeld20060 => ?_)
          case hs20060 => exact hHeld.call hb9
          clear hHeld
          have hHeld := hHeld20060; clear hHeld20060 hK20060 K20060
          replace GD := GD.trans (hb9.mono GD.size)
          replace rb := rb.call hb9
          clear hb9
          refine wpAnyH_ready (rs := [6]) (by kernel_rfl) (by simp) ?_
          refine AllReadyH.cons rfl (fun K20061 hK20061 => ?_) AllReadyH.nil
          go_simp
          go_wp2_with (go_at_call 19; refine (unhide CE _ _ ((unhide hC).call GD) ((unhide hR).call GD) hr9).mono ?_; rintro e X10 ⟨rfl, hb10⟩)
          refine hK20061.out _ _ ?hs20061 (fun hHeld20061 => ?_)
          case hs20061 => exact hHeld.call hb10
          clear hHeld
          have hHeld := hHeld20061; clear hHeld20061 hK20061 K20061
          replace GD := GD.trans (hb10.mono GD.size)
          replace rb := rb.call hb10
          clear hb10
          clear hr9
          refine wpAnyH_take (i := 7) (oi := ?oi20062) (v := ?v20062) ?hi20062 (by kernel_rfl) (by kernel_rfl) (by kernel_rfl) (fun _ _ _ h => h) (Or.inl ⟨?hw20062, ?hy20062⟩) (by assumption) ?rest20062
          case hi20062 => (simp only [List.getElem?_toArray, List.getElem?_cons_zero, List.getElem?_cons_succ]; rfl)
          case hw20062 => rfl
          case hy20062 => first | (intro wx hSw; go_simp; done) | (intro wx hSw; go_simp; with_reducible rfl)
          simp only [Act.put, List.setIfInBounds_toArray, List.set_cons_zero, List.set_cons_succ]
          refine wpAnyH_take (i := 8) (oi := ?oi20063) (v := ?v20063) ?hi20063 (by kernel_rfl) (by kernel_rfl) (by kernel_rfl) (fun _ _ _ h => h) (Or.inl ⟨?hw20063, ?hy20063⟩) (by assumption) ?rest20063
          case hi20063 => (simp only [List.getElem?_toArray, List.getElem?_cons_zero, List.getElem?_cons_succ]; rfl)
          case hw20063 => rfl
          case hy20063 => first | (intro wx hSw; go_simp; done) | (intro wx hSw; go_simp; with_reducible rfl)
          simp only [Act.put, List.setIfInBounds_toArray, List.set_cons_zero, List.set_cons_succ]
          refine wpAnyH_take (i := 9) (oi := ?oi20064) (v := ?v20064) ?hi20064 (by kernel_rfl) (by kernel_rfl) (by kernel_rfl) (fun _ _ _ h => h) (Or.inl ⟨?hw20064, ?hy20064⟩) (by assumption) ?rest20064
          case hi20064 => (simp only [List.getElem?_toArray, List.getElem?_cons_zero, List.getElem?_cons_succ]; rfl)
          case hw20064 => rfl
          case hy20064 => first | (intro wx hSw; go_simp; done) | (intro wx hSw; go_simp; with_reducible rfl)
          simp only [Act.put, List.setIfInBounds_toArray, List.set_cons_zero, List.set_cons_succ]
          have rlt := rb.lt
          have rc0 := rb.cell 0
          have rf0 := rb.froz 0
          have rc1 := rb.cell 1
          have rf1 := rb.froz 1
          have rc2 := rb.cell 2
          have rf2 := rb.froz 2
          have rc3 := rb.cell 3
          have rf3 := rb.froz 3
          simp at rc0 rc1 rc2 rc3
          have GE : Below Wd.heap.size Wd ((((X10.setCell ⟨X2.heap.size, 0, none⟩ (.int .i64 r.1.1)).setCell ⟨X2.heap.size, 1, none⟩ (.int .i64 r.1.2.1)).setCell ⟨X2.heap.size, 2, none⟩ (.int .i64 r.1.2.2.1)).setCell ⟨X2.heap.size, 3, none⟩ (.string r.1.2.2.2)) := (((GD.setCell (p := ⟨X2.heap.size, 0, none⟩) hge _).setCell (p := ⟨X2.heap.size, 1, none⟩) hge _).setCell (p := ⟨X2.heap.size, 2, none⟩) hge _).setCell (p := ⟨X2.heap.size, 3, none⟩) hge _
          have RE : Blk X2.heap.size #[.int .i64 r.1.1, .int .i64 r.1.2.1, .int .i64 r.1.2.2.1, .string r.1.2.2.2] 28 ((((X10.setCell ⟨X2.heap.size, 0, none⟩ (.int .i64 r.1.1)).setCell ⟨X2.heap.size, 1, none⟩ (.int .i64 r.1.2.1)).setCell ⟨X2.heap.size, 2, none⟩ (.int .i64 r.1.2.2.1)).setCell ⟨X2.heap.size, 3, none⟩ (.string r.1.2.2.2)) := heapSet4 rb _ _ _ _
          refine wpAnyH_ready (rs := [11]) (by kernel_rfl) (by simp) ?_
          refine AllReadyH.cons rfl (fun K20065 hK20065 => ?_) AllReadyH.nil
          go_simp
          refine hK20065.out _ _ ?hs20065 (fun hHeld20065 => ?_)
          case hs20065 => exact (unhide hT).call GE
          clear hHeld
          have hHeld := hHeld20065; clear hHeld20065 hK20065 K20065
          refine wpAnyH_take (i := 12) (oi := ?oi20066) (v := ?v20066) ?hi20066 (by kernel_rfl) (by kernel_rfl) (by kernel_rfl) (fun _ _ _ h => h) (Or.inl ⟨?hw20066, ?hy20066⟩) (by assumption) ?rest20066
          case hi20066 => (simp only [List.getElem?_toArray, List.getElem?_cons_zero, List.getElem?_cons_succ]; rfl)
          case hw20066 => rfl
          case hy20066 => first | (intro wx hSw; go_simp; done) | (intro wx hSw; go_simp; with_reducible rfl)
          simp only [Act.put, List.setIfInBounds_toArray, List.set_cons_zero, List.set_cons_succ]
          refine wpAnyH_done (by kernel_rfl) ?_ _
          refine NoPanic.normal ?_
          skip
          exact unhide REST8 _ X2.heap.size _ rfl (hide ((unhide G).call GE)) (hide ((unhide hC).call GE)) (hide ((unhide hR).call GE)) (hide ((unhide hT).call GE)) (hide ((unhide hX).call GE)) (hide ((unhide hY).call GE)) (hide RE)
      refine AllReadyH.cons rfl (fun K20067 hK20067 => ?_) AllReadyH.nil
      · go_simp
        refine hK20067.out _ _ ?hs20067 (fun hHeld20067 => ?_)
        case hs20067 => exact hHeld.call (below_new _ _)
        clear hHeld
        have hHeld := hHeld20067; clear hHeld20067 hK20067 K20067
        have hb11 := below_new X1 (.cells (vC Z4).toArray 28)
        have rb := Blk.new X1 (vC Z4).toArray 28
        have hge : Wd.heap.size ≤ X1.heap.size := GD.size
        generalize X1.alloc (.cells (vC Z4).toArray 28) = X11 at *
        replace GD := GD.trans (hb11.mono GD.size)
        clear hb11
        refine wpAnyH_ready (rs := [4]) (by kernel_rfl) (by simp) ?_
        refine AllReadyH.cons rfl (fun K20068 hK20068 => ?_) AllReadyH.nil
        go_simp
        go_wp2_with (go_at_call 27; refine (colL_any _ _).mono ?_; rintro e X12 ⟨rfl, hb12⟩)
        refine hK20068.out _ _ ?hs20068 (fun hHeld20068 => ?_)
        case hs20068 => exact hHeld.call hb12
        clear hHeld
        have hHeld := hHeld20068; clear hHeld20068 hK20068 K20068
        replace GD := GD.trans (hb12.mono GD.size)
        replace rb := rb.call hb12
        clear hb12
        refine wpAnyH_ready (rs := [5]) (by kernel_rfl) (by simp) ?_
        refine AllReadyH.cons rfl (fun K20069 hK20069 => ?_) AllReadyH.nil
        go_simp
        go_wp2_with (go_at_call 26; refine (twoL_any _ (colX ⟨#[97]⟩) (colX ⟨#[98]⟩) _ _ _ rfl rfl).mono ?_; rintro e X13 ⟨g13, rfl, hr13, hb13⟩)
        refine hK20069.out _ _ ?hs20069 (fun hHeld20069 => ?_)
        case hs20069 => exact hHeld.call hb13
        clear hHeld
        have hHeld := hHeld20069; clear hHeld20069 hK20069 K20069
        replace GD := GD.trans (hb13.mono GD.size)
        replace rb := rb.call hb13
        clear hb13
        refine wpAnyH_ready (rs := [6]) (by kernel_rfl) (by simp) ?_
        refine AllReadyH.cons rfl (fun K20070 hK20070 => ?_) AllReadyH.nil
        go_simp
        go_wp2_with (go_at_call 19; refine (unhide CE _ _ ((unhide hC).call GD) ((unhide hR).call GD) hr13).mono ?_; rintro e X14 ⟨rfl, hb14⟩)
        refine hK20070.out _ _ ?hs20070 (fun hHeld20070 => ?_)
        case hs20070 => exact hHeld.call hb14
        clear hHeld
        have hHeld := hHeld20070; clear hHeld20070 hK20070 K20070
        replace GD := GD.trans (hb14.mono GD.size)
        replace rb := rb.call hb14
        clear hb14
        clear hr13
        refine wpAnyH_take (i := 7) (oi := ?oi20071) (v := ?v20071) ?hi20071 (by kernel_rfl) (by kernel_rfl) (by kernel_rfl) (fun _ _ _ h => h) (Or.inl ⟨?hw20071, ?hy20071⟩) (by assumption) ?rest20071
        case hi20071 => (simp only [List.getElem?_toArray, List.getElem?_cons_zero, List.getElem?_cons_succ]; rfl)
        case hw20071 => rfl
        case hy20071 => first | (intro wx hSw; go_simp; done) | (intro wx hSw; go_simp; with_reducible rfl)
        simp only [Act.put, List.setIfInBounds_toArray, List.set_cons_zero, List.set_cons_succ]
        refine wpAnyH_take (i := 8) (oi := ?oi20072) (v := ?v20072) ?hi20072 (by kernel_rfl) (by kernel_rfl) (by kernel_rfl) (fun _ _ _ h => h) (Or.inl ⟨?hw20072, ?hy20072⟩) (by assumption) ?rest20072
        case hi20072 => (simp only [List.getElem?_toArray, List.getElem?_cons_zero, List.getElem?_cons_succ]; rfl)
        case hw20072 => rfl
        case hy20072 => first | (intro wx hSw; go_simp; done) | (intro wx hSw; go_simp; with_reducible rfl)
        simp only [Act.put, List.setIfInBounds_toArray, List.set_cons_zero, List.set_cons_succ]
        refine wpAnyH_take (i := 9) (oi := ?oi20073) (v := ?v20073) ?hi20073 (by kernel_rfl) (by kernel_rfl) (by kernel_rfl) (fun _ _ _ h => h) (Or.inl ⟨?hw20073, ?hy20073⟩) (by assumption) ?rest20073
        case hi20073 => (simp only [List.getElem?_toArray, List.getElem?_cons_zero, List.getElem?_cons_succ]; rfl)
        case hw20073 => rfl
        case hy20073 => first | (intro wx hSw; go_simp; done) | (intro wx hSw; go_simp; with_reducible rfl)
        simp only [Act.put, List.setIfInBounds_toArray, List.set_cons_zero, List.set_cons_succ]
        have rlt := rb.lt
        have rc0 := rb.cell 0
        have rf0 := rb.froz 0
        have rc1 := rb.cell 1
        have rf1 := rb.froz 1
        have rc2 := rb.cell 2
        have rf2 := rb.froz 2
        have rc3 := rb.cell 3
        have rf3 := rb.froz 3
        simp at rc0 rc1 rc2 rc3
        have GE : Below Wd.heap.size Wd ((((X14.setCell ⟨X1.heap.size, 0, none⟩ (.int .i64 r.1.1)).setCell ⟨X1.heap.size, 1, none⟩ (.int .i64 r.1.2.1)).setCell ⟨X1.heap.size, 2, none⟩ (.int .i64 r.1.2.2.1)).setCell ⟨X1.heap.size, 3, none⟩ (.string r.1.2.2.2)) := (((GD.setCell (p := ⟨X1.heap.size, 0, none⟩) hge _).setCell (p := ⟨X1.heap.size, 1, none⟩) hge _).setCell (p := ⟨X1.heap.size, 2, none⟩) hge _).setCell (p := ⟨X1.heap.size, 3, none⟩) hge _
        have RE : Blk X1.heap.size #[.int .i64 r.1.1, .int .i64 r.1.2.1, .int .i64 r.1.2.2.1, .string r.1.2.2.2] 28 ((((X14.setCell ⟨X1.heap.size, 0, none⟩ (.int .i64 r.1.1)).setCell ⟨X1.heap.size, 1, none⟩ (.int .i64 r.1.2.1)).setCell ⟨X1.heap.size, 2, none⟩ (.int .i64 r.1.2.2.1)).setCell ⟨X1.heap.size, 3, none⟩ (.string r.1.2.2.2)) := heapSet4 rb _ _ _ _
        refine wpAnyH_ready (rs := [11]) (by kernel_rfl) (by simp) ?_
        refine AllReadyH.cons rfl (fun K20074 hK20074 => ?_) AllReadyH.nil
        go_simp
        refine hK20074.out _ _ ?hs20074 (fun hHeld20074 => ?_)
        case hs20074 => exact (unhide hT).call GE
        clear hHeld
        have hHeld := hHeld20074; clear hHeld20074 hK20074 K20074
        refine wpAnyH_take (i := 12) (oi := ?oi20075) (v := ?v20075) ?hi20075 (by kernel_rfl) (by kernel_rfl) (by kernel_rfl) (fun _ _ _ h => h) (Or.inl ⟨?hw20075, ?hy20075⟩) (by assumption) ?rest20075
        case hi20075 => (simp only [List.getElem?_toArray, List.getElem?_cons_zero, List.getElem?_cons_succ]; rfl)
        case hw20075 => rfl
        case hy20075 => first | (intro wx hSw; go_simp; done) | (intro wx hSw; go_simp; with_reducible rfl)
        simp only [Act.put, List.setIfInBounds_toArray, List.set_cons_zero, List.set_cons_succ]
        refine wpAnyH_done (by kernel_rfl) ?_ _
        refine NoPanic.normal ?_
        skip
        exact unhide REST8 _ X1.heap.size _ rfl (hide ((unhide G).call GE)) (hide ((unhide hC).call GE)) (hide ((unhide hR).call GE)) (hide ((unhide hT).call GE)) (hide ((unhide hX).call GE)) (hide ((unhide hY).call GE)) (hide RE)
    refine AllReadyH.cons rfl (fun K20076 hK20076 => ?_) AllReadyH.nil
    · go_simp
      refine hK20076.out _ _ ?hs20076 (fun hHeld20076 => ?_)
      case hs20076 => exact hHeld.call (below_new _ _)
      clear hHeld
      have hHeld := hHeld20076; clear hHeld20076 hK20076 K20076
      have hb15 := below_new Wd (.cells (vC Z4).toArray 28)
      have rb := Blk.new Wd (vC Z4).toArray 28
      have hge : Wd.heap.size ≤ Wd.heap.size := GD.size
      generalize Wd.alloc (.cells (vC Z4).toArray 28) = X15 at *
      replace GD := GD.trans (hb15.mono GD.size)
      clear hb15
      refine wpAnyH_ready (rs := [3]) (by kernel_rfl) (by simp) ?_
      refine AllReadyH.cons rfl (fun K20077 hK20077 => ?_) AllReadyH.nil
      go_simp
      go_wp2_with (go_at_call 27; refine (colL_any _ _).mono ?_; rintro e X16 ⟨rfl, hb16⟩)
      refine hK20077.out _ _ ?hs20077 (fun hHeld20077 => ?_)
      case hs20077 => exact hHeld.call hb16
      clear hHeld
      have hHeld := hHeld20077; clear hHeld20077 hK20077 K20077
      replace GD := GD.trans (hb16.mono GD.size)
      replace rb := rb.call hb16
      clear hb16
      refine wpAnyH_ready (rs := [4]) (by kernel_rfl) (by simp) ?_
      refine AllReadyH.cons rfl (fun K20078 hK20078 => ?_) AllReadyH.nil
      go_simp
      go_wp2_with (go_at_call 27; refine (colL_any _ _).mono ?_; rintro e X17 ⟨rfl, hb17⟩)
      refine hK20078.out _ _ ?hs20078 (fun hHeld20078 => ?_)
      case hs20078 => exact hHeld.call hb17
      clear hHeld
      have hHeld := hHeld20078; clear hHeld20078 hK20078 K20078
      replace GD := GD.trans (hb17.mono GD.size)
      replace rb := rb.call hb17
      clear hb17
      refine wpAnyH_ready (rs := [5]) (by kernel_rfl) (by simp) ?_
      refine AllReadyH.cons rfl (fun K20079 hK20079 => ?_) AllReadyH.nil
      go_simp
      go_wp2_with (go_at_call 26; refine (twoL_any _ (colX ⟨#[97]⟩) (colX ⟨#[98]⟩) _ _ _ rfl rfl).mono ?_; rintro e X18 ⟨g18, rfl, hr18, hb18⟩)
      refine hK20079.out _ _ ?hs20079 (fun hHeld20079 => ?_)
      case hs20079 => exact hHeld.call hb18
      clear hHeld
      have hHeld := hHeld20079; clear hHeld20079 hK20079 K20079
      replace GD := GD.trans (hb18.mono GD.size)
      replace rb := rb.call hb18
      clear hb18
      refine wpAnyH_ready (rs := [6]) (by kernel_rfl) (by simp) ?_
      refine AllReadyH.cons rfl (fun K20080 hK20080 => ?_) AllReadyH.nil
      go_simp
      go_wp2_with (go_at_call 19; refine (unhide CE _ _ ((unhide hC).call GD) ((unhide hR).call GD) hr18).mono ?_; rintro e X19 ⟨rfl, hb19⟩)
      refine hK20080.out _ _ ?hs20080 (fun hHeld20080 => ?_)
      case hs20080 => exact hHeld.call hb19
      clear hHeld
      have hHeld := hHeld20080; clear hHeld20080 hK20080 K20080
      replace GD := GD.trans (hb19.mono GD.size)
      replace rb := rb.call hb19
      clear hb19
      clear hr18
      refine wpAnyH_take (i := 7) (oi := ?oi20081) (v := ?v20081) ?hi20081 (by kernel_rfl) (by kernel_rfl) (by kernel_rfl) (fun _ _ _ h => h) (Or.inl ⟨?hw20081, ?hy20081⟩) (by assumption) ?rest20081
      case hi20081 => (simp only [List.getElem?_toArray, List.getElem?_cons_zero, List.getElem?_cons_succ]; rfl)
      case hw20081 => rfl
      case hy20081 => first | (intro wx hSw; go_simp; done) | (intro wx hSw; go_simp; with_reducible rfl)
      simp only [Act.put, List.setIfInBounds_toArray, List.set_cons_zero, List.set_cons_succ]
      refine wpAnyH_take (i := 8) (oi := ?oi20082) (v := ?v20082) ?hi20082 (by kernel_rfl) (by kernel_rfl) (by kernel_rfl) (fun _ _ _ h => h) (Or.inl ⟨?hw20082, ?hy20082⟩) (by assumption) ?rest20082
      case hi20082 => (simp only [List.getElem?_toArray, List.getElem?_cons_zero, List.getElem?_cons_succ]; rfl)
      case hw20082 => rfl
      case hy20082 => first | (intro wx hSw; go_simp; done) | (intro wx hSw; go_simp; with_reducible rfl)
      simp only [Act.put, List.setIfInBounds_toArray, List.set_cons_zero, List.set_cons_succ]
      refine wpAnyH_take (i := 9) (oi := ?oi20083) (v := ?v20083) ?hi20083 (by kernel_rfl) (by kernel_rfl) (by kernel_rfl) (fun _ _ _ h => h) (Or.inl ⟨?hw20083, ?hy20083⟩) (by assumption) ?rest20083
      case hi20083 => (simp only [List.getElem?_toArray, List.getElem?_cons_zero, List.getElem?_cons_succ]; rfl)
      case hw20083 => rfl
      case hy20083 => first | (intro wx hSw; go_simp; done) | (intro wx hSw; go_simp; with_reducible rfl)
      simp only [Act.put, List.setIfInBounds_toArray, List.set_cons_zero, List.set_cons_succ]
      have rlt := rb.lt
      have rc0 := rb.cell 0
      have rf0 := rb.froz 0
      have rc1 := rb.cell 1
      have rf1 := rb.froz 1
      have rc2 := rb.cell 2
      have rf2 := rb.froz 2
      have rc3 := rb.cell 3
      have rf3 := rb.froz 3
      simp at rc0 rc1 rc2 rc3
      have GE : Below Wd.heap.size Wd ((((X19.setCell ⟨Wd.heap.size, 0, none⟩ (.int .i64 r.1.1)).setCell ⟨Wd.heap.size, 1, none⟩ (.int .i64 r.1.2.1)).setCell ⟨Wd.heap.size, 2, none⟩ (.int .i64 r.1.2.2.1)).setCell ⟨Wd.heap.size, 3, none⟩ (.string r.1.2.2.2)) := (((GD.setCell (p := ⟨Wd.heap.size, 0, none⟩) hge _).setCell (p := ⟨Wd.heap.size, 1, none⟩) hge _).setCell (p := ⟨Wd.heap.size, 2, none⟩) hge _).setCell (p := ⟨Wd.heap.size, 3, none⟩) hge _
      have RE : Blk Wd.heap.size #[.int .i64 r.1.1, .int .i64 r.1.2.1, .int .i64 r.1.2.2.1, .string r.1.2.2.2] 28 ((((X19.setCell ⟨Wd.heap.size, 0, none⟩ (.int .i64 r.1.1)).setCell ⟨Wd.heap.size, 1, none⟩ (.int .i64 r.1.2.1)).setCell ⟨Wd.heap.size, 2, none⟩ (.int .i64 r.1.2.2.1)).setCell ⟨Wd.heap.size, 3, none⟩ (.string r.1.2.2.2)) := heapSet4 rb _ _ _ _
      refine wpAnyH_ready (rs := [11]) (by kernel_rfl) (by simp) ?_
      refine AllReadyH.cons rfl (fun K20084 hK20084 => ?_) AllReadyH.nil
      go_simp
      refine hK20084.out _ _ ?hs20084 (fun hHeld20084 => ?_)
      case hs20084 => exact (unhide hT).call GE
      clear hHeld
      have hHeld := hHeld20084; clear hHeld20084 hK20084 K20084
      refine wpAnyH_take (i := 12) (oi := ?oi20085) (v := ?v20085) ?hi20085 (by kernel_rfl) (by kernel_rfl) (by kernel_rfl) (fun _ _ _ h => h) (Or.inl ⟨?hw20085, ?hy20085⟩) (by assumption) ?rest20085
      case hi20085 => (simp only [List.getElem?_toArray, List.getElem?_cons_zero, List.getElem?_cons_succ]; rfl)
      case hw20085 => rfl
      case hy20085 => first | (intro wx hSw; go_simp; done) | (intro wx hSw; go_simp; with_reducible rfl)
      simp only [Act.put, List.setIfInBounds_toArray, List.set_cons_zero, List.set_cons_succ]
      refine wpAnyH_done (by kernel_rfl) ?_ _
      refine NoPanic.normal ?_
      skip
      exact unhide REST8 _ Wd.heap.size _ rfl (hide ((unhide G).call GE)) (hide ((unhide hC).call GE)) (hide ((unhide hR).call GE)) (hide ((unhide hT).call GE)) (hide ((unhide hX).call GE)) (hide ((unhide hY).call GE)) (hide RE)
  have REST7 := hide REST7
  clear hr7 CR CN hOK
  have b0 := Blk.new W2 #[.string ⟨#[116]⟩, .slice (some ⟨gc, 0, none⟩) 4 4, .int .i64 0, N0, .int .i64 0, .string S0, .int .i64 0, .int .i64 0, .int .i64 0, .string S0, N0, N0] 34
  replace b0 := b0.call (below_new (W2.alloc (.cells #[.string ⟨#[116]⟩, .slice (some ⟨gc, 0, none⟩) 4 4, .int .i64 0, N0, .int .i64 0, .string S0, .int .i64 0, .int .i64 0, .int .i64 0, .string S0, N0, N0] 34)) (.cells #[.int .i64 2, .int .i64 a, .int .i64 0, .string S0] 28))
  replace b0 := b0.call (below_new ((W2.alloc (.cells #[.string ⟨#[116]⟩, .slice (some ⟨gc, 0, none⟩) 4 4, .int .i64 0, N0, .int .i64 0, .string S0, .int .i64 0, .int .i64 0, .int .i64 0, .string S0, N0, N0] 34)).alloc (.cells #[.int .i64 2, .int .i64 a, .int .i64 0, .string S0] 28)) (.cells #[.int .i64 2, .int .i64 b, .int .i64 0, .string S0] 28))
  replace b0 := b0.call (below_new (((W2.alloc (.cells #[.string ⟨#[116]⟩, .slice (some ⟨gc, 0, none⟩) 4 4, .int .i64 0, N0, .int .i64 0, .string S0, .int .i64 0, .int .i64 0, .int .i64 0, .string S0, N0, N0] 34)).alloc (.cells #[.int .i64 2, .int .i64 a, .int .i64 0, .string S0] 28)).alloc (.cells #[.int .i64 2, .int .i64 b, .int .i64 0, .string S0] 28)) (.cells (rowC [(2, a, 0, S0), (2, b, 0, S0), Z4, Z4]).toArray 28))
  replace b0 := b0.call (below_new ((((W2.alloc (.cells #[.string ⟨#[116]⟩, .slice (some ⟨gc, 0, none⟩) 4 4, .int .i64 0, N0, .int .i64 0, .string S0, .int .i64 0, .int .i64 0, .int .i64 0, .string S0, N0, N0] 34)).alloc (.cells #[.int .i64 2, .int .i64 a, .int .i64 0, .string S0] 28)).alloc (.cells #[.int .i64 2, .int .i64 b, .int .i64 0, .string S0] 28)).alloc (.cells (rowC [(2, a, 0, S0), (2, b, 0, S0), Z4, Z4]).toArray 28)) (.cells #[.int .i64 6, .int .i64 7, .int .i64 8] 3))
  have b1 := Blk.new (W2.alloc (.cells #[.string ⟨#[116]⟩, .slice (some ⟨gc, 0, none⟩) 4 4, .int .i64 0, N0, .int .i64 0, .string S0, .int .i64 0, .int .i64 0, .int .i64 0, .string S0, N0, N0] 34)) #[.int .i64 2, .int .i64 a, .int .i64 0, .string S0] 28
  rw [World.size_alloc] at b1
  replace b1 := b1.call (below_new ((W2.alloc (.cells #[.string ⟨#[116]⟩, .slice (some ⟨gc, 0, none⟩) 4 4, .int .i64 0, N0, .int .i64 0, .string S0, .int .i64 0, .int .i64 0, .int .i64 0, .string S0, N0, N0] 34)).alloc (.cells #[.int .i64 2, .int .i64 a, .int .i64 0, .string S0] 28)) (.cells #[.int .i64 2, .int .i64 b, .int .i64 0, .string S0] 28))
  replace b1 := b1.call (below_new (((W2.alloc (.cells #[.string ⟨#[116]⟩, .slice (some ⟨gc, 0, none⟩) 4 4, .int .i64 0, N0, .int .i64 0, .string S0, .int .i64 0, .int .i64 0, .int .i64 0, .string S0, N0, N0] 34)).alloc (.cells #[.int .i64 2, .int .i64 a, .int .i64 0, .string S0] 28)).alloc (.cells #[.int .i64 2, .int .i64 b, .int .i64 0, .string S0] 28)) (.cells (rowC [(2, a, 0, S0), (2, b, 0, S0), Z4, Z4]).toArray 28))
  replace b1 := b1.call (below_new ((((W2.alloc (.cells #[.string ⟨#[116]⟩, .slice (some ⟨gc, 0, none⟩) 4 4, .int .i64 0, N0, .int .i64 0, .string S0, .int .i64 0, .int .i64 0, .int .i64 0, .string S0, N0, N0] 34)).alloc (.cells #[.int .i64 2, .int .i64 a, .int .i64 0, .string S0] 28)).alloc (.cells #[.int .i64 2, .int .i64 b, .int .i64 0, .string S0] 28)).alloc (.cells (rowC [(2, a, 0, S0), (2, b, 0, S0), Z4, Z4]).toArray 28)) (.cells #[.int .i64 6, .int .i64 7, .int .i64 8] 3))
  have b2 := Blk.new ((W2.alloc (.cells #[.string ⟨#[116]⟩, .slice (some ⟨gc, 0, none⟩) 4 4, .int .i64 0, N0, .int .i64 0, .string S0, .int .i64 0, .int .i64 0, .int .i64 0, .string S0, N0, N0] 34)).alloc (.cells #[.int .i64 2, .int .i64 a, .int .i64 0, .string S0] 28)) #[.int .i64 2, .int .i64 b, .int .i64 0, .string S0] 28
  rw [World.size_alloc, World.size_alloc] at b2
  replace b2 := b2.call (below_new (((W2.alloc (.cells #[.string ⟨#[116]⟩, .slice (some ⟨gc, 0, none⟩) 4 4, .int .i64 0, N0, .int .i64 0, .string S0, .int .i64 0, .int .i64 0, .int .i64 0, .string S0, N0, N0] 34)).alloc (.cells #[.int .i64 2, .int .i64 a, .int .i64 0, .string S0] 28)).alloc (.cells #[.int .i64 2, .int .i64 b, .int .i64 0, .string S0] 28)) (.cells (rowC [(2, a, 0, S0), (2, b, 0, S0), Z4, Z4]).toArray 28))
  replace b2 := b2.call (below_new ((((W2.alloc (.cells #[.string ⟨#[116]⟩, .slice (some ⟨gc, 0, none⟩) 4 4, .int .i64 0, N0, .int .i64 0, .string S0, .int .i64 0, .int .i64 0, .int .i64 0, .string S0, N0, N0] 34)).alloc (.cells #[.int .i64 2, .int .i64 a, .int .i64 0, .string S0] 28)).alloc (.cells #[.int .i64 2, .int .i64 b, .int .i64 0, .string S0] 28)).alloc (.cells (rowC [(2, a, 0, S0), (2, b, 0, S0), Z4, Z4]).toArray 28)) (.cells #[.int .i64 6, .int .i64 7, .int .i64 8] 3))
  have b3 := Blk.new (((W2.alloc (.cells #[.string ⟨#[116]⟩, .slice (some ⟨gc, 0, none⟩) 4 4, .int .i64 0, N0, .int .i64 0, .string S0, .int .i64 0, .int .i64 0, .int .i64 0, .string S0, N0, N0] 34)).alloc (.cells #[.int .i64 2, .int .i64 a, .int .i64 0, .string S0] 28)).alloc (.cells #[.int .i64 2, .int .i64 b, .int .i64 0, .string S0] 28)) (rowC [(2, a, 0, S0), (2, b, 0, S0), Z4, Z4]).toArray 28
  rw [World.size_alloc, World.size_alloc, World.size_alloc] at b3
  replace b3 := b3.call (below_new ((((W2.alloc (.cells #[.string ⟨#[116]⟩, .slice (some ⟨gc, 0, none⟩) 4 4, .int .i64 0, N0, .int .i64 0, .string S0, .int .i64 0, .int .i64 0, .int .i64 0, .string S0, N0, N0] 34)).alloc (.cells #[.int .i64 2, .int .i64 a, .int .i64 0, .string S0] 28)).alloc (.cells #[.int .i64 2, .int .i64 b, .int .i64 0, .string S0] 28)).alloc (.cells (rowC [(2, a, 0, S0), (2, b, 0, S0), Z4, Z4]).toArray 28)) (.cells #[.int .i64 6, .int .i64 7, .int .i64 8] 3))
  have g5 : Below W2.heap.size W2 (((((W2.alloc (.cells #[.string ⟨#[116]⟩, .slice (some ⟨gc, 0, none⟩) 4 4, .int .i64 0, N0, .int .i64 0, .string S0, .int .i64 0, .int .i64 0, .int .i64 0, .string S0, N0, N0] 34)).alloc (.cells #[.int .i64 2, .int .i64 a, .int .i64 0, .string S0] 28)).alloc (.cells #[.int .i64 2, .int .i64 b, .int .i64 0, .string S0] 28)).alloc (.cells (rowC [(2, a, 0, S0), (2, b, 0, S0), Z4, Z4]).toArray 28)).alloc (.cells #[.int .i64 6, .int .i64 7, .int .i64 8] 3)) := below_5 W2 _ _ _ _ _
  replace G := hide ((unhide G).call g5)
  replace hC := hide ((unhide hC).call g5)
  have hR := hide (row_of (vs := [(2, a, 0, S0), (2, b, 0, S0), Z4, Z4]) b3 rfl (by simp))
  replace b0 := hide b0
  replace b1 := hide b1
  replace b2 := hide b2
  clear b3 g5
  rcases hm with rfl | rfl | rfl
  · refine (unhide CW _).mono ?_
    rintro e W6 ⟨rfl, rfl⟩
    go_wp2_with fail
    exact unhide REST7 _ 6 _ _ _ _ _ rfl (by decide) G hC hR b0 b1 b2
  · refine (unhide CW _).mono ?_
    rintro e W6 ⟨rfl, rfl⟩
    go_wp2_with fail
    exact unhide REST7 _ 7 _ _ _ _ _ rfl (by decide) G hC hR b0 b1 b2
  · refine (unhide CW _).mono ?_
    rintro e W6 ⟨rfl, rfl⟩
    go_wp2_with fail
    exact unhide REST7 _ 8 _ _ _ _ _ rfl (by decide) G hC hR b0 b1 b2
end Go.Proofs.Ytphnpcidndmlnaa
