/-
  The reference's Right, for texts as long as may be.
-/
import Derived.Test.YtjmmfgmmmdbenaaCXw
import Derived.Test.YtjmmfgmmmdbenaaCN3
namespace Go.Proofs.Ytjmmfgmmmdbenaa
open Go.RowKit
set_option linter.unusedSimpArgs false
set_option linter.unusedVariables false

set_option maxRecDepth 100000 in
set_option maxHeartbeats 8000000 in
theorem rrightWd_loop {r0 r1 r2 r3 r4 lp r5 : Code} (hc : Try.f28.body = some (.seq r0 (.seq r1 (.seq r2 (.seq r3 (.seq (.seq r4 (.block 0 lp)) r5)))))) (w : World) (k i t : Int) (m : Bool) (p : Option Addr) (cap : Nat) (ws : List Wt) (x : ByteArray) (hl : ws.length ≤ 1000) (HFW : Hid (∀ y ∈ ws, y.k.size ≤ 9223372036854775807 ∧ y.v.size ≤ 9223372036854775807)) (RC : Bool) (HRC : Hid (RC = true ↔ ∀ y ∈ ws, rightW y = true)) (ac : Act) (b : Nat) (X : World) (ha : ac = ⟨#[ac.tmps.getD 0 undef, .pointer (some ⟨b, 0, none⟩), .bool false, ac.tmps.getD 3 undef, .int .i64 0, ac.tmps.getD 5 undef, ac.tmps.getD 6 undef, ac.tmps.getD 7 undef, ac.tmps.getD 8 undef, ac.tmps.getD 9 undef, ac.tmps.getD 10 undef, ac.tmps.getD 11 undef, ac.tmps.getD 12 undef, ac.tmps.getD 13 undef, ac.tmps.getD 14 undef, ac.tmps.getD 15 undef, ac.tmps.getD 16 undef, ac.tmps.getD 17 undef, ac.tmps.getD 18 undef, ac.tmps.getD 19 undef, ac.tmps.getD 20 undef, ac.tmps.getD 21 undef, ac.tmps.getD 22 undef, ac.tmps.getD 23 undef, ac.tmps.getD 24 undef, ac.tmps.getD 25 undef, ac.tmps.getD 26 undef, ac.tmps.getD 27 undef, ac.tmps.getD 28 undef, ac.tmps.getD 29 undef, ac.tmps.getD 30 undef, ac.tmps.getD 31 undef, ac.tmps.getD 32 undef, ac.tmps.getD 33 undef, ac.tmps.getD 34 undef, ac.tmps.getD 35 undef, ac.tmps.getD 36 undef, ac.tmps.getD 37 undef, ac.tmps.getD 38 undef, ac.tmps.getD 39 undef, ac.tmps.getD 40 undef, ac.tmps.getD 41 undef, ac.tmps.getD 42 undef, ac.tmps.getD 43 undef, ac.tmps.getD 44 undef, ac.tmps.getD 45 undef, ac.tmps.getD 46 undef, ac.tmps.getD 47 undef, ac.tmps.getD 48 undef, ac.tmps.getD 49 undef, ac.tmps.getD 50 undef, ac.tmps.getD 51 undef, ac.tmps.getD 52 undef, ac.tmps.getD 53 undef, ac.tmps.getD 54 undef, ac.tmps.getD 55 undef, ac.tmps.getD 56 undef, ac.tmps.getD 57 undef, ac.tmps.getD 58 undef, ac.tmps.getD 59 undef, ac.tmps.getD 60 undef, ac.tmps.getD 61 undef, ac.tmps.getD 62 undef, ac.tmps.getD 63 undef, ac.tmps.getD 64 undef, ac.tmps.getD 65 undef, ac.tmps.getD 66 undef, ac.tmps.getD 67 undef, ac.tmps.getD 68 undef, ac.tmps.getD 69 undef, ac.tmps.getD 70 undef, ac.tmps.getD 71 undef, ac.tmps.getD 72 undef, ac.tmps.getD 73 undef, ac.tmps.getD 74 undef, ac.tmps.getD 75 undef, ac.tmps.getD 76 undef, ac.tmps.getD 77 undef, ac.tmps.getD 78 undef, ac.tmps.getD 79 undef, ac.tmps.getD 80 undef, ac.tmps.getD 81 undef, ac.tmps.getD 82 undef, ac.tmps.getD 83 undef, ac.tmps.getD 84 undef, ac.tmps.getD 85 undef, ac.tmps.getD 86 undef, ac.tmps.getD 87 undef, ac.tmps.getD 88 undef, ac.tmps.getD 89 undef, ac.tmps.getD 90 undef, ac.tmps.getD 91 undef, ac.tmps.getD 92 undef, ac.tmps.getD 93 undef, ac.tmps.getD 94 undef, ac.tmps.getD 95 undef, ac.tmps.getD 96 undef, ac.tmps.getD 97 undef, ac.tmps.getD 98 undef, ac.tmps.getD 99 undef, ac.tmps.getD 100 undef, ac.tmps.getD 101 undef, ac.tmps.getD 102 undef], []⟩) (HC : Hid (Blk b #[.int .i64 k, .int .i64 i, .int .i64 t, .bool m, .slice p ws.length cap, .string x] 26 X)) (HW : Hid (WsV p ws X)) (HB : Hid (Below w.heap.size w X)) (K : Act → World → Prop) (hK : ∀ a W, r5.wp Try.prog (bodyPost Try.prog Try.f28 (fun e w' => e = .returned (.bool RC) ∧ Below w.heap.size w w')) a W → K a W) :
    lp.wp Try.prog (Exit.inBlock 0 (Exit.then K (bodyPost Try.prog Try.f28 (fun e w' => e = .returned (.bool RC) ∧ Below w.heap.size w w')))) ac X := by
  obtain ⟨u, rfl⟩ : ∃ u : Nat → Value, ac = ⟨#[u 0, .pointer (some ⟨b, 0, none⟩), .bool false, u 3, .int .i64 0, u 5, u 6, u 7, u 8, u 9, u 10, u 11, u 12, u 13, u 14, u 15, u 16, u 17, u 18, u 19, u 20, u 21, u 22, u 23, u 24, u 25, u 26, u 27, u 28, u 29, u 30, u 31, u 32, u 33, u 34, u 35, u 36, u 37, u 38, u 39, u 40, u 41, u 42, u 43, u 44, u 45, u 46, u 47, u 48, u 49, u 50, u 51, u 52, u 53, u 54, u 55, u 56, u 57, u 58, u 59, u 60, u 61, u 62, u 63, u 64, u 65, u 66, u 67, u 68, u 69, u 70, u 71, u 72, u 73, u 74, u 75, u 76, u 77, u 78, u 79, u 80, u 81, u 82, u 83, u 84, u 85, u 86, u 87, u 88, u 89, u 90, u 91, u 92, u 93, u 94, u 95, u 96, u 97, u 98, u 99, u 100, u 101, u 102], []⟩ := ⟨fun i => ac.tmps.getD i undef, ha⟩
  clear ha
  unfold Try.f28 at hc
  cases hc
  dsimp only
  go_loopw [4] (fun j wr => ∃ n : Nat, n ≤ ws.length ∧ j = .int .i64 (n : Int) ∧ Hid (Blk b #[.int .i64 k, .int .i64 i, .int .i64 t, .bool m, .slice p ws.length cap, .string x] 26 wr) ∧ Hid (WsV p ws wr) ∧ Hid (Below w.heap.size w wr) ∧ Hid (∀ q (h : q < ws.length), q < n → rightW ws[q] = true))
    (fun j wr => ws.length - (intOf j).toNat)
  case atStart => exact ⟨0, Nat.zero_le _, rfl, HC, HW, HB, fun q h h2 => by omega⟩
  case round =>
    clear HC HW HB
    obtain ⟨n, hn, rfl, HC, HW, HB, HK⟩ := hrel
    have y4_ := (unhide HC).cell 4
    have yl_ := (unhide HC).lt
    simp at y4_
    by_cases hlt : n < ws.length
    · obtain ⟨g, o2, hp, hat⟩ := unhide HW
      obtain rfl := hp (by omega)
      obtain ⟨⟨e0_, e1_, e2_⟩, _⟩ := hat n hlt
      have hwk : IntKind.i64.wrap ((n : Int) * 3) = (n : Int) * 3 := IntWalk.i64_in _ (by omega)
      have hw := unhide HFW ws[n] (List.getElem_mem hlt)
      have HR := hide (show rightW ws[n] = true → rightW ws[n] = true from fun h => h)
      have HK1 := hide (show rightW ws[n] = true → ∀ q (h : q < ws.length), q < n + 1 → rightW ws[q] = true from fun e q h h2 => by
        by_cases hq : q < n
        · exact unhide HK q h hq
        · obtain rfl : q = n := by omega
          exact e)
      have HN := hide (show rightW ws[n] ≠ true → RC = false from fun h => by
        cases hr : RC
        · rfl
        · exact absurd ((unhide HRC).1 hr ws[n] (List.getElem_mem hlt)) h)
      clear hp hat HK HR
      generalize ws[n] = y at *
      obtain ⟨kk, vv, gg⟩ := y
      simp only at hw e0_ e1_ e2_
      have hbn := below_new wr (.cells #[.string kk, .string vv, .bool gg] 40)
      have HC2 := hide ((unhide HC).below hbn)
      have HW2 := hide ((unhide HW).below hbn)
      have HB2 := hide (Below.onto (unhide HB) hbn)
      clear hbn HC HW HB
      by_cases h1 : kk.size < 1
      · have h1i : (kk.size : Int) < 1 := by omega
        go_wp2
        go_ret
        exact ⟨retB ((unhide HN) (by intro h; have := rightW_of h; simp only at this; omega)).symm, unhide HB2⟩
      have h1i : ¬ (kk.size : Int) < 1 := by omega
      by_cases h2 : 300 < kk.size
      · have h2i : (300 : Int) < kk.size := by omega
        go_wp2
        go_ret
        exact ⟨retB ((unhide HN) (by intro h; have := rightW_of h; simp only at this; omega)).symm, unhide HB2⟩
      have h2i : ¬ (300 : Int) < kk.size := by omega
      by_cases h3 : 4000 < vv.size
      · have h3i : (4000 : Int) < vv.size := by omega
        go_wp2
        go_ret
        exact ⟨retB ((unhide HN) (by intro h; have := rightW_of h; simp only at this; omega)).symm, unhide HB2⟩
      have h3i : ¬ (4000 : Int) < vv.size := by omega
      cases gg
      · go_wp2
        go_roundw
        case rel => exact ⟨n + 1, by omega, by go_num, HC2, HW2, HB2, hide (unhide HK1 (decide_eq_true ⟨by show 1 ≤ kk.size; omega, by show kk.size ≤ 300; omega, by show vv.size ≤ 4000; omega, fun h => by cases h⟩))⟩
        case measure => simp [intOf] <;> omega
      · by_cases h4 : vv.size = 0
        · have h4e : vv = ByteArray.empty := size0 h4
          subst h4e
          go_wp2
          go_roundw
          case rel => exact ⟨n + 1, by omega, by go_num, HC2, HW2, HB2, hide (unhide HK1 (decide_eq_true ⟨by show 1 ≤ kk.size; omega, by show kk.size ≤ 300; omega, by show ByteArray.empty.size ≤ 4000; decide, fun _ => h4⟩))⟩
          case measure => simp [intOf] <;> omega
        · have h4e : ¬ vv = ByteArray.empty := fun e => h4 (by rw [e]; rfl)
          have h4n := nil_iff vv
          rw [decide_eq_false h4] at h4n
          have h4l := ba_ne_list h4e
          go_wp2
          go_ret
          exact ⟨retB ((unhide HN) (by intro h; have := rightW_of h; simp only at this; exact h4 (this.2.2.2 trivial))).symm, unhide HB2⟩
    · obtain rfl : n = ws.length := by omega
      go_wp2
      go_ret
      refine ⟨retB ?_, unhide HB⟩
      refine ((unhide HRC).2 fun y hy => ?_).symm
      obtain ⟨q, hq, rfl⟩ := List.getElem_of_mem hy
      exact unhide HK q hq hq
set_option maxRecDepth 100000 in
set_option maxHeartbeats 16000000 in
theorem rrightWd_any (c : Cm) (v : Value) (w : World) (hv : CmV v c w) (hf : FineW c) : Calls Try.prog 28 #[v] w fun e w' => e = .returned (.bool (rightC c)) ∧ Below w.heap.size w w' := by
  obtain ⟨p, cap, rfl, hw⟩ := hv
  obtain ⟨k, i, t, m, ws, x⟩ := c
  have hfl := hf.len
  have hft := hf.text
  have HFW := hide hf.ws
  simp only at *
  have hb0 := below_new w (.cells #[.int .i64 k, .int .i64 i, .int .i64 t, .bool m, .slice p ws.length cap, .string x] 26)
  have HC := hide (Blk.new w #[.int .i64 k, .int .i64 i, .int .i64 t, .bool m, .slice p ws.length cap, .string x] 26)
  have HWV := hide (hw.below hb0)
  have HB0 := hide hb0
  obtain ⟨RC, hRC⟩ : ∃ RC, rightC ⟨k, i, t, m, ws, x⟩ = RC := ⟨_, rfl⟩
  rw [hRC]
  have HRC : Hid (RC = true ↔ ((0 ≤ k ∧ k ≤ 5 ∧ 0 ≤ i ∧ 0 ≤ t) ∧ (doesB k = false → m = false ∧ ws.length = 0) ∧ (k ≠ 5 → x.size = 0) ∧ x.size ≤ 40 ∧ ws.length ≤ 1000 ∧ ∀ w ∈ ws, rightW w = true)) := by
    show _ ↔ _
    rw [← hRC]; simp only [rightC, decide_eq_true_eq]
  have HNO := hide (show ¬ ((0 ≤ k ∧ k ≤ 5 ∧ 0 ≤ i ∧ 0 ≤ t) ∧ (doesB k = false → m = false ∧ ws.length = 0) ∧ (k ≠ 5 → x.size = 0) ∧ x.size ≤ 40 ∧ ws.length ≤ 1000) → RC = false from fun h => by
    cases hr : RC
    · rfl
    · obtain ⟨a1, a2, a3, a4, a5, _⟩ := (unhide HRC).1 hr
      exact absurd ⟨a1, a2, a3, a4, a5⟩ h)
  clear hf hw hb0 hRC
  by_cases hA : k < 0
  · go_enter Try.func28, Try.ntmps28
    go_wp2
    go_ret
    exact ⟨retB ((unhide HNO) (by intro h; omega)).symm, unhide HB0⟩
  by_cases hB : 5 < k
  · go_enter Try.func28, Try.ntmps28
    go_wp2
    go_ret
    exact ⟨retB ((unhide HNO) (by intro h; omega)).symm, unhide HB0⟩
  by_cases hC : i < 0
  · go_enter Try.func28, Try.ntmps28
    go_wp2
    go_ret
    exact ⟨retB ((unhide HNO) (by intro h; omega)).symm, unhide HB0⟩
  by_cases hD : t < 0
  · go_enter Try.func28, Try.ntmps28
    go_wp2
    go_ret
    exact ⟨retB ((unhide HNO) (by intro h; omega)).symm, unhide HB0⟩
  by_cases hE : (1000 : Int) < ws.length
  · go_enter Try.func28, Try.ntmps28
    go_wp2
    go_ret
    exact ⟨retB ((unhide HNO) (by intro h; omega)).symm, unhide HB0⟩
  by_cases hF : (40 : Int) < x.size
  · go_enter Try.func28, Try.ntmps28
    go_wp2
    go_ret
    exact ⟨retB ((unhide HNO) (by intro h; omega)).symm, unhide HB0⟩
  have hln : ws.length ≤ 1000 := by omega
  have hxn : x.size ≤ 40 := by omega
  by_cases hk2 : k = 2
  · subst hk2
    by_cases hx0 : x.size = 0
    · have hxe : x = ByteArray.empty := size0 hx0
      subst hxe
      have HR2 : Hid (RC = true ↔ ∀ y ∈ ws, rightW y = true) := by
        refine Iff.intro (fun h => ((unhide HRC).1 h).2.2.2.2.2) (fun h => (unhide HRC).2 ⟨⟨by omega, by omega, by omega, by omega⟩, fun h => absurd h (by decide), fun _ => rfl, by omega, by omega, h⟩)
      clear HRC HNO
      go_enter Try.func28, Try.ntmps28
      go_wp2
      rename_i hrest
      exact rrightWd_loop rfl w 2 i t m p cap ws ByteArray.empty hln HFW RC HR2 _ w.heap.size _ (by kernel_rfl) HC HWV HB0 _ hrest
    · have hxe : ¬ x = ByteArray.empty := fun e => hx0 (by rw [e]; rfl)
      have hxl := ba_ne_list hxe
      have hxn2 := nil_iff x
      rw [decide_eq_false hx0] at hxn2
      go_enter Try.func28, Try.ntmps28
      go_wp2
      go_ret
      exact ⟨retB ((unhide HNO) (by intro h; exact hx0 (h.2.2.1 (by decide)))).symm, unhide HB0⟩
  by_cases hk3 : k = 3
  · subst hk3
    by_cases hx0 : x.size = 0
    · have hxe : x = ByteArray.empty := size0 hx0
      subst hxe
      have HR2 : Hid (RC = true ↔ ∀ y ∈ ws, rightW y = true) := by
        refine Iff.intro (fun h => ((unhide HRC).1 h).2.2.2.2.2) (fun h => (unhide HRC).2 ⟨⟨by omega, by omega, by omega, by omega⟩, fun h => absurd h (by decide), fun _ => rfl, by omega, by omega, h⟩)
      clear HRC HNO
      go_enter Try.func28, Try.ntmps28
      go_wp2
      rename_i hrest
      exact rrightWd_loop rfl w 3 i t m p cap ws ByteArray.empty hln HFW RC HR2 _ w.heap.size _ (by kernel_rfl) HC HWV HB0 _ hrest
    · have hxe : ¬ x = ByteArray.empty := fun e => hx0 (by rw [e]; rfl)
      have hxl := ba_ne_list hxe
      have hxn2 := nil_iff x
      rw [decide_eq_false hx0] at hxn2
      go_enter Try.func28, Try.ntmps28
      go_wp2
      go_ret
      exact ⟨retB ((unhide HNO) (by intro h; exact hx0 (h.2.2.1 (by decide)))).symm, unhide HB0⟩
  have q2 : (k == 2) = false := by rw [beq_eq_false_iff_ne]; exact hk2
  have q3 : (k == 3) = false := by rw [beq_eq_false_iff_ne]; exact hk3
  have HD : Hid (doesB k = false) := by show _ = _; unfold doesB; exact decide_eq_false (by omega)
  cases hm : m
  case true =>
    subst hm
    go_enter Try.func28, Try.ntmps28
    go_wp2
    go_ret
    exact ⟨retB ((unhide HNO) (by intro h; have := (h.2.1 (unhide HD)).1; cases this)).symm, unhide HB0⟩
  case false =>
    subst hm
    by_cases hl0 : ws.length = 0
    case neg =>
      have hl1 : (0 : Int) < ws.length := by omega
      go_enter Try.func28, Try.ntmps28
      go_wp2
      go_ret
      exact ⟨retB ((unhide HNO) (by intro h; exact hl0 (h.2.1 (unhide HD)).2)).symm, unhide HB0⟩
    case pos =>
      obtain rfl : ws = [] := List.length_eq_zero_iff.1 hl0
      simp only [List.length_nil] at *
      have HL0 : Hid (([] : List Wt).length = 0) := rfl
      clear hl0
      by_cases hk5 : k = 5
      · subst hk5
        have HR2 : Hid (RC = true ↔ ∀ y ∈ ([] : List Wt), rightW y = true) := by
          refine Iff.intro (fun h => ((unhide HRC).1 h).2.2.2.2.2) (fun h => (unhide HRC).2 ⟨⟨by omega, by omega, by omega, by omega⟩, fun _ => by first | exact ⟨rfl, rfl⟩ | exact ⟨rfl, trivial⟩ | trivial | simp, fun h => absurd rfl h, by omega, by omega, h⟩)
        clear HRC HNO
        go_enter Try.func28, Try.ntmps28
        go_wp2
        rename_i hrest
        exact rrightWd_loop rfl w 5 i t false p cap [] x hln HFW RC HR2 _ w.heap.size _ (by kernel_rfl) HC HWV HB0 _ hrest
      · have q5 : (k != 5) = true := by simpa using hk5
        by_cases hx0 : x.size = 0
        · have hxe : x = ByteArray.empty := size0 hx0
          subst hxe
          have HR2 : Hid (RC = true ↔ ∀ y ∈ ([] : List Wt), rightW y = true) := by
            refine Iff.intro (fun h => ((unhide HRC).1 h).2.2.2.2.2) (fun h => (unhide HRC).2 ⟨⟨by omega, by omega, by omega, by omega⟩, fun _ => by first | exact ⟨rfl, rfl⟩ | exact ⟨rfl, trivial⟩ | trivial | simp, fun _ => rfl, by omega, by omega, h⟩)
          clear HRC HNO
          go_enter Try.func28, Try.ntmps28
          go_wp2
          rename_i hrest
          exact rrightWd_loop rfl w k i t false p cap [] ByteArray.empty hln HFW RC HR2 _ w.heap.size _ (by kernel_rfl) HC HWV HB0 _ hrest
        · have hxe : ¬ x = ByteArray.empty := fun e => hx0 (by rw [e]; rfl)
          have hxl := ba_ne_list hxe
          have hxn2 := nil_iff x
          rw [decide_eq_false hx0] at hxn2
          go_enter Try.func28, Try.ntmps28
          go_wp2
          go_ret
          exact ⟨retB ((unhide HNO) (by intro h; exact hx0 (h.2.2.1 hk5))).symm, unhide HB0⟩
end Go.Proofs.Ytjmmfgmmmdbenaa
