/-
  What the reference's functions Ten, Parts, order, texts, known, Order return.
-/
import Derived.Test.YtliefgkhpgigaaaD0
import Derived.Test.YtliefgkhpgigaaaF
namespace Go.Proofs.Ytliefgkhpgigaaa
open Go.RowKit
set_option linter.unusedSimpArgs false
set_option linter.unusedVariables false

set_option maxHeartbeats 400000 in
theorem ten_any (n : Int) (w : World) (h6 : n ≤ 6) :
    Calls Try.prog 83 #[.int .i64 n] w fun e w' => e = .returned (.int .i64 (pw n)) ∧ w' = w := by
  have HM : Hid (pw n = 10 ^ (n : Int).toNat) := by show pw n = _; unfold pw; rw [show min n 6 = n by omega]
  go_enter Try.func83, Try.ntmps83
  go_wp2
  go_loop [3, 4] (fun p i => ∃ k : Nat, (k : Int) ≤ max n 0 ∧ i = .int .i64 k ∧ p = .int .i64 (10 ^ k)) (fun _ i => (n - intOf i).toNat)
  case atStart => exact ⟨0, by omega, rfl, rfl⟩
  case round =>
    obtain ⟨k, hk, rfl, rfl⟩ := hrel
    by_cases hlt : (k : Int) < n
    · have ht := ten_bd k (by omega)
      have H2 : Hid ((10 : Int) ^ (k + 1) = 10 * 10 ^ k) := (Int.pow_succ 10 k).trans (Int.mul_comm _ _)
      generalize hp : (10 : Int) ^ k = p at *
      have HP : Hid ((10 : Int) ^ k = p) := hp
      clear hp
      go_wp2
      go_round
      case rel => exact ⟨k + 1, by omega, by go_num, by rw [H2.out]⟩
      case measure => simp [intOf]; omega
    · have HK : Hid ((10 : Int) ^ k = pw n) := by show _ = _; rw [HM.out, show k = (n : Int).toNat by omega]
      generalize (10 : Int) ^ k = p at *
      go_wp2
      go_ret
      exact ⟨ret_int HK.out, rfl⟩

set_option maxHeartbeats 400000 in
theorem rcmp_any (x y : Int) (w : World) :
    Calls Try.prog 88 #[.int .i64 x, .int .i64 y] w fun e w' => e = .returned (.int .i64 (cmpI x y)) ∧ w' = w := by
  unfold cmpI
  by_cases h1 : x < y
  · go_enter Try.func88, Try.ntmps88
    go_wp2
    go_ret
    exact ⟨by simp [h1], rfl⟩
  · by_cases h2 : y < x
    all_goals
      go_enter Try.func88, Try.ntmps88
      go_wp2
      go_ret
      exact ⟨by simp [h1, h2], rfl⟩

set_option maxHeartbeats 400000 in
theorem rtexts_any (x y : ByteArray) (w : World) :
    Calls Try.prog 89 #[.string x, .string y] w fun e w' => e = .returned (.int .i64 (cmpS x y)) ∧ w' = w := by
  unfold cmpS
  cases h1 : Op.bytesLess x.toList y.toList
  · cases h2 : (x.toList == y.toList)
    all_goals
      go_enter Try.func89, Try.ntmps89
      go_wp2
      go_ret
      exact ⟨by simp, rfl⟩
  · go_enter Try.func89, Try.ntmps89
    go_wp2
    go_ret
    exact ⟨by simp, rfl⟩

def fl (n s : Int) : Int := n / pw s
def fr (n s : Int) : Int := n % pw s * pw (6 - s)
theorem tdiv_neg {n p : Int} (hp : 0 < p) (h : n.tmod p < 0) : n.tdiv p - 1 = n / p ∧ n - (n / p) * p = n % p := by
  have h1 := Int.mul_tdiv_add_tmod n p
  have h2 := Int.mul_ediv_add_emod n p
  have h3 := (tmod_lt n p hp) h
  have hne : p ≠ 0 := by omega
  have h4 : p * (n.tdiv p) = p * (n / p + 1) := by rw [Int.mul_add, Int.mul_one]; omega
  have h5 := Int.eq_of_mul_eq_mul_left hne h4
  refine ⟨by omega, ?_⟩
  rw [Int.mul_comm]; omega
theorem tdiv_pos {n p : Int} (hp : 0 < p) (h : 0 ≤ n.tmod p) : n.tdiv p = n / p ∧ n - (n / p) * p = n % p := by
  have h1 := Int.mul_tdiv_add_tmod n p
  have h2 := Int.mul_ediv_add_emod n p
  have h3 := (tmod_ge n p hp) h
  have hne : p ≠ 0 := by omega
  have h4 : p * (n.tdiv p) = p * (n / p) := by omega
  have h5 := Int.eq_of_mul_eq_mul_left hne h4
  refine ⟨by omega, ?_⟩
  rw [Int.mul_comm]; omega
theorem fr_bd {n s : Int} (h0 : 0 ≤ s) (h6 : s ≤ 6) : 0 ≤ fr n s ∧ fr n s < 1000000 := by
  unfold fr
  have hp := pw_bd s
  have hq := pw_bd (6 - s)
  have h1 := Int.emod_nonneg n (show pw s ≠ 0 by omega)
  have h2 := Int.emod_lt_of_pos n (show 0 < pw s by omega)
  have hw := pw_whole h0 h6
  constructor
  · exact Int.mul_nonneg h1 (by omega)
  · rw [← hw]; exact Int.mul_lt_mul_of_pos_right h2 (by omega)
theorem fl_fr {n s : Int} (h0 : 0 ≤ s) (h6 : s ≤ 6) : mil n s = fl n s * 1000000 + fr n s := by
  unfold mil fl fr
  have h2 := Int.mul_ediv_add_emod n (pw s)
  rw [← pw_whole h0 h6, ← Int.mul_assoc, ← Int.add_mul, Int.mul_comm (n / pw s), h2]
theorem fl_bd {n s : Int} (hn : n.natAbs < 1000000000000000) : -1000000000000000 ≤ fl n s ∧ fl n s < 1000000000000000 := by
  unfold fl
  have hp := pw_bd s
  have h2 := Int.mul_ediv_add_emod n (pw s)
  have h1 := Int.emod_nonneg n (show pw s ≠ 0 by omega)
  have h3 := Int.emod_lt_of_pos n (show 0 < pw s by omega)
  constructor
  · apply Classical.byContradiction; intro hc
    have : pw s * (n / pw s) ≤ pw s * (-1000000000000001) := Int.mul_le_mul_of_nonneg_left (by omega) (by omega)
    omega
  · apply Classical.byContradiction; intro hc
    have : pw s * 1000000000000000 ≤ pw s * (n / pw s) := Int.mul_le_mul_of_nonneg_left (by omega) (by omega)
    omega
theorem tup_ii {a b c d : Int} (h1 : a = b) (h2 : c = d) : Ending.returned (.tuple #[.int .i64 a, .int .i64 c]) = .returned (.tuple #[.int .i64 b, .int .i64 d]) := by rw [h1, h2]

set_option maxHeartbeats 1600000 in
theorem parts_any (k n s : Int) (t : ByteArray) (w : World) (hn : n.natAbs < 1000000000000000) (h0 : 0 ≤ s) (h6 : s ≤ 6) :
    Calls Try.prog 75 #[V k n s t] w fun e w' => e = .returned (.tuple #[.int .i64 (fl n s), .int .i64 (fr n s)]) ∧ Below w.heap.size w w' := by
  have hp := pw_bd s
  have hq := pw_bd (6 - s)
  have hp0 : ¬ pw s = 0 := by omega
  have C1 := hide (fun W => ten_any s W h6)
  have C2 := hide (fun W => ten_any (6 - s) W (by omega))
  have hfb := fl_bd (s := s) hn
  have hff := fr_bd (n := n) h0 h6
  have hmod := Int.mul_ediv_add_emod n (pw s)
  have hm1 := Int.emod_nonneg n (show pw s ≠ 0 by omega)
  have hm2 := Int.emod_lt_of_pos n (show 0 < pw s by omega)
  have h6s : IntKind.i64.wrap (6 - s) = 6 - s := IntWalk.i64_in _ (by omega)
  have hA := tdiv_neg (n := n) (p := pw s) (by omega)
  have hB := tdiv_pos (n := n) (p := pw s) (by omega)
  have HE : Hid (n % pw s * pw (6 - s) = fr n s) := rfl
  have HFL : Hid (n / pw s = fl n s) := rfl
  have hfl : n / pw s = fl n s := rfl
  rw [hfl] at hA hB hmod
  clear hfl
  generalize fl n s = q at *
  generalize fr n s = f at *
  generalize pw s = p at *
  generalize pw (6 - s) = P at *
  have hqp : p * q = q * p := Int.mul_comm _ _
  rw [hqp] at hmod
  by_cases hr : n.tmod p < 0
  · obtain ⟨g1, g2⟩ := hA hr
    have hd : n.tdiv p = q + 1 := by omega
    have e1 : IntKind.i64.wrap (q * p) = q * p := IntWalk.i64_in _ (by omega)
    have e2 : IntKind.i64.wrap (n - q * p) = n % p := by rw [IntWalk.i64_in _ (by omega)]; exact g2
    have e3 : IntKind.i64.wrap (n % p * P) = f := by rw [IntWalk.i64_in _ (by rw [unhide HE]; omega)]; exact unhide HE
    clear hA hB HE HFL g1 g2 hqp hmod
    go_enter Try.func75, Try.ntmps75
    go_wp2_with (go_at_call 83; refine (unhide C1 _).mono ?_; rintro e w' ⟨rfl, rfl⟩)
    go_quiet ((go_at_call 83; exact Calls.quiet_of_same (unhide C2 _)))
    go_wp2
    go_ret2
    exact ⟨rfl, below_drewN ((Below.refl _ _).alloc (Nat.le_refl _) _) _⟩
  · obtain ⟨g1, g2⟩ := hB (by omega)
    have hd : n.tdiv p = q := by omega
    have e1 : IntKind.i64.wrap (q * p) = q * p := IntWalk.i64_in _ (by omega)
    have e2 : IntKind.i64.wrap (n - q * p) = n % p := by rw [IntWalk.i64_in _ (by omega)]; exact g2
    have e3 : IntKind.i64.wrap (n % p * P) = f := by rw [IntWalk.i64_in _ (by rw [unhide HE]; omega)]; exact unhide HE
    clear hA hB HE HFL g1 g2 hqp hmod
    go_enter Try.func75, Try.ntmps75
    go_wp2_with (go_at_call 83; refine (unhide C1 _).mono ?_; rintro e w' ⟨rfl, rfl⟩)
    go_quiet ((go_at_call 83; exact Calls.quiet_of_same (unhide C2 _)))
    go_wp2
    go_ret2
    exact ⟨rfl, below_drewN ((Below.refl _ _).alloc (Nat.le_refl _) _) _⟩

/-- how the reference holds two values against one another -/
def rordV (k n s : Int) (t : ByteArray) (k' n' s' : Int) (t' : ByteArray) : Int :=
  if cmpI k k' ≠ 0 then cmpI k k' else if k = 1 ∨ k = 2 then cmpI n n' else
  if k = 3 then (if cmpI (fl n s) (fl n' s') ≠ 0 then cmpI (fl n s) (fl n' s') else cmpI (fr n s) (fr n' s')) else cmpS t t'
def DecIn (k n s : Int) : Prop := k = 3 → n.natAbs < 1000000000000000 ∧ 0 ≤ s ∧ s ≤ 6

set_option maxHeartbeats 1600000 in
theorem rorder_any (k n s : Int) (t : ByteArray) (k' n' s' : Int) (t' : ByteArray) (w : World) (hA : DecIn k n s) (hB : DecIn k' n' s') :
    Calls Try.prog 82 #[V k n s t, V k' n' s' t'] w fun e w' => e = .returned (.int .i64 (rordV k n s t k' n' s' t')) ∧ Below w.heap.size w w' := by
  have C1 := hide (fun W => rcmp_any k k' W)
  unfold rordV
  by_cases h1 : cmpI k k' ≠ 0
  · rw [if_pos h1]
    have hB1 : (cmpI k k' != 0) = true := bne_iff_ne.2 h1
    clear h1 hA hB
    generalize cmpI k k' = c at *
    go_enter Try.func82, Try.ntmps82
    go_wp2_with (go_at_call 88; refine (unhide C1 _).mono ?_; rintro e w' ⟨rfl, rfl⟩)
    go_ret
    exact ⟨rfl, ((Below.refl _ _).alloc (Nat.le_refl _) _).alloc (by simp) _⟩
  · rw [if_neg h1]
    have hz : cmpI k k' = 0 := Classical.byContradiction h1
    have hkk : k' = k := by unfold cmpI at hz; split at hz; cases hz; split at hz; cases hz; omega
    subst hkk
    rw [hz] at C1
    clear hz h1
    by_cases h12 : k' = 1 ∨ k' = 2
    · rw [if_pos h12]
      have C2 := hide (fun W => rcmp_any n n' W)
      generalize cmpI n n' = c at *
      clear hA hB
      rcases h12 with rfl | rfl
      all_goals
        go_enter Try.func82, Try.ntmps82
        go_wp2_with fail
        refine (unhide C1 _).mono ?_
        rintro e w' ⟨rfl, rfl⟩
        go_wp2_with fail
        refine (unhide C2 _).mono ?_
        rintro e w' ⟨rfl, rfl⟩
        go_wp2_with fail
        go_ret
        exact ⟨rfl, ((Below.refl _ _).alloc (Nat.le_refl _) _).alloc (by simp) _⟩
    · rw [if_neg h12]
      by_cases h3 : k' = 3
      · subst h3
        rw [if_pos rfl]
        obtain ⟨a1, a2, a3⟩ := hA rfl
        obtain ⟨b1, b2, b3⟩ := hB rfl
        have P1 := hide (fun W => parts_any 3 n s t W a1 a2 a3)
        have P2 := hide (fun W => parts_any 3 n' s' t' W b1 b2 b3)
        clear hA hB a1 a2 a3 b1 b2 b3 h12
        generalize fl n s = x at *
        generalize fr n s = f at *
        generalize fl n' s' = y at *
        generalize fr n' s' = g at *
        have C2 := hide (fun W => rcmp_any x y W)
        have C3 := hide (fun W => rcmp_any f g W)
        generalize hc2 : cmpI x y = c2 at *
        generalize hc3 : cmpI f g = c3 at *
        clear hc2 hc3
        have hX := hide (four_more (four_alloc (.int .i64 3) (.int .i64 n) (.int .i64 s) (.string t) 28 w) (.cells #[.int .i64 3, .int .i64 n', .int .i64 s', .string t'] 28))
        have hY := four_alloc (.int .i64 3) (.int .i64 n') (.int .i64 s') (.string t') 28 (w.alloc (.cells #[.int .i64 3, .int .i64 n, .int .i64 s, .string t] 28))
        rw [World.size_alloc] at hY
        replace hY := hide hY
        have hL := hide (((Below.refl _ w).alloc (Nat.le_refl _) (.cells #[.int .i64 3, .int .i64 n, .int .i64 s, .string t] 28)).alloc (by simp) (.cells #[.int .i64 3, .int .i64 n', .int .i64 s', .string t'] 28))
        obtain ⟨c, hc, hcc⟩ : ∃ c, (if c2 ≠ 0 then c2 else c3) = c ∧ ((c2 ≠ 0 ∧ c = c2) ∨ (c2 = 0 ∧ c = c3)) := by
          by_cases h : c2 ≠ 0
          · exact ⟨c2, by rw [if_pos h], Or.inl ⟨h, rfl⟩⟩
          · exact ⟨c3, by rw [if_neg h], Or.inr ⟨Classical.byContradiction h, rfl⟩⟩
        rw [hc]
        clear hc
        rcases hcc with ⟨hb, rfl⟩ | ⟨hb, rfl⟩
        all_goals
          first | (have hbb : (c != 0) = true := bne_iff_ne.2 hb) | (have hbb : (c2 != 0) = false := by simpa using hb)
          clear hb
          go_enter Try.func82, Try.ntmps82
          go_wp2_with fail
          refine (unhide C1 _).mono ?_
          rintro e w' ⟨rfl, rfl⟩
          go_wp2_with fail
          refine (unhide P1 _).mono ?_
          rintro e w1 ⟨rfl, hb1⟩
          replace hX := hide (four_call (unhide hX) hb1)
          replace hY := hide (four_call (unhide hY) hb1)
          replace hL := hide ((unhide hL).trans (hb1.mono (unhide hL).size))
          clear hb1
          obtain ⟨-, y0, y1, y2, y3, -⟩ := unhide hY
          go_wp2_with fail
          refine (unhide P2 _).mono ?_
          rintro e w2 ⟨rfl, hb2⟩
          clear y0 y1 y2 y3
          replace hL := hide ((unhide hL).trans (hb2.mono (unhide hL).size))
          clear hb2
          go_wp2_with fail
          refine (unhide C2 _).mono ?_
          rintro e w' ⟨rfl, rfl⟩
          go_wp2_with fail
        · go_ret
          exact ⟨rfl, unhide hL⟩
        · refine (unhide C3 _).mono ?_
          rintro e w' ⟨rfl, rfl⟩
          go_wp2_with fail
          go_ret
          exact ⟨rfl, unhide hL⟩
      · rw [if_neg h3]
        have C2 := hide (fun W => rtexts_any t t' W)
        generalize cmpS t t' = c at *
        have g1 : (k' == 1) = false := by simp; omega
        have g2 : (k' == 2) = false := by simp; omega
        have g3 : (k' == 3) = false := by simpa using h3
        clear hA hB h12 h3
        go_enter Try.func82, Try.ntmps82
        go_wp2_with fail
        refine (unhide C1 _).mono ?_
        rintro e w' ⟨rfl, rfl⟩
        go_wp2_with fail
        refine (unhide C2 _).mono ?_
        rintro e w' ⟨rfl, rfl⟩
        go_wp2_with fail
        go_ret
        exact ⟨rfl, ((Below.refl _ _).alloc (Nat.le_refl _) _).alloc (by simp) _⟩
end Go.Proofs.Ytliefgkhpgigaaa
