/-
  Plain mathematics: keys are in the order of their values, and are read as they were, whatever is behind.
-/
import Derived.Test.YtbpjejjbgdikdaaT1
import Derived.Test.YtbpjejjbgdikdaaU0
import Derived.Test.YtbpjejjbgdikdaaS14
import Derived.Test.YtbpjejjbgdikdaaS12
namespace Go.Proofs.Ytbpjejjbgdikdaa
open Go.RowKit
set_option linter.unusedSimpArgs false
set_option linter.unusedVariables false

theorem ok_dec_fl {n s : Int} {t : ByteArray} (h : Ok 3 n s t) : -1000000000000000 < fl n s ∧ fl n s < 1000000000000000 ∧ 0 ≤ fr n s ∧ fr n s < 1000000 := by
  have hs := ok_scale h
  have hn := (rd_is (ok_rd h)).2
  have hf := fr_bd (n := n) hs.1 hs.2
  refine ⟨?_, (fl_bd hn).2, hf.1, hf.2⟩
  unfold fl
  have hp := pw_bd s
  have h2 := Int.mul_ediv_add_emod n (pw s)
  have h3 := Int.emod_lt_of_pos n (show 0 < pw s by omega)
  have h1 := Int.emod_nonneg n (show pw s ≠ 0 by omega)
  rcases Int.lt_or_le (-1000000000000000) (n / pw s) with g | g
  · exact g
  · exfalso
    by_cases hp1 : pw s = 1
    · rw [hp1] at g; omega
    · have : pw s * (n / pw s) ≤ 2 * (n / pw s) := Int.mul_le_mul_of_nonpos_right (by omega) (by omega)
      omega

theorem key0_is (n s : Int) (t : ByteArray) : nb (keyN 0 n s t) = [0] := by simp [keyN]
theorem key1_is (n s : Int) (t : ByteArray) : nb (keyN 1 n s t) = [1, u8 n] := by simp [keyN]
theorem key2_is (n s : Int) (t : ByteArray) : nb (keyN 2 n s t) = 2 :: nb (be 8 (n + 9223372036854775808)) := by simp [keyN, beK8]
theorem key3_is (n s : Int) (t : ByteArray) : nb (keyN 3 n s t) = 3 :: (nb (be 8 (fl n s + 9223372036854775808)) ++ nb (be 4 (fr n s))) := by simp [keyN, beK8, beK4]
theorem key4_is (n s : Int) (t : ByteArray) : nb (keyN 4 n s t) = 4 :: txt t.data.toList := by
  have : nb (keyN 4 n s t) = 4 :: nb (markL t) := rfl
  rw [this, nb_markL]
theorem key5_is (n s : Int) (t : ByteArray) : nb (keyN 5 n s t) = 5 :: txt t.data.toList := by
  have : nb (keyN 5 n s t) = 5 :: nb (markL t) := rfl
  rw [this, nb_markL]
theorem key_head (k n s : Int) (t : ByteArray) : nb (keyN k n s t) = u8 k :: nb ((keyN k n s t).tail) := by simp [keyN]

theorem wrapmod (x : Int) (h0 : 0 ≤ x) (h1 : x < 18446744073709551616) : x % 256 ^ 8 = x := Int.emod_eq_of_lt h0 (by omega)
theorem wrapmod4 (x : Int) (h0 : 0 ≤ x) (h1 : x < 4294967296) : x % 256 ^ 4 = x := Int.emod_eq_of_lt h0 (by omega)
/-- keys with something behind are in the order of their values -/
theorem key_less {k n s : Int} {t : ByteArray} {k' n' s' : Int} {t' : ByteArray} (h : Ok k n s t) (h' : Ok k' n' s' t') (p q : List UInt8) :
    Op.bytesLess (nb (keyN k n s t) ++ p) (nb (keyN k' n' s' t') ++ q) = if rordV k n s t k' n' s' t' < 0 then true else if rordV k n s t k' n' s' t' = 0 then Op.bytesLess p q else false := by
  by_cases hk : k = k'
  · subst hk
    have hd : k = 0 ∨ k = 1 ∨ k = 2 ∨ k = 3 ∨ k = 4 ∨ k = 5 := by have := h.1; omega
    rcases hd with rfl | rfl | rfl | rfl | rfl | rfl
    · rw [key0_is, key0_is]
      have e : rordV 0 n s t 0 n' s' t' = 0 := by
        unfold rordV; rw [cmpI_same, if_neg (by simp), if_neg (by simp), if_neg (by decide), ok_empty h (by decide), ok_empty h' (by decide), cmpS_same]
      rw [e]; simp [Op.bytesLess]
    · rw [key1_is, key1_is]
      have e : rordV 1 n s t 1 n' s' t' = cmpI n n' := by unfold rordV; rw [cmpI_same, if_neg (by simp), if_pos (by simp)]
      have hn : n = 0 ∨ n = 1 := by have := h.2.1; unfold rightB at this; simp at this; omega
      have hn' : n' = 0 ∨ n' = 1 := by have := h'.2.1; unfold rightB at this; simp at this; omega
      rw [e]
      rcases hn with rfl | rfl <;> rcases hn' with rfl | rfl <;> simp [Op.bytesLess, cmpI]
    · rw [key2_is, key2_is]
      have e : rordV 2 n s t 2 n' s' t' = cmpI n n' := by unfold rordV; rw [cmpI_same, if_neg (by simp), if_pos (by simp)]
      have b := ok_64 h
      have b' := ok_64 h'
      unfold Is64 at b b'
      rw [e]
      simp only [List.cons_append, Op.bytesLess, UInt8.lt_irrefl, decide_false, Bool.false_or, beq_self_eq_true, Bool.true_and]
      rw [be_less, wrapmod _ (by omega) (by omega), wrapmod _ (by omega) (by omega)]
      rcases cmpI_cases n n' with ⟨g1, g2⟩ | ⟨g1, g2⟩ | ⟨g1, g2⟩
      · rw [if_pos (by omega), if_pos (by omega)]
      · rw [if_neg (by omega), if_pos (by omega), if_neg (by omega), if_pos (by omega)]
      · rw [if_neg (by omega), if_neg (by omega), if_neg (by omega), if_neg (by omega)]
    · rw [key3_is, key3_is]
      have e : rordV 3 n s t 3 n' s' t' = if cmpI (fl n s) (fl n' s') ≠ 0 then cmpI (fl n s) (fl n' s') else cmpI (fr n s) (fr n' s') := by unfold rordV; rw [cmpI_same, if_neg (by simp), if_neg (by simp), if_pos rfl]
      obtain ⟨b1, b2, b3, b4⟩ := ok_dec_fl h
      obtain ⟨c1, c2, c3, c4⟩ := ok_dec_fl h'
      rw [e]
      simp only [List.cons_append, List.append_assoc, Op.bytesLess, UInt8.lt_irrefl, decide_false, Bool.false_or, beq_self_eq_true, Bool.true_and]
      rw [be_less, be_less, wrapmod _ (by omega) (by omega), wrapmod _ (by omega) (by omega), wrapmod4 _ (by omega) (by omega), wrapmod4 _ (by omega) (by omega)]
      rcases cmpI_cases (fl n s) (fl n' s') with ⟨g1, g2⟩ | ⟨g1, g2⟩ | ⟨g1, g2⟩
      · rw [if_pos (by omega), g1]; simp
      · rw [if_neg (by omega), if_pos (by omega), g1]
        rcases cmpI_cases (fr n s) (fr n' s') with ⟨i1, i2⟩ | ⟨i1, i2⟩ | ⟨i1, i2⟩
        · rw [if_pos (by omega), i1]; simp
        · rw [if_neg (by omega), if_pos (by omega), i1]; simp
        · rw [if_neg (by omega), if_neg (by omega), i1]; simp
      · rw [if_neg (by omega), if_neg (by omega), g1]; simp
    all_goals
      first | rw [key4_is, key4_is] | rw [key5_is, key5_is]
      simp only [List.cons_append, Op.bytesLess, UInt8.lt_irrefl, decide_false, Bool.false_or, beq_self_eq_true, Bool.true_and]
      rw [txt_less]
      first
        | rw [show rordV 4 n s t 4 n' s' t' = cmpS t t' by unfold rordV; rw [cmpI_same, if_neg (by simp), if_neg (by simp), if_neg (by decide)]]
        | rw [show rordV 5 n s t 5 n' s' t' = cmpS t t' by unfold rordV; rw [cmpI_same, if_neg (by simp), if_neg (by simp), if_neg (by decide)]]
      rcases cmpS_cases t t' with ⟨g1, g2⟩ | ⟨g1, g2, g3⟩ | ⟨g1, g2, g3⟩
      · rw [ByteArray.toList_eq, ByteArray.toList_eq] at g2
        have hne : t.data.toList ≠ t'.data.toList := by intro e; rw [e, bytesLess_self] at g2; cases g2
        rw [if_neg hne, g1, g2]; rfl
      · rw [ByteArray.toList_eq, ByteArray.toList_eq, beq_iff_eq] at g3
        rw [if_pos g3, g1]; rfl
      · rw [ByteArray.toList_eq, ByteArray.toList_eq] at g2 g3
        rw [if_neg (by simpa using g3), g1, g2]; rfl
  · have e : rordV k n s t k' n' s' t' = cmpI k k' := by
      unfold rordV; rw [if_pos (by rw [Ne, cmpI_eq]; exact hk)]
    rw [key_head k, key_head k', e]
    have a := h.1
    have b := h'.1
    have hlt := u8_lt (a := k) (b := k') (by omega) (by omega)
    have heq := u8_eq (a := k) (b := k') (by omega) (by omega)
    have h2 : (u8 k == u8 k') = false := beq_eq_false_iff_ne.2 (fun e => hk (heq.1 e))
    simp only [List.cons_append, Op.bytesLess, h2, Bool.false_and, Bool.or_false]
    rcases cmpI_cases k k' with ⟨g1, g2⟩ | ⟨g1, g2⟩ | ⟨g1, g2⟩
    · rw [decide_eq_true (hlt.2 g2), g1]; rfl
    · exact absurd g2 hk
    · rw [decide_eq_false (fun e => by have := hlt.1 e; omega), g1]; rfl

theorem nb_len (l : List Int) : (nb l).length = l.length := by simp
theorem take_be (k : Nat) (x : Int) (p : List UInt8) : (nb (be k x) ++ p).take k = nb (be k x) := by
  rw [List.take_append_of_le_length (by rw [nb_len, be_len]; exact Nat.le_refl _), List.take_of_length_le (by rw [nb_len, be_len]; exact Nat.le_refl _)]
theorem drop_be (k : Nat) (x : Int) (p : List UInt8) : (nb (be k x) ++ p).drop k = p := by
  rw [List.drop_append_of_le_length (by rw [nb_len, be_len]; exact Nat.le_refl _), List.drop_of_length_le (by rw [nb_len, be_len]; exact Nat.le_refl _)]; rfl
theorem wv_be (x : Int) (p : List UInt8) (h0 : -9223372036854775808 ≤ x) (h1 : x < 9223372036854775808) : wv (nb (be 8 (x + 9223372036854775808)) ++ p) = x := by
  unfold wv
  rw [take_be, numB_nb 8 _ (by omega) (by omega)]; omega

/-- a decimal's two parts together are the decimal -/
theorem sum_back {n s : Int} {t : ByteArray} (h : Ok 3 n s t) : recR 7 3 (fl n s) 0 3 (normN (fr n s) 6) (normC (fr n s) 6) = ((3, n, s), 0) := by
  obtain ⟨hN, hb⟩ := rd_is (ok_rd h)
  obtain ⟨b1, b2, b3, b4⟩ := ok_dec_fl h
  have hs := ok_scale h
  have hp := pw_bd s
  have hq := pw_bd (6 - s)
  have h2 := Int.mul_ediv_add_emod n (pw s)
  have h3 := Int.emod_lt_of_pos n (show 0 < pw s by omega)
  have h1 := Int.emod_nonneg n (show pw s ≠ 0 by omega)
  have hnf : normN (fr n s) 6 = n % pw s ∧ normC (fr n s) 6 = s := by
    obtain ⟨q1, q2, q3, q4⟩ := norm_normed (fr n s) 6 (by decide)
    have hm := mil_norm (n := fr n s) (s := 6) (by decide) (by decide)
    have hz : mil (fr n s) 6 = mil (n % pw s) s := by unfold mil fr; rw [show (6 : Int) - 6 = 0 by decide, pw0, Int.mul_one]
    have hN2 : Normed (n % pw s) s := by
      rcases hN with e | e
      · exact Or.inl e
      · by_cases h0 : s = 0
        · exact Or.inl h0
        · right
          intro e2
          apply e
          rw [tmod_ten] at e2 ⊢
          have hp10 := pw_ten (k := s) (by omega) hs.2
          rw [hp10] at e2
          rw [Int.emod_emod_of_dvd _ (Int.dvd_mul_left _ _)] at e2
          exact e2
    exact norm_unique q2 q3 hs.1 hs.2 q1 hN2 (by rw [hm, hz])
  rw [hnf.1, hnf.2]
  have hmx : max 0 s = s := by omega
  have hfs : fl n s * pw s = n - n % pw s := by unfold fl; rw [Int.mul_comm]; omega
  have e1 : strN 7 (fl n s) 0 (max 0 s) = n - n % pw s := by
    unfold strN; rw [if_neg (by decide), hmx, Int.sub_zero, hfs]; exact wrap64_is _ (by unfold Is64; omega)
  have e2 : strN 7 (n % pw s) s (max 0 s) = n % pw s := by
    unfold strN; rw [if_neg (by decide), hmx, Int.sub_self, pw0, Int.mul_one]; exact wrap64_is _ (by unfold Is64; omega)
  have e3 : decN 7 (fl n s) 0 (n % pw s) s = n := by unfold decN opN; rw [e1, e2, if_neg (by decide), if_pos rfl]; omega
  have e4 : decS 7 0 s = s := by unfold decS; rw [if_neg (by decide), hmx]
  have s1 : strOk 7 (fl n s) 0 (max 0 s) = true := by
    unfold strOk; rw [if_neg (by decide), hmx, Int.sub_zero, hfs]; exact inI_true (by unfold Is64; omega)
  have s2 : strOk 7 (n % pw s) s (max 0 s) = true := by
    unfold strOk; rw [if_neg (by decide), hmx, Int.sub_self, pw0, Int.mul_one]; exact inI_true (by unfold Is64; omega)
  have hw : wrap64 n = n := wrap64_is _ (ok_64 h)
  obtain ⟨n1, n2⟩ := normed_done hN
  have ho : decOk 7 (fl n s) 0 (n % pw s) s = true := by
    unfold decOk
    rw [s1, s2, e3, e4, hw, n1, n2, ok_rd h, inI_true (ok_64 h)]; rfl
  rw [rec_h1 (by decide) ho, e3, e4, hw, n1, n2]

theorem str_data (t : ByteArray) : Str t.data.toList = t := by simp
/-- a key is read as it was, whatever is behind -/
theorem rkey_back {k n s : Int} {t : ByteArray} (h : Ok k n s t) (p : List UInt8) : rkey (nb (keyN k n s t) ++ p) = some ((k, n, s, t.data.toList), p) := by
  have hv : rval (nb (keyN k n s t) ++ p) = some ((k, n, s, t.data.toList), p) := by
    have hd : k = 0 ∨ k = 1 ∨ k = 2 ∨ k = 3 ∨ k = 4 ∨ k = 5 := by have := h.1; omega
    rcases hd with rfl | rfl | rfl | rfl | rfl | rfl
    · obtain rfl := ok_num h (by decide)
      obtain rfl := ok_flat h (by decide)
      obtain rfl := ok_empty h (by decide)
      rw [key0_is]; rfl
    · obtain rfl := ok_flat h (by decide)
      obtain rfl := ok_empty h (by decide)
      have hn : n = 0 ∨ n = 1 := by have := h.2.1; unfold rightB at this; simp at this; omega
      rw [key1_is]
      show rval (1 :: u8 n :: p) = _
      rw [rval_cons, if_neg (by decide), if_pos rfl]
      dsimp only
      rw [u8_nat (by omega)]
    · obtain rfl := ok_flat h (by decide)
      obtain rfl := ok_empty h (by decide)
      have b := ok_64 h
      unfold Is64 at b
      rw [key2_is]
      show rval (2 :: (nb (be 8 (n + 9223372036854775808)) ++ p)) = _
      rw [rval_cons, if_neg (by decide), if_neg (by decide), if_pos rfl, if_pos (by simp [be_len]), wv_be _ _ (by omega) (by omega), drop_be]
    · obtain rfl := ok_empty h (by decide)
      obtain ⟨b1, b2, b3, b4⟩ := ok_dec_fl h
      rw [key3_is]
      show rval (3 :: (nb (be 8 (fl n s + 9223372036854775808)) ++ nb (be 4 (fr n s)) ++ p)) = _
      rw [rval_cons, if_neg (by decide), if_neg (by decide), if_neg (by decide), if_pos rfl, List.append_assoc]
      have hwv := wv_be (fl n s) (nb (be 4 (fr n s)) ++ p) (by omega) (by omega)
      have hfv : fv (nb (be 8 (fl n s + 9223372036854775808)) ++ (nb (be 4 (fr n s)) ++ p)) = fr n s := by
        unfold fv; rw [drop_be, take_be, numB_nb 4 _ (by omega) (by omega)]
      have hsum : sumD (nb (be 8 (fl n s + 9223372036854775808)) ++ (nb (be 4 (fr n s)) ++ p)) = ((3, n, s), 0) := by
        unfold sumD; rw [hwv, hfv, sum_back h]
      have hrd : rdec (nb (be 8 (fl n s + 9223372036854775808)) ++ (nb (be 4 (fr n s)) ++ p)) = some (3, n, s) := by
        unfold rdec
        rw [if_pos, hsum]
        refine ⟨by simp [be_len]; omega, by rw [hfv]; exact b4, ?_, by rw [hsum]⟩
        rw [hwv]
        exact rd_normed (Or.inl rfl) (by decide) (by decide) (by omega)
      rw [hrd]
      have hdr : (nb (be 8 (fl n s + 9223372036854775808)) ++ (nb (be 4 (fr n s)) ++ p)).drop 12 = p := by
        rw [show (12 : Nat) = 8 + 4 from rfl, ← List.drop_drop, drop_be, drop_be]
      rw [Option.map_some, hdr]
    · obtain rfl := ok_num h (by decide)
      obtain rfl := ok_flat h (by decide)
      rw [key4_is]
      show rval (4 :: (txt t.data.toList ++ p)) = _
      rw [rval_cons, if_neg (by decide), if_neg (by decide), if_neg (by decide), if_neg (by decide), if_pos (by decide), rtxt_back]
      rfl
    · obtain rfl := ok_num h (by decide)
      obtain rfl := ok_flat h (by decide)
      rw [key5_is]
      show rval (5 :: (txt t.data.toList ++ p)) = _
      rw [rval_cons, if_neg (by decide), if_neg (by decide), if_neg (by decide), if_neg (by decide), if_pos (by decide), rtxt_back]
      rfl
  unfold rkey
  rw [hv]
  dsimp only
  rw [str_data, if_pos h.2.1]

theorem keyB_list (k n s : Int) (t : ByteArray) : (keyB k n s t).toList = nb (keyN k n s t) := by rw [ByteArray.toList_eq]; rfl
theorem keyB_str (k n s : Int) (t : ByteArray) : keyB k n s t = Str (nb (keyN k n s t)) := rfl
/-- the same key, the same value -/
theorem key_inj {k n s : Int} {t : ByteArray} {k' n' s' : Int} {t' : ByteArray} (h : Ok k n s t) (h' : Ok k' n' s' t') (p q : List UInt8) (e : nb (keyN k n s t) ++ p = nb (keyN k' n' s' t') ++ q) : (k = k' ∧ n = n' ∧ s = s' ∧ t = t') ∧ p = q := by
  have a := rkey_back h p
  rw [e, rkey_back h' q] at a
  simp only [Option.some.injEq, Prod.mk.injEq] at a
  obtain ⟨⟨a1, a2, a3, a4⟩, a5⟩ := a
  exact ⟨⟨a1.symm, a2.symm, a3.symm, ByteArray.ext (Array.toList_inj.1 a4.symm)⟩, a5.symm⟩
theorem rord_self {k n s : Int} {t : ByteArray} (h : Ok k n s t) : rordV k n s t k n s t = 0 := by
  unfold rordV; rw [cmpI_same, if_neg (by simp)]
  split
  · exact cmpI_same _
  · split
    · rw [cmpI_same, if_neg (by simp)]; exact cmpI_same _
    · exact cmpS_same _
theorem rord_zero {k n s : Int} {t : ByteArray} {k' n' s' : Int} {t' : ByteArray} (h : Ok k n s t) (h' : Ok k' n' s' t') (e : rordV k n s t k' n' s' t' = 0) : k = k' ∧ n = n' ∧ s = s' ∧ t = t' := by
  have hk : k = k' := by
    by_cases hk : k = k'
    · exact hk
    · exfalso
      unfold rordV at e; rw [if_pos (by rw [Ne, cmpI_eq]; exact hk), cmpI_eq] at e; exact hk e
  subst hk
  rw [rord_lex h h'] at e
  unfold lex3 at e
  rw [cmpI_same, if_neg (by simp)] at e
  by_cases hm : cmpI (mil n s) (mil n' s') ≠ 0
  · rw [if_pos hm] at e; exact absurd e hm
  · rw [if_neg hm] at e
    have hm' : mil n s = mil n' s' := cmpI_eq.1 (Classical.byContradiction hm)
    have ht : t = t' := by
      rcases cmpS_cases t t' with ⟨g, _⟩ | ⟨_, _, g⟩ | ⟨g, _⟩
      · omega
      · rw [beq_iff_eq, ByteArray.toList_eq, ByteArray.toList_eq] at g; exact ByteArray.ext (Array.toList_inj.1 g)
      · omega
    subst ht
    by_cases h3 : k = 3
    · subst h3
      have := norm_unique (ok_scale h).1 (ok_scale h).2 (ok_scale h').1 (ok_scale h').2 (rd_is (ok_rd h)).1 (rd_is (ok_rd h')).1 hm'
      exact ⟨rfl, this.1, this.2, rfl⟩
    · have e1 := ok_flat h h3
      have e2 := ok_flat h' h3
      subst e1; subst e2
      rw [mil_flat, mil_flat] at hm'
      exact ⟨rfl, by omega, rfl, rfl⟩
end Go.Proofs.Ytbpjejjbgdikdaa
