/-
  Plain mathematics: rows are read as they were; what is cut off is none.
-/
import Derived.Test.YtbpjejjbgdikdaaT2
import Derived.Test.YtbpjejjbgdikdaaT7
namespace Go.Proofs.Ytbpjejjbgdikdaa
open Go.RowKit Go.Shelf
set_option linter.unusedSimpArgs false
set_option linter.unusedVariables false

theorem rtxt_app (q : List UInt8) : ∀ (m : Nat) (acc l d r : List UInt8), l.length = m → rtxt acc l = some (d, r) → rtxt acc (l ++ q) = some (d, r ++ q) := by
  intro m
  induction m using Nat.strongRecOn with
  | _ m ih =>
    intro acc l d r hm h
    cases l with
    | nil => simp [rtxt] at h
    | cons c l =>
      by_cases hc : c = 0
      · subst hc
        cases l with
        | nil => rw [rtxt_one] at h; cases h
        | cons x l =>
          show rtxt acc (0 :: x :: (l ++ q)) = _
          rw [rtxt_zero] at h ⊢
          split at h
          · rename_i hx; rw [if_pos hx]; cases h; rfl
          · rename_i hx; rw [if_neg hx]
            split at h
            · rename_i hy; rw [if_pos hy]; exact ih l.length (by simp at hm; omega) _ l d r rfl h
            · cases h
      · show rtxt acc (c :: (l ++ q)) = _
        rw [rtxt_plain _ _ _ hc] at h ⊢
        exact ih l.length (by simp at hm; omega) _ l d r rfl h
theorem wv_app {l q : List UInt8} (h : 8 ≤ l.length) : wv (l ++ q) = wv l := by unfold wv; rw [List.take_append_of_le_length h]
theorem fv_app {l q : List UInt8} (h : 12 ≤ l.length) : fv (l ++ q) = fv l := by
  unfold fv
  rw [List.drop_append_of_le_length (by omega), List.take_append_of_le_length (by simp; omega)]
theorem rdec_app {l q : List UInt8} {y : Int × Int × Int} (h : rdec l = some y) : rdec (l ++ q) = some y ∧ 12 ≤ l.length := by
  unfold rdec at h ⊢
  split at h
  · rename_i hc
    have e1 := wv_app (q := q) (show 8 ≤ l.length by omega)
    have e2 := fv_app (q := q) hc.1
    have e3 : sumD (l ++ q) = sumD l := by unfold sumD; rw [e1, e2]
    rw [e1, e2, e3, if_pos ⟨by simp; omega, hc.2⟩]
    exact ⟨h, hc.1⟩
  · cases h
theorem rval_app {l : List UInt8} {x : Int × Int × Int × List UInt8} {r : List UInt8} (q : List UInt8) (h : rval l = some (x, r)) : rval (l ++ q) = some (x, r ++ q) := by
  cases l with
  | nil => cases h
  | cons c l =>
    show rval (c :: (l ++ q)) = _
    rw [rval_cons] at h ⊢
    split at h
    · rename_i h0; rw [if_pos h0]; cases h; rfl
    rename_i h0; rw [if_neg h0]
    split at h
    · rename_i h1; rw [if_pos h1]
      cases l with
      | nil => cases h
      | cons d l => cases h; rfl
    rename_i h1; rw [if_neg h1]
    split at h
    · rename_i h2; rw [if_pos h2]
      split at h
      · rename_i h8; rw [if_pos (by simp; omega), wv_app h8, List.drop_append_of_le_length h8]; cases h; rfl
      · cases h
    rename_i h2; rw [if_neg h2]
    split at h
    · rename_i h3; rw [if_pos h3]
      cases hr : rdec l with
      | none => rw [hr] at h; cases h
      | some y =>
        obtain ⟨e1, e2⟩ := rdec_app (q := q) hr
        rw [hr] at h; rw [e1, Option.map_some, List.drop_append_of_le_length e2]; cases h; rfl
    rename_i h3; rw [if_neg h3]
    split at h
    · rename_i h4; rw [if_pos h4]
      cases hr : rtxt [] l with
      | none => rw [hr] at h; cases h
      | some y =>
        rw [rtxt_app q l.length [] l y.1 y.2 rfl hr]
        rw [hr] at h; cases h; rfl
    · cases h
theorem rkey_app {l : List UInt8} {x : Int × Int × Int × List UInt8} {r : List UInt8} (q : List UInt8) (h : rkey l = some (x, r)) : rkey (l ++ q) = some (x, r ++ q) := by
  have hv := rkey_val h
  unfold rkey at h ⊢
  rw [hv] at h
  rw [rval_app q hv]
  dsimp only at h ⊢
  split at h
  · rename_i hc; rw [if_pos hc]
  · cases h
/-- a key that is cut off is none -/
theorem key_cut {k n s : Int} {t : ByteArray} (h : Ok k n s t) (c : Nat) (hc : c < (nb (keyN k n s t)).length) : rkey ((nb (keyN k n s t)).take c) = none := by
  cases hr : rkey ((nb (keyN k n s t)).take c) with
  | none => rfl
  | some y =>
    exfalso
    obtain ⟨x, r⟩ := y
    have h1 := rkey_app ((nb (keyN k n s t)).drop c) hr
    rw [List.take_append_drop] at h1
    have h2 := rkey_back h []
    rw [List.append_nil, h1] at h2
    simp only [Option.some.injEq, Prod.mk.injEq] at h2
    have h3 := congrArg List.length h2.2
    simp only [List.length_append, List.length_drop, List.length_nil] at h3
    omega

def sumR : List RW → Nat
  | [] => 0
  | x :: l => x.2 + sumR l
theorem rks_sum : ∀ (f : Nat) (l : List UInt8), sumR (rks f l) ≤ l.length
  | 0, l => by simp [rks, sumR]
  | f + 1, l => by
    unfold rks
    cases h : rkey l with
    | none => simp [sumR]
    | some y =>
      obtain ⟨x, r⟩ := y
      have ih := rks_sum f r
      have hd := (rkey_drop h).2
      simp only [sumR]; omega
theorem fold_sum : ∀ (l : List RW) (e : Int), 0 ≤ e → e + (sumR l : Int) ≤ 1000000 → l.foldl (fun e x => IntKind.i64.wrap (e + (x.2 : Int))) e = e + (sumR l : Int)
  | [], e, _, _ => by simp [sumR]
  | x :: l, e, h0, h1 => by
    simp only [sumR] at h1
    have hw : IntKind.i64.wrap (e + (x.2 : Int)) = e + (x.2 : Int) := IntWalk.i64_in _ (by omega)
    rw [List.foldl_cons, hw, fold_sum l _ (by omega) (by omega)]
    simp only [sumR]; omega
theorem eR_sum {l : List RW} (h : sumR l ≤ 900000) : eR l = 1 + (sumR l : Int) := by unfold eR; exact fold_sum l 1 (by decide) (by omega)
theorem rks_app (m : List UInt8) : ∀ (f : Nat) (q : List UInt8) (F : Nat), sumR (rks f q) = q.length → (rks f q).length ≤ F → rks F (q ++ m) = rks f q ++ rks (F - (rks f q).length) m
  | 0, q, F, hs, hF => by
    simp [rks, sumR] at hs
    have : q = [] := List.length_eq_zero_iff.1 hs.symm
    subst this; simp [rks]
  | f + 1, q, F, hs, hF => by
    cases h : rkey q with
    | none =>
      have e : rks (f + 1) q = [] := by rw [rks, h]
      rw [e] at hs ⊢
      simp [sumR] at hs
      have : q = [] := List.length_eq_zero_iff.1 hs.symm
      subst this
      simp
    | some y =>
      obtain ⟨x, r⟩ := y
      have e : rks (f + 1) q = (x, q.length - r.length) :: rks f r := by rw [rks, h]
      rw [e] at hs hF ⊢
      simp only [sumR] at hs
      simp only [List.length_cons] at hF
      have hd := (rkey_drop h).2
      have ih := rks_app m f r
      obtain ⟨F', rfl⟩ : ∃ F', F = F' + 1 := ⟨F - 1, by omega⟩
      rw [rks, rkey_app m h]
      dsimp only
      rw [ih F' (by omega) (by omega)]
      simp only [List.cons_append, List.length_cons]
      rw [show F' + 1 - ((rks f r).length + 1) = F' - (rks f r).length by omega]
      congr 2
      simp; omega
/-- a value as ReadRow's reader tells it -/
def toR (x : VV) : RW := ((x.1, x.2.1, x.2.2.1, x.2.2.2.data.toList), (keyV x).length)
theorem key_pos (k n s : Int) (t : ByteArray) : 1 ≤ (keyN k n s t).length := by simp [keyN]
theorem keys_cons (x : VV) (l : List VV) : nb (keysV (x :: l)) = nb (keyV x) ++ nb (keysV l) := by simp [keysV]
theorem rks_keys (p : List UInt8) : ∀ (l : List VV) (f : Nat), (∀ x ∈ l, VOk x) → l.length ≤ f → rks f (nb (keysV l) ++ p) = l.map toR ++ rks (f - l.length) p
  | [], f, _, _ => by simp [keysV]
  | x :: l, f, hok, hf => by
    obtain ⟨f', rfl⟩ : ∃ f', f = f' + 1 := ⟨f - 1, by simp at hf; omega⟩
    have h1 := rkey_back (hok x (by simp)) (nb (keysV l) ++ p)
    rw [keys_cons, List.append_assoc, rks, h1]
    dsimp only
    rw [rks_keys p l f' (fun y hy => hok y (by simp [hy])) (by simpa using hf)]
    simp only [List.map_cons, List.cons_append, List.length_cons]
    rw [show f' + 1 - (l.length + 1) = f' - l.length by omega]
    congr 2
    simp
theorem sum_toR : ∀ l : List VV, sumR (l.map toR) = (nb (keysV l)).length
  | [] => rfl
  | x :: l => by
    have ih := sum_toR l
    rw [keys_cons, List.length_append, List.map_cons, sumR, ih]
    simp [toR]
theorem keys_len_ge : ∀ l : List VV, l.length ≤ (nb (keysV l)).length
  | [] => Nat.zero_le _
  | x :: l => by
    have ih := keys_len_ge l
    have : 1 ≤ (keyV x).length := key_pos x.1 x.2.1 x.2.2.1 x.2.2.2
    rw [keys_cons, List.length_append, nb_len, List.length_cons]; omega
theorem rks_nil (f : Nat) : rks f [] = [] := by
  cases f with
  | zero => rfl
  | succ f => have h : rkey [] = none := by kernel_rfl
              rw [rks, h]
theorem cells_toR (l : List VV) : cellsR (l.map toR) = cellsL l := by
  induction l with
  | nil => rfl
  | cons x l ih =>
    have e1 : cellsR ((x :: l).map toR) = [.int .i64 x.1, .int .i64 x.2.1, .int .i64 x.2.2.1, .string (Str x.2.2.2.data.toList)] ++ cellsR (l.map toR) := rfl
    rw [e1, ih, str_data]; rfl
theorem u8_len (l : List VV) (h : l.length ≤ 10) : (u8 (l.length : Int)).toNat = l.length := by
  have := u8_nat (n := (l.length : Int)) (by omega); omega
theorem rows_whole (l : List VV) (h10 : l.length ≤ 10) (hok : ∀ x ∈ l, VOk x) : rks (nb (keysV l)).length (nb (keysV l)) = l.map toR := by
  have := rks_keys [] l (nb (keysV l)).length hok (keys_len_ge l)
  rw [List.append_nil, rks_nil, List.append_nil] at this
  exact this
theorem keys_small (l : List VV) (h10 : l.length ≤ 10) (hok : ∀ x ∈ l, VOk x) : (nb (keysV l)).length ≤ 1000 := by
  rw [nb_len]; have := keysV_len l hok; omega
/-- a row is read as it was, and with something behind it is none -/
theorem row_is (l : List VV) (h10 : l.length ≤ 10) (hok : ∀ x ∈ l, VOk x) (p : List UInt8) (hp : p.length ≤ 1000) : rowIs (u8 (l.length : Int)) (nb (keysV l) ++ p) = decide (p = []) := by
  have hk := keys_small l h10 hok
  have hr := rks_keys p l (nb (keysV l) ++ p).length hok (by have := keys_len_ge l; simp at this ⊢; omega)
  have hs := rks_sum ((nb (keysV l) ++ p).length - l.length) p
  unfold rowIs
  rw [u8_len l h10]
  by_cases hp0 : p = []
  · subst hp0
    rw [decide_eq_true rfl, hr, rks_nil, List.append_nil, List.append_nil]
    rw [eR_sum (by rw [sum_toR]; omega), sum_toR]
    simp; omega
  · rw [decide_eq_false hp0]
    rw [Bool.and_eq_false_iff]
    by_cases he : rks ((nb (keysV l) ++ p).length - l.length) p = []
    · right
      rw [hr, he, List.append_nil, eR_sum (by rw [sum_toR]; omega), sum_toR, beq_eq_false_iff_ne]
      have : p.length ≠ 0 := fun e => hp0 (List.length_eq_zero_iff.1 e)
      simp only [List.length_append]; omega
    · left
      rw [hr, beq_eq_false_iff_ne]
      have : (rks ((nb (keysV l) ++ p).length - l.length) p).length ≠ 0 := fun e => he (List.length_eq_zero_iff.1 e)
      simp only [List.length_append, List.length_map] at this ⊢; omega
/-- a row that is cut off is none -/
theorem row_cut (l : List VV) (h10 : l.length ≤ 10) (hok : ∀ x ∈ l, VOk x) (c : Nat) (hc : c < (nb (keysV l)).length) : rowIs (u8 (l.length : Int)) ((nb (keysV l)).take c) = false := by
  cases h : rowIs (u8 (l.length : Int)) ((nb (keysV l)).take c) with
  | false => rfl
  | true =>
    exfalso
    have hk := keys_small l h10 hok
    have hlen : ((nb (keysV l)).take c).length = c := by rw [List.length_take]; omega
    unfold rowIs at h
    rw [u8_len l h10, Bool.and_eq_true, beq_iff_eq, beq_iff_eq] at h
    obtain ⟨h1, h2⟩ := h
    have hs := rks_sum ((nb (keysV l)).take c).length ((nb (keysV l)).take c)
    rw [eR_sum (by omega)] at h2
    have hsum : sumR (rks ((nb (keysV l)).take c).length ((nb (keysV l)).take c)) = ((nb (keysV l)).take c).length := by omega
    have ha := rks_app ((nb (keysV l)).drop c) _ _ (nb (keysV l)).length hsum (by rw [h1]; exact keys_len_ge l)
    rw [List.take_append_drop, rows_whole l h10 hok] at ha
    have hl := congrArg List.length ha
    rw [List.length_map, List.length_append, h1] at hl
    have hz : rks ((nb (keysV l)).length - l.length) ((nb (keysV l)).drop c) = [] := by
      exact List.length_eq_zero_iff.1 (by omega)
    rw [h1, hz, List.append_nil] at ha
    have := congrArg sumR ha
    rw [sum_toR, hsum, hlen] at this
    omega
theorem rowB_str (l : List VV) : strOfNums (rowN l) = Str (u8 (l.length : Int) :: nb (keysV l)) := rfl
end Go.Proofs.Ytbpjejjbgdikdaa
