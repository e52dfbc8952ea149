/-
  Plain mathematics: numbers and texts as bytes are in the order of the numbers and texts, and are read as they were.
-/
import Derived.Test.YtbpjejjbgdikdaaS5
import Derived.Test.YtbpjejjbgdikdaaS8
import Derived.Laws.Strings
namespace Go.Proofs.Ytbpjejjbgdikdaa
open Go.RowKit
set_option linter.unusedSimpArgs false
set_option linter.unusedVariables false

/-- a number as a byte, numbers as bytes -/
abbrev u8 (n : Int) : UInt8 := UInt8.ofNat n.toNat
abbrev nb (l : List Int) : List UInt8 := l.map u8
theorem u8_nat {n : Int} (h : 0 ≤ n ∧ n < 256) : ((u8 n).toNat : Int) = n := by
  rw [UInt8.toNat_ofNat']
  omega
theorem u8_back (c : UInt8) : u8 (c.toNat : Int) = c := by
  apply UInt8.toNat_inj.1
  rw [UInt8.toNat_ofNat']
  have := c.toNat_lt
  omega
theorem u8_lt {a b : Int} (ha : 0 ≤ a ∧ a < 256) (hb : 0 ≤ b ∧ b < 256) : (u8 a < u8 b) ↔ a < b := by
  rw [UInt8.lt_iff_toNat_lt, ← Int.ofNat_lt, u8_nat ha, u8_nat hb]
theorem u8_eq {a b : Int} (ha : 0 ≤ a ∧ a < 256) (hb : 0 ≤ b ∧ b < 256) : (u8 a = u8 b) ↔ a = b := by
  constructor
  · intro h; rw [← u8_nat ha, ← u8_nat hb, h]
  · rintro rfl; rfl
/-- a number's k lowest bytes, the highest first -/
def be : Nat → Int → List Int
  | 0, _ => []
  | k + 1, x => (x / 256 ^ k % 256) :: be k x
theorem beK8 (x : Int) : beK 56 x 8 = be 8 x := by simp [beK, be, List.range_succ]
theorem beK4 (x : Int) : beK 24 x 4 = be 4 x := by simp [beK, be, List.range_succ]
theorem be_len : ∀ (k : Nat) (x : Int), (be k x).length = k
  | 0, _ => rfl
  | k + 1, x => by simp [be, be_len k x]
theorem pow_pos256 (k : Nat) : (0 : Int) < 256 ^ k := Int.pow_pos (by decide)
theorem mod_step (x : Int) (k : Nat) : x % 256 ^ (k + 1) = 256 ^ k * (x / 256 ^ k % 256) + x % 256 ^ k := by
  have hm := pow_pos256 k
  rw [Int.pow_succ]
  generalize (256 : Int) ^ k = m at *
  have h1 := Int.mul_ediv_add_emod x m
  have h2 := Int.mul_ediv_add_emod (x / m) 256
  have h3 := Int.emod_nonneg x (show m ≠ 0 by omega)
  have h4 := Int.emod_lt_of_pos x hm
  have h5 := Int.emod_nonneg (x / m) (show (256 : Int) ≠ 0 by decide)
  have h6 := Int.emod_lt_of_pos (x / m) (show (0 : Int) < 256 by decide)
  generalize hq : x / m = q at *
  generalize hr : x % m = r at *
  generalize q % 256 = a at *
  generalize q / 256 = q' at *
  have e : x = (m * a + r) + (m * 256) * q' := by
    rw [← h1, ← h2, Int.mul_add, ← Int.mul_assoc]; omega
  rw [e, Int.add_mul_emod_self_left]
  have hma : 0 ≤ m * a := Int.mul_nonneg (by omega) h5
  have hmb : m * a ≤ m * 255 := Int.mul_le_mul_of_nonneg_left (by omega) (by omega)
  exact Int.emod_eq_of_lt (by omega) (by omega)
/-- numbers' bytes, with something behind, are in the numbers' order -/
theorem be_less (p q : List UInt8) : ∀ (k : Nat) (x y : Int),
    Op.bytesLess (nb (be k x) ++ p) (nb (be k y) ++ q) = if x % 256 ^ k < y % 256 ^ k then true else if x % 256 ^ k = y % 256 ^ k then Op.bytesLess p q else false
  | 0, x, y => by simp [be, Int.emod_one]
  | k + 1, x, y => by
    have ih := be_less p q k x y
    have hm := pow_pos256 k
    rw [mod_step x, mod_step y]
    have x3 := Int.emod_nonneg x (show (256 : Int) ^ k ≠ 0 by omega)
    have x4 := Int.emod_lt_of_pos x hm
    have y3 := Int.emod_nonneg y (show (256 : Int) ^ k ≠ 0 by omega)
    have y4 := Int.emod_lt_of_pos y hm
    have hx : 0 ≤ x / 256 ^ k % 256 ∧ x / 256 ^ k % 256 < 256 := ⟨by omega, by omega⟩
    have hy : 0 ≤ y / 256 ^ k % 256 ∧ y / 256 ^ k % 256 < 256 := ⟨by omega, by omega⟩
    simp only [be, List.map_cons, List.cons_append, Op.bytesLess]
    rw [show (nb (be k x)) = List.map u8 (be k x) from rfl] at ih
    rw [ih]
    have hlt := u8_lt hx hy
    have heq := u8_eq hx hy
    generalize x / 256 ^ k % 256 = a at *
    generalize y / 256 ^ k % 256 = b at *
    generalize x % 256 ^ k = r at *
    generalize y % 256 ^ k = t at *
    generalize (256 : Int) ^ k = m at *
    by_cases h1 : a < b
    · have h2 : m * (a + 1) ≤ m * b := Int.mul_le_mul_of_nonneg_left (by omega) (by omega)
      rw [Int.mul_add, Int.mul_one] at h2
      rw [if_pos (show m * a + r < m * b + t by omega), decide_eq_true (hlt.2 h1)]; rfl
    · rw [decide_eq_false (fun h => h1 (hlt.1 h)), Bool.false_or]
      by_cases h2 : a = b
      · subst h2
        rw [show (u8 a == u8 a) = true from beq_self_eq_true _, Bool.true_and]
        by_cases h3 : r < t
        · rw [if_pos h3, if_pos (by omega)]
        · rw [if_neg h3, if_neg (show ¬ (m * a + r < m * a + t) by omega)]
          by_cases h4 : r = t
          · rw [if_pos h4, if_pos (by omega)]
          · rw [if_neg h4, if_neg (by omega)]
      · have h3 : m * (b + 1) ≤ m * a := Int.mul_le_mul_of_nonneg_left (by omega) (by omega)
        rw [Int.mul_add, Int.mul_one] at h3
        rw [show (u8 a == u8 b) = false from beq_eq_false_iff_ne.2 (fun h => h2 (heq.1 h)), Bool.false_and, if_neg (by omega), if_neg (by omega)]
/-- bytes say their number again -/
theorem numB_be : ∀ (k : Nat) (x n : Int), (nb (be k x)).foldl (fun n c => n * 256 + (c.toNat : Int)) n = n * 256 ^ k + x % 256 ^ k
  | 0, x, n => by simp [be, Int.emod_one]
  | k + 1, x, n => by
    have hx : 0 ≤ x / 256 ^ k % 256 ∧ x / 256 ^ k % 256 < 256 := ⟨by omega, by omega⟩
    simp only [be, List.map_cons, List.foldl_cons]
    rw [u8_nat hx, numB_be k x, mod_step x k, Int.add_mul, Int.pow_succ, Int.mul_assoc, Int.mul_comm 256 (256 ^ k), Int.mul_comm _ (256 ^ k)]
    omega
theorem numB_nb (k : Nat) (x : Int) (h0 : 0 ≤ x) (h1 : x < 256 ^ k) : numB (nb (be k x)) = x := by
  unfold numB
  rw [numB_be, Int.zero_mul, Int.zero_add, Int.emod_eq_of_lt h0 h1]

theorem less_self : ∀ l : List UInt8, Op.bytesLess l l = false
  | [] => rfl
  | a :: l => by simp [Op.bytesLess, less_self l, UInt8.lt_irrefl]
theorem nb_esc (c : UInt8) : nb (esc c) = if c = 0 then [0, 255] else [c] := by
  unfold esc
  split
  · rfl
  · simp only [List.map_cons, List.map_nil, u8_back]
theorem nb_escL_cons (c : UInt8) (l : List UInt8) : nb (escL (c :: l)) = nb (esc c) ++ nb (escL l) := by simp [escL]
/-- a text's bytes with its end -/
def txt (l : List UInt8) : List UInt8 := nb (escL l) ++ [0, 1]
theorem txt_nil : txt [] = [0, 1] := rfl
theorem txt_zero (l : List UInt8) : txt (0 :: l) = 0 :: 255 :: txt l := by unfold txt; rw [nb_escL_cons]; rfl
theorem txt_cons (c : UInt8) (l : List UInt8) (h : c ≠ 0) : txt (c :: l) = c :: txt l := by unfold txt; rw [nb_escL_cons, nb_esc, if_neg h]; rfl
theorem nb_markL (t : ByteArray) : nb (markL t) = txt t.data.toList := by simp [markL, txt]
theorem pos_of_ne {c : UInt8} (h : c ≠ 0) : (0 : UInt8) < c := by
  rw [UInt8.lt_iff_toNat_lt]
  have : c.toNat ≠ 0 := fun e => h (UInt8.toNat_inj.1 e)
  exact Nat.pos_of_ne_zero this
/-- texts' bytes, with something behind, are in the texts' order -/
theorem txt_less (p q : List UInt8) : ∀ a b : List UInt8, Op.bytesLess (txt a ++ p) (txt b ++ q) = if a = b then Op.bytesLess p q else Op.bytesLess a b
  | [], [] => by simp [txt_nil, Op.bytesLess]
  | [], c :: b => by
    rw [if_neg (by simp)]
    by_cases hc : c = 0
    · subst hc; rw [txt_zero, txt_nil]; rfl
    · rw [txt_cons _ _ hc, txt_nil]
      show (decide ((0 : UInt8) < c) || _) = _
      rw [decide_eq_true (pos_of_ne hc)]; rfl
  | c :: a, [] => by
    rw [if_neg (by simp)]
    by_cases hc : c = 0
    · subst hc; rw [txt_zero, txt_nil]; rfl
    · rw [txt_cons _ _ hc, txt_nil]
      have h1 : ¬ c < 0 := by rw [UInt8.lt_iff_toNat_lt]; exact Nat.not_lt_zero _
      simp [Op.bytesLess, h1, hc]
  | c :: a, d :: b => by
    have ih := txt_less p q a b
    by_cases hc : c = 0
    · subst hc
      by_cases hd : d = 0
      · subst hd
        rw [txt_zero, txt_zero]
        simp only [List.cons_append, Op.bytesLess, ih, UInt8.lt_irrefl, decide_false, Bool.false_or, beq_self_eq_true, Bool.true_and, List.cons.injEq, true_and]
      · rw [txt_zero, txt_cons _ _ hd, if_neg (by simp [Ne.symm hd])]
        have := pos_of_ne hd
        simp [Op.bytesLess, this]
    · by_cases hd : d = 0
      · subst hd
        rw [txt_zero, txt_cons _ _ hc, if_neg (by simp [hc])]
        have h1 : ¬ c < 0 := by rw [UInt8.lt_iff_toNat_lt]; exact Nat.not_lt_zero _
        have h2 : (c == 0) = false := beq_eq_false_iff_ne.2 hc
        simp [Op.bytesLess, h1, h2]
      · rw [txt_cons _ _ hc, txt_cons _ _ hd]
        simp only [List.cons_append, Op.bytesLess, ih, List.cons.injEq]
        by_cases h1 : c = d
        · subst h1; simp [UInt8.lt_irrefl]
        · have h2 : (c == d) = false := beq_eq_false_iff_ne.2 h1
          simp [h1, h2]
/-- a text is read as it was, whatever is behind -/
theorem rtxt_back (p : List UInt8) : ∀ (a acc : List UInt8), rtxt acc (txt a ++ p) = some (acc ++ a, p)
  | [], acc => by
    rw [txt_nil]
    show rtxt acc (0 :: 1 :: p) = _
    rw [rtxt_zero, if_pos rfl, List.append_nil]
  | c :: a, acc => by
    by_cases hc : c = 0
    · subst hc
      rw [txt_zero]
      show rtxt acc (0 :: 255 :: (txt a ++ p)) = _
      rw [rtxt_zero, if_neg (by decide), if_pos rfl, rtxt_back p a]
      simp
    · rw [txt_cons _ _ hc]
      show rtxt acc (c :: (txt a ++ p)) = _
      rw [rtxt_plain _ _ _ hc, rtxt_back p a]
      simp
end Go.Proofs.Ytbpjejjbgdikdaa
