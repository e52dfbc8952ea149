/-
  Plain mathematics of commands as bytes: numbers of a fixed size, numbers by seven bits, texts, lists; each is read back in one way alone. No program is named here.
-/
import Derived.WalkKit
import Derived.Lib.AppendStr
namespace Go.Proofs.Ytjmmfgmmmdbenaa
open Go.RowKit
set_option linter.unusedSimpArgs false
set_option linter.unusedVariables false

/-- the low byte of a number -/
def bt (x : Int) : UInt8 := UInt8.ofNat (x % 256).toNat
theorem bt_nat (x : Int) : ((bt x).toNat : Int) = x % 256 := by
  unfold bt
  rw [UInt8.toNat_ofNat']
  omega
theorem bt_eq {x y : Int} (hx : 0 ≤ x ∧ x < 256) (hy : 0 ≤ y ∧ y < 256) (h : bt x = bt y) : x = y := by
  have h1 := bt_nat x
  have h2 := bt_nat y
  rw [h] at h1
  omega
theorem bt_toNat (b : UInt8) : bt (b.toNat : Int) = b := by
  apply UInt8.toNat_inj.1
  have := bt_nat (b.toNat : Int)
  have := b.toNat_lt
  omega

/-- size bytes, the highest first -/
def fx : Nat → Int → List UInt8
  | 0, _ => []
  | s + 1, n => bt (n / 2 ^ (8 * s)) :: fx s n
theorem fx_len (s : Nat) (n : Int) : (fx s n).length = s := by
  induction s with
  | zero => rfl
  | succ s ih => simp [fx, ih]

/-- seven bits a byte, the lowest first -/
def sh (n : Nat) : List UInt8 := if n < 128 then [UInt8.ofNat n] else UInt8.ofNat (n % 128 + 128) :: sh (n / 128)
termination_by n
decreasing_by omega
theorem sh_lt {n : Nat} (h : n < 128) : sh n = [UInt8.ofNat n] := by rw [sh, if_pos h]
theorem sh_ge {n : Nat} (h : 128 ≤ n) : sh n = UInt8.ofNat (n % 128 + 128) :: sh (n / 128) := by rw [sh, if_neg (by omega)]
theorem sh_pos (n : Nat) : 0 < (sh n).length := by
  rw [sh]; split <;> simp
theorem sh_len (k : Nat) : ∀ n : Nat, n < 128 ^ (k + 1) → (sh n).length ≤ k + 1 := by
  induction k with
  | zero => intro n h; rw [sh_lt (by simpa using h)]; simp
  | succ k ih =>
    intro n h
    by_cases h1 : n < 128
    · rw [sh_lt h1]; simp
    · rw [sh_ge (by omega)]
      have := ih (n / 128) (by rw [Nat.div_lt_iff_lt_mul (by omega)]; rw [Nat.pow_succ] at h; omega)
      simp; omega

theorem u8_ofNat {n : Nat} (h : n < 256) : (UInt8.ofNat n).toNat = n := by rw [UInt8.toNat_ofNat']; omega
theorem u8_inj {a b : Nat} (ha : a < 256) (hb : b < 256) (h : UInt8.ofNat a = UInt8.ofNat b) : a = b := by
  have := congrArg UInt8.toNat h; rw [u8_ofNat ha, u8_ofNat hb] at this; exact this

/-- a way to write that is read in one way alone -/
def Uniq {α : Type} (D : α → Prop) (f : α → List UInt8) : Prop := ∀ x y r q, D x → D y → f x ++ r = f y ++ q → x = y ∧ r = q

theorem emod_mul' (x a b : Int) (ha : 0 ≤ a) : x % (a * b) = x % a + a * (x / a % b) := by
  rw [Int.emod_def x (a * b), Int.emod_def x a, Int.emod_def (x / a) b, ← Int.ediv_ediv_of_nonneg ha, Int.mul_sub, Int.mul_assoc]
  omega
theorem uniq_fx (s : Nat) : Uniq (fun n : Int => 0 ≤ n ∧ n < 2 ^ (8 * s)) (fx s) := by
  have key : ∀ (s : Nat) (n m : Int) r q, fx s n ++ r = fx s m ++ q → n % 2 ^ (8 * s) = m % 2 ^ (8 * s) ∧ r = q := by
    intro s
    induction s with
    | zero => intro n m r q h; simp [fx] at h; exact ⟨by simp [Int.emod_one], h⟩
    | succ s ih =>
      intro n m r q h
      simp only [fx, List.cons_append, List.cons.injEq] at h
      obtain ⟨h1, h2⟩ := ih n m r q h.2
      refine ⟨?_, h2⟩
      have e1 := bt_nat (n / 2 ^ (8 * s))
      have e2 := bt_nat (m / 2 ^ (8 * s))
      rw [h.1] at e1
      have e3 : n / 2 ^ (8 * s) % 256 = m / 2 ^ (8 * s) % 256 := e1.symm.trans e2
      have hp : (2 : Int) ^ (8 * (s + 1)) = 2 ^ (8 * s) * 256 := by rw [show 8 * (s + 1) = 8 * s + 8 by omega, Int.pow_add]; rfl
      rw [hp]
      have key2 : ∀ x : Int, x % (2 ^ (8 * s) * 256) = x % 2 ^ (8 * s) + 2 ^ (8 * s) * (x / 2 ^ (8 * s) % 256) := fun x => emod_mul' _ _ _ (by exact Int.pow_nonneg (by omega))
      rw [key2, key2, h1, e3]
  intro n m r q hn hm h
  obtain ⟨h1, h2⟩ := key s n m r q h
  refine ⟨?_, h2⟩
  rw [Int.emod_eq_of_lt hn.1 hn.2, Int.emod_eq_of_lt hm.1 hm.2] at h1
  exact h1

theorem uniq_sh : Uniq (fun _ : Nat => True) sh := by
  intro n
  induction n using Nat.strongRecOn with
  | _ n ih =>
    intro m r q _ _ h
    by_cases hn : n < 128
    · rw [sh_lt hn] at h
      by_cases hm : m < 128
      · rw [sh_lt hm] at h
        simp only [List.cons_append, List.nil_append, List.cons.injEq] at h
        exact ⟨u8_inj (by omega) (by omega) h.1, h.2⟩
      · rw [sh_ge (by omega)] at h
        simp only [List.cons_append, List.nil_append, List.cons.injEq] at h
        have := u8_inj (by omega) (by omega) h.1
        omega
    · rw [sh_ge (by omega)] at h
      by_cases hm : m < 128
      · rw [sh_lt hm] at h
        simp only [List.cons_append, List.nil_append, List.cons.injEq] at h
        have := u8_inj (by omega) (by omega) h.1
        omega
      · rw [sh_ge (n := m) (by omega)] at h
        simp only [List.cons_append, List.nil_append, List.cons.injEq] at h
        have h1 := u8_inj (by omega) (by omega) h.1
        obtain ⟨h2, h3⟩ := ih (n / 128) (by omega) (m / 128) r q trivial trivial h.2
        exact ⟨by omega, h3⟩

def fl (b : Bool) : List UInt8 := [if b then 1 else 0]
theorem uniq_fl : Uniq (fun _ : Bool => True) fl := by
  intro x y r q _ _ h
  cases x <;> cases y <;> simp [fl] at h ⊢ <;> exact h

abbrev SB := ByteArray
abbrev by8 (s : ByteArray) : List UInt8 := s.data.toList
theorem by8_len (s : ByteArray) : (by8 s).length = s.size := by simp [by8]
theorem by8_inj {s t : ByteArray} (h : by8 s = by8 t) : s = t := by
  apply ByteArray.ext; exact Array.toList_inj.1 h
theorem by8_of (l : List UInt8) : by8 ⟨l.toArray⟩ = l := rfl
theorem app_len_inj {α : Type} {a b r q : List α} (hl : a.length = b.length) (h : a ++ r = b ++ q) : a = b ∧ r = q := List.append_inj h hl

/-- a text behind its size -/
def tx (f : Nat → List UInt8) (s : ByteArray) : List UInt8 := f s.size ++ by8 s
theorem uniq_tx {D : Nat → Prop} {f : Nat → List UInt8} (hf : Uniq D f) : Uniq (fun s : ByteArray => D s.size) (tx f) := by
  intro x y r q hx hy h
  unfold tx at h
  rw [List.append_assoc, List.append_assoc] at h
  obtain ⟨h1, h2⟩ := hf _ _ _ _ hx hy h
  obtain ⟨h3, h4⟩ := app_len_inj (by rw [by8_len, by8_len]; exact h1) h2
  exact ⟨by8_inj h3, h4⟩

/-- items behind their number -/
def ls {α : Type} (f : Nat → List UInt8) (g : α → List UInt8) (l : List α) : List UInt8 := f l.length ++ l.flatMap g
theorem uniq_flat {α : Type} {D : α → Prop} {g : α → List UInt8} (hg : Uniq D g) : ∀ (x y : List α) r q, (∀ a ∈ x, D a) → (∀ a ∈ y, D a) → x.length = y.length → x.flatMap g ++ r = y.flatMap g ++ q → x = y ∧ r = q := by
  intro x
  induction x with
  | nil => intro y r q _ _ hl h; cases y with
    | nil => exact ⟨rfl, by simpa using h⟩
    | cons b y => simp at hl
  | cons a x ih => intro y r q hx hy hl h; cases y with
    | nil => simp at hl
    | cons b y =>
      simp only [List.flatMap_cons, List.append_assoc] at h
      obtain ⟨h1, h2⟩ := hg a b _ _ (hx a (by simp)) (hy b (by simp)) h
      obtain ⟨h3, h4⟩ := ih y r q (fun c hc => hx c (by simp [hc])) (fun c hc => hy c (by simp [hc])) (by simpa using hl) h2
      exact ⟨by rw [h1, h3], h4⟩
theorem uniq_ls {α : Type} {E : Nat → Prop} {D : α → Prop} {f : Nat → List UInt8} {g : α → List UInt8} (hf : Uniq E f) (hg : Uniq D g) : Uniq (fun l : List α => E l.length ∧ ∀ a ∈ l, D a) (ls f g) := by
  intro x y r q hx hy h
  unfold ls at h
  rw [List.append_assoc, List.append_assoc] at h
  obtain ⟨h1, h2⟩ := hf _ _ _ _ hx.1 hy.1 h
  exact uniq_flat hg x y r q hx.2 hy.2 h1 h2

/-- a write; a command -/
structure Wt where
  k : ByteArray
  v : ByteArray
  g : Bool
structure Cm where
  kind : Int
  id : Int
  txn : Int
  com : Bool
  ws : List Wt
  text : ByteArray

/-- sizes by two bytes -/
def fx2 (n : Nat) : List UInt8 := fx 2 (n : Int)
theorem uniq_fx2 : Uniq (fun n : Nat => n < 65536) fx2 := by
  intro x y r q hx hy h
  obtain ⟨h1, h2⟩ := uniq_fx 2 (x : Int) (y : Int) r q ⟨by omega, by omega⟩ ⟨by omega, by omega⟩ h
  exact ⟨by omega, h2⟩

def wr1 (w : Wt) : List UInt8 := tx fx2 w.k ++ (tx fx2 w.v ++ fl w.g)
def wr2 (w : Wt) : List UInt8 := fl w.g ++ (tx sh w.k ++ if w.g then [] else tx sh w.v)
theorem uniq_wr1 : Uniq (fun w : Wt => w.k.size < 65536 ∧ w.v.size < 65536) wr1 := by
  rintro ⟨k, v, g⟩ ⟨k', v', g'⟩ r q hx hy h
  simp only [wr1, List.append_assoc] at h
  obtain ⟨h1, ha⟩ := uniq_tx uniq_fx2 _ _ _ _ hx.1 hy.1 h
  obtain ⟨h2, hb⟩ := uniq_tx uniq_fx2 _ _ _ _ hx.2 hy.2 ha
  obtain ⟨h3, hc⟩ := uniq_fl _ _ _ _ trivial trivial hb
  subst h1; subst h2; subst h3
  exact ⟨rfl, hc⟩
theorem uniq_wr2 : Uniq (fun w : Wt => w.g = true → w.v = ByteArray.empty) wr2 := by
  rintro ⟨k, v, g⟩ ⟨k', v', g'⟩ r q hx hy h
  simp only [wr2, List.append_assoc] at h
  obtain ⟨h3, ha⟩ := uniq_fl _ _ _ _ trivial trivial h
  obtain ⟨h1, hb⟩ := uniq_tx uniq_sh _ _ _ _ trivial trivial ha
  clear ha h
  have h := hb
  clear hb
  subst h1; subst h3
  cases g with
  | true =>
    simp at hx hy h
    subst hx; subst hy
    exact ⟨rfl, h⟩
  | false =>
    simp only [Bool.false_eq_true, if_false] at h
    obtain ⟨h2, hd⟩ := uniq_tx uniq_sh _ _ _ _ trivial trivial h
    subst h2
    exact ⟨rfl, hd⟩

def shI (n : Int) : List UInt8 := sh n.toNat
theorem uniq_shI : Uniq (fun n : Int => 0 ≤ n) shI := by
  intro x y r q hx hy h
  obtain ⟨h1, h2⟩ := uniq_sh _ _ _ _ trivial trivial h
  exact ⟨by omega, h2⟩

def enc1 (c : Cm) : List UInt8 := 49 :: (fx 1 c.kind ++ (fx 8 c.id ++ (fx 8 c.txn ++ (fl c.com ++ ls fx2 wr1 c.ws))))
def enc2 (c : Cm) : List UInt8 := 50 :: (fx 1 c.kind ++ (shI c.id ++ (shI c.txn ++ (fl c.com ++ (ls sh wr2 c.ws ++ tx sh c.text)))))
def enc (f : Int) (c : Cm) : List UInt8 := if f = 1 then enc1 c else enc2 c

def rightW (w : Wt) : Bool := decide (1 ≤ w.k.size ∧ w.k.size ≤ 300 ∧ w.v.size ≤ 4000 ∧ (w.g = true → w.v.size = 0))
def doesB (k : Int) : Bool := decide (k = 2 ∨ k = 3)
def rightC (c : Cm) : Bool := decide ((0 ≤ c.kind ∧ c.kind ≤ 5 ∧ 0 ≤ c.id ∧ 0 ≤ c.txn) ∧ (doesB c.kind = false → c.com = false ∧ c.ws.length = 0) ∧ (c.kind ≠ 5 → c.text.size = 0) ∧ c.text.size ≤ 40 ∧ c.ws.length ≤ 1000 ∧ ∀ w ∈ c.ws, rightW w = true)
def hasB (f k : Int) : Bool := decide (f = 2 ∨ f = 1 ∧ k ≠ 5)
def okC (f : Int) (c : Cm) : Bool := rightC c && hasB f c.kind

theorem rightW_of {w : Wt} (h : rightW w = true) : 1 ≤ w.k.size ∧ w.k.size ≤ 300 ∧ w.v.size ≤ 4000 ∧ (w.g = true → w.v.size = 0) := of_decide_eq_true h
theorem rightC_of {c : Cm} (h : rightC c = true) : (0 ≤ c.kind ∧ c.kind ≤ 5 ∧ 0 ≤ c.id ∧ 0 ≤ c.txn) ∧ (doesB c.kind = false → c.com = false ∧ c.ws.length = 0) ∧ (c.kind ≠ 5 → c.text.size = 0) ∧ c.text.size ≤ 40 ∧ c.ws.length ≤ 1000 ∧ ∀ w ∈ c.ws, rightW w = true := of_decide_eq_true h
theorem size0 {s : ByteArray} (h : s.size = 0) : s = ByteArray.empty := by
  apply by8_inj
  apply List.eq_nil_of_length_eq_zero
  rw [by8_len]; exact h

abbrev I63 (n : Int) : Prop := n ≤ 9223372036854775807
theorem enc1_inj {c d : Cm} (hc : rightC c = true) (hd : rightC d = true) (kc : c.kind ≠ 5) (kd : d.kind ≠ 5) (bc : I63 c.id ∧ I63 c.txn) (bd : I63 d.id ∧ I63 d.txn) (h : enc1 c = enc1 d) : c = d := by
  obtain ⟨k, i, t, m, w, x⟩ := c
  obtain ⟨k', i', t', m', w', x'⟩ := d
  obtain ⟨⟨a1, a2, a3, a4⟩, a5, a6, a7, a8, a9⟩ := rightC_of hc
  obtain ⟨⟨b1, b2, b3, b4⟩, b5, b6, b7, b8, b9⟩ := rightC_of hd
  simp only at *
  simp only [enc1, List.cons.injEq, true_and] at h
  obtain ⟨h1, h⟩ := uniq_fx 1 _ _ _ _ ⟨a1, by omega⟩ ⟨b1, by omega⟩ h
  obtain ⟨h2, h⟩ := uniq_fx 8 _ _ _ _ ⟨a3, by omega⟩ ⟨b3, by omega⟩ h
  obtain ⟨h3, h⟩ := uniq_fx 8 _ _ _ _ ⟨a4, by omega⟩ ⟨b4, by omega⟩ h
  obtain ⟨h4, h⟩ := uniq_fl _ _ _ _ trivial trivial h
  obtain ⟨h5, _⟩ := uniq_ls uniq_fx2 uniq_wr1 w w' [] [] ⟨by omega, fun a ha => by have := rightW_of (a9 a ha); omega⟩ ⟨by omega, fun a ha => by have := rightW_of (b9 a ha); omega⟩ (by simpa using h)
  have e1 := size0 (a6 kc)
  have e2 := size0 (b6 kd)
  rw [h1, h2, h3, h4, h5, e1, e2]
theorem enc2_inj {c d : Cm} (hc : rightC c = true) (hd : rightC d = true) (h : enc2 c = enc2 d) : c = d := by
  obtain ⟨k, i, t, m, w, x⟩ := c
  obtain ⟨k', i', t', m', w', x'⟩ := d
  obtain ⟨⟨a1, a2, a3, a4⟩, a5, a6, a7, a8, a9⟩ := rightC_of hc
  obtain ⟨⟨b1, b2, b3, b4⟩, b5, b6, b7, b8, b9⟩ := rightC_of hd
  simp only at *
  simp only [enc2, List.cons.injEq, true_and] at h
  obtain ⟨h1, h⟩ := uniq_fx 1 _ _ _ _ ⟨a1, by omega⟩ ⟨b1, by omega⟩ h
  obtain ⟨h2, h⟩ := uniq_shI _ _ _ _ a3 b3 h
  obtain ⟨h3, h⟩ := uniq_shI _ _ _ _ a4 b4 h
  obtain ⟨h4, h⟩ := uniq_fl _ _ _ _ trivial trivial h
  obtain ⟨h5, h⟩ := uniq_ls uniq_sh uniq_wr2 w w' _ _ ⟨trivial, fun a ha hg => size0 ((rightW_of (a9 a ha)).2.2.2 hg)⟩ ⟨trivial, fun a ha hg => size0 ((rightW_of (b9 a ha)).2.2.2 hg)⟩ h
  obtain ⟨h6, _⟩ := uniq_tx uniq_sh x x' [] [] trivial trivial (by simpa using h)
  rw [h1, h2, h3, h4, h5, h6]
theorem enc12 (c d : Cm) : enc1 c ≠ enc2 d := by
  intro h
  simp [enc1, enc2] at h
end Go.Proofs.Ytjmmfgmmmdbenaa
