/-
  Plain mathematics: what a command's bytes begin with is no other command's; numbers written longer than need be.
-/
import Derived.Test.YtjmmfgmmmdbenaaCP0
namespace Go.Proofs.Ytjmmfgmmmdbenaa
open Go.RowKit
set_option linter.unusedSimpArgs false
set_option linter.unusedVariables false

theorem uniq_enc1 {c d : Cm} {r q : List UInt8} (hc : rightC c = true) (hd : rightC d = true) (kc : c.kind ≠ 5) (kd : d.kind ≠ 5) (bc : I63 c.id ∧ I63 c.txn) (bd : I63 d.id ∧ I63 d.txn) (h : enc1 c ++ r = enc1 d ++ q) : c = d ∧ r = q := by
  obtain ⟨k, i, t, m, w, x⟩ := c
  obtain ⟨k', i', t', m', w', x'⟩ := d
  obtain ⟨⟨a1, a2, a3, a4⟩, a5, a6, a7, a8, a9⟩ := rightC_of hc
  obtain ⟨⟨b1, b2, b3, b4⟩, b5, b6, b7, b8, b9⟩ := rightC_of hd
  simp only at *
  simp only [enc1, List.cons_append, List.append_assoc, List.cons.injEq, true_and] at h
  obtain ⟨h1, h⟩ := uniq_fx 1 _ _ _ _ ⟨a1, by omega⟩ ⟨b1, by omega⟩ h
  obtain ⟨h2, h⟩ := uniq_fx 8 _ _ _ _ ⟨a3, by omega⟩ ⟨b3, by omega⟩ h
  obtain ⟨h3, h⟩ := uniq_fx 8 _ _ _ _ ⟨a4, by omega⟩ ⟨b4, by omega⟩ h
  obtain ⟨h4, h⟩ := uniq_fl _ _ _ _ trivial trivial h
  obtain ⟨h5, h6⟩ := uniq_ls uniq_fx2 uniq_wr1 w w' r q ⟨by omega, fun a ha => by have := rightW_of (a9 a ha); omega⟩ ⟨by omega, fun a ha => by have := rightW_of (b9 a ha); omega⟩ h
  have e1 := size0 (a6 kc)
  have e2 := size0 (b6 kd)
  exact ⟨by rw [h1, h2, h3, h4, h5, e1, e2], h6⟩
theorem uniq_enc2 {c d : Cm} {r q : List UInt8} (hc : rightC c = true) (hd : rightC d = true) (h : enc2 c ++ r = enc2 d ++ q) : c = d ∧ r = q := by
  obtain ⟨k, i, t, m, w, x⟩ := c
  obtain ⟨k', i', t', m', w', x'⟩ := d
  obtain ⟨⟨a1, a2, a3, a4⟩, a5, a6, a7, a8, a9⟩ := rightC_of hc
  obtain ⟨⟨b1, b2, b3, b4⟩, b5, b6, b7, b8, b9⟩ := rightC_of hd
  simp only at *
  simp only [enc2, List.cons_append, List.append_assoc, List.cons.injEq, true_and] at h
  obtain ⟨h1, h⟩ := uniq_fx 1 _ _ _ _ ⟨a1, by omega⟩ ⟨b1, by omega⟩ h
  obtain ⟨h2, h⟩ := uniq_shI _ _ _ _ a3 b3 h
  obtain ⟨h3, h⟩ := uniq_shI _ _ _ _ a4 b4 h
  obtain ⟨h4, h⟩ := uniq_fl _ _ _ _ trivial trivial h
  obtain ⟨h5, h⟩ := uniq_ls uniq_sh uniq_wr2 w w' _ _ ⟨trivial, fun a ha hg => size0 ((rightW_of (a9 a ha)).2.2.2 hg)⟩ ⟨trivial, fun a ha hg => size0 ((rightW_of (b9 a ha)).2.2.2 hg)⟩ h
  obtain ⟨h6, h7⟩ := uniq_tx uniq_sh x x' r q trivial trivial h
  exact ⟨by rw [h1, h2, h3, h4, h5, h6], h7⟩
theorem okC_parts {f : Int} {c : Cm} (h : okC f c = true) : rightC c = true ∧ (f = 2 ∨ f = 1 ∧ c.kind ≠ 5) := by
  unfold okC at h
  rw [Bool.and_eq_true] at h
  exact ⟨h.1, of_decide_eq_true h.2⟩
theorem uniq_enc {f g : Int} {c d : Cm} {r q : List UInt8} (hc : okC f c = true) (hd : okC g d = true) (bc : I63 c.id ∧ I63 c.txn) (bd : I63 d.id ∧ I63 d.txn) (h : enc f c ++ r = enc g d ++ q) : f = g ∧ c = d ∧ r = q := by
  obtain ⟨c1, c2⟩ := okC_parts hc
  obtain ⟨d1, d2⟩ := okC_parts hd
  rcases c2 with rfl | ⟨rfl, c2⟩ <;> rcases d2 with rfl | ⟨rfl, d2⟩
  · exact ⟨rfl, uniq_enc2 c1 d1 h⟩
  · exfalso
    simp [enc, enc1, enc2] at h
  · exfalso
    simp [enc, enc1, enc2] at h
  · exact ⟨rfl, uniq_enc1 c1 d1 c2 d2 bc bd h⟩
theorem cqf_bd {f : Int} {c : Cm} (h : CQf f c) : I63 c.id ∧ I63 c.txn := by
  have := cq_fine h
  exact ⟨this.id.2, this.txn.2⟩
/-- cut off, a command's bytes are none -/
theorem none_cut {f : Int} {c : Cm} {s : ByteArray} (hc : okC f c = true) (bc : I63 c.id ∧ I63 c.txn) (hs : by8 s = enc f c) (k : Nat) (hk : k < s.size) : NoneB (s.extract 0 k) := by
  intro g d _ hd hq h
  have h2 : by8 s = by8 (s.extract 0 k) ++ (by8 s).drop k := by
    rw [show by8 (s.extract 0 k) = (by8 s).take k by simp [by8], List.take_append_drop]
  rw [hs] at h2
  rw [h] at h2
  obtain ⟨_, _, h5⟩ := uniq_enc (r := []) hc hd bc (cqf_bd hq) (by rw [List.append_nil]; exact h2)
  have h6 := congrArg List.length h5
  rw [← hs] at h6
  rw [List.length_drop, by8_len] at h6
  simp at h6
  omega
/-- with more behind, they are none -/
theorem none_more {f : Int} {c : Cm} {s t : ByteArray} (hc : okC f c = true) (bc : I63 c.id ∧ I63 c.txn) (hs : by8 s = enc f c) (ht : t ≠ ⟨#[]⟩) : NoneB (s ++ t) := by
  intro g d _ hd hq h
  have h2 : by8 (s ++ t) = by8 s ++ by8 t := by simp [by8]
  rw [h2, hs] at h
  obtain ⟨_, _, h5⟩ := uniq_enc (r := by8 t) (q := []) hc hd bc (cqf_bd hq) (h.trans (List.append_nil _).symm)
  apply ht
  apply by8_inj
  rw [h5]
/-- seven bits a byte do not end in a nought -/
theorem sh_pad (p : Nat) : ∀ (m : Nat) (r q : List UInt8), 1 ≤ m → sh m ++ r = List.replicate p 128 ++ 0 :: q → False := by
  induction p with
  | zero =>
    intro m r q hm h
    by_cases h1 : m < 128
    · rw [sh_lt h1] at h
      simp only [List.replicate_zero, List.nil_append, List.cons_append, List.cons.injEq] at h
      have := congrArg UInt8.toNat h.1
      rw [u8_ofNat (by omega)] at this
      have e : (0 : UInt8).toNat = 0 := rfl
      omega
    · rw [sh_ge (by omega)] at h
      simp only [List.replicate_zero, List.nil_append, List.cons_append, List.cons.injEq] at h
      have := congrArg UInt8.toNat h.1
      rw [u8_ofNat (by omega)] at this
      have e : (0 : UInt8).toNat = 0 := rfl
      omega
  | succ p ih =>
    intro m r q hm h
    by_cases h1 : m < 128
    · rw [sh_lt h1] at h
      simp only [List.replicate_succ, List.cons_append, List.nil_append, List.cons.injEq] at h
      have := congrArg UInt8.toNat h.1
      rw [u8_ofNat (by omega)] at this
      have e : (128 : UInt8).toNat = 128 := rfl
      omega
    · rw [sh_ge (by omega)] at h
      simp only [List.replicate_succ, List.cons_append, List.cons.injEq] at h
      exact ih (m / 128) r q (by omega) h.2
theorem none_pad (k p : Nat) (hk : k < 128) (s : ByteArray) (q : List UInt8) (hs : by8 s = 50 :: 1 :: UInt8.ofNat (k + 128) :: (List.replicate p 128 ++ 0 :: q)) : NoneB s := by
  intro g d hg hd hq h
  rw [hs] at h
  rcases hg with rfl | rfl
  · simp [enc, enc1] at h
  · simp only [enc, enc2, fx, List.cons_append, List.nil_append, List.cons.injEq, true_and] at h
    simp only [show ((2 : Int) = 1) = False by simp, if_false, List.cons.injEq, true_and] at h
    have h3 := h.2
    by_cases h1 : d.id.toNat < 128
    · simp only [shI] at h3
      rw [sh_lt h1] at h3
      simp only [List.cons_append, List.nil_append, List.cons.injEq] at h3
      have := congrArg UInt8.toNat h3.1
      rw [u8_ofNat (by omega), u8_ofNat (by omega)] at this
      omega
    · simp only [shI] at h3
      rw [sh_ge (by omega)] at h3
      simp only [List.cons_append, List.cons.injEq] at h3
      exact sh_pad p (d.id.toNat / 128) _ _ (by omega) h3.2.symm
theorem enc_ne_of {f g : Int} {c d : Cm} (gc : GoodC c) (gd : GoodC d) (hf : f = 2 ∨ f = 1 ∧ c.kind ≠ 5) (hg : g = 2 ∨ g = 1 ∧ d.kind ≠ 5) (hne : ¬ (f = g ∧ c = d)) : ¬ encS f c = encS g d := by
  intro h
  have h2 : enc f c ++ [] = enc g d ++ [] := by rw [← encS_by8 (gc.ok hf), ← encS_by8 (gd.ok hg), h]
  obtain ⟨a, b, _⟩ := uniq_enc (gc.ok hf) (gd.ok hg) ⟨gc.2.1, gc.2.2⟩ ⟨gd.2.1, gd.2.2⟩ h2
  exact hne ⟨a, b⟩
end Go.Proofs.Ytjmmfgmmmdbenaa
