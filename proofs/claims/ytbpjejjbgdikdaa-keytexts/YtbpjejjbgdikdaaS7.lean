/-
  Numbers read off a text's front: what package key's number returns and leaves.
-/
import Derived.Test.YtbpjejjbgdikdaaS0
import Derived.Test.YtbpjejjbgdikdaaF
import Derived.Laws.Bits64b
namespace Go.Proofs.Ytbpjejjbgdikdaa
open Go.RowKit
set_option linter.unusedSimpArgs false
set_option linter.unusedVariables false

/-- the text of a list of bytes -/
abbrev Str (l : List UInt8) : ByteArray := ⟨l.toArray⟩
theorem str_size (l : List UInt8) : (Str l).size = l.length := by simp [ByteArray.size]
/-- bytes as a number, the highest first -/
def numB (l : List UInt8) : Int := l.foldl (fun n c => n * 256 + (c.toNat : Int)) 0
theorem numB_snoc (l : List UInt8) (c : UInt8) : numB (l ++ [c]) = numB l * 256 + (c.toNat : Int) := by simp [numB]
theorem numB_take (l : List UInt8) (k : Nat) (h : k < l.length) : numB (l.take (k + 1)) = numB (l.take k) * 256 + ((Str l)[k]'(by rw [str_size]; exact h)).toNat := by
  rw [List.take_succ_eq_append_getElem h, numB_snoc]; rfl
theorem numB_bd : ∀ (k : Nat) (l : List UInt8), l.length = k → 0 ≤ numB l ∧ numB l < 256 ^ k
  | 0, l, h => by
    have : l = [] := List.length_eq_zero_iff.1 h
    subst this; simp [numB]
  | k + 1, l, h => by
    have hne : l ≠ [] := by intro e; rw [e] at h; simp at h
    rw [← List.dropLast_concat_getLast hne, numB_snoc]
    have ih := numB_bd k l.dropLast (by simp [h])
    have hc := (l.getLast hne).toNat_lt
    rw [Int.pow_succ]; omega
theorem or_byte (a : Int) (c : UInt8) (h0 : 0 ≤ a) (h1 : a < 72057594037927936) : bits BinOp.or IntKind.u64 (IntKind.u64.wrap (a * 256)) (IntKind.u64.wrap (c.toNat : Int)) = a * 256 + (c.toNat : Int) := by
  have hc : c.toNat < 256 := c.toNat_lt
  obtain ⟨m, rfl⟩ : ∃ m : Nat, a = m := ⟨a.toNat, by omega⟩
  rw [IntKind.wrap_u64, IntKind.wrap_u64, Int.emod_eq_of_lt (by omega) (by omega), Int.emod_eq_of_lt (by omega) (by omega)]
  have := bits_or_u64_nat (2 ^ 8 * m) c.toNat (by omega) (by omega)
  rw [show ((m : Int) * 256) = ((2 ^ 8 * m : Nat) : Int) by simp; omega]
  refine this.trans ?_
  rw [← Nat.two_pow_add_eq_or_of_lt (by omega)]
  simp
theorem str_drop (l : List UInt8) (k : Nat) (h : k ≤ l.length) : (Str l).extract k l.length = Str (l.drop k) := by
  apply ByteArray.ext
  rw [ByteArray.data_extract]
  apply Array.toList_inj.1
  simp [List.drop_take]
  exact List.take_of_length_le (by simp)
theorem tup_ub {q : IntKind} {a b : Int} {p : Bool} (h1 : a = b) : Ending.returned (.tuple #[.int q a, .bool p]) = .returned (.tuple #[.int q b, .bool p]) := by rw [h1]

theorem pow_le_pow_byte {C : Nat} (k : Nat) (h : k < C) : (256 : Int) ^ k ≤ 256 ^ (C - 1) := by
  have := Nat.pow_le_pow_right (n := 256) (by decide) (show k ≤ C - 1 by omega)
  have h : ((256 ^ k : Nat) : Int) ≤ ((256 ^ (C - 1) : Nat) : Int) := Int.ofNat_le.2 this
  rw [Int.natCast_pow, Int.natCast_pow] at h
  exact h

set_option maxHeartbeats 1000000 in
theorem nm64_yes (l : List UInt8) (hl : 8 ≤ l.length) (hm : l.length ≤ 1000000) (b : Nat) (w : World) (hc : w.cell? ⟨b, 0, none⟩ = some (.string (Str l))) (hf : w.frozen? ⟨b, 0, none⟩ = false) :
    Calls Try.prog 45 #[.pointer (some ⟨b, 0, none⟩)] w fun e w' => e = .returned (.tuple #[.int .u64 (numB (l.take 8)), .bool true]) ∧ w' = w.setCell ⟨b, 0, none⟩ (.string (Str (l.drop 8))) := by
  have hs : (Str l).size = l.length := by simp [ByteArray.size]
  have hd := str_drop l 8 hl
  go_enter Try.func45, Try.ntmps45
  go_wp2_with (go_at_call 62; refine (wid64_any _).mono ?_; rintro e w' ⟨rfl, rfl⟩)
  go_loop [5, 17] (fun p i => ∃ k : Nat, k ≤ 8 ∧ i = .int .i64 (k : Int) ∧ p = .int .u64 (numB (l.take k))) (fun _ i => 8 - (intOf i).toNat)
  case atStart => exact ⟨0, by omega, rfl, rfl⟩
  case round =>
    obtain ⟨k, hk, rfl, rfl⟩ := hrel
    by_cases h8 : k < 8
    · have hkl : k < l.length := by omega
      have hb := numB_bd k (l.take k) (by simp; omega)
      have hp : (256 : Int) ^ k ≤ 256 ^ (8 - 1) := pow_le_pow_byte k h8
      have hor := or_byte (numB (l.take k)) ((Str l)[k]'(by rw [str_size]; exact hkl)) hb.1 (by simp at hp; omega)
      rw [← numB_take l k hkl] at hor
      clear hb hp
      go_wp2
      exact ⟨⟨k + 1, by omega, by go_num, rfl⟩, by simp [intOf]; omega⟩
    · obtain rfl : k = 8 := by omega
      skip
      go_wp2
      go_ret2
      exact ⟨rfl, rfl⟩
set_option maxHeartbeats 1000000 in
theorem nm64_no (l : List UInt8) (hl : l.length < 8) (b : Nat) (w : World) (hc : w.cell? ⟨b, 0, none⟩ = some (.string (Str l))) :
    Calls Try.prog 45 #[.pointer (some ⟨b, 0, none⟩)] w fun e w' => e = .returned (.tuple #[.int .u64 0, .bool false]) ∧ w' = w := by
  have hs : (Str l).size = l.length := by simp [ByteArray.size]
  go_enter Try.func45, Try.ntmps45
  go_wp2_with (go_at_call 62; refine (wid64_any _).mono ?_; rintro e w' ⟨rfl, rfl⟩)
  go_ret2
  exact ⟨rfl, rfl⟩

set_option maxHeartbeats 1000000 in
theorem nm32_yes (l : List UInt8) (hl : 4 ≤ l.length) (hm : l.length ≤ 1000000) (b : Nat) (w : World) (hc : w.cell? ⟨b, 0, none⟩ = some (.string (Str l))) (hf : w.frozen? ⟨b, 0, none⟩ = false) :
    Calls Try.prog 63 #[.pointer (some ⟨b, 0, none⟩)] w fun e w' => e = .returned (.tuple #[.int .u32 (numB (l.take 4)), .bool true]) ∧ w' = w.setCell ⟨b, 0, none⟩ (.string (Str (l.drop 4))) := by
  have hs : (Str l).size = l.length := by simp [ByteArray.size]
  have hd := str_drop l 4 hl
  go_enter Try.func63, Try.ntmps63
  go_wp2_with (go_at_call 70; refine (wid32_any _).mono ?_; rintro e w' ⟨rfl, rfl⟩)
  go_loop [5, 17] (fun p i => ∃ k : Nat, k ≤ 4 ∧ i = .int .i64 (k : Int) ∧ p = .int .u64 (numB (l.take k))) (fun _ i => 4 - (intOf i).toNat)
  case atStart => exact ⟨0, by omega, rfl, rfl⟩
  case round =>
    obtain ⟨k, hk, rfl, rfl⟩ := hrel
    by_cases h8 : k < 4
    · have hkl : k < l.length := by omega
      have hb := numB_bd k (l.take k) (by simp; omega)
      have hp : (256 : Int) ^ k ≤ 256 ^ (4 - 1) := pow_le_pow_byte k h8
      have hor := or_byte (numB (l.take k)) ((Str l)[k]'(by rw [str_size]; exact hkl)) hb.1 (by simp at hp; omega)
      rw [← numB_take l k hkl] at hor
      clear hb hp
      go_wp2
      exact ⟨⟨k + 1, by omega, by go_num, rfl⟩, by simp [intOf]; omega⟩
    · obtain rfl : k = 4 := by omega
      have hb := numB_bd 4 (l.take 4) (by simp; omega)
      have hw : numB (l.take 4) % 4294967296 = numB (l.take 4) := Int.emod_eq_of_lt hb.1 (by simpa using hb.2)
      clear hb
      go_wp2
      go_ret2
      exact ⟨rfl, rfl⟩
set_option maxHeartbeats 1000000 in
theorem nm32_no (l : List UInt8) (hl : l.length < 4) (b : Nat) (w : World) (hc : w.cell? ⟨b, 0, none⟩ = some (.string (Str l))) :
    Calls Try.prog 63 #[.pointer (some ⟨b, 0, none⟩)] w fun e w' => e = .returned (.tuple #[.int .u32 0, .bool false]) ∧ w' = w := by
  have hs : (Str l).size = l.length := by simp [ByteArray.size]
  go_enter Try.func63, Try.ntmps63
  go_wp2_with (go_at_call 70; refine (wid32_any _).mono ?_; rintro e w' ⟨rfl, rfl⟩)
  go_ret2
  exact ⟨rfl, rfl⟩

set_option maxHeartbeats 1000000 in
theorem nm8_yes (l : List UInt8) (hl : 1 ≤ l.length) (hm : l.length ≤ 1000000) (b : Nat) (w : World) (hc : w.cell? ⟨b, 0, none⟩ = some (.string (Str l))) (hf : w.frozen? ⟨b, 0, none⟩ = false) :
    Calls Try.prog 44 #[.pointer (some ⟨b, 0, none⟩)] w fun e w' => e = .returned (.tuple #[.int .u8 (numB (l.take 1)), .bool true]) ∧ w' = w.setCell ⟨b, 0, none⟩ (.string (Str (l.drop 1))) := by
  have hs : (Str l).size = l.length := by simp [ByteArray.size]
  have hd := str_drop l 1 hl
  go_enter Try.func44, Try.ntmps44
  go_wp2_with (go_at_call 61; refine (wid8_any _).mono ?_; rintro e w' ⟨rfl, rfl⟩)
  go_loop [5, 17] (fun p i => ∃ k : Nat, k ≤ 1 ∧ i = .int .i64 (k : Int) ∧ p = .int .u64 (numB (l.take k))) (fun _ i => 1 - (intOf i).toNat)
  case atStart => exact ⟨0, by omega, rfl, rfl⟩
  case round =>
    obtain ⟨k, hk, rfl, rfl⟩ := hrel
    by_cases h8 : k < 1
    · have hkl : k < l.length := by omega
      have hb := numB_bd k (l.take k) (by simp; omega)
      have hp : (256 : Int) ^ k ≤ 256 ^ (1 - 1) := pow_le_pow_byte k h8
      have hor := or_byte (numB (l.take k)) ((Str l)[k]'(by rw [str_size]; exact hkl)) hb.1 (by simp at hp; omega)
      rw [← numB_take l k hkl] at hor
      clear hb hp
      go_wp2
      exact ⟨⟨k + 1, by omega, by go_num, rfl⟩, by simp [intOf]; omega⟩
    · obtain rfl : k = 1 := by omega
      have hb := numB_bd 1 (l.take 1) (by simp; omega)
      have hw : numB (l.take 1) % 256 = numB (l.take 1) := Int.emod_eq_of_lt hb.1 (by simpa using hb.2)
      clear hb
      go_wp2
      go_ret2
      exact ⟨rfl, rfl⟩
set_option maxHeartbeats 1000000 in
theorem nm8_no (l : List UInt8) (hl : l.length < 1) (b : Nat) (w : World) (hc : w.cell? ⟨b, 0, none⟩ = some (.string (Str l))) :
    Calls Try.prog 44 #[.pointer (some ⟨b, 0, none⟩)] w fun e w' => e = .returned (.tuple #[.int .u8 0, .bool false]) ∧ w' = w := by
  have hs : (Str l).size = l.length := by simp [ByteArray.size]
  go_enter Try.func44, Try.ntmps44
  go_wp2_with (go_at_call 61; refine (wid8_any _).mono ?_; rintro e w' ⟨rfl, rfl⟩)
  go_ret2
  exact ⟨rfl, rfl⟩
end Go.Proofs.Ytbpjejjbgdikdaa
