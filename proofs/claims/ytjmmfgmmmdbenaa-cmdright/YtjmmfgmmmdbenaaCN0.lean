/-
  Plain mathematics of the statements' Make: which command it makes, that it may be. No program is named here.
-/
import Derived.Test.YtjmmfgmmmdbenaaC0
import Derived.Test.YtjmmfgmmmdbenaaM
namespace Go.Proofs.Ytjmmfgmmmdbenaa
open Go.RowKit
set_option linter.unusedSimpArgs false
set_option linter.unusedVariables false

def rckB : ByteArray := ⟨#[114, 99, 107]⟩
theorem rck_size : rckB.size = 3 := rfl
/-- a write, of a number from 0 to 2^30 - 1 -/
def mkW (s : ByteArray) (n : Int) : Wt :=
  ⟨rckB.extract (n % 3).toNat ((n % 3).toNat + 1) ++ s.extract 0 (n / 3 % ((s.size : Int) + 1)).toNat,
   if n % 5 = 0 then ⟨#[]⟩ else s.extract (n / 7 % ((s.size : Int) + 1)).toNat s.size, decide (n % 5 = 0)⟩
def mkI (kind id : Int) : Int := if kind.tdiv 6 % 3 = 0 then id % 200 else if kind.tdiv 6 % 3 = 1 then id % 1099511627776 else 9223372036854775807
def mkWs (s : ByteArray) (zs : List Int) : List Wt := (zs.take 20).map fun z => mkW s (z % 1073741824)
def mkC (kind id txn : Int) (zs : List Int) (s : ByteArray) : Cm :=
  ⟨kind % 6, mkI kind id, txn % 1073741824, doesB (kind % 6) && decide (txn % 2 = 0), if doesB (kind % 6) then mkWs s zs else [], if kind % 6 = 5 then s.extract 0 (min s.size 40) else ⟨#[]⟩⟩
theorem mkW_size (s : ByteArray) (n : Int) : (mkW s n).k.size ≤ s.size + 1 ∧ 1 ≤ (mkW s n).k.size ∧ (mkW s n).v.size ≤ s.size := by
  have h3 : 0 ≤ n % 3 := Int.emod_nonneg _ (by decide)
  have h4 : n % 3 < 3 := Int.emod_lt_of_pos _ (by decide)
  unfold mkW
  simp only [ByteArray.size_append, ByteArray.size_extract, rck_size]
  refine ⟨by omega, by omega, ?_⟩
  split
  · exact Nat.zero_le _
  · rw [ByteArray.size_extract]; omega
theorem mkW_right (s : ByteArray) (n : Int) (hs : s.size ≤ 200) : rightW (mkW s n) = true := by
  obtain ⟨h1, h2, h3⟩ := mkW_size s n
  unfold rightW
  refine decide_eq_true ⟨h2, by omega, by omega, fun hg => ?_⟩
  have : n % 5 = 0 := by simpa [mkW] using hg
  simp only [mkW, this, if_true]; rfl
theorem mkWs_len (s : ByteArray) (zs : List Int) : (mkWs s zs).length ≤ 20 := by unfold mkWs; rw [List.length_map, List.length_take]; omega
theorem mkI_bd (kind id : Int) : 0 ≤ mkI kind id ∧ mkI kind id ≤ 9223372036854775807 := by
  have h1 := Int.emod_nonneg id (show (200 : Int) ≠ 0 by decide)
  have h2 := Int.emod_lt_of_pos id (show (0 : Int) < 200 by decide)
  have h3 := Int.emod_nonneg id (show (1099511627776 : Int) ≠ 0 by decide)
  have h4 := Int.emod_lt_of_pos id (show (0 : Int) < 1099511627776 by decide)
  unfold mkI
  split
  · omega
  · split <;> omega
theorem mkC_right (kind id txn : Int) (zs : List Int) (s : ByteArray) (hs : s.size ≤ 200) : rightC (mkC kind id txn zs s) = true := by
  have hi := mkI_bd kind id
  unfold rightC
  refine decide_eq_true ⟨⟨?_, ?_, hi.1, ?_⟩, ?_, ?_, ?_, ?_, ?_⟩
  · exact Int.emod_nonneg _ (by decide)
  · have := Int.emod_lt_of_pos kind (show (0 : Int) < 6 by decide); show kind % 6 ≤ 5; omega
  · exact Int.emod_nonneg _ (by decide)
  · intro h
    have h : doesB (kind % 6) = false := h
    refine ⟨by simp [mkC, h], by simp [mkC, h]⟩
  · intro h
    have h : kind % 6 ≠ 5 := h
    simp only [mkC, if_neg h]; rfl
  · show (if kind % 6 = 5 then s.extract 0 (min s.size 40) else (⟨#[]⟩ : ByteArray)).size ≤ 40
    split
    · rw [ByteArray.size_extract]; omega
    · exact Nat.zero_le _
  · show (if doesB (kind % 6) then mkWs s zs else []).length ≤ 1000
    have := mkWs_len s zs
    split
    · omega
    · exact Nat.zero_le _
  · show ∀ w ∈ (if doesB (kind % 6) then mkWs s zs else []), rightW w = true
    split
    · intro w hw
      obtain ⟨z, _, rfl⟩ := List.mem_map.1 hw
      exact mkW_right s _ hs
    · intro w hw; cases hw
theorem mkC_ok2 (kind id txn : Int) (zs : List Int) (s : ByteArray) (hs : s.size ≤ 200) : okC 2 (mkC kind id txn zs s) = true := by
  unfold okC; rw [mkC_right _ _ _ _ _ hs]; rfl
theorem mkC_ok1 (kind id txn : Int) (zs : List Int) (s : ByteArray) (hs : s.size ≤ 200) : okC 1 (mkC kind id txn zs s) = decide (kind % 6 ≠ 5) := by
  unfold okC; rw [mkC_right _ _ _ _ _ hs, Bool.true_and]
  unfold hasB
  rw [decide_eq_decide]
  show (1 : Int) = 2 ∨ (1 : Int) = 1 ∧ kind % 6 ≠ 5 ↔ _
  omega
theorem mkC_bd (kind id txn : Int) (zs : List Int) (s : ByteArray) : (mkC kind id txn zs s).id ≤ 9223372036854775807 ∧ (mkC kind id txn zs s).txn ≤ 9223372036854775807 := by
  refine ⟨(mkI_bd kind id).2, ?_⟩
  have := Int.emod_lt_of_pos txn (show (0 : Int) < 1073741824 by decide)
  show txn % 1073741824 ≤ _
  omega
theorem mkWs_snoc (s : ByteArray) (zs : List Int) (k : Nat) (h : k < zs.length) (h20 : k < 20) : mkWs s (zs.take k) ++ [mkW s (zs[k] % 1073741824)] = mkWs s (zs.take (k + 1)) := by
  unfold mkWs
  rw [List.take_take, List.take_take, show min 20 k = k by omega, show min 20 (k + 1) = k + 1 by omega, List.take_add_one, List.getElem?_eq_getElem h, List.map_append]
  rfl
theorem mkWs_all (s : ByteArray) (zs : List Int) (k : Nat) (h : k = zs.length ∨ k = 20) (hk : k ≤ zs.length) : mkWs s (zs.take k) = mkWs s zs := by
  unfold mkWs
  rw [List.take_take]
  congr 1
  rw [List.take_eq_take_iff]
  omega
end Go.Proofs.Ytjmmfgmmmdbenaa
