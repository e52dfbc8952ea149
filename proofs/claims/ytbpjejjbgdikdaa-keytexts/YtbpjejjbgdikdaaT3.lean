/-
  What the statements' function within returns; keys of texts.
-/
import Derived.Test.YtbpjejjbgdikdaaT2
import Derived.Test.YtbpjejjbgdikdaaS17
import Derived.Test.YtbpjejjbgdikdaaH5
import Derived.OpenShut
namespace Go.Proofs.Ytbpjejjbgdikdaa
open Go.RowKit
set_option linter.unusedSimpArgs false
set_option linter.unusedVariables false

set_option maxHeartbeats 400000 in
theorem within2_any (x n : Int) (w : World) (hx : Is64 x) (hn : 0 < n ∧ n ≤ 9223372036854775807) :
    Calls Try.prog 17 #[.int .i64 x, .int .i64 n] w fun e w' => e = .returned (.int .i64 (x % n)) ∧ w' = w := by
  have hb := Int.emod_lt_of_pos x hn.1
  have hb' := Int.emod_nonneg x (show n ≠ 0 by omega)
  have hlt := tmod_lt x n hn.1
  have hge := tmod_ge x n hn.1
  have H1 : Hid (x.tmod n < 0 → x.tmod n + n = x % n ∧ -n < x.tmod n) := hlt
  have H2 : Hid (0 ≤ x.tmod n → x.tmod n = x % n) := hge
  clear hlt hge
  go_enter Try.func17, Try.ntmps17
  go_wp2
  · go_ret
    refine ⟨ret_int ?_, rfl⟩
    have := H1.out ‹_›
    rw [this.1]; exact wrap64_is _ (by unfold Is64; omega)
  · go_ret
    exact ⟨ret_int (H2.out ‹_›), rfl⟩
theorem within2_at {x n j : Int} (hx : Is64 x) (hn : 0 < n ∧ n ≤ 9223372036854775807) (hj : x % n = j) (w : World) :
    Calls Try.prog 17 #[.int .i64 x, .int .i64 n] w fun e w' => e = .returned (.int .i64 j) ∧ w' = w := hj ▸ within2_any x n w hx hn
theorem is64_lit {n : Int} (h : (Lit.int .i64 n).wf = true) : Is64 n := by
  exact bounds_i64 h
theorem extract_data' (s : ByteArray) (a : Nat) : (s.extract 0 a).data.toList = s.data.toList.take a := by
  rw [ByteArray.data_extract]; simp
theorem keyB_len (k n s : Int) (t : ByteArray) : (keyB k n s t).size = (keyN k n s t).length := by rw [keyB_str, str_size, nb_len]
theorem keyB_less {k n s : Int} {t : ByteArray} {k' n' s' : Int} {t' : ByteArray} (h : Ok k n s t) (h' : Ok k' n' s' t') :
    Op.bytesLess (keyB k n s t).toList (keyB k' n' s' t').toList = decide (rordV k n s t k' n' s' t' < 0) := by
  have := key_less h h' [] []
  rw [List.append_nil, List.append_nil] at this
  rw [keyB_list, keyB_list, this]
  by_cases g : rordV k n s t k' n' s' t' < 0
  · rw [if_pos g, decide_eq_true g]
  · rw [if_neg g, decide_eq_false g]; split <;> rfl
theorem keyB_same {k n s : Int} {t : ByteArray} {k' n' s' : Int} {t' : ByteArray} (h : Ok k n s t) (h' : Ok k' n' s' t') :
    ((keyB k n s t).toList == (keyB k' n' s' t').toList) = decide (rordV k n s t k' n' s' t' = 0) := by
  rw [keyB_list, keyB_list]
  by_cases g : rordV k n s t k' n' s' t' = 0
  · obtain ⟨rfl, rfl, rfl, rfl⟩ := rord_zero h h' g
    rw [decide_eq_true g]; simp
  · rw [decide_eq_false g, beq_eq_false_iff_ne]
    intro e
    obtain ⟨⟨rfl, rfl, rfl, rfl⟩, _⟩ := key_inj h h' [] [] (by rw [List.append_nil, List.append_nil]; exact e)
    exact g (rord_self h)
theorem cmpS_neg (x y : ByteArray) : decide (cmpS x y < 0) = Op.bytesLess x.toList y.toList := by
  rcases cmpS_cases x y with ⟨h1, h2⟩ | ⟨h1, h2, _⟩ | ⟨h1, h2, _⟩ <;> rw [h1, h2] <;> rfl
theorem rord_bytes (s t : ByteArray) : rordV 5 0 0 s 5 0 0 t = cmpS s t := by
  unfold rordV; rw [cmpI_same, if_neg (by simp), if_neg (by simp), if_neg (by decide)]
theorem less_front : ∀ (l : List UInt8) (j : Nat), j ≤ l.length → Op.bytesLess (l.take j) l = decide (j < l.length)
  | [], 0, _ => rfl
  | _ :: _, 0, _ => rfl
  | [], j + 1, h => by simp at h
  | a :: l, j + 1, h => by
    have := less_front l j (by simpa using h)
    simp only [List.take_succ_cons, Op.bytesLess, UInt8.lt_irrefl, decide_false, Bool.false_or, beq_self_eq_true, Bool.true_and, this, List.length_cons]
    exact decide_eq_decide.2 (by omega)
end Go.Proofs.Ytbpjejjbgdikdaa
