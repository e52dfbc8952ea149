/-
  A text's bytes as a key has them: what package key's marked goes through.
-/
import Derived.Test.YtbpjejjbgdikdaaS2
namespace Go.Proofs.Ytbpjejjbgdikdaa
open Go.RowKit Go.Shelf
set_option linter.unusedSimpArgs false
set_option linter.unusedVariables false
attribute [local go_sem] Oper.semAt_some

/-- a byte as a key's text has it -/
def esc (c : UInt8) : List Int := if c = 0 then [0, 255] else [(c.toNat : Int)]
def escL (l : List UInt8) : List Int := l.flatMap esc
def markL (t : ByteArray) : List Int := escL t.data.toList ++ [0, 1]
theorem esc_len (c : UInt8) : (esc c).length ≤ 2 := by unfold esc; split <;> simp
theorem escL_len (l : List UInt8) : (escL l).length ≤ 2 * l.length := by
  induction l with
  | nil => simp [escL]
  | cons c l ih => have := esc_len c; simp [escL] at *; omega
theorem escL_snoc (l : List UInt8) (c : UInt8) : escL (l ++ [c]) = escL l ++ esc c := by simp [escL]
theorem escL_bd (l : List UInt8) : ∀ y ∈ escL l, 0 ≤ y ∧ y < 256 := by
  intro y hy
  simp [escL] at hy
  obtain ⟨c, _, h⟩ := hy
  unfold esc at h
  split at h
  · simp at h; omega
  · simp at h; have := c.toNat_lt; omega
theorem take_one (s : ByteArray) (k : Nat) (h : k < s.size) : s.data.toList.take (k + 1) = s.data.toList.take k ++ [s[k]] := by
  rw [List.take_succ_eq_append_getElem (by simpa using h)]; rfl
theorem byte_zero (c : UInt8) : (c.toNat : Int) = 0 ↔ c = 0 := by
  constructor
  · intro h; have h' : c.toNat = 0 := by omega
    exact UInt8.toNat_inj.1 h'
  · rintro rfl; rfl

/-- what a round keeps: the text's box -/
def Kps (Bn : Nat) (t : ByteArray) (A B : World) : Prop := Boxed A Bn 9 (.string t) → Boxed B Bn 9 (.string t)

set_option maxRecDepth 100000 in
set_option maxHeartbeats 2000000 in
theorem markedC_in (n : Nat) (hn : 1 ≤ n) (l Bn : Nat) (t : ByteArray) (ht : t.size ≤ 1000000) (J Jx : List Int → World → Prop)
    (hY : ∀ pre y W, J pre W → pre.length < 2 * t.size + 2 → YieldAt Fence.wide (n - 1) Try.prog l #[.int .u8 y] W fun e W' =>
      (e = .returned (.bool true) ∧ J (pre ++ [y]) W' ∧ Kps Bn t W W') ∨ (e = .returned (.bool false) ∧ Jx (pre ++ [y]) W'))
    (W : World) (hB : Boxed W Bn 9 (.string t)) (h0 : J [] W) :
    CallsIn Fence.wide n Try.prog 60 #[.func (.yield l) #[] #[], .pointer (some ⟨Bn, 0, none⟩)] W fun e W' => (∃ v, e = .returned v) ∧
      ((∃ ys, ys = markL t ∧ J ys W') ∨ (∃ pre, True ∧ Jx pre W')) := by
  refine callsIn_of_wp Try.func60 rfl trivial ?_ rfl
  simp only [Try.ntmps60, List.size_toArray, List.length_cons, List.length_nil, Nat.reduceAdd, Nat.reduceSub, Array.replicate_succ, Array.replicate_zero, List.push_toArray, List.append_toArray, List.nil_append, List.cons_append]
  have hcB := hB.cell
  gi_wp2
  gi_loopw [6] (fun p wr => ∃ k : Nat, k ≤ t.size ∧ p = .int .i64 (k : Int) ∧ Boxed wr Bn 9 (.string t) ∧ J (escL (t.data.toList.take k)) wr)
    (fun p wr => t.size - (intOf p).toNat)
  case atStart =>
    exact ⟨0, by omega, rfl, hB, h0⟩
  case round =>
    obtain ⟨k, hk, rfl, hb, hJs⟩ := hrel
    have hc := hb.cell
    by_cases h8 : k < t.size
    · have hlen : (escL (t.data.toList.take k)).length ≤ 2 * k := by
        have := escL_len (t.data.toList.take k); simp at this; omega
      have hsn : Hid (escL (t.data.toList.take (k + 1)) = escL (t.data.toList.take k) ++ esc t[k]) := by show _ = _; rw [take_one t k h8, escL_snoc]
      obtain ⟨fn, tmps, assign, body, hy, hR⟩ := hY (escL (t.data.toList.take k)) (t[k].toNat : Int) wr hJs (by omega)
      by_cases hz : t[k] = 0
      · have hz1 : (t[k].toNat : Int) = 0 := (byte_zero _).2 hz
        have he : Hid (esc t[k] = [0] ++ [255]) := by show _ = _; unfold esc; rw [if_pos hz]; rfl
        clear hz
        rw [hz1] at hy hR
        gi_wp2
        refine hR.mono ?_
        rintro e W3 (⟨rfl, hJ3, hk3⟩ | ⟨rfl, hJx3⟩)
        · have hb3 := hk3 hb
          have hc3 := hb3.cell
          obtain ⟨fn2, tmps2, assign2, body2, hy2, hR2⟩ := hY _ 255 W3 hJ3 (by simp; omega)
          gi_wp2
          refine hR2.mono ?_
          rintro e W4 (⟨rfl, hJ4, hk4⟩ | ⟨rfl, hJx4⟩)
          · gi_wp2
            go_roundw
            case rel => exact ⟨k + 1, by omega, by go_num, hk4 hb3, by rw [hsn.out, he.out, ← List.append_assoc]; exact hJ4⟩
            case measure => simp [intOf]; omega
          · gi_wp2
            refine bodyPost_ret (results_none rfl _ _ _) rfl ?_
            exact ⟨⟨_, rfl⟩, .inr ⟨_, trivial, hJx4⟩⟩
        · gi_wp2
          all_goals first
            | exact absurd (‹some undef = some (Value.bool _)›) (by intro h; cases h)
            | (refine ⟨fun _ h => (by cases h), ?_⟩
               gi_wp2
               all_goals first
                 | exact absurd (‹some undef = some (Value.bool _)›) (by intro h; cases h)
                 | (refine bodyPost_ret (results_none rfl _ _ _) rfl ?_
                    exact ⟨⟨_, rfl⟩, .inr ⟨_, trivial, hJx3⟩⟩))
      · have hz1 : ((t[k].toNat : Int) == 0) = false := by rw [beq_eq_false_iff_ne]; exact fun h => hz ((byte_zero _).1 h)
        have he : Hid (esc t[k] = [(t[k].toNat : Int)]) := by show _ = _; unfold esc; rw [if_neg hz]
        clear hz
        gi_wp2
        refine hR.mono ?_
        rintro e W3 (⟨rfl, hJ3, hk3⟩ | ⟨rfl, hJx3⟩)
        · have hb3 := hk3 hb
          have hc3 := hb3.cell
          gi_wp2
          refine ⟨fun _ h => (by cases h), ?_⟩
          gi_wp2
          go_roundw
          case rel => exact ⟨k + 1, by omega, by go_num, hb3, by rw [hsn.out, he.out]; exact hJ3⟩
          case measure => simp [intOf]; omega
        · gi_wp2
          all_goals first
            | exact absurd (‹some undef = some (Value.bool _)›) (by intro h; cases h)
            | (refine ⟨fun _ h => (by cases h), ?_⟩
               gi_wp2
               all_goals first
                 | exact absurd (‹some undef = some (Value.bool _)›) (by intro h; cases h)
                 | (refine bodyPost_ret (results_none rfl _ _ _) rfl ?_
                    exact ⟨⟨_, rfl⟩, .inr ⟨_, trivial, hJx3⟩⟩))
    · have hall : t.data.toList.take k = t.data.toList := List.take_of_length_le (by simp; omega)
      rw [hall] at hJs
      have hlen : (escL t.data.toList).length ≤ 2 * t.size := by
        have := escL_len t.data.toList; simpa using this
      obtain ⟨fn, tmps, assign, body, hy, hR⟩ := hY (escL t.data.toList) 0 wr hJs (by omega)
      gi_wp2
      refine hR.mono ?_
      rintro e W3 (⟨rfl, hJ3, hk3⟩ | ⟨rfl, hJx3⟩)
      · obtain ⟨fn2, tmps2, assign2, body2, hy2, hR2⟩ := hY _ 1 W3 hJ3 (by simp; omega)
        gi_wp2
        refine hR2.mono ?_
        rintro e W4 (⟨rfl, hJ4, hk4⟩ | ⟨rfl, hJx4⟩)
        · gi_wp2
          go_end0
          exact ⟨⟨_, rfl⟩, .inl ⟨_, by unfold markL; simp, hJ4⟩⟩
        · gi_wp2
          go_end0
          exact ⟨⟨_, rfl⟩, .inr ⟨_, trivial, hJx4⟩⟩
      · gi_wp2
        refine ⟨fun _ h => (by cases h), ?_⟩
        gi_wp2
        go_end0
        exact ⟨⟨_, rfl⟩, .inr ⟨_, trivial, hJx3⟩⟩

set_option maxHeartbeats 1000000 in
theorem marked_in (n : Nat) (t : ByteArray) (w : World) :
    CallsIn Fence.wide n Try.prog 43 #[.string t] w fun e w' => e = .returned (.func (.func 60) #[] #[.pointer (some ⟨w.heap.size, 0, none⟩)]) ∧ w' = w.alloc (.cells #[.string t] 9) := by
  refine callsIn_of_wp Try.func43 rfl trivial ?_ rfl
  simp only [Try.ntmps43, List.size_toArray, List.length_cons, List.length_nil, Nat.reduceAdd, Nat.reduceSub, Array.replicate_succ, Array.replicate_zero, List.push_toArray, List.append_toArray, List.nil_append, List.cons_append]
  gi_wp2
  go_ret
  exact ⟨rfl, rfl⟩

theorem marked_stops (n : Nat) (hn : 1 ≤ n) (Bn : Nat) (t : ByteArray) (ht : t.size ≤ 1000000) (w : World) (hB : Boxed w Bn 9 (.string t)) :
    SeqStopsK Fence.wide n Try.prog 60 #[.pointer (some ⟨Bn, 0, none⟩)] (fun y : Int => #[Value.int .u8 y]) (Kps Bn t) (fun ys => ys = markL t) (fun _ => True) (2 * t.size + 2) w := fun l J Jx W hW _ _ hY h0 =>
  markedC_in n hn l Bn t ht J Jx hY W ((hW.block Bn hB.lt).trans hB) h0
theorem kps_b {t : ByteArray} {w : World} {Bn : Nat} (hn : Bn < w.heap.size) (W : World) (l : Nat) (o o' : Obj) (hl : w.heap.size ≤ l) (h : W.heap[l]? = some o) (_ : o.isCells = false) (_ : o.isWalk = false) : Kps Bn t W (W.putObj l o') := fun hb => hb.kept (grownBy_putObj' W l o') (fun e => by cases e; omega)
theorem kps_t {t : ByteArray} {Bn : Nat} {A B C : World} (h : Kps Bn t A B) (k : Kps Bn t B C) : Kps Bn t A C := fun hb => k (h hb)
end Go.Proofs.Ytbpjejjbgdikdaa
