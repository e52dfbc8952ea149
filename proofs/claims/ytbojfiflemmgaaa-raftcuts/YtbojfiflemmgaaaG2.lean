/-
  Package raft's due, may, all, majority; slices.Clone of truths, of numbers.
-/
import Derived.Test.YtbojfiflemmgaaaG1
import Derived.Lib.Walk
import Derived.Lib.SliceRun
namespace Go.Proofs.Ytbojfiflemmgaaa
open Go.RowKit
set_option linter.unusedSimpArgs false
set_option linter.unusedVariables false

set_option maxHeartbeats 400000 in
theorem due_any (c i : Nat) (w : World) (hc : c ≤ 1099511627776) (hi : i ≤ 1099511627776) : Calls Try.prog 38 #[nI c, nI i] w fun e w' => e = .returned (nI (c + 5 + 2 * i)) ∧ w' = w := by
  have h1 : IntKind.i64.wrap ((c : Int) + 5) = (c : Int) + 5 := IntWalk.i64_in _ (by omega)
  have h2 : IntKind.i64.wrap (2 * (i : Int)) = 2 * (i : Int) := IntWalk.i64_in _ (by omega)
  have h3 : IntKind.i64.wrap ((c : Int) + 5 + 2 * (i : Int)) = ((c + 5 + 2 * i : Nat) : Int) := (IntWalk.i64_in _ (by omega)).trans (by omega)
  go_enter Try.func38, Try.ntmps38
  go_wp2
  go_ret
  exact ⟨ret_int (by omega), rfl⟩
set_option maxHeartbeats 400000 in
theorem may_any (i s f : Int) (w : World) : Calls Try.prog 32 #[.int .i64 i, .int .i64 s, .int .i64 f] w fun e w' => e = .returned (.bool (decide (0 ≤ i ∧ i < s ∧ s ≤ 5 ∧ 1 ≤ f ∧ f ≤ 2))) ∧ w' = w := by
  go_enter Try.func32, Try.ntmps32
  go_wp2
  all_goals
    go_ret
    exact ⟨ret_bool (by rw [Bool.eq_iff_iff]; simp <;> omega), rfl⟩

theorem made_bool (n : Nat) : madeCells #[.bool false] n = (List.replicate n (Value.bool false)).toArray := by
  apply Array.ext'
  apply List.ext_getElem?
  intro j
  simp [madeCells, List.getElem?_replicate]
  by_cases h : j < n
  · simp [h, Nat.mod_one]
  · simp [h]
theorem set_bool (n k : Nat) (u v : Value) (h : k < n) : (List.replicate k v ++ List.replicate (n - k) u).toArray.setIfInBounds k v = (List.replicate (k + 1) v ++ List.replicate (n - (k + 1)) u).toArray := by
  obtain ⟨m, hm⟩ : ∃ m, n - k = m + 1 := ⟨n - k - 1, by omega⟩
  have hm2 : n - (k + 1) = m := by omega
  rw [hm, hm2, List.replicate_succ, List.replicate_succ' (n := k), List.append_assoc, List.setIfInBounds_toArray, List.set_append_right _ _ (by simp)]
  simp
theorem run_make_bool (n : Nat) (h : n ≤ 1000000) (W : World) : (Instr.makeSlice 30 (.int .i64 (n : Int)) (.int .i64 (n : Int))).run Try.prog W = .ok (.slice (some ⟨W.heap.size, 0, none⟩) n n) (W.alloc (.cells (List.replicate n (Value.bool false)).toArray 4)) := by
  obtain ⟨i0, hi, hz0, hz1, hz2⟩ := info_parts info_bool
  have h := run_makeSlice (P := Try.prog) W 30 4 i0 _ Try.underlying30 hi hz0 .i64 .i64 (n : Int) (n : Int) (by omega) (Int.le_refl _) (by rw [hz1]; omega) (by rw [hz2]; omega) (by omega)
  rw [hz1] at h
  simp only [Int.toNat_natCast, Value.cells, Nat.mul_one] at h
  rw [made_bool] at h
  exact h
set_option maxRecDepth 100000 in
set_option maxHeartbeats 1000000 in
theorem all_bool_any (n : Nat) (v : Bool) (w : World) (hn : n ≤ 1000000) : Calls Try.prog 36 #[nI n, (Value.bool v)] w fun e w' => ∃ u, e = .returned u ∧ w'.ownsRow w.heap.size 4 1 u n (boC (List.replicate n v)) ∧ u ≠ .slice none 0 0 ∧ Below w.heap.size w w' := by
  have MK := fun W => run_make_bool n hn W
  have hb0 := hide (below_new w (.cells (List.replicate n (Value.bool false)).toArray 4))
  have hk0 := hide (Blk.new w (List.replicate n (Value.bool false)).toArray 4)
  go_enter Try.func36, Try.ntmps36
  go_wp2
  go_loopw [6, 11] (fun _ i wr => ∃ k : Nat, k ≤ n ∧ i = .int .i64 (k : Int) ∧ Hid (Blk w.heap.size (List.replicate k (Value.bool v) ++ List.replicate (n - k) (Value.bool false)).toArray 4 wr) ∧ Hid (Below w.heap.size w wr)) (fun _ i wr => n - (intOf i).toNat)
  case atStart => exact ⟨0, Nat.zero_le _, rfl, by simpa using hk0, hb0⟩
  case round =>
    obtain ⟨k, hk, rfl, hB, hb⟩ := hrel
    have hl := (unhide hB).lt
    by_cases hlt : k < n
    · have hsz : k < (List.replicate k (Value.bool v) ++ List.replicate (n - k) (Value.bool false)).toArray.size := by simp; omega
      have c0_ := ((unhide hB).cell k).trans (Array.getElem?_eq_getElem hsz)
      have f0_ := (unhide hB).froz k
      have hnx : IntKind.i64.wrap ((k : Int) + 1) = ((k + 1 : Nat) : Int) := (IntWalk.i64_in _ (by omega)).trans (by omega)
      go_wp2
      go_roundw
      case rel => exact ⟨k + 1, by omega, by go_num, by
        have := (unhide hB).set k (Value.bool v)
        rw [set_bool n k _ _ hlt] at this
        exact this, hide ((unhide hb).setCell (p := ⟨w.heap.size, k, none⟩) (Nat.le_refl _) _)⟩
      case measure => simp [intOf] <;> omega
    · obtain rfl : k = n := by omega
      go_wp2
      go_ret
      refine ⟨_, rfl, ⟨by simp [boC], .inr ⟨_, _, _, rfl, Nat.le_refl _, unhide hB, Nat.le_refl _, by unfold maxLen; omega, by simp, ?_⟩⟩, by simp, unhide hb⟩
      simp [boC]

theorem made_int (n : Nat) : madeCells #[.int .i64 0] n = (List.replicate n (Value.int .i64 0)).toArray := by
  apply Array.ext'
  apply List.ext_getElem?
  intro j
  simp [madeCells, List.getElem?_replicate]
  by_cases h : j < n
  · simp [h, Nat.mod_one]
  · simp [h]
theorem set_int (n k : Nat) (u v : Value) (h : k < n) : (List.replicate k v ++ List.replicate (n - k) u).toArray.setIfInBounds k v = (List.replicate (k + 1) v ++ List.replicate (n - (k + 1)) u).toArray := by
  obtain ⟨m, hm⟩ : ∃ m, n - k = m + 1 := ⟨n - k - 1, by omega⟩
  have hm2 : n - (k + 1) = m := by omega
  rw [hm, hm2, List.replicate_succ, List.replicate_succ' (n := k), List.append_assoc, List.setIfInBounds_toArray, List.set_append_right _ _ (by simp)]
  simp
theorem run_make_int (n : Nat) (h : n ≤ 1000000) (W : World) : (Instr.makeSlice 22 (.int .i64 (n : Int)) (.int .i64 (n : Int))).run Try.prog W = .ok (.slice (some ⟨W.heap.size, 0, none⟩) n n) (W.alloc (.cells (List.replicate n (Value.int .i64 0)).toArray 3)) := by
  obtain ⟨i0, hi, hz0, hz1, hz2⟩ := info_parts info_int
  have h := run_makeSlice (P := Try.prog) W 22 3 i0 _ Try.underlying22 hi hz0 .i64 .i64 (n : Int) (n : Int) (by omega) (Int.le_refl _) (by rw [hz1]; omega) (by rw [hz2]; omega) (by omega)
  rw [hz1] at h
  simp only [Int.toNat_natCast, Value.cells, Nat.mul_one] at h
  rw [made_int] at h
  exact h
set_option maxRecDepth 100000 in
set_option maxHeartbeats 1000000 in
theorem all_int_any (n : Nat) (v : Nat) (w : World) (hn : n ≤ 1000000) : Calls Try.prog 37 #[nI n, (nI v)] w fun e w' => ∃ u, e = .returned u ∧ w'.ownsRow w.heap.size 3 1 u n (inC (List.replicate n v)) ∧ u ≠ .slice none 0 0 ∧ Below w.heap.size w w' := by
  have MK := fun W => run_make_int n hn W
  have hb0 := hide (below_new w (.cells (List.replicate n (Value.int .i64 0)).toArray 3))
  have hk0 := hide (Blk.new w (List.replicate n (Value.int .i64 0)).toArray 3)
  go_enter Try.func37, Try.ntmps37
  go_wp2
  go_loopw [6, 11] (fun _ i wr => ∃ k : Nat, k ≤ n ∧ i = .int .i64 (k : Int) ∧ Hid (Blk w.heap.size (List.replicate k (nI v) ++ List.replicate (n - k) (Value.int .i64 0)).toArray 3 wr) ∧ Hid (Below w.heap.size w wr)) (fun _ i wr => n - (intOf i).toNat)
  case atStart => exact ⟨0, Nat.zero_le _, rfl, by simpa using hk0, hb0⟩
  case round =>
    obtain ⟨k, hk, rfl, hB, hb⟩ := hrel
    have hl := (unhide hB).lt
    by_cases hlt : k < n
    · have hsz : k < (List.replicate k (nI v) ++ List.replicate (n - k) (Value.int .i64 0)).toArray.size := by simp; omega
      have c0_ := ((unhide hB).cell k).trans (Array.getElem?_eq_getElem hsz)
      have f0_ := (unhide hB).froz k
      have hnx : IntKind.i64.wrap ((k : Int) + 1) = ((k + 1 : Nat) : Int) := (IntWalk.i64_in _ (by omega)).trans (by omega)
      go_wp2
      go_roundw
      case rel => exact ⟨k + 1, by omega, by go_num, by
        have := (unhide hB).set k (nI v)
        rw [set_int n k _ _ hlt] at this
        exact this, hide ((unhide hb).setCell (p := ⟨w.heap.size, k, none⟩) (Nat.le_refl _) _)⟩
      case measure => simp [intOf] <;> omega
    · obtain rfl : k = n := by omega
      go_wp2
      go_ret
      refine ⟨_, rfl, ⟨by simp [inC], .inr ⟨_, _, _, rfl, Nat.le_refl _, unhide hB, Nat.le_refl _, by unfold maxLen; omega, by simp, ?_⟩⟩, by simp, unhide hb⟩
      simp [inC]

/-- how many of a list's things a function says yes to -/
def cnt {α : Type} (p : α → Bool) (l : List α) : Nat := (l.filter p).length
theorem cnt_take {α : Type} (p : α → Bool) (l : List α) (k : Nat) (h : k < l.length) : cnt p (l.take (k + 1)) = cnt p (l.take k) + if p l[k] then 1 else 0 := by
  rw [List.take_succ_eq_append_getElem h, cnt, cnt, List.filter_append, List.length_append]
  by_cases hp : p l[k] <;> simp [hp]
theorem cnt_le {α : Type} (p : α → Bool) (l : List α) : cnt p l ≤ l.length := List.length_filter_le _ _

set_option maxRecDepth 100000 in
set_option maxHeartbeats 1000000 in
theorem majority_bool_any (K : FuncId) (caps : Array Value) (p : Bool → Bool) (v : Value) (l : List Bool) (w : World) (hE : ∀ (args : Array Value) (w : World), Sem.run Try.prog (callFunc K args) w = .ok (.enter K args) w)
    (hC : ∀ x, Calls Try.prog K (#[Value.bool x] ++ caps) w fun e w' => e = .returned (.bool (p x)) ∧ w' = w) (hs : Sees 1 v l.length (boC l) w) (hn : l.length ≤ 1000000) :
    Calls Try.prog 77 #[v, .func (.func K) #[] caps] w fun e w' => e = .returned (.bool (decide (l.length < 2 * cnt p l))) ∧ w' = w := by
  obtain ⟨q, cap, rfl, h1, h2, h3, h4⟩ := hs
  have H4 := hide h4
  have HC := hide hC
  have hE' : ∀ (args : Array Value) (w : World), Sem.run Try.prog (callFunc K args) w = .ok (.enter K args) w := hE
  clear h3 h4 hE hC
  go_enter Try.func77, Try.ntmps77
  go_wp2
  go_loopw [5, 7, 10] (fun m _ i wr => ∃ k : Nat, k ≤ l.length ∧ i = .int .i64 (k : Int) ∧ m = nI (cnt p (l.take k)) ∧ wr = w) (fun _ _ i wr => l.length - (intOf i).toNat)
  case atStart => exact ⟨0, Nat.zero_le _, rfl, rfl, rfl⟩
  case round =>
    obtain ⟨k, hk, rfl, rfl, rfl⟩ := hrel
    have hc := cnt_le p (l.take k)
    have hcl : (l.take k).length ≤ k := List.length_take_le _ _
    by_cases hlt : k < l.length
    · have hs1 := hide (cnt_take p l k hlt)
      obtain ⟨m, hm⟩ : ∃ m, cnt p (l.take k) = m := ⟨_, rfl⟩
      rw [hm] at hs1 hc ⊢
      obtain ⟨g, o, rfl, hg, hcell⟩ := (unhide H4).resolve_left (fun h => by omega)
      have c0_ := hcell k _ (boC_at l k hlt)
      have hnx : IntKind.i64.wrap ((k : Int) + 1) = ((k + 1 : Nat) : Int) := (IntWalk.i64_in _ (by omega)).trans (by omega)
      have hmx : IntKind.i64.wrap ((m : Int) + 1) = ((m + 1 : Nat) : Int) := (IntWalk.i64_in _ (by omega)).trans (by omega)
      have CC := hide ((unhide HC) l[k])
      obtain ⟨pb, hpb⟩ : ∃ pb, p l[k] = pb := ⟨_, rfl⟩
      rw [hpb] at CC hs1
      clear hcell hm hpb
      cases pb
      all_goals
        go_wp2_with (refine (unhide CC).mono ?_; rintro e W1 ⟨rfl, hW1⟩; replace hW1 := hW1.symm; subst hW1)
        go_roundw
        case rel => exact ⟨k + 1, by omega, by go_num, by rw [unhide hs1]; simp, by trivial⟩
        case measure => simp [intOf] <;> omega
    · obtain rfl : k = l.length := by omega
      have ht : l.take l.length = l := List.take_length
      rw [ht] at hc ⊢
      obtain ⟨m, hm⟩ : ∃ m, cnt p l = m := ⟨_, rfl⟩
      rw [hm] at hc ⊢
      have HM := hide hm
      clear hm ht
      go_wp2
      go_ret
      have hM := unhide HM
      exact ⟨ret_bool (by rw [hM, Bool.eq_iff_iff]; simp <;> omega), rfl⟩

set_option maxRecDepth 100000 in
set_option maxHeartbeats 1000000 in
theorem majority_int_any (K : FuncId) (caps : Array Value) (p : Nat → Bool) (v : Value) (l : List Nat) (w : World) (hE : ∀ (args : Array Value) (w : World), Sem.run Try.prog (callFunc K args) w = .ok (.enter K args) w)
    (hC : ∀ x, Calls Try.prog K (#[nI x] ++ caps) w fun e w' => e = .returned (.bool (p x)) ∧ w' = w) (hs : Sees 1 v l.length (inC l) w) (hn : l.length ≤ 1000000) :
    Calls Try.prog 81 #[v, .func (.func K) #[] caps] w fun e w' => e = .returned (.bool (decide (l.length < 2 * cnt p l))) ∧ w' = w := by
  obtain ⟨q, cap, rfl, h1, h2, h3, h4⟩ := hs
  have H4 := hide h4
  have HC := hide hC
  have hE' : ∀ (args : Array Value) (w : World), Sem.run Try.prog (callFunc K args) w = .ok (.enter K args) w := hE
  clear h3 h4 hE hC
  go_enter Try.func81, Try.ntmps81
  go_wp2
  go_loopw [5, 7, 10] (fun m _ i wr => ∃ k : Nat, k ≤ l.length ∧ i = .int .i64 (k : Int) ∧ m = nI (cnt p (l.take k)) ∧ wr = w) (fun _ _ i wr => l.length - (intOf i).toNat)
  case atStart => exact ⟨0, Nat.zero_le _, rfl, rfl, rfl⟩
  case round =>
    obtain ⟨k, hk, rfl, rfl, rfl⟩ := hrel
    have hc := cnt_le p (l.take k)
    have hcl : (l.take k).length ≤ k := List.length_take_le _ _
    by_cases hlt : k < l.length
    · have hs1 := hide (cnt_take p l k hlt)
      obtain ⟨m, hm⟩ : ∃ m, cnt p (l.take k) = m := ⟨_, rfl⟩
      rw [hm] at hs1 hc ⊢
      obtain ⟨g, o, rfl, hg, hcell⟩ := (unhide H4).resolve_left (fun h => by omega)
      have c0_ := hcell k _ (inC_at l k hlt)
      have hnx : IntKind.i64.wrap ((k : Int) + 1) = ((k + 1 : Nat) : Int) := (IntWalk.i64_in _ (by omega)).trans (by omega)
      have hmx : IntKind.i64.wrap ((m : Int) + 1) = ((m + 1 : Nat) : Int) := (IntWalk.i64_in _ (by omega)).trans (by omega)
      have CC := hide ((unhide HC) l[k])
      obtain ⟨pb, hpb⟩ : ∃ pb, p l[k] = pb := ⟨_, rfl⟩
      rw [hpb] at CC hs1
      clear hcell hm hpb
      cases pb
      all_goals
        go_wp2_with (refine (unhide CC).mono ?_; rintro e W1 ⟨rfl, hW1⟩; replace hW1 := hW1.symm; subst hW1)
        go_roundw
        case rel => exact ⟨k + 1, by omega, by go_num, by rw [unhide hs1]; simp, by trivial⟩
        case measure => simp [intOf] <;> omega
    · obtain rfl : k = l.length := by omega
      have ht : l.take l.length = l := List.take_length
      rw [ht] at hc ⊢
      obtain ⟨m, hm⟩ : ∃ m, cnt p l = m := ⟨_, rfl⟩
      rw [hm] at hc ⊢
      have HM := hide hm
      clear hm ht
      go_wp2
      go_ret
      have hM := unhide HM
      exact ⟨ret_bool (by rw [hM, Bool.eq_iff_iff]; simp <;> omega), rfl⟩

set_option maxRecDepth 100000 in
set_option maxHeartbeats 1000000 in
/-- a copy, in memory of its own -/
theorem clone_bool_any (v : Value) (l : List Bool) (w : World) (hs : Sees 1 v l.length (boC l) w) (hn : l.length ≤ 1000000) :
    Calls Try.prog 50 #[v] w fun e w' => ∃ u, e = .returned u ∧ w'.ownsRow w.heap.size 4 1 u l.length (boC l) ∧ Below w.heap.size w w' := by
  obtain ⟨q, cap, rfl, h1, h2, h3, h4⟩ := hs
  have H4 := hide h4
  have H3 := hide h3
  have q0 : ∀ (w : World) (a : Option Addr) (n c n' c' : Nat), (binOp .eql 30 (.slice a n c) (.slice none n' c')).run Try.prog w = .ok (.bool a.isNone) w := fun w a n c n' c' => Lib.run_eql_slice_nil w _ _ a n c n' c' Try.underlying30
  obtain ⟨i0, hi, hz0, hz1, hz2⟩ := info_parts info_bool
  clear h3 h4
  cases q with
  | none =>
    have h0 : l.length = 0 := by
      rcases unhide H4 with h | ⟨g, o, h, _⟩
      · exact h.2
      · cases h
    have hl : l = [] := List.eq_nil_of_length_eq_zero h0
    subst hl
    go_enter Try.func50, Try.ntmps50
    go_wp2
    go_ret
    exact ⟨_, rfl, World.ownsRow_nil _ _ _ _, Below.refl _ _⟩
  | some ad =>
    go_enter Try.func50, Try.ntmps50
    go_wp2_with (at_builtin; refine wpList_append_own _ rfl _ _ 30 rfl w.heap.size 4 i0 (.bool false) 1 1 Try.underlying30 hi hz0 hz1 hz2 rfl (by decide) _ _ _ rfl (World.ownsRow_made w #[] 0 (Nat.le_refl _) (Nat.zero_le _) rfl) ad l.length cap (boC l) rfl (unhide H3) ?qc2 ?qc3 ?qc4 ?qc5 ?qc6 ?_)
    case qc2 =>
      intro j u hj
      have hjn : j < l.length := by
        have := (List.getElem?_eq_some_iff.1 hj).1
        simp [boC] at this; exact this
      obtain ⟨g, o, h, hg, hc⟩ := (unhide H4).resolve_left (fun h => by omega)
      cases h
      have hne : (Addr.add ⟨g, o, none⟩ j) = ⟨g, o + j, none⟩ := by cases j <;> simp [Addr.add]
      rw [hne]
      exact Lib.cell?_alloc_some _ (hc j u hj)
    case qc3 => intro u hu; obtain ⟨x, _, rfl⟩ := List.mem_map.1 hu; rfl
    case qc4 => unfold maxLen; omega
    case qc5 => omega
    case qc6 => simp
    intro v' w1 hown hgrow hnil
    go_wp2
    go_ret
    refine ⟨v', rfl, by simpa using hown, ?_⟩
    exact ((Below.refl _ w).alloc (Nat.le_refl _) _).grown hgrow (by simp) (by intro k hk; simp [Value.ownBlock] at hk; omega)

set_option maxRecDepth 100000 in
set_option maxHeartbeats 1000000 in
/-- a copy, in memory of its own -/
theorem clone_int_any (v : Value) (l : List Nat) (w : World) (hs : Sees 1 v l.length (inC l) w) (hn : l.length ≤ 1000000) :
    Calls Try.prog 51 #[v] w fun e w' => ∃ u, e = .returned u ∧ w'.ownsRow w.heap.size 3 1 u l.length (inC l) ∧ Below w.heap.size w w' := by
  obtain ⟨q, cap, rfl, h1, h2, h3, h4⟩ := hs
  have H4 := hide h4
  have H3 := hide h3
  have q0 : ∀ (w : World) (a : Option Addr) (n c n' c' : Nat), (binOp .eql 22 (.slice a n c) (.slice none n' c')).run Try.prog w = .ok (.bool a.isNone) w := fun w a n c n' c' => Lib.run_eql_slice_nil w _ _ a n c n' c' Try.underlying22
  obtain ⟨i0, hi, hz0, hz1, hz2⟩ := info_parts info_int
  clear h3 h4
  cases q with
  | none =>
    have h0 : l.length = 0 := by
      rcases unhide H4 with h | ⟨g, o, h, _⟩
      · exact h.2
      · cases h
    have hl : l = [] := List.eq_nil_of_length_eq_zero h0
    subst hl
    go_enter Try.func51, Try.ntmps51
    go_wp2
    go_ret
    exact ⟨_, rfl, World.ownsRow_nil _ _ _ _, Below.refl _ _⟩
  | some ad =>
    go_enter Try.func51, Try.ntmps51
    go_wp2_with (at_builtin; refine wpList_append_own _ rfl _ _ 22 rfl w.heap.size 3 i0 (.int .i64 0) 1 8 Try.underlying22 hi hz0 hz1 hz2 rfl (by decide) _ _ _ rfl (World.ownsRow_made w #[] 0 (Nat.le_refl _) (Nat.zero_le _) rfl) ad l.length cap (inC l) rfl (unhide H3) ?qc2 ?qc3 ?qc4 ?qc5 ?qc6 ?_)
    case qc2 =>
      intro j u hj
      have hjn : j < l.length := by
        have := (List.getElem?_eq_some_iff.1 hj).1
        simp [inC] at this; exact this
      obtain ⟨g, o, h, hg, hc⟩ := (unhide H4).resolve_left (fun h => by omega)
      cases h
      have hne : (Addr.add ⟨g, o, none⟩ j) = ⟨g, o + j, none⟩ := by cases j <;> simp [Addr.add]
      rw [hne]
      exact Lib.cell?_alloc_some _ (hc j u hj)
    case qc3 => intro u hu; obtain ⟨x, _, rfl⟩ := List.mem_map.1 hu; rfl
    case qc4 => unfold maxLen; omega
    case qc5 => omega
    case qc6 => simp
    intro v' w1 hown hgrow hnil
    go_wp2
    go_ret
    refine ⟨v', rfl, by simpa using hown, ?_⟩
    exact ((Below.refl _ w).alloc (Nat.le_refl _) _).grown hgrow (by simp) (by intro k hk; simp [Value.ownBlock] at hk; omega)
end Go.Proofs.Ytbojfiflemmgaaa
