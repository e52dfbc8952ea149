/-
  Package raft's fresh: the same entries in memory of one's own.
-/
import Derived.Test.YtbojfiflemmgaaaG3
import Derived.Test.YtbojfiflemmgaaaGB
namespace Go.Proofs.Ytbojfiflemmgaaa
open Go.RowKit
set_option linter.unusedSimpArgs false
set_option linter.unusedVariables false

theorem cell_new_sz (A : World) (cs : Array Value) (T : TypeId) (m : Nat) (h : A.heap.size = m) (j : Nat) : (A.alloc (.cells cs T)).drew.cell? ⟨m, j, none⟩ = cs[j]? := by
  subst h
  exact (Blk.new A cs T).cell j
/-- all data, one behind the other -/
def catB (l : List En) : List UInt8 := l.flatMap fun e => e.data.data.toList
abbrev Small (l : List En) : Prop := ∀ e ∈ l, e.data.size ≤ 1048576
theorem catB_snoc (l : List En) (e : En) : catB (l ++ [e]) = catB l ++ e.data.data.toList := by simp [catB]
theorem ba_len (s : ByteArray) : s.data.toList.length = s.size := Array.length_toList
theorem catB_len_take (l : List En) (k : Nat) (h : k < l.length) : (catB (l.take (k + 1))).length = (catB (l.take k)).length + l[k].data.size := by
  rw [List.take_succ_eq_append_getElem h, catB_snoc, List.length_append, ba_len]
theorem catB_le (c : Nat) (l : List En) (h : ∀ e ∈ l, e.data.size ≤ c) : (catB l).length ≤ l.length * c := by
  induction l with
  | nil => simp [catB]
  | cons e l ih =>
    have h1 := h e (by simp)
    have h2 := ih fun x hx => h x (by simp [hx])
    have h3 : catB (e :: l) = e.data.data.toList ++ catB l := rfl
    rw [h3, List.length_append, List.length_cons, ba_len, Nat.succ_mul]
    omega
theorem catB_take_le (l : List En) (h : Small l) (hn : l.length ≤ 1000000) (k : Nat) : (catB (l.take k)).length ≤ 1048576000000 := by
  have h1 := catB_le 1048576 (l.take k) fun e he => h e (List.mem_of_mem_take he)
  have h2 : (l.take k).length ≤ 1000000 := by simp [List.length_take]; omega
  exact Nat.le_trans h1 (Nat.le_trans (Nat.mul_le_mul_right _ h2) (by decide))
theorem catB_drop (l : List En) (k : Nat) (h : k < l.length) : catB (l.drop k) = l[k].data.data.toList ++ catB (l.drop (k + 1)) := by
  rw [List.drop_eq_getElem_cons h]; rfl
theorem ba_ext {a b : ByteArray} (h : a.data = b.data) : a = b := by cases a; cases b; cases h; rfl
theorem catB_front (l : List En) (k : Nat) (h : k < l.length) : (⟨(catB (l.drop k)).toArray⟩ : ByteArray).extract 0 l[k].data.size = l[k].data := by
  apply ba_ext
  rw [ByteArray.data_extract, catB_drop l k h]
  apply Array.ext'
  simp
theorem catB_rest (l : List En) (k : Nat) (h : k < l.length) : (⟨(catB (l.drop k)).toArray⟩ : ByteArray).extract l[k].data.size (⟨(catB (l.drop k)).toArray⟩ : ByteArray).size = ⟨(catB (l.drop (k + 1))).toArray⟩ := by
  apply ba_ext
  rw [ByteArray.data_extract, catB_drop l k h]
  apply Array.ext'
  have hs : (⟨(l[k].data.data.toList ++ catB (l.drop (k + 1))).toArray⟩ : ByteArray).size = l[k].data.size + (catB (l.drop (k + 1))).length := by
    show (l[k].data.data.toList ++ catB (l.drop (k + 1))).toArray.size = _
    simp [ba_len]
  rw [hs]
  simp
theorem catB_size (l : List En) (k : Nat) (h : k < l.length) : l[k].data.size ≤ (⟨(catB (l.drop k)).toArray⟩ : ByteArray).size := by
  show _ ≤ (catB (l.drop k)).toArray.size
  rw [catB_drop l k h]
  simp [ba_len]
def zeE : En := ⟨0, ⟨#[]⟩⟩
theorem enC_rep (n : Nat) : madeCells #[.int .i64 0, .string ⟨#[]⟩] (n * 2) = (enC (List.replicate n zeE)).toArray := by
  apply Array.ext'
  apply List.ext_getElem?
  intro j
  by_cases hj : j < n * 2
  · obtain ⟨i, r, rfl, hr⟩ : ∃ i r, j = i * 2 + r ∧ r < 2 := ⟨j / 2, j % 2, by omega, Nat.mod_lt _ (by decide)⟩
    obtain ⟨a0, a1⟩ := enC_at (List.replicate n zeE) i (by simp; omega)
    have hm : (madeCells #[Value.int .i64 0, .string ⟨#[]⟩] (n * 2)).toList[i * 2 + r]? = some ((#[Value.int .i64 0, .string ⟨#[]⟩] : Array Value)[(i * 2 + r) % 2]!) := by simp [madeCells, hj]
    have hmod : (i * 2 + r) % 2 = r := by omega
    rw [hm, hmod]
    obtain rfl | rfl : r = 0 ∨ r = 1 := by omega
    · refine Eq.trans ?_ a0.symm; simp [zeE]
    · refine Eq.trans ?_ a1.symm; simp [zeE]
  · rw [List.getElem?_eq_none (by simp [madeCells]; omega), List.getElem?_eq_none (by simp [enC_len]; omega)]
theorem run_make_en (n : Nat) (h : n ≤ 1000000) (W : World) : (Instr.makeSlice 29 (.int .i64 (n : Int)) (.int .i64 (n : Int))).run Try.prog W = .ok (.slice (some ⟨W.heap.size, 0, none⟩) n n) (W.alloc (.cells (enC (List.replicate n zeE)).toArray 34)) := by
  obtain ⟨i0, hi, hz0, hz1, hz2⟩ := info_parts info_en
  have h := run_makeSlice (P := Try.prog) W 29 34 i0 _ Try.underlying29 hi hz0 .i64 .i64 (n : Int) (n : Int) (by omega) (Int.le_refl _) (by rw [hz1]; omega) (by rw [hz2]; omega) (by omega)
  rw [hz1] at h
  simp only [Int.toNat_natCast, Value.cells] at h
  rw [enC_rep] at h
  exact h
/-- of n entries the first k are l's -/
def part (l : List En) (k : Nat) : List En := l.take k ++ List.replicate (l.length - k) zeE
theorem part_len (l : List En) (k : Nat) (h : k ≤ l.length) : (part l k).length = l.length := by simp [part]; omega
theorem part_set (l : List En) (k : Nat) (h : k < l.length) : ((enC (part l k)).toArray.setIfInBounds (k * 2) (nI l[k].term)).setIfInBounds (k * 2 + 1) (.string l[k].data) = (enC (part l (k + 1))).toArray := by
  obtain ⟨m, hm⟩ : ∃ m, l.length - k = m + 1 := ⟨l.length - k - 1, by omega⟩
  have hm2 : l.length - (k + 1) = m := by omega
  have hl : (enC (l.take k)).length = k * 2 := by rw [enC_len, List.length_take, Nat.min_eq_left (by omega)]
  have h1 : k * 2 - k * 2 = 0 := by omega
  have h2 : k * 2 + 1 - k * 2 = 1 := by omega
  unfold part
  rw [hm, hm2, List.replicate_succ, List.take_succ_eq_append_getElem h, List.append_assoc, enC_app, enC_app, List.setIfInBounds_toArray, List.setIfInBounds_toArray, List.set_append_right _ _ (by omega), List.set_append_right _ _ (by omega), hl, h1, h2]
  rfl
theorem isB_alloc {T e : TypeId} {B b : Nat} {bs : List Value} {w : World} (o : Obj) (h : Lib.IsBuilder T e B b bs w) : Lib.IsBuilder T e B b bs (w.alloc o) := by
  have f : ∀ p, Lib.BuilderAt T e B b p bs w → Lib.BuilderAt T e B b p bs (w.alloc o) := by
    rintro p ⟨hB, v, hb, hown, hne⟩
    exact ⟨hB, v, ((below_new w o).block b (Array.getElem?_eq_some_iff.1 hb).1).trans hb, hown.alloc o, hne⟩
  exact h.imp (f _) (f _)
set_option maxRecDepth 100000 in
set_option maxHeartbeats 4000000 in
theorem fresh_any (v : Value) (l : List En) (w : World) (hs : Sees 2 v l.length (enC l) w) (hn : l.length ≤ 1000000) (hd : Small l) :
    Calls Try.prog 33 #[v] w fun e w' => ∃ u, e = .returned u ∧ w'.ownsRow w.heap.size 34 2 u l.length (enC l) ∧ u ≠ .slice none 0 0 ∧ Below w.heap.size w w' := by
  obtain ⟨q, cap, rfl, h1, h2, h3, h4⟩ := hs
  have HT := hide (catB_take_le l hd hn)
  have HD := hide hd
  have MK := fun W => run_make_en l.length hn W
  have AT := hide (fun (k : Nat) (h : k < l.length) (wr : World) (hb : Below w.heap.size w wr) => (show ∃ g o, q = some ⟨g, o, none⟩ ∧ wr.cell? ⟨g, o + k * 2, none⟩ = some (.int .i64 (l[k].term : Int)) ∧ wr.cell? ⟨g, o + k * 2 + 1, none⟩ = some (.string l[k].data) from by
    obtain ⟨g, o, rfl, hg, hc⟩ := h4.resolve_left (fun h => by omega)
    obtain ⟨a0, a1⟩ := enC_at l k h
    exact ⟨g, o, rfl, (hb.cell (p := ⟨g, _, none⟩) hg.lt).trans (hc _ _ a0), (hb.cell (p := ⟨g, _, none⟩) hg.lt).trans (hc (k * 2 + 1) _ a1)⟩))
  clear h4 h3 hd
  go_enter Try.func33, Try.ntmps33
  go_wp2
  go_loopw [3, 16] (fun s i wr => ∃ k : Nat, k ≤ l.length ∧ i = .int .i64 (k : Int) ∧ s = nI (catB (l.take k)).length ∧ Hid (Below w.heap.size w wr)) (fun _ i wr => l.length - (intOf i).toNat)
  case atStart => exact ⟨0, Nat.zero_le _, rfl, rfl, hide (Below.refl _ _)⟩
  case round =>
    obtain ⟨k, hk, rfl, rfl, hb⟩ := hrel
    have hlk := unhide HT k
    by_cases hlt : k < l.length
    · obtain ⟨g, o, rfl, c0_, c1_⟩ := unhide AT k hlt wr (unhide hb)
      have hnx : IntKind.i64.wrap ((k : Int) + 1) = ((k + 1 : Nat) : Int) := (IntWalk.i64_in _ (by omega)).trans (by omega)
      have hl2 := hide (catB_len_take l k hlt)
      have hle := unhide HT (k + 1)
      obtain ⟨m, hm⟩ : ∃ m, (catB (l.take k)).length = m := ⟨_, rfl⟩
      obtain ⟨m', hm'⟩ : ∃ m', (catB (l.take (k + 1))).length = m' := ⟨_, rfl⟩
      rw [hm] at hlk hl2 ⊢
      rw [hm'] at hl2 hle
      have HM := hide hm'
      have hmx : IntKind.i64.wrap ((m : Int) + (l[k].data.size : Int)) = (m' : Int) := by rw [unhide hl2]; exact (IntWalk.i64_in _ (by have := unhide hl2; omega)).trans (by omega)
      clear hm hm'
      go_wp2
      go_roundw
      case rel => exact ⟨k + 1, by omega, by go_num, by rw [unhide HM], hide ((unhide hb).alloc (by have := (unhide hb).size; omega) _)⟩
      case measure => simp [intOf] <;> omega
    · obtain rfl : k = l.length := by omega
      have ht : l.take l.length = l := List.take_length
      rw [ht] at hlk ⊢
      clear ht
      obtain ⟨V, rfl⟩ : ∃ V, V = wr := ⟨_, rfl⟩
      have hbl := (unhide hb).size
      have BN := hide (Blk.new V #[.pointer none, .slice none 0 0] 80)
      have hb0 := hide ((unhide hb).alloc (unhide hb).size (.cells #[.pointer none, .slice none 0 0] 80))
      have GR := hide (grow_any V.heap.size V.heap.size (catB l).length _ (Nat.le_refl _) (unhide BN) (by simp) (by omega))
      go_wp2_with (go_at_call 57; refine (unhide GR).mono ?_; rintro e W1 ⟨rfl, hB1, hk1⟩; have HB1 := hide hB1; have hb1 := hide ((unhide hb0).trans (hk1.mono hbl)); have hz1 := hk1.size; simp at hz1; clear hB1 hk1)
      go_loopw [30] (fun i wr => ∃ k : Nat, k ≤ l.length ∧ i = .int .i64 (k : Int) ∧ Hid (Lib.IsBuilder 80 5 V.heap.size V.heap.size (Lib.byteCells (catB (l.take k))) wr) ∧ Hid (Below w.heap.size w wr) ∧ V.heap.size ≤ wr.heap.size) (fun i wr => l.length - (intOf i).toNat)
      case atStart => exact ⟨0, Nat.zero_le _, rfl, HB1, hb1, by omega⟩
      case round =>
        obtain ⟨k, hk, rfl, hI, hb2, hz2⟩ := hrel
        by_cases hlt : k < l.length
        · obtain ⟨g, o, rfl, c0_, c1_⟩ := unhide AT k hlt wr (unhide hb2)
          have hnx : IntKind.i64.wrap ((k : Int) + 1) = ((k + 1 : Nat) : Int) := (IntWalk.i64_in _ (by omega)).trans (by omega)
          have hx := unhide HD l[k] (List.getElem_mem hlt)
          have hle := unhide HT k
          have hz3 := (unhide hb2).size
          have hsn : Hid (Lib.byteCells (catB (l.take k)) ++ Lib.strCells l[k].data = Lib.byteCells (catB (l.take (k + 1)))) := by
            show _ = _
            rw [List.take_succ_eq_append_getElem hlt, catB_snoc, Lib.byteCells_append]; rfl
          have WS := hide (writeString_any V.heap.size V.heap.size _ l[k].data _ (isB_alloc (.cells #[.int .i64 (l[k].term : Int), .string l[k].data] 34) (unhide hI)) (by rw [Lib.byteCells_length]; omega) (by simp; omega))
          clear hle
          go_wp2_with (go_at_call 58; refine (unhide WS).mono ?_; rintro e W3 ⟨rfl, hB3, hk3⟩; rw [unhide hsn] at hB3; have HB3 := hide hB3; have hb3 := hide (((unhide hb2).alloc hz3 (.cells #[.int .i64 (l[k].term : Int), .string l[k].data] 34)).trans (hk3.mono hbl)); have hz4 := hk3.size; simp at hz4; clear hB3 hk3)
          go_roundw
          case rel => exact ⟨k + 1, by omega, by go_num, HB3, hb3, by omega⟩
          case measure => simp [intOf] <;> omega
        · obtain rfl : k = l.length := by omega
          have ht : l.take l.length = l := List.take_length
          rw [ht] at hI
          have SS := hide (bstring_any V.heap.size V.heap.size _ _ (unhide hI) hz2)
          have hz3 := (unhide hb2).size
          clear ht hI
          have hz5 : wr.heap.size ≤ wr.heap.size := Nat.le_refl _
          go_wp2_with (go_at_call 59; refine (unhide SS).mono ?_; rintro e W4 ⟨rfl, hk4⟩; have hb4 := hide ((unhide hb2).trans (hk4.mono hbl)); have hz6 := hk4.size; clear hk4)
          have hzb := (unhide hb4).size
          have hb5 := hide ((unhide hb4).alloc hzb (.cells (enC (List.replicate l.length zeE)).toArray 34))
          have hk5 := hide (Blk.new W4 (enC (List.replicate l.length zeE)).toArray 34)
          clear MK
          go_loopw [9, 44] (fun r i wr => ∃ k : Nat, k ≤ l.length ∧ i = .int .i64 (k : Int) ∧ r = .string ⟨(catB (l.drop k)).toArray⟩ ∧ Hid (Blk W4.heap.size (enC (part l k)).toArray 34 wr) ∧ Hid (Below w.heap.size w wr) ∧ W4.heap.size < wr.heap.size) (fun _ i wr => l.length - (intOf i).toNat)
          case atStart => exact ⟨0, Nat.zero_le _, rfl, rfl, by simpa [part] using hk5, hb5, by simp⟩
          case round =>
            obtain ⟨k, hk, rfl, rfl, hK, hb6, hz7⟩ := hrel
            by_cases hlt : k < l.length
            · obtain ⟨g, o, rfl, c0_, c1_⟩ := unhide AT k hlt wr (unhide hb6)
              have hnx : IntKind.i64.wrap ((k : Int) + 1) = ((k + 1 : Nat) : Int) := (IntWalk.i64_in _ (by omega)).trans (by omega)
              have hz8 := (unhide hb6).size
              have hx := unhide HD l[k] (List.getElem_mem hlt)
              have hsz := catB_size l k hlt
              have hfr := hide (catB_front l k hlt)
              have hre := hide (catB_rest l k hlt)
              have hps := hide (part_set l k hlt)
              have hKl := (unhide hK).lt
              have hsz2 : k * 2 + 1 < (enC (part l k)).toArray.size := by simp [enC_len, part_len l k hk]; omega
              obtain ⟨R, hR⟩ : ∃ R : ByteArray, ⟨(catB (l.drop k)).toArray⟩ = R := ⟨_, rfl⟩
              obtain ⟨D, hD⟩ : ∃ D : ByteArray, l[k].data = D := ⟨_, rfl⟩
              rw [hR] at hsz hfr hre ⊢
              rw [hD] at hsz hfr hre hps hx c1_
              have hi0 : (0 : Int) ≤ (D.size : Int) := by omega
              have hi1 : (D.size : Int) ≤ (R.size : Int) := by omega
              have hi2 : (0 : Int) ≤ (k : Int) := by omega
              have hi3 : (k : Int) < (l.length : Int) := by omega
              clear hR hD
              have K2 := unhide hK
              have k0_ := K2.cell (k * 2)
              have k1_ := K2.cell (k * 2 + 1)
              rw [Array.getElem?_eq_getElem hsz2] at k1_
              rw [Array.getElem?_eq_getElem (show k * 2 < _ by omega)] at k0_
              have kf0_ : ∀ j, wr.frozen? ⟨W4.heap.size, j, none⟩ = false := fun j => K2.froz j
              have kf_ : ∀ j, (wr.alloc (.cells #[.int .i64 (l[k].term : Int), .string D] 34)).frozen? ⟨W4.heap.size, j, none⟩ = false := fun j => (K2.below (below_new wr _)).froz j
              obtain ⟨x0, hx0⟩ : ∃ x0, (enC (part l k)).toArray[k * 2]'(by omega) = x0 := ⟨_, rfl⟩
              obtain ⟨x1, hx1⟩ : ∃ x1, (enC (part l k)).toArray[k * 2 + 1]'hsz2 = x1 := ⟨_, rfl⟩
              rw [hx0] at k0_
              rw [hx1] at k1_
              clear hx0 hx1
              go_wp2
              go_region_held3 (fun w' => w'.cell? ⟨wr.heap.size, 0, none⟩ = some (.int .i64 (l[k].term : Int))) (first | exact cell_new_sz _ _ _ _ (by simp [World.setCell]) 0 | go_keep) (fail)
              all_goals
                go_wp2
                go_roundw
                case rel => exact ⟨k + 1, by omega, by go_num, by rw [unhide hre], (by
                  have h := (K2.set (k * 2) (.int .i64 (l[k].term : Int))).set (k * 2 + 1) (.string (R.extract 0 D.size))
                  have e : ((enC (part l k)).toArray.setIfInBounds (k * 2) (.int .i64 (l[k].term : Int))).setIfInBounds (k * 2 + 1) (.string (R.extract 0 D.size)) = (enC (part l (k + 1))).toArray := by rw [unhide hfr]; exact unhide hps
                  rw [e] at h
                  exact (h.below (below_new _ (.cells #[.int .i64 (l[k].term : Int), .string D] 34)) :)), hide (((((unhide hb6).setCell (p := ⟨W4.heap.size, _, none⟩) hzb _).setCell (p := ⟨W4.heap.size, _, none⟩) hzb _).alloc (by simp [World.setCell]; omega) _).drew), by simp [World.setCell]; omega⟩
                case measure => simp [intOf] <;> omega
            · obtain rfl : k = l.length := by omega
              go_wp2
              go_ret
              have hp : part l l.length = l := by simp [part]
              have hK2 := unhide hK
              rw [hp] at hK2
              exact ⟨_, rfl, ⟨enC_len l, .inr ⟨_, _, _, rfl, hzb, hK2, Nat.le_refl _, by unfold maxLen; omega, by simp [enC_len], by rw [List.take_of_length_le (by simp [enC_len])]⟩⟩, by simp, unhide hb6⟩
end Go.Proofs.Ytbojfiflemmgaaa
