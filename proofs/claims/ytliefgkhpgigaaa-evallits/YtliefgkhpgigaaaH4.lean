/-
  What the statements' own function Make returns, of kind 4: a text of printable bytes.
-/
import Derived.Test.YtliefgkhpgigaaaH
import Derived.Laws.IdiomStrings
namespace Go.Proofs.Ytliefgkhpgigaaa
open Go.RowKit
set_option linter.unusedSimpArgs false
set_option linter.unusedVariables false

def byteAt (s : ByteArray) (j : Nat) : Nat := (s.data.toList.getD j 0).toNat
theorem byteAt_lt (s : ByteArray) (j : Nat) : byteAt s j < 256 := UInt8.toNat_lt _
def mkN (s : ByteArray) (k j : Nat) : Nat := if j < k then 32 + byteAt s j % 95 else byteAt s j
theorem mkN_lt (s : ByteArray) (k j : Nat) : mkN s k j < 256 := by
  have := byteAt_lt s j; unfold mkN; split <;> omega
theorem mkN_self (s : ByteArray) (k : Nat) : mkN s k k = byteAt s k := by unfold mkN; rw [if_neg (by omega)]
theorem mkN_next (s : ByteArray) (k : Nat) : mkN s (k + 1) k = 32 + byteAt s k % 95 := by unfold mkN; rw [if_pos (by omega)]
theorem mkN_other (s : ByteArray) (k j : Nat) (h : j ≠ k) : mkN s (k + 1) j = mkN s k j := by
  unfold mkN
  by_cases h1 : j < k
  · rw [if_pos h1, if_pos (by omega)]
  · rw [if_neg h1, if_neg (by omega)]
theorem ok_text {t : ByteArray} (h : t.size ≤ 40) (hc : cleanB t = true) : Ok 4 0 0 t := by
  refine ⟨by decide, ?_, by unfold Is64; omega, by decide, h, fun h => absurd h (by decide)⟩
  unfold rightB; rw [if_neg (by decide), if_neg (by decide), if_neg (by decide), if_neg (by decide), if_pos rfl, hc, Bool.and_true]
  exact decide_eq_true ⟨rfl, rfl, by omega⟩

/-- the first m bytes, each made printable -/
def outL (s : ByteArray) (m : Nat) : List UInt8 := (List.range m).map (fun j => UInt8.ofNat (mkN s s.size j))
theorem outL_len (s : ByteArray) (m : Nat) : (outL s m).length = m := by unfold outL; simp
theorem outL_at (s : ByteArray) (m j : Nat) (h : j < (outL s m).length) : ((outL s m)[j].toNat : Int) = (mkN s s.size j : Int) := by
  have := mkN_lt s s.size j
  simp [outL]; omega
theorem outL_clean (s : ByteArray) (m : Nat) (hm : m ≤ s.size) : cleanB ⟨(outL s m).toArray⟩ = true := by
  unfold cleanB
  rw [List.all_eq_true]
  intro c hc
  simp only [List.toList_toArray] at hc
  unfold outL at hc
  obtain ⟨j, hj, rfl⟩ := List.mem_map.1 hc
  have hj' : j < m := by simpa using hj
  have e : mkN s s.size j = 32 + byteAt s j % 95 := by unfold mkN; rw [if_pos (by omega)]
  unfold okByte
  rw [e]
  have : (UInt8.ofNat (32 + byteAt s j % 95)).toNat = 32 + byteAt s j % 95 := by simp; omega
  rw [this]
  exact decide_eq_true (by omega)

/-- what holds at each round's head -/
def RelM (w : World) (s : ByteArray) (k : Nat) (W : World) : Prop :=
  Four w.heap.size (.int .i64 0) (.int .i64 0) (.int .i64 0) (.string ByteArray.empty) W ∧
  Four (w.heap.size + 1) (.int .i64 4) (.int .i64 0) (.int .i64 0) (.string ⟨#[]⟩) W ∧
  (∀ j, j < s.size → W.cell? ⟨w.heap.size + 1 + 1, j, none⟩ = some (.int .u8 (mkN s k j : Int)) ∧ W.frozen? ⟨w.heap.size + 1 + 1, j, none⟩ = false) ∧
  Below w.heap.size w W
theorem four_far {b c o : Nat} {x0 x1 x2 x3 y : Value} {W : World} (hne : c ≠ b) (h : Four b x0 x1 x2 x3 W) : Four b x0 x1 x2 x3 (W.setCell ⟨c, o, none⟩ y) := by
  obtain ⟨h0, h1, h2, h3, h4, h5, h6, h7, h8⟩ := h
  refine ⟨by simpa using h0, ?_, ?_, ?_, ?_, ?_, ?_, ?_, ?_⟩
  · rw [World.cell?_setCell_other _ _ _ _ (by intro e; exact hne (by injection e))]; exact h1
  · rw [World.cell?_setCell_other _ _ _ _ (by intro e; exact hne (by injection e))]; exact h2
  · rw [World.cell?_setCell_other _ _ _ _ (by intro e; exact hne (by injection e))]; exact h3
  · rw [World.cell?_setCell_other _ _ _ _ (by intro e; exact hne (by injection e))]; exact h4
  all_goals go_simp
theorem relM_step {w : World} {s : ByteArray} {k : Nat} {W : World} (h : RelM w s k W) (hk : k < s.size) (y : Int) (hy : y = 32 + (byteAt s k : Int) % 95) :
    RelM w s (k + 1) (W.setCell ⟨w.heap.size + 1 + 1, k, none⟩ (.int .u8 y)) := by
  obtain ⟨h1, h2, h3, h4⟩ := h
  refine ⟨four_far (by omega) h1, four_far (by omega) h2, ?_, h4.setCell (by show w.heap.size ≤ w.heap.size + 1 + 1; omega) _⟩
  intro j hj
  by_cases hjk : j = k
  · subst hjk
    refine ⟨?_, by have := (h3 j hj).2; go_simp⟩
    rw [mkN_next, hy]
    have := (h3 j hj).1
    go_simp
  · refine ⟨?_, by have := (h3 j hj).2; go_simp⟩
    rw [World.cell?_setCell_other _ _ _ _ (by intro e; injection e; omega), mkN_other s k j hjk]; exact (h3 j hj).1

theorem bytesRow_cell (s : ByteArray) (cap j : Nat) (h : j < s.size) : (bytesRow s cap)[j]? = some (.int .u8 (mkN s 0 j : Int)) := by
  rw [bytesRow_at s cap j h]
  unfold mkN byteAt
  rw [if_neg (by omega)]
  have : s.data.toList.getD j 0 = s.data[j]'h := by simp [List.getD, h]
  rw [this]
theorem bytesRow_ge (s : ByteArray) (cap : Nat) : s.size ≤ (bytesRow s cap).size := by unfold bytesRow; simp

theorem relM_start (w : World) (s : ByteArray) (cap : Nat) :
    RelM w s 0 ((((w.alloc (.cells #[.int .i64 0, .int .i64 0, .int .i64 0, .string ByteArray.empty] 28)).alloc (.cells #[.int .i64 4, .int .i64 0, .int .i64 0, .string ⟨#[]⟩] 28)).alloc
      (.cells (bytesRow s cap) 5 ((bytesRow s cap).size, (bytesRow s cap).size + 1))).drew) := by
  refine ⟨four_drew (four_more (four_more (four_alloc _ _ _ _ _ _) _) _), four_drew (four_more ?_ _), ?_, (((Below.refl _ _).alloc (Nat.le_refl _) _).alloc (by simp) _ |>.alloc (by simp; omega) _).drew⟩
  · have := four_alloc (.int .i64 4) (.int .i64 0) (.int .i64 0) (.string ⟨#[]⟩) 28 (w.alloc (.cells #[.int .i64 0, .int .i64 0, .int .i64 0, .string ByteArray.empty] 28))
    rw [World.size_alloc] at this; exact this
  · intro j hj
    have hz : ((w.alloc (.cells #[.int .i64 0, .int .i64 0, .int .i64 0, .string ByteArray.empty] 28)).alloc (.cells #[.int .i64 4, .int .i64 0, .int .i64 0, .string ⟨#[]⟩] 28)).heap.size = w.heap.size + 1 + 1 := by simp
    have h1 := World.cell?_alloc_mark ((w.alloc (.cells #[.int .i64 0, .int .i64 0, .int .i64 0, .string ByteArray.empty] 28)).alloc (.cells #[.int .i64 4, .int .i64 0, .int .i64 0, .string ⟨#[]⟩] 28)) (bytesRow s cap) 5 ((bytesRow s cap).size, (bytesRow s cap).size + 1) j
    have h2 := World.frozen?_alloc_mark ((w.alloc (.cells #[.int .i64 0, .int .i64 0, .int .i64 0, .string ByteArray.empty] 28)).alloc (.cells #[.int .i64 4, .int .i64 0, .int .i64 0, .string ⟨#[]⟩] 28)) (bytesRow s cap) 5 (bytesRow s cap).size ((bytesRow s cap).size + 1) j
    rw [hz] at h1 h2
    refine ⟨?_, ?_⟩
    · show World.cell? (World.drew _) _ = _
      rw [World.cell?_drew, h1]; exact bytesRow_cell s cap j hj
    · show World.frozen? (World.drew _) _ = _
      rw [World.frozen?_drew, h2]
      have := bytesRow_ge s cap
      simp; omega

set_option maxRecDepth 4000 in
set_option maxHeartbeats 1600000 in
theorem make4 (kind n : Int) (s : ByteArray) (w : World) (hk : Is64 kind) (hj : kind % 6 = 4) (hs : s.size ≤ 9223372036854775807) :
    Calls Try.prog 43 #[.int .i64 kind, .int .i64 n, .string s] w fun e w' => Made e 4 ∧ Below w.heap.size w w' := by
  have C := hide (fun W => within1_at hk (by decide) hj W)
  clear hj hk
  have hconv := fun W => run_bytes_of_string (P := Try.prog) W 9 107 5 s (by kernel_rfl) (by kernel_rfl) (by kernel_rfl)
  go_enter Try.func43, Try.ntmps43
  go_wp2_with (go_at_call 63; refine (unhide C _).mono ?_; rintro e w' ⟨rfl, rfl⟩)
  have hge := grownCap_ge ((w.alloc (.cells #[.int .i64 0, .int .i64 0, .int .i64 0, .string ⟨#[]⟩] 28)).alloc (.cells #[.int .i64 4, .int .i64 0, .int .i64 0, .string ⟨#[]⟩] 28)) s.size 0 5
  generalize grownCap ((w.alloc (.cells #[.int .i64 0, .int .i64 0, .int .i64 0, .string ⟨#[]⟩] 28)).alloc (.cells #[.int .i64 4, .int .i64 0, .int .i64 0, .string ⟨#[]⟩] 28)) s.size 0 5 = cap at *
  go_loopw [9] (fun i wr => ∃ k : Nat, k ≤ s.size ∧ i = .int .i64 k ∧ Hid (RelM w s k wr)) (fun i _ => s.size - (intOf i).toNat)
  case atStart => exact ⟨0, Nat.zero_le _, rfl, relM_start w s cap⟩
  case round =>
    obtain ⟨k, hk, rfl, HR⟩ := hrel
    by_cases hlt : k < s.size
    · obtain ⟨hc, hf⟩ := (unhide HR).2.2.1 k hlt
      rw [mkN_self] at hc
      have hb0 : 0 ≤ (byteAt s k : Int) := by omega
      have hb1 : (byteAt s k : Int) < 256 := by have := byteAt_lt s k; omega
      obtain ⟨c, hcc⟩ : ∃ c, c = (byteAt s k : Int) := ⟨_, rfl⟩
      rw [← hcc] at hc hb0 hb1
      obtain ⟨d, hd⟩ : ∃ d, d = c % 95 := ⟨_, rfl⟩
      have D := hide (fun W => within1_at (x := c) (by unfold Is64; omega) (by decide) hd.symm W)
      have hd0 : 0 ≤ d := by omega
      have hd1 : d < 95 := by omega
      have HD := hide (show (32 + d) = 32 + (byteAt s k : Int) % 95 by rw [hd, hcc])
      clear hd hcc
      go_wp2_with (go_at_call 63; refine (unhide D _).mono ?_; rintro e w' ⟨rfl, rfl⟩)
      go_roundw
      case rel => exact ⟨k + 1, by omega, by go_num, relM_step (unhide HR) hlt _ (unhide HD)⟩
      case measure => simp [intOf]; omega
    · have hks : k = s.size := by omega
      have hcell := (unhide HR).2.2.1
      rw [hks] at hcell
      obtain ⟨m, hm⟩ : ∃ m, m = min s.size 40 := ⟨_, rfl⟩
      have hback : (convert 107 9 (.slice (some ⟨w.heap.size + 1 + 1, 0, none⟩) m cap)).run Try.prog wr = .ok (.string ⟨(outL s m).toArray⟩) wr := by
        have := run_convert_bytes_back (P := Try.prog) wr 107 9 5 ⟨w.heap.size + 1 + 1, 0, none⟩ cap (outL s m) (by kernel_rfl) (by kernel_rfl) (by kernel_rfl)
          (fun j hj => by
            rw [outL_at]; rw [outL_len] at hj
            have := (hcell j (by omega)).1
            by_cases h0 : j = 0
            · subst h0; simpa [Addr.add] using this
            · simpa [Addr.add, h0] using this)
        rwa [outL_len] at this
      have HO := hide (ok_text (t := ⟨(outL s m).toArray⟩) (by show (outL s m).toArray.size ≤ 40; rw [List.size_toArray, outL_len]; omega) (outL_clean s m (by omega)))
      obtain ⟨r, hr⟩ : ∃ r : ByteArray, r = ⟨(outL s m).toArray⟩ := ⟨_, rfl⟩
      rw [← hr] at hback HO
      clear hr hcell hks
      have HB := hide (unhide HR).2.2.2
      obtain ⟨hF, hG, -, -⟩ := unhide HR
      obtain ⟨f0, f1, f2, f3, f4, f5, f6, f7, f8⟩ := hF
      obtain ⟨g0, g1, g2, g3, g4, g5, g6, g7, g8⟩ := hG
      clear HR hconv C
      by_cases h40 : s.size ≤ 40
      · have hm' : m = s.size := by omega
        rw [hm'] at hback
        clear hm hm'
        go_wp2
        exact bodyPost_ret (v := V 4 0 0 r) (by simp [results, Try.results43, go_sem, f1, f2, f3, f4]) rfl ⟨⟨_, _, _, unhide HO, rfl⟩, ((unhide HB).setCell (p := ⟨w.heap.size + 1, 3, none⟩) (Nat.le_succ _) (.string r)).trans (below_set4 w.heap.size _ _ _ _ _)⟩
      · have hm' : m = 40 := by omega
        rw [hm'] at hback
        clear hm hm'
        go_wp2
        exact bodyPost_ret (v := V 4 0 0 r) (by simp [results, Try.results43, go_sem, f1, f2, f3, f4]) rfl ⟨⟨_, _, _, unhide HO, rfl⟩, ((unhide HB).setCell (p := ⟨w.heap.size + 1, 3, none⟩) (Nat.le_succ _) (.string r)).trans (below_set4 w.heap.size _ _ _ _ _)⟩
end Go.Proofs.Ytliefgkhpgigaaa
