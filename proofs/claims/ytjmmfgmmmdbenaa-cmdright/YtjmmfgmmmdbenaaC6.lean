/-
  Package cmd: lists of writes, put; writes, commands as they lie.
-/
import Derived.Test.YtjmmfgmmmdbenaaC5
namespace Go.Proofs.Ytjmmfgmmmdbenaa
open Go.RowKit
set_option linter.unusedSimpArgs false
set_option linter.unusedVariables false

def layW : Lay Wt where
  R x b o g W := (W.cell? ⟨b, o, none⟩ = some (.string x.k) ∧ W.cell? ⟨b, o + 1, none⟩ = some (.string x.v) ∧ W.cell? ⟨b, o + 2, none⟩ = some (.bool x.g)) ∧ g < W.heap.size
  lt h := ⟨World.block_lt_of_cell? _ _ h.1.1, h.2⟩
  kept h h1 h2 := ⟨⟨(World.cell?_of_block (a := ⟨_, _, none⟩) h1).trans h.1.1, (World.cell?_of_block (a := ⟨_, _, none⟩) h1).trans h.1.2.1, (World.cell?_of_block (a := ⟨_, _, none⟩) h1).trans h.1.2.2⟩, lt_of_heap h2 h.2⟩
/-- writes from place o2 of block g on -/
def WsAt (ws : List Wt) (g o2 : Nat) (W : World) : Prop := ∀ i (h : i < ws.length), layW.R ws[i] g (o2 + i * 3) g W
def layWs : Lay (List Wt) where
  R ws b o g W := g < W.heap.size ∧ ∃ p cap o2, W.cell? ⟨b, o, none⟩ = some (.slice p ws.length cap) ∧ (ws.length ≠ 0 → p = some ⟨g, o2, none⟩) ∧ WsAt ws g o2 W
  lt h := by
    obtain ⟨h1, p, cap, o2, h2, _⟩ := h
    exact ⟨World.block_lt_of_cell? _ _ h2, h1⟩
  kept h h1 h2 := by
    obtain ⟨h3, p, cap, o2, h4, h5, h6⟩ := h
    exact ⟨lt_of_heap h2 h3, p, cap, o2, (World.cell?_of_block (a := ⟨_, _, none⟩) h1).trans h4, h5, fun i hi => layW.kept (h6 i hi) h2 h2⟩
theorem flat_take (fw : Wt → List UInt8) (ws : List Wt) (k : Nat) (h : k < ws.length) : (ws.take (k + 1)).flatMap fw = (ws.take k).flatMap fw ++ fw ws[k] := by
  rw [List.take_add_one, List.getElem?_eq_getElem h, List.flatMap_append]
  simp
theorem flat_len (fw : Wt → List UInt8) (ws : List Wt) (k : Nat) (h : k < ws.length) : ((ws.take k).flatMap fw).length + (fw ws[k]).length ≤ (ws.flatMap fw).length := by
  have h1 : ws.flatMap fw = (ws.take (k + 1)).flatMap fw ++ (ws.drop (k + 1)).flatMap fw := by
    rw [← List.flatMap_append, List.take_append_drop]
  rw [h1, flat_take fw ws k h]; simp

set_option maxRecDepth 100000 in
set_option maxHeartbeats 4000000 in
theorem listPuts (fs ft it is : Value) (bz bi : Nat) (w0 : World) (Dn : Int → Prop) (fn : Int → List UInt8) (Dw : Wt → Prop) (fw : Wt → List UInt8)
    (hz : Puts fs w0 layI Dn fn) (hi : Puts is w0 layW Dw fw) (hbz : Blk bz #[fs, ft] 77 w0) (hbi : Blk bi #[is, it] 82 w0) :
    Puts (.func (.func 89) #[] #[ptr bz 0, ptr bi 0]) w0 layWs (fun ws => Dn ws.length ∧ ws.length ≤ 1000000 ∧ ∀ w ∈ ws, Dw w) (fun ws => fn ws.length ++ ws.flatMap fw) := by
  obtain ⟨K, caps, rfl, hE, hc⟩ := hz
  obtain ⟨Ki, capsi, rfl, hEi, hci⟩ := hi
  refine ⟨_, _, rfl, (fun _ _ => by kernel_rfl), fun ws W base v xs b o g hB h2 h3 hown hR n1 n2 hD hl => ?_⟩
  simp only [List.append_toArray, List.cons_append, List.nil_append]
  have hRR := hR
  obtain ⟨hgl, p, cap, o2, hsl, hp, hat⟩ := hR
  have hlb := (layWs.lt hRR).1
  have hlz := (hbz.below hB).lt
  have hli := (hbi.below hB).lt
  have hz0 := (hbz.below hB).cell 0
  simp at hz0
  have HBI := hide (hbi.below hB)
  have HB := hide hB
  have HAT := hide hat
  have HP := hide hp
  have hln : ws.length ≤ 1000000 := hD.2.1
  have hli0 : bi < base := Nat.lt_of_lt_of_le hbi.lt h2
  have HDW := hide hD.2.2
  have C := hide hc
  have CI := hide hci
  have hnw : (W.alloc (.cells #[.int .i64 (ws.length : Int)] 3)).cell? ⟨W.heap.size, 0, none⟩ = some (.int .i64 (ws.length : Int)) := (Blk.new W #[.int .i64 (ws.length : Int)] 3).cell 0
  have hgt : W.heap.size < (W.alloc (.cells #[.int .i64 (ws.length : Int)] 3)).heap.size := by simp
  rw [List.length_append] at hl
  have CC := hide (hc ws.length (W.alloc (.cells #[.int .i64 (ws.length : Int)] 3)) base v xs W.heap.size 0 W.heap.size (Below.onto hB (below_new _ _)) h2 (Nat.le_trans h3 (below_new W _).size) (hown.below (below_new _ _)) ⟨hnw, hgt⟩ (own_ne_new hown (Nat.le_refl _)) (own_ne_new hown (Nat.le_refl _)) hD.1 (by omega))
  have hsl2 : (W.alloc (.cells #[.int .i64 (ws.length : Int)] 3)).cell? ⟨b, o, none⟩ = some (.slice p ws.length cap) := (World.cell?_of_block (a := ⟨b, o, none⟩) ((below_new W _).block _ hlb)).trans hsl
  have HSL := hide hsl
  have HSL2 := hide hsl2
  clear hbz hbi hB hat hp hD hc hci hnw hRR hsl2
  go_enter Try.func89, Try.ntmps89
  go_wp2_with (refine (unhide CC).mono ?_; rintro e W2 ⟨v2, rfl, hown2, hK2⟩; have hsl3 : W2.cell? ⟨b, o, none⟩ = some (.slice p ws.length cap) := (World.cell?_of_block (a := ⟨b, o, none⟩) (hK2.block (Nat.lt_of_lt_of_le hlb (below_new W _).size) n1)).trans (unhide HSL2))
  have hK0 : KeepB W W2 v v2 := (KeepB.of_below (below_new W _)).trans hK2
  clear hK2 CC C hz0 hsl
  go_loopw [0, 8, 21] (fun u _ i wr => ∃ k : Nat, k ≤ ws.length ∧ i = .int .i64 (k : Int) ∧ OwnB wr base u (xs ++ (fn ws.length ++ (ws.take k).flatMap fw)) ∧ KeepB W wr v u)
    (fun u _ i wr => ws.length - (intOf i).toNat)
  case atStart => exact ⟨0, Nat.zero_le _, rfl, by simpa using hown2, hK0⟩
  case round =>
    obtain ⟨k, hk, rfl, hrow, hK⟩ := hrel
    by_cases hlt : k < ws.length
    · have hszz := hK.grown.size
      have hlk := flat_len fw ws k hlt
      have htk := hide (flat_take fw ws k hlt)
      have hDk := hide (unhide HDW ws[k] (List.getElem_mem hlt))
      have hRk := hide (layW.kept ((unhide HAT) k hlt) (hK.block hgl n2) (hK.block hgl n2))
      obtain rfl := (unhide HP) (by omega)
      have hslk : wr.cell? ⟨b, o, none⟩ = some (.slice (some ⟨g, o2, none⟩) ws.length cap) := (World.cell?_of_block (a := ⟨b, o, none⟩) (hK.block (Nat.lt_of_lt_of_le hlb (Nat.le_refl _)) n1)).trans (unhide HSL)
      have hll : xs.length + (fn ws.length).length + ((ws.take k).flatMap fw).length + (fw ws[k]).length ≤ 1099511627776 := by omega
      have hBIw := (unhide HBI).keep hK (own_ne hown hli0)
      have HBw : Below w0.heap.size w0 wr := (unhide HB).trans ((hK.below hown h3).mono h2)
      have hlw : b < wr.heap.size := Nat.lt_of_lt_of_le hlb hszz
      have HnB : u0.ownBlock ≠ some b := hK.apart hlb n1
      have HnG : u0.ownBlock ≠ some g := hK.apart hgl n2
      have HnA : u0.ownBlock ≠ some bi := hK.apart hli (own_ne hown hli0)
      have hwk : IntKind.i64.wrap ((k : Int) * 3) = (k : Int) * 3 := IntWalk.i64_in _ (by omega)
      go_wp2
      rename_i hrest
      have hWd : Below wr.heap.size wr wr.drew := (Below.refl _ _).drew
      have HS : Blk bi #[.func (.func Ki) #[] capsi, it] 82 wr.drew ∧ wr.drew.cell? ⟨b, o, none⟩ = some (.slice (some ⟨g, o2, none⟩) ws.length cap) := ⟨hBIw.below hWd, (World.cell?_of_block (a := ⟨b, o, none⟩) (hWd.block _ hlw)).trans hslk⟩
      refine wp_region_noPanic ?_
      refine wp_region_held_drew (S := (fun X => Blk bi #[.func (.func Ki) #[] capsi, it] 82 X ∧ X.cell? ⟨b, o, none⟩ = some (.slice (some ⟨g, o2, none⟩) ws.length cap))) (by kernel_rfl) (HS) (fun hHeld => ?_)
      clear hBIw hslk
      generalize wr.drew = Wd at *
      have hownd := hrow.below hWd
      have hlbd : b < Wd.heap.size := Nat.lt_of_lt_of_le hlw hWd.size
      have CC := hide (unhide CI ws[k] Wd base u0 _ g (o2 + k * 3) g (Below.onto HBw hWd) h2 (Nat.le_trans (Nat.le_trans h3 hszz) hWd.size) hownd (Lay.below (unhide hRk) hWd) HnG HnG (unhide hDk) (by rw [List.length_append, List.length_append]; omega))
      clear CI
      refine wpAnyH_take (i := 0) (oi := ?oi20001) (v := ?v20001) ?hi20001 (by kernel_rfl) (by kernel_rfl) (by kernel_rfl) (fun _ _ _ h => h) (Or.inl ⟨?hw20001, ?hy20001⟩) (by assumption) ?rest20001
      case hi20001 => (simp only [List.getElem?_toArray, List.getElem?_cons_zero]; rfl)
      case hw20001 => rfl
      case hy20001 => first | (intro wx hSw; obtain ⟨hs1, hs2⟩ := hSw; have hs3 := hs1.cell 0; simp at hs3; go_simp; done) | (intro wx hSw; obtain ⟨hs1, hs2⟩ := hSw; have hs3 := hs1.cell 0; simp at hs3; go_simp; with_reducible rfl)
      simp only [Act.put, List.setIfInBounds_toArray, List.set_cons_zero, List.set_cons_succ]
      refine wpAnyH_take (i := 1) (oi := ?oi20002) (v := ?v20002) ?hi20002 (by kernel_rfl) (by kernel_rfl) (by kernel_rfl) (fun _ _ _ h => h) (Or.inl ⟨?hw20002, ?hy20002⟩) (by assumption) ?rest20002
      case hi20002 => (simp only [List.getElem?_toArray, List.getElem?_cons_zero, List.getElem?_cons_succ]; rfl)
      case hw20002 => rfl
      case hy20002 => first | (intro wx hSw; obtain ⟨hs1, hs2⟩ := hSw; have hs3 := hs1.cell 0; simp at hs3; go_simp; done) | (intro wx hSw; obtain ⟨hs1, hs2⟩ := hSw; have hs3 := hs1.cell 0; simp at hs3; go_simp; with_reducible rfl)
      simp only [Act.put, List.setIfInBounds_toArray, List.set_cons_zero, List.set_cons_succ]
      refine wpAnyH_take (i := 2) (oi := ?oi20003) (v := ?v20003) ?hi20003 (by kernel_rfl) (by kernel_rfl) (by kernel_rfl) (fun _ _ _ h => h) (Or.inl ⟨?hw20003, ?hy20003⟩) (by assumption) ?rest20003
      case hi20003 => (simp only [List.getElem?_toArray, List.getElem?_cons_zero, List.getElem?_cons_succ]; rfl)
      case hw20003 => rfl
      case hy20003 => first | (intro wx hSw; obtain ⟨hs1, hs2⟩ := hSw; have hs3 := hs1.cell 0; simp at hs3; go_simp; done) | (intro wx hSw; obtain ⟨hs1, hs2⟩ := hSw; have hs3 := hs1.cell 0; simp at hs3; go_simp; with_reducible rfl)
      simp only [Act.put, List.setIfInBounds_toArray, List.set_cons_zero, List.set_cons_succ]
      refine wpAnyH_take (i := 3) (oi := ?oi20004) (v := ?v20004) ?hi20004 (by kernel_rfl) (by kernel_rfl) (by kernel_rfl) (fun _ _ _ h => h) (Or.inl ⟨?hw20004, ?hy20004⟩) (by assumption) ?rest20004
      case hi20004 => (simp only [List.getElem?_toArray, List.getElem?_cons_zero, List.getElem?_cons_succ]; rfl)
      case hw20004 => rfl
      case hy20004 => first | (intro wx hSw; obtain ⟨hs1, hs2⟩ := hSw; have hs3 := hs1.cell 0; simp at hs3; go_simp; done) | (intro wx hSw; obtain ⟨hs1, hs2⟩ := hSw; have hs3 := hs1.cell 0; simp at hs3; go_simp; with_reducible rfl)
      simp only [Act.put, List.setIfInBounds_toArray, List.set_cons_zero, List.set_cons_succ]
      refine wpAnyH_take (i := 4) (oi := ?oi20005) (v := ?v20005) ?hi20005 (by kernel_rfl) (by kernel_rfl) (by kernel_rfl) (fun _ _ _ h => h) (Or.inl ⟨?hw20005, ?hy20005⟩) (by assumption) ?rest20005
      case hi20005 => (simp only [List.getElem?_toArray, List.getElem?_cons_zero, List.getElem?_cons_succ]; rfl)
      case hw20005 => rfl
      case hy20005 => first | (intro wx hSw; obtain ⟨hs1, hs2⟩ := hSw; have hs3 := hs1.cell 0; simp at hs3; go_simp; done) | (intro wx hSw; obtain ⟨hs1, hs2⟩ := hSw; have hs3 := hs1.cell 0; simp at hs3; go_simp; with_reducible rfl)
      simp only [Act.put, List.setIfInBounds_toArray, List.set_cons_zero, List.set_cons_succ]
      refine wpAnyH_take (i := 5) (oi := ?oi20006) (v := ?v20006) ?hi20006 (by kernel_rfl) (by kernel_rfl) (by kernel_rfl) (fun _ _ _ h => h) (Or.inl ⟨?hw20006, ?hy20006⟩) (by assumption) ?rest20006
      case hi20006 => (simp only [List.getElem?_toArray, List.getElem?_cons_zero, List.getElem?_cons_succ]; rfl)
      case hw20006 => rfl
      case hy20006 => first | (intro wx hSw; obtain ⟨hs1, hs2⟩ := hSw; have hs3 := hs1.cell 0; simp at hs3; go_simp; done) | (intro wx hSw; obtain ⟨hs1, hs2⟩ := hSw; have hs3 := hs1.cell 0; simp at hs3; go_simp; with_reducible rfl)
      simp only [Act.put, List.setIfInBounds_toArray, List.set_cons_zero, List.set_cons_succ]
      refine wpAnyH_take (i := 6) (oi := ?oi20007) (v := ?v20007) ?hi20007 (by kernel_rfl) (by kernel_rfl) (by kernel_rfl) (fun _ _ _ h => h) (Or.inl ⟨?hw20007, ?hy20007⟩) (by assumption) ?rest20007
      case hi20007 => (simp only [List.getElem?_toArray, List.getElem?_cons_zero, List.getElem?_cons_succ]; rfl)
      case hw20007 => rfl
      case hy20007 => first | (intro wx hSw; obtain ⟨hs1, hs2⟩ := hSw; have hs3 := hs1.cell 0; simp at hs3; go_simp; done) | (intro wx hSw; obtain ⟨hs1, hs2⟩ := hSw; have hs3 := hs1.cell 0; simp at hs3; go_simp; with_reducible rfl)
      simp only [Act.put, List.setIfInBounds_toArray, List.set_cons_zero, List.set_cons_succ]
      refine wpAnyH_take (i := 7) (oi := ?oi20008) (v := ?v20008) ?hi20008 (by kernel_rfl) (by kernel_rfl) (by kernel_rfl) (fun _ _ _ h => h) (Or.inl ⟨?hw20008, ?hy20008⟩) (by assumption) ?rest20008
      case hi20008 => (simp only [List.getElem?_toArray, List.getElem?_cons_zero, List.getElem?_cons_succ]; rfl)
      case hw20008 => rfl
      case hy20008 => first | (intro wx hSw; obtain ⟨hs1, hs2⟩ := hSw; have hs3 := hs1.cell 0; simp at hs3; go_simp; done) | (intro wx hSw; obtain ⟨hs1, hs2⟩ := hSw; have hs3 := hs1.cell 0; simp at hs3; go_simp; with_reducible rfl)
      simp only [Act.put, List.setIfInBounds_toArray, List.set_cons_zero, List.set_cons_succ]
      refine wpAnyH_ready (rs := [8]) (by kernel_rfl) (by simp) ?_
      refine AllReadyH.cons rfl (fun K20009 hK20009 => ?_) AllReadyH.nil
      go_simp
      go_wp2_with (refine (unhide CC).mono ?_; rintro e W2 ⟨v2, rfl, hown2, hK2⟩)
      refine hK20009.out _ _ ?hs20009 (fun hHeld20009 => ?_)
      case hs20009 => exact ⟨hHeld.1.keep hK2 HnA, (World.cell?_of_block (hK2.block hlbd HnB)).trans hHeld.2⟩
      clear hHeld
      have hHeld := hHeld20009; clear hHeld20009 hK20009 K20009
      refine wpAnyH_take (i := 9) (oi := ?oi20010) (v := ?v20010) ?hi20010 (by kernel_rfl) (by kernel_rfl) (by kernel_rfl) (fun _ _ _ h => h) (Or.inl ⟨?hw20010, ?hy20010⟩) (by assumption) ?rest20010
      case hi20010 => (simp only [List.getElem?_toArray, List.getElem?_cons_zero, List.getElem?_cons_succ]; rfl)
      case hw20010 => rfl
      case hy20010 => first | (intro wx hSw; go_simp; done) | (intro wx hSw; go_simp; with_reducible rfl)
      simp only [Act.put, List.setIfInBounds_toArray, List.set_cons_zero, List.set_cons_succ]
      refine wpAnyH_done (by kernel_rfl) ?_ _
      refine NoPanic.normal ?_
      refine hrest _ _ ?_
      clear hHeld
      go_wp2_with fail
      go_roundw
      case rel => exact ⟨k + 1, by omega, by go_num, by rw [unhide htk, ← List.append_assoc (fn _), ← List.append_assoc xs]; exact hown2, hK.trans ((KeepB.of_below hWd).trans hK2)⟩
      case measure => simp [intOf] <;> omega
    · obtain rfl : k = ws.length := by omega
      rw [List.take_length] at hrow
      go_wp2
      go_ret
      exact ⟨_, rfl, hrow, hK⟩
end Go.Proofs.Ytjmmfgmmmdbenaa
