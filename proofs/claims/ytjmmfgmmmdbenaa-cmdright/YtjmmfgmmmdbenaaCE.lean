/-
  Package cmd's Encode.
-/
import Derived.Test.YtjmmfgmmmdbenaaCZ
import Derived.Test.YtjmmfgmmmdbenaaCX1
namespace Go.Proofs.Ytjmmfgmmmdbenaa
open Go.RowKit
set_option linter.unusedSimpArgs false
set_option linter.unusedVariables false

def encS (f : Int) (c : Cm) : ByteArray := if okC f c then ⟨(enc f c).toArray⟩ else ⟨#[]⟩
theorem right_fine {c : Cm} (h : rightC c = true) (hi : Is64 c.id) (ht : Is64 c.txn) (f : Int) : DPf f c ∧ (enc f c).length ≤ 1099511627776 := by
  obtain ⟨⟨a1, a2, a3, a4⟩, a5, a6, a7, a8, a9⟩ := rightC_of h
  unfold Is64 at hi ht
  have hw : ∀ x ∈ c.ws, x.k.size ≤ 4000 ∧ x.v.size ≤ 4000 := fun x hx => by have := rightW_of (a9 x hx); omega
  refine ⟨⟨by unfold Is64; omega, by unfold Is64; omega, by unfold Is64; omega, by omega, fun x hx => by have := hw x hx; exact ⟨by omega, by omega⟩, by omega, fun _ => ⟨⟨a3, by omega⟩, ⟨a4, by omega⟩⟩⟩, Nat.le_trans (enc_len f c (by omega) (by omega) a8 hw (by omega)) (by decide)⟩
set_option maxRecDepth 100000 in
set_option maxHeartbeats 4000000 in
theorem encode_any (f : Int) (c : Cm) (v : Value) (w : World) (hv : CmV v c w) (hf : Fine c) : Calls Try.prog 16 #[v, .int .i64 f] w fun e w' => e = .returned (.tuple #[.string (encS f c), .bool (okC f c)]) ∧ Below w.heap.size w w' := by
  obtain ⟨p, cap, rfl, hw⟩ := hv
  have hb0 := below_new w (.cells #[.int .i64 c.kind, .int .i64 c.id, .int .i64 c.txn, .bool c.com, .slice p c.ws.length cap, .string c.text] 26)
  have HW := hide (hw.below hb0)
  have HB0 := hide hb0
  have R := hide (fun W (hW : WsV p c.ws W) => right_any c (.agg #[.int .i64 c.kind, .int .i64 c.id, .int .i64 c.txn, .bool c.com, .slice p c.ws.length cap, .string c.text]) W ⟨p, cap, rfl, hW⟩ hf)
  have H := hide (fun W => has_any f c.kind W)
  have HFI := hide hf.id
  have HFT := hide hf.txn
  clear hw hb0 hf
  unfold encS okC
  obtain ⟨rc, hrc⟩ : ∃ rc, rightC c = rc := ⟨_, rfl⟩
  obtain ⟨hh, hhh⟩ : ∃ hh, hasB f c.kind = hh := ⟨_, rfl⟩
  rw [hrc] at R ⊢
  rw [hhh] at H ⊢
  have HRC := hide hrc
  clear hrc hhh
  cases rc <;> cases hh
  case false.false =>
    go_enter Try.func16, Try.ntmps16
    go_wp2_with (first | (go_at_call 24; refine (unhide R _ (unhide HW)).mono ?_; rintro e W1 ⟨rfl, hb1⟩; have hk1 := (Blk.new w #[.int .i64 c.kind, .int .i64 c.id, .int .i64 c.txn, .bool c.com, .slice p c.ws.length cap, .string c.text] 26).below hb1; have hc1 := hk1.cell 0; simp at hc1) | (go_at_call 25; refine (unhide H _).mono ?_; rintro e W2 ⟨rfl, rfl⟩))
    go_ret2
    exact ⟨rfl, Below.onto (unhide HB0) hb1⟩
  case false.true =>
    go_enter Try.func16, Try.ntmps16
    go_wp2_with (first | (go_at_call 24; refine (unhide R _ (unhide HW)).mono ?_; rintro e W1 ⟨rfl, hb1⟩; have hk1 := (Blk.new w #[.int .i64 c.kind, .int .i64 c.id, .int .i64 c.txn, .bool c.com, .slice p c.ws.length cap, .string c.text] 26).below hb1; have hc1 := hk1.cell 0; simp at hc1) | (go_at_call 25; refine (unhide H _).mono ?_; rintro e W2 ⟨rfl, rfl⟩))
    go_ret2
    exact ⟨rfl, Below.onto (unhide HB0) hb1⟩
  case true.false =>
    go_enter Try.func16, Try.ntmps16
    go_wp2_with (first | (go_at_call 24; refine (unhide R _ (unhide HW)).mono ?_; rintro e W1 ⟨rfl, hb1⟩; have hk1 := (Blk.new w #[.int .i64 c.kind, .int .i64 c.id, .int .i64 c.txn, .bool c.com, .slice p c.ws.length cap, .string c.text] 26).below hb1; have hc1 := hk1.cell 0; simp at hc1) | (go_at_call 25; refine (unhide H _).mono ?_; rintro e W2 ⟨rfl, rfl⟩))
    go_ret2
    exact ⟨rfl, Below.onto (unhide HB0) hb1⟩
  case true.true =>
    obtain ⟨hD, hL⟩ := right_fine (unhide HRC) (unhide HFI) (unhide HFT) f
    have HD := hide hD
    have HLEN := hide hL
    clear hD hL
    go_enter Try.func16, Try.ntmps16
    go_wp2_with (first | (go_at_call 24; refine (unhide R _ (unhide HW)).mono ?_; rintro e W1 ⟨rfl, hb1⟩; have hk1 := (Blk.new w #[.int .i64 c.kind, .int .i64 c.id, .int .i64 c.txn, .bool c.com, .slice p c.ws.length cap, .string c.text] 26).below hb1; have hc1 := hk1.cell 0; simp at hc1) | (go_at_call 25; refine (unhide H _).mono ?_; rintro e W2 ⟨rfl, rfl⟩))
    rename_i hrest
    have hWd : Below W2.heap.size W2 W2.drew := (Below.refl _ _).drew
    have HWd0 := hide (((unhide HW).below hb1).below hWd)
    have HS : Blk w.heap.size #[.int .i64 c.kind, .int .i64 c.id, .int .i64 c.txn, .bool c.com, .slice p c.ws.length cap, .string c.text] 26 W2.drew := hk1.below hWd
    have HB1 := hide (Below.onto (Below.onto (unhide HB0) hb1) hWd)
    refine wp_region_noPanic ?_
    refine wp_region_held_drew (S := (fun X => Blk w.heap.size #[.int .i64 c.kind, .int .i64 c.id, .int .i64 c.txn, .bool c.com, .slice p c.ws.length cap, .string c.text] 26 X)) (by kernel_rfl) (HS) (fun hHeld => ?_)
    clear hk1 hc1 hb1 hWd HS
    generalize W2.drew = Wd at *
    have HWd := HWd0
    refine wpAnyH_take (i := 0) (oi := ?oi20001) (v := ?v20001) ?hi20001 (by kernel_rfl) (by kernel_rfl) (by kernel_rfl) (fun _ _ _ h => h) (Or.inl ⟨?hw20001, ?hy20001⟩) (by assumption) ?rest20001
    case hi20001 => (simp only [List.getElem?_toArray, List.getElem?_cons_zero]; rfl)
    case hw20001 => rfl
    case hy20001 => first | (intro wx hSw; have q0_ := hSw.cell 0; have q1_ := hSw.cell 1; have q2_ := hSw.cell 2; have q3_ := hSw.cell 3; have q4_ := hSw.cell 4; have q5_ := hSw.cell 5; simp at q0_ q1_ q2_ q3_ q4_ q5_; go_simp; done) | (intro wx hSw; have q0_ := hSw.cell 0; have q1_ := hSw.cell 1; have q2_ := hSw.cell 2; have q3_ := hSw.cell 3; have q4_ := hSw.cell 4; have q5_ := hSw.cell 5; simp at q0_ q1_ q2_ q3_ q4_ q5_; go_simp; with_reducible rfl)
    simp only [Act.put, List.setIfInBounds_toArray, List.set_cons_zero, List.set_cons_succ]
    refine wpAnyH_take (i := 2) (oi := ?oi20002) (v := ?v20002) ?hi20002 (by kernel_rfl) (by kernel_rfl) (by kernel_rfl) (fun _ _ _ h => h) (Or.inl ⟨?hw20002, ?hy20002⟩) (by assumption) ?rest20002
    case hi20002 => (simp only [List.getElem?_toArray, List.getElem?_cons_zero, List.getElem?_cons_succ]; rfl)
    case hw20002 => rfl
    case hy20002 => first | (intro wx hSw; have q0_ := hSw.cell 0; have q1_ := hSw.cell 1; have q2_ := hSw.cell 2; have q3_ := hSw.cell 3; have q4_ := hSw.cell 4; have q5_ := hSw.cell 5; simp at q0_ q1_ q2_ q3_ q4_ q5_; go_simp; done) | (intro wx hSw; have q0_ := hSw.cell 0; have q1_ := hSw.cell 1; have q2_ := hSw.cell 2; have q3_ := hSw.cell 3; have q4_ := hSw.cell 4; have q5_ := hSw.cell 5; simp at q0_ q1_ q2_ q3_ q4_ q5_; go_simp; with_reducible rfl)
    simp only [Act.put, List.setIfInBounds_toArray, List.set_cons_zero, List.set_cons_succ]
    refine wpAnyH_ready (rs := [1]) (by kernel_rfl) (by simp) ?_
    refine AllReadyH.cons rfl (fun K20003 hK20003 => ?_) AllReadyH.nil
    go_simp
    go_wp2_with (go_at_call 26; refine (layout_any _ _).mono ?_; rintro e W3 ⟨K1, p1, K2, p2, rfl, hP, hT, hb3⟩; have HP := hide hP; clear hP hT)
    refine hK20003.out _ _ ?hs20003 (fun hHeld20003 => ?_)
    case hs20003 => exact hHeld.below hb3
    clear hHeld
    have hHeld := hHeld20003; clear hHeld20003 hK20003 K20003
    refine wpAnyH_ready (rs := [3]) (by kernel_rfl) (by simp) ?_
    refine AllReadyH.cons rfl (fun K20004 hK20004 => ?_) AllReadyH.nil
    go_simp
    go_wp2_with (go_at_call 27; refine (write_any c _ W3 K1 K2 p1 p2 (DPf f) (enc f) ⟨p, cap, rfl, (unhide HWd).below hb3⟩ (unhide HP) (unhide HD) (unhide HLEN)).mono ?_; rintro e W4 ⟨rfl, hb4⟩)
    refine hK20004.out _ _ ?hs20004 (fun hHeld20004 => ?_)
    case hs20004 => exact hHeld.below hb4
    clear hHeld
    have hHeld := hHeld20004; clear hHeld20004 hK20004 K20004
    refine wpAnyH_take (i := 4) (oi := ?oi20005) (v := ?v20005) ?hi20005 (by kernel_rfl) (by kernel_rfl) (by kernel_rfl) (fun _ _ _ h => h) (Or.inl ⟨?hw20005, ?hy20005⟩) (by assumption) ?rest20005
    case hi20005 => (simp only [List.getElem?_toArray, List.getElem?_cons_zero, List.getElem?_cons_succ]; rfl)
    case hw20005 => rfl
    case hy20005 => first | (intro wx hSw; go_simp; done) | (intro wx hSw; go_simp; with_reducible rfl)
    simp only [Act.put, List.setIfInBounds_toArray, List.set_cons_zero, List.set_cons_succ]
    refine wpAnyH_take (i := 5) (oi := ?oi20006) (v := ?v20006) ?hi20006 (by kernel_rfl) (by kernel_rfl) (by kernel_rfl) (fun _ _ _ h => h) (Or.inl ⟨?hw20006, ?hy20006⟩) (by assumption) ?rest20006
    case hi20006 => (simp only [List.getElem?_toArray, List.getElem?_cons_zero, List.getElem?_cons_succ]; rfl)
    case hw20006 => rfl
    case hy20006 => first | (intro wx hSw; go_simp; done) | (intro wx hSw; go_simp; with_reducible rfl)
    simp only [Act.put, List.setIfInBounds_toArray, List.set_cons_zero, List.set_cons_succ]
    refine wpAnyH_done (by kernel_rfl) ?_ _
    refine NoPanic.normal ?_
    refine hrest _ _ ?_
    clear hHeld
    go_wp2_with fail
    go_ret2
    exact ⟨rfl, Below.onto (Below.onto (unhide HB1) hb3) hb4⟩
end Go.Proofs.Ytjmmfgmmmdbenaa
