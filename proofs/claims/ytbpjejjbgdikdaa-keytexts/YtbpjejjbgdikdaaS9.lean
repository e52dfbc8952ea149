/-
  A decimal read off a text's front: what package key's decimal returns and leaves.
-/
import Derived.Test.YtbpjejjbgdikdaaS8
import Derived.Test.YtbpjejjbgdikdaaS5
import Derived.Test.YtbpjejjbgdikdaaN
namespace Go.Proofs.Ytbpjejjbgdikdaa
open Go.RowKit
set_option linter.unusedSimpArgs false
set_option linter.unusedVariables false

/-- a reader's box holds l; the value that is handed back lies behind w -/
structure RD (w : World) (b : Nat) (l : List UInt8) (x0 x1 x2 x3 : Value) (W : World) : Prop where
  box : Boxed W b 52 (.string (Str l))
  grown : w.grownBy W (some b)
  res : Four w.heap.size x0 x1 x2 x3 W
  lt : b < w.heap.size
section
variable {w : World} {b : Nat} {l : List UInt8} {x0 x1 x2 x3 : Value} {W : World}
theorem RD.below (h : RD w b l x0 x1 x2 x3 W) {W' : World} (hb : Below (w.heap.size + 1) W W') : RD w b l x0 x1 x2 x3 W' :=
  ⟨(hb.block b (by have := h.lt; omega)).trans h.box, ⟨hb.os.trans h.grown.os, hb.tape.trans h.grown.tape, hb.output.trans h.grown.output, Nat.le_trans h.grown.size hb.size, fun k hk hne => (hb.block k (by omega)).trans (h.grown.block k hk hne)⟩, four_below h.res (by omega) hb, h.lt⟩
theorem RD.call (h : RD w b l x0 x1 x2 x3 W) {W' : World} (hb : Below W.heap.size W W') : RD w b l x0 x1 x2 x3 W' := h.below (hb.mono h.res.1)
theorem RD.alloc (h : RD w b l x0 x1 x2 x3 W) (o : Obj) : RD w b l x0 x1 x2 x3 (W.alloc o) := h.call ((Below.refl _ _).alloc (Nat.le_refl _) _)
theorem RD.store (h : RD w b l x0 x1 x2 x3 W) (y0 y1 y2 y3 : Value) : RD w b l y0 y1 y2 y3 ((((W.setCell ⟨w.heap.size, 0, none⟩ y0).setCell ⟨w.heap.size, 1, none⟩ y1).setCell ⟨w.heap.size, 2, none⟩ y2).setCell ⟨w.heap.size, 3, none⟩ y3) := by
  have hb := below_set4 w.heap.size W y0 y1 y2 y3
  exact ⟨(hb.block b h.lt).trans h.box, ⟨hb.os.trans h.grown.os, hb.tape.trans h.grown.tape, hb.output.trans h.grown.output, Nat.le_trans h.grown.size hb.size, fun k hk hne => (hb.block k hk).trans (h.grown.block k hk hne)⟩, four_set h.res y0 y1 y2 y3, h.lt⟩
theorem RD.read (h : RD w b l x0 x1 x2 x3 W) (l' : List UInt8) : RD w b l' x0 x1 x2 x3 (W.setCell ⟨b, 0, none⟩ (.string (Str l'))) := by
  refine ⟨h.box.set _, grownBy_trans h.grown (grownBy_setCell' W b _) (.inl rfl), ?_, h.lt⟩
  have hne : b ≠ w.heap.size := by have := h.lt; omega
  obtain ⟨h0, h1, h2, h3, h4, h5, h6, h7, h8⟩ := h.res
  refine ⟨by simpa using h0, ?_, ?_, ?_, ?_, ?_, ?_, ?_, ?_⟩
  · rw [World.cell?_setCell_other _ _ _ _ (by intro e; exact hne (by injection e))]; exact h1
  · rw [World.cell?_setCell_other _ _ _ _ (by intro e; exact hne (by injection e))]; exact h2
  · rw [World.cell?_setCell_other _ _ _ _ (by intro e; exact hne (by injection e))]; exact h3
  · rw [World.cell?_setCell_other _ _ _ _ (by intro e; exact hne (by injection e))]; exact h4
  · rw [World.frozen?_setCell]; exact h5
  · rw [World.frozen?_setCell]; exact h6
  · rw [World.frozen?_setCell]; exact h7
  · rw [World.frozen?_setCell]; exact h8
end
theorem RD.start {w : World} {b : Nat} {l : List UInt8} (hB : Boxed w b 52 (.string (Str l))) (x0 x1 x2 x3 : Value) (T : TypeId) : RD w b l x0 x1 x2 x3 (w.alloc (.cells #[x0, x1, x2, x3] T)) :=
  ⟨hB.alloc _, grownBy_alloc' w _ _, four_alloc _ _ _ _ _ _, hB.lt⟩

/-- the whole number and the millionths that a decimal's bytes say -/
def wv (l : List UInt8) : Int := numB (l.take 8) - 9223372036854775808
def fv (l : List UInt8) : Int := numB ((l.drop 8).take 4)
def sumD (l : List UInt8) : (Int × Int × Int) × Int := recR 7 3 (wv l) 0 3 (normN (fv l) 6) (normC (fv l) 6)
def rdec (l : List UInt8) : Option (Int × Int × Int) :=
  if 12 ≤ l.length ∧ fv l < 1000000 ∧ rdB (wv l) 0 = true ∧ (sumD l).2 = 0 then some (sumD l).1 else none

/-- what decimal returns and leaves -/
def DecPost (w : World) (b : Nat) (l : List UInt8) (e : Ending) (W : World) : Prop :=
  ∃ l', Boxed W b 52 (.string (Str l')) ∧ w.grownBy W (some b) ∧ l'.length ≤ l.length ∧
    ((rdec l = none ∧ ∃ k n s t, e = .returned (.tuple #[V k n s t, .bool false])) ∨ (∃ k n s, rdec l = some (k, n, s) ∧ l' = l.drop 12 ∧ e = .returned (.tuple #[V k n s E0, .bool true])))
theorem DecPost.no {w : World} {b : Nat} {l l' : List UInt8} {x0 x1 x2 x3 : Value} {W : World} {e : Ending} {k n s : Int} {t : ByteArray} (h : RD w b l' x0 x1 x2 x3 W) (hl : l'.length ≤ l.length) (hr : rdec l = none) (he : e = .returned (.tuple #[V k n s t, .bool false])) : DecPost w b l e W :=
  ⟨l', h.box, h.grown, hl, .inl ⟨hr, k, n, s, t, he⟩⟩
theorem rdec_short {l : List UInt8} (h : l.length < 12) : rdec l = none := by unfold rdec; rw [if_neg (by omega)]

abbrev Z : Value := .int .i64 0
theorem xor_back {x : Int} (h0 : 0 ≤ x) (h1 : x < 18446744073709551616) : IntKind.i64.wrap (bits BinOp.xor IntKind.u64 x 9223372036854775808) = x - 9223372036854775808 := by
  obtain ⟨m, rfl⟩ : ∃ m : Nat, x = m := ⟨x.toNat, by omega⟩
  have := bits_xor_u64_nat m 9223372036854775808 (by omega) (by decide)
  have e : bits BinOp.xor IntKind.u64 (m : Int) 9223372036854775808 = ((m ^^^ 9223372036854775808 : Nat) : Int) := this
  rw [e, nat_xor_top _ (by omega)]
  simp only [IntKind.wrap, IntKind.bits, IntKind.signed]
  split <;> (simp; omega)
theorem wv_bd {l : List UInt8} (h : 8 ≤ l.length) : 0 ≤ numB (l.take 8) ∧ numB (l.take 8) < 18446744073709551616 := by
  have := numB_bd 8 (l.take 8) (by simp; omega)
  exact ⟨this.1, this.2⟩
theorem fv_bd {l : List UInt8} (h : 12 ≤ l.length) : 0 ≤ fv l ∧ fv l < 4294967296 := by
  have := numB_bd 4 ((l.drop 8).take 4) (by simp; omega)
  exact ⟨this.1, this.2⟩
set_option maxRecDepth 100000 in
set_option maxHeartbeats 2000000 in
theorem rdec_a (l : List UInt8) (hm : l.length ≤ 900000) (hl : l.length < 4) (b : Nat) (w : World) (hB : Boxed w b 52 (.string (Str l))) :
    Calls Try.prog 46 #[.pointer (some ⟨b, 0, none⟩)] w (DecPost w b l) := by
  have D0 := RD.start hB Z Z Z (.string ⟨#[]⟩) 24
  have HN := hide (rdec_short (l := l) (by omega))
  go_enter Try.func46, Try.ntmps46
  go_wp2_with (first
    | (go_at_call 45; refine (nm64_no (l) (by omega) b _ D0.box.cell).mono ?_; rintro e W1 ⟨rfl, hW1⟩; have D1 : RD w b (l) Z Z Z (.string ⟨#[]⟩) W1 := (by rw [hW1]; exact D0); clear hW1 D0; obtain ⟨_, c10, c11, c12, c13, f10, f11, f12, f13⟩ := D1.res)
    | (go_at_call 63; refine (nm32_no (l) (by omega) b _ D1.box.cell).mono ?_; rintro e W2 ⟨rfl, hW2⟩; have D2 : RD w b (l) Z Z Z (.string ⟨#[]⟩) W2 := (by rw [hW2]; exact D1); clear hW2 D1; obtain ⟨_, c20, c21, c22, c23, f20, f21, f22, f23⟩ := D2.res))
  exact bodyPost_ret (v := .tuple #[V 0 0 0 ⟨#[]⟩, .bool false]) (by simp [results, Try.results46, go_sem, c20, c21, c22, c23]) rfl (DecPost.no (D2.store Z Z Z (.string ⟨#[]⟩)) (Nat.le_refl _) (unhide HN) rfl)

set_option maxRecDepth 100000 in
set_option maxHeartbeats 2000000 in
theorem rdec_b (l : List UInt8) (hm : l.length ≤ 900000) (h4 : 4 ≤ l.length) (hl : l.length < 8) (b : Nat) (w : World) (hB : Boxed w b 52 (.string (Str l))) :
    Calls Try.prog 46 #[.pointer (some ⟨b, 0, none⟩)] w (DecPost w b l) := by
  have D0 := RD.start hB Z Z Z (.string ⟨#[]⟩) 24
  have HN := hide (rdec_short (l := l) (by omega))
  go_enter Try.func46, Try.ntmps46
  go_wp2_with (first
    | (go_at_call 45; refine (nm64_no (l) (by omega) b _ D0.box.cell).mono ?_; rintro e W1 ⟨rfl, hW1⟩; have D1 : RD w b (l) Z Z Z (.string ⟨#[]⟩) W1 := (by rw [hW1]; exact D0); clear hW1 D0; obtain ⟨_, c10, c11, c12, c13, f10, f11, f12, f13⟩ := D1.res)
    | (go_at_call 63; refine (nm32_yes (l) (by omega) (by first | omega | (simp; omega)) b _ D1.box.cell D1.box.frozen).mono ?_; rintro e W2 ⟨rfl, hW2⟩; have D2 : RD w b (l.drop 4) Z Z Z (.string ⟨#[]⟩) W2 := (by rw [hW2]; exact D1.read _); clear hW2 D1; obtain ⟨_, c20, c21, c22, c23, f20, f21, f22, f23⟩ := D2.res))
  exact bodyPost_ret (v := .tuple #[V 0 0 0 ⟨#[]⟩, .bool false]) (by simp [results, Try.results46, go_sem, c20, c21, c22, c23]) rfl (DecPost.no (D2.store Z Z Z (.string ⟨#[]⟩)) (by simp) (unhide HN) rfl)

set_option maxRecDepth 100000 in
set_option maxHeartbeats 2000000 in
theorem rdec_c (l : List UInt8) (hm : l.length ≤ 900000) (h4 : 8 ≤ l.length) (hl : l.length < 12) (b : Nat) (w : World) (hB : Boxed w b 52 (.string (Str l))) :
    Calls Try.prog 46 #[.pointer (some ⟨b, 0, none⟩)] w (DecPost w b l) := by
  have D0 := RD.start hB Z Z Z (.string ⟨#[]⟩) 24
  have HN := hide (rdec_short (l := l) (by omega))
  go_enter Try.func46, Try.ntmps46
  go_wp2_with (first
    | (go_at_call 45; refine (nm64_yes (l) (by omega) (by first | omega | (simp; omega)) b _ D0.box.cell D0.box.frozen).mono ?_; rintro e W1 ⟨rfl, hW1⟩; have D1 : RD w b (l.drop 8) Z Z Z (.string ⟨#[]⟩) W1 := (by rw [hW1]; exact D0.read _); clear hW1 D0; obtain ⟨_, c10, c11, c12, c13, f10, f11, f12, f13⟩ := D1.res)
    | (go_at_call 63; refine (nm32_no (l.drop 8) (by simp; omega) b _ D1.box.cell).mono ?_; rintro e W2 ⟨rfl, hW2⟩; have D2 : RD w b (l.drop 8) Z Z Z (.string ⟨#[]⟩) W2 := (by rw [hW2]; exact D1); clear hW2 D1; obtain ⟨_, c20, c21, c22, c23, f20, f21, f22, f23⟩ := D2.res))
  exact bodyPost_ret (v := .tuple #[V 0 0 0 ⟨#[]⟩, .bool false]) (by simp [results, Try.results46, go_sem, c20, c21, c22, c23]) rfl (DecPost.no (D2.store Z Z Z (.string ⟨#[]⟩)) (by simp) (unhide HN) rfl)

set_option maxRecDepth 100000 in
set_option maxHeartbeats 2000000 in
theorem rdec_d (l : List UInt8) (hm : l.length ≤ 900000) (hl : 12 ≤ l.length) (hf : ¬ fv l < 1000000) (b : Nat) (w : World) (hB : Boxed w b 52 (.string (Str l))) :
    Calls Try.prog 46 #[.pointer (some ⟨b, 0, none⟩)] w (DecPost w b l) := by
  have D0 := RD.start hB Z Z Z (.string ⟨#[]⟩) 24
  have HN : Hid (rdec l = none) := by show _ = _; unfold rdec; rw [if_neg (fun h => hf h.2.1)]
  have hF : ¬ numB ((l.drop 8).take 4) < 1000000 := hf
  clear hf
  skip
  go_enter Try.func46, Try.ntmps46
  go_wp2_with (first
    | (go_at_call 45; refine (nm64_yes (l) (by omega) (by first | omega | (simp; omega)) b _ D0.box.cell D0.box.frozen).mono ?_; rintro e W1 ⟨rfl, hW1⟩; have D1 : RD w b (l.drop 8) Z Z Z (.string ⟨#[]⟩) W1 := (by rw [hW1]; exact D0.read _); clear hW1 D0; obtain ⟨_, c10, c11, c12, c13, f10, f11, f12, f13⟩ := D1.res)
    | (go_at_call 63; refine (nm32_yes (l.drop 8) (by simp; omega) (by first | omega | (simp; omega)) b _ D1.box.cell D1.box.frozen).mono ?_; rintro e W2 ⟨rfl, hW2⟩; have D2 : RD w b ((l.drop 8).drop 4) Z Z Z (.string ⟨#[]⟩) W2 := (by rw [hW2]; exact D1.read _); clear hW2 D1; obtain ⟨_, c20, c21, c22, c23, f20, f21, f22, f23⟩ := D2.res))
  exact bodyPost_ret (v := .tuple #[V 0 0 0 ⟨#[]⟩, .bool false]) (by simp [results, Try.results46, go_sem, c20, c21, c22, c23]) rfl (DecPost.no (D2.store Z Z Z (.string ⟨#[]⟩)) (by simp) (unhide HN) rfl)

set_option maxRecDepth 100000 in
set_option maxHeartbeats 2000000 in
theorem rdec_e (l : List UInt8) (hm : l.length ≤ 900000) (hl : 12 ≤ l.length) (hf : fv l < 1000000) (hrt : rdB (wv l) 0 = false) (b : Nat) (w : World) (hB : Boxed w b 52 (.string (Str l))) :
    Calls Try.prog 46 #[.pointer (some ⟨b, 0, none⟩)] w (DecPost w b l) := by
  have D0 := RD.start hB Z Z Z (.string ⟨#[]⟩) 24
  have hwb := wv_bd (l := l) (by omega)
  have hfb := fv_bd (l := l) hl
  have hX := xor_back hwb.1 hwb.2
  have hwr : numB (l.take 8) - 9223372036854775808 = wv l := rfl
  have hfr : numB ((l.drop 8).take 4) = fv l := rfl
  rw [hwr] at hX
  have hwi : Is64 (wv l) := by rw [← hwr]; unfold Is64; omega
  have CN := hide (fun W => norm_dec (fv l) 6 ⟨#[]⟩ W (by unfold Is64; omega) (by unfold Is64; omega))
  have CR := hide (fun W => right_any 3 (wv l) 0 ⟨#[]⟩ W (by decide))
  have er : rightB 3 (wv l) 0 ⟨#[]⟩ = rdB (wv l) 0 := right_dec _ _
  have hfi : Is64 (fv l) := by unfold Is64; omega
  have hnn := norm_normed (fv l) 6 (by decide)
  have hni : Is64 (normN (fv l) 6) := by unfold Is64 at *; omega
  have CK := hide (fun W => reckon_any 7 3 (wv l) 0 ⟨#[]⟩ 3 (normN (fv l) 6) (normC (fv l) 6) ⟨#[]⟩ W hwi hni (fun _ => ⟨by decide, rfl⟩) (fun _ => ⟨⟨hnn.2.1, hnn.2.2.1⟩, rfl⟩))
  rw [er, hrt] at CR
  have HN : Hid (rdec l = none) := by show _ = _; unfold rdec; rw [if_neg (fun h => by rw [hrt] at h; exact absurd h.2.2.1 (by decide))]
  clear CK hnn hni hwb er hrt
  go_enter Try.func46, Try.ntmps46
  go_wp2_with (first
    | (go_at_call 45; refine (nm64_yes (l) (by omega) (by first | omega | (simp; omega)) b _ D0.box.cell D0.box.frozen).mono ?_; rintro e W1 ⟨rfl, hW1⟩; have D1 : RD w b (l.drop 8) Z Z Z (.string ⟨#[]⟩) W1 := (by rw [hW1]; exact D0.read _); clear hW1 D0; obtain ⟨_, c10, c11, c12, c13, f10, f11, f12, f13⟩ := D1.res)
    | (go_at_call 63; refine (nm32_yes (l.drop 8) (by simp; omega) (by first | omega | (simp; omega)) b _ D1.box.cell D1.box.frozen).mono ?_; rintro e W2 ⟨rfl, hW2⟩; rw [hfr]; have D2 : RD w b ((l.drop 8).drop 4) Z Z Z (.string ⟨#[]⟩) W2 := (by rw [hW2]; exact D1.read _); clear hW2 D1; obtain ⟨_, c20, c21, c22, c23, f20, f21, f22, f23⟩ := D2.res)
    | (go_at_call 64; refine (unhide CN _).mono ?_; rintro e W3 ⟨rfl, hb3⟩; have A3 := four_call (four_alloc (.int .i64 3) (.int .i64 (wv l)) Z (.string ⟨#[]⟩) 24 W2) hb3; have D3 := (D2.alloc (.cells #[.int .i64 3, .int .i64 (wv l), Z, .string ⟨#[]⟩] 24)).call hb3; clear D2 hb3; obtain ⟨_, a30, a31, a32, a33, _, _, _, _⟩ := id A3; obtain ⟨_, c30, c31, c32, c33, f30, f31, f32, f33⟩ := D3.res)
    | (go_at_call 29; refine (unhide CR _).mono ?_; rintro e W4 ⟨rfl, hb4⟩; have A4 := four_call (four_more A3 (.cells #[.int .i64 3, .int .i64 (normN (fv l) 6), .int .i64 (normC (fv l) 6), .string ⟨#[]⟩] 24)) hb4; have B4 := four_call (four_alloc (.int .i64 3) (.int .i64 (normN (fv l) 6)) (.int .i64 (normC (fv l) 6)) (.string ⟨#[]⟩) 24 W3) hb4; have D4 := (D3.alloc (.cells #[.int .i64 3, .int .i64 (normN (fv l) 6), .int .i64 (normC (fv l) 6), .string ⟨#[]⟩] 24)).call hb4; clear D3 hb4 A3; obtain ⟨_, a40, a41, a42, a43, _, _, _, _⟩ := A4; obtain ⟨_, b40, b41, b42, b43, _, _, _, _⟩ := B4; obtain ⟨_, c40, c41, c42, c43, f40, f41, f42, f43⟩ := D4.res))
  exact bodyPost_ret (v := .tuple #[V 0 0 0 ⟨#[]⟩, .bool false]) (by simp [results, Try.results46, go_sem, c40, c41, c42, c43]) rfl (DecPost.no (D4.store Z Z Z (.string ⟨#[]⟩)) (by simp) (unhide HN) rfl)

set_option maxRecDepth 100000 in
set_option maxHeartbeats 2000000 in
theorem rdec_f (l : List UInt8) (hm : l.length ≤ 900000) (hl : 12 ≤ l.length) (hf : fv l < 1000000) (hrt : rdB (wv l) 0 = true) (b : Nat) (w : World) (hB : Boxed w b 52 (.string (Str l))) :
    Calls Try.prog 46 #[.pointer (some ⟨b, 0, none⟩)] w (DecPost w b l) := by
  have D0 := RD.start hB Z Z Z (.string ⟨#[]⟩) 24
  have hwb := wv_bd (l := l) (by omega)
  have hfb := fv_bd (l := l) hl
  have hX := xor_back hwb.1 hwb.2
  have hwr : numB (l.take 8) - 9223372036854775808 = wv l := rfl
  have hfr : numB ((l.drop 8).take 4) = fv l := rfl
  rw [hwr] at hX
  have hwi : Is64 (wv l) := by rw [← hwr]; unfold Is64; omega
  have CN := hide (fun W => norm_dec (fv l) 6 ⟨#[]⟩ W (by unfold Is64; omega) (by unfold Is64; omega))
  have CR := hide (fun W => right_any 3 (wv l) 0 ⟨#[]⟩ W (by decide))
  have er : rightB 3 (wv l) 0 ⟨#[]⟩ = rdB (wv l) 0 := right_dec _ _
  have hfi : Is64 (fv l) := by unfold Is64; omega
  have hnn := norm_normed (fv l) 6 (by decide)
  have hni : Is64 (normN (fv l) 6) := by unfold Is64 at *; omega
  have CK := hide (fun W => reckon_any 7 3 (wv l) 0 ⟨#[]⟩ 3 (normN (fv l) 6) (normC (fv l) 6) ⟨#[]⟩ W hwi hni (fun _ => ⟨by decide, rfl⟩) (fun _ => ⟨⟨hnn.2.1, hnn.2.2.1⟩, rfl⟩))
  rw [er, hrt] at CR
  have hrc : recV (if (7 : Int) = 4 then recR 8 3 0 0 3 (wv l) 0 else recR 7 3 (wv l) 0 3 (normN (fv l) 6) (normC (fv l) 6)) = recV (sumD l) := rfl
  rw [hrc] at CK
  have HR : Hid (rdec l = if (sumD l).2 = 0 then some (sumD l).1 else none) := by
    show _ = _
    unfold rdec
    by_cases h : (sumD l).2 = 0
    · rw [if_pos ⟨hl, hf, hrt, h⟩, if_pos h]
    · rw [if_neg (fun g => h g.2.2.2), if_neg h]
  clear hnn hni hwb er hrt hrc
  unfold recV at CK
  go_enter Try.func46, Try.ntmps46
  go_wp2_with (first
    | (go_at_call 45; refine (nm64_yes (l) (by omega) (by first | omega | (simp; omega)) b _ D0.box.cell D0.box.frozen).mono ?_; rintro e W1 ⟨rfl, hW1⟩; have D1 : RD w b (l.drop 8) Z Z Z (.string ⟨#[]⟩) W1 := (by rw [hW1]; exact D0.read _); clear hW1 D0; obtain ⟨_, c10, c11, c12, c13, f10, f11, f12, f13⟩ := D1.res)
    | (go_at_call 63; refine (nm32_yes (l.drop 8) (by simp; omega) (by first | omega | (simp; omega)) b _ D1.box.cell D1.box.frozen).mono ?_; rintro e W2 ⟨rfl, hW2⟩; rw [hfr]; have D2 : RD w b ((l.drop 8).drop 4) Z Z Z (.string ⟨#[]⟩) W2 := (by rw [hW2]; exact D1.read _); clear hW2 D1; obtain ⟨_, c20, c21, c22, c23, f20, f21, f22, f23⟩ := D2.res)
    | (go_at_call 64; refine (unhide CN _).mono ?_; rintro e W3 ⟨rfl, hb3⟩; have A3 := four_call (four_alloc (.int .i64 3) (.int .i64 (wv l)) Z (.string ⟨#[]⟩) 24 W2) hb3; have D3 := (D2.alloc (.cells #[.int .i64 3, .int .i64 (wv l), Z, .string ⟨#[]⟩] 24)).call hb3; clear D2 hb3; obtain ⟨_, a30, a31, a32, a33, _, _, _, _⟩ := id A3; obtain ⟨_, c30, c31, c32, c33, f30, f31, f32, f33⟩ := D3.res)
    | (go_at_call 29; refine (unhide CR _).mono ?_; rintro e W4 ⟨rfl, hb4⟩; have A4 := four_call (four_more A3 (.cells #[.int .i64 3, .int .i64 (normN (fv l) 6), .int .i64 (normC (fv l) 6), .string ⟨#[]⟩] 24)) hb4; have B4 := four_call (four_alloc (.int .i64 3) (.int .i64 (normN (fv l) 6)) (.int .i64 (normC (fv l) 6)) (.string ⟨#[]⟩) 24 W3) hb4; have D4 := (D3.alloc (.cells #[.int .i64 3, .int .i64 (normN (fv l) 6), .int .i64 (normC (fv l) 6), .string ⟨#[]⟩] 24)).call hb4; clear D3 hb4 A3; obtain ⟨_, a40, a41, a42, a43, _, _, _, _⟩ := A4; obtain ⟨_, b40, b41, b42, b43, _, _, _, _⟩ := B4; obtain ⟨_, c40, c41, c42, c43, f40, f41, f42, f43⟩ := D4.res)
    | (go_at_call 65; refine (unhide CK _).mono ?_; rintro e W5 ⟨rfl, hb5⟩; have D5 := D4.call hb5; clear D4 hb5; obtain ⟨_, c50, c51, c52, c53, f50, f51, f52, f53⟩ := D5.res))
  have D6 := (D5.store (.int .i64 (sumD l).1.1) (.int .i64 (sumD l).1.2.1) (.int .i64 (sumD l).1.2.2) (.string E0)).alloc (.cells #[.int .i64 (sumD l).1.1, .int .i64 (sumD l).1.2.1, .int .i64 (sumD l).1.2.2, .string E0] 24)
  obtain ⟨W9, hW9⟩ : ∃ W9, (((((W5.setCell ⟨w.heap.size, 0, none⟩ (.int .i64 (sumD l).1.1)).setCell ⟨w.heap.size, 1, none⟩ (.int .i64 (sumD l).1.2.1)).setCell ⟨w.heap.size, 2, none⟩ (.int .i64 (sumD l).1.2.2)).setCell ⟨w.heap.size, 3, none⟩ (.string E0)).alloc (.cells #[.int .i64 (sumD l).1.1, .int .i64 (sumD l).1.2.1, .int .i64 (sumD l).1.2.2, .string E0] 24)) = W9 := ⟨_, rfl⟩
  rw [hW9] at D6 ⊢
  obtain ⟨_, g0, g1, g2, g3, _, _, _, _⟩ := id D6.res
  refine bodyPost_ret (v := .tuple #[V (sumD l).1.1 (sumD l).1.2.1 (sumD l).1.2.2 E0, .bool ((sumD l).2 == 0)]) (by simp [results, Try.results46, go_sem, g0, g1, g2, g3]) rfl ?_
  by_cases hz : (sumD l).2 = 0
  · refine ⟨_, D6.box, D6.grown, by simp, .inr ⟨(sumD l).1.1, (sumD l).1.2.1, (sumD l).1.2.2, ?_, by simp, by rw [hz]; rfl⟩⟩
    rw [HR.out, if_pos hz]
  · refine DecPost.no D6 (by simp) ?_ (by rw [beq_eq_false_iff_ne.2 hz])
    rw [HR.out, if_neg hz]


theorem rdec_any (l : List UInt8) (hm : l.length ≤ 900000) (b : Nat) (w : World) (hB : Boxed w b 52 (.string (Str l))) :
    Calls Try.prog 46 #[.pointer (some ⟨b, 0, none⟩)] w (DecPost w b l) := by
  by_cases h4 : l.length < 4
  · exact rdec_a l hm h4 b w hB
  by_cases h8 : l.length < 8
  · exact rdec_b l hm (by omega) h8 b w hB
  by_cases h12 : l.length < 12
  · exact rdec_c l hm (by omega) h12 b w hB
  by_cases hf : fv l < 1000000
  · cases hr : rdB (wv l) 0
    · exact rdec_e l hm (by omega) hf hr b w hB
    · exact rdec_f l hm (by omega) hf hr b w hB
  · exact rdec_d l hm (by omega) hf b w hB
end Go.Proofs.Ytbpjejjbgdikdaa
