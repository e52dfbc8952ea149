/-
  Package cmd's layout; what its codes write, read.
-/
import Derived.Test.YtjmmfgmmmdbenaaCQ
import Derived.Test.YtjmmfgmmmdbenaaCQ2
import Derived.Test.YtjmmfgmmmdbenaaCX0
import Derived.Laws.BytesArg
import Derived.Lib.LazyBuf
namespace Go.Proofs.Ytjmmfgmmmdbenaa
open Go.RowKit
set_option linter.unusedSimpArgs false
set_option linter.unusedVariables false

abbrev DPf (f : Int) (c : Cm) : Prop := Is64 c.kind ∧ Is64 c.id ∧ Is64 c.txn ∧ c.ws.length ≤ 1000000 ∧ (∀ w ∈ c.ws, DWp w) ∧ c.text.size ≤ 1099511627776 ∧ (f ≠ 1 → QS c.id ∧ QS c.txn)
abbrev CQf (f : Int) (c : Cm) : Prop := DPf f c ∧ QF 1 c.kind ∧ c.ws.length ≤ 1000 ∧ (∀ w ∈ c.ws, w.k.size ≤ 4000 ∧ w.v.size ≤ 4000) ∧ c.text.size ≤ 4000 ∧ (f = 1 → c.text = E0)
abbrev Mf (f : Int) (c d : Cm) : Prop := (f = 1 → C1M c d) ∧ (f ≠ 1 → c = d)
abbrev DTf (f : Int) (c : Cm) : Prop := (0 ≤ c.kind ∧ c.kind < 256) ∧ QS c.id ∧ QS c.txn ∧ c.ws.length ≤ 1000 ∧ (∀ w ∈ c.ws, DWu w) ∧ c.text.size ≤ 4000 ∧ (f = 1 → c.text = E0)
theorem q8 {y : Int} (h : QF 8 y) : Is64 y := h.1
theorem qs64 {y : Int} (h : QS y) : Is64 y := by unfold QS at h; unfold Is64; omega
set_option maxRecDepth 100000 in
set_option maxHeartbeats 2000000 in
theorem layout_any (f : Int) (w : World) : Calls Try.prog 26 #[.int .i64 f] w fun e w' => ∃ K1 p1 K2 p2, e = .returned (Cv (Fv K1 p1) (Fv K2 p2)) ∧ Puts (Fv K1 p1) w' layCm (DPf f) (enc f) ∧
      Takes (Fv K2 p2) w' layTCm (fun c => c = zC) (CQf f) (DTf f) (enc f) (fun _ _ => True) (Mf f) ∧ Below w.heap.size w w' := by
  by_cases hf : f = 1
  · subst hf
    have hb0 := below_new w (.cells #[.nilFunc, .nilFunc] 52)
    have hr0 := Blk.new w #[.nilFunc, .nilFunc] 52
    have HR0 := hide hr0
    have HB0 := hide hb0
    clear hb0 hr0
    go_enter Try.func26, Try.ntmps26
    go_wp2_with (go_at_call 38; refine (layoutOne_any _).mono ?_; rintro e W1 ⟨K1, p1, K2, p2, rfl, hP, hT, hb1⟩; have hr1 := (unhide HR0).below hb1; have hq0 := hr1.cell 0; have hq1 := hr1.cell 1; have hz0 := hr1.froz 0; have hz1 := hr1.froz 1; simp at hq0 hq1; have HP := hide hP; have HT := hide hT; clear hP hT; have hfin := hr1.two (x := Fv K1 p1) (y := Fv K2 p2); have HFIN := hide hfin; clear hfin)
    have hfin := unhide HFIN
    have hn0 := hfin.cell 0
    have hn1 := hfin.cell 1
    simp at hn0 hn1
    refine bodyPost_ret (v := Cv (Fv K1 p1) (Fv K2 p2)) (by simp [results, Try.results26, go_sem, hn0, hn1]) rfl ?_
    have hsf : SameFrom ((w.alloc (.cells #[.nilFunc, .nilFunc] 52)).heap.size + 1) W1 ((W1.setCell ⟨w.heap.size, 0, none⟩ (Fv K1 p1)).setCell ⟨w.heap.size, 1, none⟩ (Fv K2 p2)) := (SameFrom.set (by simp; omega)).trans (SameFrom.set (by simp; omega))
    refine ⟨_, _, _, _, rfl, (unhide HP _ hsf).imp (fun c hc => ⟨⟨hc.1, hc.2.1, hc.2.2.1, hc.2.2.2.1, hc.2.2.2.2.1⟩, rfl⟩), (unhide HT _ hsf).imp (fun c hc => ⟨⟨hc.1, hc.2.1, hc.2.2.1, hc.2.2.2.1, fun x hx => ⟨(hc.2.2.2.2.1 x hx).1, (hc.2.2.2.2.1 x hx).2.1⟩⟩, rfl⟩) (fun _ h => h) (fun c hc => ?_) (fun _ _ h => h) (fun c d hc => ?_), Below.set2 ((unhide HB0).trans (hb1.mono (unhide HB0).size)) (Nat.le_refl _)⟩
    · obtain ⟨e1, e2, e3, ⟨e4, e5⟩, e6⟩ := hc
      refine ⟨⟨e1.1, q8 e2, q8 e3, by omega, fun x hx => ?_, by rw [e6]; decide, fun h => absurd rfl h⟩, e1, e4, fun x hx => ⟨(e5 x hx).1, (e5 x hx).2⟩, by rw [e6]; decide, fun _ => e6⟩
      have := e5 x hx
      exact ⟨Nat.le_trans this.1 (by decide), Nat.le_trans this.2 (by decide)⟩
    · exact ⟨fun _ => hc, fun h => absurd rfl h⟩
  · have hB : (f == 1) = false := by simpa using hf
    have hb0 := below_new w (.cells #[.nilFunc, .nilFunc] 52)
    have hr0 := Blk.new w #[.nilFunc, .nilFunc] 52
    have HR0 := hide hr0
    have HB0 := hide hb0
    have HF := hide hf
    have henc : enc f = enc2 := by funext c; unfold enc; rw [if_neg hf]
    have HENC := hide henc
    clear hb0 hr0 henc
    go_enter Try.func26, Try.ntmps26
    go_wp2_with (go_at_call 39; refine (layoutTwo_any _).mono ?_; rintro e W1 ⟨K1, p1, K2, p2, rfl, hP, hT, hb1⟩; have hr1 := (unhide HR0).below hb1; have hq0 := hr1.cell 0; have hq1 := hr1.cell 1; have hz0 := hr1.froz 0; have hz1 := hr1.froz 1; simp at hq0 hq1; have HP := hide hP; have HT := hide hT; clear hP hT; have hfin := hr1.two (x := Fv K1 p1) (y := Fv K2 p2); have HFIN := hide hfin; clear hfin)
    have hfin := unhide HFIN
    have hn0 := hfin.cell 0
    have hn1 := hfin.cell 1
    simp at hn0 hn1
    refine bodyPost_ret (v := Cv (Fv K1 p1) (Fv K2 p2)) (by simp [results, Try.results26, go_sem, hn0, hn1]) rfl ?_
    have hsf : SameFrom ((w.alloc (.cells #[.nilFunc, .nilFunc] 52)).heap.size + 1) W1 ((W1.setCell ⟨w.heap.size, 0, none⟩ (Fv K1 p1)).setCell ⟨w.heap.size, 1, none⟩ (Fv K2 p2)) := (SameFrom.set (by simp; omega)).trans (SameFrom.set (by simp; omega))
    rw [unhide HENC]
    refine ⟨_, _, _, _, rfl, (unhide HP _ hsf).imp (fun c hc => ⟨⟨hc.1, (hc.2.2.2.2.2.2 (unhide HF)).1, (hc.2.2.2.2.2.2 (unhide HF)).2, hc.2.2.2.1, hc.2.2.2.2.1, hc.2.2.2.2.2.1⟩, rfl⟩), (unhide HT _ hsf).imp (fun c hc => ⟨⟨hc.1, hc.2.1, hc.2.2.1, hc.2.2.2.1, hc.2.2.2.2.1, hc.2.2.2.2.2.1⟩, rfl⟩) (fun _ h => h) (fun c hc => ?_) (fun _ _ h => h) (fun c d hc => ⟨fun h => absurd h (unhide HF), fun _ => hc⟩), Below.set2 ((unhide HB0).trans (hb1.mono (unhide HB0).size)) (Nat.le_refl _)⟩
    obtain ⟨e1, e2, e3, ⟨e4, e5⟩, e6⟩ := hc
    refine ⟨⟨e1.1, qs64 e2, qs64 e3, by omega, fun x hx => ?_, by omega, fun _ => ⟨e2, e3⟩⟩, e1, e4, fun x hx => ⟨(e5 x hx).1, (e5 x hx).2⟩, e6, fun h => absurd h (unhide HF)⟩
    have := e5 x hx
    exact ⟨Nat.le_trans this.1 (by decide), Nat.le_trans this.2 (by decide)⟩


theorem string_of {W : World} {base : Nat} {v : Value} {xs : List UInt8} (h : OwnB W base v xs) : (convert 35 9 v).run Try.prog W = .ok (.string ⟨xs.toArray⟩) W := by
  rcases h.2 with ⟨rfl, h0⟩ | ⟨g, cap, cur, rfl, hbg, hg, hnc, hcm, hcs, htake⟩
  · have : xs = [] := List.eq_nil_of_length_eq_zero h0
    subst this
    exact run_convert_bytes_nil (P := Try.prog) W 35 5 Try.underlying35 Try.underlying5 0 0 9 Try.underlying9
  · have hr := run_convert_bytes_arg (P := Try.prog) W 35 5 Try.underlying35 Try.underlying5 g 0 xs.length cap (xs.map fun b => (b.toNat : Int)) (by simp) (fun i hi => ?_) 9 Try.underlying9
    · rw [Go.Lib.Lz.strOfNums_map] at hr
      exact hr
    · rw [Nat.zero_add, cell_of_row W g i cur _ _ hg]
      have hi2 : i < xs.length := by simpa using hi
      have h1 : (cur.toList.take (xs.length * 1))[i]? = (B8 xs)[i]? := by rw [htake]
      rw [List.getElem?_take_of_lt (by omega)] at h1
      simp [B8, List.getElem?_map, List.getElem?_eq_getElem hi2] at h1 ⊢
      exact h1
set_option maxRecDepth 100000 in
set_option maxHeartbeats 2000000 in
theorem write_any (c : Cm) (v : Value) (w : World) (K1 K2 : FuncId) (p1 p2 : Array Value) (D : Cm → Prop) (f : Cm → List UInt8) (hv : CmV v c w) (hP : Puts (Fv K1 p1) w layCm D f) (hD : D c) (hl : (f c).length ≤ 1099511627776) :
    Calls Try.prog 27 #[Cv (Fv K1 p1) (Fv K2 p2), v] w fun e w' => e = .returned (.string ⟨(f c).toArray⟩) ∧ Below w.heap.size w w' := by
  obtain ⟨p, cap, rfl, g, o2, hp, hat⟩ := hv
  obtain ⟨K, caps, he, hE, hc⟩ := hP
  injection he with e1 e2 e3
  injection e1 with e1
  subst e1; subst e3
  have hb0 := below_new w (.cells #[Fv K1 p1, Fv K2 p2] 52)
  have hb1 := below_new (w.alloc (.cells #[Fv K1 p1, Fv K2 p2] 52)) (.cells #[.int .i64 c.kind, .int .i64 c.id, .int .i64 c.txn, .bool c.com, .slice p c.ws.length cap, .string c.text] 26)
  have hbk := Blk.new (w.alloc (.cells #[Fv K1 p1, Fv K2 p2] 52)) #[.int .i64 c.kind, .int .i64 c.id, .int .i64 c.txn, .bool c.com, .slice p c.ws.length cap, .string c.text] 26
  have hB := Below.onto hb0 hb1
  simp only [World.size_alloc] at hbk
  have hsz : w.heap.size + 2 = ((w.alloc (.cells #[Fv K1 p1, Fv K2 p2] 52)).alloc (.cells #[.int .i64 c.kind, .int .i64 c.id, .int .i64 c.txn, .bool c.com, .slice p c.ws.length cap, .string c.text] 26)).heap.size := by simp
  have hR : layCm.R c (w.heap.size + 1) 0 (if c.ws.length = 0 then w.heap.size + 1 else g) ((w.alloc (.cells #[Fv K1 p1, Fv K2 p2] 52)).alloc (.cells #[.int .i64 c.kind, .int .i64 c.id, .int .i64 c.txn, .bool c.com, .slice p c.ws.length cap, .string c.text] 26)) := by
    refine ⟨⟨hbk.cell 0, hbk.cell 1, hbk.cell 2, hbk.cell 3, hbk.cell 5⟩, ?_, p, cap, o2, hbk.cell 4, ?_, ?_⟩
    · by_cases h0 : c.ws.length = 0
      · rw [if_pos h0]; omega
      · rw [if_neg h0]
        have := (Lay.below (hat 0 (by omega)) hB)
        exact (layW.lt this).1
    · intro h0; rw [if_neg h0]; exact hp h0
    · intro i hi
      rw [if_neg (by omega)]
      exact Lay.below (hat i hi) hB
  have CC := hide (hc c _ _ (.slice none 0 0) [] (w.heap.size + 1) 0 _ hB hB.size (Nat.le_refl _) (World.ownsRow_nil _ _ _ _) hR (by simp [Value.ownBlock]) (by simp [Value.ownBlock]) hD (by simpa using hl))
  have HB := hide hB
  clear hb0 hb1 hbk hB hR hc hat hp hD hl
  go_enter Try.func27, Try.ntmps27
  go_wp2_with (refine (unhide CC).mono ?_; rintro e W1 ⟨v1, rfl, hown, hK⟩; have hrun := string_of hown)
  go_ret
  exact ⟨by simp, (unhide HB).trans ((hK.below (xs := []) (World.ownsRow_nil _ _ _ _) (Nat.le_refl _)).mono (unhide HB).size)⟩
end Go.Proofs.Ytjmmfgmmmdbenaa
