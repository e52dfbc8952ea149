/-
  Package cmd's Decode.
-/
import Derived.Test.YtjmmfgmmmdbenaaCE
namespace Go.Proofs.Ytjmmfgmmmdbenaa
open Go.RowKit
set_option linter.unusedSimpArgs false
set_option linter.unusedVariables false

theorem cq_fine {f : Int} {c : Cm} (h : CQf f c) : Fine c := by
  obtain ⟨⟨h1, h2, h3, h4, h5, h6, h7⟩, h8, h9, h10, h11, h12⟩ := h
  exact ⟨h1, h2, h3, h4, fun x hx => by have := h10 x hx; omega, by omega⟩
theorem right_dtf {f : Int} {c : Cm} (h : okC f c = true) (hi : c.id ≤ 9223372036854775807) (ht : c.txn ≤ 9223372036854775807) : DTf f c := by
  unfold okC at h
  rw [Bool.and_eq_true] at h
  obtain ⟨h, hh⟩ := h
  obtain ⟨⟨a1, a2, a3, a4⟩, a5, a6, a7, a8, a9⟩ := rightC_of h
  refine ⟨⟨a1, by omega⟩, ⟨a3, by omega⟩, ⟨a4, by omega⟩, a8, fun w hw => ?_, by omega, fun hf => ?_⟩
  · obtain ⟨b1, b2, b3, b4⟩ := rightW_of (a9 w hw)
    exact ⟨by omega, by omega, fun hg => size0 (b4 hg)⟩
  · subst hf
    have := of_decide_eq_true hh
    exact size0 (a6 (by omega))
/-- what Decode tells: q, if it is known what s was written from -/
def DecP (s : ByteArray) (q : Option (Int × Cm)) (w : World) (e : Ending) (W' : World) : Prop :=
  ∃ (c : Cm) (v : Value) (f : Int) (is : Bool), e = .returned (.tuple #[.agg (cmA c v), .int .i64 f, .bool is]) ∧ W'.ownsRow w.heap.size 40 3 v c.ws.length (wcells c.ws) ∧ (is = false → c = zC ∧ f = 0 ∧ v = .slice none 0 0) ∧ (is = true → (f = 1 ∨ f = 2) ∧ CQf f c ∧ okC f c = true ∧ by8 s = enc f c) ∧ (∀ g d, q = some (g, d) → is = true ∧ f = g ∧ c = d) ∧ Below w.heap.size w W'
abbrev qAt (q : Option (Int × Cm)) (k : Int) : Option Cm := match q with
  | some (f, d) => if f = k then some d else none
  | none => none
theorem qAt_some {q : Option (Int × Cm)} {k : Int} {d : Cm} : qAt q k = some d ↔ q = some (k, d) := by
  unfold qAt
  rcases q with _ | ⟨f, d'⟩
  · simp
  · by_cases h : f = k
    · simp [h]
    · simp [h]
/-- a round of Decode in form k -/
theorem round_no {q : Option (Int × Cm)} {k : Int} (h : ∀ g d, q = some (g, d) → k ≤ g) (hn : ∀ d, qAt q k = some d → False) : ∀ g d, q = some (g, d) → k + 1 ≤ g := by
  intro g d hq
  have := h g d hq
  rcases Int.lt_or_eq_of_le this with h1 | h1
  · omega
  · subst h1
    exact absurd (qAt_some.2 hq) (fun e => hn _ e)
set_option maxRecDepth 100000 in
set_option maxHeartbeats 8000000 in
theorem decode_any (s : ByteArray) (hs : s.size ≤ 1099511627776) (w : World) (q : Option (Int × Cm)) (hq : ∀ f d, q = some (f, d) → (f = 1 ∨ f = 2) ∧ okC f d = true ∧ d.id ≤ 9223372036854775807 ∧ d.txn ≤ 9223372036854775807 ∧ by8 s = enc f d) : Calls Try.prog 18 #[.string s] w (DecP s q w) := by
  obtain ⟨Z, hZ⟩ : ∃ Z : Array Value, Z = #[.int .i64 0, .int .i64 0, .int .i64 0, .bool false, .slice none 0 0, .string ⟨#[]⟩] := ⟨_, rfl⟩
  have hB0 : Below w.heap.size w (w.alloc (.cells Z 26)) := below_new _ _
  have hk0 := Blk.new w Z 26
  have RD := hide (fun (k : Int) (W : World) (K1 K2 : FuncId) (p1 p2 : Array Value) (hP : Puts (Fv K1 p1) W layCm (DPf k) (enc k)) (hT : Takes (Fv K2 p2) W layTCm (fun c => c = zC) (CQf k) (DTf k) (enc k) (fun _ _ => True) (Mf k)) => read_any k s hs W (qAt q k) (fun d hd => by
    obtain ⟨h1, h2, h3, h4, h5⟩ := hq _ _ (qAt_some.1 hd)
    exact ⟨right_dtf h2 h3 h4, h5⟩) K1 K2 p1 p2 hP hT)
  have HQ := hide hq
  subst hZ
  clear hq
  have HK0 := hide hk0
  have HB0 := hide hB0
  clear hk0 hB0
  go_enter Try.func18, Try.ntmps18
  go_wp2
  go_loopw [5] (fun i wr => ∃ k : Int, 1 ≤ k ∧ k ≤ 3 ∧ i = .int .i64 k ∧ Blk w.heap.size #[.int .i64 0, .int .i64 0, .int .i64 0, .bool false, .slice none 0 0, .string ⟨#[]⟩] 26 wr ∧ Below w.heap.size w wr ∧ Hid (∀ g d, q = some (g, d) → k ≤ g))
    (fun i wr => (3 - intOf i).toNat)
  case atStart => exact ⟨1, by omega, by omega, rfl, unhide HK0, unhide HB0, fun g d h => by rcases (unhide HQ g d h).1 with h | h <;> omega⟩
  case round =>
    obtain ⟨k, hk1, hk3, rfl, hblk, hbw, hle⟩ := hrel
    have hw1 : IntKind.i64.wrap (k + 1) = k + 1 := IntWalk.i64_in _ (by omega)
    by_cases hlt : k ≤ 2
    · have HBLK := hide hblk
      have HBW := hide hbw
      clear hblk hbw
      go_wp2_with (first | (go_at_call 26; refine (layout_any k wr).mono ?_; rintro e W1 ⟨K1, p1, K2, p2, rfl, hP, hT, hb1⟩; have RR := hide (unhide RD k W1 K1 K2 p1 p2 hP hT); clear hP hT) | (go_at_call 31; refine (unhide RR).mono ?_; rintro e W2 ⟨c, v, is, rfl, hrow, hno, hyes, hqd, hb2⟩; obtain ⟨pv, cv, rfl⟩ := row_slice hrow; have HROW := hide hrow; have HQD := hide hqd; have HB2 := hide (Below.onto hb1 hb2); have HZ1 := hide (Blk.new W2 #[.int .i64 c.kind, .int .i64 c.id, .int .i64 c.txn, .bool c.com, .slice pv c.ws.length cv, .string c.text] 26); clear hqd hno hb2 RR; rcases is with _ | _; (clear hyes hrow); rotate_left; (have HYES := hide (hyes rfl); clear hyes; have R := hide (fun W (hW : WsV pv c.ws W) => right_any c (.agg #[.int .i64 c.kind, .int .i64 c.id, .int .i64 c.txn, .bool c.com, .slice pv c.ws.length cv, .string c.text]) W ⟨pv, cv, rfl, hW⟩ (cq_fine (unhide HYES).1)); have HWV := hide ((row_wsv hrow).below (below_new W2 (.cells #[.int .i64 c.kind, .int .i64 c.id, .int .i64 c.txn, .bool c.com, .slice pv c.ws.length cv, .string c.text] 26))); have H := hide (fun W => has_any k c.kind W); clear hrow; (obtain ⟨rc, hrc⟩ : ∃ rc, rightC c = rc := ⟨_, rfl⟩); (obtain ⟨hh, hhh⟩ : ∃ hh, hasB k c.kind = hh := ⟨_, rfl⟩); rw [hrc] at R; rw [hhh] at H; have HRC := hide hrc; have HHH := hide hhh; clear hrc hhh; rcases rc with _ | _; rotate_left; rcases hh with _ | _)) | (go_at_call 24; refine (unhide R _ (unhide HWV)).mono ?_; rintro e W3 ⟨rfl, hb3⟩; have hz3 := (unhide HZ1).below hb3; have n0_ := hz3.cell 0; have n1_ := hz3.cell 1; have n2_ := hz3.cell 2; have n3_ := hz3.cell 3; have n4_ := hz3.cell 4; have n5_ := hz3.cell 5; simp at n0_ n1_ n2_ n3_ n4_ n5_; have hblk3 := ((unhide HBLK).below (Below.onto (unhide HB2) (below_new W2 (.cells #[.int .i64 c.kind, .int .i64 c.id, .int .i64 c.txn, .bool c.com, .slice pv c.ws.length cv, .string c.text] 26)))).below (Below.mono hb3 (by simp)); have e0_ := hblk3.cell 0; have e1_ := hblk3.cell 1; have e2_ := hblk3.cell 2; have e3_ := hblk3.cell 3; have e4_ := hblk3.cell 4; have e5_ := hblk3.cell 5; simp at e0_ e1_ e2_ e3_ e4_ e5_; have ef0_ := hblk3.froz 0; have ef1_ := hblk3.froz 1; have ef2_ := hblk3.froz 2; have ef3_ := hblk3.froz 3; have ef4_ := hblk3.froz 4; have ef5_ := hblk3.froz 5; have HBLK3 := hide hblk3; have HB3 := hide hb3; clear hz3 hblk3 hb3) | (go_at_call 25; refine (unhide H _).mono ?_; rintro e W4 ⟨rfl, hw4⟩; have hw5 := hw4.symm; clear hw4; subst hw5))
      · refine ⟨⟨k + 1, by omega, by omega, rfl, unhide HBLK3, ?_, hide (round_no (unhide hle) ?_)⟩, by simp [intOf]; omega⟩
        · exact Below.onto (Below.onto (Below.onto (unhide HBW) (unhide HB2)) (below_new W2 (.cells #[.int .i64 c.kind, .int .i64 c.id, .int .i64 c.txn, .bool c.com, .slice pv c.ws.length cv, .string c.text] 26))) (unhide HB3)
        · intro d hd
          obtain ⟨_, e⟩ := unhide HQD d hd
          subst e
          have := (unhide HQ k c (qAt_some.1 hd)).2.1
          unfold okC at this
          rw [unhide HRC, unhide HHH] at this
          simp at this
      · have hlt1 := (unhide HBLK).lt
        have hlt2 := hb1.size
        have hb4 : Below W2.heap.size W2 W3 := Below.onto (below_new W2 (.cells #[.int .i64 c.kind, .int .i64 c.id, .int .i64 c.txn, .bool c.com, .slice pv c.ws.length cv, .string c.text] 26)) (unhide HB3)
        have hr3 : W3.ownsRow W1.heap.size 40 3 (.slice pv c.ws.length cv) c.ws.length (wcells c.ws) := World.ownsRow.kept (unhide HROW) (grownBy_below none hb4) (by cases hv : (Value.slice pv c.ws.length cv).ownBlock <;> simp)
        have hr4 := (ownsRow_setCell_below (ownsRow_setCell_below (ownsRow_setCell_below (ownsRow_setCell_below (ownsRow_setCell_below (ownsRow_setCell_below hr3 (a := ⟨w.heap.size, 0, none⟩) (by show w.heap.size < _; omega) (.int .i64 c.kind)) (a := ⟨w.heap.size, 1, none⟩) (by show w.heap.size < _; omega) (.int .i64 c.id)) (a := ⟨w.heap.size, 2, none⟩) (by show w.heap.size < _; omega) (.int .i64 c.txn)) (a := ⟨w.heap.size, 3, none⟩) (by show w.heap.size < _; omega) (.bool c.com)) (a := ⟨w.heap.size, 4, none⟩) (by show w.heap.size < _; omega) (.slice pv c.ws.length cv)) (a := ⟨w.heap.size, 5, none⟩) (by show w.heap.size < _; omega) (.string c.text))
        have hfin := (unhide HBLK3).six (x0 := .int .i64 c.kind) (x1 := .int .i64 c.id) (x2 := .int .i64 c.txn) (x3 := .bool c.com) (x4 := .slice pv c.ws.length cv) (x5 := .string c.text)
        have m0_ := hfin.cell 0
        have m1_ := hfin.cell 1
        have m2_ := hfin.cell 2
        have m3_ := hfin.cell 3
        have m4_ := hfin.cell 4
        have m5_ := hfin.cell 5
        simp at m0_ m1_ m2_ m3_ m4_ m5_
        refine bodyPost_ret (v := .tuple #[.agg (cmA c (.slice pv c.ws.length cv)), .int .i64 k, .bool true]) (by simp [results, Try.results18, go_sem, m0_, m1_, m2_, m3_, m4_, m5_]) rfl ?_
        refine ⟨c, .slice pv c.ws.length cv, k, true, rfl, ownsRow_lower hr4 (by omega), (fun h => by cases h), (fun _ => ⟨by omega, (unhide HYES).1, by unfold okC; rw [unhide HRC, unhide HHH]; rfl, (unhide HYES).2⟩), fun g d hd => ⟨rfl, ?_⟩, Below.six (Below.onto (Below.onto (Below.onto (unhide HBW) (unhide HB2)) (below_new W2 (.cells #[.int .i64 c.kind, .int .i64 c.id, .int .i64 c.txn, .bool c.com, .slice pv c.ws.length cv, .string c.text] 26))) (unhide HB3)) (by omega)⟩
        have hkg := unhide hle g d hd
        obtain ⟨hg, hok, _, _, hen⟩ := unhide HQ g d hd
        by_cases hgk : g = k
        · subst hgk
          exact ⟨rfl, (unhide HQD d (qAt_some.2 hd)).2⟩
        · exfalso
          obtain rfl : g = 2 := by omega
          obtain rfl : k = 1 := by omega
          have h1 := (unhide HYES).2
          rw [hen] at h1
          exact enc12 c d h1.symm
      · refine ⟨⟨k + 1, by omega, by omega, rfl, (unhide HBLK).below (Below.onto (unhide HB2) (below_new W2 (.cells #[.int .i64 c.kind, .int .i64 c.id, .int .i64 c.txn, .bool c.com, .slice pv c.ws.length cv, .string c.text] 26))), ?_, hide (round_no (unhide hle) ?_)⟩, by simp [intOf]; omega⟩
        · exact Below.onto (Below.onto (unhide HBW) (unhide HB2)) (below_new W2 (.cells #[.int .i64 c.kind, .int .i64 c.id, .int .i64 c.txn, .bool c.com, .slice pv c.ws.length cv, .string c.text] 26))
        · intro d hd
          have := (unhide HQD d hd).1
          cases this
      · refine ⟨⟨k + 1, by omega, by omega, rfl, unhide HBLK3, ?_, hide (round_no (unhide hle) ?_)⟩, by simp [intOf]; omega⟩
        · exact Below.onto (Below.onto (Below.onto (unhide HBW) (unhide HB2)) (below_new W2 (.cells #[.int .i64 c.kind, .int .i64 c.id, .int .i64 c.txn, .bool c.com, .slice pv c.ws.length cv, .string c.text] 26))) (unhide HB3)
        · intro d hd
          obtain ⟨_, e⟩ := unhide HQD d hd
          subst e
          have := (unhide HQ k c (qAt_some.1 hd)).2.1
          unfold okC at this
          rw [unhide HRC] at this
          simp at this
    · obtain rfl : k = 3 := by omega
      have e0_ := hblk.cell 0; have e1_ := hblk.cell 1; have e2_ := hblk.cell 2; have e3_ := hblk.cell 3; have e4_ := hblk.cell 4; have e5_ := hblk.cell 5; simp at e0_ e1_ e2_ e3_ e4_ e5_
      have ef0_ := hblk.froz 0; have ef1_ := hblk.froz 1; have ef2_ := hblk.froz 2; have ef3_ := hblk.froz 3; have ef4_ := hblk.froz 4; have ef5_ := hblk.froz 5
      go_wp2
      have hfin := hblk.six (x0 := .int .i64 0) (x1 := .int .i64 0) (x2 := .int .i64 0) (x3 := .bool false) (x4 := .slice none 0 0) (x5 := .string ⟨#[]⟩)
      have m0_ := hfin.cell 0
      have m1_ := hfin.cell 1
      have m2_ := hfin.cell 2
      have m3_ := hfin.cell 3
      have m4_ := hfin.cell 4
      have m5_ := hfin.cell 5
      simp at m0_ m1_ m2_ m3_ m4_ m5_
      refine bodyPost_ret (v := .tuple #[.agg (cmA zC (.slice none 0 0)), .int .i64 0, .bool false]) (by simp [results, Try.results18, go_sem, m0_, m1_, m2_, m3_, m4_, m5_]) rfl ?_
      refine ⟨zC, .slice none 0 0, 0, false, rfl, World.ownsRow_nil _ _ _ _, (fun _ => ⟨rfl, rfl, rfl⟩), (fun h => by cases h), fun g d hd => ?_, Below.six hbw (by omega)⟩
      have h1 := unhide hle g d hd
      have h2 := (unhide HQ g d hd).1
      omega
end Go.Proofs.Ytjmmfgmmmdbenaa
