/-
  Package cmd: what a code reads.
-/
import Derived.Test.YtjmmfgmmmdbenaaCY
namespace Go.Proofs.Ytjmmfgmmmdbenaa
open Go.RowKit
set_option linter.unusedSimpArgs false
set_option linter.unusedVariables false

theorem sh_len9 (n : Nat) (h : n ≤ 9223372036854775807) : (sh n).length ≤ 9 := by
  have h1 : (128 : Nat) ^ (8 + 1) = 9223372036854775808 := by decide
  exact sh_len 8 n (by rw [h1]; omega)
theorem tx_len (f : Nat → List UInt8) (s : ByteArray) (n : Nat) (hf : (f s.size).length ≤ n) : (tx f s).length ≤ n + s.size := by
  unfold tx; rw [List.length_append, by8_len]; omega
theorem flat_le (g : Wt → List UInt8) (ws : List Wt) (n : Nat) (h : ∀ x ∈ ws, (g x).length ≤ n) : (ws.flatMap g).length ≤ ws.length * n := by
  induction ws with
  | nil => simp
  | cons a ws ih =>
    rw [List.flatMap_cons, List.length_append, List.length_cons, Nat.succ_mul]
    have := ih (fun x hx => h x (by simp [hx]))
    have := h a (by simp)
    omega
theorem wr1_len (x : Wt) (hk : x.k.size ≤ 1073741824) (hv : x.v.size ≤ 1073741824) : (wr1 x).length ≤ x.k.size + x.v.size + 5 := by
  have h1 := tx_len fx2 x.k 2 (by show (fx 2 _).length ≤ 2; rw [fx_len]; omega)
  have h2 := tx_len fx2 x.v 2 (by show (fx 2 _).length ≤ 2; rw [fx_len]; omega)
  unfold wr1
  simp only [List.length_append, fl, List.length_cons, List.length_nil]
  omega
theorem wr2_len (x : Wt) (hk : x.k.size ≤ 1073741824) (hv : x.v.size ≤ 1073741824) : (wr2 x).length ≤ x.k.size + x.v.size + 19 := by
  have h1 := tx_len sh x.k 9 (sh_len9 _ (by omega))
  have h2 := tx_len sh x.v 9 (sh_len9 _ (by omega))
  unfold wr2
  cases x.g
  all_goals
    simp only [List.length_append, fl, List.length_cons, List.length_nil, if_true, Bool.false_eq_true, if_false]
    omega
theorem enc_len (f : Int) (c : Cm) (hid : c.id ≤ 9223372036854775807) (htx : c.txn ≤ 9223372036854775807) (hl : c.ws.length ≤ 1000) (hw : ∀ x ∈ c.ws, x.k.size ≤ 4000 ∧ x.v.size ≤ 4000) (ht : c.text.size ≤ 4000) : (enc f c).length ≤ 10000000 := by
  have h1 := flat_le wr1 c.ws 8005 (fun x hx => by have := hw x hx; have := wr1_len x (by omega) (by omega); omega)
  have h2 := flat_le wr2 c.ws 8019 (fun x hx => by have := hw x hx; have := wr2_len x (by omega) (by omega); omega)
  have h3 : c.ws.length * 8019 ≤ 1000 * 8019 := Nat.mul_le_mul_right _ hl
  have h4 : c.ws.length * 8005 ≤ 1000 * 8005 := Nat.mul_le_mul_right _ hl
  have h5 := tx_len sh c.text 9 (sh_len9 _ (by omega))
  have h6 := sh_len9 c.id.toNat (by omega)
  have h7 := sh_len9 c.txn.toNat (by omega)
  have h8 := sh_len9 c.ws.length (by omega)
  unfold enc
  split
  · simp only [enc1, ls, fx2, List.length_cons, List.length_append, fx_len, fl, List.length_nil]; omega
  · simp only [enc2, ls, shI, List.length_cons, List.length_append, fx_len, fl, List.length_nil]; omega
theorem ba_of (s : ByteArray) : (⟨(by8 s).toArray⟩ : ByteArray) = s := by
  apply by8_inj; exact by8_of _
theorem ba_inj {xs : List UInt8} {s : ByteArray} : (⟨xs.toArray⟩ : ByteArray) = s ↔ by8 s = xs := by
  constructor
  · rintro rfl; exact by8_of _
  · rintro rfl; exact ba_of s
abbrev cmA (c : Cm) (v : Value) : Array Value := #[.int .i64 c.kind, .int .i64 c.id, .int .i64 c.txn, .bool c.com, v, .string c.text]
/-- what read tells -/
def ReadP (f : Int) (s : ByteArray) (q : Option Cm) (w : World) (e : Ending) (W' : World) : Prop :=
  ∃ (c : Cm) (v : Value) (is : Bool), e = .returned (.tuple #[.agg (cmA c v), .bool is]) ∧ W'.ownsRow w.heap.size 40 3 v c.ws.length (wcells c.ws) ∧ (is = false → c = zC ∧ v = .slice none 0 0) ∧ (is = true → CQf f c ∧ by8 s = enc f c) ∧ (∀ d, q = some d → is = true ∧ c = d) ∧ Below w.heap.size w W'
theorem wcells_at : ∀ (ws : List Wt) (i : Nat) (h : i < ws.length), (wcells ws)[i * 3]? = some (.string ws[i].k) ∧ (wcells ws)[i * 3 + 1]? = some (.string ws[i].v) ∧ (wcells ws)[i * 3 + 2]? = some (.bool ws[i].g)
  | w :: ws, 0, h => ⟨rfl, rfl, rfl⟩
  | w :: ws, i + 1, h => by
    have := wcells_at ws i (by simpa using h)
    simp only [wcells, List.flatMap_cons, List.getElem_cons_succ] at this ⊢
    rw [show (i + 1) * 3 = i * 3 + 3 by omega]
    exact this
theorem row_slice {W : World} {base n : Nat} {v : Value} {T : TypeId} {xs : List Value} (h : W.ownsRow base T 3 v n xs) : ∃ p cap, v = .slice p n cap := by
  rcases h.2 with ⟨rfl, rfl⟩ | ⟨g, cap, cur, rfl, _⟩
  · exact ⟨none, 0, rfl⟩
  · exact ⟨_, cap, rfl⟩
theorem row_wsv {W : World} {base cap : Nat} {p : Option Addr} {ws : List Wt} (h : W.ownsRow base 40 3 (.slice p ws.length cap) ws.length (wcells ws)) : WsV p ws W := by
  rcases h.2 with ⟨e, e0⟩ | ⟨g, cap', cur, e, hge, hb, hcp, hcm, hcs, hct⟩
  · exact ⟨0, 0, fun h => absurd e0 h, fun i hi => by omega⟩
  · injection e with e1 e2 e3
    refine ⟨g, 0, fun _ => e1, fun i hi => ?_⟩
    have hc : ∀ j v, j < 3 → (wcells ws)[i * 3 + j]? = some v → W.cell? ⟨g, 0 + i * 3 + j, none⟩ = some v := by
      intro j v hj hv
      rw [Nat.zero_add, cell_of_row W g _ cur _ _ hb, ← Array.getElem?_toList]
      have h1 : (cur.toList.take (ws.length * 3))[i * 3 + j]? = some v := by rw [hct]; exact hv
      rw [List.getElem?_take, if_pos (by omega)] at h1
      exact h1
    obtain ⟨a0, a1, a2⟩ := wcells_at ws i hi
    exact ⟨⟨hc 0 _ (by omega) a0, hc 1 _ (by omega) a1, hc 2 _ (by omega) a2⟩, (Array.getElem?_eq_some_iff.1 hb).1⟩
theorem str_ne {s t : ByteArray} (h : s ≠ t) : (s.toList == t.toList) = false := by
  rw [beq_eq_false_iff_ne]
  intro e
  apply h
  apply by8_inj
  rw [ByteArray.toList_eq, ByteArray.toList_eq] at e
  exact e
theorem enc_ne {s : ByteArray} {xs : List UInt8} (h : ¬ by8 s = xs) : (xs == s.toList) = false := by
  rw [beq_eq_false_iff_ne, ByteArray.toList_eq]
  exact fun e => h e.symm
theorem Blk.six {b : Nat} {a0 a1 a2 a3 a4 a5 x0 x1 x2 x3 x4 x5 : Value} {T : TypeId} {W : World} (h : Blk b #[a0, a1, a2, a3, a4, a5] T W) : Blk b #[x0, x1, x2, x3, x4, x5] T ((((((W.setCell ⟨b, 0, none⟩ x0).setCell ⟨b, 1, none⟩ x1).setCell ⟨b, 2, none⟩ x2).setCell ⟨b, 3, none⟩ x3).setCell ⟨b, 4, none⟩ x4).setCell ⟨b, 5, none⟩ x5) := by
  have := (((((h.set 0 x0).set 1 x1).set 2 x2).set 3 x3).set 4 x4).set 5 x5
  exact this
theorem Below.six {n b : Nat} {x0 x1 x2 x3 x4 x5 : Value} {w W : World} (h : Below n w W) (hb : n ≤ b) : Below n w ((((((W.setCell ⟨b, 0, none⟩ x0).setCell ⟨b, 1, none⟩ x1).setCell ⟨b, 2, none⟩ x2).setCell ⟨b, 3, none⟩ x3).setCell ⟨b, 4, none⟩ x4).setCell ⟨b, 5, none⟩ x5) :=
  (((((h.setCell (p := ⟨b, 0, none⟩) hb _).setCell (p := ⟨b, 1, none⟩) hb _).setCell (p := ⟨b, 2, none⟩) hb _).setCell (p := ⟨b, 3, none⟩) hb _).setCell (p := ⟨b, 4, none⟩) hb _).setCell (p := ⟨b, 5, none⟩) hb _
theorem mf_eq {f : Int} {c d : Cm} (h : Mf f c d) (hc : f = 1 → c.text = E0) (hd : f = 1 → d.text = E0) : c = d := by
  by_cases hf : f = 1
  · obtain ⟨e1, e2, e3, e4, e5⟩ := h.1 hf
    have e6 := (hc hf).trans (hd hf).symm
    obtain ⟨k, i, t, m, ws, x⟩ := c
    obtain ⟨k', i', t', m', ws', x'⟩ := d
    simp only at e1 e2 e3 e4 e5 e6
    subst e1; subst e2; subst e3; subst e4; subst e5; subst e6; rfl
  · exact h.2 hf
set_option maxRecDepth 100000 in
set_option maxHeartbeats 8000000 in
theorem read_any (f : Int) (s : ByteArray) (hs : s.size ≤ 1099511627776) (w : World) (q : Option Cm) (hq : ∀ d, q = some d → DTf f d ∧ by8 s = enc f d) (K1 K2 : FuncId) (p1 p2 : Array Value) (hP : Puts (Fv K1 p1) w layCm (DPf f) (enc f)) (hT : Takes (Fv K2 p2) w layTCm (fun c => c = zC) (CQf f) (DTf f) (enc f) (fun _ _ => True) (Mf f)) :
    Calls Try.prog 31 #[Cv (Fv K1 p1) (Fv K2 p2), .string s] w (ReadP f s q w) := by
  obtain ⟨K, caps, he, hE, hc⟩ := hT
  injection he with e1 e2 e3
  injection e1 with e1
  subst e1; subst e3
  clear e2
  have HP := hide hP
  have HQ := hide hq
  obtain ⟨Z, hZ⟩ : ∃ Z : Array Value, Z = #[.int .i64 0, .int .i64 0, .int .i64 0, .bool false, .slice none 0 0, .string ⟨#[]⟩] := ⟨_, rfl⟩
  have hB0 : Below w.heap.size w ((((w.alloc (.cells #[Fv K1 p1, Fv K2 p2] 52)).alloc (.cells Z 26)).alloc (.cells Z 26)).alloc (.cells Z 26)) := ((((Below.refl _ _).alloc (by simp) _).alloc (by simp) _).alloc (by simp; omega) _).alloc (by simp; omega) _
  have hk0 : Blk w.heap.size #[Fv K1 p1, Fv K2 p2] 52 ((((w.alloc (.cells #[Fv K1 p1, Fv K2 p2] 52)).alloc (.cells Z 26)).alloc (.cells Z 26)).alloc (.cells Z 26)) := (((Blk.new w _ _).below (below_new _ _)).below (below_new _ _)).below (below_new _ _)
  have hk1 := (((Blk.new (w.alloc (.cells #[Fv K1 p1, Fv K2 p2] 52)) Z 26).below (below_new _ (.cells Z 26))).below (below_new _ (.cells Z 26)))
  have hk2 := ((Blk.new ((w.alloc (.cells #[Fv K1 p1, Fv K2 p2] 52)).alloc (.cells Z 26)) Z 26).below (below_new _ (.cells Z 26)))
  have hk3 := (Blk.new (((w.alloc (.cells #[Fv K1 p1, Fv K2 p2] 52)).alloc (.cells Z 26)).alloc (.cells Z 26)) Z 26)
  simp only [World.size_alloc] at hk1 hk2 hk3
  have hsz : w.heap.size + 4 = ((((w.alloc (.cells #[Fv K1 p1, Fv K2 p2] 52)).alloc (.cells Z 26)).alloc (.cells Z 26)).alloc (.cells Z 26)).heap.size := by simp
  have hRz : layTCm.R zC (w.heap.size + 1 + 1) 0 (w.heap.size + 4) ((((w.alloc (.cells #[Fv K1 p1, Fv K2 p2] 52)).alloc (.cells Z 26)).alloc (.cells Z 26)).alloc (.cells Z 26)) := by
    subst hZ
    exact ⟨⟨⟨_, _, hk2⟩, hk2.cell 0, hk2.cell 1, hk2.cell 2, hk2.cell 3, hk2.cell 5⟩, ⟨_, _, hk2⟩, _, hk2.cell 4, World.ownsRow_nil _ _ _ _, fun _ => rfl⟩
  have CC := hide (hc s _ (w.heap.size + 1 + 1) 0 (w.heap.size + 4) zC (q.map fun d => (d, [])) hB0 (by omega) (by omega) (by omega) hRz rfl hs (by
    intro xt r h
    rcases hqq : q with _ | d
    · rw [hqq] at h; cases h
    · rw [hqq] at h
      simp at h
      obtain ⟨rfl, rfl⟩ := h
      obtain ⟨g1, g2⟩ := hq d hqq
      exact ⟨g1, trivial, by simpa using g2⟩))
  have hk2lt := hk2.lt
  subst hZ
  have HB0 := hide hB0
  have HK0 := hide hk0
  have HK1 := hide hk1
  have HK3 := hide hk3
  clear hP hc hq hB0 hk0 hk1 hk2 hk3 hRz
  go_enter Try.func31, Try.ntmps31
  go_wp2_with (first | (go_at_call 27; refine (write_any x' _ W2 K1 K2 p1 p2 (DPf f) (enc f) ⟨pv, cv, rfl, unhide HWV⟩ (Puts.mono (unhide HP) (unhide HBW2)) (unhide HD) (unhide HLEN)).mono ?_; rintro e W3 ⟨rfl, hb3⟩; clear e10_ e11_ e12_ e13_ e14_ e15_ e30_ e31_ e32_ e33_ e34_ e35_ e1f0_ e1f1_ e1f2_ e1f3_ e1f4_ e1f5_; have hk3w := (unhide HK3W).below hb3; have hk1w := (unhide HK1W).below hb3; have d10_ := hk1w.cell 0; have d11_ := hk1w.cell 1; have d12_ := hk1w.cell 2; have d13_ := hk1w.cell 3; have d14_ := hk1w.cell 4; have d15_ := hk1w.cell 5; simp at d10_ d11_ d12_ d13_ d14_ d15_; have d1f0_ := hk1w.froz 0; have d1f1_ := hk1w.froz 1; have d1f2_ := hk1w.froz 2; have d1f3_ := hk1w.froz 3; have d1f4_ := hk1w.froz 4; have d1f5_ := hk1w.froz 5; have d30_ := hk3w.cell 0; have d31_ := hk3w.cell 1; have d32_ := hk3w.cell 2; have d33_ := hk3w.cell 3; have d34_ := hk3w.cell 4; have d35_ := hk3w.cell 5; simp at d30_ d31_ d32_ d33_ d34_ d35_; have w0_ := (World.cell?_of_block (a := ⟨w.heap.size + 1 + 1, 0, none⟩) (hb3.block _ hvlt)).trans q0; have w1_ := (World.cell?_of_block (a := ⟨w.heap.size + 1 + 1, 1, none⟩) (hb3.block _ hvlt)).trans q1; have w2_ := (World.cell?_of_block (a := ⟨w.heap.size + 1 + 1, 2, none⟩) (hb3.block _ hvlt)).trans q2; have w3_ := (World.cell?_of_block (a := ⟨w.heap.size + 1 + 1, 3, none⟩) (hb3.block _ hvlt)).trans q3; have w4_ := (World.cell?_of_block (a := ⟨w.heap.size + 1 + 1, 4, none⟩) (hb3.block _ hvlt)).trans q4; have w5_ := (World.cell?_of_block (a := ⟨w.heap.size + 1 + 1, 5, none⟩) (hb3.block _ hvlt)).trans q5; rcases hcmp : decide (by8 s = enc f x') with _ | _; (have hcm := hide (of_decide_eq_false hcmp)); have hst := enc_ne (unhide hcm); clear hcmp; rotate_left; (have hcm := hide (of_decide_eq_true hcmp)); have hst := ba_inj.2 (unhide hcm); clear hcmp; rw [hst]; clear hst) | (refine (unhide CC).mono ?_; rintro e W2 ⟨ok, x', r, rfl, hgr, hno, hyes⟩; have hk1w : Blk (w.heap.size + 1) _ _ W2 := (hgr.block _ (by omega) (by intro e; injection e with e; omega)).trans (unhide HK1); have hk3w : Blk (w.heap.size + 1 + 1 + 1) _ _ W2 := (hgr.block _ (by omega) (by intro e; injection e with e; omega)).trans (unhide HK3); have hk0w : Blk w.heap.size _ _ W2 := (hgr.block _ (by omega) (by intro e; injection e with e; omega)).trans (unhide HK0); have HK1W := hide hk1w; have HK3W := hide hk3w; have HBW2 : Hid (Below w.heap.size w W2) := (unhide HB0).trans (below_of_grown hgr (by omega) (by omega)); have e10_ := hk1w.cell 0; have e11_ := hk1w.cell 1; have e12_ := hk1w.cell 2; have e13_ := hk1w.cell 3; have e14_ := hk1w.cell 4; have e15_ := hk1w.cell 5; simp at e10_ e11_ e12_ e13_ e14_ e15_; have e1f0_ := hk1w.froz 0; have e1f1_ := hk1w.froz 1; have e1f2_ := hk1w.froz 2; have e1f3_ := hk1w.froz 3; have e1f4_ := hk1w.froz 4; have e1f5_ := hk1w.froz 5; have e30_ := hk3w.cell 0; have e31_ := hk3w.cell 1; have e32_ := hk3w.cell 2; have e33_ := hk3w.cell 3; have e34_ := hk3w.cell 4; have e35_ := hk3w.cell 5; simp at e30_ e31_ e32_ e33_ e34_ e35_; have k0_ := hk0w.cell 0; have k1_ := hk0w.cell 1; simp at k0_ k1_; have HNO := hide hno; have HGR := hide hgr; clear hno; rcases ok with _ | _; clear hyes; rotate_left; (obtain ⟨g1, ⟨⟨hm2, q0, q1, q2, q3, q5⟩, hm4, vv, q4, hrow, hnv⟩, g3, g4, g5⟩ := hyes rfl; obtain ⟨pv, cv, rfl⟩ := row_slice hrow; simp only [Nat.zero_add] at q0 q1 q2 q3 q4 q5; have HWV := hide (row_wsv hrow); have HROW := hide hrow; have HG1 := hide g1; have HD := hide g1.1; have HLEN := hide (Nat.le_trans (enc_len f x' (by have := g1.1.2.1; unfold Is64 at this; omega) (by have := g1.1.2.2.1; unfold Is64 at this; omega) g1.2.2.1 g1.2.2.2.1 g1.2.2.2.2.1) (by decide : 10000000 ≤ 1099511627776)); have HG4 := hide g4; have hvlt : w.heap.size + 1 + 1 < W2.heap.size := (by have := hgr.size; omega); clear g1 g4 g5 hrow hm2 hm4 hnv hyes; rcases hr0 : decide (r.size = 0) with _ | _; (have hrn := of_decide_eq_false hr0; have hne := ba_ne r (by omega); clear hr0); rotate_left; (obtain rfl : r = ⟨#[]⟩ := size0 (of_decide_eq_true hr0)); clear hr0; have hnil := ba_nil)))
  · have hfin := hk1w.six (x0 := .int .i64 x'.kind) (x1 := .int .i64 x'.id) (x2 := .int .i64 x'.txn) (x3 := .bool x'.com) (x4 := .slice pv x'.ws.length cv) (x5 := .string x'.text)
    have n0_ := hfin.cell 0
    have n1_ := hfin.cell 1
    have n2_ := hfin.cell 2
    have n3_ := hfin.cell 3
    have n4_ := hfin.cell 4
    have n5_ := hfin.cell 5
    simp at n0_ n1_ n2_ n3_ n4_ n5_
    refine bodyPost_ret (v := .tuple #[.agg (cmA x' (.slice pv x'.ws.length cv)), .bool true]) (by simp [results, Try.results31, go_sem, n0_, n1_, n2_, n3_, n4_, n5_]) rfl ?_
    have hr3 : W3.ownsRow (w.heap.size + 4) 40 3 (.slice pv x'.ws.length cv) x'.ws.length (wcells x'.ws) := World.ownsRow.kept (unhide HROW) (grownBy_below none hb3) (by cases hv : (Value.slice pv x'.ws.length cv).ownBlock <;> simp)
    have hr4 := ownsRow_setCell_below (ownsRow_setCell_below (ownsRow_setCell_below (ownsRow_setCell_below (ownsRow_setCell_below (ownsRow_setCell_below hr3 (a := ⟨w.heap.size + 1, 0, none⟩) (by show w.heap.size + 1 < _; omega) (.int .i64 x'.kind)) (a := ⟨w.heap.size + 1, 1, none⟩) (by show w.heap.size + 1 < _; omega) (.int .i64 x'.id)) (a := ⟨w.heap.size + 1, 2, none⟩) (by show w.heap.size + 1 < _; omega) (.int .i64 x'.txn)) (a := ⟨w.heap.size + 1, 3, none⟩) (by show w.heap.size + 1 < _; omega) (.bool x'.com)) (a := ⟨w.heap.size + 1, 4, none⟩) (by show w.heap.size + 1 < _; omega) (.slice pv x'.ws.length cv)) (a := ⟨w.heap.size + 1, 5, none⟩) (by show w.heap.size + 1 < _; omega) (.string x'.text)
    refine ⟨x', .slice pv x'.ws.length cv, true, rfl, ownsRow_lower hr4 (by omega), (fun h => by cases h), fun _ => ⟨unhide HG1, unhide hcm⟩, fun d hd => ⟨rfl, ?_⟩, Below.six ((unhide HBW2).trans (hb3.mono (unhide HBW2).size)) (by omega)⟩
    have hm := (unhide HG4 d [] (by rw [hd]; rfl)).1
    exact mf_eq hm (unhide HG1).2.2.2.2.2 (unhide HQ d hd).1.2.2.2.2.2.2
  · have hfin := hk1w.six (x0 := .int .i64 0) (x1 := .int .i64 0) (x2 := .int .i64 0) (x3 := .bool false) (x4 := .slice none 0 0) (x5 := .string ⟨#[]⟩)
    have n0_ := hfin.cell 0
    have n1_ := hfin.cell 1
    have n2_ := hfin.cell 2
    have n3_ := hfin.cell 3
    have n4_ := hfin.cell 4
    have n5_ := hfin.cell 5
    simp at n0_ n1_ n2_ n3_ n4_ n5_
    refine bodyPost_ret (v := .tuple #[.agg (cmA zC (.slice none 0 0)), .bool false]) (by simp [results, Try.results31, go_sem, n0_, n1_, n2_, n3_, n4_, n5_]) rfl ?_
    refine ⟨zC, .slice none 0 0, false, rfl, World.ownsRow_nil _ _ _ _, fun _ => ⟨rfl, rfl⟩, (fun h => by cases h), fun d hd => ?_, Below.six ((unhide HBW2).trans (hb3.mono (unhide HBW2).size)) (by omega)⟩
    exfalso
    have hm := (unhide HG4 d [] (by rw [hd]; rfl)).1
    have e := mf_eq hm (unhide HG1).2.2.2.2.2 (unhide HQ d hd).1.2.2.2.2.2.2
    exact unhide hcm (by rw [e]; exact (unhide HQ d hd).2)
  · have hfin := hk1w.six (x0 := .int .i64 0) (x1 := .int .i64 0) (x2 := .int .i64 0) (x3 := .bool false) (x4 := .slice none 0 0) (x5 := .string ⟨#[]⟩)
    have n0_ := hfin.cell 0
    have n1_ := hfin.cell 1
    have n2_ := hfin.cell 2
    have n3_ := hfin.cell 3
    have n4_ := hfin.cell 4
    have n5_ := hfin.cell 5
    simp at n0_ n1_ n2_ n3_ n4_ n5_
    refine bodyPost_ret (v := .tuple #[.agg (cmA zC (.slice none 0 0)), .bool false]) (by simp [results, Try.results31, go_sem, n0_, n1_, n2_, n3_, n4_, n5_]) rfl ?_
    refine ⟨zC, .slice none 0 0, false, rfl, World.ownsRow_nil _ _ _ _, fun _ => ⟨rfl, rfl⟩, (fun h => by cases h), fun d hd => ?_, Below.six (unhide HBW2) (by omega)⟩
    exfalso
    obtain ⟨h0, _⟩ := unhide HNO (by first | rfl | trivial)
    rw [hd] at h0; cases h0
  · have hfin := hk1w.six (x0 := .int .i64 0) (x1 := .int .i64 0) (x2 := .int .i64 0) (x3 := .bool false) (x4 := .slice none 0 0) (x5 := .string ⟨#[]⟩)
    have n0_ := hfin.cell 0
    have n1_ := hfin.cell 1
    have n2_ := hfin.cell 2
    have n3_ := hfin.cell 3
    have n4_ := hfin.cell 4
    have n5_ := hfin.cell 5
    simp at n0_ n1_ n2_ n3_ n4_ n5_
    refine bodyPost_ret (v := .tuple #[.agg (cmA zC (.slice none 0 0)), .bool false]) (by simp [results, Try.results31, go_sem, n0_, n1_, n2_, n3_, n4_, n5_]) rfl ?_
    refine ⟨zC, .slice none 0 0, false, rfl, World.ownsRow_nil _ _ _ _, fun _ => ⟨rfl, rfl⟩, (fun h => by cases h), fun d hd => ?_, Below.six (unhide HBW2) (by omega)⟩
    exfalso
    have hm := (unhide HG4 d [] (by rw [hd]; rfl)).2
    have := congrArg List.length hm
    rw [by8_len] at this
    exact hrn this
end Go.Proofs.Ytjmmfgmmmdbenaa
