/-
  Package cmd: lists of writes, taken.
-/
import Derived.Test.YtjmmfgmmmdbenaaCV
namespace Go.Proofs.Ytjmmfgmmmdbenaa
open Go.RowKit
set_option linter.unusedSimpArgs false
set_option linter.unusedVariables false

theorem info_wt : (Try.prog.info? 40).map (fun i => (i.zero, i.size, i.bytes)) = some (some (.agg #[.string ⟨#[]⟩, .string ⟨#[]⟩, .bool false]), 3, 40) := by kernel_rfl
def layTW : LayT Wt where
  n := 3
  R x b o base W := Mem b W ∧ W.cell? ⟨b, o, none⟩ = some (.string x.k) ∧ W.cell? ⟨b, o + 1, none⟩ = some (.string x.v) ∧ W.cell? ⟨b, o + 2, none⟩ = some (.bool x.g)
  keep h hb := by
    obtain ⟨⟨cur, T, h1⟩, h2, h3, h4⟩ := h
    have hc : ∀ j, _ := fun j => World.cell?_of_block (a := ⟨_, j, none⟩) (hb.block _ h1.lt)
    exact ⟨⟨cur, T, h1.below hb⟩, (hc _).trans h2, (hc _).trans h3, (hc _).trans h4⟩
def wcells (ws : List Wt) : List Value := ws.flatMap fun w => [.string w.k, .string w.v, .bool w.g]
theorem wcells_len (ws : List Wt) : (wcells ws).length = ws.length * 3 := by
  induction ws with
  | nil => rfl
  | cons w ws ih => simp only [wcells, List.flatMap_cons, List.length_append, List.length_cons, List.length_nil] at ih ⊢; omega
theorem wcells_snoc (ws : List Wt) (x : Wt) : wcells (ws ++ [x]) = wcells ws ++ [.string x.k, .string x.v, .bool x.g] := by simp [wcells]
def layTWs : LayT (List Wt) where
  n := 1
  R ws b o base W := Mem b W ∧ ∃ v, W.cell? ⟨b, o, none⟩ = some v ∧ W.ownsRow base 40 3 v ws.length (wcells ws) ∧ (ws.length = 0 → v = .slice none 0 0)
  keep h hb := by
    obtain ⟨⟨cur, T, h1⟩, v, h2, h3, h4⟩ := h
    exact ⟨⟨cur, T, h1.below hb⟩, v, (World.cell?_of_block (a := ⟨_, _, none⟩) (hb.block _ h1.lt)).trans h2, World.ownsRow.kept h3 (grownBy_below none hb) (by cases hv : v.ownBlock <;> simp), h4⟩
theorem row_item {W W' : World} {base base2 gw k cp : Nat} {ws : List Wt} {x : Wt} {curw : Array Value} (hb : Blk gw curw 40 W) (hsz : curw.size = cp * 3) (hcp : k + 1 ≤ cp) (hcm : cp ≤ maxLen) (ht : curw.toList.take (k * 3) = wcells ws) (hl : ws.length = k)
    (hu : Upd gw (k * 3) 3 W W') (hx : layTW.R x gw (k * 3) base2 W') (hge : base ≤ gw) : W'.ownsRow base 40 3 (.slice (some ⟨gw, 0, none⟩) (k + 1) cp) (k + 1) (wcells (ws ++ [x])) := by
  obtain ⟨c1, h1, h2, h3⟩ := hu.here curw _ hb
  obtain ⟨_, x1, x2, x3⟩ := hx
  rw [h1.cell] at x1 x2 x3
  refine ⟨by rw [wcells_len, List.length_append, hl]; simp, .inr ⟨gw, cp, c1, rfl, hge, h1, hcp, hcm, by omega, ?_⟩⟩
  apply List.ext_getElem?
  intro j
  rw [wcells_snoc, List.getElem?_take]
  have hwl : (wcells ws).length = k * 3 := by rw [wcells_len, hl]
  by_cases hj : j < k * 3
  · rw [if_pos (by omega), List.getElem?_append_left (by omega), ← ht, List.getElem?_take, if_pos hj, Array.getElem?_toList, Array.getElem?_toList]
    exact h3 j (.inl hj)
  · by_cases hj2 : j < (k + 1) * 3
    · rw [if_pos hj2, List.getElem?_append_right (by omega), hwl, Array.getElem?_toList]
      have : j = k * 3 ∨ j = k * 3 + 1 ∨ j = k * 3 + 2 := by omega
      rcases this with rfl | rfl | rfl
      · rw [x1]; simp
      · rw [x2]; simp
      · rw [x3]; simp
    · rw [if_neg hj2, List.getElem?_eq_none (by simp; omega)]
theorem ownsRow_lower {W : World} {base base' : Nat} {e : TypeId} {size : Nat} {v : Value} {n : Nat} {xs : List Value} (h : W.ownsRow base e size v n xs) (hb : base' ≤ base) : W.ownsRow base' e size v n xs := by
  obtain ⟨h1, h2⟩ := h
  refine ⟨h1, ?_⟩
  rcases h2 with h2 | ⟨g, cap, cur, hv, hg, r⟩
  · exact .inl h2
  · exact .inr ⟨g, cap, cur, hv, Nat.le_trans hb hg, r⟩
theorem Upd.row {b o n : Nat} {A B C : World} {row : Option Nat} (h : Upd b o n A B) (g : B.grownBy C row) (hr : ∀ k, row = some k → A.heap.size ≤ k) (hb : b < A.heap.size) : Upd b o n A C :=
  ⟨grownBy_trans h.grown g (.inr hr), fun cur T hc => by
    obtain ⟨c1, h1, h2, h3⟩ := h.here cur T hc
    exact ⟨c1, (g.block _ h1.lt (fun e => by have := hr b e.symm; omega)).trans h1, h2, h3⟩⟩
theorem flat_drop (fi : Wt → List UInt8) (ws : List Wt) (k : Nat) (h : k < ws.length) : (ws.drop k).flatMap fi = fi ws[k] ++ (ws.drop (k + 1)).flatMap fi := by
  rw [List.drop_eq_getElem_cons h]; rfl

set_option maxRecDepth 100000 in
set_option maxHeartbeats 8000000 in
theorem listTakes (fs ft is it : Value) (bz bi : Nat) (w0 : World) (Qn Dn : Int → Prop) (fn : Int → List UInt8) (hQn : ∀ y, Qn y → 0 ≤ y ∧ y ≤ 9223372036854775807) (Pi Qi Di : Wt → Prop) (fi : Wt → List UInt8) (Mi Mi' : Wt → Wt → Prop)
    (hz : Takes ft w0 tI (fun x => x = 0) Qn Dn fn (fun _ _ => True) (fun y yt => y = yt)) (hi : Takes it w0 layTW Pi Qi Di fi Mi Mi') (hPi : Pi ⟨⟨#[]⟩, ⟨#[]⟩, false⟩) (hMi : ∀ xt, Di xt → Mi ⟨⟨#[]⟩, ⟨#[]⟩, false⟩ xt) (hMi' : ∀ x xt, Mi' x xt → x = xt)
    (hbz : Blk bz #[fs, ft] 77 w0) (hbi : Blk bi #[is, it] 82 w0) :
    Takes (.func (.func 90) #[] #[ptr bz 0, ptr bi 0]) w0 layTWs (fun x => x = []) (fun ws => ws.length ≤ 1000 ∧ ∀ w ∈ ws, Qi w) (fun ws => Dn ws.length ∧ ws.length ≤ 1000 ∧ ∀ w ∈ ws, Di w) (fun ws => fn ws.length ++ ws.flatMap fi) (fun _ _ => True) (fun y yt => y = yt) := by
  obtain ⟨iw, hiw, hw0, hw1, hw2⟩ := info_parts info_wt
  obtain ⟨K, caps, rfl, hE, hc⟩ := hz
  obtain ⟨Ki, capsi, rfl, hEi, hci⟩ := hi
  refine ⟨_, _, rfl, (fun _ _ => by kernel_rfl), fun s W b o base x q hB h1 h2 h3 hRx hx hsl hq => ?_⟩
  simp only [List.append_toArray, List.cons_append, List.nil_append]
  subst hx
  obtain ⟨⟨cur0, T0, hbk0⟩, v0, hcell0, hrow0, hnil0⟩ := hRx
  obtain rfl := hnil0 rfl
  have HQ := hide hq
  have hbx := (hbz.below hB).cell 1
  simp at hbx
  have hlz : bz < W.heap.size := (hbz.below hB).lt
  have hli : bi < W.heap.size := (hbi.below hB).lt
  have hli0 : bi < w0.heap.size := hbi.lt
  have HBI := hide (hbi.below hB)
  have hb1 := below_new W (.cells #[.int .i64 0] 3)
  have hnbk := Blk.new W #[.int .i64 0] 3
  have hblt : b < W.heap.size := hbk0.lt
  have CC := hide (hc s (W.alloc (.cells #[.int .i64 0] 3)) W.heap.size 0 (W.heap.size + 1) 0 (q.map fun p => ((p.1.length : Int), p.1.flatMap fi ++ p.2)) (Below.onto hB hb1) hB.size (by omega) (by simp) ⟨⟨_, _, hnbk⟩, hnbk.cell 0⟩ rfl hsl (by
    intro yt r hy
    rcases hqq : q with _ | ⟨xt, r1⟩
    · rw [hqq] at hy; cases hy
    · rw [hqq] at hy
      simp at hy
      obtain ⟨rfl, rfl⟩ := hy
      obtain ⟨g1, g2, g3⟩ := unhide HQ xt r1 hqq
      exact ⟨g1.1, trivial, by rw [g3, List.append_assoc]⟩))
  have HB := hide hB
  have HB1 := hide hb1
  have HBK1 := hide (hbk0.below hb1)
  have HC1 := hide ((World.cell?_of_block (a := ⟨b, o, none⟩) (hb1.block _ hblt)).trans hcell0)
  have CI := hide hci
  have hbkW := hbk0
  clear hc hci hb1 hbk0 hcell0 hrow0 hnil0 hB hq hbz hbi
  go_enter Try.func90, Try.ntmps90
  go_wp2_with (refine (unhide CC).mono ?_; rintro e W2 ⟨ok, y, r, rfl, hgr, hno, hyes⟩; have HNO := hide hno; have HGR := hide hgr; rcases ok with _ | _; all_goals first | (obtain ⟨g1, ⟨_, hn2⟩, g3, g4, g5⟩ := hyes rfl; have hy := hQn _ g1; obtain ⟨m, rfl⟩ : ∃ m : Nat, y = (m : Int) := ⟨y.toNat, by omega⟩; have HG4 := hide g4; have HBK2 := hide (show Blk b cur0 T0 W2 from (hgr.block b (Nat.lt_of_lt_of_le hblt (below_new W _).size) (by intro e; injection e with e; omega)).trans (unhide HBK1)); have HC2 := hide ((World.cell?_of_block (a := ⟨b, o, none⟩) (hgr.block b (Nat.lt_of_lt_of_le hblt (below_new W _).size) (by intro e; injection e with e; omega))).trans (unhide HC1)); have hwl2 : W.heap.size < W2.heap.size := Nat.lt_of_lt_of_le (by simp) hgr.size; have hrs : r.size ≤ 1099511627776 := Nat.le_trans g3 hsl; clear g5 g4 hno hyes HNO) | (clear hyes))
  · go_ret2
    have hgo : W.grownBy W2 (some b) := grownBy_below _ ((unhide HB1).trans (below_of_grown (unhide HGR) (Nat.le_refl _) (by simp)))
    obtain ⟨hq0, _⟩ := unhide HNO (by first | rfl | trivial)
    exact TPost.fail [] hgo (qmap_none hq0)
  · go_ret2
    rename_i hmin
    have hgo : W.grownBy W2 (some b) := grownBy_below _ ((unhide HB1).trans (below_of_grown (unhide HGR) (Nat.le_refl _) (by simp)))
    refine TPost.fail [] hgo ?_
    cases hqq : q with
    | none => rfl
    | some p =>
      obtain ⟨e1, e2⟩ := unhide HG4 (p.1.length : Int) (p.1.flatMap fi ++ p.2) (by rw [hqq]; rfl)
      have := (unhide HQ p.1 p.2 hqq).1.2.1
      omega
  · rename_i hmin
    have hm1000 : m ≤ 1000 := by omega
    have hB2 : Below W.heap.size W W2 := (unhide HB1).trans (below_of_grown (unhide HGR) (Nat.le_refl _) (by simp))
    have HB2 := hide hB2
    have HS0 : Hid (∀ xt r0, q = some (xt, r0) → m = xt.length ∧ by8 r = xt.flatMap fi ++ r0) := by
      intro xt r0 h
      obtain ⟨e1, e2⟩ := unhide HG4 (xt.length : Int) (xt.flatMap fi ++ r0) (by rw [h]; rfl)
      exact ⟨by omega, e2⟩
    have hg3 : r.size ≤ s.size := g3
    clear hB2 g3
    go_loopw [9, 10, 27] (fun u is i wr => ∃ k : Nat, k ≤ m ∧ i = .int .i64 (k : Int) ∧ is = .bool true ∧ ∃ sk ws vk, u = .string sk ∧ ws.length = k ∧ Hid (∀ w ∈ ws, Qi w) ∧ Hid (wr.cell? ⟨b, o, none⟩ = some vk) ∧ Hid (wr.ownsRow W.heap.size 40 3 vk k (wcells ws)) ∧ (k = 0 → vk = .slice none 0 0) ∧ sk.size ≤ s.size ∧ Hid (∀ xt r, q = some (xt, r) → ws = xt.take k ∧ m = xt.length ∧ by8 sk = (xt.drop k).flatMap fi ++ r) ∧ Upd b o 1 W wr)
      (fun u is i wr => m - (intOf i).toNat)
    case atStart => exact ⟨0, Nat.zero_le _, rfl, rfl, r, [], .slice none 0 0, rfl, rfl, (fun w hw => by cases hw), HC2, World.ownsRow_nil _ _ _ _, (fun _ => rfl), hg3, (fun xt r0 h => ⟨by simp, (unhide HS0 xt r0 h).1, by simpa using (unhide HS0 xt r0 h).2⟩), Upd.below hblt (unhide HB2)⟩
    case round =>
      obtain ⟨k, hk, rfl, rfl, sk, ws, vk, rfl, hwl, HQI, HC, HO, hvn, hsk, HS, hU⟩ := hrel
      have hszz := hU.grown.size
      by_cases hlt : k < m
      · obtain ⟨cur, T, hbk⟩ := hU.mem ⟨_, _, hbkW⟩
        have hce := unhide HC
        have hlb2 : b < wr.heap.size := Nat.lt_of_lt_of_le hblt hszz
        have hvb : vk.ownBlock ≠ some b := fun e => by have := ((unhide HO).lt b e).1; omega
        have hvnb : vk.ownBlock ≠ some wr.heap.size := fun e => by have := ((unhide HO).lt _ e).2; omega
        have HVB := hide hvb
        have HBK := hide hbk
        clear hce hvb
        go_wp2
        rename_i KK hrest
        have REST : Hid (∀ (ac : Act) (gw cp : Nat) (W4 : World), ac = ⟨#[.string s, ptr b o, ptr bz 0, ptr bi 0, undef, undef, ac.tmps.getD 6 undef, ac.tmps.getD 7 undef, ptr W.heap.size 0, .string sk, .bool true, .int .i64 (k : Int), ac.tmps.getD 12 undef, .tuple #[.string r, .bool true], ptr bz 1, .func (.func K) #[] caps, .string s, .tuple #[.string r, .bool true], .string r, .bool true, .bool true, .bool false, .bool false, .int .i64 (m : Int), .bool (decide ((1000 : Int) < (m : Int))), .bool (decide ((1000 : Int) < (m : Int))), .int .i64 (m : Int), .int .i64 (k : Int), ac.tmps.getD 28 undef, ac.tmps.getD 29 undef, ac.tmps.getD 30 undef, ac.tmps.getD 31 undef, ac.tmps.getD 32 undef, ac.tmps.getD 33 undef, ac.tmps.getD 34 undef, ac.tmps.getD 35 undef, ac.tmps.getD 36 undef, ac.tmps.getD 37 undef, ac.tmps.getD 38 undef, ac.tmps.getD 39 undef, ac.tmps.getD 40 undef, ac.tmps.getD 41 undef, ac.tmps.getD 42 undef, ac.tmps.getD 43 undef, ac.tmps.getD 44 undef, ac.tmps.getD 45 undef, ac.tmps.getD 46 undef, ac.tmps.getD 47 undef, ac.tmps.getD 48 undef, ac.tmps.getD 49 undef, ac.tmps.getD 50 undef, ac.tmps.getD 51 undef, ac.tmps.getD 52 undef, undef], []⟩ → W4.ownsRow W.heap.size 40 3 (.slice (some ⟨gw, 0, none⟩) (k + 1) cp) (k + 1) (wcells ws ++ [.string ⟨#[]⟩, .string ⟨#[]⟩, .bool false]) → Upd b o 1 W W4 → Blk b cur T W4 → W4.cell? ⟨b, o, none⟩ = some vk → KK ac (W4.setCell ⟨b, o, none⟩ (.slice (some ⟨gw, 0, none⟩) (k + 1) cp))) := by
          intro ac gw cp W4 ha hown4 hU4 hbk4 hc4
          obtain ⟨u, rfl⟩ : ∃ u : Nat → Value, ac = ⟨#[.string s, ptr b o, ptr bz 0, ptr bi 0, undef, undef, u 6, u 7, ptr W.heap.size 0, .string sk, .bool true, .int .i64 (k : Int), u 12, .tuple #[.string r, .bool true], ptr bz 1, .func (.func K) #[] caps, .string s, .tuple #[.string r, .bool true], .string r, .bool true, .bool true, .bool false, .bool false, .int .i64 (m : Int), .bool (decide ((1000 : Int) < (m : Int))), .bool (decide ((1000 : Int) < (m : Int))), .int .i64 (m : Int), .int .i64 (k : Int), u 28, u 29, u 30, u 31, u 32, u 33, u 34, u 35, u 36, u 37, u 38, u 39, u 40, u 41, u 42, u 43, u 44, u 45, u 46, u 47, u 48, u 49, u 50, u 51, u 52, undef], []⟩ := ⟨fun i => ac.tmps.getD i undef, ha⟩
          clear ha
          refine hrest _ _ ?_
          clear hrest
          have hgw := hown4.lt gw rfl
          have hU5 : Upd b o 1 W (W4.setCell ⟨b, o, none⟩ (.slice (some ⟨gw, 0, none⟩) (k + 1) cp)) := hU4.trans (Upd.set _)
          have hown5 := ownsRow_setCell_below hown4 (a := ⟨b, o, none⟩) hblt (.slice (some ⟨gw, 0, none⟩) (k + 1) cp)
          have hc5 := set_cell (v := .slice (some ⟨gw, 0, none⟩) (k + 1) cp) hbk4 hc4
          have hs5 : (W4.setCell ⟨b, o, none⟩ (.slice (some ⟨gw, 0, none⟩) (k + 1) cp)).heap.size = W4.heap.size := by simp [World.setCell]
          have hbk5 : Mem b (W4.setCell ⟨b, o, none⟩ (.slice (some ⟨gw, 0, none⟩) (k + 1) cp)) := ⟨_, _, hbk4.set o _⟩
          generalize W4.setCell ⟨b, o, none⟩ (.slice (some ⟨gw, 0, none⟩) (k + 1) cp) = W5 at *
          have hszz5 := hU5.grown.size
          have HC5 := hide hc5
          have HO5 := hide hown5
          clear hown4 hU4 hbk4 hc4 hc5 hown5
          go_wp2
          rename_i KK2 hrest
          rcases (unhide HO5).2 with ⟨he, _⟩ | ⟨gw', cp', curw, he, hge, hbw, hcp, hcm, hcs, hct⟩
          · cases he
          injection he with e1 _ e3
          injection e1 with e1
          injection e1 with e1
          subst e1; subst e3
          have hwlen : (wcells ws).length = k * 3 := by rw [wcells_len, hwl]
          have hct3 : curw.toList.take (k * 3) = wcells ws := by
            have := congrArg (List.take (k * 3)) hct
            rw [List.take_take, Nat.min_eq_left (by omega), ← hwlen, List.take_left' rfl] at this
            rw [← hwlen]; exact this
          have hcz : ∀ j v, ([.string ⟨#[]⟩, .string ⟨#[]⟩, .bool false] : List Value)[j]? = some v → W5.cell? ⟨gw, k * 3 + j, none⟩ = some v := by
            intro j v hj
            have hj3 : j < 3 := (List.getElem?_eq_some_iff.1 hj).1
            rw [cell_of_row W5 gw _ curw _ _ hbw, ← Array.getElem?_toList]
            have h1 : (curw.toList.take ((k + 1) * 3))[k * 3 + j]? = some v := by
              rw [hct, List.getElem?_append_right (by omega), hwlen, show k * 3 + j - k * 3 = j by omega]; exact hj
            rw [List.getElem?_take, if_pos (by omega)] at h1
            exact h1
          have hBW5 : Below w0.heap.size w0 W5 := (unhide HB).trans (below_of_grown hU5.grown h1 (unhide HB).size)
          have hbi5 : Blk bi _ _ W5 := (hU5.grown.block bi hli (by intro e; injection e with e; omega)).trans (unhide HBI)
          have hgw5 : gw < W5.heap.size := by omega
          have hWd : Below W5.heap.size W5 W5.drew := (Below.refl _ _).drew
          have HS5 : Blk bi #[is, .func (.func Ki) #[] capsi] 82 W5.drew ∧ W5.drew.cell? ⟨b, o, none⟩ = some (.slice (some ⟨gw, 0, none⟩) (k + 1) cp) := ⟨hbi5.below hWd, (World.cell?_of_block (a := ⟨b, o, none⟩) (hWd.block _ (show b < W5.heap.size by omega))).trans (unhide HC5)⟩
          refine wp_region_noPanic ?_
          refine wp_region_held_drew (S := (fun X => Blk bi #[is, .func (.func Ki) #[] capsi] 82 X ∧ X.cell? ⟨b, o, none⟩ = some (.slice (some ⟨gw, 0, none⟩) (k + 1) cp))) (by kernel_rfl) (HS5) (fun hHeld => ?_)
          clear hbi5 HS5
          have HBW := hide hbw
          have HCZ := hide hcz
          clear hbw hcz
          generalize W5.drew = We at *
          have hlie : bi < We.heap.size := by have := hWd.size; omega
          have hlbe : b < We.heap.size := by have := hWd.size; omega
          have hgwe : gw < We.heap.size := Nat.lt_of_lt_of_le hgw5 hWd.size
          have hbwe : Blk gw curw 40 We := Blk.below (unhide HBW) hWd
          have hzz : layTW.R ⟨⟨#[]⟩, ⟨#[]⟩, false⟩ gw (k * 3) We.heap.size We := by
            have hcc : ∀ j, We.cell? ⟨gw, j, none⟩ = W5.cell? ⟨gw, j, none⟩ := fun j => World.cell?_of_block (a := ⟨gw, j, none⟩) (hWd.block _ hgw5)
            exact ⟨⟨_, _, hbwe⟩, (hcc _).trans (unhide HCZ 0 _ rfl), (hcc _).trans (unhide HCZ 1 _ rfl), (hcc _).trans (unhide HCZ 2 _ rfl)⟩
          have hkk : (k : Int) < (k : Int) + 1 := by omega
          have CC := hide (unhide CI sk We gw (k * 3) We.heap.size ⟨⟨#[]⟩, ⟨#[]⟩, false⟩ (q.bind fun p => if h : k < p.1.length then some (p.1[k], (p.1.drop (k + 1)).flatMap fi ++ p.2) else none) (Below.onto hBW5 hWd) (Nat.le_trans (unhide HB).size hge) hgwe (Nat.le_refl _) hzz hPi (Nat.le_trans hsk hsl) (by
            intro xt r1 hy
            rcases hqq : q with _ | ⟨xts, r2⟩
            · rw [hqq] at hy; cases hy
            · obtain ⟨g1, g2, g3⟩ := unhide HS xts r2 hqq
              rw [hqq] at hy
              simp only [Option.bind_some] at hy
              rw [dif_pos (by omega)] at hy
              injection hy with hy
              injection hy with hy1 hy2
              subst hy1; subst hy2
              have hmem : xts[k] ∈ xts := List.getElem_mem _
              have hD := (unhide HQ xts r2 hqq).1.2.2 _ hmem
              exact ⟨hD, hMi _ hD, by rw [g3, flat_drop fi xts k (by omega), List.append_assoc]⟩))
          clear CI
          refine wpAnyH_take (i := 0) (oi := ?oi20015) (v := ?v20015) ?hi20015 (by kernel_rfl) (by kernel_rfl) (by kernel_rfl) (fun _ _ _ h => h) (Or.inl ⟨?hw20015, ?hy20015⟩) (by assumption) ?rest20015
          case hi20015 => (simp only [List.getElem?_toArray, List.getElem?_cons_zero]; rfl)
          case hw20015 => rfl
          case hy20015 => first | (intro wx hSw; obtain ⟨hs1, hs2⟩ := hSw; have hs3 := hs1.cell 1; simp at hs3; go_simp; done) | (intro wx hSw; obtain ⟨hs1, hs2⟩ := hSw; have hs3 := hs1.cell 1; simp at hs3; go_simp; with_reducible rfl)
          simp only [Act.put, List.setIfInBounds_toArray, List.set_cons_zero, List.set_cons_succ]
          refine wpAnyH_take (i := 1) (oi := ?oi20016) (v := ?v20016) ?hi20016 (by kernel_rfl) (by kernel_rfl) (by kernel_rfl) (fun _ _ _ h => h) (Or.inl ⟨?hw20016, ?hy20016⟩) (by assumption) ?rest20016
          case hi20016 => (simp only [List.getElem?_toArray, List.getElem?_cons_zero, List.getElem?_cons_succ]; rfl)
          case hw20016 => rfl
          case hy20016 => first | (intro wx hSw; obtain ⟨hs1, hs2⟩ := hSw; have hs3 := hs1.cell 1; simp at hs3; go_simp; done) | (intro wx hSw; obtain ⟨hs1, hs2⟩ := hSw; have hs3 := hs1.cell 1; simp at hs3; go_simp; with_reducible rfl)
          simp only [Act.put, List.setIfInBounds_toArray, List.set_cons_zero, List.set_cons_succ]
          refine wpAnyH_take (i := 2) (oi := ?oi20017) (v := ?v20017) ?hi20017 (by kernel_rfl) (by kernel_rfl) (by kernel_rfl) (fun _ _ _ h => h) (Or.inl ⟨?hw20017, ?hy20017⟩) (by assumption) ?rest20017
          case hi20017 => (simp only [List.getElem?_toArray, List.getElem?_cons_zero, List.getElem?_cons_succ]; rfl)
          case hw20017 => rfl
          case hy20017 => first | (intro wx hSw; obtain ⟨hs1, hs2⟩ := hSw; have hs3 := hs1.cell 1; simp at hs3; go_simp; done) | (intro wx hSw; obtain ⟨hs1, hs2⟩ := hSw; have hs3 := hs1.cell 1; simp at hs3; go_simp; with_reducible rfl)
          simp only [Act.put, List.setIfInBounds_toArray, List.set_cons_zero, List.set_cons_succ]
          refine wpAnyH_take (i := 3) (oi := ?oi20018) (v := ?v20018) ?hi20018 (by kernel_rfl) (by kernel_rfl) (by kernel_rfl) (fun _ _ _ h => h) (Or.inl ⟨?hw20018, ?hy20018⟩) (by assumption) ?rest20018
          case hi20018 => (simp only [List.getElem?_toArray, List.getElem?_cons_zero, List.getElem?_cons_succ]; rfl)
          case hw20018 => rfl
          case hy20018 => first | (intro wx hSw; obtain ⟨hs1, hs2⟩ := hSw; have hs3 := hs1.cell 1; simp at hs3; go_simp; done) | (intro wx hSw; obtain ⟨hs1, hs2⟩ := hSw; have hs3 := hs1.cell 1; simp at hs3; go_simp; with_reducible rfl)
          simp only [Act.put, List.setIfInBounds_toArray, List.set_cons_zero, List.set_cons_succ]
          refine wpAnyH_take (i := 4) (oi := ?oi20019) (v := ?v20019) ?hi20019 (by kernel_rfl) (by kernel_rfl) (by kernel_rfl) (fun _ _ _ h => h) (Or.inl ⟨?hw20019, ?hy20019⟩) (by assumption) ?rest20019
          case hi20019 => (simp only [List.getElem?_toArray, List.getElem?_cons_zero, List.getElem?_cons_succ]; rfl)
          case hw20019 => rfl
          case hy20019 => first | (intro wx hSw; obtain ⟨hs1, hs2⟩ := hSw; have hs3 := hs1.cell 1; simp at hs3; go_simp; done) | (intro wx hSw; obtain ⟨hs1, hs2⟩ := hSw; have hs3 := hs1.cell 1; simp at hs3; go_simp; with_reducible rfl)
          simp only [Act.put, List.setIfInBounds_toArray, List.set_cons_zero, List.set_cons_succ]
          refine wpAnyH_take (i := 5) (oi := ?oi20020) (v := ?v20020) ?hi20020 (by kernel_rfl) (by kernel_rfl) (by kernel_rfl) (fun _ _ _ h => h) (Or.inl ⟨?hw20020, ?hy20020⟩) (by assumption) ?rest20020
          case hi20020 => (simp only [List.getElem?_toArray, List.getElem?_cons_zero, List.getElem?_cons_succ]; rfl)
          case hw20020 => rfl
          case hy20020 => first | (intro wx hSw; obtain ⟨hs1, hs2⟩ := hSw; have hs3 := hs1.cell 1; simp at hs3; go_simp; done) | (intro wx hSw; obtain ⟨hs1, hs2⟩ := hSw; have hs3 := hs1.cell 1; simp at hs3; go_simp; with_reducible rfl)
          simp only [Act.put, List.setIfInBounds_toArray, List.set_cons_zero, List.set_cons_succ]
          refine wpAnyH_take (i := 6) (oi := ?oi20021) (v := ?v20021) ?hi20021 (by kernel_rfl) (by kernel_rfl) (by kernel_rfl) (fun _ _ _ h => h) (Or.inl ⟨?hw20021, ?hy20021⟩) (by assumption) ?rest20021
          case hi20021 => (simp only [List.getElem?_toArray, List.getElem?_cons_zero, List.getElem?_cons_succ]; rfl)
          case hw20021 => rfl
          case hy20021 => first | (intro wx hSw; obtain ⟨hs1, hs2⟩ := hSw; have hs3 := hs1.cell 1; simp at hs3; go_simp; done) | (intro wx hSw; obtain ⟨hs1, hs2⟩ := hSw; have hs3 := hs1.cell 1; simp at hs3; go_simp; with_reducible rfl)
          simp only [Act.put, List.setIfInBounds_toArray, List.set_cons_zero, List.set_cons_succ]
          refine wpAnyH_take (i := 7) (oi := ?oi20022) (v := ?v20022) ?hi20022 (by kernel_rfl) (by kernel_rfl) (by kernel_rfl) (fun _ _ _ h => h) (Or.inl ⟨?hw20022, ?hy20022⟩) (by assumption) ?rest20022
          case hi20022 => (simp only [List.getElem?_toArray, List.getElem?_cons_zero, List.getElem?_cons_succ]; rfl)
          case hw20022 => rfl
          case hy20022 => first | (intro wx hSw; obtain ⟨hs1, hs2⟩ := hSw; have hs3 := hs1.cell 1; simp at hs3; go_simp; done) | (intro wx hSw; obtain ⟨hs1, hs2⟩ := hSw; have hs3 := hs1.cell 1; simp at hs3; go_simp; with_reducible rfl)
          simp only [Act.put, List.setIfInBounds_toArray, List.set_cons_zero, List.set_cons_succ]
          refine wpAnyH_ready (rs := [8]) (by kernel_rfl) (by simp) ?_
          refine AllReadyH.cons rfl (fun K20023 hK20023 => ?_) AllReadyH.nil
          go_simp
          go_wp2_with (refine (unhide CC).mono ?_; rintro e W6 ⟨ok, y, rk, rfl, hgr, hno, hyes⟩; have HNO := hide hno; have HYES := hide hyes; clear hno hyes)
          refine hK20023.out _ _ ?hs20023 (fun hHeld20023 => ?_)
          case hs20023 => exact ⟨(hgr.block _ hlie (by intro e; injection e with e; omega)).trans hHeld.1, (World.cell?_of_block (a := ⟨b, o, none⟩) (hgr.block _ hlbe (by intro e; injection e with e; exact absurd e (show b ≠ gw by omega)))).trans hHeld.2⟩
          clear hHeld
          have hHeld := hHeld20023; clear hHeld20023 hK20023 K20023
          refine wpAnyH_take (i := 9) (oi := ?oi20024) (v := ?v20024) ?hi20024 (by kernel_rfl) (by kernel_rfl) (by kernel_rfl) (fun _ _ _ h => h) (Or.inl ⟨?hw20024, ?hy20024⟩) (by assumption) ?rest20024
          case hi20024 => (simp only [List.getElem?_toArray, List.getElem?_cons_zero, List.getElem?_cons_succ]; rfl)
          case hw20024 => rfl
          case hy20024 => first | (intro wx hSw; go_simp; done) | (intro wx hSw; go_simp; with_reducible rfl)
          simp only [Act.put, List.setIfInBounds_toArray, List.set_cons_zero, List.set_cons_succ]
          refine wpAnyH_take (i := 10) (oi := ?oi20025) (v := ?v20025) ?hi20025 (by kernel_rfl) (by kernel_rfl) (by kernel_rfl) (fun _ _ _ h => h) (Or.inl ⟨?hw20025, ?hy20025⟩) (by assumption) ?rest20025
          case hi20025 => (simp only [List.getElem?_toArray, List.getElem?_cons_zero, List.getElem?_cons_succ]; rfl)
          case hw20025 => rfl
          case hy20025 => first | (intro wx hSw; go_simp; done) | (intro wx hSw; go_simp; with_reducible rfl)
          simp only [Act.put, List.setIfInBounds_toArray, List.set_cons_zero, List.set_cons_succ]
          refine wpAnyH_take (i := 11) (oi := ?oi20026) (v := ?v20026) ?hi20026 (by kernel_rfl) (by kernel_rfl) (by kernel_rfl) (fun _ _ _ h => h) (Or.inl ⟨?hw20026, ?hy20026⟩) (by assumption) ?rest20026
          case hi20026 => (simp only [List.getElem?_toArray, List.getElem?_cons_zero, List.getElem?_cons_succ]; rfl)
          case hw20026 => rfl
          case hy20026 => first | (intro wx hSw; go_simp; done) | (intro wx hSw; go_simp; with_reducible rfl)
          simp only [Act.put, List.setIfInBounds_toArray, List.set_cons_zero, List.set_cons_succ]
          refine wpAnyH_take (i := 12) (oi := ?oi20027) (v := ?v20027) ?hi20027 (by kernel_rfl) (by kernel_rfl) (by kernel_rfl) (fun _ _ _ h => h) (Or.inl ⟨?hw20027, ?hy20027⟩) (by assumption) ?rest20027
          case hi20027 => (simp only [List.getElem?_toArray, List.getElem?_cons_zero, List.getElem?_cons_succ]; rfl)
          case hw20027 => rfl
          case hy20027 => first | (intro wx hSw; go_simp; done) | (intro wx hSw; go_simp; with_reducible rfl)
          simp only [Act.put, List.setIfInBounds_toArray, List.set_cons_zero, List.set_cons_succ]
          refine wpAnyH_take (i := 13) (oi := ?oi20028) (v := ?v20028) ?hi20028 (by kernel_rfl) (by kernel_rfl) (by kernel_rfl) (fun _ _ _ h => h) (Or.inl ⟨?hw20028, ?hy20028⟩) (by assumption) ?rest20028
          case hi20028 => (simp only [List.getElem?_toArray, List.getElem?_cons_zero, List.getElem?_cons_succ]; rfl)
          case hw20028 => rfl
          case hy20028 => first | (intro wx hSw; go_simp; done) | (intro wx hSw; go_simp; with_reducible rfl)
          simp only [Act.put, List.setIfInBounds_toArray, List.set_cons_zero, List.set_cons_succ]
          refine wpAnyH_done (by kernel_rfl) ?_ _
          refine NoPanic.normal ?_
          refine hrest _ _ ?_
          have HC6 := hide hHeld.2
          clear hHeld
          have hU6 : Upd b o 1 W W6 := (hU5.trans (Upd.below (by omega) hWd)).row hgr (fun j e => by injection e with e; omega) hblt
          rcases ok with _ | _
          · obtain ⟨hq0, rfl⟩ := unhide HNO (by first | rfl | trivial)
            go_wp2_with fail
            go_ret2
            refine TPost.fail [] hU6.grown ?_
            rcases hqq : q with _ | ⟨xts, r2⟩
            · rfl
            · obtain ⟨g1, g2, g3⟩ := unhide HS xts r2 hqq
              rw [hqq] at hq0
              simp only [Option.bind_some] at hq0
              rw [dif_pos (by omega)] at hq0
              cases hq0
          · obtain ⟨g1, g2, g3, g4, g5⟩ := unhide HYES (by first | rfl | trivial)
            have HG1 := hide g1
            have HROW := hide (row_item (base := W.heap.size) hbwe hcs hcp hcm hct3 hwl g5 g2 hge)
            have HSP : Hid (∀ xt r0, q = some (xt, r0) → ws ++ [y] = xt.take (k + 1) ∧ m = xt.length ∧ by8 rk = (xt.drop (k + 1)).flatMap fi ++ r0) := by
              intro xt r0 hqq
              obtain ⟨e1, e2, e3⟩ := unhide HS xt r0 hqq
              obtain ⟨e4, e5⟩ := g4 (xt[k]'(by omega)) ((xt.drop (k + 1)).flatMap fi ++ r0) (by rw [hqq, Option.bind_some, dif_pos (show k < (xt, r0).1.length by show k < xt.length; omega)])
              refine ⟨?_, e2, e5⟩
              rw [List.take_add_one, List.getElem?_eq_getElem (by omega), ← e1, hMi' _ _ e4]; rfl
            clear g1 g2 g4 g5
            go_wp2_with fail
            go_roundw
            case rel =>
              have HQ6 : Hid (∀ w ∈ ws ++ [y], Qi w) := fun w hw => by
                rcases List.mem_append.1 hw with h | h
                · exact unhide HQI w h
                · rw [List.mem_singleton.1 h]; exact unhide HG1
              have hl6 : (ws ++ [y]).length = k + 1 := by simp [hwl]
              refine ⟨u 6, u 7, .string rk, .bool true, .int .i64 (k : Int), u 12, .int .i64 ((k + 1 : Nat) : Int), ⟨k + 1, by omega, rfl, rfl, rk, rfl, ws ++ [y], hl6, HQ6, _, HC6, HROW, (fun h => by omega), Nat.le_trans g3 hsk, HSP⟩, ?_⟩
              simp
            case measure => simp [intOf] <;> omega
        clear hrest
        have hWd : Below wr.heap.size wr (wr.alloc (.cells #[.string ⟨#[]⟩, .string ⟨#[]⟩, .bool false] 40)).drew := (below_new wr _).drew
        have HS9 : Blk wr.heap.size #[.string ⟨#[]⟩, .string ⟨#[]⟩, .bool false] 40 (wr.alloc (.cells #[.string ⟨#[]⟩, .string ⟨#[]⟩, .bool false] 40)).drew := Blk.new wr _ _
        have hwd9 : wr.heap.size < (wr.alloc (.cells #[.string ⟨#[]⟩, .string ⟨#[]⟩, .bool false] 40)).drew.heap.size := by simp
        refine wp_region_noPanic ?_
        refine wp_region_held_drew (S := (fun X => Blk wr.heap.size #[.string ⟨#[]⟩, .string ⟨#[]⟩, .bool false] 40 X)) (by kernel_rfl) (HS9) (fun hHeld => ?_)
        clear HS9
        generalize (wr.alloc (.cells #[.string ⟨#[]⟩, .string ⟨#[]⟩, .bool false] 40)).drew = Wd at *
        have HC := hide ((World.cell?_of_block (a := ⟨b, o, none⟩) (hWd.block _ hlb2)).trans (unhide HC))
        have hbd : b < Wd.heap.size := by omega
        have hnb : wr.heap.size ≠ b := by omega
        have hUd : Upd b o 1 W Wd := hU.trans (Upd.below hlb2 hWd)
        have HOd0 : Hid (Wd.ownsRow W.heap.size 40 3 vk k (wcells ws)) := World.ownsRow.kept (unhide HO) (grownBy_below none hWd) (by cases hv : vk.ownBlock <;> simp)
        have HOd := hide ((unhide HOd0).alloc (.cells #[.string ⟨#[]⟩, .string ⟨#[]⟩, .bool false] 40))
        have HUA := hide (hUd.trans (Upd.below hbd (below_new Wd (.cells #[.string ⟨#[]⟩, .string ⟨#[]⟩, .bool false] 40))))
        have HBA : Hid (Blk b cur T (Wd.alloc (.cells #[.string ⟨#[]⟩, .string ⟨#[]⟩, .bool false] 40))) := ((Blk.below (unhide HBK) hWd).below (below_new Wd (.cells #[.string ⟨#[]⟩, .string ⟨#[]⟩, .bool false] 40)) :)
        have HCA := hide ((World.cell?_of_block (a := ⟨b, o, none⟩) ((below_new Wd (.cells #[.string ⟨#[]⟩, .string ⟨#[]⟩, .bool false] 40)).block _ hbd)).trans (unhide HC))
        have HNEW : Hid (∀ j u, ([.string ⟨#[]⟩, .string ⟨#[]⟩, .bool false] : List Value)[j]? = some u → (Wd.alloc (.cells #[.string ⟨#[]⟩, .string ⟨#[]⟩, .bool false] 40)).cell? (Addr.add ⟨Wd.heap.size, 0, none⟩ j) = some u) := World.news_of_block (Blk.new Wd #[.string ⟨#[]⟩, .string ⟨#[]⟩, .bool false] 40)
        have HVN : Hid (some wr.heap.size ≠ vk.ownBlock) := fun e => hvnb e.symm
        have HVB := hide (fun e : some b = vk.ownBlock => unhide HVB e.symm)
        clear hvnb hvn hU hbk hUd HO HOd0 hWd
        refine wpAnyH_take (i := 0) (oi := ?oi20001) (v := ?v20001) ?hi20001 (by kernel_rfl) (by kernel_rfl) (by kernel_rfl) (fun _ _ _ h => h) (Or.inl ⟨?hw20001, ?hy20001⟩) (by assumption) ?rest20001
        case hi20001 => (simp only [List.getElem?_toArray, List.getElem?_cons_zero]; rfl)
        case hw20001 => rfl
        case hy20001 => first | (intro wx hSw; have hs0 := hSw.cell 0; have hs1 := hSw.cell 1; have hs2 := hSw.cell 2; simp at hs0 hs1 hs2; go_simp; done) | (intro wx hSw; have hs0 := hSw.cell 0; have hs1 := hSw.cell 1; have hs2 := hSw.cell 2; simp at hs0 hs1 hs2; go_simp; with_reducible rfl)
        simp only [Act.put, List.setIfInBounds_toArray, List.set_cons_zero, List.set_cons_succ]
        refine wpAnyH_take (i := 1) (oi := ?oi20002) (v := ?v20002) ?hi20002 (by kernel_rfl) (by kernel_rfl) (by kernel_rfl) (fun _ _ _ h => h) (Or.inl ⟨?hw20002, ?hy20002⟩) (by assumption) ?rest20002
        case hi20002 => (simp only [List.getElem?_toArray, List.getElem?_cons_zero, List.getElem?_cons_succ]; rfl)
        case hw20002 => rfl
        case hy20002 => first | (intro wx hSw; have hs0 := hSw.cell 0; have hs1 := hSw.cell 1; have hs2 := hSw.cell 2; simp at hs0 hs1 hs2; go_simp; done) | (intro wx hSw; have hs0 := hSw.cell 0; have hs1 := hSw.cell 1; have hs2 := hSw.cell 2; simp at hs0 hs1 hs2; go_simp; with_reducible rfl)
        simp only [Act.put, List.setIfInBounds_toArray, List.set_cons_zero, List.set_cons_succ]
        refine wpAnyH_take (i := 2) (oi := ?oi20003) (v := ?v20003) ?hi20003 (by kernel_rfl) (by kernel_rfl) (by kernel_rfl) (fun _ _ _ h => h) (Or.inl ⟨?hw20003, ?hy20003⟩) (by assumption) ?rest20003
        case hi20003 => (simp only [List.getElem?_toArray, List.getElem?_cons_zero, List.getElem?_cons_succ]; rfl)
        case hw20003 => rfl
        case hy20003 => first | (intro wx hSw; have hs0 := hSw.cell 0; have hs1 := hSw.cell 1; have hs2 := hSw.cell 2; simp at hs0 hs1 hs2; go_simp; done) | (intro wx hSw; have hs0 := hSw.cell 0; have hs1 := hSw.cell 1; have hs2 := hSw.cell 2; simp at hs0 hs1 hs2; go_simp; with_reducible rfl)
        simp only [Act.put, List.setIfInBounds_toArray, List.set_cons_zero, List.set_cons_succ]
        refine wpAnyH_take (i := 4) (oi := ?oi20004) (v := ?v20004) ?hi20004 (by kernel_rfl) (by kernel_rfl) (by kernel_rfl) (fun _ _ _ h => h) (Or.inl ⟨?hw20004, ?hy20004⟩) (by assumption) ?rest20004
        case hi20004 => (simp only [List.getElem?_toArray, List.getElem?_cons_zero, List.getElem?_cons_succ]; rfl)
        case hw20004 => rfl
        case hy20004 => first | (intro wx hSw; have hs0 := hSw.cell 0; have hs1 := hSw.cell 1; have hs2 := hSw.cell 2; simp at hs0 hs1 hs2; go_simp; done) | (intro wx hSw; have hs0 := hSw.cell 0; have hs1 := hSw.cell 1; have hs2 := hSw.cell 2; simp at hs0 hs1 hs2; go_simp; with_reducible rfl)
        simp only [Act.put, List.setIfInBounds_toArray, List.set_cons_zero, List.set_cons_succ]
        refine wpAnyH_ready (rs := [3, 5]) (by kernel_rfl) (by simp) ?_
        refine AllReadyH.cons rfl (fun K20005 hK20005 => ?_) ?_
        · have hca := unhide HC
          go_simp
          refine hK20005.out _ _ ?hs20005 (fun hHeld20005 => ?_)
          case hs20005 => exact hHeld
          clear hHeld
          have hHeld := hHeld20005; clear hHeld20005 hK20005 K20005
          clear hca
          refine wpAnyH_ready (rs := [5]) (by kernel_rfl) (by simp) ?_
          refine AllReadyH.cons rfl (fun K20006 hK20006 => ?_) AllReadyH.nil
          go_simp
          refine hK20006.out _ _ ?hs20006 (fun hHeld20006 => ?_)
          case hs20006 => exact hHeld.below (below_new _ _)
          clear hHeld
          have hHeld := hHeld20006; clear hHeld20006 hK20006 K20006
          refine wpAnyH_ready (rs := [6]) (by kernel_rfl) (by simp) ?_
          refine AllReadyH.cons rfl (fun K20007 hK20007 => ?_) AllReadyH.nil
          refine step_append_lies _ rfl _ _ 24 rfl W.heap.size 40 iw _ 3 40 Try.underlying24 hiw hw0 hw1 hw2 rfl (by decide) vk k (wcells ws) rfl (unhide HOd) ⟨Wd.heap.size, 0, none⟩ 1 1 [.string ⟨#[]⟩, .string ⟨#[]⟩, .bool false] rfl rfl (unhide HNEW) (by simp [Value.oneCell']) (by decide) (by unfold maxLen; omega) (by omega) (by simp; omega) _ rfl ?_
          intro gw cp W4 hown4 hgrow4 hat4 hlt4
          change K20007 (Act.put _ (some 36) _) _
          simp only [Act.put, List.setIfInBounds_toArray, List.set_cons_zero, List.set_cons_succ]
          refine hK20007.out _ _ ?hs20007 (fun hHeld20007 => ?_)
          case hs20007 => exact (hgrow4.block _ hHeld.lt (unhide HVN)).trans hHeld
          clear hHeld
          have hHeld := hHeld20007; clear hHeld20007 hK20007 K20007
          refine wpAnyH_take (i := 7) (oi := ?oi20008) (v := ?v20008) ?hi20008 (by kernel_rfl) (by kernel_rfl) (by kernel_rfl) (fun _ _ _ h => h) (Or.inl ⟨?hw20008, ?hy20008⟩) (by assumption) ?rest20008
          case hi20008 => (simp only [List.getElem?_toArray, List.getElem?_cons_zero, List.getElem?_cons_succ]; rfl)
          case hw20008 => rfl
          case hy20008 => first | (intro wx hSw; go_simp; done) | (intro wx hSw; go_simp; with_reducible rfl)
          simp only [Act.put, List.setIfInBounds_toArray, List.set_cons_zero, List.set_cons_succ]
          have hbk4 : Blk b cur T W4 := (hgrow4.block _ (unhide HBA).lt (unhide HVB)).trans (unhide HBA)
          have hc4 : W4.cell? ⟨b, o, none⟩ = some vk := (World.cell?_of_block (a := ⟨b, o, none⟩) (hgrow4.block _ (unhide HBA).lt (unhide HVB))).trans (unhide HCA)
          have hfz4 := hbk4.froz o
          refine wpAnyH_ready (rs := [8]) (by kernel_rfl) (by simp) ?_
          refine AllReadyH.cons rfl (fun K20009 hK20009 => ?_) AllReadyH.nil
          go_simp
          refine hK20009.out _ _ ?hs20009 (fun hHeld20009 => ?_)
          case hs20009 => exact (Below.heap_setCell _ _ _ _ hnb).trans hHeld
          clear hHeld
          have hHeld := hHeld20009; clear hHeld20009 hK20009 K20009
          refine wpAnyH_done (by kernel_rfl) ?_ _
          refine NoPanic.normal ?_
          skip
          exact unhide REST _ gw cp W4 (by rfl) hown4 ((unhide HUA).row hgrow4 (fun j e => ((unhide HOd).lt j e).1) hblt) hbk4 hc4
        refine AllReadyH.cons rfl (fun K20010 hK20010 => ?_) AllReadyH.nil
        go_simp
        refine hK20010.out _ _ ?hs20010 (fun hHeld20010 => ?_)
        case hs20010 => exact hHeld.below (below_new _ _)
        clear hHeld
        have hHeld := hHeld20010; clear hHeld20010 hK20010 K20010
        have hca := unhide HCA
        refine wpAnyH_ready (rs := [3]) (by kernel_rfl) (by simp) ?_
        refine AllReadyH.cons rfl (fun K20011 hK20011 => ?_) AllReadyH.nil
        go_simp
        refine hK20011.out _ _ ?hs20011 (fun hHeld20011 => ?_)
        case hs20011 => exact hHeld
        clear hHeld
        have hHeld := hHeld20011; clear hHeld20011 hK20011 K20011
        clear hca
        refine wpAnyH_ready (rs := [6]) (by kernel_rfl) (by simp) ?_
        refine AllReadyH.cons rfl (fun K20012 hK20012 => ?_) AllReadyH.nil
        refine step_append_lies _ rfl _ _ 24 rfl W.heap.size 40 iw _ 3 40 Try.underlying24 hiw hw0 hw1 hw2 rfl (by decide) vk k (wcells ws) rfl (unhide HOd) ⟨Wd.heap.size, 0, none⟩ 1 1 [.string ⟨#[]⟩, .string ⟨#[]⟩, .bool false] rfl rfl (unhide HNEW) (by simp [Value.oneCell']) (by decide) (by unfold maxLen; omega) (by omega) (by simp; omega) _ rfl ?_
        intro gw cp W4 hown4 hgrow4 hat4 hlt4
        change K20012 (Act.put _ (some 36) _) _
        simp only [Act.put, List.setIfInBounds_toArray, List.set_cons_zero, List.set_cons_succ]
        refine hK20012.out _ _ ?hs20012 (fun hHeld20012 => ?_)
        case hs20012 => exact (hgrow4.block _ hHeld.lt (unhide HVN)).trans hHeld
        clear hHeld
        have hHeld := hHeld20012; clear hHeld20012 hK20012 K20012
        refine wpAnyH_take (i := 7) (oi := ?oi20013) (v := ?v20013) ?hi20013 (by kernel_rfl) (by kernel_rfl) (by kernel_rfl) (fun _ _ _ h => h) (Or.inl ⟨?hw20013, ?hy20013⟩) (by assumption) ?rest20013
        case hi20013 => (simp only [List.getElem?_toArray, List.getElem?_cons_zero, List.getElem?_cons_succ]; rfl)
        case hw20013 => rfl
        case hy20013 => first | (intro wx hSw; go_simp; done) | (intro wx hSw; go_simp; with_reducible rfl)
        simp only [Act.put, List.setIfInBounds_toArray, List.set_cons_zero, List.set_cons_succ]
        have hbk4 : Blk b cur T W4 := (hgrow4.block _ (unhide HBA).lt (unhide HVB)).trans (unhide HBA)
        have hc4 : W4.cell? ⟨b, o, none⟩ = some vk := (World.cell?_of_block (a := ⟨b, o, none⟩) (hgrow4.block _ (unhide HBA).lt (unhide HVB))).trans (unhide HCA)
        have hfz4 := hbk4.froz o
        refine wpAnyH_ready (rs := [8]) (by kernel_rfl) (by simp) ?_
        refine AllReadyH.cons rfl (fun K20014 hK20014 => ?_) AllReadyH.nil
        go_simp
        refine hK20014.out _ _ ?hs20014 (fun hHeld20014 => ?_)
        case hs20014 => exact (Below.heap_setCell _ _ _ _ hnb).trans hHeld
        clear hHeld
        have hHeld := hHeld20014; clear hHeld20014 hK20014 K20014
        refine wpAnyH_done (by kernel_rfl) ?_ _
        refine NoPanic.normal ?_
        skip
        exact unhide REST _ gw cp W4 (by rfl) hown4 ((unhide HUA).row hgrow4 (fun j e => ((unhide HOd).lt j e).1) hblt) hbk4 hc4
      · obtain rfl : k = m := by omega
        go_wp2
        go_ret2
        refine TPost.done (x := ws) ⟨by omega, unhide HQI⟩ ⟨hU.mem ⟨_, _, hbkW⟩, vk, unhide HC, ?_, fun h => hvn (by omega)⟩ hsk (fun xt r0 h => ?_) hU
        · rw [hwl]
          exact ownsRow_lower (unhide HO) (by omega)
        · obtain ⟨e1, e2, e3⟩ := unhide HS xt r0 h
          rw [e2, List.take_length] at e1
          rw [e2, List.drop_length] at e3
          exact ⟨e1, by simpa using e3⟩
end Go.Proofs.Ytjmmfgmmmdbenaa
