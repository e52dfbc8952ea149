/-
  Package cmd: texts, taken.
-/
import Derived.Test.YtjmmfgmmmdbenaaC9
import Derived.Test.YtjmmfgmmmdbenaaCU
namespace Go.Proofs.Ytjmmfgmmmdbenaa
open Go.RowKit
set_option linter.unusedSimpArgs false
set_option linter.unusedVariables false

theorem below_of_grown {n b : Nat} {W W' : World} (h : W.grownBy W' (some b)) (hb : n ≤ b) (hn : n ≤ W.heap.size) : Below n W W' :=
  ⟨h.os, h.tape, h.output, h.size, fun k hk => h.block k (by omega) (by intro e; injection e with e; omega)⟩
theorem set_cell {b o : Nat} {cur : Array Value} {T : TypeId} {W : World} {c v : Value} (hb : Blk b cur T W) (hc : W.cell? ⟨b, o, none⟩ = some c) : (W.setCell ⟨b, o, none⟩ v).cell? ⟨b, o, none⟩ = some v := by
  rw [(hb.set o v).cell]
  rw [hb.cell] at hc
  have := (Array.getElem?_eq_some_iff.1 hc).1
  simp [this]

set_option maxRecDepth 100000 in
set_option maxHeartbeats 2000000 in
theorem textTakes (fs ft : Value) (bs : Nat) (w0 : World) (Qn Dn : Int → Prop) (fn : Int → List UInt8) (hQn : ∀ y, Qn y → 0 ≤ y ∧ y ≤ 9223372036854775807) (hsz : Takes ft w0 tI (fun x => x = 0) Qn Dn fn (fun _ _ => True) (fun y yt => y = yt)) (hbox : Blk bs #[fs, ft] 77 w0) :
    Takes (.func (.func 72) #[] #[ptr bs 0]) w0 tS (fun x => x = ⟨#[]⟩) (fun y => y.size ≤ 4000) (fun x => Dn x.size ∧ x.size ≤ 4000) (fun x => fn x.size ++ by8 x) (fun _ _ => True) (fun y yt => y = yt) := by
  obtain ⟨K, caps, rfl, hE, hc⟩ := hsz
  refine ⟨_, _, rfl, (fun _ _ => by kernel_rfl), fun s W b o base x q hB h1 h2 h3 hRx hx hsl hq => ?_⟩
  simp only [List.append_toArray, List.cons_append, List.nil_append]
  subst hx
  obtain ⟨⟨cur, T, hbk⟩, hcell⟩ := hRx
  have HQ := hide hq
  clear hq
  have hbl := hbox.lt
  have hbx := (hbox.below hB).cell 1
  simp at hbx
  have hb1 := below_new W (.cells #[.int .i64 0] 3)
  have hnb := Blk.new W #[.int .i64 0] 3
  have hnl : bs < W.heap.size := Nat.lt_of_lt_of_le hbl hB.size
  have hblt : b < W.heap.size := hbk.lt
  have CC := hide (hc s (W.alloc (.cells #[.int .i64 0] 3)) W.heap.size 0 (W.heap.size + 1) 0 (q.map fun p => ((p.1.size : Int), by8 p.1 ++ p.2)) (Below.onto hB hb1) hB.size (by omega) (by simp) ⟨⟨_, _, hnb⟩, hnb.cell 0⟩ rfl hsl (by
    intro yt r hy
    rcases hqq : q with _ | ⟨xt, r1⟩
    · rw [hqq] at hy; cases hy
    · rw [hqq] at hy
      simp at hy
      obtain ⟨rfl, rfl⟩ := hy
      obtain ⟨g1, g2, g3⟩ := unhide HQ xt r1 hqq
      exact ⟨g1.1, trivial, by rw [g3, List.append_assoc]⟩))
  have HBK1 := hide (hbk.below hb1)
  have HB1 := hide hb1
  have HC1 := hide ((World.cell?_of_block (a := ⟨b, o, none⟩) (hb1.block _ hblt)).trans hcell)
  clear hc hb1 hbk hcell hB
  go_enter Try.func72, Try.ntmps72
  go_wp2_with (first | (go_at_call 73; refine (clone_any _ _ (by rw [ByteArray.size_extract]; omega)).mono ?_; rintro e W3 ⟨rfl, hb3⟩; have hc3 := hcell2.below hb3; have hf3 := hc3.froz o; have hx3 : W3.cell? ⟨b, o, none⟩ = some (.string ⟨#[]⟩) := (World.cell?_of_block (a := ⟨b, o, none⟩) (hb3.block _ hcell2.lt)).trans hx2; have hn3 : W3.cell? ⟨W.heap.size, 0, none⟩ = some (.int .i64 (m : Int)) := (World.cell?_of_block (a := ⟨W.heap.size, 0, none⟩) (hb3.block _ hwl2)).trans hn2) | (refine (unhide CC).mono ?_; rintro e W2 ⟨ok, y, r, rfl, hgr, hno, hyes⟩; have HNO := hide hno; have HGR := hide hgr; rcases ok with _ | _; all_goals first | (obtain ⟨g1, ⟨_, hn2⟩, g3, g4, g5⟩ := hyes rfl; have hy := hQn _ g1; obtain ⟨m, rfl⟩ : ∃ m : Nat, y = (m : Int) := ⟨y.toNat, by omega⟩; have HG4 := hide g4; have hcell2 : Blk b cur T W2 := (hgr.block b (Nat.lt_of_lt_of_le hblt (below_new W _).size) (by intro e; injection e with e; omega)).trans (unhide HBK1); have hx2 : W2.cell? ⟨b, o, none⟩ = some (.string ⟨#[]⟩) := (World.cell?_of_block (a := ⟨b, o, none⟩) (hgr.block b (Nat.lt_of_lt_of_le hblt (below_new W _).size) (by intro e; injection e with e; omega))).trans (unhide HC1); have hwl2 : W.heap.size < W2.heap.size := Nat.lt_of_lt_of_le (by simp) hgr.size; have hrs : r.size ≤ 1099511627776 := Nat.le_trans g3 hsl; have hmw := IntWalk.i64_in (m : Int) (by omega); clear g5 g4 hno hyes HNO) | (clear hyes)))
  · go_ret2
    have hgo : W.grownBy W2 (some b) := grownBy_below _ ((unhide HB1).trans (below_of_grown (unhide HGR) (Nat.le_refl _) (by simp)))
    obtain ⟨hq0, _⟩ := unhide HNO (by first | rfl | trivial)
    refine TPost.fail ⟨#[]⟩ hgo ?_
    cases hqq : q with
    | none => rfl
    | some p => rw [hqq] at hq0; simp at hq0
  · go_ret2
    rename_i hmin
    have hgo : W.grownBy W2 (some b) := grownBy_below _ ((unhide HB1).trans (below_of_grown (unhide HGR) (Nat.le_refl _) (by simp)))
    refine TPost.fail ⟨#[]⟩ hgo ?_
    cases hqq : q with
    | none => rfl
    | some p =>
      obtain ⟨e1, e2⟩ := unhide HG4 (p.1.size : Int) (by8 p.1 ++ p.2) (by rw [hqq]; rfl)
      have hl := congrArg List.length e2
      rw [by8_len, List.length_append, by8_len] at hl
      have := (unhide HQ p.1 p.2 hqq).1.2
      omega
  · go_ret2
    rename_i hmin
    have hBW3 : Below W.heap.size W W3 := ((unhide HB1).trans (below_of_grown (unhide HGR) (Nat.le_refl _) (by simp))).trans (hb3.mono (by omega))
    refine TPost.done (x := r.extract 0 m) ?_ ⟨⟨_, _, hc3.set o _⟩, set_cell hc3 hx3⟩ ?_ (fun xt r0 h => ?_) ((Upd.below hblt hBW3).trans (Upd.set _))
    · show (r.extract 0 m).size ≤ 4000
      rw [ByteArray.size_extract]; omega
    · show (r.extract m r.size).size ≤ s.size
      rw [ByteArray.size_extract]; omega
    · obtain ⟨e1, e2⟩ := unhide HG4 (xt.size : Int) (by8 xt ++ r0) (by rw [h]; rfl)
      have e3 : m = (by8 xt).length := by rw [by8_len]; omega
      refine ⟨by8_inj ?_, ?_⟩
      · rw [by8_take, e2, e3]; exact List.take_left' rfl
      · show by8 (r.extract m r.size) = r0
        rw [by8_drop, e2, e3]; exact List.drop_left' rfl
end Go.Proofs.Ytjmmfgmmmdbenaa
