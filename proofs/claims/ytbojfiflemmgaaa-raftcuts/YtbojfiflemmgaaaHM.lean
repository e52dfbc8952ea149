/-
  Package raft's handle of an MAppend, of whatever term; raft.Handle of it.
-/
import Derived.Test.YtbojfiflemmgaaaHL
import Derived.Test.YtbojfiflemmgaaaHG
namespace Go.Proofs.Ytbojfiflemmgaaa
open Go.RowKit
set_option linter.unusedSimpArgs false
set_option linter.unusedVariables false

set_option maxRecDepth 100000 in
set_option maxHeartbeats 4000000 in
theorem handle3n_any (b : Nat) (q : Q5) (sv : Value) (n : Nd) (S : List (Ms × Value)) (fr to tm ix lt : Nat) (ok : Bool) (ents : List En) (cm fm : Nat) (p : Option Addr) (c : Nat) (W : World) (h : St b q sv n S W) (f : Fit n) (htm : tm ≤ 1099511627776) (ht : ¬ n.term < tm) (hm : fr < n.votes.length) (hlg : n.log.length < 500000) (hS : S.length ≤ 90000) (hsee : Sees 2 (.slice p ents.length c) ents.length (enC ents) W) (hfree : ∀ k, Value.ownBlock (.slice p ents.length c) = some k → ¬ Foot b q sv k) (he : ents.length ≤ 400000) (hd : Small ents) (hcm : cm ≤ 1099511627776) (hix : ix ≤ 1099511627776) :
    Calls Try.prog 31 #[ptr b 0, .agg (msA (⟨3, fr, to, tm, ix, lt, ok, ents, cm, fm⟩ : Ms) (.slice p ents.length c))] W fun e W' => (∃ v, e = .returned v) ∧ Done b (handleM n (⟨3, fr, to, tm, ix, lt, ok, ents, cm, fm⟩ : Ms)).1 S (handleM n (⟨3, fr, to, tm, ix, lt, ok, ents, cm, fm⟩ : Ms)).2 (Foot b q sv) W W' := by
  have c1 := h.c1
  have hl := h.blk.lt
  have hnb : W.heap.size ≠ b := by omega
  have HXB := hide ((below_new W (.cells #[nI 3, nI fr, nI to, nI tm, nI ix, nI lt, .bool ok, .slice p ents.length c, nI cm, nI fm] 37)).drew)
  have HXM : Hid (Blk W.heap.size #[nI 3, nI fr, nI to, nI tm, nI ix, nI lt, .bool ok, .slice p ents.length c, nI cm, nI fm] 37 (W.alloc (.cells #[nI 3, nI fr, nI to, nI tm, nI ix, nI lt, .bool ok, .slice p ents.length c, nI cm, nI fm] 37)).drew) := hide ((Blk.new W #[nI 3, nI fr, nI to, nI tm, nI ix, nI lt, .bool ok, .slice p ents.length c, nI cm, nI fm] 37).below (below_drew _))
  have HX := hide (h.call (unhide HXB))
  have hf := f.heard (m := (⟨3, fr, to, tm, ix, lt, ok, ents, cm, fm⟩ : Ms)) htm
  have e : handleM n (⟨3, fr, to, tm, ix, lt, ok, ents, cm, fm⟩ : Ms) = followM n (⟨3, fr, to, tm, ix, lt, ok, ents, cm, fm⟩ : Ms) := by
    unfold handleM
    rw [heard_no (m := (⟨3, fr, to, tm, ix, lt, ok, ents, cm, fm⟩ : Ms)) ht]
    rfl
  rw [e]
  rw [heard_no (m := (⟨3, fr, to, tm, ix, lt, ok, ents, cm, fm⟩ : Ms)) ht] at hf
  obtain ⟨n', hn'⟩ : ∃ n', (followM n (⟨3, fr, to, tm, ix, lt, ok, ents, cm, fm⟩ : Ms)).1 = n' := ⟨_, rfl⟩
  obtain ⟨ms, hms⟩ : ∃ ms, (followM n (⟨3, fr, to, tm, ix, lt, ok, ents, cm, fm⟩ : Ms)).2 = ms := ⟨_, rfl⟩
  have VA := hide (fun Y (h : St b q sv n S Y) (hK : Keep W Y (Foot b q sv) (Foot b q sv)) => follow_any b q sv _ S (⟨3, fr, to, tm, ix, lt, ok, ents, cm, fm⟩ : Ms) p c Y h hf (hK.sees hsee hfree) hfree he hd hcm hix hS )
  rw [hn', hms] at VA ⊢
  have ht1 : ¬ (n.term : Int) < (tm : Int) := by omega
  have ht2 : decide ((n.term : Int) < (tm : Int)) = false := decide_eq_false ht1
  clear h hf hn' hms e f hsee hfree hd
  go_enter Try.func31, Try.ntmps31
  go_wp2
  go_region_held3 (fun w' => w'.cell? ⟨W.heap.size, 3, none⟩ = some (.int .i64 (tm : Int)) ∧ w'.cell? ⟨b, 1, none⟩ = some (.int .i64 (n.term : Int))) (go_keep) (fail)
  generalize hX : (W.alloc (.cells #[nI 3, nI fr, nI to, nI tm, nI ix, nI lt, .bool ok, .slice p ents.length c, nI cm, nI fm] 37)).drew = X at HXB HXM HX ⊢
  clear hX c1
  obtain ⟨d0, d1, d2, d3, d4, d5, d6, d7, d8, d9⟩ : Box10 W.heap.size (⟨3, fr, to, tm, ix, lt, ok, ents, cm, fm⟩ : Ms) (.slice p ents.length c) X := (unhide HXM).box10 (m := (⟨3, fr, to, tm, ix, lt, ok, ents, cm, fm⟩ : Ms))
  have hml := (unhide HXM).lt
  go_wp2_with (go_at_call 55; refine (unhide VA _ (unhide HX) (Keep.call _ (unhide HXB))).mono ?_; rintro e W3 ⟨⟨v, rfl⟩, hs⟩)
  go_end0
  exact ⟨⟨_, rfl⟩, hs.pre (Keep.call _ (unhide HXB))⟩
set_option maxRecDepth 100000 in
set_option maxHeartbeats 4000000 in
theorem handle3h_any (b : Nat) (q : Q5) (sv : Value) (n : Nd) (S : List (Ms × Value)) (fr to tm ix lt : Nat) (ok : Bool) (ents : List En) (cm fm : Nat) (p : Option Addr) (c : Nat) (W : World) (h : St b q sv n S W) (f : Fit n) (htm : tm ≤ 1099511627776) (ht : n.term < tm) (hm : fr < n.votes.length) (hlg : n.log.length < 500000) (hS : S.length ≤ 90000) (hsee : Sees 2 (.slice p ents.length c) ents.length (enC ents) W) (hfree : ∀ k, Value.ownBlock (.slice p ents.length c) = some k → ¬ Foot b q sv k) (he : ents.length ≤ 400000) (hd : Small ents) (hcm : cm ≤ 1099511627776) (hix : ix ≤ 1099511627776) :
    Calls Try.prog 31 #[ptr b 0, .agg (msA (⟨3, fr, to, tm, ix, lt, ok, ents, cm, fm⟩ : Ms) (.slice p ents.length c))] W fun e W' => (∃ v, e = .returned v) ∧ Done b (handleM n (⟨3, fr, to, tm, ix, lt, ok, ents, cm, fm⟩ : Ms)).1 S (handleM n (⟨3, fr, to, tm, ix, lt, ok, ents, cm, fm⟩ : Ms)).2 (Foot b q sv) W W' := by
  have c1 := h.c1
  have hl := h.blk.lt
  have hnb : W.heap.size ≠ b := by omega
  have HXB := hide ((below_new W (.cells #[nI 3, nI fr, nI to, nI tm, nI ix, nI lt, .bool ok, .slice p ents.length c, nI cm, nI fm] 37)).drew)
  have HXM : Hid (Blk W.heap.size #[nI 3, nI fr, nI to, nI tm, nI ix, nI lt, .bool ok, .slice p ents.length c, nI cm, nI fm] 37 (W.alloc (.cells #[nI 3, nI fr, nI to, nI tm, nI ix, nI lt, .bool ok, .slice p ents.length c, nI cm, nI fm] 37)).drew) := hide ((Blk.new W #[nI 3, nI fr, nI to, nI tm, nI ix, nI lt, .bool ok, .slice p ents.length c, nI cm, nI fm] 37).below (below_drew _))
  have HX := hide (h.call (unhide HXB))
  have hf := f.heard (m := (⟨3, fr, to, tm, ix, lt, ok, ents, cm, fm⟩ : Ms)) htm
  have e : handleM n (⟨3, fr, to, tm, ix, lt, ok, ents, cm, fm⟩ : Ms) = followM { n with term := tm, vote := -1, role := 0 } (⟨3, fr, to, tm, ix, lt, ok, ents, cm, fm⟩ : Ms) := by
    unfold handleM
    rw [heard_yes (m := (⟨3, fr, to, tm, ix, lt, ok, ents, cm, fm⟩ : Ms)) ht]
    rfl
  rw [e]
  rw [heard_yes (m := (⟨3, fr, to, tm, ix, lt, ok, ents, cm, fm⟩ : Ms)) ht] at hf
  obtain ⟨n', hn'⟩ : ∃ n', (followM { n with term := tm, vote := -1, role := 0 } (⟨3, fr, to, tm, ix, lt, ok, ents, cm, fm⟩ : Ms)).1 = n' := ⟨_, rfl⟩
  obtain ⟨ms, hms⟩ : ∃ ms, (followM { n with term := tm, vote := -1, role := 0 } (⟨3, fr, to, tm, ix, lt, ok, ents, cm, fm⟩ : Ms)).2 = ms := ⟨_, rfl⟩
  have VA := hide (fun Y (h : St b q sv { n with term := tm, vote := -1, role := 0 } S Y) (hK : Keep W Y (Foot b q sv) (Foot b q sv)) => follow_any b q sv _ S (⟨3, fr, to, tm, ix, lt, ok, ents, cm, fm⟩ : Ms) p c Y h hf (hK.sees hsee hfree) hfree he hd hcm hix hS )
  rw [hn', hms] at VA ⊢
  have ht1 : (n.term : Int) < (tm : Int) := by omega
  have ht2 : decide ((n.term : Int) < (tm : Int)) = true := decide_eq_true ht1
  clear h hf hn' hms e f hsee hfree hd
  go_enter Try.func31, Try.ntmps31
  go_wp2
  go_region_held3 (fun w' => w'.cell? ⟨W.heap.size, 3, none⟩ = some (.int .i64 (tm : Int)) ∧ w'.cell? ⟨b, 1, none⟩ = some (.int .i64 (n.term : Int))) (go_keep) (fail)
  generalize hX : (W.alloc (.cells #[nI 3, nI fr, nI to, nI tm, nI ix, nI lt, .bool ok, .slice p ents.length c, nI cm, nI fm] 37)).drew = X at HXB HXM HX ⊢
  clear hX c1
  obtain ⟨d0, d1, d2, d3, d4, d5, d6, d7, d8, d9⟩ : Box10 W.heap.size (⟨3, fr, to, tm, ix, lt, ok, ents, cm, fm⟩ : Ms) (.slice p ents.length c) X := (unhide HXM).box10 (m := (⟨3, fr, to, tm, ix, lt, ok, ents, cm, fm⟩ : Ms))
  have hml := (unhide HXM).lt
  have y1 := (unhide HX).c1
  have y2 := (unhide HX).c2
  have y5 := (unhide HX).c5
  have yz := (unhide HX).fz
  have yl := (unhide HX).blk.lt
  have HY := hide ((unhide HX).heard tm)
  have KY := hide (Keep.heard (W := X) (St.fb b q sv) (.int .i64 (tm : Int)) (.int .i64 (-1)) (.int .i64 0))
  go_wp2_with (go_at_call 55; refine (unhide VA _ (unhide HY) ((Keep.call _ (unhide HXB)).trans (unhide KY))).mono ?_; rintro e W3 ⟨⟨v, rfl⟩, hs⟩)
  go_end0
  exact ⟨⟨_, rfl⟩, hs.pre ((Keep.call _ (unhide HXB)).trans (unhide KY))⟩
/-- raft.Handle of an MAppend that can come, of whatever term -/
theorem handle3_any (q0 : Q5) (n : Nd) (m : Ms) (p : Option Addr) (c : Nat) (W : World) (h : SeesN q0 n W) (f : Fit n) (hm : May n m) (hk : m.kind = 3) (ht : m.term ≤ 1099511627776) (hlg : n.log.length < 500000) (hsee : Sees 2 (.slice p m.ents.length c) m.ents.length (enC m.ents) W) (he : m.ents.length ≤ 400000) (hd : Small m.ents) (hcm : m.commit ≤ 1099511627776) (hix : m.index ≤ 1099511627776) :
    Calls Try.prog 16 #[.agg (ndA n q0), .agg (msA m (.slice p m.ents.length c))] W fun e W' => ∃ q sv es, e = .returned (.tuple #[.agg (ndA (handleM n m).1 q), sv]) ∧ Out (handleM n m).1 (handleM n m).2 q sv es W W' := by
  refine handleC_any q0 n m p c W _ _ h f (fun b q W1 h1 => takes_any b q _ n [] m p c W1 h1 hm (by rw [hk]; omega)) (fun b q W1 h1 hb hF => ?_)
  have hfr := hm.frm
  have hs1 := hsee.below hb
  have hf1 : ∀ k, Value.ownBlock (.slice p m.ents.length c) = some k → ¬ Foot b q (.slice none 0 0) k := fun k hk hf => by
    have := hsee.lt hk
    have := hF k hf
    omega
  obtain ⟨kd, fr, to, tm, ix, lt, ok, ents, cm, fm⟩ := m
  simp only at hk ht hfr hs1 hf1 he hd hcm hix
  subst hk
  by_cases hh : n.term < tm
  · exact handle3h_any b q _ n [] fr to tm ix lt ok ents cm fm p c W1 h1 f ht hh hfr hlg (by simp) hs1 hf1 he hd hcm hix
  · exact handle3n_any b q _ n [] fr to tm ix lt ok ents cm fm p c W1 h1 f ht hh hfr hlg (by simp) hs1 hf1 he hd hcm hix
end Go.Proofs.Ytbojfiflemmgaaa
