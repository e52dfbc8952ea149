/-
  Package raft's handle of an MVote, an MVoted, of whatever term.
-/
import Derived.Test.YtbojfiflemmgaaaHD
namespace Go.Proofs.Ytbojfiflemmgaaa
open Go.RowKit
set_option linter.unusedSimpArgs false
set_option linter.unusedVariables false

theorem Fit.heard {n : Nd} {m : Ms} (f : Fit n) (h : m.term ≤ 1099511627776) : Fit (heardM n m) := by
  unfold heardM
  split
  · exact ⟨f.id, f.size, f.next, f.mat, f.forms, f.log, f.small, f.terms, h, f.commit, f.clock, f.due⟩
  · exact f
theorem heard_no {n : Nd} {m : Ms} (h : ¬ n.term < m.term) : heardM n m = n := if_neg h
theorem heard_yes {n : Nd} {m : Ms} (h : n.term < m.term) : heardM n m = { n with term := m.term, vote := -1, role := 0 } := if_pos h
theorem St.heard {b : Nat} {q : Q5} {sv : Value} {n : Nd} {S : List (Ms × Value)} {W : World} (h : St b q sv n S W) (t : Nat) : St b q sv { n with term := t, vote := -1, role := 0 } S (((W.setCell ⟨b, 1, none⟩ (.int .i64 (t : Int))).setCell ⟨b, 2, none⟩ (.int .i64 (-1))).setCell ⟨b, 5, none⟩ (.int .i64 0)) :=
  ((h.put { n with term := t } 1 (.int .i64 (t : Int)) rfl rfl rfl rfl rfl rfl).put { n with term := t, vote := -1 } 2 (.int .i64 (-1)) rfl rfl rfl rfl rfl rfl).put { n with term := t, vote := -1, role := 0 } 5 (.int .i64 0) rfl rfl rfl rfl rfl rfl
theorem Keep.heard {W : World} {F : Nat → Prop} {b : Nat} (hb : F b) (x y z : Value) : Keep W (((W.setCell ⟨b, 1, none⟩ x).setCell ⟨b, 2, none⟩ y).setCell ⟨b, 5, none⟩ z) F F :=
  ((Keep.set (W := W) (j := 1) (v := x) hb).trans (Keep.set (j := 2) (v := y) hb)).trans (Keep.set (j := 5) (v := z) hb)
set_option maxRecDepth 100000 in
set_option maxHeartbeats 4000000 in
theorem handle1n_any (b : Nat) (q : Q5) (sv : Value) (n : Nd) (S : List (Ms × Value)) (fr to tm ix lt : Nat) (ok : Bool) (ents : List En) (cm fm : Nat) (p : Option Addr) (c : Nat) (W : World) (h : St b q sv n S W) (f : Fit n) (htm : tm ≤ 1099511627776) (ht : ¬ n.term < tm) (hm : fr < n.votes.length) (hlg : n.log.length < 500000) (hS : S.length ≤ 90000) :
    Calls Try.prog 31 #[ptr b 0, .agg (msA (⟨1, fr, to, tm, ix, lt, ok, ents, cm, fm⟩ : Ms) (.slice p ents.length c))] W fun e W' => (∃ v, e = .returned v) ∧ Done b (handleM n (⟨1, fr, to, tm, ix, lt, ok, ents, cm, fm⟩ : Ms)).1 S (handleM n (⟨1, fr, to, tm, ix, lt, ok, ents, cm, fm⟩ : Ms)).2 (Foot b q sv) W W' := by
  have c1 := h.c1
  have hl := h.blk.lt
  have hnb : W.heap.size ≠ b := by omega
  have HXB := hide ((below_new W (.cells #[nI 1, nI fr, nI to, nI tm, nI ix, nI lt, .bool ok, .slice p ents.length c, nI cm, nI fm] 37)).drew)
  have HXM : Hid (Blk W.heap.size #[nI 1, nI fr, nI to, nI tm, nI ix, nI lt, .bool ok, .slice p ents.length c, nI cm, nI fm] 37 (W.alloc (.cells #[nI 1, nI fr, nI to, nI tm, nI ix, nI lt, .bool ok, .slice p ents.length c, nI cm, nI fm] 37)).drew) := hide ((Blk.new W #[nI 1, nI fr, nI to, nI tm, nI ix, nI lt, .bool ok, .slice p ents.length c, nI cm, nI fm] 37).below (below_drew _))
  have HX := hide (h.call (unhide HXB))
  have hf := f.heard (m := (⟨1, fr, to, tm, ix, lt, ok, ents, cm, fm⟩ : Ms)) htm
  have e : handleM n (⟨1, fr, to, tm, ix, lt, ok, ents, cm, fm⟩ : Ms) = voteM n (⟨1, fr, to, tm, ix, lt, ok, ents, cm, fm⟩ : Ms) := by
    unfold handleM
    rw [heard_no (m := (⟨1, fr, to, tm, ix, lt, ok, ents, cm, fm⟩ : Ms)) ht]
    rfl
  rw [e]
  rw [heard_no (m := (⟨1, fr, to, tm, ix, lt, ok, ents, cm, fm⟩ : Ms)) ht] at hf
  obtain ⟨n', hn'⟩ : ∃ n', (voteM n (⟨1, fr, to, tm, ix, lt, ok, ents, cm, fm⟩ : Ms)).1 = n' := ⟨_, rfl⟩
  obtain ⟨ms, hms⟩ : ∃ ms, (voteM n (⟨1, fr, to, tm, ix, lt, ok, ents, cm, fm⟩ : Ms)).2 = ms := ⟨_, rfl⟩
  have VA := hide (fun Y (h : St b q sv n S Y) => vote_any b q sv _ S (⟨1, fr, to, tm, ix, lt, ok, ents, cm, fm⟩ : Ms) p c Y h hf hS )
  rw [hn', hms] at VA ⊢
  have ht1 : ¬ (n.term : Int) < (tm : Int) := by omega
  have ht2 : decide ((n.term : Int) < (tm : Int)) = false := decide_eq_false ht1
  clear h hf hn' hms e f
  go_enter Try.func31, Try.ntmps31
  go_wp2
  go_region_held3 (fun w' => w'.cell? ⟨W.heap.size, 3, none⟩ = some (.int .i64 (tm : Int)) ∧ w'.cell? ⟨b, 1, none⟩ = some (.int .i64 (n.term : Int))) (go_keep) (fail)
  generalize hX : (W.alloc (.cells #[nI 1, nI fr, nI to, nI tm, nI ix, nI lt, .bool ok, .slice p ents.length c, nI cm, nI fm] 37)).drew = X at HXB HXM HX ⊢
  clear hX c1
  obtain ⟨d0, d1, d2, d3, d4, d5, d6, d7, d8, d9⟩ : Box10 W.heap.size (⟨1, fr, to, tm, ix, lt, ok, ents, cm, fm⟩ : Ms) (.slice p ents.length c) X := (unhide HXM).box10 (m := (⟨1, fr, to, tm, ix, lt, ok, ents, cm, fm⟩ : Ms))
  have hml := (unhide HXM).lt
  go_wp2_with (go_at_call 53; refine (unhide VA _ (unhide HX)).mono ?_; rintro e W3 ⟨⟨v, rfl⟩, hs⟩)
  go_end0
  exact ⟨⟨_, rfl⟩, hs.pre (Keep.call _ (unhide HXB))⟩
set_option maxRecDepth 100000 in
set_option maxHeartbeats 4000000 in
theorem handle1h_any (b : Nat) (q : Q5) (sv : Value) (n : Nd) (S : List (Ms × Value)) (fr to tm ix lt : Nat) (ok : Bool) (ents : List En) (cm fm : Nat) (p : Option Addr) (c : Nat) (W : World) (h : St b q sv n S W) (f : Fit n) (htm : tm ≤ 1099511627776) (ht : n.term < tm) (hm : fr < n.votes.length) (hlg : n.log.length < 500000) (hS : S.length ≤ 90000) :
    Calls Try.prog 31 #[ptr b 0, .agg (msA (⟨1, fr, to, tm, ix, lt, ok, ents, cm, fm⟩ : Ms) (.slice p ents.length c))] W fun e W' => (∃ v, e = .returned v) ∧ Done b (handleM n (⟨1, fr, to, tm, ix, lt, ok, ents, cm, fm⟩ : Ms)).1 S (handleM n (⟨1, fr, to, tm, ix, lt, ok, ents, cm, fm⟩ : Ms)).2 (Foot b q sv) W W' := by
  have c1 := h.c1
  have hl := h.blk.lt
  have hnb : W.heap.size ≠ b := by omega
  have HXB := hide ((below_new W (.cells #[nI 1, nI fr, nI to, nI tm, nI ix, nI lt, .bool ok, .slice p ents.length c, nI cm, nI fm] 37)).drew)
  have HXM : Hid (Blk W.heap.size #[nI 1, nI fr, nI to, nI tm, nI ix, nI lt, .bool ok, .slice p ents.length c, nI cm, nI fm] 37 (W.alloc (.cells #[nI 1, nI fr, nI to, nI tm, nI ix, nI lt, .bool ok, .slice p ents.length c, nI cm, nI fm] 37)).drew) := hide ((Blk.new W #[nI 1, nI fr, nI to, nI tm, nI ix, nI lt, .bool ok, .slice p ents.length c, nI cm, nI fm] 37).below (below_drew _))
  have HX := hide (h.call (unhide HXB))
  have hf := f.heard (m := (⟨1, fr, to, tm, ix, lt, ok, ents, cm, fm⟩ : Ms)) htm
  have e : handleM n (⟨1, fr, to, tm, ix, lt, ok, ents, cm, fm⟩ : Ms) = voteM { n with term := tm, vote := -1, role := 0 } (⟨1, fr, to, tm, ix, lt, ok, ents, cm, fm⟩ : Ms) := by
    unfold handleM
    rw [heard_yes (m := (⟨1, fr, to, tm, ix, lt, ok, ents, cm, fm⟩ : Ms)) ht]
    rfl
  rw [e]
  rw [heard_yes (m := (⟨1, fr, to, tm, ix, lt, ok, ents, cm, fm⟩ : Ms)) ht] at hf
  obtain ⟨n', hn'⟩ : ∃ n', (voteM { n with term := tm, vote := -1, role := 0 } (⟨1, fr, to, tm, ix, lt, ok, ents, cm, fm⟩ : Ms)).1 = n' := ⟨_, rfl⟩
  obtain ⟨ms, hms⟩ : ∃ ms, (voteM { n with term := tm, vote := -1, role := 0 } (⟨1, fr, to, tm, ix, lt, ok, ents, cm, fm⟩ : Ms)).2 = ms := ⟨_, rfl⟩
  have VA := hide (fun Y (h : St b q sv { n with term := tm, vote := -1, role := 0 } S Y) => vote_any b q sv _ S (⟨1, fr, to, tm, ix, lt, ok, ents, cm, fm⟩ : Ms) p c Y h hf hS )
  rw [hn', hms] at VA ⊢
  have ht1 : (n.term : Int) < (tm : Int) := by omega
  have ht2 : decide ((n.term : Int) < (tm : Int)) = true := decide_eq_true ht1
  clear h hf hn' hms e f
  go_enter Try.func31, Try.ntmps31
  go_wp2
  go_region_held3 (fun w' => w'.cell? ⟨W.heap.size, 3, none⟩ = some (.int .i64 (tm : Int)) ∧ w'.cell? ⟨b, 1, none⟩ = some (.int .i64 (n.term : Int))) (go_keep) (fail)
  generalize hX : (W.alloc (.cells #[nI 1, nI fr, nI to, nI tm, nI ix, nI lt, .bool ok, .slice p ents.length c, nI cm, nI fm] 37)).drew = X at HXB HXM HX ⊢
  clear hX c1
  obtain ⟨d0, d1, d2, d3, d4, d5, d6, d7, d8, d9⟩ : Box10 W.heap.size (⟨1, fr, to, tm, ix, lt, ok, ents, cm, fm⟩ : Ms) (.slice p ents.length c) X := (unhide HXM).box10 (m := (⟨1, fr, to, tm, ix, lt, ok, ents, cm, fm⟩ : Ms))
  have hml := (unhide HXM).lt
  have y1 := (unhide HX).c1
  have y2 := (unhide HX).c2
  have y5 := (unhide HX).c5
  have yz := (unhide HX).fz
  have yl := (unhide HX).blk.lt
  have HY := hide ((unhide HX).heard tm)
  have KY := hide (Keep.heard (W := X) (St.fb b q sv) (.int .i64 (tm : Int)) (.int .i64 (-1)) (.int .i64 0))
  go_wp2_with (go_at_call 53; refine (unhide VA _ (unhide HY)).mono ?_; rintro e W3 ⟨⟨v, rfl⟩, hs⟩)
  go_end0
  exact ⟨⟨_, rfl⟩, hs.pre ((Keep.call _ (unhide HXB)).trans (unhide KY))⟩
set_option maxRecDepth 100000 in
set_option maxHeartbeats 4000000 in
theorem handle2n_any (b : Nat) (q : Q5) (sv : Value) (n : Nd) (S : List (Ms × Value)) (fr to tm ix lt : Nat) (ok : Bool) (ents : List En) (cm fm : Nat) (p : Option Addr) (c : Nat) (W : World) (h : St b q sv n S W) (f : Fit n) (htm : tm ≤ 1099511627776) (ht : ¬ n.term < tm) (hm : fr < n.votes.length) (hlg : n.log.length < 500000) (hS : S.length ≤ 90000) :
    Calls Try.prog 31 #[ptr b 0, .agg (msA (⟨2, fr, to, tm, ix, lt, ok, ents, cm, fm⟩ : Ms) (.slice p ents.length c))] W fun e W' => (∃ v, e = .returned v) ∧ Done b (handleM n (⟨2, fr, to, tm, ix, lt, ok, ents, cm, fm⟩ : Ms)).1 S (handleM n (⟨2, fr, to, tm, ix, lt, ok, ents, cm, fm⟩ : Ms)).2 (Foot b q sv) W W' := by
  have c1 := h.c1
  have hl := h.blk.lt
  have hnb : W.heap.size ≠ b := by omega
  have HXB := hide ((below_new W (.cells #[nI 2, nI fr, nI to, nI tm, nI ix, nI lt, .bool ok, .slice p ents.length c, nI cm, nI fm] 37)).drew)
  have HXM : Hid (Blk W.heap.size #[nI 2, nI fr, nI to, nI tm, nI ix, nI lt, .bool ok, .slice p ents.length c, nI cm, nI fm] 37 (W.alloc (.cells #[nI 2, nI fr, nI to, nI tm, nI ix, nI lt, .bool ok, .slice p ents.length c, nI cm, nI fm] 37)).drew) := hide ((Blk.new W #[nI 2, nI fr, nI to, nI tm, nI ix, nI lt, .bool ok, .slice p ents.length c, nI cm, nI fm] 37).below (below_drew _))
  have HX := hide (h.call (unhide HXB))
  have hf := f.heard (m := (⟨2, fr, to, tm, ix, lt, ok, ents, cm, fm⟩ : Ms)) htm
  have e : handleM n (⟨2, fr, to, tm, ix, lt, ok, ents, cm, fm⟩ : Ms) = votedM n (⟨2, fr, to, tm, ix, lt, ok, ents, cm, fm⟩ : Ms) := by
    unfold handleM
    rw [heard_no (m := (⟨2, fr, to, tm, ix, lt, ok, ents, cm, fm⟩ : Ms)) ht]
    rfl
  rw [e]
  rw [heard_no (m := (⟨2, fr, to, tm, ix, lt, ok, ents, cm, fm⟩ : Ms)) ht] at hf
  obtain ⟨n', hn'⟩ : ∃ n', (votedM n (⟨2, fr, to, tm, ix, lt, ok, ents, cm, fm⟩ : Ms)).1 = n' := ⟨_, rfl⟩
  obtain ⟨ms, hms⟩ : ∃ ms, (votedM n (⟨2, fr, to, tm, ix, lt, ok, ents, cm, fm⟩ : Ms)).2 = ms := ⟨_, rfl⟩
  have VA := hide (fun Y (h : St b q sv n S Y) => voted_any b q sv _ S (⟨2, fr, to, tm, ix, lt, ok, ents, cm, fm⟩ : Ms) p c Y h hf hm hlg hS )
  rw [hn', hms] at VA ⊢
  have ht1 : ¬ (n.term : Int) < (tm : Int) := by omega
  have ht2 : decide ((n.term : Int) < (tm : Int)) = false := decide_eq_false ht1
  clear h hf hn' hms e f
  go_enter Try.func31, Try.ntmps31
  go_wp2
  go_region_held3 (fun w' => w'.cell? ⟨W.heap.size, 3, none⟩ = some (.int .i64 (tm : Int)) ∧ w'.cell? ⟨b, 1, none⟩ = some (.int .i64 (n.term : Int))) (go_keep) (fail)
  generalize hX : (W.alloc (.cells #[nI 2, nI fr, nI to, nI tm, nI ix, nI lt, .bool ok, .slice p ents.length c, nI cm, nI fm] 37)).drew = X at HXB HXM HX ⊢
  clear hX c1
  obtain ⟨d0, d1, d2, d3, d4, d5, d6, d7, d8, d9⟩ : Box10 W.heap.size (⟨2, fr, to, tm, ix, lt, ok, ents, cm, fm⟩ : Ms) (.slice p ents.length c) X := (unhide HXM).box10 (m := (⟨2, fr, to, tm, ix, lt, ok, ents, cm, fm⟩ : Ms))
  have hml := (unhide HXM).lt
  go_wp2_with (go_at_call 54; refine (unhide VA _ (unhide HX)).mono ?_; rintro e W3 ⟨⟨v, rfl⟩, hs⟩)
  go_end0
  exact ⟨⟨_, rfl⟩, hs.pre (Keep.call _ (unhide HXB))⟩
set_option maxRecDepth 100000 in
set_option maxHeartbeats 4000000 in
theorem handle2h_any (b : Nat) (q : Q5) (sv : Value) (n : Nd) (S : List (Ms × Value)) (fr to tm ix lt : Nat) (ok : Bool) (ents : List En) (cm fm : Nat) (p : Option Addr) (c : Nat) (W : World) (h : St b q sv n S W) (f : Fit n) (htm : tm ≤ 1099511627776) (ht : n.term < tm) (hm : fr < n.votes.length) (hlg : n.log.length < 500000) (hS : S.length ≤ 90000) :
    Calls Try.prog 31 #[ptr b 0, .agg (msA (⟨2, fr, to, tm, ix, lt, ok, ents, cm, fm⟩ : Ms) (.slice p ents.length c))] W fun e W' => (∃ v, e = .returned v) ∧ Done b (handleM n (⟨2, fr, to, tm, ix, lt, ok, ents, cm, fm⟩ : Ms)).1 S (handleM n (⟨2, fr, to, tm, ix, lt, ok, ents, cm, fm⟩ : Ms)).2 (Foot b q sv) W W' := by
  have c1 := h.c1
  have hl := h.blk.lt
  have hnb : W.heap.size ≠ b := by omega
  have HXB := hide ((below_new W (.cells #[nI 2, nI fr, nI to, nI tm, nI ix, nI lt, .bool ok, .slice p ents.length c, nI cm, nI fm] 37)).drew)
  have HXM : Hid (Blk W.heap.size #[nI 2, nI fr, nI to, nI tm, nI ix, nI lt, .bool ok, .slice p ents.length c, nI cm, nI fm] 37 (W.alloc (.cells #[nI 2, nI fr, nI to, nI tm, nI ix, nI lt, .bool ok, .slice p ents.length c, nI cm, nI fm] 37)).drew) := hide ((Blk.new W #[nI 2, nI fr, nI to, nI tm, nI ix, nI lt, .bool ok, .slice p ents.length c, nI cm, nI fm] 37).below (below_drew _))
  have HX := hide (h.call (unhide HXB))
  have hf := f.heard (m := (⟨2, fr, to, tm, ix, lt, ok, ents, cm, fm⟩ : Ms)) htm
  have e : handleM n (⟨2, fr, to, tm, ix, lt, ok, ents, cm, fm⟩ : Ms) = votedM { n with term := tm, vote := -1, role := 0 } (⟨2, fr, to, tm, ix, lt, ok, ents, cm, fm⟩ : Ms) := by
    unfold handleM
    rw [heard_yes (m := (⟨2, fr, to, tm, ix, lt, ok, ents, cm, fm⟩ : Ms)) ht]
    rfl
  rw [e]
  rw [heard_yes (m := (⟨2, fr, to, tm, ix, lt, ok, ents, cm, fm⟩ : Ms)) ht] at hf
  obtain ⟨n', hn'⟩ : ∃ n', (votedM { n with term := tm, vote := -1, role := 0 } (⟨2, fr, to, tm, ix, lt, ok, ents, cm, fm⟩ : Ms)).1 = n' := ⟨_, rfl⟩
  obtain ⟨ms, hms⟩ : ∃ ms, (votedM { n with term := tm, vote := -1, role := 0 } (⟨2, fr, to, tm, ix, lt, ok, ents, cm, fm⟩ : Ms)).2 = ms := ⟨_, rfl⟩
  have VA := hide (fun Y (h : St b q sv { n with term := tm, vote := -1, role := 0 } S Y) => voted_any b q sv _ S (⟨2, fr, to, tm, ix, lt, ok, ents, cm, fm⟩ : Ms) p c Y h hf hm hlg hS )
  rw [hn', hms] at VA ⊢
  have ht1 : (n.term : Int) < (tm : Int) := by omega
  have ht2 : decide ((n.term : Int) < (tm : Int)) = true := decide_eq_true ht1
  clear h hf hn' hms e f
  go_enter Try.func31, Try.ntmps31
  go_wp2
  go_region_held3 (fun w' => w'.cell? ⟨W.heap.size, 3, none⟩ = some (.int .i64 (tm : Int)) ∧ w'.cell? ⟨b, 1, none⟩ = some (.int .i64 (n.term : Int))) (go_keep) (fail)
  generalize hX : (W.alloc (.cells #[nI 2, nI fr, nI to, nI tm, nI ix, nI lt, .bool ok, .slice p ents.length c, nI cm, nI fm] 37)).drew = X at HXB HXM HX ⊢
  clear hX c1
  obtain ⟨d0, d1, d2, d3, d4, d5, d6, d7, d8, d9⟩ : Box10 W.heap.size (⟨2, fr, to, tm, ix, lt, ok, ents, cm, fm⟩ : Ms) (.slice p ents.length c) X := (unhide HXM).box10 (m := (⟨2, fr, to, tm, ix, lt, ok, ents, cm, fm⟩ : Ms))
  have hml := (unhide HXM).lt
  have y1 := (unhide HX).c1
  have y2 := (unhide HX).c2
  have y5 := (unhide HX).c5
  have yz := (unhide HX).fz
  have yl := (unhide HX).blk.lt
  have HY := hide ((unhide HX).heard tm)
  have KY := hide (Keep.heard (W := X) (St.fb b q sv) (.int .i64 (tm : Int)) (.int .i64 (-1)) (.int .i64 0))
  go_wp2_with (go_at_call 54; refine (unhide VA _ (unhide HY)).mono ?_; rintro e W3 ⟨⟨v, rfl⟩, hs⟩)
  go_end0
  exact ⟨⟨_, rfl⟩, hs.pre ((Keep.call _ (unhide HXB)).trans (unhide KY))⟩
end Go.Proofs.Ytbojfiflemmgaaa
