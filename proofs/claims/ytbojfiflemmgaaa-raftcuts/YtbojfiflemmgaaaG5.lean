/-
  Package raft's beginAnew, behind, send.
-/
import Derived.Test.YtbojfiflemmgaaaG4
namespace Go.Proofs.Ytbojfiflemmgaaa
open Go.RowKit
set_option linter.unusedSimpArgs false
set_option linter.unusedVariables false

section
variable {b : Nat} {q : Q5} {sv : Value} {n : Nd} {S : List (Ms × Value)} {W W' : World}
theorem St.put (h : St b q sv n S W) (n' : Nd) (j : Nat) (y : Value) (hc : (wkA n q sv).setIfInBounds j y = wkA n' q sv) (e1 : n'.log = n.log) (e2 : n'.votes = n.votes) (e3 : n'.next = n.next) (e4 : n'.mat = n.mat) (e5 : n'.forms = n.forms) : St b q sv n' S (W.setCell ⟨b, j, none⟩ y) := by
  have hb := h.blk.set j y
  rw [hc] at hb
  have hr := h.rows.keep (W' := W.setCell ⟨b, j, none⟩ y) fun k hk _ => heap_set fun e => h.nb (e ▸ hk)
  refine ⟨hb, ⟨by rw [e1]; exact hr.log, by rw [e2]; exact hr.votes, by rw [e3]; exact hr.next, by rw [e4]; exact hr.mat, by rw [e5]; exact hr.forms, hr.nm, hr.nf, hr.mf⟩, ⟨own_keep h.sent.row fun k hk _ => heap_set fun e => h.sb (e ▸ hk), fun x hx => (h.sent.ents x hx).keep fun k hk _ => heap_set fun e => h.free x hx k hk (.inl e)⟩, h.free⟩
theorem St.fb (b : Nat) (q : Q5) (sv : Value) : Foot b q sv b := .inl rfl
end
theorem cset {W : World} {b j k : Nat} {y v : Value} (h : j ≠ k) (hc : W.cell? ⟨b, k, none⟩ = some v) : (W.setCell ⟨b, j, none⟩ y).drew.cell? ⟨b, k, none⟩ = some v := by
  show ((W.setCell ⟨b, j, none⟩ y).cell? ⟨b, k, none⟩) = some v
  rw [← hc]
  simp only [World.cell?, World.setCell, Array.getElem?_modify, if_true]
  cases ho : W.heap[b]? with
  | none => rfl
  | some o => cases o <;> simp [Array.getElem?_setIfInBounds, h]
set_option maxHeartbeats 1000000 in
theorem beginAnew_any (b : Nat) (q : Q5) (sv : Value) (n : Nd) (S : List (Ms × Value)) (W : World) (h : St b q sv n S W) (hc : n.clock ≤ 1099511627776) (hi : n.id ≤ 5) :
    Calls Try.prog 67 #[ptr b 0] W fun e W' => (∃ v, e = .returned v) ∧ St b q sv (anewM n) S W' ∧ Keep W W' (Foot b q sv) (Foot b q sv) := by
  have H := hide h
  have c0 := h.c0
  have c11 := h.c11
  have c12 := h.c12
  have fz := h.fz
  have hl := h.blk.lt
  have D := hide (fun W => due_any n.clock n.id W hc (by omega))
  clear h
  go_enter Try.func67, Try.ntmps67
  go_region_held3 (fun w' => w'.cell? ⟨b, 11, none⟩ = some (.int .i64 (n.clock : Int)) ∧ w'.cell? ⟨b, 0, none⟩ = some (.int .i64 (n.id : Int))) (first | exact ⟨cset (by decide) c11, cset (by decide) c0⟩ | go_keep) ((go_at_call 38; refine (unhide D _).mono ?_; rintro e w' ⟨rfl, rfl⟩))
  all_goals
    go_end0
    exact ⟨⟨_, rfl⟩, ((unhide H).call (Below.refl _ _).drew).put (anewM n) 12 _ rfl rfl rfl rfl rfl rfl, (Keep.call _ (Below.refl _ _).drew).trans (Keep.set (St.fb b q sv))⟩

theorem enC_drop (l : List En) : ∀ k, (enC l).drop (k * 2) = enC (l.drop k) := by
  induction l with
  | nil => intro k; simp [enC]
  | cons e l ih =>
    intro k
    cases k with
    | zero => simp [enC]
    | succ k =>
      have h2 : (k + 1) * 2 = k * 2 + 1 + 1 := by omega
      have h3 : enC (e :: l) = nI e.term :: .string e.data :: enC l := rfl
      rw [h2, h3, List.drop_succ_cons, List.drop_succ_cons, ih k]
      rfl
theorem sees_sub {l : List En} {W : World} {g : Nat} {cap : Nat} {lo m : Nat} (h : Sees 2 (.slice (some ⟨g, 0, none⟩) l.length cap) l.length (enC l) W) (hlo : lo ≤ l.length) (hm : m ≤ l.length - lo) :
    Sees 2 (.slice (some ⟨g, lo * 2, none⟩) m (cap - lo)) ((l.drop lo).take m).length (enC ((l.drop lo).take m)) W := by
  obtain ⟨p, c, he, h1, h2, h3, h4⟩ := h
  injection he with e1 _ e3
  subst e3
  have hlen : ((l.drop lo).take m).length = m := by simp; omega
  rw [hlen]
  refine ⟨_, _, rfl, by omega, by omega, by rw [enC_len, hlen], ?_⟩
  rcases h4 with ⟨h0, _⟩ | ⟨g', o', hp, hg, hc⟩
  · rw [← e1] at h0; cases h0
  · rw [← e1] at hp
    injection hp with hp
    injection hp with p1 p2
    subst p1 p2
    refine .inr ⟨g, lo * 2, rfl, hg, fun j u hu => ?_⟩
    have := hc (lo * 2 + j) u
    rw [Nat.zero_add] at this
    apply this
    rw [← enC_take, ← enC_drop] at hu
    have hj : j < m * 2 := by
      have := (List.getElem?_eq_some_iff.1 hu).1
      simp at this; omega
    rw [List.getElem?_take_of_lt hj, List.getElem?_drop] at hu
    exact hu
set_option maxHeartbeats 1000000 in
theorem behind_any (b : Nat) (q : Q5) (sv : Value) (n : Nd) (S : List (Ms × Value)) (i : Nat) (W : World) (h : St b q sv n S W) (hi : i ≤ 1099511627776) (hl : n.log.length ≤ 1000000) :
    Calls Try.prog 80 #[ptr b 0, .int .i64 (i : Int)] W fun e W' => ∃ u, e = .returned u ∧ Sees 2 u ((n.log.drop i).take 5).length (enC ((n.log.drop i).take 5)) W' ∧ Below W.heap.size W W' := by
  have L := hide (fun W h => last_any b q sv n S W h)
  have H := hide h
  have c3 := h.c3
  have HS := hide (Sees.of_own h.rows.log)
  rcases h.rows.log.2 with ⟨hv, h0⟩ | ⟨g, cap, cur, hv, _, hg, hn, hcm, _⟩
  · rw [hv] at c3
    have hl0 : n.log = [] := List.eq_nil_of_length_eq_zero h0
    have L2 := hide (fun W (h : St b q sv n S W) => (unhide L W h).mono (R' := fun e w' => e = .returned (.int .i64 0) ∧ w' = W) (fun e w' h => by rw [hl0] at h; exact h))
    clear hv h0
    have hmx : max (i : Int) 0 = i := by omega
    have hmn : min (i : Int) 0 = 0 := by omega
    have hc0 : (0 : Int) ≤ (i : Int) := by omega
    go_enter Try.func80, Try.ntmps80
    go_wp2
    go_region_held3 (fun w' => w'.cell? ⟨b, 3, none⟩ = some (.slice none 0 0)) (go_keep) ((go_at_call 52; refine (unhide L2 _ ((unhide H).call (Below.refl _ _).drew)).mono ?_; rintro e w' ⟨rfl, rfl⟩))
    all_goals
      go_wp2
      go_ret
      refine ⟨_, rfl, ?_, (Below.refl _ _).drew⟩
      rw [hl0]
      have e : (List.take 5 (List.drop i ([] : List En))) = [] := by simp
      rw [e]
      exact Sees.nil 2 _
  · obtain ⟨lo, hlo⟩ : ∃ lo : Nat, lo = min i n.log.length := ⟨_, rfl⟩
    obtain ⟨m, hm⟩ : ∃ m : Nat, m = min (n.log.length - lo) 5 := ⟨_, rfl⟩
    have hdrop : (n.log.drop i).take 5 = (n.log.drop lo).take m := by
      by_cases hle : i ≤ n.log.length
      · have e1 : lo = i := by omega
        rw [e1] at hm ⊢
        rw [hm, List.take_eq_take_iff]
        simp
        omega
      · have e1 : lo = n.log.length := by omega
        rw [e1, List.drop_of_length_le (by omega), List.drop_of_length_le (Nat.le_refl _)]
        simp
    have hlm : ((n.log.drop lo).take m).length = m := by simp; omega
    rw [hdrop, hlm]
    rw [hv] at c3 HS
    have HSS := hide (sees_sub (unhide HS) (lo := lo) (m := m) (by omega) (by omega))
    rw [hlm] at HSS
    have hgl : IsC g W.drew := ⟨_, _, _, hg⟩
    have HLM := hide hlm
    clear hlm
    have hmx : max (i : Int) 0 = i := by omega
    have hmn : min (i : Int) (n.log.length : Int) = (lo : Int) := by omega
    have hmm : min ((n.log.length : Int) - (lo : Int)) 5 = (m : Int) := by omega
    have hc0 : (0 : Int) ≤ (lo : Int) := by omega
    have hc1 : (lo : Int) ≤ (n.log.length : Int) := by omega
    have hc2 : (0 : Int) ≤ (m : Int) := by omega
    have hc3 : lo ≤ n.log.length := by omega
    have hc4 : m ≤ n.log.length - lo := by omega
    clear hdrop hm hlo hv
    go_enter Try.func80, Try.ntmps80
    go_wp2
    go_region_held3 (fun w' => w'.cell? ⟨b, 3, none⟩ = some (.slice (some ⟨g, 0, none⟩) n.log.length cap)) (go_keep) ((go_at_call 52; refine (unhide L _ ((unhide H).call (Below.refl _ _).drew)).mono ?_; rintro e w' ⟨rfl, rfl⟩))
    all_goals go_wp2
    all_goals
      go_ret
      refine ⟨_, rfl, ?_, (Below.refl _ _).drew⟩
      have em : (min ((n.log.length - lo : Nat) : Int) 5).toNat = m := by omega
      rw [em]
      first
      | exact (unhide HSS).below (Below.refl _ _).drew
      | (obtain rfl : m = 0 := by omega
         exact ⟨_, _, rfl, Nat.zero_le _, by omega, by simp [enC], .inr ⟨_, _, rfl, hgl, by simp [enC]⟩⟩)
abbrev msA (m : Ms) (e : Value) : Array Value := #[nI m.kind, nI m.frm, nI m.to, nI m.term, nI m.index, nI m.lterm, .bool m.ok, e, nI m.commit, nI m.form]
theorem msA_list (m : Ms) (e : Value) : (msA m e).toList = msC m e := rfl
/-- a message as it is sent -/
abbrev sentM (n : Nd) (to : Nat) (m : Ms) : Ms := { m with frm := n.id, to := to, term := n.term }
theorem Keep.blk' {W W' : World} {F F' : Nat → Prop} {b : Nat} {cs : Array Value} {T : TypeId} (h : Keep W W' F F') (hb : Blk b cs T W) (hf : ¬ F b) : Blk b cs T W' := h.blk hb hf
theorem cells_new (X : World) (cs : Array Value) (T : TypeId) : ∀ j u, cs.toList[j]? = some u → (X.alloc (.cells cs T)).cell? (Addr.add ⟨X.heap.size, 0, none⟩ j) = some u := by
  intro j u hu
  have e : Addr.add ⟨X.heap.size, 0, none⟩ j = ⟨X.heap.size, j, none⟩ := by cases j <;> simp [Addr.add]
  rw [e, (Blk.new X cs T).cell j, ← Array.getElem?_toList, hu]
def Box10 (g : Nat) (m : Ms) (ev : Value) (w : World) : Prop := w.cell? ⟨g, 0, none⟩ = some (nI m.kind) ∧ w.cell? ⟨g, 1, none⟩ = some (nI m.frm) ∧ w.cell? ⟨g, 2, none⟩ = some (nI m.to) ∧ w.cell? ⟨g, 3, none⟩ = some (nI m.term) ∧ w.cell? ⟨g, 4, none⟩ = some (nI m.index) ∧ w.cell? ⟨g, 5, none⟩ = some (nI m.lterm) ∧ w.cell? ⟨g, 6, none⟩ = some (.bool m.ok) ∧ w.cell? ⟨g, 7, none⟩ = some ev ∧ w.cell? ⟨g, 8, none⟩ = some (nI m.commit) ∧ w.cell? ⟨g, 9, none⟩ = some (nI m.form)
theorem Blk.box10 {g : Nat} {m : Ms} {ev : Value} {w : World} (h : Blk g (msA m ev) 37 w) : Box10 g m ev w := ⟨h.cell 0, h.cell 1, h.cell 2, h.cell 3, h.cell 4, h.cell 5, h.cell 6, h.cell 7, h.cell 8, h.cell 9⟩
theorem Blk.gr {b : Nat} {cs : Array Value} {T : TypeId} {W W' : World} {v : Value} (h : Blk b cs T W) (hg : W.grownBy W' v.ownBlock) (hne : v.ownBlock ≠ some b) : Blk b cs T W' := (hg.block b h.lt (fun e => hne e.symm)).trans h
/-- a message put behind a row of messages, at a step -/
theorem step_appM {ops : Array Oper} {o : Oper} {a : Act} {K : Act → World → Prop} {Q : Exit → Act → World → Prop} {E : Prop} (hgd : o.guard = none) (sl x : Operand)
    (ho : o.op = .call { callee := .builtin .append, args := #[sl, x], argTypes := #[38, 38] })
    (X : World) (m : Ms) (ev v : Value) (S : List (Ms × Value)) (hown : X.ownsRow 0 37 10 v S.length (mssC S)) (hs : a.eval sl = v)
    (hx : a.eval x = .slice (some ⟨X.heap.size, 0, none⟩) 1 1) (hlen : S.length ≤ 100000) (hev : ev.oneCell' = true)
    (h : ∀ g cap w', w'.ownsRow 0 37 10 (.slice (some ⟨g, 0, none⟩) (S.length + 1) cap) (S.length + 1) (mssC (S ++ [(m, ev)])) → (X.alloc (.cells (msA m ev) 37)).drew.grownBy w' v.ownBlock → (v.ownBlock = some g ∨ g = X.heap.size + 1) → K (a.put o.dst (.slice (some ⟨g, 0, none⟩) (S.length + 1) cap)) w') :
    if Region.wanted o (yielded ops a.tmps) = true then Oper.wp Try.prog o a (X.alloc (.cells (msA m ev) 37)).drew K Q else E := by
  obtain ⟨i0, hi, hz0, hz1, hz2⟩ := info_parts info_ms
  refine step_append_lies _ hgd sl x 38 ho 0 37 i0 _ 10 96 Try.underlying38 hi hz0 hz1 hz2 rfl (by decide) v S.length (mssC S) hs (hown.alloc _ : (X.alloc (.cells (msA m ev) 37)).ownsRow _ _ _ _ _ _) ⟨X.heap.size, 0, none⟩ 1 1 (msC m ev) hx rfl (cells_new X (msA m ev) 37) (by simp [msC, hev]; simp [Value.oneCell']) (by decide) (by unfold maxLen; omega) (by omega) (by simp) (X.heap.size + 1) (by simp) ?_
  intro g cap w1 hown1 hgrow1 hat1 _
  refine h g cap w1 ?_ hgrow1 hat1
  rw [mssC_app]
  simpa [mssC] using hown1
theorem St.sent_put {b : Nat} {q : Q5} {sv ev : Value} {n : Nd} {S : List (Ms × Value)} {m : Ms} {X w1 : World} {g cap : Nat} (h : St b q sv n S X)
    (hown : w1.ownsRow 0 37 10 (.slice (some ⟨g, 0, none⟩) (S.length + 1) cap) (S.length + 1) (mssC (S ++ [(m, ev)]))) (hg : (X.alloc (.cells (msA m ev) 37)).drew.grownBy w1 sv.ownBlock) (hat : sv.ownBlock = some g ∨ g = X.heap.size + 1)
    (he : Sees 2 ev m.ents.length (enC m.ents) X) (hf : ∀ k, ev.ownBlock = some k → ¬ Foot b q sv k) :
    St b q (.slice (some ⟨g, 0, none⟩) (S.length + 1) cap) n (S ++ [(m, ev)]) (w1.setCell ⟨b, 13, none⟩ (.slice (some ⟨g, 0, none⟩) (S.length + 1) cap)) ∧
    Keep X (w1.setCell ⟨b, 13, none⟩ (.slice (some ⟨g, 0, none⟩) (S.length + 1) cap)) (Foot b q sv) (Foot b q (.slice (some ⟨g, 0, none⟩) (S.length + 1) cap)) := by
  have hz : (X.alloc (.cells (msA m ev) 37)).drew.heap.size = X.heap.size + 1 := by simp
  have hold : ∀ k, k < X.heap.size → sv.ownBlock ≠ some k → w1.heap[k]? = X.heap[k]? := fun k hk hne => (hg.block k (by omega) (fun e => hne e.symm)).trans ((below_new X _).block k hk)
  have hgn : ∀ k, Foot5 q k → g ≠ k := fun k hk e => by
    rcases hat with h1 | h1
    · exact h.ns k hk (e ▸ h1)
    · have := h.rows.lt hk; omega
  have hgb : g ≠ b := fun e => by
    rcases hat with h1 | h1
    · exact h.sb (e ▸ h1)
    · have := h.blk.lt; omega
  have hfoot : ∀ k, Foot b q (.slice (some ⟨g, 0, none⟩) (S.length + 1) cap) k → Foot b q sv k ∨ X.heap.size ≤ k := by
    rintro k (hk | hk | hk)
    · exact .inl (.inl hk)
    · exact .inl (.inr (.inl hk))
    · simp [Value.ownBlock] at hk
      subst hk
      rcases hat with h1 | h1
      · exact .inl (.inr (.inr h1))
      · exact .inr (by omega)
  have hfr : ∀ k, k < X.heap.size → ¬ Foot b q sv k → (w1.setCell ⟨b, 13, none⟩ (.slice (some ⟨g, 0, none⟩) (S.length + 1) cap)).heap[k]? = X.heap[k]? := fun k hk hn =>
    (heap_set fun e => hn (.inl e)).trans (hold k hk fun e => hn (.inr (.inr e)))
  refine ⟨⟨?_, ?_, ⟨?_, ?_⟩, ?_⟩, ⟨hg.os, hg.tape, hg.output, by have := hg.size; simp [World.setCell] at *; omega, fun k hk hn => ⟨hfr k hk hn, fun hf2 => by
    rcases hfoot k hf2 with h1 | h1
    · exact hn h1
    · omega⟩⟩⟩
  · have hb : Blk b (wkA n q sv) 58 w1 := (hold b h.blk.lt h.sb).trans h.blk
    exact hb.set 13 _
  · refine h.rows.keep fun k hk hl => ?_
    exact (heap_set (fun (e : k = b) => h.nb (e ▸ hk))).trans (hold k hl (h.ns k hk))
  · rw [List.length_append, List.length_singleton]
    exact own_keep hown fun k hk _ => heap_set fun e => by simp [Value.ownBlock] at hk; exact hgb (hk.trans e)
  · intro x hx
    rcases List.mem_append.1 hx with hx | hx
    · exact (h.sent.ents x hx).keep fun k hk hl => hfr k hl (h.free x hx k hk)
    · obtain rfl := List.mem_singleton.1 hx
      exact he.keep fun k hk hl => hfr k hl (hf k hk)
  · intro x hx k hk hf2
    rcases hfoot k hf2 with h1 | h1
    · rcases List.mem_append.1 hx with hx | hx
      · exact h.free x hx k hk h1
      · obtain rfl := List.mem_singleton.1 hx
        exact hf k hk h1
    · rcases List.mem_append.1 hx with hx | hx
      · have := (h.sent.ents x hx).lt hk; omega
      · obtain rfl := List.mem_singleton.1 hx
        have := he.lt hk; omega
set_option maxRecDepth 100000 in
set_option maxHeartbeats 4000000 in
theorem send_any (b : Nat) (q : Q5) (sv : Value) (n : Nd) (S : List (Ms × Value)) (to : Nat) (m : Ms) (ev : Value) (W : World) (h : St b q sv n S W) (he : Sees 2 ev m.ents.length (enC m.ents) W) (hf : ∀ k, ev.ownBlock = some k → ¬ Foot b q sv k) (hS : S.length ≤ 100000) :
    Calls Try.prog 68 #[ptr b 0, nI to, .agg (msA m ev)] W fun e W' => (∃ v, e = .returned v) ∧ ∃ sv', St b q sv' n (S ++ [(sentM n to m, ev)]) W' ∧ Keep W W' (Foot b q sv) (Foot b q sv') := by
  have H := hide h
  have c0 := h.c0
  have c1 := h.c1
  have c13 := h.c13
  have fz := h.fz
  have hl := h.blk.lt
  have hne : b ≠ W.heap.size := by omega
  clear h
  go_enter Try.func68, Try.ntmps68
  go_wp2
  go_region_held3 (fun w' => w'.cell? ⟨b, 0, none⟩ = some (.int .i64 (n.id : Int)) ∧ w'.cell? ⟨b, 1, none⟩ = some (.int .i64 (n.term : Int))) (go_keep) (fail)
  have HX1 : St b q sv n S (W.alloc (.cells (msA (sentM n to m) ev) 37)).drew := ((unhide H).call (below_new W _)).call (Below.refl _ _).drew
  have HX2 : Blk W.heap.size (msA (sentM n to m) ev) 37 (W.alloc (.cells (msA (sentM n to m) ev) 37)).drew := Blk.new W _ _
  have HX3 : Below W.heap.size W (W.alloc (.cells (msA (sentM n to m) ev) 37)).drew := (below_new W _).drew
  have HX4 : (W.alloc (.cells (msA (sentM n to m) ev) 37)).drew.heap.size = W.heap.size + 1 := by simp
  generalize hX : (W.alloc (.cells (msA (sentM n to m) ev) 37)).drew = X at HX1 HX2 HX3 HX4
  clear hX c0 c1 c13 fz
  have hev : ev.oneCell' = true := he.one
  have hrow := HX1.sent.row
  have c13 := HX1.c13
  have cfz := HX1.fz
  have hlx := HX1.blk.lt
  have hlm := HX2.lt
  obtain ⟨d0, d1, d2, d3, d4, d5, d6, d7, d8, d9⟩ := HX2.box10
  have hsn : sv.ownBlock ≠ some W.heap.size := fun e => by have := own_lt (unhide H).sent.row e; omega
  have hsb := (unhide H).sb
  have KS := hide (fun (w1 : World) (hg : (X.alloc (.cells (msA (sentM n to m) ev) 37)).drew.grownBy w1 sv.ownBlock) => (show Blk W.heap.size (msA (sentM n to m) ev) 37 w1 from ((HX2.below (below_new X _)).below (Below.refl _ _).drew).gr hg hsn))
  have KB := hide (fun (w1 : World) (hg : (X.alloc (.cells (msA (sentM n to m) ev) 37)).drew.grownBy w1 sv.ownBlock) => (show Blk b (wkA n q sv) 58 w1 from ((HX1.blk.below (below_new X _)).below (Below.refl _ _).drew).gr hg hsb))
  have A1 := hide HX1
  have A2 := hide HX2
  have A3 := hide HX3
  have A4 := hide HX4
  clear HX1 HX2 HX3 HX4
  go_wp2
  go_region_law ((refine step_appM (by rfl) _ _ (by rfl) X (sentM n to m) ev sv S hrow (by rfl) (by rfl) hS hev ?_; intro g cap w1 hown1 hgr1 hat1; have e1_ := (unhide KB _ hgr1).cell 13; have e2_ := (unhide KB _ hgr1).froz 13; have e3_ := (unhide KB _ hgr1).lt))
  all_goals
    go_end0
    obtain ⟨f1, f2⟩ := (unhide A1).sent_put hown1 hgr1 hat1 (he.below (unhide A3)) hf
    exact ⟨⟨_, rfl⟩, _, f1, (Keep.call _ (unhide A3)).trans f2⟩
end Go.Proofs.Ytbojfiflemmgaaa
