/-
  Package raft's sendEntries.
-/
import Derived.Test.YtbojfiflemmgaaaG5
namespace Go.Proofs.Ytbojfiflemmgaaa
open Go.RowKit
set_option linter.unusedSimpArgs false
set_option linter.unusedVariables false

theorem own_cells {T : TypeId} {v : Value} {m : Nat} {cs : List Value} {W : World} (h : W.ownsRow 0 T 1 v m cs) (hm : 0 < m) : ∃ g cap, v = .slice (some ⟨g, 0, none⟩) m cap ∧ g < W.heap.size ∧ (∀ i u, cs[i]? = some u → W.cell? ⟨g, i, none⟩ = some u) ∧ ∀ i, W.frozen? ⟨g, i, none⟩ = false := by
  obtain ⟨h1, h2⟩ := h
  rcases h2 with ⟨_, h0⟩ | ⟨g, cap, cur, rfl, hb, hg, hn, hc, hs, ht⟩
  · omega
  · refine ⟨g, cap, rfl, (Array.getElem?_eq_some_iff.1 hg).1, fun j u hu => ?_, fun j => Blk.froz (show Blk g cur T W from hg) j⟩
    have hj : j < m * 1 := by have := (List.getElem?_eq_some_iff.1 hu).1; omega
    rw [cell_of_row W g j cur _ _ hg]
    rw [← ht, List.getElem?_take_of_lt hj, Array.getElem?_toList] at hu
    exact hu
theorem getD_at {α : Type} (l : List α) (i : Nat) (d : α) (h : i < l.length) : l.getD i d = l[i] := by simp [List.getD, h]
/-- sizes that no reckoning passes -/
structure Fit (n : Nd) : Prop where
  id : n.id < n.votes.length
  size : n.votes.length ≤ 5
  next : n.next.length = n.votes.length
  mat : n.mat.length = n.votes.length
  forms : n.forms.length = n.votes.length
  log : n.log.length ≤ 500000
  small : Small n.log
  terms : ∀ e ∈ n.log, e.term ≤ 1099511627776
  term : n.term ≤ 1099511627776
  commit : n.commit ≤ 1099511627776
  clock : n.clock ≤ 1099511627776
  due : n.due ≤ 1099511627776
theorem sendA_any (b : Nat) (q : Q5) (sv : Value) (n : Nd) (S : List (Ms × Value)) (to x t c : Nat) (L : List En) (ev : Value) (W : World) (h : St b q sv n S W) (he : Sees 2 ev L.length (enC L) W) (hf : ∀ k, ev.ownBlock = some k → ¬ Foot b q sv k) (hS : S.length ≤ 100000) :
    Calls Try.prog 68 #[ptr b 0, nI to, .agg #[.int .i64 3, .int .i64 0, .int .i64 0, .int .i64 0, .int .i64 (x : Int), .int .i64 (t : Int), .bool false, ev, .int .i64 (c : Int), .int .i64 0]] W fun e W' => (∃ v, e = .returned v) ∧ ∃ sv', St b q sv' n (S ++ [(⟨3, n.id, to, n.term, x, t, false, L, c, 0⟩, ev)]) W' ∧ Keep W W' (Foot b q sv) (Foot b q sv') :=
  send_any b q sv n S to ⟨3, 0, 0, 0, x, t, false, L, c, 0⟩ ev W h he hf hS
set_option maxRecDepth 100000 in
set_option maxHeartbeats 4000000 in
theorem sendEntries_any (b : Nat) (q : Q5) (sv : Value) (n : Nd) (S : List (Ms × Value)) (to : Nat) (W : World) (h : St b q sv n S W) (f : Fit n) (ht : to < n.votes.length) (h1 : 1 ≤ n.next.getD to 0) (h2 : n.next.getD to 0 ≤ 1000000) (hS : S.length ≤ 100000) :
    Calls Try.prog 71 #[ptr b 0, nI to] W fun e W' => (∃ v, e = .returned v) ∧ ∃ sv' ev, St b q sv' n (S ++ [(sendM n to, ev)]) W' ∧ Keep W W' (Foot b q sv) (Foot b q sv') ∧ ∀ k, ev.ownBlock = some k → W.heap.size ≤ k := by
  have hT : to < n.next.length := by rw [f.next]; exact ht
  obtain ⟨g, cap, hv, hg, hc, _⟩ := own_cells h.rows.next (by omega)
  have cn := hc to _ (inC_at n.next to hT)
  rw [getD_at _ _ _ hT] at h1 h2
  have hsd : Hid (sendM n to = ⟨3, n.id, to, n.term, n.next[to] - 1, termAt n.log (n.next[to] - 1), false, (n.log.drop (n.next[to] - 1)).take 5, n.commit, 0⟩) := by
    show _ = _
    unfold sendM
    rw [getD_at _ _ _ hT]
  obtain ⟨x, hx⟩ : ∃ x, n.next[to] - 1 = x := ⟨_, rfl⟩
  have cn2 : W.cell? ⟨g, to, none⟩ = some (.int .i64 ((x + 1 : Nat) : Int)) := by rw [cn, show n.next[to] = x + 1 by omega]
  rw [hx] at hsd
  rw [unhide hsd]
  have e1 : IntKind.i64.wrap (((x + 1 : Nat) : Int) - 1) = (x : Int) := (IntWalk.i64_in _ (by omega)).trans (by omega)
  have e2 : ((x + 1 : Nat) : Int) - 1 = (x : Int) := by omega
  have c8 := h.c8
  rw [hv] at c8
  have c6 := h.c6
  have hl := h.blk.lt
  have hT0 : (0 : Int) ≤ (to : Int) := by omega
  have hT1 : (to : Int) < (n.next.length : Int) := by omega
  have hx2 : x ≤ 1000000 := by omega
  have H := hide h
  have HF := hide f
  have hll := f.log
  have BH := hide (fun W (h : St b q sv n S W) => behind_any b q sv n S x W h (by omega) (by omega))
  obtain ⟨L, hL⟩ : ∃ L, (n.log.drop x).take 5 = L := ⟨_, rfl⟩
  have hL5 : L.length ≤ 5 := by rw [← hL]; simp; omega
  have hLs : Small L := fun e he => f.small e (by rw [← hL] at he; exact List.mem_of_mem_drop (List.mem_of_mem_take he))
  obtain ⟨t, htt⟩ : ∃ t, termAt n.log x = t := ⟨_, rfl⟩
  have TO := hide (fun W (h : St b q sv n S W) => termOf_any b q sv n S x W h (by omega))
  rw [hL] at BH
  rw [htt] at TO
  rw [hL, htt]
  clear hL htt hc cn hx hsd h f hv h1 h2
  go_enter Try.func71, Try.ntmps71
  go_wp2
  go_region_held3 (fun w' => w'.cell? ⟨b, 6, none⟩ = some (.int .i64 (n.commit : Int))) (first | exact K6 | go_keep) (first
    | (go_at_call 66; refine (unhide TO _ ((unhide H).call (Below.refl _ _).drew)).mono ?_; rintro e w' ⟨rfl, rfl⟩)
    | (go_at_call 80; refine (unhide BH _ ((unhide H).call (Below.refl _ _).drew)).mono ?_; rintro e W1 ⟨u, rfl, hu, hb1⟩; have H1 := hide (((unhide H).call (Below.refl _ _).drew).call hb1); have K6 := (unhide H1).c6)
    | (go_at_call 33; refine (fresh_any u L W1 hu (by omega) hLs).mono ?_; rintro e W2 ⟨ev, rfl, hev, hnn, hb2⟩; obtain ⟨pe, ce, rfl⟩ := own_slice hev; have H2 := hide ((unhide H1).call hb2); clear K6; have K6 := (unhide H2).c6)
    | (go_at_call 68; refine (sendA_any b q sv n S to x t n.commit L (.slice pe L.length ce) W2 (unhide H2) (Sees.of_own hev) (fun k hk hf => by have := (hev.lt k hk).1; have := (unhide H1).flt hf; omega) hS).mono ?_; rintro e W3 ⟨⟨v3, rfl⟩, sv3, H3, hK3⟩; clear K6; have K6 := H3.c6))
  all_goals
    go_end0
    exact ⟨⟨_, rfl⟩, sv3, _, H3, (Keep.call _ (Below.refl _ _).drew).trans ((Keep.call _ hb1).trans ((Keep.call _ hb2).trans hK3)), fun k hk => Nat.le_trans hb1.size (hev.lt k hk).1⟩
end Go.Proofs.Ytbojfiflemmgaaa
