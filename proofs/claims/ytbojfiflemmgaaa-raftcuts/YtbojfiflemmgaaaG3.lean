/-
  Package raft's node that is being worked on: how it lies; its reads.
-/
import Derived.Test.YtbojfiflemmgaaaG2
namespace Go.Proofs.Ytbojfiflemmgaaa
open Go.RowKit
set_option linter.unusedSimpArgs false
set_option linter.unusedVariables false

/-- a node's five rows, as values -/
structure Q5 where
  lv : Value
  vv : Value
  nv : Value
  mv : Value
  fv : Value
def Apart (v u : Value) : Prop := ∀ k, v.ownBlock = some k → u.ownBlock ≠ some k
structure Rows (q : Q5) (n : Nd) (W : World) : Prop where
  log : W.ownsRow 0 34 2 q.lv n.log.length (enC n.log)
  votes : W.ownsRow 0 4 1 q.vv n.votes.length (boC n.votes)
  next : W.ownsRow 0 3 1 q.nv n.next.length (inC n.next)
  mat : W.ownsRow 0 3 1 q.mv n.mat.length (inC n.mat)
  forms : W.ownsRow 0 3 1 q.fv n.forms.length (inC n.forms)
  nm : Apart q.nv q.mv
  nf : Apart q.nv q.fv
  mf : Apart q.mv q.fv
def Foot5 (q : Q5) (k : Nat) : Prop := q.lv.ownBlock = some k ∨ q.vv.ownBlock = some k ∨ q.nv.ownBlock = some k ∨ q.mv.ownBlock = some k ∨ q.fv.ownBlock = some k
def Foot (b : Nat) (q : Q5) (sv : Value) (k : Nat) : Prop := k = b ∨ Foot5 q k ∨ sv.ownBlock = some k
abbrev ndA (n : Nd) (q : Q5) : Array Value := #[nI n.id, nI n.term, .int .i64 n.vote, q.lv, nI n.form, nI n.role, nI n.commit, q.vv, q.nv, q.mv, q.fv, nI n.clock, nI n.due]
abbrev wkA (n : Nd) (q : Q5) (sv : Value) : Array Value := #[nI n.id, nI n.term, .int .i64 n.vote, q.lv, nI n.form, nI n.role, nI n.commit, q.vv, q.nv, q.mv, q.fv, nI n.clock, nI n.due, sv]
/-- messages, with their rows of entries -/
structure SentR (sv : Value) (S : List (Ms × Value)) (W : World) : Prop where
  row : W.ownsRow 0 37 10 sv S.length (mssC S)
  ents : ∀ x ∈ S, Sees 2 x.2 x.1.ents.length (enC x.1.ents) W
structure St (b : Nat) (q : Q5) (sv : Value) (n : Nd) (S : List (Ms × Value)) (W : World) : Prop where
  blk : Blk b (wkA n q sv) 58 W
  rows : Rows q n W
  sent : SentR sv S W
  free : ∀ x ∈ S, ∀ k, x.2.ownBlock = some k → ¬ Foot b q sv k

theorem own_ty {W : World} {base s : Nat} {T : TypeId} {v : Value} {n k : Nat} {cs : List Value} (h : W.ownsRow base T s v n cs) (hk : v.ownBlock = some k) : ∃ cur, Blk k cur T W := by
  rcases h.2 with ⟨rfl, _⟩ | ⟨g, cap, cur, rfl, _, hg, _⟩
  · cases hk
  · simp [Value.ownBlock] at hk
    subst hk
    exact ⟨cur, hg⟩
theorem own_keep {W W' : World} {base s : Nat} {T : TypeId} {v : Value} {n : Nat} {cs : List Value} (h : W.ownsRow base T s v n cs) (hk : ∀ k, v.ownBlock = some k → k < W.heap.size → W'.heap[k]? = W.heap[k]?) : W'.ownsRow base T s v n cs := by
  refine ⟨h.1, ?_⟩
  rcases h.2 with hn | ⟨g, cap, cur, rfl, hb, hg, rest⟩
  · exact .inl hn
  · exact .inr ⟨g, cap, cur, rfl, hb, (hk g rfl (Array.getElem?_eq_some_iff.1 hg).1).trans hg, rest⟩
theorem own_lt {W : World} {base s : Nat} {T : TypeId} {v : Value} {n k : Nat} {cs : List Value} (h : W.ownsRow base T s v n cs) (hk : v.ownBlock = some k) : k < W.heap.size := (h.lt k hk).2
theorem own_ne {W : World} {base s base' s' : Nat} {T T' : TypeId} {v v' : Value} {n n' : Nat} {cs cs' : List Value} (h : W.ownsRow base T s v n cs) (h' : W.ownsRow base' T' s' v' n' cs') (hT : T ≠ T') : Apart v v' := by
  intro k hk hk'
  obtain ⟨c1, h1⟩ := own_ty h hk
  obtain ⟨c2, h2⟩ := own_ty h' hk'
  exact hT (blk_two h1 h2)
theorem Apart.symm {v u : Value} (h : Apart v u) : Apart u v := fun k hk hk' => h k hk' hk
theorem Rows.keep {q : Q5} {n : Nd} {W W' : World} (h : Rows q n W) (hk : ∀ k, Foot5 q k → k < W.heap.size → W'.heap[k]? = W.heap[k]?) : Rows q n W' :=
  ⟨own_keep h.log fun k e => hk k (.inl e), own_keep h.votes fun k e => hk k (.inr (.inl e)), own_keep h.next fun k e => hk k (.inr (.inr (.inl e))), own_keep h.mat fun k e => hk k (.inr (.inr (.inr (.inl e)))), own_keep h.forms fun k e => hk k (.inr (.inr (.inr (.inr e)))), h.nm, h.nf, h.mf⟩
theorem Rows.lt {q : Q5} {n : Nd} {W : World} (h : Rows q n W) {k : Nat} (hk : Foot5 q k) : k < W.heap.size := by
  rcases hk with e | e | e | e | e
  · exact own_lt h.log e
  · exact own_lt h.votes e
  · exact own_lt h.next e
  · exact own_lt h.mat e
  · exact own_lt h.forms e
theorem Rows.ty {q : Q5} {n : Nd} {W : World} (h : Rows q n W) {k : Nat} (hk : Foot5 q k) : ∃ cur T, Blk k cur T W ∧ (T = 34 ∨ T = 4 ∨ T = 3) := by
  rcases hk with e | e | e | e | e
  · obtain ⟨c, h⟩ := own_ty h.log e; exact ⟨c, _, h, .inl rfl⟩
  · obtain ⟨c, h⟩ := own_ty h.votes e; exact ⟨c, _, h, .inr (.inl rfl)⟩
  · obtain ⟨c, h⟩ := own_ty h.next e; exact ⟨c, _, h, .inr (.inr rfl)⟩
  · obtain ⟨c, h⟩ := own_ty h.mat e; exact ⟨c, _, h, .inr (.inr rfl)⟩
  · obtain ⟨c, h⟩ := own_ty h.forms e; exact ⟨c, _, h, .inr (.inr rfl)⟩
section
variable {b : Nat} {q : Q5} {sv : Value} {n : Nd} {S : List (Ms × Value)} {W W' : World}
theorem St.nb (h : St b q sv n S W) : ¬ Foot5 q b := fun hk => by
  obtain ⟨c, T, h1, h2⟩ := h.rows.ty hk
  have := blk_two h1 h.blk
  subst this
  rcases h2 with h2 | h2 | h2 <;> exact absurd h2 (by decide)
theorem St.sb (h : St b q sv n S W) : sv.ownBlock ≠ some b := fun hk => by
  obtain ⟨c, h1⟩ := own_ty h.sent.row hk
  exact absurd (blk_two h1 h.blk) (by decide)
theorem St.ns (h : St b q sv n S W) : ∀ k, Foot5 q k → sv.ownBlock ≠ some k := fun k hk e => by
  obtain ⟨c, T, h1, h2⟩ := h.rows.ty hk
  obtain ⟨c, h3⟩ := own_ty h.sent.row e
  have := blk_two h1 h3
  subst this
  rcases h2 with h2 | h2 | h2 <;> exact absurd h2 (by decide)
theorem St.flt (h : St b q sv n S W) {k : Nat} (hk : Foot b q sv k) : k < W.heap.size := by
  rcases hk with rfl | hk | hk
  · exact h.blk.lt
  · exact h.rows.lt hk
  · exact own_lt h.sent.row hk
/-- all that a state speaks of stands as it stood -/
theorem St.keep (h : St b q sv n S W) (hk : ∀ k, (Foot b q sv k ∨ ∃ x ∈ S, x.2.ownBlock = some k) → k < W.heap.size → W'.heap[k]? = W.heap[k]?) : St b q sv n S W' :=
  ⟨(hk b (.inl (.inl rfl)) h.blk.lt).trans h.blk, h.rows.keep fun k e => hk k (.inl (.inr (.inl e))), ⟨own_keep h.sent.row fun k e => hk k (.inl (.inr (.inr e))), fun x hx => (h.sent.ents x hx).keep fun k e => hk k (.inr ⟨x, hx, e⟩)⟩, h.free⟩
theorem St.call (h : St b q sv n S W) (hb : Below W.heap.size W W') : St b q sv n S W' := h.keep fun k _ hl => hb.block k hl
theorem St.far (h : St b q sv n S W) {F F' : Nat → Prop} (hK : Keep W W' F F') (h1 : ∀ k, Foot b q sv k → ¬ F k) (h2 : ∀ x ∈ S, ∀ k, x.2.ownBlock = some k → ¬ F k) : St b q sv n S W' :=
  h.keep fun k hk hl => (hK.block k hl (by
    rcases hk with hk | ⟨x, hx, e⟩
    · exact h1 k hk
    · exact h2 x hx k e)).1
theorem St.c0 (h : St b q sv n S W) : W.cell? ⟨b, 0, none⟩ = some (.int .i64 (n.id : Int)) := h.blk.cell 0
theorem St.c1 (h : St b q sv n S W) : W.cell? ⟨b, 1, none⟩ = some (.int .i64 (n.term : Int)) := h.blk.cell 1
theorem St.c2 (h : St b q sv n S W) : W.cell? ⟨b, 2, none⟩ = some (.int .i64 n.vote) := h.blk.cell 2
theorem St.c3 (h : St b q sv n S W) : W.cell? ⟨b, 3, none⟩ = some q.lv := h.blk.cell 3
theorem St.c4 (h : St b q sv n S W) : W.cell? ⟨b, 4, none⟩ = some (.int .i64 (n.form : Int)) := h.blk.cell 4
theorem St.c5 (h : St b q sv n S W) : W.cell? ⟨b, 5, none⟩ = some (.int .i64 (n.role : Int)) := h.blk.cell 5
theorem St.c6 (h : St b q sv n S W) : W.cell? ⟨b, 6, none⟩ = some (.int .i64 (n.commit : Int)) := h.blk.cell 6
theorem St.c7 (h : St b q sv n S W) : W.cell? ⟨b, 7, none⟩ = some q.vv := h.blk.cell 7
theorem St.c8 (h : St b q sv n S W) : W.cell? ⟨b, 8, none⟩ = some q.nv := h.blk.cell 8
theorem St.c9 (h : St b q sv n S W) : W.cell? ⟨b, 9, none⟩ = some q.mv := h.blk.cell 9
theorem St.c10 (h : St b q sv n S W) : W.cell? ⟨b, 10, none⟩ = some q.fv := h.blk.cell 10
theorem St.c11 (h : St b q sv n S W) : W.cell? ⟨b, 11, none⟩ = some (.int .i64 (n.clock : Int)) := h.blk.cell 11
theorem St.c12 (h : St b q sv n S W) : W.cell? ⟨b, 12, none⟩ = some (.int .i64 (n.due : Int)) := h.blk.cell 12
theorem St.c13 (h : St b q sv n S W) : W.cell? ⟨b, 13, none⟩ = some sv := h.blk.cell 13
theorem St.fz (h : St b q sv n S W) (j : Nat) : W.frozen? ⟨b, j, none⟩ = false := h.blk.froz j
theorem own_slice {base s : Nat} {T : TypeId} {v : Value} {m : Nat} {cs : List Value} (h : W.ownsRow base T s v m cs) : ∃ p cap, v = .slice p m cap := by
  rcases h.2 with ⟨rfl, rfl⟩ | ⟨g, cap, cur, rfl, _⟩
  · exact ⟨_, _, rfl⟩
  · exact ⟨_, _, rfl⟩
end
theorem termAt_at (l : List En) (i : Nat) (h1 : 1 ≤ i) (h2 : i ≤ l.length) : termAt l i = (l[i - 1]'(by omega)).term := by
  unfold termAt
  rw [if_neg (by omega), List.getElem?_eq_getElem (by omega)]
  rfl
theorem termAt_out (l : List En) (i : Nat) (h : i < 1 ∨ l.length < i) : termAt l i = 0 := by
  unfold termAt
  rcases h with h | h
  · rw [if_pos (by omega)]
  · by_cases h0 : i = 0
    · rw [if_pos h0]
    · rw [if_neg h0, List.getElem?_eq_none (by omega)]; rfl
/-- what an entry's cells are, at a place that is reckoned -/
theorem sees_en {v : Value} {l : List En} {W : World} {m : Nat} (h : Sees 2 v m (enC l) W) (i : Nat) (hi : i < l.length) : ∃ g o cap, v = .slice (some ⟨g, o, none⟩) m cap ∧ W.cell? ⟨g, o + i * 2, none⟩ = some (.int .i64 (l[i].term : Int)) ∧ W.cell? ⟨g, o + i * 2 + 1, none⟩ = some (.string l[i].data) := by
  obtain ⟨p, cap, rfl, h1, h2, h3, h4⟩ := h
  rw [enC_len] at h3
  obtain ⟨g, o, rfl, hg, hc⟩ := h4.resolve_left (fun h => by omega)
  obtain ⟨a1, a2⟩ := enC_at l i hi
  exact ⟨g, o, cap, rfl, hc _ _ a1, hc (i * 2 + 1) _ a2⟩

set_option maxHeartbeats 400000 in
theorem last_any (b : Nat) (q : Q5) (sv : Value) (n : Nd) (S : List (Ms × Value)) (W : World) (h : St b q sv n S W) : Calls Try.prog 52 #[ptr b 0] W fun e w' => e = .returned (.int .i64 (n.log.length : Int)) ∧ w' = W := by
  have c3 := h.c3
  obtain ⟨p, cap, hv⟩ := own_slice h.rows.log
  rw [hv] at c3
  clear hv
  go_enter Try.func52, Try.ntmps52
  go_wp2
  go_ret
  exact ⟨rfl, rfl⟩
set_option maxHeartbeats 1000000 in
theorem termOf_any (b : Nat) (q : Q5) (sv : Value) (n : Nd) (S : List (Ms × Value)) (i : Nat) (W : World) (h : St b q sv n S W) (hi : i ≤ 1099511627776) : Calls Try.prog 66 #[ptr b 0, .int .i64 (i : Int)] W fun e w' => e = .returned (.int .i64 (termAt n.log i : Int)) ∧ w' = W := by
  have L := hide (last_any b q sv n S W h)
  have c3 := h.c3
  by_cases h1 : i < 1
  · have ht := hide (termAt_out n.log i (.inl h1))
    go_enter Try.func66, Try.ntmps66
    go_wp2
    go_ret
    exact ⟨ret_int (by rw [unhide ht]; rfl), rfl⟩
  by_cases h2 : n.log.length < i
  · have ht := hide (termAt_out n.log i (.inr h2))
    go_enter Try.func66, Try.ntmps66
    go_wp2_with (go_at_call 52; refine (unhide L).mono ?_; rintro e W1 ⟨rfl, hW1⟩; replace hW1 := hW1.symm; subst hW1)
    go_ret
    exact ⟨ret_int (by rw [unhide ht]; rfl), rfl⟩
  · have ht := hide (termAt_at n.log i (by omega) (by omega))
    obtain ⟨g, o, cap, hv, hc, _⟩ := sees_en (Sees.of_own h.rows.log) (i - 1) (by omega)
    rw [hv] at c3
    obtain ⟨j, rfl⟩ : ∃ j, i = j + 1 := ⟨i - 1, by omega⟩
    have e1 : IntKind.i64.wrap (((j + 1 : Nat) : Int) - 1) = (j : Int) := (IntWalk.i64_in _ (by omega)).trans (by omega)
    have e2 : ((j + 1 : Nat) : Int) - 1 = (j : Int) := by omega
    simp only [Nat.add_sub_cancel] at hc ht
    clear hv
    go_enter Try.func66, Try.ntmps66
    go_wp2_with (go_at_call 52; refine (unhide L).mono ?_; rintro e W1 ⟨rfl, hW1⟩; replace hW1 := hW1.symm; subst hW1)
    go_ret
    exact ⟨ret_int (by rw [unhide ht]), rfl⟩
end Go.Proofs.Ytbojfiflemmgaaa
