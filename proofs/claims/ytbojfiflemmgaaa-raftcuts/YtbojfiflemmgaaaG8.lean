/-
  A node that is worked on: a row that is another one now, a thing of a row that has turned; strings.Clone; entries put behind a log.
-/
import Derived.Test.YtbojfiflemmgaaaG7
import Derived.Shelf.Strconv.Clone
namespace Go.Proofs.Ytbojfiflemmgaaa
open Go.RowKit Go.Shelf
set_option linter.unusedSimpArgs false
set_option linter.unusedVariables false

def ren316 : Go.Shelf.Ren := ⟨fun n => if n = 316 then 76 else n, fun n => if n = 5 then 5 else if n = 37 then 78 else if n = 127 then 93 else if n = 3 then 3 else if n = 4 then 4 else if n = 9 then 9 else n, fun n => n⟩
theorem lays316 : LaysM.n316 Try.prog ren316 := {
  mixed := by kernel_rfl
  f316 := Try.func76.trans (by kernel_rfl)
  t0 := Try.underlying0
  a0 := Try.isAgg0
  z0 := Try.sizeOf0
  v0 := Try.zeroValue0
  i0 := by kernel_rfl
  t3 := Try.underlying3
  a3 := Try.isAgg3
  z3 := Try.sizeOf3
  v3 := Try.zeroValue3
  i3 := by kernel_rfl
  t4 := Try.underlying4
  a4 := Try.isAgg4
  z4 := Try.sizeOf4
  v4 := Try.zeroValue4
  i4 := by kernel_rfl
  t9 := Try.underlying9
  a9 := Try.isAgg9
  z9 := Try.sizeOf9
  v9 := Try.zeroValue9
  i9 := by kernel_rfl
  t37 := Try.underlying78
  a37 := Try.isAgg78
  z37 := Try.sizeOf78
  v37 := Try.zeroValue78
  i37 := by kernel_rfl
  t127 := Try.underlying93
  a127 := Try.isAgg93
  z127 := Try.sizeOf93
  v127 := Try.zeroValue93
  i127 := by kernel_rfl
  t5 := Try.underlying5
  a5 := Try.isAgg5
  z5 := Try.sizeOf5
  v5 := Try.zeroValue5
  i5 := by kernel_rfl }
theorem clone2_any (s : ByteArray) (w : World) (h : s.size ≤ 281474976710656) : Calls Try.prog 76 #[.string s] w fun e w' => e = .returned (.string s) ∧ Below w.heap.size w w' := Any.stringslite_Clone lays316 s w h
set_option maxHeartbeats 400000 in
theorem clone_any (s : ByteArray) (w : World) (h : s.size ≤ 281474976710656) : Calls Try.prog 62 #[.string s] w fun e w' => e = .returned (.string s) ∧ Below w.heap.size w w' := by
  have C := hide (fun W => clone2_any s W h)
  clear h
  go_enter Try.func62, Try.ntmps62
  go_wp2_with (go_at_call 76; refine (unhide C _).mono ?_; rintro e W1 ⟨rfl, hb1⟩)
  go_ret
  exact ⟨rfl, hb1⟩

theorem own_mono {W : World} {base s : Nat} {T : TypeId} {v : Value} {n : Nat} {cs : List Value} (h : W.ownsRow base T s v n cs) : W.ownsRow 0 T s v n cs :=
  ⟨h.1, h.2.imp id fun ⟨g, cap, cur, a, _, c⟩ => ⟨g, cap, cur, a, Nat.zero_le _, c⟩⟩
section
variable {b : Nat} {q q' : Q5} {sv : Value} {n n' : Nd} {S : List (Ms × Value)} {W W1 : World}
theorem St.turn (h : St b q sv n S W) (hb : Blk b (wkA n q sv) 58 W1) (hr : Rows q' n' W1) (hs : SentR sv S W1) (hK : Keep W W1 (Foot b q sv) (Foot b q sv)) (hf : ∀ k, Foot5 q' k → Foot5 q k ∨ W.heap.size ≤ k) (j : Nat) (y : Value) (hc : (wkA n q sv).setIfInBounds j y = wkA n' q' sv) :
    St b q' sv n' S (W1.setCell ⟨b, j, none⟩ y) ∧ Keep W (W1.setCell ⟨b, j, none⟩ y) (Foot b q sv) (Foot b q' sv) := by
  have hb2 := hb.set j y
  rw [hc] at hb2
  have hnb : ∀ k, Foot5 q' k → k ≠ b := fun k hk e => by
    obtain ⟨c, T, h1, h2⟩ := hr.ty hk
    subst e
    have := blk_two h1 hb
    subst this
    rcases h2 with h2 | h2 | h2 <;> exact absurd h2 (by decide)
  have hfoot : ∀ k, Foot b q' sv k → Foot b q sv k ∨ W.heap.size ≤ k := by
    rintro k (hk | hk | hk)
    · exact .inl (.inl hk)
    · rcases hf k hk with h1 | h1
      · exact .inl (.inr (.inl h1))
      · exact .inr h1
    · exact .inl (.inr (.inr hk))
  refine ⟨⟨hb2, hr.keep fun k hk _ => heap_set (hnb k hk), ⟨own_keep hs.row fun k hk _ => heap_set fun (e : k = b) => h.sb (e ▸ hk), fun x hx => (hs.ents x hx).keep fun k hk _ => heap_set fun (e : k = b) => h.free x hx k hk (.inl e)⟩, fun x hx k hk hf2 => ?_⟩,
    (hK.trans (Keep.set (St.fb b q sv))).mono (fun _ _ h => h) (fun k hk => by
      rcases hfoot k hk with h1 | h1
      · exact .inl h1
      · exact .inr (.inr h1))⟩
  rcases hfoot k hf2 with h1 | h1
  · exact h.free x hx k hk h1
  · have := (h.sent.ents x hx).lt hk; omega
/-- a row that a call has made -/
theorem St.votes_put (h : St b q sv n S W) (hb : Below W.heap.size W W1) {u : Value} {l : List Bool} (ho : W1.ownsRow W.heap.size 4 1 u l.length (boC l)) :
    St b { q with vv := u } sv { n with votes := l } S (W1.setCell ⟨b, 7, none⟩ u) ∧ Keep W (W1.setCell ⟨b, 7, none⟩ u) (Foot b q sv) (Foot b { q with vv := u } sv) := by
  have h1 := h.call hb
  refine h.turn (q' := { q with vv := u }) (n' := { n with votes := l }) h1.blk ⟨h1.rows.log, own_mono ho, h1.rows.next, h1.rows.mat, h1.rows.forms, h1.rows.nm, h1.rows.nf, h1.rows.mf⟩ h1.sent (Keep.call _ hb) ?_ 7 u rfl
  rintro k (hk | hk | hk)
  · exact .inl (.inl hk)
  · exact .inr (ho.lt k hk).1
  · exact .inl (.inr (.inr hk))
theorem own_new_ne {v u : Value} {T T' : TypeId} {m m' : Nat} {cs cs' : List Value} (h : W.ownsRow 0 T 1 v m cs) (ho : W1.ownsRow W.heap.size T' 1 u m' cs') : Apart v u ∧ Apart u v := by
  have : ∀ k, v.ownBlock = some k → u.ownBlock = some k → False := fun k h1 h2 => by
    have := own_lt h h1; have := (ho.lt k h2).1; omega
  exact ⟨fun k h1 h2 => this k h1 h2, fun k h1 h2 => this k h2 h1⟩
theorem St.next_put (h : St b q sv n S W) (hb : Below W.heap.size W W1) {u : Value} {l : List Nat} (ho : W1.ownsRow W.heap.size 3 1 u l.length (inC l)) :
    St b { q with nv := u } sv { n with next := l } S (W1.setCell ⟨b, 8, none⟩ u) ∧ Keep W (W1.setCell ⟨b, 8, none⟩ u) (Foot b q sv) (Foot b { q with nv := u } sv) := by
  have h1 := h.call hb
  refine h.turn (q' := { q with nv := u }) (n' := { n with next := l }) h1.blk ⟨h1.rows.log, h1.rows.votes, own_mono ho, h1.rows.mat, h1.rows.forms, (own_new_ne h.rows.mat ho).2, (own_new_ne h.rows.forms ho).2, h1.rows.mf⟩ h1.sent (Keep.call _ hb) ?_ 8 u rfl
  rintro k (hk | hk | hk | hk)
  · exact .inl (.inl hk)
  · exact .inl (.inr (.inl hk))
  · exact .inr (ho.lt k hk).1
  · exact .inl (.inr (.inr (.inr hk)))
theorem St.mat_put (h : St b q sv n S W) (hb : Below W.heap.size W W1) {u : Value} {l : List Nat} (ho : W1.ownsRow W.heap.size 3 1 u l.length (inC l)) :
    St b { q with mv := u } sv { n with mat := l } S (W1.setCell ⟨b, 9, none⟩ u) ∧ Keep W (W1.setCell ⟨b, 9, none⟩ u) (Foot b q sv) (Foot b { q with mv := u } sv) := by
  have h1 := h.call hb
  refine h.turn (q' := { q with mv := u }) (n' := { n with mat := l }) h1.blk ⟨h1.rows.log, h1.rows.votes, h1.rows.next, own_mono ho, h1.rows.forms, (own_new_ne h.rows.next ho).1, h1.rows.nf, (own_new_ne h.rows.forms ho).2⟩ h1.sent (Keep.call _ hb) ?_ 9 u rfl
  rintro k (hk | hk | hk | hk | hk)
  · exact .inl (.inl hk)
  · exact .inl (.inr (.inl hk))
  · exact .inl (.inr (.inr (.inl hk)))
  · exact .inr (ho.lt k hk).1
  · exact .inl (.inr (.inr (.inr (.inr hk))))
/-- entries put behind the log, in a world w1 that grew out of W1 -/
theorem St.log_put {w1 : World} {lv : Value} {l : List En} (h : St b q sv n S W) (hb : Below W.heap.size W W1) (hg : W1.grownBy w1 q.lv.ownBlock) (ho : w1.ownsRow 0 34 2 lv l.length (enC l)) (hat : ∀ k, lv.ownBlock = some k → q.lv.ownBlock = some k ∨ W.heap.size ≤ k) :
    St b { q with lv := lv } sv { n with log := l } S (w1.setCell ⟨b, 3, none⟩ lv) ∧ Keep W (w1.setCell ⟨b, 3, none⟩ lv) (Foot b q sv) (Foot b { q with lv := lv } sv) := by
  have hold : ∀ k, k < W.heap.size → q.lv.ownBlock ≠ some k → w1.heap[k]? = W.heap[k]? := fun k hk hne => (hg.block k (Nat.lt_of_lt_of_le hk hb.size) (fun e => hne e.symm)).trans (hb.block k hk)
  have hlb : q.lv.ownBlock ≠ some b := fun e => h.nb (.inl e)
  have hl1 := own_ne h.rows.log h.rows.votes (by decide)
  have hl2 := own_ne h.rows.log h.rows.next (by decide)
  have hl3 := own_ne h.rows.log h.rows.mat (by decide)
  have hl4 := own_ne h.rows.log h.rows.forms (by decide)
  have hl5 := own_ne h.rows.log h.sent.row (by decide)
  refine h.turn (q' := { q with lv := lv }) (n' := { n with log := l }) ((hold b h.blk.lt hlb).trans h.blk) ⟨ho, own_keep h.rows.votes fun k hk hl => hold k hl fun e => hl1 k e hk, own_keep h.rows.next fun k hk hl => hold k hl fun e => hl2 k e hk, own_keep h.rows.mat fun k hk hl => hold k hl fun e => hl3 k e hk, own_keep h.rows.forms fun k hk hl => hold k hl fun e => hl4 k e hk, h.rows.nm, h.rows.nf, h.rows.mf⟩
    ⟨own_keep h.sent.row fun k hk hl => hold k hl fun e => hl5 k e hk, fun x hx => (h.sent.ents x hx).keep fun k hk hl => hold k hl fun e => h.free x hx k hk (.inr (.inl (.inl e)))⟩
    ⟨hg.os.trans hb.os, hg.tape.trans hb.tape, hg.output.trans hb.output, Nat.le_trans hb.size hg.size, fun k hk hf => ⟨hold k hk fun e => hf (.inr (.inl (.inl e))), hf⟩⟩ ?_ 3 lv rfl
  rintro k (hk | hk)
  · rcases hat k hk with h1 | h1
    · exact .inl (.inl h1)
    · exact .inr h1
  · exact .inl (.inr hk)
theorem own_set {T : TypeId} {v : Value} {m g cap i : Nat} {cs : List Value} {y : Value} (h : W.ownsRow 0 T 1 v m cs) (hv : v = .slice (some ⟨g, 0, none⟩) m cap) (hi : i < m) : (W.setCell ⟨g, i, none⟩ y).ownsRow 0 T 1 v m (cs.set i y) := by
  obtain ⟨h1, h2⟩ := h
  refine ⟨by rw [List.length_set]; exact h1, ?_⟩
  rcases h2 with ⟨rfl, _⟩ | ⟨g', cap', cur, rfl, hb, hg, hn, hc, hs, ht⟩
  · cases hv
  · injection hv with e1 e2 e3
    injection e1 with e1
    injection e1 with e1
    subst e1
    refine .inr ⟨g', cap', cur.setIfInBounds i y, rfl, hb, (show Blk g' cur T W from hg).set i y, hn, hc, by simpa using hs, ?_⟩
    rw [← ht, Array.toList_setIfInBounds, List.take_set]
theorem inC_set (l : List Nat) (i x : Nat) : (inC l).set i (nI x) = inC (l.set i x) := by simp [inC, List.map_set]
theorem boC_set (l : List Bool) (i : Nat) (x : Bool) : (boC l).set i (.bool x) = boC (l.set i x) := by simp [boC, List.map_set]
theorem St.set_far (h : St b q sv n S W) {g i : Nat} {y : Value} (hg : Foot5 q g) : Blk b (wkA n q sv) 58 (W.setCell ⟨g, i, none⟩ y) ∧ SentR sv S (W.setCell ⟨g, i, none⟩ y) ∧ Keep W (W.setCell ⟨g, i, none⟩ y) (Foot b q sv) (Foot b q sv) :=
  ⟨h.blk.far fun (e : b = g) => h.nb (e ▸ hg), ⟨own_keep h.sent.row fun k hk _ => heap_set fun (e : k = g) => h.ns g hg (e ▸ hk), fun x hx => (h.sent.ents x hx).keep fun k hk _ => heap_set fun (e : k = g) => h.free x hx k hk (.inr (.inl (e ▸ hg)))⟩, Keep.set (.inr (.inl hg))⟩
theorem ownB_of {v : Value} {g m cap : Nat} (hv : v = .slice (some ⟨g, 0, none⟩) m cap) : v.ownBlock = some g := by rw [hv]; rfl
theorem St.mat_set (h : St b q sv n S W) {g cap i x : Nat} (hv : q.mv = .slice (some ⟨g, 0, none⟩) n.mat.length cap) (hi : i < n.mat.length) :
    St b q sv { n with mat := n.mat.set i x } S (W.setCell ⟨g, i, none⟩ (nI x)) ∧ Keep W (W.setCell ⟨g, i, none⟩ (nI x)) (Foot b q sv) (Foot b q sv) := by
  have hf : Foot5 q g := .inr (.inr (.inr (.inl (ownB_of hv))))
  obtain ⟨h1, h2, h3⟩ := h.set_far (i := i) (y := nI x) hf
  have h4 := own_set (y := nI x) h.rows.mat hv hi
  rw [inC_set] at h4
  refine ⟨⟨h1, ⟨own_keep h.rows.log fun k hk _ => heap_set fun (e : k = g) => own_ne h.rows.log h.rows.mat (by decide) k hk (e ▸ ownB_of hv), own_keep h.rows.votes fun k hk _ => heap_set fun (e : k = g) => own_ne h.rows.votes h.rows.mat (by decide) k hk (e ▸ ownB_of hv),
    own_keep h.rows.next fun k hk _ => heap_set fun (e : k = g) => h.rows.nm k hk (e ▸ ownB_of hv), by simpa using h4, own_keep h.rows.forms fun k hk _ => heap_set fun (e : k = g) => h.rows.mf k (e ▸ ownB_of hv) hk, h.rows.nm, h.rows.nf, h.rows.mf⟩, h2, h.free⟩, h3⟩
theorem St.next_set (h : St b q sv n S W) {g cap i x : Nat} (hv : q.nv = .slice (some ⟨g, 0, none⟩) n.next.length cap) (hi : i < n.next.length) :
    St b q sv { n with next := n.next.set i x } S (W.setCell ⟨g, i, none⟩ (nI x)) ∧ Keep W (W.setCell ⟨g, i, none⟩ (nI x)) (Foot b q sv) (Foot b q sv) := by
  have hf : Foot5 q g := .inr (.inr (.inl (ownB_of hv)))
  obtain ⟨h1, h2, h3⟩ := h.set_far (i := i) (y := nI x) hf
  have h4 := own_set (y := nI x) h.rows.next hv hi
  rw [inC_set] at h4
  refine ⟨⟨h1, ⟨own_keep h.rows.log fun k hk _ => heap_set fun (e : k = g) => own_ne h.rows.log h.rows.next (by decide) k hk (e ▸ ownB_of hv), own_keep h.rows.votes fun k hk _ => heap_set fun (e : k = g) => own_ne h.rows.votes h.rows.next (by decide) k hk (e ▸ ownB_of hv),
    by simpa using h4, own_keep h.rows.mat fun k hk _ => heap_set fun (e : k = g) => h.rows.nm k (e ▸ ownB_of hv) hk, own_keep h.rows.forms fun k hk _ => heap_set fun (e : k = g) => h.rows.nf k (e ▸ ownB_of hv) hk, h.rows.nm, h.rows.nf, h.rows.mf⟩, h2, h.free⟩, h3⟩
theorem St.forms_set (h : St b q sv n S W) {g cap i x : Nat} (hv : q.fv = .slice (some ⟨g, 0, none⟩) n.forms.length cap) (hi : i < n.forms.length) :
    St b q sv { n with forms := n.forms.set i x } S (W.setCell ⟨g, i, none⟩ (nI x)) ∧ Keep W (W.setCell ⟨g, i, none⟩ (nI x)) (Foot b q sv) (Foot b q sv) := by
  have hf : Foot5 q g := .inr (.inr (.inr (.inr (ownB_of hv))))
  obtain ⟨h1, h2, h3⟩ := h.set_far (i := i) (y := nI x) hf
  have h4 := own_set (y := nI x) h.rows.forms hv hi
  rw [inC_set] at h4
  refine ⟨⟨h1, ⟨own_keep h.rows.log fun k hk _ => heap_set fun (e : k = g) => own_ne h.rows.log h.rows.forms (by decide) k hk (e ▸ ownB_of hv), own_keep h.rows.votes fun k hk _ => heap_set fun (e : k = g) => own_ne h.rows.votes h.rows.forms (by decide) k hk (e ▸ ownB_of hv),
    own_keep h.rows.next fun k hk _ => heap_set fun (e : k = g) => h.rows.nf k hk (e ▸ ownB_of hv), own_keep h.rows.mat fun k hk _ => heap_set fun (e : k = g) => h.rows.mf k hk (e ▸ ownB_of hv), by simpa using h4, h.rows.nm, h.rows.nf, h.rows.mf⟩, h2, h.free⟩, h3⟩
theorem St.votes_set (h : St b q sv n S W) {g cap i : Nat} {x : Bool} (hv : q.vv = .slice (some ⟨g, 0, none⟩) n.votes.length cap) (hi : i < n.votes.length) :
    St b q sv { n with votes := n.votes.set i x } S (W.setCell ⟨g, i, none⟩ (.bool x)) ∧ Keep W (W.setCell ⟨g, i, none⟩ (.bool x)) (Foot b q sv) (Foot b q sv) := by
  have hf : Foot5 q g := .inr (.inl (ownB_of hv))
  obtain ⟨h1, h2, h3⟩ := h.set_far (i := i) (y := .bool x) hf
  have h4 := own_set (y := .bool x) h.rows.votes hv hi
  rw [boC_set] at h4
  refine ⟨⟨h1, ⟨own_keep h.rows.log fun k hk _ => heap_set fun (e : k = g) => own_ne h.rows.log h.rows.votes (by decide) k hk (e ▸ ownB_of hv), by simpa using h4,
    own_keep h.rows.next fun k hk _ => heap_set fun (e : k = g) => own_ne h.rows.next h.rows.votes (by decide) k hk (e ▸ ownB_of hv), own_keep h.rows.mat fun k hk _ => heap_set fun (e : k = g) => own_ne h.rows.mat h.rows.votes (by decide) k hk (e ▸ ownB_of hv), own_keep h.rows.forms fun k hk _ => heap_set fun (e : k = g) => own_ne h.rows.forms h.rows.votes (by decide) k hk (e ▸ ownB_of hv), h.rows.nm, h.rows.nf, h.rows.mf⟩, h2, h.free⟩, h3⟩
end
theorem below_drew (W : World) : Below W.heap.size W W.drew := (Below.refl _ _).drew
/-- what a method leaves: the node n', the messages ms behind S -/
def Done (b : Nat) (n' : Nd) (S : List (Ms × Value)) (ms : List Ms) (F0 : Nat → Prop) (W0 W' : World) : Prop :=
  ∃ q sv es, NewE es ms W0 ∧ St b q sv n' (S ++ ms.zip es) W' ∧ Keep W0 W' F0 (Foot b q sv)
theorem Sent.done {b : Nat} {q : Q5} {sv : Value} {n : Nd} {S : List (Ms × Value)} {ms : List Ms} {W0 W W' : World} {F : Nat → Prop} (h : Sent b n S ms q sv W W') (hK : Keep W0 W F (Foot b q sv)) : Done b n S ms F W0 W' := by
  obtain ⟨sv1, es, h1, h2, h3⟩ := h
  exact ⟨q, sv1, es, h1.pre hK.size, h2, hK.trans h3⟩
theorem Done.pre {b : Nat} {n' : Nd} {S : List (Ms × Value)} {ms : List Ms} {F0 F1 : Nat → Prop} {W0 W1 W' : World} (h : Done b n' S ms F1 W1 W') (hK : Keep W0 W1 F0 F1) : Done b n' S ms F0 W0 W' := by
  obtain ⟨q, sv, es, h1, h2, h3⟩ := h
  exact ⟨q, sv, es, h1.pre hK.size, h2, hK.trans h3⟩
theorem St.done {b : Nat} {q : Q5} {sv : Value} {n : Nd} {S : List (Ms × Value)} {W0 W : World} {F : Nat → Prop} (h : St b q sv n S W) (hK : Keep W0 W F (Foot b q sv)) : Done b n S [] F W0 W := ⟨q, sv, [], ⟨rfl, fun e he => by cases he⟩, by simpa using h, hK⟩
end Go.Proofs.Ytbojfiflemmgaaa
