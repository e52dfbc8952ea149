/-
  Package raft's Tick.
-/
import Derived.Test.YtbojfiflemmgaaaGH
namespace Go.Proofs.Ytbojfiflemmgaaa
open Go.RowKit
set_option linter.unusedSimpArgs false
set_option linter.unusedVariables false

/-- what a call tells: a node and messages, all of it in new memory; nothing that lay has turned -/
structure Out (n' : Nd) (ms : List Ms) (q : Q5) (sv : Value) (es : List Value) (W W' : World) : Prop where
  len : NewE es ms W
  rows : Rows q n' W'
  sent : SentR sv (ms.zip es) W'
  new : ∀ k, Foot5 q k ∨ sv.ownBlock = some k → W.heap.size ≤ k
  free : ∀ x ∈ ms.zip es, ∀ k, x.2.ownBlock = some k → ¬ Foot5 q k ∧ sv.ownBlock ≠ some k
  below : Below W.heap.size W W'
def Box14 (g : Nat) (n : Nd) (q : Q5) (sv : Value) (w : World) : Prop := w.cell? ⟨g, 0, none⟩ = some (nI n.id) ∧ w.cell? ⟨g, 1, none⟩ = some (nI n.term) ∧ w.cell? ⟨g, 2, none⟩ = some (.int .i64 n.vote) ∧ w.cell? ⟨g, 3, none⟩ = some (q.lv) ∧ w.cell? ⟨g, 4, none⟩ = some (nI n.form) ∧ w.cell? ⟨g, 5, none⟩ = some (nI n.role) ∧ w.cell? ⟨g, 6, none⟩ = some (nI n.commit) ∧ w.cell? ⟨g, 7, none⟩ = some (q.vv) ∧ w.cell? ⟨g, 8, none⟩ = some (q.nv) ∧ w.cell? ⟨g, 9, none⟩ = some (q.mv) ∧ w.cell? ⟨g, 10, none⟩ = some (q.fv) ∧ w.cell? ⟨g, 11, none⟩ = some (nI n.clock) ∧ w.cell? ⟨g, 12, none⟩ = some (nI n.due) ∧ w.cell? ⟨g, 13, none⟩ = some (sv)
theorem Blk.box14 {g : Nat} {n : Nd} {q : Q5} {sv : Value} {w : World} (h : Blk g (wkA n q sv) 58 w) : Box14 g n q sv w := ⟨h.cell 0, h.cell 1, h.cell 2, h.cell 3, h.cell 4, h.cell 5, h.cell 6, h.cell 7, h.cell 8, h.cell 9, h.cell 10, h.cell 11, h.cell 12, h.cell 13⟩
theorem Rows.ones {q : Q5} {n : Nd} {W : World} (h : Rows q n W) : q.lv.oneCell' = true ∧ q.vv.oneCell' = true ∧ q.nv.oneCell' = true ∧ q.mv.oneCell' = true ∧ q.fv.oneCell' = true :=
  ⟨(Sees.of_own h.log).one, (Sees.of_own h.votes).one, (Sees.of_own h.next).one, (Sees.of_own h.mat).one, (Sees.of_own h.forms).one⟩
/-- a node that has just been taken up -/
theorem st_new {q : Q5} {n : Nd} {W : World} (h : Rows q n W) : St W.heap.size q (.slice none 0 0) n [] (W.alloc (.cells (wkA n q (.slice none 0 0)) 58)) :=
  ⟨Blk.new W _ _, h.keep fun k _ hl => (below_new W _).block k hl, ⟨World.ownsRow_nil _ _ _ _, fun x hx => by cases hx⟩, fun x hx => by cases hx⟩
theorem out_of {n' : Nd} {ms : List Ms} {q q' : Q5} {sv' : Value} {es : List Value} {B2 B3 : Nat} {W X W2 X2 : World} (he : NewE es ms X) (hB2 : B2 < X.heap.size) (h2 : St B3 q' sv' n' ([] ++ ms.zip es) W2) (hK : Keep X W2 (Foot B3 q (.slice none 0 0)) (Foot B3 q' sv')) (hnew : ∀ k, Foot B3 q (.slice none 0 0) k → W.heap.size ≤ k) (hB : Below W.heap.size W X) (hb2 : W.heap.size ≤ B2) (hn : ¬ Foot B3 q' sv' B2) (hg : W2.grownBy X2 (some B2)) : Out n' ms q' sv' es W X2 := by
  rw [List.nil_append] at h2
  have hnew' : ∀ k, Foot B3 q' sv' k → W.heap.size ≤ k := fun k hk => by
    rcases hK.new hk with h | h
    · exact hnew k h
    · have := hB.size; omega
  refine ⟨he.pre hB.size, h2.rows.keep fun k hk hl => hg.block k hl fun e => hn (by injection e with e; subst e; exact .inr (.inl hk)), ⟨own_keep h2.sent.row fun k hk hl => hg.block k hl fun e => hn (by injection e with e; subst e; exact .inr (.inr hk)), fun x hx => ?_⟩, fun k hk => hnew' k (.inr hk), fun x hx k hk => ⟨fun hf => h2.free x hx k hk (.inr (.inl hf)), fun hf => h2.free x hx k hk (.inr (.inr hf))⟩, ?_⟩
  · exact (h2.sent.ents x hx).keep fun k hk hl => hg.block k hl fun e => by
      injection e with e
      have := he.2 x.2 (List.of_mem_zip hx).2 k hk
      omega
  · refine ⟨hg.os.trans (hK.os.trans hB.os), hg.tape.trans (hK.tape.trans hB.tape), hg.output.trans (hK.output.trans hB.output), Nat.le_trans hB.size (Nat.le_trans hK.size hg.size), fun k hk => ?_⟩
    have h1 := hB.size
    have h3 := hK.size
    exact ((hg.block k (by omega) (fun e => by injection e with e; omega)).trans (hK.block k (by omega) (fun hf => by have := hnew k hf; omega)).1).trans (hB.block k hk)
theorem rows_slices {q : Q5} {n : Nd} {W : World} (h : Rows q n W) : (∃ p c, q.lv = .slice p n.log.length c) ∧ (∃ p c, q.vv = .slice p n.votes.length c) ∧ (∃ p c, q.nv = .slice p n.next.length c) ∧ (∃ p c, q.mv = .slice p n.mat.length c) ∧ (∃ p c, q.fv = .slice p n.forms.length c) :=
  ⟨own_slice h.log, own_slice h.votes, own_slice h.next, own_slice h.mat, own_slice h.forms⟩
set_option maxRecDepth 100000 in
set_option maxHeartbeats 8000000 in
theorem tickC_any (q0 : Q5) (n : Nd) (W : World) (h : SeesN q0 n W) (g : TickOk n) :
    Calls Try.prog 18 #[.agg (ndA n q0)] W fun e W' => ∃ q sv es, e = .returned (.tuple #[.agg (ndA (tickM n).1 q), sv]) ∧ Out (tickM n).1 (tickM n).2 q sv es W W' := by
  obtain ⟨n', hn'⟩ : ∃ n', (tickM n).1 = n' := ⟨_, rfl⟩
  obtain ⟨ms, hms⟩ : ∃ ms, (tickM n).2 = ms := ⟨_, rfl⟩
  have TA := hide (fun b q W (h : St b q (.slice none 0 0) n [] W) => tick_any b q (.slice none 0 0) n [] W h g (by simp))
  rw [hn', hms] at TA ⊢
  have hq0 := h
  obtain ⟨lv0, vv0, nv0, mv0, fv0⟩ := q0
  obtain ⟨pa, ca, rfl, _⟩ := h.log
  obtain ⟨pb, cb, rfl, _⟩ := h.votes
  obtain ⟨pc, cc, rfl, _⟩ := h.next
  obtain ⟨pd, cd, rfl, _⟩ := h.mat
  obtain ⟨pe, ce, rfl, _⟩ := h.forms
  have HB0 := hide (((Below.refl _ W).alloc (Nat.le_refl _) (.cells (ndA n ⟨.slice pa n.log.length ca, .slice pb n.votes.length cb, .slice pc n.next.length cc, .slice pd n.mat.length cd, .slice pe n.forms.length ce⟩) 32)).alloc (by simp) (.cells #[.int .i64 0, .int .i64 0, .int .i64 0, .slice none 0 0, .int .i64 0, .int .i64 0, .int .i64 0, .slice none 0 0, .slice none 0 0, .slice none 0 0, .slice none 0 0, .int .i64 0, .int .i64 0] 32))
  have Z0 : Hid (Blk (W.heap.size + 1) #[.int .i64 0, .int .i64 0, .int .i64 0, .slice none 0 0, .int .i64 0, .int .i64 0, .int .i64 0, .slice none 0 0, .slice none 0 0, .slice none 0 0, .slice none 0 0, .int .i64 0, .int .i64 0] 32 ((W.alloc (.cells (ndA n ⟨.slice pa n.log.length ca, .slice pb n.votes.length cb, .slice pc n.next.length cc, .slice pd n.mat.length cd, .slice pe n.forms.length ce⟩) 32)).alloc (.cells #[.int .i64 0, .int .i64 0, .int .i64 0, .slice none 0 0, .int .i64 0, .int .i64 0, .int .i64 0, .slice none 0 0, .slice none 0 0, .slice none 0 0, .slice none 0 0, .int .i64 0, .int .i64 0] 32))) := by
    have := Blk.new (W.alloc (.cells (ndA n ⟨.slice pa n.log.length ca, .slice pb n.votes.length cb, .slice pc n.next.length cc, .slice pd n.mat.length cd, .slice pe n.forms.length ce⟩) 32)) #[.int .i64 0, .int .i64 0, .int .i64 0, .slice none 0 0, .int .i64 0, .int .i64 0, .int .i64 0, .slice none 0 0, .slice none 0 0, .slice none 0 0, .slice none 0 0, .int .i64 0, .int .i64 0] 32
    rw [World.size_alloc] at this
    exact this
  have WK := hide (working_any ⟨.slice pa n.log.length ca, .slice pb n.votes.length cb, .slice pc n.next.length cc, .slice pd n.mat.length cd, .slice pe n.forms.length ce⟩ n _ (hq0.log.below (unhide HB0) |> fun a => ⟨a, hq0.votes.below (unhide HB0), hq0.next.below (unhide HB0), hq0.mat.below (unhide HB0), hq0.forms.below (unhide HB0)⟩) g.fit)
  have hzz : Hid (((W.alloc (.cells (ndA n ⟨.slice pa n.log.length ca, .slice pb n.votes.length cb, .slice pc n.next.length cc, .slice pd n.mat.length cd, .slice pe n.forms.length ce⟩) 32)).alloc (.cells #[.int .i64 0, .int .i64 0, .int .i64 0, .slice none 0 0, .int .i64 0, .int .i64 0, .int .i64 0, .slice none 0 0, .slice none 0 0, .slice none 0 0, .slice none 0 0, .int .i64 0, .int .i64 0] 32)).heap.size = W.heap.size + 2) := hide (by simp)
  clear h hq0 g hn' hms
  go_enter Try.func18, Try.ntmps18
  go_wp2_with (first
    | (go_at_call 29; refine (unhide WK).mono ?_; rintro e W1 ⟨q, rfl, hR, hF, hc⟩; have HR := hide hR; have HC := hide hc; have HFN := hide hF; obtain ⟨⟨g1, y1, j1⟩, ⟨g2, y2, j2⟩, ⟨g3, y3, j3⟩, ⟨g4, y4, j4⟩, ⟨g5, y5, j5⟩⟩ := rows_slices hR; obtain ⟨lq, vq, nq, mq, fq⟩ := q; simp only at j1 j2 j3 j4 j5; subst j1 j2 j3 j4 j5; clear hR hF hc)
    | (go_at_call 34; refine (unhide TA _ _ _ (st_new (unhide HR))).mono ?_; rintro e W2 ⟨⟨v, rfl⟩, q', sv', es, he, h2, hK2⟩; have HE := hide he; have H2 := hide h2; have HK2 := hide hK2; clear he h2 hK2))
  have he := unhide HE
  have h2 := unhide H2
  have hK2 := unhide HK2
  have s1 : W.heap.size + 2 ≤ W1.heap.size := by have := (unhide HC).size; rw [unhide hzz] at this; exact this
  have HB1 := (unhide HB0).trans ((unhide HC).mono (unhide HB0).size)
  have hnew : ∀ k, Foot W1.heap.size ⟨.slice g1 n.log.length y1, .slice g2 n.votes.length y2, .slice g3 n.next.length y3, .slice g4 n.mat.length y4, .slice g5 n.forms.length y5⟩ (.slice none 0 0) k → W.heap.size + 2 ≤ k := by
    rintro k (rfl | hk | hk)
    · exact s1
    · have := unhide HFN k hk; rw [unhide hzz] at this; exact this
    · cases hk
  have hnF : ¬ Foot W1.heap.size ⟨.slice g1 n.log.length y1, .slice g2 n.votes.length y2, .slice g3 n.next.length y3, .slice g4 n.mat.length y4, .slice g5 n.forms.length y5⟩ (.slice none 0 0) (W.heap.size + 1) := fun hf => by have := hnew _ hf; omega
  have hZ1 := ((unhide Z0).below (unhide HC)).below (below_new W1 (.cells (wkA n ⟨.slice g1 n.log.length y1, .slice g2 n.votes.length y2, .slice g3 n.next.length y3, .slice g4 n.mat.length y4, .slice g5 n.forms.length y5⟩ (.slice none 0 0)) 58))
  have hZ := hK2.blk hZ1 hnF
  have hnB : ¬ Foot W1.heap.size q' sv' (W.heap.size + 1) := (hK2.block _ hZ1.lt hnF).2
  have hBX : Below W.heap.size W (W1.alloc (.cells (wkA n ⟨.slice g1 n.log.length y1, .slice g2 n.votes.length y2, .slice g3 n.next.length y3, .slice g4 n.mat.length y4, .slice g5 n.forms.length y5⟩ (.slice none 0 0)) 58)) := HB1.alloc (by omega) _
  have hB3B : W1.heap.size ≠ W.heap.size + 1 := by omega
  obtain ⟨⟨m1, z1, l1⟩, ⟨m2, z2, l2⟩, ⟨m3, z3, l3⟩, ⟨m4, z4, l4⟩, ⟨m5, z5, l5⟩⟩ := rows_slices h2.rows
  obtain ⟨m6, z6, l6⟩ := own_slice h2.sent.row
  obtain ⟨lq', vq', nq', mq', fq'⟩ := q'
  simp only at l1 l2 l3 l4 l5
  subst l1 l2 l3 l4 l5 l6
  clear WK TA HB0 Z0 HE H2 HK2 hZ1
  rename_i hrest
  refine wp_region_noPanic ?_
  refine wp_region_held_drew (S := (fun w' => Blk W1.heap.size (wkA n' ⟨.slice m1 n'.log.length z1, .slice m2 n'.votes.length z2, .slice m3 n'.next.length z3, .slice m4 n'.mat.length z4, .slice m5 n'.forms.length z5⟩ (.slice m6 ([] ++ ms.zip es).length z6)) 58 w')) (by kernel_rfl) ((h2.blk.below (below_drew _))) (fun hHeld => ?_)
  refine wpAnyH_take (i := 0) (oi := ?oi20001) (v := ?v20001) ?hi20001 (by kernel_rfl) (by kernel_rfl) (by kernel_rfl) (fun _ _ _ h => h) (Or.inl ⟨?hw20001, ?hy20001⟩) (by assumption) ?rest20001
  case hi20001 => (simp only [List.getElem?_toArray, List.getElem?_cons_zero]; rfl)
  case hw20001 => rfl
  case hy20001 => first | (intro wx hSw; have s0_ := hSw.box14; unfold Box14 at s0_; go_simp; done) | (intro wx hSw; have s0_ := hSw.box14; unfold Box14 at s0_; go_simp; with_reducible rfl)
  simp only [Act.put, List.setIfInBounds_toArray, List.set_cons_zero, List.set_cons_succ]
  refine wpAnyH_take (i := 1) (oi := ?oi20002) (v := ?v20002) ?hi20002 (by kernel_rfl) (by kernel_rfl) (by kernel_rfl) (fun _ _ _ h => h) (Or.inl ⟨?hw20002, ?hy20002⟩) (by assumption) ?rest20002
  case hi20002 => (simp only [List.getElem?_toArray, List.getElem?_cons_zero, List.getElem?_cons_succ]; rfl)
  case hw20002 => rfl
  case hy20002 => first | (intro wx hSw; have s0_ := hSw.box14; unfold Box14 at s0_; go_simp; done) | (intro wx hSw; have s0_ := hSw.box14; unfold Box14 at s0_; go_simp; with_reducible rfl)
  simp only [Act.put, List.setIfInBounds_toArray, List.set_cons_zero, List.set_cons_succ]
  refine wpAnyH_take (i := 2) (oi := ?oi20003) (v := ?v20003) ?hi20003 (by kernel_rfl) (by kernel_rfl) (by kernel_rfl) (fun _ _ _ h => h) (Or.inl ⟨?hw20003, ?hy20003⟩) (by assumption) ?rest20003
  case hi20003 => (simp only [List.getElem?_toArray, List.getElem?_cons_zero, List.getElem?_cons_succ]; rfl)
  case hw20003 => rfl
  case hy20003 => first | (intro wx hSw; have s0_ := hSw.box14; unfold Box14 at s0_; go_simp; done) | (intro wx hSw; have s0_ := hSw.box14; unfold Box14 at s0_; go_simp; with_reducible rfl)
  simp only [Act.put, List.setIfInBounds_toArray, List.set_cons_zero, List.set_cons_succ]
  refine wpAnyH_take (i := 3) (oi := ?oi20004) (v := ?v20004) ?hi20004 (by kernel_rfl) (by kernel_rfl) (by kernel_rfl) (fun _ _ _ h => h) (Or.inl ⟨?hw20004, ?hy20004⟩) (by assumption) ?rest20004
  case hi20004 => (simp only [List.getElem?_toArray, List.getElem?_cons_zero, List.getElem?_cons_succ]; rfl)
  case hw20004 => rfl
  case hy20004 => first | (intro wx hSw; have s0_ := hSw.box14; unfold Box14 at s0_; go_simp; done) | (intro wx hSw; have s0_ := hSw.box14; unfold Box14 at s0_; go_simp; with_reducible rfl)
  simp only [Act.put, List.setIfInBounds_toArray, List.set_cons_zero, List.set_cons_succ]
  refine wpAnyH_ready (rs := [4]) (by kernel_rfl) (by simp) ?_
  refine AllReadyH.cons rfl (fun K20005 hK20005 => ?_) AllReadyH.nil
  refine step_whole (by rfl) 32 _ _ (by rfl) (W.heap.size + 1) _ (ndA n' ⟨.slice m1 n'.log.length z1, .slice m2 n'.votes.length z2, .slice m3 n'.next.length z3, .slice m4 n'.mat.length z4, .slice m5 n'.forms.length z5⟩) _ _ (hZ.below (below_drew _)) (by rfl) (by rfl) (by rfl) (by kernel_rfl) (by simp [Value.oneCell']) ?_; intro X2 hb_ hg_ hs_
  refine hK20005.out _ _ ?hs20005 (fun hHeld20005 => ?_)
  case hs20005 => exact ((h2.blk.below (below_drew _)).grown hg_ hB3B)
  clear hHeld
  have hHeld := hHeld20005; clear hHeld20005 hK20005 K20005
  refine wpAnyH_take (i := 5) (oi := ?oi20006) (v := ?v20006) ?hi20006 (by kernel_rfl) (by kernel_rfl) (by kernel_rfl) (fun _ _ _ h => h) (Or.inl ⟨?hw20006, ?hy20006⟩) (by assumption) ?rest20006
  case hi20006 => (simp only [List.getElem?_toArray, List.getElem?_cons_zero, List.getElem?_cons_succ]; rfl)
  case hw20006 => rfl
  case hy20006 => first | (intro wx hSw; have s0_ := hSw.box14; unfold Box14 at s0_; go_simp; done) | (intro wx hSw; have s0_ := hSw.box14; unfold Box14 at s0_; go_simp; with_reducible rfl)
  simp only [Act.put, List.setIfInBounds_toArray, List.set_cons_zero, List.set_cons_succ]
  refine wpAnyH_done (by kernel_rfl) ?_ _
  refine NoPanic.normal ?_
  refine hrest _ _ ?_
  have hg0 : W2.grownBy X2 (some (W.heap.size + 1)) := ⟨hg_.os, hg_.tape, hg_.output, hg_.size, hg_.block⟩
  go_wp2
  have r0 := hb_.cell 0
  have r1 := hb_.cell 1
  have r2 := hb_.cell 2
  have r3 := hb_.cell 3
  have r4 := hb_.cell 4
  have r5 := hb_.cell 5
  have r6 := hb_.cell 6
  have r7 := hb_.cell 7
  have r8 := hb_.cell 8
  have r9 := hb_.cell 9
  have r10 := hb_.cell 10
  have r11 := hb_.cell 11
  have r12 := hb_.cell 12
  simp at r0 r1 r2 r3 r4 r5 r6 r7 r8 r9 r10 r11 r12
  refine bodyPost_ret (v := .tuple #[.agg (ndA n' ⟨.slice m1 n'.log.length z1, .slice m2 n'.votes.length z2, .slice m3 n'.next.length z3, .slice m4 n'.mat.length z4, .slice m5 n'.forms.length z5⟩), (.slice m6 ([] ++ ms.zip es).length z6)]) (by simp [results, Try.results18, go_sem, r0, r1, r2, r3, r4, r5, r6, r7, r8, r9, r10, r11, r12]) rfl ?_
  exact ⟨⟨.slice m1 n'.log.length z1, .slice m2 n'.votes.length z2, .slice m3 n'.next.length z3, .slice m4 n'.mat.length z4, .slice m5 n'.forms.length z5⟩, (.slice m6 ([] ++ ms.zip es).length z6), rfl, es, out_of he (by simp; omega) h2 hK2 (fun k hk => by have := hnew k hk; omega) hBX (by omega) hnB hg0⟩
end Go.Proofs.Ytbojfiflemmgaaa
