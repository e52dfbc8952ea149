/-
  Package raft's others, sendEntriesToAll.
-/
import Derived.Test.YtbojfiflemmgaaaG6
import Derived.Test.YtbojfiflemmgaaaGR
namespace Go.Proofs.Ytbojfiflemmgaaa
open Go.RowKit Go.Shelf
set_option linter.unusedSimpArgs false
set_option linter.unusedVariables false
attribute [local go_sem] Oper.semAt_some

theorem others_eq : ∀ s, s ≤ 5 → ∀ i, i < s → ((List.range s).filter fun k => k != i) = (List.range (s - 1)).map fun k => if k < i then k else k + 1 := by decide
theorem others_len (n : Nd) (h1 : n.votes.length ≤ 5) (h2 : n.id < n.votes.length) : (othersM n).length = n.votes.length - 1 := by
  unfold othersM
  rw [others_eq _ h1 _ h2]; simp
theorem others_at (n : Nd) (h1 : n.votes.length ≤ 5) (h2 : n.id < n.votes.length) (k : Nat) (hk : k < (othersM n).length) : (othersM n)[k] = if k < n.id then k else k + 1 := by
  have e : othersM n = (List.range (n.votes.length - 1)).map fun k => if k < n.id then k else k + 1 := others_eq _ h1 _ h2
  simp only [e]
  simp
set_option maxRecDepth 100000 in
set_option maxHeartbeats 2000000 in
theorem others_in (n : Nat) (hn : 1 ≤ n) (L b : Nat) (nd : Nd) (h5 : nd.votes.length ≤ 5) (hid : nd.id < nd.votes.length) (J : Nat → World → Prop) (hJ : ∀ k W, J k W → ∃ q sv S, St b q sv nd S W)
    (hY : ∀ k (hk : k < (othersM nd).length) W1, J k W1 → YieldAt Fence.wide (n - 1) Try.prog L #[nI (othersM nd)[k]] W1 fun e W' => e = .returned (.bool true) ∧ J (k + 1) W') (W : World) (h0 : J 0 W) :
    CallsIn Fence.wide n Try.prog 75 (#[ptr b 0] ++ #[.func (.yield L) #[] #[]] ++ #[]) W fun e W' => (∃ v, e = .returned v) ∧ J (othersM nd).length W' := by
  have hlen := others_len nd h5 hid
  have YY := hide (fun (i : Nat) (h : i < nd.id) (W1 : World) (hj : J i W1) => (show YieldAt Fence.wide (n - 1) Try.prog L #[nI i] W1 fun e W' => e = .returned (.bool true) ∧ J (i + 1) W' from by
    have := hY i (by omega) W1 hj
    rw [others_at nd h5 hid i (by omega), if_pos h] at this; exact this))
  have YZ := hide (fun (i : Nat) (h : nd.id < i) (h2 : i < nd.votes.length) (W1 : World) (hj : J (i - 1) W1) => (show YieldAt Fence.wide (n - 1) Try.prog L #[nI i] W1 fun e W' => e = .returned (.bool true) ∧ J i W' from by
    have := hY (i - 1) (by omega) W1 hj
    rw [others_at nd h5 hid (i - 1) (by omega), if_neg (by omega), show i - 1 + 1 = i by omega] at this; exact this))
  obtain ⟨q, sv, S, h⟩ := hJ 0 W h0
  obtain ⟨p, cap, hv⟩ := own_slice h.rows.votes
  have c7 := h.c7
  rw [hv] at c7
  simp only [List.append_toArray, List.cons_append, List.nil_append, List.append_nil]
  refine callsIn_of_wp Try.func75 rfl trivial ?_ rfl
  simp only [Try.ntmps75, List.size_toArray, List.length_cons, List.length_nil, Nat.reduceAdd, Nat.reduceSub, Array.replicate_succ, Array.replicate_zero, List.push_toArray, List.append_toArray, List.nil_append, List.cons_append]
  gi_wp2
  gi_loopw [11] (fun i wr => ∃ k : Nat, k ≤ nd.votes.length ∧ i = .int .i64 (k : Int) ∧ J (if k ≤ nd.id then k else k - 1) wr) (fun i wr => nd.votes.length - (intOf i).toNat)
  case atStart => exact ⟨0, Nat.zero_le _, rfl, by rw [if_pos (by omega)]; exact h0⟩
  case round =>
    obtain ⟨k, hk, rfl, hj⟩ := hrel
    by_cases hlt : k < nd.votes.length
    · have hnx : IntKind.i64.wrap ((k : Int) + 1) = ((k + 1 : Nat) : Int) := (IntWalk.i64_in _ (by omega)).trans (by omega)
      obtain ⟨q1, sv1, S1, h1⟩ := hJ _ wr hj
      have c0 := h1.c0
      rcases Nat.lt_trichotomy k nd.id with hc | hc | hc
      · rw [if_pos (by omega)] at hj
        have hne : ((k : Int) == (nd.id : Int)) = false := by rw [beq_eq_false_iff_ne]; omega
        have hne2 : ¬ (k : Int) = (nd.id : Int) := by omega
        obtain ⟨fn, tmps, assign, body, hy, hR⟩ := unhide YY k hc wr hj
        gi_wp2
        refine hR.mono ?_
        rintro e W3 ⟨rfl, hJ3⟩
        gi_wp2
        go_roundw
        case rel => exact ⟨k + 1, by omega, by go_num, by rw [if_pos (by omega)]; exact hJ3⟩
        case measure => simp [intOf] <;> omega
      · rw [if_pos (by omega)] at hj
        have hne : ((k : Int) == (nd.id : Int)) = true := by rw [beq_iff_eq]; omega
        have hne2 : (k : Int) = (nd.id : Int) := by omega
        gi_wp2
        refine ⟨fun _ h => (by cases h), ?_⟩
        gi_wp2
        go_roundw
        case rel => exact ⟨k + 1, by omega, by go_num, by rw [if_neg (by omega)]; exact hj⟩
        case measure => simp [intOf] <;> omega
      · rw [if_neg (by omega)] at hj
        have hne : ((k : Int) == (nd.id : Int)) = false := by rw [beq_eq_false_iff_ne]; omega
        have hne2 : ¬ (k : Int) = (nd.id : Int) := by omega
        obtain ⟨fn, tmps, assign, body, hy, hR⟩ := unhide YZ k hc hlt wr hj
        gi_wp2
        refine hR.mono ?_
        rintro e W3 ⟨rfl, hJ3⟩
        gi_wp2
        go_roundw
        case rel => exact ⟨k + 1, by omega, by go_num, by rw [if_neg (by omega)]; exact hJ3⟩
        case measure => simp [intOf] <;> omega
    · obtain rfl : k = nd.votes.length := by omega
      gi_wp2
      go_end0
      refine ⟨⟨_, rfl⟩, ?_⟩
      rw [if_neg (by omega)] at hj
      rw [hlen]
      exact hj

/-- a row of entries for each message, in new memory -/
def NewE (es : List Value) (ms : List Ms) (W0 : World) : Prop := es.length = ms.length ∧ ∀ e ∈ es, ∀ k, e.ownBlock = some k → W0.heap.size ≤ k
theorem NewE.pre {es : List Value} {ms : List Ms} {W0 W1 : World} (h : NewE es ms W1) (hs : W0.heap.size ≤ W1.heap.size) : NewE es ms W0 := ⟨h.1, fun e he k hk => Nat.le_trans hs (h.2 e he k hk)⟩
/-- messages that are to be sent, one behind the other, each with some row of its own -/
def Sent (b : Nat) (n : Nd) (S : List (Ms × Value)) (ms : List Ms) (q0 : Q5) (sv0 : Value) (W0 : World) (W : World) : Prop :=
  ∃ sv es, NewE es ms W0 ∧ St b q0 sv n (S ++ ms.zip es) W ∧ Keep W0 W (Foot b q0 sv0) (Foot b q0 sv)
theorem Sent.start {b : Nat} {q : Q5} {sv : Value} {n : Nd} {S : List (Ms × Value)} {W : World} (h : St b q sv n S W) : Sent b n S [] q sv W W := ⟨sv, [], ⟨rfl, fun e he => by cases he⟩, by simpa using h, Keep.refl _ _⟩
theorem Sent.more {b : Nat} {q : Q5} {sv : Value} {n : Nd} {S : List (Ms × Value)} {ms : List Ms} {W0 W W' : World} (h : Sent b n S ms q sv W0 W) (hb : Below W.heap.size W W') : Sent b n S ms q sv W0 W' := by
  obtain ⟨sv1, es, h1, h2, h3⟩ := h
  exact ⟨sv1, es, h1, h2.call hb, h3.trans (Keep.call _ hb)⟩
theorem putObj_other {W : World} {j k : Nat} {o : Obj} (h : k ≠ j) : (W.putObj j o).heap[k]? = W.heap[k]? := World.putObj_heap_other h
theorem St.putObj {b : Nat} {q : Q5} {sv : Value} {n : Nd} {S : List (Ms × Value)} {W : World} (h : St b q sv n S W) {j : Nat} (hj : ¬ IsC j W) (o : Obj) : St b q sv n S (W.putObj j o) := by
  refine h.keep fun k hk hl => putObj_other fun e => hj (e ▸ ?_)
  rcases hk with hk | ⟨x, hx, hk⟩
  · rcases hk with rfl | hk | hk
    · exact ⟨_, _, _, h.blk⟩
    · obtain ⟨c, T, h1, _⟩ := h.rows.ty hk; exact ⟨_, _, _, h1⟩
    · obtain ⟨c, h1⟩ := own_ty h.sent.row hk; exact ⟨_, _, _, h1⟩
  · exact (h.sent.ents x hx).isC hk
theorem Keep.put {W0 W : World} {F G : Nat → Prop} (h : Keep W0 W F G) {j : Nat} (hj : W0.heap.size ≤ j) (hj2 : j < W.heap.size) (o : Obj) : Keep W0 (W.putObj j o) F G :=
  ⟨h.os, h.tape, h.output, by have := h.size; simpa [World.putObj] using this, fun k hk hf => ⟨(putObj_other (by omega)).trans (h.block k hk hf).1, (h.block k hk hf).2⟩⟩
theorem not_isC_loop {W : World} {j : Nat} (h : ∃ r, W.heap[j]? = some (.loop r)) : ¬ IsC j W := by
  obtain ⟨r, h⟩ := h
  rintro ⟨c, T, fz, h2⟩
  rw [h] at h2; cases h2
theorem not_isC_def {W : World} {j : Nat} {r} (h : W.heap[j]? = some (.deferred r)) : ¬ IsC j W := by
  rintro ⟨c, T, fz, h2⟩
  rw [h] at h2; cases h2
theorem keepsFrom_of {W W' : World} {F F' : Nat → Prop} (B : Nat) (h : Keep W W' F F') (hF : ∀ k, F k → IsC k W) : KeepsFrom B W W' := ⟨h.size, fun k o _ hk ho => by
  have hl : k < W.heap.size := (Array.getElem?_eq_some_iff.1 hk).1
  refine (h.block k hl fun hf => ?_).1.trans hk
  obtain ⟨c, T, fz, h2⟩ := hF k hf
  rw [hk] at h2
  cases h2
  cases ho⟩
theorem St.footC {b : Nat} {q : Q5} {sv : Value} {n : Nd} {S : List (Ms × Value)} {W : World} (h : St b q sv n S W) : ∀ k, Foot b q sv k → IsC k W := by
  rintro k (rfl | hk | hk)
  · exact ⟨_, _, _, h.blk⟩
  · obtain ⟨c, T, h1, _⟩ := h.rows.ty hk; exact ⟨_, _, _, h1⟩
  · obtain ⟨c, h1⟩ := own_ty h.sent.row hk; exact ⟨_, _, _, h1⟩
theorem Sent.putObj {b : Nat} {q : Q5} {sv : Value} {n : Nd} {S : List (Ms × Value)} {ms : List Ms} {W0 W : World} (h : Sent b n S ms q sv W0 W) {j : Nat} (hj : W0.heap.size ≤ j) (hj2 : j < W.heap.size) (hc : ¬ IsC j W) (o : Obj) : Sent b n S ms q sv W0 (W.putObj j o) := by
  obtain ⟨sv1, es, h1, h2, h3⟩ := h
  exact ⟨sv1, es, h1, h2.putObj hc o, h3.put hj hj2 o⟩
theorem Sent.snoc {b : Nat} {q : Q5} {sv sv1 sv2 ev : Value} {n : Nd} {S : List (Ms × Value)} {ms : List Ms} {m : Ms} {es : List Value} {W0 W W' : World} (h1 : NewE es ms W0) (h3 : Keep W0 W (Foot b q sv) (Foot b q sv1)) (hv : ∀ k, ev.ownBlock = some k → W.heap.size ≤ k) (g : St b q sv2 n (S ++ ms.zip es ++ [(m, ev)]) W') (k : Keep W W' (Foot b q sv1) (Foot b q sv2)) : Sent b n S (ms ++ [m]) q sv W0 W' := by
  refine ⟨sv2, es ++ [ev], ⟨by simp [h1.1], fun e he j hj => ?_⟩, ?_, h3.trans k⟩
  · rcases List.mem_append.1 he with he | he
    · exact h1.2 e he j hj
    · obtain rfl := List.mem_singleton.1 he
      exact Nat.le_trans h3.size (hv j hj)
  rw [List.zip_append h1.1.symm]
  rw [List.append_assoc] at g
  exact g
/-- each other node's next entry may be sent -/
def NextOk (n : Nd) : Prop := ∀ k, k < n.votes.length → k ≠ n.id → 1 ≤ n.next.getD k 0 ∧ n.next.getD k 0 ≤ 1000000
theorem spread_len (n : Nd) (f : Fit n) : (spreadM n).length = n.votes.length - 1 := by simp [spreadM, others_len n f.size f.id]
set_option maxRecDepth 100000 in
set_option maxHeartbeats 4000000 in
theorem sendAll_any (b : Nat) (q : Q5) (sv : Value) (n : Nd) (S : List (Ms × Value)) (W : World) (h : St b q sv n S W) (f : Fit n) (hnx : NextOk n) (hS : S.length ≤ 90000) :
    Calls Try.prog 60 #[ptr b 0] W fun e W' => (∃ v, e = .returned v) ∧ Sent b n S (spreadM n) q sv W W' := by
  refine (callsIn_wide (n := 4)).1 ?_
  have h1 := h.call (below_new W (.cells #[ptr b 0] 75))
  have hbx := Blk.new W #[ptr b 0] 75
  have hnf : ¬ Foot b q sv W.heap.size := fun hf => by have := h.flt hf; omega
  have hK0 := Keep.call (Foot b q sv) (below_new W (.cells #[ptr b 0] 75))
  refine callsIn_of_wp_marks Try.func60 rfl trivial ?_ rfl
  simp only [Try.ntmps60, List.size_toArray, List.length_cons, List.length_nil, Nat.reduceAdd, Nat.reduceSub, Array.replicate_succ, Array.replicate_zero, List.push_toArray, List.append_toArray, List.nil_append, List.cons_append]
  gi_wp2
  have hol := others_len n f.size f.id
  refine range_all (by omega) (gf := 75) (bd := #[ptr b 0]) (lb := #[]) rfl (enters_of Try.func75 (by kernel_rfl) rfl) (fun x : Nat => #[nI x]) (othersM n) (fun _ => rfl)
    (fun k W' => Sent b n S ((spreadM n).take k) q sv (W.alloc (.cells #[ptr b 0] 75)) W')
    (fun k A B hi hb => hi.more hb)
    (fun k A j o hi hj hr => hi.putObj hj (by obtain ⟨r, hr⟩ := hr; exact (Array.getElem?_eq_some_iff.1 hr).1) (not_isC_loop hr) o)
    (Sent.start h1)
    (fun L J A hJI hJm hY hJ0 => others_in _ (by omega) L b n f.size f.id J (fun k B hj => by obtain ⟨sv1, es, _, h2, _⟩ := hJI k B hj; exact ⟨_, _, _, h2⟩) hY A hJ0)
    (fun x => { tmps := #[ptr b 0, ptr W.heap.size 0, nI x, ptr b 0, .func (.func 75) #[ptr b 0] #[], nI x, undef, undef, undef], defers := [] }) ?assign ?body ?done
  case assign =>
    intro L k x A K hi hK
    gi_wp2
    exact hK
  case body =>
    intro L k hk A hi
    obtain ⟨sv1, es, he, hs, hkp⟩ := hi
    have hc := (hkp.blk hbx hnf).cell 0
    simp at hc
    have hat := others_at n f.size f.id k hk
    have hto : (othersM n)[k] < n.votes.length ∧ (othersM n)[k] ≠ n.id := by rw [hat]; split <;> omega
    obtain ⟨n1, n2⟩ := hnx _ hto.1 hto.2
    have hsk : (spreadM n).take (k + 1) = (spreadM n).take k ++ [sendM n (othersM n)[k]] := by
      rw [List.take_succ_eq_append_getElem (by rw [spread_len n f]; omega)]
      simp [spreadM]
    have hzl : (((spreadM n).take k).zip es).length ≤ 5 := by
      have := f.size
      simp [spread_len n f]; omega
    have SE := hide (sendEntries_any b q sv1 n (S ++ ((spreadM n).take k).zip es) (othersM n)[k] A hs f hto.1 n1 n2 (by rw [List.length_append]; omega))
    obtain ⟨to, hto2⟩ : ∃ to, (othersM n)[k] = to := ⟨_, rfl⟩
    rw [hto2] at SE hsk ⊢
    have HSK := hide hsk
    clear hsk hat hto2
    gi_wp2_with (refine ⟨trivial, ?_⟩; gi_at_call 71; refine (CallsIn.inRound L (callsIn_wide.2 (unhide SE))).mono ?_; rintro e W3 ⟨⟨v, rfl⟩, sv2, ev, h3, hk3, hnv⟩)
    exact ⟨keepsFrom_of _ hk3 hs.footC, by rw [unhide HSK]; exact Sent.snoc he hkp hnv h3 hk3⟩
  case done =>
    rintro D A hD ⟨sv1, es, he, hs, hkp⟩ hd
    gi_wp2
    refine ⟨by simp, .inl ⟨_, _, rfl, run_takeDeferred hd, ?_⟩⟩
    have hfull : (spreadM n).take (othersM n).length = spreadM n := List.take_of_length_le (by rw [spread_len n f]; omega)
    rw [hfull] at he hs
    have hj2 := (Array.getElem?_eq_some_iff.1 hd).1
    refine ⟨_, results_none rfl _ _ _, ⟨_, rfl⟩, sv1, es, he.pre (by simp), hs.putObj (not_isC_def hd) _, hK0.trans ?_⟩
    simp at hD
    exact hkp.put (by simp; omega) hj2 _
end Go.Proofs.Ytbojfiflemmgaaa
