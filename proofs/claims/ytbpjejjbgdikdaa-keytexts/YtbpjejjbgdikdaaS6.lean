/-
  What package key's appendKey returns of a text and of bytes, and of any value; what Key returns.
-/
import Derived.Test.YtbpjejjbgdikdaaS5
import Derived.Test.YtbpjejjbgdikdaaH
import Derived.Laws.BytesArg
namespace Go.Proofs.Ytbpjejjbgdikdaa
open Go.RowKit Go.Shelf
set_option linter.unusedSimpArgs false
set_option linter.unusedVariables false
attribute [local go_sem] Oper.semAt_some

theorem AK.app {w : World} {B : Nat} {v0 : Value} {cs : Array Value} {k : Nat} {xs : List Value} {v : Value} {W : World} (h : AK w B v0 cs k xs v W) (o : Obj) : App w B v0 w.heap.size k xs [] (W.alloc o) :=
  ⟨v, h.box.alloc o, by simpa using h.row.alloc o, h.lies, grownBy_trans h.grown (grownBy_alloc' W o none) (Or.inr fun _ e => by cases e)⟩

set_option maxRecDepth 100000 in
set_option maxHeartbeats 4000000 in
theorem appendKey4_in (B : Nat) (p : Option Addr) (k c0 : Nat) (xs : List Value) (m s : Int) (t : ByteArray) (w : World) (hrow : w.ownsRow B 5 1 (.slice p k c0) k xs) (hBw : B ≤ w.heap.size) (hk : k ≤ 900000) (ht : t.size ≤ 40) :
    CallsIn Fence.wide 4 Try.prog 27 #[.slice p k c0, V 4 m s t] w (Post B (.slice p k c0) w (k + 1 + (markL t).length) (xs ++ I8 (beK 0 4 1) ++ I8 (markL t))) := by
  have H0 := AK.start (cs := #[.int .i64 4, .int .i64 m, .int .i64 s, .string t]) hrow hBw
  obtain ⟨i0, hi, hz0, hz1, hz2⟩ := info_parts info_byte
  refine callsIn_of_wp_marks Try.func27 rfl trivial ?_ rfl
  simp only [Try.ntmps27, List.size_toArray, List.length_cons, List.length_nil, Nat.reduceAdd, Nat.reduceSub, Array.replicate_succ, Array.replicate_zero, List.push_toArray, List.append_toArray, List.nil_append, List.cons_append]
  gi_wp2_with (refine ⟨trivial, ?_⟩; first | (gi_at_call 39; refine (callsIn_wide.2 (app8_any B _ _ _ _ _ (by decide) _ H0.row H0.low (by omega))).mono ?_; rintro e W1 ⟨g1, c1, rfl, hown1, hgr1, hat1⟩; obtain ⟨H1, hc1, hf1, hv1⟩ := H0.call hown1 hgr1 hat1; clear H0; have hv10 := hv1 0; have hv13 := hv1 3; simp at hv10 hv13) | (gi_at_call 43; refine (marked_in _ _ _).mono ?_; rintro e w' ⟨rfl, rfl⟩))
  have hH1 := H1.grown.size
  obtain ⟨W2, hW2⟩ : ∃ W2, W1.setCell ⟨w.heap.size, 0, none⟩ (.slice (some ⟨g1, 0, none⟩) (k + 1) c1) = W2 := ⟨_, rfl⟩
  rw [hW2] at H1 hH1 ⊢
  have hsz : W1.heap.size = W2.heap.size := by rw [← hW2]; simp
  have bN := Boxed.new W2 9 (.string t)
  have hbox := H1.box.lt
  refine wpIn_rangeFunc_ownG rfl (by omega) (gf := 60) (lb := #[.pointer (some ⟨W2.heap.size, 0, none⟩)]) (by simp [hsz]; rfl) trivial (enters_of Try.func60 (by kernel_rfl) rfl)
    (marked_stops 3 (by omega) W2.heap.size t (by omega) _ bN) kps_t (kps_b (by simp)) (Below.refl _ _) (fun _ => rfl)
    (App w B (.slice p k c0) w.heap.size (k + 1) _)
    (fun _ _ _ => False)
    (App.own (by simp; omega))
    (fun _ _ _ _ _ hs _ _ => hs)
    (H1.app _)
    (a₁ := ?a1) ?assign ?body ?done ?stop
  case assign =>
    intro l x W K hK
    gi_wp2
    exact hK
  case body =>
    rintro l pre y W ⟨v', hv, hr, hl, hg⟩ hlt
    have hc := hv.cell
    have hsz := hg.size
    have hlt' : pre.length < 2 * t.size + 2 := hlt
    gi_wp2_with (gi_at_builtin; refine wpListIn_append_at _ rfl _ _ 49 rfl B 5 i0 (.int .u8 0) 1 1 Try.underlying49 hi hz0 hz1 hz2 rfl (by decide) _ _ _ rfl (hr.alloc _) ⟨W.heap.size, 0, none⟩ 1 1 [.int .u8 y] rfl rfl (cell_one_new _ _ _) (by simp [Value.oneCell']) (by decide) (by unfold maxLen; omega) (by omega) (by simp; omega) ?_; intro g cap w1 hown' hgrow hat; obtain ⟨hv1, hk2, hoth, happ⟩ := App.step hBw (Nat.le_refl _) hv hr hl hg hown' hgrow hat; have hc1 := hv1.cell; have hf1 := hv1.frozen)
    exact ⟨hk2.from _, fun hb => hoth _ _ _ (by decide) (by omega) hb, happ⟩
  case done =>
    rintro D ys W hD rfl ⟨v', hv, hr, hl, hg⟩ hK
    obtain ⟨g, cap, rfl, _, _⟩ := hr.form (by omega)
    have hc := hv.cell
    gi_wp2
    refine ⟨by simp, .inl ⟨_, _, rfl, run_takeDeferred hK, ?_⟩⟩
    refine ⟨_, results_tmp rfl _ _ _, g, cap, rfl, ownsRow_putObj hr _ hK rfl, grownBy_trans hg (grownBy_putObj' W D _) (Or.inr fun r e => by cases e; simp at hD; omega), ?_⟩
    rcases hl with h | ⟨g', h, hge⟩
    · left; rw [← h]; rfl
    · right; cases h; exact hge
  case stop =>
    rintro D c pre W _ _ h _
    exact h.elim

set_option maxRecDepth 100000 in
set_option maxHeartbeats 4000000 in
theorem appendKey5_in (B : Nat) (p : Option Addr) (k c0 : Nat) (xs : List Value) (m s : Int) (t : ByteArray) (w : World) (hrow : w.ownsRow B 5 1 (.slice p k c0) k xs) (hBw : B ≤ w.heap.size) (hk : k ≤ 900000) (ht : t.size ≤ 40) :
    CallsIn Fence.wide 4 Try.prog 27 #[.slice p k c0, V 5 m s t] w (Post B (.slice p k c0) w (k + 1 + (markL t).length) (xs ++ I8 (beK 0 5 1) ++ I8 (markL t))) := by
  have H0 := AK.start (cs := #[.int .i64 5, .int .i64 m, .int .i64 s, .string t]) hrow hBw
  obtain ⟨i0, hi, hz0, hz1, hz2⟩ := info_parts info_byte
  refine callsIn_of_wp_marks Try.func27 rfl trivial ?_ rfl
  simp only [Try.ntmps27, List.size_toArray, List.length_cons, List.length_nil, Nat.reduceAdd, Nat.reduceSub, Array.replicate_succ, Array.replicate_zero, List.push_toArray, List.append_toArray, List.nil_append, List.cons_append]
  gi_wp2_with (refine ⟨trivial, ?_⟩; first | (gi_at_call 39; refine (callsIn_wide.2 (app8_any B _ _ _ _ _ (by decide) _ H0.row H0.low (by omega))).mono ?_; rintro e W1 ⟨g1, c1, rfl, hown1, hgr1, hat1⟩; obtain ⟨H1, hc1, hf1, hv1⟩ := H0.call hown1 hgr1 hat1; clear H0; have hv10 := hv1 0; have hv13 := hv1 3; simp at hv10 hv13) | (gi_at_call 43; refine (marked_in _ _ _).mono ?_; rintro e w' ⟨rfl, rfl⟩))
  have hH1 := H1.grown.size
  obtain ⟨W2, hW2⟩ : ∃ W2, W1.setCell ⟨w.heap.size, 0, none⟩ (.slice (some ⟨g1, 0, none⟩) (k + 1) c1) = W2 := ⟨_, rfl⟩
  rw [hW2] at H1 hH1 ⊢
  have hsz : W1.heap.size = W2.heap.size := by rw [← hW2]; simp
  have bN := Boxed.new W2 9 (.string t)
  have hbox := H1.box.lt
  refine wpIn_rangeFunc_ownG rfl (by omega) (gf := 60) (lb := #[.pointer (some ⟨W2.heap.size, 0, none⟩)]) (by simp [hsz]; rfl) trivial (enters_of Try.func60 (by kernel_rfl) rfl)
    (marked_stops 3 (by omega) W2.heap.size t (by omega) _ bN) kps_t (kps_b (by simp)) (Below.refl _ _) (fun _ => rfl)
    (App w B (.slice p k c0) w.heap.size (k + 1) _)
    (fun _ _ _ => False)
    (App.own (by simp; omega))
    (fun _ _ _ _ _ hs _ _ => hs)
    (H1.app _)
    (a₁ := ?a1) ?assign ?body ?done ?stop
  case assign =>
    intro l x W K hK
    gi_wp2
    exact hK
  case body =>
    rintro l pre y W ⟨v', hv, hr, hl, hg⟩ hlt
    have hc := hv.cell
    have hsz := hg.size
    have hlt' : pre.length < 2 * t.size + 2 := hlt
    gi_wp2_with (gi_at_builtin; refine wpListIn_append_at _ rfl _ _ 49 rfl B 5 i0 (.int .u8 0) 1 1 Try.underlying49 hi hz0 hz1 hz2 rfl (by decide) _ _ _ rfl (hr.alloc _) ⟨W.heap.size, 0, none⟩ 1 1 [.int .u8 y] rfl rfl (cell_one_new _ _ _) (by simp [Value.oneCell']) (by decide) (by unfold maxLen; omega) (by omega) (by simp; omega) ?_; intro g cap w1 hown' hgrow hat; obtain ⟨hv1, hk2, hoth, happ⟩ := App.step hBw (Nat.le_refl _) hv hr hl hg hown' hgrow hat; have hc1 := hv1.cell; have hf1 := hv1.frozen)
    exact ⟨hk2.from _, fun hb => hoth _ _ _ (by decide) (by omega) hb, happ⟩
  case done =>
    rintro D ys W hD rfl ⟨v', hv, hr, hl, hg⟩ hK
    obtain ⟨g, cap, rfl, _, _⟩ := hr.form (by omega)
    have hc := hv.cell
    gi_wp2
    refine ⟨by simp, .inl ⟨_, _, rfl, run_takeDeferred hK, ?_⟩⟩
    refine ⟨_, results_tmp rfl _ _ _, g, cap, rfl, ownsRow_putObj hr _ hK rfl, grownBy_trans hg (grownBy_putObj' W D _) (Or.inr fun r e => by cases e; simp at hD; omega), ?_⟩
    rcases hl with h | ⟨g', h, hge⟩
    · left; rw [← h]; rfl
    · right; cases h; exact hge
  case stop =>
    rintro D c pre W _ _ h _
    exact h.elim

theorem beK_one {x : Int} (h : 0 ≤ x ∧ x < 256) : beK 0 x 1 = [x] := by
  rw [show (1 : Nat) = 0 + 1 from rfl, beK_succ]
  simp [beK]; omega

/-- what appendKey returns and leaves, of a value that may be -/
theorem appendKey_any (B : Nat) (p : Option Addr) (k c0 : Nat) (xs : List Value) (kd n s : Int) (t : ByteArray) (w : World) (hrow : w.ownsRow B 5 1 (.slice p k c0) k xs) (hBw : B ≤ w.heap.size) (hk : k ≤ 900000) (hok : Ok kd n s t) :
    Calls Try.prog 27 #[.slice p k c0, V kd n s t] w (Post B (.slice p k c0) w (k + (keyN kd n s t).length) (xs ++ I8 (keyN kd n s t))) := by
  obtain ⟨hkd, hr, hn, hs, ht, _⟩ := hok
  have hd : kd = 0 ∨ kd = 1 ∨ kd = 2 ∨ kd = 3 ∨ kd = 4 ∨ kd = 5 := by omega
  rcases hd with rfl | rfl | rfl | rfl | rfl | rfl
  · have := appendKey0 B p k c0 xs n s t w hrow hBw hk
    rw [beK_one (by decide)] at this
    exact this
  · have hn1 : n = 0 ∨ n = 1 := by
      unfold rightB at hr; rw [if_neg (by decide), if_pos rfl] at hr; exact (of_decide_eq_true hr).2.2
    have := appendKey1 B p k c0 xs n s t w hrow hBw hk hn1
    rw [beK_one (by decide), beK_one (by omega)] at this
    simpa [keyN] using this
  · have := appendKey2 B p k c0 xs n s t w hrow hBw hk hn
    rw [beK_one (by decide)] at this
    have e : keyN 2 n s t = [2] ++ beK 56 (n + 9223372036854775808) 8 := rfl
    have hl : k + (keyN 2 n s t).length = k + 1 + 8 := by rw [e]; simp [beK_len] <;> omega
    rw [hl, e]
    simpa using this
  · have hn' : n.natAbs < 1000000000000000 := by
      unfold rightB at hr; rw [if_neg (by decide), if_neg (by decide), if_neg (by decide), if_pos rfl] at hr
      simp only [Bool.and_eq_true] at hr
      have := of_decide_eq_true hr.2
      omega
    have := appendKey3 B p k c0 xs n s t w hrow hBw hk hn' hs.1 hs.2
    rw [beK_one (by decide)] at this
    have e : keyN 3 n s t = [3] ++ (beK 56 (fl n s + 9223372036854775808) 8 ++ beK 24 (fr n s) 4) := rfl
    have hl : k + (keyN 3 n s t).length = k + 1 + 8 + 4 := by rw [e]; simp [beK_len] <;> omega
    rw [hl, e]
    simpa using this
  · have := callsIn_wide.1 (appendKey4_in B p k c0 xs n s t w hrow hBw hk ht)
    rw [beK_one (by decide)] at this
    have e : keyN 4 n s t = [4] ++ markL t := rfl
    have hl : k + (keyN 4 n s t).length = k + 1 + (markL t).length := by rw [e]; simp [beK_len] <;> omega
    rw [hl, e]
    simpa using this
  · have := callsIn_wide.1 (appendKey5_in B p k c0 xs n s t w hrow hBw hk ht)
    rw [beK_one (by decide)] at this
    have e : keyN 5 n s t = [5] ++ markL t := rfl
    have hl : k + (keyN 5 n s t).length = k + 1 + (markL t).length := by rw [e]; simp [beK_len] <;> omega
    rw [hl, e]
    simpa using this

/-- a value's key -/
def keyB (k n s : Int) (t : ByteArray) : ByteArray := strOfNums (keyN k n s t)
theorem run_string_row {w : World} {B g cap : Nat} {ns : List Int} (h : w.ownsRow B 5 1 (.slice (some ⟨g, 0, none⟩) ns.length cap) ns.length (I8 ns)) :
    (convert 49 9 (.slice (some ⟨g, 0, none⟩) ns.length cap)).run Try.prog w = .ok (.string (strOfNums ns)) w := by
  refine run_convert_bytes_arg w 49 5 Try.underlying49 Try.underlying5 g 0 ns.length cap ns rfl ?_ 9 Try.underlying9
  intro i hi
  rcases h.2 with ⟨hv, _⟩ | ⟨g', cap', cur, hv, _, hgb, _, _, _, ht⟩
  · cases hv
  · cases hv
    rw [Nat.zero_add, cell_of_row w g i cur _ _ hgb]
    have h1 : (cur.toList.take (ns.length * 1))[i]? = (I8 ns)[i]? := by rw [ht]
    rw [List.getElem?_take_of_lt (by omega)] at h1
    simp [List.getElem?_map, List.getElem?_eq_getElem hi] at h1 ⊢
    exact h1

set_option maxHeartbeats 1000000 in
theorem key_any (kd n s : Int) (t : ByteArray) (w : World) (hok : Ok kd n s t) :
    Calls Try.prog 14 #[V kd n s t] w fun e w' => e = .returned (.string (keyB kd n s t)) ∧ Below w.heap.size w w' := by
  have C := hide (fun (W : World) => appendKey_any W.heap.size none 0 0 [] kd n s t W (World.ownsRow_nil _ _ _ _) (Nat.le_refl _) (by decide) hok)
  unfold keyB
  generalize keyN kd n s t = ns at *
  go_enter Try.func14, Try.ntmps14
  go_wp2_with (go_at_call 27; refine (unhide C _).mono ?_; rintro e W1 ⟨g1, c1, rfl, hown1, hgr1, hat1⟩; simp only [Nat.zero_add, List.nil_append] at hown1 ⊢; have hrun := run_string_row hown1)
  go_ret
  exact ⟨rfl, ((Below.refl _ w).alloc (Nat.le_refl _) _).grown hgr1 (by simp) (fun j e => by cases e)⟩
end Go.Proofs.Ytbpjejjbgdikdaa
