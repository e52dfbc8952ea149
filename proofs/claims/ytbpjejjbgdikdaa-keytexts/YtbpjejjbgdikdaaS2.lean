/-
  What package key's appendNumber returns and leaves: the slice with a number's bytes behind it, the highest first.
-/
import Derived.Test.YtbpjejjbgdikdaaS1
import Derived.Deep.AppendLies
namespace Go.Proofs.Ytbpjejjbgdikdaa
open Go.RowKit Go.Shelf
set_option linter.unusedSimpArgs false
set_option linter.unusedVariables false
attribute [local go_sem] Oper.semAt_some

/-- an append inside a fence: where the new slice lies -/
theorem wpListIn_append_at {F : Fence} {n : Nat} {P : Program} (w : World) {ops : Array Oper} {rest : List Oper} {o : Oper} {a : Act} {Q : Exit → Act → World → Prop}
    (hg : o.guard = none) (s x : Operand) (t : TypeId) (hop : o.op = Op.call { callee := Callee.builtin Builtin.append, args := #[s, x], argTypes := #[t, t] })
    (base : Nat) (e : TypeId) (i : TypeInfo) (z : Value) (size bytes : Nat) (h1 : P.underlying t = some (.slice e)) (h2 : P.info? e = some i) (h3 : i.zero = some z) (h4 : i.size = size) (h5 : i.bytes = bytes) (h6 : z.cells.size = size) (h7 : 0 < size)
    (v : Value) (k : Nat) (xs : List Value) (hs : a.eval s = v) (hown : w.ownsRow base e size v k xs) (ad : Addr) (m c : Nat) (news : List Value) (hx : a.eval x = .slice (some ad) m c) (hn : news.length = m * size)
    (hc : ∀ j u, news[j]? = some u → w.cell? (ad.add j) = some u) (h1c : ∀ u ∈ news, u.oneCell' = true) (hm : 0 < m) (b1 : k + m ≤ maxLen) (b2 : (k + m) * bytes ≤ 140737488355328) (b3 : base ≤ w.heap.size)
    (hK : ∀ g cap w', w'.ownsRow base e size (.slice (some ⟨g, 0, none⟩) (k + m) cap) (k + m) (xs ++ news) → w.grownBy w' v.ownBlock → (v.ownBlock = some g ∨ g = w.heap.size) → wpListIn F n P ops Q rest (a.put o.dst (.slice (some ⟨g, 0, none⟩) (k + m) cap)) w') :
    wpListIn F n P ops Q (o :: rest) a w := by
  refine wpListIn_plain hg fun K hK' => ?_
  obtain ⟨g, cap, w', hrun, r1, r2, r3, _⟩ := run_append_lies (P := P) w t o.type base e i z size bytes h1 h2 h3 h4 h5 h6 h7 v k xs hown ad m c news hn hc h1c hm b1 b2 b3 _ rfl
  unfold Oper.wpIn
  refine ⟨?_, ?_⟩
  · simp [Oper.about, hop, resolve, Target.leads, Sem.run_pure]
  · rw [Oper.semAt_plain F _ _ (by rw [hop]; intro c hc'; cases hc')]
    simp [execOp, hop, resolve, invoke, builtin, hs, hx, hrun, Result.andThen]
    exact hK' _ _ (hK g cap w' r1 r2 r3)

theorem grownBy_trans {A B C : World} {row row' : Option Nat} (h : A.grownBy B row) (g : B.grownBy C row') (hr : row' = row ∨ ∀ k, row' = some k → A.heap.size ≤ k) : A.grownBy C row :=
  ⟨g.os.trans h.os, g.tape.trans h.tape, g.output.trans h.output, Nat.le_trans h.size g.size, fun k hk hne => (g.block k (Nat.lt_of_lt_of_le hk h.size) (by
    rcases hr with rfl | hr
    · exact hne
    · intro e; have := hr k e.symm; omega)).trans (h.block k hk hne)⟩
theorem grownBy_refl (W : World) (row : Option Nat) : W.grownBy W row := ⟨rfl, rfl, rfl, Nat.le_refl _, fun _ _ _ => rfl⟩
theorem grownBy_alloc' (W : World) (o : Obj) (row : Option Nat) : W.grownBy (W.alloc o) row := World.grownBy_alloc W o row

/-- bytes that are being appended: block Bb, a variable's box, holds a slice that owns xs and pre behind it; nothing that lay has turned but v's own row -/
def App (w : World) (B : Nat) (v : Value) (Bb k : Nat) (xs : List Value) (pre : List Int) (W : World) : Prop :=
  ∃ v', Boxed W Bb 49 v' ∧ W.ownsRow B 5 1 v' (k + pre.length) (xs ++ pre.map (Value.int .u8)) ∧ (v'.ownBlock = v.ownBlock ∨ ∃ g, v'.ownBlock = some g ∧ w.heap.size ≤ g) ∧ w.grownBy W v.ownBlock
theorem App.own {w : World} {B : Nat} {v : Value} {Bb k : Nat} {xs : List Value} {D : Nat} (hD : w.heap.size ≤ D) : OwnFrom D (App w B v Bb k xs) := by
  rintro pre X Y row ⟨v', hv, hr, hl, hg⟩ hgr hrow
  refine ⟨v', hv.kept hgr (fun e' => ?_), hr.kept hgr ?_, hl, grownBy_trans hg hgr (Or.inr fun r e => ?_)⟩
  · obtain ⟨_, o, ho, hc⟩ := hrow Bb e'.symm
    rw [show X.heap[Bb]? = _ from hv] at ho; cases ho; cases hc
  · rcases hr.2 with ⟨rfl, _⟩ | ⟨g, cap, cur, rfl, _, hgb, _⟩
    · exact .inl rfl
    · refine .inr fun e' => ?_
      obtain ⟨_, o, ho, hc⟩ := hrow g (by simpa [Value.ownBlock] using e'.symm)
      rw [hgb] at ho; cases ho; cases hc
  · exact Nat.le_trans hD (hrow r e).1
/-- one byte more -/
theorem App.step {w W w1 : World} {B : Nat} {v v' : Value} {Bb k : Nat} {xs : List Value} {pre : List Int} {y : Int} {tmp : Obj} {g cap : Nat}
    (hBw : B ≤ w.heap.size) (hBb : w.heap.size ≤ Bb)
    (hv : Boxed W Bb 49 v') (hr : W.ownsRow B 5 1 v' (k + pre.length) (xs ++ pre.map (Value.int .u8)))
    (hl : v'.ownBlock = v.ownBlock ∨ ∃ g, v'.ownBlock = some g ∧ w.heap.size ≤ g) (hg : w.grownBy W v.ownBlock)
    (hown' : w1.ownsRow B 5 1 (.slice (some ⟨g, 0, none⟩) (k + pre.length + 1) cap) (k + pre.length + 1) (xs ++ pre.map (Value.int .u8) ++ [.int .u8 y]))
    (hgrow : (W.alloc tmp).grownBy w1 v'.ownBlock) (hat : v'.ownBlock = some g ∨ g = (W.alloc tmp).heap.size) :
    Boxed w1 Bb 49 v' ∧ KeepsOthers W (w1.setCell ⟨Bb, 0, none⟩ (.slice (some ⟨g, 0, none⟩) (k + pre.length + 1) cap)) ∧
    (∀ (Bn : Nat) (t : TypeId) (u : Value), t ≠ 5 → Bn ≠ Bb → Boxed W Bn t u → Boxed (w1.setCell ⟨Bb, 0, none⟩ (.slice (some ⟨g, 0, none⟩) (k + pre.length + 1) cap)) Bn t u) ∧
    App w B v Bb k xs (pre ++ [y]) (w1.setCell ⟨Bb, 0, none⟩ (.slice (some ⟨g, 0, none⟩) (k + pre.length + 1) cap)) := by
  have hBW : B ≤ W.heap.size := Nat.le_trans hBw hg.size
  obtain ⟨hv1, hv2, hr2, hk2, hb2⟩ := hv.appended (by decide) hr hBW (Nat.le_trans hBw hBb) hown' hgrow
  refine ⟨hv1, hk2, ?_, ⟨_, hv2, ?_, ?_, ?_⟩⟩
  · intro Bn t u ht hne hu
    exact ((hu.alloc tmp).kept hgrow (hu.not_row ht hr)).other hne _
  · rw [show k + (pre ++ [y]).length = k + pre.length + 1 by simp; omega]
    simpa using hr2
  · rcases hat with h | h
    · rcases hl with h' | ⟨g', h', hge⟩
      · left; rw [← h', h]; rfl
      · right; refine ⟨g, rfl, ?_⟩
        rw [h] at h'; cases h'; exact hge
    · right; refine ⟨g, rfl, ?_⟩
      have := hg.size; simp at h; omega
  · refine grownBy_trans (grownBy_trans (grownBy_trans hg (grownBy_alloc' W tmp none) (Or.inr fun _ h => by cases h)) hgrow ?_) (grownBy_setCell' w1 Bb _) (Or.inr fun r e => by cases e; exact hBb)
    rcases hl with h' | ⟨g', h', hge⟩
    · exact Or.inl h'
    · right; intro r e; rw [h'] at e; cases e; exact hge

theorem kpb64_b {x : Int} {w : World} {Bn : Nat} (hn : Bn < w.heap.size) (W : World) (l : Nat) (o o' : Obj) (hl : w.heap.size ≤ l) (h : W.heap[l]? = some o) (_ : o.isCells = false) (_ : o.isWalk = false) : Kpb64 Bn x W (W.putObj l o') := fun hb => hb.kept (grownBy_putObj' W l o') (fun e => by cases e; omega)
theorem kpb64_t {x : Int} {Bn : Nat} {A B C : World} (h : Kpb64 Bn x A B) (k : Kpb64 Bn x B C) : Kpb64 Bn x A C := fun hb => k (h hb)

set_option maxRecDepth 100000 in
set_option maxHeartbeats 2000000 in
theorem app64_in (n : Nat) (hn : 3 ≤ n) (B : Nat) (p : Option Addr) (k c0 : Nat) (xs : List Value) (x : Int) (hx : 0 ≤ x ∧ x < 2 ^ 64) (w : World) (hrow : w.ownsRow B 5 1 (.slice p k c0) k xs) (hBw : B ≤ w.heap.size) (hk : k ≤ 1000000) :
    CallsIn Fence.wide n Try.prog 40 #[.slice p k c0, .int .u64 x] w fun e W' => ∃ g cap, e = .returned (.slice (some ⟨g, 0, none⟩) (k + 8) cap) ∧ W'.ownsRow B 5 1 (.slice (some ⟨g, 0, none⟩) (k + 8) cap) (k + 8) (xs ++ (beK 56 x 8).map (Value.int .u8)) ∧ w.grownBy W' (Value.slice p k c0).ownBlock ∧
      ((Value.slice p k c0).ownBlock = some g ∨ w.heap.size ≤ g) := by
  have h1 : 1 ≤ n := by omega
  obtain ⟨i0, hi, hz0, hz1, hz2⟩ := info_parts info_byte
  refine callsIn_of_wp_marks Try.func40 rfl trivial ?_ rfl
  simp only [Try.ntmps40, List.size_toArray, List.length_cons, List.length_nil, Nat.reduceAdd, Nat.reduceSub, Array.replicate_succ, Array.replicate_zero, List.push_toArray, List.append_toArray, List.nil_append, List.cons_append]
  gi_wp2_with (refine ⟨trivial, ?_⟩; gi_at_call 57; refine (hf64_in _ _ _).mono ?_; rintro e w' ⟨rfl, rfl⟩)
  have bO := Boxed.new w 49 (.slice p k c0)
  have bN := Boxed.new (w.alloc (.cells #[.slice p k c0] 49)) 68 (.int .u64 x)
  rw [World.size_alloc] at bN
  refine wpIn_rangeFunc_ownG rfl (by omega) (gf := 68) (lb := #[.pointer (some ⟨w.heap.size + 1, 0, none⟩)]) rfl trivial (enters_of Try.func68 (by kernel_rfl) rfl)
    (hf64_stops (n - 1) (by omega) (w.heap.size + 1) x hx _ bN) kpb64_t (kpb64_b (by simp)) (Below.refl _ _) (fun _ => rfl)
    (App w B (.slice p k c0) w.heap.size k xs)
    (fun _ _ _ => False)
    (App.own (by simp; omega))
    (fun _ _ _ _ _ hs _ _ => hs)
    ⟨_, bO.alloc _, by simpa using (hrow.alloc _).alloc _, .inl rfl, grownBy_trans (grownBy_alloc' w _ _) (grownBy_alloc' _ _ none) (Or.inr fun _ h => by cases h)⟩
    (fun y => { tmps := #[.slice p k c0, .int .u64 x, .pointer (some ⟨w.heap.size, 0, none⟩), undef, .slice none 0 0, .int .u8 y, .int .u64 x, .func (.func 68) #[] #[.pointer (some ⟨w.heap.size + 1, 0, none⟩)], .int .u8 y, undef, undef, undef, undef, undef], defers := [] }) ?assign ?body ?done ?stop
  case assign =>
    intro l x W K hK
    gi_wp2
    exact hK
  case body =>
    rintro l pre y W ⟨v', hv, hr, hl, hg⟩ hlt
    have hc := hv.cell
    have hsz := hg.size
    have hlt' : pre.length < 8 := hlt
    gi_wp2_with (gi_at_builtin; refine wpListIn_append_at _ rfl _ _ 49 rfl B 5 i0 (.int .u8 0) 1 1 Try.underlying49 hi hz0 hz1 hz2 rfl (by decide) _ _ _ rfl (hr.alloc _) ⟨W.heap.size, 0, none⟩ 1 1 [.int .u8 y] rfl rfl (cell_one_new _ _ _) (by simp [Value.oneCell']) (by decide) (by unfold maxLen; omega) (by omega) (by simp; omega) ?_; intro g cap w1 hown' hgrow hat; obtain ⟨hv1, hk2, hoth, happ⟩ := App.step hBw (Nat.le_refl _) hv hr hl hg hown' hgrow hat; have hc1 := hv1.cell; have hf1 := hv1.frozen)
    exact ⟨hk2.from _, fun hb => hoth _ _ _ (by decide) (by omega) hb, happ⟩
  case done =>
    rintro D ys W hD rfl ⟨v', hv, hr, hl, hg⟩ hK
    rw [beK_len] at hr
    obtain ⟨g, cap, rfl, _, _⟩ := hr.form (by omega)
    have hc := hv.cell
    gi_wp2
    refine ⟨by simp, .inl ⟨_, _, rfl, run_takeDeferred hK, ?_⟩⟩
    refine ⟨_, results_tmp rfl _ _ _, g, cap, rfl, ownsRow_putObj hr _ hK rfl, grownBy_trans hg (grownBy_putObj' W D _) (Or.inr fun r e => by cases e; simp at hD; omega), ?_⟩
    rcases hl with h | ⟨g', h, hge⟩
    · left; rw [← h]; rfl
    · right; cases h; exact hge
  case stop =>
    rintro D c pre W _ _ h _
    exact h.elim
theorem app64_any (B : Nat) (p : Option Addr) (k c0 : Nat) (xs : List Value) (x : Int) (hx : 0 ≤ x ∧ x < 2 ^ 64) (w : World) (hrow : w.ownsRow B 5 1 (.slice p k c0) k xs) (hBw : B ≤ w.heap.size) (hk : k ≤ 1000000) :
    Calls Try.prog 40 #[.slice p k c0, .int .u64 x] w fun e W' => ∃ g cap, e = .returned (.slice (some ⟨g, 0, none⟩) (k + 8) cap) ∧ W'.ownsRow B 5 1 (.slice (some ⟨g, 0, none⟩) (k + 8) cap) (k + 8) (xs ++ (beK 56 x 8).map (Value.int .u8)) ∧ w.grownBy W' (Value.slice p k c0).ownBlock ∧
      ((Value.slice p k c0).ownBlock = some g ∨ w.heap.size ≤ g) := callsIn_wide.1 (app64_in 3 (Nat.le_refl _) B p k c0 xs x hx w hrow hBw hk)

theorem kpb32_b {x : Int} {w : World} {Bn : Nat} (hn : Bn < w.heap.size) (W : World) (l : Nat) (o o' : Obj) (hl : w.heap.size ≤ l) (h : W.heap[l]? = some o) (_ : o.isCells = false) (_ : o.isWalk = false) : Kpb32 Bn x W (W.putObj l o') := fun hb => hb.kept (grownBy_putObj' W l o') (fun e => by cases e; omega)
theorem kpb32_t {x : Int} {Bn : Nat} {A B C : World} (h : Kpb32 Bn x A B) (k : Kpb32 Bn x B C) : Kpb32 Bn x A C := fun hb => k (h hb)

set_option maxRecDepth 100000 in
set_option maxHeartbeats 2000000 in
theorem app32_in (n : Nat) (hn : 3 ≤ n) (B : Nat) (p : Option Addr) (k c0 : Nat) (xs : List Value) (x : Int) (hx : 0 ≤ x ∧ x < 2 ^ 32) (w : World) (hrow : w.ownsRow B 5 1 (.slice p k c0) k xs) (hBw : B ≤ w.heap.size) (hk : k ≤ 1000000) :
    CallsIn Fence.wide n Try.prog 42 #[.slice p k c0, .int .u32 x] w fun e W' => ∃ g cap, e = .returned (.slice (some ⟨g, 0, none⟩) (k + 4) cap) ∧ W'.ownsRow B 5 1 (.slice (some ⟨g, 0, none⟩) (k + 4) cap) (k + 4) (xs ++ (beK 24 x 4).map (Value.int .u8)) ∧ w.grownBy W' (Value.slice p k c0).ownBlock ∧
      ((Value.slice p k c0).ownBlock = some g ∨ w.heap.size ≤ g) := by
  have h1 : 1 ≤ n := by omega
  obtain ⟨i0, hi, hz0, hz1, hz2⟩ := info_parts info_byte
  refine callsIn_of_wp_marks Try.func42 rfl trivial ?_ rfl
  simp only [Try.ntmps42, List.size_toArray, List.length_cons, List.length_nil, Nat.reduceAdd, Nat.reduceSub, Array.replicate_succ, Array.replicate_zero, List.push_toArray, List.append_toArray, List.nil_append, List.cons_append]
  gi_wp2_with (refine ⟨trivial, ?_⟩; gi_at_call 59; refine (hf32_in _ _ _).mono ?_; rintro e w' ⟨rfl, rfl⟩)
  have bO := Boxed.new w 49 (.slice p k c0)
  have bN := Boxed.new (w.alloc (.cells #[.slice p k c0] 49)) 70 (.int .u32 x)
  rw [World.size_alloc] at bN
  refine wpIn_rangeFunc_ownG rfl (by omega) (gf := 69) (lb := #[.pointer (some ⟨w.heap.size + 1, 0, none⟩)]) rfl trivial (enters_of Try.func69 (by kernel_rfl) rfl)
    (hf32_stops (n - 1) (by omega) (w.heap.size + 1) x hx _ bN) kpb32_t (kpb32_b (by simp)) (Below.refl _ _) (fun _ => rfl)
    (App w B (.slice p k c0) w.heap.size k xs)
    (fun _ _ _ => False)
    (App.own (by simp; omega))
    (fun _ _ _ _ _ hs _ _ => hs)
    ⟨_, bO.alloc _, by simpa using (hrow.alloc _).alloc _, .inl rfl, grownBy_trans (grownBy_alloc' w _ _) (grownBy_alloc' _ _ none) (Or.inr fun _ h => by cases h)⟩
    (fun y => { tmps := #[.slice p k c0, .int .u32 x, .pointer (some ⟨w.heap.size, 0, none⟩), undef, .slice none 0 0, .int .u8 y, .int .u32 x, .func (.func 69) #[] #[.pointer (some ⟨w.heap.size + 1, 0, none⟩)], .int .u8 y, undef, undef, undef, undef, undef], defers := [] }) ?assign ?body ?done ?stop
  case assign =>
    intro l x W K hK
    gi_wp2
    exact hK
  case body =>
    rintro l pre y W ⟨v', hv, hr, hl, hg⟩ hlt
    have hc := hv.cell
    have hsz := hg.size
    have hlt' : pre.length < 4 := hlt
    gi_wp2_with (gi_at_builtin; refine wpListIn_append_at _ rfl _ _ 49 rfl B 5 i0 (.int .u8 0) 1 1 Try.underlying49 hi hz0 hz1 hz2 rfl (by decide) _ _ _ rfl (hr.alloc _) ⟨W.heap.size, 0, none⟩ 1 1 [.int .u8 y] rfl rfl (cell_one_new _ _ _) (by simp [Value.oneCell']) (by decide) (by unfold maxLen; omega) (by omega) (by simp; omega) ?_; intro g cap w1 hown' hgrow hat; obtain ⟨hv1, hk2, hoth, happ⟩ := App.step hBw (Nat.le_refl _) hv hr hl hg hown' hgrow hat; have hc1 := hv1.cell; have hf1 := hv1.frozen)
    exact ⟨hk2.from _, fun hb => hoth _ _ _ (by decide) (by omega) hb, happ⟩
  case done =>
    rintro D ys W hD rfl ⟨v', hv, hr, hl, hg⟩ hK
    rw [beK_len] at hr
    obtain ⟨g, cap, rfl, _, _⟩ := hr.form (by omega)
    have hc := hv.cell
    gi_wp2
    refine ⟨by simp, .inl ⟨_, _, rfl, run_takeDeferred hK, ?_⟩⟩
    refine ⟨_, results_tmp rfl _ _ _, g, cap, rfl, ownsRow_putObj hr _ hK rfl, grownBy_trans hg (grownBy_putObj' W D _) (Or.inr fun r e => by cases e; simp at hD; omega), ?_⟩
    rcases hl with h | ⟨g', h, hge⟩
    · left; rw [← h]; rfl
    · right; cases h; exact hge
  case stop =>
    rintro D c pre W _ _ h _
    exact h.elim
theorem app32_any (B : Nat) (p : Option Addr) (k c0 : Nat) (xs : List Value) (x : Int) (hx : 0 ≤ x ∧ x < 2 ^ 32) (w : World) (hrow : w.ownsRow B 5 1 (.slice p k c0) k xs) (hBw : B ≤ w.heap.size) (hk : k ≤ 1000000) :
    Calls Try.prog 42 #[.slice p k c0, .int .u32 x] w fun e W' => ∃ g cap, e = .returned (.slice (some ⟨g, 0, none⟩) (k + 4) cap) ∧ W'.ownsRow B 5 1 (.slice (some ⟨g, 0, none⟩) (k + 4) cap) (k + 4) (xs ++ (beK 24 x 4).map (Value.int .u8)) ∧ w.grownBy W' (Value.slice p k c0).ownBlock ∧
      ((Value.slice p k c0).ownBlock = some g ∨ w.heap.size ≤ g) := callsIn_wide.1 (app32_in 3 (Nat.le_refl _) B p k c0 xs x hx w hrow hBw hk)

theorem kpb8_b {x : Int} {w : World} {Bn : Nat} (hn : Bn < w.heap.size) (W : World) (l : Nat) (o o' : Obj) (hl : w.heap.size ≤ l) (h : W.heap[l]? = some o) (_ : o.isCells = false) (_ : o.isWalk = false) : Kpb8 Bn x W (W.putObj l o') := trivial
theorem kpb8_t {x : Int} {Bn : Nat} {A B C : World} (h : Kpb8 Bn x A B) (k : Kpb8 Bn x B C) : Kpb8 Bn x A C := trivial

set_option maxRecDepth 100000 in
set_option maxHeartbeats 2000000 in
theorem app8_in (n : Nat) (hn : 3 ≤ n) (B : Nat) (p : Option Addr) (k c0 : Nat) (xs : List Value) (x : Int) (hx : 0 ≤ x ∧ x < 2 ^ 8) (w : World) (hrow : w.ownsRow B 5 1 (.slice p k c0) k xs) (hBw : B ≤ w.heap.size) (hk : k ≤ 1000000) :
    CallsIn Fence.wide n Try.prog 39 #[.slice p k c0, .int .u8 x] w fun e W' => ∃ g cap, e = .returned (.slice (some ⟨g, 0, none⟩) (k + 1) cap) ∧ W'.ownsRow B 5 1 (.slice (some ⟨g, 0, none⟩) (k + 1) cap) (k + 1) (xs ++ (beK 0 x 1).map (Value.int .u8)) ∧ w.grownBy W' (Value.slice p k c0).ownBlock ∧
      ((Value.slice p k c0).ownBlock = some g ∨ w.heap.size ≤ g) := by
  have h1 : 1 ≤ n := by omega
  obtain ⟨i0, hi, hz0, hz1, hz2⟩ := info_parts info_byte
  refine callsIn_of_wp_marks Try.func39 rfl trivial ?_ rfl
  simp only [Try.ntmps39, List.size_toArray, List.length_cons, List.length_nil, Nat.reduceAdd, Nat.reduceSub, Array.replicate_succ, Array.replicate_zero, List.push_toArray, List.append_toArray, List.nil_append, List.cons_append]
  gi_wp2_with (refine ⟨trivial, ?_⟩; gi_at_call 56; refine (hf8_in _ _ _).mono ?_; rintro e w' ⟨rfl, rfl⟩)
  have bO := Boxed.new w 49 (.slice p k c0)
  have bN := Boxed.new (w.alloc (.cells #[.slice p k c0] 49)) 5 (.int .u8 x)
  rw [World.size_alloc] at bN
  refine wpIn_rangeFunc_ownG rfl (by omega) (gf := 67) (lb := #[.pointer (some ⟨w.heap.size + 1, 0, none⟩)]) rfl trivial (enters_of Try.func67 (by kernel_rfl) rfl)
    (hf8_stops (n - 1) (by omega) (w.heap.size + 1) x hx _ bN) kpb8_t (kpb8_b (by simp)) (Below.refl _ _) (fun _ => rfl)
    (App w B (.slice p k c0) w.heap.size k xs)
    (fun _ _ _ => False)
    (App.own (by simp; omega))
    (fun _ _ _ _ _ hs _ _ => hs)
    ⟨_, bO.alloc _, by simpa using (hrow.alloc _).alloc _, .inl rfl, grownBy_trans (grownBy_alloc' w _ _) (grownBy_alloc' _ _ none) (Or.inr fun _ h => by cases h)⟩
    (fun y => { tmps := #[.slice p k c0, .int .u8 x, .pointer (some ⟨w.heap.size, 0, none⟩), undef, .slice none 0 0, .int .u8 y, .int .u8 x, .func (.func 67) #[] #[.pointer (some ⟨w.heap.size + 1, 0, none⟩)], .int .u8 y, undef, undef, undef, undef, undef], defers := [] }) ?assign ?body ?done ?stop
  case assign =>
    intro l x W K hK
    gi_wp2
    exact hK
  case body =>
    rintro l pre y W ⟨v', hv, hr, hl, hg⟩ hlt
    have hc := hv.cell
    have hsz := hg.size
    have hlt' : pre.length < 1 := hlt
    gi_wp2_with (gi_at_builtin; refine wpListIn_append_at _ rfl _ _ 49 rfl B 5 i0 (.int .u8 0) 1 1 Try.underlying49 hi hz0 hz1 hz2 rfl (by decide) _ _ _ rfl (hr.alloc _) ⟨W.heap.size, 0, none⟩ 1 1 [.int .u8 y] rfl rfl (cell_one_new _ _ _) (by simp [Value.oneCell']) (by decide) (by unfold maxLen; omega) (by omega) (by simp; omega) ?_; intro g cap w1 hown' hgrow hat; obtain ⟨hv1, hk2, hoth, happ⟩ := App.step hBw (Nat.le_refl _) hv hr hl hg hown' hgrow hat; have hc1 := hv1.cell; have hf1 := hv1.frozen)
    exact ⟨hk2.from _, trivial, happ⟩
  case done =>
    rintro D ys W hD rfl ⟨v', hv, hr, hl, hg⟩ hK
    rw [beK_len] at hr
    obtain ⟨g, cap, rfl, _, _⟩ := hr.form (by omega)
    have hc := hv.cell
    gi_wp2
    refine ⟨by simp, .inl ⟨_, _, rfl, run_takeDeferred hK, ?_⟩⟩
    refine ⟨_, results_tmp rfl _ _ _, g, cap, rfl, ownsRow_putObj hr _ hK rfl, grownBy_trans hg (grownBy_putObj' W D _) (Or.inr fun r e => by cases e; simp at hD; omega), ?_⟩
    rcases hl with h | ⟨g', h, hge⟩
    · left; rw [← h]; rfl
    · right; cases h; exact hge
  case stop =>
    rintro D c pre W _ _ h _
    exact h.elim
theorem app8_any (B : Nat) (p : Option Addr) (k c0 : Nat) (xs : List Value) (x : Int) (hx : 0 ≤ x ∧ x < 2 ^ 8) (w : World) (hrow : w.ownsRow B 5 1 (.slice p k c0) k xs) (hBw : B ≤ w.heap.size) (hk : k ≤ 1000000) :
    Calls Try.prog 39 #[.slice p k c0, .int .u8 x] w fun e W' => ∃ g cap, e = .returned (.slice (some ⟨g, 0, none⟩) (k + 1) cap) ∧ W'.ownsRow B 5 1 (.slice (some ⟨g, 0, none⟩) (k + 1) cap) (k + 1) (xs ++ (beK 0 x 1).map (Value.int .u8)) ∧ w.grownBy W' (Value.slice p k c0).ownBlock ∧
      ((Value.slice p k c0).ownBlock = some g ∨ w.heap.size ≤ g) := callsIn_wide.1 (app8_in 3 (Nat.le_refl _) B p k c0 xs x hx w hrow hBw hk)
end Go.Proofs.Ytbpjejjbgdikdaa
