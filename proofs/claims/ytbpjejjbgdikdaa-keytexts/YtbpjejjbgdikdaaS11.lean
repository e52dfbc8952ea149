/-
  A key read off a text's front: what package key's ReadKey returns.
-/
import Derived.Test.YtbpjejjbgdikdaaS10
namespace Go.Proofs.Ytbpjejjbgdikdaa
open Go.RowKit
set_option linter.unusedSimpArgs false
set_option linter.unusedVariables false

theorem rtxt_len : ∀ (m : Nat) (acc l d r : List UInt8), l.length = m → rtxt acc l = some (d, r) → d.length + r.length + 2 ≤ acc.length + l.length := by
  intro m
  induction m using Nat.strongRecOn with
  | _ m ih =>
    intro acc l d r hm h
    cases l with
    | nil => simp [rtxt] at h
    | cons c l =>
      by_cases hc : c = 0
      · subst hc
        cases l with
        | nil => rw [rtxt_one] at h; cases h
        | cons x l =>
          rw [rtxt_zero] at h
          split at h
          · cases h; simp; omega
          · split at h
            · have := ih l.length (by simp at hm; omega) _ l d r rfl h
              simp at this ⊢; omega
            · cases h
      · rw [rtxt_plain _ _ _ hc] at h
        have := ih l.length (by simp at hm; omega) _ l d r rfl h
        simp at this ⊢; omega
theorem rval_len {l : List UInt8} {k n s : Int} {d r : List UInt8} (h : rval l = some ((k, n, s, d), r)) : d.length ≤ l.length ∧ r.length < l.length := by
  cases l with
  | nil => cases h
  | cons c l =>
    rw [rval_cons] at h
    split at h
    · cases h; simp
    split at h
    · split at h
      · cases h
      · cases h; simp; omega
    split at h
    · split at h
      · cases h; simp; omega
      · cases h
    split at h
    · cases hr : rdec l with
      | none => rw [hr] at h; cases h
      | some x => rw [hr] at h; cases h; simp; omega
    split at h
    · cases hr : rtxt [] l with
      | none => rw [hr] at h; cases h
      | some x =>
        have := rtxt_len l.length [] l x.1 x.2 rfl hr
        rw [hr] at h; cases h; simp at this ⊢; omega
    · cases h
def rkey (l : List UInt8) : Option RV := match rval l with
  | some (v, r) => if rightB v.1 v.2.1 v.2.2.1 (Str v.2.2.2) = true then some (v, r) else none
  | none => none

theorem rvalue_none (l : List UInt8) (hm : l.length ≤ 800000) (h : rval l = none) (b : Nat) (w : World) (hB : Boxed w b 52 (.string (Str l))) :
    Calls Try.prog 28 #[.pointer (some ⟨b, 0, none⟩)] w fun e W => ∃ l' k n s t, Boxed W b 52 (.string (Str l')) ∧ w.grownBy W (some b) ∧ e = .returned (.tuple #[V k n s t, .bool false]) := by
  refine (rvalue_any l hm b w hB).mono ?_
  rintro e W ⟨l', h1, h2, h3, (⟨_, k, n, s, t, he⟩ | ⟨k, n, s, d, hs, _⟩)⟩
  · exact ⟨l', k, n, s, t, h1, h2, he⟩
  · rw [h] at hs; cases hs
theorem rvalue_some (l : List UInt8) (hm : l.length ≤ 800000) {k n s : Int} {d r : List UInt8} (h : rval l = some ((k, n, s, d), r)) (b : Nat) (w : World) (hB : Boxed w b 52 (.string (Str l))) :
    Calls Try.prog 28 #[.pointer (some ⟨b, 0, none⟩)] w fun e W => Boxed W b 52 (.string (Str r)) ∧ w.grownBy W (some b) ∧ e = .returned (.tuple #[V k n s (Str d), .bool true]) := by
  refine (rvalue_any l hm b w hB).mono ?_
  rintro e W ⟨l', h1, h2, h3, (⟨hn, _⟩ | ⟨k', n', s', d', hs, he⟩)⟩
  · rw [h] at hn; cases hn
  · rw [h] at hs; cases hs; exact ⟨h1, h2, he⟩

/-- the reader's box lies behind the result's; w lies below both -/
structure RK (w : World) (l : List UInt8) (x0 x1 x2 x3 : Value) (W : World) : Prop where
  box : Boxed W (w.heap.size + 1) 52 (.string (Str l))
  below : Below w.heap.size w W
  res : Four w.heap.size x0 x1 x2 x3 W
theorem RK.start (w : World) (l : List UInt8) (x0 x1 x2 x3 : Value) (T : TypeId) : RK w l x0 x1 x2 x3 ((w.alloc (.cells #[x0, x1, x2, x3] T)).alloc (.cells #[.string (Str l)] 52)) := by
  refine ⟨?_, ((Below.refl _ _).alloc (Nat.le_refl _) _).alloc (by simp) _, four_more (four_alloc _ _ _ _ _ _) _⟩
  have := Boxed.new (w.alloc (.cells #[x0, x1, x2, x3] T)) 52 (.string (Str l))
  rwa [World.size_alloc] at this
theorem RK.turn {w : World} {l l' : List UInt8} {x0 x1 x2 x3 : Value} {W W' : World} (h : RK w l x0 x1 x2 x3 W) (hB : Boxed W' (w.heap.size + 1) 52 (.string (Str l'))) (hg : W.grownBy W' (some (w.heap.size + 1))) : RK w l' x0 x1 x2 x3 W' :=
  ⟨hB, h.below.grown hg h.below.size (fun k e => by cases e; omega), four_grown h.res hg (by omega)⟩
theorem RK.call {w : World} {l : List UInt8} {x0 x1 x2 x3 : Value} {W W' : World} (h : RK w l x0 x1 x2 x3 W) (hb : Below W.heap.size W W') : RK w l x0 x1 x2 x3 W' :=
  ⟨(hb.block _ h.box.lt).trans h.box, h.below.trans (hb.mono h.below.size), four_call h.res hb⟩
theorem RK.store {w : World} {l : List UInt8} {x0 x1 x2 x3 : Value} {W : World} (h : RK w l x0 x1 x2 x3 W) (y0 y1 y2 y3 : Value) : RK w l y0 y1 y2 y3 ((((W.setCell ⟨w.heap.size, 0, none⟩ y0).setCell ⟨w.heap.size, 1, none⟩ y1).setCell ⟨w.heap.size, 2, none⟩ y2).setCell ⟨w.heap.size, 3, none⟩ y3) := by
  refine ⟨?_, h.below.trans (below_set4 w.heap.size W y0 y1 y2 y3), four_set h.res y0 y1 y2 y3⟩
  exact (Below.heap_setCell _ _ _ _ (by simp)).trans ((Below.heap_setCell _ _ _ _ (by simp)).trans ((Below.heap_setCell _ _ _ _ (by simp)).trans ((Below.heap_setCell _ _ _ _ (by simp)).trans h.box)))
def KeyPost (w : World) (l : List UInt8) (e : Ending) (W : World) : Prop := Below w.heap.size w W ∧
  ((rkey l = none ∧ e = .returned (.tuple #[V 0 0 0 ⟨#[]⟩, .int .i64 0, .bool false])) ∨ (∃ k n s d r, rkey l = some ((k, n, s, d), r) ∧ e = .returned (.tuple #[V k n s (Str d), .int .i64 ((l.length : Int) - (r.length : Int)), .bool true])))

set_option maxRecDepth 100000 in
set_option maxHeartbeats 2000000 in
theorem readKey_a (l : List UInt8) (hm : l.length ≤ 800000) (h : rval l = none) (w : World) :
    Calls Try.prog 15 #[.string (Str l)] w (KeyPost w l) := by
  have D0 := RK.start w l Z Z Z (.string ⟨#[]⟩) 24
  have HN : Hid (rkey l = none) := by show _ = _; unfold rkey; rw [h]
  go_enter Try.func15, Try.ntmps15
  go_wp2_with (go_at_call 28; refine (rvalue_none l hm h _ _ D0.box).mono ?_; rintro e W1 ⟨l', k, n, s, t, hB1, hG1, rfl⟩; have D1 := D0.turn hB1 hG1; clear D0; obtain ⟨_, c0, c1, c2, c3, f0, f1, f2, f3⟩ := id D1.res)
  obtain ⟨W9, hW9⟩ : ∃ W9, ((((((((W1.setCell ⟨w.heap.size, 0, none⟩ (.int .i64 k)).setCell ⟨w.heap.size, 1, none⟩ (.int .i64 n)).setCell ⟨w.heap.size, 2, none⟩ (.int .i64 s)).setCell ⟨w.heap.size, 3, none⟩ (.string t)).setCell ⟨w.heap.size, 0, none⟩ (.int .i64 0)).setCell ⟨w.heap.size, 1, none⟩ (.int .i64 0)).setCell ⟨w.heap.size, 2, none⟩ (.int .i64 0)).setCell ⟨w.heap.size, 3, none⟩ (.string ⟨#[]⟩)) = W9 := ⟨_, rfl⟩
  have D9 := ((D1.store (.int .i64 k) (.int .i64 n) (.int .i64 s) (.string t)).store (.int .i64 0) (.int .i64 0) (.int .i64 0) (.string ⟨#[]⟩))
  rw [hW9] at D9 ⊢
  obtain ⟨_, z0, z1, z2, z3, _, _, _, _⟩ := id D9.res
  exact bodyPost_ret (v := .tuple #[V 0 0 0 ⟨#[]⟩, .int .i64 0, .bool false]) (by simp [results, Try.results15, go_sem, z0, z1, z2, z3]) rfl ⟨D9.below, .inl ⟨unhide HN, rfl⟩⟩
set_option maxRecDepth 100000 in
set_option maxHeartbeats 2000000 in
theorem readKey_b (l : List UInt8) (hm : l.length ≤ 800000) {k n s : Int} {d r : List UInt8} (h : rval l = some ((k, n, s, d), r)) (hr : rightB k n s (Str d) = false) (w : World) :
    Calls Try.prog 15 #[.string (Str l)] w (KeyPost w l) := by
  have D0 := RK.start w l Z Z Z (.string ⟨#[]⟩) 24
  have HN : Hid (rkey l = none) := by show _ = _; unfold rkey; rw [h]; dsimp only; rw [if_neg (by rw [hr]; decide)]
  have CR := hide (fun W => right_any k n s (Str d) W (by rw [str_size]; have := (rval_len h).1; unfold maxLen; omega))
  rw [hr] at CR
  go_enter Try.func15, Try.ntmps15
  go_wp2_with (first | (go_at_call 28; refine (rvalue_some l hm h _ _ D0.box).mono ?_; rintro e W1 ⟨hB1, hG1, rfl⟩; have D1 := (D0.turn hB1 hG1).store (.int .i64 k) (.int .i64 n) (.int .i64 s) (.string (Str d)); obtain ⟨_, c0, c1, c2, c3, f0, f1, f2, f3⟩ := id (D0.turn hB1 hG1).res; clear D0) | (go_at_call 29; refine (unhide CR _).mono ?_; rintro e W2 ⟨rfl, hb2⟩; have D2 := D1.call hb2; clear D1; obtain ⟨_, d0, d1, d2, d3, g0, g1, g2, g3⟩ := id D2.res))
  obtain ⟨W9, hW9⟩ : ∃ W9, ((((W2.setCell ⟨w.heap.size, 0, none⟩ (.int .i64 0)).setCell ⟨w.heap.size, 1, none⟩ (.int .i64 0)).setCell ⟨w.heap.size, 2, none⟩ (.int .i64 0)).setCell ⟨w.heap.size, 3, none⟩ (.string ⟨#[]⟩)) = W9 := ⟨_, rfl⟩
  have D9 := (D2.store (.int .i64 0) (.int .i64 0) (.int .i64 0) (.string ⟨#[]⟩))
  rw [hW9] at D9 ⊢
  obtain ⟨_, z0, z1, z2, z3, _, _, _, _⟩ := id D9.res
  exact bodyPost_ret (v := .tuple #[V 0 0 0 ⟨#[]⟩, .int .i64 0, .bool false]) (by simp [results, Try.results15, go_sem, z0, z1, z2, z3]) rfl ⟨D9.below, .inl ⟨unhide HN, rfl⟩⟩
set_option maxRecDepth 100000 in
set_option maxHeartbeats 2000000 in
theorem readKey_c (l : List UInt8) (hm : l.length ≤ 800000) {k n s : Int} {d r : List UInt8} (h : rval l = some ((k, n, s, d), r)) (hr : rightB k n s (Str d) = true) (w : World) :
    Calls Try.prog 15 #[.string (Str l)] w (KeyPost w l) := by
  have D0 := RK.start w l Z Z Z (.string ⟨#[]⟩) 24
  have HN : Hid (rkey l = some ((k, n, s, d), r)) := by show _ = _; unfold rkey; rw [h]; dsimp only; rw [if_pos hr]
  have CR := hide (fun W => right_any k n s (Str d) W (by rw [str_size]; have := (rval_len h).1; unfold maxLen; omega))
  rw [hr] at CR
  have hs := str_size l
  have hsr := str_size r
  have hlr := (rval_len h).2
  go_enter Try.func15, Try.ntmps15
  go_wp2_with (first | (go_at_call 28; refine (rvalue_some l hm h _ _ D0.box).mono ?_; rintro e W1 ⟨hB1, hG1, rfl⟩; have D1 := (D0.turn hB1 hG1).store (.int .i64 k) (.int .i64 n) (.int .i64 s) (.string (Str d)); obtain ⟨_, c0, c1, c2, c3, f0, f1, f2, f3⟩ := id (D0.turn hB1 hG1).res; clear D0) | (go_at_call 29; refine (unhide CR _).mono ?_; rintro e W2 ⟨rfl, hb2⟩; have D2 := D1.call hb2; clear D1; obtain ⟨_, d0, d1, d2, d3, g0, g1, g2, g3⟩ := id D2.res; have dr := D2.box.cell))
  go_region
  go_wp2
  obtain ⟨W9, hW9⟩ : ∃ W9, ((((W2.setCell ⟨w.heap.size, 0, none⟩ (.int .i64 k)).setCell ⟨w.heap.size, 1, none⟩ (.int .i64 n)).setCell ⟨w.heap.size, 2, none⟩ (.int .i64 s)).setCell ⟨w.heap.size, 3, none⟩ (.string (Str d))).drew = W9 := ⟨_, rfl⟩
  have D9 := (D2.store (.int .i64 k) (.int .i64 n) (.int .i64 s) (.string (Str d))).call (Below.refl _ _).drew
  rw [hW9] at D9 ⊢
  obtain ⟨_, z0, z1, z2, z3, _, _, _, _⟩ := id D9.res
  exact bodyPost_ret (v := .tuple #[V k n s (Str d), .int .i64 ((l.length : Int) - (r.length : Int)), .bool true]) (by simp [results, Try.results15, go_sem, z0, z1, z2, z3]) rfl ⟨D9.below, .inr ⟨k, n, s, d, r, unhide HN, rfl⟩⟩

theorem readKey_any (l : List UInt8) (hm : l.length ≤ 800000) (w : World) :
    Calls Try.prog 15 #[.string (Str l)] w (KeyPost w l) := by
  cases h : rval l with
  | none => exact readKey_a l hm h w
  | some x =>
    obtain ⟨⟨k, n, s, d⟩, r⟩ := x
    cases hr : rightB k n s (Str d)
    · exact readKey_b l hm h hr w
    · exact readKey_c l hm h hr w
end Go.Proofs.Ytbpjejjbgdikdaa
