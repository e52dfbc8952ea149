/-
  EvalSame: the walk.
-/
import Derived.Test.YtliefgkhpgigaaaVSmE
namespace Go.Proofs.Ytliefgkhpgigaaa
open Go.RowKit Go.Shelf
set_option linter.unusedSimpArgs false
set_option linter.unusedVariables false

set_option maxHeartbeats 32000000 in
set_option maxRecDepth 100000 in
theorem evalSame_walk (v0 : Value) (zs : List Int) (v1 : Value) (ys : List Int) (at_ : Int) (w2 : Is64 at_) (w : World) (h0 : Ints v0 zs w) (h1 : Ints v1 ys w) :
    Calls Try.prog 11 #[v0, v1, .int .i64 at_] w fun e w' => e = .returned (.bool true) ∧ Below w.heap.size w w' := by
  obtain ⟨p, np, rfl, hz⟩ := h0.parts
  obtain ⟨q, nq, rfl, hy⟩ := h1.parts
  have hq0 := Int.emod_nonneg at_ (show (4 : Int) ≠ 0 by decide)
  have hq1 := Int.emod_lt_of_pos at_ (show (0 : Int) < 4 by decide)
  obtain ⟨k, hk⟩ : ∃ k : Nat, at_ % 4 = (k : Int) := ⟨(at_ % 4).toNat, by omega⟩
  have hk4 : k < 4 := by omega
  have CW : Hid (∀ W, Calls Try.prog 29 #[.int .i64 at_, .int .i64 4] W fun e W' => e = .returned (.int .i64 (k : Int)) ∧ W' = W) := hide (fun W => hk ▸ within4_any at_ 4 W w2 (by decide))
  clear hk hq0 hq1 w2 h0 h1
  replace hz := hide hz
  replace hy := hide hy
  go_enter Try.func11, Try.ntmps11
  go_wp2_with fail
  refine (known4_any _).mono ?_
  rintro e W1 ⟨rfl, hb⟩
  have G : Hid (Grown w W1) := hb
  replace hz := hide ((unhide hz).call hb)
  replace hy := hide ((unhide hy).call hb)
  clear hb
  go_wp2_with fail
  refine (colsL_any _).mono ?_
  rintro e W2 ⟨gc, rfl, hC, hb⟩
  have hT := hide (Blk.new W2 #[.string ⟨#[116]⟩, .slice (some ⟨gc, 0, none⟩) 4 4, .int .i64 0, .slice none 0 0, .int .i64 0, .string ⟨#[]⟩, .int .i64 0, .int .i64 0, .int .i64 0, .string ⟨#[]⟩, .slice none 0 0, .slice none 0 0] 34)
  have gg := below_new W2 (.cells #[.string ⟨#[116]⟩, .slice (some ⟨gc, 0, none⟩) 4 4, .int .i64 0, .slice none 0 0, .int .i64 0, .string ⟨#[]⟩, .int .i64 0, .int .i64 0, .int .i64 0, .string ⟨#[]⟩, .slice none 0 0, .slice none 0 0] 34)
  replace G := hide (((unhide G).call hb).call gg)
  replace hz := hide (((unhide hz).call hb).call gg)
  replace hy := hide (((unhide hy).call hb).call gg)
  have hgc : gc < W2.heap.size + 1 := by
    obtain ⟨g', c', e1, l1, _⟩ := hC
    cases e1
    omega
  have hbt : W2.heap.size < W2.heap.size + 1 := by omega
  have hwn : w.heap.size ≤ W2.heap.size + 1 := by
    have := Below.size (unhide G)
    simpa using this
  have hn : (W2.alloc (.cells #[.string ⟨#[116]⟩, .slice (some ⟨gc, 0, none⟩) 4 4, .int .i64 0, .slice none 0 0, .int .i64 0, .string ⟨#[]⟩, .int .i64 0, .int .i64 0, .int .i64 0, .string ⟨#[]⟩, .slice none 0 0, .slice none 0 0] 34)).heap.size = W2.heap.size + 1 := by simp
  replace hC := hide (hC.call gg)
  clear hb gg
  go_wp2_with fail
  generalize W2.alloc (.cells #[.string ⟨#[116]⟩, .slice (some ⟨gc, 0, none⟩) 4 4, .int .i64 0, .slice none 0 0, .int .i64 0, .string ⟨#[]⟩, .int .i64 0, .int .i64 0, .int .i64 0, .string ⟨#[]⟩, .slice none 0 0, .slice none 0 0] 34) = X at *
  generalize hn0 : W2.heap.size + 1 = n0 at *
  generalize W2.heap.size = bt at *
  rename_i K4 hk4'
  refine smA rfl w n0 gc bt p q zs ys np nq at_ K4 _ (hide ?_) _ X (by kernel_rfl) G hC hT hz hy (hide (Nat.le_of_eq hn.symm))
  clear G hC hT hz hy
  intro ac ga ca la gb cb lb X ha G hC hT hz hy hRa hMa hga hRb hMb hgb
  refine hk4' _ _ ?_
  clear hk4'
  obtain ⟨hla, hmA⟩ := unhide hMa
  obtain ⟨hlb, hmB⟩ := unhide hMb
  have hga2 : n0 ≤ ga := unhide hga
  have hgb2 : ga + 1 ≤ gb := unhide hgb
  have hka : k < la.length := by omega
  have hkb : k < lb.length := by omega
  obtain ⟨x, hx⟩ : ∃ x, x = la[k] := ⟨_, rfl⟩
  have hxg : la[k]? = some x := by rw [List.getElem?_eq_getElem hka, hx]
  have hxm : MkV x := hx ▸ hmA _ (List.getElem_mem hka)
  obtain ⟨nm, hnm⟩ : ∃ n, NMk k = n := ⟨_, rfl⟩
  have va := nmk_val k la hla hk4
  rw [hnm, ← hx] at va
  have hl2 : (lb.set k x).length = 4 := by simpa using hlb
  have vb := nmk_val k (lb.set k x) hl2 hk4
  rw [hnm] at vb
  simp only [List.getElem_set_self] at vb
  have hm2 : ∀ v ∈ lb.set k x, MkV v := fun v hv => by
    rcases List.mem_or_eq_of_mem_set hv with h | h
    · exact hmB v h
    · exact h ▸ hxm
  obtain ⟨⟨p1, p2, p3, p4⟩, hp⟩ : ∃ v, NU x = v := ⟨_, rfl⟩
  obtain ⟨⟨s1, s2, s3, s4⟩, hs⟩ : ∃ v, EQ x x = v := ⟨_, rfl⟩
  have ea := hide (hp ▸ ev_nul (ev_col va.1))
  have eb := hide (hp ▸ ev_nul (ev_col vb.1))
  have fa := hide (hs ▸ ev_eq9 (ev_col va.1) (ev_col va.1))
  have fb := hide (hs ▸ ev_eq9 (ev_col vb.1) (ev_col vb.1))
  have fr := hide ((eq_self x).symm.trans hs)
  obtain ⟨x1, x2, x3, x4⟩ := x
  refine wp_seq_k ?_
  intro K5 hk5
  obtain ⟨u, rfl⟩ : ∃ u : Nat → Value, ac = ⟨#[.slice p zs.length np, .slice q ys.length nq, .int .i64 at_, u 3, u 4, u 5, u 6, .pointer (some ⟨bt, 0, none⟩), .slice (some ⟨ga, 0, none⟩) 4 ca, .slice (some ⟨gb, 0, none⟩) 4 cb, u 10, u 11, u 12, u 13, u 14, u 15, u 16, u 17, u 18, u 19, u 20, u 21, u 22, u 23, u 24, u 25, u 26, u 27, u 28, u 29, u 30, u 31, u 32, u 33, u 34, u 35, u 36, u 37, u 38, u 39, u 40, u 41, u 42, u 43, u 44, u 45, u 46, u 47, u 48, u 49, u 50, u 51, u 52, u 53, u 54, u 55, u 56, u 57, u 58, u 59, u 60, u 61, u 62, u 63, u 64, u 65, u 66, u 67, u 68, u 69, u 70, u 71, u 72, u 73, u 74, u 75, u 76, u 77, u 78, u 79, u 80, u 81, u 82, u 83, u 84, u 85, u 86, u 87, u 88, u 89, u 90, u 91, u 92, u 93, u 94, u 95, u 96, u 97, u 98, u 99, u 100, u 101, u 102, u 103, u 104, u 105, u 106, u 107, u 108, u 109, u 110, u 111, u 112, u 113, u 114, u 115, u 116, u 117, u 118, u 119, u 120, u 121, u 122, u 123, u 124, u 125, u 126, u 127], []⟩ := ⟨fun i => ac.tmps.getD i undef, ha⟩
  refine smK rfl w n0 gc bt ga ca gb cb k hk4 at_ la lb CW K5 _ (hide ?_) _ X (by kernel_rfl) G hC hT hRa hRb
  clear G hC hT hz hy hRa hRb ha
  intro ac X ha G hC hT hRa hRb
  refine hk5 _ _ ?_
  clear hk5
  refine wp_seq_k ?_
  intro K6 hk6
  refine smS rfl w n0 gc bt ga ca gb cb k hk4 at_ la lb x1 x2 x3 x4 hla hlb hxg hgc hbt hga2 hgb2 hwn K6 _ (hide ?_) ac X ha G hC hT hRa hRb
  clear G hC hT hRa hRb ha
  intro ac X ha G hC hT hRa hRb
  refine hk6 _ _ ?_
  clear hk6
  refine wp_seq_k ?_
  intro K7 hk7
  refine smX rfl w n0 gc bt ga ca gb cb k hk4 at_ la (lb.set k (x1, x2, x3, x4)) nm hnm K7 _ (hide ?_) ac X ha G hC hT hRa hRb
  clear G hC hT hRa hRb ha
  intro ac bx gx X ha G hC hT hRa hRb hX hrx
  refine hk7 _ _ ?_
  clear hk7
  refine wp_seq_k ?_
  intro K8 hk8
  refine smY rfl w n0 gc bt ga ca gb cb k hk4 at_ la (lb.set k (x1, x2, x3, x4)) nm hnm bx gx K8 _ (hide ?_) ac X ha G hC hT hRa hRb hX hrx
  clear G hC hT hRa hRb ha hX hrx
  intro ac by_ gy X ha G hC hT hRa hRb hX hrx hY hry
  refine hk8 _ _ ?_
  exact smE rfl w gc bt ga ca gb cb k at_ la (lb.set k (x1, x2, x3, x4)) nm bx gx by_ gy p1 p2 p3 p4 s1 s2 s3 s4 (x1, x2, x3, x4) hla hl2 (hide hmA) (hide hm2) va.2 ea eb fa fb fr hxm ac X ha G hC hT hRa hRb hX hrx hY hry
end Go.Proofs.Ytliefgkhpgigaaa
