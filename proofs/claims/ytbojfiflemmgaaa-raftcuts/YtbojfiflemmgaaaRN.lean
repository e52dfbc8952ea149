/-
  The reference's New: its four lists, made and stored in whatever order.
-/
import Derived.Test.YtbojfiflemmgaaaHG
namespace Go.Proofs.Ytbojfiflemmgaaa
open Go.RowKit
set_option linter.unusedSimpArgs false
set_option linter.unusedVariables false

theorem anyH_name {P : Program} {md : Region.Mode} {ops : Array Oper} {Q : Exit → Act → World → Prop} {S : World → Prop} {fuel : Nat} {listed : Array Bool} {a : Act} {w : World}
    (h : ∀ G : Nat → Array Bool → Act → World → Prop, (∀ f l a w, wpAnyH P md ops Q S f l a w → G f l a w) → (∀ f l a w, G f l a w → wpAnyH P md ops Q S f l a w) → G fuel listed a w) : wpAnyH P md ops Q S fuel listed a w :=
  h _ (fun _ _ _ _ x => x) (fun _ _ _ _ x => x)
abbrev ndV (i f : Nat) (v1 v2 v3 v4 : Value) : Array Value := #[nI i, .int .i64 0, .int .i64 (-1), .slice none 0 0, nI f, .int .i64 0, .int .i64 0, v1, v2, v3, v4, .int .i64 0, .int .i64 0]
/-- what a node in memory may have become: it alone may be other than it was -/
def Bw (nb : Nat) (W X : World) : Prop := ∃ Y, Keep W X (fun j => j = nb) (fun j => j = nb ∨ W.heap.size ≤ j) ∧ Y = X
set_option maxRecDepth 100000 in
set_option maxHeartbeats 16000000 in
theorem rnew_lists {r0 r1 r2 R0 : Code} (hc : Try.f23.body = some (.seq r0 (.seq r1 (.seq r2 R0)))) (Q : Exit → Act → World → Prop) (i s f nb rb : Nat) (Wd : World) (u : Nat → Value) (hs : s ≤ 5) (hN : Blk nb (ndV i f (.slice none 0 0) (.slice none 0 0) (.slice none 0 0) (.slice none 0 0)) 32 Wd)
    (REST : ∀ (ac : Act) (b1 b2 b3 b4 : Nat) (X : World), ac = ⟨#[nI i, nI s, nI f, undef, undef, undef, ptr rb 0, ptr nb 0, undef, ac.tmps.getD 9 undef, ac.tmps.getD 10 undef, ac.tmps.getD 11 undef, nI s, (.slice (some ⟨b1, 0, none⟩) s s), nI s, (.slice (some ⟨b2, 0, none⟩) s s), nI s, (.slice (some ⟨b3, 0, none⟩) s s), nI s, (.slice (some ⟨b4, 0, none⟩) s s), ptr nb 7, ptr nb 8, ptr nb 9, ptr nb 10, ac.tmps.getD 24 undef, ac.tmps.getD 25 undef, ac.tmps.getD 26 undef, ac.tmps.getD 27 undef, ac.tmps.getD 28 undef, ac.tmps.getD 29 undef, ac.tmps.getD 30 undef, ac.tmps.getD 31 undef, ac.tmps.getD 32 undef, ac.tmps.getD 33 undef, ac.tmps.getD 34 undef, ac.tmps.getD 35 undef, ac.tmps.getD 36 undef, ac.tmps.getD 37 undef, ac.tmps.getD 38 undef, ac.tmps.getD 39 undef, ac.tmps.getD 40 undef], []⟩ → Keep Wd X (fun j => j = nb) (fun j => j = nb ∨ Wd.heap.size ≤ j) → Hid (Blk nb (ndV i f (.slice (some ⟨b1, 0, none⟩) s s) (.slice (some ⟨b2, 0, none⟩) s s) (.slice (some ⟨b3, 0, none⟩) s s) (.slice (some ⟨b4, 0, none⟩) s s)) 32 X) → Hid (Blk b1 (List.replicate s (Value.bool false)).toArray 4 X) → Hid (Wd.heap.size ≤ b1) → Hid (Blk b2 (List.replicate s (Value.int .i64 0)).toArray 3 X) → Hid (Wd.heap.size ≤ b2) → Hid (Blk b3 (List.replicate s (Value.int .i64 0)).toArray 3 X) → Hid (Wd.heap.size ≤ b3) → Hid (Blk b4 (List.replicate s (Value.int .i64 0)).toArray 3 X) → Hid (Wd.heap.size ≤ b4) → Hid (b1 ≠ b2) → Hid (b1 ≠ b3) → Hid (b1 ≠ b4) → Hid (b2 ≠ b3) → Hid (b2 ≠ b4) → Hid (b3 ≠ b4) → Q .normal ac X) :
    r2.wp Try.prog Q ⟨#[nI i, nI s, nI f, undef, undef, undef, ptr rb 0, ptr nb 0, undef, u 9, u 10, u 11, u 12, u 13, u 14, u 15, u 16, u 17, u 18, u 19, u 20, u 21, u 22, u 23, u 24, u 25, u 26, u 27, u 28, u 29, u 30, u 31, u 32, u 33, u 34, u 35, u 36, u 37, u 38, u 39, u 40], []⟩ Wd := by
  replace REST := hide REST
  unfold Try.f23 at hc
  cases hc
  have MB := fun W => run_make_bool s (by omega) W
  have MI := fun W => run_make_int s (by omega) W
  have hNl := hN.lt
  replace hN := hide hN
  refine wp_region_noPanic ?_
  refine wp_region_held_drew (S := (fun _ => True)) (by kernel_rfl) (trivial) (fun hHeld => ?_)
  have KD : Keep Wd Wd.drew (fun j => j = nb) (fun j => j = nb ∨ Wd.heap.size ≤ j) := ⟨rfl, rfl, rfl, Nat.le_refl _, fun k hk hf => ⟨rfl, fun h => h.elim hf (fun h => by omega)⟩⟩
  replace hN := hide ((unhide hN).below (below_drew Wd))
  refine wpAnyH_take (i := 0) (oi := ?oi20001) (v := ?v20001) ?hi20001 (by kernel_rfl) (by kernel_rfl) (by kernel_rfl) (fun _ _ _ h => h) (Or.inl ⟨?hw20001, ?hy20001⟩) (by assumption) ?rest20001
  case hi20001 => (simp only [List.getElem?_toArray, List.getElem?_cons_zero]; rfl)
  case hw20001 => rfl
  case hy20001 => first | (intro wx hSw; go_simp; done) | (intro wx hSw; go_simp; with_reducible rfl)
  simp only [Act.put, List.setIfInBounds_toArray, List.set_cons_zero, List.set_cons_succ]
  refine wpAnyH_take (i := 2) (oi := ?oi20002) (v := ?v20002) ?hi20002 (by kernel_rfl) (by kernel_rfl) (by kernel_rfl) (fun _ _ _ h => h) (Or.inl ⟨?hw20002, ?hy20002⟩) (by assumption) ?rest20002
  case hi20002 => (simp only [List.getElem?_toArray, List.getElem?_cons_zero, List.getElem?_cons_succ]; rfl)
  case hw20002 => rfl
  case hy20002 => first | (intro wx hSw; go_simp; done) | (intro wx hSw; go_simp; with_reducible rfl)
  simp only [Act.put, List.setIfInBounds_toArray, List.set_cons_zero, List.set_cons_succ]
  refine wpAnyH_take (i := 4) (oi := ?oi20003) (v := ?v20003) ?hi20003 (by kernel_rfl) (by kernel_rfl) (by kernel_rfl) (fun _ _ _ h => h) (Or.inl ⟨?hw20003, ?hy20003⟩) (by assumption) ?rest20003
  case hi20003 => (simp only [List.getElem?_toArray, List.getElem?_cons_zero, List.getElem?_cons_succ]; rfl)
  case hw20003 => rfl
  case hy20003 => first | (intro wx hSw; go_simp; done) | (intro wx hSw; go_simp; with_reducible rfl)
  simp only [Act.put, List.setIfInBounds_toArray, List.set_cons_zero, List.set_cons_succ]
  refine wpAnyH_take (i := 6) (oi := ?oi20004) (v := ?v20004) ?hi20004 (by kernel_rfl) (by kernel_rfl) (by kernel_rfl) (fun _ _ _ h => h) (Or.inl ⟨?hw20004, ?hy20004⟩) (by assumption) ?rest20004
  case hi20004 => (simp only [List.getElem?_toArray, List.getElem?_cons_zero, List.getElem?_cons_succ]; rfl)
  case hw20004 => rfl
  case hy20004 => first | (intro wx hSw; go_simp; done) | (intro wx hSw; go_simp; with_reducible rfl)
  simp only [Act.put, List.setIfInBounds_toArray, List.set_cons_zero, List.set_cons_succ]
  refine anyH_name ?_
  intro GG hin hout
  have HIN := hide hin
  have HOUT := hide hout
  clear hin hout hHeld
  have C1234_4 : ∀ (ac : Act) (b1 : Nat) (b2 : Nat) (b3 : Nat) (b4 : Nat) (X : World), ac = ⟨#[nI i, nI s, nI f, undef, undef, undef, ptr rb 0, ptr nb 0, undef, ac.tmps.getD 9 undef, ac.tmps.getD 10 undef, ac.tmps.getD 11 undef, nI s, (.slice (some ⟨b1, 0, none⟩) s s), nI s, (.slice (some ⟨b2, 0, none⟩) s s), nI s, (.slice (some ⟨b3, 0, none⟩) s s), nI s, (.slice (some ⟨b4, 0, none⟩) s s), ptr nb 7, ptr nb 8, ptr nb 9, ptr nb 10, ac.tmps.getD 24 undef, ac.tmps.getD 25 undef, ac.tmps.getD 26 undef, ac.tmps.getD 27 undef, ac.tmps.getD 28 undef, ac.tmps.getD 29 undef, ac.tmps.getD 30 undef, ac.tmps.getD 31 undef, ac.tmps.getD 32 undef, ac.tmps.getD 33 undef, ac.tmps.getD 34 undef, ac.tmps.getD 35 undef, ac.tmps.getD 36 undef, ac.tmps.getD 37 undef, ac.tmps.getD 38 undef, ac.tmps.getD 39 undef, ac.tmps.getD 40 undef], []⟩ → Keep Wd X (fun j => j = nb) (fun j => j = nb ∨ Wd.heap.size ≤ j) → Hid (Blk nb (ndV i f (.slice (some ⟨b1, 0, none⟩) s s) (.slice (some ⟨b2, 0, none⟩) s s) (.slice (some ⟨b3, 0, none⟩) s s) (.slice (some ⟨b4, 0, none⟩) s s)) 32 X) → Hid (Blk b1 (List.replicate s (Value.bool false)).toArray 4 X) → Hid (Wd.heap.size ≤ b1) → Hid (Blk b2 (List.replicate s (Value.int .i64 0)).toArray 3 X) → Hid (Wd.heap.size ≤ b2) → Hid (Blk b3 (List.replicate s (Value.int .i64 0)).toArray 3 X) → Hid (Wd.heap.size ≤ b3) → Hid (Blk b4 (List.replicate s (Value.int .i64 0)).toArray 3 X) → Hid (Wd.heap.size ≤ b4) → Hid (b1 ≠ b2) → Hid (b1 ≠ b3) → Hid (b1 ≠ b4) → Hid (b2 ≠ b3) → Hid (b2 ≠ b4) → Hid (b3 ≠ b4) → GG 0 #[true, true, true, true, true, true, true, true, true, true, true, true, true, true, true, true] ac X := by
    intro ac b1 b2 b3 b4 X ha GD hN hM1 hg1 hM2 hg2 hM3 hg3 hM4 hg4 hd12 hd13 hd14 hd23 hd24 hd34
    obtain ⟨u, rfl⟩ : ∃ u : Nat → Value, ac = ⟨#[nI i, nI s, nI f, undef, undef, undef, ptr rb 0, ptr nb 0, undef, (u 9), (u 10), (u 11), nI s, (.slice (some ⟨b1, 0, none⟩) s s), nI s, (.slice (some ⟨b2, 0, none⟩) s s), nI s, (.slice (some ⟨b3, 0, none⟩) s s), nI s, (.slice (some ⟨b4, 0, none⟩) s s), ptr nb 7, ptr nb 8, ptr nb 9, ptr nb 10, (u 24), (u 25), (u 26), (u 27), (u 28), (u 29), (u 30), (u 31), (u 32), (u 33), (u 34), (u 35), (u 36), (u 37), (u 38), (u 39), (u 40)], []⟩ := ⟨fun i => ac.tmps.getD i undef, ha⟩
    clear ha
    refine unhide HIN _ _ _ _ ?_
    have hHeld : True := trivial
    refine wpAnyH_done (by kernel_rfl) ?_ _
    refine NoPanic.normal ?_
    exact unhide REST _ b1 b2 b3 b4 X (by rfl) GD hN hM1 hg1 hM2 hg2 hM3 hg3 hM4 hg4 hd12 hd13 hd14 hd23 hd24 hd34
  have C1234_4 := hide C1234_4
  have C1234_3 : ∀ (ac : Act) (b1 : Nat) (b2 : Nat) (b3 : Nat) (b4 : Nat) (X : World), ac = ⟨#[nI i, nI s, nI f, undef, undef, undef, ptr rb 0, ptr nb 0, undef, ac.tmps.getD 9 undef, ac.tmps.getD 10 undef, ac.tmps.getD 11 undef, nI s, (.slice (some ⟨b1, 0, none⟩) s s), nI s, (.slice (some ⟨b2, 0, none⟩) s s), nI s, (.slice (some ⟨b3, 0, none⟩) s s), nI s, (.slice (some ⟨b4, 0, none⟩) s s), ptr nb 7, ptr nb 8, ptr nb 9, ptr nb 10, ac.tmps.getD 24 undef, ac.tmps.getD 25 undef, ac.tmps.getD 26 undef, ac.tmps.getD 27 undef, ac.tmps.getD 28 undef, ac.tmps.getD 29 undef, ac.tmps.getD 30 undef, ac.tmps.getD 31 undef, ac.tmps.getD 32 undef, ac.tmps.getD 33 undef, ac.tmps.getD 34 undef, ac.tmps.getD 35 undef, ac.tmps.getD 36 undef, ac.tmps.getD 37 undef, ac.tmps.getD 38 undef, ac.tmps.getD 39 undef, ac.tmps.getD 40 undef], []⟩ → Keep Wd X (fun j => j = nb) (fun j => j = nb ∨ Wd.heap.size ≤ j) → Hid (Blk nb (ndV i f (.slice (some ⟨b1, 0, none⟩) s s) (.slice (some ⟨b2, 0, none⟩) s s) (.slice (some ⟨b3, 0, none⟩) s s) (.slice none 0 0)) 32 X) → Hid (Blk b1 (List.replicate s (Value.bool false)).toArray 4 X) → Hid (Wd.heap.size ≤ b1) → Hid (Blk b2 (List.replicate s (Value.int .i64 0)).toArray 3 X) → Hid (Wd.heap.size ≤ b2) → Hid (Blk b3 (List.replicate s (Value.int .i64 0)).toArray 3 X) → Hid (Wd.heap.size ≤ b3) → Hid (Blk b4 (List.replicate s (Value.int .i64 0)).toArray 3 X) → Hid (Wd.heap.size ≤ b4) → Hid (b1 ≠ b2) → Hid (b1 ≠ b3) → Hid (b1 ≠ b4) → Hid (b2 ≠ b3) → Hid (b2 ≠ b4) → Hid (b3 ≠ b4) → GG 1 #[true, true, true, true, true, true, true, true, true, true, true, true, true, true, true, false] ac X := by
    intro ac b1 b2 b3 b4 X ha GD hN hM1 hg1 hM2 hg2 hM3 hg3 hM4 hg4 hd12 hd13 hd14 hd23 hd24 hd34
    obtain ⟨u, rfl⟩ : ∃ u : Nat → Value, ac = ⟨#[nI i, nI s, nI f, undef, undef, undef, ptr rb 0, ptr nb 0, undef, (u 9), (u 10), (u 11), nI s, (.slice (some ⟨b1, 0, none⟩) s s), nI s, (.slice (some ⟨b2, 0, none⟩) s s), nI s, (.slice (some ⟨b3, 0, none⟩) s s), nI s, (.slice (some ⟨b4, 0, none⟩) s s), ptr nb 7, ptr nb 8, ptr nb 9, ptr nb 10, (u 24), (u 25), (u 26), (u 27), (u 28), (u 29), (u 30), (u 31), (u 32), (u 33), (u 34), (u 35), (u 36), (u 37), (u 38), (u 39), (u 40)], []⟩ := ⟨fun i => ac.tmps.getD i undef, ha⟩
    clear ha
    refine unhide HIN _ _ _ _ ?_
    have hHeld : True := trivial
    refine wpAnyH_ready (rs := [15]) (by kernel_rfl) (by simp) ?_
    refine AllReadyH.cons rfl (fun K20005 hK20005 => ?_) AllReadyH.nil
    have n_ := unhide hN
    have nc_ := n_.cell 10
    have nf_ := n_.froz
    have nl_ := n_.lt
    simp at nc_
    go_simp
    refine hK20005.out _ _ trivial (fun hH20005 => ?_)
    clear hHeld hH20005 hK20005 K20005
    have hHeld : True := trivial
    refine unhide HOUT _ _ _ _ ?_
    exact unhide C1234_4 _ b1 b2 b3 b4 _ (by kernel_rfl) (GD.trans (Keep.set (.inl rfl))) (hide (show Blk nb (ndV i f (.slice (some ⟨b1, 0, none⟩) s s) (.slice (some ⟨b2, 0, none⟩) s s) (.slice (some ⟨b3, 0, none⟩) s s) (.slice (some ⟨b4, 0, none⟩) s s)) 32 _ from (unhide hN).set 10 (.slice (some ⟨b4, 0, none⟩) s s))) (hide ((unhide hM1).far (by have := unhide hg1; omega))) hg1 (hide ((unhide hM2).far (by have := unhide hg2; omega))) hg2 (hide ((unhide hM3).far (by have := unhide hg3; omega))) hg3 (hide ((unhide hM4).far (by have := unhide hg4; omega))) hg4 hd12 hd13 hd14 hd23 hd24 hd34
  have C1234_3 := hide C1234_3
  have C1234_2 : ∀ (ac : Act) (b1 : Nat) (b2 : Nat) (b3 : Nat) (b4 : Nat) (X : World), ac = ⟨#[nI i, nI s, nI f, undef, undef, undef, ptr rb 0, ptr nb 0, undef, ac.tmps.getD 9 undef, ac.tmps.getD 10 undef, ac.tmps.getD 11 undef, nI s, (.slice (some ⟨b1, 0, none⟩) s s), nI s, (.slice (some ⟨b2, 0, none⟩) s s), nI s, (.slice (some ⟨b3, 0, none⟩) s s), nI s, (.slice (some ⟨b4, 0, none⟩) s s), ptr nb 7, ptr nb 8, ptr nb 9, ac.tmps.getD 23 undef, ac.tmps.getD 24 undef, ac.tmps.getD 25 undef, ac.tmps.getD 26 undef, ac.tmps.getD 27 undef, ac.tmps.getD 28 undef, ac.tmps.getD 29 undef, ac.tmps.getD 30 undef, ac.tmps.getD 31 undef, ac.tmps.getD 32 undef, ac.tmps.getD 33 undef, ac.tmps.getD 34 undef, ac.tmps.getD 35 undef, ac.tmps.getD 36 undef, ac.tmps.getD 37 undef, ac.tmps.getD 38 undef, ac.tmps.getD 39 undef, ac.tmps.getD 40 undef], []⟩ → Keep Wd X (fun j => j = nb) (fun j => j = nb ∨ Wd.heap.size ≤ j) → Hid (Blk nb (ndV i f (.slice (some ⟨b1, 0, none⟩) s s) (.slice (some ⟨b2, 0, none⟩) s s) (.slice none 0 0) (.slice none 0 0)) 32 X) → Hid (Blk b1 (List.replicate s (Value.bool false)).toArray 4 X) → Hid (Wd.heap.size ≤ b1) → Hid (Blk b2 (List.replicate s (Value.int .i64 0)).toArray 3 X) → Hid (Wd.heap.size ≤ b2) → Hid (Blk b3 (List.replicate s (Value.int .i64 0)).toArray 3 X) → Hid (Wd.heap.size ≤ b3) → Hid (Blk b4 (List.replicate s (Value.int .i64 0)).toArray 3 X) → Hid (Wd.heap.size ≤ b4) → Hid (b1 ≠ b2) → Hid (b1 ≠ b3) → Hid (b1 ≠ b4) → Hid (b2 ≠ b3) → Hid (b2 ≠ b4) → Hid (b3 ≠ b4) → GG 3 #[true, true, true, true, true, true, true, true, true, true, true, true, true, false, false, false] ac X := by
    intro ac b1 b2 b3 b4 X ha GD hN hM1 hg1 hM2 hg2 hM3 hg3 hM4 hg4 hd12 hd13 hd14 hd23 hd24 hd34
    obtain ⟨u, rfl⟩ : ∃ u : Nat → Value, ac = ⟨#[nI i, nI s, nI f, undef, undef, undef, ptr rb 0, ptr nb 0, undef, (u 9), (u 10), (u 11), nI s, (.slice (some ⟨b1, 0, none⟩) s s), nI s, (.slice (some ⟨b2, 0, none⟩) s s), nI s, (.slice (some ⟨b3, 0, none⟩) s s), nI s, (.slice (some ⟨b4, 0, none⟩) s s), ptr nb 7, ptr nb 8, ptr nb 9, (u 23), (u 24), (u 25), (u 26), (u 27), (u 28), (u 29), (u 30), (u 31), (u 32), (u 33), (u 34), (u 35), (u 36), (u 37), (u 38), (u 39), (u 40)], []⟩ := ⟨fun i => ac.tmps.getD i undef, ha⟩
    clear ha
    refine unhide HIN _ _ _ _ ?_
    have hHeld : True := trivial
    refine wpAnyH_ready (rs := [13]) (by kernel_rfl) (by simp) ?_
    refine AllReadyH.cons rfl (fun K20006 hK20006 => ?_) AllReadyH.nil
    have n_ := unhide hN
    have nc_ := n_.cell 9
    have nf_ := n_.froz
    have nl_ := n_.lt
    simp at nc_
    go_simp
    refine hK20006.out _ _ trivial (fun hH20006 => ?_)
    clear hHeld hH20006 hK20006 K20006
    have hHeld : True := trivial
    refine wpAnyH_take (i := 14) (oi := ?oi20007) (v := ?v20007) ?hi20007 (by kernel_rfl) (by kernel_rfl) (by kernel_rfl) (fun _ _ _ h => h) (Or.inl ⟨?hw20007, ?hy20007⟩) (by assumption) ?rest20007
    case hi20007 => (simp only [List.getElem?_toArray, List.getElem?_cons_zero, List.getElem?_cons_succ]; rfl)
    case hw20007 => rfl
    case hy20007 => first | (intro wx hSw; go_simp; done) | (intro wx hSw; go_simp; with_reducible rfl)
    simp only [Act.put, List.setIfInBounds_toArray, List.set_cons_zero, List.set_cons_succ]
    refine unhide HOUT _ _ _ _ ?_
    exact unhide C1234_3 _ b1 b2 b3 b4 _ (by kernel_rfl) (GD.trans (Keep.set (.inl rfl))) (hide (show Blk nb (ndV i f (.slice (some ⟨b1, 0, none⟩) s s) (.slice (some ⟨b2, 0, none⟩) s s) (.slice (some ⟨b3, 0, none⟩) s s) (.slice none 0 0)) 32 _ from (unhide hN).set 9 (.slice (some ⟨b3, 0, none⟩) s s))) (hide ((unhide hM1).far (by have := unhide hg1; omega))) hg1 (hide ((unhide hM2).far (by have := unhide hg2; omega))) hg2 (hide ((unhide hM3).far (by have := unhide hg3; omega))) hg3 (hide ((unhide hM4).far (by have := unhide hg4; omega))) hg4 hd12 hd13 hd14 hd23 hd24 hd34
  have C1234_2 := hide C1234_2
  have C1234_1 : ∀ (ac : Act) (b1 : Nat) (b2 : Nat) (b3 : Nat) (b4 : Nat) (X : World), ac = ⟨#[nI i, nI s, nI f, undef, undef, undef, ptr rb 0, ptr nb 0, undef, ac.tmps.getD 9 undef, ac.tmps.getD 10 undef, ac.tmps.getD 11 undef, nI s, (.slice (some ⟨b1, 0, none⟩) s s), nI s, (.slice (some ⟨b2, 0, none⟩) s s), nI s, (.slice (some ⟨b3, 0, none⟩) s s), nI s, (.slice (some ⟨b4, 0, none⟩) s s), ptr nb 7, ptr nb 8, ac.tmps.getD 22 undef, ac.tmps.getD 23 undef, ac.tmps.getD 24 undef, ac.tmps.getD 25 undef, ac.tmps.getD 26 undef, ac.tmps.getD 27 undef, ac.tmps.getD 28 undef, ac.tmps.getD 29 undef, ac.tmps.getD 30 undef, ac.tmps.getD 31 undef, ac.tmps.getD 32 undef, ac.tmps.getD 33 undef, ac.tmps.getD 34 undef, ac.tmps.getD 35 undef, ac.tmps.getD 36 undef, ac.tmps.getD 37 undef, ac.tmps.getD 38 undef, ac.tmps.getD 39 undef, ac.tmps.getD 40 undef], []⟩ → Keep Wd X (fun j => j = nb) (fun j => j = nb ∨ Wd.heap.size ≤ j) → Hid (Blk nb (ndV i f (.slice (some ⟨b1, 0, none⟩) s s) (.slice none 0 0) (.slice none 0 0) (.slice none 0 0)) 32 X) → Hid (Blk b1 (List.replicate s (Value.bool false)).toArray 4 X) → Hid (Wd.heap.size ≤ b1) → Hid (Blk b2 (List.replicate s (Value.int .i64 0)).toArray 3 X) → Hid (Wd.heap.size ≤ b2) → Hid (Blk b3 (List.replicate s (Value.int .i64 0)).toArray 3 X) → Hid (Wd.heap.size ≤ b3) → Hid (Blk b4 (List.replicate s (Value.int .i64 0)).toArray 3 X) → Hid (Wd.heap.size ≤ b4) → Hid (b1 ≠ b2) → Hid (b1 ≠ b3) → Hid (b1 ≠ b4) → Hid (b2 ≠ b3) → Hid (b2 ≠ b4) → Hid (b3 ≠ b4) → GG 5 #[true, true, true, true, true, true, true, true, true, true, true, false, false, false, false, false] ac X := by
    intro ac b1 b2 b3 b4 X ha GD hN hM1 hg1 hM2 hg2 hM3 hg3 hM4 hg4 hd12 hd13 hd14 hd23 hd24 hd34
    obtain ⟨u, rfl⟩ : ∃ u : Nat → Value, ac = ⟨#[nI i, nI s, nI f, undef, undef, undef, ptr rb 0, ptr nb 0, undef, (u 9), (u 10), (u 11), nI s, (.slice (some ⟨b1, 0, none⟩) s s), nI s, (.slice (some ⟨b2, 0, none⟩) s s), nI s, (.slice (some ⟨b3, 0, none⟩) s s), nI s, (.slice (some ⟨b4, 0, none⟩) s s), ptr nb 7, ptr nb 8, (u 22), (u 23), (u 24), (u 25), (u 26), (u 27), (u 28), (u 29), (u 30), (u 31), (u 32), (u 33), (u 34), (u 35), (u 36), (u 37), (u 38), (u 39), (u 40)], []⟩ := ⟨fun i => ac.tmps.getD i undef, ha⟩
    clear ha
    refine unhide HIN _ _ _ _ ?_
    have hHeld : True := trivial
    refine wpAnyH_ready (rs := [11]) (by kernel_rfl) (by simp) ?_
    refine AllReadyH.cons rfl (fun K20008 hK20008 => ?_) AllReadyH.nil
    have n_ := unhide hN
    have nc_ := n_.cell 8
    have nf_ := n_.froz
    have nl_ := n_.lt
    simp at nc_
    go_simp
    refine hK20008.out _ _ trivial (fun hH20008 => ?_)
    clear hHeld hH20008 hK20008 K20008
    have hHeld : True := trivial
    refine wpAnyH_take (i := 12) (oi := ?oi20009) (v := ?v20009) ?hi20009 (by kernel_rfl) (by kernel_rfl) (by kernel_rfl) (fun _ _ _ h => h) (Or.inl ⟨?hw20009, ?hy20009⟩) (by assumption) ?rest20009
    case hi20009 => (simp only [List.getElem?_toArray, List.getElem?_cons_zero, List.getElem?_cons_succ]; rfl)
    case hw20009 => rfl
    case hy20009 => first | (intro wx hSw; go_simp; done) | (intro wx hSw; go_simp; with_reducible rfl)
    simp only [Act.put, List.setIfInBounds_toArray, List.set_cons_zero, List.set_cons_succ]
    refine unhide HOUT _ _ _ _ ?_
    exact unhide C1234_2 _ b1 b2 b3 b4 _ (by kernel_rfl) (GD.trans (Keep.set (.inl rfl))) (hide (show Blk nb (ndV i f (.slice (some ⟨b1, 0, none⟩) s s) (.slice (some ⟨b2, 0, none⟩) s s) (.slice none 0 0) (.slice none 0 0)) 32 _ from (unhide hN).set 8 (.slice (some ⟨b2, 0, none⟩) s s))) (hide ((unhide hM1).far (by have := unhide hg1; omega))) hg1 (hide ((unhide hM2).far (by have := unhide hg2; omega))) hg2 (hide ((unhide hM3).far (by have := unhide hg3; omega))) hg3 (hide ((unhide hM4).far (by have := unhide hg4; omega))) hg4 hd12 hd13 hd14 hd23 hd24 hd34
  have C1234_1 := hide C1234_1
  have C1234_0 : ∀ (ac : Act) (b1 : Nat) (b2 : Nat) (b3 : Nat) (b4 : Nat) (X : World), ac = ⟨#[nI i, nI s, nI f, undef, undef, undef, ptr rb 0, ptr nb 0, undef, ac.tmps.getD 9 undef, ac.tmps.getD 10 undef, ac.tmps.getD 11 undef, nI s, (.slice (some ⟨b1, 0, none⟩) s s), nI s, (.slice (some ⟨b2, 0, none⟩) s s), nI s, (.slice (some ⟨b3, 0, none⟩) s s), nI s, (.slice (some ⟨b4, 0, none⟩) s s), ptr nb 7, ac.tmps.getD 21 undef, ac.tmps.getD 22 undef, ac.tmps.getD 23 undef, ac.tmps.getD 24 undef, ac.tmps.getD 25 undef, ac.tmps.getD 26 undef, ac.tmps.getD 27 undef, ac.tmps.getD 28 undef, ac.tmps.getD 29 undef, ac.tmps.getD 30 undef, ac.tmps.getD 31 undef, ac.tmps.getD 32 undef, ac.tmps.getD 33 undef, ac.tmps.getD 34 undef, ac.tmps.getD 35 undef, ac.tmps.getD 36 undef, ac.tmps.getD 37 undef, ac.tmps.getD 38 undef, ac.tmps.getD 39 undef, ac.tmps.getD 40 undef], []⟩ → Keep Wd X (fun j => j = nb) (fun j => j = nb ∨ Wd.heap.size ≤ j) → Hid (Blk nb (ndV i f (.slice none 0 0) (.slice none 0 0) (.slice none 0 0) (.slice none 0 0)) 32 X) → Hid (Blk b1 (List.replicate s (Value.bool false)).toArray 4 X) → Hid (Wd.heap.size ≤ b1) → Hid (Blk b2 (List.replicate s (Value.int .i64 0)).toArray 3 X) → Hid (Wd.heap.size ≤ b2) → Hid (Blk b3 (List.replicate s (Value.int .i64 0)).toArray 3 X) → Hid (Wd.heap.size ≤ b3) → Hid (Blk b4 (List.replicate s (Value.int .i64 0)).toArray 3 X) → Hid (Wd.heap.size ≤ b4) → Hid (b1 ≠ b2) → Hid (b1 ≠ b3) → Hid (b1 ≠ b4) → Hid (b2 ≠ b3) → Hid (b2 ≠ b4) → Hid (b3 ≠ b4) → GG 7 #[true, true, true, true, true, true, true, true, true, false, false, false, false, false, false, false] ac X := by
    intro ac b1 b2 b3 b4 X ha GD hN hM1 hg1 hM2 hg2 hM3 hg3 hM4 hg4 hd12 hd13 hd14 hd23 hd24 hd34
    obtain ⟨u, rfl⟩ : ∃ u : Nat → Value, ac = ⟨#[nI i, nI s, nI f, undef, undef, undef, ptr rb 0, ptr nb 0, undef, (u 9), (u 10), (u 11), nI s, (.slice (some ⟨b1, 0, none⟩) s s), nI s, (.slice (some ⟨b2, 0, none⟩) s s), nI s, (.slice (some ⟨b3, 0, none⟩) s s), nI s, (.slice (some ⟨b4, 0, none⟩) s s), ptr nb 7, (u 21), (u 22), (u 23), (u 24), (u 25), (u 26), (u 27), (u 28), (u 29), (u 30), (u 31), (u 32), (u 33), (u 34), (u 35), (u 36), (u 37), (u 38), (u 39), (u 40)], []⟩ := ⟨fun i => ac.tmps.getD i undef, ha⟩
    clear ha
    refine unhide HIN _ _ _ _ ?_
    have hHeld : True := trivial
    refine wpAnyH_ready (rs := [9]) (by kernel_rfl) (by simp) ?_
    refine AllReadyH.cons rfl (fun K20010 hK20010 => ?_) AllReadyH.nil
    have n_ := unhide hN
    have nc_ := n_.cell 7
    have nf_ := n_.froz
    have nl_ := n_.lt
    simp at nc_
    go_simp
    refine hK20010.out _ _ trivial (fun hH20010 => ?_)
    clear hHeld hH20010 hK20010 K20010
    have hHeld : True := trivial
    refine wpAnyH_take (i := 10) (oi := ?oi20011) (v := ?v20011) ?hi20011 (by kernel_rfl) (by kernel_rfl) (by kernel_rfl) (fun _ _ _ h => h) (Or.inl ⟨?hw20011, ?hy20011⟩) (by assumption) ?rest20011
    case hi20011 => (simp only [List.getElem?_toArray, List.getElem?_cons_zero, List.getElem?_cons_succ]; rfl)
    case hw20011 => rfl
    case hy20011 => first | (intro wx hSw; go_simp; done) | (intro wx hSw; go_simp; with_reducible rfl)
    simp only [Act.put, List.setIfInBounds_toArray, List.set_cons_zero, List.set_cons_succ]
    refine unhide HOUT _ _ _ _ ?_
    exact unhide C1234_1 _ b1 b2 b3 b4 _ (by kernel_rfl) (GD.trans (Keep.set (.inl rfl))) (hide (show Blk nb (ndV i f (.slice (some ⟨b1, 0, none⟩) s s) (.slice none 0 0) (.slice none 0 0) (.slice none 0 0)) 32 _ from (unhide hN).set 7 (.slice (some ⟨b1, 0, none⟩) s s))) (hide ((unhide hM1).far (by have := unhide hg1; omega))) hg1 (hide ((unhide hM2).far (by have := unhide hg2; omega))) hg2 (hide ((unhide hM3).far (by have := unhide hg3; omega))) hg3 (hide ((unhide hM4).far (by have := unhide hg4; omega))) hg4 hd12 hd13 hd14 hd23 hd24 hd34
  have C1234_0 := hide C1234_0
  have C123_3 : ∀ (ac : Act) (b1 : Nat) (b2 : Nat) (b3 : Nat) (X : World), ac = ⟨#[nI i, nI s, nI f, undef, undef, undef, ptr rb 0, ptr nb 0, undef, ac.tmps.getD 9 undef, ac.tmps.getD 10 undef, ac.tmps.getD 11 undef, nI s, (.slice (some ⟨b1, 0, none⟩) s s), nI s, (.slice (some ⟨b2, 0, none⟩) s s), nI s, (.slice (some ⟨b3, 0, none⟩) s s), nI s, ac.tmps.getD 19 undef, ptr nb 7, ptr nb 8, ptr nb 9, ac.tmps.getD 23 undef, ac.tmps.getD 24 undef, ac.tmps.getD 25 undef, ac.tmps.getD 26 undef, ac.tmps.getD 27 undef, ac.tmps.getD 28 undef, ac.tmps.getD 29 undef, ac.tmps.getD 30 undef, ac.tmps.getD 31 undef, ac.tmps.getD 32 undef, ac.tmps.getD 33 undef, ac.tmps.getD 34 undef, ac.tmps.getD 35 undef, ac.tmps.getD 36 undef, ac.tmps.getD 37 undef, ac.tmps.getD 38 undef, ac.tmps.getD 39 undef, ac.tmps.getD 40 undef], []⟩ → Keep Wd X (fun j => j = nb) (fun j => j = nb ∨ Wd.heap.size ≤ j) → Hid (Blk nb (ndV i f (.slice (some ⟨b1, 0, none⟩) s s) (.slice (some ⟨b2, 0, none⟩) s s) (.slice (some ⟨b3, 0, none⟩) s s) (.slice none 0 0)) 32 X) → Hid (Blk b1 (List.replicate s (Value.bool false)).toArray 4 X) → Hid (Wd.heap.size ≤ b1) → Hid (Blk b2 (List.replicate s (Value.int .i64 0)).toArray 3 X) → Hid (Wd.heap.size ≤ b2) → Hid (Blk b3 (List.replicate s (Value.int .i64 0)).toArray 3 X) → Hid (Wd.heap.size ≤ b3) → Hid (b1 ≠ b2) → Hid (b1 ≠ b3) → Hid (b2 ≠ b3) → GG 3 #[true, true, true, true, true, true, true, false, true, true, true, true, true, true, false, false] ac X := by
    intro ac b1 b2 b3 X ha GD hN hM1 hg1 hM2 hg2 hM3 hg3 hd12 hd13 hd23
    obtain ⟨u, rfl⟩ : ∃ u : Nat → Value, ac = ⟨#[nI i, nI s, nI f, undef, undef, undef, ptr rb 0, ptr nb 0, undef, (u 9), (u 10), (u 11), nI s, (.slice (some ⟨b1, 0, none⟩) s s), nI s, (.slice (some ⟨b2, 0, none⟩) s s), nI s, (.slice (some ⟨b3, 0, none⟩) s s), nI s, (u 19), ptr nb 7, ptr nb 8, ptr nb 9, (u 23), (u 24), (u 25), (u 26), (u 27), (u 28), (u 29), (u 30), (u 31), (u 32), (u 33), (u 34), (u 35), (u 36), (u 37), (u 38), (u 39), (u 40)], []⟩ := ⟨fun i => ac.tmps.getD i undef, ha⟩
    clear ha
    refine unhide HIN _ _ _ _ ?_
    have hHeld : True := trivial
    refine wpAnyH_ready (rs := [7]) (by kernel_rfl) (by simp) ?_
    refine AllReadyH.cons rfl (fun K20012 hK20012 => ?_) AllReadyH.nil
    go_simp
    have hb := below_new X (.cells (List.replicate s (Value.int .i64 0)).toArray 3)
    have hM4 := hide (Blk.new X (List.replicate s (Value.int .i64 0)).toArray 3)
    have hg4 : Hid (Wd.heap.size ≤ X.heap.size) := hide GD.size
    refine hK20012.out _ _ trivial (fun hH20012 => ?_)
    clear hHeld hH20012 hK20012 K20012
    have hHeld : True := trivial
    refine wpAnyH_take (i := 14) (oi := ?oi20013) (v := ?v20013) ?hi20013 (by kernel_rfl) (by kernel_rfl) (by kernel_rfl) (fun _ _ _ h => h) (Or.inl ⟨?hw20013, ?hy20013⟩) (by assumption) ?rest20013
    case hi20013 => (simp only [List.getElem?_toArray, List.getElem?_cons_zero, List.getElem?_cons_succ]; rfl)
    case hw20013 => rfl
    case hy20013 => first | (intro wx hSw; go_simp; done) | (intro wx hSw; go_simp; with_reducible rfl)
    simp only [Act.put, List.setIfInBounds_toArray, List.set_cons_zero, List.set_cons_succ]
    refine unhide HOUT _ _ _ _ ?_
    exact unhide C1234_3 _ b1 b2 b3 _ _ (by kernel_rfl) (GD.trans (Keep.call _ hb)) (hide ((unhide hN).below hb)) (hide ((unhide hM1).below hb)) hg1 (hide ((unhide hM2).below hb)) hg2 (hide ((unhide hM3).below hb)) hg3 hM4 hg4 hd12 hd13 (hide (Nat.ne_of_lt (unhide hM1).lt)) hd23 (hide (Nat.ne_of_lt (unhide hM2).lt)) (hide (Nat.ne_of_lt (unhide hM3).lt))
  have C123_3 := hide C123_3
  have C123_2 : ∀ (ac : Act) (b1 : Nat) (b2 : Nat) (b3 : Nat) (X : World), ac = ⟨#[nI i, nI s, nI f, undef, undef, undef, ptr rb 0, ptr nb 0, undef, ac.tmps.getD 9 undef, ac.tmps.getD 10 undef, ac.tmps.getD 11 undef, nI s, (.slice (some ⟨b1, 0, none⟩) s s), nI s, (.slice (some ⟨b2, 0, none⟩) s s), nI s, (.slice (some ⟨b3, 0, none⟩) s s), nI s, ac.tmps.getD 19 undef, ptr nb 7, ptr nb 8, ptr nb 9, ac.tmps.getD 23 undef, ac.tmps.getD 24 undef, ac.tmps.getD 25 undef, ac.tmps.getD 26 undef, ac.tmps.getD 27 undef, ac.tmps.getD 28 undef, ac.tmps.getD 29 undef, ac.tmps.getD 30 undef, ac.tmps.getD 31 undef, ac.tmps.getD 32 undef, ac.tmps.getD 33 undef, ac.tmps.getD 34 undef, ac.tmps.getD 35 undef, ac.tmps.getD 36 undef, ac.tmps.getD 37 undef, ac.tmps.getD 38 undef, ac.tmps.getD 39 undef, ac.tmps.getD 40 undef], []⟩ → Keep Wd X (fun j => j = nb) (fun j => j = nb ∨ Wd.heap.size ≤ j) → Hid (Blk nb (ndV i f (.slice (some ⟨b1, 0, none⟩) s s) (.slice (some ⟨b2, 0, none⟩) s s) (.slice none 0 0) (.slice none 0 0)) 32 X) → Hid (Blk b1 (List.replicate s (Value.bool false)).toArray 4 X) → Hid (Wd.heap.size ≤ b1) → Hid (Blk b2 (List.replicate s (Value.int .i64 0)).toArray 3 X) → Hid (Wd.heap.size ≤ b2) → Hid (Blk b3 (List.replicate s (Value.int .i64 0)).toArray 3 X) → Hid (Wd.heap.size ≤ b3) → Hid (b1 ≠ b2) → Hid (b1 ≠ b3) → Hid (b2 ≠ b3) → GG 4 #[true, true, true, true, true, true, true, false, true, true, true, true, true, false, false, false] ac X := by
    intro ac b1 b2 b3 X ha GD hN hM1 hg1 hM2 hg2 hM3 hg3 hd12 hd13 hd23
    obtain ⟨u, rfl⟩ : ∃ u : Nat → Value, ac = ⟨#[nI i, nI s, nI f, undef, undef, undef, ptr rb 0, ptr nb 0, undef, (u 9), (u 10), (u 11), nI s, (.slice (some ⟨b1, 0, none⟩) s s), nI s, (.slice (some ⟨b2, 0, none⟩) s s), nI s, (.slice (some ⟨b3, 0, none⟩) s s), nI s, (u 19), ptr nb 7, ptr nb 8, ptr nb 9, (u 23), (u 24), (u 25), (u 26), (u 27), (u 28), (u 29), (u 30), (u 31), (u 32), (u 33), (u 34), (u 35), (u 36), (u 37), (u 38), (u 39), (u 40)], []⟩ := ⟨fun i => ac.tmps.getD i undef, ha⟩
    clear ha
    refine unhide HIN _ _ _ _ ?_
    have hHeld : True := trivial
    refine wpAnyH_ready (rs := [7, 13]) (by kernel_rfl) (by simp) ?_
    refine AllReadyH.cons rfl (fun K20014 hK20014 => ?_) ?_
    · go_simp
      have hb := below_new X (.cells (List.replicate s (Value.int .i64 0)).toArray 3)
      have hM4 := hide (Blk.new X (List.replicate s (Value.int .i64 0)).toArray 3)
      have hg4 : Hid (Wd.heap.size ≤ X.heap.size) := hide GD.size
      refine hK20014.out _ _ trivial (fun hH20014 => ?_)
      clear hHeld hH20014 hK20014 K20014
      have hHeld : True := trivial
      refine unhide HOUT _ _ _ _ ?_
      exact unhide C1234_2 _ b1 b2 b3 _ _ (by kernel_rfl) (GD.trans (Keep.call _ hb)) (hide ((unhide hN).below hb)) (hide ((unhide hM1).below hb)) hg1 (hide ((unhide hM2).below hb)) hg2 (hide ((unhide hM3).below hb)) hg3 hM4 hg4 hd12 hd13 (hide (Nat.ne_of_lt (unhide hM1).lt)) hd23 (hide (Nat.ne_of_lt (unhide hM2).lt)) (hide (Nat.ne_of_lt (unhide hM3).lt))
    refine AllReadyH.cons rfl (fun K20015 hK20015 => ?_) AllReadyH.nil
    · have n_ := unhide hN
      have nc_ := n_.cell 9
      have nf_ := n_.froz
      have nl_ := n_.lt
      simp at nc_
      go_simp
      refine hK20015.out _ _ trivial (fun hH20015 => ?_)
      clear hHeld hH20015 hK20015 K20015
      have hHeld : True := trivial
      refine unhide HOUT _ _ _ _ ?_
      exact unhide C123_3 _ b1 b2 b3 _ (by kernel_rfl) (GD.trans (Keep.set (.inl rfl))) (hide (show Blk nb (ndV i f (.slice (some ⟨b1, 0, none⟩) s s) (.slice (some ⟨b2, 0, none⟩) s s) (.slice (some ⟨b3, 0, none⟩) s s) (.slice none 0 0)) 32 _ from (unhide hN).set 9 (.slice (some ⟨b3, 0, none⟩) s s))) (hide ((unhide hM1).far (by have := unhide hg1; omega))) hg1 (hide ((unhide hM2).far (by have := unhide hg2; omega))) hg2 (hide ((unhide hM3).far (by have := unhide hg3; omega))) hg3 hd12 hd13 hd23
  have C123_2 := hide C123_2
  have C123_1 : ∀ (ac : Act) (b1 : Nat) (b2 : Nat) (b3 : Nat) (X : World), ac = ⟨#[nI i, nI s, nI f, undef, undef, undef, ptr rb 0, ptr nb 0, undef, ac.tmps.getD 9 undef, ac.tmps.getD 10 undef, ac.tmps.getD 11 undef, nI s, (.slice (some ⟨b1, 0, none⟩) s s), nI s, (.slice (some ⟨b2, 0, none⟩) s s), nI s, (.slice (some ⟨b3, 0, none⟩) s s), nI s, ac.tmps.getD 19 undef, ptr nb 7, ptr nb 8, ac.tmps.getD 22 undef, ac.tmps.getD 23 undef, ac.tmps.getD 24 undef, ac.tmps.getD 25 undef, ac.tmps.getD 26 undef, ac.tmps.getD 27 undef, ac.tmps.getD 28 undef, ac.tmps.getD 29 undef, ac.tmps.getD 30 undef, ac.tmps.getD 31 undef, ac.tmps.getD 32 undef, ac.tmps.getD 33 undef, ac.tmps.getD 34 undef, ac.tmps.getD 35 undef, ac.tmps.getD 36 undef, ac.tmps.getD 37 undef, ac.tmps.getD 38 undef, ac.tmps.getD 39 undef, ac.tmps.getD 40 undef], []⟩ → Keep Wd X (fun j => j = nb) (fun j => j = nb ∨ Wd.heap.size ≤ j) → Hid (Blk nb (ndV i f (.slice (some ⟨b1, 0, none⟩) s s) (.slice none 0 0) (.slice none 0 0) (.slice none 0 0)) 32 X) → Hid (Blk b1 (List.replicate s (Value.bool false)).toArray 4 X) → Hid (Wd.heap.size ≤ b1) → Hid (Blk b2 (List.replicate s (Value.int .i64 0)).toArray 3 X) → Hid (Wd.heap.size ≤ b2) → Hid (Blk b3 (List.replicate s (Value.int .i64 0)).toArray 3 X) → Hid (Wd.heap.size ≤ b3) → Hid (b1 ≠ b2) → Hid (b1 ≠ b3) → Hid (b2 ≠ b3) → GG 6 #[true, true, true, true, true, true, true, false, true, true, true, false, false, false, false, false] ac X := by
    intro ac b1 b2 b3 X ha GD hN hM1 hg1 hM2 hg2 hM3 hg3 hd12 hd13 hd23
    obtain ⟨u, rfl⟩ : ∃ u : Nat → Value, ac = ⟨#[nI i, nI s, nI f, undef, undef, undef, ptr rb 0, ptr nb 0, undef, (u 9), (u 10), (u 11), nI s, (.slice (some ⟨b1, 0, none⟩) s s), nI s, (.slice (some ⟨b2, 0, none⟩) s s), nI s, (.slice (some ⟨b3, 0, none⟩) s s), nI s, (u 19), ptr nb 7, ptr nb 8, (u 22), (u 23), (u 24), (u 25), (u 26), (u 27), (u 28), (u 29), (u 30), (u 31), (u 32), (u 33), (u 34), (u 35), (u 36), (u 37), (u 38), (u 39), (u 40)], []⟩ := ⟨fun i => ac.tmps.getD i undef, ha⟩
    clear ha
    refine unhide HIN _ _ _ _ ?_
    have hHeld : True := trivial
    refine wpAnyH_ready (rs := [7, 11]) (by kernel_rfl) (by simp) ?_
    refine AllReadyH.cons rfl (fun K20016 hK20016 => ?_) ?_
    · go_simp
      have hb := below_new X (.cells (List.replicate s (Value.int .i64 0)).toArray 3)
      have hM4 := hide (Blk.new X (List.replicate s (Value.int .i64 0)).toArray 3)
      have hg4 : Hid (Wd.heap.size ≤ X.heap.size) := hide GD.size
      refine hK20016.out _ _ trivial (fun hH20016 => ?_)
      clear hHeld hH20016 hK20016 K20016
      have hHeld : True := trivial
      refine unhide HOUT _ _ _ _ ?_
      exact unhide C1234_1 _ b1 b2 b3 _ _ (by kernel_rfl) (GD.trans (Keep.call _ hb)) (hide ((unhide hN).below hb)) (hide ((unhide hM1).below hb)) hg1 (hide ((unhide hM2).below hb)) hg2 (hide ((unhide hM3).below hb)) hg3 hM4 hg4 hd12 hd13 (hide (Nat.ne_of_lt (unhide hM1).lt)) hd23 (hide (Nat.ne_of_lt (unhide hM2).lt)) (hide (Nat.ne_of_lt (unhide hM3).lt))
    refine AllReadyH.cons rfl (fun K20017 hK20017 => ?_) AllReadyH.nil
    · have n_ := unhide hN
      have nc_ := n_.cell 8
      have nf_ := n_.froz
      have nl_ := n_.lt
      simp at nc_
      go_simp
      refine hK20017.out _ _ trivial (fun hH20017 => ?_)
      clear hHeld hH20017 hK20017 K20017
      have hHeld : True := trivial
      refine wpAnyH_take (i := 12) (oi := ?oi20018) (v := ?v20018) ?hi20018 (by kernel_rfl) (by kernel_rfl) (by kernel_rfl) (fun _ _ _ h => h) (Or.inl ⟨?hw20018, ?hy20018⟩) (by assumption) ?rest20018
      case hi20018 => (simp only [List.getElem?_toArray, List.getElem?_cons_zero, List.getElem?_cons_succ]; rfl)
      case hw20018 => rfl
      case hy20018 => first | (intro wx hSw; go_simp; done) | (intro wx hSw; go_simp; with_reducible rfl)
      simp only [Act.put, List.setIfInBounds_toArray, List.set_cons_zero, List.set_cons_succ]
      refine unhide HOUT _ _ _ _ ?_
      exact unhide C123_2 _ b1 b2 b3 _ (by kernel_rfl) (GD.trans (Keep.set (.inl rfl))) (hide (show Blk nb (ndV i f (.slice (some ⟨b1, 0, none⟩) s s) (.slice (some ⟨b2, 0, none⟩) s s) (.slice none 0 0) (.slice none 0 0)) 32 _ from (unhide hN).set 8 (.slice (some ⟨b2, 0, none⟩) s s))) (hide ((unhide hM1).far (by have := unhide hg1; omega))) hg1 (hide ((unhide hM2).far (by have := unhide hg2; omega))) hg2 (hide ((unhide hM3).far (by have := unhide hg3; omega))) hg3 hd12 hd13 hd23
  have C123_1 := hide C123_1
  have C123_0 : ∀ (ac : Act) (b1 : Nat) (b2 : Nat) (b3 : Nat) (X : World), ac = ⟨#[nI i, nI s, nI f, undef, undef, undef, ptr rb 0, ptr nb 0, undef, ac.tmps.getD 9 undef, ac.tmps.getD 10 undef, ac.tmps.getD 11 undef, nI s, (.slice (some ⟨b1, 0, none⟩) s s), nI s, (.slice (some ⟨b2, 0, none⟩) s s), nI s, (.slice (some ⟨b3, 0, none⟩) s s), nI s, ac.tmps.getD 19 undef, ptr nb 7, ac.tmps.getD 21 undef, ac.tmps.getD 22 undef, ac.tmps.getD 23 undef, ac.tmps.getD 24 undef, ac.tmps.getD 25 undef, ac.tmps.getD 26 undef, ac.tmps.getD 27 undef, ac.tmps.getD 28 undef, ac.tmps.getD 29 undef, ac.tmps.getD 30 undef, ac.tmps.getD 31 undef, ac.tmps.getD 32 undef, ac.tmps.getD 33 undef, ac.tmps.getD 34 undef, ac.tmps.getD 35 undef, ac.tmps.getD 36 undef, ac.tmps.getD 37 undef, ac.tmps.getD 38 undef, ac.tmps.getD 39 undef, ac.tmps.getD 40 undef], []⟩ → Keep Wd X (fun j => j = nb) (fun j => j = nb ∨ Wd.heap.size ≤ j) → Hid (Blk nb (ndV i f (.slice none 0 0) (.slice none 0 0) (.slice none 0 0) (.slice none 0 0)) 32 X) → Hid (Blk b1 (List.replicate s (Value.bool false)).toArray 4 X) → Hid (Wd.heap.size ≤ b1) → Hid (Blk b2 (List.replicate s (Value.int .i64 0)).toArray 3 X) → Hid (Wd.heap.size ≤ b2) → Hid (Blk b3 (List.replicate s (Value.int .i64 0)).toArray 3 X) → Hid (Wd.heap.size ≤ b3) → Hid (b1 ≠ b2) → Hid (b1 ≠ b3) → Hid (b2 ≠ b3) → GG 8 #[true, true, true, true, true, true, true, false, true, false, false, false, false, false, false, false] ac X := by
    intro ac b1 b2 b3 X ha GD hN hM1 hg1 hM2 hg2 hM3 hg3 hd12 hd13 hd23
    obtain ⟨u, rfl⟩ : ∃ u : Nat → Value, ac = ⟨#[nI i, nI s, nI f, undef, undef, undef, ptr rb 0, ptr nb 0, undef, (u 9), (u 10), (u 11), nI s, (.slice (some ⟨b1, 0, none⟩) s s), nI s, (.slice (some ⟨b2, 0, none⟩) s s), nI s, (.slice (some ⟨b3, 0, none⟩) s s), nI s, (u 19), ptr nb 7, (u 21), (u 22), (u 23), (u 24), (u 25), (u 26), (u 27), (u 28), (u 29), (u 30), (u 31), (u 32), (u 33), (u 34), (u 35), (u 36), (u 37), (u 38), (u 39), (u 40)], []⟩ := ⟨fun i => ac.tmps.getD i undef, ha⟩
    clear ha
    refine unhide HIN _ _ _ _ ?_
    have hHeld : True := trivial
    refine wpAnyH_ready (rs := [7, 9]) (by kernel_rfl) (by simp) ?_
    refine AllReadyH.cons rfl (fun K20019 hK20019 => ?_) ?_
    · go_simp
      have hb := below_new X (.cells (List.replicate s (Value.int .i64 0)).toArray 3)
      have hM4 := hide (Blk.new X (List.replicate s (Value.int .i64 0)).toArray 3)
      have hg4 : Hid (Wd.heap.size ≤ X.heap.size) := hide GD.size
      refine hK20019.out _ _ trivial (fun hH20019 => ?_)
      clear hHeld hH20019 hK20019 K20019
      have hHeld : True := trivial
      refine unhide HOUT _ _ _ _ ?_
      exact unhide C1234_0 _ b1 b2 b3 _ _ (by kernel_rfl) (GD.trans (Keep.call _ hb)) (hide ((unhide hN).below hb)) (hide ((unhide hM1).below hb)) hg1 (hide ((unhide hM2).below hb)) hg2 (hide ((unhide hM3).below hb)) hg3 hM4 hg4 hd12 hd13 (hide (Nat.ne_of_lt (unhide hM1).lt)) hd23 (hide (Nat.ne_of_lt (unhide hM2).lt)) (hide (Nat.ne_of_lt (unhide hM3).lt))
    refine AllReadyH.cons rfl (fun K20020 hK20020 => ?_) AllReadyH.nil
    · have n_ := unhide hN
      have nc_ := n_.cell 7
      have nf_ := n_.froz
      have nl_ := n_.lt
      simp at nc_
      go_simp
      refine hK20020.out _ _ trivial (fun hH20020 => ?_)
      clear hHeld hH20020 hK20020 K20020
      have hHeld : True := trivial
      refine wpAnyH_take (i := 10) (oi := ?oi20021) (v := ?v20021) ?hi20021 (by kernel_rfl) (by kernel_rfl) (by kernel_rfl) (fun _ _ _ h => h) (Or.inl ⟨?hw20021, ?hy20021⟩) (by assumption) ?rest20021
      case hi20021 => (simp only [List.getElem?_toArray, List.getElem?_cons_zero, List.getElem?_cons_succ]; rfl)
      case hw20021 => rfl
      case hy20021 => first | (intro wx hSw; go_simp; done) | (intro wx hSw; go_simp; with_reducible rfl)
      simp only [Act.put, List.setIfInBounds_toArray, List.set_cons_zero, List.set_cons_succ]
      refine unhide HOUT _ _ _ _ ?_
      exact unhide C123_1 _ b1 b2 b3 _ (by kernel_rfl) (GD.trans (Keep.set (.inl rfl))) (hide (show Blk nb (ndV i f (.slice (some ⟨b1, 0, none⟩) s s) (.slice none 0 0) (.slice none 0 0) (.slice none 0 0)) 32 _ from (unhide hN).set 7 (.slice (some ⟨b1, 0, none⟩) s s))) (hide ((unhide hM1).far (by have := unhide hg1; omega))) hg1 (hide ((unhide hM2).far (by have := unhide hg2; omega))) hg2 (hide ((unhide hM3).far (by have := unhide hg3; omega))) hg3 hd12 hd13 hd23
  have C123_0 := hide C123_0
  have C124_2 : ∀ (ac : Act) (b1 : Nat) (b2 : Nat) (b4 : Nat) (X : World), ac = ⟨#[nI i, nI s, nI f, undef, undef, undef, ptr rb 0, ptr nb 0, undef, ac.tmps.getD 9 undef, ac.tmps.getD 10 undef, ac.tmps.getD 11 undef, nI s, (.slice (some ⟨b1, 0, none⟩) s s), nI s, (.slice (some ⟨b2, 0, none⟩) s s), nI s, ac.tmps.getD 17 undef, nI s, (.slice (some ⟨b4, 0, none⟩) s s), ptr nb 7, ptr nb 8, ac.tmps.getD 22 undef, ac.tmps.getD 23 undef, ac.tmps.getD 24 undef, ac.tmps.getD 25 undef, ac.tmps.getD 26 undef, ac.tmps.getD 27 undef, ac.tmps.getD 28 undef, ac.tmps.getD 29 undef, ac.tmps.getD 30 undef, ac.tmps.getD 31 undef, ac.tmps.getD 32 undef, ac.tmps.getD 33 undef, ac.tmps.getD 34 undef, ac.tmps.getD 35 undef, ac.tmps.getD 36 undef, ac.tmps.getD 37 undef, ac.tmps.getD 38 undef, ac.tmps.getD 39 undef, ac.tmps.getD 40 undef], []⟩ → Keep Wd X (fun j => j = nb) (fun j => j = nb ∨ Wd.heap.size ≤ j) → Hid (Blk nb (ndV i f (.slice (some ⟨b1, 0, none⟩) s s) (.slice (some ⟨b2, 0, none⟩) s s) (.slice none 0 0) (.slice none 0 0)) 32 X) → Hid (Blk b1 (List.replicate s (Value.bool false)).toArray 4 X) → Hid (Wd.heap.size ≤ b1) → Hid (Blk b2 (List.replicate s (Value.int .i64 0)).toArray 3 X) → Hid (Wd.heap.size ≤ b2) → Hid (Blk b4 (List.replicate s (Value.int .i64 0)).toArray 3 X) → Hid (Wd.heap.size ≤ b4) → Hid (b1 ≠ b2) → Hid (b1 ≠ b4) → Hid (b2 ≠ b4) → GG 5 #[true, true, true, true, true, false, true, true, true, true, true, true, false, false, false, false] ac X := by
    intro ac b1 b2 b4 X ha GD hN hM1 hg1 hM2 hg2 hM4 hg4 hd12 hd14 hd24
    obtain ⟨u, rfl⟩ : ∃ u : Nat → Value, ac = ⟨#[nI i, nI s, nI f, undef, undef, undef, ptr rb 0, ptr nb 0, undef, (u 9), (u 10), (u 11), nI s, (.slice (some ⟨b1, 0, none⟩) s s), nI s, (.slice (some ⟨b2, 0, none⟩) s s), nI s, (u 17), nI s, (.slice (some ⟨b4, 0, none⟩) s s), ptr nb 7, ptr nb 8, (u 22), (u 23), (u 24), (u 25), (u 26), (u 27), (u 28), (u 29), (u 30), (u 31), (u 32), (u 33), (u 34), (u 35), (u 36), (u 37), (u 38), (u 39), (u 40)], []⟩ := ⟨fun i => ac.tmps.getD i undef, ha⟩
    clear ha
    refine unhide HIN _ _ _ _ ?_
    have hHeld : True := trivial
    refine wpAnyH_ready (rs := [5]) (by kernel_rfl) (by simp) ?_
    refine AllReadyH.cons rfl (fun K20022 hK20022 => ?_) AllReadyH.nil
    go_simp
    have hb := below_new X (.cells (List.replicate s (Value.int .i64 0)).toArray 3)
    have hM3 := hide (Blk.new X (List.replicate s (Value.int .i64 0)).toArray 3)
    have hg3 : Hid (Wd.heap.size ≤ X.heap.size) := hide GD.size
    refine hK20022.out _ _ trivial (fun hH20022 => ?_)
    clear hHeld hH20022 hK20022 K20022
    have hHeld : True := trivial
    refine wpAnyH_take (i := 12) (oi := ?oi20023) (v := ?v20023) ?hi20023 (by kernel_rfl) (by kernel_rfl) (by kernel_rfl) (fun _ _ _ h => h) (Or.inl ⟨?hw20023, ?hy20023⟩) (by assumption) ?rest20023
    case hi20023 => (simp only [List.getElem?_toArray, List.getElem?_cons_zero, List.getElem?_cons_succ]; rfl)
    case hw20023 => rfl
    case hy20023 => first | (intro wx hSw; go_simp; done) | (intro wx hSw; go_simp; with_reducible rfl)
    simp only [Act.put, List.setIfInBounds_toArray, List.set_cons_zero, List.set_cons_succ]
    refine unhide HOUT _ _ _ _ ?_
    exact unhide C1234_2 _ b1 b2 _ b4 _ (by kernel_rfl) (GD.trans (Keep.call _ hb)) (hide ((unhide hN).below hb)) (hide ((unhide hM1).below hb)) hg1 (hide ((unhide hM2).below hb)) hg2 hM3 hg3 (hide ((unhide hM4).below hb)) hg4 hd12 (hide (Nat.ne_of_lt (unhide hM1).lt)) hd14 (hide (Nat.ne_of_lt (unhide hM2).lt)) hd24 (hide (Ne.symm (Nat.ne_of_lt (unhide hM4).lt)))
  have C124_2 := hide C124_2
  have C124_1 : ∀ (ac : Act) (b1 : Nat) (b2 : Nat) (b4 : Nat) (X : World), ac = ⟨#[nI i, nI s, nI f, undef, undef, undef, ptr rb 0, ptr nb 0, undef, ac.tmps.getD 9 undef, ac.tmps.getD 10 undef, ac.tmps.getD 11 undef, nI s, (.slice (some ⟨b1, 0, none⟩) s s), nI s, (.slice (some ⟨b2, 0, none⟩) s s), nI s, ac.tmps.getD 17 undef, nI s, (.slice (some ⟨b4, 0, none⟩) s s), ptr nb 7, ptr nb 8, ac.tmps.getD 22 undef, ac.tmps.getD 23 undef, ac.tmps.getD 24 undef, ac.tmps.getD 25 undef, ac.tmps.getD 26 undef, ac.tmps.getD 27 undef, ac.tmps.getD 28 undef, ac.tmps.getD 29 undef, ac.tmps.getD 30 undef, ac.tmps.getD 31 undef, ac.tmps.getD 32 undef, ac.tmps.getD 33 undef, ac.tmps.getD 34 undef, ac.tmps.getD 35 undef, ac.tmps.getD 36 undef, ac.tmps.getD 37 undef, ac.tmps.getD 38 undef, ac.tmps.getD 39 undef, ac.tmps.getD 40 undef], []⟩ → Keep Wd X (fun j => j = nb) (fun j => j = nb ∨ Wd.heap.size ≤ j) → Hid (Blk nb (ndV i f (.slice (some ⟨b1, 0, none⟩) s s) (.slice none 0 0) (.slice none 0 0) (.slice none 0 0)) 32 X) → Hid (Blk b1 (List.replicate s (Value.bool false)).toArray 4 X) → Hid (Wd.heap.size ≤ b1) → Hid (Blk b2 (List.replicate s (Value.int .i64 0)).toArray 3 X) → Hid (Wd.heap.size ≤ b2) → Hid (Blk b4 (List.replicate s (Value.int .i64 0)).toArray 3 X) → Hid (Wd.heap.size ≤ b4) → Hid (b1 ≠ b2) → Hid (b1 ≠ b4) → Hid (b2 ≠ b4) → GG 6 #[true, true, true, true, true, false, true, true, true, true, true, false, false, false, false, false] ac X := by
    intro ac b1 b2 b4 X ha GD hN hM1 hg1 hM2 hg2 hM4 hg4 hd12 hd14 hd24
    obtain ⟨u, rfl⟩ : ∃ u : Nat → Value, ac = ⟨#[nI i, nI s, nI f, undef, undef, undef, ptr rb 0, ptr nb 0, undef, (u 9), (u 10), (u 11), nI s, (.slice (some ⟨b1, 0, none⟩) s s), nI s, (.slice (some ⟨b2, 0, none⟩) s s), nI s, (u 17), nI s, (.slice (some ⟨b4, 0, none⟩) s s), ptr nb 7, ptr nb 8, (u 22), (u 23), (u 24), (u 25), (u 26), (u 27), (u 28), (u 29), (u 30), (u 31), (u 32), (u 33), (u 34), (u 35), (u 36), (u 37), (u 38), (u 39), (u 40)], []⟩ := ⟨fun i => ac.tmps.getD i undef, ha⟩
    clear ha
    refine unhide HIN _ _ _ _ ?_
    have hHeld : True := trivial
    refine wpAnyH_ready (rs := [5, 11]) (by kernel_rfl) (by simp) ?_
    refine AllReadyH.cons rfl (fun K20024 hK20024 => ?_) ?_
    · go_simp
      have hb := below_new X (.cells (List.replicate s (Value.int .i64 0)).toArray 3)
      have hM3 := hide (Blk.new X (List.replicate s (Value.int .i64 0)).toArray 3)
      have hg3 : Hid (Wd.heap.size ≤ X.heap.size) := hide GD.size
      refine hK20024.out _ _ trivial (fun hH20024 => ?_)
      clear hHeld hH20024 hK20024 K20024
      have hHeld : True := trivial
      refine unhide HOUT _ _ _ _ ?_
      exact unhide C1234_1 _ b1 b2 _ b4 _ (by kernel_rfl) (GD.trans (Keep.call _ hb)) (hide ((unhide hN).below hb)) (hide ((unhide hM1).below hb)) hg1 (hide ((unhide hM2).below hb)) hg2 hM3 hg3 (hide ((unhide hM4).below hb)) hg4 hd12 (hide (Nat.ne_of_lt (unhide hM1).lt)) hd14 (hide (Nat.ne_of_lt (unhide hM2).lt)) hd24 (hide (Ne.symm (Nat.ne_of_lt (unhide hM4).lt)))
    refine AllReadyH.cons rfl (fun K20025 hK20025 => ?_) AllReadyH.nil
    · have n_ := unhide hN
      have nc_ := n_.cell 8
      have nf_ := n_.froz
      have nl_ := n_.lt
      simp at nc_
      go_simp
      refine hK20025.out _ _ trivial (fun hH20025 => ?_)
      clear hHeld hH20025 hK20025 K20025
      have hHeld : True := trivial
      refine unhide HOUT _ _ _ _ ?_
      exact unhide C124_2 _ b1 b2 b4 _ (by kernel_rfl) (GD.trans (Keep.set (.inl rfl))) (hide (show Blk nb (ndV i f (.slice (some ⟨b1, 0, none⟩) s s) (.slice (some ⟨b2, 0, none⟩) s s) (.slice none 0 0) (.slice none 0 0)) 32 _ from (unhide hN).set 8 (.slice (some ⟨b2, 0, none⟩) s s))) (hide ((unhide hM1).far (by have := unhide hg1; omega))) hg1 (hide ((unhide hM2).far (by have := unhide hg2; omega))) hg2 (hide ((unhide hM4).far (by have := unhide hg4; omega))) hg4 hd12 hd14 hd24
  have C124_1 := hide C124_1
  have C124_0 : ∀ (ac : Act) (b1 : Nat) (b2 : Nat) (b4 : Nat) (X : World), ac = ⟨#[nI i, nI s, nI f, undef, undef, undef, ptr rb 0, ptr nb 0, undef, ac.tmps.getD 9 undef, ac.tmps.getD 10 undef, ac.tmps.getD 11 undef, nI s, (.slice (some ⟨b1, 0, none⟩) s s), nI s, (.slice (some ⟨b2, 0, none⟩) s s), nI s, ac.tmps.getD 17 undef, nI s, (.slice (some ⟨b4, 0, none⟩) s s), ptr nb 7, ac.tmps.getD 21 undef, ac.tmps.getD 22 undef, ac.tmps.getD 23 undef, ac.tmps.getD 24 undef, ac.tmps.getD 25 undef, ac.tmps.getD 26 undef, ac.tmps.getD 27 undef, ac.tmps.getD 28 undef, ac.tmps.getD 29 undef, ac.tmps.getD 30 undef, ac.tmps.getD 31 undef, ac.tmps.getD 32 undef, ac.tmps.getD 33 undef, ac.tmps.getD 34 undef, ac.tmps.getD 35 undef, ac.tmps.getD 36 undef, ac.tmps.getD 37 undef, ac.tmps.getD 38 undef, ac.tmps.getD 39 undef, ac.tmps.getD 40 undef], []⟩ → Keep Wd X (fun j => j = nb) (fun j => j = nb ∨ Wd.heap.size ≤ j) → Hid (Blk nb (ndV i f (.slice none 0 0) (.slice none 0 0) (.slice none 0 0) (.slice none 0 0)) 32 X) → Hid (Blk b1 (List.replicate s (Value.bool false)).toArray 4 X) → Hid (Wd.heap.size ≤ b1) → Hid (Blk b2 (List.replicate s (Value.int .i64 0)).toArray 3 X) → Hid (Wd.heap.size ≤ b2) → Hid (Blk b4 (List.replicate s (Value.int .i64 0)).toArray 3 X) → Hid (Wd.heap.size ≤ b4) → Hid (b1 ≠ b2) → Hid (b1 ≠ b4) → Hid (b2 ≠ b4) → GG 8 #[true, true, true, true, true, false, true, true, true, false, false, false, false, false, false, false] ac X := by
    intro ac b1 b2 b4 X ha GD hN hM1 hg1 hM2 hg2 hM4 hg4 hd12 hd14 hd24
    obtain ⟨u, rfl⟩ : ∃ u : Nat → Value, ac = ⟨#[nI i, nI s, nI f, undef, undef, undef, ptr rb 0, ptr nb 0, undef, (u 9), (u 10), (u 11), nI s, (.slice (some ⟨b1, 0, none⟩) s s), nI s, (.slice (some ⟨b2, 0, none⟩) s s), nI s, (u 17), nI s, (.slice (some ⟨b4, 0, none⟩) s s), ptr nb 7, (u 21), (u 22), (u 23), (u 24), (u 25), (u 26), (u 27), (u 28), (u 29), (u 30), (u 31), (u 32), (u 33), (u 34), (u 35), (u 36), (u 37), (u 38), (u 39), (u 40)], []⟩ := ⟨fun i => ac.tmps.getD i undef, ha⟩
    clear ha
    refine unhide HIN _ _ _ _ ?_
    have hHeld : True := trivial
    refine wpAnyH_ready (rs := [5, 9]) (by kernel_rfl) (by simp) ?_
    refine AllReadyH.cons rfl (fun K20026 hK20026 => ?_) ?_
    · go_simp
      have hb := below_new X (.cells (List.replicate s (Value.int .i64 0)).toArray 3)
      have hM3 := hide (Blk.new X (List.replicate s (Value.int .i64 0)).toArray 3)
      have hg3 : Hid (Wd.heap.size ≤ X.heap.size) := hide GD.size
      refine hK20026.out _ _ trivial (fun hH20026 => ?_)
      clear hHeld hH20026 hK20026 K20026
      have hHeld : True := trivial
      refine unhide HOUT _ _ _ _ ?_
      exact unhide C1234_0 _ b1 b2 _ b4 _ (by kernel_rfl) (GD.trans (Keep.call _ hb)) (hide ((unhide hN).below hb)) (hide ((unhide hM1).below hb)) hg1 (hide ((unhide hM2).below hb)) hg2 hM3 hg3 (hide ((unhide hM4).below hb)) hg4 hd12 (hide (Nat.ne_of_lt (unhide hM1).lt)) hd14 (hide (Nat.ne_of_lt (unhide hM2).lt)) hd24 (hide (Ne.symm (Nat.ne_of_lt (unhide hM4).lt)))
    refine AllReadyH.cons rfl (fun K20027 hK20027 => ?_) AllReadyH.nil
    · have n_ := unhide hN
      have nc_ := n_.cell 7
      have nf_ := n_.froz
      have nl_ := n_.lt
      simp at nc_
      go_simp
      refine hK20027.out _ _ trivial (fun hH20027 => ?_)
      clear hHeld hH20027 hK20027 K20027
      have hHeld : True := trivial
      refine wpAnyH_take (i := 10) (oi := ?oi20028) (v := ?v20028) ?hi20028 (by kernel_rfl) (by kernel_rfl) (by kernel_rfl) (fun _ _ _ h => h) (Or.inl ⟨?hw20028, ?hy20028⟩) (by assumption) ?rest20028
      case hi20028 => (simp only [List.getElem?_toArray, List.getElem?_cons_zero, List.getElem?_cons_succ]; rfl)
      case hw20028 => rfl
      case hy20028 => first | (intro wx hSw; go_simp; done) | (intro wx hSw; go_simp; with_reducible rfl)
      simp only [Act.put, List.setIfInBounds_toArray, List.set_cons_zero, List.set_cons_succ]
      refine unhide HOUT _ _ _ _ ?_
      exact unhide C124_1 _ b1 b2 b4 _ (by kernel_rfl) (GD.trans (Keep.set (.inl rfl))) (hide (show Blk nb (ndV i f (.slice (some ⟨b1, 0, none⟩) s s) (.slice none 0 0) (.slice none 0 0) (.slice none 0 0)) 32 _ from (unhide hN).set 7 (.slice (some ⟨b1, 0, none⟩) s s))) (hide ((unhide hM1).far (by have := unhide hg1; omega))) hg1 (hide ((unhide hM2).far (by have := unhide hg2; omega))) hg2 (hide ((unhide hM4).far (by have := unhide hg4; omega))) hg4 hd12 hd14 hd24
  have C124_0 := hide C124_0
  have C12_2 : ∀ (ac : Act) (b1 : Nat) (b2 : Nat) (X : World), ac = ⟨#[nI i, nI s, nI f, undef, undef, undef, ptr rb 0, ptr nb 0, undef, ac.tmps.getD 9 undef, ac.tmps.getD 10 undef, ac.tmps.getD 11 undef, nI s, (.slice (some ⟨b1, 0, none⟩) s s), nI s, (.slice (some ⟨b2, 0, none⟩) s s), nI s, ac.tmps.getD 17 undef, nI s, ac.tmps.getD 19 undef, ptr nb 7, ptr nb 8, ac.tmps.getD 22 undef, ac.tmps.getD 23 undef, ac.tmps.getD 24 undef, ac.tmps.getD 25 undef, ac.tmps.getD 26 undef, ac.tmps.getD 27 undef, ac.tmps.getD 28 undef, ac.tmps.getD 29 undef, ac.tmps.getD 30 undef, ac.tmps.getD 31 undef, ac.tmps.getD 32 undef, ac.tmps.getD 33 undef, ac.tmps.getD 34 undef, ac.tmps.getD 35 undef, ac.tmps.getD 36 undef, ac.tmps.getD 37 undef, ac.tmps.getD 38 undef, ac.tmps.getD 39 undef, ac.tmps.getD 40 undef], []⟩ → Keep Wd X (fun j => j = nb) (fun j => j = nb ∨ Wd.heap.size ≤ j) → Hid (Blk nb (ndV i f (.slice (some ⟨b1, 0, none⟩) s s) (.slice (some ⟨b2, 0, none⟩) s s) (.slice none 0 0) (.slice none 0 0)) 32 X) → Hid (Blk b1 (List.replicate s (Value.bool false)).toArray 4 X) → Hid (Wd.heap.size ≤ b1) → Hid (Blk b2 (List.replicate s (Value.int .i64 0)).toArray 3 X) → Hid (Wd.heap.size ≤ b2) → Hid (b1 ≠ b2) → GG 6 #[true, true, true, true, true, false, true, false, true, true, true, true, false, false, false, false] ac X := by
    intro ac b1 b2 X ha GD hN hM1 hg1 hM2 hg2 hd12
    obtain ⟨u, rfl⟩ : ∃ u : Nat → Value, ac = ⟨#[nI i, nI s, nI f, undef, undef, undef, ptr rb 0, ptr nb 0, undef, (u 9), (u 10), (u 11), nI s, (.slice (some ⟨b1, 0, none⟩) s s), nI s, (.slice (some ⟨b2, 0, none⟩) s s), nI s, (u 17), nI s, (u 19), ptr nb 7, ptr nb 8, (u 22), (u 23), (u 24), (u 25), (u 26), (u 27), (u 28), (u 29), (u 30), (u 31), (u 32), (u 33), (u 34), (u 35), (u 36), (u 37), (u 38), (u 39), (u 40)], []⟩ := ⟨fun i => ac.tmps.getD i undef, ha⟩
    clear ha
    refine unhide HIN _ _ _ _ ?_
    have hHeld : True := trivial
    refine wpAnyH_ready (rs := [5, 7]) (by kernel_rfl) (by simp) ?_
    refine AllReadyH.cons rfl (fun K20029 hK20029 => ?_) ?_
    · go_simp
      have hb := below_new X (.cells (List.replicate s (Value.int .i64 0)).toArray 3)
      have hM3 := hide (Blk.new X (List.replicate s (Value.int .i64 0)).toArray 3)
      have hg3 : Hid (Wd.heap.size ≤ X.heap.size) := hide GD.size
      refine hK20029.out _ _ trivial (fun hH20029 => ?_)
      clear hHeld hH20029 hK20029 K20029
      have hHeld : True := trivial
      refine wpAnyH_take (i := 12) (oi := ?oi20030) (v := ?v20030) ?hi20030 (by kernel_rfl) (by kernel_rfl) (by kernel_rfl) (fun _ _ _ h => h) (Or.inl ⟨?hw20030, ?hy20030⟩) (by assumption) ?rest20030
      case hi20030 => (simp only [List.getElem?_toArray, List.getElem?_cons_zero, List.getElem?_cons_succ]; rfl)
      case hw20030 => rfl
      case hy20030 => first | (intro wx hSw; go_simp; done) | (intro wx hSw; go_simp; with_reducible rfl)
      simp only [Act.put, List.setIfInBounds_toArray, List.set_cons_zero, List.set_cons_succ]
      refine unhide HOUT _ _ _ _ ?_
      exact unhide C123_2 _ b1 b2 _ _ (by kernel_rfl) (GD.trans (Keep.call _ hb)) (hide ((unhide hN).below hb)) (hide ((unhide hM1).below hb)) hg1 (hide ((unhide hM2).below hb)) hg2 hM3 hg3 hd12 (hide (Nat.ne_of_lt (unhide hM1).lt)) (hide (Nat.ne_of_lt (unhide hM2).lt))
    refine AllReadyH.cons rfl (fun K20031 hK20031 => ?_) AllReadyH.nil
    · go_simp
      have hb := below_new X (.cells (List.replicate s (Value.int .i64 0)).toArray 3)
      have hM4 := hide (Blk.new X (List.replicate s (Value.int .i64 0)).toArray 3)
      have hg4 : Hid (Wd.heap.size ≤ X.heap.size) := hide GD.size
      refine hK20031.out _ _ trivial (fun hH20031 => ?_)
      clear hHeld hH20031 hK20031 K20031
      have hHeld : True := trivial
      refine unhide HOUT _ _ _ _ ?_
      exact unhide C124_2 _ b1 b2 _ _ (by kernel_rfl) (GD.trans (Keep.call _ hb)) (hide ((unhide hN).below hb)) (hide ((unhide hM1).below hb)) hg1 (hide ((unhide hM2).below hb)) hg2 hM4 hg4 hd12 (hide (Nat.ne_of_lt (unhide hM1).lt)) (hide (Nat.ne_of_lt (unhide hM2).lt))
  have C12_2 := hide C12_2
  have C12_1 : ∀ (ac : Act) (b1 : Nat) (b2 : Nat) (X : World), ac = ⟨#[nI i, nI s, nI f, undef, undef, undef, ptr rb 0, ptr nb 0, undef, ac.tmps.getD 9 undef, ac.tmps.getD 10 undef, ac.tmps.getD 11 undef, nI s, (.slice (some ⟨b1, 0, none⟩) s s), nI s, (.slice (some ⟨b2, 0, none⟩) s s), nI s, ac.tmps.getD 17 undef, nI s, ac.tmps.getD 19 undef, ptr nb 7, ptr nb 8, ac.tmps.getD 22 undef, ac.tmps.getD 23 undef, ac.tmps.getD 24 undef, ac.tmps.getD 25 undef, ac.tmps.getD 26 undef, ac.tmps.getD 27 undef, ac.tmps.getD 28 undef, ac.tmps.getD 29 undef, ac.tmps.getD 30 undef, ac.tmps.getD 31 undef, ac.tmps.getD 32 undef, ac.tmps.getD 33 undef, ac.tmps.getD 34 undef, ac.tmps.getD 35 undef, ac.tmps.getD 36 undef, ac.tmps.getD 37 undef, ac.tmps.getD 38 undef, ac.tmps.getD 39 undef, ac.tmps.getD 40 undef], []⟩ → Keep Wd X (fun j => j = nb) (fun j => j = nb ∨ Wd.heap.size ≤ j) → Hid (Blk nb (ndV i f (.slice (some ⟨b1, 0, none⟩) s s) (.slice none 0 0) (.slice none 0 0) (.slice none 0 0)) 32 X) → Hid (Blk b1 (List.replicate s (Value.bool false)).toArray 4 X) → Hid (Wd.heap.size ≤ b1) → Hid (Blk b2 (List.replicate s (Value.int .i64 0)).toArray 3 X) → Hid (Wd.heap.size ≤ b2) → Hid (b1 ≠ b2) → GG 7 #[true, true, true, true, true, false, true, false, true, true, true, false, false, false, false, false] ac X := by
    intro ac b1 b2 X ha GD hN hM1 hg1 hM2 hg2 hd12
    obtain ⟨u, rfl⟩ : ∃ u : Nat → Value, ac = ⟨#[nI i, nI s, nI f, undef, undef, undef, ptr rb 0, ptr nb 0, undef, (u 9), (u 10), (u 11), nI s, (.slice (some ⟨b1, 0, none⟩) s s), nI s, (.slice (some ⟨b2, 0, none⟩) s s), nI s, (u 17), nI s, (u 19), ptr nb 7, ptr nb 8, (u 22), (u 23), (u 24), (u 25), (u 26), (u 27), (u 28), (u 29), (u 30), (u 31), (u 32), (u 33), (u 34), (u 35), (u 36), (u 37), (u 38), (u 39), (u 40)], []⟩ := ⟨fun i => ac.tmps.getD i undef, ha⟩
    clear ha
    refine unhide HIN _ _ _ _ ?_
    have hHeld : True := trivial
    refine wpAnyH_ready (rs := [5, 7, 11]) (by kernel_rfl) (by simp) ?_
    refine AllReadyH.cons rfl (fun K20032 hK20032 => ?_) ?_
    · go_simp
      have hb := below_new X (.cells (List.replicate s (Value.int .i64 0)).toArray 3)
      have hM3 := hide (Blk.new X (List.replicate s (Value.int .i64 0)).toArray 3)
      have hg3 : Hid (Wd.heap.size ≤ X.heap.size) := hide GD.size
      refine hK20032.out _ _ trivial (fun hH20032 => ?_)
      clear hHeld hH20032 hK20032 K20032
      have hHeld : True := trivial
      refine unhide HOUT _ _ _ _ ?_
      exact unhide C123_1 _ b1 b2 _ _ (by kernel_rfl) (GD.trans (Keep.call _ hb)) (hide ((unhide hN).below hb)) (hide ((unhide hM1).below hb)) hg1 (hide ((unhide hM2).below hb)) hg2 hM3 hg3 hd12 (hide (Nat.ne_of_lt (unhide hM1).lt)) (hide (Nat.ne_of_lt (unhide hM2).lt))
    refine AllReadyH.cons rfl (fun K20033 hK20033 => ?_) ?_
    · go_simp
      have hb := below_new X (.cells (List.replicate s (Value.int .i64 0)).toArray 3)
      have hM4 := hide (Blk.new X (List.replicate s (Value.int .i64 0)).toArray 3)
      have hg4 : Hid (Wd.heap.size ≤ X.heap.size) := hide GD.size
      refine hK20033.out _ _ trivial (fun hH20033 => ?_)
      clear hHeld hH20033 hK20033 K20033
      have hHeld : True := trivial
      refine unhide HOUT _ _ _ _ ?_
      exact unhide C124_1 _ b1 b2 _ _ (by kernel_rfl) (GD.trans (Keep.call _ hb)) (hide ((unhide hN).below hb)) (hide ((unhide hM1).below hb)) hg1 (hide ((unhide hM2).below hb)) hg2 hM4 hg4 hd12 (hide (Nat.ne_of_lt (unhide hM1).lt)) (hide (Nat.ne_of_lt (unhide hM2).lt))
    refine AllReadyH.cons rfl (fun K20034 hK20034 => ?_) AllReadyH.nil
    · have n_ := unhide hN
      have nc_ := n_.cell 8
      have nf_ := n_.froz
      have nl_ := n_.lt
      simp at nc_
      go_simp
      refine hK20034.out _ _ trivial (fun hH20034 => ?_)
      clear hHeld hH20034 hK20034 K20034
      have hHeld : True := trivial
      refine unhide HOUT _ _ _ _ ?_
      exact unhide C12_2 _ b1 b2 _ (by kernel_rfl) (GD.trans (Keep.set (.inl rfl))) (hide (show Blk nb (ndV i f (.slice (some ⟨b1, 0, none⟩) s s) (.slice (some ⟨b2, 0, none⟩) s s) (.slice none 0 0) (.slice none 0 0)) 32 _ from (unhide hN).set 8 (.slice (some ⟨b2, 0, none⟩) s s))) (hide ((unhide hM1).far (by have := unhide hg1; omega))) hg1 (hide ((unhide hM2).far (by have := unhide hg2; omega))) hg2 hd12
  have C12_1 := hide C12_1
  have C12_0 : ∀ (ac : Act) (b1 : Nat) (b2 : Nat) (X : World), ac = ⟨#[nI i, nI s, nI f, undef, undef, undef, ptr rb 0, ptr nb 0, undef, ac.tmps.getD 9 undef, ac.tmps.getD 10 undef, ac.tmps.getD 11 undef, nI s, (.slice (some ⟨b1, 0, none⟩) s s), nI s, (.slice (some ⟨b2, 0, none⟩) s s), nI s, ac.tmps.getD 17 undef, nI s, ac.tmps.getD 19 undef, ptr nb 7, ac.tmps.getD 21 undef, ac.tmps.getD 22 undef, ac.tmps.getD 23 undef, ac.tmps.getD 24 undef, ac.tmps.getD 25 undef, ac.tmps.getD 26 undef, ac.tmps.getD 27 undef, ac.tmps.getD 28 undef, ac.tmps.getD 29 undef, ac.tmps.getD 30 undef, ac.tmps.getD 31 undef, ac.tmps.getD 32 undef, ac.tmps.getD 33 undef, ac.tmps.getD 34 undef, ac.tmps.getD 35 undef, ac.tmps.getD 36 undef, ac.tmps.getD 37 undef, ac.tmps.getD 38 undef, ac.tmps.getD 39 undef, ac.tmps.getD 40 undef], []⟩ → Keep Wd X (fun j => j = nb) (fun j => j = nb ∨ Wd.heap.size ≤ j) → Hid (Blk nb (ndV i f (.slice none 0 0) (.slice none 0 0) (.slice none 0 0) (.slice none 0 0)) 32 X) → Hid (Blk b1 (List.replicate s (Value.bool false)).toArray 4 X) → Hid (Wd.heap.size ≤ b1) → Hid (Blk b2 (List.replicate s (Value.int .i64 0)).toArray 3 X) → Hid (Wd.heap.size ≤ b2) → Hid (b1 ≠ b2) → GG 9 #[true, true, true, true, true, false, true, false, true, false, false, false, false, false, false, false] ac X := by
    intro ac b1 b2 X ha GD hN hM1 hg1 hM2 hg2 hd12
    obtain ⟨u, rfl⟩ : ∃ u : Nat → Value, ac = ⟨#[nI i, nI s, nI f, undef, undef, undef, ptr rb 0, ptr nb 0, undef, (u 9), (u 10), (u 11), nI s, (.slice (some ⟨b1, 0, none⟩) s s), nI s, (.slice (some ⟨b2, 0, none⟩) s s), nI s, (u 17), nI s, (u 19), ptr nb 7, (u 21), (u 22), (u 23), (u 24), (u 25), (u 26), (u 27), (u 28), (u 29), (u 30), (u 31), (u 32), (u 33), (u 34), (u 35), (u 36), (u 37), (u 38), (u 39), (u 40)], []⟩ := ⟨fun i => ac.tmps.getD i undef, ha⟩
    clear ha
    refine unhide HIN _ _ _ _ ?_
    have hHeld : True := trivial
    refine wpAnyH_ready (rs := [5, 7, 9]) (by kernel_rfl) (by simp) ?_
    refine AllReadyH.cons rfl (fun K20035 hK20035 => ?_) ?_
    · go_simp
      have hb := below_new X (.cells (List.replicate s (Value.int .i64 0)).toArray 3)
      have hM3 := hide (Blk.new X (List.replicate s (Value.int .i64 0)).toArray 3)
      have hg3 : Hid (Wd.heap.size ≤ X.heap.size) := hide GD.size
      refine hK20035.out _ _ trivial (fun hH20035 => ?_)
      clear hHeld hH20035 hK20035 K20035
      have hHeld : True := trivial
      refine unhide HOUT _ _ _ _ ?_
      exact unhide C123_0 _ b1 b2 _ _ (by kernel_rfl) (GD.trans (Keep.call _ hb)) (hide ((unhide hN).below hb)) (hide ((unhide hM1).below hb)) hg1 (hide ((unhide hM2).below hb)) hg2 hM3 hg3 hd12 (hide (Nat.ne_of_lt (unhide hM1).lt)) (hide (Nat.ne_of_lt (unhide hM2).lt))
    refine AllReadyH.cons rfl (fun K20036 hK20036 => ?_) ?_
    · go_simp
      have hb := below_new X (.cells (List.replicate s (Value.int .i64 0)).toArray 3)
      have hM4 := hide (Blk.new X (List.replicate s (Value.int .i64 0)).toArray 3)
      have hg4 : Hid (Wd.heap.size ≤ X.heap.size) := hide GD.size
      refine hK20036.out _ _ trivial (fun hH20036 => ?_)
      clear hHeld hH20036 hK20036 K20036
      have hHeld : True := trivial
      refine unhide HOUT _ _ _ _ ?_
      exact unhide C124_0 _ b1 b2 _ _ (by kernel_rfl) (GD.trans (Keep.call _ hb)) (hide ((unhide hN).below hb)) (hide ((unhide hM1).below hb)) hg1 (hide ((unhide hM2).below hb)) hg2 hM4 hg4 hd12 (hide (Nat.ne_of_lt (unhide hM1).lt)) (hide (Nat.ne_of_lt (unhide hM2).lt))
    refine AllReadyH.cons rfl (fun K20037 hK20037 => ?_) AllReadyH.nil
    · have n_ := unhide hN
      have nc_ := n_.cell 7
      have nf_ := n_.froz
      have nl_ := n_.lt
      simp at nc_
      go_simp
      refine hK20037.out _ _ trivial (fun hH20037 => ?_)
      clear hHeld hH20037 hK20037 K20037
      have hHeld : True := trivial
      refine wpAnyH_take (i := 10) (oi := ?oi20038) (v := ?v20038) ?hi20038 (by kernel_rfl) (by kernel_rfl) (by kernel_rfl) (fun _ _ _ h => h) (Or.inl ⟨?hw20038, ?hy20038⟩) (by assumption) ?rest20038
      case hi20038 => (simp only [List.getElem?_toArray, List.getElem?_cons_zero, List.getElem?_cons_succ]; rfl)
      case hw20038 => rfl
      case hy20038 => first | (intro wx hSw; go_simp; done) | (intro wx hSw; go_simp; with_reducible rfl)
      simp only [Act.put, List.setIfInBounds_toArray, List.set_cons_zero, List.set_cons_succ]
      refine unhide HOUT _ _ _ _ ?_
      exact unhide C12_1 _ b1 b2 _ (by kernel_rfl) (GD.trans (Keep.set (.inl rfl))) (hide (show Blk nb (ndV i f (.slice (some ⟨b1, 0, none⟩) s s) (.slice none 0 0) (.slice none 0 0) (.slice none 0 0)) 32 _ from (unhide hN).set 7 (.slice (some ⟨b1, 0, none⟩) s s))) (hide ((unhide hM1).far (by have := unhide hg1; omega))) hg1 (hide ((unhide hM2).far (by have := unhide hg2; omega))) hg2 hd12
  have C12_0 := hide C12_0
  have C134_1 : ∀ (ac : Act) (b1 : Nat) (b3 : Nat) (b4 : Nat) (X : World), ac = ⟨#[nI i, nI s, nI f, undef, undef, undef, ptr rb 0, ptr nb 0, undef, ac.tmps.getD 9 undef, ac.tmps.getD 10 undef, ac.tmps.getD 11 undef, nI s, (.slice (some ⟨b1, 0, none⟩) s s), nI s, ac.tmps.getD 15 undef, nI s, (.slice (some ⟨b3, 0, none⟩) s s), nI s, (.slice (some ⟨b4, 0, none⟩) s s), ptr nb 7, ac.tmps.getD 21 undef, ac.tmps.getD 22 undef, ac.tmps.getD 23 undef, ac.tmps.getD 24 undef, ac.tmps.getD 25 undef, ac.tmps.getD 26 undef, ac.tmps.getD 27 undef, ac.tmps.getD 28 undef, ac.tmps.getD 29 undef, ac.tmps.getD 30 undef, ac.tmps.getD 31 undef, ac.tmps.getD 32 undef, ac.tmps.getD 33 undef, ac.tmps.getD 34 undef, ac.tmps.getD 35 undef, ac.tmps.getD 36 undef, ac.tmps.getD 37 undef, ac.tmps.getD 38 undef, ac.tmps.getD 39 undef, ac.tmps.getD 40 undef], []⟩ → Keep Wd X (fun j => j = nb) (fun j => j = nb ∨ Wd.heap.size ≤ j) → Hid (Blk nb (ndV i f (.slice (some ⟨b1, 0, none⟩) s s) (.slice none 0 0) (.slice none 0 0) (.slice none 0 0)) 32 X) → Hid (Blk b1 (List.replicate s (Value.bool false)).toArray 4 X) → Hid (Wd.heap.size ≤ b1) → Hid (Blk b3 (List.replicate s (Value.int .i64 0)).toArray 3 X) → Hid (Wd.heap.size ≤ b3) → Hid (Blk b4 (List.replicate s (Value.int .i64 0)).toArray 3 X) → Hid (Wd.heap.size ≤ b4) → Hid (b1 ≠ b3) → Hid (b1 ≠ b4) → Hid (b3 ≠ b4) → GG 7 #[true, true, true, false, true, true, true, true, true, true, false, false, false, false, false, false] ac X := by
    intro ac b1 b3 b4 X ha GD hN hM1 hg1 hM3 hg3 hM4 hg4 hd13 hd14 hd34
    obtain ⟨u, rfl⟩ : ∃ u : Nat → Value, ac = ⟨#[nI i, nI s, nI f, undef, undef, undef, ptr rb 0, ptr nb 0, undef, (u 9), (u 10), (u 11), nI s, (.slice (some ⟨b1, 0, none⟩) s s), nI s, (u 15), nI s, (.slice (some ⟨b3, 0, none⟩) s s), nI s, (.slice (some ⟨b4, 0, none⟩) s s), ptr nb 7, (u 21), (u 22), (u 23), (u 24), (u 25), (u 26), (u 27), (u 28), (u 29), (u 30), (u 31), (u 32), (u 33), (u 34), (u 35), (u 36), (u 37), (u 38), (u 39), (u 40)], []⟩ := ⟨fun i => ac.tmps.getD i undef, ha⟩
    clear ha
    refine unhide HIN _ _ _ _ ?_
    have hHeld : True := trivial
    refine wpAnyH_ready (rs := [3]) (by kernel_rfl) (by simp) ?_
    refine AllReadyH.cons rfl (fun K20039 hK20039 => ?_) AllReadyH.nil
    go_simp
    have hb := below_new X (.cells (List.replicate s (Value.int .i64 0)).toArray 3)
    have hM2 := hide (Blk.new X (List.replicate s (Value.int .i64 0)).toArray 3)
    have hg2 : Hid (Wd.heap.size ≤ X.heap.size) := hide GD.size
    refine hK20039.out _ _ trivial (fun hH20039 => ?_)
    clear hHeld hH20039 hK20039 K20039
    have hHeld : True := trivial
    refine wpAnyH_take (i := 10) (oi := ?oi20040) (v := ?v20040) ?hi20040 (by kernel_rfl) (by kernel_rfl) (by kernel_rfl) (fun _ _ _ h => h) (Or.inl ⟨?hw20040, ?hy20040⟩) (by assumption) ?rest20040
    case hi20040 => (simp only [List.getElem?_toArray, List.getElem?_cons_zero, List.getElem?_cons_succ]; rfl)
    case hw20040 => rfl
    case hy20040 => first | (intro wx hSw; go_simp; done) | (intro wx hSw; go_simp; with_reducible rfl)
    simp only [Act.put, List.setIfInBounds_toArray, List.set_cons_zero, List.set_cons_succ]
    refine unhide HOUT _ _ _ _ ?_
    exact unhide C1234_1 _ b1 _ b3 b4 _ (by kernel_rfl) (GD.trans (Keep.call _ hb)) (hide ((unhide hN).below hb)) (hide ((unhide hM1).below hb)) hg1 hM2 hg2 (hide ((unhide hM3).below hb)) hg3 (hide ((unhide hM4).below hb)) hg4 (hide (Nat.ne_of_lt (unhide hM1).lt)) hd13 hd14 (hide (Ne.symm (Nat.ne_of_lt (unhide hM3).lt))) (hide (Ne.symm (Nat.ne_of_lt (unhide hM4).lt))) hd34
  have C134_1 := hide C134_1
  have C134_0 : ∀ (ac : Act) (b1 : Nat) (b3 : Nat) (b4 : Nat) (X : World), ac = ⟨#[nI i, nI s, nI f, undef, undef, undef, ptr rb 0, ptr nb 0, undef, ac.tmps.getD 9 undef, ac.tmps.getD 10 undef, ac.tmps.getD 11 undef, nI s, (.slice (some ⟨b1, 0, none⟩) s s), nI s, ac.tmps.getD 15 undef, nI s, (.slice (some ⟨b3, 0, none⟩) s s), nI s, (.slice (some ⟨b4, 0, none⟩) s s), ptr nb 7, ac.tmps.getD 21 undef, ac.tmps.getD 22 undef, ac.tmps.getD 23 undef, ac.tmps.getD 24 undef, ac.tmps.getD 25 undef, ac.tmps.getD 26 undef, ac.tmps.getD 27 undef, ac.tmps.getD 28 undef, ac.tmps.getD 29 undef, ac.tmps.getD 30 undef, ac.tmps.getD 31 undef, ac.tmps.getD 32 undef, ac.tmps.getD 33 undef, ac.tmps.getD 34 undef, ac.tmps.getD 35 undef, ac.tmps.getD 36 undef, ac.tmps.getD 37 undef, ac.tmps.getD 38 undef, ac.tmps.getD 39 undef, ac.tmps.getD 40 undef], []⟩ → Keep Wd X (fun j => j = nb) (fun j => j = nb ∨ Wd.heap.size ≤ j) → Hid (Blk nb (ndV i f (.slice none 0 0) (.slice none 0 0) (.slice none 0 0) (.slice none 0 0)) 32 X) → Hid (Blk b1 (List.replicate s (Value.bool false)).toArray 4 X) → Hid (Wd.heap.size ≤ b1) → Hid (Blk b3 (List.replicate s (Value.int .i64 0)).toArray 3 X) → Hid (Wd.heap.size ≤ b3) → Hid (Blk b4 (List.replicate s (Value.int .i64 0)).toArray 3 X) → Hid (Wd.heap.size ≤ b4) → Hid (b1 ≠ b3) → Hid (b1 ≠ b4) → Hid (b3 ≠ b4) → GG 8 #[true, true, true, false, true, true, true, true, true, false, false, false, false, false, false, false] ac X := by
    intro ac b1 b3 b4 X ha GD hN hM1 hg1 hM3 hg3 hM4 hg4 hd13 hd14 hd34
    obtain ⟨u, rfl⟩ : ∃ u : Nat → Value, ac = ⟨#[nI i, nI s, nI f, undef, undef, undef, ptr rb 0, ptr nb 0, undef, (u 9), (u 10), (u 11), nI s, (.slice (some ⟨b1, 0, none⟩) s s), nI s, (u 15), nI s, (.slice (some ⟨b3, 0, none⟩) s s), nI s, (.slice (some ⟨b4, 0, none⟩) s s), ptr nb 7, (u 21), (u 22), (u 23), (u 24), (u 25), (u 26), (u 27), (u 28), (u 29), (u 30), (u 31), (u 32), (u 33), (u 34), (u 35), (u 36), (u 37), (u 38), (u 39), (u 40)], []⟩ := ⟨fun i => ac.tmps.getD i undef, ha⟩
    clear ha
    refine unhide HIN _ _ _ _ ?_
    have hHeld : True := trivial
    refine wpAnyH_ready (rs := [3, 9]) (by kernel_rfl) (by simp) ?_
    refine AllReadyH.cons rfl (fun K20041 hK20041 => ?_) ?_
    · go_simp
      have hb := below_new X (.cells (List.replicate s (Value.int .i64 0)).toArray 3)
      have hM2 := hide (Blk.new X (List.replicate s (Value.int .i64 0)).toArray 3)
      have hg2 : Hid (Wd.heap.size ≤ X.heap.size) := hide GD.size
      refine hK20041.out _ _ trivial (fun hH20041 => ?_)
      clear hHeld hH20041 hK20041 K20041
      have hHeld : True := trivial
      refine unhide HOUT _ _ _ _ ?_
      exact unhide C1234_0 _ b1 _ b3 b4 _ (by kernel_rfl) (GD.trans (Keep.call _ hb)) (hide ((unhide hN).below hb)) (hide ((unhide hM1).below hb)) hg1 hM2 hg2 (hide ((unhide hM3).below hb)) hg3 (hide ((unhide hM4).below hb)) hg4 (hide (Nat.ne_of_lt (unhide hM1).lt)) hd13 hd14 (hide (Ne.symm (Nat.ne_of_lt (unhide hM3).lt))) (hide (Ne.symm (Nat.ne_of_lt (unhide hM4).lt))) hd34
    refine AllReadyH.cons rfl (fun K20042 hK20042 => ?_) AllReadyH.nil
    · have n_ := unhide hN
      have nc_ := n_.cell 7
      have nf_ := n_.froz
      have nl_ := n_.lt
      simp at nc_
      go_simp
      refine hK20042.out _ _ trivial (fun hH20042 => ?_)
      clear hHeld hH20042 hK20042 K20042
      have hHeld : True := trivial
      refine unhide HOUT _ _ _ _ ?_
      exact unhide C134_1 _ b1 b3 b4 _ (by kernel_rfl) (GD.trans (Keep.set (.inl rfl))) (hide (show Blk nb (ndV i f (.slice (some ⟨b1, 0, none⟩) s s) (.slice none 0 0) (.slice none 0 0) (.slice none 0 0)) 32 _ from (unhide hN).set 7 (.slice (some ⟨b1, 0, none⟩) s s))) (hide ((unhide hM1).far (by have := unhide hg1; omega))) hg1 (hide ((unhide hM3).far (by have := unhide hg3; omega))) hg3 (hide ((unhide hM4).far (by have := unhide hg4; omega))) hg4 hd13 hd14 hd34
  have C134_0 := hide C134_0
  have C13_1 : ∀ (ac : Act) (b1 : Nat) (b3 : Nat) (X : World), ac = ⟨#[nI i, nI s, nI f, undef, undef, undef, ptr rb 0, ptr nb 0, undef, ac.tmps.getD 9 undef, ac.tmps.getD 10 undef, ac.tmps.getD 11 undef, nI s, (.slice (some ⟨b1, 0, none⟩) s s), nI s, ac.tmps.getD 15 undef, nI s, (.slice (some ⟨b3, 0, none⟩) s s), nI s, ac.tmps.getD 19 undef, ptr nb 7, ac.tmps.getD 21 undef, ac.tmps.getD 22 undef, ac.tmps.getD 23 undef, ac.tmps.getD 24 undef, ac.tmps.getD 25 undef, ac.tmps.getD 26 undef, ac.tmps.getD 27 undef, ac.tmps.getD 28 undef, ac.tmps.getD 29 undef, ac.tmps.getD 30 undef, ac.tmps.getD 31 undef, ac.tmps.getD 32 undef, ac.tmps.getD 33 undef, ac.tmps.getD 34 undef, ac.tmps.getD 35 undef, ac.tmps.getD 36 undef, ac.tmps.getD 37 undef, ac.tmps.getD 38 undef, ac.tmps.getD 39 undef, ac.tmps.getD 40 undef], []⟩ → Keep Wd X (fun j => j = nb) (fun j => j = nb ∨ Wd.heap.size ≤ j) → Hid (Blk nb (ndV i f (.slice (some ⟨b1, 0, none⟩) s s) (.slice none 0 0) (.slice none 0 0) (.slice none 0 0)) 32 X) → Hid (Blk b1 (List.replicate s (Value.bool false)).toArray 4 X) → Hid (Wd.heap.size ≤ b1) → Hid (Blk b3 (List.replicate s (Value.int .i64 0)).toArray 3 X) → Hid (Wd.heap.size ≤ b3) → Hid (b1 ≠ b3) → GG 8 #[true, true, true, false, true, true, true, false, true, true, false, false, false, false, false, false] ac X := by
    intro ac b1 b3 X ha GD hN hM1 hg1 hM3 hg3 hd13
    obtain ⟨u, rfl⟩ : ∃ u : Nat → Value, ac = ⟨#[nI i, nI s, nI f, undef, undef, undef, ptr rb 0, ptr nb 0, undef, (u 9), (u 10), (u 11), nI s, (.slice (some ⟨b1, 0, none⟩) s s), nI s, (u 15), nI s, (.slice (some ⟨b3, 0, none⟩) s s), nI s, (u 19), ptr nb 7, (u 21), (u 22), (u 23), (u 24), (u 25), (u 26), (u 27), (u 28), (u 29), (u 30), (u 31), (u 32), (u 33), (u 34), (u 35), (u 36), (u 37), (u 38), (u 39), (u 40)], []⟩ := ⟨fun i => ac.tmps.getD i undef, ha⟩
    clear ha
    refine unhide HIN _ _ _ _ ?_
    have hHeld : True := trivial
    refine wpAnyH_ready (rs := [3, 7]) (by kernel_rfl) (by simp) ?_
    refine AllReadyH.cons rfl (fun K20043 hK20043 => ?_) ?_
    · go_simp
      have hb := below_new X (.cells (List.replicate s (Value.int .i64 0)).toArray 3)
      have hM2 := hide (Blk.new X (List.replicate s (Value.int .i64 0)).toArray 3)
      have hg2 : Hid (Wd.heap.size ≤ X.heap.size) := hide GD.size
      refine hK20043.out _ _ trivial (fun hH20043 => ?_)
      clear hHeld hH20043 hK20043 K20043
      have hHeld : True := trivial
      refine wpAnyH_take (i := 10) (oi := ?oi20044) (v := ?v20044) ?hi20044 (by kernel_rfl) (by kernel_rfl) (by kernel_rfl) (fun _ _ _ h => h) (Or.inl ⟨?hw20044, ?hy20044⟩) (by assumption) ?rest20044
      case hi20044 => (simp only [List.getElem?_toArray, List.getElem?_cons_zero, List.getElem?_cons_succ]; rfl)
      case hw20044 => rfl
      case hy20044 => first | (intro wx hSw; go_simp; done) | (intro wx hSw; go_simp; with_reducible rfl)
      simp only [Act.put, List.setIfInBounds_toArray, List.set_cons_zero, List.set_cons_succ]
      refine unhide HOUT _ _ _ _ ?_
      exact unhide C123_1 _ b1 _ b3 _ (by kernel_rfl) (GD.trans (Keep.call _ hb)) (hide ((unhide hN).below hb)) (hide ((unhide hM1).below hb)) hg1 hM2 hg2 (hide ((unhide hM3).below hb)) hg3 (hide (Nat.ne_of_lt (unhide hM1).lt)) hd13 (hide (Ne.symm (Nat.ne_of_lt (unhide hM3).lt)))
    refine AllReadyH.cons rfl (fun K20045 hK20045 => ?_) AllReadyH.nil
    · go_simp
      have hb := below_new X (.cells (List.replicate s (Value.int .i64 0)).toArray 3)
      have hM4 := hide (Blk.new X (List.replicate s (Value.int .i64 0)).toArray 3)
      have hg4 : Hid (Wd.heap.size ≤ X.heap.size) := hide GD.size
      refine hK20045.out _ _ trivial (fun hH20045 => ?_)
      clear hHeld hH20045 hK20045 K20045
      have hHeld : True := trivial
      refine unhide HOUT _ _ _ _ ?_
      exact unhide C134_1 _ b1 b3 _ _ (by kernel_rfl) (GD.trans (Keep.call _ hb)) (hide ((unhide hN).below hb)) (hide ((unhide hM1).below hb)) hg1 (hide ((unhide hM3).below hb)) hg3 hM4 hg4 hd13 (hide (Nat.ne_of_lt (unhide hM1).lt)) (hide (Nat.ne_of_lt (unhide hM3).lt))
  have C13_1 := hide C13_1
  have C13_0 : ∀ (ac : Act) (b1 : Nat) (b3 : Nat) (X : World), ac = ⟨#[nI i, nI s, nI f, undef, undef, undef, ptr rb 0, ptr nb 0, undef, ac.tmps.getD 9 undef, ac.tmps.getD 10 undef, ac.tmps.getD 11 undef, nI s, (.slice (some ⟨b1, 0, none⟩) s s), nI s, ac.tmps.getD 15 undef, nI s, (.slice (some ⟨b3, 0, none⟩) s s), nI s, ac.tmps.getD 19 undef, ptr nb 7, ac.tmps.getD 21 undef, ac.tmps.getD 22 undef, ac.tmps.getD 23 undef, ac.tmps.getD 24 undef, ac.tmps.getD 25 undef, ac.tmps.getD 26 undef, ac.tmps.getD 27 undef, ac.tmps.getD 28 undef, ac.tmps.getD 29 undef, ac.tmps.getD 30 undef, ac.tmps.getD 31 undef, ac.tmps.getD 32 undef, ac.tmps.getD 33 undef, ac.tmps.getD 34 undef, ac.tmps.getD 35 undef, ac.tmps.getD 36 undef, ac.tmps.getD 37 undef, ac.tmps.getD 38 undef, ac.tmps.getD 39 undef, ac.tmps.getD 40 undef], []⟩ → Keep Wd X (fun j => j = nb) (fun j => j = nb ∨ Wd.heap.size ≤ j) → Hid (Blk nb (ndV i f (.slice none 0 0) (.slice none 0 0) (.slice none 0 0) (.slice none 0 0)) 32 X) → Hid (Blk b1 (List.replicate s (Value.bool false)).toArray 4 X) → Hid (Wd.heap.size ≤ b1) → Hid (Blk b3 (List.replicate s (Value.int .i64 0)).toArray 3 X) → Hid (Wd.heap.size ≤ b3) → Hid (b1 ≠ b3) → GG 9 #[true, true, true, false, true, true, true, false, true, false, false, false, false, false, false, false] ac X := by
    intro ac b1 b3 X ha GD hN hM1 hg1 hM3 hg3 hd13
    obtain ⟨u, rfl⟩ : ∃ u : Nat → Value, ac = ⟨#[nI i, nI s, nI f, undef, undef, undef, ptr rb 0, ptr nb 0, undef, (u 9), (u 10), (u 11), nI s, (.slice (some ⟨b1, 0, none⟩) s s), nI s, (u 15), nI s, (.slice (some ⟨b3, 0, none⟩) s s), nI s, (u 19), ptr nb 7, (u 21), (u 22), (u 23), (u 24), (u 25), (u 26), (u 27), (u 28), (u 29), (u 30), (u 31), (u 32), (u 33), (u 34), (u 35), (u 36), (u 37), (u 38), (u 39), (u 40)], []⟩ := ⟨fun i => ac.tmps.getD i undef, ha⟩
    clear ha
    refine unhide HIN _ _ _ _ ?_
    have hHeld : True := trivial
    refine wpAnyH_ready (rs := [3, 7, 9]) (by kernel_rfl) (by simp) ?_
    refine AllReadyH.cons rfl (fun K20046 hK20046 => ?_) ?_
    · go_simp
      have hb := below_new X (.cells (List.replicate s (Value.int .i64 0)).toArray 3)
      have hM2 := hide (Blk.new X (List.replicate s (Value.int .i64 0)).toArray 3)
      have hg2 : Hid (Wd.heap.size ≤ X.heap.size) := hide GD.size
      refine hK20046.out _ _ trivial (fun hH20046 => ?_)
      clear hHeld hH20046 hK20046 K20046
      have hHeld : True := trivial
      refine unhide HOUT _ _ _ _ ?_
      exact unhide C123_0 _ b1 _ b3 _ (by kernel_rfl) (GD.trans (Keep.call _ hb)) (hide ((unhide hN).below hb)) (hide ((unhide hM1).below hb)) hg1 hM2 hg2 (hide ((unhide hM3).below hb)) hg3 (hide (Nat.ne_of_lt (unhide hM1).lt)) hd13 (hide (Ne.symm (Nat.ne_of_lt (unhide hM3).lt)))
    refine AllReadyH.cons rfl (fun K20047 hK20047 => ?_) ?_
    · go_simp
      have hb := below_new X (.cells (List.replicate s (Value.int .i64 0)).toArray 3)
      have hM4 := hide (Blk.new X (List.replicate s (Value.int .i64 0)).toArray 3)
      have hg4 : Hid (Wd.heap.size ≤ X.heap.size) := hide GD.size
      refine hK20047.out _ _ trivial (fun hH20047 => ?_)
      clear hHeld hH20047 hK20047 K20047
      have hHeld : True := trivial
      refine unhide HOUT _ _ _ _ ?_
      exact unhide C134_0 _ b1 b3 _ _ (by kernel_rfl) (GD.trans (Keep.call _ hb)) (hide ((unhide hN).below hb)) (hide ((unhide hM1).below hb)) hg1 (hide ((unhide hM3).below hb)) hg3 hM4 hg4 hd13 (hide (Nat.ne_of_lt (unhide hM1).lt)) (hide (Nat.ne_of_lt (unhide hM3).lt))
    refine AllReadyH.cons rfl (fun K20048 hK20048 => ?_) AllReadyH.nil
    · have n_ := unhide hN
      have nc_ := n_.cell 7
      have nf_ := n_.froz
      have nl_ := n_.lt
      simp at nc_
      go_simp
      refine hK20048.out _ _ trivial (fun hH20048 => ?_)
      clear hHeld hH20048 hK20048 K20048
      have hHeld : True := trivial
      refine unhide HOUT _ _ _ _ ?_
      exact unhide C13_1 _ b1 b3 _ (by kernel_rfl) (GD.trans (Keep.set (.inl rfl))) (hide (show Blk nb (ndV i f (.slice (some ⟨b1, 0, none⟩) s s) (.slice none 0 0) (.slice none 0 0) (.slice none 0 0)) 32 _ from (unhide hN).set 7 (.slice (some ⟨b1, 0, none⟩) s s))) (hide ((unhide hM1).far (by have := unhide hg1; omega))) hg1 (hide ((unhide hM3).far (by have := unhide hg3; omega))) hg3 hd13
  have C13_0 := hide C13_0
  have C14_1 : ∀ (ac : Act) (b1 : Nat) (b4 : Nat) (X : World), ac = ⟨#[nI i, nI s, nI f, undef, undef, undef, ptr rb 0, ptr nb 0, undef, ac.tmps.getD 9 undef, ac.tmps.getD 10 undef, ac.tmps.getD 11 undef, nI s, (.slice (some ⟨b1, 0, none⟩) s s), nI s, ac.tmps.getD 15 undef, nI s, ac.tmps.getD 17 undef, nI s, (.slice (some ⟨b4, 0, none⟩) s s), ptr nb 7, ac.tmps.getD 21 undef, ac.tmps.getD 22 undef, ac.tmps.getD 23 undef, ac.tmps.getD 24 undef, ac.tmps.getD 25 undef, ac.tmps.getD 26 undef, ac.tmps.getD 27 undef, ac.tmps.getD 28 undef, ac.tmps.getD 29 undef, ac.tmps.getD 30 undef, ac.tmps.getD 31 undef, ac.tmps.getD 32 undef, ac.tmps.getD 33 undef, ac.tmps.getD 34 undef, ac.tmps.getD 35 undef, ac.tmps.getD 36 undef, ac.tmps.getD 37 undef, ac.tmps.getD 38 undef, ac.tmps.getD 39 undef, ac.tmps.getD 40 undef], []⟩ → Keep Wd X (fun j => j = nb) (fun j => j = nb ∨ Wd.heap.size ≤ j) → Hid (Blk nb (ndV i f (.slice (some ⟨b1, 0, none⟩) s s) (.slice none 0 0) (.slice none 0 0) (.slice none 0 0)) 32 X) → Hid (Blk b1 (List.replicate s (Value.bool false)).toArray 4 X) → Hid (Wd.heap.size ≤ b1) → Hid (Blk b4 (List.replicate s (Value.int .i64 0)).toArray 3 X) → Hid (Wd.heap.size ≤ b4) → Hid (b1 ≠ b4) → GG 8 #[true, true, true, false, true, false, true, true, true, true, false, false, false, false, false, false] ac X := by
    intro ac b1 b4 X ha GD hN hM1 hg1 hM4 hg4 hd14
    obtain ⟨u, rfl⟩ : ∃ u : Nat → Value, ac = ⟨#[nI i, nI s, nI f, undef, undef, undef, ptr rb 0, ptr nb 0, undef, (u 9), (u 10), (u 11), nI s, (.slice (some ⟨b1, 0, none⟩) s s), nI s, (u 15), nI s, (u 17), nI s, (.slice (some ⟨b4, 0, none⟩) s s), ptr nb 7, (u 21), (u 22), (u 23), (u 24), (u 25), (u 26), (u 27), (u 28), (u 29), (u 30), (u 31), (u 32), (u 33), (u 34), (u 35), (u 36), (u 37), (u 38), (u 39), (u 40)], []⟩ := ⟨fun i => ac.tmps.getD i undef, ha⟩
    clear ha
    refine unhide HIN _ _ _ _ ?_
    have hHeld : True := trivial
    refine wpAnyH_ready (rs := [3, 5]) (by kernel_rfl) (by simp) ?_
    refine AllReadyH.cons rfl (fun K20049 hK20049 => ?_) ?_
    · go_simp
      have hb := below_new X (.cells (List.replicate s (Value.int .i64 0)).toArray 3)
      have hM2 := hide (Blk.new X (List.replicate s (Value.int .i64 0)).toArray 3)
      have hg2 : Hid (Wd.heap.size ≤ X.heap.size) := hide GD.size
      refine hK20049.out _ _ trivial (fun hH20049 => ?_)
      clear hHeld hH20049 hK20049 K20049
      have hHeld : True := trivial
      refine wpAnyH_take (i := 10) (oi := ?oi20050) (v := ?v20050) ?hi20050 (by kernel_rfl) (by kernel_rfl) (by kernel_rfl) (fun _ _ _ h => h) (Or.inl ⟨?hw20050, ?hy20050⟩) (by assumption) ?rest20050
      case hi20050 => (simp only [List.getElem?_toArray, List.getElem?_cons_zero, List.getElem?_cons_succ]; rfl)
      case hw20050 => rfl
      case hy20050 => first | (intro wx hSw; go_simp; done) | (intro wx hSw; go_simp; with_reducible rfl)
      simp only [Act.put, List.setIfInBounds_toArray, List.set_cons_zero, List.set_cons_succ]
      refine unhide HOUT _ _ _ _ ?_
      exact unhide C124_1 _ b1 _ b4 _ (by kernel_rfl) (GD.trans (Keep.call _ hb)) (hide ((unhide hN).below hb)) (hide ((unhide hM1).below hb)) hg1 hM2 hg2 (hide ((unhide hM4).below hb)) hg4 (hide (Nat.ne_of_lt (unhide hM1).lt)) hd14 (hide (Ne.symm (Nat.ne_of_lt (unhide hM4).lt)))
    refine AllReadyH.cons rfl (fun K20051 hK20051 => ?_) AllReadyH.nil
    · go_simp
      have hb := below_new X (.cells (List.replicate s (Value.int .i64 0)).toArray 3)
      have hM3 := hide (Blk.new X (List.replicate s (Value.int .i64 0)).toArray 3)
      have hg3 : Hid (Wd.heap.size ≤ X.heap.size) := hide GD.size
      refine hK20051.out _ _ trivial (fun hH20051 => ?_)
      clear hHeld hH20051 hK20051 K20051
      have hHeld : True := trivial
      refine unhide HOUT _ _ _ _ ?_
      exact unhide C134_1 _ b1 _ b4 _ (by kernel_rfl) (GD.trans (Keep.call _ hb)) (hide ((unhide hN).below hb)) (hide ((unhide hM1).below hb)) hg1 hM3 hg3 (hide ((unhide hM4).below hb)) hg4 (hide (Nat.ne_of_lt (unhide hM1).lt)) hd14 (hide (Ne.symm (Nat.ne_of_lt (unhide hM4).lt)))
  have C14_1 := hide C14_1
  have C14_0 : ∀ (ac : Act) (b1 : Nat) (b4 : Nat) (X : World), ac = ⟨#[nI i, nI s, nI f, undef, undef, undef, ptr rb 0, ptr nb 0, undef, ac.tmps.getD 9 undef, ac.tmps.getD 10 undef, ac.tmps.getD 11 undef, nI s, (.slice (some ⟨b1, 0, none⟩) s s), nI s, ac.tmps.getD 15 undef, nI s, ac.tmps.getD 17 undef, nI s, (.slice (some ⟨b4, 0, none⟩) s s), ptr nb 7, ac.tmps.getD 21 undef, ac.tmps.getD 22 undef, ac.tmps.getD 23 undef, ac.tmps.getD 24 undef, ac.tmps.getD 25 undef, ac.tmps.getD 26 undef, ac.tmps.getD 27 undef, ac.tmps.getD 28 undef, ac.tmps.getD 29 undef, ac.tmps.getD 30 undef, ac.tmps.getD 31 undef, ac.tmps.getD 32 undef, ac.tmps.getD 33 undef, ac.tmps.getD 34 undef, ac.tmps.getD 35 undef, ac.tmps.getD 36 undef, ac.tmps.getD 37 undef, ac.tmps.getD 38 undef, ac.tmps.getD 39 undef, ac.tmps.getD 40 undef], []⟩ → Keep Wd X (fun j => j = nb) (fun j => j = nb ∨ Wd.heap.size ≤ j) → Hid (Blk nb (ndV i f (.slice none 0 0) (.slice none 0 0) (.slice none 0 0) (.slice none 0 0)) 32 X) → Hid (Blk b1 (List.replicate s (Value.bool false)).toArray 4 X) → Hid (Wd.heap.size ≤ b1) → Hid (Blk b4 (List.replicate s (Value.int .i64 0)).toArray 3 X) → Hid (Wd.heap.size ≤ b4) → Hid (b1 ≠ b4) → GG 9 #[true, true, true, false, true, false, true, true, true, false, false, false, false, false, false, false] ac X := by
    intro ac b1 b4 X ha GD hN hM1 hg1 hM4 hg4 hd14
    obtain ⟨u, rfl⟩ : ∃ u : Nat → Value, ac = ⟨#[nI i, nI s, nI f, undef, undef, undef, ptr rb 0, ptr nb 0, undef, (u 9), (u 10), (u 11), nI s, (.slice (some ⟨b1, 0, none⟩) s s), nI s, (u 15), nI s, (u 17), nI s, (.slice (some ⟨b4, 0, none⟩) s s), ptr nb 7, (u 21), (u 22), (u 23), (u 24), (u 25), (u 26), (u 27), (u 28), (u 29), (u 30), (u 31), (u 32), (u 33), (u 34), (u 35), (u 36), (u 37), (u 38), (u 39), (u 40)], []⟩ := ⟨fun i => ac.tmps.getD i undef, ha⟩
    clear ha
    refine unhide HIN _ _ _ _ ?_
    have hHeld : True := trivial
    refine wpAnyH_ready (rs := [3, 5, 9]) (by kernel_rfl) (by simp) ?_
    refine AllReadyH.cons rfl (fun K20052 hK20052 => ?_) ?_
    · go_simp
      have hb := below_new X (.cells (List.replicate s (Value.int .i64 0)).toArray 3)
      have hM2 := hide (Blk.new X (List.replicate s (Value.int .i64 0)).toArray 3)
      have hg2 : Hid (Wd.heap.size ≤ X.heap.size) := hide GD.size
      refine hK20052.out _ _ trivial (fun hH20052 => ?_)
      clear hHeld hH20052 hK20052 K20052
      have hHeld : True := trivial
      refine unhide HOUT _ _ _ _ ?_
      exact unhide C124_0 _ b1 _ b4 _ (by kernel_rfl) (GD.trans (Keep.call _ hb)) (hide ((unhide hN).below hb)) (hide ((unhide hM1).below hb)) hg1 hM2 hg2 (hide ((unhide hM4).below hb)) hg4 (hide (Nat.ne_of_lt (unhide hM1).lt)) hd14 (hide (Ne.symm (Nat.ne_of_lt (unhide hM4).lt)))
    refine AllReadyH.cons rfl (fun K20053 hK20053 => ?_) ?_
    · go_simp
      have hb := below_new X (.cells (List.replicate s (Value.int .i64 0)).toArray 3)
      have hM3 := hide (Blk.new X (List.replicate s (Value.int .i64 0)).toArray 3)
      have hg3 : Hid (Wd.heap.size ≤ X.heap.size) := hide GD.size
      refine hK20053.out _ _ trivial (fun hH20053 => ?_)
      clear hHeld hH20053 hK20053 K20053
      have hHeld : True := trivial
      refine unhide HOUT _ _ _ _ ?_
      exact unhide C134_0 _ b1 _ b4 _ (by kernel_rfl) (GD.trans (Keep.call _ hb)) (hide ((unhide hN).below hb)) (hide ((unhide hM1).below hb)) hg1 hM3 hg3 (hide ((unhide hM4).below hb)) hg4 (hide (Nat.ne_of_lt (unhide hM1).lt)) hd14 (hide (Ne.symm (Nat.ne_of_lt (unhide hM4).lt)))
    refine AllReadyH.cons rfl (fun K20054 hK20054 => ?_) AllReadyH.nil
    · have n_ := unhide hN
      have nc_ := n_.cell 7
      have nf_ := n_.froz
      have nl_ := n_.lt
      simp at nc_
      go_simp
      refine hK20054.out _ _ trivial (fun hH20054 => ?_)
      clear hHeld hH20054 hK20054 K20054
      have hHeld : True := trivial
      refine unhide HOUT _ _ _ _ ?_
      exact unhide C14_1 _ b1 b4 _ (by kernel_rfl) (GD.trans (Keep.set (.inl rfl))) (hide (show Blk nb (ndV i f (.slice (some ⟨b1, 0, none⟩) s s) (.slice none 0 0) (.slice none 0 0) (.slice none 0 0)) 32 _ from (unhide hN).set 7 (.slice (some ⟨b1, 0, none⟩) s s))) (hide ((unhide hM1).far (by have := unhide hg1; omega))) hg1 (hide ((unhide hM4).far (by have := unhide hg4; omega))) hg4 hd14
  have C14_0 := hide C14_0
  have C1_1 : ∀ (ac : Act) (b1 : Nat) (X : World), ac = ⟨#[nI i, nI s, nI f, undef, undef, undef, ptr rb 0, ptr nb 0, undef, ac.tmps.getD 9 undef, ac.tmps.getD 10 undef, ac.tmps.getD 11 undef, nI s, (.slice (some ⟨b1, 0, none⟩) s s), nI s, ac.tmps.getD 15 undef, nI s, ac.tmps.getD 17 undef, nI s, ac.tmps.getD 19 undef, ptr nb 7, ac.tmps.getD 21 undef, ac.tmps.getD 22 undef, ac.tmps.getD 23 undef, ac.tmps.getD 24 undef, ac.tmps.getD 25 undef, ac.tmps.getD 26 undef, ac.tmps.getD 27 undef, ac.tmps.getD 28 undef, ac.tmps.getD 29 undef, ac.tmps.getD 30 undef, ac.tmps.getD 31 undef, ac.tmps.getD 32 undef, ac.tmps.getD 33 undef, ac.tmps.getD 34 undef, ac.tmps.getD 35 undef, ac.tmps.getD 36 undef, ac.tmps.getD 37 undef, ac.tmps.getD 38 undef, ac.tmps.getD 39 undef, ac.tmps.getD 40 undef], []⟩ → Keep Wd X (fun j => j = nb) (fun j => j = nb ∨ Wd.heap.size ≤ j) → Hid (Blk nb (ndV i f (.slice (some ⟨b1, 0, none⟩) s s) (.slice none 0 0) (.slice none 0 0) (.slice none 0 0)) 32 X) → Hid (Blk b1 (List.replicate s (Value.bool false)).toArray 4 X) → Hid (Wd.heap.size ≤ b1) → GG 9 #[true, true, true, false, true, false, true, false, true, true, false, false, false, false, false, false] ac X := by
    intro ac b1 X ha GD hN hM1 hg1
    obtain ⟨u, rfl⟩ : ∃ u : Nat → Value, ac = ⟨#[nI i, nI s, nI f, undef, undef, undef, ptr rb 0, ptr nb 0, undef, (u 9), (u 10), (u 11), nI s, (.slice (some ⟨b1, 0, none⟩) s s), nI s, (u 15), nI s, (u 17), nI s, (u 19), ptr nb 7, (u 21), (u 22), (u 23), (u 24), (u 25), (u 26), (u 27), (u 28), (u 29), (u 30), (u 31), (u 32), (u 33), (u 34), (u 35), (u 36), (u 37), (u 38), (u 39), (u 40)], []⟩ := ⟨fun i => ac.tmps.getD i undef, ha⟩
    clear ha
    refine unhide HIN _ _ _ _ ?_
    have hHeld : True := trivial
    refine wpAnyH_ready (rs := [3, 5, 7]) (by kernel_rfl) (by simp) ?_
    refine AllReadyH.cons rfl (fun K20055 hK20055 => ?_) ?_
    · go_simp
      have hb := below_new X (.cells (List.replicate s (Value.int .i64 0)).toArray 3)
      have hM2 := hide (Blk.new X (List.replicate s (Value.int .i64 0)).toArray 3)
      have hg2 : Hid (Wd.heap.size ≤ X.heap.size) := hide GD.size
      refine hK20055.out _ _ trivial (fun hH20055 => ?_)
      clear hHeld hH20055 hK20055 K20055
      have hHeld : True := trivial
      refine wpAnyH_take (i := 10) (oi := ?oi20056) (v := ?v20056) ?hi20056 (by kernel_rfl) (by kernel_rfl) (by kernel_rfl) (fun _ _ _ h => h) (Or.inl ⟨?hw20056, ?hy20056⟩) (by assumption) ?rest20056
      case hi20056 => (simp only [List.getElem?_toArray, List.getElem?_cons_zero, List.getElem?_cons_succ]; rfl)
      case hw20056 => rfl
      case hy20056 => first | (intro wx hSw; go_simp; done) | (intro wx hSw; go_simp; with_reducible rfl)
      simp only [Act.put, List.setIfInBounds_toArray, List.set_cons_zero, List.set_cons_succ]
      refine unhide HOUT _ _ _ _ ?_
      exact unhide C12_1 _ b1 _ _ (by kernel_rfl) (GD.trans (Keep.call _ hb)) (hide ((unhide hN).below hb)) (hide ((unhide hM1).below hb)) hg1 hM2 hg2 (hide (Nat.ne_of_lt (unhide hM1).lt))
    refine AllReadyH.cons rfl (fun K20057 hK20057 => ?_) ?_
    · go_simp
      have hb := below_new X (.cells (List.replicate s (Value.int .i64 0)).toArray 3)
      have hM3 := hide (Blk.new X (List.replicate s (Value.int .i64 0)).toArray 3)
      have hg3 : Hid (Wd.heap.size ≤ X.heap.size) := hide GD.size
      refine hK20057.out _ _ trivial (fun hH20057 => ?_)
      clear hHeld hH20057 hK20057 K20057
      have hHeld : True := trivial
      refine unhide HOUT _ _ _ _ ?_
      exact unhide C13_1 _ b1 _ _ (by kernel_rfl) (GD.trans (Keep.call _ hb)) (hide ((unhide hN).below hb)) (hide ((unhide hM1).below hb)) hg1 hM3 hg3 (hide (Nat.ne_of_lt (unhide hM1).lt))
    refine AllReadyH.cons rfl (fun K20058 hK20058 => ?_) AllReadyH.nil
    · go_simp
      have hb := below_new X (.cells (List.replicate s (Value.int .i64 0)).toArray 3)
      have hM4 := hide (Blk.new X (List.replicate s (Value.int .i64 0)).toArray 3)
      have hg4 : Hid (Wd.heap.size ≤ X.heap.size) := hide GD.size
      refine hK20058.out _ _ trivial (fun hH20058 => ?_)
      clear hHeld hH20058 hK20058 K20058
      have hHeld : True := trivial
      refine unhide HOUT _ _ _ _ ?_
      exact unhide C14_1 _ b1 _ _ (by kernel_rfl) (GD.trans (Keep.call _ hb)) (hide ((unhide hN).below hb)) (hide ((unhide hM1).below hb)) hg1 hM4 hg4 (hide (Nat.ne_of_lt (unhide hM1).lt))
  have C1_1 := hide C1_1
  have C1_0 : ∀ (ac : Act) (b1 : Nat) (X : World), ac = ⟨#[nI i, nI s, nI f, undef, undef, undef, ptr rb 0, ptr nb 0, undef, ac.tmps.getD 9 undef, ac.tmps.getD 10 undef, ac.tmps.getD 11 undef, nI s, (.slice (some ⟨b1, 0, none⟩) s s), nI s, ac.tmps.getD 15 undef, nI s, ac.tmps.getD 17 undef, nI s, ac.tmps.getD 19 undef, ptr nb 7, ac.tmps.getD 21 undef, ac.tmps.getD 22 undef, ac.tmps.getD 23 undef, ac.tmps.getD 24 undef, ac.tmps.getD 25 undef, ac.tmps.getD 26 undef, ac.tmps.getD 27 undef, ac.tmps.getD 28 undef, ac.tmps.getD 29 undef, ac.tmps.getD 30 undef, ac.tmps.getD 31 undef, ac.tmps.getD 32 undef, ac.tmps.getD 33 undef, ac.tmps.getD 34 undef, ac.tmps.getD 35 undef, ac.tmps.getD 36 undef, ac.tmps.getD 37 undef, ac.tmps.getD 38 undef, ac.tmps.getD 39 undef, ac.tmps.getD 40 undef], []⟩ → Keep Wd X (fun j => j = nb) (fun j => j = nb ∨ Wd.heap.size ≤ j) → Hid (Blk nb (ndV i f (.slice none 0 0) (.slice none 0 0) (.slice none 0 0) (.slice none 0 0)) 32 X) → Hid (Blk b1 (List.replicate s (Value.bool false)).toArray 4 X) → Hid (Wd.heap.size ≤ b1) → GG 10 #[true, true, true, false, true, false, true, false, true, false, false, false, false, false, false, false] ac X := by
    intro ac b1 X ha GD hN hM1 hg1
    obtain ⟨u, rfl⟩ : ∃ u : Nat → Value, ac = ⟨#[nI i, nI s, nI f, undef, undef, undef, ptr rb 0, ptr nb 0, undef, (u 9), (u 10), (u 11), nI s, (.slice (some ⟨b1, 0, none⟩) s s), nI s, (u 15), nI s, (u 17), nI s, (u 19), ptr nb 7, (u 21), (u 22), (u 23), (u 24), (u 25), (u 26), (u 27), (u 28), (u 29), (u 30), (u 31), (u 32), (u 33), (u 34), (u 35), (u 36), (u 37), (u 38), (u 39), (u 40)], []⟩ := ⟨fun i => ac.tmps.getD i undef, ha⟩
    clear ha
    refine unhide HIN _ _ _ _ ?_
    have hHeld : True := trivial
    refine wpAnyH_ready (rs := [3, 5, 7, 9]) (by kernel_rfl) (by simp) ?_
    refine AllReadyH.cons rfl (fun K20059 hK20059 => ?_) ?_
    · go_simp
      have hb := below_new X (.cells (List.replicate s (Value.int .i64 0)).toArray 3)
      have hM2 := hide (Blk.new X (List.replicate s (Value.int .i64 0)).toArray 3)
      have hg2 : Hid (Wd.heap.size ≤ X.heap.size) := hide GD.size
      refine hK20059.out _ _ trivial (fun hH20059 => ?_)
      clear hHeld hH20059 hK20059 K20059
      have hHeld : True := trivial
      refine unhide HOUT _ _ _ _ ?_
      exact unhide C12_0 _ b1 _ _ (by kernel_rfl) (GD.trans (Keep.call _ hb)) (hide ((unhide hN).below hb)) (hide ((unhide hM1).below hb)) hg1 hM2 hg2 (hide (Nat.ne_of_lt (unhide hM1).lt))
    refine AllReadyH.cons rfl (fun K20060 hK20060 => ?_) ?_
    · go_simp
      have hb := below_new X (.cells (List.replicate s (Value.int .i64 0)).toArray 3)
      have hM3 := hide (Blk.new X (List.replicate s (Value.int .i64 0)).toArray 3)
      have hg3 : Hid (Wd.heap.size ≤ X.heap.size) := hide GD.size
      refine hK20060.out _ _ trivial (fun hH20060 => ?_)
      clear hHeld hH20060 hK20060 K20060
      have hHeld : True := trivial
      refine unhide HOUT _ _ _ _ ?_
      exact unhide C13_0 _ b1 _ _ (by kernel_rfl) (GD.trans (Keep.call _ hb)) (hide ((unhide hN).below hb)) (hide ((unhide hM1).below hb)) hg1 hM3 hg3 (hide (Nat.ne_of_lt (unhide hM1).lt))
    refine AllReadyH.cons rfl (fun K20061 hK20061 => ?_) ?_
    · go_simp
      have hb := below_new X (.cells (List.replicate s (Value.int .i64 0)).toArray 3)
      have hM4 := hide (Blk.new X (List.replicate s (Value.int .i64 0)).toArray 3)
      have hg4 : Hid (Wd.heap.size ≤ X.heap.size) := hide GD.size
      refine hK20061.out _ _ trivial (fun hH20061 => ?_)
      clear hHeld hH20061 hK20061 K20061
      have hHeld : True := trivial
      refine unhide HOUT _ _ _ _ ?_
      exact unhide C14_0 _ b1 _ _ (by kernel_rfl) (GD.trans (Keep.call _ hb)) (hide ((unhide hN).below hb)) (hide ((unhide hM1).below hb)) hg1 hM4 hg4 (hide (Nat.ne_of_lt (unhide hM1).lt))
    refine AllReadyH.cons rfl (fun K20062 hK20062 => ?_) AllReadyH.nil
    · have n_ := unhide hN
      have nc_ := n_.cell 7
      have nf_ := n_.froz
      have nl_ := n_.lt
      simp at nc_
      go_simp
      refine hK20062.out _ _ trivial (fun hH20062 => ?_)
      clear hHeld hH20062 hK20062 K20062
      have hHeld : True := trivial
      refine unhide HOUT _ _ _ _ ?_
      exact unhide C1_1 _ b1 _ (by kernel_rfl) (GD.trans (Keep.set (.inl rfl))) (hide (show Blk nb (ndV i f (.slice (some ⟨b1, 0, none⟩) s s) (.slice none 0 0) (.slice none 0 0) (.slice none 0 0)) 32 _ from (unhide hN).set 7 (.slice (some ⟨b1, 0, none⟩) s s))) (hide ((unhide hM1).far (by have := unhide hg1; omega))) hg1
  have C1_0 := hide C1_0
  have C234_0 : ∀ (ac : Act) (b2 : Nat) (b3 : Nat) (b4 : Nat) (X : World), ac = ⟨#[nI i, nI s, nI f, undef, undef, undef, ptr rb 0, ptr nb 0, undef, ac.tmps.getD 9 undef, ac.tmps.getD 10 undef, ac.tmps.getD 11 undef, nI s, ac.tmps.getD 13 undef, nI s, (.slice (some ⟨b2, 0, none⟩) s s), nI s, (.slice (some ⟨b3, 0, none⟩) s s), nI s, (.slice (some ⟨b4, 0, none⟩) s s), ac.tmps.getD 20 undef, ac.tmps.getD 21 undef, ac.tmps.getD 22 undef, ac.tmps.getD 23 undef, ac.tmps.getD 24 undef, ac.tmps.getD 25 undef, ac.tmps.getD 26 undef, ac.tmps.getD 27 undef, ac.tmps.getD 28 undef, ac.tmps.getD 29 undef, ac.tmps.getD 30 undef, ac.tmps.getD 31 undef, ac.tmps.getD 32 undef, ac.tmps.getD 33 undef, ac.tmps.getD 34 undef, ac.tmps.getD 35 undef, ac.tmps.getD 36 undef, ac.tmps.getD 37 undef, ac.tmps.getD 38 undef, ac.tmps.getD 39 undef, ac.tmps.getD 40 undef], []⟩ → Keep Wd X (fun j => j = nb) (fun j => j = nb ∨ Wd.heap.size ≤ j) → Hid (Blk nb (ndV i f (.slice none 0 0) (.slice none 0 0) (.slice none 0 0) (.slice none 0 0)) 32 X) → Hid (Blk b2 (List.replicate s (Value.int .i64 0)).toArray 3 X) → Hid (Wd.heap.size ≤ b2) → Hid (Blk b3 (List.replicate s (Value.int .i64 0)).toArray 3 X) → Hid (Wd.heap.size ≤ b3) → Hid (Blk b4 (List.replicate s (Value.int .i64 0)).toArray 3 X) → Hid (Wd.heap.size ≤ b4) → Hid (b2 ≠ b3) → Hid (b2 ≠ b4) → Hid (b3 ≠ b4) → GG 9 #[true, false, true, true, true, true, true, true, false, false, false, false, false, false, false, false] ac X := by
    intro ac b2 b3 b4 X ha GD hN hM2 hg2 hM3 hg3 hM4 hg4 hd23 hd24 hd34
    obtain ⟨u, rfl⟩ : ∃ u : Nat → Value, ac = ⟨#[nI i, nI s, nI f, undef, undef, undef, ptr rb 0, ptr nb 0, undef, (u 9), (u 10), (u 11), nI s, (u 13), nI s, (.slice (some ⟨b2, 0, none⟩) s s), nI s, (.slice (some ⟨b3, 0, none⟩) s s), nI s, (.slice (some ⟨b4, 0, none⟩) s s), (u 20), (u 21), (u 22), (u 23), (u 24), (u 25), (u 26), (u 27), (u 28), (u 29), (u 30), (u 31), (u 32), (u 33), (u 34), (u 35), (u 36), (u 37), (u 38), (u 39), (u 40)], []⟩ := ⟨fun i => ac.tmps.getD i undef, ha⟩
    clear ha
    refine unhide HIN _ _ _ _ ?_
    have hHeld : True := trivial
    refine wpAnyH_ready (rs := [1]) (by kernel_rfl) (by simp) ?_
    refine AllReadyH.cons rfl (fun K20063 hK20063 => ?_) AllReadyH.nil
    go_simp
    have hb := below_new X (.cells (List.replicate s (Value.bool false)).toArray 4)
    have hM1 := hide (Blk.new X (List.replicate s (Value.bool false)).toArray 4)
    have hg1 : Hid (Wd.heap.size ≤ X.heap.size) := hide GD.size
    refine hK20063.out _ _ trivial (fun hH20063 => ?_)
    clear hHeld hH20063 hK20063 K20063
    have hHeld : True := trivial
    refine wpAnyH_take (i := 8) (oi := ?oi20064) (v := ?v20064) ?hi20064 (by kernel_rfl) (by kernel_rfl) (by kernel_rfl) (fun _ _ _ h => h) (Or.inl ⟨?hw20064, ?hy20064⟩) (by assumption) ?rest20064
    case hi20064 => (simp only [List.getElem?_toArray, List.getElem?_cons_zero, List.getElem?_cons_succ]; rfl)
    case hw20064 => rfl
    case hy20064 => first | (intro wx hSw; go_simp; done) | (intro wx hSw; go_simp; with_reducible rfl)
    simp only [Act.put, List.setIfInBounds_toArray, List.set_cons_zero, List.set_cons_succ]
    refine unhide HOUT _ _ _ _ ?_
    exact unhide C1234_0 _ _ b2 b3 b4 _ (by kernel_rfl) (GD.trans (Keep.call _ hb)) (hide ((unhide hN).below hb)) hM1 hg1 (hide ((unhide hM2).below hb)) hg2 (hide ((unhide hM3).below hb)) hg3 (hide ((unhide hM4).below hb)) hg4 (hide (Ne.symm (Nat.ne_of_lt (unhide hM2).lt))) (hide (Ne.symm (Nat.ne_of_lt (unhide hM3).lt))) (hide (Ne.symm (Nat.ne_of_lt (unhide hM4).lt))) hd23 hd24 hd34
  have C234_0 := hide C234_0
  have C23_0 : ∀ (ac : Act) (b2 : Nat) (b3 : Nat) (X : World), ac = ⟨#[nI i, nI s, nI f, undef, undef, undef, ptr rb 0, ptr nb 0, undef, ac.tmps.getD 9 undef, ac.tmps.getD 10 undef, ac.tmps.getD 11 undef, nI s, ac.tmps.getD 13 undef, nI s, (.slice (some ⟨b2, 0, none⟩) s s), nI s, (.slice (some ⟨b3, 0, none⟩) s s), nI s, ac.tmps.getD 19 undef, ac.tmps.getD 20 undef, ac.tmps.getD 21 undef, ac.tmps.getD 22 undef, ac.tmps.getD 23 undef, ac.tmps.getD 24 undef, ac.tmps.getD 25 undef, ac.tmps.getD 26 undef, ac.tmps.getD 27 undef, ac.tmps.getD 28 undef, ac.tmps.getD 29 undef, ac.tmps.getD 30 undef, ac.tmps.getD 31 undef, ac.tmps.getD 32 undef, ac.tmps.getD 33 undef, ac.tmps.getD 34 undef, ac.tmps.getD 35 undef, ac.tmps.getD 36 undef, ac.tmps.getD 37 undef, ac.tmps.getD 38 undef, ac.tmps.getD 39 undef, ac.tmps.getD 40 undef], []⟩ → Keep Wd X (fun j => j = nb) (fun j => j = nb ∨ Wd.heap.size ≤ j) → Hid (Blk nb (ndV i f (.slice none 0 0) (.slice none 0 0) (.slice none 0 0) (.slice none 0 0)) 32 X) → Hid (Blk b2 (List.replicate s (Value.int .i64 0)).toArray 3 X) → Hid (Wd.heap.size ≤ b2) → Hid (Blk b3 (List.replicate s (Value.int .i64 0)).toArray 3 X) → Hid (Wd.heap.size ≤ b3) → Hid (b2 ≠ b3) → GG 10 #[true, false, true, true, true, true, true, false, false, false, false, false, false, false, false, false] ac X := by
    intro ac b2 b3 X ha GD hN hM2 hg2 hM3 hg3 hd23
    obtain ⟨u, rfl⟩ : ∃ u : Nat → Value, ac = ⟨#[nI i, nI s, nI f, undef, undef, undef, ptr rb 0, ptr nb 0, undef, (u 9), (u 10), (u 11), nI s, (u 13), nI s, (.slice (some ⟨b2, 0, none⟩) s s), nI s, (.slice (some ⟨b3, 0, none⟩) s s), nI s, (u 19), (u 20), (u 21), (u 22), (u 23), (u 24), (u 25), (u 26), (u 27), (u 28), (u 29), (u 30), (u 31), (u 32), (u 33), (u 34), (u 35), (u 36), (u 37), (u 38), (u 39), (u 40)], []⟩ := ⟨fun i => ac.tmps.getD i undef, ha⟩
    clear ha
    refine unhide HIN _ _ _ _ ?_
    have hHeld : True := trivial
    refine wpAnyH_ready (rs := [1, 7]) (by kernel_rfl) (by simp) ?_
    refine AllReadyH.cons rfl (fun K20065 hK20065 => ?_) ?_
    · go_simp
      have hb := below_new X (.cells (List.replicate s (Value.bool false)).toArray 4)
      have hM1 := hide (Blk.new X (List.replicate s (Value.bool false)).toArray 4)
      have hg1 : Hid (Wd.heap.size ≤ X.heap.size) := hide GD.size
      refine hK20065.out _ _ trivial (fun hH20065 => ?_)
      clear hHeld hH20065 hK20065 K20065
      have hHeld : True := trivial
      refine wpAnyH_take (i := 8) (oi := ?oi20066) (v := ?v20066) ?hi20066 (by kernel_rfl) (by kernel_rfl) (by kernel_rfl) (fun _ _ _ h => h) (Or.inl ⟨?hw20066, ?hy20066⟩) (by assumption) ?rest20066
      case hi20066 => (simp only [List.getElem?_toArray, List.getElem?_cons_zero, List.getElem?_cons_succ]; rfl)
      case hw20066 => rfl
      case hy20066 => first | (intro wx hSw; go_simp; done) | (intro wx hSw; go_simp; with_reducible rfl)
      simp only [Act.put, List.setIfInBounds_toArray, List.set_cons_zero, List.set_cons_succ]
      refine unhide HOUT _ _ _ _ ?_
      exact unhide C123_0 _ _ b2 b3 _ (by kernel_rfl) (GD.trans (Keep.call _ hb)) (hide ((unhide hN).below hb)) hM1 hg1 (hide ((unhide hM2).below hb)) hg2 (hide ((unhide hM3).below hb)) hg3 (hide (Ne.symm (Nat.ne_of_lt (unhide hM2).lt))) (hide (Ne.symm (Nat.ne_of_lt (unhide hM3).lt))) hd23
    refine AllReadyH.cons rfl (fun K20067 hK20067 => ?_) AllReadyH.nil
    · go_simp
      have hb := below_new X (.cells (List.replicate s (Value.int .i64 0)).toArray 3)
      have hM4 := hide (Blk.new X (List.replicate s (Value.int .i64 0)).toArray 3)
      have hg4 : Hid (Wd.heap.size ≤ X.heap.size) := hide GD.size
      refine hK20067.out _ _ trivial (fun hH20067 => ?_)
      clear hHeld hH20067 hK20067 K20067
      have hHeld : True := trivial
      refine unhide HOUT _ _ _ _ ?_
      exact unhide C234_0 _ b2 b3 _ _ (by kernel_rfl) (GD.trans (Keep.call _ hb)) (hide ((unhide hN).below hb)) (hide ((unhide hM2).below hb)) hg2 (hide ((unhide hM3).below hb)) hg3 hM4 hg4 hd23 (hide (Nat.ne_of_lt (unhide hM2).lt)) (hide (Nat.ne_of_lt (unhide hM3).lt))
  have C23_0 := hide C23_0
  have C24_0 : ∀ (ac : Act) (b2 : Nat) (b4 : Nat) (X : World), ac = ⟨#[nI i, nI s, nI f, undef, undef, undef, ptr rb 0, ptr nb 0, undef, ac.tmps.getD 9 undef, ac.tmps.getD 10 undef, ac.tmps.getD 11 undef, nI s, ac.tmps.getD 13 undef, nI s, (.slice (some ⟨b2, 0, none⟩) s s), nI s, ac.tmps.getD 17 undef, nI s, (.slice (some ⟨b4, 0, none⟩) s s), ac.tmps.getD 20 undef, ac.tmps.getD 21 undef, ac.tmps.getD 22 undef, ac.tmps.getD 23 undef, ac.tmps.getD 24 undef, ac.tmps.getD 25 undef, ac.tmps.getD 26 undef, ac.tmps.getD 27 undef, ac.tmps.getD 28 undef, ac.tmps.getD 29 undef, ac.tmps.getD 30 undef, ac.tmps.getD 31 undef, ac.tmps.getD 32 undef, ac.tmps.getD 33 undef, ac.tmps.getD 34 undef, ac.tmps.getD 35 undef, ac.tmps.getD 36 undef, ac.tmps.getD 37 undef, ac.tmps.getD 38 undef, ac.tmps.getD 39 undef, ac.tmps.getD 40 undef], []⟩ → Keep Wd X (fun j => j = nb) (fun j => j = nb ∨ Wd.heap.size ≤ j) → Hid (Blk nb (ndV i f (.slice none 0 0) (.slice none 0 0) (.slice none 0 0) (.slice none 0 0)) 32 X) → Hid (Blk b2 (List.replicate s (Value.int .i64 0)).toArray 3 X) → Hid (Wd.heap.size ≤ b2) → Hid (Blk b4 (List.replicate s (Value.int .i64 0)).toArray 3 X) → Hid (Wd.heap.size ≤ b4) → Hid (b2 ≠ b4) → GG 10 #[true, false, true, true, true, false, true, true, false, false, false, false, false, false, false, false] ac X := by
    intro ac b2 b4 X ha GD hN hM2 hg2 hM4 hg4 hd24
    obtain ⟨u, rfl⟩ : ∃ u : Nat → Value, ac = ⟨#[nI i, nI s, nI f, undef, undef, undef, ptr rb 0, ptr nb 0, undef, (u 9), (u 10), (u 11), nI s, (u 13), nI s, (.slice (some ⟨b2, 0, none⟩) s s), nI s, (u 17), nI s, (.slice (some ⟨b4, 0, none⟩) s s), (u 20), (u 21), (u 22), (u 23), (u 24), (u 25), (u 26), (u 27), (u 28), (u 29), (u 30), (u 31), (u 32), (u 33), (u 34), (u 35), (u 36), (u 37), (u 38), (u 39), (u 40)], []⟩ := ⟨fun i => ac.tmps.getD i undef, ha⟩
    clear ha
    refine unhide HIN _ _ _ _ ?_
    have hHeld : True := trivial
    refine wpAnyH_ready (rs := [1, 5]) (by kernel_rfl) (by simp) ?_
    refine AllReadyH.cons rfl (fun K20068 hK20068 => ?_) ?_
    · go_simp
      have hb := below_new X (.cells (List.replicate s (Value.bool false)).toArray 4)
      have hM1 := hide (Blk.new X (List.replicate s (Value.bool false)).toArray 4)
      have hg1 : Hid (Wd.heap.size ≤ X.heap.size) := hide GD.size
      refine hK20068.out _ _ trivial (fun hH20068 => ?_)
      clear hHeld hH20068 hK20068 K20068
      have hHeld : True := trivial
      refine wpAnyH_take (i := 8) (oi := ?oi20069) (v := ?v20069) ?hi20069 (by kernel_rfl) (by kernel_rfl) (by kernel_rfl) (fun _ _ _ h => h) (Or.inl ⟨?hw20069, ?hy20069⟩) (by assumption) ?rest20069
      case hi20069 => (simp only [List.getElem?_toArray, List.getElem?_cons_zero, List.getElem?_cons_succ]; rfl)
      case hw20069 => rfl
      case hy20069 => first | (intro wx hSw; go_simp; done) | (intro wx hSw; go_simp; with_reducible rfl)
      simp only [Act.put, List.setIfInBounds_toArray, List.set_cons_zero, List.set_cons_succ]
      refine unhide HOUT _ _ _ _ ?_
      exact unhide C124_0 _ _ b2 b4 _ (by kernel_rfl) (GD.trans (Keep.call _ hb)) (hide ((unhide hN).below hb)) hM1 hg1 (hide ((unhide hM2).below hb)) hg2 (hide ((unhide hM4).below hb)) hg4 (hide (Ne.symm (Nat.ne_of_lt (unhide hM2).lt))) (hide (Ne.symm (Nat.ne_of_lt (unhide hM4).lt))) hd24
    refine AllReadyH.cons rfl (fun K20070 hK20070 => ?_) AllReadyH.nil
    · go_simp
      have hb := below_new X (.cells (List.replicate s (Value.int .i64 0)).toArray 3)
      have hM3 := hide (Blk.new X (List.replicate s (Value.int .i64 0)).toArray 3)
      have hg3 : Hid (Wd.heap.size ≤ X.heap.size) := hide GD.size
      refine hK20070.out _ _ trivial (fun hH20070 => ?_)
      clear hHeld hH20070 hK20070 K20070
      have hHeld : True := trivial
      refine unhide HOUT _ _ _ _ ?_
      exact unhide C234_0 _ b2 _ b4 _ (by kernel_rfl) (GD.trans (Keep.call _ hb)) (hide ((unhide hN).below hb)) (hide ((unhide hM2).below hb)) hg2 hM3 hg3 (hide ((unhide hM4).below hb)) hg4 (hide (Nat.ne_of_lt (unhide hM2).lt)) hd24 (hide (Ne.symm (Nat.ne_of_lt (unhide hM4).lt)))
  have C24_0 := hide C24_0
  have C2_0 : ∀ (ac : Act) (b2 : Nat) (X : World), ac = ⟨#[nI i, nI s, nI f, undef, undef, undef, ptr rb 0, ptr nb 0, undef, ac.tmps.getD 9 undef, ac.tmps.getD 10 undef, ac.tmps.getD 11 undef, nI s, ac.tmps.getD 13 undef, nI s, (.slice (some ⟨b2, 0, none⟩) s s), nI s, ac.tmps.getD 17 undef, nI s, ac.tmps.getD 19 undef, ac.tmps.getD 20 undef, ac.tmps.getD 21 undef, ac.tmps.getD 22 undef, ac.tmps.getD 23 undef, ac.tmps.getD 24 undef, ac.tmps.getD 25 undef, ac.tmps.getD 26 undef, ac.tmps.getD 27 undef, ac.tmps.getD 28 undef, ac.tmps.getD 29 undef, ac.tmps.getD 30 undef, ac.tmps.getD 31 undef, ac.tmps.getD 32 undef, ac.tmps.getD 33 undef, ac.tmps.getD 34 undef, ac.tmps.getD 35 undef, ac.tmps.getD 36 undef, ac.tmps.getD 37 undef, ac.tmps.getD 38 undef, ac.tmps.getD 39 undef, ac.tmps.getD 40 undef], []⟩ → Keep Wd X (fun j => j = nb) (fun j => j = nb ∨ Wd.heap.size ≤ j) → Hid (Blk nb (ndV i f (.slice none 0 0) (.slice none 0 0) (.slice none 0 0) (.slice none 0 0)) 32 X) → Hid (Blk b2 (List.replicate s (Value.int .i64 0)).toArray 3 X) → Hid (Wd.heap.size ≤ b2) → GG 11 #[true, false, true, true, true, false, true, false, false, false, false, false, false, false, false, false] ac X := by
    intro ac b2 X ha GD hN hM2 hg2
    obtain ⟨u, rfl⟩ : ∃ u : Nat → Value, ac = ⟨#[nI i, nI s, nI f, undef, undef, undef, ptr rb 0, ptr nb 0, undef, (u 9), (u 10), (u 11), nI s, (u 13), nI s, (.slice (some ⟨b2, 0, none⟩) s s), nI s, (u 17), nI s, (u 19), (u 20), (u 21), (u 22), (u 23), (u 24), (u 25), (u 26), (u 27), (u 28), (u 29), (u 30), (u 31), (u 32), (u 33), (u 34), (u 35), (u 36), (u 37), (u 38), (u 39), (u 40)], []⟩ := ⟨fun i => ac.tmps.getD i undef, ha⟩
    clear ha
    refine unhide HIN _ _ _ _ ?_
    have hHeld : True := trivial
    refine wpAnyH_ready (rs := [1, 5, 7]) (by kernel_rfl) (by simp) ?_
    refine AllReadyH.cons rfl (fun K20071 hK20071 => ?_) ?_
    · go_simp
      have hb := below_new X (.cells (List.replicate s (Value.bool false)).toArray 4)
      have hM1 := hide (Blk.new X (List.replicate s (Value.bool false)).toArray 4)
      have hg1 : Hid (Wd.heap.size ≤ X.heap.size) := hide GD.size
      refine hK20071.out _ _ trivial (fun hH20071 => ?_)
      clear hHeld hH20071 hK20071 K20071
      have hHeld : True := trivial
      refine wpAnyH_take (i := 8) (oi := ?oi20072) (v := ?v20072) ?hi20072 (by kernel_rfl) (by kernel_rfl) (by kernel_rfl) (fun _ _ _ h => h) (Or.inl ⟨?hw20072, ?hy20072⟩) (by assumption) ?rest20072
      case hi20072 => (simp only [List.getElem?_toArray, List.getElem?_cons_zero, List.getElem?_cons_succ]; rfl)
      case hw20072 => rfl
      case hy20072 => first | (intro wx hSw; go_simp; done) | (intro wx hSw; go_simp; with_reducible rfl)
      simp only [Act.put, List.setIfInBounds_toArray, List.set_cons_zero, List.set_cons_succ]
      refine unhide HOUT _ _ _ _ ?_
      exact unhide C12_0 _ _ b2 _ (by kernel_rfl) (GD.trans (Keep.call _ hb)) (hide ((unhide hN).below hb)) hM1 hg1 (hide ((unhide hM2).below hb)) hg2 (hide (Ne.symm (Nat.ne_of_lt (unhide hM2).lt)))
    refine AllReadyH.cons rfl (fun K20073 hK20073 => ?_) ?_
    · go_simp
      have hb := below_new X (.cells (List.replicate s (Value.int .i64 0)).toArray 3)
      have hM3 := hide (Blk.new X (List.replicate s (Value.int .i64 0)).toArray 3)
      have hg3 : Hid (Wd.heap.size ≤ X.heap.size) := hide GD.size
      refine hK20073.out _ _ trivial (fun hH20073 => ?_)
      clear hHeld hH20073 hK20073 K20073
      have hHeld : True := trivial
      refine unhide HOUT _ _ _ _ ?_
      exact unhide C23_0 _ b2 _ _ (by kernel_rfl) (GD.trans (Keep.call _ hb)) (hide ((unhide hN).below hb)) (hide ((unhide hM2).below hb)) hg2 hM3 hg3 (hide (Nat.ne_of_lt (unhide hM2).lt))
    refine AllReadyH.cons rfl (fun K20074 hK20074 => ?_) AllReadyH.nil
    · go_simp
      have hb := below_new X (.cells (List.replicate s (Value.int .i64 0)).toArray 3)
      have hM4 := hide (Blk.new X (List.replicate s (Value.int .i64 0)).toArray 3)
      have hg4 : Hid (Wd.heap.size ≤ X.heap.size) := hide GD.size
      refine hK20074.out _ _ trivial (fun hH20074 => ?_)
      clear hHeld hH20074 hK20074 K20074
      have hHeld : True := trivial
      refine unhide HOUT _ _ _ _ ?_
      exact unhide C24_0 _ b2 _ _ (by kernel_rfl) (GD.trans (Keep.call _ hb)) (hide ((unhide hN).below hb)) (hide ((unhide hM2).below hb)) hg2 hM4 hg4 (hide (Nat.ne_of_lt (unhide hM2).lt))
  have C2_0 := hide C2_0
  have C34_0 : ∀ (ac : Act) (b3 : Nat) (b4 : Nat) (X : World), ac = ⟨#[nI i, nI s, nI f, undef, undef, undef, ptr rb 0, ptr nb 0, undef, ac.tmps.getD 9 undef, ac.tmps.getD 10 undef, ac.tmps.getD 11 undef, nI s, ac.tmps.getD 13 undef, nI s, ac.tmps.getD 15 undef, nI s, (.slice (some ⟨b3, 0, none⟩) s s), nI s, (.slice (some ⟨b4, 0, none⟩) s s), ac.tmps.getD 20 undef, ac.tmps.getD 21 undef, ac.tmps.getD 22 undef, ac.tmps.getD 23 undef, ac.tmps.getD 24 undef, ac.tmps.getD 25 undef, ac.tmps.getD 26 undef, ac.tmps.getD 27 undef, ac.tmps.getD 28 undef, ac.tmps.getD 29 undef, ac.tmps.getD 30 undef, ac.tmps.getD 31 undef, ac.tmps.getD 32 undef, ac.tmps.getD 33 undef, ac.tmps.getD 34 undef, ac.tmps.getD 35 undef, ac.tmps.getD 36 undef, ac.tmps.getD 37 undef, ac.tmps.getD 38 undef, ac.tmps.getD 39 undef, ac.tmps.getD 40 undef], []⟩ → Keep Wd X (fun j => j = nb) (fun j => j = nb ∨ Wd.heap.size ≤ j) → Hid (Blk nb (ndV i f (.slice none 0 0) (.slice none 0 0) (.slice none 0 0) (.slice none 0 0)) 32 X) → Hid (Blk b3 (List.replicate s (Value.int .i64 0)).toArray 3 X) → Hid (Wd.heap.size ≤ b3) → Hid (Blk b4 (List.replicate s (Value.int .i64 0)).toArray 3 X) → Hid (Wd.heap.size ≤ b4) → Hid (b3 ≠ b4) → GG 10 #[true, false, true, false, true, true, true, true, false, false, false, false, false, false, false, false] ac X := by
    intro ac b3 b4 X ha GD hN hM3 hg3 hM4 hg4 hd34
    obtain ⟨u, rfl⟩ : ∃ u : Nat → Value, ac = ⟨#[nI i, nI s, nI f, undef, undef, undef, ptr rb 0, ptr nb 0, undef, (u 9), (u 10), (u 11), nI s, (u 13), nI s, (u 15), nI s, (.slice (some ⟨b3, 0, none⟩) s s), nI s, (.slice (some ⟨b4, 0, none⟩) s s), (u 20), (u 21), (u 22), (u 23), (u 24), (u 25), (u 26), (u 27), (u 28), (u 29), (u 30), (u 31), (u 32), (u 33), (u 34), (u 35), (u 36), (u 37), (u 38), (u 39), (u 40)], []⟩ := ⟨fun i => ac.tmps.getD i undef, ha⟩
    clear ha
    refine unhide HIN _ _ _ _ ?_
    have hHeld : True := trivial
    refine wpAnyH_ready (rs := [1, 3]) (by kernel_rfl) (by simp) ?_
    refine AllReadyH.cons rfl (fun K20075 hK20075 => ?_) ?_
    · go_simp
      have hb := below_new X (.cells (List.replicate s (Value.bool false)).toArray 4)
      have hM1 := hide (Blk.new X (List.replicate s (Value.bool false)).toArray 4)
      have hg1 : Hid (Wd.heap.size ≤ X.heap.size) := hide GD.size
      refine hK20075.out _ _ trivial (fun hH20075 => ?_)
      clear hHeld hH20075 hK20075 K20075
      have hHeld : True := trivial
      refine wpAnyH_take (i := 8) (oi := ?oi20076) (v := ?v20076) ?hi20076 (by kernel_rfl) (by kernel_rfl) (by kernel_rfl) (fun _ _ _ h => h) (Or.inl ⟨?hw20076, ?hy20076⟩) (by assumption) ?rest20076
      case hi20076 => (simp only [List.getElem?_toArray, List.getElem?_cons_zero, List.getElem?_cons_succ]; rfl)
      case hw20076 => rfl
      case hy20076 => first | (intro wx hSw; go_simp; done) | (intro wx hSw; go_simp; with_reducible rfl)
      simp only [Act.put, List.setIfInBounds_toArray, List.set_cons_zero, List.set_cons_succ]
      refine unhide HOUT _ _ _ _ ?_
      exact unhide C134_0 _ _ b3 b4 _ (by kernel_rfl) (GD.trans (Keep.call _ hb)) (hide ((unhide hN).below hb)) hM1 hg1 (hide ((unhide hM3).below hb)) hg3 (hide ((unhide hM4).below hb)) hg4 (hide (Ne.symm (Nat.ne_of_lt (unhide hM3).lt))) (hide (Ne.symm (Nat.ne_of_lt (unhide hM4).lt))) hd34
    refine AllReadyH.cons rfl (fun K20077 hK20077 => ?_) AllReadyH.nil
    · go_simp
      have hb := below_new X (.cells (List.replicate s (Value.int .i64 0)).toArray 3)
      have hM2 := hide (Blk.new X (List.replicate s (Value.int .i64 0)).toArray 3)
      have hg2 : Hid (Wd.heap.size ≤ X.heap.size) := hide GD.size
      refine hK20077.out _ _ trivial (fun hH20077 => ?_)
      clear hHeld hH20077 hK20077 K20077
      have hHeld : True := trivial
      refine unhide HOUT _ _ _ _ ?_
      exact unhide C234_0 _ _ b3 b4 _ (by kernel_rfl) (GD.trans (Keep.call _ hb)) (hide ((unhide hN).below hb)) hM2 hg2 (hide ((unhide hM3).below hb)) hg3 (hide ((unhide hM4).below hb)) hg4 (hide (Ne.symm (Nat.ne_of_lt (unhide hM3).lt))) (hide (Ne.symm (Nat.ne_of_lt (unhide hM4).lt))) hd34
  have C34_0 := hide C34_0
  have C3_0 : ∀ (ac : Act) (b3 : Nat) (X : World), ac = ⟨#[nI i, nI s, nI f, undef, undef, undef, ptr rb 0, ptr nb 0, undef, ac.tmps.getD 9 undef, ac.tmps.getD 10 undef, ac.tmps.getD 11 undef, nI s, ac.tmps.getD 13 undef, nI s, ac.tmps.getD 15 undef, nI s, (.slice (some ⟨b3, 0, none⟩) s s), nI s, ac.tmps.getD 19 undef, ac.tmps.getD 20 undef, ac.tmps.getD 21 undef, ac.tmps.getD 22 undef, ac.tmps.getD 23 undef, ac.tmps.getD 24 undef, ac.tmps.getD 25 undef, ac.tmps.getD 26 undef, ac.tmps.getD 27 undef, ac.tmps.getD 28 undef, ac.tmps.getD 29 undef, ac.tmps.getD 30 undef, ac.tmps.getD 31 undef, ac.tmps.getD 32 undef, ac.tmps.getD 33 undef, ac.tmps.getD 34 undef, ac.tmps.getD 35 undef, ac.tmps.getD 36 undef, ac.tmps.getD 37 undef, ac.tmps.getD 38 undef, ac.tmps.getD 39 undef, ac.tmps.getD 40 undef], []⟩ → Keep Wd X (fun j => j = nb) (fun j => j = nb ∨ Wd.heap.size ≤ j) → Hid (Blk nb (ndV i f (.slice none 0 0) (.slice none 0 0) (.slice none 0 0) (.slice none 0 0)) 32 X) → Hid (Blk b3 (List.replicate s (Value.int .i64 0)).toArray 3 X) → Hid (Wd.heap.size ≤ b3) → GG 11 #[true, false, true, false, true, true, true, false, false, false, false, false, false, false, false, false] ac X := by
    intro ac b3 X ha GD hN hM3 hg3
    obtain ⟨u, rfl⟩ : ∃ u : Nat → Value, ac = ⟨#[nI i, nI s, nI f, undef, undef, undef, ptr rb 0, ptr nb 0, undef, (u 9), (u 10), (u 11), nI s, (u 13), nI s, (u 15), nI s, (.slice (some ⟨b3, 0, none⟩) s s), nI s, (u 19), (u 20), (u 21), (u 22), (u 23), (u 24), (u 25), (u 26), (u 27), (u 28), (u 29), (u 30), (u 31), (u 32), (u 33), (u 34), (u 35), (u 36), (u 37), (u 38), (u 39), (u 40)], []⟩ := ⟨fun i => ac.tmps.getD i undef, ha⟩
    clear ha
    refine unhide HIN _ _ _ _ ?_
    have hHeld : True := trivial
    refine wpAnyH_ready (rs := [1, 3, 7]) (by kernel_rfl) (by simp) ?_
    refine AllReadyH.cons rfl (fun K20078 hK20078 => ?_) ?_
    · go_simp
      have hb := below_new X (.cells (List.replicate s (Value.bool false)).toArray 4)
      have hM1 := hide (Blk.new X (List.replicate s (Value.bool false)).toArray 4)
      have hg1 : Hid (Wd.heap.size ≤ X.heap.size) := hide GD.size
      refine hK20078.out _ _ trivial (fun hH20078 => ?_)
      clear hHeld hH20078 hK20078 K20078
      have hHeld : True := trivial
      refine wpAnyH_take (i := 8) (oi := ?oi20079) (v := ?v20079) ?hi20079 (by kernel_rfl) (by kernel_rfl) (by kernel_rfl) (fun _ _ _ h => h) (Or.inl ⟨?hw20079, ?hy20079⟩) (by assumption) ?rest20079
      case hi20079 => (simp only [List.getElem?_toArray, List.getElem?_cons_zero, List.getElem?_cons_succ]; rfl)
      case hw20079 => rfl
      case hy20079 => first | (intro wx hSw; go_simp; done) | (intro wx hSw; go_simp; with_reducible rfl)
      simp only [Act.put, List.setIfInBounds_toArray, List.set_cons_zero, List.set_cons_succ]
      refine unhide HOUT _ _ _ _ ?_
      exact unhide C13_0 _ _ b3 _ (by kernel_rfl) (GD.trans (Keep.call _ hb)) (hide ((unhide hN).below hb)) hM1 hg1 (hide ((unhide hM3).below hb)) hg3 (hide (Ne.symm (Nat.ne_of_lt (unhide hM3).lt)))
    refine AllReadyH.cons rfl (fun K20080 hK20080 => ?_) ?_
    · go_simp
      have hb := below_new X (.cells (List.replicate s (Value.int .i64 0)).toArray 3)
      have hM2 := hide (Blk.new X (List.replicate s (Value.int .i64 0)).toArray 3)
      have hg2 : Hid (Wd.heap.size ≤ X.heap.size) := hide GD.size
      refine hK20080.out _ _ trivial (fun hH20080 => ?_)
      clear hHeld hH20080 hK20080 K20080
      have hHeld : True := trivial
      refine unhide HOUT _ _ _ _ ?_
      exact unhide C23_0 _ _ b3 _ (by kernel_rfl) (GD.trans (Keep.call _ hb)) (hide ((unhide hN).below hb)) hM2 hg2 (hide ((unhide hM3).below hb)) hg3 (hide (Ne.symm (Nat.ne_of_lt (unhide hM3).lt)))
    refine AllReadyH.cons rfl (fun K20081 hK20081 => ?_) AllReadyH.nil
    · go_simp
      have hb := below_new X (.cells (List.replicate s (Value.int .i64 0)).toArray 3)
      have hM4 := hide (Blk.new X (List.replicate s (Value.int .i64 0)).toArray 3)
      have hg4 : Hid (Wd.heap.size ≤ X.heap.size) := hide GD.size
      refine hK20081.out _ _ trivial (fun hH20081 => ?_)
      clear hHeld hH20081 hK20081 K20081
      have hHeld : True := trivial
      refine unhide HOUT _ _ _ _ ?_
      exact unhide C34_0 _ b3 _ _ (by kernel_rfl) (GD.trans (Keep.call _ hb)) (hide ((unhide hN).below hb)) (hide ((unhide hM3).below hb)) hg3 hM4 hg4 (hide (Nat.ne_of_lt (unhide hM3).lt))
  have C3_0 := hide C3_0
  have C4_0 : ∀ (ac : Act) (b4 : Nat) (X : World), ac = ⟨#[nI i, nI s, nI f, undef, undef, undef, ptr rb 0, ptr nb 0, undef, ac.tmps.getD 9 undef, ac.tmps.getD 10 undef, ac.tmps.getD 11 undef, nI s, ac.tmps.getD 13 undef, nI s, ac.tmps.getD 15 undef, nI s, ac.tmps.getD 17 undef, nI s, (.slice (some ⟨b4, 0, none⟩) s s), ac.tmps.getD 20 undef, ac.tmps.getD 21 undef, ac.tmps.getD 22 undef, ac.tmps.getD 23 undef, ac.tmps.getD 24 undef, ac.tmps.getD 25 undef, ac.tmps.getD 26 undef, ac.tmps.getD 27 undef, ac.tmps.getD 28 undef, ac.tmps.getD 29 undef, ac.tmps.getD 30 undef, ac.tmps.getD 31 undef, ac.tmps.getD 32 undef, ac.tmps.getD 33 undef, ac.tmps.getD 34 undef, ac.tmps.getD 35 undef, ac.tmps.getD 36 undef, ac.tmps.getD 37 undef, ac.tmps.getD 38 undef, ac.tmps.getD 39 undef, ac.tmps.getD 40 undef], []⟩ → Keep Wd X (fun j => j = nb) (fun j => j = nb ∨ Wd.heap.size ≤ j) → Hid (Blk nb (ndV i f (.slice none 0 0) (.slice none 0 0) (.slice none 0 0) (.slice none 0 0)) 32 X) → Hid (Blk b4 (List.replicate s (Value.int .i64 0)).toArray 3 X) → Hid (Wd.heap.size ≤ b4) → GG 11 #[true, false, true, false, true, false, true, true, false, false, false, false, false, false, false, false] ac X := by
    intro ac b4 X ha GD hN hM4 hg4
    obtain ⟨u, rfl⟩ : ∃ u : Nat → Value, ac = ⟨#[nI i, nI s, nI f, undef, undef, undef, ptr rb 0, ptr nb 0, undef, (u 9), (u 10), (u 11), nI s, (u 13), nI s, (u 15), nI s, (u 17), nI s, (.slice (some ⟨b4, 0, none⟩) s s), (u 20), (u 21), (u 22), (u 23), (u 24), (u 25), (u 26), (u 27), (u 28), (u 29), (u 30), (u 31), (u 32), (u 33), (u 34), (u 35), (u 36), (u 37), (u 38), (u 39), (u 40)], []⟩ := ⟨fun i => ac.tmps.getD i undef, ha⟩
    clear ha
    refine unhide HIN _ _ _ _ ?_
    have hHeld : True := trivial
    refine wpAnyH_ready (rs := [1, 3, 5]) (by kernel_rfl) (by simp) ?_
    refine AllReadyH.cons rfl (fun K20082 hK20082 => ?_) ?_
    · go_simp
      have hb := below_new X (.cells (List.replicate s (Value.bool false)).toArray 4)
      have hM1 := hide (Blk.new X (List.replicate s (Value.bool false)).toArray 4)
      have hg1 : Hid (Wd.heap.size ≤ X.heap.size) := hide GD.size
      refine hK20082.out _ _ trivial (fun hH20082 => ?_)
      clear hHeld hH20082 hK20082 K20082
      have hHeld : True := trivial
      refine wpAnyH_take (i := 8) (oi := ?oi20083) (v := ?v20083) ?hi20083 (by kernel_rfl) (by kernel_rfl) (by kernel_rfl) (fun _ _ _ h => h) (Or.inl ⟨?hw20083, ?hy20083⟩) (by assumption) ?rest20083
      case hi20083 => (simp only [List.getElem?_toArray, List.getElem?_cons_zero, List.getElem?_cons_succ]; rfl)
      case hw20083 => rfl
      case hy20083 => first | (intro wx hSw; go_simp; done) | (intro wx hSw; go_simp; with_reducible rfl)
      simp only [Act.put, List.setIfInBounds_toArray, List.set_cons_zero, List.set_cons_succ]
      refine unhide HOUT _ _ _ _ ?_
      exact unhide C14_0 _ _ b4 _ (by kernel_rfl) (GD.trans (Keep.call _ hb)) (hide ((unhide hN).below hb)) hM1 hg1 (hide ((unhide hM4).below hb)) hg4 (hide (Ne.symm (Nat.ne_of_lt (unhide hM4).lt)))
    refine AllReadyH.cons rfl (fun K20084 hK20084 => ?_) ?_
    · go_simp
      have hb := below_new X (.cells (List.replicate s (Value.int .i64 0)).toArray 3)
      have hM2 := hide (Blk.new X (List.replicate s (Value.int .i64 0)).toArray 3)
      have hg2 : Hid (Wd.heap.size ≤ X.heap.size) := hide GD.size
      refine hK20084.out _ _ trivial (fun hH20084 => ?_)
      clear hHeld hH20084 hK20084 K20084
      have hHeld : True := trivial
      refine unhide HOUT _ _ _ _ ?_
      exact unhide C24_0 _ _ b4 _ (by kernel_rfl) (GD.trans (Keep.call _ hb)) (hide ((unhide hN).below hb)) hM2 hg2 (hide ((unhide hM4).below hb)) hg4 (hide (Ne.symm (Nat.ne_of_lt (unhide hM4).lt)))
    refine AllReadyH.cons rfl (fun K20085 hK20085 => ?_) AllReadyH.nil
    · go_simp
      have hb := below_new X (.cells (List.replicate s (Value.int .i64 0)).toArray 3)
      have hM3 := hide (Blk.new X (List.replicate s (Value.int .i64 0)).toArray 3)
      have hg3 : Hid (Wd.heap.size ≤ X.heap.size) := hide GD.size
      refine hK20085.out _ _ trivial (fun hH20085 => ?_)
      clear hHeld hH20085 hK20085 K20085
      have hHeld : True := trivial
      refine unhide HOUT _ _ _ _ ?_
      exact unhide C34_0 _ _ b4 _ (by kernel_rfl) (GD.trans (Keep.call _ hb)) (hide ((unhide hN).below hb)) hM3 hg3 (hide ((unhide hM4).below hb)) hg4 (hide (Ne.symm (Nat.ne_of_lt (unhide hM4).lt)))
  have C4_0 := hide C4_0
  have C_0 : ∀ (ac : Act) (X : World), ac = ⟨#[nI i, nI s, nI f, undef, undef, undef, ptr rb 0, ptr nb 0, undef, ac.tmps.getD 9 undef, ac.tmps.getD 10 undef, ac.tmps.getD 11 undef, nI s, ac.tmps.getD 13 undef, nI s, ac.tmps.getD 15 undef, nI s, ac.tmps.getD 17 undef, nI s, ac.tmps.getD 19 undef, ac.tmps.getD 20 undef, ac.tmps.getD 21 undef, ac.tmps.getD 22 undef, ac.tmps.getD 23 undef, ac.tmps.getD 24 undef, ac.tmps.getD 25 undef, ac.tmps.getD 26 undef, ac.tmps.getD 27 undef, ac.tmps.getD 28 undef, ac.tmps.getD 29 undef, ac.tmps.getD 30 undef, ac.tmps.getD 31 undef, ac.tmps.getD 32 undef, ac.tmps.getD 33 undef, ac.tmps.getD 34 undef, ac.tmps.getD 35 undef, ac.tmps.getD 36 undef, ac.tmps.getD 37 undef, ac.tmps.getD 38 undef, ac.tmps.getD 39 undef, ac.tmps.getD 40 undef], []⟩ → Keep Wd X (fun j => j = nb) (fun j => j = nb ∨ Wd.heap.size ≤ j) → Hid (Blk nb (ndV i f (.slice none 0 0) (.slice none 0 0) (.slice none 0 0) (.slice none 0 0)) 32 X) → GG 12 #[true, false, true, false, true, false, true, false, false, false, false, false, false, false, false, false] ac X := by
    intro ac X ha GD hN
    obtain ⟨u, rfl⟩ : ∃ u : Nat → Value, ac = ⟨#[nI i, nI s, nI f, undef, undef, undef, ptr rb 0, ptr nb 0, undef, (u 9), (u 10), (u 11), nI s, (u 13), nI s, (u 15), nI s, (u 17), nI s, (u 19), (u 20), (u 21), (u 22), (u 23), (u 24), (u 25), (u 26), (u 27), (u 28), (u 29), (u 30), (u 31), (u 32), (u 33), (u 34), (u 35), (u 36), (u 37), (u 38), (u 39), (u 40)], []⟩ := ⟨fun i => ac.tmps.getD i undef, ha⟩
    clear ha
    refine unhide HIN _ _ _ _ ?_
    have hHeld : True := trivial
    refine wpAnyH_ready (rs := [1, 3, 5, 7]) (by kernel_rfl) (by simp) ?_
    refine AllReadyH.cons rfl (fun K20086 hK20086 => ?_) ?_
    · go_simp
      have hb := below_new X (.cells (List.replicate s (Value.bool false)).toArray 4)
      have hM1 := hide (Blk.new X (List.replicate s (Value.bool false)).toArray 4)
      have hg1 : Hid (Wd.heap.size ≤ X.heap.size) := hide GD.size
      refine hK20086.out _ _ trivial (fun hH20086 => ?_)
      clear hHeld hH20086 hK20086 K20086
      have hHeld : True := trivial
      refine wpAnyH_take (i := 8) (oi := ?oi20087) (v := ?v20087) ?hi20087 (by kernel_rfl) (by kernel_rfl) (by kernel_rfl) (fun _ _ _ h => h) (Or.inl ⟨?hw20087, ?hy20087⟩) (by assumption) ?rest20087
      case hi20087 => (simp only [List.getElem?_toArray, List.getElem?_cons_zero, List.getElem?_cons_succ]; rfl)
      case hw20087 => rfl
      case hy20087 => first | (intro wx hSw; go_simp; done) | (intro wx hSw; go_simp; with_reducible rfl)
      simp only [Act.put, List.setIfInBounds_toArray, List.set_cons_zero, List.set_cons_succ]
      refine unhide HOUT _ _ _ _ ?_
      exact unhide C1_0 _ _ _ (by kernel_rfl) (GD.trans (Keep.call _ hb)) (hide ((unhide hN).below hb)) hM1 hg1
    refine AllReadyH.cons rfl (fun K20088 hK20088 => ?_) ?_
    · go_simp
      have hb := below_new X (.cells (List.replicate s (Value.int .i64 0)).toArray 3)
      have hM2 := hide (Blk.new X (List.replicate s (Value.int .i64 0)).toArray 3)
      have hg2 : Hid (Wd.heap.size ≤ X.heap.size) := hide GD.size
      refine hK20088.out _ _ trivial (fun hH20088 => ?_)
      clear hHeld hH20088 hK20088 K20088
      have hHeld : True := trivial
      refine unhide HOUT _ _ _ _ ?_
      exact unhide C2_0 _ _ _ (by kernel_rfl) (GD.trans (Keep.call _ hb)) (hide ((unhide hN).below hb)) hM2 hg2
    refine AllReadyH.cons rfl (fun K20089 hK20089 => ?_) ?_
    · go_simp
      have hb := below_new X (.cells (List.replicate s (Value.int .i64 0)).toArray 3)
      have hM3 := hide (Blk.new X (List.replicate s (Value.int .i64 0)).toArray 3)
      have hg3 : Hid (Wd.heap.size ≤ X.heap.size) := hide GD.size
      refine hK20089.out _ _ trivial (fun hH20089 => ?_)
      clear hHeld hH20089 hK20089 K20089
      have hHeld : True := trivial
      refine unhide HOUT _ _ _ _ ?_
      exact unhide C3_0 _ _ _ (by kernel_rfl) (GD.trans (Keep.call _ hb)) (hide ((unhide hN).below hb)) hM3 hg3
    refine AllReadyH.cons rfl (fun K20090 hK20090 => ?_) AllReadyH.nil
    · go_simp
      have hb := below_new X (.cells (List.replicate s (Value.int .i64 0)).toArray 3)
      have hM4 := hide (Blk.new X (List.replicate s (Value.int .i64 0)).toArray 3)
      have hg4 : Hid (Wd.heap.size ≤ X.heap.size) := hide GD.size
      refine hK20090.out _ _ trivial (fun hH20090 => ?_)
      clear hHeld hH20090 hK20090 K20090
      have hHeld : True := trivial
      refine unhide HOUT _ _ _ _ ?_
      exact unhide C4_0 _ _ _ (by kernel_rfl) (GD.trans (Keep.call _ hb)) (hide ((unhide hN).below hb)) hM4 hg4
  have C_0 := hide C_0
  exact unhide C_0 _ _ (by kernel_rfl) KD hN
set_option maxRecDepth 100000 in
theorem rnew_lists' {r0 r1 r2 R0 : Code} (hc : Try.f23.body = some (.seq r0 (.seq r1 (.seq r2 R0)))) (Q : Exit → Act → World → Prop) (i s f nb rb : Nat) (Wd : World) (a : Act) (ha : a = ⟨#[nI i, nI s, nI f, undef, undef, undef, ptr rb 0, ptr nb 0, undef, a.tmps.getD 9 undef, a.tmps.getD 10 undef, a.tmps.getD 11 undef, a.tmps.getD 12 undef, a.tmps.getD 13 undef, a.tmps.getD 14 undef, a.tmps.getD 15 undef, a.tmps.getD 16 undef, a.tmps.getD 17 undef, a.tmps.getD 18 undef, a.tmps.getD 19 undef, a.tmps.getD 20 undef, a.tmps.getD 21 undef, a.tmps.getD 22 undef, a.tmps.getD 23 undef, a.tmps.getD 24 undef, a.tmps.getD 25 undef, a.tmps.getD 26 undef, a.tmps.getD 27 undef, a.tmps.getD 28 undef, a.tmps.getD 29 undef, a.tmps.getD 30 undef, a.tmps.getD 31 undef, a.tmps.getD 32 undef, a.tmps.getD 33 undef, a.tmps.getD 34 undef, a.tmps.getD 35 undef, a.tmps.getD 36 undef, a.tmps.getD 37 undef, a.tmps.getD 38 undef, a.tmps.getD 39 undef, a.tmps.getD 40 undef], []⟩) (hs : s ≤ 5) (hN : Blk nb (ndV i f (.slice none 0 0) (.slice none 0 0) (.slice none 0 0) (.slice none 0 0)) 32 Wd)
    (REST : ∀ (ac : Act) (b1 b2 b3 b4 : Nat) (X : World), ac = ⟨#[nI i, nI s, nI f, undef, undef, undef, ptr rb 0, ptr nb 0, undef, ac.tmps.getD 9 undef, ac.tmps.getD 10 undef, ac.tmps.getD 11 undef, nI s, (.slice (some ⟨b1, 0, none⟩) s s), nI s, (.slice (some ⟨b2, 0, none⟩) s s), nI s, (.slice (some ⟨b3, 0, none⟩) s s), nI s, (.slice (some ⟨b4, 0, none⟩) s s), ptr nb 7, ptr nb 8, ptr nb 9, ptr nb 10, ac.tmps.getD 24 undef, ac.tmps.getD 25 undef, ac.tmps.getD 26 undef, ac.tmps.getD 27 undef, ac.tmps.getD 28 undef, ac.tmps.getD 29 undef, ac.tmps.getD 30 undef, ac.tmps.getD 31 undef, ac.tmps.getD 32 undef, ac.tmps.getD 33 undef, ac.tmps.getD 34 undef, ac.tmps.getD 35 undef, ac.tmps.getD 36 undef, ac.tmps.getD 37 undef, ac.tmps.getD 38 undef, ac.tmps.getD 39 undef, ac.tmps.getD 40 undef], []⟩ → Keep Wd X (fun j => j = nb) (fun j => j = nb ∨ Wd.heap.size ≤ j) → Hid (Blk nb (ndV i f (.slice (some ⟨b1, 0, none⟩) s s) (.slice (some ⟨b2, 0, none⟩) s s) (.slice (some ⟨b3, 0, none⟩) s s) (.slice (some ⟨b4, 0, none⟩) s s)) 32 X) → Hid (Blk b1 (List.replicate s (Value.bool false)).toArray 4 X) → Hid (Wd.heap.size ≤ b1) → Hid (Blk b2 (List.replicate s (Value.int .i64 0)).toArray 3 X) → Hid (Wd.heap.size ≤ b2) → Hid (Blk b3 (List.replicate s (Value.int .i64 0)).toArray 3 X) → Hid (Wd.heap.size ≤ b3) → Hid (Blk b4 (List.replicate s (Value.int .i64 0)).toArray 3 X) → Hid (Wd.heap.size ≤ b4) → Hid (b1 ≠ b2) → Hid (b1 ≠ b3) → Hid (b1 ≠ b4) → Hid (b2 ≠ b3) → Hid (b2 ≠ b4) → Hid (b3 ≠ b4) → Q .normal ac X) : r2.wp Try.prog Q a Wd := by
  rw [ha]
  exact rnew_lists hc Q i s f nb rb Wd (fun i => a.tmps.getD i undef) hs hN REST
end Go.Proofs.Ytbojfiflemmgaaa
