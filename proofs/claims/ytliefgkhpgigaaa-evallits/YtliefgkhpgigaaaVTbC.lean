/-
  federationlaw3's Table: what is unique.
-/
import Derived.Test.YtliefgkhpgigaaaVTbB
namespace Go.Proofs.Ytliefgkhpgigaaa
open Go.RowKit Go.Shelf
set_option linter.unusedSimpArgs false
set_option linter.unusedVariables false

set_option maxHeartbeats 16000000 in
set_option maxRecDepth 100000 in
set_option maxHeartbeats 16000000 in
set_option maxRecDepth 100000 in
theorem tbU {r0 r1 r2 r3 r4 r5 r6 rest : Code} (hc : Try.f14.body = some (.seq r0 (.seq r1 (.seq r2 (.seq r3 (.seq r4 (.seq r5 (.seq r6 (rest))))))))) (w : World) (b6 bt : Nat) (h6t : b6 ≠ bt) (hw6 : w.heap.size ≤ b6) (hwt : w.heap.size ≤ bt) (n : Int) (p : Option Addr) (np : Nat) (zs : List Int) (k : Nat) (hk4 : k ≤ 4) (hk1 : 1 ≤ k) (s0 : ByteArray) (g cap : Nat) (hgt : g ≠ bt) (hg6 : g ≠ b6) (hwg : w.heap.size ≤ g) (l : List C3) (n1 : Nat) (hb1 : b6 < n1) (ht1 : bt < n1) (hg1 : g < n1) (j : Nat) (hjk : j < k) (hn : Is64 n) (q : Int) (hq : 0 ≤ q ∧ q < 3) (CW : Hid (∀ W, Calls Try.prog 34 #[.int .i64 (n.tdiv 64), .int .i64 3] W fun e W' => e = .returned (.int .i64 q) ∧ W' = W)) (K : Act → World → Prop) (Q : Exit → Act → World → Prop) (REST : Hid (∀ (ac : Act) (fv : Value) (X : World), ac = ⟨#[.int .i64 n, .slice p zs.length np, ac.tmps.getD 2 undef, ac.tmps.getD 3 undef, ac.tmps.getD 4 undef, ac.tmps.getD 5 undef, .pointer (some ⟨b6, 0, none⟩), .pointer (some ⟨bt, 0, none⟩), .int .i64 (k : Int), ac.tmps.getD 9 undef, ac.tmps.getD 10 undef, ac.tmps.getD 11 undef, ac.tmps.getD 12 undef, ac.tmps.getD 13 undef, ac.tmps.getD 14 undef, ac.tmps.getD 15 undef, ac.tmps.getD 16 undef, ac.tmps.getD 17 undef, ac.tmps.getD 18 undef, ac.tmps.getD 19 undef, ac.tmps.getD 20 undef, ac.tmps.getD 21 undef, ac.tmps.getD 22 undef, ac.tmps.getD 23 undef, ac.tmps.getD 24 undef, ac.tmps.getD 25 undef, ac.tmps.getD 26 undef, ac.tmps.getD 27 undef, ac.tmps.getD 28 undef, ac.tmps.getD 29 undef, ac.tmps.getD 30 undef, ac.tmps.getD 31 undef, ac.tmps.getD 32 undef, ac.tmps.getD 33 undef, ac.tmps.getD 34 undef, ac.tmps.getD 35 undef, ac.tmps.getD 36 undef, ac.tmps.getD 37 undef, ac.tmps.getD 38 undef, ac.tmps.getD 39 undef, ac.tmps.getD 40 undef, ac.tmps.getD 41 undef, ac.tmps.getD 42 undef, ac.tmps.getD 43 undef, ac.tmps.getD 44 undef, ac.tmps.getD 45 undef, ac.tmps.getD 46 undef, ac.tmps.getD 47 undef, ac.tmps.getD 48 undef, ac.tmps.getD 49 undef, ac.tmps.getD 50 undef, ac.tmps.getD 51 undef, ac.tmps.getD 52 undef, ac.tmps.getD 53 undef, ac.tmps.getD 54 undef, ac.tmps.getD 55 undef, ac.tmps.getD 56 undef, ac.tmps.getD 57 undef, ac.tmps.getD 58 undef, ac.tmps.getD 59 undef, ac.tmps.getD 60 undef, ac.tmps.getD 61 undef, ac.tmps.getD 62 undef, ac.tmps.getD 63 undef, ac.tmps.getD 64 undef, ac.tmps.getD 65 undef, ac.tmps.getD 66 undef, ac.tmps.getD 67 undef, ac.tmps.getD 68 undef, ac.tmps.getD 69 undef, ac.tmps.getD 70 undef, ac.tmps.getD 71 undef, ac.tmps.getD 72 undef, ac.tmps.getD 73 undef, ac.tmps.getD 74 undef, ac.tmps.getD 75 undef, ac.tmps.getD 76 undef, ac.tmps.getD 77 undef, ac.tmps.getD 78 undef, ac.tmps.getD 79 undef, ac.tmps.getD 80 undef, ac.tmps.getD 81 undef, ac.tmps.getD 82 undef, ac.tmps.getD 83 undef, ac.tmps.getD 84 undef, ac.tmps.getD 85 undef, ac.tmps.getD 86 undef, ac.tmps.getD 87 undef, ac.tmps.getD 88 undef, ac.tmps.getD 89 undef, ac.tmps.getD 90 undef, ac.tmps.getD 91 undef, ac.tmps.getD 92 undef, ac.tmps.getD 93 undef, ac.tmps.getD 94 undef, ac.tmps.getD 95 undef, ac.tmps.getD 96 undef, ac.tmps.getD 97 undef, ac.tmps.getD 98 undef, ac.tmps.getD 99 undef, ac.tmps.getD 100 undef, ac.tmps.getD 101 undef, ac.tmps.getD 102 undef, ac.tmps.getD 103 undef, ac.tmps.getD 104 undef, ac.tmps.getD 105 undef, ac.tmps.getD 106 undef, ac.tmps.getD 107 undef, ac.tmps.getD 108 undef, ac.tmps.getD 109 undef, ac.tmps.getD 110 undef, ac.tmps.getD 111 undef, ac.tmps.getD 112 undef, ac.tmps.getD 113 undef, ac.tmps.getD 114 undef], []⟩ → Hid (Grown w X) → Hid (Blk b6 (tbl ⟨#[]⟩ (.slice none 0 0) (.int .i64 0) (.slice none 0 0) (.slice none 0 0)) 34 X) → Hid (ColB g l X) → Hid (Blk bt (tbl s0 (.slice (some ⟨g, 0, none⟩) k cap) (.int .i64 (j : Int)) (fv) (.slice none 0 0)) 34 X) → Hid (IsSl fv X) → K ac X)) (ac : Act) (X : World) (ha : ac = ⟨#[.int .i64 n, .slice p zs.length np, ac.tmps.getD 2 undef, ac.tmps.getD 3 undef, ac.tmps.getD 4 undef, ac.tmps.getD 5 undef, .pointer (some ⟨b6, 0, none⟩), .pointer (some ⟨bt, 0, none⟩), .int .i64 (k : Int), ac.tmps.getD 9 undef, ac.tmps.getD 10 undef, ac.tmps.getD 11 undef, ac.tmps.getD 12 undef, ac.tmps.getD 13 undef, ac.tmps.getD 14 undef, ac.tmps.getD 15 undef, ac.tmps.getD 16 undef, ac.tmps.getD 17 undef, ac.tmps.getD 18 undef, ac.tmps.getD 19 undef, ac.tmps.getD 20 undef, ac.tmps.getD 21 undef, ac.tmps.getD 22 undef, ac.tmps.getD 23 undef, ac.tmps.getD 24 undef, ac.tmps.getD 25 undef, ac.tmps.getD 26 undef, ac.tmps.getD 27 undef, ac.tmps.getD 28 undef, ac.tmps.getD 29 undef, ac.tmps.getD 30 undef, ac.tmps.getD 31 undef, ac.tmps.getD 32 undef, ac.tmps.getD 33 undef, ac.tmps.getD 34 undef, ac.tmps.getD 35 undef, ac.tmps.getD 36 undef, ac.tmps.getD 37 undef, ac.tmps.getD 38 undef, ac.tmps.getD 39 undef, ac.tmps.getD 40 undef, ac.tmps.getD 41 undef, ac.tmps.getD 42 undef, ac.tmps.getD 43 undef, ac.tmps.getD 44 undef, ac.tmps.getD 45 undef, ac.tmps.getD 46 undef, ac.tmps.getD 47 undef, ac.tmps.getD 48 undef, ac.tmps.getD 49 undef, ac.tmps.getD 50 undef, ac.tmps.getD 51 undef, ac.tmps.getD 52 undef, ac.tmps.getD 53 undef, ac.tmps.getD 54 undef, ac.tmps.getD 55 undef, ac.tmps.getD 56 undef, ac.tmps.getD 57 undef, ac.tmps.getD 58 undef, ac.tmps.getD 59 undef, ac.tmps.getD 60 undef, ac.tmps.getD 61 undef, ac.tmps.getD 62 undef, ac.tmps.getD 63 undef, ac.tmps.getD 64 undef, ac.tmps.getD 65 undef, ac.tmps.getD 66 undef, ac.tmps.getD 67 undef, ac.tmps.getD 68 undef, ac.tmps.getD 69 undef, ac.tmps.getD 70 undef, ac.tmps.getD 71 undef, ac.tmps.getD 72 undef, ac.tmps.getD 73 undef, ac.tmps.getD 74 undef, ac.tmps.getD 75 undef, ac.tmps.getD 76 undef, ac.tmps.getD 77 undef, ac.tmps.getD 78 undef, ac.tmps.getD 79 undef, ac.tmps.getD 80 undef, ac.tmps.getD 81 undef, ac.tmps.getD 82 undef, ac.tmps.getD 83 undef, ac.tmps.getD 84 undef, ac.tmps.getD 85 undef, ac.tmps.getD 86 undef, ac.tmps.getD 87 undef, ac.tmps.getD 88 undef, ac.tmps.getD 89 undef, ac.tmps.getD 90 undef, ac.tmps.getD 91 undef, ac.tmps.getD 92 undef, ac.tmps.getD 93 undef, ac.tmps.getD 94 undef, ac.tmps.getD 95 undef, ac.tmps.getD 96 undef, ac.tmps.getD 97 undef, ac.tmps.getD 98 undef, ac.tmps.getD 99 undef, ac.tmps.getD 100 undef, ac.tmps.getD 101 undef, ac.tmps.getD 102 undef, ac.tmps.getD 103 undef, ac.tmps.getD 104 undef, ac.tmps.getD 105 undef, ac.tmps.getD 106 undef, ac.tmps.getD 107 undef, ac.tmps.getD 108 undef, ac.tmps.getD 109 undef, ac.tmps.getD 110 undef, ac.tmps.getD 111 undef, ac.tmps.getD 112 undef, ac.tmps.getD 113 undef, ac.tmps.getD 114 undef], []⟩) (G : Hid (Grown w X)) (hZ : Hid (Blk b6 (tbl ⟨#[]⟩ (.slice none 0 0) (.int .i64 0) (.slice none 0 0) (.slice none 0 0)) 34 X)) (hB : Hid (ColB g l X)) (hT : Hid (Blk bt (tbl s0 (.slice (some ⟨g, 0, none⟩) k cap) (.int .i64 (j : Int)) (.slice none 0 0) (.slice none 0 0)) 34 X)) (hn1 : LeN n1 X) : r6.wp Try.prog (Exit.then K Q) ac X := by
  obtain ⟨i0, hi, hz0, hz1, hz2⟩ := infoParts info_int
  obtain ⟨o, rfl⟩ : ∃ o : Nat → Value, ac = ⟨#[.int .i64 n, .slice p zs.length np, o 2, o 3, o 4, o 5, .pointer (some ⟨b6, 0, none⟩), .pointer (some ⟨bt, 0, none⟩), .int .i64 (k : Int), o 9, o 10, o 11, o 12, o 13, o 14, o 15, o 16, o 17, o 18, o 19, o 20, o 21, o 22, o 23, o 24, o 25, o 26, o 27, o 28, o 29, o 30, o 31, o 32, o 33, o 34, o 35, o 36, o 37, o 38, o 39, o 40, o 41, o 42, o 43, o 44, o 45, o 46, o 47, o 48, o 49, o 50, o 51, o 52, o 53, o 54, o 55, o 56, o 57, o 58, o 59, o 60, o 61, o 62, o 63, o 64, o 65, o 66, o 67, o 68, o 69, o 70, o 71, o 72, o 73, o 74, o 75, o 76, o 77, o 78, o 79, o 80, o 81, o 82, o 83, o 84, o 85, o 86, o 87, o 88, o 89, o 90, o 91, o 92, o 93, o 94, o 95, o 96, o 97, o 98, o 99, o 100, o 101, o 102, o 103, o 104, o 105, o 106, o 107, o 108, o 109, o 110, o 111, o 112, o 113, o 114], []⟩ := ⟨fun i => ac.tmps.getD i undef, ha⟩
  clear ha
  unfold Try.f14 at hc
  cases hc
  have e64 : IntKind.i64.wrap (n.tdiv 64) = n.tdiv 64 := IntWalk.i64_in _ (by have := tdiv_bd hn 64 (by decide); unfold Is64 at this; omega)
  have hk0 : ¬ (k : Int) = 0 := by omega
  have hk0b : ((k : Int) == 0) = false := by simp; omega
  have hk0c : ¬ k = 0 := by omega
  go_wp2_with fail
  go_loopw [11] (fun i wr => Hid (∃ (m : Nat) (fv : Value) (us : List Value), m ≤ 3 ∧ i = .int .i64 (m : Int) ∧ Hid (Grown w wr) ∧ Hid (Blk b6 (tbl ⟨#[]⟩ (.slice none 0 0) (.int .i64 0) (.slice none 0 0) (.slice none 0 0)) 34 wr) ∧ Hid (ColB g l wr) ∧ Hid (Blk bt (tbl s0 (.slice (some ⟨g, 0, none⟩) k cap) (.int .i64 (j : Int)) (fv) (.slice none 0 0)) 34 wr) ∧ Hid (OwI n1 fv m us 3 1 wr) ∧ LeN n1 wr)) (fun i _ => 3 - (intOf i).toNat)
  case atStart => exact hide ⟨0, _, [], by decide, rfl, G, hZ, hB, hT, hide (World.ownsRow_nil _ _ _ _), hn1⟩
  case round =>
    clear G hZ hB hT hn1
    obtain ⟨m, fv, us, hm3, rfl, G, hZ, hB, hT, hU, hn1⟩ := unhide hrel
    have e9 : IntKind.i64.wrap ((m : Int) + 1) = (m : Int) + 1 := IntWalk.i64_in _ (by omega)
    by_cases h1 : (m : Int) < q
    · by_cases h2 : (m : Int) < k
      · go_wp2_with fail
        refine (unhide CW _).mono ?_
        rintro e wq ⟨rfl, rfl⟩
        go_wp2_with fail
        rename_i K10 hk10
        have REST10 : ∀ (ac : Act) (fv : Value) (us : List Value) (X : World), ac = ⟨#[.int .i64 n, .slice p zs.length np, o 2, o 3, o 4, o 5, .pointer (some ⟨b6, 0, none⟩), .pointer (some ⟨bt, 0, none⟩), .int .i64 (k : Int), o 9, o 10, .int .i64 (m : Int), o 12, o 13, o 14, o 15, o 16, o 17, o 18, o 19, o 20, o 21, o 22, o 23, o 24, o 25, o 26, o 27, o 28, o 29, o 30, o 31, o 32, o 33, o 34, o 35, o 36, o 37, o 38, o 39, o 40, o 41, o 42, o 43, o 44, o 45, o 46, o 47, o 48, o 49, o 50, o 51, o 52, o 53, o 54, o 55, o 56, o 57, o 58, o 59, o 60, o 61, o 62, o 63, o 64, o 65, ac.tmps.getD 66 undef, ac.tmps.getD 67 undef, ac.tmps.getD 68 undef, ac.tmps.getD 69 undef, ac.tmps.getD 70 undef, ac.tmps.getD 71 undef, ac.tmps.getD 72 undef, ac.tmps.getD 73 undef, ac.tmps.getD 74 undef, ac.tmps.getD 75 undef, ac.tmps.getD 76 undef, ac.tmps.getD 77 undef, ac.tmps.getD 78 undef, ac.tmps.getD 79 undef, ac.tmps.getD 80 undef, ac.tmps.getD 81 undef, ac.tmps.getD 82 undef, ac.tmps.getD 83 undef, ac.tmps.getD 84 undef, ac.tmps.getD 85 undef, ac.tmps.getD 86 undef, ac.tmps.getD 87 undef, ac.tmps.getD 88 undef, ac.tmps.getD 89 undef, o 90, o 91, o 92, o 93, o 94, o 95, o 96, o 97, o 98, o 99, o 100, o 101, o 102, o 103, o 104, o 105, o 106, o 107, o 108, o 109, o 110, o 111, o 112, o 113, o 114], []⟩ → Hid (Grown w X) → Hid (Blk b6 (tbl ⟨#[]⟩ (.slice none 0 0) (.int .i64 0) (.slice none 0 0) (.slice none 0 0)) 34 X) → Hid (ColB g l X) → Hid (Blk bt (tbl s0 (.slice (some ⟨g, 0, none⟩) k cap) (.int .i64 (j : Int)) (fv) (.slice none 0 0)) 34 X) → Hid (OwI n1 fv (m + 1) us 3 1 X) → LeN n1 X → K10 ac X := by
          clear G hZ hB hT hU hn1
          intro ac fv us X ha G hZ hB hT hU hn1
          obtain ⟨u, rfl⟩ : ∃ u : Nat → Value, ac = ⟨#[.int .i64 n, .slice p zs.length np, o 2, o 3, o 4, o 5, .pointer (some ⟨b6, 0, none⟩), .pointer (some ⟨bt, 0, none⟩), .int .i64 (k : Int), o 9, o 10, .int .i64 (m : Int), o 12, o 13, o 14, o 15, o 16, o 17, o 18, o 19, o 20, o 21, o 22, o 23, o 24, o 25, o 26, o 27, o 28, o 29, o 30, o 31, o 32, o 33, o 34, o 35, o 36, o 37, o 38, o 39, o 40, o 41, o 42, o 43, o 44, o 45, o 46, o 47, o 48, o 49, o 50, o 51, o 52, o 53, o 54, o 55, o 56, o 57, o 58, o 59, o 60, o 61, o 62, o 63, o 64, o 65, u 66, u 67, u 68, u 69, u 70, u 71, u 72, u 73, u 74, u 75, u 76, u 77, u 78, u 79, u 80, u 81, u 82, u 83, u 84, u 85, u 86, u 87, u 88, u 89, o 90, o 91, o 92, o 93, o 94, o 95, o 96, o 97, o 98, o 99, o 100, o 101, o 102, o 103, o 104, o 105, o 106, o 107, o 108, o 109, o 110, o 111, o 112, o 113, o 114], []⟩ := ⟨fun i => ac.tmps.getD i undef, ha⟩
          clear ha
          refine hk10 _ _ ?_
          clear hk10
          go_wp2_with fail
          go_roundw
          case rel => exact hide ⟨m + 1, fv, us, by omega, by simp, G, hZ, hB, hT, hU, hn1⟩
          case measure => simp [intOf]; omega
        have REST10 := hide REST10
        clear hk10
        refine wp_region_noPanic ?_
        refine wp_region_held_drew (S := (fun _ => True)) (by kernel_rfl) (trivial) (fun hHeld => ?_)
        have hbd : Below wq.heap.size wq wq.drew := (Below.refl _ _).drew
        replace G := hide ((unhide G).call hbd)
        replace hZ := hide ((unhide hZ).call hbd)
        replace hB := hide ((unhide hB).call hbd)
        replace hT := hide ((unhide hT).call hbd)
        replace hU := hide ((unhide hU).call hbd)
        replace hn1 := hn1.call hbd
        clear hbd
        generalize wq.drew = Wd at *
        refine wpAnyH_take (i := 0) (oi := ?oi20001) (v := ?v20001) ?hi20001 (by kernel_rfl) (by kernel_rfl) (by kernel_rfl) (fun _ _ _ h => h) (Or.inl ⟨?hw20001, ?hy20001⟩) (by assumption) ?rest20001
        case hi20001 => (simp only [List.getElem?_toArray, List.getElem?_cons_zero]; rfl)
        case hw20001 => rfl
        case hy20001 => first | (intro wx hSw; go_simp; done) | (intro wx hSw; go_simp; with_reducible rfl)
        simp only [Act.put, List.setIfInBounds_toArray, List.set_cons_zero, List.set_cons_succ]
        refine wpAnyH_take (i := 2) (oi := ?oi20002) (v := ?v20002) ?hi20002 (by kernel_rfl) (by kernel_rfl) (by kernel_rfl) (fun _ _ _ h => h) (Or.inl ⟨?hw20002, ?hy20002⟩) (by assumption) ?rest20002
        case hi20002 => (simp only [List.getElem?_toArray, List.getElem?_cons_zero, List.getElem?_cons_succ]; rfl)
        case hw20002 => rfl
        case hy20002 => first | (intro wx hSw; go_simp; done) | (intro wx hSw; go_simp; with_reducible rfl)
        simp only [Act.put, List.setIfInBounds_toArray, List.set_cons_zero, List.set_cons_succ]
        refine wpAnyH_take (i := 5) (oi := ?oi20003) (v := ?v20003) ?hi20003 (by kernel_rfl) (by kernel_rfl) (by kernel_rfl) (fun _ _ _ h => h) (Or.inl ⟨?hw20003, ?hy20003⟩) (by assumption) ?rest20003
        case hi20003 => (simp only [List.getElem?_toArray, List.getElem?_cons_zero, List.getElem?_cons_succ]; rfl)
        case hw20003 => rfl
        case hy20003 => first | (intro wx hSw; go_simp; done) | (intro wx hSw; go_simp; with_reducible rfl)
        simp only [Act.put, List.setIfInBounds_toArray, List.set_cons_zero, List.set_cons_succ]
        refine wpAnyH_take (i := 7) (oi := ?oi20004) (v := ?v20004) ?hi20004 (by kernel_rfl) (by kernel_rfl) (by kernel_rfl) (fun _ _ _ h => h) (Or.inl ⟨?hw20004, ?hy20004⟩) (by assumption) ?rest20004
        case hi20004 => (simp only [List.getElem?_toArray, List.getElem?_cons_zero, List.getElem?_cons_succ]; rfl)
        case hw20004 => rfl
        case hy20004 => first | (intro wx hSw; go_simp; done) | (intro wx hSw; go_simp; with_reducible rfl)
        simp only [Act.put, List.setIfInBounds_toArray, List.set_cons_zero, List.set_cons_succ]
        have lt_ := (unhide hT).lt
        have t1 := (unhide hT).cell 3
        have t2 := (unhide hT).cell 2
        simp at t1 t2
        refine wpAnyH_ready (rs := [1, 3]) (by kernel_rfl) (by simp) ?_
        refine AllReadyH.cons rfl (fun K20005 hK20005 => ?_) ?_
        · go_simp
          refine hK20005.out _ _ ?hs20005 (fun hHeld20005 => ?_)
          case hs20005 => exact trivial
          clear hHeld
          have hHeld := hHeld20005; clear hHeld20005 hK20005 K20005
          refine wpAnyH_ready (rs := [3]) (by kernel_rfl) (by simp) ?_
          refine AllReadyH.cons rfl (fun K20006 hK20006 => ?_) AllReadyH.nil
          go_simp
          refine hK20006.out _ _ ?hs20006 (fun hHeld20006 => ?_)
          case hs20006 => exact trivial
          clear hHeld
          have hHeld := hHeld20006; clear hHeld20006 hK20006 K20006
          refine wpAnyH_take (i := 4) (oi := ?oi20007) (v := ?v20007) ?hi20007 (by kernel_rfl) (by kernel_rfl) (by kernel_rfl) (fun _ _ _ h => h) (Or.inl ⟨?hw20007, ?hy20007⟩) (by assumption) ?rest20007
          case hi20007 => (simp only [List.getElem?_toArray, List.getElem?_cons_zero, List.getElem?_cons_succ]; rfl)
          case hw20007 => rfl
          case hy20007 => first | (intro wx hSw; go_simp; done) | (intro wx hSw; go_simp; with_reducible rfl)
          simp only [Act.put, List.setIfInBounds_toArray, List.set_cons_zero, List.set_cons_succ]
          refine wpAnyH_take (i := 6) (oi := ?oi20008) (v := ?v20008) ?hi20008 (by kernel_rfl) (by kernel_rfl) (by kernel_rfl) (fun _ _ _ h => h) (Or.inl ⟨?hw20008, ?hy20008⟩) (by assumption) ?rest20008
          case hi20008 => (simp only [List.getElem?_toArray, List.getElem?_cons_zero, List.getElem?_cons_succ]; rfl)
          case hw20008 => rfl
          case hy20008 => first | (intro wx hSw; go_simp; done) | (intro wx hSw; go_simp; with_reducible rfl)
          simp only [Act.put, List.setIfInBounds_toArray, List.set_cons_zero, List.set_cons_succ]
          refine wpAnyH_take (i := 8) (oi := ?oi20009) (v := ?v20009) ?hi20009 (by kernel_rfl) (by kernel_rfl) (by kernel_rfl) (fun _ _ _ h => h) (Or.inl ⟨?hw20009, ?hy20009⟩) (by assumption) ?rest20009
          case hi20009 => (simp only [List.getElem?_toArray, List.getElem?_cons_zero, List.getElem?_cons_succ]; rfl)
          case hw20009 => rfl
          case hy20009 => first | (intro wx hSw; have hk0_ := hk0; have hk0b_ := hk0b; have hk0c_ := hk0c; go_simp; done) | (intro wx hSw; have hk0_ := hk0; have hk0b_ := hk0b; have hk0c_ := hk0c; go_simp; with_reducible rfl)
          simp only [Act.put, List.setIfInBounds_toArray, List.set_cons_zero, List.set_cons_succ]
          generalize (IntKind.i64.wrap (IntKind.i64.wrap ((j : Int) + 1) + (m : Int))).tmod (k : Int) = vv at *
          refine wpAnyH_ready (rs := [9]) (by kernel_rfl) (by simp) ?_
          refine AllReadyH.cons rfl (fun K20010 hK20010 => ?_) AllReadyH.nil
          go_simp
          have hb := below_new Wd (.cells #[.int .i64 vv] 3)
          have hs3 := cells_one_at Wd _ rfl (.int .i64 vv) 3
          refine hK20010.out _ _ ?hs20010 (fun hHeld20010 => ?_)
          case hs20010 => exact trivial
          clear hHeld
          have hHeld := hHeld20010; clear hHeld20010 hK20010 K20010
          replace G := hide ((unhide G).call hb)
          replace hZ := hide ((unhide hZ).call hb)
          replace hB := hide ((unhide hB).call hb)
          replace hT := hide ((unhide hT).call hb)
          replace hU := hide ((unhide hU).call hb)
          replace hn1 := hn1.call hb
          clear lt_ t1 t2
          generalize hgs : Wd.heap.size = gs at *
          generalize hXs : Wd.alloc (.cells #[.int .i64 vv] 3) = X3 at *
          clear hXs hgs hb
          have lt_ := (unhide hT).lt
          have t1 := (unhide hT).cell 3
          have t2 := (unhide hT).cell 2
          simp at t1 t2
          refine wpAnyH_ready (rs := [10]) (by kernel_rfl) (by simp) ?_
          refine AllReadyH.cons rfl (fun K20011 hK20011 => ?_) AllReadyH.nil
          refine step_append_lies _ rfl _ _ 22 rfl n1 3 i0 _ 1 8 Try.underlying22 hi hz0 hz1 hz2 rfl (by decide) fv _ _ rfl (unhide hU) ⟨gs, 0, none⟩ 1 1 [.int .i64 vv] rfl rfl hs3 (by simp [Value.oneCell']) (by decide) (by unfold maxLen; omega) (by omega) hn1 _ rfl ?_
          intro g2 cp2 w4 hown4 hgrow4 hat4 hlt4
          have hB4 : Below n1 X3 w4 := Below.grown (Below.refl _ _) hgrow4 hn1 (fun j e => by rcases (unhide hU).2 with ⟨rfl, _⟩ | ⟨g', cap', cur', rfl, hge', _⟩ <;> simp [Value.ownBlock] at e; omega)
          refine hK20011.out _ _ ?hs20011 (fun hHeld20011 => ?_)
          case hs20011 => exact trivial
          clear hHeld
          have hHeld := hHeld20011; clear hHeld20011 hK20011 K20011
          have hw0 : w.heap.size ≤ n1 := by omega
          have T4_ := hide (blk_base (unhide hT) hB4 ht1)
          have lt4 := (unhide T4_).lt
          have q1 := (unhide T4_).cell 3
          have f1 := (unhide T4_).froz 3
          simp at q1
          have G5 : Hid (Grown w (w4.setCell ⟨bt, 3, none⟩ (.slice (some ⟨g2, 0, none⟩) (m + 1) cp2))) := hide (Below.setCell (Below.trans (unhide G) (hB4.mono hw0)) (p := ⟨bt, 3, none⟩) hwt _)
          have Z5 := hide (Blk.set (blk_base (unhide hZ) hB4 hb1) h6t 3 (.slice (some ⟨g2, 0, none⟩) (m + 1) cp2))
          have B5 := hide (((unhide hB).base hB4 hg1).far hgt 3 (.slice (some ⟨g2, 0, none⟩) (m + 1) cp2))
          have T5 : Hid (Blk bt (tbl s0 (.slice (some ⟨g, 0, none⟩) k cap) (.int .i64 (j : Int)) ((.slice (some ⟨g2, 0, none⟩) (m + 1) cp2)) (.slice none 0 0)) 34 (w4.setCell ⟨bt, 3, none⟩ (.slice (some ⟨g2, 0, none⟩) (m + 1) cp2))) := hide (heapSet (unhide T4_) 3 (.slice (some ⟨g2, 0, none⟩) (m + 1) cp2))
          have O5 := hide (owns_set (b := bt) hown4 ht1 3 (.slice (some ⟨g2, 0, none⟩) (m + 1) cp2))
          have N5 : LeN n1 (w4.setCell ⟨bt, 3, none⟩ (.slice (some ⟨g2, 0, none⟩) (m + 1) cp2)) := by have h1 := Nat.le_trans hn1 hB4.size; unfold LeN; simpa using h1
          refine wpAnyH_take (i := 11) (oi := ?oi20012) (v := ?v20012) ?hi20012 (by kernel_rfl) (by kernel_rfl) (by kernel_rfl) (fun _ _ _ h => h) (Or.inl ⟨?hw20012, ?hy20012⟩) (by assumption) ?rest20012
          case hi20012 => (simp only [List.getElem?_toArray, List.getElem?_cons_zero, List.getElem?_cons_succ]; rfl)
          case hw20012 => rfl
          case hy20012 => first | (intro wx hSw; go_simp; done) | (intro wx hSw; go_simp; with_reducible rfl)
          simp only [Act.put, List.setIfInBounds_toArray, List.set_cons_zero, List.set_cons_succ]
          refine wpAnyH_ready (rs := [12]) (by kernel_rfl) (by simp) ?_
          refine AllReadyH.cons rfl (fun K20013 hK20013 => ?_) AllReadyH.nil
          go_simp
          refine hK20013.out _ _ ?hs20013 (fun hHeld20013 => ?_)
          case hs20013 => exact trivial
          clear hHeld
          have hHeld := hHeld20013; clear hHeld20013 hK20013 K20013
          refine wpAnyH_done (by kernel_rfl) ?_ _
          refine NoPanic.normal ?_
          skip
          exact unhide REST10 _ _ _ _ (by kernel_rfl) G5 Z5 B5 T5 O5 N5
        refine AllReadyH.cons rfl (fun K20014 hK20014 => ?_) AllReadyH.nil
        · go_simp
          refine hK20014.out _ _ ?hs20014 (fun hHeld20014 => ?_)
          case hs20014 => exact trivial
          clear hHeld
          have hHeld := hHeld20014; clear hHeld20014 hK20014 K20014
          refine wpAnyH_take (i := 4) (oi := ?oi20015) (v := ?v20015) ?hi20015 (by kernel_rfl) (by kernel_rfl) (by kernel_rfl) (fun _ _ _ h => h) (Or.inl ⟨?hw20015, ?hy20015⟩) (by assumption) ?rest20015
          case hi20015 => (simp only [List.getElem?_toArray, List.getElem?_cons_zero, List.getElem?_cons_succ]; rfl)
          case hw20015 => rfl
          case hy20015 => first | (intro wx hSw; go_simp; done) | (intro wx hSw; go_simp; with_reducible rfl)
          simp only [Act.put, List.setIfInBounds_toArray, List.set_cons_zero, List.set_cons_succ]
          refine wpAnyH_take (i := 6) (oi := ?oi20016) (v := ?v20016) ?hi20016 (by kernel_rfl) (by kernel_rfl) (by kernel_rfl) (fun _ _ _ h => h) (Or.inl ⟨?hw20016, ?hy20016⟩) (by assumption) ?rest20016
          case hi20016 => (simp only [List.getElem?_toArray, List.getElem?_cons_zero, List.getElem?_cons_succ]; rfl)
          case hw20016 => rfl
          case hy20016 => first | (intro wx hSw; go_simp; done) | (intro wx hSw; go_simp; with_reducible rfl)
          simp only [Act.put, List.setIfInBounds_toArray, List.set_cons_zero, List.set_cons_succ]
          refine wpAnyH_take (i := 8) (oi := ?oi20017) (v := ?v20017) ?hi20017 (by kernel_rfl) (by kernel_rfl) (by kernel_rfl) (fun _ _ _ h => h) (Or.inl ⟨?hw20017, ?hy20017⟩) (by assumption) ?rest20017
          case hi20017 => (simp only [List.getElem?_toArray, List.getElem?_cons_zero, List.getElem?_cons_succ]; rfl)
          case hw20017 => rfl
          case hy20017 => first | (intro wx hSw; have hk0_ := hk0; have hk0b_ := hk0b; have hk0c_ := hk0c; go_simp; done) | (intro wx hSw; have hk0_ := hk0; have hk0b_ := hk0b; have hk0c_ := hk0c; go_simp; with_reducible rfl)
          simp only [Act.put, List.setIfInBounds_toArray, List.set_cons_zero, List.set_cons_succ]
          generalize (IntKind.i64.wrap (IntKind.i64.wrap ((j : Int) + 1) + (m : Int))).tmod (k : Int) = vv at *
          refine wpAnyH_ready (rs := [1, 9]) (by kernel_rfl) (by simp) ?_
          refine AllReadyH.cons rfl (fun K20018 hK20018 => ?_) ?_
          · go_simp
            refine hK20018.out _ _ ?hs20018 (fun hHeld20018 => ?_)
            case hs20018 => exact trivial
            clear hHeld
            have hHeld := hHeld20018; clear hHeld20018 hK20018 K20018
            refine wpAnyH_ready (rs := [9]) (by kernel_rfl) (by simp) ?_
            refine AllReadyH.cons rfl (fun K20019 hK20019 => ?_) AllReadyH.nil
            go_simp
            have hb := below_new Wd (.cells #[.int .i64 vv] 3)
            have hs3 := cells_one_at Wd _ rfl (.int .i64 vv) 3
            refine hK20019.out _ _ ?hs20019 (fun hHeld20019 => ?_)
            case hs20019 => exact trivial
            clear hHeld
            have hHeld := hHeld20019; clear hHeld20019 hK20019 K20019
            replace G := hide ((unhide G).call hb)
            replace hZ := hide ((unhide hZ).call hb)
            replace hB := hide ((unhide hB).call hb)
            replace hT := hide ((unhide hT).call hb)
            replace hU := hide ((unhide hU).call hb)
            replace hn1 := hn1.call hb
            clear lt_ t1 t2
            generalize hgs : Wd.heap.size = gs at *
            generalize hXs : Wd.alloc (.cells #[.int .i64 vv] 3) = X3 at *
            clear hXs hgs hb
            have lt_ := (unhide hT).lt
            have t1 := (unhide hT).cell 3
            have t2 := (unhide hT).cell 2
            simp at t1 t2
            refine wpAnyH_ready (rs := [10]) (by kernel_rfl) (by simp) ?_
            refine AllReadyH.cons rfl (fun K20020 hK20020 => ?_) AllReadyH.nil
            refine step_append_lies _ rfl _ _ 22 rfl n1 3 i0 _ 1 8 Try.underlying22 hi hz0 hz1 hz2 rfl (by decide) fv _ _ rfl (unhide hU) ⟨gs, 0, none⟩ 1 1 [.int .i64 vv] rfl rfl hs3 (by simp [Value.oneCell']) (by decide) (by unfold maxLen; omega) (by omega) hn1 _ rfl ?_
            intro g2 cp2 w4 hown4 hgrow4 hat4 hlt4
            have hB4 : Below n1 X3 w4 := Below.grown (Below.refl _ _) hgrow4 hn1 (fun j e => by rcases (unhide hU).2 with ⟨rfl, _⟩ | ⟨g', cap', cur', rfl, hge', _⟩ <;> simp [Value.ownBlock] at e; omega)
            refine hK20020.out _ _ ?hs20020 (fun hHeld20020 => ?_)
            case hs20020 => exact trivial
            clear hHeld
            have hHeld := hHeld20020; clear hHeld20020 hK20020 K20020
            have hw0 : w.heap.size ≤ n1 := by omega
            have T4_ := hide (blk_base (unhide hT) hB4 ht1)
            have lt4 := (unhide T4_).lt
            have q1 := (unhide T4_).cell 3
            have f1 := (unhide T4_).froz 3
            simp at q1
            have G5 : Hid (Grown w (w4.setCell ⟨bt, 3, none⟩ (.slice (some ⟨g2, 0, none⟩) (m + 1) cp2))) := hide (Below.setCell (Below.trans (unhide G) (hB4.mono hw0)) (p := ⟨bt, 3, none⟩) hwt _)
            have Z5 := hide (Blk.set (blk_base (unhide hZ) hB4 hb1) h6t 3 (.slice (some ⟨g2, 0, none⟩) (m + 1) cp2))
            have B5 := hide (((unhide hB).base hB4 hg1).far hgt 3 (.slice (some ⟨g2, 0, none⟩) (m + 1) cp2))
            have T5 : Hid (Blk bt (tbl s0 (.slice (some ⟨g, 0, none⟩) k cap) (.int .i64 (j : Int)) ((.slice (some ⟨g2, 0, none⟩) (m + 1) cp2)) (.slice none 0 0)) 34 (w4.setCell ⟨bt, 3, none⟩ (.slice (some ⟨g2, 0, none⟩) (m + 1) cp2))) := hide (heapSet (unhide T4_) 3 (.slice (some ⟨g2, 0, none⟩) (m + 1) cp2))
            have O5 := hide (owns_set (b := bt) hown4 ht1 3 (.slice (some ⟨g2, 0, none⟩) (m + 1) cp2))
            have N5 : LeN n1 (w4.setCell ⟨bt, 3, none⟩ (.slice (some ⟨g2, 0, none⟩) (m + 1) cp2)) := by have h1 := Nat.le_trans hn1 hB4.size; unfold LeN; simpa using h1
            refine wpAnyH_take (i := 11) (oi := ?oi20021) (v := ?v20021) ?hi20021 (by kernel_rfl) (by kernel_rfl) (by kernel_rfl) (fun _ _ _ h => h) (Or.inl ⟨?hw20021, ?hy20021⟩) (by assumption) ?rest20021
            case hi20021 => (simp only [List.getElem?_toArray, List.getElem?_cons_zero, List.getElem?_cons_succ]; rfl)
            case hw20021 => rfl
            case hy20021 => first | (intro wx hSw; go_simp; done) | (intro wx hSw; go_simp; with_reducible rfl)
            simp only [Act.put, List.setIfInBounds_toArray, List.set_cons_zero, List.set_cons_succ]
            refine wpAnyH_ready (rs := [12]) (by kernel_rfl) (by simp) ?_
            refine AllReadyH.cons rfl (fun K20022 hK20022 => ?_) AllReadyH.nil
            go_simp
            refine hK20022.out _ _ ?hs20022 (fun hHeld20022 => ?_)
            case hs20022 => exact trivial
            clear hHeld
            have hHeld := hHeld20022; clear hHeld20022 hK20022 K20022
            refine wpAnyH_done (by kernel_rfl) ?_ _
            refine NoPanic.normal ?_
            skip
            exact unhide REST10 _ _ _ _ (by kernel_rfl) G5 Z5 B5 T5 O5 N5
          refine AllReadyH.cons rfl (fun K20023 hK20023 => ?_) AllReadyH.nil
          · go_simp
            have hb := below_new Wd (.cells #[.int .i64 vv] 3)
            have hs3 := cells_one_at Wd _ rfl (.int .i64 vv) 3
            refine hK20023.out _ _ ?hs20023 (fun hHeld20023 => ?_)
            case hs20023 => exact trivial
            clear hHeld
            have hHeld := hHeld20023; clear hHeld20023 hK20023 K20023
            replace G := hide ((unhide G).call hb)
            replace hZ := hide ((unhide hZ).call hb)
            replace hB := hide ((unhide hB).call hb)
            replace hT := hide ((unhide hT).call hb)
            replace hU := hide ((unhide hU).call hb)
            replace hn1 := hn1.call hb
            clear lt_ t1 t2
            generalize hgs : Wd.heap.size = gs at *
            generalize hXs : Wd.alloc (.cells #[.int .i64 vv] 3) = X3 at *
            clear hXs hgs hb
            have lt_ := (unhide hT).lt
            have t1 := (unhide hT).cell 3
            have t2 := (unhide hT).cell 2
            simp at t1 t2
            refine wpAnyH_ready (rs := [1]) (by kernel_rfl) (by simp) ?_
            refine AllReadyH.cons rfl (fun K20024 hK20024 => ?_) AllReadyH.nil
            go_simp
            refine hK20024.out _ _ ?hs20024 (fun hHeld20024 => ?_)
            case hs20024 => exact trivial
            clear hHeld
            have hHeld := hHeld20024; clear hHeld20024 hK20024 K20024
            refine wpAnyH_ready (rs := [10]) (by kernel_rfl) (by simp) ?_
            refine AllReadyH.cons rfl (fun K20025 hK20025 => ?_) AllReadyH.nil
            refine step_append_lies _ rfl _ _ 22 rfl n1 3 i0 _ 1 8 Try.underlying22 hi hz0 hz1 hz2 rfl (by decide) fv _ _ rfl (unhide hU) ⟨gs, 0, none⟩ 1 1 [.int .i64 vv] rfl rfl hs3 (by simp [Value.oneCell']) (by decide) (by unfold maxLen; omega) (by omega) hn1 _ rfl ?_
            intro g2 cp2 w4 hown4 hgrow4 hat4 hlt4
            have hB4 : Below n1 X3 w4 := Below.grown (Below.refl _ _) hgrow4 hn1 (fun j e => by rcases (unhide hU).2 with ⟨rfl, _⟩ | ⟨g', cap', cur', rfl, hge', _⟩ <;> simp [Value.ownBlock] at e; omega)
            refine hK20025.out _ _ ?hs20025 (fun hHeld20025 => ?_)
            case hs20025 => exact trivial
            clear hHeld
            have hHeld := hHeld20025; clear hHeld20025 hK20025 K20025
            have hw0 : w.heap.size ≤ n1 := by omega
            have T4_ := hide (blk_base (unhide hT) hB4 ht1)
            have lt4 := (unhide T4_).lt
            have q1 := (unhide T4_).cell 3
            have f1 := (unhide T4_).froz 3
            simp at q1
            have G5 : Hid (Grown w (w4.setCell ⟨bt, 3, none⟩ (.slice (some ⟨g2, 0, none⟩) (m + 1) cp2))) := hide (Below.setCell (Below.trans (unhide G) (hB4.mono hw0)) (p := ⟨bt, 3, none⟩) hwt _)
            have Z5 := hide (Blk.set (blk_base (unhide hZ) hB4 hb1) h6t 3 (.slice (some ⟨g2, 0, none⟩) (m + 1) cp2))
            have B5 := hide (((unhide hB).base hB4 hg1).far hgt 3 (.slice (some ⟨g2, 0, none⟩) (m + 1) cp2))
            have T5 : Hid (Blk bt (tbl s0 (.slice (some ⟨g, 0, none⟩) k cap) (.int .i64 (j : Int)) ((.slice (some ⟨g2, 0, none⟩) (m + 1) cp2)) (.slice none 0 0)) 34 (w4.setCell ⟨bt, 3, none⟩ (.slice (some ⟨g2, 0, none⟩) (m + 1) cp2))) := hide (heapSet (unhide T4_) 3 (.slice (some ⟨g2, 0, none⟩) (m + 1) cp2))
            have O5 := hide (owns_set (b := bt) hown4 ht1 3 (.slice (some ⟨g2, 0, none⟩) (m + 1) cp2))
            have N5 : LeN n1 (w4.setCell ⟨bt, 3, none⟩ (.slice (some ⟨g2, 0, none⟩) (m + 1) cp2)) := by have h1 := Nat.le_trans hn1 hB4.size; unfold LeN; simpa using h1
            refine wpAnyH_take (i := 11) (oi := ?oi20026) (v := ?v20026) ?hi20026 (by kernel_rfl) (by kernel_rfl) (by kernel_rfl) (fun _ _ _ h => h) (Or.inl ⟨?hw20026, ?hy20026⟩) (by assumption) ?rest20026
            case hi20026 => (simp only [List.getElem?_toArray, List.getElem?_cons_zero, List.getElem?_cons_succ]; rfl)
            case hw20026 => rfl
            case hy20026 => first | (intro wx hSw; go_simp; done) | (intro wx hSw; go_simp; with_reducible rfl)
            simp only [Act.put, List.setIfInBounds_toArray, List.set_cons_zero, List.set_cons_succ]
            refine wpAnyH_ready (rs := [12]) (by kernel_rfl) (by simp) ?_
            refine AllReadyH.cons rfl (fun K20027 hK20027 => ?_) AllReadyH.nil
            go_simp
            refine hK20027.out _ _ ?hs20027 (fun hHeld20027 => ?_)
            case hs20027 => exact trivial
            clear hHeld
            have hHeld := hHeld20027; clear hHeld20027 hK20027 K20027
            refine wpAnyH_done (by kernel_rfl) ?_ _
            refine NoPanic.normal ?_
            skip
            exact unhide REST10 _ _ _ _ (by kernel_rfl) G5 Z5 B5 T5 O5 N5
      · go_wp2_with fail
        refine (unhide CW _).mono ?_
        rintro e wq ⟨rfl, rfl⟩
        go_wp2_with fail
        exact unhide REST _ fv _ (by kernel_rfl) G hZ hB hT (hide (isSl_of (unhide hU)))
    · go_wp2_with fail
      refine (unhide CW _).mono ?_
      rintro e wq ⟨rfl, rfl⟩
      go_wp2_with fail
      exact unhide REST _ fv _ (by kernel_rfl) G hZ hB hT (hide (isSl_of (unhide hU)))
end Go.Proofs.Ytliefgkhpgigaaa
