/-
  federationlaw3's Table: its columns.
-/
import Derived.Test.YtliefgkhpgigaaaVTb0
namespace Go.Proofs.Ytliefgkhpgigaaa
open Go.RowKit Go.Shelf
set_option linter.unusedSimpArgs false
set_option linter.unusedVariables false

set_option maxHeartbeats 16000000 in
set_option maxRecDepth 100000 in
theorem tbL1 {r0 r1 r2 r3 rest : Code} (hc : Try.f14.body = some (.seq r0 (.seq r1 (.seq r2 (.seq r3 (rest)))))) (w : World) (n0 b6 bt : Nat) (h6t : b6 ≠ bt) (h6 : b6 < n0) (ht : bt < n0) (hw6 : w.heap.size ≤ b6) (hwt : w.heap.size ≤ bt) (n : Int) (p : Option Addr) (np : Nat) (zs : List Int) (k : Nat) (hk4 : k ≤ 4) (s0 : ByteArray) (hzw : Hid (IntsP p zs w)) (K : Act → World → Prop) (Q : Exit → Act → World → Prop) (REST : Hid (∀ (ac : Act) (cv : Value) (l : List C3) (X : World), ac = ⟨#[.int .i64 n, .slice p zs.length np, ac.tmps.getD 2 undef, ac.tmps.getD 3 undef, ac.tmps.getD 4 undef, ac.tmps.getD 5 undef, .pointer (some ⟨b6, 0, none⟩), .pointer (some ⟨bt, 0, none⟩), .int .i64 (k : Int), ac.tmps.getD 9 undef, ac.tmps.getD 10 undef, ac.tmps.getD 11 undef, ac.tmps.getD 12 undef, ac.tmps.getD 13 undef, ac.tmps.getD 14 undef, ac.tmps.getD 15 undef, ac.tmps.getD 16 undef, ac.tmps.getD 17 undef, ac.tmps.getD 18 undef, ac.tmps.getD 19 undef, ac.tmps.getD 20 undef, ac.tmps.getD 21 undef, ac.tmps.getD 22 undef, ac.tmps.getD 23 undef, ac.tmps.getD 24 undef, ac.tmps.getD 25 undef, ac.tmps.getD 26 undef, ac.tmps.getD 27 undef, ac.tmps.getD 28 undef, ac.tmps.getD 29 undef, ac.tmps.getD 30 undef, ac.tmps.getD 31 undef, ac.tmps.getD 32 undef, ac.tmps.getD 33 undef, ac.tmps.getD 34 undef, ac.tmps.getD 35 undef, ac.tmps.getD 36 undef, ac.tmps.getD 37 undef, ac.tmps.getD 38 undef, ac.tmps.getD 39 undef, ac.tmps.getD 40 undef, ac.tmps.getD 41 undef, ac.tmps.getD 42 undef, ac.tmps.getD 43 undef, ac.tmps.getD 44 undef, ac.tmps.getD 45 undef, ac.tmps.getD 46 undef, ac.tmps.getD 47 undef, ac.tmps.getD 48 undef, ac.tmps.getD 49 undef, ac.tmps.getD 50 undef, ac.tmps.getD 51 undef, ac.tmps.getD 52 undef, ac.tmps.getD 53 undef, ac.tmps.getD 54 undef, ac.tmps.getD 55 undef, ac.tmps.getD 56 undef, ac.tmps.getD 57 undef, ac.tmps.getD 58 undef, ac.tmps.getD 59 undef, ac.tmps.getD 60 undef, ac.tmps.getD 61 undef, ac.tmps.getD 62 undef, ac.tmps.getD 63 undef, ac.tmps.getD 64 undef, ac.tmps.getD 65 undef, ac.tmps.getD 66 undef, ac.tmps.getD 67 undef, ac.tmps.getD 68 undef, ac.tmps.getD 69 undef, ac.tmps.getD 70 undef, ac.tmps.getD 71 undef, ac.tmps.getD 72 undef, ac.tmps.getD 73 undef, ac.tmps.getD 74 undef, ac.tmps.getD 75 undef, ac.tmps.getD 76 undef, ac.tmps.getD 77 undef, ac.tmps.getD 78 undef, ac.tmps.getD 79 undef, ac.tmps.getD 80 undef, ac.tmps.getD 81 undef, ac.tmps.getD 82 undef, ac.tmps.getD 83 undef, ac.tmps.getD 84 undef, ac.tmps.getD 85 undef, ac.tmps.getD 86 undef, ac.tmps.getD 87 undef, ac.tmps.getD 88 undef, ac.tmps.getD 89 undef, ac.tmps.getD 90 undef, ac.tmps.getD 91 undef, ac.tmps.getD 92 undef, ac.tmps.getD 93 undef, ac.tmps.getD 94 undef, ac.tmps.getD 95 undef, ac.tmps.getD 96 undef, ac.tmps.getD 97 undef, ac.tmps.getD 98 undef, ac.tmps.getD 99 undef, ac.tmps.getD 100 undef, ac.tmps.getD 101 undef, ac.tmps.getD 102 undef, ac.tmps.getD 103 undef, ac.tmps.getD 104 undef, ac.tmps.getD 105 undef, ac.tmps.getD 106 undef, ac.tmps.getD 107 undef, ac.tmps.getD 108 undef, ac.tmps.getD 109 undef, ac.tmps.getD 110 undef, ac.tmps.getD 111 undef, ac.tmps.getD 112 undef, ac.tmps.getD 113 undef, ac.tmps.getD 114 undef], []⟩ → l.length = k → ColsL l → Hid (Grown w X) → Hid (Blk b6 (tbl ⟨#[]⟩ (.slice none 0 0) (.int .i64 0) (.slice none 0 0) (.slice none 0 0)) 34 X) → Hid (Blk bt (tbl s0 cv (.int .i64 0) (.slice none 0 0) (.slice none 0 0)) 34 X) → Hid (OwC n0 cv l X) → LeN n0 X → K ac X)) (ac : Act) (X : World) (ha : ac = ⟨#[.int .i64 n, .slice p zs.length np, ac.tmps.getD 2 undef, ac.tmps.getD 3 undef, ac.tmps.getD 4 undef, ac.tmps.getD 5 undef, .pointer (some ⟨b6, 0, none⟩), .pointer (some ⟨bt, 0, none⟩), .int .i64 (k : Int), ac.tmps.getD 9 undef, ac.tmps.getD 10 undef, ac.tmps.getD 11 undef, ac.tmps.getD 12 undef, ac.tmps.getD 13 undef, ac.tmps.getD 14 undef, ac.tmps.getD 15 undef, ac.tmps.getD 16 undef, ac.tmps.getD 17 undef, ac.tmps.getD 18 undef, ac.tmps.getD 19 undef, ac.tmps.getD 20 undef, ac.tmps.getD 21 undef, ac.tmps.getD 22 undef, ac.tmps.getD 23 undef, ac.tmps.getD 24 undef, ac.tmps.getD 25 undef, ac.tmps.getD 26 undef, ac.tmps.getD 27 undef, ac.tmps.getD 28 undef, ac.tmps.getD 29 undef, ac.tmps.getD 30 undef, ac.tmps.getD 31 undef, ac.tmps.getD 32 undef, ac.tmps.getD 33 undef, ac.tmps.getD 34 undef, ac.tmps.getD 35 undef, ac.tmps.getD 36 undef, ac.tmps.getD 37 undef, ac.tmps.getD 38 undef, ac.tmps.getD 39 undef, ac.tmps.getD 40 undef, ac.tmps.getD 41 undef, ac.tmps.getD 42 undef, ac.tmps.getD 43 undef, ac.tmps.getD 44 undef, ac.tmps.getD 45 undef, ac.tmps.getD 46 undef, ac.tmps.getD 47 undef, ac.tmps.getD 48 undef, ac.tmps.getD 49 undef, ac.tmps.getD 50 undef, ac.tmps.getD 51 undef, ac.tmps.getD 52 undef, ac.tmps.getD 53 undef, ac.tmps.getD 54 undef, ac.tmps.getD 55 undef, ac.tmps.getD 56 undef, ac.tmps.getD 57 undef, ac.tmps.getD 58 undef, ac.tmps.getD 59 undef, ac.tmps.getD 60 undef, ac.tmps.getD 61 undef, ac.tmps.getD 62 undef, ac.tmps.getD 63 undef, ac.tmps.getD 64 undef, ac.tmps.getD 65 undef, ac.tmps.getD 66 undef, ac.tmps.getD 67 undef, ac.tmps.getD 68 undef, ac.tmps.getD 69 undef, ac.tmps.getD 70 undef, ac.tmps.getD 71 undef, ac.tmps.getD 72 undef, ac.tmps.getD 73 undef, ac.tmps.getD 74 undef, ac.tmps.getD 75 undef, ac.tmps.getD 76 undef, ac.tmps.getD 77 undef, ac.tmps.getD 78 undef, ac.tmps.getD 79 undef, ac.tmps.getD 80 undef, ac.tmps.getD 81 undef, ac.tmps.getD 82 undef, ac.tmps.getD 83 undef, ac.tmps.getD 84 undef, ac.tmps.getD 85 undef, ac.tmps.getD 86 undef, ac.tmps.getD 87 undef, ac.tmps.getD 88 undef, ac.tmps.getD 89 undef, ac.tmps.getD 90 undef, ac.tmps.getD 91 undef, ac.tmps.getD 92 undef, ac.tmps.getD 93 undef, ac.tmps.getD 94 undef, ac.tmps.getD 95 undef, ac.tmps.getD 96 undef, ac.tmps.getD 97 undef, ac.tmps.getD 98 undef, ac.tmps.getD 99 undef, ac.tmps.getD 100 undef, ac.tmps.getD 101 undef, ac.tmps.getD 102 undef, ac.tmps.getD 103 undef, ac.tmps.getD 104 undef, ac.tmps.getD 105 undef, ac.tmps.getD 106 undef, ac.tmps.getD 107 undef, ac.tmps.getD 108 undef, ac.tmps.getD 109 undef, ac.tmps.getD 110 undef, ac.tmps.getD 111 undef, ac.tmps.getD 112 undef, ac.tmps.getD 113 undef, ac.tmps.getD 114 undef], []⟩) (G : Hid (Grown w X)) (hZ : Hid (Blk b6 (tbl ⟨#[]⟩ (.slice none 0 0) (.int .i64 0) (.slice none 0 0) (.slice none 0 0)) 34 X)) (hT : Hid (Blk bt (tbl s0 (.slice none 0 0) (.int .i64 0) (.slice none 0 0) (.slice none 0 0)) 34 X)) (hn0 : LeN n0 X) : r3.wp Try.prog (Exit.then K Q) ac X := by
  obtain ⟨i0, hi, hz0, hz1, hz2⟩ := infoParts info_col
  obtain ⟨o, rfl⟩ : ∃ o : Nat → Value, ac = ⟨#[.int .i64 n, .slice p zs.length np, o 2, o 3, o 4, o 5, .pointer (some ⟨b6, 0, none⟩), .pointer (some ⟨bt, 0, none⟩), .int .i64 (k : Int), o 9, o 10, o 11, o 12, o 13, o 14, o 15, o 16, o 17, o 18, o 19, o 20, o 21, o 22, o 23, o 24, o 25, o 26, o 27, o 28, o 29, o 30, o 31, o 32, o 33, o 34, o 35, o 36, o 37, o 38, o 39, o 40, o 41, o 42, o 43, o 44, o 45, o 46, o 47, o 48, o 49, o 50, o 51, o 52, o 53, o 54, o 55, o 56, o 57, o 58, o 59, o 60, o 61, o 62, o 63, o 64, o 65, o 66, o 67, o 68, o 69, o 70, o 71, o 72, o 73, o 74, o 75, o 76, o 77, o 78, o 79, o 80, o 81, o 82, o 83, o 84, o 85, o 86, o 87, o 88, o 89, o 90, o 91, o 92, o 93, o 94, o 95, o 96, o 97, o 98, o 99, o 100, o 101, o 102, o 103, o 104, o 105, o 106, o 107, o 108, o 109, o 110, o 111, o 112, o 113, o 114], []⟩ := ⟨fun i => ac.tmps.getD i undef, ha⟩
  clear ha
  unfold Try.f14 at hc
  cases hc
  go_wp2_with fail
  go_loopw [9] (fun i wr => Hid (∃ (l : List C3) (cv : Value), l.length ≤ k ∧ i = .int .i64 (l.length : Int) ∧ Hid (ColsL l) ∧ Hid (Grown w wr) ∧ Hid (Blk b6 (tbl ⟨#[]⟩ (.slice none 0 0) (.int .i64 0) (.slice none 0 0) (.slice none 0 0)) 34 wr) ∧ Hid (Blk bt (tbl s0 cv (.int .i64 0) (.slice none 0 0) (.slice none 0 0)) 34 wr) ∧ Hid (OwC n0 cv l wr) ∧ LeN n0 wr)) (fun i _ => k - (intOf i).toNat)
  case atStart => exact hide ⟨[], _, Nat.zero_le _, rfl, hide (fun i h => absurd h (by simp)), G, hZ, hT, hide (World.ownsRow_nil _ _ _ _), hn0⟩
  case round =>
    clear G hZ hT hn0
    obtain ⟨l, cv, hlk, rfl, hL, G, hZ, hT, hO, hn0⟩ := unhide hrel
    by_cases hlt : l.length < k
    · have hlti : (l.length : Int) < k := by omega
      have e9 : IntKind.i64.wrap ((l.length : Int) + 1) = (l.length : Int) + 1 := IntWalk.i64_in _ (by omega)
      have e2 : IntKind.i64.wrap (2 + (l.length : Int)) = 2 + (l.length : Int) := IntWalk.i64_in _ (by omega)
      by_cases hn : l.length < zs.length
      · have hni : (l.length : Int) < zs.length := by omega
        obtain ⟨a, rfl, hc, hblk, hi64⟩ := ((unhide hzw).call (unhide G)).2 l.length hn
        have hzl := (unhide hzw).1
        generalize zs[l.length] = z at *
        obtain ⟨m, hm⟩ : ∃ m, m = z % 1073741824 := ⟨_, rfl⟩
        have WI := hide (fun W => (hm ▸ within3_any z 1073741824 W hi64 (by decide) : Calls Try.prog 34 #[.int .i64 z, .int .i64 1073741824] W fun e W' => e = .returned (.int .i64 m) ∧ W' = W))
        have hm0 : 0 ≤ m ∧ m < 1073741824 := by omega
        have e3 : IntKind.i64.wrap (1 + m % 5) = 1 + m % 5 := IntWalk.i64_in _ (by omega)
        have e4 : IntKind.i64.wrap (m / 5) = m / 5 := IntWalk.i64_in _ (by omega)
        clear hm hi64
        go_wp2_with fail
        refine (unhide WI _).mono ?_
        rintro e wq ⟨rfl, rfl⟩
        go_wp2_with fail
        rename_i K10 hk10
        have REST10 : ∀ (ac : Act) (cv : Value) (c : C3) (X : World), ac = ⟨#[.int .i64 n, .slice (some a) zs.length np, o 2, o 3, o 4, o 5, .pointer (some ⟨b6, 0, none⟩), .pointer (some ⟨bt, 0, none⟩), .int .i64 (k : Int), .int .i64 (l.length : Int), ac.tmps.getD 10 undef, o 11, o 12, o 13, o 14, o 15, o 16, o 17, o 18, o 19, o 20, o 21, ac.tmps.getD 22 undef, ac.tmps.getD 23 undef, ac.tmps.getD 24 undef, ac.tmps.getD 25 undef, ac.tmps.getD 26 undef, ac.tmps.getD 27 undef, ac.tmps.getD 28 undef, ac.tmps.getD 29 undef, ac.tmps.getD 30 undef, ac.tmps.getD 31 undef, ac.tmps.getD 32 undef, ac.tmps.getD 33 undef, ac.tmps.getD 34 undef, ac.tmps.getD 35 undef, ac.tmps.getD 36 undef, ac.tmps.getD 37 undef, ac.tmps.getD 38 undef, ac.tmps.getD 39 undef, ac.tmps.getD 40 undef, ac.tmps.getD 41 undef, ac.tmps.getD 42 undef, ac.tmps.getD 43 undef, ac.tmps.getD 44 undef, ac.tmps.getD 45 undef, ac.tmps.getD 46 undef, ac.tmps.getD 47 undef, ac.tmps.getD 48 undef, ac.tmps.getD 49 undef, ac.tmps.getD 50 undef, ac.tmps.getD 51 undef, ac.tmps.getD 52 undef, ac.tmps.getD 53 undef, ac.tmps.getD 54 undef, o 55, o 56, o 57, o 58, o 59, o 60, o 61, o 62, o 63, o 64, o 65, o 66, o 67, o 68, o 69, o 70, o 71, o 72, o 73, o 74, o 75, o 76, o 77, o 78, o 79, o 80, o 81, o 82, o 83, o 84, o 85, o 86, o 87, o 88, o 89, o 90, o 91, o 92, o 93, o 94, o 95, o 96, o 97, o 98, o 99, o 100, o 101, o 102, o 103, o 104, o 105, o 106, o 107, o 108, o 109, o 110, o 111, o 112, o 113, o 114], []⟩ → c.1 = nmK l.length → 1 ≤ c.2.1 ∧ c.2.1 ≤ 5 → Hid (Grown w X) → Hid (Blk b6 (tbl ⟨#[]⟩ (.slice none 0 0) (.int .i64 0) (.slice none 0 0) (.slice none 0 0)) 34 X) → Hid (Blk bt (tbl s0 cv (.int .i64 0) (.slice none 0 0) (.slice none 0 0)) 34 X) → Hid (OwC n0 cv (l ++ [c]) X) → LeN n0 X → K10 ac X := by
          clear G hZ hT hO hn0
          intro ac cv c X ha hc1 hc2 G hZ hT hO hn0
          obtain ⟨u, rfl⟩ : ∃ u : Nat → Value, ac = ⟨#[.int .i64 n, .slice (some a) zs.length np, o 2, o 3, o 4, o 5, .pointer (some ⟨b6, 0, none⟩), .pointer (some ⟨bt, 0, none⟩), .int .i64 (k : Int), .int .i64 (l.length : Int), u 10, o 11, o 12, o 13, o 14, o 15, o 16, o 17, o 18, o 19, o 20, o 21, u 22, u 23, u 24, u 25, u 26, u 27, u 28, u 29, u 30, u 31, u 32, u 33, u 34, u 35, u 36, u 37, u 38, u 39, u 40, u 41, u 42, u 43, u 44, u 45, u 46, u 47, u 48, u 49, u 50, u 51, u 52, u 53, u 54, o 55, o 56, o 57, o 58, o 59, o 60, o 61, o 62, o 63, o 64, o 65, o 66, o 67, o 68, o 69, o 70, o 71, o 72, o 73, o 74, o 75, o 76, o 77, o 78, o 79, o 80, o 81, o 82, o 83, o 84, o 85, o 86, o 87, o 88, o 89, o 90, o 91, o 92, o 93, o 94, o 95, o 96, o 97, o 98, o 99, o 100, o 101, o 102, o 103, o 104, o 105, o 106, o 107, o 108, o 109, o 110, o 111, o 112, o 113, o 114], []⟩ := ⟨fun i => ac.tmps.getD i undef, ha⟩
          clear ha
          refine hk10 _ _ ?_
          clear hk10
          have hL2 := hide (colsL_snoc (unhide hL) hc1 hc2)
          clear hL hc1 hc2
          go_wp2_with fail
          go_roundw
          case rel => exact hide ⟨l ++ [c], cv, by simp; omega, by simp, hL2, G, hZ, hT, hO, hn0⟩
          case measure => simp [intOf]; omega
        have REST10 := hide REST10
        clear hk10
        refine wp_region_noPanic ?_
        refine wp_region_held_drew (S := (fun _ => True)) (by kernel_rfl) (trivial) (fun hHeld => ?_)
        have hbd : Below wq.heap.size wq wq.drew := (Below.refl _ _).drew
        replace G := hide ((unhide G).call hbd)
        replace hZ := hide ((unhide hZ).call hbd)
        replace hT := hide ((unhide hT).call hbd)
        replace hO := hide ((unhide hO).call hbd)
        replace hn0 := hn0.call hbd
        clear hbd
        generalize wq.drew = Wd at *
        refine wpAnyH_take (i := 0) (oi := ?oi20001) (v := ?v20001) ?hi20001 (by kernel_rfl) (by kernel_rfl) (by kernel_rfl) (fun _ _ _ h => h) (Or.inl ⟨?hw20001, ?hy20001⟩) (by assumption) ?rest20001
        case hi20001 => (simp only [List.getElem?_toArray, List.getElem?_cons_zero]; rfl)
        case hw20001 => rfl
        case hy20001 => first | (intro wx hSw; go_simp; done) | (intro wx hSw; go_simp; with_reducible rfl)
        simp only [Act.put, List.setIfInBounds_toArray, List.set_cons_zero, List.set_cons_succ]
        refine wpAnyH_take (i := 3) (oi := ?oi20002) (v := ?v20002) ?hi20002 (by kernel_rfl) (by kernel_rfl) (by kernel_rfl) (fun _ _ _ h => h) (Or.inl ⟨?hw20002, ?hy20002⟩) (by assumption) ?rest20002
        case hi20002 => (simp only [List.getElem?_toArray, List.getElem?_cons_zero, List.getElem?_cons_succ]; rfl)
        case hw20002 => rfl
        case hy20002 => first | (intro wx hSw; go_simp; done) | (intro wx hSw; go_simp; with_reducible rfl)
        simp only [Act.put, List.setIfInBounds_toArray, List.set_cons_zero, List.set_cons_succ]
        refine wpAnyH_take (i := 6) (oi := ?oi20003) (v := ?v20003) ?hi20003 (by kernel_rfl) (by kernel_rfl) (by kernel_rfl) (fun _ _ _ h => h) (Or.inl ⟨?hw20003, ?hy20003⟩) (by assumption) ?rest20003
        case hi20003 => (simp only [List.getElem?_toArray, List.getElem?_cons_zero, List.getElem?_cons_succ]; rfl)
        case hw20003 => rfl
        case hy20003 => first | (intro wx hSw; go_simp; done) | (intro wx hSw; go_simp; with_reducible rfl)
        simp only [Act.put, List.setIfInBounds_toArray, List.set_cons_zero, List.set_cons_succ]
        refine wpAnyH_take (i := 7) (oi := ?oi20004) (v := ?v20004) ?hi20004 (by kernel_rfl) (by kernel_rfl) (by kernel_rfl) (fun _ _ _ h => h) (Or.inl ⟨?hw20004, ?hy20004⟩) (by assumption) ?rest20004
        case hi20004 => (simp only [List.getElem?_toArray, List.getElem?_cons_zero, List.getElem?_cons_succ]; rfl)
        case hw20004 => rfl
        case hy20004 => first | (intro wx hSw; go_simp; done) | (intro wx hSw; go_simp; with_reducible rfl)
        simp only [Act.put, List.setIfInBounds_toArray, List.set_cons_zero, List.set_cons_succ]
        refine wpAnyH_take (i := 8) (oi := ?oi20005) (v := ?v20005) ?hi20005 (by kernel_rfl) (by kernel_rfl) (by kernel_rfl) (fun _ _ _ h => h) (Or.inl ⟨?hw20005, ?hy20005⟩) (by assumption) ?rest20005
        case hi20005 => (simp only [List.getElem?_toArray, List.getElem?_cons_zero, List.getElem?_cons_succ]; rfl)
        case hw20005 => rfl
        case hy20005 => first | (intro wx hSw; go_simp; done) | (intro wx hSw; go_simp; with_reducible rfl)
        simp only [Act.put, List.setIfInBounds_toArray, List.set_cons_zero, List.set_cons_succ]
        refine wpAnyH_take (i := 9) (oi := ?oi20006) (v := ?v20006) ?hi20006 (by kernel_rfl) (by kernel_rfl) (by kernel_rfl) (fun _ _ _ h => h) (Or.inl ⟨?hw20006, ?hy20006⟩) (by assumption) ?rest20006
        case hi20006 => (simp only [List.getElem?_toArray, List.getElem?_cons_zero, List.getElem?_cons_succ]; rfl)
        case hw20006 => rfl
        case hy20006 => first | (intro wx hSw; go_simp; done) | (intro wx hSw; go_simp; with_reducible rfl)
        simp only [Act.put, List.setIfInBounds_toArray, List.set_cons_zero, List.set_cons_succ]
        refine wpAnyH_take (i := 10) (oi := ?oi20007) (v := ?v20007) ?hi20007 (by kernel_rfl) (by kernel_rfl) (by kernel_rfl) (fun _ _ _ h => h) (Or.inl ⟨?hw20007, ?hy20007⟩) (by assumption) ?rest20007
        case hi20007 => (simp only [List.getElem?_toArray, List.getElem?_cons_zero, List.getElem?_cons_succ]; rfl)
        case hw20007 => rfl
        case hy20007 => first | (intro wx hSw; go_simp; done) | (intro wx hSw; go_simp; with_reducible rfl)
        simp only [Act.put, List.setIfInBounds_toArray, List.set_cons_zero, List.set_cons_succ]
        refine wpAnyH_take (i := 11) (oi := ?oi20008) (v := ?v20008) ?hi20008 (by kernel_rfl) (by kernel_rfl) (by kernel_rfl) (fun _ _ _ h => h) (Or.inl ⟨?hw20008, ?hy20008⟩) (by assumption) ?rest20008
        case hi20008 => (simp only [List.getElem?_toArray, List.getElem?_cons_zero, List.getElem?_cons_succ]; rfl)
        case hw20008 => rfl
        case hy20008 => first | (intro wx hSw; go_simp; done) | (intro wx hSw; go_simp; with_reducible rfl)
        simp only [Act.put, List.setIfInBounds_toArray, List.set_cons_zero, List.set_cons_succ]
        refine wpAnyH_take (i := 12) (oi := ?oi20009) (v := ?v20009) ?hi20009 (by kernel_rfl) (by kernel_rfl) (by kernel_rfl) (fun _ _ _ h => h) (Or.inl ⟨?hw20009, ?hy20009⟩) (by assumption) ?rest20009
        case hi20009 => (simp only [List.getElem?_toArray, List.getElem?_cons_zero, List.getElem?_cons_succ]; rfl)
        case hw20009 => rfl
        case hy20009 => first | (intro wx hSw; go_simp; done) | (intro wx hSw; go_simp; with_reducible rfl)
        simp only [Act.put, List.setIfInBounds_toArray, List.set_cons_zero, List.set_cons_succ]
        have hty : 1 ≤ IntKind.i64.wrap (1 + m.tmod 5) ∧ IntKind.i64.wrap (1 + m.tmod 5) ≤ 5 := by rw [Int.tmod_eq_emod_of_nonneg hm0.1, e3]; omega
        generalize IntKind.i64.wrap (1 + m.tmod 5) = ty at *
        generalize ((IntKind.i64.wrap (m.tdiv 5)).tmod 3 == 0) = bb at *
        have lt_ := (unhide hT).lt
        have t1 := (unhide hT).cell 1
        simp at t1
        refine wpAnyH_ready (rs := [1, 2]) (by kernel_rfl) (by simp) ?_
        refine AllReadyH.cons rfl (fun K20010 hK20010 => ?_) ?_
        · go_simp
          refine hK20010.out _ _ ?hs20010 (fun hHeld20010 => ?_)
          case hs20010 => exact trivial
          clear hHeld
          have hHeld := hHeld20010; clear hHeld20010 hK20010 K20010
          refine wpAnyH_ready (rs := [2]) (by kernel_rfl) (by simp) ?_
          refine AllReadyH.cons rfl (fun K20011 hK20011 => ?_) AllReadyH.nil
          go_simp
          go_wp2_with (go_at_call 35; refine (colsN_any _).mono ?_; rintro e X2 ⟨gn, rfl, hN, hb⟩)
          refine hK20011.out _ _ ?hs20011 (fun hHeld20011 => ?_)
          case hs20011 => exact trivial
          clear hHeld
          have hHeld := hHeld20011; clear hHeld20011 hK20011 K20011
          replace G := hide ((unhide G).call hb)
          replace hZ := hide ((unhide hZ).call hb)
          replace hT := hide ((unhide hT).call hb)
          replace hO := hide ((unhide hO).call hb)
          replace hn0 := hn0.call hb
          clear hb lt_ t1
          have lt_ := (unhide hT).lt
          have t1 := (unhide hT).cell 1
          simp at t1
          have ln_ := (unhide hN).lt
          obtain ⟨nm, hnm, hnc⟩ : ∃ nm, Hid (nm = nmK l.length) ∧ X2.cell? ⟨gn, l.length, none⟩ = some (.string nm) := by
            have hl4 : l.length = 0 ∨ l.length = 1 ∨ l.length = 2 ∨ l.length = 3 := by omega
            rcases hl4 with h | h | h | h <;> rw [h] <;> exact ⟨_, rfl, (unhide hN).cell _⟩
          have hl6 : (l.length : Int) < 6 := by omega
          refine wpAnyH_take (i := 4) (oi := ?oi20012) (v := ?v20012) ?hi20012 (by kernel_rfl) (by kernel_rfl) (by kernel_rfl) (fun _ _ _ h => h) (Or.inl ⟨?hw20012, ?hy20012⟩) (by assumption) ?rest20012
          case hi20012 => (simp only [List.getElem?_toArray, List.getElem?_cons_zero, List.getElem?_cons_succ]; rfl)
          case hw20012 => rfl
          case hy20012 => first | (intro wx hSw; have hl6_ := hl6; go_simp; done) | (intro wx hSw; have hl6_ := hl6; go_simp; with_reducible rfl)
          simp only [Act.put, List.setIfInBounds_toArray, List.set_cons_zero, List.set_cons_succ]
          refine wpAnyH_ready (rs := [5]) (by kernel_rfl) (by simp) ?_
          refine AllReadyH.cons rfl (fun K20013 hK20013 => ?_) AllReadyH.nil
          go_simp
          refine hK20013.out _ _ ?hs20013 (fun hHeld20013 => ?_)
          case hs20013 => exact trivial
          clear hHeld
          have hHeld := hHeld20013; clear hHeld20013 hK20013 K20013
          refine wpAnyH_take (i := 13) (oi := ?oi20014) (v := ?v20014) ?hi20014 (by kernel_rfl) (by kernel_rfl) (by kernel_rfl) (fun _ _ _ h => h) (Or.inl ⟨?hw20014, ?hy20014⟩) (by assumption) ?rest20014
          case hi20014 => (simp only [List.getElem?_toArray, List.getElem?_cons_zero, List.getElem?_cons_succ]; rfl)
          case hw20014 => rfl
          case hy20014 => first | (intro wx hSw; go_simp; done) | (intro wx hSw; go_simp; with_reducible rfl)
          simp only [Act.put, List.setIfInBounds_toArray, List.set_cons_zero, List.set_cons_succ]
          refine wpAnyH_ready (rs := [14]) (by kernel_rfl) (by simp) ?_
          refine AllReadyH.cons rfl (fun K20015 hK20015 => ?_) AllReadyH.nil
          go_simp
          have hb := below_new X2 (.cells #[.string nm, .int .i64 ty, .bool bb] 63)
          have hs3 := cells_three_at X2 _ rfl (.string nm) (.int .i64 ty) (.bool bb) 63
          refine hK20015.out _ _ ?hs20015 (fun hHeld20015 => ?_)
          case hs20015 => exact trivial
          clear hHeld
          have hHeld := hHeld20015; clear hHeld20015 hK20015 K20015
          replace G := hide ((unhide G).call hb)
          replace hZ := hide ((unhide hZ).call hb)
          replace hT := hide ((unhide hT).call hb)
          replace hO := hide ((unhide hO).call hb)
          replace hn0 := hn0.call hb
          clear lt_ t1
          generalize hgs : X2.heap.size = gs at *
          generalize hXs : X2.alloc (.cells #[.string nm, .int .i64 ty, .bool bb] 63) = X3 at *
          clear hXs hgs hb
          have lt_ := (unhide hT).lt
          have t1 := (unhide hT).cell 1
          simp at t1
          refine wpAnyH_ready (rs := [15]) (by kernel_rfl) (by simp) ?_
          refine AllReadyH.cons rfl (fun K20016 hK20016 => ?_) AllReadyH.nil
          refine step_append_lies _ rfl _ _ 26 rfl n0 63 i0 _ 3 32 Try.underlying26 hi hz0 hz1 hz2 rfl (by decide) cv _ _ rfl (unhide hO) ⟨gs, 0, none⟩ 1 1 [.string nm, .int .i64 ty, .bool bb] rfl rfl hs3 (by simp [Value.oneCell']) (by decide) (by unfold maxLen; omega) (by omega) hn0 _ rfl ?_
          intro g2 cp2 w4 hown4 hgrow4 hat4 hlt4
          have hB4 : Below n0 X3 w4 := Below.grown (Below.refl _ _) hgrow4 hn0 (fun j e => by rcases (unhide hO).2 with ⟨rfl, _⟩ | ⟨g', cap', cur', rfl, hge', _⟩ <;> simp [Value.ownBlock] at e; omega)
          refine hK20016.out _ _ ?hs20016 (fun hHeld20016 => ?_)
          case hs20016 => exact trivial
          clear hHeld
          have hHeld := hHeld20016; clear hHeld20016 hK20016 K20016
          have hw0 : w.heap.size ≤ n0 := by omega
          have G4 : Hid (Grown w w4) := hide (Below.trans (unhide G) (hB4.mono hw0))
          have Z4_ := hide (blk_base (unhide hZ) hB4 h6)
          have T4_ := hide (blk_base (unhide hT) hB4 ht)
          have lt4 := (unhide T4_).lt
          have q1 := (unhide T4_).cell 1
          have f1 := (unhide T4_).froz 1
          simp at q1
          have G5 : Hid (Grown w (w4.setCell ⟨bt, 1, none⟩ (.slice (some ⟨g2, 0, none⟩) (l.length + 1) cp2))) := hide (Below.setCell (unhide G4 : Below w.heap.size w w4) (p := ⟨bt, 1, none⟩) hwt _)
          have Z5 := hide ((unhide Z4_).set h6t 1 (.slice (some ⟨g2, 0, none⟩) (l.length + 1) cp2))
          have T5 : Hid (Blk bt (tbl s0 (.slice (some ⟨g2, 0, none⟩) (l.length + 1) cp2) (.int .i64 0) (.slice none 0 0) (.slice none 0 0)) 34 (w4.setCell ⟨bt, 1, none⟩ (.slice (some ⟨g2, 0, none⟩) (l.length + 1) cp2))) := hide (heapSet (unhide T4_) 1 (.slice (some ⟨g2, 0, none⟩) (l.length + 1) cp2))
          have O5 : Hid (OwC n0 (.slice (some ⟨g2, 0, none⟩) (l.length + 1) cp2) (l ++ [(nm, ty, bb)]) (w4.setCell ⟨bt, 1, none⟩ (.slice (some ⟨g2, 0, none⟩) (l.length + 1) cp2))) := by
            have := owns_set (b := bt) hown4 ht 1 (.slice (some ⟨g2, 0, none⟩) (l.length + 1) cp2)
            show World.ownsRow _ _ _ _ _ _ _
            rw [colC_snoc]; simpa using this
          have N5 : LeN n0 (w4.setCell ⟨bt, 1, none⟩ (.slice (some ⟨g2, 0, none⟩) (l.length + 1) cp2)) := by have h1 := Nat.le_trans hn0 hB4.size; unfold LeN; simpa using h1
          refine wpAnyH_take (i := 16) (oi := ?oi20017) (v := ?v20017) ?hi20017 (by kernel_rfl) (by kernel_rfl) (by kernel_rfl) (fun _ _ _ h => h) (Or.inl ⟨?hw20017, ?hy20017⟩) (by assumption) ?rest20017
          case hi20017 => (simp only [List.getElem?_toArray, List.getElem?_cons_zero, List.getElem?_cons_succ]; rfl)
          case hw20017 => rfl
          case hy20017 => first | (intro wx hSw; go_simp; done) | (intro wx hSw; go_simp; with_reducible rfl)
          simp only [Act.put, List.setIfInBounds_toArray, List.set_cons_zero, List.set_cons_succ]
          refine wpAnyH_ready (rs := [17]) (by kernel_rfl) (by simp) ?_
          refine AllReadyH.cons rfl (fun K20018 hK20018 => ?_) AllReadyH.nil
          go_simp
          refine hK20018.out _ _ ?hs20018 (fun hHeld20018 => ?_)
          case hs20018 => exact trivial
          clear hHeld
          have hHeld := hHeld20018; clear hHeld20018 hK20018 K20018
          refine wpAnyH_done (by kernel_rfl) ?_ _
          refine NoPanic.normal ?_
          skip
          exact unhide REST10 _ _ (nm, ty, bb) _ (by kernel_rfl) (unhide hnm) hty G5 Z5 T5 O5 N5
        refine AllReadyH.cons rfl (fun K20019 hK20019 => ?_) AllReadyH.nil
        · go_simp
          go_wp2_with (go_at_call 35; refine (colsN_any _).mono ?_; rintro e X2 ⟨gn, rfl, hN, hb⟩)
          refine hK20019.out _ _ ?hs20019 (fun hHeld20019 => ?_)
          case hs20019 => exact trivial
          clear hHeld
          have hHeld := hHeld20019; clear hHeld20019 hK20019 K20019
          replace G := hide ((unhide G).call hb)
          replace hZ := hide ((unhide hZ).call hb)
          replace hT := hide ((unhide hT).call hb)
          replace hO := hide ((unhide hO).call hb)
          replace hn0 := hn0.call hb
          clear hb lt_ t1
          have lt_ := (unhide hT).lt
          have t1 := (unhide hT).cell 1
          simp at t1
          have ln_ := (unhide hN).lt
          obtain ⟨nm, hnm, hnc⟩ : ∃ nm, Hid (nm = nmK l.length) ∧ X2.cell? ⟨gn, l.length, none⟩ = some (.string nm) := by
            have hl4 : l.length = 0 ∨ l.length = 1 ∨ l.length = 2 ∨ l.length = 3 := by omega
            rcases hl4 with h | h | h | h <;> rw [h] <;> exact ⟨_, rfl, (unhide hN).cell _⟩
          have hl6 : (l.length : Int) < 6 := by omega
          refine wpAnyH_take (i := 4) (oi := ?oi20020) (v := ?v20020) ?hi20020 (by kernel_rfl) (by kernel_rfl) (by kernel_rfl) (fun _ _ _ h => h) (Or.inl ⟨?hw20020, ?hy20020⟩) (by assumption) ?rest20020
          case hi20020 => (simp only [List.getElem?_toArray, List.getElem?_cons_zero, List.getElem?_cons_succ]; rfl)
          case hw20020 => rfl
          case hy20020 => first | (intro wx hSw; have hl6_ := hl6; go_simp; done) | (intro wx hSw; have hl6_ := hl6; go_simp; with_reducible rfl)
          simp only [Act.put, List.setIfInBounds_toArray, List.set_cons_zero, List.set_cons_succ]
          refine wpAnyH_ready (rs := [1, 5]) (by kernel_rfl) (by simp) ?_
          refine AllReadyH.cons rfl (fun K20021 hK20021 => ?_) ?_
          · go_simp
            refine hK20021.out _ _ ?hs20021 (fun hHeld20021 => ?_)
            case hs20021 => exact trivial
            clear hHeld
            have hHeld := hHeld20021; clear hHeld20021 hK20021 K20021
            refine wpAnyH_ready (rs := [5]) (by kernel_rfl) (by simp) ?_
            refine AllReadyH.cons rfl (fun K20022 hK20022 => ?_) AllReadyH.nil
            go_simp
            refine hK20022.out _ _ ?hs20022 (fun hHeld20022 => ?_)
            case hs20022 => exact trivial
            clear hHeld
            have hHeld := hHeld20022; clear hHeld20022 hK20022 K20022
            refine wpAnyH_take (i := 13) (oi := ?oi20023) (v := ?v20023) ?hi20023 (by kernel_rfl) (by kernel_rfl) (by kernel_rfl) (fun _ _ _ h => h) (Or.inl ⟨?hw20023, ?hy20023⟩) (by assumption) ?rest20023
            case hi20023 => (simp only [List.getElem?_toArray, List.getElem?_cons_zero, List.getElem?_cons_succ]; rfl)
            case hw20023 => rfl
            case hy20023 => first | (intro wx hSw; go_simp; done) | (intro wx hSw; go_simp; with_reducible rfl)
            simp only [Act.put, List.setIfInBounds_toArray, List.set_cons_zero, List.set_cons_succ]
            refine wpAnyH_ready (rs := [14]) (by kernel_rfl) (by simp) ?_
            refine AllReadyH.cons rfl (fun K20024 hK20024 => ?_) AllReadyH.nil
            go_simp
            have hb := below_new X2 (.cells #[.string nm, .int .i64 ty, .bool bb] 63)
            have hs3 := cells_three_at X2 _ rfl (.string nm) (.int .i64 ty) (.bool bb) 63
            refine hK20024.out _ _ ?hs20024 (fun hHeld20024 => ?_)
            case hs20024 => exact trivial
            clear hHeld
            have hHeld := hHeld20024; clear hHeld20024 hK20024 K20024
            replace G := hide ((unhide G).call hb)
            replace hZ := hide ((unhide hZ).call hb)
            replace hT := hide ((unhide hT).call hb)
            replace hO := hide ((unhide hO).call hb)
            replace hn0 := hn0.call hb
            clear lt_ t1
            generalize hgs : X2.heap.size = gs at *
            generalize hXs : X2.alloc (.cells #[.string nm, .int .i64 ty, .bool bb] 63) = X3 at *
            clear hXs hgs hb
            have lt_ := (unhide hT).lt
            have t1 := (unhide hT).cell 1
            simp at t1
            refine wpAnyH_ready (rs := [15]) (by kernel_rfl) (by simp) ?_
            refine AllReadyH.cons rfl (fun K20025 hK20025 => ?_) AllReadyH.nil
            refine step_append_lies _ rfl _ _ 26 rfl n0 63 i0 _ 3 32 Try.underlying26 hi hz0 hz1 hz2 rfl (by decide) cv _ _ rfl (unhide hO) ⟨gs, 0, none⟩ 1 1 [.string nm, .int .i64 ty, .bool bb] rfl rfl hs3 (by simp [Value.oneCell']) (by decide) (by unfold maxLen; omega) (by omega) hn0 _ rfl ?_
            intro g2 cp2 w4 hown4 hgrow4 hat4 hlt4
            have hB4 : Below n0 X3 w4 := Below.grown (Below.refl _ _) hgrow4 hn0 (fun j e => by rcases (unhide hO).2 with ⟨rfl, _⟩ | ⟨g', cap', cur', rfl, hge', _⟩ <;> simp [Value.ownBlock] at e; omega)
            refine hK20025.out _ _ ?hs20025 (fun hHeld20025 => ?_)
            case hs20025 => exact trivial
            clear hHeld
            have hHeld := hHeld20025; clear hHeld20025 hK20025 K20025
            have hw0 : w.heap.size ≤ n0 := by omega
            have G4 : Hid (Grown w w4) := hide (Below.trans (unhide G) (hB4.mono hw0))
            have Z4_ := hide (blk_base (unhide hZ) hB4 h6)
            have T4_ := hide (blk_base (unhide hT) hB4 ht)
            have lt4 := (unhide T4_).lt
            have q1 := (unhide T4_).cell 1
            have f1 := (unhide T4_).froz 1
            simp at q1
            have G5 : Hid (Grown w (w4.setCell ⟨bt, 1, none⟩ (.slice (some ⟨g2, 0, none⟩) (l.length + 1) cp2))) := hide (Below.setCell (unhide G4 : Below w.heap.size w w4) (p := ⟨bt, 1, none⟩) hwt _)
            have Z5 := hide ((unhide Z4_).set h6t 1 (.slice (some ⟨g2, 0, none⟩) (l.length + 1) cp2))
            have T5 : Hid (Blk bt (tbl s0 (.slice (some ⟨g2, 0, none⟩) (l.length + 1) cp2) (.int .i64 0) (.slice none 0 0) (.slice none 0 0)) 34 (w4.setCell ⟨bt, 1, none⟩ (.slice (some ⟨g2, 0, none⟩) (l.length + 1) cp2))) := hide (heapSet (unhide T4_) 1 (.slice (some ⟨g2, 0, none⟩) (l.length + 1) cp2))
            have O5 : Hid (OwC n0 (.slice (some ⟨g2, 0, none⟩) (l.length + 1) cp2) (l ++ [(nm, ty, bb)]) (w4.setCell ⟨bt, 1, none⟩ (.slice (some ⟨g2, 0, none⟩) (l.length + 1) cp2))) := by
              have := owns_set (b := bt) hown4 ht 1 (.slice (some ⟨g2, 0, none⟩) (l.length + 1) cp2)
              show World.ownsRow _ _ _ _ _ _ _
              rw [colC_snoc]; simpa using this
            have N5 : LeN n0 (w4.setCell ⟨bt, 1, none⟩ (.slice (some ⟨g2, 0, none⟩) (l.length + 1) cp2)) := by have h1 := Nat.le_trans hn0 hB4.size; unfold LeN; simpa using h1
            refine wpAnyH_take (i := 16) (oi := ?oi20026) (v := ?v20026) ?hi20026 (by kernel_rfl) (by kernel_rfl) (by kernel_rfl) (fun _ _ _ h => h) (Or.inl ⟨?hw20026, ?hy20026⟩) (by assumption) ?rest20026
            case hi20026 => (simp only [List.getElem?_toArray, List.getElem?_cons_zero, List.getElem?_cons_succ]; rfl)
            case hw20026 => rfl
            case hy20026 => first | (intro wx hSw; go_simp; done) | (intro wx hSw; go_simp; with_reducible rfl)
            simp only [Act.put, List.setIfInBounds_toArray, List.set_cons_zero, List.set_cons_succ]
            refine wpAnyH_ready (rs := [17]) (by kernel_rfl) (by simp) ?_
            refine AllReadyH.cons rfl (fun K20027 hK20027 => ?_) AllReadyH.nil
            go_simp
            refine hK20027.out _ _ ?hs20027 (fun hHeld20027 => ?_)
            case hs20027 => exact trivial
            clear hHeld
            have hHeld := hHeld20027; clear hHeld20027 hK20027 K20027
            refine wpAnyH_done (by kernel_rfl) ?_ _
            refine NoPanic.normal ?_
            skip
            exact unhide REST10 _ _ (nm, ty, bb) _ (by kernel_rfl) (unhide hnm) hty G5 Z5 T5 O5 N5
          refine AllReadyH.cons rfl (fun K20028 hK20028 => ?_) AllReadyH.nil
          · go_simp
            refine hK20028.out _ _ ?hs20028 (fun hHeld20028 => ?_)
            case hs20028 => exact trivial
            clear hHeld
            have hHeld := hHeld20028; clear hHeld20028 hK20028 K20028
            refine wpAnyH_take (i := 13) (oi := ?oi20029) (v := ?v20029) ?hi20029 (by kernel_rfl) (by kernel_rfl) (by kernel_rfl) (fun _ _ _ h => h) (Or.inl ⟨?hw20029, ?hy20029⟩) (by assumption) ?rest20029
            case hi20029 => (simp only [List.getElem?_toArray, List.getElem?_cons_zero, List.getElem?_cons_succ]; rfl)
            case hw20029 => rfl
            case hy20029 => first | (intro wx hSw; go_simp; done) | (intro wx hSw; go_simp; with_reducible rfl)
            simp only [Act.put, List.setIfInBounds_toArray, List.set_cons_zero, List.set_cons_succ]
            refine wpAnyH_ready (rs := [1, 14]) (by kernel_rfl) (by simp) ?_
            refine AllReadyH.cons rfl (fun K20030 hK20030 => ?_) ?_
            · go_simp
              refine hK20030.out _ _ ?hs20030 (fun hHeld20030 => ?_)
              case hs20030 => exact trivial
              clear hHeld
              have hHeld := hHeld20030; clear hHeld20030 hK20030 K20030
              refine wpAnyH_ready (rs := [14]) (by kernel_rfl) (by simp) ?_
              refine AllReadyH.cons rfl (fun K20031 hK20031 => ?_) AllReadyH.nil
              go_simp
              have hb := below_new X2 (.cells #[.string nm, .int .i64 ty, .bool bb] 63)
              have hs3 := cells_three_at X2 _ rfl (.string nm) (.int .i64 ty) (.bool bb) 63
              refine hK20031.out _ _ ?hs20031 (fun hHeld20031 => ?_)
              case hs20031 => exact trivial
              clear hHeld
              have hHeld := hHeld20031; clear hHeld20031 hK20031 K20031
              replace G := hide ((unhide G).call hb)
              replace hZ := hide ((unhide hZ).call hb)
              replace hT := hide ((unhide hT).call hb)
              replace hO := hide ((unhide hO).call hb)
              replace hn0 := hn0.call hb
              clear lt_ t1
              generalize hgs : X2.heap.size = gs at *
              generalize hXs : X2.alloc (.cells #[.string nm, .int .i64 ty, .bool bb] 63) = X3 at *
              clear hXs hgs hb
              have lt_ := (unhide hT).lt
              have t1 := (unhide hT).cell 1
              simp at t1
              refine wpAnyH_ready (rs := [15]) (by kernel_rfl) (by simp) ?_
              refine AllReadyH.cons rfl (fun K20032 hK20032 => ?_) AllReadyH.nil
              refine step_append_lies _ rfl _ _ 26 rfl n0 63 i0 _ 3 32 Try.underlying26 hi hz0 hz1 hz2 rfl (by decide) cv _ _ rfl (unhide hO) ⟨gs, 0, none⟩ 1 1 [.string nm, .int .i64 ty, .bool bb] rfl rfl hs3 (by simp [Value.oneCell']) (by decide) (by unfold maxLen; omega) (by omega) hn0 _ rfl ?_
              intro g2 cp2 w4 hown4 hgrow4 hat4 hlt4
              have hB4 : Below n0 X3 w4 := Below.grown (Below.refl _ _) hgrow4 hn0 (fun j e => by rcases (unhide hO).2 with ⟨rfl, _⟩ | ⟨g', cap', cur', rfl, hge', _⟩ <;> simp [Value.ownBlock] at e; omega)
              refine hK20032.out _ _ ?hs20032 (fun hHeld20032 => ?_)
              case hs20032 => exact trivial
              clear hHeld
              have hHeld := hHeld20032; clear hHeld20032 hK20032 K20032
              have hw0 : w.heap.size ≤ n0 := by omega
              have G4 : Hid (Grown w w4) := hide (Below.trans (unhide G) (hB4.mono hw0))
              have Z4_ := hide (blk_base (unhide hZ) hB4 h6)
              have T4_ := hide (blk_base (unhide hT) hB4 ht)
              have lt4 := (unhide T4_).lt
              have q1 := (unhide T4_).cell 1
              have f1 := (unhide T4_).froz 1
              simp at q1
              have G5 : Hid (Grown w (w4.setCell ⟨bt, 1, none⟩ (.slice (some ⟨g2, 0, none⟩) (l.length + 1) cp2))) := hide (Below.setCell (unhide G4 : Below w.heap.size w w4) (p := ⟨bt, 1, none⟩) hwt _)
              have Z5 := hide ((unhide Z4_).set h6t 1 (.slice (some ⟨g2, 0, none⟩) (l.length + 1) cp2))
              have T5 : Hid (Blk bt (tbl s0 (.slice (some ⟨g2, 0, none⟩) (l.length + 1) cp2) (.int .i64 0) (.slice none 0 0) (.slice none 0 0)) 34 (w4.setCell ⟨bt, 1, none⟩ (.slice (some ⟨g2, 0, none⟩) (l.length + 1) cp2))) := hide (heapSet (unhide T4_) 1 (.slice (some ⟨g2, 0, none⟩) (l.length + 1) cp2))
              have O5 : Hid (OwC n0 (.slice (some ⟨g2, 0, none⟩) (l.length + 1) cp2) (l ++ [(nm, ty, bb)]) (w4.setCell ⟨bt, 1, none⟩ (.slice (some ⟨g2, 0, none⟩) (l.length + 1) cp2))) := by
                have := owns_set (b := bt) hown4 ht 1 (.slice (some ⟨g2, 0, none⟩) (l.length + 1) cp2)
                show World.ownsRow _ _ _ _ _ _ _
                rw [colC_snoc]; simpa using this
              have N5 : LeN n0 (w4.setCell ⟨bt, 1, none⟩ (.slice (some ⟨g2, 0, none⟩) (l.length + 1) cp2)) := by have h1 := Nat.le_trans hn0 hB4.size; unfold LeN; simpa using h1
              refine wpAnyH_take (i := 16) (oi := ?oi20033) (v := ?v20033) ?hi20033 (by kernel_rfl) (by kernel_rfl) (by kernel_rfl) (fun _ _ _ h => h) (Or.inl ⟨?hw20033, ?hy20033⟩) (by assumption) ?rest20033
              case hi20033 => (simp only [List.getElem?_toArray, List.getElem?_cons_zero, List.getElem?_cons_succ]; rfl)
              case hw20033 => rfl
              case hy20033 => first | (intro wx hSw; go_simp; done) | (intro wx hSw; go_simp; with_reducible rfl)
              simp only [Act.put, List.setIfInBounds_toArray, List.set_cons_zero, List.set_cons_succ]
              refine wpAnyH_ready (rs := [17]) (by kernel_rfl) (by simp) ?_
              refine AllReadyH.cons rfl (fun K20034 hK20034 => ?_) AllReadyH.nil
              go_simp
              refine hK20034.out _ _ ?hs20034 (fun hHeld20034 => ?_)
              case hs20034 => exact trivial
              clear hHeld
              have hHeld := hHeld20034; clear hHeld20034 hK20034 K20034
              refine wpAnyH_done (by kernel_rfl) ?_ _
              refine NoPanic.normal ?_
              skip
              exact unhide REST10 _ _ (nm, ty, bb) _ (by kernel_rfl) (unhide hnm) hty G5 Z5 T5 O5 N5
            refine AllReadyH.cons rfl (fun K20035 hK20035 => ?_) AllReadyH.nil
            · go_simp
              have hb := below_new X2 (.cells #[.string nm, .int .i64 ty, .bool bb] 63)
              have hs3 := cells_three_at X2 _ rfl (.string nm) (.int .i64 ty) (.bool bb) 63
              refine hK20035.out _ _ ?hs20035 (fun hHeld20035 => ?_)
              case hs20035 => exact trivial
              clear hHeld
              have hHeld := hHeld20035; clear hHeld20035 hK20035 K20035
              replace G := hide ((unhide G).call hb)
              replace hZ := hide ((unhide hZ).call hb)
              replace hT := hide ((unhide hT).call hb)
              replace hO := hide ((unhide hO).call hb)
              replace hn0 := hn0.call hb
              clear lt_ t1
              generalize hgs : X2.heap.size = gs at *
              generalize hXs : X2.alloc (.cells #[.string nm, .int .i64 ty, .bool bb] 63) = X3 at *
              clear hXs hgs hb
              have lt_ := (unhide hT).lt
              have t1 := (unhide hT).cell 1
              simp at t1
              refine wpAnyH_ready (rs := [1]) (by kernel_rfl) (by simp) ?_
              refine AllReadyH.cons rfl (fun K20036 hK20036 => ?_) AllReadyH.nil
              go_simp
              refine hK20036.out _ _ ?hs20036 (fun hHeld20036 => ?_)
              case hs20036 => exact trivial
              clear hHeld
              have hHeld := hHeld20036; clear hHeld20036 hK20036 K20036
              refine wpAnyH_ready (rs := [15]) (by kernel_rfl) (by simp) ?_
              refine AllReadyH.cons rfl (fun K20037 hK20037 => ?_) AllReadyH.nil
              refine step_append_lies _ rfl _ _ 26 rfl n0 63 i0 _ 3 32 Try.underlying26 hi hz0 hz1 hz2 rfl (by decide) cv _ _ rfl (unhide hO) ⟨gs, 0, none⟩ 1 1 [.string nm, .int .i64 ty, .bool bb] rfl rfl hs3 (by simp [Value.oneCell']) (by decide) (by unfold maxLen; omega) (by omega) hn0 _ rfl ?_
              intro g2 cp2 w4 hown4 hgrow4 hat4 hlt4
              have hB4 : Below n0 X3 w4 := Below.grown (Below.refl _ _) hgrow4 hn0 (fun j e => by rcases (unhide hO).2 with ⟨rfl, _⟩ | ⟨g', cap', cur', rfl, hge', _⟩ <;> simp [Value.ownBlock] at e; omega)
              refine hK20037.out _ _ ?hs20037 (fun hHeld20037 => ?_)
              case hs20037 => exact trivial
              clear hHeld
              have hHeld := hHeld20037; clear hHeld20037 hK20037 K20037
              have hw0 : w.heap.size ≤ n0 := by omega
              have G4 : Hid (Grown w w4) := hide (Below.trans (unhide G) (hB4.mono hw0))
              have Z4_ := hide (blk_base (unhide hZ) hB4 h6)
              have T4_ := hide (blk_base (unhide hT) hB4 ht)
              have lt4 := (unhide T4_).lt
              have q1 := (unhide T4_).cell 1
              have f1 := (unhide T4_).froz 1
              simp at q1
              have G5 : Hid (Grown w (w4.setCell ⟨bt, 1, none⟩ (.slice (some ⟨g2, 0, none⟩) (l.length + 1) cp2))) := hide (Below.setCell (unhide G4 : Below w.heap.size w w4) (p := ⟨bt, 1, none⟩) hwt _)
              have Z5 := hide ((unhide Z4_).set h6t 1 (.slice (some ⟨g2, 0, none⟩) (l.length + 1) cp2))
              have T5 : Hid (Blk bt (tbl s0 (.slice (some ⟨g2, 0, none⟩) (l.length + 1) cp2) (.int .i64 0) (.slice none 0 0) (.slice none 0 0)) 34 (w4.setCell ⟨bt, 1, none⟩ (.slice (some ⟨g2, 0, none⟩) (l.length + 1) cp2))) := hide (heapSet (unhide T4_) 1 (.slice (some ⟨g2, 0, none⟩) (l.length + 1) cp2))
              have O5 : Hid (OwC n0 (.slice (some ⟨g2, 0, none⟩) (l.length + 1) cp2) (l ++ [(nm, ty, bb)]) (w4.setCell ⟨bt, 1, none⟩ (.slice (some ⟨g2, 0, none⟩) (l.length + 1) cp2))) := by
                have := owns_set (b := bt) hown4 ht 1 (.slice (some ⟨g2, 0, none⟩) (l.length + 1) cp2)
                show World.ownsRow _ _ _ _ _ _ _
                rw [colC_snoc]; simpa using this
              have N5 : LeN n0 (w4.setCell ⟨bt, 1, none⟩ (.slice (some ⟨g2, 0, none⟩) (l.length + 1) cp2)) := by have h1 := Nat.le_trans hn0 hB4.size; unfold LeN; simpa using h1
              refine wpAnyH_take (i := 16) (oi := ?oi20038) (v := ?v20038) ?hi20038 (by kernel_rfl) (by kernel_rfl) (by kernel_rfl) (fun _ _ _ h => h) (Or.inl ⟨?hw20038, ?hy20038⟩) (by assumption) ?rest20038
              case hi20038 => (simp only [List.getElem?_toArray, List.getElem?_cons_zero, List.getElem?_cons_succ]; rfl)
              case hw20038 => rfl
              case hy20038 => first | (intro wx hSw; go_simp; done) | (intro wx hSw; go_simp; with_reducible rfl)
              simp only [Act.put, List.setIfInBounds_toArray, List.set_cons_zero, List.set_cons_succ]
              refine wpAnyH_ready (rs := [17]) (by kernel_rfl) (by simp) ?_
              refine AllReadyH.cons rfl (fun K20039 hK20039 => ?_) AllReadyH.nil
              go_simp
              refine hK20039.out _ _ ?hs20039 (fun hHeld20039 => ?_)
              case hs20039 => exact trivial
              clear hHeld
              have hHeld := hHeld20039; clear hHeld20039 hK20039 K20039
              refine wpAnyH_done (by kernel_rfl) ?_ _
              refine NoPanic.normal ?_
              skip
              exact unhide REST10 _ _ (nm, ty, bb) _ (by kernel_rfl) (unhide hnm) hty G5 Z5 T5 O5 N5
      · have hni : ¬ (l.length : Int) < zs.length := by omega
        have hm0 : 0 ≤ 2 + (l.length : Int) ∧ 2 + (l.length : Int) < 1073741824 := by omega
        have e3 : IntKind.i64.wrap (1 + (2 + (l.length : Int)) % 5) = 1 + (2 + (l.length : Int)) % 5 := IntWalk.i64_in _ (by omega)
        go_wp2_with fail
        rename_i K10 hk10
        have REST10 : ∀ (ac : Act) (cv : Value) (c : C3) (X : World), ac = ⟨#[.int .i64 n, .slice p zs.length np, o 2, o 3, o 4, o 5, .pointer (some ⟨b6, 0, none⟩), .pointer (some ⟨bt, 0, none⟩), .int .i64 (k : Int), .int .i64 (l.length : Int), ac.tmps.getD 10 undef, o 11, o 12, o 13, o 14, o 15, o 16, o 17, o 18, o 19, o 20, o 21, ac.tmps.getD 22 undef, ac.tmps.getD 23 undef, ac.tmps.getD 24 undef, ac.tmps.getD 25 undef, ac.tmps.getD 26 undef, ac.tmps.getD 27 undef, ac.tmps.getD 28 undef, ac.tmps.getD 29 undef, ac.tmps.getD 30 undef, ac.tmps.getD 31 undef, ac.tmps.getD 32 undef, ac.tmps.getD 33 undef, ac.tmps.getD 34 undef, ac.tmps.getD 35 undef, ac.tmps.getD 36 undef, ac.tmps.getD 37 undef, ac.tmps.getD 38 undef, ac.tmps.getD 39 undef, ac.tmps.getD 40 undef, ac.tmps.getD 41 undef, ac.tmps.getD 42 undef, ac.tmps.getD 43 undef, ac.tmps.getD 44 undef, ac.tmps.getD 45 undef, ac.tmps.getD 46 undef, ac.tmps.getD 47 undef, ac.tmps.getD 48 undef, ac.tmps.getD 49 undef, ac.tmps.getD 50 undef, ac.tmps.getD 51 undef, ac.tmps.getD 52 undef, ac.tmps.getD 53 undef, ac.tmps.getD 54 undef, o 55, o 56, o 57, o 58, o 59, o 60, o 61, o 62, o 63, o 64, o 65, o 66, o 67, o 68, o 69, o 70, o 71, o 72, o 73, o 74, o 75, o 76, o 77, o 78, o 79, o 80, o 81, o 82, o 83, o 84, o 85, o 86, o 87, o 88, o 89, o 90, o 91, o 92, o 93, o 94, o 95, o 96, o 97, o 98, o 99, o 100, o 101, o 102, o 103, o 104, o 105, o 106, o 107, o 108, o 109, o 110, o 111, o 112, o 113, o 114], []⟩ → c.1 = nmK l.length → 1 ≤ c.2.1 ∧ c.2.1 ≤ 5 → Hid (Grown w X) → Hid (Blk b6 (tbl ⟨#[]⟩ (.slice none 0 0) (.int .i64 0) (.slice none 0 0) (.slice none 0 0)) 34 X) → Hid (Blk bt (tbl s0 cv (.int .i64 0) (.slice none 0 0) (.slice none 0 0)) 34 X) → Hid (OwC n0 cv (l ++ [c]) X) → LeN n0 X → K10 ac X := by
          clear G hZ hT hO hn0
          intro ac cv c X ha hc1 hc2 G hZ hT hO hn0
          obtain ⟨u, rfl⟩ : ∃ u : Nat → Value, ac = ⟨#[.int .i64 n, .slice p zs.length np, o 2, o 3, o 4, o 5, .pointer (some ⟨b6, 0, none⟩), .pointer (some ⟨bt, 0, none⟩), .int .i64 (k : Int), .int .i64 (l.length : Int), u 10, o 11, o 12, o 13, o 14, o 15, o 16, o 17, o 18, o 19, o 20, o 21, u 22, u 23, u 24, u 25, u 26, u 27, u 28, u 29, u 30, u 31, u 32, u 33, u 34, u 35, u 36, u 37, u 38, u 39, u 40, u 41, u 42, u 43, u 44, u 45, u 46, u 47, u 48, u 49, u 50, u 51, u 52, u 53, u 54, o 55, o 56, o 57, o 58, o 59, o 60, o 61, o 62, o 63, o 64, o 65, o 66, o 67, o 68, o 69, o 70, o 71, o 72, o 73, o 74, o 75, o 76, o 77, o 78, o 79, o 80, o 81, o 82, o 83, o 84, o 85, o 86, o 87, o 88, o 89, o 90, o 91, o 92, o 93, o 94, o 95, o 96, o 97, o 98, o 99, o 100, o 101, o 102, o 103, o 104, o 105, o 106, o 107, o 108, o 109, o 110, o 111, o 112, o 113, o 114], []⟩ := ⟨fun i => ac.tmps.getD i undef, ha⟩
          clear ha
          refine hk10 _ _ ?_
          clear hk10
          have hL2 := hide (colsL_snoc (unhide hL) hc1 hc2)
          clear hL hc1 hc2
          go_wp2_with fail
          go_roundw
          case rel => exact hide ⟨l ++ [c], cv, by simp; omega, by simp, hL2, G, hZ, hT, hO, hn0⟩
          case measure => simp [intOf]; omega
        have REST10 := hide REST10
        clear hk10
        refine wp_region_noPanic ?_
        refine wp_region_held_drew (S := (fun _ => True)) (by kernel_rfl) (trivial) (fun hHeld => ?_)
        have hbd : Below wr.heap.size wr wr.drew := (Below.refl _ _).drew
        replace G := hide ((unhide G).call hbd)
        replace hZ := hide ((unhide hZ).call hbd)
        replace hT := hide ((unhide hT).call hbd)
        replace hO := hide ((unhide hO).call hbd)
        replace hn0 := hn0.call hbd
        clear hbd
        generalize wr.drew = Wd at *
        refine wpAnyH_take (i := 0) (oi := ?oi20040) (v := ?v20040) ?hi20040 (by kernel_rfl) (by kernel_rfl) (by kernel_rfl) (fun _ _ _ h => h) (Or.inl ⟨?hw20040, ?hy20040⟩) (by assumption) ?rest20040
        case hi20040 => (simp only [List.getElem?_toArray, List.getElem?_cons_zero]; rfl)
        case hw20040 => rfl
        case hy20040 => first | (intro wx hSw; go_simp; done) | (intro wx hSw; go_simp; with_reducible rfl)
        simp only [Act.put, List.setIfInBounds_toArray, List.set_cons_zero, List.set_cons_succ]
        refine wpAnyH_take (i := 3) (oi := ?oi20041) (v := ?v20041) ?hi20041 (by kernel_rfl) (by kernel_rfl) (by kernel_rfl) (fun _ _ _ h => h) (Or.inl ⟨?hw20041, ?hy20041⟩) (by assumption) ?rest20041
        case hi20041 => (simp only [List.getElem?_toArray, List.getElem?_cons_zero, List.getElem?_cons_succ]; rfl)
        case hw20041 => rfl
        case hy20041 => first | (intro wx hSw; go_simp; done) | (intro wx hSw; go_simp; with_reducible rfl)
        simp only [Act.put, List.setIfInBounds_toArray, List.set_cons_zero, List.set_cons_succ]
        refine wpAnyH_take (i := 6) (oi := ?oi20042) (v := ?v20042) ?hi20042 (by kernel_rfl) (by kernel_rfl) (by kernel_rfl) (fun _ _ _ h => h) (Or.inl ⟨?hw20042, ?hy20042⟩) (by assumption) ?rest20042
        case hi20042 => (simp only [List.getElem?_toArray, List.getElem?_cons_zero, List.getElem?_cons_succ]; rfl)
        case hw20042 => rfl
        case hy20042 => first | (intro wx hSw; go_simp; done) | (intro wx hSw; go_simp; with_reducible rfl)
        simp only [Act.put, List.setIfInBounds_toArray, List.set_cons_zero, List.set_cons_succ]
        refine wpAnyH_take (i := 7) (oi := ?oi20043) (v := ?v20043) ?hi20043 (by kernel_rfl) (by kernel_rfl) (by kernel_rfl) (fun _ _ _ h => h) (Or.inl ⟨?hw20043, ?hy20043⟩) (by assumption) ?rest20043
        case hi20043 => (simp only [List.getElem?_toArray, List.getElem?_cons_zero, List.getElem?_cons_succ]; rfl)
        case hw20043 => rfl
        case hy20043 => first | (intro wx hSw; go_simp; done) | (intro wx hSw; go_simp; with_reducible rfl)
        simp only [Act.put, List.setIfInBounds_toArray, List.set_cons_zero, List.set_cons_succ]
        refine wpAnyH_take (i := 8) (oi := ?oi20044) (v := ?v20044) ?hi20044 (by kernel_rfl) (by kernel_rfl) (by kernel_rfl) (fun _ _ _ h => h) (Or.inl ⟨?hw20044, ?hy20044⟩) (by assumption) ?rest20044
        case hi20044 => (simp only [List.getElem?_toArray, List.getElem?_cons_zero, List.getElem?_cons_succ]; rfl)
        case hw20044 => rfl
        case hy20044 => first | (intro wx hSw; go_simp; done) | (intro wx hSw; go_simp; with_reducible rfl)
        simp only [Act.put, List.setIfInBounds_toArray, List.set_cons_zero, List.set_cons_succ]
        refine wpAnyH_take (i := 9) (oi := ?oi20045) (v := ?v20045) ?hi20045 (by kernel_rfl) (by kernel_rfl) (by kernel_rfl) (fun _ _ _ h => h) (Or.inl ⟨?hw20045, ?hy20045⟩) (by assumption) ?rest20045
        case hi20045 => (simp only [List.getElem?_toArray, List.getElem?_cons_zero, List.getElem?_cons_succ]; rfl)
        case hw20045 => rfl
        case hy20045 => first | (intro wx hSw; go_simp; done) | (intro wx hSw; go_simp; with_reducible rfl)
        simp only [Act.put, List.setIfInBounds_toArray, List.set_cons_zero, List.set_cons_succ]
        refine wpAnyH_take (i := 10) (oi := ?oi20046) (v := ?v20046) ?hi20046 (by kernel_rfl) (by kernel_rfl) (by kernel_rfl) (fun _ _ _ h => h) (Or.inl ⟨?hw20046, ?hy20046⟩) (by assumption) ?rest20046
        case hi20046 => (simp only [List.getElem?_toArray, List.getElem?_cons_zero, List.getElem?_cons_succ]; rfl)
        case hw20046 => rfl
        case hy20046 => first | (intro wx hSw; go_simp; done) | (intro wx hSw; go_simp; with_reducible rfl)
        simp only [Act.put, List.setIfInBounds_toArray, List.set_cons_zero, List.set_cons_succ]
        refine wpAnyH_take (i := 11) (oi := ?oi20047) (v := ?v20047) ?hi20047 (by kernel_rfl) (by kernel_rfl) (by kernel_rfl) (fun _ _ _ h => h) (Or.inl ⟨?hw20047, ?hy20047⟩) (by assumption) ?rest20047
        case hi20047 => (simp only [List.getElem?_toArray, List.getElem?_cons_zero, List.getElem?_cons_succ]; rfl)
        case hw20047 => rfl
        case hy20047 => first | (intro wx hSw; go_simp; done) | (intro wx hSw; go_simp; with_reducible rfl)
        simp only [Act.put, List.setIfInBounds_toArray, List.set_cons_zero, List.set_cons_succ]
        refine wpAnyH_take (i := 12) (oi := ?oi20048) (v := ?v20048) ?hi20048 (by kernel_rfl) (by kernel_rfl) (by kernel_rfl) (fun _ _ _ h => h) (Or.inl ⟨?hw20048, ?hy20048⟩) (by assumption) ?rest20048
        case hi20048 => (simp only [List.getElem?_toArray, List.getElem?_cons_zero, List.getElem?_cons_succ]; rfl)
        case hw20048 => rfl
        case hy20048 => first | (intro wx hSw; go_simp; done) | (intro wx hSw; go_simp; with_reducible rfl)
        simp only [Act.put, List.setIfInBounds_toArray, List.set_cons_zero, List.set_cons_succ]
        have hty : 1 ≤ IntKind.i64.wrap (1 + (2 + (l.length : Int)).tmod 5) ∧ IntKind.i64.wrap (1 + (2 + (l.length : Int)).tmod 5) ≤ 5 := by rw [Int.tmod_eq_emod_of_nonneg hm0.1, e3]; omega
        generalize IntKind.i64.wrap (1 + (2 + (l.length : Int)).tmod 5) = ty at *
        generalize ((IntKind.i64.wrap ((2 + (l.length : Int)).tdiv 5)).tmod 3 == 0) = bb at *
        have lt_ := (unhide hT).lt
        have t1 := (unhide hT).cell 1
        simp at t1
        refine wpAnyH_ready (rs := [1, 2]) (by kernel_rfl) (by simp) ?_
        refine AllReadyH.cons rfl (fun K20049 hK20049 => ?_) ?_
        · go_simp
          refine hK20049.out _ _ ?hs20049 (fun hHeld20049 => ?_)
          case hs20049 => exact trivial
          clear hHeld
          have hHeld := hHeld20049; clear hHeld20049 hK20049 K20049
          refine wpAnyH_ready (rs := [2]) (by kernel_rfl) (by simp) ?_
          refine AllReadyH.cons rfl (fun K20050 hK20050 => ?_) AllReadyH.nil
          go_simp
          go_wp2_with (go_at_call 35; refine (colsN_any _).mono ?_; rintro e X2 ⟨gn, rfl, hN, hb⟩)
          refine hK20050.out _ _ ?hs20050 (fun hHeld20050 => ?_)
          case hs20050 => exact trivial
          clear hHeld
          have hHeld := hHeld20050; clear hHeld20050 hK20050 K20050
          replace G := hide ((unhide G).call hb)
          replace hZ := hide ((unhide hZ).call hb)
          replace hT := hide ((unhide hT).call hb)
          replace hO := hide ((unhide hO).call hb)
          replace hn0 := hn0.call hb
          clear hb lt_ t1
          have lt_ := (unhide hT).lt
          have t1 := (unhide hT).cell 1
          simp at t1
          have ln_ := (unhide hN).lt
          obtain ⟨nm, hnm, hnc⟩ : ∃ nm, Hid (nm = nmK l.length) ∧ X2.cell? ⟨gn, l.length, none⟩ = some (.string nm) := by
            have hl4 : l.length = 0 ∨ l.length = 1 ∨ l.length = 2 ∨ l.length = 3 := by omega
            rcases hl4 with h | h | h | h <;> rw [h] <;> exact ⟨_, rfl, (unhide hN).cell _⟩
          have hl6 : (l.length : Int) < 6 := by omega
          refine wpAnyH_take (i := 4) (oi := ?oi20051) (v := ?v20051) ?hi20051 (by kernel_rfl) (by kernel_rfl) (by kernel_rfl) (fun _ _ _ h => h) (Or.inl ⟨?hw20051, ?hy20051⟩) (by assumption) ?rest20051
          case hi20051 => (simp only [List.getElem?_toArray, List.getElem?_cons_zero, List.getElem?_cons_succ]; rfl)
          case hw20051 => rfl
          case hy20051 => first | (intro wx hSw; have hl6_ := hl6; go_simp; done) | (intro wx hSw; have hl6_ := hl6; go_simp; with_reducible rfl)
          simp only [Act.put, List.setIfInBounds_toArray, List.set_cons_zero, List.set_cons_succ]
          refine wpAnyH_ready (rs := [5]) (by kernel_rfl) (by simp) ?_
          refine AllReadyH.cons rfl (fun K20052 hK20052 => ?_) AllReadyH.nil
          go_simp
          refine hK20052.out _ _ ?hs20052 (fun hHeld20052 => ?_)
          case hs20052 => exact trivial
          clear hHeld
          have hHeld := hHeld20052; clear hHeld20052 hK20052 K20052
          refine wpAnyH_take (i := 13) (oi := ?oi20053) (v := ?v20053) ?hi20053 (by kernel_rfl) (by kernel_rfl) (by kernel_rfl) (fun _ _ _ h => h) (Or.inl ⟨?hw20053, ?hy20053⟩) (by assumption) ?rest20053
          case hi20053 => (simp only [List.getElem?_toArray, List.getElem?_cons_zero, List.getElem?_cons_succ]; rfl)
          case hw20053 => rfl
          case hy20053 => first | (intro wx hSw; go_simp; done) | (intro wx hSw; go_simp; with_reducible rfl)
          simp only [Act.put, List.setIfInBounds_toArray, List.set_cons_zero, List.set_cons_succ]
          refine wpAnyH_ready (rs := [14]) (by kernel_rfl) (by simp) ?_
          refine AllReadyH.cons rfl (fun K20054 hK20054 => ?_) AllReadyH.nil
          go_simp
          have hb := below_new X2 (.cells #[.string nm, .int .i64 ty, .bool bb] 63)
          have hs3 := cells_three_at X2 _ rfl (.string nm) (.int .i64 ty) (.bool bb) 63
          refine hK20054.out _ _ ?hs20054 (fun hHeld20054 => ?_)
          case hs20054 => exact trivial
          clear hHeld
          have hHeld := hHeld20054; clear hHeld20054 hK20054 K20054
          replace G := hide ((unhide G).call hb)
          replace hZ := hide ((unhide hZ).call hb)
          replace hT := hide ((unhide hT).call hb)
          replace hO := hide ((unhide hO).call hb)
          replace hn0 := hn0.call hb
          clear lt_ t1
          generalize hgs : X2.heap.size = gs at *
          generalize hXs : X2.alloc (.cells #[.string nm, .int .i64 ty, .bool bb] 63) = X3 at *
          clear hXs hgs hb
          have lt_ := (unhide hT).lt
          have t1 := (unhide hT).cell 1
          simp at t1
          refine wpAnyH_ready (rs := [15]) (by kernel_rfl) (by simp) ?_
          refine AllReadyH.cons rfl (fun K20055 hK20055 => ?_) AllReadyH.nil
          refine step_append_lies _ rfl _ _ 26 rfl n0 63 i0 _ 3 32 Try.underlying26 hi hz0 hz1 hz2 rfl (by decide) cv _ _ rfl (unhide hO) ⟨gs, 0, none⟩ 1 1 [.string nm, .int .i64 ty, .bool bb] rfl rfl hs3 (by simp [Value.oneCell']) (by decide) (by unfold maxLen; omega) (by omega) hn0 _ rfl ?_
          intro g2 cp2 w4 hown4 hgrow4 hat4 hlt4
          have hB4 : Below n0 X3 w4 := Below.grown (Below.refl _ _) hgrow4 hn0 (fun j e => by rcases (unhide hO).2 with ⟨rfl, _⟩ | ⟨g', cap', cur', rfl, hge', _⟩ <;> simp [Value.ownBlock] at e; omega)
          refine hK20055.out _ _ ?hs20055 (fun hHeld20055 => ?_)
          case hs20055 => exact trivial
          clear hHeld
          have hHeld := hHeld20055; clear hHeld20055 hK20055 K20055
          have hw0 : w.heap.size ≤ n0 := by omega
          have G4 : Hid (Grown w w4) := hide (Below.trans (unhide G) (hB4.mono hw0))
          have Z4_ := hide (blk_base (unhide hZ) hB4 h6)
          have T4_ := hide (blk_base (unhide hT) hB4 ht)
          have lt4 := (unhide T4_).lt
          have q1 := (unhide T4_).cell 1
          have f1 := (unhide T4_).froz 1
          simp at q1
          have G5 : Hid (Grown w (w4.setCell ⟨bt, 1, none⟩ (.slice (some ⟨g2, 0, none⟩) (l.length + 1) cp2))) := hide (Below.setCell (unhide G4 : Below w.heap.size w w4) (p := ⟨bt, 1, none⟩) hwt _)
          have Z5 := hide ((unhide Z4_).set h6t 1 (.slice (some ⟨g2, 0, none⟩) (l.length + 1) cp2))
          have T5 : Hid (Blk bt (tbl s0 (.slice (some ⟨g2, 0, none⟩) (l.length + 1) cp2) (.int .i64 0) (.slice none 0 0) (.slice none 0 0)) 34 (w4.setCell ⟨bt, 1, none⟩ (.slice (some ⟨g2, 0, none⟩) (l.length + 1) cp2))) := hide (heapSet (unhide T4_) 1 (.slice (some ⟨g2, 0, none⟩) (l.length + 1) cp2))
          have O5 : Hid (OwC n0 (.slice (some ⟨g2, 0, none⟩) (l.length + 1) cp2) (l ++ [(nm, ty, bb)]) (w4.setCell ⟨bt, 1, none⟩ (.slice (some ⟨g2, 0, none⟩) (l.length + 1) cp2))) := by
            have := owns_set (b := bt) hown4 ht 1 (.slice (some ⟨g2, 0, none⟩) (l.length + 1) cp2)
            show World.ownsRow _ _ _ _ _ _ _
            rw [colC_snoc]; simpa using this
          have N5 : LeN n0 (w4.setCell ⟨bt, 1, none⟩ (.slice (some ⟨g2, 0, none⟩) (l.length + 1) cp2)) := by have h1 := Nat.le_trans hn0 hB4.size; unfold LeN; simpa using h1
          refine wpAnyH_take (i := 16) (oi := ?oi20056) (v := ?v20056) ?hi20056 (by kernel_rfl) (by kernel_rfl) (by kernel_rfl) (fun _ _ _ h => h) (Or.inl ⟨?hw20056, ?hy20056⟩) (by assumption) ?rest20056
          case hi20056 => (simp only [List.getElem?_toArray, List.getElem?_cons_zero, List.getElem?_cons_succ]; rfl)
          case hw20056 => rfl
          case hy20056 => first | (intro wx hSw; go_simp; done) | (intro wx hSw; go_simp; with_reducible rfl)
          simp only [Act.put, List.setIfInBounds_toArray, List.set_cons_zero, List.set_cons_succ]
          refine wpAnyH_ready (rs := [17]) (by kernel_rfl) (by simp) ?_
          refine AllReadyH.cons rfl (fun K20057 hK20057 => ?_) AllReadyH.nil
          go_simp
          refine hK20057.out _ _ ?hs20057 (fun hHeld20057 => ?_)
          case hs20057 => exact trivial
          clear hHeld
          have hHeld := hHeld20057; clear hHeld20057 hK20057 K20057
          refine wpAnyH_done (by kernel_rfl) ?_ _
          refine NoPanic.normal ?_
          skip
          exact unhide REST10 _ _ (nm, ty, bb) _ (by kernel_rfl) (unhide hnm) hty G5 Z5 T5 O5 N5
        refine AllReadyH.cons rfl (fun K20058 hK20058 => ?_) AllReadyH.nil
        · go_simp
          go_wp2_with (go_at_call 35; refine (colsN_any _).mono ?_; rintro e X2 ⟨gn, rfl, hN, hb⟩)
          refine hK20058.out _ _ ?hs20058 (fun hHeld20058 => ?_)
          case hs20058 => exact trivial
          clear hHeld
          have hHeld := hHeld20058; clear hHeld20058 hK20058 K20058
          replace G := hide ((unhide G).call hb)
          replace hZ := hide ((unhide hZ).call hb)
          replace hT := hide ((unhide hT).call hb)
          replace hO := hide ((unhide hO).call hb)
          replace hn0 := hn0.call hb
          clear hb lt_ t1
          have lt_ := (unhide hT).lt
          have t1 := (unhide hT).cell 1
          simp at t1
          have ln_ := (unhide hN).lt
          obtain ⟨nm, hnm, hnc⟩ : ∃ nm, Hid (nm = nmK l.length) ∧ X2.cell? ⟨gn, l.length, none⟩ = some (.string nm) := by
            have hl4 : l.length = 0 ∨ l.length = 1 ∨ l.length = 2 ∨ l.length = 3 := by omega
            rcases hl4 with h | h | h | h <;> rw [h] <;> exact ⟨_, rfl, (unhide hN).cell _⟩
          have hl6 : (l.length : Int) < 6 := by omega
          refine wpAnyH_take (i := 4) (oi := ?oi20059) (v := ?v20059) ?hi20059 (by kernel_rfl) (by kernel_rfl) (by kernel_rfl) (fun _ _ _ h => h) (Or.inl ⟨?hw20059, ?hy20059⟩) (by assumption) ?rest20059
          case hi20059 => (simp only [List.getElem?_toArray, List.getElem?_cons_zero, List.getElem?_cons_succ]; rfl)
          case hw20059 => rfl
          case hy20059 => first | (intro wx hSw; have hl6_ := hl6; go_simp; done) | (intro wx hSw; have hl6_ := hl6; go_simp; with_reducible rfl)
          simp only [Act.put, List.setIfInBounds_toArray, List.set_cons_zero, List.set_cons_succ]
          refine wpAnyH_ready (rs := [1, 5]) (by kernel_rfl) (by simp) ?_
          refine AllReadyH.cons rfl (fun K20060 hK20060 => ?_) ?_
          · go_simp
            refine hK20060.out _ _ ?hs20060 (fun hHeld20060 => ?_)
            case hs20060 => exact trivial
            clear hHeld
            have hHeld := hHeld20060; clear hHeld20060 hK20060 K20060
            refine wpAnyH_ready (rs := [5]) (by kernel_rfl) (by simp) ?_
            refine AllReadyH.cons rfl (fun K20061 hK20061 => ?_) AllReadyH.nil
            go_simp
            refine hK20061.out _ _ ?hs20061 (fun hHeld20061 => ?_)
            case hs20061 => exact trivial
            clear hHeld
            have hHeld := hHeld20061; clear hHeld20061 hK20061 K20061
            refine wpAnyH_take (i := 13) (oi := ?oi20062) (v := ?v20062) ?hi20062 (by kernel_rfl) (by kernel_rfl) (by kernel_rfl) (fun _ _ _ h => h) (Or.inl ⟨?hw20062, ?hy20062⟩) (by assumption) ?rest20062
            case hi20062 => (simp only [List.getElem?_toArray, List.getElem?_cons_zero, List.getElem?_cons_succ]; rfl)
            case hw20062 => rfl
            case hy20062 => first | (intro wx hSw; go_simp; done) | (intro wx hSw; go_simp; with_reducible rfl)
            simp only [Act.put, List.setIfInBounds_toArray, List.set_cons_zero, List.set_cons_succ]
            refine wpAnyH_ready (rs := [14]) (by kernel_rfl) (by simp) ?_
            refine AllReadyH.cons rfl (fun K20063 hK20063 => ?_) AllReadyH.nil
            go_simp
            have hb := below_new X2 (.cells #[.string nm, .int .i64 ty, .bool bb] 63)
            have hs3 := cells_three_at X2 _ rfl (.string nm) (.int .i64 ty) (.bool bb) 63
            refine hK20063.out _ _ ?hs20063 (fun hHeld20063 => ?_)
            case hs20063 => exact trivial
            clear hHeld
            have hHeld := hHeld20063; clear hHeld20063 hK20063 K20063
            replace G := hide ((unhide G).call hb)
            replace hZ := hide ((unhide hZ).call hb)
            replace hT := hide ((unhide hT).call hb)
            replace hO := hide ((unhide hO).call hb)
            replace hn0 := hn0.call hb
            clear lt_ t1
            generalize hgs : X2.heap.size = gs at *
            generalize hXs : X2.alloc (.cells #[.string nm, .int .i64 ty, .bool bb] 63) = X3 at *
            clear hXs hgs hb
            have lt_ := (unhide hT).lt
            have t1 := (unhide hT).cell 1
            simp at t1
            refine wpAnyH_ready (rs := [15]) (by kernel_rfl) (by simp) ?_
            refine AllReadyH.cons rfl (fun K20064 hK20064 => ?_) AllReadyH.nil
            refine step_append_lies _ rfl _ _ 26 rfl n0 63 i0 _ 3 32 Try.underlying26 hi hz0 hz1 hz2 rfl (by decide) cv _ _ rfl (unhide hO) ⟨gs, 0, none⟩ 1 1 [.string nm, .int .i64 ty, .bool bb] rfl rfl hs3 (by simp [Value.oneCell']) (by decide) (by unfold maxLen; omega) (by omega) hn0 _ rfl ?_
            intro g2 cp2 w4 hown4 hgrow4 hat4 hlt4
            have hB4 : Below n0 X3 w4 := Below.grown (Below.refl _ _) hgrow4 hn0 (fun j e => by rcases (unhide hO).2 with ⟨rfl, _⟩ | ⟨g', cap', cur', rfl, hge', _⟩ <;> simp [Value.ownBlock] at e; omega)
            refine hK20064.out _ _ ?hs20064 (fun hHeld20064 => ?_)
            case hs20064 => exact trivial
            clear hHeld
            have hHeld := hHeld20064; clear hHeld20064 hK20064 K20064
            have hw0 : w.heap.size ≤ n0 := by omega
            have G4 : Hid (Grown w w4) := hide (Below.trans (unhide G) (hB4.mono hw0))
            have Z4_ := hide (blk_base (unhide hZ) hB4 h6)
            have T4_ := hide (blk_base (unhide hT) hB4 ht)
            have lt4 := (unhide T4_).lt
            have q1 := (unhide T4_).cell 1
            have f1 := (unhide T4_).froz 1
            simp at q1
            have G5 : Hid (Grown w (w4.setCell ⟨bt, 1, none⟩ (.slice (some ⟨g2, 0, none⟩) (l.length + 1) cp2))) := hide (Below.setCell (unhide G4 : Below w.heap.size w w4) (p := ⟨bt, 1, none⟩) hwt _)
            have Z5 := hide ((unhide Z4_).set h6t 1 (.slice (some ⟨g2, 0, none⟩) (l.length + 1) cp2))
            have T5 : Hid (Blk bt (tbl s0 (.slice (some ⟨g2, 0, none⟩) (l.length + 1) cp2) (.int .i64 0) (.slice none 0 0) (.slice none 0 0)) 34 (w4.setCell ⟨bt, 1, none⟩ (.slice (some ⟨g2, 0, none⟩) (l.length + 1) cp2))) := hide (heapSet (unhide T4_) 1 (.slice (some ⟨g2, 0, none⟩) (l.length + 1) cp2))
            have O5 : Hid (OwC n0 (.slice (some ⟨g2, 0, none⟩) (l.length + 1) cp2) (l ++ [(nm, ty, bb)]) (w4.setCell ⟨bt, 1, none⟩ (.slice (some ⟨g2, 0, none⟩) (l.length + 1) cp2))) := by
              have := owns_set (b := bt) hown4 ht 1 (.slice (some ⟨g2, 0, none⟩) (l.length + 1) cp2)
              show World.ownsRow _ _ _ _ _ _ _
              rw [colC_snoc]; simpa using this
            have N5 : LeN n0 (w4.setCell ⟨bt, 1, none⟩ (.slice (some ⟨g2, 0, none⟩) (l.length + 1) cp2)) := by have h1 := Nat.le_trans hn0 hB4.size; unfold LeN; simpa using h1
            refine wpAnyH_take (i := 16) (oi := ?oi20065) (v := ?v20065) ?hi20065 (by kernel_rfl) (by kernel_rfl) (by kernel_rfl) (fun _ _ _ h => h) (Or.inl ⟨?hw20065, ?hy20065⟩) (by assumption) ?rest20065
            case hi20065 => (simp only [List.getElem?_toArray, List.getElem?_cons_zero, List.getElem?_cons_succ]; rfl)
            case hw20065 => rfl
            case hy20065 => first | (intro wx hSw; go_simp; done) | (intro wx hSw; go_simp; with_reducible rfl)
            simp only [Act.put, List.setIfInBounds_toArray, List.set_cons_zero, List.set_cons_succ]
            refine wpAnyH_ready (rs := [17]) (by kernel_rfl) (by simp) ?_
            refine AllReadyH.cons rfl (fun K20066 hK20066 => ?_) AllReadyH.nil
            go_simp
            refine hK20066.out _ _ ?hs20066 (fun hHeld20066 => ?_)
            case hs20066 => exact trivial
            clear hHeld
            have hHeld := hHeld20066; clear hHeld20066 hK20066 K20066
            refine wpAnyH_done (by kernel_rfl) ?_ _
            refine NoPanic.normal ?_
            skip
            exact unhide REST10 _ _ (nm, ty, bb) _ (by kernel_rfl) (unhide hnm) hty G5 Z5 T5 O5 N5
          refine AllReadyH.cons rfl (fun K20067 hK20067 => ?_) AllReadyH.nil
          · go_simp
            refine hK20067.out _ _ ?hs20067 (fun hHeld20067 => ?_)
            case hs20067 => exact trivial
            clear hHeld
            have hHeld := hHeld20067; clear hHeld20067 hK20067 K20067
            refine wpAnyH_take (i := 13) (oi := ?oi20068) (v := ?v20068) ?hi20068 (by kernel_rfl) (by kernel_rfl) (by kernel_rfl) (fun _ _ _ h => h) (Or.inl ⟨?hw20068, ?hy20068⟩) (by assumption) ?rest20068
            case hi20068 => (simp only [List.getElem?_toArray, List.getElem?_cons_zero, List.getElem?_cons_succ]; rfl)
            case hw20068 => rfl
            case hy20068 => first | (intro wx hSw; go_simp; done) | (intro wx hSw; go_simp; with_reducible rfl)
            simp only [Act.put, List.setIfInBounds_toArray, List.set_cons_zero, List.set_cons_succ]
            refine wpAnyH_ready (rs := [1, 14]) (by kernel_rfl) (by simp) ?_
            refine AllReadyH.cons rfl (fun K20069 hK20069 => ?_) ?_
            · go_simp
              refine hK20069.out _ _ ?hs20069 (fun hHeld20069 => ?_)
              case hs20069 => exact trivial
              clear hHeld
              have hHeld := hHeld20069; clear hHeld20069 hK20069 K20069
              refine wpAnyH_ready (rs := [14]) (by kernel_rfl) (by simp) ?_
              refine AllReadyH.cons rfl (fun K20070 hK20070 => ?_) AllReadyH.nil
              go_simp
              have hb := below_new X2 (.cells #[.string nm, .int .i64 ty, .bool bb] 63)
              have hs3 := cells_three_at X2 _ rfl (.string nm) (.int .i64 ty) (.bool bb) 63
              refine hK20070.out _ _ ?hs20070 (fun hHeld20070 => ?_)
              case hs20070 => exact trivial
              clear hHeld
              have hHeld := hHeld20070; clear hHeld20070 hK20070 K20070
              replace G := hide ((unhide G).call hb)
              replace hZ := hide ((unhide hZ).call hb)
              replace hT := hide ((unhide hT).call hb)
              replace hO := hide ((unhide hO).call hb)
              replace hn0 := hn0.call hb
              clear lt_ t1
              generalize hgs : X2.heap.size = gs at *
              generalize hXs : X2.alloc (.cells #[.string nm, .int .i64 ty, .bool bb] 63) = X3 at *
              clear hXs hgs hb
              have lt_ := (unhide hT).lt
              have t1 := (unhide hT).cell 1
              simp at t1
              refine wpAnyH_ready (rs := [15]) (by kernel_rfl) (by simp) ?_
              refine AllReadyH.cons rfl (fun K20071 hK20071 => ?_) AllReadyH.nil
              refine step_append_lies _ rfl _ _ 26 rfl n0 63 i0 _ 3 32 Try.underlying26 hi hz0 hz1 hz2 rfl (by decide) cv _ _ rfl (unhide hO) ⟨gs, 0, none⟩ 1 1 [.string nm, .int .i64 ty, .bool bb] rfl rfl hs3 (by simp [Value.oneCell']) (by decide) (by unfold maxLen; omega) (by omega) hn0 _ rfl ?_
              intro g2 cp2 w4 hown4 hgrow4 hat4 hlt4
              have hB4 : Below n0 X3 w4 := Below.grown (Below.refl _ _) hgrow4 hn0 (fun j e => by rcases (unhide hO).2 with ⟨rfl, _⟩ | ⟨g', cap', cur', rfl, hge', _⟩ <;> simp [Value.ownBlock] at e; omega)
              refine hK20071.out _ _ ?hs20071 (fun hHeld20071 => ?_)
              case hs20071 => exact trivial
              clear hHeld
              have hHeld := hHeld20071; clear hHeld20071 hK20071 K20071
              have hw0 : w.heap.size ≤ n0 := by omega
              have G4 : Hid (Grown w w4) := hide (Below.trans (unhide G) (hB4.mono hw0))
              have Z4_ := hide (blk_base (unhide hZ) hB4 h6)
              have T4_ := hide (blk_base (unhide hT) hB4 ht)
              have lt4 := (unhide T4_).lt
              have q1 := (unhide T4_).cell 1
              have f1 := (unhide T4_).froz 1
              simp at q1
              have G5 : Hid (Grown w (w4.setCell ⟨bt, 1, none⟩ (.slice (some ⟨g2, 0, none⟩) (l.length + 1) cp2))) := hide (Below.setCell (unhide G4 : Below w.heap.size w w4) (p := ⟨bt, 1, none⟩) hwt _)
              have Z5 := hide ((unhide Z4_).set h6t 1 (.slice (some ⟨g2, 0, none⟩) (l.length + 1) cp2))
              have T5 : Hid (Blk bt (tbl s0 (.slice (some ⟨g2, 0, none⟩) (l.length + 1) cp2) (.int .i64 0) (.slice none 0 0) (.slice none 0 0)) 34 (w4.setCell ⟨bt, 1, none⟩ (.slice (some ⟨g2, 0, none⟩) (l.length + 1) cp2))) := hide (heapSet (unhide T4_) 1 (.slice (some ⟨g2, 0, none⟩) (l.length + 1) cp2))
              have O5 : Hid (OwC n0 (.slice (some ⟨g2, 0, none⟩) (l.length + 1) cp2) (l ++ [(nm, ty, bb)]) (w4.setCell ⟨bt, 1, none⟩ (.slice (some ⟨g2, 0, none⟩) (l.length + 1) cp2))) := by
                have := owns_set (b := bt) hown4 ht 1 (.slice (some ⟨g2, 0, none⟩) (l.length + 1) cp2)
                show World.ownsRow _ _ _ _ _ _ _
                rw [colC_snoc]; simpa using this
              have N5 : LeN n0 (w4.setCell ⟨bt, 1, none⟩ (.slice (some ⟨g2, 0, none⟩) (l.length + 1) cp2)) := by have h1 := Nat.le_trans hn0 hB4.size; unfold LeN; simpa using h1
              refine wpAnyH_take (i := 16) (oi := ?oi20072) (v := ?v20072) ?hi20072 (by kernel_rfl) (by kernel_rfl) (by kernel_rfl) (fun _ _ _ h => h) (Or.inl ⟨?hw20072, ?hy20072⟩) (by assumption) ?rest20072
              case hi20072 => (simp only [List.getElem?_toArray, List.getElem?_cons_zero, List.getElem?_cons_succ]; rfl)
              case hw20072 => rfl
              case hy20072 => first | (intro wx hSw; go_simp; done) | (intro wx hSw; go_simp; with_reducible rfl)
              simp only [Act.put, List.setIfInBounds_toArray, List.set_cons_zero, List.set_cons_succ]
              refine wpAnyH_ready (rs := [17]) (by kernel_rfl) (by simp) ?_
              refine AllReadyH.cons rfl (fun K20073 hK20073 => ?_) AllReadyH.nil
              go_simp
              refine hK20073.out _ _ ?hs20073 (fun hHeld20073 => ?_)
              case hs20073 => exact trivial
              clear hHeld
              have hHeld := hHeld20073; clear hHeld20073 hK20073 K20073
              refine wpAnyH_done (by kernel_rfl) ?_ _
              refine NoPanic.normal ?_
              skip
              exact unhide REST10 _ _ (nm, ty, bb) _ (by kernel_rfl) (unhide hnm) hty G5 Z5 T5 O5 N5
            refine AllReadyH.cons rfl (fun K20074 hK20074 => ?_) AllReadyH.nil
            · go_simp
              have hb := below_new X2 (.cells #[.string nm, .int .i64 ty, .bool bb] 63)
              have hs3 := cells_three_at X2 _ rfl (.string nm) (.int .i64 ty) (.bool bb) 63
              refine hK20074.out _ _ ?hs20074 (fun hHeld20074 => ?_)
              case hs20074 => exact trivial
              clear hHeld
              have hHeld := hHeld20074; clear hHeld20074 hK20074 K20074
              replace G := hide ((unhide G).call hb)
              replace hZ := hide ((unhide hZ).call hb)
              replace hT := hide ((unhide hT).call hb)
              replace hO := hide ((unhide hO).call hb)
              replace hn0 := hn0.call hb
              clear lt_ t1
              generalize hgs : X2.heap.size = gs at *
              generalize hXs : X2.alloc (.cells #[.string nm, .int .i64 ty, .bool bb] 63) = X3 at *
              clear hXs hgs hb
              have lt_ := (unhide hT).lt
              have t1 := (unhide hT).cell 1
              simp at t1
              refine wpAnyH_ready (rs := [1]) (by kernel_rfl) (by simp) ?_
              refine AllReadyH.cons rfl (fun K20075 hK20075 => ?_) AllReadyH.nil
              go_simp
              refine hK20075.out _ _ ?hs20075 (fun hHeld20075 => ?_)
              case hs20075 => exact trivial
              clear hHeld
              have hHeld := hHeld20075; clear hHeld20075 hK20075 K20075
              refine wpAnyH_ready (rs := [15]) (by kernel_rfl) (by simp) ?_
              refine AllReadyH.cons rfl (fun K20076 hK20076 => ?_) AllReadyH.nil
              refine step_append_lies _ rfl _ _ 26 rfl n0 63 i0 _ 3 32 Try.underlying26 hi hz0 hz1 hz2 rfl (by decide) cv _ _ rfl (unhide hO) ⟨gs, 0, none⟩ 1 1 [.string nm, .int .i64 ty, .bool bb] rfl rfl hs3 (by simp [Value.oneCell']) (by decide) (by unfold maxLen; omega) (by omega) hn0 _ rfl ?_
              intro g2 cp2 w4 hown4 hgrow4 hat4 hlt4
              have hB4 : Below n0 X3 w4 := Below.grown (Below.refl _ _) hgrow4 hn0 (fun j e => by rcases (unhide hO).2 with ⟨rfl, _⟩ | ⟨g', cap', cur', rfl, hge', _⟩ <;> simp [Value.ownBlock] at e; omega)
              refine hK20076.out _ _ ?hs20076 (fun hHeld20076 => ?_)
              case hs20076 => exact trivial
              clear hHeld
              have hHeld := hHeld20076; clear hHeld20076 hK20076 K20076
              have hw0 : w.heap.size ≤ n0 := by omega
              have G4 : Hid (Grown w w4) := hide (Below.trans (unhide G) (hB4.mono hw0))
              have Z4_ := hide (blk_base (unhide hZ) hB4 h6)
              have T4_ := hide (blk_base (unhide hT) hB4 ht)
              have lt4 := (unhide T4_).lt
              have q1 := (unhide T4_).cell 1
              have f1 := (unhide T4_).froz 1
              simp at q1
              have G5 : Hid (Grown w (w4.setCell ⟨bt, 1, none⟩ (.slice (some ⟨g2, 0, none⟩) (l.length + 1) cp2))) := hide (Below.setCell (unhide G4 : Below w.heap.size w w4) (p := ⟨bt, 1, none⟩) hwt _)
              have Z5 := hide ((unhide Z4_).set h6t 1 (.slice (some ⟨g2, 0, none⟩) (l.length + 1) cp2))
              have T5 : Hid (Blk bt (tbl s0 (.slice (some ⟨g2, 0, none⟩) (l.length + 1) cp2) (.int .i64 0) (.slice none 0 0) (.slice none 0 0)) 34 (w4.setCell ⟨bt, 1, none⟩ (.slice (some ⟨g2, 0, none⟩) (l.length + 1) cp2))) := hide (heapSet (unhide T4_) 1 (.slice (some ⟨g2, 0, none⟩) (l.length + 1) cp2))
              have O5 : Hid (OwC n0 (.slice (some ⟨g2, 0, none⟩) (l.length + 1) cp2) (l ++ [(nm, ty, bb)]) (w4.setCell ⟨bt, 1, none⟩ (.slice (some ⟨g2, 0, none⟩) (l.length + 1) cp2))) := by
                have := owns_set (b := bt) hown4 ht 1 (.slice (some ⟨g2, 0, none⟩) (l.length + 1) cp2)
                show World.ownsRow _ _ _ _ _ _ _
                rw [colC_snoc]; simpa using this
              have N5 : LeN n0 (w4.setCell ⟨bt, 1, none⟩ (.slice (some ⟨g2, 0, none⟩) (l.length + 1) cp2)) := by have h1 := Nat.le_trans hn0 hB4.size; unfold LeN; simpa using h1
              refine wpAnyH_take (i := 16) (oi := ?oi20077) (v := ?v20077) ?hi20077 (by kernel_rfl) (by kernel_rfl) (by kernel_rfl) (fun _ _ _ h => h) (Or.inl ⟨?hw20077, ?hy20077⟩) (by assumption) ?rest20077
              case hi20077 => (simp only [List.getElem?_toArray, List.getElem?_cons_zero, List.getElem?_cons_succ]; rfl)
              case hw20077 => rfl
              case hy20077 => first | (intro wx hSw; go_simp; done) | (intro wx hSw; go_simp; with_reducible rfl)
              simp only [Act.put, List.setIfInBounds_toArray, List.set_cons_zero, List.set_cons_succ]
              refine wpAnyH_ready (rs := [17]) (by kernel_rfl) (by simp) ?_
              refine AllReadyH.cons rfl (fun K20078 hK20078 => ?_) AllReadyH.nil
              go_simp
              refine hK20078.out _ _ ?hs20078 (fun hHeld20078 => ?_)
              case hs20078 => exact trivial
              clear hHeld
              have hHeld := hHeld20078; clear hHeld20078 hK20078 K20078
              refine wpAnyH_done (by kernel_rfl) ?_ _
              refine NoPanic.normal ?_
              skip
              exact unhide REST10 _ _ (nm, ty, bb) _ (by kernel_rfl) (unhide hnm) hty G5 Z5 T5 O5 N5
    · have hlti : ¬ (l.length : Int) < k := by omega
      go_wp2_with fail
      exact unhide REST _ cv l _ (by kernel_rfl) (by omega) (unhide hL) G hZ hT hO hn0
end Go.Proofs.Ytliefgkhpgigaaa
