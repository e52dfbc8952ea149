/-
  federationlaw3's Table: its links.
-/
import Derived.Test.YtliefgkhpgigaaaVTbB
namespace Go.Proofs.Ytliefgkhpgigaaa
open Go.RowKit Go.Shelf
set_option linter.unusedSimpArgs false
set_option linter.unusedVariables false

set_option maxHeartbeats 16000000 in
set_option maxRecDepth 100000 in
set_option maxHeartbeats 16000000 in
set_option maxRecDepth 100000 in
theorem tbL {r0 r1 r2 r3 r4 r5 r6 r7 rest : Code} (hc : Try.f14.body = some (.seq r0 (.seq r1 (.seq r2 (.seq r3 (.seq r4 (.seq r5 (.seq r6 (.seq r7 (rest)))))))))) (w : World) (b6 bt : Nat) (h6t : b6 ≠ bt) (hw6 : w.heap.size ≤ b6) (hwt : w.heap.size ≤ bt) (n : Int) (p : Option Addr) (np : Nat) (zs : List Int) (k : Nat) (hk4 : k ≤ 4) (hk1 : 1 ≤ k) (s0 : ByteArray) (g cap : Nat) (hgt : g ≠ bt) (hg6 : g ≠ b6) (hwg : w.heap.size ≤ g) (l : List C3) (n1 : Nat) (hb1 : b6 < n1) (ht1 : bt < n1) (hg1 : g < n1) (j : Nat) (hjk : j < k) (hn : Is64 n) (q : Int) (hq : 0 ≤ q ∧ q < 3) (CW : Hid (∀ W, Calls Try.prog 34 #[.int .i64 (n.tdiv 256), .int .i64 3] W fun e W' => e = .returned (.int .i64 q) ∧ W' = W)) (uv : Value) (K : Act → World → Prop) (Q : Exit → Act → World → Prop) (REST : Hid (∀ (ac : Act) (fv : Value) (X : World), ac = ⟨#[.int .i64 n, .slice p zs.length np, ac.tmps.getD 2 undef, ac.tmps.getD 3 undef, ac.tmps.getD 4 undef, ac.tmps.getD 5 undef, .pointer (some ⟨b6, 0, none⟩), .pointer (some ⟨bt, 0, none⟩), .int .i64 (k : Int), ac.tmps.getD 9 undef, ac.tmps.getD 10 undef, ac.tmps.getD 11 undef, ac.tmps.getD 12 undef, ac.tmps.getD 13 undef, ac.tmps.getD 14 undef, ac.tmps.getD 15 undef, ac.tmps.getD 16 undef, ac.tmps.getD 17 undef, ac.tmps.getD 18 undef, ac.tmps.getD 19 undef, ac.tmps.getD 20 undef, ac.tmps.getD 21 undef, ac.tmps.getD 22 undef, ac.tmps.getD 23 undef, ac.tmps.getD 24 undef, ac.tmps.getD 25 undef, ac.tmps.getD 26 undef, ac.tmps.getD 27 undef, ac.tmps.getD 28 undef, ac.tmps.getD 29 undef, ac.tmps.getD 30 undef, ac.tmps.getD 31 undef, ac.tmps.getD 32 undef, ac.tmps.getD 33 undef, ac.tmps.getD 34 undef, ac.tmps.getD 35 undef, ac.tmps.getD 36 undef, ac.tmps.getD 37 undef, ac.tmps.getD 38 undef, ac.tmps.getD 39 undef, ac.tmps.getD 40 undef, ac.tmps.getD 41 undef, ac.tmps.getD 42 undef, ac.tmps.getD 43 undef, ac.tmps.getD 44 undef, ac.tmps.getD 45 undef, ac.tmps.getD 46 undef, ac.tmps.getD 47 undef, ac.tmps.getD 48 undef, ac.tmps.getD 49 undef, ac.tmps.getD 50 undef, ac.tmps.getD 51 undef, ac.tmps.getD 52 undef, ac.tmps.getD 53 undef, ac.tmps.getD 54 undef, ac.tmps.getD 55 undef, ac.tmps.getD 56 undef, ac.tmps.getD 57 undef, ac.tmps.getD 58 undef, ac.tmps.getD 59 undef, ac.tmps.getD 60 undef, ac.tmps.getD 61 undef, ac.tmps.getD 62 undef, ac.tmps.getD 63 undef, ac.tmps.getD 64 undef, ac.tmps.getD 65 undef, ac.tmps.getD 66 undef, ac.tmps.getD 67 undef, ac.tmps.getD 68 undef, ac.tmps.getD 69 undef, ac.tmps.getD 70 undef, ac.tmps.getD 71 undef, ac.tmps.getD 72 undef, ac.tmps.getD 73 undef, ac.tmps.getD 74 undef, ac.tmps.getD 75 undef, ac.tmps.getD 76 undef, ac.tmps.getD 77 undef, ac.tmps.getD 78 undef, ac.tmps.getD 79 undef, ac.tmps.getD 80 undef, ac.tmps.getD 81 undef, ac.tmps.getD 82 undef, ac.tmps.getD 83 undef, ac.tmps.getD 84 undef, ac.tmps.getD 85 undef, ac.tmps.getD 86 undef, ac.tmps.getD 87 undef, ac.tmps.getD 88 undef, ac.tmps.getD 89 undef, ac.tmps.getD 90 undef, ac.tmps.getD 91 undef, ac.tmps.getD 92 undef, ac.tmps.getD 93 undef, ac.tmps.getD 94 undef, ac.tmps.getD 95 undef, ac.tmps.getD 96 undef, ac.tmps.getD 97 undef, ac.tmps.getD 98 undef, ac.tmps.getD 99 undef, ac.tmps.getD 100 undef, ac.tmps.getD 101 undef, ac.tmps.getD 102 undef, ac.tmps.getD 103 undef, ac.tmps.getD 104 undef, ac.tmps.getD 105 undef, ac.tmps.getD 106 undef, ac.tmps.getD 107 undef, ac.tmps.getD 108 undef, ac.tmps.getD 109 undef, ac.tmps.getD 110 undef, ac.tmps.getD 111 undef, ac.tmps.getD 112 undef, ac.tmps.getD 113 undef, ac.tmps.getD 114 undef], []⟩ → Hid (Grown w X) → Hid (Blk b6 (tbl ⟨#[]⟩ (.slice none 0 0) (.int .i64 0) (.slice none 0 0) (.slice none 0 0)) 34 X) → Hid (ColB g l X) → Hid (Blk bt (tbl s0 (.slice (some ⟨g, 0, none⟩) k cap) (.int .i64 (j : Int)) (uv) (fv)) 34 X) → Hid (IsSl fv X) → K ac X)) (ac : Act) (X : World) (ha : ac = ⟨#[.int .i64 n, .slice p zs.length np, ac.tmps.getD 2 undef, ac.tmps.getD 3 undef, ac.tmps.getD 4 undef, ac.tmps.getD 5 undef, .pointer (some ⟨b6, 0, none⟩), .pointer (some ⟨bt, 0, none⟩), .int .i64 (k : Int), ac.tmps.getD 9 undef, ac.tmps.getD 10 undef, ac.tmps.getD 11 undef, ac.tmps.getD 12 undef, ac.tmps.getD 13 undef, ac.tmps.getD 14 undef, ac.tmps.getD 15 undef, ac.tmps.getD 16 undef, ac.tmps.getD 17 undef, ac.tmps.getD 18 undef, ac.tmps.getD 19 undef, ac.tmps.getD 20 undef, ac.tmps.getD 21 undef, ac.tmps.getD 22 undef, ac.tmps.getD 23 undef, ac.tmps.getD 24 undef, ac.tmps.getD 25 undef, ac.tmps.getD 26 undef, ac.tmps.getD 27 undef, ac.tmps.getD 28 undef, ac.tmps.getD 29 undef, ac.tmps.getD 30 undef, ac.tmps.getD 31 undef, ac.tmps.getD 32 undef, ac.tmps.getD 33 undef, ac.tmps.getD 34 undef, ac.tmps.getD 35 undef, ac.tmps.getD 36 undef, ac.tmps.getD 37 undef, ac.tmps.getD 38 undef, ac.tmps.getD 39 undef, ac.tmps.getD 40 undef, ac.tmps.getD 41 undef, ac.tmps.getD 42 undef, ac.tmps.getD 43 undef, ac.tmps.getD 44 undef, ac.tmps.getD 45 undef, ac.tmps.getD 46 undef, ac.tmps.getD 47 undef, ac.tmps.getD 48 undef, ac.tmps.getD 49 undef, ac.tmps.getD 50 undef, ac.tmps.getD 51 undef, ac.tmps.getD 52 undef, ac.tmps.getD 53 undef, ac.tmps.getD 54 undef, ac.tmps.getD 55 undef, ac.tmps.getD 56 undef, ac.tmps.getD 57 undef, ac.tmps.getD 58 undef, ac.tmps.getD 59 undef, ac.tmps.getD 60 undef, ac.tmps.getD 61 undef, ac.tmps.getD 62 undef, ac.tmps.getD 63 undef, ac.tmps.getD 64 undef, ac.tmps.getD 65 undef, ac.tmps.getD 66 undef, ac.tmps.getD 67 undef, ac.tmps.getD 68 undef, ac.tmps.getD 69 undef, ac.tmps.getD 70 undef, ac.tmps.getD 71 undef, ac.tmps.getD 72 undef, ac.tmps.getD 73 undef, ac.tmps.getD 74 undef, ac.tmps.getD 75 undef, ac.tmps.getD 76 undef, ac.tmps.getD 77 undef, ac.tmps.getD 78 undef, ac.tmps.getD 79 undef, ac.tmps.getD 80 undef, ac.tmps.getD 81 undef, ac.tmps.getD 82 undef, ac.tmps.getD 83 undef, ac.tmps.getD 84 undef, ac.tmps.getD 85 undef, ac.tmps.getD 86 undef, ac.tmps.getD 87 undef, ac.tmps.getD 88 undef, ac.tmps.getD 89 undef, ac.tmps.getD 90 undef, ac.tmps.getD 91 undef, ac.tmps.getD 92 undef, ac.tmps.getD 93 undef, ac.tmps.getD 94 undef, ac.tmps.getD 95 undef, ac.tmps.getD 96 undef, ac.tmps.getD 97 undef, ac.tmps.getD 98 undef, ac.tmps.getD 99 undef, ac.tmps.getD 100 undef, ac.tmps.getD 101 undef, ac.tmps.getD 102 undef, ac.tmps.getD 103 undef, ac.tmps.getD 104 undef, ac.tmps.getD 105 undef, ac.tmps.getD 106 undef, ac.tmps.getD 107 undef, ac.tmps.getD 108 undef, ac.tmps.getD 109 undef, ac.tmps.getD 110 undef, ac.tmps.getD 111 undef, ac.tmps.getD 112 undef, ac.tmps.getD 113 undef, ac.tmps.getD 114 undef], []⟩) (G : Hid (Grown w X)) (hZ : Hid (Blk b6 (tbl ⟨#[]⟩ (.slice none 0 0) (.int .i64 0) (.slice none 0 0) (.slice none 0 0)) 34 X)) (hB : Hid (ColB g l X)) (hT : Hid (Blk bt (tbl s0 (.slice (some ⟨g, 0, none⟩) k cap) (.int .i64 (j : Int)) (uv) (.slice none 0 0)) 34 X)) (hn1 : LeN n1 X) : r7.wp Try.prog (Exit.then K Q) ac X := by
  obtain ⟨i0, hi, hz0, hz1, hz2⟩ := infoParts info_link
  obtain ⟨o, rfl⟩ : ∃ o : Nat → Value, ac = ⟨#[.int .i64 n, .slice p zs.length np, o 2, o 3, o 4, o 5, .pointer (some ⟨b6, 0, none⟩), .pointer (some ⟨bt, 0, none⟩), .int .i64 (k : Int), o 9, o 10, o 11, o 12, o 13, o 14, o 15, o 16, o 17, o 18, o 19, o 20, o 21, o 22, o 23, o 24, o 25, o 26, o 27, o 28, o 29, o 30, o 31, o 32, o 33, o 34, o 35, o 36, o 37, o 38, o 39, o 40, o 41, o 42, o 43, o 44, o 45, o 46, o 47, o 48, o 49, o 50, o 51, o 52, o 53, o 54, o 55, o 56, o 57, o 58, o 59, o 60, o 61, o 62, o 63, o 64, o 65, o 66, o 67, o 68, o 69, o 70, o 71, o 72, o 73, o 74, o 75, o 76, o 77, o 78, o 79, o 80, o 81, o 82, o 83, o 84, o 85, o 86, o 87, o 88, o 89, o 90, o 91, o 92, o 93, o 94, o 95, o 96, o 97, o 98, o 99, o 100, o 101, o 102, o 103, o 104, o 105, o 106, o 107, o 108, o 109, o 110, o 111, o 112, o 113, o 114], []⟩ := ⟨fun i => ac.tmps.getD i undef, ha⟩
  clear ha
  unfold Try.f14 at hc
  cases hc
  have e256 : IntKind.i64.wrap (n.tdiv 256) = n.tdiv 256 := IntWalk.i64_in _ (by have := tdiv_bd hn 256 (by decide); unfold Is64 at this; omega)
  go_wp2_with fail
  go_loopw [12] (fun i wr => Hid (∃ (m : Nat) (fv : Value) (us : List Value), m ≤ 3 ∧ i = .int .i64 (m : Int) ∧ Hid (Grown w wr) ∧ Hid (Blk b6 (tbl ⟨#[]⟩ (.slice none 0 0) (.int .i64 0) (.slice none 0 0) (.slice none 0 0)) 34 wr) ∧ Hid (ColB g l wr) ∧ Hid (Blk bt (tbl s0 (.slice (some ⟨g, 0, none⟩) k cap) (.int .i64 (j : Int)) (uv) (fv)) 34 wr) ∧ Hid (OwI n1 fv m us 78 2 wr) ∧ LeN n1 wr)) (fun i _ => 3 - (intOf i).toNat)
  case atStart => exact hide ⟨0, _, [], by decide, rfl, G, hZ, hB, hT, hide (World.ownsRow_nil _ _ _ _), hn1⟩
  case round =>
    clear G hZ hB hT hn1
    obtain ⟨m, fv, us, hm3, rfl, G, hZ, hB, hT, hU, hn1⟩ := unhide hrel
    have e9 : IntKind.i64.wrap ((m : Int) + 1) = (m : Int) + 1 := IntWalk.i64_in _ (by omega)
    by_cases h1 : (m : Int) < q
    · go_wp2_with fail
      refine (unhide CW _).mono ?_
      rintro e wq ⟨rfl, rfl⟩
      go_wp2_with fail
      rename_i K10 hk10
      have REST10 : ∀ (ac : Act) (fv : Value) (us : List Value) (X : World), ac = ⟨#[.int .i64 n, .slice p zs.length np, o 2, o 3, o 4, o 5, .pointer (some ⟨b6, 0, none⟩), .pointer (some ⟨bt, 0, none⟩), .int .i64 (k : Int), o 9, o 10, o 11, .int .i64 (m : Int), o 13, o 14, o 15, o 16, o 17, o 18, o 19, o 20, o 21, o 22, o 23, o 24, o 25, o 26, o 27, o 28, o 29, o 30, o 31, o 32, o 33, o 34, o 35, o 36, o 37, o 38, o 39, o 40, o 41, o 42, o 43, o 44, o 45, o 46, o 47, o 48, o 49, o 50, o 51, o 52, o 53, o 54, o 55, o 56, o 57, o 58, o 59, o 60, o 61, o 62, o 63, o 64, o 65, o 66, o 67, o 68, o 69, o 70, o 71, o 72, o 73, o 74, o 75, o 76, o 77, o 78, o 79, o 80, o 81, o 82, o 83, o 84, o 85, o 86, o 87, o 88, o 89, ac.tmps.getD 90 undef, ac.tmps.getD 91 undef, ac.tmps.getD 92 undef, ac.tmps.getD 93 undef, ac.tmps.getD 94 undef, ac.tmps.getD 95 undef, ac.tmps.getD 96 undef, ac.tmps.getD 97 undef, ac.tmps.getD 98 undef, ac.tmps.getD 99 undef, ac.tmps.getD 100 undef, ac.tmps.getD 101 undef, ac.tmps.getD 102 undef, ac.tmps.getD 103 undef, ac.tmps.getD 104 undef, ac.tmps.getD 105 undef, ac.tmps.getD 106 undef, ac.tmps.getD 107 undef, ac.tmps.getD 108 undef, ac.tmps.getD 109 undef, ac.tmps.getD 110 undef, ac.tmps.getD 111 undef, ac.tmps.getD 112 undef, ac.tmps.getD 113 undef, o 114], []⟩ → Hid (Grown w X) → Hid (Blk b6 (tbl ⟨#[]⟩ (.slice none 0 0) (.int .i64 0) (.slice none 0 0) (.slice none 0 0)) 34 X) → Hid (ColB g l X) → Hid (Blk bt (tbl s0 (.slice (some ⟨g, 0, none⟩) k cap) (.int .i64 (j : Int)) (uv) (fv)) 34 X) → Hid (OwI n1 fv (m + 1) us 78 2 X) → LeN n1 X → K10 ac X := by
        clear G hZ hB hT hU hn1
        intro ac fv us X ha G hZ hB hT hU hn1
        obtain ⟨u, rfl⟩ : ∃ u : Nat → Value, ac = ⟨#[.int .i64 n, .slice p zs.length np, o 2, o 3, o 4, o 5, .pointer (some ⟨b6, 0, none⟩), .pointer (some ⟨bt, 0, none⟩), .int .i64 (k : Int), o 9, o 10, o 11, .int .i64 (m : Int), o 13, o 14, o 15, o 16, o 17, o 18, o 19, o 20, o 21, o 22, o 23, o 24, o 25, o 26, o 27, o 28, o 29, o 30, o 31, o 32, o 33, o 34, o 35, o 36, o 37, o 38, o 39, o 40, o 41, o 42, o 43, o 44, o 45, o 46, o 47, o 48, o 49, o 50, o 51, o 52, o 53, o 54, o 55, o 56, o 57, o 58, o 59, o 60, o 61, o 62, o 63, o 64, o 65, o 66, o 67, o 68, o 69, o 70, o 71, o 72, o 73, o 74, o 75, o 76, o 77, o 78, o 79, o 80, o 81, o 82, o 83, o 84, o 85, o 86, o 87, o 88, o 89, u 90, u 91, u 92, u 93, u 94, u 95, u 96, u 97, u 98, u 99, u 100, u 101, u 102, u 103, u 104, u 105, u 106, u 107, u 108, u 109, u 110, u 111, u 112, u 113, o 114], []⟩ := ⟨fun i => ac.tmps.getD i undef, ha⟩
        clear ha
        refine hk10 _ _ ?_
        clear hk10
        go_wp2_with fail
        go_roundw
        case rel => exact hide ⟨m + 1, fv, us, by omega, by simp, G, hZ, hB, hT, hU, hn1⟩
        case measure => simp [intOf]; omega
      have REST10 := hide REST10
      clear hk10
      refine wp_region_noPanic ?_
      refine wp_region_held_drew (S := (fun _ => True)) (by kernel_rfl) (trivial) (fun hHeld => ?_)
      have hbd : Below wq.heap.size wq wq.drew := (Below.refl _ _).drew
      replace G := hide ((unhide G).call hbd)
      replace hZ := hide ((unhide hZ).call hbd)
      replace hB := hide ((unhide hB).call hbd)
      replace hT := hide ((unhide hT).call hbd)
      replace hU := hide ((unhide hU).call hbd)
      replace hn1 := hn1.call hbd
      clear hbd
      generalize wq.drew = Wd at *
      refine wpAnyH_take (i := 0) (oi := ?oi20028) (v := ?v20028) ?hi20028 (by kernel_rfl) (by kernel_rfl) (by kernel_rfl) (fun _ _ _ h => h) (Or.inl ⟨?hw20028, ?hy20028⟩) (by assumption) ?rest20028
      case hi20028 => (simp only [List.getElem?_toArray, List.getElem?_cons_zero]; rfl)
      case hw20028 => rfl
      case hy20028 => first | (intro wx hSw; go_simp; done) | (intro wx hSw; go_simp; with_reducible rfl)
      simp only [Act.put, List.setIfInBounds_toArray, List.set_cons_zero, List.set_cons_succ]
      refine wpAnyH_take (i := 2) (oi := ?oi20029) (v := ?v20029) ?hi20029 (by kernel_rfl) (by kernel_rfl) (by kernel_rfl) (fun _ _ _ h => h) (Or.inl ⟨?hw20029, ?hy20029⟩) (by assumption) ?rest20029
      case hi20029 => (simp only [List.getElem?_toArray, List.getElem?_cons_zero, List.getElem?_cons_succ]; rfl)
      case hw20029 => rfl
      case hy20029 => first | (intro wx hSw; go_simp; done) | (intro wx hSw; go_simp; with_reducible rfl)
      simp only [Act.put, List.setIfInBounds_toArray, List.set_cons_zero, List.set_cons_succ]
      refine wpAnyH_take (i := 3) (oi := ?oi20030) (v := ?v20030) ?hi20030 (by kernel_rfl) (by kernel_rfl) (by kernel_rfl) (fun _ _ _ h => h) (Or.inl ⟨?hw20030, ?hy20030⟩) (by assumption) ?rest20030
      case hi20030 => (simp only [List.getElem?_toArray, List.getElem?_cons_zero, List.getElem?_cons_succ]; rfl)
      case hw20030 => rfl
      case hy20030 => first | (intro wx hSw; go_simp; done) | (intro wx hSw; go_simp; with_reducible rfl)
      simp only [Act.put, List.setIfInBounds_toArray, List.set_cons_zero, List.set_cons_succ]
      refine wpAnyH_take (i := 4) (oi := ?oi20031) (v := ?v20031) ?hi20031 (by kernel_rfl) (by kernel_rfl) (by kernel_rfl) (fun _ _ _ h => h) (Or.inl ⟨?hw20031, ?hy20031⟩) (by assumption) ?rest20031
      case hi20031 => (simp only [List.getElem?_toArray, List.getElem?_cons_zero, List.getElem?_cons_succ]; rfl)
      case hw20031 => rfl
      case hy20031 => first | (intro wx hSw; go_simp; done) | (intro wx hSw; go_simp; with_reducible rfl)
      simp only [Act.put, List.setIfInBounds_toArray, List.set_cons_zero, List.set_cons_succ]
      refine wpAnyH_take (i := 5) (oi := ?oi20032) (v := ?v20032) ?hi20032 (by kernel_rfl) (by kernel_rfl) (by kernel_rfl) (fun _ _ _ h => h) (Or.inl ⟨?hw20032, ?hy20032⟩) (by assumption) ?rest20032
      case hi20032 => (simp only [List.getElem?_toArray, List.getElem?_cons_zero, List.getElem?_cons_succ]; rfl)
      case hw20032 => rfl
      case hy20032 => first | (intro wx hSw; go_simp; done) | (intro wx hSw; go_simp; with_reducible rfl)
      simp only [Act.put, List.setIfInBounds_toArray, List.set_cons_zero, List.set_cons_succ]
      refine wpAnyH_take (i := 6) (oi := ?oi20033) (v := ?v20033) ?hi20033 (by kernel_rfl) (by kernel_rfl) (by kernel_rfl) (fun _ _ _ h => h) (Or.inl ⟨?hw20033, ?hy20033⟩) (by assumption) ?rest20033
      case hi20033 => (simp only [List.getElem?_toArray, List.getElem?_cons_zero, List.getElem?_cons_succ]; rfl)
      case hw20033 => rfl
      case hy20033 => first | (intro wx hSw; go_simp; done) | (intro wx hSw; go_simp; with_reducible rfl)
      simp only [Act.put, List.setIfInBounds_toArray, List.set_cons_zero, List.set_cons_succ]
      refine wpAnyH_take (i := 8) (oi := ?oi20034) (v := ?v20034) ?hi20034 (by kernel_rfl) (by kernel_rfl) (by kernel_rfl) (fun _ _ _ h => h) (Or.inl ⟨?hw20034, ?hy20034⟩) (by assumption) ?rest20034
      case hi20034 => (simp only [List.getElem?_toArray, List.getElem?_cons_zero, List.getElem?_cons_succ]; rfl)
      case hw20034 => rfl
      case hy20034 => first | (intro wx hSw; go_simp; done) | (intro wx hSw; go_simp; with_reducible rfl)
      simp only [Act.put, List.setIfInBounds_toArray, List.set_cons_zero, List.set_cons_succ]
      refine wpAnyH_take (i := 9) (oi := ?oi20035) (v := ?v20035) ?hi20035 (by kernel_rfl) (by kernel_rfl) (by kernel_rfl) (fun _ _ _ h => h) (Or.inl ⟨?hw20035, ?hy20035⟩) (by assumption) ?rest20035
      case hi20035 => (simp only [List.getElem?_toArray, List.getElem?_cons_zero, List.getElem?_cons_succ]; rfl)
      case hw20035 => rfl
      case hy20035 => first | (intro wx hSw; go_simp; done) | (intro wx hSw; go_simp; with_reducible rfl)
      simp only [Act.put, List.setIfInBounds_toArray, List.set_cons_zero, List.set_cons_succ]
      refine wpAnyH_take (i := 10) (oi := ?oi20036) (v := ?v20036) ?hi20036 (by kernel_rfl) (by kernel_rfl) (by kernel_rfl) (fun _ _ _ h => h) (Or.inl ⟨?hw20036, ?hy20036⟩) (by assumption) ?rest20036
      case hi20036 => (simp only [List.getElem?_toArray, List.getElem?_cons_zero, List.getElem?_cons_succ]; rfl)
      case hw20036 => rfl
      case hy20036 => first | (intro wx hSw; go_simp; done) | (intro wx hSw; go_simp; with_reducible rfl)
      simp only [Act.put, List.setIfInBounds_toArray, List.set_cons_zero, List.set_cons_succ]
      refine wpAnyH_take (i := 11) (oi := ?oi20037) (v := ?v20037) ?hi20037 (by kernel_rfl) (by kernel_rfl) (by kernel_rfl) (fun _ _ _ h => h) (Or.inl ⟨?hw20037, ?hy20037⟩) (by assumption) ?rest20037
      case hi20037 => (simp only [List.getElem?_toArray, List.getElem?_cons_zero, List.getElem?_cons_succ]; rfl)
      case hw20037 => rfl
      case hy20037 => first | (intro wx hSw; go_simp; done) | (intro wx hSw; go_simp; with_reducible rfl)
      simp only [Act.put, List.setIfInBounds_toArray, List.set_cons_zero, List.set_cons_succ]
      have hx1 : Is64 (IntKind.i64.wrap (IntKind.i64.wrap (n.tdiv 512) + (m : Int))) := IntWalk.i64_left _ ▸ wrap64_bd _
      have hx2 : Is64 (IntKind.i64.wrap (IntKind.i64.wrap (n.tdiv 1024) + (m : Int))) := IntWalk.i64_left _ ▸ wrap64_bd _
      generalize IntKind.i64.wrap (IntKind.i64.wrap (n.tdiv 512) + (m : Int)) = x1 at *
      generalize IntKind.i64.wrap (IntKind.i64.wrap (n.tdiv 1024) + (m : Int)) = x2 at *
      have lt_ := (unhide hT).lt
      have t1 := (unhide hT).cell 11
      have t2 := (unhide hT).cell 2
      simp at t1 t2
      refine wpAnyH_ready (rs := [1, 7]) (by kernel_rfl) (by simp) ?_
      refine AllReadyH.cons rfl (fun K20038 hK20038 => ?_) ?_
      · go_simp
        refine hK20038.out _ _ ?hs20038 (fun hHeld20038 => ?_)
        case hs20038 => exact trivial
        clear hHeld
        have hHeld := hHeld20038; clear hHeld20038 hK20038 K20038
        refine wpAnyH_ready (rs := [7]) (by kernel_rfl) (by simp) ?_
        refine AllReadyH.cons rfl (fun K20039 hK20039 => ?_) AllReadyH.nil
        go_simp
        go_wp2_with (go_at_call 34; refine (within3_any x1 (k : Int) _ hx1 (by omega)).mono ?_; rintro e X9 ⟨rfl, rfl⟩)
        refine hK20039.out _ _ ?hs20039 (fun hHeld20039 => ?_)
        case hs20039 => exact trivial
        clear hHeld
        have hHeld := hHeld20039; clear hHeld20039 hK20039 K20039
        generalize x1 % (k : Int) = lc at *
        refine wpAnyH_ready (rs := [12]) (by kernel_rfl) (by simp) ?_
        refine AllReadyH.cons rfl (fun K20040 hK20040 => ?_) AllReadyH.nil
        go_simp
        go_wp2_with (go_at_call 33; refine (nameL_any x2 _ hx2).mono ?_; rintro e X2 ⟨nm, rfl, hb⟩)
        refine hK20040.out _ _ ?hs20040 (fun hHeld20040 => ?_)
        case hs20040 => exact trivial
        clear hHeld
        have hHeld := hHeld20040; clear hHeld20040 hK20040 K20040
        replace G := hide ((unhide G).call hb)
        replace hZ := hide ((unhide hZ).call hb)
        replace hB := hide ((unhide hB).call hb)
        replace hT := hide ((unhide hT).call hb)
        replace hU := hide ((unhide hU).call hb)
        replace hn1 := hn1.call hb
        clear hb lt_ t1 t2
        have lt_ := (unhide hT).lt
        have t1 := (unhide hT).cell 11
        have t2 := (unhide hT).cell 2
        simp at t1 t2
        refine wpAnyH_take (i := 13) (oi := ?oi20041) (v := ?v20041) ?hi20041 (by kernel_rfl) (by kernel_rfl) (by kernel_rfl) (fun _ _ _ h => h) (Or.inl ⟨?hw20041, ?hy20041⟩) (by assumption) ?rest20041
        case hi20041 => (simp only [List.getElem?_toArray, List.getElem?_cons_zero, List.getElem?_cons_succ]; rfl)
        case hw20041 => rfl
        case hy20041 => first | (intro wx hSw; go_simp; done) | (intro wx hSw; go_simp; with_reducible rfl)
        simp only [Act.put, List.setIfInBounds_toArray, List.set_cons_zero, List.set_cons_succ]
        refine wpAnyH_ready (rs := [14]) (by kernel_rfl) (by simp) ?_
        refine AllReadyH.cons rfl (fun K20042 hK20042 => ?_) AllReadyH.nil
        go_simp
        have hb := below_new X2 (.cells #[.int .i64 lc, .string nm] 78)
        have hs3 := cells_two_at X2 _ rfl (.int .i64 lc) (.string nm) 78
        refine hK20042.out _ _ ?hs20042 (fun hHeld20042 => ?_)
        case hs20042 => exact trivial
        clear hHeld
        have hHeld := hHeld20042; clear hHeld20042 hK20042 K20042
        replace G := hide ((unhide G).call hb)
        replace hZ := hide ((unhide hZ).call hb)
        replace hB := hide ((unhide hB).call hb)
        replace hT := hide ((unhide hT).call hb)
        replace hU := hide ((unhide hU).call hb)
        replace hn1 := hn1.call hb
        clear lt_ t1 t2
        generalize hgs : X2.heap.size = gs at *
        generalize hXs : X2.alloc (.cells #[.int .i64 lc, .string nm] 78) = X3 at *
        clear hXs hgs hb
        have lt_ := (unhide hT).lt
        have t1 := (unhide hT).cell 11
        have t2 := (unhide hT).cell 2
        simp at t1 t2
        refine wpAnyH_ready (rs := [15]) (by kernel_rfl) (by simp) ?_
        refine AllReadyH.cons rfl (fun K20043 hK20043 => ?_) AllReadyH.nil
        refine step_append_lies _ rfl _ _ 32 rfl n1 78 i0 _ 2 24 Try.underlying32 hi hz0 hz1 hz2 rfl (by decide) fv _ _ rfl (unhide hU) ⟨gs, 0, none⟩ 1 1 [.int .i64 lc, .string nm] rfl rfl hs3 (by simp [Value.oneCell']) (by decide) (by unfold maxLen; omega) (by omega) hn1 _ rfl ?_
        intro g2 cp2 w4 hown4 hgrow4 hat4 hlt4
        have hB4 : Below n1 X3 w4 := Below.grown (Below.refl _ _) hgrow4 hn1 (fun j e => by rcases (unhide hU).2 with ⟨rfl, _⟩ | ⟨g', cap', cur', rfl, hge', _⟩ <;> simp [Value.ownBlock] at e; omega)
        refine hK20043.out _ _ ?hs20043 (fun hHeld20043 => ?_)
        case hs20043 => exact trivial
        clear hHeld
        have hHeld := hHeld20043; clear hHeld20043 hK20043 K20043
        have hw0 : w.heap.size ≤ n1 := by omega
        have T4_ := hide (blk_base (unhide hT) hB4 ht1)
        have lt4 := (unhide T4_).lt
        have q1 := (unhide T4_).cell 11
        have f1 := (unhide T4_).froz 11
        simp at q1
        have G5 : Hid (Grown w (w4.setCell ⟨bt, 11, none⟩ (.slice (some ⟨g2, 0, none⟩) (m + 1) cp2))) := hide (Below.setCell (Below.trans (unhide G) (hB4.mono hw0)) (p := ⟨bt, 11, none⟩) hwt _)
        have Z5 := hide (Blk.set (blk_base (unhide hZ) hB4 hb1) h6t 11 (.slice (some ⟨g2, 0, none⟩) (m + 1) cp2))
        have B5 := hide (((unhide hB).base hB4 hg1).far hgt 11 (.slice (some ⟨g2, 0, none⟩) (m + 1) cp2))
        have T5 : Hid (Blk bt (tbl s0 (.slice (some ⟨g, 0, none⟩) k cap) (.int .i64 (j : Int)) (uv) ((.slice (some ⟨g2, 0, none⟩) (m + 1) cp2))) 34 (w4.setCell ⟨bt, 11, none⟩ (.slice (some ⟨g2, 0, none⟩) (m + 1) cp2))) := hide (heapSet (unhide T4_) 11 (.slice (some ⟨g2, 0, none⟩) (m + 1) cp2))
        have O5 := hide (owns_set (b := bt) hown4 ht1 11 (.slice (some ⟨g2, 0, none⟩) (m + 1) cp2))
        have N5 : LeN n1 (w4.setCell ⟨bt, 11, none⟩ (.slice (some ⟨g2, 0, none⟩) (m + 1) cp2)) := by have h1 := Nat.le_trans hn1 hB4.size; unfold LeN; simpa using h1
        refine wpAnyH_take (i := 16) (oi := ?oi20044) (v := ?v20044) ?hi20044 (by kernel_rfl) (by kernel_rfl) (by kernel_rfl) (fun _ _ _ h => h) (Or.inl ⟨?hw20044, ?hy20044⟩) (by assumption) ?rest20044
        case hi20044 => (simp only [List.getElem?_toArray, List.getElem?_cons_zero, List.getElem?_cons_succ]; rfl)
        case hw20044 => rfl
        case hy20044 => first | (intro wx hSw; go_simp; done) | (intro wx hSw; go_simp; with_reducible rfl)
        simp only [Act.put, List.setIfInBounds_toArray, List.set_cons_zero, List.set_cons_succ]
        refine wpAnyH_ready (rs := [17]) (by kernel_rfl) (by simp) ?_
        refine AllReadyH.cons rfl (fun K20045 hK20045 => ?_) AllReadyH.nil
        go_simp
        refine hK20045.out _ _ ?hs20045 (fun hHeld20045 => ?_)
        case hs20045 => exact trivial
        clear hHeld
        have hHeld := hHeld20045; clear hHeld20045 hK20045 K20045
        refine wpAnyH_done (by kernel_rfl) ?_ _
        refine NoPanic.normal ?_
        skip
        exact unhide REST10 _ _ _ _ (by kernel_rfl) G5 Z5 B5 T5 O5 N5
      refine AllReadyH.cons rfl (fun K20046 hK20046 => ?_) AllReadyH.nil
      · go_simp
        go_wp2_with (go_at_call 34; refine (within3_any x1 (k : Int) _ hx1 (by omega)).mono ?_; rintro e X9 ⟨rfl, rfl⟩)
        refine hK20046.out _ _ ?hs20046 (fun hHeld20046 => ?_)
        case hs20046 => exact trivial
        clear hHeld
        have hHeld := hHeld20046; clear hHeld20046 hK20046 K20046
        generalize x1 % (k : Int) = lc at *
        refine wpAnyH_ready (rs := [1, 12]) (by kernel_rfl) (by simp) ?_
        refine AllReadyH.cons rfl (fun K20047 hK20047 => ?_) ?_
        · go_simp
          refine hK20047.out _ _ ?hs20047 (fun hHeld20047 => ?_)
          case hs20047 => exact trivial
          clear hHeld
          have hHeld := hHeld20047; clear hHeld20047 hK20047 K20047
          refine wpAnyH_ready (rs := [12]) (by kernel_rfl) (by simp) ?_
          refine AllReadyH.cons rfl (fun K20048 hK20048 => ?_) AllReadyH.nil
          go_simp
          go_wp2_with (go_at_call 33; refine (nameL_any x2 _ hx2).mono ?_; rintro e X2 ⟨nm, rfl, hb⟩)
          refine hK20048.out _ _ ?hs20048 (fun hHeld20048 => ?_)
          case hs20048 => exact trivial
          clear hHeld
          have hHeld := hHeld20048; clear hHeld20048 hK20048 K20048
          replace G := hide ((unhide G).call hb)
          replace hZ := hide ((unhide hZ).call hb)
          replace hB := hide ((unhide hB).call hb)
          replace hT := hide ((unhide hT).call hb)
          replace hU := hide ((unhide hU).call hb)
          replace hn1 := hn1.call hb
          clear hb lt_ t1 t2
          have lt_ := (unhide hT).lt
          have t1 := (unhide hT).cell 11
          have t2 := (unhide hT).cell 2
          simp at t1 t2
          refine wpAnyH_take (i := 13) (oi := ?oi20049) (v := ?v20049) ?hi20049 (by kernel_rfl) (by kernel_rfl) (by kernel_rfl) (fun _ _ _ h => h) (Or.inl ⟨?hw20049, ?hy20049⟩) (by assumption) ?rest20049
          case hi20049 => (simp only [List.getElem?_toArray, List.getElem?_cons_zero, List.getElem?_cons_succ]; rfl)
          case hw20049 => rfl
          case hy20049 => first | (intro wx hSw; go_simp; done) | (intro wx hSw; go_simp; with_reducible rfl)
          simp only [Act.put, List.setIfInBounds_toArray, List.set_cons_zero, List.set_cons_succ]
          refine wpAnyH_ready (rs := [14]) (by kernel_rfl) (by simp) ?_
          refine AllReadyH.cons rfl (fun K20050 hK20050 => ?_) AllReadyH.nil
          go_simp
          have hb := below_new X2 (.cells #[.int .i64 lc, .string nm] 78)
          have hs3 := cells_two_at X2 _ rfl (.int .i64 lc) (.string nm) 78
          refine hK20050.out _ _ ?hs20050 (fun hHeld20050 => ?_)
          case hs20050 => exact trivial
          clear hHeld
          have hHeld := hHeld20050; clear hHeld20050 hK20050 K20050
          replace G := hide ((unhide G).call hb)
          replace hZ := hide ((unhide hZ).call hb)
          replace hB := hide ((unhide hB).call hb)
          replace hT := hide ((unhide hT).call hb)
          replace hU := hide ((unhide hU).call hb)
          replace hn1 := hn1.call hb
          clear lt_ t1 t2
          generalize hgs : X2.heap.size = gs at *
          generalize hXs : X2.alloc (.cells #[.int .i64 lc, .string nm] 78) = X3 at *
          clear hXs hgs hb
          have lt_ := (unhide hT).lt
          have t1 := (unhide hT).cell 11
          have t2 := (unhide hT).cell 2
          simp at t1 t2
          refine wpAnyH_ready (rs := [15]) (by kernel_rfl) (by simp) ?_
          refine AllReadyH.cons rfl (fun K20051 hK20051 => ?_) AllReadyH.nil
          refine step_append_lies _ rfl _ _ 32 rfl n1 78 i0 _ 2 24 Try.underlying32 hi hz0 hz1 hz2 rfl (by decide) fv _ _ rfl (unhide hU) ⟨gs, 0, none⟩ 1 1 [.int .i64 lc, .string nm] rfl rfl hs3 (by simp [Value.oneCell']) (by decide) (by unfold maxLen; omega) (by omega) hn1 _ rfl ?_
          intro g2 cp2 w4 hown4 hgrow4 hat4 hlt4
          have hB4 : Below n1 X3 w4 := Below.grown (Below.refl _ _) hgrow4 hn1 (fun j e => by rcases (unhide hU).2 with ⟨rfl, _⟩ | ⟨g', cap', cur', rfl, hge', _⟩ <;> simp [Value.ownBlock] at e; omega)
          refine hK20051.out _ _ ?hs20051 (fun hHeld20051 => ?_)
          case hs20051 => exact trivial
          clear hHeld
          have hHeld := hHeld20051; clear hHeld20051 hK20051 K20051
          have hw0 : w.heap.size ≤ n1 := by omega
          have T4_ := hide (blk_base (unhide hT) hB4 ht1)
          have lt4 := (unhide T4_).lt
          have q1 := (unhide T4_).cell 11
          have f1 := (unhide T4_).froz 11
          simp at q1
          have G5 : Hid (Grown w (w4.setCell ⟨bt, 11, none⟩ (.slice (some ⟨g2, 0, none⟩) (m + 1) cp2))) := hide (Below.setCell (Below.trans (unhide G) (hB4.mono hw0)) (p := ⟨bt, 11, none⟩) hwt _)
          have Z5 := hide (Blk.set (blk_base (unhide hZ) hB4 hb1) h6t 11 (.slice (some ⟨g2, 0, none⟩) (m + 1) cp2))
          have B5 := hide (((unhide hB).base hB4 hg1).far hgt 11 (.slice (some ⟨g2, 0, none⟩) (m + 1) cp2))
          have T5 : Hid (Blk bt (tbl s0 (.slice (some ⟨g, 0, none⟩) k cap) (.int .i64 (j : Int)) (uv) ((.slice (some ⟨g2, 0, none⟩) (m + 1) cp2))) 34 (w4.setCell ⟨bt, 11, none⟩ (.slice (some ⟨g2, 0, none⟩) (m + 1) cp2))) := hide (heapSet (unhide T4_) 11 (.slice (some ⟨g2, 0, none⟩) (m + 1) cp2))
          have O5 := hide (owns_set (b := bt) hown4 ht1 11 (.slice (some ⟨g2, 0, none⟩) (m + 1) cp2))
          have N5 : LeN n1 (w4.setCell ⟨bt, 11, none⟩ (.slice (some ⟨g2, 0, none⟩) (m + 1) cp2)) := by have h1 := Nat.le_trans hn1 hB4.size; unfold LeN; simpa using h1
          refine wpAnyH_take (i := 16) (oi := ?oi20052) (v := ?v20052) ?hi20052 (by kernel_rfl) (by kernel_rfl) (by kernel_rfl) (fun _ _ _ h => h) (Or.inl ⟨?hw20052, ?hy20052⟩) (by assumption) ?rest20052
          case hi20052 => (simp only [List.getElem?_toArray, List.getElem?_cons_zero, List.getElem?_cons_succ]; rfl)
          case hw20052 => rfl
          case hy20052 => first | (intro wx hSw; go_simp; done) | (intro wx hSw; go_simp; with_reducible rfl)
          simp only [Act.put, List.setIfInBounds_toArray, List.set_cons_zero, List.set_cons_succ]
          refine wpAnyH_ready (rs := [17]) (by kernel_rfl) (by simp) ?_
          refine AllReadyH.cons rfl (fun K20053 hK20053 => ?_) AllReadyH.nil
          go_simp
          refine hK20053.out _ _ ?hs20053 (fun hHeld20053 => ?_)
          case hs20053 => exact trivial
          clear hHeld
          have hHeld := hHeld20053; clear hHeld20053 hK20053 K20053
          refine wpAnyH_done (by kernel_rfl) ?_ _
          refine NoPanic.normal ?_
          skip
          exact unhide REST10 _ _ _ _ (by kernel_rfl) G5 Z5 B5 T5 O5 N5
        refine AllReadyH.cons rfl (fun K20054 hK20054 => ?_) AllReadyH.nil
        · go_simp
          go_wp2_with (go_at_call 33; refine (nameL_any x2 _ hx2).mono ?_; rintro e X2 ⟨nm, rfl, hb⟩)
          refine hK20054.out _ _ ?hs20054 (fun hHeld20054 => ?_)
          case hs20054 => exact trivial
          clear hHeld
          have hHeld := hHeld20054; clear hHeld20054 hK20054 K20054
          replace G := hide ((unhide G).call hb)
          replace hZ := hide ((unhide hZ).call hb)
          replace hB := hide ((unhide hB).call hb)
          replace hT := hide ((unhide hT).call hb)
          replace hU := hide ((unhide hU).call hb)
          replace hn1 := hn1.call hb
          clear hb lt_ t1 t2
          have lt_ := (unhide hT).lt
          have t1 := (unhide hT).cell 11
          have t2 := (unhide hT).cell 2
          simp at t1 t2
          refine wpAnyH_take (i := 13) (oi := ?oi20055) (v := ?v20055) ?hi20055 (by kernel_rfl) (by kernel_rfl) (by kernel_rfl) (fun _ _ _ h => h) (Or.inl ⟨?hw20055, ?hy20055⟩) (by assumption) ?rest20055
          case hi20055 => (simp only [List.getElem?_toArray, List.getElem?_cons_zero, List.getElem?_cons_succ]; rfl)
          case hw20055 => rfl
          case hy20055 => first | (intro wx hSw; go_simp; done) | (intro wx hSw; go_simp; with_reducible rfl)
          simp only [Act.put, List.setIfInBounds_toArray, List.set_cons_zero, List.set_cons_succ]
          refine wpAnyH_ready (rs := [1, 14]) (by kernel_rfl) (by simp) ?_
          refine AllReadyH.cons rfl (fun K20056 hK20056 => ?_) ?_
          · go_simp
            refine hK20056.out _ _ ?hs20056 (fun hHeld20056 => ?_)
            case hs20056 => exact trivial
            clear hHeld
            have hHeld := hHeld20056; clear hHeld20056 hK20056 K20056
            refine wpAnyH_ready (rs := [14]) (by kernel_rfl) (by simp) ?_
            refine AllReadyH.cons rfl (fun K20057 hK20057 => ?_) AllReadyH.nil
            go_simp
            have hb := below_new X2 (.cells #[.int .i64 lc, .string nm] 78)
            have hs3 := cells_two_at X2 _ rfl (.int .i64 lc) (.string nm) 78
            refine hK20057.out _ _ ?hs20057 (fun hHeld20057 => ?_)
            case hs20057 => exact trivial
            clear hHeld
            have hHeld := hHeld20057; clear hHeld20057 hK20057 K20057
            replace G := hide ((unhide G).call hb)
            replace hZ := hide ((unhide hZ).call hb)
            replace hB := hide ((unhide hB).call hb)
            replace hT := hide ((unhide hT).call hb)
            replace hU := hide ((unhide hU).call hb)
            replace hn1 := hn1.call hb
            clear lt_ t1 t2
            generalize hgs : X2.heap.size = gs at *
            generalize hXs : X2.alloc (.cells #[.int .i64 lc, .string nm] 78) = X3 at *
            clear hXs hgs hb
            have lt_ := (unhide hT).lt
            have t1 := (unhide hT).cell 11
            have t2 := (unhide hT).cell 2
            simp at t1 t2
            refine wpAnyH_ready (rs := [15]) (by kernel_rfl) (by simp) ?_
            refine AllReadyH.cons rfl (fun K20058 hK20058 => ?_) AllReadyH.nil
            refine step_append_lies _ rfl _ _ 32 rfl n1 78 i0 _ 2 24 Try.underlying32 hi hz0 hz1 hz2 rfl (by decide) fv _ _ rfl (unhide hU) ⟨gs, 0, none⟩ 1 1 [.int .i64 lc, .string nm] rfl rfl hs3 (by simp [Value.oneCell']) (by decide) (by unfold maxLen; omega) (by omega) hn1 _ rfl ?_
            intro g2 cp2 w4 hown4 hgrow4 hat4 hlt4
            have hB4 : Below n1 X3 w4 := Below.grown (Below.refl _ _) hgrow4 hn1 (fun j e => by rcases (unhide hU).2 with ⟨rfl, _⟩ | ⟨g', cap', cur', rfl, hge', _⟩ <;> simp [Value.ownBlock] at e; omega)
            refine hK20058.out _ _ ?hs20058 (fun hHeld20058 => ?_)
            case hs20058 => exact trivial
            clear hHeld
            have hHeld := hHeld20058; clear hHeld20058 hK20058 K20058
            have hw0 : w.heap.size ≤ n1 := by omega
            have T4_ := hide (blk_base (unhide hT) hB4 ht1)
            have lt4 := (unhide T4_).lt
            have q1 := (unhide T4_).cell 11
            have f1 := (unhide T4_).froz 11
            simp at q1
            have G5 : Hid (Grown w (w4.setCell ⟨bt, 11, none⟩ (.slice (some ⟨g2, 0, none⟩) (m + 1) cp2))) := hide (Below.setCell (Below.trans (unhide G) (hB4.mono hw0)) (p := ⟨bt, 11, none⟩) hwt _)
            have Z5 := hide (Blk.set (blk_base (unhide hZ) hB4 hb1) h6t 11 (.slice (some ⟨g2, 0, none⟩) (m + 1) cp2))
            have B5 := hide (((unhide hB).base hB4 hg1).far hgt 11 (.slice (some ⟨g2, 0, none⟩) (m + 1) cp2))
            have T5 : Hid (Blk bt (tbl s0 (.slice (some ⟨g, 0, none⟩) k cap) (.int .i64 (j : Int)) (uv) ((.slice (some ⟨g2, 0, none⟩) (m + 1) cp2))) 34 (w4.setCell ⟨bt, 11, none⟩ (.slice (some ⟨g2, 0, none⟩) (m + 1) cp2))) := hide (heapSet (unhide T4_) 11 (.slice (some ⟨g2, 0, none⟩) (m + 1) cp2))
            have O5 := hide (owns_set (b := bt) hown4 ht1 11 (.slice (some ⟨g2, 0, none⟩) (m + 1) cp2))
            have N5 : LeN n1 (w4.setCell ⟨bt, 11, none⟩ (.slice (some ⟨g2, 0, none⟩) (m + 1) cp2)) := by have h1 := Nat.le_trans hn1 hB4.size; unfold LeN; simpa using h1
            refine wpAnyH_take (i := 16) (oi := ?oi20059) (v := ?v20059) ?hi20059 (by kernel_rfl) (by kernel_rfl) (by kernel_rfl) (fun _ _ _ h => h) (Or.inl ⟨?hw20059, ?hy20059⟩) (by assumption) ?rest20059
            case hi20059 => (simp only [List.getElem?_toArray, List.getElem?_cons_zero, List.getElem?_cons_succ]; rfl)
            case hw20059 => rfl
            case hy20059 => first | (intro wx hSw; go_simp; done) | (intro wx hSw; go_simp; with_reducible rfl)
            simp only [Act.put, List.setIfInBounds_toArray, List.set_cons_zero, List.set_cons_succ]
            refine wpAnyH_ready (rs := [17]) (by kernel_rfl) (by simp) ?_
            refine AllReadyH.cons rfl (fun K20060 hK20060 => ?_) AllReadyH.nil
            go_simp
            refine hK20060.out _ _ ?hs20060 (fun hHeld20060 => ?_)
            case hs20060 => exact trivial
            clear hHeld
            have hHeld := hHeld20060; clear hHeld20060 hK20060 K20060
            refine wpAnyH_done (by kernel_rfl) ?_ _
            refine NoPanic.normal ?_
            skip
            exact unhide REST10 _ _ _ _ (by kernel_rfl) G5 Z5 B5 T5 O5 N5
          refine AllReadyH.cons rfl (fun K20061 hK20061 => ?_) AllReadyH.nil
          · go_simp
            have hb := below_new X2 (.cells #[.int .i64 lc, .string nm] 78)
            have hs3 := cells_two_at X2 _ rfl (.int .i64 lc) (.string nm) 78
            refine hK20061.out _ _ ?hs20061 (fun hHeld20061 => ?_)
            case hs20061 => exact trivial
            clear hHeld
            have hHeld := hHeld20061; clear hHeld20061 hK20061 K20061
            replace G := hide ((unhide G).call hb)
            replace hZ := hide ((unhide hZ).call hb)
            replace hB := hide ((unhide hB).call hb)
            replace hT := hide ((unhide hT).call hb)
            replace hU := hide ((unhide hU).call hb)
            replace hn1 := hn1.call hb
            clear lt_ t1 t2
            generalize hgs : X2.heap.size = gs at *
            generalize hXs : X2.alloc (.cells #[.int .i64 lc, .string nm] 78) = X3 at *
            clear hXs hgs hb
            have lt_ := (unhide hT).lt
            have t1 := (unhide hT).cell 11
            have t2 := (unhide hT).cell 2
            simp at t1 t2
            refine wpAnyH_ready (rs := [1]) (by kernel_rfl) (by simp) ?_
            refine AllReadyH.cons rfl (fun K20062 hK20062 => ?_) AllReadyH.nil
            go_simp
            refine hK20062.out _ _ ?hs20062 (fun hHeld20062 => ?_)
            case hs20062 => exact trivial
            clear hHeld
            have hHeld := hHeld20062; clear hHeld20062 hK20062 K20062
            refine wpAnyH_ready (rs := [15]) (by kernel_rfl) (by simp) ?_
            refine AllReadyH.cons rfl (fun K20063 hK20063 => ?_) AllReadyH.nil
            refine step_append_lies _ rfl _ _ 32 rfl n1 78 i0 _ 2 24 Try.underlying32 hi hz0 hz1 hz2 rfl (by decide) fv _ _ rfl (unhide hU) ⟨gs, 0, none⟩ 1 1 [.int .i64 lc, .string nm] rfl rfl hs3 (by simp [Value.oneCell']) (by decide) (by unfold maxLen; omega) (by omega) hn1 _ rfl ?_
            intro g2 cp2 w4 hown4 hgrow4 hat4 hlt4
            have hB4 : Below n1 X3 w4 := Below.grown (Below.refl _ _) hgrow4 hn1 (fun j e => by rcases (unhide hU).2 with ⟨rfl, _⟩ | ⟨g', cap', cur', rfl, hge', _⟩ <;> simp [Value.ownBlock] at e; omega)
            refine hK20063.out _ _ ?hs20063 (fun hHeld20063 => ?_)
            case hs20063 => exact trivial
            clear hHeld
            have hHeld := hHeld20063; clear hHeld20063 hK20063 K20063
            have hw0 : w.heap.size ≤ n1 := by omega
            have T4_ := hide (blk_base (unhide hT) hB4 ht1)
            have lt4 := (unhide T4_).lt
            have q1 := (unhide T4_).cell 11
            have f1 := (unhide T4_).froz 11
            simp at q1
            have G5 : Hid (Grown w (w4.setCell ⟨bt, 11, none⟩ (.slice (some ⟨g2, 0, none⟩) (m + 1) cp2))) := hide (Below.setCell (Below.trans (unhide G) (hB4.mono hw0)) (p := ⟨bt, 11, none⟩) hwt _)
            have Z5 := hide (Blk.set (blk_base (unhide hZ) hB4 hb1) h6t 11 (.slice (some ⟨g2, 0, none⟩) (m + 1) cp2))
            have B5 := hide (((unhide hB).base hB4 hg1).far hgt 11 (.slice (some ⟨g2, 0, none⟩) (m + 1) cp2))
            have T5 : Hid (Blk bt (tbl s0 (.slice (some ⟨g, 0, none⟩) k cap) (.int .i64 (j : Int)) (uv) ((.slice (some ⟨g2, 0, none⟩) (m + 1) cp2))) 34 (w4.setCell ⟨bt, 11, none⟩ (.slice (some ⟨g2, 0, none⟩) (m + 1) cp2))) := hide (heapSet (unhide T4_) 11 (.slice (some ⟨g2, 0, none⟩) (m + 1) cp2))
            have O5 := hide (owns_set (b := bt) hown4 ht1 11 (.slice (some ⟨g2, 0, none⟩) (m + 1) cp2))
            have N5 : LeN n1 (w4.setCell ⟨bt, 11, none⟩ (.slice (some ⟨g2, 0, none⟩) (m + 1) cp2)) := by have h1 := Nat.le_trans hn1 hB4.size; unfold LeN; simpa using h1
            refine wpAnyH_take (i := 16) (oi := ?oi20064) (v := ?v20064) ?hi20064 (by kernel_rfl) (by kernel_rfl) (by kernel_rfl) (fun _ _ _ h => h) (Or.inl ⟨?hw20064, ?hy20064⟩) (by assumption) ?rest20064
            case hi20064 => (simp only [List.getElem?_toArray, List.getElem?_cons_zero, List.getElem?_cons_succ]; rfl)
            case hw20064 => rfl
            case hy20064 => first | (intro wx hSw; go_simp; done) | (intro wx hSw; go_simp; with_reducible rfl)
            simp only [Act.put, List.setIfInBounds_toArray, List.set_cons_zero, List.set_cons_succ]
            refine wpAnyH_ready (rs := [17]) (by kernel_rfl) (by simp) ?_
            refine AllReadyH.cons rfl (fun K20065 hK20065 => ?_) AllReadyH.nil
            go_simp
            refine hK20065.out _ _ ?hs20065 (fun hHeld20065 => ?_)
            case hs20065 => exact trivial
            clear hHeld
            have hHeld := hHeld20065; clear hHeld20065 hK20065 K20065
            refine wpAnyH_done (by kernel_rfl) ?_ _
            refine NoPanic.normal ?_
            skip
            exact unhide REST10 _ _ _ _ (by kernel_rfl) G5 Z5 B5 T5 O5 N5
    · go_wp2_with fail
      refine (unhide CW _).mono ?_
      rintro e wq ⟨rfl, rfl⟩
      go_wp2_with fail
      exact unhide REST _ fv _ (by kernel_rfl) G hZ hB hT (hide (isSl_of (unhide hU)))
end Go.Proofs.Ytliefgkhpgigaaa
