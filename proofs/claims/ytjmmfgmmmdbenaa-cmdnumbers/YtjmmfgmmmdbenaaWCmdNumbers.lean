/-
  The walk of the law CmdNumbers.
-/
import Derived.Test.YtjmmfgmmmdbenaaCN2
import Derived.OpenShut
import Derived.ProofKit
import Derived.Carry
namespace Go.Proofs.Ytjmmfgmmmdbenaa
open Go.RowKit
set_option linter.unusedSimpArgs false
set_option linter.unusedVariables false

theorem within7_iz {x n j : Int} (hx : Is64 x) (hn : 0 < n ∧ n ≤ 9223372036854775807) (hj : x % n = j) (w : World) :
    Calls Try.prog 15 #[.int .i64 x, .int .i64 n] w fun e w' => e = .returned (.int .i64 j) ∧ w' = w := hj ▸ within7_any x n w hx hn
abbrev cN (x : Int) : Cm := ⟨1, x, 1, false, [], E0⟩
theorem cN_good {x : Int} (h0 : 0 ≤ x) (h1 : x ≤ 9223372036854775807) : GoodC (cN x) := by
  refine ⟨?_, h1, show (1 : Int) ≤ 9223372036854775807 by decide⟩
  unfold okC
  rw [Bool.and_eq_true]
  refine ⟨?_, rfl⟩
  unfold rightC
  refine decide_eq_true ⟨⟨show (0 : Int) ≤ 1 by decide, show (1 : Int) ≤ 5 by decide, h0, show (0 : Int) ≤ 1 by decide⟩, fun _ => ⟨rfl, rfl⟩, fun _ => rfl, show (0 : Nat) ≤ 40 by decide, show (0 : Nat) ≤ 1000 by decide, fun w hw => by cases hw⟩
def row8 (n1 n2 : Int) : Array Value := #[.int .i64 0, .int .i64 127, .int .i64 128, .int .i64 16383, .int .i64 16384, .int .i64 9223372036854775807, .int .i64 n1, .int .i64 n2]
theorem row8_at (n1 n2 : Int) (a1 : 0 ≤ n1) (b1 : n1 ≤ 9223372036854775807) (a2 : 0 ≤ n2) (b2 : n2 ≤ 9223372036854775807) (i : Nat) (hi : i < 8) : ∃ x : Int, (row8 n1 n2)[i]? = some (.int .i64 x) ∧ 0 ≤ x ∧ x ≤ 9223372036854775807 := by
  match i, hi with
  | 0, _ => exact ⟨_, rfl, by decide, by decide⟩
  | 1, _ => exact ⟨_, rfl, by decide, by decide⟩
  | 2, _ => exact ⟨_, rfl, by decide, by decide⟩
  | 3, _ => exact ⟨_, rfl, by decide, by decide⟩
  | 4, _ => exact ⟨_, rfl, by decide, by decide⟩
  | 5, _ => exact ⟨_, rfl, by decide, by decide⟩
  | 6, _ => exact ⟨_, rfl, a1, b1⟩
  | 7, _ => exact ⟨_, rfl, a2, b2⟩
theorem enc_cN (k : Nat) (hk : k < 128) : enc 2 (cN (k : Int)) = [50, 1, UInt8.ofNat k, 1, 0, 0, 0] := by
  unfold enc enc2 cN
  simp only [show ((2 : Int) = 1) = False by simp, if_false, shI, ls, tx, List.length_nil, List.flatMap_nil, Int.toNat_natCast]
  rw [sh_lt hk, sh_lt (show (1 : Int).toNat < 128 by decide), sh_lt (show (0 : Nat) < 128 by decide), show sh E0.size = [0] from sh_lt (by decide)]
  rfl
theorem bytes2_back (y : UInt8) (W : World) : (convert 35 9 (.slice (some ⟨W.heap.size, 0, none⟩) 2 2)).run Try.prog (W.alloc (.cells #[.int .u8 1, .int .u8 (y.toNat : Int)] 5)) = .ok (.string ⟨#[1, y]⟩) (W.alloc (.cells #[.int .u8 1, .int .u8 (y.toNat : Int)] 5)) := by
  have h := heap_alloc_new W (.cells #[.int .u8 1, .int .u8 (y.toNat : Int)] 5)
  exact run_convert_bytes_back (P := Try.prog) _ 35 9 5 ⟨W.heap.size, 0, none⟩ 2 [1, y] (by kernel_rfl) (by kernel_rfl) (by kernel_rfl)
    (fun j hj => by
      have hc := cell_of_row _ W.heap.size j _ _ _ h
      match j, hj with
      | 0, _ => exact hc
      | 1, _ => exact hc)
set_option maxRecDepth 100000 in
set_option maxHeartbeats 16000000 in
theorem cmdNumbers_core (id pad : Int) (w : World) (ki : Is64 id) (kp : Is64 pad) :
    Calls Try.prog 10 #[.int .i64 id, .int .i64 pad] w fun e w' => e = .returned (.bool true) ∧ Below w.heap.size w w' := by
  obtain ⟨n1, hn1⟩ : ∃ n1, id % 4611686018427387904 = n1 := ⟨_, rfl⟩
  obtain ⟨n2, hn2⟩ : ∃ n2, id % 70000 = n2 := ⟨_, rfl⟩
  obtain ⟨k, hk⟩ : ∃ k : Nat, id % 128 = (k : Int) := ⟨(id % 128).toNat, by omega⟩
  obtain ⟨m, hm⟩ : ∃ m : Nat, pad % 4 = (m : Int) := ⟨(pad % 4).toNat, by omega⟩
  have hk2 : k < 128 := by omega
  have hm2 : m < 4 := by omega
  have C1 := hide (fun W => within7_iz ki (by decide) hn1 W)
  have C2 := hide (fun W => within7_iz ki (by decide) hn2 W)
  have C3 := hide (fun W => within7_iz ki (by decide) hk W)
  have CM := hide (fun W => within7_iz kp (by decide) hm W)
  have R8 := hide (row8_at n1 n2 (by omega) (by omega) (by omega) (by omega))
  clear hn1 hn2 hk hm
  go_enter Try.func10, Try.ntmps10
  go_wp2_with (first | (go_at_call 13; refine (known7_any _).mono ?_; rintro e W1 ⟨rfl, hb1⟩) | (go_at_call 15; first | (refine (unhide C1 _).mono ?_; rintro e X2 ⟨rfl, hX2⟩; replace hX2 := hX2.symm; subst hX2; clear C1) | (refine (unhide C2 _).mono ?_; rintro e X2 ⟨rfl, hX2⟩; replace hX2 := hX2.symm; subst hX2; clear C2)))
  have HB1 := hide (Below.onto hb1 (below_new W1 (.cells (row8 n1 n2) 3)))
  have hrow : Blk W1.heap.size (row8 n1 n2) 3 (W1.alloc (.cells (row8 n1 n2) 3)) := Blk.new W1 _ _
  unfold row8 at HB1 hrow
  generalize W1.alloc (.cells #[.int .i64 0, .int .i64 127, .int .i64 128, .int .i64 16383, .int .i64 16384, .int .i64 9223372036854775807, .int .i64 n1, .int .i64 n2] 3) = X0 at *
  generalize W1.heap.size = g at *
  replace hrow := hide hrow
  clear hb1
  go_loopw [6] (fun i wr => ∃ i0 : Nat, i0 ≤ 8 ∧ i = .int .i64 (i0 : Int) ∧ Hid (Blk g (row8 n1 n2) 3 wr) ∧ Hid (Below w.heap.size w wr)) (fun i wr => 8 - (intOf i).toNat)
  case atStart => exact ⟨0, by omega, rfl, hrow, HB1⟩
  case round =>
    clear hrow HB1
    obtain ⟨i0, hi8, rfl, hrow, HB1⟩ := hrel
    by_cases hlt : i0 < 8
    · obtain ⟨x, hx, hx0, hx1⟩ := unhide R8 i0 hlt
      have HX := hide hx
      have hlti : (i0 : Int) < 8 := by omega
      clear hx
      have gd := cN_good hx0 hx1
      have EN := hide (fun f (hf : f = 1 ∨ f = 2) v W hv => encG gd (f := f) (hf.elim (fun h => .inr ⟨h, show (1 : Int) ≠ 5 by decide⟩) .inl) v W hv)
      have DN := hide (fun f (hf : f = 1 ∨ f = 2) W => decG gd (f := f) (hf.elim (fun h => .inr ⟨h, show (1 : Int) ≠ 5 by decide⟩) .inl) W)
      clear gd
      go_wp2
      go_loopw [7] (fun f wr => ∃ f0 : Int, 1 ≤ f0 ∧ f0 ≤ 3 ∧ f = .int .i64 f0 ∧ Hid (Blk g (row8 n1 n2) 3 wr) ∧ Hid (Below w.heap.size w wr)) (fun f wr => (3 - intOf f).toNat)
      case atStart => exact ⟨1, by omega, by omega, rfl, hrow, HB1⟩
      case round =>
        clear hrow HB1
        obtain ⟨f0, hf1, hf3, rfl, hrow, HB1⟩ := hrel
        by_cases hf : f0 < 3
        · have c_ := (unhide hrow).cell i0
          rw [unhide HX] at c_
          have hw1 : IntKind.i64.wrap (f0 + 1) = f0 + 1 := IntWalk.i64_in _ (by omega)
          go_wp2_with (first | (go_at_call 16; refine (unhide EN f0 (by omega) _ _ ⟨none, 0, rfl, wsv_nil _⟩).mono ?_; rintro e W2 ⟨rfl, hb2⟩) | (go_at_call 18; refine (unhide DN f0 (by omega) _).mono ?_; rintro e W3 ⟨p, cap, rfl, _, hb3⟩))
          rename_i hrest
          have hbn := below_new W3 (.cells #[.int .i64 1, .int .i64 x, .int .i64 1, .bool false, .slice p 0 cap, .string E0] 26)
          have hbd : Below (W3.alloc (.cells #[.int .i64 1, .int .i64 x, .int .i64 1, .bool false, .slice p 0 cap, .string E0] 26)).heap.size (W3.alloc (.cells #[.int .i64 1, .int .i64 x, .int .i64 1, .bool false, .slice p 0 cap, .string E0] 26)) (W3.alloc (.cells #[.int .i64 1, .int .i64 x, .int .i64 1, .bool false, .slice p 0 cap, .string E0] 26)).drew := (Below.refl _ _).drew
          have HC := hide ((Blk.new W3 #[.int .i64 1, .int .i64 x, .int .i64 1, .bool false, .slice p 0 cap, .string E0] 26).below hbd)
          have hb4 := Below.onto (Below.onto (Below.onto hb2 hb3) hbn) hbd
          replace hrow := hide ((unhide hrow).below hb4)
          replace HB1 := hide (Below.onto (unhide HB1) hb4)
          clear hb2 hb3 hbn hb4
          refine wp_region_noPanic ?_
          refine wp_region_held_drew (S := (fun X => Blk W3.heap.size #[.int .i64 1, .int .i64 x, .int .i64 1, .bool false, .slice p 0 cap, .string E0] 26 X ∧ Blk g (row8 n1 n2) 3 X)) (by kernel_rfl) (⟨unhide HC, unhide hrow⟩) (fun hHeld => ?_)
          clear hbd
          generalize (W3.alloc (.cells #[.int .i64 1, .int .i64 x, .int .i64 1, .bool false, .slice p 0 cap, .string E0] 26)).drew = Wd at *
          refine wpAnyH_take (i := 0) (oi := ?oi20001) (v := ?v20001) ?hi20001 (by kernel_rfl) (by kernel_rfl) (by kernel_rfl) (fun _ _ _ h => h) (Or.inl ⟨?hw20001, ?hy20001⟩) (by assumption) ?rest20001
          case hi20001 => (simp only [List.getElem?_toArray, List.getElem?_cons_zero]; rfl)
          case hw20001 => rfl
          case hy20001 => first | (intro wx hSw; go_simp; done) | (intro wx hSw; go_simp; with_reducible rfl)
          simp only [Act.put, List.setIfInBounds_toArray, List.set_cons_zero, List.set_cons_succ]
          refine wpAnyH_take (i := 1) (oi := ?oi20002) (v := ?v20002) ?hi20002 (by kernel_rfl) (by kernel_rfl) (by kernel_rfl) (fun _ _ _ h => h) (Or.inl ⟨?hw20002, ?hy20002⟩) (by assumption) ?rest20002
          case hi20002 => (simp only [List.getElem?_toArray, List.getElem?_cons_zero, List.getElem?_cons_succ]; rfl)
          case hw20002 => rfl
          case hy20002 => first | (intro wx hSw; go_simp; done) | (intro wx hSw; go_simp; with_reducible rfl)
          simp only [Act.put, List.setIfInBounds_toArray, List.set_cons_zero, List.set_cons_succ]
          refine wpAnyH_take (i := 2) (oi := ?oi20003) (v := ?v20003) ?hi20003 (by kernel_rfl) (by kernel_rfl) (by kernel_rfl) (fun _ _ _ h => h) (Or.inl ⟨?hw20003, ?hy20003⟩) (by assumption) ?rest20003
          case hi20003 => (simp only [List.getElem?_toArray, List.getElem?_cons_zero, List.getElem?_cons_succ]; rfl)
          case hw20003 => rfl
          case hy20003 => first | (intro wx hSw; go_simp; done) | (intro wx hSw; go_simp; with_reducible rfl)
          simp only [Act.put, List.setIfInBounds_toArray, List.set_cons_zero, List.set_cons_succ]
          refine wpAnyH_take (i := 3) (oi := ?oi20004) (v := ?v20004) ?hi20004 (by kernel_rfl) (by kernel_rfl) (by kernel_rfl) (fun _ _ _ h => h) (Or.inl ⟨?hw20004, ?hy20004⟩) (by assumption) ?rest20004
          case hi20004 => (simp only [List.getElem?_toArray, List.getElem?_cons_zero, List.getElem?_cons_succ]; rfl)
          case hw20004 => rfl
          case hy20004 => first | (intro wx hSw; go_simp; done) | (intro wx hSw; go_simp; with_reducible rfl)
          simp only [Act.put, List.setIfInBounds_toArray, List.set_cons_zero, List.set_cons_succ]
          refine wpAnyH_take (i := 4) (oi := ?oi20005) (v := ?v20005) ?hi20005 (by kernel_rfl) (by kernel_rfl) (by kernel_rfl) (fun _ _ _ h => h) (Or.inl ⟨?hw20005, ?hy20005⟩) (by assumption) ?rest20005
          case hi20005 => (simp only [List.getElem?_toArray, List.getElem?_cons_zero, List.getElem?_cons_succ]; rfl)
          case hw20005 => rfl
          case hy20005 => first | (intro wx hSw; go_simp; done) | (intro wx hSw; go_simp; with_reducible rfl)
          simp only [Act.put, List.setIfInBounds_toArray, List.set_cons_zero, List.set_cons_succ]
          refine wpAnyH_take (i := 5) (oi := ?oi20006) (v := ?v20006) ?hi20006 (by kernel_rfl) (by kernel_rfl) (by kernel_rfl) (fun _ _ _ h => h) (Or.inl ⟨?hw20006, ?hy20006⟩) (by assumption) ?rest20006
          case hi20006 => (simp only [List.getElem?_toArray, List.getElem?_cons_zero, List.getElem?_cons_succ]; rfl)
          case hw20006 => rfl
          case hy20006 => first | (intro wx hSw; go_simp; done) | (intro wx hSw; go_simp; with_reducible rfl)
          simp only [Act.put, List.setIfInBounds_toArray, List.set_cons_zero, List.set_cons_succ]
          refine wpAnyH_take (i := 6) (oi := ?oi20007) (v := ?v20007) ?hi20007 (by kernel_rfl) (by kernel_rfl) (by kernel_rfl) (fun _ _ _ h => h) (Or.inl ⟨?hw20007, ?hy20007⟩) (by assumption) ?rest20007
          case hi20007 => (simp only [List.getElem?_toArray, List.getElem?_cons_zero, List.getElem?_cons_succ]; rfl)
          case hw20007 => rfl
          case hy20007 => first | (intro wx hSw; go_simp; done) | (intro wx hSw; go_simp; with_reducible rfl)
          simp only [Act.put, List.setIfInBounds_toArray, List.set_cons_zero, List.set_cons_succ]
          refine wpAnyH_take (i := 7) (oi := ?oi20008) (v := ?v20008) ?hi20008 (by kernel_rfl) (by kernel_rfl) (by kernel_rfl) (fun _ _ _ h => h) (Or.inl ⟨?hw20008, ?hy20008⟩) (by assumption) ?rest20008
          case hi20008 => (simp only [List.getElem?_toArray, List.getElem?_cons_zero, List.getElem?_cons_succ]; rfl)
          case hw20008 => rfl
          case hy20008 => first | (intro wx hSw; go_simp; done) | (intro wx hSw; go_simp; with_reducible rfl)
          simp only [Act.put, List.setIfInBounds_toArray, List.set_cons_zero, List.set_cons_succ]
          refine wpAnyH_take (i := 8) (oi := ?oi20009) (v := ?v20009) ?hi20009 (by kernel_rfl) (by kernel_rfl) (by kernel_rfl) (fun _ _ _ h => h) (Or.inl ⟨?hw20009, ?hy20009⟩) (by assumption) ?rest20009
          case hi20009 => (simp only [List.getElem?_toArray, List.getElem?_cons_zero, List.getElem?_cons_succ]; rfl)
          case hw20009 => rfl
          case hy20009 => first | (intro wx hSw; go_simp; done) | (intro wx hSw; go_simp; with_reducible rfl)
          simp only [Act.put, List.setIfInBounds_toArray, List.set_cons_zero, List.set_cons_succ]
          refine wpAnyH_take (i := 9) (oi := ?oi20010) (v := ?v20010) ?hi20010 (by kernel_rfl) (by kernel_rfl) (by kernel_rfl) (fun _ _ _ h => h) (Or.inl ⟨?hw20010, ?hy20010⟩) (by assumption) ?rest20010
          case hi20010 => (simp only [List.getElem?_toArray, List.getElem?_cons_zero, List.getElem?_cons_succ]; rfl)
          case hw20010 => rfl
          case hy20010 => first | (intro wx hSw; go_simp; done) | (intro wx hSw; go_simp; with_reducible rfl)
          simp only [Act.put, List.setIfInBounds_toArray, List.set_cons_zero, List.set_cons_succ]
          refine wpAnyH_take (i := 10) (oi := ?oi20011) (v := ?v20011) ?hi20011 (by kernel_rfl) (by kernel_rfl) (by kernel_rfl) (fun _ _ _ h => h) (Or.inl ⟨?hw20011, ?hy20011⟩) (by assumption) ?rest20011
          case hi20011 => (simp only [List.getElem?_toArray, List.getElem?_cons_zero, List.getElem?_cons_succ]; rfl)
          case hw20011 => rfl
          case hy20011 => first | (intro wx hSw; go_simp; done) | (intro wx hSw; go_simp; with_reducible rfl)
          simp only [Act.put, List.setIfInBounds_toArray, List.set_cons_zero, List.set_cons_succ]
          refine wpAnyH_take (i := 11) (oi := ?oi20012) (v := ?v20012) ?hi20012 (by kernel_rfl) (by kernel_rfl) (by kernel_rfl) (fun _ _ _ h => h) (Or.inl ⟨?hw20012, ?hy20012⟩) (by assumption) ?rest20012
          case hi20012 => (simp only [List.getElem?_toArray, List.getElem?_cons_zero, List.getElem?_cons_succ]; rfl)
          case hw20012 => rfl
          case hy20012 => first | (intro wx hSw; go_simp; done) | (intro wx hSw; go_simp; with_reducible rfl)
          simp only [Act.put, List.setIfInBounds_toArray, List.set_cons_zero, List.set_cons_succ]
          refine wpAnyH_take (i := 12) (oi := ?oi20013) (v := ?v20013) ?hi20013 (by kernel_rfl) (by kernel_rfl) (by kernel_rfl) (fun _ _ _ h => h) (Or.inl ⟨?hw20013, ?hy20013⟩) (by assumption) ?rest20013
          case hi20013 => (simp only [List.getElem?_toArray, List.getElem?_cons_zero, List.getElem?_cons_succ]; rfl)
          case hw20013 => rfl
          case hy20013 => first | (intro wx hSw; go_simp; done) | (intro wx hSw; go_simp; with_reducible rfl)
          simp only [Act.put, List.setIfInBounds_toArray, List.set_cons_zero, List.set_cons_succ]
          refine wpAnyH_take (i := 13) (oi := ?oi20014) (v := ?v20014) ?hi20014 (by kernel_rfl) (by kernel_rfl) (by kernel_rfl) (fun _ _ _ h => h) (Or.inl ⟨?hw20014, ?hy20014⟩) (by assumption) ?rest20014
          case hi20014 => (simp only [List.getElem?_toArray, List.getElem?_cons_zero, List.getElem?_cons_succ]; rfl)
          case hw20014 => rfl
          case hy20014 => first | (intro wx hSw; have q_ := hSw.1.cell 1; simp at q_; go_simp; done) | (intro wx hSw; have q_ := hSw.1.cell 1; simp at q_; go_simp; with_reducible rfl)
          simp only [Act.put, List.setIfInBounds_toArray, List.set_cons_zero, List.set_cons_succ]
          refine wpAnyH_take (i := 14) (oi := ?oi20015) (v := ?v20015) ?hi20015 (by kernel_rfl) (by kernel_rfl) (by kernel_rfl) (fun _ _ _ h => h) (Or.inl ⟨?hw20015, ?hy20015⟩) (by assumption) ?rest20015
          case hi20015 => (simp only [List.getElem?_toArray, List.getElem?_cons_zero, List.getElem?_cons_succ]; rfl)
          case hw20015 => rfl
          case hy20015 => first | (intro wx hSw; go_simp; done) | (intro wx hSw; go_simp; with_reducible rfl)
          simp only [Act.put, List.setIfInBounds_toArray, List.set_cons_zero, List.set_cons_succ]
          refine wpAnyH_take (i := 15) (oi := ?oi20016) (v := ?v20016) ?hi20016 (by kernel_rfl) (by kernel_rfl) (by kernel_rfl) (fun _ _ _ h => h) (Or.inl ⟨?hw20016, ?hy20016⟩) (by assumption) ?rest20016
          case hi20016 => (simp only [List.getElem?_toArray, List.getElem?_cons_zero, List.getElem?_cons_succ]; rfl)
          case hw20016 => rfl
          case hy20016 => first | (intro wx hSw; go_simp; done) | (intro wx hSw; go_simp; with_reducible rfl)
          simp only [Act.put, List.setIfInBounds_toArray, List.set_cons_zero, List.set_cons_succ]
          refine wpAnyH_take (i := 16) (oi := ?oi20017) (v := ?v20017) ?hi20017 (by kernel_rfl) (by kernel_rfl) (by kernel_rfl) (fun _ _ _ h => h) (Or.inl ⟨?hw20017, ?hy20017⟩) (by assumption) ?rest20017
          case hi20017 => (simp only [List.getElem?_toArray, List.getElem?_cons_zero, List.getElem?_cons_succ]; rfl)
          case hw20017 => rfl
          case hy20017 => first | (intro wx hSw; go_simp; done) | (intro wx hSw; go_simp; with_reducible rfl)
          simp only [Act.put, List.setIfInBounds_toArray, List.set_cons_zero, List.set_cons_succ]
          refine wpAnyH_take (i := 17) (oi := ?oi20018) (v := ?v20018) ?hi20018 (by kernel_rfl) (by kernel_rfl) (by kernel_rfl) (fun _ _ _ h => h) (Or.inl ⟨?hw20018, ?hy20018⟩) (by assumption) ?rest20018
          case hi20018 => (simp only [List.getElem?_toArray, List.getElem?_cons_zero, List.getElem?_cons_succ]; rfl)
          case hw20018 => rfl
          case hy20018 => first | (intro wx hSw; have q_ := hSw.2.cell i0; rw [unhide HX] at q_; go_simp; done) | (intro wx hSw; have q_ := hSw.2.cell i0; rw [unhide HX] at q_; go_simp; with_reducible rfl)
          simp only [Act.put, List.setIfInBounds_toArray, List.set_cons_zero, List.set_cons_succ]
          refine wpAnyH_take (i := 18) (oi := ?oi20019) (v := ?v20019) ?hi20019 (by kernel_rfl) (by kernel_rfl) (by kernel_rfl) (fun _ _ _ h => h) (Or.inl ⟨?hw20019, ?hy20019⟩) (by assumption) ?rest20019
          case hi20019 => (simp only [List.getElem?_toArray, List.getElem?_cons_zero, List.getElem?_cons_succ]; rfl)
          case hw20019 => rfl
          case hy20019 => first | (intro wx hSw; go_simp; done) | (intro wx hSw; go_simp; with_reducible rfl)
          simp only [Act.put, List.setIfInBounds_toArray, List.set_cons_zero, List.set_cons_succ]
          refine wpAnyH_take (i := 19) (oi := ?oi20020) (v := ?v20020) ?hi20020 (by kernel_rfl) (by kernel_rfl) (by kernel_rfl) (fun _ _ _ h => h) (Or.inl ⟨?hw20020, ?hy20020⟩) (by assumption) ?rest20020
          case hi20020 => (simp only [List.getElem?_toArray, List.getElem?_cons_zero, List.getElem?_cons_succ]; rfl)
          case hw20020 => rfl
          case hy20020 => first | (intro wx hSw; go_simp; done) | (intro wx hSw; go_simp; with_reducible rfl)
          simp only [Act.put, List.setIfInBounds_toArray, List.set_cons_zero, List.set_cons_succ]
          refine wpAnyH_done (by kernel_rfl) ?_ _
          refine NoPanic.normal ?_
          refine hrest _ _ ?_
          clear hHeld
          go_wp2
          go_roundw
          case rel => exact ⟨f0 + 1, by omega, by omega, by go_num, hrow, HB1⟩
          case measure => simp [intOf] <;> omega
        · obtain rfl : f0 = 3 := by omega
          go_wp2
          exact ⟨⟨i0 + 1, by omega, by go_num, hrow, HB1⟩, by simp [intOf]; omega⟩
    · obtain rfl : i0 = 8 := by omega
      have BB1 := bytes2_back (UInt8.ofNat (k + 128))
      have BB2 := bytes2_back (UInt8.ofNat k)
      have hy1 : ((UInt8.ofNat (k + 128)).toNat : Int) = (k : Int) + 128 := by rw [u8_ofNat (by omega)]; omega
      have hy2 : ((UInt8.ofNat k).toNat : Int) = (k : Int) := by rw [u8_ofNat (by omega)]
      rw [hy1] at BB1
      rw [hy2] at BB2
      have hy3 : Hid (UInt8.ofNat (k + 128) = UInt8.ofNat (k + 128)) := rfl
      obtain ⟨y1, hyy1⟩ : ∃ y, UInt8.ofNat (k + 128) = y := ⟨_, rfl⟩
      obtain ⟨y2, hyy2⟩ : ∃ y, UInt8.ofNat k = y := ⟨_, rfl⟩
      rw [hyy1] at BB1
      rw [hyy2] at BB2
      have HY1 := hide hyy1
      have HY2 := hide hyy2
      clear hy1 hy2 hy3 hyy1 hyy2 R8 hrow
      have hw1 : IntKind.i64.wrap ((k : Int) + 128) = (k : Int) + 128 := IntWalk.i64_in _ (by omega)
      have hw2 : IntKind.u8.wrap ((k : Int) + 128) = (k : Int) + 128 := by show ((k : Int) + 128) % 256 = _; omega
      have hw3 : IntKind.u8.wrap (k : Int) = (k : Int) := by show (k : Int) % 256 = _; omega
      go_wp2_with (go_at_call 15; refine (unhide C3 _).mono ?_; rintro e X2 ⟨rfl, hX2⟩; replace hX2 := hX2.symm; subst hX2)
      have HB2 := hide (Below.onto (unhide HB1) (below_new wr (.cells #[.int .u8 1, .int .u8 ((k : Int) + 128)] 5)))
      clear HB1
      generalize wr.alloc (.cells #[.int .u8 1, .int .u8 ((k : Int) + 128)] 5) = X0 at *
      go_loopw [14, 15] (fun t j wr => ∃ (j0 : Nat) (t0 : ByteArray), j0 ≤ m ∧ j = .int .i64 (j0 : Int) ∧ t = .string t0 ∧ Hid (by8 t0 = 50 :: 1 :: y1 :: List.replicate j0 128) ∧ t0.size = 3 + j0 ∧ Hid (Below w.heap.size w wr)) (fun t j wr => m - (intOf j).toNat)
      case atStart => exact ⟨0, _, by omega, rfl, rfl, by show _ = _; rfl, by rfl, HB2⟩
      case round =>
        clear HB2
        obtain ⟨j0, t0, hj0, rfl, rfl, HT, htz, HB2⟩ := hrel
        by_cases hjm : j0 < m
        · have hcat : ¬ 9223372036854775807 < t0.size + 1 := by omega
          go_wp2_with (go_at_call 15; refine (unhide CM _).mono ?_; rintro e X2 ⟨rfl, hX2⟩; replace hX2 := hX2.symm; subst hX2)
          go_roundw
          case rel =>
            refine ⟨j0 + 1, _, by omega, by go_num, rfl, ?_, ?_, HB2⟩
            · show _ = _
              have := unhide HT
              rw [List.replicate_succ']
              simp only [by8] at this ⊢
              simp [this]
            · rw [ByteArray.size_append, htz]; rfl
          case measure => simp [intOf] <;> omega
        · obtain rfl : j0 = m := by omega
          have hcat1 : ¬ 9223372036854775807 < t0.size + 1 := by omega
          have hcat4 : ¬ 9223372036854775807 < t0.size + 1 + 4 := by omega
          have hby1 : by8 (t0 ++ (⟨#[0]⟩ : ByteArray) ++ (⟨#[1, 0, 0, 0]⟩ : ByteArray)) = 50 :: 1 :: UInt8.ofNat (k + 128) :: (List.replicate j0 128 ++ 0 :: [1, 0, 0, 0]) := by
            have := unhide HT
            rw [unhide HY1]
            simp only [by8] at this ⊢
            simp [this]
          have hby2 : by8 ((⟨#[50]⟩ : ByteArray) ++ (⟨#[1, y2]⟩ : ByteArray) ++ (⟨#[1, 0, 0, 0]⟩ : ByteArray)) = enc 2 (cN k) := by
            rw [← unhide HY2]
            show _ = _
            rw [enc_cN k hk2]
            simp [by8]
          have D1 := hide (fun W => decN (t0 ++ (⟨#[0]⟩ : ByteArray) ++ (⟨#[1, 0, 0, 0]⟩ : ByteArray)) (by rw [ByteArray.size_append, ByteArray.size_append, htz]; show 3 + j0 + 1 + 4 ≤ _; omega) (none_pad k j0 hk2 _ _ hby1) W)
          have D2 := hide (fun W => decode_of ((⟨#[50]⟩ : ByteArray) ++ (⟨#[1, y2]⟩ : ByteArray) ++ (⟨#[1, 0, 0, 0]⟩ : ByteArray)) (by rw [ByteArray.size_append, ByteArray.size_append]; show 1 + 2 + 4 ≤ 1099511627776; decide) W 2 (cN k) (.inr rfl) (cN_good (by omega) (by omega)).1 (by show (k : Int) ≤ _; omega) (show (1 : Int) ≤ 9223372036854775807 by decide) hby2)
          clear hby1 hby2 C3 HT
          go_wp2_with (first | (go_at_call 15; refine (unhide CM _).mono ?_; rintro e X2 ⟨rfl, hX2⟩; replace hX2 := hX2.symm; subst hX2) | (go_at_call 18; first | (refine (unhide D1 _).mono ?_; rintro e W4 ⟨rfl, hb4⟩; clear D1; have BB3 := BB2 (W4.alloc (.cells #[.int .i64 0, .int .i64 0, .int .i64 0, .bool false, .slice none 0 0, .string ⟨#[]⟩] 26)); rw [World.size_alloc] at BB3) | (refine (unhide D2 _).mono ?_; rintro e W5 ⟨p5, cap5, rfl, _, hb5⟩)))
          go_ret
          exact ⟨rfl, Below.onto (Below.onto (Below.onto (Below.onto (Below.onto (unhide HB2) hb4) (below_new _ _)) (below_new _ _)) hb5) (below_new _ _)⟩
open Go.ChangeShapes Go.WideShapes Go.ChangeAt in
theorem cmdNumbers_walk (a0 a1 : Int) (w0 : (Lit.int .i64 a0).wf = true) (w1 : (Lit.int .i64 a1).wf = true) (w : World) :
    Calls Try.prog 10 #[.int .i64 a0, .int .i64 a1] w fun e w' => e = .returned (.bool true) ∧ Below w.heap.size w w' :=
  cmdNumbers_core a0 a1 w (bounds_i64 w0) (bounds_i64 w1)
end Go.Proofs.Ytjmmfgmmmdbenaa
