/-
  The statements' Make: for every argument.
-/
import Derived.Test.YtjmmfgmmmdbenaaCM1
import Derived.Test.YtjmmfgmmmdbenaaCM2
import Derived.Test.YtjmmfgmmmdbenaaCM3
namespace Go.Proofs.Ytjmmfgmmmdbenaa
open Go.RowKit
set_option linter.unusedSimpArgs false
set_option linter.unusedVariables false

set_option maxRecDepth 100000 in
set_option maxHeartbeats 32000000 in
theorem make7_core (kind id txn k i1 i2 t d2 x : Int) (j : Nat) (p : Option Addr) (ncap : Nat) (zs : List Int) (s : ByteArray) (w : World) (CK : Hid (W7 kind 6 k)) (CA : Hid (W7 id 200 i1)) (CB : Hid (W7 id 1099511627776 i2)) (CC : Hid (W7 (kind.tdiv 6) 3 j)) (CT : Hid (W7 txn 1073741824 t)) (CD : Hid (W7 txn 2 d2)) (hx : Hid ((#[.int .i64 i1, .int .i64 i2, .int .i64 9223372036854775807] : Array Value)[j]? = some (.int .i64 x))) (hj : j < 3) (hq : IntKind.i64.wrap (kind.tdiv 6) = kind.tdiv 6) (hz : Hid (IntsP p zs w)) (hs : s.size ≤ 200) (hk : 0 ≤ k ∧ k ≤ 5) :
    Calls Try.prog 14 #[.int .i64 kind, .int .i64 id, .int .i64 txn, .slice p zs.length ncap, .string s] w (MadeP k x t d2 s zs w) := by
  go_enter Try.func14, Try.ntmps14
  go_wp2
  rename_i K1 hrest
  have REST : ∀ (ac : Act) (b : Nat) (X : World), ac = ⟨#[.int .i64 kind, .int .i64 id, .int .i64 txn, .slice p zs.length ncap, .string s, ac.tmps.getD 5 undef, ac.tmps.getD 6 undef, ac.tmps.getD 7 undef, ac.tmps.getD 8 undef, ac.tmps.getD 9 undef, .pointer (some ⟨w.heap.size, 0, none⟩), .pointer (some ⟨b, 0, none⟩), ac.tmps.getD 12 undef, ac.tmps.getD 13 undef, ac.tmps.getD 14 undef, ac.tmps.getD 15 undef, ac.tmps.getD 16 undef, ac.tmps.getD 17 undef, ac.tmps.getD 18 undef, ac.tmps.getD 19 undef, ac.tmps.getD 20 undef, ac.tmps.getD 21 undef, ac.tmps.getD 22 undef, ac.tmps.getD 23 undef, ac.tmps.getD 24 undef, ac.tmps.getD 25 undef, ac.tmps.getD 26 undef, ac.tmps.getD 27 undef, ac.tmps.getD 28 undef, ac.tmps.getD 29 undef, ac.tmps.getD 30 undef, ac.tmps.getD 31 undef, ac.tmps.getD 32 undef, ac.tmps.getD 33 undef, ac.tmps.getD 34 undef, ac.tmps.getD 35 undef, ac.tmps.getD 36 undef, ac.tmps.getD 37 undef, ac.tmps.getD 38 undef, ac.tmps.getD 39 undef, ac.tmps.getD 40 undef, ac.tmps.getD 41 undef, ac.tmps.getD 42 undef, ac.tmps.getD 43 undef, ac.tmps.getD 44 undef, ac.tmps.getD 45 undef, ac.tmps.getD 46 undef, ac.tmps.getD 47 undef, ac.tmps.getD 48 undef, ac.tmps.getD 49 undef, ac.tmps.getD 50 undef, ac.tmps.getD 51 undef, ac.tmps.getD 52 undef, ac.tmps.getD 53 undef, ac.tmps.getD 54 undef, ac.tmps.getD 55 undef, ac.tmps.getD 56 undef, ac.tmps.getD 57 undef, ac.tmps.getD 58 undef, ac.tmps.getD 59 undef, ac.tmps.getD 60 undef, ac.tmps.getD 61 undef, ac.tmps.getD 62 undef, ac.tmps.getD 63 undef, ac.tmps.getD 64 undef, ac.tmps.getD 65 undef, ac.tmps.getD 66 undef, ac.tmps.getD 67 undef, ac.tmps.getD 68 undef, ac.tmps.getD 69 undef, ac.tmps.getD 70 undef, ac.tmps.getD 71 undef, ac.tmps.getD 72 undef, ac.tmps.getD 73 undef, ac.tmps.getD 74 undef, ac.tmps.getD 75 undef, ac.tmps.getD 76 undef, ac.tmps.getD 77 undef, ac.tmps.getD 78 undef, ac.tmps.getD 79 undef, ac.tmps.getD 80 undef, ac.tmps.getD 81 undef, ac.tmps.getD 82 undef, ac.tmps.getD 83 undef, ac.tmps.getD 84 undef, ac.tmps.getD 85 undef, ac.tmps.getD 86 undef, ac.tmps.getD 87 undef, ac.tmps.getD 88 undef, ac.tmps.getD 89 undef, ac.tmps.getD 90 undef, ac.tmps.getD 91 undef, ac.tmps.getD 92 undef, ac.tmps.getD 93 undef, ac.tmps.getD 94 undef, ac.tmps.getD 95 undef, ac.tmps.getD 96 undef, ac.tmps.getD 97 undef, ac.tmps.getD 98 undef, ac.tmps.getD 99 undef, ac.tmps.getD 100 undef, ac.tmps.getD 101 undef, ac.tmps.getD 102 undef, ac.tmps.getD 103 undef], []⟩ → Hid (Below w.heap.size w X) → Hid (Blk b #[.int .i64 k, .int .i64 x, .int .i64 t, .bool false, .slice none 0 0, .string ⟨#[]⟩] 26 X) → Hid (Blk w.heap.size #[.int .i64 0, .int .i64 0, .int .i64 0, .bool false, .slice none 0 0, .string ⟨#[]⟩] 26 X) → w.heap.size < b → K1 ac X := by
    intro ac b X ha GE RE RZ hlt
    refine hrest _ _ ?_
    by_cases h5 : k = 5
    · exact make7_t5 rfl kind id txn k x t d2 p ncap zs s w CD hz hs ac b X ha GE RE RZ hlt h5
    · by_cases h2 : k = 2
      · exact make7_k2 rfl kind id txn k x t d2 p ncap zs s w CD hz hs ac b X ha GE RE RZ hlt h2
      · by_cases h3 : k = 3
        · exact make7_k3 rfl kind id txn k x t d2 p ncap zs s w CD hz hs ac b X ha GE RE RZ hlt h3
        · exact make7_t0 rfl kind id txn k x t d2 p ncap zs s w CD hz hs ac b X ha GE RE RZ hlt h5 h2 h3
  have hj3 : (j : Int) < 3 := by omega
  replace REST := hide REST
  clear hrest
  have rz := (Blk.new w #[.int .i64 0, .int .i64 0, .int .i64 0, .bool false, .slice none 0 0, .string ⟨#[]⟩] 26).below ((Below.refl _ _).drew)
  have GD := (below_new w (.cells #[.int .i64 0, .int .i64 0, .int .i64 0, .bool false, .slice none 0 0, .string ⟨#[]⟩] 26)).drew
  refine wp_region_noPanic ?_
  refine wp_region_held_drew (S := fun _ => True) (by kernel_rfl) (trivial) (fun hHeld => ?_)
  generalize hWd : (w.alloc (.cells #[.int .i64 0, .int .i64 0, .int .i64 0, .bool false, .slice none 0 0, .string ⟨#[]⟩] 26)).drew = X at *
  clear hWd
  refine wpAnyH_take (i := 0) (oi := ?oi20085) (v := ?v20085) ?hi20085 (by kernel_rfl) (by kernel_rfl) (by kernel_rfl) (fun _ _ _ h => h) (Or.inl ⟨?hw20085, ?hy20085⟩) (by assumption) ?rest20085
  case hi20085 => (simp only [List.getElem?_toArray, List.getElem?_cons_zero]; rfl)
  case hw20085 => rfl
  case hy20085 => first | (intro wx hSw; go_simp; done) | (intro wx hSw; go_simp; with_reducible rfl)
  simp only [Act.put, List.setIfInBounds_toArray, List.set_cons_zero, List.set_cons_succ]
  refine wpAnyH_take (i := 2) (oi := ?oi20086) (v := ?v20086) ?hi20086 (by kernel_rfl) (by kernel_rfl) (by kernel_rfl) (fun _ _ _ h => h) (Or.inl ⟨?hw20086, ?hy20086⟩) (by assumption) ?rest20086
  case hi20086 => (simp only [List.getElem?_toArray, List.getElem?_cons_zero, List.getElem?_cons_succ]; rfl)
  case hw20086 => rfl
  case hy20086 => first | (intro wx hSw; go_simp; done) | (intro wx hSw; go_simp; with_reducible rfl)
  simp only [Act.put, List.setIfInBounds_toArray, List.set_cons_zero, List.set_cons_succ]
  refine wpAnyH_take (i := 4) (oi := ?oi20087) (v := ?v20087) ?hi20087 (by kernel_rfl) (by kernel_rfl) (by kernel_rfl) (fun _ _ _ h => h) (Or.inl ⟨?hw20087, ?hy20087⟩) (by assumption) ?rest20087
  case hi20087 => (simp only [List.getElem?_toArray, List.getElem?_cons_zero, List.getElem?_cons_succ]; rfl)
  case hw20087 => rfl
  case hy20087 => first | (intro wx hSw; go_simp; done) | (intro wx hSw; go_simp; with_reducible rfl)
  simp only [Act.put, List.setIfInBounds_toArray, List.set_cons_zero, List.set_cons_succ]
  refine wpAnyH_take (i := 7) (oi := ?oi20088) (v := ?v20088) ?hi20088 (by kernel_rfl) (by kernel_rfl) (by kernel_rfl) (fun _ _ _ h => h) (Or.inl ⟨?hw20088, ?hy20088⟩) (by assumption) ?rest20088
  case hi20088 => (simp only [List.getElem?_toArray, List.getElem?_cons_zero, List.getElem?_cons_succ]; rfl)
  case hw20088 => rfl
  case hy20088 => first | (intro wx hSw; go_simp; done) | (intro wx hSw; go_simp; with_reducible rfl)
  simp only [Act.put, List.setIfInBounds_toArray, List.set_cons_zero, List.set_cons_succ]
  refine wpAnyH_take (i := 8) (oi := ?oi20089) (v := ?v20089) ?hi20089 (by kernel_rfl) (by kernel_rfl) (by kernel_rfl) (fun _ _ _ h => h) (Or.inl ⟨?hw20089, ?hy20089⟩) (by assumption) ?rest20089
  case hi20089 => (simp only [List.getElem?_toArray, List.getElem?_cons_zero, List.getElem?_cons_succ]; rfl)
  case hw20089 => rfl
  case hy20089 => first | (intro wx hSw; go_simp; done) | (intro wx hSw; go_simp; with_reducible rfl)
  simp only [Act.put, List.setIfInBounds_toArray, List.set_cons_zero, List.set_cons_succ]
  refine wpAnyH_take (i := 12) (oi := ?oi20090) (v := ?v20090) ?hi20090 (by kernel_rfl) (by kernel_rfl) (by kernel_rfl) (fun _ _ _ h => h) (Or.inl ⟨?hw20090, ?hy20090⟩) (by assumption) ?rest20090
  case hi20090 => (simp only [List.getElem?_toArray, List.getElem?_cons_zero, List.getElem?_cons_succ]; rfl)
  case hw20090 => rfl
  case hy20090 => first | (intro wx hSw; go_simp; done) | (intro wx hSw; go_simp; with_reducible rfl)
  simp only [Act.put, List.setIfInBounds_toArray, List.set_cons_zero, List.set_cons_succ]
  refine wpAnyH_ready (rs := [1, 15]) (by kernel_rfl) (by simp) ?_
  refine AllReadyH.cons rfl (fun K20091 hK20091 => ?_) ?_
  · go_simp
    go_wp2_with (go_at_call 15; refine (unhide CK _).mono ?_; rintro e X2 ⟨rfl, hX2⟩; replace hX2 := hX2.symm; subst hX2)
    refine hK20091.out _ _ ?hs20091 (fun hHeld20091 => ?_)
    case hs20091 => exact trivial
    clear hHeld
    have hHeld := hHeld20091; clear hHeld20091 hK20091 K20091
    refine wpAnyH_ready (rs := [3, 15]) (by kernel_rfl) (by simp) ?_
    refine AllReadyH.cons rfl (fun K20092 hK20092 => ?_) ?_
    · go_simp
      go_wp2_with (go_at_call 15; refine (unhide CA _).mono ?_; rintro e X2 ⟨rfl, hX2⟩; replace hX2 := hX2.symm; subst hX2)
      refine hK20092.out _ _ ?hs20092 (fun hHeld20092 => ?_)
      case hs20092 => exact trivial
      clear hHeld
      have hHeld := hHeld20092; clear hHeld20092 hK20092 K20092
      refine wpAnyH_ready (rs := [5, 15]) (by kernel_rfl) (by simp) ?_
      refine AllReadyH.cons rfl (fun K20093 hK20093 => ?_) ?_
      · go_simp
        go_wp2_with (go_at_call 15; refine (unhide CB _).mono ?_; rintro e X2 ⟨rfl, hX2⟩; replace hX2 := hX2.symm; subst hX2)
        refine hK20093.out _ _ ?hs20093 (fun hHeld20093 => ?_)
        case hs20093 => exact trivial
        clear hHeld
        have hHeld := hHeld20093; clear hHeld20093 hK20093 K20093
        refine wpAnyH_ready (rs := [6, 9, 15]) (by kernel_rfl) (by simp) ?_
        refine AllReadyH.cons rfl (fun K20094 hK20094 => ?_) ?_
        · go_simp
          refine hK20094.out _ _ ?hs20094 (fun hHeld20094 => ?_)
          case hs20094 => exact trivial
          clear hHeld
          have hHeld := hHeld20094; clear hHeld20094 hK20094 K20094
          have hb := below_new X (.cells #[.int .i64 i1, .int .i64 i2, .int .i64 9223372036854775807] 3)
          have rg := Blk.new X #[.int .i64 i1, .int .i64 i2, .int .i64 9223372036854775807] 3
          obtain ⟨g, hgq⟩ : ∃ g, g = X.heap.size := ⟨_, rfl⟩
          rw [← hgq] at rg
          simp only [← hgq]
          replace GD := GD.trans (hb.mono GD.size)
          replace rz := rz.below hb
          generalize X.alloc (.cells #[.int .i64 i1, .int .i64 i2, .int .i64 9223372036854775807] 3) = Y20 at *
          clear hb hgq
          refine wpAnyH_weaken (S := (fun W => Blk g #[.int .i64 i1, .int .i64 i2, .int .i64 9223372036854775807] 3 W)) (fun _ _ => trivial) _ _ _ _ ?_
          clear hHeld
          have hHeld := rg
          clear rg
          refine wpAnyH_ready (rs := [9, 15]) (by kernel_rfl) (by simp) ?_
          refine AllReadyH.cons rfl (fun K20095 hK20095 => ?_) ?_
          · go_simp
            go_wp2_with (go_at_call 15; refine (unhide CC _).mono ?_; rintro e X2 ⟨rfl, hX2⟩; replace hX2 := hX2.symm; subst hX2)
            refine hK20095.out _ _ ?hs20095 (fun hHeld20095 => ?_)
            case hs20095 => exact hHeld
            clear hHeld
            have hHeld := hHeld20095; clear hHeld20095 hK20095 K20095
            refine wpAnyH_take (i := 10) (oi := ?oi20096) (v := ?v20096) ?hi20096 (by kernel_rfl) (by kernel_rfl) (by kernel_rfl) (fun _ _ _ h => h) (Or.inl ⟨?hw20096, ?hy20096⟩) (by assumption) ?rest20096
            case hi20096 => (simp only [List.getElem?_toArray, List.getElem?_cons_zero, List.getElem?_cons_succ]; rfl)
            case hw20096 => rfl
            case hy20096 => first | (intro wx hSw; go_simp; done) | (intro wx hSw; go_simp; with_reducible rfl)
            simp only [Act.put, List.setIfInBounds_toArray, List.set_cons_zero, List.set_cons_succ]
            refine wpAnyH_take (i := 11) (oi := ?oi20097) (v := ?v20097) ?hi20097 (by kernel_rfl) (by kernel_rfl) (by kernel_rfl) (fun _ _ _ h => h) (Or.inl ⟨?hw20097, ?hy20097⟩) (by assumption) ?rest20097
            case hi20097 => (simp only [List.getElem?_toArray, List.getElem?_cons_zero, List.getElem?_cons_succ]; rfl)
            case hw20097 => rfl
            case hy20097 => first | (intro wx hSw; have q_ := hSw.cell j; rw [unhide hx] at q_; go_simp; done) | (intro wx hSw; have q_ := hSw.cell j; rw [unhide hx] at q_; go_simp; with_reducible rfl)
            simp only [Act.put, List.setIfInBounds_toArray, List.set_cons_zero, List.set_cons_succ]
            refine wpAnyH_ready (rs := [13, 15]) (by kernel_rfl) (by simp) ?_
            refine AllReadyH.cons rfl (fun K20098 hK20098 => ?_) ?_
            · go_simp
              go_wp2_with (go_at_call 15; refine (unhide CT _).mono ?_; rintro e X2 ⟨rfl, hX2⟩; replace hX2 := hX2.symm; subst hX2)
              refine hK20098.out _ _ ?hs20098 (fun hHeld20098 => ?_)
              case hs20098 => exact hHeld
              clear hHeld
              have hHeld := hHeld20098; clear hHeld20098 hK20098 K20098
              refine wpAnyH_take (i := 14) (oi := ?oi20099) (v := ?v20099) ?hi20099 (by kernel_rfl) (by kernel_rfl) (by kernel_rfl) (fun _ _ _ h => h) (Or.inl ⟨?hw20099, ?hy20099⟩) (by assumption) ?rest20099
              case hi20099 => (simp only [List.getElem?_toArray, List.getElem?_cons_zero, List.getElem?_cons_succ]; rfl)
              case hw20099 => rfl
              case hy20099 => first | (intro wx hSw; go_simp; done) | (intro wx hSw; go_simp; with_reducible rfl)
              simp only [Act.put, List.setIfInBounds_toArray, List.set_cons_zero, List.set_cons_succ]
              refine wpAnyH_ready (rs := [15]) (by kernel_rfl) (by simp) ?_
              refine AllReadyH.cons rfl (fun K20100 hK20100 => ?_) AllReadyH.nil
              go_simp
              refine hK20100.out _ _ ?hs20100 (fun hHeld20100 => ?_)
              case hs20100 => exact hHeld.below (below_new _ _)
              clear hHeld
              have hHeld := hHeld20100; clear hHeld20100 hK20100 K20100
              have hb := below_new Y20 (.cells #[.int .i64 0, .int .i64 0, .int .i64 0, .bool false, .slice none 0 0, .string ⟨#[]⟩] 26)
              have rb := Blk.new Y20 #[.int .i64 0, .int .i64 0, .int .i64 0, .bool false, .slice none 0 0, .string ⟨#[]⟩] 26
              obtain ⟨b, hbq⟩ : ∃ b, b = Y20.heap.size := ⟨_, rfl⟩
              rw [← hbq] at rb
              have hge : w.heap.size ≤ b := by have := GD.size; omega
              have hlt : w.heap.size < b := by have := rz.lt; omega
              simp only [← hbq]
              replace GD := GD.trans (hb.mono GD.size)
              replace rz := rz.below hb
              generalize Y20.alloc (.cells #[.int .i64 0, .int .i64 0, .int .i64 0, .bool false, .slice none 0 0, .string ⟨#[]⟩] 26) = Y23 at *
              clear hb hbq
              have rlt := rb.lt
              have rc0 := rb.cell 0
              have rf0 := rb.froz 0
              have rc1 := rb.cell 1
              have rf1 := rb.froz 1
              have rc2 := rb.cell 2
              have rf2 := rb.froz 2
              have rc3 := rb.cell 3
              have rf3 := rb.froz 3
              have rc4 := rb.cell 4
              have rf4 := rb.froz 4
              have rc5 := rb.cell 5
              have rf5 := rb.froz 5
              simp at rc0 rc1 rc2 rc3 rc4 rc5
              have GE := Below.six GD hge (x0 := .int .i64 k) (x1 := .int .i64 x) (x2 := .int .i64 t) (x3 := .bool false) (x4 := .slice none 0 0) (x5 := .string ⟨#[]⟩)
              have RE := rb.six (x0 := .int .i64 k) (x1 := .int .i64 x) (x2 := .int .i64 t) (x3 := .bool false) (x4 := .slice none 0 0) (x5 := .string ⟨#[]⟩)
              have RZ := rz.far6 (b := b) (x0 := .int .i64 k) (x1 := .int .i64 x) (x2 := .int .i64 t) (x3 := .bool false) (x4 := .slice none 0 0) (x5 := .string ⟨#[]⟩) (by omega)
              have RG := hHeld.far6 (b := b) (x0 := .int .i64 k) (x1 := .int .i64 x) (x2 := .int .i64 t) (x3 := .bool false) (x4 := .slice none 0 0) (x5 := .string ⟨#[]⟩) (blk_ne hHeld rb six_ne_three)
              refine wpAnyH_ready (rs := [16]) (by kernel_rfl) (by simp) ?_
              refine AllReadyH.cons rfl (fun K20101 hK20101 => ?_) AllReadyH.nil
              go_simp
              refine hK20101.out _ _ ?hs20101 (fun hHeld20101 => ?_)
              case hs20101 => exact RG
              clear hHeld
              have hHeld := hHeld20101; clear hHeld20101 hK20101 K20101
              refine wpAnyH_done (by kernel_rfl) ?_ _
              refine NoPanic.normal ?_
              skip
              exact unhide REST _ b _ (by kernel_rfl) (hide GE) (hide RE) (hide RZ) hlt
            refine AllReadyH.cons rfl (fun K20102 hK20102 => ?_) AllReadyH.nil
            · go_simp
              refine hK20102.out _ _ ?hs20102 (fun hHeld20102 => ?_)
              case hs20102 => exact hHeld.below (below_new _ _)
              clear hHeld
              have hHeld := hHeld20102; clear hHeld20102 hK20102 K20102
              have hb := below_new Y20 (.cells #[.int .i64 0, .int .i64 0, .int .i64 0, .bool false, .slice none 0 0, .string ⟨#[]⟩] 26)
              have rb := Blk.new Y20 #[.int .i64 0, .int .i64 0, .int .i64 0, .bool false, .slice none 0 0, .string ⟨#[]⟩] 26
              obtain ⟨b, hbq⟩ : ∃ b, b = Y20.heap.size := ⟨_, rfl⟩
              rw [← hbq] at rb
              have hge : w.heap.size ≤ b := by have := GD.size; omega
              have hlt : w.heap.size < b := by have := rz.lt; omega
              simp only [← hbq]
              replace GD := GD.trans (hb.mono GD.size)
              replace rz := rz.below hb
              generalize Y20.alloc (.cells #[.int .i64 0, .int .i64 0, .int .i64 0, .bool false, .slice none 0 0, .string ⟨#[]⟩] 26) = Y24 at *
              clear hb hbq
              refine wpAnyH_ready (rs := [13]) (by kernel_rfl) (by simp) ?_
              refine AllReadyH.cons rfl (fun K20103 hK20103 => ?_) AllReadyH.nil
              go_simp
              go_wp2_with (go_at_call 15; refine (unhide CT _).mono ?_; rintro e X2 ⟨rfl, hX2⟩; replace hX2 := hX2.symm; subst hX2)
              refine hK20103.out _ _ ?hs20103 (fun hHeld20103 => ?_)
              case hs20103 => exact hHeld
              clear hHeld
              have hHeld := hHeld20103; clear hHeld20103 hK20103 K20103
              refine wpAnyH_take (i := 14) (oi := ?oi20104) (v := ?v20104) ?hi20104 (by kernel_rfl) (by kernel_rfl) (by kernel_rfl) (fun _ _ _ h => h) (Or.inl ⟨?hw20104, ?hy20104⟩) (by assumption) ?rest20104
              case hi20104 => (simp only [List.getElem?_toArray, List.getElem?_cons_zero, List.getElem?_cons_succ]; rfl)
              case hw20104 => rfl
              case hy20104 => first | (intro wx hSw; go_simp; done) | (intro wx hSw; go_simp; with_reducible rfl)
              simp only [Act.put, List.setIfInBounds_toArray, List.set_cons_zero, List.set_cons_succ]
              have rlt := rb.lt
              have rc0 := rb.cell 0
              have rf0 := rb.froz 0
              have rc1 := rb.cell 1
              have rf1 := rb.froz 1
              have rc2 := rb.cell 2
              have rf2 := rb.froz 2
              have rc3 := rb.cell 3
              have rf3 := rb.froz 3
              have rc4 := rb.cell 4
              have rf4 := rb.froz 4
              have rc5 := rb.cell 5
              have rf5 := rb.froz 5
              simp at rc0 rc1 rc2 rc3 rc4 rc5
              have GE := Below.six GD hge (x0 := .int .i64 k) (x1 := .int .i64 x) (x2 := .int .i64 t) (x3 := .bool false) (x4 := .slice none 0 0) (x5 := .string ⟨#[]⟩)
              have RE := rb.six (x0 := .int .i64 k) (x1 := .int .i64 x) (x2 := .int .i64 t) (x3 := .bool false) (x4 := .slice none 0 0) (x5 := .string ⟨#[]⟩)
              have RZ := rz.far6 (b := b) (x0 := .int .i64 k) (x1 := .int .i64 x) (x2 := .int .i64 t) (x3 := .bool false) (x4 := .slice none 0 0) (x5 := .string ⟨#[]⟩) (by omega)
              have RG := hHeld.far6 (b := b) (x0 := .int .i64 k) (x1 := .int .i64 x) (x2 := .int .i64 t) (x3 := .bool false) (x4 := .slice none 0 0) (x5 := .string ⟨#[]⟩) (blk_ne hHeld rb six_ne_three)
              refine wpAnyH_ready (rs := [16]) (by kernel_rfl) (by simp) ?_
              refine AllReadyH.cons rfl (fun K20105 hK20105 => ?_) AllReadyH.nil
              go_simp
              refine hK20105.out _ _ ?hs20105 (fun hHeld20105 => ?_)
              case hs20105 => exact RG
              clear hHeld
              have hHeld := hHeld20105; clear hHeld20105 hK20105 K20105
              refine wpAnyH_done (by kernel_rfl) ?_ _
              refine NoPanic.normal ?_
              skip
              exact unhide REST _ b _ (by kernel_rfl) (hide GE) (hide RE) (hide RZ) hlt
          refine AllReadyH.cons rfl (fun K20106 hK20106 => ?_) AllReadyH.nil
          · go_simp
            refine hK20106.out _ _ ?hs20106 (fun hHeld20106 => ?_)
            case hs20106 => exact hHeld.below (below_new _ _)
            clear hHeld
            have hHeld := hHeld20106; clear hHeld20106 hK20106 K20106
            have hb := below_new Y20 (.cells #[.int .i64 0, .int .i64 0, .int .i64 0, .bool false, .slice none 0 0, .string ⟨#[]⟩] 26)
            have rb := Blk.new Y20 #[.int .i64 0, .int .i64 0, .int .i64 0, .bool false, .slice none 0 0, .string ⟨#[]⟩] 26
            obtain ⟨b, hbq⟩ : ∃ b, b = Y20.heap.size := ⟨_, rfl⟩
            rw [← hbq] at rb
            have hge : w.heap.size ≤ b := by have := GD.size; omega
            have hlt : w.heap.size < b := by have := rz.lt; omega
            simp only [← hbq]
            replace GD := GD.trans (hb.mono GD.size)
            replace rz := rz.below hb
            generalize Y20.alloc (.cells #[.int .i64 0, .int .i64 0, .int .i64 0, .bool false, .slice none 0 0, .string ⟨#[]⟩] 26) = Y26 at *
            clear hb hbq
            refine wpAnyH_ready (rs := [9]) (by kernel_rfl) (by simp) ?_
            refine AllReadyH.cons rfl (fun K20107 hK20107 => ?_) AllReadyH.nil
            go_simp
            go_wp2_with (go_at_call 15; refine (unhide CC _).mono ?_; rintro e X2 ⟨rfl, hX2⟩; replace hX2 := hX2.symm; subst hX2)
            refine hK20107.out _ _ ?hs20107 (fun hHeld20107 => ?_)
            case hs20107 => exact hHeld
            clear hHeld
            have hHeld := hHeld20107; clear hHeld20107 hK20107 K20107
            refine wpAnyH_take (i := 10) (oi := ?oi20108) (v := ?v20108) ?hi20108 (by kernel_rfl) (by kernel_rfl) (by kernel_rfl) (fun _ _ _ h => h) (Or.inl ⟨?hw20108, ?hy20108⟩) (by assumption) ?rest20108
            case hi20108 => (simp only [List.getElem?_toArray, List.getElem?_cons_zero, List.getElem?_cons_succ]; rfl)
            case hw20108 => rfl
            case hy20108 => first | (intro wx hSw; go_simp; done) | (intro wx hSw; go_simp; with_reducible rfl)
            simp only [Act.put, List.setIfInBounds_toArray, List.set_cons_zero, List.set_cons_succ]
            refine wpAnyH_take (i := 11) (oi := ?oi20109) (v := ?v20109) ?hi20109 (by kernel_rfl) (by kernel_rfl) (by kernel_rfl) (fun _ _ _ h => h) (Or.inl ⟨?hw20109, ?hy20109⟩) (by assumption) ?rest20109
            case hi20109 => (simp only [List.getElem?_toArray, List.getElem?_cons_zero, List.getElem?_cons_succ]; rfl)
            case hw20109 => rfl
            case hy20109 => first | (intro wx hSw; have q_ := hSw.cell j; rw [unhide hx] at q_; go_simp; done) | (intro wx hSw; have q_ := hSw.cell j; rw [unhide hx] at q_; go_simp; with_reducible rfl)
            simp only [Act.put, List.setIfInBounds_toArray, List.set_cons_zero, List.set_cons_succ]
            refine wpAnyH_ready (rs := [13]) (by kernel_rfl) (by simp) ?_
            refine AllReadyH.cons rfl (fun K20110 hK20110 => ?_) AllReadyH.nil
            go_simp
            go_wp2_with (go_at_call 15; refine (unhide CT _).mono ?_; rintro e X2 ⟨rfl, hX2⟩; replace hX2 := hX2.symm; subst hX2)
            refine hK20110.out _ _ ?hs20110 (fun hHeld20110 => ?_)
            case hs20110 => exact hHeld
            clear hHeld
            have hHeld := hHeld20110; clear hHeld20110 hK20110 K20110
            refine wpAnyH_take (i := 14) (oi := ?oi20111) (v := ?v20111) ?hi20111 (by kernel_rfl) (by kernel_rfl) (by kernel_rfl) (fun _ _ _ h => h) (Or.inl ⟨?hw20111, ?hy20111⟩) (by assumption) ?rest20111
            case hi20111 => (simp only [List.getElem?_toArray, List.getElem?_cons_zero, List.getElem?_cons_succ]; rfl)
            case hw20111 => rfl
            case hy20111 => first | (intro wx hSw; go_simp; done) | (intro wx hSw; go_simp; with_reducible rfl)
            simp only [Act.put, List.setIfInBounds_toArray, List.set_cons_zero, List.set_cons_succ]
            have rlt := rb.lt
            have rc0 := rb.cell 0
            have rf0 := rb.froz 0
            have rc1 := rb.cell 1
            have rf1 := rb.froz 1
            have rc2 := rb.cell 2
            have rf2 := rb.froz 2
            have rc3 := rb.cell 3
            have rf3 := rb.froz 3
            have rc4 := rb.cell 4
            have rf4 := rb.froz 4
            have rc5 := rb.cell 5
            have rf5 := rb.froz 5
            simp at rc0 rc1 rc2 rc3 rc4 rc5
            have GE := Below.six GD hge (x0 := .int .i64 k) (x1 := .int .i64 x) (x2 := .int .i64 t) (x3 := .bool false) (x4 := .slice none 0 0) (x5 := .string ⟨#[]⟩)
            have RE := rb.six (x0 := .int .i64 k) (x1 := .int .i64 x) (x2 := .int .i64 t) (x3 := .bool false) (x4 := .slice none 0 0) (x5 := .string ⟨#[]⟩)
            have RZ := rz.far6 (b := b) (x0 := .int .i64 k) (x1 := .int .i64 x) (x2 := .int .i64 t) (x3 := .bool false) (x4 := .slice none 0 0) (x5 := .string ⟨#[]⟩) (by omega)
            have RG := hHeld.far6 (b := b) (x0 := .int .i64 k) (x1 := .int .i64 x) (x2 := .int .i64 t) (x3 := .bool false) (x4 := .slice none 0 0) (x5 := .string ⟨#[]⟩) (blk_ne hHeld rb six_ne_three)
            refine wpAnyH_ready (rs := [16]) (by kernel_rfl) (by simp) ?_
            refine AllReadyH.cons rfl (fun K20112 hK20112 => ?_) AllReadyH.nil
            go_simp
            refine hK20112.out _ _ ?hs20112 (fun hHeld20112 => ?_)
            case hs20112 => exact RG
            clear hHeld
            have hHeld := hHeld20112; clear hHeld20112 hK20112 K20112
            refine wpAnyH_done (by kernel_rfl) ?_ _
            refine NoPanic.normal ?_
            skip
            exact unhide REST _ b _ (by kernel_rfl) (hide GE) (hide RE) (hide RZ) hlt
        refine AllReadyH.cons rfl (fun K20113 hK20113 => ?_) ?_
        · go_simp
          go_wp2_with (go_at_call 15; refine (unhide CC _).mono ?_; rintro e X2 ⟨rfl, hX2⟩; replace hX2 := hX2.symm; subst hX2)
          refine hK20113.out _ _ ?hs20113 (fun hHeld20113 => ?_)
          case hs20113 => exact trivial
          clear hHeld
          have hHeld := hHeld20113; clear hHeld20113 hK20113 K20113
          refine wpAnyH_ready (rs := [6, 13, 15]) (by kernel_rfl) (by simp) ?_
          refine AllReadyH.cons rfl (fun K20114 hK20114 => ?_) ?_
          · go_simp
            refine hK20114.out _ _ ?hs20114 (fun hHeld20114 => ?_)
            case hs20114 => exact trivial
            clear hHeld
            have hHeld := hHeld20114; clear hHeld20114 hK20114 K20114
            have hb := below_new X (.cells #[.int .i64 i1, .int .i64 i2, .int .i64 9223372036854775807] 3)
            have rg := Blk.new X #[.int .i64 i1, .int .i64 i2, .int .i64 9223372036854775807] 3
            obtain ⟨g, hgq⟩ : ∃ g, g = X.heap.size := ⟨_, rfl⟩
            rw [← hgq] at rg
            simp only [← hgq]
            replace GD := GD.trans (hb.mono GD.size)
            replace rz := rz.below hb
            generalize X.alloc (.cells #[.int .i64 i1, .int .i64 i2, .int .i64 9223372036854775807] 3) = Y30 at *
            clear hb hgq
            refine wpAnyH_weaken (S := (fun W => Blk g #[.int .i64 i1, .int .i64 i2, .int .i64 9223372036854775807] 3 W)) (fun _ _ => trivial) _ _ _ _ ?_
            clear hHeld
            have hHeld := rg
            clear rg
            refine wpAnyH_take (i := 10) (oi := ?oi20115) (v := ?v20115) ?hi20115 (by kernel_rfl) (by kernel_rfl) (by kernel_rfl) (fun _ _ _ h => h) (Or.inl ⟨?hw20115, ?hy20115⟩) (by assumption) ?rest20115
            case hi20115 => (simp only [List.getElem?_toArray, List.getElem?_cons_zero, List.getElem?_cons_succ]; rfl)
            case hw20115 => rfl
            case hy20115 => first | (intro wx hSw; go_simp; done) | (intro wx hSw; go_simp; with_reducible rfl)
            simp only [Act.put, List.setIfInBounds_toArray, List.set_cons_zero, List.set_cons_succ]
            refine wpAnyH_take (i := 11) (oi := ?oi20116) (v := ?v20116) ?hi20116 (by kernel_rfl) (by kernel_rfl) (by kernel_rfl) (fun _ _ _ h => h) (Or.inl ⟨?hw20116, ?hy20116⟩) (by assumption) ?rest20116
            case hi20116 => (simp only [List.getElem?_toArray, List.getElem?_cons_zero, List.getElem?_cons_succ]; rfl)
            case hw20116 => rfl
            case hy20116 => first | (intro wx hSw; have q_ := hSw.cell j; rw [unhide hx] at q_; go_simp; done) | (intro wx hSw; have q_ := hSw.cell j; rw [unhide hx] at q_; go_simp; with_reducible rfl)
            simp only [Act.put, List.setIfInBounds_toArray, List.set_cons_zero, List.set_cons_succ]
            refine wpAnyH_ready (rs := [13, 15]) (by kernel_rfl) (by simp) ?_
            refine AllReadyH.cons rfl (fun K20117 hK20117 => ?_) ?_
            · go_simp
              go_wp2_with (go_at_call 15; refine (unhide CT _).mono ?_; rintro e X2 ⟨rfl, hX2⟩; replace hX2 := hX2.symm; subst hX2)
              refine hK20117.out _ _ ?hs20117 (fun hHeld20117 => ?_)
              case hs20117 => exact hHeld
              clear hHeld
              have hHeld := hHeld20117; clear hHeld20117 hK20117 K20117
              refine wpAnyH_take (i := 14) (oi := ?oi20118) (v := ?v20118) ?hi20118 (by kernel_rfl) (by kernel_rfl) (by kernel_rfl) (fun _ _ _ h => h) (Or.inl ⟨?hw20118, ?hy20118⟩) (by assumption) ?rest20118
              case hi20118 => (simp only [List.getElem?_toArray, List.getElem?_cons_zero, List.getElem?_cons_succ]; rfl)
              case hw20118 => rfl
              case hy20118 => first | (intro wx hSw; go_simp; done) | (intro wx hSw; go_simp; with_reducible rfl)
              simp only [Act.put, List.setIfInBounds_toArray, List.set_cons_zero, List.set_cons_succ]
              refine wpAnyH_ready (rs := [15]) (by kernel_rfl) (by simp) ?_
              refine AllReadyH.cons rfl (fun K20119 hK20119 => ?_) AllReadyH.nil
              go_simp
              refine hK20119.out _ _ ?hs20119 (fun hHeld20119 => ?_)
              case hs20119 => exact hHeld.below (below_new _ _)
              clear hHeld
              have hHeld := hHeld20119; clear hHeld20119 hK20119 K20119
              have hb := below_new Y30 (.cells #[.int .i64 0, .int .i64 0, .int .i64 0, .bool false, .slice none 0 0, .string ⟨#[]⟩] 26)
              have rb := Blk.new Y30 #[.int .i64 0, .int .i64 0, .int .i64 0, .bool false, .slice none 0 0, .string ⟨#[]⟩] 26
              obtain ⟨b, hbq⟩ : ∃ b, b = Y30.heap.size := ⟨_, rfl⟩
              rw [← hbq] at rb
              have hge : w.heap.size ≤ b := by have := GD.size; omega
              have hlt : w.heap.size < b := by have := rz.lt; omega
              simp only [← hbq]
              replace GD := GD.trans (hb.mono GD.size)
              replace rz := rz.below hb
              generalize Y30.alloc (.cells #[.int .i64 0, .int .i64 0, .int .i64 0, .bool false, .slice none 0 0, .string ⟨#[]⟩] 26) = Y32 at *
              clear hb hbq
              have rlt := rb.lt
              have rc0 := rb.cell 0
              have rf0 := rb.froz 0
              have rc1 := rb.cell 1
              have rf1 := rb.froz 1
              have rc2 := rb.cell 2
              have rf2 := rb.froz 2
              have rc3 := rb.cell 3
              have rf3 := rb.froz 3
              have rc4 := rb.cell 4
              have rf4 := rb.froz 4
              have rc5 := rb.cell 5
              have rf5 := rb.froz 5
              simp at rc0 rc1 rc2 rc3 rc4 rc5
              have GE := Below.six GD hge (x0 := .int .i64 k) (x1 := .int .i64 x) (x2 := .int .i64 t) (x3 := .bool false) (x4 := .slice none 0 0) (x5 := .string ⟨#[]⟩)
              have RE := rb.six (x0 := .int .i64 k) (x1 := .int .i64 x) (x2 := .int .i64 t) (x3 := .bool false) (x4 := .slice none 0 0) (x5 := .string ⟨#[]⟩)
              have RZ := rz.far6 (b := b) (x0 := .int .i64 k) (x1 := .int .i64 x) (x2 := .int .i64 t) (x3 := .bool false) (x4 := .slice none 0 0) (x5 := .string ⟨#[]⟩) (by omega)
              have RG := hHeld.far6 (b := b) (x0 := .int .i64 k) (x1 := .int .i64 x) (x2 := .int .i64 t) (x3 := .bool false) (x4 := .slice none 0 0) (x5 := .string ⟨#[]⟩) (blk_ne hHeld rb six_ne_three)
              refine wpAnyH_ready (rs := [16]) (by kernel_rfl) (by simp) ?_
              refine AllReadyH.cons rfl (fun K20120 hK20120 => ?_) AllReadyH.nil
              go_simp
              refine hK20120.out _ _ ?hs20120 (fun hHeld20120 => ?_)
              case hs20120 => exact RG
              clear hHeld
              have hHeld := hHeld20120; clear hHeld20120 hK20120 K20120
              refine wpAnyH_done (by kernel_rfl) ?_ _
              refine NoPanic.normal ?_
              skip
              exact unhide REST _ b _ (by kernel_rfl) (hide GE) (hide RE) (hide RZ) hlt
            refine AllReadyH.cons rfl (fun K20121 hK20121 => ?_) AllReadyH.nil
            · go_simp
              refine hK20121.out _ _ ?hs20121 (fun hHeld20121 => ?_)
              case hs20121 => exact hHeld.below (below_new _ _)
              clear hHeld
              have hHeld := hHeld20121; clear hHeld20121 hK20121 K20121
              have hb := below_new Y30 (.cells #[.int .i64 0, .int .i64 0, .int .i64 0, .bool false, .slice none 0 0, .string ⟨#[]⟩] 26)
              have rb := Blk.new Y30 #[.int .i64 0, .int .i64 0, .int .i64 0, .bool false, .slice none 0 0, .string ⟨#[]⟩] 26
              obtain ⟨b, hbq⟩ : ∃ b, b = Y30.heap.size := ⟨_, rfl⟩
              rw [← hbq] at rb
              have hge : w.heap.size ≤ b := by have := GD.size; omega
              have hlt : w.heap.size < b := by have := rz.lt; omega
              simp only [← hbq]
              replace GD := GD.trans (hb.mono GD.size)
              replace rz := rz.below hb
              generalize Y30.alloc (.cells #[.int .i64 0, .int .i64 0, .int .i64 0, .bool false, .slice none 0 0, .string ⟨#[]⟩] 26) = Y33 at *
              clear hb hbq
              refine wpAnyH_ready (rs := [13]) (by kernel_rfl) (by simp) ?_
              refine AllReadyH.cons rfl (fun K20122 hK20122 => ?_) AllReadyH.nil
              go_simp
              go_wp2_with (go_at_call 15; refine (unhide CT _).mono ?_; rintro e X2 ⟨rfl, hX2⟩; replace hX2 := hX2.symm; subst hX2)
              refine hK20122.out _ _ ?hs20122 (fun hHeld20122 => ?_)
              case hs20122 => exact hHeld
              clear hHeld
              have hHeld := hHeld20122; clear hHeld20122 hK20122 K20122
              refine wpAnyH_take (i := 14) (oi := ?oi20123) (v := ?v20123) ?hi20123 (by kernel_rfl) (by kernel_rfl) (by kernel_rfl) (fun _ _ _ h => h) (Or.inl ⟨?hw20123, ?hy20123⟩) (by assumption) ?rest20123
              case hi20123 => (simp only [List.getElem?_toArray, List.getElem?_cons_zero, List.getElem?_cons_succ]; rfl)
              case hw20123 => rfl
              case hy20123 => first | (intro wx hSw; go_simp; done) | (intro wx hSw; go_simp; with_reducible rfl)
              simp only [Act.put, List.setIfInBounds_toArray, List.set_cons_zero, List.set_cons_succ]
              have rlt := rb.lt
              have rc0 := rb.cell 0
              have rf0 := rb.froz 0
              have rc1 := rb.cell 1
              have rf1 := rb.froz 1
              have rc2 := rb.cell 2
              have rf2 := rb.froz 2
              have rc3 := rb.cell 3
              have rf3 := rb.froz 3
              have rc4 := rb.cell 4
              have rf4 := rb.froz 4
              have rc5 := rb.cell 5
              have rf5 := rb.froz 5
              simp at rc0 rc1 rc2 rc3 rc4 rc5
              have GE := Below.six GD hge (x0 := .int .i64 k) (x1 := .int .i64 x) (x2 := .int .i64 t) (x3 := .bool false) (x4 := .slice none 0 0) (x5 := .string ⟨#[]⟩)
              have RE := rb.six (x0 := .int .i64 k) (x1 := .int .i64 x) (x2 := .int .i64 t) (x3 := .bool false) (x4 := .slice none 0 0) (x5 := .string ⟨#[]⟩)
              have RZ := rz.far6 (b := b) (x0 := .int .i64 k) (x1 := .int .i64 x) (x2 := .int .i64 t) (x3 := .bool false) (x4 := .slice none 0 0) (x5 := .string ⟨#[]⟩) (by omega)
              have RG := hHeld.far6 (b := b) (x0 := .int .i64 k) (x1 := .int .i64 x) (x2 := .int .i64 t) (x3 := .bool false) (x4 := .slice none 0 0) (x5 := .string ⟨#[]⟩) (blk_ne hHeld rb six_ne_three)
              refine wpAnyH_ready (rs := [16]) (by kernel_rfl) (by simp) ?_
              refine AllReadyH.cons rfl (fun K20124 hK20124 => ?_) AllReadyH.nil
              go_simp
              refine hK20124.out _ _ ?hs20124 (fun hHeld20124 => ?_)
              case hs20124 => exact RG
              clear hHeld
              have hHeld := hHeld20124; clear hHeld20124 hK20124 K20124
              refine wpAnyH_done (by kernel_rfl) ?_ _
              refine NoPanic.normal ?_
              skip
              exact unhide REST _ b _ (by kernel_rfl) (hide GE) (hide RE) (hide RZ) hlt
          refine AllReadyH.cons rfl (fun K20125 hK20125 => ?_) ?_
          · go_simp
            go_wp2_with (go_at_call 15; refine (unhide CT _).mono ?_; rintro e X2 ⟨rfl, hX2⟩; replace hX2 := hX2.symm; subst hX2)
            refine hK20125.out _ _ ?hs20125 (fun hHeld20125 => ?_)
            case hs20125 => exact trivial
            clear hHeld
            have hHeld := hHeld20125; clear hHeld20125 hK20125 K20125
            refine wpAnyH_ready (rs := [6, 15]) (by kernel_rfl) (by simp) ?_
            refine AllReadyH.cons rfl (fun K20126 hK20126 => ?_) ?_
            · go_simp
              refine hK20126.out _ _ ?hs20126 (fun hHeld20126 => ?_)
              case hs20126 => exact trivial
              clear hHeld
              have hHeld := hHeld20126; clear hHeld20126 hK20126 K20126
              have hb := below_new X (.cells #[.int .i64 i1, .int .i64 i2, .int .i64 9223372036854775807] 3)
              have rg := Blk.new X #[.int .i64 i1, .int .i64 i2, .int .i64 9223372036854775807] 3
              obtain ⟨g, hgq⟩ : ∃ g, g = X.heap.size := ⟨_, rfl⟩
              rw [← hgq] at rg
              simp only [← hgq]
              replace GD := GD.trans (hb.mono GD.size)
              replace rz := rz.below hb
              generalize X.alloc (.cells #[.int .i64 i1, .int .i64 i2, .int .i64 9223372036854775807] 3) = Y36 at *
              clear hb hgq
              refine wpAnyH_weaken (S := (fun W => Blk g #[.int .i64 i1, .int .i64 i2, .int .i64 9223372036854775807] 3 W)) (fun _ _ => trivial) _ _ _ _ ?_
              clear hHeld
              have hHeld := rg
              clear rg
              refine wpAnyH_take (i := 10) (oi := ?oi20127) (v := ?v20127) ?hi20127 (by kernel_rfl) (by kernel_rfl) (by kernel_rfl) (fun _ _ _ h => h) (Or.inl ⟨?hw20127, ?hy20127⟩) (by assumption) ?rest20127
              case hi20127 => (simp only [List.getElem?_toArray, List.getElem?_cons_zero, List.getElem?_cons_succ]; rfl)
              case hw20127 => rfl
              case hy20127 => first | (intro wx hSw; go_simp; done) | (intro wx hSw; go_simp; with_reducible rfl)
              simp only [Act.put, List.setIfInBounds_toArray, List.set_cons_zero, List.set_cons_succ]
              refine wpAnyH_take (i := 11) (oi := ?oi20128) (v := ?v20128) ?hi20128 (by kernel_rfl) (by kernel_rfl) (by kernel_rfl) (fun _ _ _ h => h) (Or.inl ⟨?hw20128, ?hy20128⟩) (by assumption) ?rest20128
              case hi20128 => (simp only [List.getElem?_toArray, List.getElem?_cons_zero, List.getElem?_cons_succ]; rfl)
              case hw20128 => rfl
              case hy20128 => first | (intro wx hSw; have q_ := hSw.cell j; rw [unhide hx] at q_; go_simp; done) | (intro wx hSw; have q_ := hSw.cell j; rw [unhide hx] at q_; go_simp; with_reducible rfl)
              simp only [Act.put, List.setIfInBounds_toArray, List.set_cons_zero, List.set_cons_succ]
              refine wpAnyH_take (i := 14) (oi := ?oi20129) (v := ?v20129) ?hi20129 (by kernel_rfl) (by kernel_rfl) (by kernel_rfl) (fun _ _ _ h => h) (Or.inl ⟨?hw20129, ?hy20129⟩) (by assumption) ?rest20129
              case hi20129 => (simp only [List.getElem?_toArray, List.getElem?_cons_zero, List.getElem?_cons_succ]; rfl)
              case hw20129 => rfl
              case hy20129 => first | (intro wx hSw; go_simp; done) | (intro wx hSw; go_simp; with_reducible rfl)
              simp only [Act.put, List.setIfInBounds_toArray, List.set_cons_zero, List.set_cons_succ]
              refine wpAnyH_ready (rs := [15]) (by kernel_rfl) (by simp) ?_
              refine AllReadyH.cons rfl (fun K20130 hK20130 => ?_) AllReadyH.nil
              go_simp
              refine hK20130.out _ _ ?hs20130 (fun hHeld20130 => ?_)
              case hs20130 => exact hHeld.below (below_new _ _)
              clear hHeld
              have hHeld := hHeld20130; clear hHeld20130 hK20130 K20130
              have hb := below_new Y36 (.cells #[.int .i64 0, .int .i64 0, .int .i64 0, .bool false, .slice none 0 0, .string ⟨#[]⟩] 26)
              have rb := Blk.new Y36 #[.int .i64 0, .int .i64 0, .int .i64 0, .bool false, .slice none 0 0, .string ⟨#[]⟩] 26
              obtain ⟨b, hbq⟩ : ∃ b, b = Y36.heap.size := ⟨_, rfl⟩
              rw [← hbq] at rb
              have hge : w.heap.size ≤ b := by have := GD.size; omega
              have hlt : w.heap.size < b := by have := rz.lt; omega
              simp only [← hbq]
              replace GD := GD.trans (hb.mono GD.size)
              replace rz := rz.below hb
              generalize Y36.alloc (.cells #[.int .i64 0, .int .i64 0, .int .i64 0, .bool false, .slice none 0 0, .string ⟨#[]⟩] 26) = Y37 at *
              clear hb hbq
              have rlt := rb.lt
              have rc0 := rb.cell 0
              have rf0 := rb.froz 0
              have rc1 := rb.cell 1
              have rf1 := rb.froz 1
              have rc2 := rb.cell 2
              have rf2 := rb.froz 2
              have rc3 := rb.cell 3
              have rf3 := rb.froz 3
              have rc4 := rb.cell 4
              have rf4 := rb.froz 4
              have rc5 := rb.cell 5
              have rf5 := rb.froz 5
              simp at rc0 rc1 rc2 rc3 rc4 rc5
              have GE := Below.six GD hge (x0 := .int .i64 k) (x1 := .int .i64 x) (x2 := .int .i64 t) (x3 := .bool false) (x4 := .slice none 0 0) (x5 := .string ⟨#[]⟩)
              have RE := rb.six (x0 := .int .i64 k) (x1 := .int .i64 x) (x2 := .int .i64 t) (x3 := .bool false) (x4 := .slice none 0 0) (x5 := .string ⟨#[]⟩)
              have RZ := rz.far6 (b := b) (x0 := .int .i64 k) (x1 := .int .i64 x) (x2 := .int .i64 t) (x3 := .bool false) (x4 := .slice none 0 0) (x5 := .string ⟨#[]⟩) (by omega)
              have RG := hHeld.far6 (b := b) (x0 := .int .i64 k) (x1 := .int .i64 x) (x2 := .int .i64 t) (x3 := .bool false) (x4 := .slice none 0 0) (x5 := .string ⟨#[]⟩) (blk_ne hHeld rb six_ne_three)
              refine wpAnyH_ready (rs := [16]) (by kernel_rfl) (by simp) ?_
              refine AllReadyH.cons rfl (fun K20131 hK20131 => ?_) AllReadyH.nil
              go_simp
              refine hK20131.out _ _ ?hs20131 (fun hHeld20131 => ?_)
              case hs20131 => exact RG
              clear hHeld
              have hHeld := hHeld20131; clear hHeld20131 hK20131 K20131
              refine wpAnyH_done (by kernel_rfl) ?_ _
              refine NoPanic.normal ?_
              skip
              exact unhide REST _ b _ (by kernel_rfl) (hide GE) (hide RE) (hide RZ) hlt
            refine AllReadyH.cons rfl (fun K20132 hK20132 => ?_) AllReadyH.nil
            · go_simp
              refine hK20132.out _ _ ?hs20132 (fun hHeld20132 => ?_)
              case hs20132 => exact trivial
              clear hHeld
              have hHeld := hHeld20132; clear hHeld20132 hK20132 K20132
              have hb := below_new X (.cells #[.int .i64 0, .int .i64 0, .int .i64 0, .bool false, .slice none 0 0, .string ⟨#[]⟩] 26)
              have rb := Blk.new X #[.int .i64 0, .int .i64 0, .int .i64 0, .bool false, .slice none 0 0, .string ⟨#[]⟩] 26
              obtain ⟨b, hbq⟩ : ∃ b, b = X.heap.size := ⟨_, rfl⟩
              rw [← hbq] at rb
              have hge : w.heap.size ≤ b := by have := GD.size; omega
              have hlt : w.heap.size < b := by have := rz.lt; omega
              simp only [← hbq]
              replace GD := GD.trans (hb.mono GD.size)
              replace rz := rz.below hb
              generalize X.alloc (.cells #[.int .i64 0, .int .i64 0, .int .i64 0, .bool false, .slice none 0 0, .string ⟨#[]⟩] 26) = Y38 at *
              clear hb hbq
              refine wpAnyH_ready (rs := [6]) (by kernel_rfl) (by simp) ?_
              refine AllReadyH.cons rfl (fun K20133 hK20133 => ?_) AllReadyH.nil
              go_simp
              refine hK20133.out _ _ ?hs20133 (fun hHeld20133 => ?_)
              case hs20133 => exact trivial
              clear hHeld
              have hHeld := hHeld20133; clear hHeld20133 hK20133 K20133
              have hb := below_new Y38 (.cells #[.int .i64 i1, .int .i64 i2, .int .i64 9223372036854775807] 3)
              have rg := Blk.new Y38 #[.int .i64 i1, .int .i64 i2, .int .i64 9223372036854775807] 3
              obtain ⟨g, hgq⟩ : ∃ g, g = Y38.heap.size := ⟨_, rfl⟩
              rw [← hgq] at rg
              simp only [← hgq]
              replace GD := GD.trans (hb.mono GD.size)
              replace rz := rz.below hb
              replace rb := rb.below hb
              generalize Y38.alloc (.cells #[.int .i64 i1, .int .i64 i2, .int .i64 9223372036854775807] 3) = Y39 at *
              clear hb hgq
              refine wpAnyH_weaken (S := (fun W => Blk g #[.int .i64 i1, .int .i64 i2, .int .i64 9223372036854775807] 3 W)) (fun _ _ => trivial) _ _ _ _ ?_
              clear hHeld
              have hHeld := rg
              clear rg
              refine wpAnyH_take (i := 10) (oi := ?oi20134) (v := ?v20134) ?hi20134 (by kernel_rfl) (by kernel_rfl) (by kernel_rfl) (fun _ _ _ h => h) (Or.inl ⟨?hw20134, ?hy20134⟩) (by assumption) ?rest20134
              case hi20134 => (simp only [List.getElem?_toArray, List.getElem?_cons_zero, List.getElem?_cons_succ]; rfl)
              case hw20134 => rfl
              case hy20134 => first | (intro wx hSw; go_simp; done) | (intro wx hSw; go_simp; with_reducible rfl)
              simp only [Act.put, List.setIfInBounds_toArray, List.set_cons_zero, List.set_cons_succ]
              refine wpAnyH_take (i := 11) (oi := ?oi20135) (v := ?v20135) ?hi20135 (by kernel_rfl) (by kernel_rfl) (by kernel_rfl) (fun _ _ _ h => h) (Or.inl ⟨?hw20135, ?hy20135⟩) (by assumption) ?rest20135
              case hi20135 => (simp only [List.getElem?_toArray, List.getElem?_cons_zero, List.getElem?_cons_succ]; rfl)
              case hw20135 => rfl
              case hy20135 => first | (intro wx hSw; have q_ := hSw.cell j; rw [unhide hx] at q_; go_simp; done) | (intro wx hSw; have q_ := hSw.cell j; rw [unhide hx] at q_; go_simp; with_reducible rfl)
              simp only [Act.put, List.setIfInBounds_toArray, List.set_cons_zero, List.set_cons_succ]
              refine wpAnyH_take (i := 14) (oi := ?oi20136) (v := ?v20136) ?hi20136 (by kernel_rfl) (by kernel_rfl) (by kernel_rfl) (fun _ _ _ h => h) (Or.inl ⟨?hw20136, ?hy20136⟩) (by assumption) ?rest20136
              case hi20136 => (simp only [List.getElem?_toArray, List.getElem?_cons_zero, List.getElem?_cons_succ]; rfl)
              case hw20136 => rfl
              case hy20136 => first | (intro wx hSw; go_simp; done) | (intro wx hSw; go_simp; with_reducible rfl)
              simp only [Act.put, List.setIfInBounds_toArray, List.set_cons_zero, List.set_cons_succ]
              have rlt := rb.lt
              have rc0 := rb.cell 0
              have rf0 := rb.froz 0
              have rc1 := rb.cell 1
              have rf1 := rb.froz 1
              have rc2 := rb.cell 2
              have rf2 := rb.froz 2
              have rc3 := rb.cell 3
              have rf3 := rb.froz 3
              have rc4 := rb.cell 4
              have rf4 := rb.froz 4
              have rc5 := rb.cell 5
              have rf5 := rb.froz 5
              simp at rc0 rc1 rc2 rc3 rc4 rc5
              have GE := Below.six GD hge (x0 := .int .i64 k) (x1 := .int .i64 x) (x2 := .int .i64 t) (x3 := .bool false) (x4 := .slice none 0 0) (x5 := .string ⟨#[]⟩)
              have RE := rb.six (x0 := .int .i64 k) (x1 := .int .i64 x) (x2 := .int .i64 t) (x3 := .bool false) (x4 := .slice none 0 0) (x5 := .string ⟨#[]⟩)
              have RZ := rz.far6 (b := b) (x0 := .int .i64 k) (x1 := .int .i64 x) (x2 := .int .i64 t) (x3 := .bool false) (x4 := .slice none 0 0) (x5 := .string ⟨#[]⟩) (by omega)
              have RG := hHeld.far6 (b := b) (x0 := .int .i64 k) (x1 := .int .i64 x) (x2 := .int .i64 t) (x3 := .bool false) (x4 := .slice none 0 0) (x5 := .string ⟨#[]⟩) (blk_ne hHeld rb six_ne_three)
              refine wpAnyH_ready (rs := [16]) (by kernel_rfl) (by simp) ?_
              refine AllReadyH.cons rfl (fun K20137 hK20137 => ?_) AllReadyH.nil
              go_simp
              refine hK20137.out _ _ ?hs20137 (fun hHeld20137 => ?_)
              case hs20137 => exact RG
              clear hHeld
              have hHeld := hHeld20137; clear hHeld20137 hK20137 K20137
              refine wpAnyH_done (by kernel_rfl) ?_ _
              refine NoPanic.normal ?_
              skip
              exact unhide REST _ b _ (by kernel_rfl) (hide GE) (hide RE) (hide RZ) hlt
          refine AllReadyH.cons rfl (fun K20138 hK20138 => ?_) AllReadyH.nil
          · go_simp
            refine hK20138.out _ _ ?hs20138 (fun hHeld20138 => ?_)
            case hs20138 => exact trivial
            clear hHeld
            have hHeld := hHeld20138; clear hHeld20138 hK20138 K20138
            have hb := below_new X (.cells #[.int .i64 0, .int .i64 0, .int .i64 0, .bool false, .slice none 0 0, .string ⟨#[]⟩] 26)
            have rb := Blk.new X #[.int .i64 0, .int .i64 0, .int .i64 0, .bool false, .slice none 0 0, .string ⟨#[]⟩] 26
            obtain ⟨b, hbq⟩ : ∃ b, b = X.heap.size := ⟨_, rfl⟩
            rw [← hbq] at rb
            have hge : w.heap.size ≤ b := by have := GD.size; omega
            have hlt : w.heap.size < b := by have := rz.lt; omega
            simp only [← hbq]
            replace GD := GD.trans (hb.mono GD.size)
            replace rz := rz.below hb
            generalize X.alloc (.cells #[.int .i64 0, .int .i64 0, .int .i64 0, .bool false, .slice none 0 0, .string ⟨#[]⟩] 26) = Y40 at *
            clear hb hbq
            refine wpAnyH_ready (rs := [6, 13]) (by kernel_rfl) (by simp) ?_
            refine AllReadyH.cons rfl (fun K20139 hK20139 => ?_) ?_
            · go_simp
              refine hK20139.out _ _ ?hs20139 (fun hHeld20139 => ?_)
              case hs20139 => exact trivial
              clear hHeld
              have hHeld := hHeld20139; clear hHeld20139 hK20139 K20139
              have hb := below_new Y40 (.cells #[.int .i64 i1, .int .i64 i2, .int .i64 9223372036854775807] 3)
              have rg := Blk.new Y40 #[.int .i64 i1, .int .i64 i2, .int .i64 9223372036854775807] 3
              obtain ⟨g, hgq⟩ : ∃ g, g = Y40.heap.size := ⟨_, rfl⟩
              rw [← hgq] at rg
              simp only [← hgq]
              replace GD := GD.trans (hb.mono GD.size)
              replace rz := rz.below hb
              replace rb := rb.below hb
              generalize Y40.alloc (.cells #[.int .i64 i1, .int .i64 i2, .int .i64 9223372036854775807] 3) = Y41 at *
              clear hb hgq
              refine wpAnyH_weaken (S := (fun W => Blk g #[.int .i64 i1, .int .i64 i2, .int .i64 9223372036854775807] 3 W)) (fun _ _ => trivial) _ _ _ _ ?_
              clear hHeld
              have hHeld := rg
              clear rg
              refine wpAnyH_take (i := 10) (oi := ?oi20140) (v := ?v20140) ?hi20140 (by kernel_rfl) (by kernel_rfl) (by kernel_rfl) (fun _ _ _ h => h) (Or.inl ⟨?hw20140, ?hy20140⟩) (by assumption) ?rest20140
              case hi20140 => (simp only [List.getElem?_toArray, List.getElem?_cons_zero, List.getElem?_cons_succ]; rfl)
              case hw20140 => rfl
              case hy20140 => first | (intro wx hSw; go_simp; done) | (intro wx hSw; go_simp; with_reducible rfl)
              simp only [Act.put, List.setIfInBounds_toArray, List.set_cons_zero, List.set_cons_succ]
              refine wpAnyH_take (i := 11) (oi := ?oi20141) (v := ?v20141) ?hi20141 (by kernel_rfl) (by kernel_rfl) (by kernel_rfl) (fun _ _ _ h => h) (Or.inl ⟨?hw20141, ?hy20141⟩) (by assumption) ?rest20141
              case hi20141 => (simp only [List.getElem?_toArray, List.getElem?_cons_zero, List.getElem?_cons_succ]; rfl)
              case hw20141 => rfl
              case hy20141 => first | (intro wx hSw; have q_ := hSw.cell j; rw [unhide hx] at q_; go_simp; done) | (intro wx hSw; have q_ := hSw.cell j; rw [unhide hx] at q_; go_simp; with_reducible rfl)
              simp only [Act.put, List.setIfInBounds_toArray, List.set_cons_zero, List.set_cons_succ]
              refine wpAnyH_ready (rs := [13]) (by kernel_rfl) (by simp) ?_
              refine AllReadyH.cons rfl (fun K20142 hK20142 => ?_) AllReadyH.nil
              go_simp
              go_wp2_with (go_at_call 15; refine (unhide CT _).mono ?_; rintro e X2 ⟨rfl, hX2⟩; replace hX2 := hX2.symm; subst hX2)
              refine hK20142.out _ _ ?hs20142 (fun hHeld20142 => ?_)
              case hs20142 => exact hHeld
              clear hHeld
              have hHeld := hHeld20142; clear hHeld20142 hK20142 K20142
              refine wpAnyH_take (i := 14) (oi := ?oi20143) (v := ?v20143) ?hi20143 (by kernel_rfl) (by kernel_rfl) (by kernel_rfl) (fun _ _ _ h => h) (Or.inl ⟨?hw20143, ?hy20143⟩) (by assumption) ?rest20143
              case hi20143 => (simp only [List.getElem?_toArray, List.getElem?_cons_zero, List.getElem?_cons_succ]; rfl)
              case hw20143 => rfl
              case hy20143 => first | (intro wx hSw; go_simp; done) | (intro wx hSw; go_simp; with_reducible rfl)
              simp only [Act.put, List.setIfInBounds_toArray, List.set_cons_zero, List.set_cons_succ]
              have rlt := rb.lt
              have rc0 := rb.cell 0
              have rf0 := rb.froz 0
              have rc1 := rb.cell 1
              have rf1 := rb.froz 1
              have rc2 := rb.cell 2
              have rf2 := rb.froz 2
              have rc3 := rb.cell 3
              have rf3 := rb.froz 3
              have rc4 := rb.cell 4
              have rf4 := rb.froz 4
              have rc5 := rb.cell 5
              have rf5 := rb.froz 5
              simp at rc0 rc1 rc2 rc3 rc4 rc5
              have GE := Below.six GD hge (x0 := .int .i64 k) (x1 := .int .i64 x) (x2 := .int .i64 t) (x3 := .bool false) (x4 := .slice none 0 0) (x5 := .string ⟨#[]⟩)
              have RE := rb.six (x0 := .int .i64 k) (x1 := .int .i64 x) (x2 := .int .i64 t) (x3 := .bool false) (x4 := .slice none 0 0) (x5 := .string ⟨#[]⟩)
              have RZ := rz.far6 (b := b) (x0 := .int .i64 k) (x1 := .int .i64 x) (x2 := .int .i64 t) (x3 := .bool false) (x4 := .slice none 0 0) (x5 := .string ⟨#[]⟩) (by omega)
              have RG := hHeld.far6 (b := b) (x0 := .int .i64 k) (x1 := .int .i64 x) (x2 := .int .i64 t) (x3 := .bool false) (x4 := .slice none 0 0) (x5 := .string ⟨#[]⟩) (blk_ne hHeld rb six_ne_three)
              refine wpAnyH_ready (rs := [16]) (by kernel_rfl) (by simp) ?_
              refine AllReadyH.cons rfl (fun K20144 hK20144 => ?_) AllReadyH.nil
              go_simp
              refine hK20144.out _ _ ?hs20144 (fun hHeld20144 => ?_)
              case hs20144 => exact RG
              clear hHeld
              have hHeld := hHeld20144; clear hHeld20144 hK20144 K20144
              refine wpAnyH_done (by kernel_rfl) ?_ _
              refine NoPanic.normal ?_
              skip
              exact unhide REST _ b _ (by kernel_rfl) (hide GE) (hide RE) (hide RZ) hlt
            refine AllReadyH.cons rfl (fun K20145 hK20145 => ?_) AllReadyH.nil
            · go_simp
              go_wp2_with (go_at_call 15; refine (unhide CT _).mono ?_; rintro e X2 ⟨rfl, hX2⟩; replace hX2 := hX2.symm; subst hX2)
              refine hK20145.out _ _ ?hs20145 (fun hHeld20145 => ?_)
              case hs20145 => exact trivial
              clear hHeld
              have hHeld := hHeld20145; clear hHeld20145 hK20145 K20145
              refine wpAnyH_ready (rs := [6]) (by kernel_rfl) (by simp) ?_
              refine AllReadyH.cons rfl (fun K20146 hK20146 => ?_) AllReadyH.nil
              go_simp
              refine hK20146.out _ _ ?hs20146 (fun hHeld20146 => ?_)
              case hs20146 => exact trivial
              clear hHeld
              have hHeld := hHeld20146; clear hHeld20146 hK20146 K20146
              have hb := below_new Y40 (.cells #[.int .i64 i1, .int .i64 i2, .int .i64 9223372036854775807] 3)
              have rg := Blk.new Y40 #[.int .i64 i1, .int .i64 i2, .int .i64 9223372036854775807] 3
              obtain ⟨g, hgq⟩ : ∃ g, g = Y40.heap.size := ⟨_, rfl⟩
              rw [← hgq] at rg
              simp only [← hgq]
              replace GD := GD.trans (hb.mono GD.size)
              replace rz := rz.below hb
              replace rb := rb.below hb
              generalize Y40.alloc (.cells #[.int .i64 i1, .int .i64 i2, .int .i64 9223372036854775807] 3) = Y44 at *
              clear hb hgq
              refine wpAnyH_weaken (S := (fun W => Blk g #[.int .i64 i1, .int .i64 i2, .int .i64 9223372036854775807] 3 W)) (fun _ _ => trivial) _ _ _ _ ?_
              clear hHeld
              have hHeld := rg
              clear rg
              refine wpAnyH_take (i := 10) (oi := ?oi20147) (v := ?v20147) ?hi20147 (by kernel_rfl) (by kernel_rfl) (by kernel_rfl) (fun _ _ _ h => h) (Or.inl ⟨?hw20147, ?hy20147⟩) (by assumption) ?rest20147
              case hi20147 => (simp only [List.getElem?_toArray, List.getElem?_cons_zero, List.getElem?_cons_succ]; rfl)
              case hw20147 => rfl
              case hy20147 => first | (intro wx hSw; go_simp; done) | (intro wx hSw; go_simp; with_reducible rfl)
              simp only [Act.put, List.setIfInBounds_toArray, List.set_cons_zero, List.set_cons_succ]
              refine wpAnyH_take (i := 11) (oi := ?oi20148) (v := ?v20148) ?hi20148 (by kernel_rfl) (by kernel_rfl) (by kernel_rfl) (fun _ _ _ h => h) (Or.inl ⟨?hw20148, ?hy20148⟩) (by assumption) ?rest20148
              case hi20148 => (simp only [List.getElem?_toArray, List.getElem?_cons_zero, List.getElem?_cons_succ]; rfl)
              case hw20148 => rfl
              case hy20148 => first | (intro wx hSw; have q_ := hSw.cell j; rw [unhide hx] at q_; go_simp; done) | (intro wx hSw; have q_ := hSw.cell j; rw [unhide hx] at q_; go_simp; with_reducible rfl)
              simp only [Act.put, List.setIfInBounds_toArray, List.set_cons_zero, List.set_cons_succ]
              refine wpAnyH_take (i := 14) (oi := ?oi20149) (v := ?v20149) ?hi20149 (by kernel_rfl) (by kernel_rfl) (by kernel_rfl) (fun _ _ _ h => h) (Or.inl ⟨?hw20149, ?hy20149⟩) (by assumption) ?rest20149
              case hi20149 => (simp only [List.getElem?_toArray, List.getElem?_cons_zero, List.getElem?_cons_succ]; rfl)
              case hw20149 => rfl
              case hy20149 => first | (intro wx hSw; go_simp; done) | (intro wx hSw; go_simp; with_reducible rfl)
              simp only [Act.put, List.setIfInBounds_toArray, List.set_cons_zero, List.set_cons_succ]
              have rlt := rb.lt
              have rc0 := rb.cell 0
              have rf0 := rb.froz 0
              have rc1 := rb.cell 1
              have rf1 := rb.froz 1
              have rc2 := rb.cell 2
              have rf2 := rb.froz 2
              have rc3 := rb.cell 3
              have rf3 := rb.froz 3
              have rc4 := rb.cell 4
              have rf4 := rb.froz 4
              have rc5 := rb.cell 5
              have rf5 := rb.froz 5
              simp at rc0 rc1 rc2 rc3 rc4 rc5
              have GE := Below.six GD hge (x0 := .int .i64 k) (x1 := .int .i64 x) (x2 := .int .i64 t) (x3 := .bool false) (x4 := .slice none 0 0) (x5 := .string ⟨#[]⟩)
              have RE := rb.six (x0 := .int .i64 k) (x1 := .int .i64 x) (x2 := .int .i64 t) (x3 := .bool false) (x4 := .slice none 0 0) (x5 := .string ⟨#[]⟩)
              have RZ := rz.far6 (b := b) (x0 := .int .i64 k) (x1 := .int .i64 x) (x2 := .int .i64 t) (x3 := .bool false) (x4 := .slice none 0 0) (x5 := .string ⟨#[]⟩) (by omega)
              have RG := hHeld.far6 (b := b) (x0 := .int .i64 k) (x1 := .int .i64 x) (x2 := .int .i64 t) (x3 := .bool false) (x4 := .slice none 0 0) (x5 := .string ⟨#[]⟩) (blk_ne hHeld rb six_ne_three)
              refine wpAnyH_ready (rs := [16]) (by kernel_rfl) (by simp) ?_
              refine AllReadyH.cons rfl (fun K20150 hK20150 => ?_) AllReadyH.nil
              go_simp
              refine hK20150.out _ _ ?hs20150 (fun hHeld20150 => ?_)
              case hs20150 => exact RG
              clear hHeld
              have hHeld := hHeld20150; clear hHeld20150 hK20150 K20150
              refine wpAnyH_done (by kernel_rfl) ?_ _
              refine NoPanic.normal ?_
              skip
              exact unhide REST _ b _ (by kernel_rfl) (hide GE) (hide RE) (hide RZ) hlt
        refine AllReadyH.cons rfl (fun K20151 hK20151 => ?_) AllReadyH.nil
        · go_simp
          refine hK20151.out _ _ ?hs20151 (fun hHeld20151 => ?_)
          case hs20151 => exact trivial
          clear hHeld
          have hHeld := hHeld20151; clear hHeld20151 hK20151 K20151
          have hb := below_new X (.cells #[.int .i64 0, .int .i64 0, .int .i64 0, .bool false, .slice none 0 0, .string ⟨#[]⟩] 26)
          have rb := Blk.new X #[.int .i64 0, .int .i64 0, .int .i64 0, .bool false, .slice none 0 0, .string ⟨#[]⟩] 26
          obtain ⟨b, hbq⟩ : ∃ b, b = X.heap.size := ⟨_, rfl⟩
          rw [← hbq] at rb
          have hge : w.heap.size ≤ b := by have := GD.size; omega
          have hlt : w.heap.size < b := by have := rz.lt; omega
          simp only [← hbq]
          replace GD := GD.trans (hb.mono GD.size)
          replace rz := rz.below hb
          generalize X.alloc (.cells #[.int .i64 0, .int .i64 0, .int .i64 0, .bool false, .slice none 0 0, .string ⟨#[]⟩] 26) = Y45 at *
          clear hb hbq
          refine wpAnyH_ready (rs := [6, 9]) (by kernel_rfl) (by simp) ?_
          refine AllReadyH.cons rfl (fun K20152 hK20152 => ?_) ?_
          · go_simp
            refine hK20152.out _ _ ?hs20152 (fun hHeld20152 => ?_)
            case hs20152 => exact trivial
            clear hHeld
            have hHeld := hHeld20152; clear hHeld20152 hK20152 K20152
            have hb := below_new Y45 (.cells #[.int .i64 i1, .int .i64 i2, .int .i64 9223372036854775807] 3)
            have rg := Blk.new Y45 #[.int .i64 i1, .int .i64 i2, .int .i64 9223372036854775807] 3
            obtain ⟨g, hgq⟩ : ∃ g, g = Y45.heap.size := ⟨_, rfl⟩
            rw [← hgq] at rg
            simp only [← hgq]
            replace GD := GD.trans (hb.mono GD.size)
            replace rz := rz.below hb
            replace rb := rb.below hb
            generalize Y45.alloc (.cells #[.int .i64 i1, .int .i64 i2, .int .i64 9223372036854775807] 3) = Y46 at *
            clear hb hgq
            refine wpAnyH_weaken (S := (fun W => Blk g #[.int .i64 i1, .int .i64 i2, .int .i64 9223372036854775807] 3 W)) (fun _ _ => trivial) _ _ _ _ ?_
            clear hHeld
            have hHeld := rg
            clear rg
            refine wpAnyH_ready (rs := [9]) (by kernel_rfl) (by simp) ?_
            refine AllReadyH.cons rfl (fun K20153 hK20153 => ?_) AllReadyH.nil
            go_simp
            go_wp2_with (go_at_call 15; refine (unhide CC _).mono ?_; rintro e X2 ⟨rfl, hX2⟩; replace hX2 := hX2.symm; subst hX2)
            refine hK20153.out _ _ ?hs20153 (fun hHeld20153 => ?_)
            case hs20153 => exact hHeld
            clear hHeld
            have hHeld := hHeld20153; clear hHeld20153 hK20153 K20153
            refine wpAnyH_take (i := 10) (oi := ?oi20154) (v := ?v20154) ?hi20154 (by kernel_rfl) (by kernel_rfl) (by kernel_rfl) (fun _ _ _ h => h) (Or.inl ⟨?hw20154, ?hy20154⟩) (by assumption) ?rest20154
            case hi20154 => (simp only [List.getElem?_toArray, List.getElem?_cons_zero, List.getElem?_cons_succ]; rfl)
            case hw20154 => rfl
            case hy20154 => first | (intro wx hSw; go_simp; done) | (intro wx hSw; go_simp; with_reducible rfl)
            simp only [Act.put, List.setIfInBounds_toArray, List.set_cons_zero, List.set_cons_succ]
            refine wpAnyH_take (i := 11) (oi := ?oi20155) (v := ?v20155) ?hi20155 (by kernel_rfl) (by kernel_rfl) (by kernel_rfl) (fun _ _ _ h => h) (Or.inl ⟨?hw20155, ?hy20155⟩) (by assumption) ?rest20155
            case hi20155 => (simp only [List.getElem?_toArray, List.getElem?_cons_zero, List.getElem?_cons_succ]; rfl)
            case hw20155 => rfl
            case hy20155 => first | (intro wx hSw; have q_ := hSw.cell j; rw [unhide hx] at q_; go_simp; done) | (intro wx hSw; have q_ := hSw.cell j; rw [unhide hx] at q_; go_simp; with_reducible rfl)
            simp only [Act.put, List.setIfInBounds_toArray, List.set_cons_zero, List.set_cons_succ]
            refine wpAnyH_ready (rs := [13]) (by kernel_rfl) (by simp) ?_
            refine AllReadyH.cons rfl (fun K20156 hK20156 => ?_) AllReadyH.nil
            go_simp
            go_wp2_with (go_at_call 15; refine (unhide CT _).mono ?_; rintro e X2 ⟨rfl, hX2⟩; replace hX2 := hX2.symm; subst hX2)
            refine hK20156.out _ _ ?hs20156 (fun hHeld20156 => ?_)
            case hs20156 => exact hHeld
            clear hHeld
            have hHeld := hHeld20156; clear hHeld20156 hK20156 K20156
            refine wpAnyH_take (i := 14) (oi := ?oi20157) (v := ?v20157) ?hi20157 (by kernel_rfl) (by kernel_rfl) (by kernel_rfl) (fun _ _ _ h => h) (Or.inl ⟨?hw20157, ?hy20157⟩) (by assumption) ?rest20157
            case hi20157 => (simp only [List.getElem?_toArray, List.getElem?_cons_zero, List.getElem?_cons_succ]; rfl)
            case hw20157 => rfl
            case hy20157 => first | (intro wx hSw; go_simp; done) | (intro wx hSw; go_simp; with_reducible rfl)
            simp only [Act.put, List.setIfInBounds_toArray, List.set_cons_zero, List.set_cons_succ]
            have rlt := rb.lt
            have rc0 := rb.cell 0
            have rf0 := rb.froz 0
            have rc1 := rb.cell 1
            have rf1 := rb.froz 1
            have rc2 := rb.cell 2
            have rf2 := rb.froz 2
            have rc3 := rb.cell 3
            have rf3 := rb.froz 3
            have rc4 := rb.cell 4
            have rf4 := rb.froz 4
            have rc5 := rb.cell 5
            have rf5 := rb.froz 5
            simp at rc0 rc1 rc2 rc3 rc4 rc5
            have GE := Below.six GD hge (x0 := .int .i64 k) (x1 := .int .i64 x) (x2 := .int .i64 t) (x3 := .bool false) (x4 := .slice none 0 0) (x5 := .string ⟨#[]⟩)
            have RE := rb.six (x0 := .int .i64 k) (x1 := .int .i64 x) (x2 := .int .i64 t) (x3 := .bool false) (x4 := .slice none 0 0) (x5 := .string ⟨#[]⟩)
            have RZ := rz.far6 (b := b) (x0 := .int .i64 k) (x1 := .int .i64 x) (x2 := .int .i64 t) (x3 := .bool false) (x4 := .slice none 0 0) (x5 := .string ⟨#[]⟩) (by omega)
            have RG := hHeld.far6 (b := b) (x0 := .int .i64 k) (x1 := .int .i64 x) (x2 := .int .i64 t) (x3 := .bool false) (x4 := .slice none 0 0) (x5 := .string ⟨#[]⟩) (blk_ne hHeld rb six_ne_three)
            refine wpAnyH_ready (rs := [16]) (by kernel_rfl) (by simp) ?_
            refine AllReadyH.cons rfl (fun K20158 hK20158 => ?_) AllReadyH.nil
            go_simp
            refine hK20158.out _ _ ?hs20158 (fun hHeld20158 => ?_)
            case hs20158 => exact RG
            clear hHeld
            have hHeld := hHeld20158; clear hHeld20158 hK20158 K20158
            refine wpAnyH_done (by kernel_rfl) ?_ _
            refine NoPanic.normal ?_
            skip
            exact unhide REST _ b _ (by kernel_rfl) (hide GE) (hide RE) (hide RZ) hlt
          refine AllReadyH.cons rfl (fun K20159 hK20159 => ?_) AllReadyH.nil
          · go_simp
            go_wp2_with (go_at_call 15; refine (unhide CC _).mono ?_; rintro e X2 ⟨rfl, hX2⟩; replace hX2 := hX2.symm; subst hX2)
            refine hK20159.out _ _ ?hs20159 (fun hHeld20159 => ?_)
            case hs20159 => exact trivial
            clear hHeld
            have hHeld := hHeld20159; clear hHeld20159 hK20159 K20159
            refine wpAnyH_ready (rs := [6, 13]) (by kernel_rfl) (by simp) ?_
            refine AllReadyH.cons rfl (fun K20160 hK20160 => ?_) ?_
            · go_simp
              refine hK20160.out _ _ ?hs20160 (fun hHeld20160 => ?_)
              case hs20160 => exact trivial
              clear hHeld
              have hHeld := hHeld20160; clear hHeld20160 hK20160 K20160
              have hb := below_new Y45 (.cells #[.int .i64 i1, .int .i64 i2, .int .i64 9223372036854775807] 3)
              have rg := Blk.new Y45 #[.int .i64 i1, .int .i64 i2, .int .i64 9223372036854775807] 3
              obtain ⟨g, hgq⟩ : ∃ g, g = Y45.heap.size := ⟨_, rfl⟩
              rw [← hgq] at rg
              simp only [← hgq]
              replace GD := GD.trans (hb.mono GD.size)
              replace rz := rz.below hb
              replace rb := rb.below hb
              generalize Y45.alloc (.cells #[.int .i64 i1, .int .i64 i2, .int .i64 9223372036854775807] 3) = Y50 at *
              clear hb hgq
              refine wpAnyH_weaken (S := (fun W => Blk g #[.int .i64 i1, .int .i64 i2, .int .i64 9223372036854775807] 3 W)) (fun _ _ => trivial) _ _ _ _ ?_
              clear hHeld
              have hHeld := rg
              clear rg
              refine wpAnyH_take (i := 10) (oi := ?oi20161) (v := ?v20161) ?hi20161 (by kernel_rfl) (by kernel_rfl) (by kernel_rfl) (fun _ _ _ h => h) (Or.inl ⟨?hw20161, ?hy20161⟩) (by assumption) ?rest20161
              case hi20161 => (simp only [List.getElem?_toArray, List.getElem?_cons_zero, List.getElem?_cons_succ]; rfl)
              case hw20161 => rfl
              case hy20161 => first | (intro wx hSw; go_simp; done) | (intro wx hSw; go_simp; with_reducible rfl)
              simp only [Act.put, List.setIfInBounds_toArray, List.set_cons_zero, List.set_cons_succ]
              refine wpAnyH_take (i := 11) (oi := ?oi20162) (v := ?v20162) ?hi20162 (by kernel_rfl) (by kernel_rfl) (by kernel_rfl) (fun _ _ _ h => h) (Or.inl ⟨?hw20162, ?hy20162⟩) (by assumption) ?rest20162
              case hi20162 => (simp only [List.getElem?_toArray, List.getElem?_cons_zero, List.getElem?_cons_succ]; rfl)
              case hw20162 => rfl
              case hy20162 => first | (intro wx hSw; have q_ := hSw.cell j; rw [unhide hx] at q_; go_simp; done) | (intro wx hSw; have q_ := hSw.cell j; rw [unhide hx] at q_; go_simp; with_reducible rfl)
              simp only [Act.put, List.setIfInBounds_toArray, List.set_cons_zero, List.set_cons_succ]
              refine wpAnyH_ready (rs := [13]) (by kernel_rfl) (by simp) ?_
              refine AllReadyH.cons rfl (fun K20163 hK20163 => ?_) AllReadyH.nil
              go_simp
              go_wp2_with (go_at_call 15; refine (unhide CT _).mono ?_; rintro e X2 ⟨rfl, hX2⟩; replace hX2 := hX2.symm; subst hX2)
              refine hK20163.out _ _ ?hs20163 (fun hHeld20163 => ?_)
              case hs20163 => exact hHeld
              clear hHeld
              have hHeld := hHeld20163; clear hHeld20163 hK20163 K20163
              refine wpAnyH_take (i := 14) (oi := ?oi20164) (v := ?v20164) ?hi20164 (by kernel_rfl) (by kernel_rfl) (by kernel_rfl) (fun _ _ _ h => h) (Or.inl ⟨?hw20164, ?hy20164⟩) (by assumption) ?rest20164
              case hi20164 => (simp only [List.getElem?_toArray, List.getElem?_cons_zero, List.getElem?_cons_succ]; rfl)
              case hw20164 => rfl
              case hy20164 => first | (intro wx hSw; go_simp; done) | (intro wx hSw; go_simp; with_reducible rfl)
              simp only [Act.put, List.setIfInBounds_toArray, List.set_cons_zero, List.set_cons_succ]
              have rlt := rb.lt
              have rc0 := rb.cell 0
              have rf0 := rb.froz 0
              have rc1 := rb.cell 1
              have rf1 := rb.froz 1
              have rc2 := rb.cell 2
              have rf2 := rb.froz 2
              have rc3 := rb.cell 3
              have rf3 := rb.froz 3
              have rc4 := rb.cell 4
              have rf4 := rb.froz 4
              have rc5 := rb.cell 5
              have rf5 := rb.froz 5
              simp at rc0 rc1 rc2 rc3 rc4 rc5
              have GE := Below.six GD hge (x0 := .int .i64 k) (x1 := .int .i64 x) (x2 := .int .i64 t) (x3 := .bool false) (x4 := .slice none 0 0) (x5 := .string ⟨#[]⟩)
              have RE := rb.six (x0 := .int .i64 k) (x1 := .int .i64 x) (x2 := .int .i64 t) (x3 := .bool false) (x4 := .slice none 0 0) (x5 := .string ⟨#[]⟩)
              have RZ := rz.far6 (b := b) (x0 := .int .i64 k) (x1 := .int .i64 x) (x2 := .int .i64 t) (x3 := .bool false) (x4 := .slice none 0 0) (x5 := .string ⟨#[]⟩) (by omega)
              have RG := hHeld.far6 (b := b) (x0 := .int .i64 k) (x1 := .int .i64 x) (x2 := .int .i64 t) (x3 := .bool false) (x4 := .slice none 0 0) (x5 := .string ⟨#[]⟩) (blk_ne hHeld rb six_ne_three)
              refine wpAnyH_ready (rs := [16]) (by kernel_rfl) (by simp) ?_
              refine AllReadyH.cons rfl (fun K20165 hK20165 => ?_) AllReadyH.nil
              go_simp
              refine hK20165.out _ _ ?hs20165 (fun hHeld20165 => ?_)
              case hs20165 => exact RG
              clear hHeld
              have hHeld := hHeld20165; clear hHeld20165 hK20165 K20165
              refine wpAnyH_done (by kernel_rfl) ?_ _
              refine NoPanic.normal ?_
              skip
              exact unhide REST _ b _ (by kernel_rfl) (hide GE) (hide RE) (hide RZ) hlt
            refine AllReadyH.cons rfl (fun K20166 hK20166 => ?_) AllReadyH.nil
            · go_simp
              go_wp2_with (go_at_call 15; refine (unhide CT _).mono ?_; rintro e X2 ⟨rfl, hX2⟩; replace hX2 := hX2.symm; subst hX2)
              refine hK20166.out _ _ ?hs20166 (fun hHeld20166 => ?_)
              case hs20166 => exact trivial
              clear hHeld
              have hHeld := hHeld20166; clear hHeld20166 hK20166 K20166
              refine wpAnyH_ready (rs := [6]) (by kernel_rfl) (by simp) ?_
              refine AllReadyH.cons rfl (fun K20167 hK20167 => ?_) AllReadyH.nil
              go_simp
              refine hK20167.out _ _ ?hs20167 (fun hHeld20167 => ?_)
              case hs20167 => exact trivial
              clear hHeld
              have hHeld := hHeld20167; clear hHeld20167 hK20167 K20167
              have hb := below_new Y45 (.cells #[.int .i64 i1, .int .i64 i2, .int .i64 9223372036854775807] 3)
              have rg := Blk.new Y45 #[.int .i64 i1, .int .i64 i2, .int .i64 9223372036854775807] 3
              obtain ⟨g, hgq⟩ : ∃ g, g = Y45.heap.size := ⟨_, rfl⟩
              rw [← hgq] at rg
              simp only [← hgq]
              replace GD := GD.trans (hb.mono GD.size)
              replace rz := rz.below hb
              replace rb := rb.below hb
              generalize Y45.alloc (.cells #[.int .i64 i1, .int .i64 i2, .int .i64 9223372036854775807] 3) = Y53 at *
              clear hb hgq
              refine wpAnyH_weaken (S := (fun W => Blk g #[.int .i64 i1, .int .i64 i2, .int .i64 9223372036854775807] 3 W)) (fun _ _ => trivial) _ _ _ _ ?_
              clear hHeld
              have hHeld := rg
              clear rg
              refine wpAnyH_take (i := 10) (oi := ?oi20168) (v := ?v20168) ?hi20168 (by kernel_rfl) (by kernel_rfl) (by kernel_rfl) (fun _ _ _ h => h) (Or.inl ⟨?hw20168, ?hy20168⟩) (by assumption) ?rest20168
              case hi20168 => (simp only [List.getElem?_toArray, List.getElem?_cons_zero, List.getElem?_cons_succ]; rfl)
              case hw20168 => rfl
              case hy20168 => first | (intro wx hSw; go_simp; done) | (intro wx hSw; go_simp; with_reducible rfl)
              simp only [Act.put, List.setIfInBounds_toArray, List.set_cons_zero, List.set_cons_succ]
              refine wpAnyH_take (i := 11) (oi := ?oi20169) (v := ?v20169) ?hi20169 (by kernel_rfl) (by kernel_rfl) (by kernel_rfl) (fun _ _ _ h => h) (Or.inl ⟨?hw20169, ?hy20169⟩) (by assumption) ?rest20169
              case hi20169 => (simp only [List.getElem?_toArray, List.getElem?_cons_zero, List.getElem?_cons_succ]; rfl)
              case hw20169 => rfl
              case hy20169 => first | (intro wx hSw; have q_ := hSw.cell j; rw [unhide hx] at q_; go_simp; done) | (intro wx hSw; have q_ := hSw.cell j; rw [unhide hx] at q_; go_simp; with_reducible rfl)
              simp only [Act.put, List.setIfInBounds_toArray, List.set_cons_zero, List.set_cons_succ]
              refine wpAnyH_take (i := 14) (oi := ?oi20170) (v := ?v20170) ?hi20170 (by kernel_rfl) (by kernel_rfl) (by kernel_rfl) (fun _ _ _ h => h) (Or.inl ⟨?hw20170, ?hy20170⟩) (by assumption) ?rest20170
              case hi20170 => (simp only [List.getElem?_toArray, List.getElem?_cons_zero, List.getElem?_cons_succ]; rfl)
              case hw20170 => rfl
              case hy20170 => first | (intro wx hSw; go_simp; done) | (intro wx hSw; go_simp; with_reducible rfl)
              simp only [Act.put, List.setIfInBounds_toArray, List.set_cons_zero, List.set_cons_succ]
              have rlt := rb.lt
              have rc0 := rb.cell 0
              have rf0 := rb.froz 0
              have rc1 := rb.cell 1
              have rf1 := rb.froz 1
              have rc2 := rb.cell 2
              have rf2 := rb.froz 2
              have rc3 := rb.cell 3
              have rf3 := rb.froz 3
              have rc4 := rb.cell 4
              have rf4 := rb.froz 4
              have rc5 := rb.cell 5
              have rf5 := rb.froz 5
              simp at rc0 rc1 rc2 rc3 rc4 rc5
              have GE := Below.six GD hge (x0 := .int .i64 k) (x1 := .int .i64 x) (x2 := .int .i64 t) (x3 := .bool false) (x4 := .slice none 0 0) (x5 := .string ⟨#[]⟩)
              have RE := rb.six (x0 := .int .i64 k) (x1 := .int .i64 x) (x2 := .int .i64 t) (x3 := .bool false) (x4 := .slice none 0 0) (x5 := .string ⟨#[]⟩)
              have RZ := rz.far6 (b := b) (x0 := .int .i64 k) (x1 := .int .i64 x) (x2 := .int .i64 t) (x3 := .bool false) (x4 := .slice none 0 0) (x5 := .string ⟨#[]⟩) (by omega)
              have RG := hHeld.far6 (b := b) (x0 := .int .i64 k) (x1 := .int .i64 x) (x2 := .int .i64 t) (x3 := .bool false) (x4 := .slice none 0 0) (x5 := .string ⟨#[]⟩) (blk_ne hHeld rb six_ne_three)
              refine wpAnyH_ready (rs := [16]) (by kernel_rfl) (by simp) ?_
              refine AllReadyH.cons rfl (fun K20171 hK20171 => ?_) AllReadyH.nil
              go_simp
              refine hK20171.out _ _ ?hs20171 (fun hHeld20171 => ?_)
              case hs20171 => exact RG
              clear hHeld
              have hHeld := hHeld20171; clear hHeld20171 hK20171 K20171
              refine wpAnyH_done (by kernel_rfl) ?_ _
              refine NoPanic.normal ?_
              skip
              exact unhide REST _ b _ (by kernel_rfl) (hide GE) (hide RE) (hide RZ) hlt
      refine AllReadyH.cons rfl (fun K20172 hK20172 => ?_) AllReadyH.nil
      · go_simp
        refine hK20172.out _ _ ?hs20172 (fun hHeld20172 => ?_)
        case hs20172 => exact trivial
        clear hHeld
        have hHeld := hHeld20172; clear hHeld20172 hK20172 K20172
        have hb := below_new X (.cells #[.int .i64 0, .int .i64 0, .int .i64 0, .bool false, .slice none 0 0, .string ⟨#[]⟩] 26)
        have rb := Blk.new X #[.int .i64 0, .int .i64 0, .int .i64 0, .bool false, .slice none 0 0, .string ⟨#[]⟩] 26
        obtain ⟨b, hbq⟩ : ∃ b, b = X.heap.size := ⟨_, rfl⟩
        rw [← hbq] at rb
        have hge : w.heap.size ≤ b := by have := GD.size; omega
        have hlt : w.heap.size < b := by have := rz.lt; omega
        simp only [← hbq]
        replace GD := GD.trans (hb.mono GD.size)
        replace rz := rz.below hb
        generalize X.alloc (.cells #[.int .i64 0, .int .i64 0, .int .i64 0, .bool false, .slice none 0 0, .string ⟨#[]⟩] 26) = Y54 at *
        clear hb hbq
        refine wpAnyH_ready (rs := [5]) (by kernel_rfl) (by simp) ?_
        refine AllReadyH.cons rfl (fun K20173 hK20173 => ?_) AllReadyH.nil
        go_simp
        go_wp2_with (go_at_call 15; refine (unhide CB _).mono ?_; rintro e X2 ⟨rfl, hX2⟩; replace hX2 := hX2.symm; subst hX2)
        refine hK20173.out _ _ ?hs20173 (fun hHeld20173 => ?_)
        case hs20173 => exact trivial
        clear hHeld
        have hHeld := hHeld20173; clear hHeld20173 hK20173 K20173
        refine wpAnyH_ready (rs := [6, 9]) (by kernel_rfl) (by simp) ?_
        refine AllReadyH.cons rfl (fun K20174 hK20174 => ?_) ?_
        · go_simp
          refine hK20174.out _ _ ?hs20174 (fun hHeld20174 => ?_)
          case hs20174 => exact trivial
          clear hHeld
          have hHeld := hHeld20174; clear hHeld20174 hK20174 K20174
          have hb := below_new Y54 (.cells #[.int .i64 i1, .int .i64 i2, .int .i64 9223372036854775807] 3)
          have rg := Blk.new Y54 #[.int .i64 i1, .int .i64 i2, .int .i64 9223372036854775807] 3
          obtain ⟨g, hgq⟩ : ∃ g, g = Y54.heap.size := ⟨_, rfl⟩
          rw [← hgq] at rg
          simp only [← hgq]
          replace GD := GD.trans (hb.mono GD.size)
          replace rz := rz.below hb
          replace rb := rb.below hb
          generalize Y54.alloc (.cells #[.int .i64 i1, .int .i64 i2, .int .i64 9223372036854775807] 3) = Y56 at *
          clear hb hgq
          refine wpAnyH_weaken (S := (fun W => Blk g #[.int .i64 i1, .int .i64 i2, .int .i64 9223372036854775807] 3 W)) (fun _ _ => trivial) _ _ _ _ ?_
          clear hHeld
          have hHeld := rg
          clear rg
          refine wpAnyH_ready (rs := [9]) (by kernel_rfl) (by simp) ?_
          refine AllReadyH.cons rfl (fun K20175 hK20175 => ?_) AllReadyH.nil
          go_simp
          go_wp2_with (go_at_call 15; refine (unhide CC _).mono ?_; rintro e X2 ⟨rfl, hX2⟩; replace hX2 := hX2.symm; subst hX2)
          refine hK20175.out _ _ ?hs20175 (fun hHeld20175 => ?_)
          case hs20175 => exact hHeld
          clear hHeld
          have hHeld := hHeld20175; clear hHeld20175 hK20175 K20175
          refine wpAnyH_take (i := 10) (oi := ?oi20176) (v := ?v20176) ?hi20176 (by kernel_rfl) (by kernel_rfl) (by kernel_rfl) (fun _ _ _ h => h) (Or.inl ⟨?hw20176, ?hy20176⟩) (by assumption) ?rest20176
          case hi20176 => (simp only [List.getElem?_toArray, List.getElem?_cons_zero, List.getElem?_cons_succ]; rfl)
          case hw20176 => rfl
          case hy20176 => first | (intro wx hSw; go_simp; done) | (intro wx hSw; go_simp; with_reducible rfl)
          simp only [Act.put, List.setIfInBounds_toArray, List.set_cons_zero, List.set_cons_succ]
          refine wpAnyH_take (i := 11) (oi := ?oi20177) (v := ?v20177) ?hi20177 (by kernel_rfl) (by kernel_rfl) (by kernel_rfl) (fun _ _ _ h => h) (Or.inl ⟨?hw20177, ?hy20177⟩) (by assumption) ?rest20177
          case hi20177 => (simp only [List.getElem?_toArray, List.getElem?_cons_zero, List.getElem?_cons_succ]; rfl)
          case hw20177 => rfl
          case hy20177 => first | (intro wx hSw; have q_ := hSw.cell j; rw [unhide hx] at q_; go_simp; done) | (intro wx hSw; have q_ := hSw.cell j; rw [unhide hx] at q_; go_simp; with_reducible rfl)
          simp only [Act.put, List.setIfInBounds_toArray, List.set_cons_zero, List.set_cons_succ]
          refine wpAnyH_ready (rs := [13]) (by kernel_rfl) (by simp) ?_
          refine AllReadyH.cons rfl (fun K20178 hK20178 => ?_) AllReadyH.nil
          go_simp
          go_wp2_with (go_at_call 15; refine (unhide CT _).mono ?_; rintro e X2 ⟨rfl, hX2⟩; replace hX2 := hX2.symm; subst hX2)
          refine hK20178.out _ _ ?hs20178 (fun hHeld20178 => ?_)
          case hs20178 => exact hHeld
          clear hHeld
          have hHeld := hHeld20178; clear hHeld20178 hK20178 K20178
          refine wpAnyH_take (i := 14) (oi := ?oi20179) (v := ?v20179) ?hi20179 (by kernel_rfl) (by kernel_rfl) (by kernel_rfl) (fun _ _ _ h => h) (Or.inl ⟨?hw20179, ?hy20179⟩) (by assumption) ?rest20179
          case hi20179 => (simp only [List.getElem?_toArray, List.getElem?_cons_zero, List.getElem?_cons_succ]; rfl)
          case hw20179 => rfl
          case hy20179 => first | (intro wx hSw; go_simp; done) | (intro wx hSw; go_simp; with_reducible rfl)
          simp only [Act.put, List.setIfInBounds_toArray, List.set_cons_zero, List.set_cons_succ]
          have rlt := rb.lt
          have rc0 := rb.cell 0
          have rf0 := rb.froz 0
          have rc1 := rb.cell 1
          have rf1 := rb.froz 1
          have rc2 := rb.cell 2
          have rf2 := rb.froz 2
          have rc3 := rb.cell 3
          have rf3 := rb.froz 3
          have rc4 := rb.cell 4
          have rf4 := rb.froz 4
          have rc5 := rb.cell 5
          have rf5 := rb.froz 5
          simp at rc0 rc1 rc2 rc3 rc4 rc5
          have GE := Below.six GD hge (x0 := .int .i64 k) (x1 := .int .i64 x) (x2 := .int .i64 t) (x3 := .bool false) (x4 := .slice none 0 0) (x5 := .string ⟨#[]⟩)
          have RE := rb.six (x0 := .int .i64 k) (x1 := .int .i64 x) (x2 := .int .i64 t) (x3 := .bool false) (x4 := .slice none 0 0) (x5 := .string ⟨#[]⟩)
          have RZ := rz.far6 (b := b) (x0 := .int .i64 k) (x1 := .int .i64 x) (x2 := .int .i64 t) (x3 := .bool false) (x4 := .slice none 0 0) (x5 := .string ⟨#[]⟩) (by omega)
          have RG := hHeld.far6 (b := b) (x0 := .int .i64 k) (x1 := .int .i64 x) (x2 := .int .i64 t) (x3 := .bool false) (x4 := .slice none 0 0) (x5 := .string ⟨#[]⟩) (blk_ne hHeld rb six_ne_three)
          refine wpAnyH_ready (rs := [16]) (by kernel_rfl) (by simp) ?_
          refine AllReadyH.cons rfl (fun K20180 hK20180 => ?_) AllReadyH.nil
          go_simp
          refine hK20180.out _ _ ?hs20180 (fun hHeld20180 => ?_)
          case hs20180 => exact RG
          clear hHeld
          have hHeld := hHeld20180; clear hHeld20180 hK20180 K20180
          refine wpAnyH_done (by kernel_rfl) ?_ _
          refine NoPanic.normal ?_
          skip
          exact unhide REST _ b _ (by kernel_rfl) (hide GE) (hide RE) (hide RZ) hlt
        refine AllReadyH.cons rfl (fun K20181 hK20181 => ?_) AllReadyH.nil
        · go_simp
          go_wp2_with (go_at_call 15; refine (unhide CC _).mono ?_; rintro e X2 ⟨rfl, hX2⟩; replace hX2 := hX2.symm; subst hX2)
          refine hK20181.out _ _ ?hs20181 (fun hHeld20181 => ?_)
          case hs20181 => exact trivial
          clear hHeld
          have hHeld := hHeld20181; clear hHeld20181 hK20181 K20181
          refine wpAnyH_ready (rs := [6, 13]) (by kernel_rfl) (by simp) ?_
          refine AllReadyH.cons rfl (fun K20182 hK20182 => ?_) ?_
          · go_simp
            refine hK20182.out _ _ ?hs20182 (fun hHeld20182 => ?_)
            case hs20182 => exact trivial
            clear hHeld
            have hHeld := hHeld20182; clear hHeld20182 hK20182 K20182
            have hb := below_new Y54 (.cells #[.int .i64 i1, .int .i64 i2, .int .i64 9223372036854775807] 3)
            have rg := Blk.new Y54 #[.int .i64 i1, .int .i64 i2, .int .i64 9223372036854775807] 3
            obtain ⟨g, hgq⟩ : ∃ g, g = Y54.heap.size := ⟨_, rfl⟩
            rw [← hgq] at rg
            simp only [← hgq]
            replace GD := GD.trans (hb.mono GD.size)
            replace rz := rz.below hb
            replace rb := rb.below hb
            generalize Y54.alloc (.cells #[.int .i64 i1, .int .i64 i2, .int .i64 9223372036854775807] 3) = Y60 at *
            clear hb hgq
            refine wpAnyH_weaken (S := (fun W => Blk g #[.int .i64 i1, .int .i64 i2, .int .i64 9223372036854775807] 3 W)) (fun _ _ => trivial) _ _ _ _ ?_
            clear hHeld
            have hHeld := rg
            clear rg
            refine wpAnyH_take (i := 10) (oi := ?oi20183) (v := ?v20183) ?hi20183 (by kernel_rfl) (by kernel_rfl) (by kernel_rfl) (fun _ _ _ h => h) (Or.inl ⟨?hw20183, ?hy20183⟩) (by assumption) ?rest20183
            case hi20183 => (simp only [List.getElem?_toArray, List.getElem?_cons_zero, List.getElem?_cons_succ]; rfl)
            case hw20183 => rfl
            case hy20183 => first | (intro wx hSw; go_simp; done) | (intro wx hSw; go_simp; with_reducible rfl)
            simp only [Act.put, List.setIfInBounds_toArray, List.set_cons_zero, List.set_cons_succ]
            refine wpAnyH_take (i := 11) (oi := ?oi20184) (v := ?v20184) ?hi20184 (by kernel_rfl) (by kernel_rfl) (by kernel_rfl) (fun _ _ _ h => h) (Or.inl ⟨?hw20184, ?hy20184⟩) (by assumption) ?rest20184
            case hi20184 => (simp only [List.getElem?_toArray, List.getElem?_cons_zero, List.getElem?_cons_succ]; rfl)
            case hw20184 => rfl
            case hy20184 => first | (intro wx hSw; have q_ := hSw.cell j; rw [unhide hx] at q_; go_simp; done) | (intro wx hSw; have q_ := hSw.cell j; rw [unhide hx] at q_; go_simp; with_reducible rfl)
            simp only [Act.put, List.setIfInBounds_toArray, List.set_cons_zero, List.set_cons_succ]
            refine wpAnyH_ready (rs := [13]) (by kernel_rfl) (by simp) ?_
            refine AllReadyH.cons rfl (fun K20185 hK20185 => ?_) AllReadyH.nil
            go_simp
            go_wp2_with (go_at_call 15; refine (unhide CT _).mono ?_; rintro e X2 ⟨rfl, hX2⟩; replace hX2 := hX2.symm; subst hX2)
            refine hK20185.out _ _ ?hs20185 (fun hHeld20185 => ?_)
            case hs20185 => exact hHeld
            clear hHeld
            have hHeld := hHeld20185; clear hHeld20185 hK20185 K20185
            refine wpAnyH_take (i := 14) (oi := ?oi20186) (v := ?v20186) ?hi20186 (by kernel_rfl) (by kernel_rfl) (by kernel_rfl) (fun _ _ _ h => h) (Or.inl ⟨?hw20186, ?hy20186⟩) (by assumption) ?rest20186
            case hi20186 => (simp only [List.getElem?_toArray, List.getElem?_cons_zero, List.getElem?_cons_succ]; rfl)
            case hw20186 => rfl
            case hy20186 => first | (intro wx hSw; go_simp; done) | (intro wx hSw; go_simp; with_reducible rfl)
            simp only [Act.put, List.setIfInBounds_toArray, List.set_cons_zero, List.set_cons_succ]
            have rlt := rb.lt
            have rc0 := rb.cell 0
            have rf0 := rb.froz 0
            have rc1 := rb.cell 1
            have rf1 := rb.froz 1
            have rc2 := rb.cell 2
            have rf2 := rb.froz 2
            have rc3 := rb.cell 3
            have rf3 := rb.froz 3
            have rc4 := rb.cell 4
            have rf4 := rb.froz 4
            have rc5 := rb.cell 5
            have rf5 := rb.froz 5
            simp at rc0 rc1 rc2 rc3 rc4 rc5
            have GE := Below.six GD hge (x0 := .int .i64 k) (x1 := .int .i64 x) (x2 := .int .i64 t) (x3 := .bool false) (x4 := .slice none 0 0) (x5 := .string ⟨#[]⟩)
            have RE := rb.six (x0 := .int .i64 k) (x1 := .int .i64 x) (x2 := .int .i64 t) (x3 := .bool false) (x4 := .slice none 0 0) (x5 := .string ⟨#[]⟩)
            have RZ := rz.far6 (b := b) (x0 := .int .i64 k) (x1 := .int .i64 x) (x2 := .int .i64 t) (x3 := .bool false) (x4 := .slice none 0 0) (x5 := .string ⟨#[]⟩) (by omega)
            have RG := hHeld.far6 (b := b) (x0 := .int .i64 k) (x1 := .int .i64 x) (x2 := .int .i64 t) (x3 := .bool false) (x4 := .slice none 0 0) (x5 := .string ⟨#[]⟩) (blk_ne hHeld rb six_ne_three)
            refine wpAnyH_ready (rs := [16]) (by kernel_rfl) (by simp) ?_
            refine AllReadyH.cons rfl (fun K20187 hK20187 => ?_) AllReadyH.nil
            go_simp
            refine hK20187.out _ _ ?hs20187 (fun hHeld20187 => ?_)
            case hs20187 => exact RG
            clear hHeld
            have hHeld := hHeld20187; clear hHeld20187 hK20187 K20187
            refine wpAnyH_done (by kernel_rfl) ?_ _
            refine NoPanic.normal ?_
            skip
            exact unhide REST _ b _ (by kernel_rfl) (hide GE) (hide RE) (hide RZ) hlt
          refine AllReadyH.cons rfl (fun K20188 hK20188 => ?_) AllReadyH.nil
          · go_simp
            go_wp2_with (go_at_call 15; refine (unhide CT _).mono ?_; rintro e X2 ⟨rfl, hX2⟩; replace hX2 := hX2.symm; subst hX2)
            refine hK20188.out _ _ ?hs20188 (fun hHeld20188 => ?_)
            case hs20188 => exact trivial
            clear hHeld
            have hHeld := hHeld20188; clear hHeld20188 hK20188 K20188
            refine wpAnyH_ready (rs := [6]) (by kernel_rfl) (by simp) ?_
            refine AllReadyH.cons rfl (fun K20189 hK20189 => ?_) AllReadyH.nil
            go_simp
            refine hK20189.out _ _ ?hs20189 (fun hHeld20189 => ?_)
            case hs20189 => exact trivial
            clear hHeld
            have hHeld := hHeld20189; clear hHeld20189 hK20189 K20189
            have hb := below_new Y54 (.cells #[.int .i64 i1, .int .i64 i2, .int .i64 9223372036854775807] 3)
            have rg := Blk.new Y54 #[.int .i64 i1, .int .i64 i2, .int .i64 9223372036854775807] 3
            obtain ⟨g, hgq⟩ : ∃ g, g = Y54.heap.size := ⟨_, rfl⟩
            rw [← hgq] at rg
            simp only [← hgq]
            replace GD := GD.trans (hb.mono GD.size)
            replace rz := rz.below hb
            replace rb := rb.below hb
            generalize Y54.alloc (.cells #[.int .i64 i1, .int .i64 i2, .int .i64 9223372036854775807] 3) = Y63 at *
            clear hb hgq
            refine wpAnyH_weaken (S := (fun W => Blk g #[.int .i64 i1, .int .i64 i2, .int .i64 9223372036854775807] 3 W)) (fun _ _ => trivial) _ _ _ _ ?_
            clear hHeld
            have hHeld := rg
            clear rg
            refine wpAnyH_take (i := 10) (oi := ?oi20190) (v := ?v20190) ?hi20190 (by kernel_rfl) (by kernel_rfl) (by kernel_rfl) (fun _ _ _ h => h) (Or.inl ⟨?hw20190, ?hy20190⟩) (by assumption) ?rest20190
            case hi20190 => (simp only [List.getElem?_toArray, List.getElem?_cons_zero, List.getElem?_cons_succ]; rfl)
            case hw20190 => rfl
            case hy20190 => first | (intro wx hSw; go_simp; done) | (intro wx hSw; go_simp; with_reducible rfl)
            simp only [Act.put, List.setIfInBounds_toArray, List.set_cons_zero, List.set_cons_succ]
            refine wpAnyH_take (i := 11) (oi := ?oi20191) (v := ?v20191) ?hi20191 (by kernel_rfl) (by kernel_rfl) (by kernel_rfl) (fun _ _ _ h => h) (Or.inl ⟨?hw20191, ?hy20191⟩) (by assumption) ?rest20191
            case hi20191 => (simp only [List.getElem?_toArray, List.getElem?_cons_zero, List.getElem?_cons_succ]; rfl)
            case hw20191 => rfl
            case hy20191 => first | (intro wx hSw; have q_ := hSw.cell j; rw [unhide hx] at q_; go_simp; done) | (intro wx hSw; have q_ := hSw.cell j; rw [unhide hx] at q_; go_simp; with_reducible rfl)
            simp only [Act.put, List.setIfInBounds_toArray, List.set_cons_zero, List.set_cons_succ]
            refine wpAnyH_take (i := 14) (oi := ?oi20192) (v := ?v20192) ?hi20192 (by kernel_rfl) (by kernel_rfl) (by kernel_rfl) (fun _ _ _ h => h) (Or.inl ⟨?hw20192, ?hy20192⟩) (by assumption) ?rest20192
            case hi20192 => (simp only [List.getElem?_toArray, List.getElem?_cons_zero, List.getElem?_cons_succ]; rfl)
            case hw20192 => rfl
            case hy20192 => first | (intro wx hSw; go_simp; done) | (intro wx hSw; go_simp; with_reducible rfl)
            simp only [Act.put, List.setIfInBounds_toArray, List.set_cons_zero, List.set_cons_succ]
            have rlt := rb.lt
            have rc0 := rb.cell 0
            have rf0 := rb.froz 0
            have rc1 := rb.cell 1
            have rf1 := rb.froz 1
            have rc2 := rb.cell 2
            have rf2 := rb.froz 2
            have rc3 := rb.cell 3
            have rf3 := rb.froz 3
            have rc4 := rb.cell 4
            have rf4 := rb.froz 4
            have rc5 := rb.cell 5
            have rf5 := rb.froz 5
            simp at rc0 rc1 rc2 rc3 rc4 rc5
            have GE := Below.six GD hge (x0 := .int .i64 k) (x1 := .int .i64 x) (x2 := .int .i64 t) (x3 := .bool false) (x4 := .slice none 0 0) (x5 := .string ⟨#[]⟩)
            have RE := rb.six (x0 := .int .i64 k) (x1 := .int .i64 x) (x2 := .int .i64 t) (x3 := .bool false) (x4 := .slice none 0 0) (x5 := .string ⟨#[]⟩)
            have RZ := rz.far6 (b := b) (x0 := .int .i64 k) (x1 := .int .i64 x) (x2 := .int .i64 t) (x3 := .bool false) (x4 := .slice none 0 0) (x5 := .string ⟨#[]⟩) (by omega)
            have RG := hHeld.far6 (b := b) (x0 := .int .i64 k) (x1 := .int .i64 x) (x2 := .int .i64 t) (x3 := .bool false) (x4 := .slice none 0 0) (x5 := .string ⟨#[]⟩) (blk_ne hHeld rb six_ne_three)
            refine wpAnyH_ready (rs := [16]) (by kernel_rfl) (by simp) ?_
            refine AllReadyH.cons rfl (fun K20193 hK20193 => ?_) AllReadyH.nil
            go_simp
            refine hK20193.out _ _ ?hs20193 (fun hHeld20193 => ?_)
            case hs20193 => exact RG
            clear hHeld
            have hHeld := hHeld20193; clear hHeld20193 hK20193 K20193
            refine wpAnyH_done (by kernel_rfl) ?_ _
            refine NoPanic.normal ?_
            skip
            exact unhide REST _ b _ (by kernel_rfl) (hide GE) (hide RE) (hide RZ) hlt
    refine AllReadyH.cons rfl (fun K20194 hK20194 => ?_) AllReadyH.nil
    · go_simp
      refine hK20194.out _ _ ?hs20194 (fun hHeld20194 => ?_)
      case hs20194 => exact trivial
      clear hHeld
      have hHeld := hHeld20194; clear hHeld20194 hK20194 K20194
      have hb := below_new X (.cells #[.int .i64 0, .int .i64 0, .int .i64 0, .bool false, .slice none 0 0, .string ⟨#[]⟩] 26)
      have rb := Blk.new X #[.int .i64 0, .int .i64 0, .int .i64 0, .bool false, .slice none 0 0, .string ⟨#[]⟩] 26
      obtain ⟨b, hbq⟩ : ∃ b, b = X.heap.size := ⟨_, rfl⟩
      rw [← hbq] at rb
      have hge : w.heap.size ≤ b := by have := GD.size; omega
      have hlt : w.heap.size < b := by have := rz.lt; omega
      simp only [← hbq]
      replace GD := GD.trans (hb.mono GD.size)
      replace rz := rz.below hb
      generalize X.alloc (.cells #[.int .i64 0, .int .i64 0, .int .i64 0, .bool false, .slice none 0 0, .string ⟨#[]⟩] 26) = Y64 at *
      clear hb hbq
      refine wpAnyH_ready (rs := [3]) (by kernel_rfl) (by simp) ?_
      refine AllReadyH.cons rfl (fun K20195 hK20195 => ?_) AllReadyH.nil
      go_simp
      go_wp2_with (go_at_call 15; refine (unhide CA _).mono ?_; rintro e X2 ⟨rfl, hX2⟩; replace hX2 := hX2.symm; subst hX2)
      refine hK20195.out _ _ ?hs20195 (fun hHeld20195 => ?_)
      case hs20195 => exact trivial
      clear hHeld
      have hHeld := hHeld20195; clear hHeld20195 hK20195 K20195
      refine wpAnyH_ready (rs := [5]) (by kernel_rfl) (by simp) ?_
      refine AllReadyH.cons rfl (fun K20196 hK20196 => ?_) AllReadyH.nil
      go_simp
      go_wp2_with (go_at_call 15; refine (unhide CB _).mono ?_; rintro e X2 ⟨rfl, hX2⟩; replace hX2 := hX2.symm; subst hX2)
      refine hK20196.out _ _ ?hs20196 (fun hHeld20196 => ?_)
      case hs20196 => exact trivial
      clear hHeld
      have hHeld := hHeld20196; clear hHeld20196 hK20196 K20196
      refine wpAnyH_ready (rs := [6, 9]) (by kernel_rfl) (by simp) ?_
      refine AllReadyH.cons rfl (fun K20197 hK20197 => ?_) ?_
      · go_simp
        refine hK20197.out _ _ ?hs20197 (fun hHeld20197 => ?_)
        case hs20197 => exact trivial
        clear hHeld
        have hHeld := hHeld20197; clear hHeld20197 hK20197 K20197
        have hb := below_new Y64 (.cells #[.int .i64 i1, .int .i64 i2, .int .i64 9223372036854775807] 3)
        have rg := Blk.new Y64 #[.int .i64 i1, .int .i64 i2, .int .i64 9223372036854775807] 3
        obtain ⟨g, hgq⟩ : ∃ g, g = Y64.heap.size := ⟨_, rfl⟩
        rw [← hgq] at rg
        simp only [← hgq]
        replace GD := GD.trans (hb.mono GD.size)
        replace rz := rz.below hb
        replace rb := rb.below hb
        generalize Y64.alloc (.cells #[.int .i64 i1, .int .i64 i2, .int .i64 9223372036854775807] 3) = Y67 at *
        clear hb hgq
        refine wpAnyH_weaken (S := (fun W => Blk g #[.int .i64 i1, .int .i64 i2, .int .i64 9223372036854775807] 3 W)) (fun _ _ => trivial) _ _ _ _ ?_
        clear hHeld
        have hHeld := rg
        clear rg
        refine wpAnyH_ready (rs := [9]) (by kernel_rfl) (by simp) ?_
        refine AllReadyH.cons rfl (fun K20198 hK20198 => ?_) AllReadyH.nil
        go_simp
        go_wp2_with (go_at_call 15; refine (unhide CC _).mono ?_; rintro e X2 ⟨rfl, hX2⟩; replace hX2 := hX2.symm; subst hX2)
        refine hK20198.out _ _ ?hs20198 (fun hHeld20198 => ?_)
        case hs20198 => exact hHeld
        clear hHeld
        have hHeld := hHeld20198; clear hHeld20198 hK20198 K20198
        refine wpAnyH_take (i := 10) (oi := ?oi20199) (v := ?v20199) ?hi20199 (by kernel_rfl) (by kernel_rfl) (by kernel_rfl) (fun _ _ _ h => h) (Or.inl ⟨?hw20199, ?hy20199⟩) (by assumption) ?rest20199
        case hi20199 => (simp only [List.getElem?_toArray, List.getElem?_cons_zero, List.getElem?_cons_succ]; rfl)
        case hw20199 => rfl
        case hy20199 => first | (intro wx hSw; go_simp; done) | (intro wx hSw; go_simp; with_reducible rfl)
        simp only [Act.put, List.setIfInBounds_toArray, List.set_cons_zero, List.set_cons_succ]
        refine wpAnyH_take (i := 11) (oi := ?oi20200) (v := ?v20200) ?hi20200 (by kernel_rfl) (by kernel_rfl) (by kernel_rfl) (fun _ _ _ h => h) (Or.inl ⟨?hw20200, ?hy20200⟩) (by assumption) ?rest20200
        case hi20200 => (simp only [List.getElem?_toArray, List.getElem?_cons_zero, List.getElem?_cons_succ]; rfl)
        case hw20200 => rfl
        case hy20200 => first | (intro wx hSw; have q_ := hSw.cell j; rw [unhide hx] at q_; go_simp; done) | (intro wx hSw; have q_ := hSw.cell j; rw [unhide hx] at q_; go_simp; with_reducible rfl)
        simp only [Act.put, List.setIfInBounds_toArray, List.set_cons_zero, List.set_cons_succ]
        refine wpAnyH_ready (rs := [13]) (by kernel_rfl) (by simp) ?_
        refine AllReadyH.cons rfl (fun K20201 hK20201 => ?_) AllReadyH.nil
        go_simp
        go_wp2_with (go_at_call 15; refine (unhide CT _).mono ?_; rintro e X2 ⟨rfl, hX2⟩; replace hX2 := hX2.symm; subst hX2)
        refine hK20201.out _ _ ?hs20201 (fun hHeld20201 => ?_)
        case hs20201 => exact hHeld
        clear hHeld
        have hHeld := hHeld20201; clear hHeld20201 hK20201 K20201
        refine wpAnyH_take (i := 14) (oi := ?oi20202) (v := ?v20202) ?hi20202 (by kernel_rfl) (by kernel_rfl) (by kernel_rfl) (fun _ _ _ h => h) (Or.inl ⟨?hw20202, ?hy20202⟩) (by assumption) ?rest20202
        case hi20202 => (simp only [List.getElem?_toArray, List.getElem?_cons_zero, List.getElem?_cons_succ]; rfl)
        case hw20202 => rfl
        case hy20202 => first | (intro wx hSw; go_simp; done) | (intro wx hSw; go_simp; with_reducible rfl)
        simp only [Act.put, List.setIfInBounds_toArray, List.set_cons_zero, List.set_cons_succ]
        have rlt := rb.lt
        have rc0 := rb.cell 0
        have rf0 := rb.froz 0
        have rc1 := rb.cell 1
        have rf1 := rb.froz 1
        have rc2 := rb.cell 2
        have rf2 := rb.froz 2
        have rc3 := rb.cell 3
        have rf3 := rb.froz 3
        have rc4 := rb.cell 4
        have rf4 := rb.froz 4
        have rc5 := rb.cell 5
        have rf5 := rb.froz 5
        simp at rc0 rc1 rc2 rc3 rc4 rc5
        have GE := Below.six GD hge (x0 := .int .i64 k) (x1 := .int .i64 x) (x2 := .int .i64 t) (x3 := .bool false) (x4 := .slice none 0 0) (x5 := .string ⟨#[]⟩)
        have RE := rb.six (x0 := .int .i64 k) (x1 := .int .i64 x) (x2 := .int .i64 t) (x3 := .bool false) (x4 := .slice none 0 0) (x5 := .string ⟨#[]⟩)
        have RZ := rz.far6 (b := b) (x0 := .int .i64 k) (x1 := .int .i64 x) (x2 := .int .i64 t) (x3 := .bool false) (x4 := .slice none 0 0) (x5 := .string ⟨#[]⟩) (by omega)
        have RG := hHeld.far6 (b := b) (x0 := .int .i64 k) (x1 := .int .i64 x) (x2 := .int .i64 t) (x3 := .bool false) (x4 := .slice none 0 0) (x5 := .string ⟨#[]⟩) (blk_ne hHeld rb six_ne_three)
        refine wpAnyH_ready (rs := [16]) (by kernel_rfl) (by simp) ?_
        refine AllReadyH.cons rfl (fun K20203 hK20203 => ?_) AllReadyH.nil
        go_simp
        refine hK20203.out _ _ ?hs20203 (fun hHeld20203 => ?_)
        case hs20203 => exact RG
        clear hHeld
        have hHeld := hHeld20203; clear hHeld20203 hK20203 K20203
        refine wpAnyH_done (by kernel_rfl) ?_ _
        refine NoPanic.normal ?_
        skip
        exact unhide REST _ b _ (by kernel_rfl) (hide GE) (hide RE) (hide RZ) hlt
      refine AllReadyH.cons rfl (fun K20204 hK20204 => ?_) AllReadyH.nil
      · go_simp
        go_wp2_with (go_at_call 15; refine (unhide CC _).mono ?_; rintro e X2 ⟨rfl, hX2⟩; replace hX2 := hX2.symm; subst hX2)
        refine hK20204.out _ _ ?hs20204 (fun hHeld20204 => ?_)
        case hs20204 => exact trivial
        clear hHeld
        have hHeld := hHeld20204; clear hHeld20204 hK20204 K20204
        refine wpAnyH_ready (rs := [6, 13]) (by kernel_rfl) (by simp) ?_
        refine AllReadyH.cons rfl (fun K20205 hK20205 => ?_) ?_
        · go_simp
          refine hK20205.out _ _ ?hs20205 (fun hHeld20205 => ?_)
          case hs20205 => exact trivial
          clear hHeld
          have hHeld := hHeld20205; clear hHeld20205 hK20205 K20205
          have hb := below_new Y64 (.cells #[.int .i64 i1, .int .i64 i2, .int .i64 9223372036854775807] 3)
          have rg := Blk.new Y64 #[.int .i64 i1, .int .i64 i2, .int .i64 9223372036854775807] 3
          obtain ⟨g, hgq⟩ : ∃ g, g = Y64.heap.size := ⟨_, rfl⟩
          rw [← hgq] at rg
          simp only [← hgq]
          replace GD := GD.trans (hb.mono GD.size)
          replace rz := rz.below hb
          replace rb := rb.below hb
          generalize Y64.alloc (.cells #[.int .i64 i1, .int .i64 i2, .int .i64 9223372036854775807] 3) = Y71 at *
          clear hb hgq
          refine wpAnyH_weaken (S := (fun W => Blk g #[.int .i64 i1, .int .i64 i2, .int .i64 9223372036854775807] 3 W)) (fun _ _ => trivial) _ _ _ _ ?_
          clear hHeld
          have hHeld := rg
          clear rg
          refine wpAnyH_take (i := 10) (oi := ?oi20206) (v := ?v20206) ?hi20206 (by kernel_rfl) (by kernel_rfl) (by kernel_rfl) (fun _ _ _ h => h) (Or.inl ⟨?hw20206, ?hy20206⟩) (by assumption) ?rest20206
          case hi20206 => (simp only [List.getElem?_toArray, List.getElem?_cons_zero, List.getElem?_cons_succ]; rfl)
          case hw20206 => rfl
          case hy20206 => first | (intro wx hSw; go_simp; done) | (intro wx hSw; go_simp; with_reducible rfl)
          simp only [Act.put, List.setIfInBounds_toArray, List.set_cons_zero, List.set_cons_succ]
          refine wpAnyH_take (i := 11) (oi := ?oi20207) (v := ?v20207) ?hi20207 (by kernel_rfl) (by kernel_rfl) (by kernel_rfl) (fun _ _ _ h => h) (Or.inl ⟨?hw20207, ?hy20207⟩) (by assumption) ?rest20207
          case hi20207 => (simp only [List.getElem?_toArray, List.getElem?_cons_zero, List.getElem?_cons_succ]; rfl)
          case hw20207 => rfl
          case hy20207 => first | (intro wx hSw; have q_ := hSw.cell j; rw [unhide hx] at q_; go_simp; done) | (intro wx hSw; have q_ := hSw.cell j; rw [unhide hx] at q_; go_simp; with_reducible rfl)
          simp only [Act.put, List.setIfInBounds_toArray, List.set_cons_zero, List.set_cons_succ]
          refine wpAnyH_ready (rs := [13]) (by kernel_rfl) (by simp) ?_
          refine AllReadyH.cons rfl (fun K20208 hK20208 => ?_) AllReadyH.nil
          go_simp
          go_wp2_with (go_at_call 15; refine (unhide CT _).mono ?_; rintro e X2 ⟨rfl, hX2⟩; replace hX2 := hX2.symm; subst hX2)
          refine hK20208.out _ _ ?hs20208 (fun hHeld20208 => ?_)
          case hs20208 => exact hHeld
          clear hHeld
          have hHeld := hHeld20208; clear hHeld20208 hK20208 K20208
          refine wpAnyH_take (i := 14) (oi := ?oi20209) (v := ?v20209) ?hi20209 (by kernel_rfl) (by kernel_rfl) (by kernel_rfl) (fun _ _ _ h => h) (Or.inl ⟨?hw20209, ?hy20209⟩) (by assumption) ?rest20209
          case hi20209 => (simp only [List.getElem?_toArray, List.getElem?_cons_zero, List.getElem?_cons_succ]; rfl)
          case hw20209 => rfl
          case hy20209 => first | (intro wx hSw; go_simp; done) | (intro wx hSw; go_simp; with_reducible rfl)
          simp only [Act.put, List.setIfInBounds_toArray, List.set_cons_zero, List.set_cons_succ]
          have rlt := rb.lt
          have rc0 := rb.cell 0
          have rf0 := rb.froz 0
          have rc1 := rb.cell 1
          have rf1 := rb.froz 1
          have rc2 := rb.cell 2
          have rf2 := rb.froz 2
          have rc3 := rb.cell 3
          have rf3 := rb.froz 3
          have rc4 := rb.cell 4
          have rf4 := rb.froz 4
          have rc5 := rb.cell 5
          have rf5 := rb.froz 5
          simp at rc0 rc1 rc2 rc3 rc4 rc5
          have GE := Below.six GD hge (x0 := .int .i64 k) (x1 := .int .i64 x) (x2 := .int .i64 t) (x3 := .bool false) (x4 := .slice none 0 0) (x5 := .string ⟨#[]⟩)
          have RE := rb.six (x0 := .int .i64 k) (x1 := .int .i64 x) (x2 := .int .i64 t) (x3 := .bool false) (x4 := .slice none 0 0) (x5 := .string ⟨#[]⟩)
          have RZ := rz.far6 (b := b) (x0 := .int .i64 k) (x1 := .int .i64 x) (x2 := .int .i64 t) (x3 := .bool false) (x4 := .slice none 0 0) (x5 := .string ⟨#[]⟩) (by omega)
          have RG := hHeld.far6 (b := b) (x0 := .int .i64 k) (x1 := .int .i64 x) (x2 := .int .i64 t) (x3 := .bool false) (x4 := .slice none 0 0) (x5 := .string ⟨#[]⟩) (blk_ne hHeld rb six_ne_three)
          refine wpAnyH_ready (rs := [16]) (by kernel_rfl) (by simp) ?_
          refine AllReadyH.cons rfl (fun K20210 hK20210 => ?_) AllReadyH.nil
          go_simp
          refine hK20210.out _ _ ?hs20210 (fun hHeld20210 => ?_)
          case hs20210 => exact RG
          clear hHeld
          have hHeld := hHeld20210; clear hHeld20210 hK20210 K20210
          refine wpAnyH_done (by kernel_rfl) ?_ _
          refine NoPanic.normal ?_
          skip
          exact unhide REST _ b _ (by kernel_rfl) (hide GE) (hide RE) (hide RZ) hlt
        refine AllReadyH.cons rfl (fun K20211 hK20211 => ?_) AllReadyH.nil
        · go_simp
          go_wp2_with (go_at_call 15; refine (unhide CT _).mono ?_; rintro e X2 ⟨rfl, hX2⟩; replace hX2 := hX2.symm; subst hX2)
          refine hK20211.out _ _ ?hs20211 (fun hHeld20211 => ?_)
          case hs20211 => exact trivial
          clear hHeld
          have hHeld := hHeld20211; clear hHeld20211 hK20211 K20211
          refine wpAnyH_ready (rs := [6]) (by kernel_rfl) (by simp) ?_
          refine AllReadyH.cons rfl (fun K20212 hK20212 => ?_) AllReadyH.nil
          go_simp
          refine hK20212.out _ _ ?hs20212 (fun hHeld20212 => ?_)
          case hs20212 => exact trivial
          clear hHeld
          have hHeld := hHeld20212; clear hHeld20212 hK20212 K20212
          have hb := below_new Y64 (.cells #[.int .i64 i1, .int .i64 i2, .int .i64 9223372036854775807] 3)
          have rg := Blk.new Y64 #[.int .i64 i1, .int .i64 i2, .int .i64 9223372036854775807] 3
          obtain ⟨g, hgq⟩ : ∃ g, g = Y64.heap.size := ⟨_, rfl⟩
          rw [← hgq] at rg
          simp only [← hgq]
          replace GD := GD.trans (hb.mono GD.size)
          replace rz := rz.below hb
          replace rb := rb.below hb
          generalize Y64.alloc (.cells #[.int .i64 i1, .int .i64 i2, .int .i64 9223372036854775807] 3) = Y74 at *
          clear hb hgq
          refine wpAnyH_weaken (S := (fun W => Blk g #[.int .i64 i1, .int .i64 i2, .int .i64 9223372036854775807] 3 W)) (fun _ _ => trivial) _ _ _ _ ?_
          clear hHeld
          have hHeld := rg
          clear rg
          refine wpAnyH_take (i := 10) (oi := ?oi20213) (v := ?v20213) ?hi20213 (by kernel_rfl) (by kernel_rfl) (by kernel_rfl) (fun _ _ _ h => h) (Or.inl ⟨?hw20213, ?hy20213⟩) (by assumption) ?rest20213
          case hi20213 => (simp only [List.getElem?_toArray, List.getElem?_cons_zero, List.getElem?_cons_succ]; rfl)
          case hw20213 => rfl
          case hy20213 => first | (intro wx hSw; go_simp; done) | (intro wx hSw; go_simp; with_reducible rfl)
          simp only [Act.put, List.setIfInBounds_toArray, List.set_cons_zero, List.set_cons_succ]
          refine wpAnyH_take (i := 11) (oi := ?oi20214) (v := ?v20214) ?hi20214 (by kernel_rfl) (by kernel_rfl) (by kernel_rfl) (fun _ _ _ h => h) (Or.inl ⟨?hw20214, ?hy20214⟩) (by assumption) ?rest20214
          case hi20214 => (simp only [List.getElem?_toArray, List.getElem?_cons_zero, List.getElem?_cons_succ]; rfl)
          case hw20214 => rfl
          case hy20214 => first | (intro wx hSw; have q_ := hSw.cell j; rw [unhide hx] at q_; go_simp; done) | (intro wx hSw; have q_ := hSw.cell j; rw [unhide hx] at q_; go_simp; with_reducible rfl)
          simp only [Act.put, List.setIfInBounds_toArray, List.set_cons_zero, List.set_cons_succ]
          refine wpAnyH_take (i := 14) (oi := ?oi20215) (v := ?v20215) ?hi20215 (by kernel_rfl) (by kernel_rfl) (by kernel_rfl) (fun _ _ _ h => h) (Or.inl ⟨?hw20215, ?hy20215⟩) (by assumption) ?rest20215
          case hi20215 => (simp only [List.getElem?_toArray, List.getElem?_cons_zero, List.getElem?_cons_succ]; rfl)
          case hw20215 => rfl
          case hy20215 => first | (intro wx hSw; go_simp; done) | (intro wx hSw; go_simp; with_reducible rfl)
          simp only [Act.put, List.setIfInBounds_toArray, List.set_cons_zero, List.set_cons_succ]
          have rlt := rb.lt
          have rc0 := rb.cell 0
          have rf0 := rb.froz 0
          have rc1 := rb.cell 1
          have rf1 := rb.froz 1
          have rc2 := rb.cell 2
          have rf2 := rb.froz 2
          have rc3 := rb.cell 3
          have rf3 := rb.froz 3
          have rc4 := rb.cell 4
          have rf4 := rb.froz 4
          have rc5 := rb.cell 5
          have rf5 := rb.froz 5
          simp at rc0 rc1 rc2 rc3 rc4 rc5
          have GE := Below.six GD hge (x0 := .int .i64 k) (x1 := .int .i64 x) (x2 := .int .i64 t) (x3 := .bool false) (x4 := .slice none 0 0) (x5 := .string ⟨#[]⟩)
          have RE := rb.six (x0 := .int .i64 k) (x1 := .int .i64 x) (x2 := .int .i64 t) (x3 := .bool false) (x4 := .slice none 0 0) (x5 := .string ⟨#[]⟩)
          have RZ := rz.far6 (b := b) (x0 := .int .i64 k) (x1 := .int .i64 x) (x2 := .int .i64 t) (x3 := .bool false) (x4 := .slice none 0 0) (x5 := .string ⟨#[]⟩) (by omega)
          have RG := hHeld.far6 (b := b) (x0 := .int .i64 k) (x1 := .int .i64 x) (x2 := .int .i64 t) (x3 := .bool false) (x4 := .slice none 0 0) (x5 := .string ⟨#[]⟩) (blk_ne hHeld rb six_ne_three)
          refine wpAnyH_ready (rs := [16]) (by kernel_rfl) (by simp) ?_
          refine AllReadyH.cons rfl (fun K20216 hK20216 => ?_) AllReadyH.nil
          go_simp
          refine hK20216.out _ _ ?hs20216 (fun hHeld20216 => ?_)
          case hs20216 => exact RG
          clear hHeld
          have hHeld := hHeld20216; clear hHeld20216 hK20216 K20216
          refine wpAnyH_done (by kernel_rfl) ?_ _
          refine NoPanic.normal ?_
          skip
          exact unhide REST _ b _ (by kernel_rfl) (hide GE) (hide RE) (hide RZ) hlt
  refine AllReadyH.cons rfl (fun K20217 hK20217 => ?_) AllReadyH.nil
  · go_simp
    refine hK20217.out _ _ ?hs20217 (fun hHeld20217 => ?_)
    case hs20217 => exact trivial
    clear hHeld
    have hHeld := hHeld20217; clear hHeld20217 hK20217 K20217
    have hb := below_new X (.cells #[.int .i64 0, .int .i64 0, .int .i64 0, .bool false, .slice none 0 0, .string ⟨#[]⟩] 26)
    have rb := Blk.new X #[.int .i64 0, .int .i64 0, .int .i64 0, .bool false, .slice none 0 0, .string ⟨#[]⟩] 26
    obtain ⟨b, hbq⟩ : ∃ b, b = X.heap.size := ⟨_, rfl⟩
    rw [← hbq] at rb
    have hge : w.heap.size ≤ b := by have := GD.size; omega
    have hlt : w.heap.size < b := by have := rz.lt; omega
    simp only [← hbq]
    replace GD := GD.trans (hb.mono GD.size)
    replace rz := rz.below hb
    generalize X.alloc (.cells #[.int .i64 0, .int .i64 0, .int .i64 0, .bool false, .slice none 0 0, .string ⟨#[]⟩] 26) = Y75 at *
    clear hb hbq
    refine wpAnyH_ready (rs := [1]) (by kernel_rfl) (by simp) ?_
    refine AllReadyH.cons rfl (fun K20218 hK20218 => ?_) AllReadyH.nil
    go_simp
    go_wp2_with (go_at_call 15; refine (unhide CK _).mono ?_; rintro e X2 ⟨rfl, hX2⟩; replace hX2 := hX2.symm; subst hX2)
    refine hK20218.out _ _ ?hs20218 (fun hHeld20218 => ?_)
    case hs20218 => exact trivial
    clear hHeld
    have hHeld := hHeld20218; clear hHeld20218 hK20218 K20218
    refine wpAnyH_ready (rs := [3]) (by kernel_rfl) (by simp) ?_
    refine AllReadyH.cons rfl (fun K20219 hK20219 => ?_) AllReadyH.nil
    go_simp
    go_wp2_with (go_at_call 15; refine (unhide CA _).mono ?_; rintro e X2 ⟨rfl, hX2⟩; replace hX2 := hX2.symm; subst hX2)
    refine hK20219.out _ _ ?hs20219 (fun hHeld20219 => ?_)
    case hs20219 => exact trivial
    clear hHeld
    have hHeld := hHeld20219; clear hHeld20219 hK20219 K20219
    refine wpAnyH_ready (rs := [5]) (by kernel_rfl) (by simp) ?_
    refine AllReadyH.cons rfl (fun K20220 hK20220 => ?_) AllReadyH.nil
    go_simp
    go_wp2_with (go_at_call 15; refine (unhide CB _).mono ?_; rintro e X2 ⟨rfl, hX2⟩; replace hX2 := hX2.symm; subst hX2)
    refine hK20220.out _ _ ?hs20220 (fun hHeld20220 => ?_)
    case hs20220 => exact trivial
    clear hHeld
    have hHeld := hHeld20220; clear hHeld20220 hK20220 K20220
    refine wpAnyH_ready (rs := [6, 9]) (by kernel_rfl) (by simp) ?_
    refine AllReadyH.cons rfl (fun K20221 hK20221 => ?_) ?_
    · go_simp
      refine hK20221.out _ _ ?hs20221 (fun hHeld20221 => ?_)
      case hs20221 => exact trivial
      clear hHeld
      have hHeld := hHeld20221; clear hHeld20221 hK20221 K20221
      have hb := below_new Y75 (.cells #[.int .i64 i1, .int .i64 i2, .int .i64 9223372036854775807] 3)
      have rg := Blk.new Y75 #[.int .i64 i1, .int .i64 i2, .int .i64 9223372036854775807] 3
      obtain ⟨g, hgq⟩ : ∃ g, g = Y75.heap.size := ⟨_, rfl⟩
      rw [← hgq] at rg
      simp only [← hgq]
      replace GD := GD.trans (hb.mono GD.size)
      replace rz := rz.below hb
      replace rb := rb.below hb
      generalize Y75.alloc (.cells #[.int .i64 i1, .int .i64 i2, .int .i64 9223372036854775807] 3) = Y79 at *
      clear hb hgq
      refine wpAnyH_weaken (S := (fun W => Blk g #[.int .i64 i1, .int .i64 i2, .int .i64 9223372036854775807] 3 W)) (fun _ _ => trivial) _ _ _ _ ?_
      clear hHeld
      have hHeld := rg
      clear rg
      refine wpAnyH_ready (rs := [9]) (by kernel_rfl) (by simp) ?_
      refine AllReadyH.cons rfl (fun K20222 hK20222 => ?_) AllReadyH.nil
      go_simp
      go_wp2_with (go_at_call 15; refine (unhide CC _).mono ?_; rintro e X2 ⟨rfl, hX2⟩; replace hX2 := hX2.symm; subst hX2)
      refine hK20222.out _ _ ?hs20222 (fun hHeld20222 => ?_)
      case hs20222 => exact hHeld
      clear hHeld
      have hHeld := hHeld20222; clear hHeld20222 hK20222 K20222
      refine wpAnyH_take (i := 10) (oi := ?oi20223) (v := ?v20223) ?hi20223 (by kernel_rfl) (by kernel_rfl) (by kernel_rfl) (fun _ _ _ h => h) (Or.inl ⟨?hw20223, ?hy20223⟩) (by assumption) ?rest20223
      case hi20223 => (simp only [List.getElem?_toArray, List.getElem?_cons_zero, List.getElem?_cons_succ]; rfl)
      case hw20223 => rfl
      case hy20223 => first | (intro wx hSw; go_simp; done) | (intro wx hSw; go_simp; with_reducible rfl)
      simp only [Act.put, List.setIfInBounds_toArray, List.set_cons_zero, List.set_cons_succ]
      refine wpAnyH_take (i := 11) (oi := ?oi20224) (v := ?v20224) ?hi20224 (by kernel_rfl) (by kernel_rfl) (by kernel_rfl) (fun _ _ _ h => h) (Or.inl ⟨?hw20224, ?hy20224⟩) (by assumption) ?rest20224
      case hi20224 => (simp only [List.getElem?_toArray, List.getElem?_cons_zero, List.getElem?_cons_succ]; rfl)
      case hw20224 => rfl
      case hy20224 => first | (intro wx hSw; have q_ := hSw.cell j; rw [unhide hx] at q_; go_simp; done) | (intro wx hSw; have q_ := hSw.cell j; rw [unhide hx] at q_; go_simp; with_reducible rfl)
      simp only [Act.put, List.setIfInBounds_toArray, List.set_cons_zero, List.set_cons_succ]
      refine wpAnyH_ready (rs := [13]) (by kernel_rfl) (by simp) ?_
      refine AllReadyH.cons rfl (fun K20225 hK20225 => ?_) AllReadyH.nil
      go_simp
      go_wp2_with (go_at_call 15; refine (unhide CT _).mono ?_; rintro e X2 ⟨rfl, hX2⟩; replace hX2 := hX2.symm; subst hX2)
      refine hK20225.out _ _ ?hs20225 (fun hHeld20225 => ?_)
      case hs20225 => exact hHeld
      clear hHeld
      have hHeld := hHeld20225; clear hHeld20225 hK20225 K20225
      refine wpAnyH_take (i := 14) (oi := ?oi20226) (v := ?v20226) ?hi20226 (by kernel_rfl) (by kernel_rfl) (by kernel_rfl) (fun _ _ _ h => h) (Or.inl ⟨?hw20226, ?hy20226⟩) (by assumption) ?rest20226
      case hi20226 => (simp only [List.getElem?_toArray, List.getElem?_cons_zero, List.getElem?_cons_succ]; rfl)
      case hw20226 => rfl
      case hy20226 => first | (intro wx hSw; go_simp; done) | (intro wx hSw; go_simp; with_reducible rfl)
      simp only [Act.put, List.setIfInBounds_toArray, List.set_cons_zero, List.set_cons_succ]
      have rlt := rb.lt
      have rc0 := rb.cell 0
      have rf0 := rb.froz 0
      have rc1 := rb.cell 1
      have rf1 := rb.froz 1
      have rc2 := rb.cell 2
      have rf2 := rb.froz 2
      have rc3 := rb.cell 3
      have rf3 := rb.froz 3
      have rc4 := rb.cell 4
      have rf4 := rb.froz 4
      have rc5 := rb.cell 5
      have rf5 := rb.froz 5
      simp at rc0 rc1 rc2 rc3 rc4 rc5
      have GE := Below.six GD hge (x0 := .int .i64 k) (x1 := .int .i64 x) (x2 := .int .i64 t) (x3 := .bool false) (x4 := .slice none 0 0) (x5 := .string ⟨#[]⟩)
      have RE := rb.six (x0 := .int .i64 k) (x1 := .int .i64 x) (x2 := .int .i64 t) (x3 := .bool false) (x4 := .slice none 0 0) (x5 := .string ⟨#[]⟩)
      have RZ := rz.far6 (b := b) (x0 := .int .i64 k) (x1 := .int .i64 x) (x2 := .int .i64 t) (x3 := .bool false) (x4 := .slice none 0 0) (x5 := .string ⟨#[]⟩) (by omega)
      have RG := hHeld.far6 (b := b) (x0 := .int .i64 k) (x1 := .int .i64 x) (x2 := .int .i64 t) (x3 := .bool false) (x4 := .slice none 0 0) (x5 := .string ⟨#[]⟩) (blk_ne hHeld rb six_ne_three)
      refine wpAnyH_ready (rs := [16]) (by kernel_rfl) (by simp) ?_
      refine AllReadyH.cons rfl (fun K20227 hK20227 => ?_) AllReadyH.nil
      go_simp
      refine hK20227.out _ _ ?hs20227 (fun hHeld20227 => ?_)
      case hs20227 => exact RG
      clear hHeld
      have hHeld := hHeld20227; clear hHeld20227 hK20227 K20227
      refine wpAnyH_done (by kernel_rfl) ?_ _
      refine NoPanic.normal ?_
      skip
      exact unhide REST _ b _ (by kernel_rfl) (hide GE) (hide RE) (hide RZ) hlt
    refine AllReadyH.cons rfl (fun K20228 hK20228 => ?_) AllReadyH.nil
    · go_simp
      go_wp2_with (go_at_call 15; refine (unhide CC _).mono ?_; rintro e X2 ⟨rfl, hX2⟩; replace hX2 := hX2.symm; subst hX2)
      refine hK20228.out _ _ ?hs20228 (fun hHeld20228 => ?_)
      case hs20228 => exact trivial
      clear hHeld
      have hHeld := hHeld20228; clear hHeld20228 hK20228 K20228
      refine wpAnyH_ready (rs := [6, 13]) (by kernel_rfl) (by simp) ?_
      refine AllReadyH.cons rfl (fun K20229 hK20229 => ?_) ?_
      · go_simp
        refine hK20229.out _ _ ?hs20229 (fun hHeld20229 => ?_)
        case hs20229 => exact trivial
        clear hHeld
        have hHeld := hHeld20229; clear hHeld20229 hK20229 K20229
        have hb := below_new Y75 (.cells #[.int .i64 i1, .int .i64 i2, .int .i64 9223372036854775807] 3)
        have rg := Blk.new Y75 #[.int .i64 i1, .int .i64 i2, .int .i64 9223372036854775807] 3
        obtain ⟨g, hgq⟩ : ∃ g, g = Y75.heap.size := ⟨_, rfl⟩
        rw [← hgq] at rg
        simp only [← hgq]
        replace GD := GD.trans (hb.mono GD.size)
        replace rz := rz.below hb
        replace rb := rb.below hb
        generalize Y75.alloc (.cells #[.int .i64 i1, .int .i64 i2, .int .i64 9223372036854775807] 3) = Y83 at *
        clear hb hgq
        refine wpAnyH_weaken (S := (fun W => Blk g #[.int .i64 i1, .int .i64 i2, .int .i64 9223372036854775807] 3 W)) (fun _ _ => trivial) _ _ _ _ ?_
        clear hHeld
        have hHeld := rg
        clear rg
        refine wpAnyH_take (i := 10) (oi := ?oi20230) (v := ?v20230) ?hi20230 (by kernel_rfl) (by kernel_rfl) (by kernel_rfl) (fun _ _ _ h => h) (Or.inl ⟨?hw20230, ?hy20230⟩) (by assumption) ?rest20230
        case hi20230 => (simp only [List.getElem?_toArray, List.getElem?_cons_zero, List.getElem?_cons_succ]; rfl)
        case hw20230 => rfl
        case hy20230 => first | (intro wx hSw; go_simp; done) | (intro wx hSw; go_simp; with_reducible rfl)
        simp only [Act.put, List.setIfInBounds_toArray, List.set_cons_zero, List.set_cons_succ]
        refine wpAnyH_take (i := 11) (oi := ?oi20231) (v := ?v20231) ?hi20231 (by kernel_rfl) (by kernel_rfl) (by kernel_rfl) (fun _ _ _ h => h) (Or.inl ⟨?hw20231, ?hy20231⟩) (by assumption) ?rest20231
        case hi20231 => (simp only [List.getElem?_toArray, List.getElem?_cons_zero, List.getElem?_cons_succ]; rfl)
        case hw20231 => rfl
        case hy20231 => first | (intro wx hSw; have q_ := hSw.cell j; rw [unhide hx] at q_; go_simp; done) | (intro wx hSw; have q_ := hSw.cell j; rw [unhide hx] at q_; go_simp; with_reducible rfl)
        simp only [Act.put, List.setIfInBounds_toArray, List.set_cons_zero, List.set_cons_succ]
        refine wpAnyH_ready (rs := [13]) (by kernel_rfl) (by simp) ?_
        refine AllReadyH.cons rfl (fun K20232 hK20232 => ?_) AllReadyH.nil
        go_simp
        go_wp2_with (go_at_call 15; refine (unhide CT _).mono ?_; rintro e X2 ⟨rfl, hX2⟩; replace hX2 := hX2.symm; subst hX2)
        refine hK20232.out _ _ ?hs20232 (fun hHeld20232 => ?_)
        case hs20232 => exact hHeld
        clear hHeld
        have hHeld := hHeld20232; clear hHeld20232 hK20232 K20232
        refine wpAnyH_take (i := 14) (oi := ?oi20233) (v := ?v20233) ?hi20233 (by kernel_rfl) (by kernel_rfl) (by kernel_rfl) (fun _ _ _ h => h) (Or.inl ⟨?hw20233, ?hy20233⟩) (by assumption) ?rest20233
        case hi20233 => (simp only [List.getElem?_toArray, List.getElem?_cons_zero, List.getElem?_cons_succ]; rfl)
        case hw20233 => rfl
        case hy20233 => first | (intro wx hSw; go_simp; done) | (intro wx hSw; go_simp; with_reducible rfl)
        simp only [Act.put, List.setIfInBounds_toArray, List.set_cons_zero, List.set_cons_succ]
        have rlt := rb.lt
        have rc0 := rb.cell 0
        have rf0 := rb.froz 0
        have rc1 := rb.cell 1
        have rf1 := rb.froz 1
        have rc2 := rb.cell 2
        have rf2 := rb.froz 2
        have rc3 := rb.cell 3
        have rf3 := rb.froz 3
        have rc4 := rb.cell 4
        have rf4 := rb.froz 4
        have rc5 := rb.cell 5
        have rf5 := rb.froz 5
        simp at rc0 rc1 rc2 rc3 rc4 rc5
        have GE := Below.six GD hge (x0 := .int .i64 k) (x1 := .int .i64 x) (x2 := .int .i64 t) (x3 := .bool false) (x4 := .slice none 0 0) (x5 := .string ⟨#[]⟩)
        have RE := rb.six (x0 := .int .i64 k) (x1 := .int .i64 x) (x2 := .int .i64 t) (x3 := .bool false) (x4 := .slice none 0 0) (x5 := .string ⟨#[]⟩)
        have RZ := rz.far6 (b := b) (x0 := .int .i64 k) (x1 := .int .i64 x) (x2 := .int .i64 t) (x3 := .bool false) (x4 := .slice none 0 0) (x5 := .string ⟨#[]⟩) (by omega)
        have RG := hHeld.far6 (b := b) (x0 := .int .i64 k) (x1 := .int .i64 x) (x2 := .int .i64 t) (x3 := .bool false) (x4 := .slice none 0 0) (x5 := .string ⟨#[]⟩) (blk_ne hHeld rb six_ne_three)
        refine wpAnyH_ready (rs := [16]) (by kernel_rfl) (by simp) ?_
        refine AllReadyH.cons rfl (fun K20234 hK20234 => ?_) AllReadyH.nil
        go_simp
        refine hK20234.out _ _ ?hs20234 (fun hHeld20234 => ?_)
        case hs20234 => exact RG
        clear hHeld
        have hHeld := hHeld20234; clear hHeld20234 hK20234 K20234
        refine wpAnyH_done (by kernel_rfl) ?_ _
        refine NoPanic.normal ?_
        skip
        exact unhide REST _ b _ (by kernel_rfl) (hide GE) (hide RE) (hide RZ) hlt
      refine AllReadyH.cons rfl (fun K20235 hK20235 => ?_) AllReadyH.nil
      · go_simp
        go_wp2_with (go_at_call 15; refine (unhide CT _).mono ?_; rintro e X2 ⟨rfl, hX2⟩; replace hX2 := hX2.symm; subst hX2)
        refine hK20235.out _ _ ?hs20235 (fun hHeld20235 => ?_)
        case hs20235 => exact trivial
        clear hHeld
        have hHeld := hHeld20235; clear hHeld20235 hK20235 K20235
        refine wpAnyH_ready (rs := [6]) (by kernel_rfl) (by simp) ?_
        refine AllReadyH.cons rfl (fun K20236 hK20236 => ?_) AllReadyH.nil
        go_simp
        refine hK20236.out _ _ ?hs20236 (fun hHeld20236 => ?_)
        case hs20236 => exact trivial
        clear hHeld
        have hHeld := hHeld20236; clear hHeld20236 hK20236 K20236
        have hb := below_new Y75 (.cells #[.int .i64 i1, .int .i64 i2, .int .i64 9223372036854775807] 3)
        have rg := Blk.new Y75 #[.int .i64 i1, .int .i64 i2, .int .i64 9223372036854775807] 3
        obtain ⟨g, hgq⟩ : ∃ g, g = Y75.heap.size := ⟨_, rfl⟩
        rw [← hgq] at rg
        simp only [← hgq]
        replace GD := GD.trans (hb.mono GD.size)
        replace rz := rz.below hb
        replace rb := rb.below hb
        generalize Y75.alloc (.cells #[.int .i64 i1, .int .i64 i2, .int .i64 9223372036854775807] 3) = Y86 at *
        clear hb hgq
        refine wpAnyH_weaken (S := (fun W => Blk g #[.int .i64 i1, .int .i64 i2, .int .i64 9223372036854775807] 3 W)) (fun _ _ => trivial) _ _ _ _ ?_
        clear hHeld
        have hHeld := rg
        clear rg
        refine wpAnyH_take (i := 10) (oi := ?oi20237) (v := ?v20237) ?hi20237 (by kernel_rfl) (by kernel_rfl) (by kernel_rfl) (fun _ _ _ h => h) (Or.inl ⟨?hw20237, ?hy20237⟩) (by assumption) ?rest20237
        case hi20237 => (simp only [List.getElem?_toArray, List.getElem?_cons_zero, List.getElem?_cons_succ]; rfl)
        case hw20237 => rfl
        case hy20237 => first | (intro wx hSw; go_simp; done) | (intro wx hSw; go_simp; with_reducible rfl)
        simp only [Act.put, List.setIfInBounds_toArray, List.set_cons_zero, List.set_cons_succ]
        refine wpAnyH_take (i := 11) (oi := ?oi20238) (v := ?v20238) ?hi20238 (by kernel_rfl) (by kernel_rfl) (by kernel_rfl) (fun _ _ _ h => h) (Or.inl ⟨?hw20238, ?hy20238⟩) (by assumption) ?rest20238
        case hi20238 => (simp only [List.getElem?_toArray, List.getElem?_cons_zero, List.getElem?_cons_succ]; rfl)
        case hw20238 => rfl
        case hy20238 => first | (intro wx hSw; have q_ := hSw.cell j; rw [unhide hx] at q_; go_simp; done) | (intro wx hSw; have q_ := hSw.cell j; rw [unhide hx] at q_; go_simp; with_reducible rfl)
        simp only [Act.put, List.setIfInBounds_toArray, List.set_cons_zero, List.set_cons_succ]
        refine wpAnyH_take (i := 14) (oi := ?oi20239) (v := ?v20239) ?hi20239 (by kernel_rfl) (by kernel_rfl) (by kernel_rfl) (fun _ _ _ h => h) (Or.inl ⟨?hw20239, ?hy20239⟩) (by assumption) ?rest20239
        case hi20239 => (simp only [List.getElem?_toArray, List.getElem?_cons_zero, List.getElem?_cons_succ]; rfl)
        case hw20239 => rfl
        case hy20239 => first | (intro wx hSw; go_simp; done) | (intro wx hSw; go_simp; with_reducible rfl)
        simp only [Act.put, List.setIfInBounds_toArray, List.set_cons_zero, List.set_cons_succ]
        have rlt := rb.lt
        have rc0 := rb.cell 0
        have rf0 := rb.froz 0
        have rc1 := rb.cell 1
        have rf1 := rb.froz 1
        have rc2 := rb.cell 2
        have rf2 := rb.froz 2
        have rc3 := rb.cell 3
        have rf3 := rb.froz 3
        have rc4 := rb.cell 4
        have rf4 := rb.froz 4
        have rc5 := rb.cell 5
        have rf5 := rb.froz 5
        simp at rc0 rc1 rc2 rc3 rc4 rc5
        have GE := Below.six GD hge (x0 := .int .i64 k) (x1 := .int .i64 x) (x2 := .int .i64 t) (x3 := .bool false) (x4 := .slice none 0 0) (x5 := .string ⟨#[]⟩)
        have RE := rb.six (x0 := .int .i64 k) (x1 := .int .i64 x) (x2 := .int .i64 t) (x3 := .bool false) (x4 := .slice none 0 0) (x5 := .string ⟨#[]⟩)
        have RZ := rz.far6 (b := b) (x0 := .int .i64 k) (x1 := .int .i64 x) (x2 := .int .i64 t) (x3 := .bool false) (x4 := .slice none 0 0) (x5 := .string ⟨#[]⟩) (by omega)
        have RG := hHeld.far6 (b := b) (x0 := .int .i64 k) (x1 := .int .i64 x) (x2 := .int .i64 t) (x3 := .bool false) (x4 := .slice none 0 0) (x5 := .string ⟨#[]⟩) (blk_ne hHeld rb six_ne_three)
        refine wpAnyH_ready (rs := [16]) (by kernel_rfl) (by simp) ?_
        refine AllReadyH.cons rfl (fun K20240 hK20240 => ?_) AllReadyH.nil
        go_simp
        refine hK20240.out _ _ ?hs20240 (fun hHeld20240 => ?_)
        case hs20240 => exact RG
        clear hHeld
        have hHeld := hHeld20240; clear hHeld20240 hK20240 K20240
        refine wpAnyH_done (by kernel_rfl) ?_ _
        refine NoPanic.normal ?_
        skip
        exact unhide REST _ b _ (by kernel_rfl) (hide GE) (hide RE) (hide RZ) hlt
/-- what Make returns: the command mkC -/
theorem make7_any (kind id txn : Int) (v : Value) (zs : List Int) (s : ByteArray) (w : World) (hk : Is64 kind) (hi : Is64 id) (ht : Is64 txn) (hz : Ints v zs w) (hs : s.size ≤ 200) :
    Calls Try.prog 14 #[.int .i64 kind, .int .i64 id, .int .i64 txn, v, .string s] w fun e w' => ∃ q cap, e = .returned (.agg (cmA (mkC kind id txn zs s) (.slice q (mkC kind id txn zs s).ws.length cap))) ∧
      w'.ownsRow (w.heap.size + 1) 40 3 (.slice q (mkC kind id txn zs s).ws.length cap) (mkC kind id txn zs s).ws.length (wcells (mkC kind id txn zs s).ws) ∧ Below w.heap.size w w' := by
  obtain ⟨p, ncap, rfl, hz2⟩ := hz.parts
  have hq : Is64 (kind.tdiv 6) := by
    unfold Is64 at hk ⊢
    have h1 := Int.mul_tdiv_add_tmod kind 6
    have h2 : (kind.tmod 6).natAbs < 6 := by rw [Int.natAbs_tmod]; exact Nat.mod_lt _ (by decide)
    omega
  have hm0 := Int.emod_nonneg (kind.tdiv 6) (show (3 : Int) ≠ 0 by decide)
  have hm3 := Int.emod_lt_of_pos (kind.tdiv 6) (show (0 : Int) < 3 by decide)
  obtain ⟨j, hj⟩ : ∃ j : Nat, kind.tdiv 6 % 3 = (j : Int) := ⟨(kind.tdiv 6 % 3).toNat, by omega⟩
  have hj3 : j < 3 := by omega
  have hx : (#[.int .i64 (id % 200), .int .i64 (id % 1099511627776), .int .i64 9223372036854775807] : Array Value)[j]? = some (.int .i64 (mkI kind id)) := by
    unfold mkI
    rw [hj]
    have : j = 0 ∨ j = 1 ∨ j = 2 := by omega
    rcases this with rfl | rfl | rfl <;> rfl
  have h := make7_core kind id txn (kind % 6) (id % 200) (id % 1099511627776) (txn % 1073741824) (txn % 2) (mkI kind id) j p ncap zs s w
    (hide (fun W => within7_at hk (by decide) rfl W)) (hide (fun W => within7_at hi (by decide) rfl W)) (hide (fun W => within7_at hi (by decide) rfl W)) (hide (fun W => within7_at hq (by decide) hj W)) (hide (fun W => within7_at ht (by decide) rfl W)) (hide (fun W => within7_at ht (by decide) rfl W)) (hide hx) hj3 (IntWalk.i64_in _ (by unfold Is64 at hq; omega)) (hide hz2) hs ⟨Int.emod_nonneg _ (by decide), by have := Int.emod_lt_of_pos kind (show (0 : Int) < 6 by decide); omega⟩
  exact h
end Go.Proofs.Ytjmmfgmmmdbenaa
