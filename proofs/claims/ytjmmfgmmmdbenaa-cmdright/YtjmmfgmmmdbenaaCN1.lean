/-
  The reference's Writes, Same: whether two commands are the same.
-/
import Derived.Test.YtjmmfgmmmdbenaaCI
import Derived.Test.YtjmmfgmmmdbenaaCN0
namespace Go.Proofs.Ytjmmfgmmmdbenaa
open Go.RowKit
set_option linter.unusedSimpArgs false
set_option linter.unusedVariables false

theorem ba_beq {x y : ByteArray} (h : ¬ x = y) : (x.toList == y.toList) = false := by
  rw [beq_eq_false_iff_ne]
  intro e
  apply h
  apply by8_inj
  rw [ByteArray.toList_eq, ByteArray.toList_eq] at e
  exact e
theorem ba_ne_list {x y : ByteArray} (h : ¬ x = y) : ¬ x.toList = y.toList := by
  intro e
  apply h
  apply by8_inj
  rw [ByteArray.toList_eq, ByteArray.toList_eq] at e
  exact e
set_option maxRecDepth 100000 in
set_option maxHeartbeats 4000000 in
theorem writes_any (p q : Option Addr) (xs ys : List Wt) (m n : Nat) (w : World) (hx : WsV p xs w) (hy : WsV q ys w) (hlx : xs.length ≤ 1000000) (hly : ys.length ≤ 1000000) :
    Calls Try.prog 32 #[.slice p xs.length m, .slice q ys.length n] w fun e w' => (∃ b : Bool, e = .returned (.bool b) ∧ (b = true ↔ xs = ys)) ∧ Below w.heap.size w w' := by
  by_cases hl : xs.length = ys.length
  case neg =>
    go_enter Try.func32, Try.ntmps32
    go_wp2
    go_ret
    exact ⟨⟨false, rfl, Iff.intro (fun h => absurd h (by decide)) (fun h => absurd (congrArg List.length h) hl)⟩, Below.refl _ _⟩
  case pos =>
    have HX := hide hx
    have HY := hide hy
    have HL := hide hl
    have hlI : (xs.length : Int) = ys.length := by omega
    clear hx hy hl
    go_enter Try.func32, Try.ntmps32
    go_wp2
    go_loopw [5] (fun i wr => ∃ k : Nat, k ≤ xs.length ∧ i = .int .i64 (k : Int) ∧ Hid (∀ j (h : j < xs.length) (h2 : j < ys.length), j < k → xs[j] = ys[j]) ∧ Below w.heap.size w wr)
      (fun i wr => xs.length - (intOf i).toNat)
    case atStart => exact ⟨0, Nat.zero_le _, rfl, (fun j h h2 h3 => by omega), Below.refl _ _⟩
    case round =>
      obtain ⟨k, hk, rfl, HK, hB⟩ := hrel
      by_cases hlt : k < xs.length
      · have hlt2 : k < ys.length := by omega
        obtain ⟨g, o2, hp, hat⟩ := unhide HX
        obtain ⟨g', o2', hp', hat'⟩ := unhide HY
        obtain rfl := hp (by omega)
        obtain rfl := hp' (by omega)
        have hA := Lay.below (hat k hlt) hB
        have hA' := Lay.below (hat' k hlt2) hB
        clear hp hp' hat hat'
        have hwk : IntKind.i64.wrap ((k : Int) * 3) = (k : Int) * 3 := IntWalk.i64_in _ (by omega)
        have HK1 := hide (show xs[k] = ys[k] → ∀ j (h : j < xs.length) (h2 : j < ys.length), j < k + 1 → xs[j] = ys[j] from fun e j h h2 h3 => by
          by_cases hj : j < k
          · exact unhide HK j h h2 hj
          · obtain rfl : j = k := by omega
            exact e)
        have HN := hide (show xs[k] ≠ ys[k] → xs ≠ ys from fun h e => h (by subst e; rfl))
        generalize xs[k] = a at *
        generalize ys[k] = b at *
        clear HK
        obtain ⟨a1, a2, a3⟩ := a
        obtain ⟨b1, b2, b3⟩ := b
        have hD : (a1 = b1 ∧ a2 = b2 ∧ a3 = b3) ∨ a1 ≠ b1 ∨ (a1 = b1 ∧ a2 ≠ b2) ∨ (a1 = b1 ∧ a2 = b2 ∧ a3 ≠ b3) := by
          by_cases h1 : a1 = b1
          · by_cases h2 : a2 = b2
            · by_cases h3 : a3 = b3
              · exact .inl ⟨h1, h2, h3⟩
              · exact .inr (.inr (.inr ⟨h1, h2, h3⟩))
            · exact .inr (.inr (.inl ⟨h1, h2⟩))
          · exact .inr (.inl h1)
        rcases hD with ⟨rfl, rfl, rfl⟩ | hne | ⟨rfl, hne⟩ | ⟨rfl, rfl, hne⟩
        · go_wp2
          rename_i hrest
          refine wp_region_noPanic ?_
          refine wp_region_held_drew (S := (fun X => layW.R ⟨a1, a2, a3⟩ g (o2 + k * 3) g X ∧ layW.R ⟨a1, a2, a3⟩ g' (o2' + k * 3) g' X)) (by kernel_rfl) (⟨Lay.below hA (Below.refl _ _).drew, Lay.below hA' (Below.refl _ _).drew⟩) (fun hHeld => ?_)
          have hBd := hB.trans ((Below.refl wr.heap.size wr).drew.mono hB.size)
          clear hA hA'
          generalize wr.drew = Wd at *
          refine wpAnyH_take (i := 0) (oi := ?oi20001) (v := ?v20001) ?hi20001 (by kernel_rfl) (by kernel_rfl) (by kernel_rfl) (fun _ _ _ h => h) (Or.inl ⟨?hw20001, ?hy20001⟩) (by assumption) ?rest20001
          case hi20001 => (simp only [List.getElem?_toArray, List.getElem?_cons_zero]; rfl)
          case hw20001 => rfl
          case hy20001 => first | (intro wx hSw; go_simp; done) | (intro wx hSw; go_simp; with_reducible rfl)
          simp only [Act.put, List.setIfInBounds_toArray, List.set_cons_zero, List.set_cons_succ]
          refine wpAnyH_take (i := 1) (oi := ?oi20002) (v := ?v20002) ?hi20002 (by kernel_rfl) (by kernel_rfl) (by kernel_rfl) (fun _ _ _ h => h) (Or.inl ⟨?hw20002, ?hy20002⟩) (by assumption) ?rest20002
          case hi20002 => (simp only [List.getElem?_toArray, List.getElem?_cons_zero, List.getElem?_cons_succ]; rfl)
          case hw20002 => rfl
          case hy20002 => first | (intro wx hSw; go_simp; done) | (intro wx hSw; go_simp; with_reducible rfl)
          simp only [Act.put, List.setIfInBounds_toArray, List.set_cons_zero, List.set_cons_succ]
          refine wpAnyH_take (i := 2) (oi := ?oi20003) (v := ?v20003) ?hi20003 (by kernel_rfl) (by kernel_rfl) (by kernel_rfl) (fun _ _ _ h => h) (Or.inl ⟨?hw20003, ?hy20003⟩) (by assumption) ?rest20003
          case hi20003 => (simp only [List.getElem?_toArray, List.getElem?_cons_zero, List.getElem?_cons_succ]; rfl)
          case hw20003 => rfl
          case hy20003 => first | (intro wx hSw; go_simp; done) | (intro wx hSw; go_simp; with_reducible rfl)
          simp only [Act.put, List.setIfInBounds_toArray, List.set_cons_zero, List.set_cons_succ]
          refine wpAnyH_take (i := 3) (oi := ?oi20004) (v := ?v20004) ?hi20004 (by kernel_rfl) (by kernel_rfl) (by kernel_rfl) (fun _ _ _ h => h) (Or.inl ⟨?hw20004, ?hy20004⟩) (by assumption) ?rest20004
          case hi20004 => (simp only [List.getElem?_toArray, List.getElem?_cons_zero, List.getElem?_cons_succ]; rfl)
          case hw20004 => rfl
          case hy20004 => first | (intro wx hSw; obtain ⟨⟨⟨c0, c1, c2⟩, _⟩, ⟨⟨d0, d1, d2⟩, _⟩⟩ := hSw; go_simp; done) | (intro wx hSw; obtain ⟨⟨⟨c0, c1, c2⟩, _⟩, ⟨⟨d0, d1, d2⟩, _⟩⟩ := hSw; go_simp; with_reducible rfl)
          simp only [Act.put, List.setIfInBounds_toArray, List.set_cons_zero, List.set_cons_succ]
          refine wpAnyH_take (i := 4) (oi := ?oi20005) (v := ?v20005) ?hi20005 (by kernel_rfl) (by kernel_rfl) (by kernel_rfl) (fun _ _ _ h => h) (Or.inl ⟨?hw20005, ?hy20005⟩) (by assumption) ?rest20005
          case hi20005 => (simp only [List.getElem?_toArray, List.getElem?_cons_zero, List.getElem?_cons_succ]; rfl)
          case hw20005 => rfl
          case hy20005 => first | (intro wx hSw; go_simp; done) | (intro wx hSw; go_simp; with_reducible rfl)
          simp only [Act.put, List.setIfInBounds_toArray, List.set_cons_zero, List.set_cons_succ]
          refine wpAnyH_take (i := 5) (oi := ?oi20006) (v := ?v20006) ?hi20006 (by kernel_rfl) (by kernel_rfl) (by kernel_rfl) (fun _ _ _ h => h) (Or.inl ⟨?hw20006, ?hy20006⟩) (by assumption) ?rest20006
          case hi20006 => (simp only [List.getElem?_toArray, List.getElem?_cons_zero, List.getElem?_cons_succ]; rfl)
          case hw20006 => rfl
          case hy20006 => first | (intro wx hSw; go_simp; done) | (intro wx hSw; go_simp; with_reducible rfl)
          simp only [Act.put, List.setIfInBounds_toArray, List.set_cons_zero, List.set_cons_succ]
          refine wpAnyH_take (i := 6) (oi := ?oi20007) (v := ?v20007) ?hi20007 (by kernel_rfl) (by kernel_rfl) (by kernel_rfl) (fun _ _ _ h => h) (Or.inl ⟨?hw20007, ?hy20007⟩) (by assumption) ?rest20007
          case hi20007 => (simp only [List.getElem?_toArray, List.getElem?_cons_zero, List.getElem?_cons_succ]; rfl)
          case hw20007 => rfl
          case hy20007 => first | (intro wx hSw; go_simp; done) | (intro wx hSw; go_simp; with_reducible rfl)
          simp only [Act.put, List.setIfInBounds_toArray, List.set_cons_zero, List.set_cons_succ]
          refine wpAnyH_take (i := 7) (oi := ?oi20008) (v := ?v20008) ?hi20008 (by kernel_rfl) (by kernel_rfl) (by kernel_rfl) (fun _ _ _ h => h) (Or.inl ⟨?hw20008, ?hy20008⟩) (by assumption) ?rest20008
          case hi20008 => (simp only [List.getElem?_toArray, List.getElem?_cons_zero, List.getElem?_cons_succ]; rfl)
          case hw20008 => rfl
          case hy20008 => first | (intro wx hSw; obtain ⟨⟨⟨c0, c1, c2⟩, _⟩, ⟨⟨d0, d1, d2⟩, _⟩⟩ := hSw; go_simp; done) | (intro wx hSw; obtain ⟨⟨⟨c0, c1, c2⟩, _⟩, ⟨⟨d0, d1, d2⟩, _⟩⟩ := hSw; go_simp; with_reducible rfl)
          simp only [Act.put, List.setIfInBounds_toArray, List.set_cons_zero, List.set_cons_succ]
          refine wpAnyH_take (i := 8) (oi := ?oi20009) (v := ?v20009) ?hi20009 (by kernel_rfl) (by kernel_rfl) (by kernel_rfl) (fun _ _ _ h => h) (Or.inl ⟨?hw20009, ?hy20009⟩) (by assumption) ?rest20009
          case hi20009 => (simp only [List.getElem?_toArray, List.getElem?_cons_zero, List.getElem?_cons_succ]; rfl)
          case hw20009 => rfl
          case hy20009 => first | (intro wx hSw; go_simp; done) | (intro wx hSw; go_simp; with_reducible rfl)
          simp only [Act.put, List.setIfInBounds_toArray, List.set_cons_zero, List.set_cons_succ]
          refine wpAnyH_done (by kernel_rfl) ?_ _
          refine NoPanic.normal ?_
          refine hrest _ _ ?_
          clear hHeld
          go_wp2
          go_roundw
          case rel => exact ⟨k + 1, by omega, by go_num, hide (unhide HK1 (by first | trivial | rfl)), hBd⟩
          case measure => simp [intOf] <;> omega
        · have hnl := ba_ne_list hne
          have HNE := hide (unhide HN (by intro h; injection h with h1 h2 h3; first | exact hne h1 | exact hne h2 | exact hne h3))
          go_wp2
          rename_i hrest
          refine wp_region_noPanic ?_
          refine wp_region_held_drew (S := (fun X => layW.R ⟨a1, a2, a3⟩ g (o2 + k * 3) g X ∧ layW.R ⟨b1, b2, b3⟩ g' (o2' + k * 3) g' X)) (by kernel_rfl) (⟨Lay.below hA (Below.refl _ _).drew, Lay.below hA' (Below.refl _ _).drew⟩) (fun hHeld => ?_)
          have hBd := hB.trans ((Below.refl wr.heap.size wr).drew.mono hB.size)
          clear hA hA'
          generalize wr.drew = Wd at *
          refine wpAnyH_take (i := 0) (oi := ?oi20010) (v := ?v20010) ?hi20010 (by kernel_rfl) (by kernel_rfl) (by kernel_rfl) (fun _ _ _ h => h) (Or.inl ⟨?hw20010, ?hy20010⟩) (by assumption) ?rest20010
          case hi20010 => (simp only [List.getElem?_toArray, List.getElem?_cons_zero]; rfl)
          case hw20010 => rfl
          case hy20010 => first | (intro wx hSw; go_simp; done) | (intro wx hSw; go_simp; with_reducible rfl)
          simp only [Act.put, List.setIfInBounds_toArray, List.set_cons_zero, List.set_cons_succ]
          refine wpAnyH_take (i := 1) (oi := ?oi20011) (v := ?v20011) ?hi20011 (by kernel_rfl) (by kernel_rfl) (by kernel_rfl) (fun _ _ _ h => h) (Or.inl ⟨?hw20011, ?hy20011⟩) (by assumption) ?rest20011
          case hi20011 => (simp only [List.getElem?_toArray, List.getElem?_cons_zero, List.getElem?_cons_succ]; rfl)
          case hw20011 => rfl
          case hy20011 => first | (intro wx hSw; go_simp; done) | (intro wx hSw; go_simp; with_reducible rfl)
          simp only [Act.put, List.setIfInBounds_toArray, List.set_cons_zero, List.set_cons_succ]
          refine wpAnyH_take (i := 2) (oi := ?oi20012) (v := ?v20012) ?hi20012 (by kernel_rfl) (by kernel_rfl) (by kernel_rfl) (fun _ _ _ h => h) (Or.inl ⟨?hw20012, ?hy20012⟩) (by assumption) ?rest20012
          case hi20012 => (simp only [List.getElem?_toArray, List.getElem?_cons_zero, List.getElem?_cons_succ]; rfl)
          case hw20012 => rfl
          case hy20012 => first | (intro wx hSw; go_simp; done) | (intro wx hSw; go_simp; with_reducible rfl)
          simp only [Act.put, List.setIfInBounds_toArray, List.set_cons_zero, List.set_cons_succ]
          refine wpAnyH_take (i := 3) (oi := ?oi20013) (v := ?v20013) ?hi20013 (by kernel_rfl) (by kernel_rfl) (by kernel_rfl) (fun _ _ _ h => h) (Or.inl ⟨?hw20013, ?hy20013⟩) (by assumption) ?rest20013
          case hi20013 => (simp only [List.getElem?_toArray, List.getElem?_cons_zero, List.getElem?_cons_succ]; rfl)
          case hw20013 => rfl
          case hy20013 => first | (intro wx hSw; obtain ⟨⟨⟨c0, c1, c2⟩, _⟩, ⟨⟨d0, d1, d2⟩, _⟩⟩ := hSw; go_simp; done) | (intro wx hSw; obtain ⟨⟨⟨c0, c1, c2⟩, _⟩, ⟨⟨d0, d1, d2⟩, _⟩⟩ := hSw; go_simp; with_reducible rfl)
          simp only [Act.put, List.setIfInBounds_toArray, List.set_cons_zero, List.set_cons_succ]
          refine wpAnyH_take (i := 4) (oi := ?oi20014) (v := ?v20014) ?hi20014 (by kernel_rfl) (by kernel_rfl) (by kernel_rfl) (fun _ _ _ h => h) (Or.inl ⟨?hw20014, ?hy20014⟩) (by assumption) ?rest20014
          case hi20014 => (simp only [List.getElem?_toArray, List.getElem?_cons_zero, List.getElem?_cons_succ]; rfl)
          case hw20014 => rfl
          case hy20014 => first | (intro wx hSw; go_simp; done) | (intro wx hSw; go_simp; with_reducible rfl)
          simp only [Act.put, List.setIfInBounds_toArray, List.set_cons_zero, List.set_cons_succ]
          refine wpAnyH_take (i := 5) (oi := ?oi20015) (v := ?v20015) ?hi20015 (by kernel_rfl) (by kernel_rfl) (by kernel_rfl) (fun _ _ _ h => h) (Or.inl ⟨?hw20015, ?hy20015⟩) (by assumption) ?rest20015
          case hi20015 => (simp only [List.getElem?_toArray, List.getElem?_cons_zero, List.getElem?_cons_succ]; rfl)
          case hw20015 => rfl
          case hy20015 => first | (intro wx hSw; go_simp; done) | (intro wx hSw; go_simp; with_reducible rfl)
          simp only [Act.put, List.setIfInBounds_toArray, List.set_cons_zero, List.set_cons_succ]
          refine wpAnyH_take (i := 6) (oi := ?oi20016) (v := ?v20016) ?hi20016 (by kernel_rfl) (by kernel_rfl) (by kernel_rfl) (fun _ _ _ h => h) (Or.inl ⟨?hw20016, ?hy20016⟩) (by assumption) ?rest20016
          case hi20016 => (simp only [List.getElem?_toArray, List.getElem?_cons_zero, List.getElem?_cons_succ]; rfl)
          case hw20016 => rfl
          case hy20016 => first | (intro wx hSw; go_simp; done) | (intro wx hSw; go_simp; with_reducible rfl)
          simp only [Act.put, List.setIfInBounds_toArray, List.set_cons_zero, List.set_cons_succ]
          refine wpAnyH_take (i := 7) (oi := ?oi20017) (v := ?v20017) ?hi20017 (by kernel_rfl) (by kernel_rfl) (by kernel_rfl) (fun _ _ _ h => h) (Or.inl ⟨?hw20017, ?hy20017⟩) (by assumption) ?rest20017
          case hi20017 => (simp only [List.getElem?_toArray, List.getElem?_cons_zero, List.getElem?_cons_succ]; rfl)
          case hw20017 => rfl
          case hy20017 => first | (intro wx hSw; obtain ⟨⟨⟨c0, c1, c2⟩, _⟩, ⟨⟨d0, d1, d2⟩, _⟩⟩ := hSw; go_simp; done) | (intro wx hSw; obtain ⟨⟨⟨c0, c1, c2⟩, _⟩, ⟨⟨d0, d1, d2⟩, _⟩⟩ := hSw; go_simp; with_reducible rfl)
          simp only [Act.put, List.setIfInBounds_toArray, List.set_cons_zero, List.set_cons_succ]
          refine wpAnyH_take (i := 8) (oi := ?oi20018) (v := ?v20018) ?hi20018 (by kernel_rfl) (by kernel_rfl) (by kernel_rfl) (fun _ _ _ h => h) (Or.inl ⟨?hw20018, ?hy20018⟩) (by assumption) ?rest20018
          case hi20018 => (simp only [List.getElem?_toArray, List.getElem?_cons_zero, List.getElem?_cons_succ]; rfl)
          case hw20018 => rfl
          case hy20018 => first | (intro wx hSw; go_simp; done) | (intro wx hSw; go_simp; with_reducible rfl)
          simp only [Act.put, List.setIfInBounds_toArray, List.set_cons_zero, List.set_cons_succ]
          refine wpAnyH_done (by kernel_rfl) ?_ _
          refine NoPanic.normal ?_
          refine hrest _ _ ?_
          clear hHeld
          go_wp2
          go_ret
          exact ⟨⟨false, rfl, Iff.intro (fun h => absurd h (by decide)) (fun h => absurd h (unhide HNE))⟩, hBd⟩
        · have hnl := ba_ne_list hne
          have HNE := hide (unhide HN (by intro h; injection h with h1 h2 h3; first | exact hne h1 | exact hne h2 | exact hne h3))
          go_wp2
          rename_i hrest
          refine wp_region_noPanic ?_
          refine wp_region_held_drew (S := (fun X => layW.R ⟨a1, a2, a3⟩ g (o2 + k * 3) g X ∧ layW.R ⟨a1, b2, b3⟩ g' (o2' + k * 3) g' X)) (by kernel_rfl) (⟨Lay.below hA (Below.refl _ _).drew, Lay.below hA' (Below.refl _ _).drew⟩) (fun hHeld => ?_)
          have hBd := hB.trans ((Below.refl wr.heap.size wr).drew.mono hB.size)
          clear hA hA'
          generalize wr.drew = Wd at *
          refine wpAnyH_take (i := 0) (oi := ?oi20019) (v := ?v20019) ?hi20019 (by kernel_rfl) (by kernel_rfl) (by kernel_rfl) (fun _ _ _ h => h) (Or.inl ⟨?hw20019, ?hy20019⟩) (by assumption) ?rest20019
          case hi20019 => (simp only [List.getElem?_toArray, List.getElem?_cons_zero]; rfl)
          case hw20019 => rfl
          case hy20019 => first | (intro wx hSw; go_simp; done) | (intro wx hSw; go_simp; with_reducible rfl)
          simp only [Act.put, List.setIfInBounds_toArray, List.set_cons_zero, List.set_cons_succ]
          refine wpAnyH_take (i := 1) (oi := ?oi20020) (v := ?v20020) ?hi20020 (by kernel_rfl) (by kernel_rfl) (by kernel_rfl) (fun _ _ _ h => h) (Or.inl ⟨?hw20020, ?hy20020⟩) (by assumption) ?rest20020
          case hi20020 => (simp only [List.getElem?_toArray, List.getElem?_cons_zero, List.getElem?_cons_succ]; rfl)
          case hw20020 => rfl
          case hy20020 => first | (intro wx hSw; go_simp; done) | (intro wx hSw; go_simp; with_reducible rfl)
          simp only [Act.put, List.setIfInBounds_toArray, List.set_cons_zero, List.set_cons_succ]
          refine wpAnyH_take (i := 2) (oi := ?oi20021) (v := ?v20021) ?hi20021 (by kernel_rfl) (by kernel_rfl) (by kernel_rfl) (fun _ _ _ h => h) (Or.inl ⟨?hw20021, ?hy20021⟩) (by assumption) ?rest20021
          case hi20021 => (simp only [List.getElem?_toArray, List.getElem?_cons_zero, List.getElem?_cons_succ]; rfl)
          case hw20021 => rfl
          case hy20021 => first | (intro wx hSw; go_simp; done) | (intro wx hSw; go_simp; with_reducible rfl)
          simp only [Act.put, List.setIfInBounds_toArray, List.set_cons_zero, List.set_cons_succ]
          refine wpAnyH_take (i := 3) (oi := ?oi20022) (v := ?v20022) ?hi20022 (by kernel_rfl) (by kernel_rfl) (by kernel_rfl) (fun _ _ _ h => h) (Or.inl ⟨?hw20022, ?hy20022⟩) (by assumption) ?rest20022
          case hi20022 => (simp only [List.getElem?_toArray, List.getElem?_cons_zero, List.getElem?_cons_succ]; rfl)
          case hw20022 => rfl
          case hy20022 => first | (intro wx hSw; obtain ⟨⟨⟨c0, c1, c2⟩, _⟩, ⟨⟨d0, d1, d2⟩, _⟩⟩ := hSw; go_simp; done) | (intro wx hSw; obtain ⟨⟨⟨c0, c1, c2⟩, _⟩, ⟨⟨d0, d1, d2⟩, _⟩⟩ := hSw; go_simp; with_reducible rfl)
          simp only [Act.put, List.setIfInBounds_toArray, List.set_cons_zero, List.set_cons_succ]
          refine wpAnyH_take (i := 4) (oi := ?oi20023) (v := ?v20023) ?hi20023 (by kernel_rfl) (by kernel_rfl) (by kernel_rfl) (fun _ _ _ h => h) (Or.inl ⟨?hw20023, ?hy20023⟩) (by assumption) ?rest20023
          case hi20023 => (simp only [List.getElem?_toArray, List.getElem?_cons_zero, List.getElem?_cons_succ]; rfl)
          case hw20023 => rfl
          case hy20023 => first | (intro wx hSw; go_simp; done) | (intro wx hSw; go_simp; with_reducible rfl)
          simp only [Act.put, List.setIfInBounds_toArray, List.set_cons_zero, List.set_cons_succ]
          refine wpAnyH_take (i := 5) (oi := ?oi20024) (v := ?v20024) ?hi20024 (by kernel_rfl) (by kernel_rfl) (by kernel_rfl) (fun _ _ _ h => h) (Or.inl ⟨?hw20024, ?hy20024⟩) (by assumption) ?rest20024
          case hi20024 => (simp only [List.getElem?_toArray, List.getElem?_cons_zero, List.getElem?_cons_succ]; rfl)
          case hw20024 => rfl
          case hy20024 => first | (intro wx hSw; go_simp; done) | (intro wx hSw; go_simp; with_reducible rfl)
          simp only [Act.put, List.setIfInBounds_toArray, List.set_cons_zero, List.set_cons_succ]
          refine wpAnyH_take (i := 6) (oi := ?oi20025) (v := ?v20025) ?hi20025 (by kernel_rfl) (by kernel_rfl) (by kernel_rfl) (fun _ _ _ h => h) (Or.inl ⟨?hw20025, ?hy20025⟩) (by assumption) ?rest20025
          case hi20025 => (simp only [List.getElem?_toArray, List.getElem?_cons_zero, List.getElem?_cons_succ]; rfl)
          case hw20025 => rfl
          case hy20025 => first | (intro wx hSw; go_simp; done) | (intro wx hSw; go_simp; with_reducible rfl)
          simp only [Act.put, List.setIfInBounds_toArray, List.set_cons_zero, List.set_cons_succ]
          refine wpAnyH_take (i := 7) (oi := ?oi20026) (v := ?v20026) ?hi20026 (by kernel_rfl) (by kernel_rfl) (by kernel_rfl) (fun _ _ _ h => h) (Or.inl ⟨?hw20026, ?hy20026⟩) (by assumption) ?rest20026
          case hi20026 => (simp only [List.getElem?_toArray, List.getElem?_cons_zero, List.getElem?_cons_succ]; rfl)
          case hw20026 => rfl
          case hy20026 => first | (intro wx hSw; obtain ⟨⟨⟨c0, c1, c2⟩, _⟩, ⟨⟨d0, d1, d2⟩, _⟩⟩ := hSw; go_simp; done) | (intro wx hSw; obtain ⟨⟨⟨c0, c1, c2⟩, _⟩, ⟨⟨d0, d1, d2⟩, _⟩⟩ := hSw; go_simp; with_reducible rfl)
          simp only [Act.put, List.setIfInBounds_toArray, List.set_cons_zero, List.set_cons_succ]
          refine wpAnyH_take (i := 8) (oi := ?oi20027) (v := ?v20027) ?hi20027 (by kernel_rfl) (by kernel_rfl) (by kernel_rfl) (fun _ _ _ h => h) (Or.inl ⟨?hw20027, ?hy20027⟩) (by assumption) ?rest20027
          case hi20027 => (simp only [List.getElem?_toArray, List.getElem?_cons_zero, List.getElem?_cons_succ]; rfl)
          case hw20027 => rfl
          case hy20027 => first | (intro wx hSw; go_simp; done) | (intro wx hSw; go_simp; with_reducible rfl)
          simp only [Act.put, List.setIfInBounds_toArray, List.set_cons_zero, List.set_cons_succ]
          refine wpAnyH_done (by kernel_rfl) ?_ _
          refine NoPanic.normal ?_
          refine hrest _ _ ?_
          clear hHeld
          go_wp2
          go_ret
          exact ⟨⟨false, rfl, Iff.intro (fun h => absurd h (by decide)) (fun h => absurd h (unhide HNE))⟩, hBd⟩
        · have HNE := hide (unhide HN (by intro h; injection h with h1 h2 h3; first | exact hne h1 | exact hne h2 | exact hne h3))
          go_wp2
          rename_i hrest
          refine wp_region_noPanic ?_
          refine wp_region_held_drew (S := (fun X => layW.R ⟨a1, a2, a3⟩ g (o2 + k * 3) g X ∧ layW.R ⟨a1, a2, b3⟩ g' (o2' + k * 3) g' X)) (by kernel_rfl) (⟨Lay.below hA (Below.refl _ _).drew, Lay.below hA' (Below.refl _ _).drew⟩) (fun hHeld => ?_)
          have hBd := hB.trans ((Below.refl wr.heap.size wr).drew.mono hB.size)
          clear hA hA'
          generalize wr.drew = Wd at *
          refine wpAnyH_take (i := 0) (oi := ?oi20028) (v := ?v20028) ?hi20028 (by kernel_rfl) (by kernel_rfl) (by kernel_rfl) (fun _ _ _ h => h) (Or.inl ⟨?hw20028, ?hy20028⟩) (by assumption) ?rest20028
          case hi20028 => (simp only [List.getElem?_toArray, List.getElem?_cons_zero]; rfl)
          case hw20028 => rfl
          case hy20028 => first | (intro wx hSw; go_simp; done) | (intro wx hSw; go_simp; with_reducible rfl)
          simp only [Act.put, List.setIfInBounds_toArray, List.set_cons_zero, List.set_cons_succ]
          refine wpAnyH_take (i := 1) (oi := ?oi20029) (v := ?v20029) ?hi20029 (by kernel_rfl) (by kernel_rfl) (by kernel_rfl) (fun _ _ _ h => h) (Or.inl ⟨?hw20029, ?hy20029⟩) (by assumption) ?rest20029
          case hi20029 => (simp only [List.getElem?_toArray, List.getElem?_cons_zero, List.getElem?_cons_succ]; rfl)
          case hw20029 => rfl
          case hy20029 => first | (intro wx hSw; go_simp; done) | (intro wx hSw; go_simp; with_reducible rfl)
          simp only [Act.put, List.setIfInBounds_toArray, List.set_cons_zero, List.set_cons_succ]
          refine wpAnyH_take (i := 2) (oi := ?oi20030) (v := ?v20030) ?hi20030 (by kernel_rfl) (by kernel_rfl) (by kernel_rfl) (fun _ _ _ h => h) (Or.inl ⟨?hw20030, ?hy20030⟩) (by assumption) ?rest20030
          case hi20030 => (simp only [List.getElem?_toArray, List.getElem?_cons_zero, List.getElem?_cons_succ]; rfl)
          case hw20030 => rfl
          case hy20030 => first | (intro wx hSw; go_simp; done) | (intro wx hSw; go_simp; with_reducible rfl)
          simp only [Act.put, List.setIfInBounds_toArray, List.set_cons_zero, List.set_cons_succ]
          refine wpAnyH_take (i := 3) (oi := ?oi20031) (v := ?v20031) ?hi20031 (by kernel_rfl) (by kernel_rfl) (by kernel_rfl) (fun _ _ _ h => h) (Or.inl ⟨?hw20031, ?hy20031⟩) (by assumption) ?rest20031
          case hi20031 => (simp only [List.getElem?_toArray, List.getElem?_cons_zero, List.getElem?_cons_succ]; rfl)
          case hw20031 => rfl
          case hy20031 => first | (intro wx hSw; obtain ⟨⟨⟨c0, c1, c2⟩, _⟩, ⟨⟨d0, d1, d2⟩, _⟩⟩ := hSw; go_simp; done) | (intro wx hSw; obtain ⟨⟨⟨c0, c1, c2⟩, _⟩, ⟨⟨d0, d1, d2⟩, _⟩⟩ := hSw; go_simp; with_reducible rfl)
          simp only [Act.put, List.setIfInBounds_toArray, List.set_cons_zero, List.set_cons_succ]
          refine wpAnyH_take (i := 4) (oi := ?oi20032) (v := ?v20032) ?hi20032 (by kernel_rfl) (by kernel_rfl) (by kernel_rfl) (fun _ _ _ h => h) (Or.inl ⟨?hw20032, ?hy20032⟩) (by assumption) ?rest20032
          case hi20032 => (simp only [List.getElem?_toArray, List.getElem?_cons_zero, List.getElem?_cons_succ]; rfl)
          case hw20032 => rfl
          case hy20032 => first | (intro wx hSw; go_simp; done) | (intro wx hSw; go_simp; with_reducible rfl)
          simp only [Act.put, List.setIfInBounds_toArray, List.set_cons_zero, List.set_cons_succ]
          refine wpAnyH_take (i := 5) (oi := ?oi20033) (v := ?v20033) ?hi20033 (by kernel_rfl) (by kernel_rfl) (by kernel_rfl) (fun _ _ _ h => h) (Or.inl ⟨?hw20033, ?hy20033⟩) (by assumption) ?rest20033
          case hi20033 => (simp only [List.getElem?_toArray, List.getElem?_cons_zero, List.getElem?_cons_succ]; rfl)
          case hw20033 => rfl
          case hy20033 => first | (intro wx hSw; go_simp; done) | (intro wx hSw; go_simp; with_reducible rfl)
          simp only [Act.put, List.setIfInBounds_toArray, List.set_cons_zero, List.set_cons_succ]
          refine wpAnyH_take (i := 6) (oi := ?oi20034) (v := ?v20034) ?hi20034 (by kernel_rfl) (by kernel_rfl) (by kernel_rfl) (fun _ _ _ h => h) (Or.inl ⟨?hw20034, ?hy20034⟩) (by assumption) ?rest20034
          case hi20034 => (simp only [List.getElem?_toArray, List.getElem?_cons_zero, List.getElem?_cons_succ]; rfl)
          case hw20034 => rfl
          case hy20034 => first | (intro wx hSw; go_simp; done) | (intro wx hSw; go_simp; with_reducible rfl)
          simp only [Act.put, List.setIfInBounds_toArray, List.set_cons_zero, List.set_cons_succ]
          refine wpAnyH_take (i := 7) (oi := ?oi20035) (v := ?v20035) ?hi20035 (by kernel_rfl) (by kernel_rfl) (by kernel_rfl) (fun _ _ _ h => h) (Or.inl ⟨?hw20035, ?hy20035⟩) (by assumption) ?rest20035
          case hi20035 => (simp only [List.getElem?_toArray, List.getElem?_cons_zero, List.getElem?_cons_succ]; rfl)
          case hw20035 => rfl
          case hy20035 => first | (intro wx hSw; obtain ⟨⟨⟨c0, c1, c2⟩, _⟩, ⟨⟨d0, d1, d2⟩, _⟩⟩ := hSw; go_simp; done) | (intro wx hSw; obtain ⟨⟨⟨c0, c1, c2⟩, _⟩, ⟨⟨d0, d1, d2⟩, _⟩⟩ := hSw; go_simp; with_reducible rfl)
          simp only [Act.put, List.setIfInBounds_toArray, List.set_cons_zero, List.set_cons_succ]
          refine wpAnyH_take (i := 8) (oi := ?oi20036) (v := ?v20036) ?hi20036 (by kernel_rfl) (by kernel_rfl) (by kernel_rfl) (fun _ _ _ h => h) (Or.inl ⟨?hw20036, ?hy20036⟩) (by assumption) ?rest20036
          case hi20036 => (simp only [List.getElem?_toArray, List.getElem?_cons_zero, List.getElem?_cons_succ]; rfl)
          case hw20036 => rfl
          case hy20036 => first | (intro wx hSw; go_simp; done) | (intro wx hSw; go_simp; with_reducible rfl)
          simp only [Act.put, List.setIfInBounds_toArray, List.set_cons_zero, List.set_cons_succ]
          refine wpAnyH_done (by kernel_rfl) ?_ _
          refine NoPanic.normal ?_
          refine hrest _ _ ?_
          clear hHeld
          go_wp2
          go_ret
          exact ⟨⟨false, rfl, Iff.intro (fun h => absurd h (by decide)) (fun h => absurd h (unhide HNE))⟩, hBd⟩
      · obtain rfl : k = xs.length := by omega
        go_wp2
        go_ret
        refine ⟨⟨true, rfl, Iff.intro (fun _ => ?_) (fun _ => rfl)⟩, hB⟩
        apply List.ext_getElem (unhide HL)
        intro j h1 h2
        exact unhide HK j h1 h2 h1
set_option maxRecDepth 100000 in
set_option maxHeartbeats 8000000 in
theorem same7_any (c d : Cm) (v u : Value) (w : World) (hv : CmV v c w) (hu : CmV u d w) (hlc : c.ws.length ≤ 1000000) (hld : d.ws.length ≤ 1000000) :
    Calls Try.prog 19 #[v, u] w fun e w' => (∃ b : Bool, e = .returned (.bool b) ∧ (b = true ↔ c = d)) ∧ Below w.heap.size w w' := by
  obtain ⟨p, m, rfl, hx⟩ := hv
  obtain ⟨q, n, rfl, hy⟩ := hu
  obtain ⟨k, i, t, o, xs, x⟩ := c
  obtain ⟨k2, i2, t2, o2, ys, y⟩ := d
  simp only at *
  have B1 := below_new w (.cells #[.int .i64 k, .int .i64 i, .int .i64 t, .bool o, .slice p xs.length m, .string x] 26)
  have B2 := Below.onto B1 (below_new (w.alloc (.cells #[.int .i64 k, .int .i64 i, .int .i64 t, .bool o, .slice p xs.length m, .string x] 26)) (.cells #[.int .i64 k2, .int .i64 i2, .int .i64 t2, .bool o2, .slice q ys.length n, .string y] 26))
  have C := hide (writes_any p q xs ys m n _ (hx.below B2) (hy.below B2) hlc hld)
  have HB := hide B2
  clear hx hy B1 B2
  by_cases h1 : k = k2
  case neg =>
    go_enter Try.func19, Try.ntmps19
    go_wp2
    go_ret
    exact ⟨⟨false, rfl, Iff.intro (fun h => absurd h (by decide)) (fun h => absurd (by injection h) h1)⟩, unhide HB⟩
  case pos =>
  subst h1
  by_cases h2 : i = i2
  case neg =>
    go_enter Try.func19, Try.ntmps19
    go_wp2
    go_ret
    exact ⟨⟨false, rfl, Iff.intro (fun h => absurd h (by decide)) (fun h => absurd (by injection h) h2)⟩, unhide HB⟩
  case pos =>
  subst h2
  by_cases h3 : t = t2
  case neg =>
    go_enter Try.func19, Try.ntmps19
    go_wp2
    go_ret
    exact ⟨⟨false, rfl, Iff.intro (fun h => absurd h (by decide)) (fun h => absurd (by injection h) h3)⟩, unhide HB⟩
  case pos =>
  subst h3
  by_cases h4 : o = o2
  case neg =>
    go_enter Try.func19, Try.ntmps19
    go_wp2
    go_ret
    exact ⟨⟨false, rfl, Iff.intro (fun h => absurd h (by decide)) (fun h => absurd (by injection h) h4)⟩, unhide HB⟩
  case pos =>
  subst h4
  by_cases h5 : x = y
  case neg =>
    have hnl := ba_beq h5
    have hnl2 := ba_ne_list h5
    go_enter Try.func19, Try.ntmps19
    go_wp2
    go_ret
    exact ⟨⟨false, rfl, Iff.intro (fun h => absurd h (by decide)) (fun h => absurd (by injection h) h5)⟩, unhide HB⟩
  case pos =>
  subst h5
  go_enter Try.func19, Try.ntmps19
  go_wp2_with (go_at_call 32; refine (unhide C).mono ?_; rintro e W1 ⟨⟨b, rfl, hb⟩, hb1⟩; have HBB := hide hb; clear hb)
  go_ret
  exact ⟨⟨b, rfl, (unhide HBB).trans (Iff.intro (fun h => by rw [h]) (fun h => by injection h))⟩, Below.onto (unhide HB) hb1⟩
end Go.Proofs.Ytjmmfgmmmdbenaa
