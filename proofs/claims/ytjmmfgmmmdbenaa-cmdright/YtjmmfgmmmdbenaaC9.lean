/-
  Package cmd: truths, marks, parts of a struct, taken.
-/
import Derived.Test.YtjmmfgmmmdbenaaC8
namespace Go.Proofs.Ytjmmfgmmmdbenaa
open Go.RowKit
set_option linter.unusedSimpArgs false
set_option linter.unusedVariables false

theorem by8_cons {s : ByteArray} {a : UInt8} {l : List UInt8} (h : by8 s = a :: l) : ∃ h0 : 0 < s.size, s[0] = a ∧ (by8 s).drop 1 = l := by
  have hl := congrArg List.length h
  rw [by8_len] at hl
  simp at hl
  obtain ⟨e1, e2⟩ := drop_head (s := s) (i := 0) (by omega) (a := a) (l := l) (by simpa using h)
  exact ⟨by omega, e1, e2⟩
theorem Upd.drew {b o n : Nat} {A B : World} (h : Upd b o n A B) : Upd b o n A B.drew := h.trans ⟨⟨rfl, rfl, rfl, Nat.le_refl _, fun _ _ _ => rfl⟩, fun cur T h => ⟨cur, h, rfl, fun _ _ => rfl⟩⟩
theorem empty_no {s : ByteArray} (h : s = ⟨#[]⟩) : s.size = 0 := by rw [h]; rfl
theorem ba_ne (s : ByteArray) (h : 0 < s.size) : s.toList.isEmpty = false := by
  rw [ByteArray.toList_eq, List.isEmpty_eq_false_iff]
  intro e
  have := congrArg List.length e
  rw [show s.data.toList.length = s.size from by8_len s, List.length_nil] at this
  omega
theorem ba_nil : (⟨#[]⟩ : ByteArray).toList.isEmpty = true := by decide +kernel

set_option maxRecDepth 100000 in
set_option maxHeartbeats 2000000 in
theorem flagTakes (w0 : World) : Takes (.func (.func 77) #[] #[]) w0 tB (fun x => x = false) (fun _ => True) (fun _ => True) fl (fun _ _ => True) (fun y xt => y = xt) := by
  refine ⟨_, _, rfl, (fun _ _ => by kernel_rfl), fun s W b o base x q hB h1 h2 h3 hR hx hsl hq => ?_⟩
  simp only [List.append_toArray, List.cons_append, List.nil_append]
  subst hx
  obtain ⟨⟨cur, T, hbk⟩, hc⟩ := hR
  have HQ := hide hq
  clear hq
  by_cases h0 : s.size = 0
  · have hs : s = ⟨#[]⟩ := size0 h0
    have hqn : Hid (q = none) := by
      show _ = _
      rcases hqq : q with _ | ⟨xt, r⟩
      · rfl
      · have := congrArg List.length (unhide HQ xt r hqq).2.2
        rw [by8_len, h0] at this
        simp [fl] at this
    clear h0
    subst hs
    have hnil := ba_nil
    go_enter Try.func77, Try.ntmps77
    go_wp2
    go_ret2
    exact TPost.fail false (grownBy_refl _ _) (unhide hqn)
  · have hp : 0 < s.size := by omega
    have hne := ba_ne s hp
    have hfz := hbk.froz o
    have hbit : ∀ xt r, q = some (xt, r) → ((s[0].toNat : Int) == 1) = xt ∧ (by8 s).drop 1 = r := by
      intro xt r hqq
      obtain ⟨h0, e1, e2⟩ := by8_cons (unhide HQ xt r hqq).2.2
      refine ⟨?_, e2⟩
      rw [e1]; cases xt <;> rfl
    have HBIT := hide hbit
    have HM : Hid (Mem b W) := ⟨cur, T, hbk⟩
    have hcn : ∀ v, (W.setCell ⟨b, o, none⟩ v).cell? ⟨b, o, none⟩ = some v := fun v => (hbk.set o _).cell o |>.trans (by rw [hbk.cell] at hc; have := (Array.getElem?_eq_some_iff.1 hc).1; simp [this])
    have HCN := hide hcn
    clear hbit h0 hcn
    go_enter Try.func77, Try.ntmps77
    go_wp2
    go_ret2
    refine TPost.done (x := ((s[0].toNat : Int) == 1)) trivial ⟨Upd.mem (Upd.set _) (unhide HM), unhide HCN _⟩ ?_ (fun xt r0 h => ?_) (Upd.set _)
    · show (s.extract 1 s.size).size ≤ s.size
      rw [ByteArray.size_extract]; omega
    · obtain ⟨e1, e2⟩ := unhide HBIT xt r0 h
      exact ⟨e1, (by8_drop s 1).trans e2⟩

set_option maxRecDepth 100000 in
set_option maxHeartbeats 2000000 in
theorem signTakes {α : Type} (L : LayT α) (P : α → Prop) (M : α → α → Prop) (m : UInt8) (bs : Nat) (w0 : World) (hbox : w0.cell? ⟨bs, 0, none⟩ = some (.int .u8 (m.toNat : Int))) :
    Takes (.func (.func 99) #[] #[ptr bs 0]) w0 L P P (fun _ => True) (fun _ => [m]) M M := by
  refine ⟨_, _, rfl, (fun _ _ => by kernel_rfl), fun s W b o base x q hB h1 h2 h3 hR hx hsl hq => ?_⟩
  simp only [List.append_toArray, List.cons_append, List.nil_append]
  have hbl := World.block_lt_of_cell? _ _ hbox
  have hbx : W.cell? ⟨bs, 0, none⟩ = some (.int .u8 (m.toNat : Int)) := (World.cell?_of_block (a := ⟨bs, 0, none⟩) (hB.block _ hbl)).trans hbox
  have HQ := hide hq
  have HR := hide hR
  clear hq hR
  have hblt : b < W.heap.size := by omega
  by_cases h0 : s.size = 0
  · have hs : s = ⟨#[]⟩ := size0 h0
    have hqn : Hid (q = none) := by
      show _ = _
      rcases hqq : q with _ | ⟨xt, r⟩
      · rfl
      · have := congrArg List.length (unhide HQ xt r hqq).2.2
        rw [by8_len, h0] at this
        simp at this
    clear h0
    subst hs
    have hnil := ba_nil
    go_enter Try.func99, Try.ntmps99
    go_wp2
    rename_i hrest
    refine wp_region_noPanic ?_
    refine wp_region_held_drew (S := (fun X => X.cell? ⟨bs, 0, none⟩ = some (.int .u8 (m.toNat : Int)))) (by kernel_rfl) (hbx) (fun hHeld => ?_)
    refine wpAnyH_take (i := 0) (oi := ?oi20017) (v := ?v20017) ?hi20017 (by kernel_rfl) (by kernel_rfl) (by kernel_rfl) (fun _ _ _ h => h) (Or.inl ⟨?hw20017, ?hy20017⟩) (by assumption) ?rest20017
    case hi20017 => (simp only [List.getElem?_toArray, List.getElem?_cons_zero]; rfl)
    case hw20017 => rfl
    case hy20017 => first | (intro wx hSw; go_simp; done) | (intro wx hSw; go_simp; with_reducible rfl)
    simp only [Act.put, List.setIfInBounds_toArray, List.set_cons_zero, List.set_cons_succ]
    refine wpAnyH_take (i := 1) (oi := ?oi20018) (v := ?v20018) ?hi20018 (by kernel_rfl) (by kernel_rfl) (by kernel_rfl) (fun _ _ _ h => h) (Or.inl ⟨?hw20018, ?hy20018⟩) (by assumption) ?rest20018
    case hi20018 => (simp only [List.getElem?_toArray, List.getElem?_cons_zero, List.getElem?_cons_succ]; rfl)
    case hw20018 => rfl
    case hy20018 => first | (intro wx hSw; go_simp; done) | (intro wx hSw; go_simp; with_reducible rfl)
    simp only [Act.put, List.setIfInBounds_toArray, List.set_cons_zero, List.set_cons_succ]
    refine wpAnyH_take (i := 2) (oi := ?oi20019) (v := ?v20019) ?hi20019 (by kernel_rfl) (by kernel_rfl) (by kernel_rfl) (fun _ _ _ h => h) (Or.inl ⟨?hw20019, ?hy20019⟩) (by assumption) ?rest20019
    case hi20019 => (simp only [List.getElem?_toArray, List.getElem?_cons_zero, List.getElem?_cons_succ]; rfl)
    case hw20019 => rfl
    case hy20019 => first | (intro wx hSw; go_simp; done) | (intro wx hSw; go_simp; with_reducible rfl)
    simp only [Act.put, List.setIfInBounds_toArray, List.set_cons_zero, List.set_cons_succ]
    refine wpAnyH_take (i := 3) (oi := ?oi20020) (v := undef) ?hi20020 (by kernel_rfl) (by kernel_rfl) (by kernel_rfl) (fun _ _ _ h => h) (Or.inr ⟨?hw20020, rfl⟩) (by assumption) ?rest20020
    case hi20020 => (simp only [List.getElem?_toArray, List.getElem?_cons_zero, List.getElem?_cons_succ]; rfl)
    case hw20020 => rfl
    simp only [Act.put, List.setIfInBounds_toArray, List.set_cons_zero, List.set_cons_succ]
    refine wpAnyH_take (i := 4) (oi := ?oi20021) (v := undef) ?hi20021 (by kernel_rfl) (by kernel_rfl) (by kernel_rfl) (fun _ _ _ h => h) (Or.inr ⟨?hw20021, rfl⟩) (by assumption) ?rest20021
    case hi20021 => (simp only [List.getElem?_toArray, List.getElem?_cons_zero, List.getElem?_cons_succ]; rfl)
    case hw20021 => rfl
    simp only [Act.put, List.setIfInBounds_toArray, List.set_cons_zero, List.set_cons_succ]
    refine wpAnyH_take (i := 5) (oi := ?oi20022) (v := undef) ?hi20022 (by kernel_rfl) (by kernel_rfl) (by kernel_rfl) (fun _ _ _ h => h) (Or.inr ⟨?hw20022, rfl⟩) (by assumption) ?rest20022
    case hi20022 => (simp only [List.getElem?_toArray, List.getElem?_cons_zero, List.getElem?_cons_succ]; rfl)
    case hw20022 => rfl
    simp only [Act.put, List.setIfInBounds_toArray, List.set_cons_zero, List.set_cons_succ]
    refine wpAnyH_take (i := 6) (oi := ?oi20023) (v := undef) ?hi20023 (by kernel_rfl) (by kernel_rfl) (by kernel_rfl) (fun _ _ _ h => h) (Or.inr ⟨?hw20023, rfl⟩) (by assumption) ?rest20023
    case hi20023 => (simp only [List.getElem?_toArray, List.getElem?_cons_zero, List.getElem?_cons_succ]; rfl)
    case hw20023 => rfl
    simp only [Act.put, List.setIfInBounds_toArray, List.set_cons_zero, List.set_cons_succ]
    refine wpAnyH_take (i := 7) (oi := ?oi20024) (v := ?v20024) ?hi20024 (by kernel_rfl) (by kernel_rfl) (by kernel_rfl) (fun _ _ _ h => h) (Or.inl ⟨?hw20024, ?hy20024⟩) (by assumption) ?rest20024
    case hi20024 => (simp only [List.getElem?_toArray, List.getElem?_cons_zero, List.getElem?_cons_succ]; rfl)
    case hw20024 => rfl
    case hy20024 => first | (intro wx hSw; go_simp; done) | (intro wx hSw; go_simp; with_reducible rfl)
    simp only [Act.put, List.setIfInBounds_toArray, List.set_cons_zero, List.set_cons_succ]
    refine wpAnyH_done (by kernel_rfl) ?_ _
    refine NoPanic.normal ?_
    refine hrest _ _ ?_
    clear hHeld
    go_wp2_with fail
    go_ret2
    exact TPost.fail x (Upd.refl b 0 0 W).drew.grown (unhide hqn)
  · have hp : 0 < s.size := by omega
    have hne := ba_ne s hp
    have hUd : Upd b o L.n W W.drew := (Upd.refl _ _ _ _).drew
    have HRd := hide (L.keep (unhide HR) (Below.refl _ _).drew)
    clear h0
    cases hm : ((s[0].toNat : Int) == (m.toNat : Int))
    · have hm2 : ¬ (s[0].toNat : Int) = (m.toNat : Int) := by rw [beq_eq_false_iff_ne] at hm; exact hm
      have hqn : Hid (q = none) := by
        show _ = _
        rcases hqq : q with _ | ⟨xt, r⟩
        · rfl
        · obtain ⟨_, e1, _⟩ := by8_cons (unhide HQ xt r hqq).2.2
          rw [e1] at hm2; exact absurd rfl hm2
      go_enter Try.func99, Try.ntmps99
      go_wp2
      rename_i hrest
      refine wp_region_noPanic ?_
      refine wp_region_held_drew (S := (fun X => X.cell? ⟨bs, 0, none⟩ = some (.int .u8 (m.toNat : Int)))) (by kernel_rfl) (hbx) (fun hHeld => ?_)
      refine wpAnyH_take (i := 0) (oi := ?oi20001) (v := ?v20001) ?hi20001 (by kernel_rfl) (by kernel_rfl) (by kernel_rfl) (fun _ _ _ h => h) (Or.inl ⟨?hw20001, ?hy20001⟩) (by assumption) ?rest20001
      case hi20001 => (simp only [List.getElem?_toArray, List.getElem?_cons_zero]; rfl)
      case hw20001 => rfl
      case hy20001 => first | (intro wx hSw; go_simp; done) | (intro wx hSw; go_simp; with_reducible rfl)
      simp only [Act.put, List.setIfInBounds_toArray, List.set_cons_zero, List.set_cons_succ]
      refine wpAnyH_take (i := 1) (oi := ?oi20002) (v := ?v20002) ?hi20002 (by kernel_rfl) (by kernel_rfl) (by kernel_rfl) (fun _ _ _ h => h) (Or.inl ⟨?hw20002, ?hy20002⟩) (by assumption) ?rest20002
      case hi20002 => (simp only [List.getElem?_toArray, List.getElem?_cons_zero, List.getElem?_cons_succ]; rfl)
      case hw20002 => rfl
      case hy20002 => first | (intro wx hSw; go_simp; done) | (intro wx hSw; go_simp; with_reducible rfl)
      simp only [Act.put, List.setIfInBounds_toArray, List.set_cons_zero, List.set_cons_succ]
      refine wpAnyH_take (i := 2) (oi := ?oi20003) (v := ?v20003) ?hi20003 (by kernel_rfl) (by kernel_rfl) (by kernel_rfl) (fun _ _ _ h => h) (Or.inl ⟨?hw20003, ?hy20003⟩) (by assumption) ?rest20003
      case hi20003 => (simp only [List.getElem?_toArray, List.getElem?_cons_zero, List.getElem?_cons_succ]; rfl)
      case hw20003 => rfl
      case hy20003 => first | (intro wx hSw; go_simp; done) | (intro wx hSw; go_simp; with_reducible rfl)
      simp only [Act.put, List.setIfInBounds_toArray, List.set_cons_zero, List.set_cons_succ]
      refine wpAnyH_take (i := 3) (oi := ?oi20004) (v := ?v20004) ?hi20004 (by kernel_rfl) (by kernel_rfl) (by kernel_rfl) (fun _ _ _ h => h) (Or.inl ⟨?hw20004, ?hy20004⟩) (by assumption) ?rest20004
      case hi20004 => (simp only [List.getElem?_toArray, List.getElem?_cons_zero, List.getElem?_cons_succ]; rfl)
      case hw20004 => rfl
      case hy20004 => first | (intro wx hSw; go_simp; done) | (intro wx hSw; go_simp; with_reducible rfl)
      simp only [Act.put, List.setIfInBounds_toArray, List.set_cons_zero, List.set_cons_succ]
      refine wpAnyH_take (i := 4) (oi := ?oi20005) (v := ?v20005) ?hi20005 (by kernel_rfl) (by kernel_rfl) (by kernel_rfl) (fun _ _ _ h => h) (Or.inl ⟨?hw20005, ?hy20005⟩) (by assumption) ?rest20005
      case hi20005 => (simp only [List.getElem?_toArray, List.getElem?_cons_zero, List.getElem?_cons_succ]; rfl)
      case hw20005 => rfl
      case hy20005 => first | (intro wx hSw; go_simp; done) | (intro wx hSw; go_simp; with_reducible rfl)
      simp only [Act.put, List.setIfInBounds_toArray, List.set_cons_zero, List.set_cons_succ]
      refine wpAnyH_take (i := 5) (oi := ?oi20006) (v := ?v20006) ?hi20006 (by kernel_rfl) (by kernel_rfl) (by kernel_rfl) (fun _ _ _ h => h) (Or.inl ⟨?hw20006, ?hy20006⟩) (by assumption) ?rest20006
      case hi20006 => (simp only [List.getElem?_toArray, List.getElem?_cons_zero, List.getElem?_cons_succ]; rfl)
      case hw20006 => rfl
      case hy20006 => first | (intro wx hSw; go_simp; done) | (intro wx hSw; go_simp; with_reducible rfl)
      simp only [Act.put, List.setIfInBounds_toArray, List.set_cons_zero, List.set_cons_succ]
      refine wpAnyH_take (i := 6) (oi := ?oi20007) (v := ?v20007) ?hi20007 (by kernel_rfl) (by kernel_rfl) (by kernel_rfl) (fun _ _ _ h => h) (Or.inl ⟨?hw20007, ?hy20007⟩) (by assumption) ?rest20007
      case hi20007 => (simp only [List.getElem?_toArray, List.getElem?_cons_zero, List.getElem?_cons_succ]; rfl)
      case hw20007 => rfl
      case hy20007 => first | (intro wx hSw; go_simp; done) | (intro wx hSw; go_simp; with_reducible rfl)
      simp only [Act.put, List.setIfInBounds_toArray, List.set_cons_zero, List.set_cons_succ]
      refine wpAnyH_take (i := 7) (oi := ?oi20008) (v := ?v20008) ?hi20008 (by kernel_rfl) (by kernel_rfl) (by kernel_rfl) (fun _ _ _ h => h) (Or.inl ⟨?hw20008, ?hy20008⟩) (by assumption) ?rest20008
      case hi20008 => (simp only [List.getElem?_toArray, List.getElem?_cons_zero, List.getElem?_cons_succ]; rfl)
      case hw20008 => rfl
      case hy20008 => first | (intro wx hSw; go_simp; done) | (intro wx hSw; go_simp; with_reducible rfl)
      simp only [Act.put, List.setIfInBounds_toArray, List.set_cons_zero, List.set_cons_succ]
      refine wpAnyH_done (by kernel_rfl) ?_ _
      refine NoPanic.normal ?_
      refine hrest _ _ ?_
      clear hHeld
      go_wp2_with fail
      go_ret2
      exact TPost.fail x hUd.grown (unhide hqn)
    · have hm2 : (s[0].toNat : Int) = (m.toNat : Int) := by simpa using hm
      clear hm
      have HM2 := hide hm2
      clear hm2
      go_enter Try.func99, Try.ntmps99
      go_wp2
      rename_i hrest
      have hm3 := unhide HM2
      refine wp_region_noPanic ?_
      refine wp_region_held_drew (S := (fun X => X.cell? ⟨bs, 0, none⟩ = some (.int .u8 (m.toNat : Int)))) (by kernel_rfl) (hbx) (fun hHeld => ?_)
      refine wpAnyH_take (i := 0) (oi := ?oi20009) (v := ?v20009) ?hi20009 (by kernel_rfl) (by kernel_rfl) (by kernel_rfl) (fun _ _ _ h => h) (Or.inl ⟨?hw20009, ?hy20009⟩) (by assumption) ?rest20009
      case hi20009 => (simp only [List.getElem?_toArray, List.getElem?_cons_zero]; rfl)
      case hw20009 => rfl
      case hy20009 => first | (intro wx hSw; go_simp; done) | (intro wx hSw; go_simp; with_reducible rfl)
      simp only [Act.put, List.setIfInBounds_toArray, List.set_cons_zero, List.set_cons_succ]
      refine wpAnyH_take (i := 1) (oi := ?oi20010) (v := ?v20010) ?hi20010 (by kernel_rfl) (by kernel_rfl) (by kernel_rfl) (fun _ _ _ h => h) (Or.inl ⟨?hw20010, ?hy20010⟩) (by assumption) ?rest20010
      case hi20010 => (simp only [List.getElem?_toArray, List.getElem?_cons_zero, List.getElem?_cons_succ]; rfl)
      case hw20010 => rfl
      case hy20010 => first | (intro wx hSw; go_simp; done) | (intro wx hSw; go_simp; with_reducible rfl)
      simp only [Act.put, List.setIfInBounds_toArray, List.set_cons_zero, List.set_cons_succ]
      refine wpAnyH_take (i := 2) (oi := ?oi20011) (v := ?v20011) ?hi20011 (by kernel_rfl) (by kernel_rfl) (by kernel_rfl) (fun _ _ _ h => h) (Or.inl ⟨?hw20011, ?hy20011⟩) (by assumption) ?rest20011
      case hi20011 => (simp only [List.getElem?_toArray, List.getElem?_cons_zero, List.getElem?_cons_succ]; rfl)
      case hw20011 => rfl
      case hy20011 => first | (intro wx hSw; go_simp; done) | (intro wx hSw; go_simp; with_reducible rfl)
      simp only [Act.put, List.setIfInBounds_toArray, List.set_cons_zero, List.set_cons_succ]
      refine wpAnyH_take (i := 3) (oi := ?oi20012) (v := ?v20012) ?hi20012 (by kernel_rfl) (by kernel_rfl) (by kernel_rfl) (fun _ _ _ h => h) (Or.inl ⟨?hw20012, ?hy20012⟩) (by assumption) ?rest20012
      case hi20012 => (simp only [List.getElem?_toArray, List.getElem?_cons_zero, List.getElem?_cons_succ]; rfl)
      case hw20012 => rfl
      case hy20012 => first | (intro wx hSw; go_simp; done) | (intro wx hSw; go_simp; with_reducible rfl)
      simp only [Act.put, List.setIfInBounds_toArray, List.set_cons_zero, List.set_cons_succ]
      refine wpAnyH_take (i := 4) (oi := ?oi20013) (v := ?v20013) ?hi20013 (by kernel_rfl) (by kernel_rfl) (by kernel_rfl) (fun _ _ _ h => h) (Or.inl ⟨?hw20013, ?hy20013⟩) (by assumption) ?rest20013
      case hi20013 => (simp only [List.getElem?_toArray, List.getElem?_cons_zero, List.getElem?_cons_succ]; rfl)
      case hw20013 => rfl
      case hy20013 => first | (intro wx hSw; go_simp; done) | (intro wx hSw; go_simp; with_reducible rfl)
      simp only [Act.put, List.setIfInBounds_toArray, List.set_cons_zero, List.set_cons_succ]
      refine wpAnyH_take (i := 5) (oi := ?oi20014) (v := ?v20014) ?hi20014 (by kernel_rfl) (by kernel_rfl) (by kernel_rfl) (fun _ _ _ h => h) (Or.inl ⟨?hw20014, ?hy20014⟩) (by assumption) ?rest20014
      case hi20014 => (simp only [List.getElem?_toArray, List.getElem?_cons_zero, List.getElem?_cons_succ]; rfl)
      case hw20014 => rfl
      case hy20014 => first | (intro wx hSw; go_simp; done) | (intro wx hSw; go_simp; with_reducible rfl)
      simp only [Act.put, List.setIfInBounds_toArray, List.set_cons_zero, List.set_cons_succ]
      refine wpAnyH_take (i := 6) (oi := ?oi20015) (v := ?v20015) ?hi20015 (by kernel_rfl) (by kernel_rfl) (by kernel_rfl) (fun _ _ _ h => h) (Or.inl ⟨?hw20015, ?hy20015⟩) (by assumption) ?rest20015
      case hi20015 => (simp only [List.getElem?_toArray, List.getElem?_cons_zero, List.getElem?_cons_succ]; rfl)
      case hw20015 => rfl
      case hy20015 => first | (intro wx hSw; go_simp; done) | (intro wx hSw; go_simp; with_reducible rfl)
      simp only [Act.put, List.setIfInBounds_toArray, List.set_cons_zero, List.set_cons_succ]
      refine wpAnyH_take (i := 7) (oi := ?oi20016) (v := ?v20016) ?hi20016 (by kernel_rfl) (by kernel_rfl) (by kernel_rfl) (fun _ _ _ h => h) (Or.inl ⟨?hw20016, ?hy20016⟩) (by assumption) ?rest20016
      case hi20016 => (simp only [List.getElem?_toArray, List.getElem?_cons_zero, List.getElem?_cons_succ]; rfl)
      case hw20016 => rfl
      case hy20016 => first | (intro wx hSw; go_simp; done) | (intro wx hSw; go_simp; with_reducible rfl)
      simp only [Act.put, List.setIfInBounds_toArray, List.set_cons_zero, List.set_cons_succ]
      refine wpAnyH_done (by kernel_rfl) ?_ _
      refine NoPanic.normal ?_
      refine hrest _ _ ?_
      clear hHeld
      clear hm3
      go_wp2_with fail
      go_ret2
      refine TPost.done hx (unhide HRd) ?_ (fun xt r0 h => ?_) hUd
      · show (s.extract 1 s.size).size ≤ s.size
        rw [ByteArray.size_extract]; omega
      · obtain ⟨_, e1, e2⟩ := by8_cons (unhide HQ xt r0 h).2.2
        exact ⟨(unhide HQ xt r0 h).2.1, (by8_drop s 1).trans e2⟩

end Go.Proofs.Ytjmmfgmmmdbenaa
