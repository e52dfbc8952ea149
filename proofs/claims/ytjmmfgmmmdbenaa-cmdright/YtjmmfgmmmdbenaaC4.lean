/-
  Package cmd: truths, marks, numbers, parts of a struct, put.
-/
import Derived.Test.YtjmmfgmmmdbenaaC3
namespace Go.Proofs.Ytjmmfgmmmdbenaa
open Go.RowKit
set_option linter.unusedSimpArgs false
set_option linter.unusedVariables false

theorem fixPuts (s bs : Nat) (w0 : World) (hs : s ≤ 8) (hbox : w0.cell? ⟨bs, 0, none⟩ = some (.int .i64 (s : Int))) :
    Puts (.func (.func 65) #[] #[ptr bs 0]) w0 layI Is64 (fx s) := by
  refine ⟨_, _, rfl, (fun _ _ => by kernel_rfl), fun x W base v xs b o g hB h2 h3 hown hR n1 n2 hD hl => ?_⟩
  simp only [List.append_toArray, List.cons_append, List.nil_append]
  have hbl := World.block_lt_of_cell? _ _ hbox
  exact fixput_any s bs x W base v xs b o hs hD ((World.cell?_of_block (a := ⟨bs, 0, none⟩) (hB.block _ hbl)).trans hbox) hR.1 n1 hown h3 (by omega)
theorem shPuts (w0 : World) : Puts (.func (.func 91) #[] #[]) w0 layI (fun n => 0 ≤ n ∧ n ≤ 9223372036854775807) shI := by
  refine ⟨_, _, rfl, (fun _ _ => by kernel_rfl), fun x W base v xs b o g hB h2 h3 hown hR n1 n2 hD hl => ?_⟩
  simp only [List.append_toArray, List.cons_append, List.nil_append]
  obtain ⟨n, rfl⟩ : ∃ n : Nat, x = (n : Int) := ⟨x.toNat, by omega⟩
  have h := putShort_any n W base v xs b o (by omega) hR.1 hown h3 (by omega)
  simpa [shI] using h

set_option maxRecDepth 100000 in
set_option maxHeartbeats 2000000 in
theorem flagPuts (w0 : World) : Puts (.func (.func 76) #[] #[]) w0 layB (fun _ => True) fl := by
  refine ⟨_, _, rfl, (fun _ _ => by kernel_rfl), fun x W base v xs b o g hB h2 h3 hown hR n1 n2 hD hl => ?_⟩
  simp only [List.append_toArray, List.cons_append, List.nil_append]
  have hx := hR.1
  cases x
  · go_enter Try.func76, Try.ntmps76
    go_wp2_with (at_builtin; refine wpList_app1 rfl _ _ rfl W 0 _ (by decide) base _ xs hown rfl rfl (by omega) (by omega) ?_; intro g1 cap w1 hown1 hK1)
    go_ret
    exact ⟨_, rfl, hown1, hK1⟩
  · go_enter Try.func76, Try.ntmps76
    go_wp2_with (at_builtin; refine wpList_app1 rfl _ _ rfl W 1 _ (by decide) base _ xs hown rfl rfl (by omega) (by omega) ?_; intro g1 cap w1 hown1 hK1)
    go_ret
    exact ⟨_, rfl, hown1, hK1⟩

set_option maxRecDepth 100000 in
set_option maxHeartbeats 2000000 in
theorem signPuts {α : Type} (L : Lay α) (m : UInt8) (bs : Nat) (w0 : World) (hbox : w0.cell? ⟨bs, 0, none⟩ = some (.int .u8 (m.toNat : Int))) :
    Puts (.func (.func 98) #[] #[ptr bs 0]) w0 L (fun _ => True) (fun _ => [m]) := by
  refine ⟨_, _, rfl, (fun _ _ => by kernel_rfl), fun x W base v xs b o g hB h2 h3 hown hR n1 n2 hD hl => ?_⟩
  simp only [List.append_toArray, List.cons_append, List.nil_append]
  have hbl := World.block_lt_of_cell? _ _ hbox
  have hx : W.cell? ⟨bs, 0, none⟩ = some (.int .u8 (m.toNat : Int)) := (World.cell?_of_block (a := ⟨bs, 0, none⟩) (hB.block _ hbl)).trans hbox
  go_enter Try.func98, Try.ntmps98
  go_wp2_with (at_builtin; refine wpList_app1 rfl _ _ rfl W m _ rfl base _ xs hown rfl rfl (by omega) (by omega) ?_; intro g1 cap w1 hown1 hK1)
  go_ret
  exact ⟨_, rfl, hown1, hK1⟩

/-- a function that tells a field's place -/
def Place (pl : Value) (k : Nat) : Prop := ∃ K, pl = .func (.func K) #[] #[] ∧ Enters K ∧ ∀ b o W, Calls Try.prog K #[ptr b o] W fun e W' => e = .returned (ptr b (o + k)) ∧ W' = W

set_option maxRecDepth 100000 in
theorem keyPlace : Place (.func (.func 51) #[] #[]) 0 := by
  refine ⟨_, rfl, (fun _ _ => by kernel_rfl), fun b o W => ?_⟩
  go_enter Try.func51, Try.ntmps51
  go_wp2
  go_ret
  exact ⟨rfl, rfl⟩

set_option maxRecDepth 100000 in
theorem valuePlace : Place (.func (.func 52) #[] #[]) 1 := by
  refine ⟨_, rfl, (fun _ _ => by kernel_rfl), fun b o W => ?_⟩
  go_enter Try.func52, Try.ntmps52
  go_wp2
  go_ret
  exact ⟨rfl, rfl⟩

set_option maxRecDepth 100000 in
theorem gonePlace : Place (.func (.func 55) #[] #[]) 2 := by
  refine ⟨_, rfl, (fun _ _ => by kernel_rfl), fun b o W => ?_⟩
  go_enter Try.func55, Try.ntmps55
  go_wp2
  go_ret
  exact ⟨rfl, rfl⟩

set_option maxRecDepth 100000 in
theorem kindPlace : Place (.func (.func 82) #[] #[]) 0 := by
  refine ⟨_, rfl, (fun _ _ => by kernel_rfl), fun b o W => ?_⟩
  go_enter Try.func82, Try.ntmps82
  go_wp2
  go_ret
  exact ⟨rfl, rfl⟩

set_option maxRecDepth 100000 in
theorem idPlace : Place (.func (.func 83) #[] #[]) 1 := by
  refine ⟨_, rfl, (fun _ _ => by kernel_rfl), fun b o W => ?_⟩
  go_enter Try.func83, Try.ntmps83
  go_wp2
  go_ret
  exact ⟨rfl, rfl⟩

set_option maxRecDepth 100000 in
theorem txnPlace : Place (.func (.func 84) #[] #[]) 2 := by
  refine ⟨_, rfl, (fun _ _ => by kernel_rfl), fun b o W => ?_⟩
  go_enter Try.func84, Try.ntmps84
  go_wp2
  go_ret
  exact ⟨rfl, rfl⟩

set_option maxRecDepth 100000 in
theorem commitPlace : Place (.func (.func 86) #[] #[]) 3 := by
  refine ⟨_, rfl, (fun _ _ => by kernel_rfl), fun b o W => ?_⟩
  go_enter Try.func86, Try.ntmps86
  go_wp2
  go_ret
  exact ⟨rfl, rfl⟩

set_option maxRecDepth 100000 in
theorem writesPlace : Place (.func (.func 60) #[] #[]) 4 := by
  refine ⟨_, rfl, (fun _ _ => by kernel_rfl), fun b o W => ?_⟩
  go_enter Try.func60, Try.ntmps60
  go_wp2
  go_ret
  exact ⟨rfl, rfl⟩

set_option maxRecDepth 100000 in
theorem notePlace : Place (.func (.func 64) #[] #[]) 5 := by
  refine ⟨_, rfl, (fun _ _ => by kernel_rfl), fun b o W => ?_⟩
  go_enter Try.func64, Try.ntmps64
  go_wp2
  go_ret
  exact ⟨rfl, rfl⟩

set_option maxRecDepth 100000 in
set_option maxHeartbeats 2000000 in
theorem partWritestringPuts {α β : Type} (LS : Lay α) (LF : Lay β) (π : α → β) (k : Nat) (fs ft pl : Value) (Tf Tp : TypeId) (bf bp : Nat) (w0 : World) (D : β → Prop) (f : β → List UInt8) (hsub : ∀ x b o g W, LS.R x b o g W → LF.R (π x) b (o + k) g W)
    (hf : Puts fs w0 LF D f) (hp : Place pl k) (hbf0 : Blk bf #[fs, ft] Tf w0) (hbp0 : Blk bp #[pl] Tp w0) : Puts (.func (.func 69) #[] #[ptr bf 0, ptr bp 0]) w0 LS (fun x => D (π x)) (fun x => f (π x)) := by
  obtain ⟨K, caps, rfl, hE, hc⟩ := hf
  obtain ⟨KP, rfl, hEP, hcp⟩ := hp
  refine ⟨_, _, rfl, (fun _ _ => by kernel_rfl), fun x W base v xs b o g hB h2 h3 hown hR n1 n2 hD hl => ?_⟩
  simp only [List.append_toArray, List.cons_append, List.nil_append]
  have hbf := hbf0.below hB
  have hbp := hbp0.below hB
  have hlf := hbf0.lt
  have hlp := hbp0.lt
  have C := hide hc
  have CP := hide hcp
  clear hc hcp
  go_enter Try.func69, Try.ntmps69
  go_wp2
  rename_i hrest
  have hWd : Below W.heap.size W W.drew := (Below.refl _ _).drew
  refine wp_region_noPanic ?_
  refine wp_region_held_drew (S := (fun X => Blk bf #[.func (.func K) #[] caps, ft] Tf X ∧ Blk bp #[.func (.func KP) #[] #[]] Tp X)) (by kernel_rfl) (⟨hbf.below (Below.refl _ _).drew, hbp.below (Below.refl _ _).drew⟩) (fun hHeld => ?_)
  clear hbf hbp
  generalize W.drew = Wd at *
  have hownd := hown.below hWd
  have CC := hide (unhide C (π x) Wd base v xs b (o + k) g (Below.onto hB hWd) h2 (Nat.le_trans h3 hWd.size) hownd (hsub _ _ _ _ _ (Lay.below hR hWd)) n1 n2 hD hl)
  clear C
  refine wpAnyH_take (i := 0) (oi := ?oi20001) (v := ?v20001) ?hi20001 (by kernel_rfl) (by kernel_rfl) (by kernel_rfl) (fun _ _ _ h => h) (Or.inl ⟨?hw20001, ?hy20001⟩) (by assumption) ?rest20001
  case hi20001 => (simp only [List.getElem?_toArray, List.getElem?_cons_zero]; rfl)
  case hw20001 => rfl
  case hy20001 => first | (intro wx hSw; obtain ⟨hs1, hs2⟩ := hSw; have hs3 := hs1.cell 0; have hs4 := hs2.cell 0; simp at hs3 hs4; go_simp; done) | (intro wx hSw; obtain ⟨hs1, hs2⟩ := hSw; have hs3 := hs1.cell 0; have hs4 := hs2.cell 0; simp at hs3 hs4; go_simp; with_reducible rfl)
  simp only [Act.put, List.setIfInBounds_toArray, List.set_cons_zero, List.set_cons_succ]
  refine wpAnyH_take (i := 1) (oi := ?oi20002) (v := ?v20002) ?hi20002 (by kernel_rfl) (by kernel_rfl) (by kernel_rfl) (fun _ _ _ h => h) (Or.inl ⟨?hw20002, ?hy20002⟩) (by assumption) ?rest20002
  case hi20002 => (simp only [List.getElem?_toArray, List.getElem?_cons_zero, List.getElem?_cons_succ]; rfl)
  case hw20002 => rfl
  case hy20002 => first | (intro wx hSw; obtain ⟨hs1, hs2⟩ := hSw; have hs3 := hs1.cell 0; have hs4 := hs2.cell 0; simp at hs3 hs4; go_simp; done) | (intro wx hSw; obtain ⟨hs1, hs2⟩ := hSw; have hs3 := hs1.cell 0; have hs4 := hs2.cell 0; simp at hs3 hs4; go_simp; with_reducible rfl)
  simp only [Act.put, List.setIfInBounds_toArray, List.set_cons_zero, List.set_cons_succ]
  refine wpAnyH_take (i := 2) (oi := ?oi20003) (v := ?v20003) ?hi20003 (by kernel_rfl) (by kernel_rfl) (by kernel_rfl) (fun _ _ _ h => h) (Or.inl ⟨?hw20003, ?hy20003⟩) (by assumption) ?rest20003
  case hi20003 => (simp only [List.getElem?_toArray, List.getElem?_cons_zero, List.getElem?_cons_succ]; rfl)
  case hw20003 => rfl
  case hy20003 => first | (intro wx hSw; obtain ⟨hs1, hs2⟩ := hSw; have hs3 := hs1.cell 0; have hs4 := hs2.cell 0; simp at hs3 hs4; go_simp; done) | (intro wx hSw; obtain ⟨hs1, hs2⟩ := hSw; have hs3 := hs1.cell 0; have hs4 := hs2.cell 0; simp at hs3 hs4; go_simp; with_reducible rfl)
  simp only [Act.put, List.setIfInBounds_toArray, List.set_cons_zero, List.set_cons_succ]
  refine wpAnyH_take (i := 3) (oi := ?oi20004) (v := ?v20004) ?hi20004 (by kernel_rfl) (by kernel_rfl) (by kernel_rfl) (fun _ _ _ h => h) (Or.inl ⟨?hw20004, ?hy20004⟩) (by assumption) ?rest20004
  case hi20004 => (simp only [List.getElem?_toArray, List.getElem?_cons_zero, List.getElem?_cons_succ]; rfl)
  case hw20004 => rfl
  case hy20004 => first | (intro wx hSw; obtain ⟨hs1, hs2⟩ := hSw; have hs3 := hs1.cell 0; have hs4 := hs2.cell 0; simp at hs3 hs4; go_simp; done) | (intro wx hSw; obtain ⟨hs1, hs2⟩ := hSw; have hs3 := hs1.cell 0; have hs4 := hs2.cell 0; simp at hs3 hs4; go_simp; with_reducible rfl)
  simp only [Act.put, List.setIfInBounds_toArray, List.set_cons_zero, List.set_cons_succ]
  refine wpAnyH_take (i := 4) (oi := ?oi20005) (v := ?v20005) ?hi20005 (by kernel_rfl) (by kernel_rfl) (by kernel_rfl) (fun _ _ _ h => h) (Or.inl ⟨?hw20005, ?hy20005⟩) (by assumption) ?rest20005
  case hi20005 => (simp only [List.getElem?_toArray, List.getElem?_cons_zero, List.getElem?_cons_succ]; rfl)
  case hw20005 => rfl
  case hy20005 => first | (intro wx hSw; obtain ⟨hs1, hs2⟩ := hSw; have hs3 := hs1.cell 0; have hs4 := hs2.cell 0; simp at hs3 hs4; go_simp; done) | (intro wx hSw; obtain ⟨hs1, hs2⟩ := hSw; have hs3 := hs1.cell 0; have hs4 := hs2.cell 0; simp at hs3 hs4; go_simp; with_reducible rfl)
  simp only [Act.put, List.setIfInBounds_toArray, List.set_cons_zero, List.set_cons_succ]
  refine wpAnyH_ready (rs := [5]) (by kernel_rfl) (by simp) ?_
  refine AllReadyH.cons rfl (fun K20006 hK20006 => ?_) AllReadyH.nil
  go_simp
  go_wp2_with (refine (unhide CP b o _).mono ?_; rintro e W1 ⟨rfl, rfl⟩)
  refine hK20006.out _ _ ?hs20006 (fun hHeld20006 => ?_)
  case hs20006 => exact hHeld
  clear hHeld
  have hHeld := hHeld20006; clear hHeld20006 hK20006 K20006
  refine wpAnyH_ready (rs := [6]) (by kernel_rfl) (by simp) ?_
  refine AllReadyH.cons rfl (fun K20007 hK20007 => ?_) AllReadyH.nil
  go_simp
  go_wp2_with (refine (unhide CC).mono ?_; rintro e W2 ⟨v2, rfl, hown2, hK2⟩)
  refine hK20007.out _ _ ?hs20007 (fun hHeld20007 => ?_)
  case hs20007 => exact ⟨hHeld.1.keep hK2 (own_ne hown (by omega)), hHeld.2.keep hK2 (own_ne hown (by omega))⟩
  clear hHeld
  have hHeld := hHeld20007; clear hHeld20007 hK20007 K20007
  refine wpAnyH_take (i := 7) (oi := ?oi20008) (v := ?v20008) ?hi20008 (by kernel_rfl) (by kernel_rfl) (by kernel_rfl) (fun _ _ _ h => h) (Or.inl ⟨?hw20008, ?hy20008⟩) (by assumption) ?rest20008
  case hi20008 => (simp only [List.getElem?_toArray, List.getElem?_cons_zero, List.getElem?_cons_succ]; rfl)
  case hw20008 => rfl
  case hy20008 => first | (intro wx hSw; go_simp; done) | (intro wx hSw; go_simp; with_reducible rfl)
  simp only [Act.put, List.setIfInBounds_toArray, List.set_cons_zero, List.set_cons_succ]
  refine wpAnyH_done (by kernel_rfl) ?_ _
  refine NoPanic.normal ?_
  refine hrest _ _ ?_
  clear hHeld
  go_wp2_with fail
  go_ret
  exact ⟨_, rfl, hown2, (KeepB.of_below hWd).trans hK2⟩

set_option maxRecDepth 100000 in
set_option maxHeartbeats 2000000 in
theorem partWriteboolPuts {α β : Type} (LS : Lay α) (LF : Lay β) (π : α → β) (k : Nat) (fs ft pl : Value) (Tf Tp : TypeId) (bf bp : Nat) (w0 : World) (D : β → Prop) (f : β → List UInt8) (hsub : ∀ x b o g W, LS.R x b o g W → LF.R (π x) b (o + k) g W)
    (hf : Puts fs w0 LF D f) (hp : Place pl k) (hbf0 : Blk bf #[fs, ft] Tf w0) (hbp0 : Blk bp #[pl] Tp w0) : Puts (.func (.func 74) #[] #[ptr bf 0, ptr bp 0]) w0 LS (fun x => D (π x)) (fun x => f (π x)) := by
  obtain ⟨K, caps, rfl, hE, hc⟩ := hf
  obtain ⟨KP, rfl, hEP, hcp⟩ := hp
  refine ⟨_, _, rfl, (fun _ _ => by kernel_rfl), fun x W base v xs b o g hB h2 h3 hown hR n1 n2 hD hl => ?_⟩
  simp only [List.append_toArray, List.cons_append, List.nil_append]
  have hbf := hbf0.below hB
  have hbp := hbp0.below hB
  have hlf := hbf0.lt
  have hlp := hbp0.lt
  have C := hide hc
  have CP := hide hcp
  clear hc hcp
  go_enter Try.func74, Try.ntmps74
  go_wp2
  rename_i hrest
  have hWd : Below W.heap.size W W.drew := (Below.refl _ _).drew
  refine wp_region_noPanic ?_
  refine wp_region_held_drew (S := (fun X => Blk bf #[.func (.func K) #[] caps, ft] Tf X ∧ Blk bp #[.func (.func KP) #[] #[]] Tp X)) (by kernel_rfl) (⟨hbf.below (Below.refl _ _).drew, hbp.below (Below.refl _ _).drew⟩) (fun hHeld => ?_)
  clear hbf hbp
  generalize W.drew = Wd at *
  have hownd := hown.below hWd
  have CC := hide (unhide C (π x) Wd base v xs b (o + k) g (Below.onto hB hWd) h2 (Nat.le_trans h3 hWd.size) hownd (hsub _ _ _ _ _ (Lay.below hR hWd)) n1 n2 hD hl)
  clear C
  refine wpAnyH_take (i := 0) (oi := ?oi20009) (v := ?v20009) ?hi20009 (by kernel_rfl) (by kernel_rfl) (by kernel_rfl) (fun _ _ _ h => h) (Or.inl ⟨?hw20009, ?hy20009⟩) (by assumption) ?rest20009
  case hi20009 => (simp only [List.getElem?_toArray, List.getElem?_cons_zero]; rfl)
  case hw20009 => rfl
  case hy20009 => first | (intro wx hSw; obtain ⟨hs1, hs2⟩ := hSw; have hs3 := hs1.cell 0; have hs4 := hs2.cell 0; simp at hs3 hs4; go_simp; done) | (intro wx hSw; obtain ⟨hs1, hs2⟩ := hSw; have hs3 := hs1.cell 0; have hs4 := hs2.cell 0; simp at hs3 hs4; go_simp; with_reducible rfl)
  simp only [Act.put, List.setIfInBounds_toArray, List.set_cons_zero, List.set_cons_succ]
  refine wpAnyH_take (i := 1) (oi := ?oi20010) (v := ?v20010) ?hi20010 (by kernel_rfl) (by kernel_rfl) (by kernel_rfl) (fun _ _ _ h => h) (Or.inl ⟨?hw20010, ?hy20010⟩) (by assumption) ?rest20010
  case hi20010 => (simp only [List.getElem?_toArray, List.getElem?_cons_zero, List.getElem?_cons_succ]; rfl)
  case hw20010 => rfl
  case hy20010 => first | (intro wx hSw; obtain ⟨hs1, hs2⟩ := hSw; have hs3 := hs1.cell 0; have hs4 := hs2.cell 0; simp at hs3 hs4; go_simp; done) | (intro wx hSw; obtain ⟨hs1, hs2⟩ := hSw; have hs3 := hs1.cell 0; have hs4 := hs2.cell 0; simp at hs3 hs4; go_simp; with_reducible rfl)
  simp only [Act.put, List.setIfInBounds_toArray, List.set_cons_zero, List.set_cons_succ]
  refine wpAnyH_take (i := 2) (oi := ?oi20011) (v := ?v20011) ?hi20011 (by kernel_rfl) (by kernel_rfl) (by kernel_rfl) (fun _ _ _ h => h) (Or.inl ⟨?hw20011, ?hy20011⟩) (by assumption) ?rest20011
  case hi20011 => (simp only [List.getElem?_toArray, List.getElem?_cons_zero, List.getElem?_cons_succ]; rfl)
  case hw20011 => rfl
  case hy20011 => first | (intro wx hSw; obtain ⟨hs1, hs2⟩ := hSw; have hs3 := hs1.cell 0; have hs4 := hs2.cell 0; simp at hs3 hs4; go_simp; done) | (intro wx hSw; obtain ⟨hs1, hs2⟩ := hSw; have hs3 := hs1.cell 0; have hs4 := hs2.cell 0; simp at hs3 hs4; go_simp; with_reducible rfl)
  simp only [Act.put, List.setIfInBounds_toArray, List.set_cons_zero, List.set_cons_succ]
  refine wpAnyH_take (i := 3) (oi := ?oi20012) (v := ?v20012) ?hi20012 (by kernel_rfl) (by kernel_rfl) (by kernel_rfl) (fun _ _ _ h => h) (Or.inl ⟨?hw20012, ?hy20012⟩) (by assumption) ?rest20012
  case hi20012 => (simp only [List.getElem?_toArray, List.getElem?_cons_zero, List.getElem?_cons_succ]; rfl)
  case hw20012 => rfl
  case hy20012 => first | (intro wx hSw; obtain ⟨hs1, hs2⟩ := hSw; have hs3 := hs1.cell 0; have hs4 := hs2.cell 0; simp at hs3 hs4; go_simp; done) | (intro wx hSw; obtain ⟨hs1, hs2⟩ := hSw; have hs3 := hs1.cell 0; have hs4 := hs2.cell 0; simp at hs3 hs4; go_simp; with_reducible rfl)
  simp only [Act.put, List.setIfInBounds_toArray, List.set_cons_zero, List.set_cons_succ]
  refine wpAnyH_take (i := 4) (oi := ?oi20013) (v := ?v20013) ?hi20013 (by kernel_rfl) (by kernel_rfl) (by kernel_rfl) (fun _ _ _ h => h) (Or.inl ⟨?hw20013, ?hy20013⟩) (by assumption) ?rest20013
  case hi20013 => (simp only [List.getElem?_toArray, List.getElem?_cons_zero, List.getElem?_cons_succ]; rfl)
  case hw20013 => rfl
  case hy20013 => first | (intro wx hSw; obtain ⟨hs1, hs2⟩ := hSw; have hs3 := hs1.cell 0; have hs4 := hs2.cell 0; simp at hs3 hs4; go_simp; done) | (intro wx hSw; obtain ⟨hs1, hs2⟩ := hSw; have hs3 := hs1.cell 0; have hs4 := hs2.cell 0; simp at hs3 hs4; go_simp; with_reducible rfl)
  simp only [Act.put, List.setIfInBounds_toArray, List.set_cons_zero, List.set_cons_succ]
  refine wpAnyH_ready (rs := [5]) (by kernel_rfl) (by simp) ?_
  refine AllReadyH.cons rfl (fun K20014 hK20014 => ?_) AllReadyH.nil
  go_simp
  go_wp2_with (refine (unhide CP b o _).mono ?_; rintro e W1 ⟨rfl, rfl⟩)
  refine hK20014.out _ _ ?hs20014 (fun hHeld20014 => ?_)
  case hs20014 => exact hHeld
  clear hHeld
  have hHeld := hHeld20014; clear hHeld20014 hK20014 K20014
  refine wpAnyH_ready (rs := [6]) (by kernel_rfl) (by simp) ?_
  refine AllReadyH.cons rfl (fun K20015 hK20015 => ?_) AllReadyH.nil
  go_simp
  go_wp2_with (refine (unhide CC).mono ?_; rintro e W2 ⟨v2, rfl, hown2, hK2⟩)
  refine hK20015.out _ _ ?hs20015 (fun hHeld20015 => ?_)
  case hs20015 => exact ⟨hHeld.1.keep hK2 (own_ne hown (by omega)), hHeld.2.keep hK2 (own_ne hown (by omega))⟩
  clear hHeld
  have hHeld := hHeld20015; clear hHeld20015 hK20015 K20015
  refine wpAnyH_take (i := 7) (oi := ?oi20016) (v := ?v20016) ?hi20016 (by kernel_rfl) (by kernel_rfl) (by kernel_rfl) (fun _ _ _ h => h) (Or.inl ⟨?hw20016, ?hy20016⟩) (by assumption) ?rest20016
  case hi20016 => (simp only [List.getElem?_toArray, List.getElem?_cons_zero, List.getElem?_cons_succ]; rfl)
  case hw20016 => rfl
  case hy20016 => first | (intro wx hSw; go_simp; done) | (intro wx hSw; go_simp; with_reducible rfl)
  simp only [Act.put, List.setIfInBounds_toArray, List.set_cons_zero, List.set_cons_succ]
  refine wpAnyH_done (by kernel_rfl) ?_ _
  refine NoPanic.normal ?_
  refine hrest _ _ ?_
  clear hHeld
  go_wp2_with fail
  go_ret
  exact ⟨_, rfl, hown2, (KeepB.of_below hWd).trans hK2⟩

set_option maxRecDepth 100000 in
set_option maxHeartbeats 2000000 in
theorem partCmdintPuts {α β : Type} (LS : Lay α) (LF : Lay β) (π : α → β) (k : Nat) (fs ft pl : Value) (Tf Tp : TypeId) (bf bp : Nat) (w0 : World) (D : β → Prop) (f : β → List UInt8) (hsub : ∀ x b o g W, LS.R x b o g W → LF.R (π x) b (o + k) g W)
    (hf : Puts fs w0 LF D f) (hp : Place pl k) (hbf0 : Blk bf #[fs, ft] Tf w0) (hbp0 : Blk bp #[pl] Tp w0) : Puts (.func (.func 100) #[] #[ptr bf 0, ptr bp 0]) w0 LS (fun x => D (π x)) (fun x => f (π x)) := by
  obtain ⟨K, caps, rfl, hE, hc⟩ := hf
  obtain ⟨KP, rfl, hEP, hcp⟩ := hp
  refine ⟨_, _, rfl, (fun _ _ => by kernel_rfl), fun x W base v xs b o g hB h2 h3 hown hR n1 n2 hD hl => ?_⟩
  simp only [List.append_toArray, List.cons_append, List.nil_append]
  have hbf := hbf0.below hB
  have hbp := hbp0.below hB
  have hlf := hbf0.lt
  have hlp := hbp0.lt
  have C := hide hc
  have CP := hide hcp
  clear hc hcp
  go_enter Try.func100, Try.ntmps100
  go_wp2
  rename_i hrest
  have hWd : Below W.heap.size W W.drew := (Below.refl _ _).drew
  refine wp_region_noPanic ?_
  refine wp_region_held_drew (S := (fun X => Blk bf #[.func (.func K) #[] caps, ft] Tf X ∧ Blk bp #[.func (.func KP) #[] #[]] Tp X)) (by kernel_rfl) (⟨hbf.below (Below.refl _ _).drew, hbp.below (Below.refl _ _).drew⟩) (fun hHeld => ?_)
  clear hbf hbp
  generalize W.drew = Wd at *
  have hownd := hown.below hWd
  have CC := hide (unhide C (π x) Wd base v xs b (o + k) g (Below.onto hB hWd) h2 (Nat.le_trans h3 hWd.size) hownd (hsub _ _ _ _ _ (Lay.below hR hWd)) n1 n2 hD hl)
  clear C
  refine wpAnyH_take (i := 0) (oi := ?oi20017) (v := ?v20017) ?hi20017 (by kernel_rfl) (by kernel_rfl) (by kernel_rfl) (fun _ _ _ h => h) (Or.inl ⟨?hw20017, ?hy20017⟩) (by assumption) ?rest20017
  case hi20017 => (simp only [List.getElem?_toArray, List.getElem?_cons_zero]; rfl)
  case hw20017 => rfl
  case hy20017 => first | (intro wx hSw; obtain ⟨hs1, hs2⟩ := hSw; have hs3 := hs1.cell 0; have hs4 := hs2.cell 0; simp at hs3 hs4; go_simp; done) | (intro wx hSw; obtain ⟨hs1, hs2⟩ := hSw; have hs3 := hs1.cell 0; have hs4 := hs2.cell 0; simp at hs3 hs4; go_simp; with_reducible rfl)
  simp only [Act.put, List.setIfInBounds_toArray, List.set_cons_zero, List.set_cons_succ]
  refine wpAnyH_take (i := 1) (oi := ?oi20018) (v := ?v20018) ?hi20018 (by kernel_rfl) (by kernel_rfl) (by kernel_rfl) (fun _ _ _ h => h) (Or.inl ⟨?hw20018, ?hy20018⟩) (by assumption) ?rest20018
  case hi20018 => (simp only [List.getElem?_toArray, List.getElem?_cons_zero, List.getElem?_cons_succ]; rfl)
  case hw20018 => rfl
  case hy20018 => first | (intro wx hSw; obtain ⟨hs1, hs2⟩ := hSw; have hs3 := hs1.cell 0; have hs4 := hs2.cell 0; simp at hs3 hs4; go_simp; done) | (intro wx hSw; obtain ⟨hs1, hs2⟩ := hSw; have hs3 := hs1.cell 0; have hs4 := hs2.cell 0; simp at hs3 hs4; go_simp; with_reducible rfl)
  simp only [Act.put, List.setIfInBounds_toArray, List.set_cons_zero, List.set_cons_succ]
  refine wpAnyH_take (i := 2) (oi := ?oi20019) (v := ?v20019) ?hi20019 (by kernel_rfl) (by kernel_rfl) (by kernel_rfl) (fun _ _ _ h => h) (Or.inl ⟨?hw20019, ?hy20019⟩) (by assumption) ?rest20019
  case hi20019 => (simp only [List.getElem?_toArray, List.getElem?_cons_zero, List.getElem?_cons_succ]; rfl)
  case hw20019 => rfl
  case hy20019 => first | (intro wx hSw; obtain ⟨hs1, hs2⟩ := hSw; have hs3 := hs1.cell 0; have hs4 := hs2.cell 0; simp at hs3 hs4; go_simp; done) | (intro wx hSw; obtain ⟨hs1, hs2⟩ := hSw; have hs3 := hs1.cell 0; have hs4 := hs2.cell 0; simp at hs3 hs4; go_simp; with_reducible rfl)
  simp only [Act.put, List.setIfInBounds_toArray, List.set_cons_zero, List.set_cons_succ]
  refine wpAnyH_take (i := 3) (oi := ?oi20020) (v := ?v20020) ?hi20020 (by kernel_rfl) (by kernel_rfl) (by kernel_rfl) (fun _ _ _ h => h) (Or.inl ⟨?hw20020, ?hy20020⟩) (by assumption) ?rest20020
  case hi20020 => (simp only [List.getElem?_toArray, List.getElem?_cons_zero, List.getElem?_cons_succ]; rfl)
  case hw20020 => rfl
  case hy20020 => first | (intro wx hSw; obtain ⟨hs1, hs2⟩ := hSw; have hs3 := hs1.cell 0; have hs4 := hs2.cell 0; simp at hs3 hs4; go_simp; done) | (intro wx hSw; obtain ⟨hs1, hs2⟩ := hSw; have hs3 := hs1.cell 0; have hs4 := hs2.cell 0; simp at hs3 hs4; go_simp; with_reducible rfl)
  simp only [Act.put, List.setIfInBounds_toArray, List.set_cons_zero, List.set_cons_succ]
  refine wpAnyH_take (i := 4) (oi := ?oi20021) (v := ?v20021) ?hi20021 (by kernel_rfl) (by kernel_rfl) (by kernel_rfl) (fun _ _ _ h => h) (Or.inl ⟨?hw20021, ?hy20021⟩) (by assumption) ?rest20021
  case hi20021 => (simp only [List.getElem?_toArray, List.getElem?_cons_zero, List.getElem?_cons_succ]; rfl)
  case hw20021 => rfl
  case hy20021 => first | (intro wx hSw; obtain ⟨hs1, hs2⟩ := hSw; have hs3 := hs1.cell 0; have hs4 := hs2.cell 0; simp at hs3 hs4; go_simp; done) | (intro wx hSw; obtain ⟨hs1, hs2⟩ := hSw; have hs3 := hs1.cell 0; have hs4 := hs2.cell 0; simp at hs3 hs4; go_simp; with_reducible rfl)
  simp only [Act.put, List.setIfInBounds_toArray, List.set_cons_zero, List.set_cons_succ]
  refine wpAnyH_ready (rs := [5]) (by kernel_rfl) (by simp) ?_
  refine AllReadyH.cons rfl (fun K20022 hK20022 => ?_) AllReadyH.nil
  go_simp
  go_wp2_with (refine (unhide CP b o _).mono ?_; rintro e W1 ⟨rfl, rfl⟩)
  refine hK20022.out _ _ ?hs20022 (fun hHeld20022 => ?_)
  case hs20022 => exact hHeld
  clear hHeld
  have hHeld := hHeld20022; clear hHeld20022 hK20022 K20022
  refine wpAnyH_ready (rs := [6]) (by kernel_rfl) (by simp) ?_
  refine AllReadyH.cons rfl (fun K20023 hK20023 => ?_) AllReadyH.nil
  go_simp
  go_wp2_with (refine (unhide CC).mono ?_; rintro e W2 ⟨v2, rfl, hown2, hK2⟩)
  refine hK20023.out _ _ ?hs20023 (fun hHeld20023 => ?_)
  case hs20023 => exact ⟨hHeld.1.keep hK2 (own_ne hown (by omega)), hHeld.2.keep hK2 (own_ne hown (by omega))⟩
  clear hHeld
  have hHeld := hHeld20023; clear hHeld20023 hK20023 K20023
  refine wpAnyH_take (i := 7) (oi := ?oi20024) (v := ?v20024) ?hi20024 (by kernel_rfl) (by kernel_rfl) (by kernel_rfl) (fun _ _ _ h => h) (Or.inl ⟨?hw20024, ?hy20024⟩) (by assumption) ?rest20024
  case hi20024 => (simp only [List.getElem?_toArray, List.getElem?_cons_zero, List.getElem?_cons_succ]; rfl)
  case hw20024 => rfl
  case hy20024 => first | (intro wx hSw; go_simp; done) | (intro wx hSw; go_simp; with_reducible rfl)
  simp only [Act.put, List.setIfInBounds_toArray, List.set_cons_zero, List.set_cons_succ]
  refine wpAnyH_done (by kernel_rfl) ?_ _
  refine NoPanic.normal ?_
  refine hrest _ _ ?_
  clear hHeld
  go_wp2_with fail
  go_ret
  exact ⟨_, rfl, hown2, (KeepB.of_below hWd).trans hK2⟩

set_option maxRecDepth 100000 in
set_option maxHeartbeats 2000000 in
theorem partCmdboolPuts {α β : Type} (LS : Lay α) (LF : Lay β) (π : α → β) (k : Nat) (fs ft pl : Value) (Tf Tp : TypeId) (bf bp : Nat) (w0 : World) (D : β → Prop) (f : β → List UInt8) (hsub : ∀ x b o g W, LS.R x b o g W → LF.R (π x) b (o + k) g W)
    (hf : Puts fs w0 LF D f) (hp : Place pl k) (hbf0 : Blk bf #[fs, ft] Tf w0) (hbp0 : Blk bp #[pl] Tp w0) : Puts (.func (.func 102) #[] #[ptr bf 0, ptr bp 0]) w0 LS (fun x => D (π x)) (fun x => f (π x)) := by
  obtain ⟨K, caps, rfl, hE, hc⟩ := hf
  obtain ⟨KP, rfl, hEP, hcp⟩ := hp
  refine ⟨_, _, rfl, (fun _ _ => by kernel_rfl), fun x W base v xs b o g hB h2 h3 hown hR n1 n2 hD hl => ?_⟩
  simp only [List.append_toArray, List.cons_append, List.nil_append]
  have hbf := hbf0.below hB
  have hbp := hbp0.below hB
  have hlf := hbf0.lt
  have hlp := hbp0.lt
  have C := hide hc
  have CP := hide hcp
  clear hc hcp
  go_enter Try.func102, Try.ntmps102
  go_wp2
  rename_i hrest
  have hWd : Below W.heap.size W W.drew := (Below.refl _ _).drew
  refine wp_region_noPanic ?_
  refine wp_region_held_drew (S := (fun X => Blk bf #[.func (.func K) #[] caps, ft] Tf X ∧ Blk bp #[.func (.func KP) #[] #[]] Tp X)) (by kernel_rfl) (⟨hbf.below (Below.refl _ _).drew, hbp.below (Below.refl _ _).drew⟩) (fun hHeld => ?_)
  clear hbf hbp
  generalize W.drew = Wd at *
  have hownd := hown.below hWd
  have CC := hide (unhide C (π x) Wd base v xs b (o + k) g (Below.onto hB hWd) h2 (Nat.le_trans h3 hWd.size) hownd (hsub _ _ _ _ _ (Lay.below hR hWd)) n1 n2 hD hl)
  clear C
  refine wpAnyH_take (i := 0) (oi := ?oi20025) (v := ?v20025) ?hi20025 (by kernel_rfl) (by kernel_rfl) (by kernel_rfl) (fun _ _ _ h => h) (Or.inl ⟨?hw20025, ?hy20025⟩) (by assumption) ?rest20025
  case hi20025 => (simp only [List.getElem?_toArray, List.getElem?_cons_zero]; rfl)
  case hw20025 => rfl
  case hy20025 => first | (intro wx hSw; obtain ⟨hs1, hs2⟩ := hSw; have hs3 := hs1.cell 0; have hs4 := hs2.cell 0; simp at hs3 hs4; go_simp; done) | (intro wx hSw; obtain ⟨hs1, hs2⟩ := hSw; have hs3 := hs1.cell 0; have hs4 := hs2.cell 0; simp at hs3 hs4; go_simp; with_reducible rfl)
  simp only [Act.put, List.setIfInBounds_toArray, List.set_cons_zero, List.set_cons_succ]
  refine wpAnyH_take (i := 1) (oi := ?oi20026) (v := ?v20026) ?hi20026 (by kernel_rfl) (by kernel_rfl) (by kernel_rfl) (fun _ _ _ h => h) (Or.inl ⟨?hw20026, ?hy20026⟩) (by assumption) ?rest20026
  case hi20026 => (simp only [List.getElem?_toArray, List.getElem?_cons_zero, List.getElem?_cons_succ]; rfl)
  case hw20026 => rfl
  case hy20026 => first | (intro wx hSw; obtain ⟨hs1, hs2⟩ := hSw; have hs3 := hs1.cell 0; have hs4 := hs2.cell 0; simp at hs3 hs4; go_simp; done) | (intro wx hSw; obtain ⟨hs1, hs2⟩ := hSw; have hs3 := hs1.cell 0; have hs4 := hs2.cell 0; simp at hs3 hs4; go_simp; with_reducible rfl)
  simp only [Act.put, List.setIfInBounds_toArray, List.set_cons_zero, List.set_cons_succ]
  refine wpAnyH_take (i := 2) (oi := ?oi20027) (v := ?v20027) ?hi20027 (by kernel_rfl) (by kernel_rfl) (by kernel_rfl) (fun _ _ _ h => h) (Or.inl ⟨?hw20027, ?hy20027⟩) (by assumption) ?rest20027
  case hi20027 => (simp only [List.getElem?_toArray, List.getElem?_cons_zero, List.getElem?_cons_succ]; rfl)
  case hw20027 => rfl
  case hy20027 => first | (intro wx hSw; obtain ⟨hs1, hs2⟩ := hSw; have hs3 := hs1.cell 0; have hs4 := hs2.cell 0; simp at hs3 hs4; go_simp; done) | (intro wx hSw; obtain ⟨hs1, hs2⟩ := hSw; have hs3 := hs1.cell 0; have hs4 := hs2.cell 0; simp at hs3 hs4; go_simp; with_reducible rfl)
  simp only [Act.put, List.setIfInBounds_toArray, List.set_cons_zero, List.set_cons_succ]
  refine wpAnyH_take (i := 3) (oi := ?oi20028) (v := ?v20028) ?hi20028 (by kernel_rfl) (by kernel_rfl) (by kernel_rfl) (fun _ _ _ h => h) (Or.inl ⟨?hw20028, ?hy20028⟩) (by assumption) ?rest20028
  case hi20028 => (simp only [List.getElem?_toArray, List.getElem?_cons_zero, List.getElem?_cons_succ]; rfl)
  case hw20028 => rfl
  case hy20028 => first | (intro wx hSw; obtain ⟨hs1, hs2⟩ := hSw; have hs3 := hs1.cell 0; have hs4 := hs2.cell 0; simp at hs3 hs4; go_simp; done) | (intro wx hSw; obtain ⟨hs1, hs2⟩ := hSw; have hs3 := hs1.cell 0; have hs4 := hs2.cell 0; simp at hs3 hs4; go_simp; with_reducible rfl)
  simp only [Act.put, List.setIfInBounds_toArray, List.set_cons_zero, List.set_cons_succ]
  refine wpAnyH_take (i := 4) (oi := ?oi20029) (v := ?v20029) ?hi20029 (by kernel_rfl) (by kernel_rfl) (by kernel_rfl) (fun _ _ _ h => h) (Or.inl ⟨?hw20029, ?hy20029⟩) (by assumption) ?rest20029
  case hi20029 => (simp only [List.getElem?_toArray, List.getElem?_cons_zero, List.getElem?_cons_succ]; rfl)
  case hw20029 => rfl
  case hy20029 => first | (intro wx hSw; obtain ⟨hs1, hs2⟩ := hSw; have hs3 := hs1.cell 0; have hs4 := hs2.cell 0; simp at hs3 hs4; go_simp; done) | (intro wx hSw; obtain ⟨hs1, hs2⟩ := hSw; have hs3 := hs1.cell 0; have hs4 := hs2.cell 0; simp at hs3 hs4; go_simp; with_reducible rfl)
  simp only [Act.put, List.setIfInBounds_toArray, List.set_cons_zero, List.set_cons_succ]
  refine wpAnyH_ready (rs := [5]) (by kernel_rfl) (by simp) ?_
  refine AllReadyH.cons rfl (fun K20030 hK20030 => ?_) AllReadyH.nil
  go_simp
  go_wp2_with (refine (unhide CP b o _).mono ?_; rintro e W1 ⟨rfl, rfl⟩)
  refine hK20030.out _ _ ?hs20030 (fun hHeld20030 => ?_)
  case hs20030 => exact hHeld
  clear hHeld
  have hHeld := hHeld20030; clear hHeld20030 hK20030 K20030
  refine wpAnyH_ready (rs := [6]) (by kernel_rfl) (by simp) ?_
  refine AllReadyH.cons rfl (fun K20031 hK20031 => ?_) AllReadyH.nil
  go_simp
  go_wp2_with (refine (unhide CC).mono ?_; rintro e W2 ⟨v2, rfl, hown2, hK2⟩)
  refine hK20031.out _ _ ?hs20031 (fun hHeld20031 => ?_)
  case hs20031 => exact ⟨hHeld.1.keep hK2 (own_ne hown (by omega)), hHeld.2.keep hK2 (own_ne hown (by omega))⟩
  clear hHeld
  have hHeld := hHeld20031; clear hHeld20031 hK20031 K20031
  refine wpAnyH_take (i := 7) (oi := ?oi20032) (v := ?v20032) ?hi20032 (by kernel_rfl) (by kernel_rfl) (by kernel_rfl) (fun _ _ _ h => h) (Or.inl ⟨?hw20032, ?hy20032⟩) (by assumption) ?rest20032
  case hi20032 => (simp only [List.getElem?_toArray, List.getElem?_cons_zero, List.getElem?_cons_succ]; rfl)
  case hw20032 => rfl
  case hy20032 => first | (intro wx hSw; go_simp; done) | (intro wx hSw; go_simp; with_reducible rfl)
  simp only [Act.put, List.setIfInBounds_toArray, List.set_cons_zero, List.set_cons_succ]
  refine wpAnyH_done (by kernel_rfl) ?_ _
  refine NoPanic.normal ?_
  refine hrest _ _ ?_
  clear hHeld
  go_wp2_with fail
  go_ret
  exact ⟨_, rfl, hown2, (KeepB.of_below hWd).trans hK2⟩

set_option maxRecDepth 100000 in
set_option maxHeartbeats 2000000 in
theorem partCmdstringPuts {α β : Type} (LS : Lay α) (LF : Lay β) (π : α → β) (k : Nat) (fs ft pl : Value) (Tf Tp : TypeId) (bf bp : Nat) (w0 : World) (D : β → Prop) (f : β → List UInt8) (hsub : ∀ x b o g W, LS.R x b o g W → LF.R (π x) b (o + k) g W)
    (hf : Puts fs w0 LF D f) (hp : Place pl k) (hbf0 : Blk bf #[fs, ft] Tf w0) (hbp0 : Blk bp #[pl] Tp w0) : Puts (.func (.func 95) #[] #[ptr bf 0, ptr bp 0]) w0 LS (fun x => D (π x)) (fun x => f (π x)) := by
  obtain ⟨K, caps, rfl, hE, hc⟩ := hf
  obtain ⟨KP, rfl, hEP, hcp⟩ := hp
  refine ⟨_, _, rfl, (fun _ _ => by kernel_rfl), fun x W base v xs b o g hB h2 h3 hown hR n1 n2 hD hl => ?_⟩
  simp only [List.append_toArray, List.cons_append, List.nil_append]
  have hbf := hbf0.below hB
  have hbp := hbp0.below hB
  have hlf := hbf0.lt
  have hlp := hbp0.lt
  have C := hide hc
  have CP := hide hcp
  clear hc hcp
  go_enter Try.func95, Try.ntmps95
  go_wp2
  rename_i hrest
  have hWd : Below W.heap.size W W.drew := (Below.refl _ _).drew
  refine wp_region_noPanic ?_
  refine wp_region_held_drew (S := (fun X => Blk bf #[.func (.func K) #[] caps, ft] Tf X ∧ Blk bp #[.func (.func KP) #[] #[]] Tp X)) (by kernel_rfl) (⟨hbf.below (Below.refl _ _).drew, hbp.below (Below.refl _ _).drew⟩) (fun hHeld => ?_)
  clear hbf hbp
  generalize W.drew = Wd at *
  have hownd := hown.below hWd
  have CC := hide (unhide C (π x) Wd base v xs b (o + k) g (Below.onto hB hWd) h2 (Nat.le_trans h3 hWd.size) hownd (hsub _ _ _ _ _ (Lay.below hR hWd)) n1 n2 hD hl)
  clear C
  refine wpAnyH_take (i := 0) (oi := ?oi20033) (v := ?v20033) ?hi20033 (by kernel_rfl) (by kernel_rfl) (by kernel_rfl) (fun _ _ _ h => h) (Or.inl ⟨?hw20033, ?hy20033⟩) (by assumption) ?rest20033
  case hi20033 => (simp only [List.getElem?_toArray, List.getElem?_cons_zero]; rfl)
  case hw20033 => rfl
  case hy20033 => first | (intro wx hSw; obtain ⟨hs1, hs2⟩ := hSw; have hs3 := hs1.cell 0; have hs4 := hs2.cell 0; simp at hs3 hs4; go_simp; done) | (intro wx hSw; obtain ⟨hs1, hs2⟩ := hSw; have hs3 := hs1.cell 0; have hs4 := hs2.cell 0; simp at hs3 hs4; go_simp; with_reducible rfl)
  simp only [Act.put, List.setIfInBounds_toArray, List.set_cons_zero, List.set_cons_succ]
  refine wpAnyH_take (i := 1) (oi := ?oi20034) (v := ?v20034) ?hi20034 (by kernel_rfl) (by kernel_rfl) (by kernel_rfl) (fun _ _ _ h => h) (Or.inl ⟨?hw20034, ?hy20034⟩) (by assumption) ?rest20034
  case hi20034 => (simp only [List.getElem?_toArray, List.getElem?_cons_zero, List.getElem?_cons_succ]; rfl)
  case hw20034 => rfl
  case hy20034 => first | (intro wx hSw; obtain ⟨hs1, hs2⟩ := hSw; have hs3 := hs1.cell 0; have hs4 := hs2.cell 0; simp at hs3 hs4; go_simp; done) | (intro wx hSw; obtain ⟨hs1, hs2⟩ := hSw; have hs3 := hs1.cell 0; have hs4 := hs2.cell 0; simp at hs3 hs4; go_simp; with_reducible rfl)
  simp only [Act.put, List.setIfInBounds_toArray, List.set_cons_zero, List.set_cons_succ]
  refine wpAnyH_take (i := 2) (oi := ?oi20035) (v := ?v20035) ?hi20035 (by kernel_rfl) (by kernel_rfl) (by kernel_rfl) (fun _ _ _ h => h) (Or.inl ⟨?hw20035, ?hy20035⟩) (by assumption) ?rest20035
  case hi20035 => (simp only [List.getElem?_toArray, List.getElem?_cons_zero, List.getElem?_cons_succ]; rfl)
  case hw20035 => rfl
  case hy20035 => first | (intro wx hSw; obtain ⟨hs1, hs2⟩ := hSw; have hs3 := hs1.cell 0; have hs4 := hs2.cell 0; simp at hs3 hs4; go_simp; done) | (intro wx hSw; obtain ⟨hs1, hs2⟩ := hSw; have hs3 := hs1.cell 0; have hs4 := hs2.cell 0; simp at hs3 hs4; go_simp; with_reducible rfl)
  simp only [Act.put, List.setIfInBounds_toArray, List.set_cons_zero, List.set_cons_succ]
  refine wpAnyH_take (i := 3) (oi := ?oi20036) (v := ?v20036) ?hi20036 (by kernel_rfl) (by kernel_rfl) (by kernel_rfl) (fun _ _ _ h => h) (Or.inl ⟨?hw20036, ?hy20036⟩) (by assumption) ?rest20036
  case hi20036 => (simp only [List.getElem?_toArray, List.getElem?_cons_zero, List.getElem?_cons_succ]; rfl)
  case hw20036 => rfl
  case hy20036 => first | (intro wx hSw; obtain ⟨hs1, hs2⟩ := hSw; have hs3 := hs1.cell 0; have hs4 := hs2.cell 0; simp at hs3 hs4; go_simp; done) | (intro wx hSw; obtain ⟨hs1, hs2⟩ := hSw; have hs3 := hs1.cell 0; have hs4 := hs2.cell 0; simp at hs3 hs4; go_simp; with_reducible rfl)
  simp only [Act.put, List.setIfInBounds_toArray, List.set_cons_zero, List.set_cons_succ]
  refine wpAnyH_take (i := 4) (oi := ?oi20037) (v := ?v20037) ?hi20037 (by kernel_rfl) (by kernel_rfl) (by kernel_rfl) (fun _ _ _ h => h) (Or.inl ⟨?hw20037, ?hy20037⟩) (by assumption) ?rest20037
  case hi20037 => (simp only [List.getElem?_toArray, List.getElem?_cons_zero, List.getElem?_cons_succ]; rfl)
  case hw20037 => rfl
  case hy20037 => first | (intro wx hSw; obtain ⟨hs1, hs2⟩ := hSw; have hs3 := hs1.cell 0; have hs4 := hs2.cell 0; simp at hs3 hs4; go_simp; done) | (intro wx hSw; obtain ⟨hs1, hs2⟩ := hSw; have hs3 := hs1.cell 0; have hs4 := hs2.cell 0; simp at hs3 hs4; go_simp; with_reducible rfl)
  simp only [Act.put, List.setIfInBounds_toArray, List.set_cons_zero, List.set_cons_succ]
  refine wpAnyH_ready (rs := [5]) (by kernel_rfl) (by simp) ?_
  refine AllReadyH.cons rfl (fun K20038 hK20038 => ?_) AllReadyH.nil
  go_simp
  go_wp2_with (refine (unhide CP b o _).mono ?_; rintro e W1 ⟨rfl, rfl⟩)
  refine hK20038.out _ _ ?hs20038 (fun hHeld20038 => ?_)
  case hs20038 => exact hHeld
  clear hHeld
  have hHeld := hHeld20038; clear hHeld20038 hK20038 K20038
  refine wpAnyH_ready (rs := [6]) (by kernel_rfl) (by simp) ?_
  refine AllReadyH.cons rfl (fun K20039 hK20039 => ?_) AllReadyH.nil
  go_simp
  go_wp2_with (refine (unhide CC).mono ?_; rintro e W2 ⟨v2, rfl, hown2, hK2⟩)
  refine hK20039.out _ _ ?hs20039 (fun hHeld20039 => ?_)
  case hs20039 => exact ⟨hHeld.1.keep hK2 (own_ne hown (by omega)), hHeld.2.keep hK2 (own_ne hown (by omega))⟩
  clear hHeld
  have hHeld := hHeld20039; clear hHeld20039 hK20039 K20039
  refine wpAnyH_take (i := 7) (oi := ?oi20040) (v := ?v20040) ?hi20040 (by kernel_rfl) (by kernel_rfl) (by kernel_rfl) (fun _ _ _ h => h) (Or.inl ⟨?hw20040, ?hy20040⟩) (by assumption) ?rest20040
  case hi20040 => (simp only [List.getElem?_toArray, List.getElem?_cons_zero, List.getElem?_cons_succ]; rfl)
  case hw20040 => rfl
  case hy20040 => first | (intro wx hSw; go_simp; done) | (intro wx hSw; go_simp; with_reducible rfl)
  simp only [Act.put, List.setIfInBounds_toArray, List.set_cons_zero, List.set_cons_succ]
  refine wpAnyH_done (by kernel_rfl) ?_ _
  refine NoPanic.normal ?_
  refine hrest _ _ ?_
  clear hHeld
  go_wp2_with fail
  go_ret
  exact ⟨_, rfl, hown2, (KeepB.of_below hWd).trans hK2⟩

set_option maxRecDepth 100000 in
set_option maxHeartbeats 2000000 in
theorem partCmdWritesPuts {α β : Type} (LS : Lay α) (LF : Lay β) (π : α → β) (k : Nat) (fs ft pl : Value) (Tf Tp : TypeId) (bf bp : Nat) (w0 : World) (D : β → Prop) (f : β → List UInt8) (hsub : ∀ x b o g W, LS.R x b o g W → LF.R (π x) b (o + k) g W)
    (hf : Puts fs w0 LF D f) (hp : Place pl k) (hbf0 : Blk bf #[fs, ft] Tf w0) (hbp0 : Blk bp #[pl] Tp w0) : Puts (.func (.func 87) #[] #[ptr bf 0, ptr bp 0]) w0 LS (fun x => D (π x)) (fun x => f (π x)) := by
  obtain ⟨K, caps, rfl, hE, hc⟩ := hf
  obtain ⟨KP, rfl, hEP, hcp⟩ := hp
  refine ⟨_, _, rfl, (fun _ _ => by kernel_rfl), fun x W base v xs b o g hB h2 h3 hown hR n1 n2 hD hl => ?_⟩
  simp only [List.append_toArray, List.cons_append, List.nil_append]
  have hbf := hbf0.below hB
  have hbp := hbp0.below hB
  have hlf := hbf0.lt
  have hlp := hbp0.lt
  have C := hide hc
  have CP := hide hcp
  clear hc hcp
  go_enter Try.func87, Try.ntmps87
  go_wp2
  rename_i hrest
  have hWd : Below W.heap.size W W.drew := (Below.refl _ _).drew
  refine wp_region_noPanic ?_
  refine wp_region_held_drew (S := (fun X => Blk bf #[.func (.func K) #[] caps, ft] Tf X ∧ Blk bp #[.func (.func KP) #[] #[]] Tp X)) (by kernel_rfl) (⟨hbf.below (Below.refl _ _).drew, hbp.below (Below.refl _ _).drew⟩) (fun hHeld => ?_)
  clear hbf hbp
  generalize W.drew = Wd at *
  have hownd := hown.below hWd
  have CC := hide (unhide C (π x) Wd base v xs b (o + k) g (Below.onto hB hWd) h2 (Nat.le_trans h3 hWd.size) hownd (hsub _ _ _ _ _ (Lay.below hR hWd)) n1 n2 hD hl)
  clear C
  refine wpAnyH_take (i := 0) (oi := ?oi20041) (v := ?v20041) ?hi20041 (by kernel_rfl) (by kernel_rfl) (by kernel_rfl) (fun _ _ _ h => h) (Or.inl ⟨?hw20041, ?hy20041⟩) (by assumption) ?rest20041
  case hi20041 => (simp only [List.getElem?_toArray, List.getElem?_cons_zero]; rfl)
  case hw20041 => rfl
  case hy20041 => first | (intro wx hSw; obtain ⟨hs1, hs2⟩ := hSw; have hs3 := hs1.cell 0; have hs4 := hs2.cell 0; simp at hs3 hs4; go_simp; done) | (intro wx hSw; obtain ⟨hs1, hs2⟩ := hSw; have hs3 := hs1.cell 0; have hs4 := hs2.cell 0; simp at hs3 hs4; go_simp; with_reducible rfl)
  simp only [Act.put, List.setIfInBounds_toArray, List.set_cons_zero, List.set_cons_succ]
  refine wpAnyH_take (i := 1) (oi := ?oi20042) (v := ?v20042) ?hi20042 (by kernel_rfl) (by kernel_rfl) (by kernel_rfl) (fun _ _ _ h => h) (Or.inl ⟨?hw20042, ?hy20042⟩) (by assumption) ?rest20042
  case hi20042 => (simp only [List.getElem?_toArray, List.getElem?_cons_zero, List.getElem?_cons_succ]; rfl)
  case hw20042 => rfl
  case hy20042 => first | (intro wx hSw; obtain ⟨hs1, hs2⟩ := hSw; have hs3 := hs1.cell 0; have hs4 := hs2.cell 0; simp at hs3 hs4; go_simp; done) | (intro wx hSw; obtain ⟨hs1, hs2⟩ := hSw; have hs3 := hs1.cell 0; have hs4 := hs2.cell 0; simp at hs3 hs4; go_simp; with_reducible rfl)
  simp only [Act.put, List.setIfInBounds_toArray, List.set_cons_zero, List.set_cons_succ]
  refine wpAnyH_take (i := 2) (oi := ?oi20043) (v := ?v20043) ?hi20043 (by kernel_rfl) (by kernel_rfl) (by kernel_rfl) (fun _ _ _ h => h) (Or.inl ⟨?hw20043, ?hy20043⟩) (by assumption) ?rest20043
  case hi20043 => (simp only [List.getElem?_toArray, List.getElem?_cons_zero, List.getElem?_cons_succ]; rfl)
  case hw20043 => rfl
  case hy20043 => first | (intro wx hSw; obtain ⟨hs1, hs2⟩ := hSw; have hs3 := hs1.cell 0; have hs4 := hs2.cell 0; simp at hs3 hs4; go_simp; done) | (intro wx hSw; obtain ⟨hs1, hs2⟩ := hSw; have hs3 := hs1.cell 0; have hs4 := hs2.cell 0; simp at hs3 hs4; go_simp; with_reducible rfl)
  simp only [Act.put, List.setIfInBounds_toArray, List.set_cons_zero, List.set_cons_succ]
  refine wpAnyH_take (i := 3) (oi := ?oi20044) (v := ?v20044) ?hi20044 (by kernel_rfl) (by kernel_rfl) (by kernel_rfl) (fun _ _ _ h => h) (Or.inl ⟨?hw20044, ?hy20044⟩) (by assumption) ?rest20044
  case hi20044 => (simp only [List.getElem?_toArray, List.getElem?_cons_zero, List.getElem?_cons_succ]; rfl)
  case hw20044 => rfl
  case hy20044 => first | (intro wx hSw; obtain ⟨hs1, hs2⟩ := hSw; have hs3 := hs1.cell 0; have hs4 := hs2.cell 0; simp at hs3 hs4; go_simp; done) | (intro wx hSw; obtain ⟨hs1, hs2⟩ := hSw; have hs3 := hs1.cell 0; have hs4 := hs2.cell 0; simp at hs3 hs4; go_simp; with_reducible rfl)
  simp only [Act.put, List.setIfInBounds_toArray, List.set_cons_zero, List.set_cons_succ]
  refine wpAnyH_take (i := 4) (oi := ?oi20045) (v := ?v20045) ?hi20045 (by kernel_rfl) (by kernel_rfl) (by kernel_rfl) (fun _ _ _ h => h) (Or.inl ⟨?hw20045, ?hy20045⟩) (by assumption) ?rest20045
  case hi20045 => (simp only [List.getElem?_toArray, List.getElem?_cons_zero, List.getElem?_cons_succ]; rfl)
  case hw20045 => rfl
  case hy20045 => first | (intro wx hSw; obtain ⟨hs1, hs2⟩ := hSw; have hs3 := hs1.cell 0; have hs4 := hs2.cell 0; simp at hs3 hs4; go_simp; done) | (intro wx hSw; obtain ⟨hs1, hs2⟩ := hSw; have hs3 := hs1.cell 0; have hs4 := hs2.cell 0; simp at hs3 hs4; go_simp; with_reducible rfl)
  simp only [Act.put, List.setIfInBounds_toArray, List.set_cons_zero, List.set_cons_succ]
  refine wpAnyH_ready (rs := [5]) (by kernel_rfl) (by simp) ?_
  refine AllReadyH.cons rfl (fun K20046 hK20046 => ?_) AllReadyH.nil
  go_simp
  go_wp2_with (refine (unhide CP b o _).mono ?_; rintro e W1 ⟨rfl, rfl⟩)
  refine hK20046.out _ _ ?hs20046 (fun hHeld20046 => ?_)
  case hs20046 => exact hHeld
  clear hHeld
  have hHeld := hHeld20046; clear hHeld20046 hK20046 K20046
  refine wpAnyH_ready (rs := [6]) (by kernel_rfl) (by simp) ?_
  refine AllReadyH.cons rfl (fun K20047 hK20047 => ?_) AllReadyH.nil
  go_simp
  go_wp2_with (refine (unhide CC).mono ?_; rintro e W2 ⟨v2, rfl, hown2, hK2⟩)
  refine hK20047.out _ _ ?hs20047 (fun hHeld20047 => ?_)
  case hs20047 => exact ⟨hHeld.1.keep hK2 (own_ne hown (by omega)), hHeld.2.keep hK2 (own_ne hown (by omega))⟩
  clear hHeld
  have hHeld := hHeld20047; clear hHeld20047 hK20047 K20047
  refine wpAnyH_take (i := 7) (oi := ?oi20048) (v := ?v20048) ?hi20048 (by kernel_rfl) (by kernel_rfl) (by kernel_rfl) (fun _ _ _ h => h) (Or.inl ⟨?hw20048, ?hy20048⟩) (by assumption) ?rest20048
  case hi20048 => (simp only [List.getElem?_toArray, List.getElem?_cons_zero, List.getElem?_cons_succ]; rfl)
  case hw20048 => rfl
  case hy20048 => first | (intro wx hSw; go_simp; done) | (intro wx hSw; go_simp; with_reducible rfl)
  simp only [Act.put, List.setIfInBounds_toArray, List.set_cons_zero, List.set_cons_succ]
  refine wpAnyH_done (by kernel_rfl) ?_ _
  refine NoPanic.normal ?_
  refine hrest _ _ ?_
  clear hHeld
  go_wp2_with fail
  go_ret
  exact ⟨_, rfl, hown2, (KeepB.of_below hWd).trans hK2⟩
end Go.Proofs.Ytjmmfgmmmdbenaa
