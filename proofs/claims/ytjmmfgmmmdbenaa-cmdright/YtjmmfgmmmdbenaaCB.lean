/-
  Package cmd: parts of a struct, taken.
-/
import Derived.Test.YtjmmfgmmmdbenaaC9
namespace Go.Proofs.Ytjmmfgmmmdbenaa
open Go.RowKit
set_option linter.unusedSimpArgs false
set_option linter.unusedVariables false

theorem TPost.part {α β : Type} {LS : LayT α} {LF : LayT β} {π : α → β} {upd : α → β → α} {k : Nat} {P Q : α → Prop} {QF : β → Prop} {M M' : α → α → Prop} {q : Option (α × List UInt8)} {W Wd W' : World} {b o base : Nat} {s : ByteArray} {e : Ending} {x : α}
    (hQ : ∀ x y, P x → QF y → Q (upd x y)) (hM : ∀ x xt, M x xt → M' (upd x (π xt)) xt)
    (hR' : ∀ x y b o base W W', b < base → base ≤ W.heap.size → LS.R x b o base W → P x → Upd b (o + k) LF.n W W' → LF.R y b (o + k) base W' → LS.R (upd x y) b o base W') (hn : k + LF.n ≤ LS.n)
    (h2 : b < base) (h3 : base ≤ W.heap.size) (hR : LS.R x b o base W) (hx : P x) (hq : ∀ xt r, q = some (xt, r) → M x xt) (hd : Below W.heap.size W Wd)
    (h : TPost LF QF (fun y yt => y = yt) (q.map fun p => (π p.1, p.2)) Wd b (o + k) base s e W') : TPost LS Q M' q W b o base s e W' := by
  obtain ⟨ok, y, r, rfl, hg, hno, hyes⟩ := h
  have hud : ∀ n, Upd b o n W Wd := fun n => Upd.below (by omega) hd
  refine ⟨ok, upd x y, r, rfl, grownBy_trans (hud 0).grown hg (.inl rfl), fun hk => ?_, fun hk => ?_⟩
  · obtain ⟨g1, g2⟩ := hno hk
    refine ⟨?_, g2⟩
    cases q with
    | none => rfl
    | some p => simp at g1
  · obtain ⟨g1, g2, g3, g4, g5⟩ := hyes hk
    refine ⟨hQ _ _ hx g1, hR' x y b o base Wd W' h2 (Nat.le_trans h3 hd.size) (LS.keep hR hd) hx g5 g2, g3, fun xt r0 hqq => ?_, (hud LS.n).trans (g5.mono (by omega) (by omega))⟩
    obtain ⟨g6, g7⟩ := g4 (π xt) r0 (by rw [hqq]; rfl)
    refine ⟨?_, g7⟩
    rw [g6]; exact hM _ _ (hq xt r0 hqq)

set_option maxRecDepth 100000 in
set_option maxHeartbeats 2000000 in
theorem partWritestringTakes {α β : Type} (LS : LayT α) (LF : LayT β) (π : α → β) (upd : α → β → α) (k : Nat) (fs ft pl : Value) (Tf Tp : TypeId) (bf bp : Nat) (w0 : World) (P Q : α → Prop) (PF QF : β → Prop) (D : α → Prop) (DF : β → Prop) (f : β → List UInt8) (M M' : α → α → Prop)
    (hP : ∀ x, P x → PF (π x)) (hQ : ∀ x y, P x → QF y → Q (upd x y)) (hD : ∀ x, D x → DF (π x)) (hM : ∀ x xt, M x xt → M' (upd x (π xt)) xt) (hR : ∀ x b o base W, LS.R x b o base W → LF.R (π x) b (o + k) base W)
    (hR' : ∀ x y b o base W W', b < base → base ≤ W.heap.size → LS.R x b o base W → P x → Upd b (o + k) LF.n W W' → LF.R y b (o + k) base W' → LS.R (upd x y) b o base W') (hn : k + LF.n ≤ LS.n)
    (hf : Takes ft w0 LF PF QF DF f (fun _ _ => True) (fun y yt => y = yt)) (hp : Place pl k) (hbf0 : Blk bf #[fs, ft] Tf w0) (hbp0 : Blk bp #[pl] Tp w0) : Takes (.func (.func 70) #[] #[ptr bf 0, ptr bp 0]) w0 LS P Q D (fun x => f (π x)) M M' := by
  obtain ⟨K, caps, rfl, hE, hc⟩ := hf
  obtain ⟨KP, rfl, hEP, hcp⟩ := hp
  refine ⟨_, _, rfl, (fun _ _ => by kernel_rfl), fun s W b o base x q hB h1 h2 h3 hRx hx hsl hq => ?_⟩
  simp only [List.append_toArray, List.cons_append, List.nil_append]
  have hbf := hbf0.below hB
  have hbp := hbp0.below hB
  have hlf := hbf0.lt
  have hlp := hbp0.lt
  have C := hide hc
  have CP := hide hcp
  have HQ := hide hq
  have HRX := hide hRx
  clear hc hcp hq hRx
  go_enter Try.func70, Try.ntmps70
  go_wp2
  rename_i hrest
  have hWd : Below W.heap.size W W.drew := (Below.refl _ _).drew
  refine wp_region_noPanic ?_
  refine wp_region_held_drew (S := (fun X => Blk bf #[fs, .func (.func K) #[] caps] Tf X ∧ Blk bp #[.func (.func KP) #[] #[]] Tp X)) (by kernel_rfl) (⟨hbf.below (Below.refl _ _).drew, hbp.below (Below.refl _ _).drew⟩) (fun hHeld => ?_)
  clear hbf hbp
  generalize W.drew = Wd at *
  have hsz : w0.heap.size ≤ Wd.heap.size := Nat.le_trans hB.size hWd.size
  have CC := hide (unhide C s Wd b (o + k) base (π x) (q.map fun p => (π p.1, p.2)) (Below.onto hB hWd) h1 h2 (Nat.le_trans h3 hWd.size) (hR _ _ _ _ _ (LS.keep (unhide HRX) hWd)) (hP _ hx) hsl (by
    intro yt r hy
    rcases hqq : q with _ | ⟨xt, r1⟩
    · rw [hqq] at hy; cases hy
    · rw [hqq] at hy
      simp at hy
      obtain ⟨rfl, rfl⟩ := hy
      obtain ⟨g1, g2, g3⟩ := unhide HQ xt r1 hqq
      exact ⟨hD _ g1, trivial, g3⟩))
  clear C
  refine wpAnyH_take (i := 0) (oi := ?oi20025) (v := ?v20025) ?hi20025 (by kernel_rfl) (by kernel_rfl) (by kernel_rfl) (fun _ _ _ h => h) (Or.inl ⟨?hw20025, ?hy20025⟩) (by assumption) ?rest20025
  case hi20025 => (simp only [List.getElem?_toArray, List.getElem?_cons_zero]; rfl)
  case hw20025 => rfl
  case hy20025 => first | (intro wx hSw; obtain ⟨hs1, hs2⟩ := hSw; have hs3 := hs1.cell 1; have hs4 := hs2.cell 0; simp at hs3 hs4; go_simp; done) | (intro wx hSw; obtain ⟨hs1, hs2⟩ := hSw; have hs3 := hs1.cell 1; have hs4 := hs2.cell 0; simp at hs3 hs4; go_simp; with_reducible rfl)
  simp only [Act.put, List.setIfInBounds_toArray, List.set_cons_zero, List.set_cons_succ]
  refine wpAnyH_take (i := 1) (oi := ?oi20026) (v := ?v20026) ?hi20026 (by kernel_rfl) (by kernel_rfl) (by kernel_rfl) (fun _ _ _ h => h) (Or.inl ⟨?hw20026, ?hy20026⟩) (by assumption) ?rest20026
  case hi20026 => (simp only [List.getElem?_toArray, List.getElem?_cons_zero, List.getElem?_cons_succ]; rfl)
  case hw20026 => rfl
  case hy20026 => first | (intro wx hSw; obtain ⟨hs1, hs2⟩ := hSw; have hs3 := hs1.cell 1; have hs4 := hs2.cell 0; simp at hs3 hs4; go_simp; done) | (intro wx hSw; obtain ⟨hs1, hs2⟩ := hSw; have hs3 := hs1.cell 1; have hs4 := hs2.cell 0; simp at hs3 hs4; go_simp; with_reducible rfl)
  simp only [Act.put, List.setIfInBounds_toArray, List.set_cons_zero, List.set_cons_succ]
  refine wpAnyH_take (i := 2) (oi := ?oi20027) (v := ?v20027) ?hi20027 (by kernel_rfl) (by kernel_rfl) (by kernel_rfl) (fun _ _ _ h => h) (Or.inl ⟨?hw20027, ?hy20027⟩) (by assumption) ?rest20027
  case hi20027 => (simp only [List.getElem?_toArray, List.getElem?_cons_zero, List.getElem?_cons_succ]; rfl)
  case hw20027 => rfl
  case hy20027 => first | (intro wx hSw; obtain ⟨hs1, hs2⟩ := hSw; have hs3 := hs1.cell 1; have hs4 := hs2.cell 0; simp at hs3 hs4; go_simp; done) | (intro wx hSw; obtain ⟨hs1, hs2⟩ := hSw; have hs3 := hs1.cell 1; have hs4 := hs2.cell 0; simp at hs3 hs4; go_simp; with_reducible rfl)
  simp only [Act.put, List.setIfInBounds_toArray, List.set_cons_zero, List.set_cons_succ]
  refine wpAnyH_take (i := 3) (oi := ?oi20028) (v := ?v20028) ?hi20028 (by kernel_rfl) (by kernel_rfl) (by kernel_rfl) (fun _ _ _ h => h) (Or.inl ⟨?hw20028, ?hy20028⟩) (by assumption) ?rest20028
  case hi20028 => (simp only [List.getElem?_toArray, List.getElem?_cons_zero, List.getElem?_cons_succ]; rfl)
  case hw20028 => rfl
  case hy20028 => first | (intro wx hSw; obtain ⟨hs1, hs2⟩ := hSw; have hs3 := hs1.cell 1; have hs4 := hs2.cell 0; simp at hs3 hs4; go_simp; done) | (intro wx hSw; obtain ⟨hs1, hs2⟩ := hSw; have hs3 := hs1.cell 1; have hs4 := hs2.cell 0; simp at hs3 hs4; go_simp; with_reducible rfl)
  simp only [Act.put, List.setIfInBounds_toArray, List.set_cons_zero, List.set_cons_succ]
  refine wpAnyH_take (i := 4) (oi := ?oi20029) (v := ?v20029) ?hi20029 (by kernel_rfl) (by kernel_rfl) (by kernel_rfl) (fun _ _ _ h => h) (Or.inl ⟨?hw20029, ?hy20029⟩) (by assumption) ?rest20029
  case hi20029 => (simp only [List.getElem?_toArray, List.getElem?_cons_zero, List.getElem?_cons_succ]; rfl)
  case hw20029 => rfl
  case hy20029 => first | (intro wx hSw; obtain ⟨hs1, hs2⟩ := hSw; have hs3 := hs1.cell 1; have hs4 := hs2.cell 0; simp at hs3 hs4; go_simp; done) | (intro wx hSw; obtain ⟨hs1, hs2⟩ := hSw; have hs3 := hs1.cell 1; have hs4 := hs2.cell 0; simp at hs3 hs4; go_simp; with_reducible rfl)
  simp only [Act.put, List.setIfInBounds_toArray, List.set_cons_zero, List.set_cons_succ]
  refine wpAnyH_ready (rs := [5]) (by kernel_rfl) (by simp) ?_
  refine AllReadyH.cons rfl (fun K20030 hK20030 => ?_) AllReadyH.nil
  go_simp
  go_wp2_with (refine (unhide CP b o _).mono ?_; rintro e W1 ⟨rfl, rfl⟩)
  refine hK20030.out _ _ ?hs20030 (fun hHeld20030 => ?_)
  case hs20030 => exact hHeld
  clear hHeld
  have hHeld := hHeld20030; clear hHeld20030 hK20030 K20030
  refine wpAnyH_ready (rs := [6]) (by kernel_rfl) (by simp) ?_
  refine AllReadyH.cons rfl (fun K20031 hK20031 => ?_) AllReadyH.nil
  go_simp
  go_wp2_with (refine (unhide CC).mono ?_; intro e W2 hT; have HT := hide hT; obtain ⟨ok, y, r, rfl, hgr, hno, hyes⟩ := hT; have hgr := hgr; clear hno hyes)
  refine hK20031.out _ _ ?hs20031 (fun hHeld20031 => ?_)
  case hs20031 => exact ⟨(hgr.block _ (Nat.lt_of_lt_of_le hlf hsz) (by intro e; injection e with e; omega)).trans hHeld.1, (hgr.block _ (Nat.lt_of_lt_of_le hlp hsz) (by intro e; injection e with e; omega)).trans hHeld.2⟩
  clear hHeld
  have hHeld := hHeld20031; clear hHeld20031 hK20031 K20031
  refine wpAnyH_take (i := 7) (oi := ?oi20032) (v := ?v20032) ?hi20032 (by kernel_rfl) (by kernel_rfl) (by kernel_rfl) (fun _ _ _ h => h) (Or.inl ⟨?hw20032, ?hy20032⟩) (by assumption) ?rest20032
  case hi20032 => (simp only [List.getElem?_toArray, List.getElem?_cons_zero, List.getElem?_cons_succ]; rfl)
  case hw20032 => rfl
  case hy20032 => first | (intro wx hSw; go_simp; done) | (intro wx hSw; go_simp; with_reducible rfl)
  simp only [Act.put, List.setIfInBounds_toArray, List.set_cons_zero, List.set_cons_succ]
  refine wpAnyH_take (i := 8) (oi := ?oi20033) (v := ?v20033) ?hi20033 (by kernel_rfl) (by kernel_rfl) (by kernel_rfl) (fun _ _ _ h => h) (Or.inl ⟨?hw20033, ?hy20033⟩) (by assumption) ?rest20033
  case hi20033 => (simp only [List.getElem?_toArray, List.getElem?_cons_zero, List.getElem?_cons_succ]; rfl)
  case hw20033 => rfl
  case hy20033 => first | (intro wx hSw; go_simp; done) | (intro wx hSw; go_simp; with_reducible rfl)
  simp only [Act.put, List.setIfInBounds_toArray, List.set_cons_zero, List.set_cons_succ]
  refine wpAnyH_take (i := 9) (oi := ?oi20034) (v := ?v20034) ?hi20034 (by kernel_rfl) (by kernel_rfl) (by kernel_rfl) (fun _ _ _ h => h) (Or.inl ⟨?hw20034, ?hy20034⟩) (by assumption) ?rest20034
  case hi20034 => (simp only [List.getElem?_toArray, List.getElem?_cons_zero, List.getElem?_cons_succ]; rfl)
  case hw20034 => rfl
  case hy20034 => first | (intro wx hSw; go_simp; done) | (intro wx hSw; go_simp; with_reducible rfl)
  simp only [Act.put, List.setIfInBounds_toArray, List.set_cons_zero, List.set_cons_succ]
  refine wpAnyH_take (i := 10) (oi := ?oi20035) (v := ?v20035) ?hi20035 (by kernel_rfl) (by kernel_rfl) (by kernel_rfl) (fun _ _ _ h => h) (Or.inl ⟨?hw20035, ?hy20035⟩) (by assumption) ?rest20035
  case hi20035 => (simp only [List.getElem?_toArray, List.getElem?_cons_zero, List.getElem?_cons_succ]; rfl)
  case hw20035 => rfl
  case hy20035 => first | (intro wx hSw; go_simp; done) | (intro wx hSw; go_simp; with_reducible rfl)
  simp only [Act.put, List.setIfInBounds_toArray, List.set_cons_zero, List.set_cons_succ]
  refine wpAnyH_done (by kernel_rfl) ?_ _
  refine NoPanic.normal ?_
  refine hrest _ _ ?_
  clear hHeld
  go_wp2_with fail
  go_ret2
  exact TPost.part hQ hM hR' hn h2 h3 (unhide HRX) hx (fun xt r hqq => (unhide HQ xt r hqq).2.1) hWd (unhide HT)

set_option maxRecDepth 100000 in
set_option maxHeartbeats 2000000 in
theorem partWriteboolTakes {α β : Type} (LS : LayT α) (LF : LayT β) (π : α → β) (upd : α → β → α) (k : Nat) (fs ft pl : Value) (Tf Tp : TypeId) (bf bp : Nat) (w0 : World) (P Q : α → Prop) (PF QF : β → Prop) (D : α → Prop) (DF : β → Prop) (f : β → List UInt8) (M M' : α → α → Prop)
    (hP : ∀ x, P x → PF (π x)) (hQ : ∀ x y, P x → QF y → Q (upd x y)) (hD : ∀ x, D x → DF (π x)) (hM : ∀ x xt, M x xt → M' (upd x (π xt)) xt) (hR : ∀ x b o base W, LS.R x b o base W → LF.R (π x) b (o + k) base W)
    (hR' : ∀ x y b o base W W', b < base → base ≤ W.heap.size → LS.R x b o base W → P x → Upd b (o + k) LF.n W W' → LF.R y b (o + k) base W' → LS.R (upd x y) b o base W') (hn : k + LF.n ≤ LS.n)
    (hf : Takes ft w0 LF PF QF DF f (fun _ _ => True) (fun y yt => y = yt)) (hp : Place pl k) (hbf0 : Blk bf #[fs, ft] Tf w0) (hbp0 : Blk bp #[pl] Tp w0) : Takes (.func (.func 75) #[] #[ptr bf 0, ptr bp 0]) w0 LS P Q D (fun x => f (π x)) M M' := by
  obtain ⟨K, caps, rfl, hE, hc⟩ := hf
  obtain ⟨KP, rfl, hEP, hcp⟩ := hp
  refine ⟨_, _, rfl, (fun _ _ => by kernel_rfl), fun s W b o base x q hB h1 h2 h3 hRx hx hsl hq => ?_⟩
  simp only [List.append_toArray, List.cons_append, List.nil_append]
  have hbf := hbf0.below hB
  have hbp := hbp0.below hB
  have hlf := hbf0.lt
  have hlp := hbp0.lt
  have C := hide hc
  have CP := hide hcp
  have HQ := hide hq
  have HRX := hide hRx
  clear hc hcp hq hRx
  go_enter Try.func75, Try.ntmps75
  go_wp2
  rename_i hrest
  have hWd : Below W.heap.size W W.drew := (Below.refl _ _).drew
  refine wp_region_noPanic ?_
  refine wp_region_held_drew (S := (fun X => Blk bf #[fs, .func (.func K) #[] caps] Tf X ∧ Blk bp #[.func (.func KP) #[] #[]] Tp X)) (by kernel_rfl) (⟨hbf.below (Below.refl _ _).drew, hbp.below (Below.refl _ _).drew⟩) (fun hHeld => ?_)
  clear hbf hbp
  generalize W.drew = Wd at *
  have hsz : w0.heap.size ≤ Wd.heap.size := Nat.le_trans hB.size hWd.size
  have CC := hide (unhide C s Wd b (o + k) base (π x) (q.map fun p => (π p.1, p.2)) (Below.onto hB hWd) h1 h2 (Nat.le_trans h3 hWd.size) (hR _ _ _ _ _ (LS.keep (unhide HRX) hWd)) (hP _ hx) hsl (by
    intro yt r hy
    rcases hqq : q with _ | ⟨xt, r1⟩
    · rw [hqq] at hy; cases hy
    · rw [hqq] at hy
      simp at hy
      obtain ⟨rfl, rfl⟩ := hy
      obtain ⟨g1, g2, g3⟩ := unhide HQ xt r1 hqq
      exact ⟨hD _ g1, trivial, g3⟩))
  clear C
  refine wpAnyH_take (i := 0) (oi := ?oi20036) (v := ?v20036) ?hi20036 (by kernel_rfl) (by kernel_rfl) (by kernel_rfl) (fun _ _ _ h => h) (Or.inl ⟨?hw20036, ?hy20036⟩) (by assumption) ?rest20036
  case hi20036 => (simp only [List.getElem?_toArray, List.getElem?_cons_zero]; rfl)
  case hw20036 => rfl
  case hy20036 => first | (intro wx hSw; obtain ⟨hs1, hs2⟩ := hSw; have hs3 := hs1.cell 1; have hs4 := hs2.cell 0; simp at hs3 hs4; go_simp; done) | (intro wx hSw; obtain ⟨hs1, hs2⟩ := hSw; have hs3 := hs1.cell 1; have hs4 := hs2.cell 0; simp at hs3 hs4; go_simp; with_reducible rfl)
  simp only [Act.put, List.setIfInBounds_toArray, List.set_cons_zero, List.set_cons_succ]
  refine wpAnyH_take (i := 1) (oi := ?oi20037) (v := ?v20037) ?hi20037 (by kernel_rfl) (by kernel_rfl) (by kernel_rfl) (fun _ _ _ h => h) (Or.inl ⟨?hw20037, ?hy20037⟩) (by assumption) ?rest20037
  case hi20037 => (simp only [List.getElem?_toArray, List.getElem?_cons_zero, List.getElem?_cons_succ]; rfl)
  case hw20037 => rfl
  case hy20037 => first | (intro wx hSw; obtain ⟨hs1, hs2⟩ := hSw; have hs3 := hs1.cell 1; have hs4 := hs2.cell 0; simp at hs3 hs4; go_simp; done) | (intro wx hSw; obtain ⟨hs1, hs2⟩ := hSw; have hs3 := hs1.cell 1; have hs4 := hs2.cell 0; simp at hs3 hs4; go_simp; with_reducible rfl)
  simp only [Act.put, List.setIfInBounds_toArray, List.set_cons_zero, List.set_cons_succ]
  refine wpAnyH_take (i := 2) (oi := ?oi20038) (v := ?v20038) ?hi20038 (by kernel_rfl) (by kernel_rfl) (by kernel_rfl) (fun _ _ _ h => h) (Or.inl ⟨?hw20038, ?hy20038⟩) (by assumption) ?rest20038
  case hi20038 => (simp only [List.getElem?_toArray, List.getElem?_cons_zero, List.getElem?_cons_succ]; rfl)
  case hw20038 => rfl
  case hy20038 => first | (intro wx hSw; obtain ⟨hs1, hs2⟩ := hSw; have hs3 := hs1.cell 1; have hs4 := hs2.cell 0; simp at hs3 hs4; go_simp; done) | (intro wx hSw; obtain ⟨hs1, hs2⟩ := hSw; have hs3 := hs1.cell 1; have hs4 := hs2.cell 0; simp at hs3 hs4; go_simp; with_reducible rfl)
  simp only [Act.put, List.setIfInBounds_toArray, List.set_cons_zero, List.set_cons_succ]
  refine wpAnyH_take (i := 3) (oi := ?oi20039) (v := ?v20039) ?hi20039 (by kernel_rfl) (by kernel_rfl) (by kernel_rfl) (fun _ _ _ h => h) (Or.inl ⟨?hw20039, ?hy20039⟩) (by assumption) ?rest20039
  case hi20039 => (simp only [List.getElem?_toArray, List.getElem?_cons_zero, List.getElem?_cons_succ]; rfl)
  case hw20039 => rfl
  case hy20039 => first | (intro wx hSw; obtain ⟨hs1, hs2⟩ := hSw; have hs3 := hs1.cell 1; have hs4 := hs2.cell 0; simp at hs3 hs4; go_simp; done) | (intro wx hSw; obtain ⟨hs1, hs2⟩ := hSw; have hs3 := hs1.cell 1; have hs4 := hs2.cell 0; simp at hs3 hs4; go_simp; with_reducible rfl)
  simp only [Act.put, List.setIfInBounds_toArray, List.set_cons_zero, List.set_cons_succ]
  refine wpAnyH_take (i := 4) (oi := ?oi20040) (v := ?v20040) ?hi20040 (by kernel_rfl) (by kernel_rfl) (by kernel_rfl) (fun _ _ _ h => h) (Or.inl ⟨?hw20040, ?hy20040⟩) (by assumption) ?rest20040
  case hi20040 => (simp only [List.getElem?_toArray, List.getElem?_cons_zero, List.getElem?_cons_succ]; rfl)
  case hw20040 => rfl
  case hy20040 => first | (intro wx hSw; obtain ⟨hs1, hs2⟩ := hSw; have hs3 := hs1.cell 1; have hs4 := hs2.cell 0; simp at hs3 hs4; go_simp; done) | (intro wx hSw; obtain ⟨hs1, hs2⟩ := hSw; have hs3 := hs1.cell 1; have hs4 := hs2.cell 0; simp at hs3 hs4; go_simp; with_reducible rfl)
  simp only [Act.put, List.setIfInBounds_toArray, List.set_cons_zero, List.set_cons_succ]
  refine wpAnyH_ready (rs := [5]) (by kernel_rfl) (by simp) ?_
  refine AllReadyH.cons rfl (fun K20041 hK20041 => ?_) AllReadyH.nil
  go_simp
  go_wp2_with (refine (unhide CP b o _).mono ?_; rintro e W1 ⟨rfl, rfl⟩)
  refine hK20041.out _ _ ?hs20041 (fun hHeld20041 => ?_)
  case hs20041 => exact hHeld
  clear hHeld
  have hHeld := hHeld20041; clear hHeld20041 hK20041 K20041
  refine wpAnyH_ready (rs := [6]) (by kernel_rfl) (by simp) ?_
  refine AllReadyH.cons rfl (fun K20042 hK20042 => ?_) AllReadyH.nil
  go_simp
  go_wp2_with (refine (unhide CC).mono ?_; intro e W2 hT; have HT := hide hT; obtain ⟨ok, y, r, rfl, hgr, hno, hyes⟩ := hT; have hgr := hgr; clear hno hyes)
  refine hK20042.out _ _ ?hs20042 (fun hHeld20042 => ?_)
  case hs20042 => exact ⟨(hgr.block _ (Nat.lt_of_lt_of_le hlf hsz) (by intro e; injection e with e; omega)).trans hHeld.1, (hgr.block _ (Nat.lt_of_lt_of_le hlp hsz) (by intro e; injection e with e; omega)).trans hHeld.2⟩
  clear hHeld
  have hHeld := hHeld20042; clear hHeld20042 hK20042 K20042
  refine wpAnyH_take (i := 7) (oi := ?oi20043) (v := ?v20043) ?hi20043 (by kernel_rfl) (by kernel_rfl) (by kernel_rfl) (fun _ _ _ h => h) (Or.inl ⟨?hw20043, ?hy20043⟩) (by assumption) ?rest20043
  case hi20043 => (simp only [List.getElem?_toArray, List.getElem?_cons_zero, List.getElem?_cons_succ]; rfl)
  case hw20043 => rfl
  case hy20043 => first | (intro wx hSw; go_simp; done) | (intro wx hSw; go_simp; with_reducible rfl)
  simp only [Act.put, List.setIfInBounds_toArray, List.set_cons_zero, List.set_cons_succ]
  refine wpAnyH_take (i := 8) (oi := ?oi20044) (v := ?v20044) ?hi20044 (by kernel_rfl) (by kernel_rfl) (by kernel_rfl) (fun _ _ _ h => h) (Or.inl ⟨?hw20044, ?hy20044⟩) (by assumption) ?rest20044
  case hi20044 => (simp only [List.getElem?_toArray, List.getElem?_cons_zero, List.getElem?_cons_succ]; rfl)
  case hw20044 => rfl
  case hy20044 => first | (intro wx hSw; go_simp; done) | (intro wx hSw; go_simp; with_reducible rfl)
  simp only [Act.put, List.setIfInBounds_toArray, List.set_cons_zero, List.set_cons_succ]
  refine wpAnyH_take (i := 9) (oi := ?oi20045) (v := ?v20045) ?hi20045 (by kernel_rfl) (by kernel_rfl) (by kernel_rfl) (fun _ _ _ h => h) (Or.inl ⟨?hw20045, ?hy20045⟩) (by assumption) ?rest20045
  case hi20045 => (simp only [List.getElem?_toArray, List.getElem?_cons_zero, List.getElem?_cons_succ]; rfl)
  case hw20045 => rfl
  case hy20045 => first | (intro wx hSw; go_simp; done) | (intro wx hSw; go_simp; with_reducible rfl)
  simp only [Act.put, List.setIfInBounds_toArray, List.set_cons_zero, List.set_cons_succ]
  refine wpAnyH_take (i := 10) (oi := ?oi20046) (v := ?v20046) ?hi20046 (by kernel_rfl) (by kernel_rfl) (by kernel_rfl) (fun _ _ _ h => h) (Or.inl ⟨?hw20046, ?hy20046⟩) (by assumption) ?rest20046
  case hi20046 => (simp only [List.getElem?_toArray, List.getElem?_cons_zero, List.getElem?_cons_succ]; rfl)
  case hw20046 => rfl
  case hy20046 => first | (intro wx hSw; go_simp; done) | (intro wx hSw; go_simp; with_reducible rfl)
  simp only [Act.put, List.setIfInBounds_toArray, List.set_cons_zero, List.set_cons_succ]
  refine wpAnyH_done (by kernel_rfl) ?_ _
  refine NoPanic.normal ?_
  refine hrest _ _ ?_
  clear hHeld
  go_wp2_with fail
  go_ret2
  exact TPost.part hQ hM hR' hn h2 h3 (unhide HRX) hx (fun xt r hqq => (unhide HQ xt r hqq).2.1) hWd (unhide HT)

set_option maxRecDepth 100000 in
set_option maxHeartbeats 2000000 in
theorem partCmdintTakes {α β : Type} (LS : LayT α) (LF : LayT β) (π : α → β) (upd : α → β → α) (k : Nat) (fs ft pl : Value) (Tf Tp : TypeId) (bf bp : Nat) (w0 : World) (P Q : α → Prop) (PF QF : β → Prop) (D : α → Prop) (DF : β → Prop) (f : β → List UInt8) (M M' : α → α → Prop)
    (hP : ∀ x, P x → PF (π x)) (hQ : ∀ x y, P x → QF y → Q (upd x y)) (hD : ∀ x, D x → DF (π x)) (hM : ∀ x xt, M x xt → M' (upd x (π xt)) xt) (hR : ∀ x b o base W, LS.R x b o base W → LF.R (π x) b (o + k) base W)
    (hR' : ∀ x y b o base W W', b < base → base ≤ W.heap.size → LS.R x b o base W → P x → Upd b (o + k) LF.n W W' → LF.R y b (o + k) base W' → LS.R (upd x y) b o base W') (hn : k + LF.n ≤ LS.n)
    (hf : Takes ft w0 LF PF QF DF f (fun _ _ => True) (fun y yt => y = yt)) (hp : Place pl k) (hbf0 : Blk bf #[fs, ft] Tf w0) (hbp0 : Blk bp #[pl] Tp w0) : Takes (.func (.func 101) #[] #[ptr bf 0, ptr bp 0]) w0 LS P Q D (fun x => f (π x)) M M' := by
  obtain ⟨K, caps, rfl, hE, hc⟩ := hf
  obtain ⟨KP, rfl, hEP, hcp⟩ := hp
  refine ⟨_, _, rfl, (fun _ _ => by kernel_rfl), fun s W b o base x q hB h1 h2 h3 hRx hx hsl hq => ?_⟩
  simp only [List.append_toArray, List.cons_append, List.nil_append]
  have hbf := hbf0.below hB
  have hbp := hbp0.below hB
  have hlf := hbf0.lt
  have hlp := hbp0.lt
  have C := hide hc
  have CP := hide hcp
  have HQ := hide hq
  have HRX := hide hRx
  clear hc hcp hq hRx
  go_enter Try.func101, Try.ntmps101
  go_wp2
  rename_i hrest
  have hWd : Below W.heap.size W W.drew := (Below.refl _ _).drew
  refine wp_region_noPanic ?_
  refine wp_region_held_drew (S := (fun X => Blk bf #[fs, .func (.func K) #[] caps] Tf X ∧ Blk bp #[.func (.func KP) #[] #[]] Tp X)) (by kernel_rfl) (⟨hbf.below (Below.refl _ _).drew, hbp.below (Below.refl _ _).drew⟩) (fun hHeld => ?_)
  clear hbf hbp
  generalize W.drew = Wd at *
  have hsz : w0.heap.size ≤ Wd.heap.size := Nat.le_trans hB.size hWd.size
  have CC := hide (unhide C s Wd b (o + k) base (π x) (q.map fun p => (π p.1, p.2)) (Below.onto hB hWd) h1 h2 (Nat.le_trans h3 hWd.size) (hR _ _ _ _ _ (LS.keep (unhide HRX) hWd)) (hP _ hx) hsl (by
    intro yt r hy
    rcases hqq : q with _ | ⟨xt, r1⟩
    · rw [hqq] at hy; cases hy
    · rw [hqq] at hy
      simp at hy
      obtain ⟨rfl, rfl⟩ := hy
      obtain ⟨g1, g2, g3⟩ := unhide HQ xt r1 hqq
      exact ⟨hD _ g1, trivial, g3⟩))
  clear C
  refine wpAnyH_take (i := 0) (oi := ?oi20047) (v := ?v20047) ?hi20047 (by kernel_rfl) (by kernel_rfl) (by kernel_rfl) (fun _ _ _ h => h) (Or.inl ⟨?hw20047, ?hy20047⟩) (by assumption) ?rest20047
  case hi20047 => (simp only [List.getElem?_toArray, List.getElem?_cons_zero]; rfl)
  case hw20047 => rfl
  case hy20047 => first | (intro wx hSw; obtain ⟨hs1, hs2⟩ := hSw; have hs3 := hs1.cell 1; have hs4 := hs2.cell 0; simp at hs3 hs4; go_simp; done) | (intro wx hSw; obtain ⟨hs1, hs2⟩ := hSw; have hs3 := hs1.cell 1; have hs4 := hs2.cell 0; simp at hs3 hs4; go_simp; with_reducible rfl)
  simp only [Act.put, List.setIfInBounds_toArray, List.set_cons_zero, List.set_cons_succ]
  refine wpAnyH_take (i := 1) (oi := ?oi20048) (v := ?v20048) ?hi20048 (by kernel_rfl) (by kernel_rfl) (by kernel_rfl) (fun _ _ _ h => h) (Or.inl ⟨?hw20048, ?hy20048⟩) (by assumption) ?rest20048
  case hi20048 => (simp only [List.getElem?_toArray, List.getElem?_cons_zero, List.getElem?_cons_succ]; rfl)
  case hw20048 => rfl
  case hy20048 => first | (intro wx hSw; obtain ⟨hs1, hs2⟩ := hSw; have hs3 := hs1.cell 1; have hs4 := hs2.cell 0; simp at hs3 hs4; go_simp; done) | (intro wx hSw; obtain ⟨hs1, hs2⟩ := hSw; have hs3 := hs1.cell 1; have hs4 := hs2.cell 0; simp at hs3 hs4; go_simp; with_reducible rfl)
  simp only [Act.put, List.setIfInBounds_toArray, List.set_cons_zero, List.set_cons_succ]
  refine wpAnyH_take (i := 2) (oi := ?oi20049) (v := ?v20049) ?hi20049 (by kernel_rfl) (by kernel_rfl) (by kernel_rfl) (fun _ _ _ h => h) (Or.inl ⟨?hw20049, ?hy20049⟩) (by assumption) ?rest20049
  case hi20049 => (simp only [List.getElem?_toArray, List.getElem?_cons_zero, List.getElem?_cons_succ]; rfl)
  case hw20049 => rfl
  case hy20049 => first | (intro wx hSw; obtain ⟨hs1, hs2⟩ := hSw; have hs3 := hs1.cell 1; have hs4 := hs2.cell 0; simp at hs3 hs4; go_simp; done) | (intro wx hSw; obtain ⟨hs1, hs2⟩ := hSw; have hs3 := hs1.cell 1; have hs4 := hs2.cell 0; simp at hs3 hs4; go_simp; with_reducible rfl)
  simp only [Act.put, List.setIfInBounds_toArray, List.set_cons_zero, List.set_cons_succ]
  refine wpAnyH_take (i := 3) (oi := ?oi20050) (v := ?v20050) ?hi20050 (by kernel_rfl) (by kernel_rfl) (by kernel_rfl) (fun _ _ _ h => h) (Or.inl ⟨?hw20050, ?hy20050⟩) (by assumption) ?rest20050
  case hi20050 => (simp only [List.getElem?_toArray, List.getElem?_cons_zero, List.getElem?_cons_succ]; rfl)
  case hw20050 => rfl
  case hy20050 => first | (intro wx hSw; obtain ⟨hs1, hs2⟩ := hSw; have hs3 := hs1.cell 1; have hs4 := hs2.cell 0; simp at hs3 hs4; go_simp; done) | (intro wx hSw; obtain ⟨hs1, hs2⟩ := hSw; have hs3 := hs1.cell 1; have hs4 := hs2.cell 0; simp at hs3 hs4; go_simp; with_reducible rfl)
  simp only [Act.put, List.setIfInBounds_toArray, List.set_cons_zero, List.set_cons_succ]
  refine wpAnyH_take (i := 4) (oi := ?oi20051) (v := ?v20051) ?hi20051 (by kernel_rfl) (by kernel_rfl) (by kernel_rfl) (fun _ _ _ h => h) (Or.inl ⟨?hw20051, ?hy20051⟩) (by assumption) ?rest20051
  case hi20051 => (simp only [List.getElem?_toArray, List.getElem?_cons_zero, List.getElem?_cons_succ]; rfl)
  case hw20051 => rfl
  case hy20051 => first | (intro wx hSw; obtain ⟨hs1, hs2⟩ := hSw; have hs3 := hs1.cell 1; have hs4 := hs2.cell 0; simp at hs3 hs4; go_simp; done) | (intro wx hSw; obtain ⟨hs1, hs2⟩ := hSw; have hs3 := hs1.cell 1; have hs4 := hs2.cell 0; simp at hs3 hs4; go_simp; with_reducible rfl)
  simp only [Act.put, List.setIfInBounds_toArray, List.set_cons_zero, List.set_cons_succ]
  refine wpAnyH_ready (rs := [5]) (by kernel_rfl) (by simp) ?_
  refine AllReadyH.cons rfl (fun K20052 hK20052 => ?_) AllReadyH.nil
  go_simp
  go_wp2_with (refine (unhide CP b o _).mono ?_; rintro e W1 ⟨rfl, rfl⟩)
  refine hK20052.out _ _ ?hs20052 (fun hHeld20052 => ?_)
  case hs20052 => exact hHeld
  clear hHeld
  have hHeld := hHeld20052; clear hHeld20052 hK20052 K20052
  refine wpAnyH_ready (rs := [6]) (by kernel_rfl) (by simp) ?_
  refine AllReadyH.cons rfl (fun K20053 hK20053 => ?_) AllReadyH.nil
  go_simp
  go_wp2_with (refine (unhide CC).mono ?_; intro e W2 hT; have HT := hide hT; obtain ⟨ok, y, r, rfl, hgr, hno, hyes⟩ := hT; have hgr := hgr; clear hno hyes)
  refine hK20053.out _ _ ?hs20053 (fun hHeld20053 => ?_)
  case hs20053 => exact ⟨(hgr.block _ (Nat.lt_of_lt_of_le hlf hsz) (by intro e; injection e with e; omega)).trans hHeld.1, (hgr.block _ (Nat.lt_of_lt_of_le hlp hsz) (by intro e; injection e with e; omega)).trans hHeld.2⟩
  clear hHeld
  have hHeld := hHeld20053; clear hHeld20053 hK20053 K20053
  refine wpAnyH_take (i := 7) (oi := ?oi20054) (v := ?v20054) ?hi20054 (by kernel_rfl) (by kernel_rfl) (by kernel_rfl) (fun _ _ _ h => h) (Or.inl ⟨?hw20054, ?hy20054⟩) (by assumption) ?rest20054
  case hi20054 => (simp only [List.getElem?_toArray, List.getElem?_cons_zero, List.getElem?_cons_succ]; rfl)
  case hw20054 => rfl
  case hy20054 => first | (intro wx hSw; go_simp; done) | (intro wx hSw; go_simp; with_reducible rfl)
  simp only [Act.put, List.setIfInBounds_toArray, List.set_cons_zero, List.set_cons_succ]
  refine wpAnyH_take (i := 8) (oi := ?oi20055) (v := ?v20055) ?hi20055 (by kernel_rfl) (by kernel_rfl) (by kernel_rfl) (fun _ _ _ h => h) (Or.inl ⟨?hw20055, ?hy20055⟩) (by assumption) ?rest20055
  case hi20055 => (simp only [List.getElem?_toArray, List.getElem?_cons_zero, List.getElem?_cons_succ]; rfl)
  case hw20055 => rfl
  case hy20055 => first | (intro wx hSw; go_simp; done) | (intro wx hSw; go_simp; with_reducible rfl)
  simp only [Act.put, List.setIfInBounds_toArray, List.set_cons_zero, List.set_cons_succ]
  refine wpAnyH_take (i := 9) (oi := ?oi20056) (v := ?v20056) ?hi20056 (by kernel_rfl) (by kernel_rfl) (by kernel_rfl) (fun _ _ _ h => h) (Or.inl ⟨?hw20056, ?hy20056⟩) (by assumption) ?rest20056
  case hi20056 => (simp only [List.getElem?_toArray, List.getElem?_cons_zero, List.getElem?_cons_succ]; rfl)
  case hw20056 => rfl
  case hy20056 => first | (intro wx hSw; go_simp; done) | (intro wx hSw; go_simp; with_reducible rfl)
  simp only [Act.put, List.setIfInBounds_toArray, List.set_cons_zero, List.set_cons_succ]
  refine wpAnyH_take (i := 10) (oi := ?oi20057) (v := ?v20057) ?hi20057 (by kernel_rfl) (by kernel_rfl) (by kernel_rfl) (fun _ _ _ h => h) (Or.inl ⟨?hw20057, ?hy20057⟩) (by assumption) ?rest20057
  case hi20057 => (simp only [List.getElem?_toArray, List.getElem?_cons_zero, List.getElem?_cons_succ]; rfl)
  case hw20057 => rfl
  case hy20057 => first | (intro wx hSw; go_simp; done) | (intro wx hSw; go_simp; with_reducible rfl)
  simp only [Act.put, List.setIfInBounds_toArray, List.set_cons_zero, List.set_cons_succ]
  refine wpAnyH_done (by kernel_rfl) ?_ _
  refine NoPanic.normal ?_
  refine hrest _ _ ?_
  clear hHeld
  go_wp2_with fail
  go_ret2
  exact TPost.part hQ hM hR' hn h2 h3 (unhide HRX) hx (fun xt r hqq => (unhide HQ xt r hqq).2.1) hWd (unhide HT)

set_option maxRecDepth 100000 in
set_option maxHeartbeats 2000000 in
theorem partCmdboolTakes {α β : Type} (LS : LayT α) (LF : LayT β) (π : α → β) (upd : α → β → α) (k : Nat) (fs ft pl : Value) (Tf Tp : TypeId) (bf bp : Nat) (w0 : World) (P Q : α → Prop) (PF QF : β → Prop) (D : α → Prop) (DF : β → Prop) (f : β → List UInt8) (M M' : α → α → Prop)
    (hP : ∀ x, P x → PF (π x)) (hQ : ∀ x y, P x → QF y → Q (upd x y)) (hD : ∀ x, D x → DF (π x)) (hM : ∀ x xt, M x xt → M' (upd x (π xt)) xt) (hR : ∀ x b o base W, LS.R x b o base W → LF.R (π x) b (o + k) base W)
    (hR' : ∀ x y b o base W W', b < base → base ≤ W.heap.size → LS.R x b o base W → P x → Upd b (o + k) LF.n W W' → LF.R y b (o + k) base W' → LS.R (upd x y) b o base W') (hn : k + LF.n ≤ LS.n)
    (hf : Takes ft w0 LF PF QF DF f (fun _ _ => True) (fun y yt => y = yt)) (hp : Place pl k) (hbf0 : Blk bf #[fs, ft] Tf w0) (hbp0 : Blk bp #[pl] Tp w0) : Takes (.func (.func 103) #[] #[ptr bf 0, ptr bp 0]) w0 LS P Q D (fun x => f (π x)) M M' := by
  obtain ⟨K, caps, rfl, hE, hc⟩ := hf
  obtain ⟨KP, rfl, hEP, hcp⟩ := hp
  refine ⟨_, _, rfl, (fun _ _ => by kernel_rfl), fun s W b o base x q hB h1 h2 h3 hRx hx hsl hq => ?_⟩
  simp only [List.append_toArray, List.cons_append, List.nil_append]
  have hbf := hbf0.below hB
  have hbp := hbp0.below hB
  have hlf := hbf0.lt
  have hlp := hbp0.lt
  have C := hide hc
  have CP := hide hcp
  have HQ := hide hq
  have HRX := hide hRx
  clear hc hcp hq hRx
  go_enter Try.func103, Try.ntmps103
  go_wp2
  rename_i hrest
  have hWd : Below W.heap.size W W.drew := (Below.refl _ _).drew
  refine wp_region_noPanic ?_
  refine wp_region_held_drew (S := (fun X => Blk bf #[fs, .func (.func K) #[] caps] Tf X ∧ Blk bp #[.func (.func KP) #[] #[]] Tp X)) (by kernel_rfl) (⟨hbf.below (Below.refl _ _).drew, hbp.below (Below.refl _ _).drew⟩) (fun hHeld => ?_)
  clear hbf hbp
  generalize W.drew = Wd at *
  have hsz : w0.heap.size ≤ Wd.heap.size := Nat.le_trans hB.size hWd.size
  have CC := hide (unhide C s Wd b (o + k) base (π x) (q.map fun p => (π p.1, p.2)) (Below.onto hB hWd) h1 h2 (Nat.le_trans h3 hWd.size) (hR _ _ _ _ _ (LS.keep (unhide HRX) hWd)) (hP _ hx) hsl (by
    intro yt r hy
    rcases hqq : q with _ | ⟨xt, r1⟩
    · rw [hqq] at hy; cases hy
    · rw [hqq] at hy
      simp at hy
      obtain ⟨rfl, rfl⟩ := hy
      obtain ⟨g1, g2, g3⟩ := unhide HQ xt r1 hqq
      exact ⟨hD _ g1, trivial, g3⟩))
  clear C
  refine wpAnyH_take (i := 0) (oi := ?oi20058) (v := ?v20058) ?hi20058 (by kernel_rfl) (by kernel_rfl) (by kernel_rfl) (fun _ _ _ h => h) (Or.inl ⟨?hw20058, ?hy20058⟩) (by assumption) ?rest20058
  case hi20058 => (simp only [List.getElem?_toArray, List.getElem?_cons_zero]; rfl)
  case hw20058 => rfl
  case hy20058 => first | (intro wx hSw; obtain ⟨hs1, hs2⟩ := hSw; have hs3 := hs1.cell 1; have hs4 := hs2.cell 0; simp at hs3 hs4; go_simp; done) | (intro wx hSw; obtain ⟨hs1, hs2⟩ := hSw; have hs3 := hs1.cell 1; have hs4 := hs2.cell 0; simp at hs3 hs4; go_simp; with_reducible rfl)
  simp only [Act.put, List.setIfInBounds_toArray, List.set_cons_zero, List.set_cons_succ]
  refine wpAnyH_take (i := 1) (oi := ?oi20059) (v := ?v20059) ?hi20059 (by kernel_rfl) (by kernel_rfl) (by kernel_rfl) (fun _ _ _ h => h) (Or.inl ⟨?hw20059, ?hy20059⟩) (by assumption) ?rest20059
  case hi20059 => (simp only [List.getElem?_toArray, List.getElem?_cons_zero, List.getElem?_cons_succ]; rfl)
  case hw20059 => rfl
  case hy20059 => first | (intro wx hSw; obtain ⟨hs1, hs2⟩ := hSw; have hs3 := hs1.cell 1; have hs4 := hs2.cell 0; simp at hs3 hs4; go_simp; done) | (intro wx hSw; obtain ⟨hs1, hs2⟩ := hSw; have hs3 := hs1.cell 1; have hs4 := hs2.cell 0; simp at hs3 hs4; go_simp; with_reducible rfl)
  simp only [Act.put, List.setIfInBounds_toArray, List.set_cons_zero, List.set_cons_succ]
  refine wpAnyH_take (i := 2) (oi := ?oi20060) (v := ?v20060) ?hi20060 (by kernel_rfl) (by kernel_rfl) (by kernel_rfl) (fun _ _ _ h => h) (Or.inl ⟨?hw20060, ?hy20060⟩) (by assumption) ?rest20060
  case hi20060 => (simp only [List.getElem?_toArray, List.getElem?_cons_zero, List.getElem?_cons_succ]; rfl)
  case hw20060 => rfl
  case hy20060 => first | (intro wx hSw; obtain ⟨hs1, hs2⟩ := hSw; have hs3 := hs1.cell 1; have hs4 := hs2.cell 0; simp at hs3 hs4; go_simp; done) | (intro wx hSw; obtain ⟨hs1, hs2⟩ := hSw; have hs3 := hs1.cell 1; have hs4 := hs2.cell 0; simp at hs3 hs4; go_simp; with_reducible rfl)
  simp only [Act.put, List.setIfInBounds_toArray, List.set_cons_zero, List.set_cons_succ]
  refine wpAnyH_take (i := 3) (oi := ?oi20061) (v := ?v20061) ?hi20061 (by kernel_rfl) (by kernel_rfl) (by kernel_rfl) (fun _ _ _ h => h) (Or.inl ⟨?hw20061, ?hy20061⟩) (by assumption) ?rest20061
  case hi20061 => (simp only [List.getElem?_toArray, List.getElem?_cons_zero, List.getElem?_cons_succ]; rfl)
  case hw20061 => rfl
  case hy20061 => first | (intro wx hSw; obtain ⟨hs1, hs2⟩ := hSw; have hs3 := hs1.cell 1; have hs4 := hs2.cell 0; simp at hs3 hs4; go_simp; done) | (intro wx hSw; obtain ⟨hs1, hs2⟩ := hSw; have hs3 := hs1.cell 1; have hs4 := hs2.cell 0; simp at hs3 hs4; go_simp; with_reducible rfl)
  simp only [Act.put, List.setIfInBounds_toArray, List.set_cons_zero, List.set_cons_succ]
  refine wpAnyH_take (i := 4) (oi := ?oi20062) (v := ?v20062) ?hi20062 (by kernel_rfl) (by kernel_rfl) (by kernel_rfl) (fun _ _ _ h => h) (Or.inl ⟨?hw20062, ?hy20062⟩) (by assumption) ?rest20062
  case hi20062 => (simp only [List.getElem?_toArray, List.getElem?_cons_zero, List.getElem?_cons_succ]; rfl)
  case hw20062 => rfl
  case hy20062 => first | (intro wx hSw; obtain ⟨hs1, hs2⟩ := hSw; have hs3 := hs1.cell 1; have hs4 := hs2.cell 0; simp at hs3 hs4; go_simp; done) | (intro wx hSw; obtain ⟨hs1, hs2⟩ := hSw; have hs3 := hs1.cell 1; have hs4 := hs2.cell 0; simp at hs3 hs4; go_simp; with_reducible rfl)
  simp only [Act.put, List.setIfInBounds_toArray, List.set_cons_zero, List.set_cons_succ]
  refine wpAnyH_ready (rs := [5]) (by kernel_rfl) (by simp) ?_
  refine AllReadyH.cons rfl (fun K20063 hK20063 => ?_) AllReadyH.nil
  go_simp
  go_wp2_with (refine (unhide CP b o _).mono ?_; rintro e W1 ⟨rfl, rfl⟩)
  refine hK20063.out _ _ ?hs20063 (fun hHeld20063 => ?_)
  case hs20063 => exact hHeld
  clear hHeld
  have hHeld := hHeld20063; clear hHeld20063 hK20063 K20063
  refine wpAnyH_ready (rs := [6]) (by kernel_rfl) (by simp) ?_
  refine AllReadyH.cons rfl (fun K20064 hK20064 => ?_) AllReadyH.nil
  go_simp
  go_wp2_with (refine (unhide CC).mono ?_; intro e W2 hT; have HT := hide hT; obtain ⟨ok, y, r, rfl, hgr, hno, hyes⟩ := hT; have hgr := hgr; clear hno hyes)
  refine hK20064.out _ _ ?hs20064 (fun hHeld20064 => ?_)
  case hs20064 => exact ⟨(hgr.block _ (Nat.lt_of_lt_of_le hlf hsz) (by intro e; injection e with e; omega)).trans hHeld.1, (hgr.block _ (Nat.lt_of_lt_of_le hlp hsz) (by intro e; injection e with e; omega)).trans hHeld.2⟩
  clear hHeld
  have hHeld := hHeld20064; clear hHeld20064 hK20064 K20064
  refine wpAnyH_take (i := 7) (oi := ?oi20065) (v := ?v20065) ?hi20065 (by kernel_rfl) (by kernel_rfl) (by kernel_rfl) (fun _ _ _ h => h) (Or.inl ⟨?hw20065, ?hy20065⟩) (by assumption) ?rest20065
  case hi20065 => (simp only [List.getElem?_toArray, List.getElem?_cons_zero, List.getElem?_cons_succ]; rfl)
  case hw20065 => rfl
  case hy20065 => first | (intro wx hSw; go_simp; done) | (intro wx hSw; go_simp; with_reducible rfl)
  simp only [Act.put, List.setIfInBounds_toArray, List.set_cons_zero, List.set_cons_succ]
  refine wpAnyH_take (i := 8) (oi := ?oi20066) (v := ?v20066) ?hi20066 (by kernel_rfl) (by kernel_rfl) (by kernel_rfl) (fun _ _ _ h => h) (Or.inl ⟨?hw20066, ?hy20066⟩) (by assumption) ?rest20066
  case hi20066 => (simp only [List.getElem?_toArray, List.getElem?_cons_zero, List.getElem?_cons_succ]; rfl)
  case hw20066 => rfl
  case hy20066 => first | (intro wx hSw; go_simp; done) | (intro wx hSw; go_simp; with_reducible rfl)
  simp only [Act.put, List.setIfInBounds_toArray, List.set_cons_zero, List.set_cons_succ]
  refine wpAnyH_take (i := 9) (oi := ?oi20067) (v := ?v20067) ?hi20067 (by kernel_rfl) (by kernel_rfl) (by kernel_rfl) (fun _ _ _ h => h) (Or.inl ⟨?hw20067, ?hy20067⟩) (by assumption) ?rest20067
  case hi20067 => (simp only [List.getElem?_toArray, List.getElem?_cons_zero, List.getElem?_cons_succ]; rfl)
  case hw20067 => rfl
  case hy20067 => first | (intro wx hSw; go_simp; done) | (intro wx hSw; go_simp; with_reducible rfl)
  simp only [Act.put, List.setIfInBounds_toArray, List.set_cons_zero, List.set_cons_succ]
  refine wpAnyH_take (i := 10) (oi := ?oi20068) (v := ?v20068) ?hi20068 (by kernel_rfl) (by kernel_rfl) (by kernel_rfl) (fun _ _ _ h => h) (Or.inl ⟨?hw20068, ?hy20068⟩) (by assumption) ?rest20068
  case hi20068 => (simp only [List.getElem?_toArray, List.getElem?_cons_zero, List.getElem?_cons_succ]; rfl)
  case hw20068 => rfl
  case hy20068 => first | (intro wx hSw; go_simp; done) | (intro wx hSw; go_simp; with_reducible rfl)
  simp only [Act.put, List.setIfInBounds_toArray, List.set_cons_zero, List.set_cons_succ]
  refine wpAnyH_done (by kernel_rfl) ?_ _
  refine NoPanic.normal ?_
  refine hrest _ _ ?_
  clear hHeld
  go_wp2_with fail
  go_ret2
  exact TPost.part hQ hM hR' hn h2 h3 (unhide HRX) hx (fun xt r hqq => (unhide HQ xt r hqq).2.1) hWd (unhide HT)

set_option maxRecDepth 100000 in
set_option maxHeartbeats 2000000 in
theorem partCmdstringTakes {α β : Type} (LS : LayT α) (LF : LayT β) (π : α → β) (upd : α → β → α) (k : Nat) (fs ft pl : Value) (Tf Tp : TypeId) (bf bp : Nat) (w0 : World) (P Q : α → Prop) (PF QF : β → Prop) (D : α → Prop) (DF : β → Prop) (f : β → List UInt8) (M M' : α → α → Prop)
    (hP : ∀ x, P x → PF (π x)) (hQ : ∀ x y, P x → QF y → Q (upd x y)) (hD : ∀ x, D x → DF (π x)) (hM : ∀ x xt, M x xt → M' (upd x (π xt)) xt) (hR : ∀ x b o base W, LS.R x b o base W → LF.R (π x) b (o + k) base W)
    (hR' : ∀ x y b o base W W', b < base → base ≤ W.heap.size → LS.R x b o base W → P x → Upd b (o + k) LF.n W W' → LF.R y b (o + k) base W' → LS.R (upd x y) b o base W') (hn : k + LF.n ≤ LS.n)
    (hf : Takes ft w0 LF PF QF DF f (fun _ _ => True) (fun y yt => y = yt)) (hp : Place pl k) (hbf0 : Blk bf #[fs, ft] Tf w0) (hbp0 : Blk bp #[pl] Tp w0) : Takes (.func (.func 96) #[] #[ptr bf 0, ptr bp 0]) w0 LS P Q D (fun x => f (π x)) M M' := by
  obtain ⟨K, caps, rfl, hE, hc⟩ := hf
  obtain ⟨KP, rfl, hEP, hcp⟩ := hp
  refine ⟨_, _, rfl, (fun _ _ => by kernel_rfl), fun s W b o base x q hB h1 h2 h3 hRx hx hsl hq => ?_⟩
  simp only [List.append_toArray, List.cons_append, List.nil_append]
  have hbf := hbf0.below hB
  have hbp := hbp0.below hB
  have hlf := hbf0.lt
  have hlp := hbp0.lt
  have C := hide hc
  have CP := hide hcp
  have HQ := hide hq
  have HRX := hide hRx
  clear hc hcp hq hRx
  go_enter Try.func96, Try.ntmps96
  go_wp2
  rename_i hrest
  have hWd : Below W.heap.size W W.drew := (Below.refl _ _).drew
  refine wp_region_noPanic ?_
  refine wp_region_held_drew (S := (fun X => Blk bf #[fs, .func (.func K) #[] caps] Tf X ∧ Blk bp #[.func (.func KP) #[] #[]] Tp X)) (by kernel_rfl) (⟨hbf.below (Below.refl _ _).drew, hbp.below (Below.refl _ _).drew⟩) (fun hHeld => ?_)
  clear hbf hbp
  generalize W.drew = Wd at *
  have hsz : w0.heap.size ≤ Wd.heap.size := Nat.le_trans hB.size hWd.size
  have CC := hide (unhide C s Wd b (o + k) base (π x) (q.map fun p => (π p.1, p.2)) (Below.onto hB hWd) h1 h2 (Nat.le_trans h3 hWd.size) (hR _ _ _ _ _ (LS.keep (unhide HRX) hWd)) (hP _ hx) hsl (by
    intro yt r hy
    rcases hqq : q with _ | ⟨xt, r1⟩
    · rw [hqq] at hy; cases hy
    · rw [hqq] at hy
      simp at hy
      obtain ⟨rfl, rfl⟩ := hy
      obtain ⟨g1, g2, g3⟩ := unhide HQ xt r1 hqq
      exact ⟨hD _ g1, trivial, g3⟩))
  clear C
  refine wpAnyH_take (i := 0) (oi := ?oi20069) (v := ?v20069) ?hi20069 (by kernel_rfl) (by kernel_rfl) (by kernel_rfl) (fun _ _ _ h => h) (Or.inl ⟨?hw20069, ?hy20069⟩) (by assumption) ?rest20069
  case hi20069 => (simp only [List.getElem?_toArray, List.getElem?_cons_zero]; rfl)
  case hw20069 => rfl
  case hy20069 => first | (intro wx hSw; obtain ⟨hs1, hs2⟩ := hSw; have hs3 := hs1.cell 1; have hs4 := hs2.cell 0; simp at hs3 hs4; go_simp; done) | (intro wx hSw; obtain ⟨hs1, hs2⟩ := hSw; have hs3 := hs1.cell 1; have hs4 := hs2.cell 0; simp at hs3 hs4; go_simp; with_reducible rfl)
  simp only [Act.put, List.setIfInBounds_toArray, List.set_cons_zero, List.set_cons_succ]
  refine wpAnyH_take (i := 1) (oi := ?oi20070) (v := ?v20070) ?hi20070 (by kernel_rfl) (by kernel_rfl) (by kernel_rfl) (fun _ _ _ h => h) (Or.inl ⟨?hw20070, ?hy20070⟩) (by assumption) ?rest20070
  case hi20070 => (simp only [List.getElem?_toArray, List.getElem?_cons_zero, List.getElem?_cons_succ]; rfl)
  case hw20070 => rfl
  case hy20070 => first | (intro wx hSw; obtain ⟨hs1, hs2⟩ := hSw; have hs3 := hs1.cell 1; have hs4 := hs2.cell 0; simp at hs3 hs4; go_simp; done) | (intro wx hSw; obtain ⟨hs1, hs2⟩ := hSw; have hs3 := hs1.cell 1; have hs4 := hs2.cell 0; simp at hs3 hs4; go_simp; with_reducible rfl)
  simp only [Act.put, List.setIfInBounds_toArray, List.set_cons_zero, List.set_cons_succ]
  refine wpAnyH_take (i := 2) (oi := ?oi20071) (v := ?v20071) ?hi20071 (by kernel_rfl) (by kernel_rfl) (by kernel_rfl) (fun _ _ _ h => h) (Or.inl ⟨?hw20071, ?hy20071⟩) (by assumption) ?rest20071
  case hi20071 => (simp only [List.getElem?_toArray, List.getElem?_cons_zero, List.getElem?_cons_succ]; rfl)
  case hw20071 => rfl
  case hy20071 => first | (intro wx hSw; obtain ⟨hs1, hs2⟩ := hSw; have hs3 := hs1.cell 1; have hs4 := hs2.cell 0; simp at hs3 hs4; go_simp; done) | (intro wx hSw; obtain ⟨hs1, hs2⟩ := hSw; have hs3 := hs1.cell 1; have hs4 := hs2.cell 0; simp at hs3 hs4; go_simp; with_reducible rfl)
  simp only [Act.put, List.setIfInBounds_toArray, List.set_cons_zero, List.set_cons_succ]
  refine wpAnyH_take (i := 3) (oi := ?oi20072) (v := ?v20072) ?hi20072 (by kernel_rfl) (by kernel_rfl) (by kernel_rfl) (fun _ _ _ h => h) (Or.inl ⟨?hw20072, ?hy20072⟩) (by assumption) ?rest20072
  case hi20072 => (simp only [List.getElem?_toArray, List.getElem?_cons_zero, List.getElem?_cons_succ]; rfl)
  case hw20072 => rfl
  case hy20072 => first | (intro wx hSw; obtain ⟨hs1, hs2⟩ := hSw; have hs3 := hs1.cell 1; have hs4 := hs2.cell 0; simp at hs3 hs4; go_simp; done) | (intro wx hSw; obtain ⟨hs1, hs2⟩ := hSw; have hs3 := hs1.cell 1; have hs4 := hs2.cell 0; simp at hs3 hs4; go_simp; with_reducible rfl)
  simp only [Act.put, List.setIfInBounds_toArray, List.set_cons_zero, List.set_cons_succ]
  refine wpAnyH_take (i := 4) (oi := ?oi20073) (v := ?v20073) ?hi20073 (by kernel_rfl) (by kernel_rfl) (by kernel_rfl) (fun _ _ _ h => h) (Or.inl ⟨?hw20073, ?hy20073⟩) (by assumption) ?rest20073
  case hi20073 => (simp only [List.getElem?_toArray, List.getElem?_cons_zero, List.getElem?_cons_succ]; rfl)
  case hw20073 => rfl
  case hy20073 => first | (intro wx hSw; obtain ⟨hs1, hs2⟩ := hSw; have hs3 := hs1.cell 1; have hs4 := hs2.cell 0; simp at hs3 hs4; go_simp; done) | (intro wx hSw; obtain ⟨hs1, hs2⟩ := hSw; have hs3 := hs1.cell 1; have hs4 := hs2.cell 0; simp at hs3 hs4; go_simp; with_reducible rfl)
  simp only [Act.put, List.setIfInBounds_toArray, List.set_cons_zero, List.set_cons_succ]
  refine wpAnyH_ready (rs := [5]) (by kernel_rfl) (by simp) ?_
  refine AllReadyH.cons rfl (fun K20074 hK20074 => ?_) AllReadyH.nil
  go_simp
  go_wp2_with (refine (unhide CP b o _).mono ?_; rintro e W1 ⟨rfl, rfl⟩)
  refine hK20074.out _ _ ?hs20074 (fun hHeld20074 => ?_)
  case hs20074 => exact hHeld
  clear hHeld
  have hHeld := hHeld20074; clear hHeld20074 hK20074 K20074
  refine wpAnyH_ready (rs := [6]) (by kernel_rfl) (by simp) ?_
  refine AllReadyH.cons rfl (fun K20075 hK20075 => ?_) AllReadyH.nil
  go_simp
  go_wp2_with (refine (unhide CC).mono ?_; intro e W2 hT; have HT := hide hT; obtain ⟨ok, y, r, rfl, hgr, hno, hyes⟩ := hT; have hgr := hgr; clear hno hyes)
  refine hK20075.out _ _ ?hs20075 (fun hHeld20075 => ?_)
  case hs20075 => exact ⟨(hgr.block _ (Nat.lt_of_lt_of_le hlf hsz) (by intro e; injection e with e; omega)).trans hHeld.1, (hgr.block _ (Nat.lt_of_lt_of_le hlp hsz) (by intro e; injection e with e; omega)).trans hHeld.2⟩
  clear hHeld
  have hHeld := hHeld20075; clear hHeld20075 hK20075 K20075
  refine wpAnyH_take (i := 7) (oi := ?oi20076) (v := ?v20076) ?hi20076 (by kernel_rfl) (by kernel_rfl) (by kernel_rfl) (fun _ _ _ h => h) (Or.inl ⟨?hw20076, ?hy20076⟩) (by assumption) ?rest20076
  case hi20076 => (simp only [List.getElem?_toArray, List.getElem?_cons_zero, List.getElem?_cons_succ]; rfl)
  case hw20076 => rfl
  case hy20076 => first | (intro wx hSw; go_simp; done) | (intro wx hSw; go_simp; with_reducible rfl)
  simp only [Act.put, List.setIfInBounds_toArray, List.set_cons_zero, List.set_cons_succ]
  refine wpAnyH_take (i := 8) (oi := ?oi20077) (v := ?v20077) ?hi20077 (by kernel_rfl) (by kernel_rfl) (by kernel_rfl) (fun _ _ _ h => h) (Or.inl ⟨?hw20077, ?hy20077⟩) (by assumption) ?rest20077
  case hi20077 => (simp only [List.getElem?_toArray, List.getElem?_cons_zero, List.getElem?_cons_succ]; rfl)
  case hw20077 => rfl
  case hy20077 => first | (intro wx hSw; go_simp; done) | (intro wx hSw; go_simp; with_reducible rfl)
  simp only [Act.put, List.setIfInBounds_toArray, List.set_cons_zero, List.set_cons_succ]
  refine wpAnyH_take (i := 9) (oi := ?oi20078) (v := ?v20078) ?hi20078 (by kernel_rfl) (by kernel_rfl) (by kernel_rfl) (fun _ _ _ h => h) (Or.inl ⟨?hw20078, ?hy20078⟩) (by assumption) ?rest20078
  case hi20078 => (simp only [List.getElem?_toArray, List.getElem?_cons_zero, List.getElem?_cons_succ]; rfl)
  case hw20078 => rfl
  case hy20078 => first | (intro wx hSw; go_simp; done) | (intro wx hSw; go_simp; with_reducible rfl)
  simp only [Act.put, List.setIfInBounds_toArray, List.set_cons_zero, List.set_cons_succ]
  refine wpAnyH_take (i := 10) (oi := ?oi20079) (v := ?v20079) ?hi20079 (by kernel_rfl) (by kernel_rfl) (by kernel_rfl) (fun _ _ _ h => h) (Or.inl ⟨?hw20079, ?hy20079⟩) (by assumption) ?rest20079
  case hi20079 => (simp only [List.getElem?_toArray, List.getElem?_cons_zero, List.getElem?_cons_succ]; rfl)
  case hw20079 => rfl
  case hy20079 => first | (intro wx hSw; go_simp; done) | (intro wx hSw; go_simp; with_reducible rfl)
  simp only [Act.put, List.setIfInBounds_toArray, List.set_cons_zero, List.set_cons_succ]
  refine wpAnyH_done (by kernel_rfl) ?_ _
  refine NoPanic.normal ?_
  refine hrest _ _ ?_
  clear hHeld
  go_wp2_with fail
  go_ret2
  exact TPost.part hQ hM hR' hn h2 h3 (unhide HRX) hx (fun xt r hqq => (unhide HQ xt r hqq).2.1) hWd (unhide HT)

set_option maxRecDepth 100000 in
set_option maxHeartbeats 2000000 in
theorem partCmdWritesTakes {α β : Type} (LS : LayT α) (LF : LayT β) (π : α → β) (upd : α → β → α) (k : Nat) (fs ft pl : Value) (Tf Tp : TypeId) (bf bp : Nat) (w0 : World) (P Q : α → Prop) (PF QF : β → Prop) (D : α → Prop) (DF : β → Prop) (f : β → List UInt8) (M M' : α → α → Prop)
    (hP : ∀ x, P x → PF (π x)) (hQ : ∀ x y, P x → QF y → Q (upd x y)) (hD : ∀ x, D x → DF (π x)) (hM : ∀ x xt, M x xt → M' (upd x (π xt)) xt) (hR : ∀ x b o base W, LS.R x b o base W → LF.R (π x) b (o + k) base W)
    (hR' : ∀ x y b o base W W', b < base → base ≤ W.heap.size → LS.R x b o base W → P x → Upd b (o + k) LF.n W W' → LF.R y b (o + k) base W' → LS.R (upd x y) b o base W') (hn : k + LF.n ≤ LS.n)
    (hf : Takes ft w0 LF PF QF DF f (fun _ _ => True) (fun y yt => y = yt)) (hp : Place pl k) (hbf0 : Blk bf #[fs, ft] Tf w0) (hbp0 : Blk bp #[pl] Tp w0) : Takes (.func (.func 88) #[] #[ptr bf 0, ptr bp 0]) w0 LS P Q D (fun x => f (π x)) M M' := by
  obtain ⟨K, caps, rfl, hE, hc⟩ := hf
  obtain ⟨KP, rfl, hEP, hcp⟩ := hp
  refine ⟨_, _, rfl, (fun _ _ => by kernel_rfl), fun s W b o base x q hB h1 h2 h3 hRx hx hsl hq => ?_⟩
  simp only [List.append_toArray, List.cons_append, List.nil_append]
  have hbf := hbf0.below hB
  have hbp := hbp0.below hB
  have hlf := hbf0.lt
  have hlp := hbp0.lt
  have C := hide hc
  have CP := hide hcp
  have HQ := hide hq
  have HRX := hide hRx
  clear hc hcp hq hRx
  go_enter Try.func88, Try.ntmps88
  go_wp2
  rename_i hrest
  have hWd : Below W.heap.size W W.drew := (Below.refl _ _).drew
  refine wp_region_noPanic ?_
  refine wp_region_held_drew (S := (fun X => Blk bf #[fs, .func (.func K) #[] caps] Tf X ∧ Blk bp #[.func (.func KP) #[] #[]] Tp X)) (by kernel_rfl) (⟨hbf.below (Below.refl _ _).drew, hbp.below (Below.refl _ _).drew⟩) (fun hHeld => ?_)
  clear hbf hbp
  generalize W.drew = Wd at *
  have hsz : w0.heap.size ≤ Wd.heap.size := Nat.le_trans hB.size hWd.size
  have CC := hide (unhide C s Wd b (o + k) base (π x) (q.map fun p => (π p.1, p.2)) (Below.onto hB hWd) h1 h2 (Nat.le_trans h3 hWd.size) (hR _ _ _ _ _ (LS.keep (unhide HRX) hWd)) (hP _ hx) hsl (by
    intro yt r hy
    rcases hqq : q with _ | ⟨xt, r1⟩
    · rw [hqq] at hy; cases hy
    · rw [hqq] at hy
      simp at hy
      obtain ⟨rfl, rfl⟩ := hy
      obtain ⟨g1, g2, g3⟩ := unhide HQ xt r1 hqq
      exact ⟨hD _ g1, trivial, g3⟩))
  clear C
  refine wpAnyH_take (i := 0) (oi := ?oi20080) (v := ?v20080) ?hi20080 (by kernel_rfl) (by kernel_rfl) (by kernel_rfl) (fun _ _ _ h => h) (Or.inl ⟨?hw20080, ?hy20080⟩) (by assumption) ?rest20080
  case hi20080 => (simp only [List.getElem?_toArray, List.getElem?_cons_zero]; rfl)
  case hw20080 => rfl
  case hy20080 => first | (intro wx hSw; obtain ⟨hs1, hs2⟩ := hSw; have hs3 := hs1.cell 1; have hs4 := hs2.cell 0; simp at hs3 hs4; go_simp; done) | (intro wx hSw; obtain ⟨hs1, hs2⟩ := hSw; have hs3 := hs1.cell 1; have hs4 := hs2.cell 0; simp at hs3 hs4; go_simp; with_reducible rfl)
  simp only [Act.put, List.setIfInBounds_toArray, List.set_cons_zero, List.set_cons_succ]
  refine wpAnyH_take (i := 1) (oi := ?oi20081) (v := ?v20081) ?hi20081 (by kernel_rfl) (by kernel_rfl) (by kernel_rfl) (fun _ _ _ h => h) (Or.inl ⟨?hw20081, ?hy20081⟩) (by assumption) ?rest20081
  case hi20081 => (simp only [List.getElem?_toArray, List.getElem?_cons_zero, List.getElem?_cons_succ]; rfl)
  case hw20081 => rfl
  case hy20081 => first | (intro wx hSw; obtain ⟨hs1, hs2⟩ := hSw; have hs3 := hs1.cell 1; have hs4 := hs2.cell 0; simp at hs3 hs4; go_simp; done) | (intro wx hSw; obtain ⟨hs1, hs2⟩ := hSw; have hs3 := hs1.cell 1; have hs4 := hs2.cell 0; simp at hs3 hs4; go_simp; with_reducible rfl)
  simp only [Act.put, List.setIfInBounds_toArray, List.set_cons_zero, List.set_cons_succ]
  refine wpAnyH_take (i := 2) (oi := ?oi20082) (v := ?v20082) ?hi20082 (by kernel_rfl) (by kernel_rfl) (by kernel_rfl) (fun _ _ _ h => h) (Or.inl ⟨?hw20082, ?hy20082⟩) (by assumption) ?rest20082
  case hi20082 => (simp only [List.getElem?_toArray, List.getElem?_cons_zero, List.getElem?_cons_succ]; rfl)
  case hw20082 => rfl
  case hy20082 => first | (intro wx hSw; obtain ⟨hs1, hs2⟩ := hSw; have hs3 := hs1.cell 1; have hs4 := hs2.cell 0; simp at hs3 hs4; go_simp; done) | (intro wx hSw; obtain ⟨hs1, hs2⟩ := hSw; have hs3 := hs1.cell 1; have hs4 := hs2.cell 0; simp at hs3 hs4; go_simp; with_reducible rfl)
  simp only [Act.put, List.setIfInBounds_toArray, List.set_cons_zero, List.set_cons_succ]
  refine wpAnyH_take (i := 3) (oi := ?oi20083) (v := ?v20083) ?hi20083 (by kernel_rfl) (by kernel_rfl) (by kernel_rfl) (fun _ _ _ h => h) (Or.inl ⟨?hw20083, ?hy20083⟩) (by assumption) ?rest20083
  case hi20083 => (simp only [List.getElem?_toArray, List.getElem?_cons_zero, List.getElem?_cons_succ]; rfl)
  case hw20083 => rfl
  case hy20083 => first | (intro wx hSw; obtain ⟨hs1, hs2⟩ := hSw; have hs3 := hs1.cell 1; have hs4 := hs2.cell 0; simp at hs3 hs4; go_simp; done) | (intro wx hSw; obtain ⟨hs1, hs2⟩ := hSw; have hs3 := hs1.cell 1; have hs4 := hs2.cell 0; simp at hs3 hs4; go_simp; with_reducible rfl)
  simp only [Act.put, List.setIfInBounds_toArray, List.set_cons_zero, List.set_cons_succ]
  refine wpAnyH_take (i := 4) (oi := ?oi20084) (v := ?v20084) ?hi20084 (by kernel_rfl) (by kernel_rfl) (by kernel_rfl) (fun _ _ _ h => h) (Or.inl ⟨?hw20084, ?hy20084⟩) (by assumption) ?rest20084
  case hi20084 => (simp only [List.getElem?_toArray, List.getElem?_cons_zero, List.getElem?_cons_succ]; rfl)
  case hw20084 => rfl
  case hy20084 => first | (intro wx hSw; obtain ⟨hs1, hs2⟩ := hSw; have hs3 := hs1.cell 1; have hs4 := hs2.cell 0; simp at hs3 hs4; go_simp; done) | (intro wx hSw; obtain ⟨hs1, hs2⟩ := hSw; have hs3 := hs1.cell 1; have hs4 := hs2.cell 0; simp at hs3 hs4; go_simp; with_reducible rfl)
  simp only [Act.put, List.setIfInBounds_toArray, List.set_cons_zero, List.set_cons_succ]
  refine wpAnyH_ready (rs := [5]) (by kernel_rfl) (by simp) ?_
  refine AllReadyH.cons rfl (fun K20085 hK20085 => ?_) AllReadyH.nil
  go_simp
  go_wp2_with (refine (unhide CP b o _).mono ?_; rintro e W1 ⟨rfl, rfl⟩)
  refine hK20085.out _ _ ?hs20085 (fun hHeld20085 => ?_)
  case hs20085 => exact hHeld
  clear hHeld
  have hHeld := hHeld20085; clear hHeld20085 hK20085 K20085
  refine wpAnyH_ready (rs := [6]) (by kernel_rfl) (by simp) ?_
  refine AllReadyH.cons rfl (fun K20086 hK20086 => ?_) AllReadyH.nil
  go_simp
  go_wp2_with (refine (unhide CC).mono ?_; intro e W2 hT; have HT := hide hT; obtain ⟨ok, y, r, rfl, hgr, hno, hyes⟩ := hT; have hgr := hgr; clear hno hyes)
  refine hK20086.out _ _ ?hs20086 (fun hHeld20086 => ?_)
  case hs20086 => exact ⟨(hgr.block _ (Nat.lt_of_lt_of_le hlf hsz) (by intro e; injection e with e; omega)).trans hHeld.1, (hgr.block _ (Nat.lt_of_lt_of_le hlp hsz) (by intro e; injection e with e; omega)).trans hHeld.2⟩
  clear hHeld
  have hHeld := hHeld20086; clear hHeld20086 hK20086 K20086
  refine wpAnyH_take (i := 7) (oi := ?oi20087) (v := ?v20087) ?hi20087 (by kernel_rfl) (by kernel_rfl) (by kernel_rfl) (fun _ _ _ h => h) (Or.inl ⟨?hw20087, ?hy20087⟩) (by assumption) ?rest20087
  case hi20087 => (simp only [List.getElem?_toArray, List.getElem?_cons_zero, List.getElem?_cons_succ]; rfl)
  case hw20087 => rfl
  case hy20087 => first | (intro wx hSw; go_simp; done) | (intro wx hSw; go_simp; with_reducible rfl)
  simp only [Act.put, List.setIfInBounds_toArray, List.set_cons_zero, List.set_cons_succ]
  refine wpAnyH_take (i := 8) (oi := ?oi20088) (v := ?v20088) ?hi20088 (by kernel_rfl) (by kernel_rfl) (by kernel_rfl) (fun _ _ _ h => h) (Or.inl ⟨?hw20088, ?hy20088⟩) (by assumption) ?rest20088
  case hi20088 => (simp only [List.getElem?_toArray, List.getElem?_cons_zero, List.getElem?_cons_succ]; rfl)
  case hw20088 => rfl
  case hy20088 => first | (intro wx hSw; go_simp; done) | (intro wx hSw; go_simp; with_reducible rfl)
  simp only [Act.put, List.setIfInBounds_toArray, List.set_cons_zero, List.set_cons_succ]
  refine wpAnyH_take (i := 9) (oi := ?oi20089) (v := ?v20089) ?hi20089 (by kernel_rfl) (by kernel_rfl) (by kernel_rfl) (fun _ _ _ h => h) (Or.inl ⟨?hw20089, ?hy20089⟩) (by assumption) ?rest20089
  case hi20089 => (simp only [List.getElem?_toArray, List.getElem?_cons_zero, List.getElem?_cons_succ]; rfl)
  case hw20089 => rfl
  case hy20089 => first | (intro wx hSw; go_simp; done) | (intro wx hSw; go_simp; with_reducible rfl)
  simp only [Act.put, List.setIfInBounds_toArray, List.set_cons_zero, List.set_cons_succ]
  refine wpAnyH_take (i := 10) (oi := ?oi20090) (v := ?v20090) ?hi20090 (by kernel_rfl) (by kernel_rfl) (by kernel_rfl) (fun _ _ _ h => h) (Or.inl ⟨?hw20090, ?hy20090⟩) (by assumption) ?rest20090
  case hi20090 => (simp only [List.getElem?_toArray, List.getElem?_cons_zero, List.getElem?_cons_succ]; rfl)
  case hw20090 => rfl
  case hy20090 => first | (intro wx hSw; go_simp; done) | (intro wx hSw; go_simp; with_reducible rfl)
  simp only [Act.put, List.setIfInBounds_toArray, List.set_cons_zero, List.set_cons_succ]
  refine wpAnyH_done (by kernel_rfl) ?_ _
  refine NoPanic.normal ?_
  refine hrest _ _ ?_
  clear hHeld
  go_wp2_with fail
  go_ret2
  exact TPost.part hQ hM hR' hn h2 h3 (unhide HRX) hx (fun xt r hqq => (unhide HQ xt r hqq).2.1) hWd (unhide HT)
end Go.Proofs.Ytjmmfgmmmdbenaa
