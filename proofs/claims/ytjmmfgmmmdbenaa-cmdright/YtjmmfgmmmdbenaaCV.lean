/-
  Package cmd: parts one behind the other, parts that may not stand, taken.
-/
import Derived.Test.YtjmmfgmmmdbenaaCB
import Derived.Test.YtjmmfgmmmdbenaaCT
namespace Go.Proofs.Ytjmmfgmmmdbenaa
open Go.RowKit
set_option linter.unusedSimpArgs false
set_option linter.unusedVariables false

theorem allF_drop {α : Type} (ps : List (Part α)) (x : α) (k : Nat) (h : k < ps.length) : allF (ps.drop k) x = ps[k].f x ++ allF (ps.drop (k + 1)) x := by
  rw [List.drop_eq_getElem_cons h]; rfl
theorem qmap {α : Type} {q : Option (α × List UInt8)} {g : α → List UInt8} {xt : α} {r : List UInt8} (h : (q.map fun p => (p.1, g p.1 ++ p.2)) = some (xt, r)) : ∃ r0, q = some (xt, r0) ∧ r = g xt ++ r0 := by
  cases q with
  | none => cases h
  | some p => simp at h; obtain ⟨rfl, rfl⟩ := h; exact ⟨p.2, rfl, rfl⟩
theorem qmap_none {α β : Type} {q : Option α} {g : α → β} (h : q.map g = none) : q = none := by
  cases q with
  | none => rfl
  | some p => cases h

set_option maxRecDepth 100000 in
set_option maxHeartbeats 2000000 in
theorem allWriteTakes {α : Type} (L : LayT α) (ps : List (Part α)) (Inv : Nat → α → Prop) (Mt : Nat → α → α → Prop) (bs gp cap : Nat) (Tp : TypeId) (w0 : World) (hps : ∀ i (h : i < ps.length), Takes ps[i].ft w0 L (Inv i) (Inv (i + 1)) ps[i].D ps[i].f (Mt i) (Mt (i + 1))) (hfn : ∀ p ∈ ps, IsFn p.fs) (hn : ps.length ≤ 100)
    (hbox : w0.cell? ⟨bs, 0, none⟩ = some (.slice (some ⟨gp, 0, none⟩) ps.length cap)) (hat : PartsAt gp ps Tp w0) :
    Takes (.func (.func 68) #[] #[ptr bs 0]) w0 L (Inv 0) (Inv ps.length) (fun x => ∀ p ∈ ps, p.D x) (allF ps) (Mt 0) (Mt ps.length) := by
  refine ⟨_, _, rfl, (fun _ _ => by kernel_rfl), fun s W b o base x q hB h1 h2 h3 hRx hx hsl hq => ?_⟩
  simp only [List.append_toArray, List.cons_append, List.nil_append]
  have hbl := World.block_lt_of_cell? _ _ hbox
  have hcb : W.cell? ⟨bs, 0, none⟩ = some (.slice (some ⟨gp, 0, none⟩) ps.length cap) := (World.cell?_of_block (a := ⟨bs, 0, none⟩) (hB.block _ hbl)).trans hbox
  have HAT := hide hat
  have HPS := hide hps
  have HFN := hide hfn
  have HB := hide hB
  have HQ := hide hq
  have HR := hide hRx
  have HX := hide hx
  have hblt : b < W.heap.size := by omega
  clear hps hfn hat hB hq hRx hx hbox
  go_enter Try.func68, Try.ntmps68
  go_wp2
  go_loopw [0, 7, 12] (fun u is i wr => ∃ k : Nat, k ≤ ps.length ∧ i = .int .i64 (k : Int) ∧ is = .bool true ∧ ∃ sk y, u = .string sk ∧ Hid (Inv k y) ∧ Hid (L.R y b o base wr) ∧ sk.size ≤ s.size ∧ Hid (∀ xt r, q = some (xt, r) → Mt k y xt ∧ by8 sk = allF (ps.drop k) xt ++ r) ∧ Upd b o L.n W wr)
    (fun u is i wr => ps.length - (intOf i).toNat)
  case atStart => exact ⟨0, Nat.zero_le _, rfl, rfl, s, x, rfl, HX, HR, Nat.le_refl _, (fun xt r h => by simpa using (unhide HQ xt r h).2), Upd.refl _ _ _ _⟩
  case round =>
    obtain ⟨k, hk, rfl, rfl, sk, y, rfl, HI, HRy, hsk, HS, hU⟩ := hrel
    have hszz := hU.grown.size
    by_cases hlt : k < ps.length
    · obtain ⟨K, caps, hft, hE, hc⟩ := unhide HPS k hlt
      have HBw : Hid (Below w0.heap.size w0 wr) := by
        show Below _ _ _
        exact (unhide HB).trans (below_of_grown hU.grown h1 (unhide HB).size)
      have hce := (Blk.below (unhide HAT) (unhide HBw)) |> fun (h : PartsAt gp ps Tp wr) => PartsAt.cell h k hlt
      rw [hft] at hce
      obtain ⟨Ks, capss, hfs⟩ := unhide HFN ps[k] (List.getElem_mem hlt)
      rw [hfs] at hce
      obtain ⟨hc0, hc1⟩ := hce
      have C := hide hc
      clear hc hfs hft
      go_wp2_with (refine (unhide C sk _ b o base y (q.map fun p => (p.1, allF (ps.drop (k + 1)) p.1 ++ p.2)) (Below.onto (unhide HBw) (below_new wr _)) h1 h2 (Nat.le_trans (Nat.le_trans h3 hszz) (below_new wr _).size) (L.keep (unhide HRy) (below_new wr _)) (unhide HI) (Nat.le_trans hsk hsl) (by
          intro xt r hy
          obtain ⟨r0, hqq, rfl⟩ := qmap hy
          obtain ⟨g1, g2⟩ := unhide HS xt r0 hqq
          exact ⟨(unhide HQ xt r0 hqq).1 _ (List.getElem_mem hlt), g1, by rw [g2, allF_drop ps xt k hlt, List.append_assoc]⟩)).mono ?_; rintro e W2 ⟨ok, y2, r, rfl, hgr, hno, hyes⟩; have HNO := hide hno; have HYES := hide hyes; clear hno hyes; rcases ok with _ | _)
      · go_ret2
        obtain ⟨hq0, _⟩ := unhide HNO (by first | rfl | trivial)
        exact TPost.fail y (grownBy_trans hU.grown (grownBy_trans (grownBy_below _ (below_new wr _)) hgr (.inl rfl)) (.inl rfl)) (qmap_none hq0)
      · obtain ⟨g1, g2, g3, g4, g5⟩ := unhide HYES (by first | rfl | trivial)
        go_roundw
        case rel => exact ⟨k + 1, by omega, by go_num, rfl, _, y2, rfl, g1, g2, Nat.le_trans g3 hsk, (fun xt r0 h => g4 xt _ (by rw [h]; rfl)), hU.trans ((Upd.below (by omega) (below_new wr _)).trans g5)⟩
        case measure => simp [intOf] <;> omega
    · obtain rfl : k = ps.length := by omega
      go_wp2
      go_ret2
      refine TPost.done (unhide HI) (unhide HRy) hsk (fun xt r0 h => ?_) hU
      obtain ⟨g1, g2⟩ := unhide HS xt r0 h
      exact ⟨g1, by simpa [allF] using g2⟩

set_option maxRecDepth 100000 in
set_option maxHeartbeats 2000000 in
theorem allCmdTakes {α : Type} (L : LayT α) (ps : List (Part α)) (Inv : Nat → α → Prop) (Mt : Nat → α → α → Prop) (bs gp cap : Nat) (Tp : TypeId) (w0 : World) (hps : ∀ i (h : i < ps.length), Takes ps[i].ft w0 L (Inv i) (Inv (i + 1)) ps[i].D ps[i].f (Mt i) (Mt (i + 1))) (hfn : ∀ p ∈ ps, IsFn p.fs) (hn : ps.length ≤ 100)
    (hbox : w0.cell? ⟨bs, 0, none⟩ = some (.slice (some ⟨gp, 0, none⟩) ps.length cap)) (hat : PartsAt gp ps Tp w0) :
    Takes (.func (.func 79) #[] #[ptr bs 0]) w0 L (Inv 0) (Inv ps.length) (fun x => ∀ p ∈ ps, p.D x) (allF ps) (Mt 0) (Mt ps.length) := by
  refine ⟨_, _, rfl, (fun _ _ => by kernel_rfl), fun s W b o base x q hB h1 h2 h3 hRx hx hsl hq => ?_⟩
  simp only [List.append_toArray, List.cons_append, List.nil_append]
  have hbl := World.block_lt_of_cell? _ _ hbox
  have hcb : W.cell? ⟨bs, 0, none⟩ = some (.slice (some ⟨gp, 0, none⟩) ps.length cap) := (World.cell?_of_block (a := ⟨bs, 0, none⟩) (hB.block _ hbl)).trans hbox
  have HAT := hide hat
  have HPS := hide hps
  have HFN := hide hfn
  have HB := hide hB
  have HQ := hide hq
  have HR := hide hRx
  have HX := hide hx
  have hblt : b < W.heap.size := by omega
  clear hps hfn hat hB hq hRx hx hbox
  go_enter Try.func79, Try.ntmps79
  go_wp2
  go_loopw [0, 7, 12] (fun u is i wr => ∃ k : Nat, k ≤ ps.length ∧ i = .int .i64 (k : Int) ∧ is = .bool true ∧ ∃ sk y, u = .string sk ∧ Hid (Inv k y) ∧ Hid (L.R y b o base wr) ∧ sk.size ≤ s.size ∧ Hid (∀ xt r, q = some (xt, r) → Mt k y xt ∧ by8 sk = allF (ps.drop k) xt ++ r) ∧ Upd b o L.n W wr)
    (fun u is i wr => ps.length - (intOf i).toNat)
  case atStart => exact ⟨0, Nat.zero_le _, rfl, rfl, s, x, rfl, HX, HR, Nat.le_refl _, (fun xt r h => by simpa using (unhide HQ xt r h).2), Upd.refl _ _ _ _⟩
  case round =>
    obtain ⟨k, hk, rfl, rfl, sk, y, rfl, HI, HRy, hsk, HS, hU⟩ := hrel
    have hszz := hU.grown.size
    by_cases hlt : k < ps.length
    · obtain ⟨K, caps, hft, hE, hc⟩ := unhide HPS k hlt
      have HBw : Hid (Below w0.heap.size w0 wr) := by
        show Below _ _ _
        exact (unhide HB).trans (below_of_grown hU.grown h1 (unhide HB).size)
      have hce := (Blk.below (unhide HAT) (unhide HBw)) |> fun (h : PartsAt gp ps Tp wr) => PartsAt.cell h k hlt
      rw [hft] at hce
      obtain ⟨Ks, capss, hfs⟩ := unhide HFN ps[k] (List.getElem_mem hlt)
      rw [hfs] at hce
      obtain ⟨hc0, hc1⟩ := hce
      have C := hide hc
      clear hc hfs hft
      go_wp2_with (refine (unhide C sk _ b o base y (q.map fun p => (p.1, allF (ps.drop (k + 1)) p.1 ++ p.2)) (Below.onto (unhide HBw) (below_new wr _)) h1 h2 (Nat.le_trans (Nat.le_trans h3 hszz) (below_new wr _).size) (L.keep (unhide HRy) (below_new wr _)) (unhide HI) (Nat.le_trans hsk hsl) (by
          intro xt r hy
          obtain ⟨r0, hqq, rfl⟩ := qmap hy
          obtain ⟨g1, g2⟩ := unhide HS xt r0 hqq
          exact ⟨(unhide HQ xt r0 hqq).1 _ (List.getElem_mem hlt), g1, by rw [g2, allF_drop ps xt k hlt, List.append_assoc]⟩)).mono ?_; rintro e W2 ⟨ok, y2, r, rfl, hgr, hno, hyes⟩; have HNO := hide hno; have HYES := hide hyes; clear hno hyes; rcases ok with _ | _)
      · go_ret2
        obtain ⟨hq0, _⟩ := unhide HNO (by first | rfl | trivial)
        exact TPost.fail y (grownBy_trans hU.grown (grownBy_trans (grownBy_below _ (below_new wr _)) hgr (.inl rfl)) (.inl rfl)) (qmap_none hq0)
      · obtain ⟨g1, g2, g3, g4, g5⟩ := unhide HYES (by first | rfl | trivial)
        go_roundw
        case rel => exact ⟨k + 1, by omega, by go_num, rfl, _, y2, rfl, g1, g2, Nat.le_trans g3 hsk, (fun xt r0 h => g4 xt _ (by rw [h]; rfl)), hU.trans ((Upd.below (by omega) (below_new wr _)).trans g5)⟩
        case measure => simp [intOf] <;> omega
    · obtain rfl : k = ps.length := by omega
      go_wp2
      go_ret2
      refine TPost.done (unhide HI) (unhide HRy) hsk (fun xt r0 h => ?_) hU
      obtain ⟨g1, g2⟩ := unhide HS xt r0 h
      exact ⟨g1, by simpa [allF] using g2⟩

set_option maxRecDepth 100000 in
set_option maxHeartbeats 2000000 in
theorem unlessTakes {α : Type} (L : LayT α) (set : α → Bool) (ko : Nat) (fs ft pl : Value) (Tf Tp : TypeId) (bp bf : Nat) (w0 : World) (P Q D D' : α → Prop) (f : α → List UInt8) (M M' : α → α → Prop) (hsub : ∀ x b o base W, L.R x b o base W → W.cell? ⟨b, o + ko, none⟩ = some (.bool (set x)))
    (hset : ∀ x xt, M x xt → set x = set xt) (hskip : ∀ x, P x → set x = true → Q x) (hskM : ∀ x xt, P x → M x xt → D' xt → set xt = true → M' x xt) (hD : ∀ x, D' x → set x = false → D x)
    (hf : Takes ft w0 L P Q D f M M') (hp : Place pl ko) (hbp0 : Blk bp #[pl] Tp w0) (hbf0 : Blk bf #[fs, ft] Tf w0) : Takes (.func (.func 94) #[] #[ptr bp 0, ptr bf 0]) w0 L P Q D' (fun x => if set x then [] else f x) M M' := by
  obtain ⟨K, caps, rfl, hE, hc⟩ := hf
  obtain ⟨KP, rfl, hEP, hcp⟩ := hp
  refine ⟨_, _, rfl, (fun _ _ => by kernel_rfl), fun s W b o base x q hB h1 h2 h3 hRx hx hsl hq => ?_⟩
  simp only [List.append_toArray, List.cons_append, List.nil_append]
  have hbf := (hbf0.below hB).cell 1
  have hbp := (hbp0.below hB).cell 0
  have hse := hsub _ _ _ _ _ hRx
  simp at hbf hbp
  have CP := hide hcp
  have HQ := hide hq
  have HR := hide hRx
  have HX := hide hx
  have C := hide hc
  clear hcp hq hc
  cases hst : set x
  · rw [hst] at hse
    have HST := hide hst
    have CC := hide (unhide C s W b o base x q hB h1 h2 h3 hRx hx hsl (by
      intro xt r hqq
      obtain ⟨g1, g2, g3⟩ := unhide HQ xt r hqq
      have g4 : set xt = false := by rw [← hset x xt g2]; exact hst
      simp only [g4, Bool.false_eq_true, if_false] at g3
      exact ⟨hD _ g1 g4, g2, g3⟩))
    clear hst hRx hx C
    go_enter Try.func94, Try.ntmps94
    go_wp2_with (first | (refine (unhide CP b o _).mono ?_; rintro e W1 ⟨rfl, rfl⟩) | (refine (unhide CC).mono ?_; intro e W2 hT; have HT := hide hT; obtain ⟨ok, y2, r, rfl, hgr, hno, hyes⟩ := hT; clear hno hyes))
    go_ret2
    exact unhide HT
  · rw [hst] at hse
    have HST := hide hst
    clear hst hRx hx
    go_enter Try.func94, Try.ntmps94
    go_wp2_with (refine (unhide CP b o _).mono ?_; rintro e W1 ⟨rfl, rfl⟩)
    go_ret2
    refine TPost.done (hskip _ (unhide HX) (unhide HST)) (unhide HR) (Nat.le_refl _) (fun xt r0 hqq => ?_) (Upd.refl _ _ _ _)
    obtain ⟨g1, g2, g3⟩ := unhide HQ xt r0 hqq
    have g4 : set xt = true := by rw [← hset x xt g2]; exact unhide HST
    simp only [g4, if_true, List.nil_append] at g3
    exact ⟨hskM _ _ (unhide HX) g2 g1 g4, g3⟩
end Go.Proofs.Ytjmmfgmmmdbenaa
