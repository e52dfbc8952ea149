/-
  Package cmd: parts one behind the other, parts that may not stand, put.
-/
import Derived.Test.YtjmmfgmmmdbenaaC4
import Derived.Laws.EntriesVeiled
namespace Go.Proofs.Ytjmmfgmmmdbenaa
open Go.RowKit
set_option linter.unusedSimpArgs false
set_option linter.unusedVariables false

/-- a part: what puts it, what takes it, of which things, as which bytes -/
structure Part (α : Type) where
  fs : Value
  ft : Value
  D : α → Prop
  f : α → List UInt8
abbrev IsFn (v : Value) : Prop := ∃ K caps, v = .func (.func K) #[] caps
def pcells {α : Type} (ps : List (Part α)) : List Value := ps.flatMap fun p => [p.fs, p.ft]
theorem pcells_at {α : Type} : ∀ (ps : List (Part α)) (i : Nat) (h : i < ps.length), (pcells ps)[i * 2]? = some ps[i].fs ∧ (pcells ps)[i * 2 + 1]? = some ps[i].ft
  | p :: ps, 0, h => ⟨rfl, rfl⟩
  | p :: ps, i + 1, h => by
    have := pcells_at ps i (by simpa using h)
    simp only [pcells, List.flatMap_cons, List.getElem_cons_succ] at this ⊢
    rw [show (i + 1) * 2 = i * 2 + 2 by omega]
    exact this
def PartsAt {α : Type} (gp : Nat) (ps : List (Part α)) (T : TypeId) (W : World) : Prop := Blk gp (pcells ps).toArray T W
theorem PartsAt.cell {α : Type} {gp : Nat} {ps : List (Part α)} {T : TypeId} {W : World} (h : PartsAt gp ps T W) (i : Nat) (hi : i < ps.length) : W.cell? ⟨gp, i * 2, none⟩ = some ps[i].fs ∧ W.cell? ⟨gp, i * 2 + 1, none⟩ = some ps[i].ft := by
  have := pcells_at ps i hi
  rw [Blk.cell h, Blk.cell h]
  simpa using this
def allF {α : Type} (ps : List (Part α)) (x : α) : List UInt8 := ps.flatMap fun p => p.f x
theorem allF_take {α : Type} (ps : List (Part α)) (x : α) (k : Nat) (h : k < ps.length) : allF (ps.take (k + 1)) x = allF (ps.take k) x ++ ps[k].f x := by
  unfold allF
  rw [List.take_add_one, List.getElem?_eq_getElem h, List.flatMap_append]
  simp
theorem allF_len {α : Type} (ps : List (Part α)) (x : α) (k : Nat) (h : k < ps.length) : (allF (ps.take k) x).length + (ps[k].f x).length ≤ (allF ps x).length := by
  have h1 : allF ps x = allF (ps.take (k + 1)) x ++ allF (ps.drop (k + 1)) x := by
    simp only [allF]; rw [← List.flatMap_append, List.take_append_drop]
  rw [h1, allF_take ps x k h]; simp

set_option maxRecDepth 100000 in
set_option maxHeartbeats 2000000 in
theorem allWritePuts {α : Type} (L : Lay α) (ps : List (Part α)) (bs gp cap : Nat) (Tp : TypeId) (w0 : World) (hps : ∀ p ∈ ps, Puts p.fs w0 L p.D p.f) (hfn : ∀ p ∈ ps, IsFn p.ft) (hn : ps.length ≤ 100)
    (hbox : w0.cell? ⟨bs, 0, none⟩ = some (.slice (some ⟨gp, 0, none⟩) ps.length cap)) (hat : PartsAt gp ps Tp w0) : Puts (.func (.func 67) #[] #[ptr bs 0]) w0 L (fun x => ∀ p ∈ ps, p.D x) (allF ps) := by
  refine ⟨_, _, rfl, (fun _ _ => by kernel_rfl), fun x W base v xs b o g hB h2 h3 hown hR n1 n2 hD hl => ?_⟩
  simp only [List.append_toArray, List.cons_append, List.nil_append]
  have hbl := World.block_lt_of_cell? _ _ hbox
  have hx : W.cell? ⟨bs, 0, none⟩ = some (.slice (some ⟨gp, 0, none⟩) ps.length cap) := (World.cell?_of_block (a := ⟨bs, 0, none⟩) (hB.block _ hbl)).trans hbox
  have HAT := hide hat
  have HPS := hide hps
  have HFN := hide hfn
  have HB := hide hB
  have HD := hide hD
  have HL := hide hl
  have HR := hide hR
  clear hps hfn hat hB hD hl hR hbox
  go_enter Try.func67, Try.ntmps67
  go_wp2
  go_loopw [0, 10] (fun u i wr => ∃ k : Nat, k ≤ ps.length ∧ i = .int .i64 (k : Int) ∧ OwnB wr base u (xs ++ allF (ps.take k) x) ∧ KeepB W wr v u)
    (fun u i wr => ps.length - (intOf i).toNat)
  case atStart => exact ⟨0, Nat.zero_le _, rfl, by simpa [allF] using hown, KeepB.refl _ _⟩
  case round =>
    obtain ⟨k, hk, rfl, hrow, hK⟩ := hrel
    by_cases hlt : k < ps.length
    · have hpk := unhide HPS ps[k] (List.getElem_mem hlt)
      obtain ⟨K, caps, hfs, hE, hc⟩ := hpk
      have hszz := hK.grown.size
      have HBw : Hid (Below w0.heap.size w0 wr) := by
        show Below _ _ _
        exact (unhide HB).trans ((hK.below hown h3).mono h2)
      have hce := (Blk.below (unhide HAT) (unhide HBw)) |> fun (h : PartsAt gp ps Tp wr) => PartsAt.cell h k hlt
      rw [hfs] at hce
      obtain ⟨Kt, capst, hft⟩ := unhide HFN ps[k] (List.getElem_mem hlt)
      rw [hft] at hce
      obtain ⟨hc0, hc1⟩ := hce
      have hlb := L.lt (unhide HR)
      have hLk : L.R x b o g wr := L.kept (unhide HR) (hK.block hlb.1 n1) (hK.block hlb.2 n2)
      have hlk := allF_len ps x k hlt
      have htk := hide (allF_take ps x k hlt)
      have hll : xs.length + ((allF (ps.take k) x).length + (ps[k].f x).length) ≤ 1099511627776 := Nat.le_trans (Nat.add_le_add_left hlk _) (unhide HL)
      have hDk := hide (unhide HD ps[k] (List.getElem_mem hlt))
      have C := hide hc
      clear hc hfs hft hlk
      generalize hpf : ps[k].f x = pf at *
      have HPF := hide hpf
      clear hpf
      generalize allF (ps.take k) x = ys at *
      go_wp2_with (refine (unhide C x _ base u0 (xs ++ ys) b o g (Below.onto (unhide HBw) (below_new wr _)) h2 (Nat.le_trans (Nat.le_trans h3 hszz) (below_new wr _).size) (hrow.below (below_new wr _)) (Lay.below (hLk) (below_new wr _)) (hK.apart hlb.1 n1) (hK.apart hlb.2 n2) (unhide hDk) (by rw [List.length_append, (unhide HPF)]; omega)).mono ?_; rintro e W2 ⟨v2, rfl, hown2, hK2⟩)
      go_roundw
      case rel => exact ⟨k + 1, by omega, by go_num, by rw [unhide htk, ← List.append_assoc, ← unhide HPF]; exact hown2, hK.trans ((KeepB.of_below (below_new wr _)).trans hK2)⟩
      case measure => simp [intOf] <;> omega
    · obtain rfl : k = ps.length := by omega
      rw [List.take_length] at hrow
      go_wp2
      go_ret
      exact ⟨_, rfl, hrow, hK⟩

set_option maxRecDepth 100000 in
set_option maxHeartbeats 2000000 in
theorem allCmdPuts {α : Type} (L : Lay α) (ps : List (Part α)) (bs gp cap : Nat) (Tp : TypeId) (w0 : World) (hps : ∀ p ∈ ps, Puts p.fs w0 L p.D p.f) (hfn : ∀ p ∈ ps, IsFn p.ft) (hn : ps.length ≤ 100)
    (hbox : w0.cell? ⟨bs, 0, none⟩ = some (.slice (some ⟨gp, 0, none⟩) ps.length cap)) (hat : PartsAt gp ps Tp w0) : Puts (.func (.func 78) #[] #[ptr bs 0]) w0 L (fun x => ∀ p ∈ ps, p.D x) (allF ps) := by
  refine ⟨_, _, rfl, (fun _ _ => by kernel_rfl), fun x W base v xs b o g hB h2 h3 hown hR n1 n2 hD hl => ?_⟩
  simp only [List.append_toArray, List.cons_append, List.nil_append]
  have hbl := World.block_lt_of_cell? _ _ hbox
  have hx : W.cell? ⟨bs, 0, none⟩ = some (.slice (some ⟨gp, 0, none⟩) ps.length cap) := (World.cell?_of_block (a := ⟨bs, 0, none⟩) (hB.block _ hbl)).trans hbox
  have HAT := hide hat
  have HPS := hide hps
  have HFN := hide hfn
  have HB := hide hB
  have HD := hide hD
  have HL := hide hl
  have HR := hide hR
  clear hps hfn hat hB hD hl hR hbox
  go_enter Try.func78, Try.ntmps78
  go_wp2
  go_loopw [0, 10] (fun u i wr => ∃ k : Nat, k ≤ ps.length ∧ i = .int .i64 (k : Int) ∧ OwnB wr base u (xs ++ allF (ps.take k) x) ∧ KeepB W wr v u)
    (fun u i wr => ps.length - (intOf i).toNat)
  case atStart => exact ⟨0, Nat.zero_le _, rfl, by simpa [allF] using hown, KeepB.refl _ _⟩
  case round =>
    obtain ⟨k, hk, rfl, hrow, hK⟩ := hrel
    by_cases hlt : k < ps.length
    · have hpk := unhide HPS ps[k] (List.getElem_mem hlt)
      obtain ⟨K, caps, hfs, hE, hc⟩ := hpk
      have hszz := hK.grown.size
      have HBw : Hid (Below w0.heap.size w0 wr) := by
        show Below _ _ _
        exact (unhide HB).trans ((hK.below hown h3).mono h2)
      have hce := (Blk.below (unhide HAT) (unhide HBw)) |> fun (h : PartsAt gp ps Tp wr) => PartsAt.cell h k hlt
      rw [hfs] at hce
      obtain ⟨Kt, capst, hft⟩ := unhide HFN ps[k] (List.getElem_mem hlt)
      rw [hft] at hce
      obtain ⟨hc0, hc1⟩ := hce
      have hlb := L.lt (unhide HR)
      have hLk : L.R x b o g wr := L.kept (unhide HR) (hK.block hlb.1 n1) (hK.block hlb.2 n2)
      have hlk := allF_len ps x k hlt
      have htk := hide (allF_take ps x k hlt)
      have hll : xs.length + ((allF (ps.take k) x).length + (ps[k].f x).length) ≤ 1099511627776 := Nat.le_trans (Nat.add_le_add_left hlk _) (unhide HL)
      have hDk := hide (unhide HD ps[k] (List.getElem_mem hlt))
      have C := hide hc
      clear hc hfs hft hlk
      generalize hpf : ps[k].f x = pf at *
      have HPF := hide hpf
      clear hpf
      generalize allF (ps.take k) x = ys at *
      go_wp2_with (refine (unhide C x _ base u0 (xs ++ ys) b o g (Below.onto (unhide HBw) (below_new wr _)) h2 (Nat.le_trans (Nat.le_trans h3 hszz) (below_new wr _).size) (hrow.below (below_new wr _)) (Lay.below (hLk) (below_new wr _)) (hK.apart hlb.1 n1) (hK.apart hlb.2 n2) (unhide hDk) (by rw [List.length_append, (unhide HPF)]; omega)).mono ?_; rintro e W2 ⟨v2, rfl, hown2, hK2⟩)
      go_roundw
      case rel => exact ⟨k + 1, by omega, by go_num, by rw [unhide htk, ← List.append_assoc, ← unhide HPF]; exact hown2, hK.trans ((KeepB.of_below (below_new wr _)).trans hK2)⟩
      case measure => simp [intOf] <;> omega
    · obtain rfl : k = ps.length := by omega
      rw [List.take_length] at hrow
      go_wp2
      go_ret
      exact ⟨_, rfl, hrow, hK⟩

set_option maxRecDepth 100000 in
set_option maxHeartbeats 2000000 in
theorem unlessPuts {α : Type} (L : Lay α) (set : α → Bool) (ko : Nat) (fs ft pl : Value) (Tf Tp : TypeId) (bp bf : Nat) (w0 : World) (D : α → Prop) (f : α → List UInt8) (hsub : ∀ x b o g W, L.R x b o g W → W.cell? ⟨b, o + ko, none⟩ = some (.bool (set x)))
    (hf : Puts fs w0 L D f) (hp : Place pl ko) (hbp0 : Blk bp #[pl] Tp w0) (hbf0 : Blk bf #[fs, ft] Tf w0) : Puts (.func (.func 93) #[] #[ptr bp 0, ptr bf 0]) w0 L (fun x => set x = false → D x) (fun x => if set x then [] else f x) := by
  obtain ⟨K, caps, rfl, hE, hc⟩ := hf
  obtain ⟨KP, rfl, hEP, hcp⟩ := hp
  refine ⟨_, _, rfl, (fun _ _ => by kernel_rfl), fun x W base v xs b o g hB h2 h3 hown hR n1 n2 hD hl => ?_⟩
  simp only [List.append_toArray, List.cons_append, List.nil_append]
  have hbf := (hbf0.below hB).cell 0
  have hbp := (hbp0.below hB).cell 0
  have hse := hsub _ _ _ _ _ hR
  simp at hbf hbp
  have C := hide hc
  have CP := hide hcp
  clear hc hcp
  dsimp only at hl
  cases hst : set x
  · rw [hst] at hse hl
    simp only [Bool.false_eq_true, if_false] at hl ⊢
    have HC := hide (unhide C x W base v xs b o g hB h2 h3 hown hR n1 n2 (hD hst) hl)
    clear C hst hl hD hB hR
    go_enter Try.func93, Try.ntmps93
    go_wp2_with (first | (refine (unhide CP b o _).mono ?_; rintro e W1 ⟨rfl, rfl⟩) | (refine (unhide HC).mono ?_; rintro e W2 ⟨v2, rfl, hown2, hK2⟩))
    go_ret
    exact ⟨_, rfl, hown2, hK2⟩
  · rw [hst] at hse
    simp only [if_true] at hl ⊢
    clear C hst hl hD hB hR
    go_enter Try.func93, Try.ntmps93
    go_wp2_with (refine (unhide CP b o _).mono ?_; rintro e W1 ⟨rfl, rfl⟩)
    go_ret
    exact ⟨_, rfl, by simpa using hown, KeepB.refl _ _⟩
end Go.Proofs.Ytjmmfgmmmdbenaa
