/-
  Package raft's working.
-/
import Derived.Test.YtbojfiflemmgaaaGM
namespace Go.Proofs.Ytbojfiflemmgaaa
open Go.RowKit
set_option linter.unusedSimpArgs false
set_option linter.unusedVariables false

/-- a node's rows, as they are read -/
structure SeesN (q : Q5) (n : Nd) (W : World) : Prop where
  log : Sees 2 q.lv n.log.length (enC n.log) W
  votes : Sees 1 q.vv n.votes.length (boC n.votes) W
  next : Sees 1 q.nv n.next.length (inC n.next) W
  mat : Sees 1 q.mv n.mat.length (inC n.mat) W
  forms : Sees 1 q.fv n.forms.length (inC n.forms) W
theorem SeesN.below {q : Q5} {n : Nd} {W W' : World} (h : SeesN q n W) (hb : Below W.heap.size W W') : SeesN q n W' := ⟨h.log.below hb, h.votes.below hb, h.next.below hb, h.mat.below hb, h.forms.below hb⟩
theorem Rows.sees {q : Q5} {n : Nd} {W : World} (h : Rows q n W) : SeesN q n W := ⟨Sees.of_own h.log, Sees.of_own h.votes, Sees.of_own h.next, Sees.of_own h.mat, Sees.of_own h.forms⟩
theorem beq_of {a b : Nat} (h : a = b) : ((a : Int) == (b : Int)) = true := by rw [h]; exact beq_self_eq_true _
def Box13 (g : Nat) (n : Nd) (q : Q5) (w : World) : Prop := w.cell? ⟨g, 0, none⟩ = some (nI n.id) ∧ w.cell? ⟨g, 1, none⟩ = some (nI n.term) ∧ w.cell? ⟨g, 2, none⟩ = some (.int .i64 n.vote) ∧ w.cell? ⟨g, 3, none⟩ = some (q.lv) ∧ w.cell? ⟨g, 4, none⟩ = some (nI n.form) ∧ w.cell? ⟨g, 5, none⟩ = some (nI n.role) ∧ w.cell? ⟨g, 6, none⟩ = some (nI n.commit) ∧ w.cell? ⟨g, 7, none⟩ = some (q.vv) ∧ w.cell? ⟨g, 8, none⟩ = some (q.nv) ∧ w.cell? ⟨g, 9, none⟩ = some (q.mv) ∧ w.cell? ⟨g, 10, none⟩ = some (q.fv) ∧ w.cell? ⟨g, 11, none⟩ = some (nI n.clock) ∧ w.cell? ⟨g, 12, none⟩ = some (nI n.due)
theorem Blk.box13 {g : Nat} {n : Nd} {q : Q5} {w : World} (h : Blk g (ndA n q) 32 w) : Box13 g n q w := ⟨h.cell 0, h.cell 1, h.cell 2, h.cell 3, h.cell 4, h.cell 5, h.cell 6, h.cell 7, h.cell 8, h.cell 9, h.cell 10, h.cell 11, h.cell 12⟩
theorem own_step {B j base s m : Nat} {y v : Value} {T : TypeId} {cs : List Value} {W1 W2 : World} (h : W1.ownsRow base T s v m cs) (hb : B < base) (c : Below (W1.setCell ⟨B, j, none⟩ y).heap.size (W1.setCell ⟨B, j, none⟩ y) W2) : W2.ownsRow base T s v m cs :=
  own_keep h fun k hk hl => by
    have h1 := (h.lt k hk).1
    exact (c.block k (by simpa [World.setCell] using hl)).trans (heap_set (by omega))
theorem own_far1 {B j base s m : Nat} {y v : Value} {T : TypeId} {cs : List Value} {W1 : World} (h : W1.ownsRow base T s v m cs) (hb : B < base) : (W1.setCell ⟨B, j, none⟩ y).ownsRow base T s v m cs :=
  own_keep h fun k hk hl => by
    have h1 := (h.lt k hk).1
    exact heap_set (by omega)
theorem apart_new {base base' s s' m m' : Nat} {v u : Value} {T T' : TypeId} {cs cs' : List Value} {W3 W4 : World} (h : W3.ownsRow base T s v m cs) (hle : W3.heap.size ≤ base') (o : W4.ownsRow base' T' s' u m' cs') : Apart v u := fun k h1 h2 => by
  have := (h.lt k h1).2
  have := (o.lt k h2).1
  omega
set_option maxRecDepth 100000 in
set_option maxHeartbeats 8000000 in
theorem working_any (q0 : Q5) (n : Nd) (W : World) (h : SeesN q0 n W) (f : Fit n) :
    Calls Try.prog 29 #[.agg (ndA n q0)] W fun e W' => ∃ q, e = .returned (.tuple #[.agg (wkA n q (.slice none 0 0)), .bool true]) ∧ Rows q n W' ∧ (∀ k, Foot5 q k → W.heap.size ≤ k) ∧ Below W.heap.size W W' := by
  have S1 := hide (fun W' (hb : Below W.heap.size W W') => h.log.below hb)
  have S2 := hide (fun W' (hb : Below W.heap.size W W') => h.votes.below hb)
  have S3 := hide (fun W' (hb : Below W.heap.size W W') => h.next.below hb)
  have S4 := hide (fun W' (hb : Below W.heap.size W W') => h.mat.below hb)
  have S5 := hide (fun W' (hb : Below W.heap.size W W') => h.forms.below hb)
  have hn1 : n.log.length ≤ 1000000 := by have := f.log; omega
  have hsm := f.small
  have hz2 : n.votes.length ≤ 5 := f.size
  have hz3 : n.next.length ≤ 5 := by rw [f.next]; exact f.size
  have hz4 : n.mat.length ≤ 5 := by rw [f.mat]; exact f.size
  have hz5 : n.forms.length ≤ 5 := by rw [f.forms]; exact f.size
  have hid : n.id < n.votes.length := f.id
  have E3 := beq_of f.next
  have E4 := beq_of f.mat
  have E5 := beq_of f.forms
  have MY := hide (fun W => (may_any (n.id : Int) (n.votes.length : Int) 2 W))
  have hmy : decide ((0 : Int) ≤ (n.id : Int) ∧ (n.id : Int) < (n.votes.length : Int) ∧ (n.votes.length : Int) ≤ 5 ∧ (1 : Int) ≤ 2 ∧ (2 : Int) ≤ 2) = true := decide_eq_true (by omega)
  rw [hmy] at MY
  obtain ⟨lv0, vv0, nv0, mv0, fv0⟩ := q0
  obtain ⟨pa, ca, rfl, _⟩ := h.log
  obtain ⟨pb, cb, rfl, _⟩ := h.votes
  obtain ⟨pc, cc, rfl, _⟩ := h.next
  obtain ⟨pd, cd, rfl, _⟩ := h.mat
  obtain ⟨pe, ce, rfl, _⟩ := h.forms
  have K0 := hide ((Blk.new W #[nI n.id, nI n.term, .int .i64 n.vote, .slice pa n.log.length ca, nI n.form, nI n.role, nI n.commit, .slice pb n.votes.length cb, .slice pc n.next.length cc, .slice pd n.mat.length cd, .slice pe n.forms.length ce, nI n.clock, nI n.due] 32).below (below_new _ (.cells #[.int .i64 0, .int .i64 0, .int .i64 0, .slice none 0 0, .int .i64 0, .int .i64 0, .int .i64 0, .slice none 0 0, .slice none 0 0, .slice none 0 0, .slice none 0 0, .int .i64 0, .int .i64 0, .slice none 0 0] 58)))
  have HB0 := hide (((Below.refl _ W).alloc (Nat.le_refl _) (.cells #[nI n.id, nI n.term, .int .i64 n.vote, .slice pa n.log.length ca, nI n.form, nI n.role, nI n.commit, .slice pb n.votes.length cb, .slice pc n.next.length cc, .slice pd n.mat.length cd, .slice pe n.forms.length ce, nI n.clock, nI n.due] 32)).alloc (by simp) (.cells #[.int .i64 0, .int .i64 0, .int .i64 0, .slice none 0 0, .int .i64 0, .int .i64 0, .int .i64 0, .slice none 0 0, .slice none 0 0, .slice none 0 0, .slice none 0 0, .int .i64 0, .int .i64 0, .slice none 0 0] 58))
  clear h f hmy
  go_enter Try.func29, Try.ntmps29
  go_wp2_with (first
    | (have HB_ := unhide HB0; go_at_call 33; refine (fresh_any _ n.log _ (unhide S1 _ HB_) hn1 hsm).mono ?_; rintro e W1 ⟨u1, rfl, ho1, hx1, hc1⟩; obtain ⟨p1, c1, hu1⟩ := own_slice ho1; subst hu1; have k1 := hide ((unhide K0).below hc1); have hb1 := hide (HB_.trans (hc1.mono HB_.size)); have O1 := hide ho1; have L1 := hide HB_.size; have C1 := hide hc1; clear ho1 hc1 S1; have z1_ := (unhide k1).lt; have f1_ := (unhide k1).froz; have x1_ := (unhide k1).cell 3; have y1_ := (unhide k1).cell 7; simp at x1_ y1_)
    | (have HB_ := (unhide hb1).setCell (p := ⟨W.heap.size, 3, none⟩) (Nat.le_refl _) (.slice p1 n.log.length c1); go_at_call 50; refine (clone_bool_any _ n.votes _ (unhide S2 _ HB_) (by omega)).mono ?_; rintro e W2 ⟨u2, rfl, ho2, hc2⟩; obtain ⟨p2, c2, hu2⟩ := own_slice ho2; subst hu2; have k2 := hide (((unhide k1).set 3 (.slice p1 n.log.length c1)).below hc2); have hb2 := hide (HB_.trans (hc2.mono HB_.size)); have O2 := hide ho2; have L2 := hide HB_.size; have C2 := hide hc2; clear ho2 hc2 S2; have z2_ := (unhide k2).lt; have f2_ := (unhide k2).froz; have x2_ := (unhide k2).cell 7; have y2_ := (unhide k2).cell 8; simp at x2_ y2_)
    | (have HB_ := (unhide hb2).setCell (p := ⟨W.heap.size, 7, none⟩) (Nat.le_refl _) (.slice p2 n.votes.length c2); go_at_call 51; refine (clone_int_any _ n.next _ (unhide S3 _ HB_) (by omega)).mono ?_; rintro e W3 ⟨u3, rfl, ho3, hc3⟩; obtain ⟨p3, c3, hu3⟩ := own_slice ho3; subst hu3; have k3 := hide (((unhide k2).set 7 (.slice p2 n.votes.length c2)).below hc3); have hb3 := hide (HB_.trans (hc3.mono HB_.size)); have O3 := hide ho3; have L3 := hide HB_.size; have C3 := hide hc3; clear ho3 hc3 S3; have z3_ := (unhide k3).lt; have f3_ := (unhide k3).froz; have x3_ := (unhide k3).cell 8; have y3_ := (unhide k3).cell 9; simp at x3_ y3_)
    | (have HB_ := (unhide hb3).setCell (p := ⟨W.heap.size, 8, none⟩) (Nat.le_refl _) (.slice p3 n.next.length c3); go_at_call 51; refine (clone_int_any _ n.mat _ (unhide S4 _ HB_) (by omega)).mono ?_; rintro e W4 ⟨u4, rfl, ho4, hc4⟩; obtain ⟨p4, c4, hu4⟩ := own_slice ho4; subst hu4; have k4 := hide (((unhide k3).set 8 (.slice p3 n.next.length c3)).below hc4); have hb4 := hide (HB_.trans (hc4.mono HB_.size)); have O4 := hide ho4; have L4 := hide HB_.size; have C4 := hide hc4; clear ho4 hc4 S4; have z4_ := (unhide k4).lt; have f4_ := (unhide k4).froz; have x4_ := (unhide k4).cell 9; have y4_ := (unhide k4).cell 10; simp at x4_ y4_)
    | (have HB_ := (unhide hb4).setCell (p := ⟨W.heap.size, 9, none⟩) (Nat.le_refl _) (.slice p4 n.mat.length c4); go_at_call 51; refine (clone_int_any _ n.forms _ (unhide S5 _ HB_) (by omega)).mono ?_; rintro e W5 ⟨u5, rfl, ho5, hc5⟩; obtain ⟨p5, c5, hu5⟩ := own_slice ho5; subst hu5; have k5 := hide (((unhide k4).set 9 (.slice p4 n.mat.length c4)).below hc5); have hb5 := hide (HB_.trans (hc5.mono HB_.size)); have O5 := hide ho5; have L5 := hide HB_.size; have C5 := hide hc5; clear ho5 hc5 S5; have z5_ := (unhide k5).lt; have f5_ := (unhide k5).froz; have x5_ := (unhide k5).cell 10; have w0_ := (unhide k5).cell 0; have w1_ := (unhide k5).cell 1; have w2_ := (unhide k5).cell 2; have w3_ := (unhide k5).cell 3; have w4_ := (unhide k5).cell 4; have w5_ := (unhide k5).cell 5; have w6_ := (unhide k5).cell 6; have w7_ := (unhide k5).cell 7; have w8_ := (unhide k5).cell 8; have w9_ := (unhide k5).cell 9; have w11_ := (unhide k5).cell 11; have w12_ := (unhide k5).cell 12; simp at x5_ w0_ w1_ w2_ w3_ w4_ w5_ w6_ w7_ w8_ w9_ w11_ w12_))
  have hB2 : W.heap.size + 1 ≠ W.heap.size := by omega
  have hB3 : W.heap.size ≠ W.heap.size + 1 := by omega
  have KX : Blk W.heap.size (ndA n ⟨.slice p1 n.log.length c1, .slice p2 n.votes.length c2, .slice p3 n.next.length c3, .slice p4 n.mat.length c4, .slice p5 n.forms.length c5⟩) 32 (W5.setCell ⟨W.heap.size, 10, none⟩ (.slice p5 n.forms.length c5)) := (unhide k5).set 10 _
  have hzz : ((W.alloc (.cells #[nI n.id, nI n.term, .int .i64 n.vote, .slice pa n.log.length ca, nI n.form, nI n.role, nI n.commit, .slice pb n.votes.length cb, .slice pc n.next.length cc, .slice pd n.mat.length cd, .slice pe n.forms.length ce, nI n.clock, nI n.due] 32)).alloc (.cells #[.int .i64 0, .int .i64 0, .int .i64 0, .slice none 0 0, .int .i64 0, .int .i64 0, .int .i64 0, .slice none 0 0, .slice none 0 0, .slice none 0 0, .slice none 0 0, .int .i64 0, .int .i64 0, .slice none 0 0] 58)).heap.size = W.heap.size + 2 := by simp
  have Z0 : Blk (W.heap.size + 1) #[.int .i64 0, .int .i64 0, .int .i64 0, .slice none 0 0, .int .i64 0, .int .i64 0, .int .i64 0, .slice none 0 0, .slice none 0 0, .slice none 0 0, .slice none 0 0, .int .i64 0, .int .i64 0, .slice none 0 0] 58 ((W.alloc (.cells #[nI n.id, nI n.term, .int .i64 n.vote, .slice pa n.log.length ca, nI n.form, nI n.role, nI n.commit, .slice pb n.votes.length cb, .slice pc n.next.length cc, .slice pd n.mat.length cd, .slice pe n.forms.length ce, nI n.clock, nI n.due] 32)).alloc (.cells #[.int .i64 0, .int .i64 0, .int .i64 0, .slice none 0 0, .int .i64 0, .int .i64 0, .int .i64 0, .slice none 0 0, .slice none 0 0, .slice none 0 0, .slice none 0 0, .int .i64 0, .int .i64 0, .slice none 0 0] 58)) := by
    have := Blk.new (W.alloc (.cells #[nI n.id, nI n.term, .int .i64 n.vote, .slice pa n.log.length ca, nI n.form, nI n.role, nI n.commit, .slice pb n.votes.length cb, .slice pc n.next.length cc, .slice pd n.mat.length cd, .slice pe n.forms.length ce, nI n.clock, nI n.due] 32)) #[.int .i64 0, .int .i64 0, .int .i64 0, .slice none 0 0, .int .i64 0, .int .i64 0, .int .i64 0, .slice none 0 0, .slice none 0 0, .slice none 0 0, .slice none 0 0, .int .i64 0, .int .i64 0, .slice none 0 0] 58
    rw [World.size_alloc] at this
    exact this
  have ZX := ((((((((((Z0.below (unhide C1)).far (j := 3) (x := .slice p1 n.log.length c1) hB2).below (unhide C2)).far (j := 7) (x := .slice p2 n.votes.length c2) hB2).below (unhide C3)).far (j := 8) (x := .slice p3 n.next.length c3) hB2).below (unhide C4)).far (j := 9) (x := .slice p4 n.mat.length c4) hB2).below (unhide C5)).far (j := 10) (x := .slice p5 n.forms.length c5) hB2)
  have s1 : W.heap.size + 2 ≤ W1.heap.size := by have := (unhide C1).size; omega
  have s2 : W1.heap.size ≤ W2.heap.size := by have := (unhide C2).size; simpa [World.setCell] using this
  have s3 : W2.heap.size ≤ W3.heap.size := by have := (unhide C3).size; simpa [World.setCell] using this
  have s4 : W3.heap.size ≤ W4.heap.size := by have := (unhide C4).size; simpa [World.setCell] using this
  have t1 : (W1.setCell ⟨W.heap.size, 3, none⟩ (.slice p1 n.log.length c1)).heap.size = W1.heap.size := by simp [World.setCell]
  have t2 : (W2.setCell ⟨W.heap.size, 7, none⟩ (.slice p2 n.votes.length c2)).heap.size = W2.heap.size := by simp [World.setCell]
  have t3 : (W3.setCell ⟨W.heap.size, 8, none⟩ (.slice p3 n.next.length c3)).heap.size = W3.heap.size := by simp [World.setCell]
  have t4 : (W4.setCell ⟨W.heap.size, 9, none⟩ (.slice p4 n.mat.length c4)).heap.size = W4.heap.size := by simp [World.setCell]
  have o1 := unhide O1
  have o2 := unhide O2
  have o3 := unhide O3
  have o4 := unhide O4
  have o5 := unhide O5
  rw [hzz] at o1
  rw [t1] at o2
  rw [t2] at o3
  rw [t3] at o4
  rw [t4] at o5
  have A34 := apart_new o3 (by omega) o4
  have A35 := apart_new o3 (by omega) o5
  have A45 := apart_new o4 (by omega) o5
  have P1 := own_far1 (B := W.heap.size) (j := 10) (y := .slice p5 n.forms.length c5) (own_step (own_step (own_step (own_step o1 (by omega) (unhide C2)) (by omega) (unhide C3)) (by omega) (unhide C4)) (by omega) (unhide C5)) (by omega)
  have P2 := own_far1 (B := W.heap.size) (j := 10) (y := .slice p5 n.forms.length c5) (own_step (own_step (own_step o2 (by omega) (unhide C3)) (by omega) (unhide C4)) (by omega) (unhide C5)) (by omega)
  have P3 := own_far1 (B := W.heap.size) (j := 10) (y := .slice p5 n.forms.length c5) (own_step (own_step o3 (by omega) (unhide C4)) (by omega) (unhide C5)) (by omega)
  have P4 := own_far1 (B := W.heap.size) (j := 10) (y := .slice p5 n.forms.length c5) (own_step o4 (by omega) (unhide C5)) (by omega)
  have P5 := own_far1 (B := W.heap.size) (j := 10) (y := .slice p5 n.forms.length c5) o5 (by omega)
  have BX := (unhide hb5).setCell (p := ⟨W.heap.size, 10, none⟩) (Nat.le_refl _) (.slice p5 n.forms.length c5)
  generalize W5.setCell ⟨W.heap.size, 10, none⟩ (.slice p5 n.forms.length c5) = X at KX ZX P1 P2 P3 P4 P5 BX ⊢
  have hKX := hide KX
  have hZX := hide ZX
  have hBX := hide BX
  have hP1 := hide P1
  have hP2 := hide P2
  have hP3 := hide P3
  have hP4 := hide P4
  have hP5 := hide P5
  have hA := hide (show Apart (.slice p3 n.next.length c3) (.slice p4 n.mat.length c4) ∧ Apart (.slice p3 n.next.length c3) (.slice p5 n.forms.length c5) ∧ Apart (.slice p4 n.mat.length c4) (.slice p5 n.forms.length c5) from ⟨A34, A35, A45⟩)
  clear KX ZX BX P1 P2 P3 P4 P5 A34 A35 A45 o1 o2 o3 o4 o5 t1 t2 t3 t4 hzz Z0 x1_ x2_ x3_ x4_ x5_ y1_ y2_ y3_ y4_ w0_ w1_ w2_ w3_ w4_ w5_ w6_ w7_ w8_ w9_ w11_ w12_ z1_ z2_ z3_ z4_ z5_ f1_ f2_ f3_ f4_ f5_
  rename_i hrest
  refine wp_region_noPanic ?_
  refine wp_region_held_drew (S := (fun w' => Blk W.heap.size (ndA n ⟨.slice p1 n.log.length c1, .slice p2 n.votes.length c2, .slice p3 n.next.length c3, .slice p4 n.mat.length c4, .slice p5 n.forms.length c5⟩) 32 w')) (by kernel_rfl) (((unhide hKX).below (below_drew X))) (fun hHeld => ?_)
  refine wpAnyH_take (i := 0) (oi := ?oi20001) (v := ?v20001) ?hi20001 (by kernel_rfl) (by kernel_rfl) (by kernel_rfl) (fun _ _ _ h => h) (Or.inl ⟨?hw20001, ?hy20001⟩) (by assumption) ?rest20001
  case hi20001 => (simp only [List.getElem?_toArray, List.getElem?_cons_zero]; rfl)
  case hw20001 => rfl
  case hy20001 => first | (intro wx hSw; obtain ⟨v0, v1, v2, v3, v4, v5, v6, v7, v8, v9, v10, v11, v12⟩ := hSw.box13; go_simp; done) | (intro wx hSw; obtain ⟨v0, v1, v2, v3, v4, v5, v6, v7, v8, v9, v10, v11, v12⟩ := hSw.box13; go_simp; with_reducible rfl)
  simp only [Act.put, List.setIfInBounds_toArray, List.set_cons_zero, List.set_cons_succ]
  refine wpAnyH_take (i := 1) (oi := ?oi20002) (v := ?v20002) ?hi20002 (by kernel_rfl) (by kernel_rfl) (by kernel_rfl) (fun _ _ _ h => h) (Or.inl ⟨?hw20002, ?hy20002⟩) (by assumption) ?rest20002
  case hi20002 => (simp only [List.getElem?_toArray, List.getElem?_cons_zero, List.getElem?_cons_succ]; rfl)
  case hw20002 => rfl
  case hy20002 => first | (intro wx hSw; obtain ⟨v0, v1, v2, v3, v4, v5, v6, v7, v8, v9, v10, v11, v12⟩ := hSw.box13; go_simp; done) | (intro wx hSw; obtain ⟨v0, v1, v2, v3, v4, v5, v6, v7, v8, v9, v10, v11, v12⟩ := hSw.box13; go_simp; with_reducible rfl)
  simp only [Act.put, List.setIfInBounds_toArray, List.set_cons_zero, List.set_cons_succ]
  refine wpAnyH_take (i := 2) (oi := ?oi20003) (v := ?v20003) ?hi20003 (by kernel_rfl) (by kernel_rfl) (by kernel_rfl) (fun _ _ _ h => h) (Or.inl ⟨?hw20003, ?hy20003⟩) (by assumption) ?rest20003
  case hi20003 => (simp only [List.getElem?_toArray, List.getElem?_cons_zero, List.getElem?_cons_succ]; rfl)
  case hw20003 => rfl
  case hy20003 => first | (intro wx hSw; obtain ⟨v0, v1, v2, v3, v4, v5, v6, v7, v8, v9, v10, v11, v12⟩ := hSw.box13; go_simp; done) | (intro wx hSw; obtain ⟨v0, v1, v2, v3, v4, v5, v6, v7, v8, v9, v10, v11, v12⟩ := hSw.box13; go_simp; with_reducible rfl)
  simp only [Act.put, List.setIfInBounds_toArray, List.set_cons_zero, List.set_cons_succ]
  refine wpAnyH_take (i := 3) (oi := ?oi20004) (v := ?v20004) ?hi20004 (by kernel_rfl) (by kernel_rfl) (by kernel_rfl) (fun _ _ _ h => h) (Or.inl ⟨?hw20004, ?hy20004⟩) (by assumption) ?rest20004
  case hi20004 => (simp only [List.getElem?_toArray, List.getElem?_cons_zero, List.getElem?_cons_succ]; rfl)
  case hw20004 => rfl
  case hy20004 => first | (intro wx hSw; obtain ⟨v0, v1, v2, v3, v4, v5, v6, v7, v8, v9, v10, v11, v12⟩ := hSw.box13; go_simp; done) | (intro wx hSw; obtain ⟨v0, v1, v2, v3, v4, v5, v6, v7, v8, v9, v10, v11, v12⟩ := hSw.box13; go_simp; with_reducible rfl)
  simp only [Act.put, List.setIfInBounds_toArray, List.set_cons_zero, List.set_cons_succ]
  refine wpAnyH_take (i := 4) (oi := ?oi20005) (v := ?v20005) ?hi20005 (by kernel_rfl) (by kernel_rfl) (by kernel_rfl) (fun _ _ _ h => h) (Or.inl ⟨?hw20005, ?hy20005⟩) (by assumption) ?rest20005
  case hi20005 => (simp only [List.getElem?_toArray, List.getElem?_cons_zero, List.getElem?_cons_succ]; rfl)
  case hw20005 => rfl
  case hy20005 => first | (intro wx hSw; obtain ⟨v0, v1, v2, v3, v4, v5, v6, v7, v8, v9, v10, v11, v12⟩ := hSw.box13; go_simp; done) | (intro wx hSw; obtain ⟨v0, v1, v2, v3, v4, v5, v6, v7, v8, v9, v10, v11, v12⟩ := hSw.box13; go_simp; with_reducible rfl)
  simp only [Act.put, List.setIfInBounds_toArray, List.set_cons_zero, List.set_cons_succ]
  refine wpAnyH_take (i := 5) (oi := ?oi20006) (v := ?v20006) ?hi20006 (by kernel_rfl) (by kernel_rfl) (by kernel_rfl) (fun _ _ _ h => h) (Or.inl ⟨?hw20006, ?hy20006⟩) (by assumption) ?rest20006
  case hi20006 => (simp only [List.getElem?_toArray, List.getElem?_cons_zero, List.getElem?_cons_succ]; rfl)
  case hw20006 => rfl
  case hy20006 => first | (intro wx hSw; obtain ⟨v0, v1, v2, v3, v4, v5, v6, v7, v8, v9, v10, v11, v12⟩ := hSw.box13; go_simp; done) | (intro wx hSw; obtain ⟨v0, v1, v2, v3, v4, v5, v6, v7, v8, v9, v10, v11, v12⟩ := hSw.box13; go_simp; with_reducible rfl)
  simp only [Act.put, List.setIfInBounds_toArray, List.set_cons_zero, List.set_cons_succ]
  refine wpAnyH_take (i := 6) (oi := ?oi20007) (v := ?v20007) ?hi20007 (by kernel_rfl) (by kernel_rfl) (by kernel_rfl) (fun _ _ _ h => h) (Or.inl ⟨?hw20007, ?hy20007⟩) (by assumption) ?rest20007
  case hi20007 => (simp only [List.getElem?_toArray, List.getElem?_cons_zero, List.getElem?_cons_succ]; rfl)
  case hw20007 => rfl
  case hy20007 => first | (intro wx hSw; obtain ⟨v0, v1, v2, v3, v4, v5, v6, v7, v8, v9, v10, v11, v12⟩ := hSw.box13; go_simp; done) | (intro wx hSw; obtain ⟨v0, v1, v2, v3, v4, v5, v6, v7, v8, v9, v10, v11, v12⟩ := hSw.box13; go_simp; with_reducible rfl)
  simp only [Act.put, List.setIfInBounds_toArray, List.set_cons_zero, List.set_cons_succ]
  refine wpAnyH_ready (rs := [7]) (by kernel_rfl) (by simp) ?_
  refine AllReadyH.cons rfl (fun K20008 hK20008 => ?_) AllReadyH.nil
  go_simp
  go_wp2_with (go_at_call 32; refine (unhide MY _).mono ?_; rintro e w' ⟨rfl, rfl⟩)
  refine hK20008.out _ _ ?hs20008 (fun hHeld20008 => ?_)
  case hs20008 => exact hHeld
  clear hHeld
  have hHeld := hHeld20008; clear hHeld20008 hK20008 K20008
  refine wpAnyH_take (i := 8) (oi := ?oi20009) (v := ?v20009) ?hi20009 (by kernel_rfl) (by kernel_rfl) (by kernel_rfl) (fun _ _ _ h => h) (Or.inl ⟨?hw20009, ?hy20009⟩) (by assumption) ?rest20009
  case hi20009 => (simp only [List.getElem?_toArray, List.getElem?_cons_zero, List.getElem?_cons_succ]; rfl)
  case hw20009 => rfl
  case hy20009 => first | (intro wx hSw; obtain ⟨v0, v1, v2, v3, v4, v5, v6, v7, v8, v9, v10, v11, v12⟩ := hSw.box13; go_simp; done) | (intro wx hSw; obtain ⟨v0, v1, v2, v3, v4, v5, v6, v7, v8, v9, v10, v11, v12⟩ := hSw.box13; go_simp; with_reducible rfl)
  simp only [Act.put, List.setIfInBounds_toArray, List.set_cons_zero, List.set_cons_succ]
  refine wpAnyH_ready (rs := [9]) (by kernel_rfl) (by simp) ?_
  refine AllReadyH.cons rfl (fun K20010 hK20010 => ?_) AllReadyH.nil
  refine step_whole (by rfl) 58 _ _ (by rfl) (W.heap.size + 1) _ (wkA n ⟨.slice p1 n.log.length c1, .slice p2 n.votes.length c2, .slice p3 n.next.length c3, .slice p4 n.mat.length c4, .slice p5 n.forms.length c5⟩ (.slice none 0 0)) _ _ ((unhide hZX).below (below_drew X)) (by rfl) (by rfl) (by rfl) (by kernel_rfl) (by simp [Value.oneCell']) ?_; intro X2 hb_ hg_ hs_
  refine hK20010.out _ _ ?hs20010 (fun hHeld20010 => ?_)
  case hs20010 => exact (((unhide hKX).below (below_drew X)).grown hg_ hB3)
  clear hHeld
  have hHeld := hHeld20010; clear hHeld20010 hK20010 K20010
  refine wpAnyH_take (i := 10) (oi := ?oi20011) (v := ?v20011) ?hi20011 (by kernel_rfl) (by kernel_rfl) (by kernel_rfl) (fun _ _ _ h => h) (Or.inl ⟨?hw20011, ?hy20011⟩) (by assumption) ?rest20011
  case hi20011 => (simp only [List.getElem?_toArray, List.getElem?_cons_zero, List.getElem?_cons_succ]; rfl)
  case hw20011 => rfl
  case hy20011 => first | (intro wx hSw; obtain ⟨v0, v1, v2, v3, v4, v5, v6, v7, v8, v9, v10, v11, v12⟩ := hSw.box13; go_simp; done) | (intro wx hSw; obtain ⟨v0, v1, v2, v3, v4, v5, v6, v7, v8, v9, v10, v11, v12⟩ := hSw.box13; go_simp; with_reducible rfl)
  simp only [Act.put, List.setIfInBounds_toArray, List.set_cons_zero, List.set_cons_succ]
  refine wpAnyH_done (by kernel_rfl) ?_ _
  refine NoPanic.normal ?_
  refine hrest _ _ ?_
  have hg0 : X.grownBy X2 (some (W.heap.size + 1)) := ⟨hg_.os, hg_.tape, hg_.output, hg_.size, hg_.block⟩
  go_wp2
  have r0 := hb_.cell 0
  have r1 := hb_.cell 1
  have r2 := hb_.cell 2
  have r3 := hb_.cell 3
  have r4 := hb_.cell 4
  have r5 := hb_.cell 5
  have r6 := hb_.cell 6
  have r7 := hb_.cell 7
  have r8 := hb_.cell 8
  have r9 := hb_.cell 9
  have r10 := hb_.cell 10
  have r11 := hb_.cell 11
  have r12 := hb_.cell 12
  have r13 := hb_.cell 13
  simp at r0 r1 r2 r3 r4 r5 r6 r7 r8 r9 r10 r11 r12 r13
  refine bodyPost_ret (v := .tuple #[.agg (wkA n ⟨.slice p1 n.log.length c1, .slice p2 n.votes.length c2, .slice p3 n.next.length c3, .slice p4 n.mat.length c4, .slice p5 n.forms.length c5⟩ (.slice none 0 0)), .bool true]) (by simp [results, Try.results29, go_sem, r0, r1, r2, r3, r4, r5, r6, r7, r8, r9, r10, r11, r12, r13]) rfl ?_
  refine ⟨⟨.slice p1 n.log.length c1, .slice p2 n.votes.length c2, .slice p3 n.next.length c3, .slice p4 n.mat.length c4, .slice p5 n.forms.length c5⟩, rfl, ⟨own_mono (own_grown (unhide hP1) hg0 (by omega)), own_mono (own_grown (unhide hP2) hg0 (by omega)), own_mono (own_grown (unhide hP3) hg0 (by omega)), own_mono (own_grown (unhide hP4) hg0 (by omega)), own_mono (own_grown (unhide hP5) hg0 (by omega)), (unhide hA).1, (unhide hA).2.1, (unhide hA).2.2⟩, ?_, ?_⟩
  · rintro k (hk | hk | hk | hk | hk)
    · have := ((unhide O1).lt k hk).1; have := unhide L1; omega
    · have := ((unhide O2).lt k hk).1; have := unhide L2; omega
    · have := ((unhide O3).lt k hk).1; have := unhide L3; omega
    · have := ((unhide O4).lt k hk).1; have := unhide L4; omega
    · have := ((unhide O5).lt k hk).1; have := unhide L5; omega
  · exact (unhide hBX).trans ⟨hg0.os, hg0.tape, hg0.output, hg0.size, fun k hk => hg0.block k (Nat.lt_of_lt_of_le hk (unhide hBX).size) fun e => by injection e with e; omega⟩
end Go.Proofs.Ytbojfiflemmgaaa
