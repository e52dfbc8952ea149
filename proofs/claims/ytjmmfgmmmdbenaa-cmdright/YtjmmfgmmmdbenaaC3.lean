/-
  Package cmd: what it means that a function value puts a thing behind bytes; texts, put.
-/
import Derived.Test.YtjmmfgmmmdbenaaC2
import Derived.Lib.AppendStr
namespace Go.Proofs.Ytjmmfgmmmdbenaa
open Go.RowKit
set_option linter.unusedSimpArgs false
set_option linter.unusedVariables false

/-- how a thing lies at a place of a block, with one block more that it reaches -/
structure Lay (α : Type) where
  R : α → Nat → Nat → Nat → World → Prop
  lt : ∀ {x b o g W}, R x b o g W → b < W.heap.size ∧ g < W.heap.size
  kept : ∀ {x b o g W W'}, R x b o g W → W'.heap[b]? = W.heap[b]? → W'.heap[g]? = W.heap[g]? → R x b o g W'
theorem lt_of_heap {W W' : World} {b : Nat} (h : W'.heap[b]? = W.heap[b]?) (hl : b < W.heap.size) : b < W'.heap.size := by
  rcases Nat.lt_or_ge b W'.heap.size with h1 | h1
  · exact h1
  · rw [Array.getElem?_eq_none h1, Array.getElem?_eq_getElem hl] at h; cases h
/-- a thing of one cell -/
def Lay.one {α : Type} (c : α → Value) : Lay α where
  R x b o g W := W.cell? ⟨b, o, none⟩ = some (c x) ∧ g < W.heap.size
  lt h := ⟨World.block_lt_of_cell? _ _ h.1, h.2⟩
  kept h h1 h2 := ⟨(World.cell?_of_block (a := ⟨_, _, none⟩) h1).trans h.1, lt_of_heap h2 h.2⟩
abbrev layI : Lay Int := Lay.one (Value.int .i64)
abbrev layB : Lay Bool := Lay.one Value.bool
abbrev layS : Lay ByteArray := Lay.one Value.string

/-- a function with a body -/
abbrev Enters (K : FuncId) : Prop := ∀ (args : Array Value) (w : World), Sem.run Try.prog (callFunc K args) w = .ok (.enter K args) w
/-- the function value puts x as f x says -/
def Puts {α : Type} (fv : Value) (w0 : World) (L : Lay α) (D : α → Prop) (f : α → List UInt8) : Prop :=
  ∃ K caps, fv = .func (.func K) #[] caps ∧ Enters K ∧ ∀ (x : α) (W : World) (base : Nat) (v : Value) (xs : List UInt8) (b o g : Nat), Below w0.heap.size w0 W → w0.heap.size ≤ base → base ≤ W.heap.size → OwnB W base v xs →
    L.R x b o g W → v.ownBlock ≠ some b → v.ownBlock ≠ some g → D x → xs.length + (f x).length ≤ 1099511627776 →
    Calls Try.prog K (#[v, ptr b o] ++ caps) W fun e W' => ∃ v', e = .returned v' ∧ OwnB W' base v' (xs ++ f x) ∧ KeepB W W' v v'
theorem Below.onto {w0 w1 W : World} (h : Below w0.heap.size w0 w1) (g : Below w1.heap.size w1 W) : Below w0.heap.size w0 W := h.trans (g.mono h.size)
theorem Puts.mono {α : Type} {fv : Value} {w0 w1 : World} {L : Lay α} {D : α → Prop} {f : α → List UInt8} (h : Puts fv w0 L D f) (hb : Below w0.heap.size w0 w1) : Puts fv w1 L D f := by
  obtain ⟨K, caps, rfl, hE, hc⟩ := h
  exact ⟨K, caps, rfl, hE, fun x W base v xs b o g h1 h2 => hc x W base v xs b o g (Below.onto hb h1) (Nat.le_trans hb.size h2)⟩
theorem Puts.imp {α : Type} {fv : Value} {w0 : World} {L : Lay α} {D D' : α → Prop} {f f' : α → List UInt8} (h : Puts fv w0 L D f) (hD : ∀ x, D' x → D x ∧ f x = f' x) : Puts fv w0 L D' f' := by
  obtain ⟨K, caps, rfl, hE, hc⟩ := h
  refine ⟨K, caps, rfl, hE, fun x W base v xs b o g h1 h2 h3 h4 h5 h6 h7 h8 h9 => ?_⟩
  rw [← (hD x h8).2] at h9 ⊢
  exact hc x W base v xs b o g h1 h2 h3 h4 h5 h6 h7 (hD x h8).1 h9
def Blk (b : Nat) (cs : Array Value) (T : TypeId) (W : World) : Prop := W.heap[b]? = some (.cells cs T (0, 0))
theorem Blk.lt {b : Nat} {cs : Array Value} {T : TypeId} {W : World} (h : Blk b cs T W) : b < W.heap.size := (Array.getElem?_eq_some_iff.1 h).1
theorem Blk.cell {b : Nat} {cs : Array Value} {T : TypeId} {W : World} (h : Blk b cs T W) (j : Nat) : W.cell? ⟨b, j, none⟩ = cs[j]? := cell_of_row W _ j cs _ _ h
theorem Blk.froz {b : Nat} {cs : Array Value} {T : TypeId} {W : World} (h : Blk b cs T W) (j : Nat) : W.frozen? ⟨b, j, none⟩ = false := by simp [World.frozen?, show W.heap[b]? = _ from h]
theorem Blk.new (W : World) (cs : Array Value) (T : TypeId) : Blk W.heap.size cs T (W.alloc (.cells cs T)) := heap_alloc_new W _
theorem Blk.below {b : Nat} {cs : Array Value} {T : TypeId} {W W' : World} (h : Blk b cs T W) (hb : Below W.heap.size W W') : Blk b cs T W' := (hb.block _ h.lt).trans h
theorem below_new (W : World) (o : Obj) : Below W.heap.size W (W.alloc o) := (Below.refl _ W).alloc (Nat.le_refl _) _
theorem Blk.keep {b : Nat} {cs : Array Value} {T : TypeId} {W W' : World} {v v' : Value} (h : Blk b cs T W) (hk : KeepB W W' v v') (hne : v.ownBlock ≠ some b) : Blk b cs T W' := (hk.block h.lt hne).trans h
theorem own_ne {W : World} {base : Nat} {v : Value} {xs : List UInt8} (h : OwnB W base v xs) {k : Nat} (hk : k < base) : v.ownBlock ≠ some k := fun e => by have := (h.lt k e).1; omega
theorem own_ne_new {W : World} {base : Nat} {v : Value} {xs : List UInt8} (h : OwnB W base v xs) {k : Nat} (hk : W.heap.size ≤ k) : v.ownBlock ≠ some k := fun e => by have := (h.lt k e).2; omega

set_option maxRecDepth 100000 in
theorem step_appS {ops : Array Oper} {o : Oper} {a : Act} {K : Act → World → Prop} {Q : Exit → Act → World → Prop} {E : Prop} (hgd : o.guard = none) (sl x : Operand)
    (ho : o.op = .call { callee := .builtin .append, args := #[sl, x], argTypes := #[35, 9] })
    (W : World) (base : Nat) (v : Value) (xs : List UInt8) (s : ByteArray) (hown : OwnB W base v xs) (hs : a.eval sl = v)
    (hx : a.eval x = .string s) (hlen : xs.length + s.size ≤ 2199023255552) (hb : base ≤ W.heap.size)
    (h : ∀ v' w', OwnB w' base v' (xs ++ by8 s) → KeepB W w' v v' → K (a.put o.dst v') w') : if Region.wanted o (yielded ops a.tmps) = true then Oper.wp Try.prog o a W K Q else E := by
  have hw : Region.wanted o (yielded ops a.tmps) = true := by simp [Region.wanted, hgd]
  rw [if_pos hw]
  obtain ⟨i0, hi, hz0, hz1, hz2⟩ := info_parts info_byte
  obtain ⟨v', w', hr, h2, h3, h4⟩ := Go.Lib.run_append_own_string (P := Try.prog) W base 35 9 o.type 5 i0 Try.underlying35 Try.underlying9 hi hz0 hz1 hz2 v xs.length (B8 xs) hown s (by unfold maxLen; omega) (by omega) hb
  unfold Oper.wp execOp
  simp only [ho, resolve, invoke, builtin, Sem.run_bind, Sem.run_pure, Result.andThen_ok, List.map_toArray, List.map_cons, List.map_nil, hs, hx, hr]
  have hl : (xs ++ by8 s).length = xs.length + s.size := by rw [List.length_append, by8_len]
  refine h v' w' ?_ ⟨h3, ?_⟩
  · show w'.ownsRow base 5 1 v' (xs ++ by8 s).length (B8 (xs ++ by8 s))
    rw [hl, show B8 (xs ++ by8 s) = B8 xs ++ Go.Lib.strCells s by simp [B8, Go.Lib.strCells]]
    exact h2
  · have hsm : s.size ≤ 2199023255552 := by omega
    rcases hown.2 with ⟨rfl, h0⟩ | ⟨g, cap, cur, rfl, hbg, hg, hnc, hcm, hcs, htake⟩
    · by_cases hz : s.size = 0
      · left; rw [h4.2 ⟨rfl, hz⟩]
      · right
        have hr2 := run_append_nil_string (P := Try.prog) W 35 9 o.type 5 i0 (.int .u8 0) Try.underlying35 Try.underlying9 hi hz0 s (by omega) (by omega) (by rw [hz2]; omega)
        replace hr2 := hr.symm.trans hr2
        injection hr2 with e1 e2
        intro k hk; rw [e1] at hk; simp [Value.ownBlock] at hk; omega
    · by_cases hroom : xs.length + s.size ≤ cap
      · left
        have hr2 := Go.Lib.run_append_room_string (P := Try.prog) W 35 9 o.type 5 i0 Try.underlying35 Try.underlying9 hi hz1 g xs.length cap cur hg s hroom (by omega)
        replace hr2 := hr.symm.trans hr2
        injection hr2 with e1 e2
        rw [e1]; rfl
      · right
        have hr2 := Go.Lib.run_append_grow_string (P := Try.prog) W 35 9 o.type 5 i0 (.int .u8 0) Try.underlying35 Try.underlying9 hi hz0 ⟨g, 0, none⟩ xs.length cap (B8 xs) (by simp [hz1]) (hown.cells (g := g) rfl) s (by omega) (by omega) (by rw [hz2]; exact growslice_fits (by omega) (by omega))
        replace hr2 := hr.symm.trans hr2
        injection hr2 with e1 e2
        intro k hk; rw [e1] at hk; simp [Value.ownBlock] at hk; omega

theorem OwnB.below {W W' : World} {base : Nat} {v : Value} {xs : List UInt8} (h : OwnB W base v xs) (hb : Below W.heap.size W W') : OwnB W' base v xs :=
  World.ownsRow.kept h (grownBy_below none hb) (by cases hv : v.ownBlock <;> simp)
theorem KeepB.of_below {W W' : World} {v : Value} (h : Below W.heap.size W W') : KeepB W W' v v := ⟨grownBy_below _ h, .inl rfl⟩
theorem Lay.below {α : Type} {L : Lay α} {x : α} {b o g : Nat} {W W' : World} (h : L.R x b o g W) (hb : Below W.heap.size W W') : L.R x b o g W' := L.kept h (hb.block _ (L.lt h).1) (hb.block _ (L.lt h).2)

set_option maxRecDepth 100000 in
set_option maxHeartbeats 2000000 in
theorem textput_any (fs ft : Value) (bs : Nat) (w0 : World) (Dn : Int → Prop) (fn : Int → List UInt8) (hsz : Puts fs w0 layI Dn fn) (hbox : Blk bs #[fs, ft] 77 w0) :
    Puts (.func (.func 71) #[] #[ptr bs 0]) w0 layS (fun s => Dn s.size ∧ s.size ≤ 1099511627776) (fun s => fn s.size ++ by8 s) := by
  obtain ⟨K, caps, rfl, hE, hc⟩ := hsz
  refine ⟨_, _, rfl, (fun _ _ => by kernel_rfl), fun x W base v xs b o g hB h2 h3 hown hR n1 n2 hD hl => ?_⟩
  simp only [List.append_toArray, List.cons_append, List.nil_append]
  have hx := hR.1
  have hlb := (layS.lt hR).1
  have hbx : Blk bs _ _ W := hbox.below hB
  have hbl := hbox.lt
  have C := hide hc
  clear hc
  have hsmall : x.size ≤ 1099511627776 := hD.2
  have hl2 : xs.length + ((fn x.size).length + x.size) ≤ 1099511627776 := by rw [List.length_append, by8_len] at hl; exact hl
  go_enter Try.func71, Try.ntmps71
  go_wp2
  rename_i hrest
  have hWd : Below W.heap.size W (W.alloc (.cells #[.int .i64 (x.size : Int)] 3)).drew := (below_new W _).drew
  have hnew : (W.alloc (.cells #[.int .i64 (x.size : Int)] 3)).drew.cell? ⟨W.heap.size, 0, none⟩ = some (.int .i64 (x.size : Int)) := (Blk.new W #[.int .i64 (x.size : Int)] 3).cell 0
  have hgt : W.heap.size < (W.alloc (.cells #[.int .i64 (x.size : Int)] 3)).drew.heap.size := by simp
  have HS : (W.alloc (.cells #[.int .i64 (x.size : Int)] 3)).drew.cell? ⟨b, o, none⟩ = some (.string x) ∧ Blk bs _ _ (W.alloc (.cells #[.int .i64 (x.size : Int)] 3)).drew := ⟨(World.cell?_of_block (a := ⟨b, o, none⟩) (hWd.block _ hlb)).trans hx, hbx.below hWd⟩
  refine wp_region_noPanic ?_
  refine wp_region_held_drew (S := (fun X => X.cell? ⟨b, o, none⟩ = some (.string x) ∧ Blk bs #[.func (.func K) #[] caps, ft] 77 X)) (by kernel_rfl) (HS) (fun hHeld => ?_)
  clear hbx hx
  generalize World.drew _ = Wd at *
  have hownd := hown.below hWd
  have hbd : base ≤ Wd.heap.size := Nat.le_trans h3 hWd.size
  have CC := hide (unhide C x.size Wd base v xs W.heap.size 0 W.heap.size (Below.onto hB hWd) h2 hbd hownd ⟨hnew, hgt⟩ (own_ne_new hown (Nat.le_refl _)) (own_ne_new hown (Nat.le_refl _)) hD.1 (by omega))
  clear C
  refine wpAnyH_take (i := 0) (oi := ?oi20001) (v := ?v20001) ?hi20001 (by kernel_rfl) (by kernel_rfl) (by kernel_rfl) (fun _ _ _ h => h) (Or.inl ⟨?hw20001, ?hy20001⟩) (by assumption) ?rest20001
  case hi20001 => (simp only [List.getElem?_toArray, List.getElem?_cons_zero]; rfl)
  case hw20001 => rfl
  case hy20001 => first | (intro wx hSw; obtain ⟨hs1, hs2⟩ := hSw; have hs3 := hs2.cell 0; simp at hs3; go_simp; done) | (intro wx hSw; obtain ⟨hs1, hs2⟩ := hSw; have hs3 := hs2.cell 0; simp at hs3; go_simp; with_reducible rfl)
  simp only [Act.put, List.setIfInBounds_toArray, List.set_cons_zero, List.set_cons_succ]
  refine wpAnyH_take (i := 1) (oi := ?oi20002) (v := ?v20002) ?hi20002 (by kernel_rfl) (by kernel_rfl) (by kernel_rfl) (fun _ _ _ h => h) (Or.inl ⟨?hw20002, ?hy20002⟩) (by assumption) ?rest20002
  case hi20002 => (simp only [List.getElem?_toArray, List.getElem?_cons_zero, List.getElem?_cons_succ]; rfl)
  case hw20002 => rfl
  case hy20002 => first | (intro wx hSw; obtain ⟨hs1, hs2⟩ := hSw; have hs3 := hs2.cell 0; simp at hs3; go_simp; done) | (intro wx hSw; obtain ⟨hs1, hs2⟩ := hSw; have hs3 := hs2.cell 0; simp at hs3; go_simp; with_reducible rfl)
  simp only [Act.put, List.setIfInBounds_toArray, List.set_cons_zero, List.set_cons_succ]
  refine wpAnyH_take (i := 2) (oi := ?oi20003) (v := ?v20003) ?hi20003 (by kernel_rfl) (by kernel_rfl) (by kernel_rfl) (fun _ _ _ h => h) (Or.inl ⟨?hw20003, ?hy20003⟩) (by assumption) ?rest20003
  case hi20003 => (simp only [List.getElem?_toArray, List.getElem?_cons_zero, List.getElem?_cons_succ]; rfl)
  case hw20003 => rfl
  case hy20003 => first | (intro wx hSw; obtain ⟨hs1, hs2⟩ := hSw; have hs3 := hs2.cell 0; simp at hs3; go_simp; done) | (intro wx hSw; obtain ⟨hs1, hs2⟩ := hSw; have hs3 := hs2.cell 0; simp at hs3; go_simp; with_reducible rfl)
  simp only [Act.put, List.setIfInBounds_toArray, List.set_cons_zero, List.set_cons_succ]
  refine wpAnyH_take (i := 4) (oi := ?oi20004) (v := ?v20004) ?hi20004 (by kernel_rfl) (by kernel_rfl) (by kernel_rfl) (fun _ _ _ h => h) (Or.inl ⟨?hw20004, ?hy20004⟩) (by assumption) ?rest20004
  case hi20004 => (simp only [List.getElem?_toArray, List.getElem?_cons_zero, List.getElem?_cons_succ]; rfl)
  case hw20004 => rfl
  case hy20004 => first | (intro wx hSw; obtain ⟨hs1, hs2⟩ := hSw; have hs3 := hs2.cell 0; simp at hs3; go_simp; done) | (intro wx hSw; obtain ⟨hs1, hs2⟩ := hSw; have hs3 := hs2.cell 0; simp at hs3; go_simp; with_reducible rfl)
  simp only [Act.put, List.setIfInBounds_toArray, List.set_cons_zero, List.set_cons_succ]
  refine wpAnyH_take (i := 5) (oi := ?oi20005) (v := ?v20005) ?hi20005 (by kernel_rfl) (by kernel_rfl) (by kernel_rfl) (fun _ _ _ h => h) (Or.inl ⟨?hw20005, ?hy20005⟩) (by assumption) ?rest20005
  case hi20005 => (simp only [List.getElem?_toArray, List.getElem?_cons_zero, List.getElem?_cons_succ]; rfl)
  case hw20005 => rfl
  case hy20005 => first | (intro wx hSw; obtain ⟨hs1, hs2⟩ := hSw; have hs3 := hs2.cell 0; simp at hs3; go_simp; done) | (intro wx hSw; obtain ⟨hs1, hs2⟩ := hSw; have hs3 := hs2.cell 0; simp at hs3; go_simp; with_reducible rfl)
  simp only [Act.put, List.setIfInBounds_toArray, List.set_cons_zero, List.set_cons_succ]
  refine wpAnyH_take (i := 6) (oi := ?oi20006) (v := ?v20006) ?hi20006 (by kernel_rfl) (by kernel_rfl) (by kernel_rfl) (fun _ _ _ h => h) (Or.inl ⟨?hw20006, ?hy20006⟩) (by assumption) ?rest20006
  case hi20006 => (simp only [List.getElem?_toArray, List.getElem?_cons_zero, List.getElem?_cons_succ]; rfl)
  case hw20006 => rfl
  case hy20006 => first | (intro wx hSw; obtain ⟨hs1, hs2⟩ := hSw; have hs3 := hs2.cell 0; simp at hs3; go_simp; done) | (intro wx hSw; obtain ⟨hs1, hs2⟩ := hSw; have hs3 := hs2.cell 0; simp at hs3; go_simp; with_reducible rfl)
  simp only [Act.put, List.setIfInBounds_toArray, List.set_cons_zero, List.set_cons_succ]
  refine wpAnyH_ready (rs := [3]) (by kernel_rfl) (by simp) ?_
  refine AllReadyH.cons rfl (fun K20007 hK20007 => ?_) AllReadyH.nil
  go_simp
  go_wp2_with (refine (unhide CC).mono ?_; rintro e W2 ⟨v2, rfl, hown2, hK2⟩)
  refine hK20007.out _ _ ?hs20007 (fun hHeld20007 => ?_)
  case hs20007 => exact ⟨(World.cell?_of_block (hK2.block (lt_of_heap (hWd.block _ hlb) hlb) n1)).trans hHeld.1, hHeld.2.keep hK2 (own_ne hown (by omega))⟩
  clear hHeld
  have hHeld := hHeld20007; clear hHeld20007 hK20007 K20007
  refine wpAnyH_ready (rs := [7]) (by kernel_rfl) (by simp) ?_
  refine AllReadyH.cons rfl (fun K20008 hK20008 => ?_) AllReadyH.nil
  refine step_appS rfl _ _ rfl W2 base v2 _ x hown2 rfl rfl (by rw [List.length_append]; omega) (Nat.le_trans hbd hK2.grown.size) ?_
  intro v3 W3 hown3 hK3
  change K20008 (Act.put _ (some 18) _) _
  simp only [Act.put, List.setIfInBounds_toArray, List.set_cons_zero, List.set_cons_succ]
  refine hK20008.out _ _ ?hs20008 (fun hHeld20008 => ?_)
  case hs20008 => exact ⟨(World.cell?_of_block (hK3.block (lt_of_heap (hK2.block (lt_of_heap (hWd.block _ hlb) hlb) n1) (lt_of_heap (hWd.block _ hlb) hlb)) (hK2.apart (lt_of_heap (hWd.block _ hlb) hlb) n1))).trans hHeld.1, hHeld.2.keep hK3 (own_ne hown2 (by omega))⟩
  clear hHeld
  have hHeld := hHeld20008; clear hHeld20008 hK20008 K20008
  refine wpAnyH_take (i := 8) (oi := ?oi20009) (v := ?v20009) ?hi20009 (by kernel_rfl) (by kernel_rfl) (by kernel_rfl) (fun _ _ _ h => h) (Or.inl ⟨?hw20009, ?hy20009⟩) (by assumption) ?rest20009
  case hi20009 => (simp only [List.getElem?_toArray, List.getElem?_cons_zero, List.getElem?_cons_succ]; rfl)
  case hw20009 => rfl
  case hy20009 => first | (intro wx hSw; go_simp; done) | (intro wx hSw; go_simp; with_reducible rfl)
  simp only [Act.put, List.setIfInBounds_toArray, List.set_cons_zero, List.set_cons_succ]
  refine wpAnyH_done (by kernel_rfl) ?_ _
  refine NoPanic.normal ?_
  refine hrest _ _ ?_
  clear hHeld
  go_wp2_with fail
  go_ret
  exact ⟨_, rfl, by simpa using hown3, (KeepB.of_below hWd).trans (hK2.trans hK3)⟩
end Go.Proofs.Ytjmmfgmmmdbenaa
