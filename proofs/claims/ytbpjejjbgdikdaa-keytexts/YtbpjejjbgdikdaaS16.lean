/-
  What package key's ReadRow returns.
-/
import Derived.Test.YtbpjejjbgdikdaaS15
import Derived.Test.YtbpjejjbgdikdaaS12
import Derived.Deep.Onto
namespace Go.Proofs.Ytbpjejjbgdikdaa
open Go.RowKit Go.Shelf
set_option linter.unusedSimpArgs false
set_option linter.unusedVariables false
attribute [local go_sem] Oper.semAt_some

theorem info_val : (Try.prog.info? 24).map (fun i => (i.zero, i.size, i.bytes)) = some (some (.agg #[.int .i64 0, .int .i64 0, .int .i64 0, .string ByteArray.empty]), 4, 40) := by kernel_rfl
def noDefer (ops : Array Oper) : Bool := ops.toList.all (fun o => match o.op with | .defer _ => false | _ => true)
theorem noDefer_ok {ops : Array Oper} (h : noDefer ops = true) : ∀ (i : Nat) (o : Oper) c, ops[i]? = some o → o.op ≠ .defer c := by
  intro i o c ho e
  have hm : o ∈ ops.toList := by
    have := Array.mem_of_getElem? ho
    simpa using this
  have := List.all_eq_true.1 h o hm
  rw [e] at this
  cases this
theorem region_any {L n id : Nat} {ops : Array Oper} {K : Act → World → Prop} {Q : Exit → Act → World → Prop} {a : Act} {w : World} (hm : Try.prog.follows .mixedOrders = true)
    (hdf : noDefer ops = true) (hQ : ∀ a w, K a w → Q .normal a w)
    (h : wpAny Try.prog .any ops (Nrm K) ops.size (Array.replicate ops.size false) a w.drew) : (Code.region id ops true).wpIn (Fence.wide.inRound L) n Try.prog Q a w :=
  wpIn_region_any hm (anyIn_of (noDefer_ok hdf) hQ _ _ _ _ h)
theorem RR.drew {w : World} {c : Nat} {pre : List RW} {v : Value} {W : World} (h : RR w c pre v W) : RR w c pre v W.drew := h.call (Below.refl _ _).drew
theorem RR.start (w : World) (c : Nat) (o : Obj) : RR w c [] (.slice none 0 0) ((((((w.alloc (.cells #[.slice none 0 0] 31)).alloc (.cells #[.bool false] 4)).alloc (.cells #[.slice none 0 0] 31)).alloc (.cells #[.int .i64 (c : Int)] 3)).alloc (.cells #[.int .i64 1] 3)).alloc o) := by
  have b0 := Boxed.new w 31 (.slice none 0 0)
  have b1 := Boxed.new (w.alloc (.cells #[.slice none 0 0] 31)) 4 (.bool false)
  have b2 := Boxed.new ((w.alloc (.cells #[.slice none 0 0] 31)).alloc (.cells #[.bool false] 4)) 31 (.slice none 0 0)
  have b3 := Boxed.new (((w.alloc (.cells #[.slice none 0 0] 31)).alloc (.cells #[.bool false] 4)).alloc (.cells #[.slice none 0 0] 31)) 3 (.int .i64 (c : Int))
  have b4 := Boxed.new ((((w.alloc (.cells #[.slice none 0 0] 31)).alloc (.cells #[.bool false] 4)).alloc (.cells #[.slice none 0 0] 31)).alloc (.cells #[.int .i64 (c : Int)] 3)) 3 (.int .i64 1)
  rw [World.size_alloc] at b1
  rw [World.size_alloc, World.size_alloc] at b2
  rw [World.size_alloc, World.size_alloc, World.size_alloc] at b3
  rw [World.size_alloc, World.size_alloc, World.size_alloc, World.size_alloc] at b4
  refine ⟨((((b0.alloc _).alloc _).alloc _).alloc _).alloc _, (((b1.alloc _).alloc _).alloc _).alloc _, ((b2.alloc _).alloc _).alloc _, (b3.alloc _).alloc _, b4.alloc _, World.ownsRow_nil _ _ _ _, ?_, by simp⟩
  exact ((((((Below.refl _ w).alloc (Nat.le_refl _) _).alloc (by simp) _).alloc (by simp; omega) _).alloc (by simp; omega) _).alloc (by simp; omega) _).alloc (by simp; omega) _

theorem row_far {w W : World} {v : Value} {n : Nat} {xs : List Value} {k : Nat} {u : Value} (h : W.ownsRow (w.heap.size + 6) 24 4 v n xs) (hk : k < w.heap.size + 6) : (W.setCell ⟨k, 0, none⟩ u).ownsRow (w.heap.size + 6) 24 4 v n xs :=
  h.kept (grownBy_setCell' W k u) (by
    rcases h.2 with ⟨rfl, _⟩ | ⟨g, cap, cur, rfl, hge, _⟩
    · exact .inl rfl
    · right; intro e; simp [Value.ownBlock] at e; omega)
/-- what ReadRow says of a row's bytes -/
def rowIs (c : UInt8) (l : List UInt8) : Bool := (rks l.length l).length == c.toNat && eR (rks l.length l) == (l.length : Int) + 1
def RowPost (w : World) (c : UInt8) (l : List UInt8) (e : Ending) (W : World) : Prop := Below w.heap.size w W ∧
  ((rowIs c l = false ∧ e = .returned (.tuple #[.slice none 0 0, .bool false])) ∨
   (rowIs c l = true ∧ ∃ v, e = .returned (.tuple #[v, .bool true]) ∧ W.ownsRow w.heap.size 24 4 v (rks l.length l).length (cellsR (rks l.length l))))

set_option maxRecDepth 100000 in
set_option maxHeartbeats 8000000 in
theorem readRow_in (c : UInt8) (l : List UInt8) (hm : l.length ≤ 800000) (hc : c.toNat ≤ 10) (w : World) :
    CallsIn Fence.wide 5 Try.prog 21 #[.string (Str (c :: l))] w (RowPost w c l) := by
  obtain ⟨i0, hi, hz0, hz1, hz2⟩ := info_parts info_val
  have hsz := str_size (c :: l)
  have hcut : (Str (c :: l)).extract 1 (l.length + 1) = Str l := str_cut (c :: l) 1 (by simp)
  have hat : (Str (c :: l))[0]'(by rw [hsz]; simp) = c := rfl
  have hc10 : (c.toNat : Int) ≤ 10 := by omega
  have hwc : wrap64 (c.toNat : Int) = (c.toNat : Int) := wrap64_is _ (by unfold Is64; omega)
  refine callsIn_of_wp_marks Try.func21 rfl trivial ?_ rfl
  simp only [Try.ntmps21, List.size_toArray, List.length_cons, List.length_nil, Nat.reduceAdd, Nat.reduceSub, Array.replicate_succ, Array.replicate_zero, List.push_toArray, List.append_toArray, List.nil_append, List.cons_append]
  gi_wp2_with (refine ⟨trivial, ?_⟩; gi_at_call 35; refine (vals_in _ _ _).mono ?_; rintro e w' ⟨rfl, rfl⟩)
  have hR0 := RR.start w c.toNat (.cells #[.string (Str l)] 9)
  have bN := Boxed.new (((((w.alloc (.cells #[.slice none 0 0] 31)).alloc (.cells #[.bool false] 4)).alloc (.cells #[.slice none 0 0] 31)).alloc (.cells #[.int .i64 (c.toNat : Int)] 3)).alloc (.cells #[.int .i64 1] 3)) 9 (.string (Str l))
  rw [World.size_alloc, World.size_alloc, World.size_alloc, World.size_alloc, World.size_alloc] at bN
  have hsz0 : ((((((w.alloc (.cells #[.slice none 0 0] 31)).alloc (.cells #[.bool false] 4)).alloc (.cells #[.slice none 0 0] 31)).alloc (.cells #[.int .i64 (c.toNat : Int)] 3)).alloc (.cells #[.int .i64 1] 3)).alloc (.cells #[.string (Str l)] 9)).heap.size = w.heap.size + 6 := by simp
  generalize (((((w.alloc (.cells #[.slice none 0 0] 31)).alloc (.cells #[.bool false] 4)).alloc (.cells #[.slice none 0 0] 31)).alloc (.cells #[.int .i64 (c.toNat : Int)] 3)).alloc (.cells #[.int .i64 1] 3)).alloc (.cells #[.string (Str l)] 9) = W0 at *
  refine range_state (by omega) (gf := 51) (lb := #[.pointer (some ⟨w.heap.size + 1 + 1 + 1 + 1 + 1, 0, none⟩)]) rfl (enters_of Try.func51 (by kernel_rfl) rfl)
    (vals_gives 4 (by omega) _ l hm W0 bN) bN.lt (fun _ => rfl)
    (fun pre W => (∃ v, RR w c.toNat pre v W) ∧ pre.length ≤ c.toNat)
    (fun cc pre W => cc = .ret ∧ c.toNat < pre.length ∧ Boxed W w.heap.size 31 (.slice none 0 0) ∧ Boxed W (w.heap.size + 1) 4 (.bool false) ∧ Below w.heap.size w W)
    ⟨fun pre W W' hI hb => ⟨⟨hI.1.choose, hI.1.choose_spec.call hb⟩, hI.2⟩, fun pre W u hI => ⟨⟨hI.1.choose, hI.1.choose_spec.turn u⟩, hI.2⟩⟩
    (fun pre W k o hI hk hl => ⟨⟨hI.1.choose, hI.1.choose_spec.put o (by omega) hl⟩, hI.2⟩)
    (fun cc pre W k o hI hk hl => ⟨hI.1, hI.2.1, hI.2.2.1.kept (grownBy_putObj' W k o) (fun e => by cases e; omega), hI.2.2.2.1.kept (grownBy_putObj' W k o) (fun e => by cases e; omega), hI.2.2.2.2.grown (grownBy_putObj' W k o) hI.2.2.2.2.size (fun j e => by cases e; omega)⟩)
    ⟨⟨_, hR0⟩, Nat.zero_le _⟩
    (fun x a' W => ∃ Bx, w.heap.size + 6 ≤ Bx ∧ W.heap[Bx]? = some (.cells #[.int .i64 x.1.1, .int .i64 x.1.2.1, .int .i64 x.1.2.2.1, .string (Str x.1.2.2.2)] 24 (0, 0)) ∧ a' = { tmps := #[.string (Str (c :: l)), undef, .pointer (some ⟨w.heap.size, 0, none⟩), .pointer (some ⟨w.heap.size + 1, 0, none⟩), .pointer (some ⟨w.heap.size + 1 + 1, 0, none⟩), .pointer (some ⟨w.heap.size + 1 + 1 + 1, 0, none⟩), .pointer (some ⟨w.heap.size + 1 + 1 + 1 + 1, 0, none⟩), .pointer (some ⟨Bx, 0, none⟩), .int .i64 (x.2 : Int), .string (Str (c :: l)), .bool false, .bool false, .string (Str (c :: l)), .int .u8 (c.toNat : Int), .bool (decide (10 < (c.toNat : Int))), .bool (decide (10 < (c.toNat : Int))), .string (Str (c :: l)), .int .u8 (c.toNat : Int), .int .i64 (c.toNat : Int), .string (Str (c :: l)), .string (Str l), .func (.func 51) #[] #[.pointer (some ⟨w.heap.size + 1 + 1 + 1 + 1 + 1, 0, none⟩)], V x.1.1 x.1.2.1 x.1.2.2.1 (Str x.1.2.2.2), .int .i64 (x.2 : Int), undef, undef, undef, undef, undef, undef, undef, undef, undef, undef, undef, undef, undef, undef, undef, undef, undef, undef, undef, undef, undef, undef], defers := [] })
    (fun x a' W k o hA hl => by
      obtain ⟨Bx, h1, h2, h3⟩ := hA
      refine ⟨Bx, h1, (World.putObj_heap_other (fun e => ?_)).trans h2, h3⟩
      obtain ⟨r, hr⟩ := hl
      subst e
      rw [h2] at hr; cases hr)
    ?assign ?body ?done ?stop
  case assign =>
    rintro L pre x W K hI hK
    simp only [encR]
    gi_wp2
    exact hK _ _ ((Below.refl _ _).alloc (Nat.le_refl _) _) ⟨⟨hI.1.choose, hI.1.choose_spec.call ((Below.refl _ _).alloc (Nat.le_refl _) _)⟩, hI.2⟩ ⟨W.heap.size, hI.1.choose_spec.size, World.alloc_heap_new W _, rfl⟩
  case body =>
    rintro L pre ⟨⟨xk, xn, xs, xd⟩, xu⟩ a' W hL hLt hrec ⟨⟨v, hR⟩, hpl⟩ ⟨Bx, hBx, hxv, rfl⟩ hlen
    gi_wp2
    rename_i KK hKK
    refine region_any (K := KK) (by kernel_rfl) (by kernel_rfl) (fun _ _ h => h) ?_
    have hRd := hR.drew
    have hxd : W.drew.heap[Bx]? = some (.cells #[.int .i64 xk, .int .i64 xn, .int .i64 xs, .string (Str xd)] 24 (0, 0)) := hxv
    have hkd : KeepsOthers W W.drew := KeepsOthers.drew W
    have hbd : ∀ t, KB (w.heap.size + 1 + 1 + 1 + 1 + 1) t W W.drew := fun t u hu => hu
    clear hxv
    generalize W.drew = Wd at *
    have hrowA := hRd.row.alloc (.cells #[.int .i64 xk, .int .i64 xn, .int .i64 xs, .string (Str xd)] 24)
    have hnewA : (Wd.alloc (.cells #[.int .i64 xk, .int .i64 xn, .int .i64 xs, .string (Str xd)] 24)).heap[Wd.heap.size]? = some (.cells #[.int .i64 xk, .int .i64 xn, .int .i64 xs, .string (Str xd)] 24) := World.alloc_heap_new Wd _
    have hbaseA : w.heap.size + 6 ≤ (Wd.alloc (.cells #[.int .i64 xk, .int .i64 xn, .int .i64 xs, .string (Str xd)] 24)).heap.size := by have := hRd.size; simp; omega
    have hsd := hRd.size
    have hBd : Bx < Wd.heap.size := (Array.getElem?_eq_some_iff.1 hxd).1
    have cl := hRd.l.cell
    have ce := hRd.en.cell
    have clA := (hRd.l.alloc (.cells #[.int .i64 xk, .int .i64 xn, .int .i64 xs, .string (Str xd)] 24)).cell
    have ceA := (hRd.en.alloc (.cells #[.int .i64 xk, .int .i64 xn, .int .i64 xs, .string (Str xd)] 24)).cell
    have y0 : Wd.cell? ⟨Bx, 0, none⟩ = some (.int .i64 xk) := cell_of_row Wd _ 0 _ _ _ hxd
    have y1 : Wd.cell? ⟨Bx, 1, none⟩ = some (.int .i64 xn) := cell_of_row Wd _ 1 _ _ _ hxd
    have y2 : Wd.cell? ⟨Bx, 2, none⟩ = some (.int .i64 xs) := cell_of_row Wd _ 2 _ _ _ hxd
    have y3 : Wd.cell? ⟨Bx, 3, none⟩ = some (.string (Str xd)) := cell_of_row Wd _ 3 _ _ _ hxd
    have hleaf : ∀ (g cap : Nat) (w1 : World), w1.ownsRow (w.heap.size + 6) 24 4 (.slice (some ⟨g, 0, none⟩) (pre.length + 1) cap) (pre.length + 1) (cellsR pre ++ [.int .i64 xk, .int .i64 xn, .int .i64 xs, .string (Str xd)]) → (Wd.alloc (.cells #[.int .i64 xk, .int .i64 xn, .int .i64 xs, .string (Str xd)] 24)).grownBy w1 v.ownBlock →
        KK { tmps := #[.string (Str (c :: l)), undef, .pointer (some ⟨w.heap.size, 0, none⟩), .pointer (some ⟨w.heap.size + 1, 0, none⟩), .pointer (some ⟨w.heap.size + 1 + 1, 0, none⟩), .pointer (some ⟨w.heap.size + 1 + 1 + 1, 0, none⟩), .pointer (some ⟨w.heap.size + 1 + 1 + 1 + 1, 0, none⟩), .pointer (some ⟨Bx, 0, none⟩), .int .i64 (xu : Int), .string (Str (c :: l)), .bool false, .bool false, .string (Str (c :: l)), .int .u8 (c.toNat : Int), .bool (decide (10 < (c.toNat : Int))), .bool (decide (10 < (c.toNat : Int))), .string (Str (c :: l)), .int .u8 (c.toNat : Int), .int .i64 (c.toNat : Int), .string (Str (c :: l)), .string (Str l), .func (.func 51) #[] #[.pointer (some ⟨w.heap.size + 1 + 1 + 1 + 1 + 1, 0, none⟩)], V xk xn xs (Str xd), .int .i64 (xu : Int), v, .agg #[.int .i64 xk, .int .i64 xn, .int .i64 xs, .string (Str xd)], .slice (some ⟨Wd.heap.size, 0, none⟩) 1 1, .slice (some ⟨g, 0, none⟩) (pre.length + 1) cap, .int .i64 (eR pre), .int .i64 (xu : Int), .int .i64 (IntKind.i64.wrap (eR pre + (xu : Int))), undef, undef, undef, undef, undef, undef, undef, undef, undef, undef, undef, undef, undef, undef, undef], defers := [] } ((w1.setCell ⟨w.heap.size + 1 + 1, 0, none⟩ (.slice (some ⟨g, 0, none⟩) (pre.length + 1) cap)).setCell ⟨w.heap.size + 1 + 1 + 1 + 1, 0, none⟩ (.int .i64 (IntKind.i64.wrap (eR pre + (xu : Int))))) := by
      intro g cap w1 hown hgrow
      obtain ⟨_, _, hRR, hko, hkb⟩ := RR.app (x := ((xk, xn, xs, xd), xu)) hRd hown hgrow
      refine hKK _ _ ?_
      generalize (w1.setCell ⟨w.heap.size + 1 + 1, 0, none⟩ (.slice (some ⟨g, 0, none⟩) (pre.length + 1) cap)).setCell ⟨w.heap.size + 1 + 1 + 1 + 1, 0, none⟩ (.int .i64 (IntKind.i64.wrap (eR pre + (xu : Int)))) = Wf at *
      have q0 := hRR.r0.cell
      have q0f := hRR.r0.frozen
      have q1 := hRR.r1.cell
      have q1f := hRR.r1.frozen
      have q2 := hRR.l.cell
      have q3 := hRR.cnt.cell
      by_cases hgt : c.toNat < pre.length + 1
      · have hgt' : (c.toNat : Int) < (pre.length : Int) + 1 := by omega
        gi_wp2
        exact ⟨(((hkd.trans hko).trans (KeepsOthers.setCell _ _ _)).trans (KeepsOthers.setCell _ _ _)).from _, rfl, by simp; omega, (hRR.r0.set _).other (by omega) _, (hRR.r1.other (by omega) _).set _, (hRR.below.setCell (p := ⟨w.heap.size, 0, none⟩) (Nat.le_refl _) _).setCell (p := ⟨w.heap.size + 1, 0, none⟩) (by simp) _⟩
      · have hgt' : (pre.length : Int) + 1 ≤ (c.toNat : Int) := by omega
        gi_wp2
        exact ⟨(hkd.trans hko).from _, KB.trans (hbd _) (hkb _), ⟨⟨_, hRR⟩, by simp; omega⟩⟩
    clear hKK
    refine wpAny_take (i := 5) (oi := ?oi5) (v := ?v5) ?hi5 (by kernel_rfl) (by kernel_rfl) (by kernel_rfl) (fun _ _ _ h => h) (Or.inl ⟨?hw5, ?hy5⟩) ?rest5
    case hi5 => (simp only [List.getElem?_toArray, List.getElem?_cons_zero, List.getElem?_cons_succ]; rfl)
    case hw5 => rfl
    case hy5 => (intro wx; go_simp; with_reducible rfl)
    simp only [Act.put, List.setIfInBounds_toArray, List.set_cons_zero, List.set_cons_succ]
    refine wpAny_ready (rs := [0, 1, 4]) (by kernel_rfl) (by simp) ?_
    refine (AllReady.cons rfl (fun K1 hK1 => ?_) (AllReady.cons rfl (fun K2 hK2 => ?_) (AllReady.cons rfl (fun K3 hK3 => ?_) AllReady.nil)))
    · -- 0
      go_simp
      refine hK1 _ _ ?_
      refine wpAny_ready (rs := [1, 4]) (by kernel_rfl) (by simp) ?_
      refine (AllReady.cons rfl (fun K4 hK4 => ?_) (AllReady.cons rfl (fun K5 hK5 => ?_) AllReady.nil))
      · -- 1
        go_simp
        refine hK4 _ _ ?_
        refine wpAny_ready (rs := [2, 4]) (by kernel_rfl) (by simp) ?_
        refine (AllReady.cons rfl (fun K6 hK6 => ?_) (AllReady.cons rfl (fun K7 hK7 => ?_) AllReady.nil))
        · -- 2
          go_simp
          refine hK6 _ _ ?_
          refine wpAny_ready (rs := [3, 4]) (by kernel_rfl) (by simp) ?_
          refine (AllReady.cons rfl (fun K8 hK8 => ?_) (AllReady.cons rfl (fun K9 hK9 => ?_) AllReady.nil))
          · -- 3
            refine step_append_lies _ rfl (.tmp 24) (.tmp 26) 31 rfl (w.heap.size + 6) 24 i0 _ 4 40 Try.underlying31 hi hz0 hz1 hz2 rfl (by decide) v _ _ rfl hrowA ⟨Wd.heap.size, 0, none⟩ 1 1 [.int .i64 xk, .int .i64 xn, .int .i64 xs, .string (Str xd)] rfl rfl (World.news_of_block hnewA) (by simp [Value.oneCell']) (by decide) (by unfold maxLen; omega) (by omega) hbaseA _ rfl ?_
            intro g cap w1 hown hgrow hat1 hlt1
            obtain ⟨hb2, hb4, _⟩ := RR.app (x := ((xk, xn, xs, xd), xu)) hRd hown hgrow
            have c2 := hb2.cell
            have f2 := hb2.frozen
            have c4 := hb4.cell
            have f4 := hb4.frozen
            simp only [Act.put, List.setIfInBounds_toArray, List.set_cons_zero, List.set_cons_succ]
            refine hK8 _ _ ?_
            refine wpAny_ready (rs := [4, 7]) (by kernel_rfl) (by simp) ?_
            refine (AllReady.cons rfl (fun K10 hK10 => ?_) (AllReady.cons rfl (fun K11 hK11 => ?_) AllReady.nil))
            · -- 4
              go_simp
              refine hK10 _ _ ?_
              refine wpAny_take (i := 6) (oi := ?oi12) (v := ?v12) ?hi12 (by kernel_rfl) (by kernel_rfl) (by kernel_rfl) (fun _ _ _ h => h) (Or.inl ⟨?hw12, ?hy12⟩) ?rest12
              case hi12 => (simp only [List.getElem?_toArray, List.getElem?_cons_zero, List.getElem?_cons_succ]; rfl)
              case hw12 => rfl
              case hy12 => (intro wx; go_simp; with_reducible rfl)
              simp only [Act.put, List.setIfInBounds_toArray, List.set_cons_zero, List.set_cons_succ]
              refine wpAny_ready (rs := [7]) (by kernel_rfl) (by simp) ?_
              refine (AllReady.cons rfl (fun K13 hK13 => ?_) AllReady.nil)
              · -- 7
                go_simp
                refine hK13 _ _ ?_
                have c5 := (hb4.other (B' := w.heap.size + 1 + 1) (by omega) (.slice (some ⟨g, 0, none⟩) (pre.length + 1) cap)).cell
                have f5 := (hb4.other (B' := w.heap.size + 1 + 1) (by omega) (.slice (some ⟨g, 0, none⟩) (pre.length + 1) cap)).frozen
                refine wpAny_ready (rs := [8]) (by kernel_rfl) (by simp) ?_
                refine (AllReady.cons rfl (fun K14 hK14 => ?_) AllReady.nil)
                · -- 8
                  go_simp
                  refine hK14 _ _ ?_
                  exact wpAny_done (by kernel_rfl) (hleaf g cap w1 hown hgrow) _
            · -- 7
              go_simp
              refine hK11 _ _ ?_
              have c5 := (hb4.other (B' := w.heap.size + 1 + 1) (by omega) (.slice (some ⟨g, 0, none⟩) (pre.length + 1) cap)).cell
              have f5 := (hb4.other (B' := w.heap.size + 1 + 1) (by omega) (.slice (some ⟨g, 0, none⟩) (pre.length + 1) cap)).frozen
              refine wpAny_ready (rs := [4]) (by kernel_rfl) (by simp) ?_
              refine (AllReady.cons rfl (fun K15 hK15 => ?_) AllReady.nil)
              · -- 4
                go_simp
                refine hK15 _ _ ?_
                refine wpAny_take (i := 6) (oi := ?oi16) (v := ?v16) ?hi16 (by kernel_rfl) (by kernel_rfl) (by kernel_rfl) (fun _ _ _ h => h) (Or.inl ⟨?hw16, ?hy16⟩) ?rest16
                case hi16 => (simp only [List.getElem?_toArray, List.getElem?_cons_zero, List.getElem?_cons_succ]; rfl)
                case hw16 => rfl
                case hy16 => (intro wx; go_simp; with_reducible rfl)
                simp only [Act.put, List.setIfInBounds_toArray, List.set_cons_zero, List.set_cons_succ]
                refine wpAny_ready (rs := [8]) (by kernel_rfl) (by simp) ?_
                refine (AllReady.cons rfl (fun K17 hK17 => ?_) AllReady.nil)
                · -- 8
                  go_simp
                  refine hK17 _ _ ?_
                  exact wpAny_done (by kernel_rfl) (hleaf g cap w1 hown hgrow) _
          · -- 4
            go_simp
            refine hK9 _ _ ?_
            refine wpAny_take (i := 6) (oi := ?oi18) (v := ?v18) ?hi18 (by kernel_rfl) (by kernel_rfl) (by kernel_rfl) (fun _ _ _ h => h) (Or.inl ⟨?hw18, ?hy18⟩) ?rest18
            case hi18 => (simp only [List.getElem?_toArray, List.getElem?_cons_zero, List.getElem?_cons_succ]; rfl)
            case hw18 => rfl
            case hy18 => (intro wx; go_simp; with_reducible rfl)
            simp only [Act.put, List.setIfInBounds_toArray, List.set_cons_zero, List.set_cons_succ]
            refine wpAny_ready (rs := [3]) (by kernel_rfl) (by simp) ?_
            refine (AllReady.cons rfl (fun K19 hK19 => ?_) AllReady.nil)
            · -- 3
              refine step_append_lies _ rfl (.tmp 24) (.tmp 26) 31 rfl (w.heap.size + 6) 24 i0 _ 4 40 Try.underlying31 hi hz0 hz1 hz2 rfl (by decide) v _ _ rfl hrowA ⟨Wd.heap.size, 0, none⟩ 1 1 [.int .i64 xk, .int .i64 xn, .int .i64 xs, .string (Str xd)] rfl rfl (World.news_of_block hnewA) (by simp [Value.oneCell']) (by decide) (by unfold maxLen; omega) (by omega) hbaseA _ rfl ?_
              intro g cap w1 hown hgrow hat1 hlt1
              obtain ⟨hb2, hb4, _⟩ := RR.app (x := ((xk, xn, xs, xd), xu)) hRd hown hgrow
              have c2 := hb2.cell
              have f2 := hb2.frozen
              have c4 := hb4.cell
              have f4 := hb4.frozen
              simp only [Act.put, List.setIfInBounds_toArray, List.set_cons_zero, List.set_cons_succ]
              refine hK19 _ _ ?_
              refine wpAny_ready (rs := [7]) (by kernel_rfl) (by simp) ?_
              refine (AllReady.cons rfl (fun K20 hK20 => ?_) AllReady.nil)
              · -- 7
                go_simp
                refine hK20 _ _ ?_
                have c5 := (hb4.other (B' := w.heap.size + 1 + 1) (by omega) (.slice (some ⟨g, 0, none⟩) (pre.length + 1) cap)).cell
                have f5 := (hb4.other (B' := w.heap.size + 1 + 1) (by omega) (.slice (some ⟨g, 0, none⟩) (pre.length + 1) cap)).frozen
                refine wpAny_ready (rs := [8]) (by kernel_rfl) (by simp) ?_
                refine (AllReady.cons rfl (fun K21 hK21 => ?_) AllReady.nil)
                · -- 8
                  go_simp
                  refine hK21 _ _ ?_
                  exact wpAny_done (by kernel_rfl) (hleaf g cap w1 hown hgrow) _
        · -- 4
          go_simp
          refine hK7 _ _ ?_
          refine wpAny_take (i := 6) (oi := ?oi22) (v := ?v22) ?hi22 (by kernel_rfl) (by kernel_rfl) (by kernel_rfl) (fun _ _ _ h => h) (Or.inl ⟨?hw22, ?hy22⟩) ?rest22
          case hi22 => (simp only [List.getElem?_toArray, List.getElem?_cons_zero, List.getElem?_cons_succ]; rfl)
          case hw22 => rfl
          case hy22 => (intro wx; go_simp; with_reducible rfl)
          simp only [Act.put, List.setIfInBounds_toArray, List.set_cons_zero, List.set_cons_succ]
          refine wpAny_ready (rs := [2]) (by kernel_rfl) (by simp) ?_
          refine (AllReady.cons rfl (fun K23 hK23 => ?_) AllReady.nil)
          · -- 2
            go_simp
            refine hK23 _ _ ?_
            refine wpAny_ready (rs := [3]) (by kernel_rfl) (by simp) ?_
            refine (AllReady.cons rfl (fun K24 hK24 => ?_) AllReady.nil)
            · -- 3
              refine step_append_lies _ rfl (.tmp 24) (.tmp 26) 31 rfl (w.heap.size + 6) 24 i0 _ 4 40 Try.underlying31 hi hz0 hz1 hz2 rfl (by decide) v _ _ rfl hrowA ⟨Wd.heap.size, 0, none⟩ 1 1 [.int .i64 xk, .int .i64 xn, .int .i64 xs, .string (Str xd)] rfl rfl (World.news_of_block hnewA) (by simp [Value.oneCell']) (by decide) (by unfold maxLen; omega) (by omega) hbaseA _ rfl ?_
              intro g cap w1 hown hgrow hat1 hlt1
              obtain ⟨hb2, hb4, _⟩ := RR.app (x := ((xk, xn, xs, xd), xu)) hRd hown hgrow
              have c2 := hb2.cell
              have f2 := hb2.frozen
              have c4 := hb4.cell
              have f4 := hb4.frozen
              simp only [Act.put, List.setIfInBounds_toArray, List.set_cons_zero, List.set_cons_succ]
              refine hK24 _ _ ?_
              refine wpAny_ready (rs := [7]) (by kernel_rfl) (by simp) ?_
              refine (AllReady.cons rfl (fun K25 hK25 => ?_) AllReady.nil)
              · -- 7
                go_simp
                refine hK25 _ _ ?_
                have c5 := (hb4.other (B' := w.heap.size + 1 + 1) (by omega) (.slice (some ⟨g, 0, none⟩) (pre.length + 1) cap)).cell
                have f5 := (hb4.other (B' := w.heap.size + 1 + 1) (by omega) (.slice (some ⟨g, 0, none⟩) (pre.length + 1) cap)).frozen
                refine wpAny_ready (rs := [8]) (by kernel_rfl) (by simp) ?_
                refine (AllReady.cons rfl (fun K26 hK26 => ?_) AllReady.nil)
                · -- 8
                  go_simp
                  refine hK26 _ _ ?_
                  exact wpAny_done (by kernel_rfl) (hleaf g cap w1 hown hgrow) _
      · -- 4
        go_simp
        refine hK5 _ _ ?_
        refine wpAny_take (i := 6) (oi := ?oi27) (v := ?v27) ?hi27 (by kernel_rfl) (by kernel_rfl) (by kernel_rfl) (fun _ _ _ h => h) (Or.inl ⟨?hw27, ?hy27⟩) ?rest27
        case hi27 => (simp only [List.getElem?_toArray, List.getElem?_cons_zero, List.getElem?_cons_succ]; rfl)
        case hw27 => rfl
        case hy27 => (intro wx; go_simp; with_reducible rfl)
        simp only [Act.put, List.setIfInBounds_toArray, List.set_cons_zero, List.set_cons_succ]
        refine wpAny_ready (rs := [1]) (by kernel_rfl) (by simp) ?_
        refine (AllReady.cons rfl (fun K28 hK28 => ?_) AllReady.nil)
        · -- 1
          go_simp
          refine hK28 _ _ ?_
          refine wpAny_ready (rs := [2]) (by kernel_rfl) (by simp) ?_
          refine (AllReady.cons rfl (fun K29 hK29 => ?_) AllReady.nil)
          · -- 2
            go_simp
            refine hK29 _ _ ?_
            refine wpAny_ready (rs := [3]) (by kernel_rfl) (by simp) ?_
            refine (AllReady.cons rfl (fun K30 hK30 => ?_) AllReady.nil)
            · -- 3
              refine step_append_lies _ rfl (.tmp 24) (.tmp 26) 31 rfl (w.heap.size + 6) 24 i0 _ 4 40 Try.underlying31 hi hz0 hz1 hz2 rfl (by decide) v _ _ rfl hrowA ⟨Wd.heap.size, 0, none⟩ 1 1 [.int .i64 xk, .int .i64 xn, .int .i64 xs, .string (Str xd)] rfl rfl (World.news_of_block hnewA) (by simp [Value.oneCell']) (by decide) (by unfold maxLen; omega) (by omega) hbaseA _ rfl ?_
              intro g cap w1 hown hgrow hat1 hlt1
              obtain ⟨hb2, hb4, _⟩ := RR.app (x := ((xk, xn, xs, xd), xu)) hRd hown hgrow
              have c2 := hb2.cell
              have f2 := hb2.frozen
              have c4 := hb4.cell
              have f4 := hb4.frozen
              simp only [Act.put, List.setIfInBounds_toArray, List.set_cons_zero, List.set_cons_succ]
              refine hK30 _ _ ?_
              refine wpAny_ready (rs := [7]) (by kernel_rfl) (by simp) ?_
              refine (AllReady.cons rfl (fun K31 hK31 => ?_) AllReady.nil)
              · -- 7
                go_simp
                refine hK31 _ _ ?_
                have c5 := (hb4.other (B' := w.heap.size + 1 + 1) (by omega) (.slice (some ⟨g, 0, none⟩) (pre.length + 1) cap)).cell
                have f5 := (hb4.other (B' := w.heap.size + 1 + 1) (by omega) (.slice (some ⟨g, 0, none⟩) (pre.length + 1) cap)).frozen
                refine wpAny_ready (rs := [8]) (by kernel_rfl) (by simp) ?_
                refine (AllReady.cons rfl (fun K32 hK32 => ?_) AllReady.nil)
                · -- 8
                  go_simp
                  refine hK32 _ _ ?_
                  exact wpAny_done (by kernel_rfl) (hleaf g cap w1 hown hgrow) _
    · -- 1
      go_simp
      refine hK2 _ _ ?_
      refine wpAny_ready (rs := [0, 2, 4]) (by kernel_rfl) (by simp) ?_
      refine (AllReady.cons rfl (fun K33 hK33 => ?_) (AllReady.cons rfl (fun K34 hK34 => ?_) (AllReady.cons rfl (fun K35 hK35 => ?_) AllReady.nil)))
      · -- 0
        go_simp
        refine hK33 _ _ ?_
        refine wpAny_ready (rs := [2, 4]) (by kernel_rfl) (by simp) ?_
        refine (AllReady.cons rfl (fun K36 hK36 => ?_) (AllReady.cons rfl (fun K37 hK37 => ?_) AllReady.nil))
        · -- 2
          go_simp
          refine hK36 _ _ ?_
          refine wpAny_ready (rs := [3, 4]) (by kernel_rfl) (by simp) ?_
          refine (AllReady.cons rfl (fun K38 hK38 => ?_) (AllReady.cons rfl (fun K39 hK39 => ?_) AllReady.nil))
          · -- 3
            refine step_append_lies _ rfl (.tmp 24) (.tmp 26) 31 rfl (w.heap.size + 6) 24 i0 _ 4 40 Try.underlying31 hi hz0 hz1 hz2 rfl (by decide) v _ _ rfl hrowA ⟨Wd.heap.size, 0, none⟩ 1 1 [.int .i64 xk, .int .i64 xn, .int .i64 xs, .string (Str xd)] rfl rfl (World.news_of_block hnewA) (by simp [Value.oneCell']) (by decide) (by unfold maxLen; omega) (by omega) hbaseA _ rfl ?_
            intro g cap w1 hown hgrow hat1 hlt1
            obtain ⟨hb2, hb4, _⟩ := RR.app (x := ((xk, xn, xs, xd), xu)) hRd hown hgrow
            have c2 := hb2.cell
            have f2 := hb2.frozen
            have c4 := hb4.cell
            have f4 := hb4.frozen
            simp only [Act.put, List.setIfInBounds_toArray, List.set_cons_zero, List.set_cons_succ]
            refine hK38 _ _ ?_
            refine wpAny_ready (rs := [4, 7]) (by kernel_rfl) (by simp) ?_
            refine (AllReady.cons rfl (fun K40 hK40 => ?_) (AllReady.cons rfl (fun K41 hK41 => ?_) AllReady.nil))
            · -- 4
              go_simp
              refine hK40 _ _ ?_
              refine wpAny_take (i := 6) (oi := ?oi42) (v := ?v42) ?hi42 (by kernel_rfl) (by kernel_rfl) (by kernel_rfl) (fun _ _ _ h => h) (Or.inl ⟨?hw42, ?hy42⟩) ?rest42
              case hi42 => (simp only [List.getElem?_toArray, List.getElem?_cons_zero, List.getElem?_cons_succ]; rfl)
              case hw42 => rfl
              case hy42 => (intro wx; go_simp; with_reducible rfl)
              simp only [Act.put, List.setIfInBounds_toArray, List.set_cons_zero, List.set_cons_succ]
              refine wpAny_ready (rs := [7]) (by kernel_rfl) (by simp) ?_
              refine (AllReady.cons rfl (fun K43 hK43 => ?_) AllReady.nil)
              · -- 7
                go_simp
                refine hK43 _ _ ?_
                have c5 := (hb4.other (B' := w.heap.size + 1 + 1) (by omega) (.slice (some ⟨g, 0, none⟩) (pre.length + 1) cap)).cell
                have f5 := (hb4.other (B' := w.heap.size + 1 + 1) (by omega) (.slice (some ⟨g, 0, none⟩) (pre.length + 1) cap)).frozen
                refine wpAny_ready (rs := [8]) (by kernel_rfl) (by simp) ?_
                refine (AllReady.cons rfl (fun K44 hK44 => ?_) AllReady.nil)
                · -- 8
                  go_simp
                  refine hK44 _ _ ?_
                  exact wpAny_done (by kernel_rfl) (hleaf g cap w1 hown hgrow) _
            · -- 7
              go_simp
              refine hK41 _ _ ?_
              have c5 := (hb4.other (B' := w.heap.size + 1 + 1) (by omega) (.slice (some ⟨g, 0, none⟩) (pre.length + 1) cap)).cell
              have f5 := (hb4.other (B' := w.heap.size + 1 + 1) (by omega) (.slice (some ⟨g, 0, none⟩) (pre.length + 1) cap)).frozen
              refine wpAny_ready (rs := [4]) (by kernel_rfl) (by simp) ?_
              refine (AllReady.cons rfl (fun K45 hK45 => ?_) AllReady.nil)
              · -- 4
                go_simp
                refine hK45 _ _ ?_
                refine wpAny_take (i := 6) (oi := ?oi46) (v := ?v46) ?hi46 (by kernel_rfl) (by kernel_rfl) (by kernel_rfl) (fun _ _ _ h => h) (Or.inl ⟨?hw46, ?hy46⟩) ?rest46
                case hi46 => (simp only [List.getElem?_toArray, List.getElem?_cons_zero, List.getElem?_cons_succ]; rfl)
                case hw46 => rfl
                case hy46 => (intro wx; go_simp; with_reducible rfl)
                simp only [Act.put, List.setIfInBounds_toArray, List.set_cons_zero, List.set_cons_succ]
                refine wpAny_ready (rs := [8]) (by kernel_rfl) (by simp) ?_
                refine (AllReady.cons rfl (fun K47 hK47 => ?_) AllReady.nil)
                · -- 8
                  go_simp
                  refine hK47 _ _ ?_
                  exact wpAny_done (by kernel_rfl) (hleaf g cap w1 hown hgrow) _
          · -- 4
            go_simp
            refine hK39 _ _ ?_
            refine wpAny_take (i := 6) (oi := ?oi48) (v := ?v48) ?hi48 (by kernel_rfl) (by kernel_rfl) (by kernel_rfl) (fun _ _ _ h => h) (Or.inl ⟨?hw48, ?hy48⟩) ?rest48
            case hi48 => (simp only [List.getElem?_toArray, List.getElem?_cons_zero, List.getElem?_cons_succ]; rfl)
            case hw48 => rfl
            case hy48 => (intro wx; go_simp; with_reducible rfl)
            simp only [Act.put, List.setIfInBounds_toArray, List.set_cons_zero, List.set_cons_succ]
            refine wpAny_ready (rs := [3]) (by kernel_rfl) (by simp) ?_
            refine (AllReady.cons rfl (fun K49 hK49 => ?_) AllReady.nil)
            · -- 3
              refine step_append_lies _ rfl (.tmp 24) (.tmp 26) 31 rfl (w.heap.size + 6) 24 i0 _ 4 40 Try.underlying31 hi hz0 hz1 hz2 rfl (by decide) v _ _ rfl hrowA ⟨Wd.heap.size, 0, none⟩ 1 1 [.int .i64 xk, .int .i64 xn, .int .i64 xs, .string (Str xd)] rfl rfl (World.news_of_block hnewA) (by simp [Value.oneCell']) (by decide) (by unfold maxLen; omega) (by omega) hbaseA _ rfl ?_
              intro g cap w1 hown hgrow hat1 hlt1
              obtain ⟨hb2, hb4, _⟩ := RR.app (x := ((xk, xn, xs, xd), xu)) hRd hown hgrow
              have c2 := hb2.cell
              have f2 := hb2.frozen
              have c4 := hb4.cell
              have f4 := hb4.frozen
              simp only [Act.put, List.setIfInBounds_toArray, List.set_cons_zero, List.set_cons_succ]
              refine hK49 _ _ ?_
              refine wpAny_ready (rs := [7]) (by kernel_rfl) (by simp) ?_
              refine (AllReady.cons rfl (fun K50 hK50 => ?_) AllReady.nil)
              · -- 7
                go_simp
                refine hK50 _ _ ?_
                have c5 := (hb4.other (B' := w.heap.size + 1 + 1) (by omega) (.slice (some ⟨g, 0, none⟩) (pre.length + 1) cap)).cell
                have f5 := (hb4.other (B' := w.heap.size + 1 + 1) (by omega) (.slice (some ⟨g, 0, none⟩) (pre.length + 1) cap)).frozen
                refine wpAny_ready (rs := [8]) (by kernel_rfl) (by simp) ?_
                refine (AllReady.cons rfl (fun K51 hK51 => ?_) AllReady.nil)
                · -- 8
                  go_simp
                  refine hK51 _ _ ?_
                  exact wpAny_done (by kernel_rfl) (hleaf g cap w1 hown hgrow) _
        · -- 4
          go_simp
          refine hK37 _ _ ?_
          refine wpAny_take (i := 6) (oi := ?oi52) (v := ?v52) ?hi52 (by kernel_rfl) (by kernel_rfl) (by kernel_rfl) (fun _ _ _ h => h) (Or.inl ⟨?hw52, ?hy52⟩) ?rest52
          case hi52 => (simp only [List.getElem?_toArray, List.getElem?_cons_zero, List.getElem?_cons_succ]; rfl)
          case hw52 => rfl
          case hy52 => (intro wx; go_simp; with_reducible rfl)
          simp only [Act.put, List.setIfInBounds_toArray, List.set_cons_zero, List.set_cons_succ]
          refine wpAny_ready (rs := [2]) (by kernel_rfl) (by simp) ?_
          refine (AllReady.cons rfl (fun K53 hK53 => ?_) AllReady.nil)
          · -- 2
            go_simp
            refine hK53 _ _ ?_
            refine wpAny_ready (rs := [3]) (by kernel_rfl) (by simp) ?_
            refine (AllReady.cons rfl (fun K54 hK54 => ?_) AllReady.nil)
            · -- 3
              refine step_append_lies _ rfl (.tmp 24) (.tmp 26) 31 rfl (w.heap.size + 6) 24 i0 _ 4 40 Try.underlying31 hi hz0 hz1 hz2 rfl (by decide) v _ _ rfl hrowA ⟨Wd.heap.size, 0, none⟩ 1 1 [.int .i64 xk, .int .i64 xn, .int .i64 xs, .string (Str xd)] rfl rfl (World.news_of_block hnewA) (by simp [Value.oneCell']) (by decide) (by unfold maxLen; omega) (by omega) hbaseA _ rfl ?_
              intro g cap w1 hown hgrow hat1 hlt1
              obtain ⟨hb2, hb4, _⟩ := RR.app (x := ((xk, xn, xs, xd), xu)) hRd hown hgrow
              have c2 := hb2.cell
              have f2 := hb2.frozen
              have c4 := hb4.cell
              have f4 := hb4.frozen
              simp only [Act.put, List.setIfInBounds_toArray, List.set_cons_zero, List.set_cons_succ]
              refine hK54 _ _ ?_
              refine wpAny_ready (rs := [7]) (by kernel_rfl) (by simp) ?_
              refine (AllReady.cons rfl (fun K55 hK55 => ?_) AllReady.nil)
              · -- 7
                go_simp
                refine hK55 _ _ ?_
                have c5 := (hb4.other (B' := w.heap.size + 1 + 1) (by omega) (.slice (some ⟨g, 0, none⟩) (pre.length + 1) cap)).cell
                have f5 := (hb4.other (B' := w.heap.size + 1 + 1) (by omega) (.slice (some ⟨g, 0, none⟩) (pre.length + 1) cap)).frozen
                refine wpAny_ready (rs := [8]) (by kernel_rfl) (by simp) ?_
                refine (AllReady.cons rfl (fun K56 hK56 => ?_) AllReady.nil)
                · -- 8
                  go_simp
                  refine hK56 _ _ ?_
                  exact wpAny_done (by kernel_rfl) (hleaf g cap w1 hown hgrow) _
      · -- 2
        go_simp
        refine hK34 _ _ ?_
        refine wpAny_ready (rs := [0, 4]) (by kernel_rfl) (by simp) ?_
        refine (AllReady.cons rfl (fun K57 hK57 => ?_) (AllReady.cons rfl (fun K58 hK58 => ?_) AllReady.nil))
        · -- 0
          go_simp
          refine hK57 _ _ ?_
          refine wpAny_ready (rs := [3, 4]) (by kernel_rfl) (by simp) ?_
          refine (AllReady.cons rfl (fun K59 hK59 => ?_) (AllReady.cons rfl (fun K60 hK60 => ?_) AllReady.nil))
          · -- 3
            refine step_append_lies _ rfl (.tmp 24) (.tmp 26) 31 rfl (w.heap.size + 6) 24 i0 _ 4 40 Try.underlying31 hi hz0 hz1 hz2 rfl (by decide) v _ _ rfl hrowA ⟨Wd.heap.size, 0, none⟩ 1 1 [.int .i64 xk, .int .i64 xn, .int .i64 xs, .string (Str xd)] rfl rfl (World.news_of_block hnewA) (by simp [Value.oneCell']) (by decide) (by unfold maxLen; omega) (by omega) hbaseA _ rfl ?_
            intro g cap w1 hown hgrow hat1 hlt1
            obtain ⟨hb2, hb4, _⟩ := RR.app (x := ((xk, xn, xs, xd), xu)) hRd hown hgrow
            have c2 := hb2.cell
            have f2 := hb2.frozen
            have c4 := hb4.cell
            have f4 := hb4.frozen
            simp only [Act.put, List.setIfInBounds_toArray, List.set_cons_zero, List.set_cons_succ]
            refine hK59 _ _ ?_
            refine wpAny_ready (rs := [4, 7]) (by kernel_rfl) (by simp) ?_
            refine (AllReady.cons rfl (fun K61 hK61 => ?_) (AllReady.cons rfl (fun K62 hK62 => ?_) AllReady.nil))
            · -- 4
              go_simp
              refine hK61 _ _ ?_
              refine wpAny_take (i := 6) (oi := ?oi63) (v := ?v63) ?hi63 (by kernel_rfl) (by kernel_rfl) (by kernel_rfl) (fun _ _ _ h => h) (Or.inl ⟨?hw63, ?hy63⟩) ?rest63
              case hi63 => (simp only [List.getElem?_toArray, List.getElem?_cons_zero, List.getElem?_cons_succ]; rfl)
              case hw63 => rfl
              case hy63 => (intro wx; go_simp; with_reducible rfl)
              simp only [Act.put, List.setIfInBounds_toArray, List.set_cons_zero, List.set_cons_succ]
              refine wpAny_ready (rs := [7]) (by kernel_rfl) (by simp) ?_
              refine (AllReady.cons rfl (fun K64 hK64 => ?_) AllReady.nil)
              · -- 7
                go_simp
                refine hK64 _ _ ?_
                have c5 := (hb4.other (B' := w.heap.size + 1 + 1) (by omega) (.slice (some ⟨g, 0, none⟩) (pre.length + 1) cap)).cell
                have f5 := (hb4.other (B' := w.heap.size + 1 + 1) (by omega) (.slice (some ⟨g, 0, none⟩) (pre.length + 1) cap)).frozen
                refine wpAny_ready (rs := [8]) (by kernel_rfl) (by simp) ?_
                refine (AllReady.cons rfl (fun K65 hK65 => ?_) AllReady.nil)
                · -- 8
                  go_simp
                  refine hK65 _ _ ?_
                  exact wpAny_done (by kernel_rfl) (hleaf g cap w1 hown hgrow) _
            · -- 7
              go_simp
              refine hK62 _ _ ?_
              have c5 := (hb4.other (B' := w.heap.size + 1 + 1) (by omega) (.slice (some ⟨g, 0, none⟩) (pre.length + 1) cap)).cell
              have f5 := (hb4.other (B' := w.heap.size + 1 + 1) (by omega) (.slice (some ⟨g, 0, none⟩) (pre.length + 1) cap)).frozen
              refine wpAny_ready (rs := [4]) (by kernel_rfl) (by simp) ?_
              refine (AllReady.cons rfl (fun K66 hK66 => ?_) AllReady.nil)
              · -- 4
                go_simp
                refine hK66 _ _ ?_
                refine wpAny_take (i := 6) (oi := ?oi67) (v := ?v67) ?hi67 (by kernel_rfl) (by kernel_rfl) (by kernel_rfl) (fun _ _ _ h => h) (Or.inl ⟨?hw67, ?hy67⟩) ?rest67
                case hi67 => (simp only [List.getElem?_toArray, List.getElem?_cons_zero, List.getElem?_cons_succ]; rfl)
                case hw67 => rfl
                case hy67 => (intro wx; go_simp; with_reducible rfl)
                simp only [Act.put, List.setIfInBounds_toArray, List.set_cons_zero, List.set_cons_succ]
                refine wpAny_ready (rs := [8]) (by kernel_rfl) (by simp) ?_
                refine (AllReady.cons rfl (fun K68 hK68 => ?_) AllReady.nil)
                · -- 8
                  go_simp
                  refine hK68 _ _ ?_
                  exact wpAny_done (by kernel_rfl) (hleaf g cap w1 hown hgrow) _
          · -- 4
            go_simp
            refine hK60 _ _ ?_
            refine wpAny_take (i := 6) (oi := ?oi69) (v := ?v69) ?hi69 (by kernel_rfl) (by kernel_rfl) (by kernel_rfl) (fun _ _ _ h => h) (Or.inl ⟨?hw69, ?hy69⟩) ?rest69
            case hi69 => (simp only [List.getElem?_toArray, List.getElem?_cons_zero, List.getElem?_cons_succ]; rfl)
            case hw69 => rfl
            case hy69 => (intro wx; go_simp; with_reducible rfl)
            simp only [Act.put, List.setIfInBounds_toArray, List.set_cons_zero, List.set_cons_succ]
            refine wpAny_ready (rs := [3]) (by kernel_rfl) (by simp) ?_
            refine (AllReady.cons rfl (fun K70 hK70 => ?_) AllReady.nil)
            · -- 3
              refine step_append_lies _ rfl (.tmp 24) (.tmp 26) 31 rfl (w.heap.size + 6) 24 i0 _ 4 40 Try.underlying31 hi hz0 hz1 hz2 rfl (by decide) v _ _ rfl hrowA ⟨Wd.heap.size, 0, none⟩ 1 1 [.int .i64 xk, .int .i64 xn, .int .i64 xs, .string (Str xd)] rfl rfl (World.news_of_block hnewA) (by simp [Value.oneCell']) (by decide) (by unfold maxLen; omega) (by omega) hbaseA _ rfl ?_
              intro g cap w1 hown hgrow hat1 hlt1
              obtain ⟨hb2, hb4, _⟩ := RR.app (x := ((xk, xn, xs, xd), xu)) hRd hown hgrow
              have c2 := hb2.cell
              have f2 := hb2.frozen
              have c4 := hb4.cell
              have f4 := hb4.frozen
              simp only [Act.put, List.setIfInBounds_toArray, List.set_cons_zero, List.set_cons_succ]
              refine hK70 _ _ ?_
              refine wpAny_ready (rs := [7]) (by kernel_rfl) (by simp) ?_
              refine (AllReady.cons rfl (fun K71 hK71 => ?_) AllReady.nil)
              · -- 7
                go_simp
                refine hK71 _ _ ?_
                have c5 := (hb4.other (B' := w.heap.size + 1 + 1) (by omega) (.slice (some ⟨g, 0, none⟩) (pre.length + 1) cap)).cell
                have f5 := (hb4.other (B' := w.heap.size + 1 + 1) (by omega) (.slice (some ⟨g, 0, none⟩) (pre.length + 1) cap)).frozen
                refine wpAny_ready (rs := [8]) (by kernel_rfl) (by simp) ?_
                refine (AllReady.cons rfl (fun K72 hK72 => ?_) AllReady.nil)
                · -- 8
                  go_simp
                  refine hK72 _ _ ?_
                  exact wpAny_done (by kernel_rfl) (hleaf g cap w1 hown hgrow) _
        · -- 4
          go_simp
          refine hK58 _ _ ?_
          refine wpAny_take (i := 6) (oi := ?oi73) (v := ?v73) ?hi73 (by kernel_rfl) (by kernel_rfl) (by kernel_rfl) (fun _ _ _ h => h) (Or.inl ⟨?hw73, ?hy73⟩) ?rest73
          case hi73 => (simp only [List.getElem?_toArray, List.getElem?_cons_zero, List.getElem?_cons_succ]; rfl)
          case hw73 => rfl
          case hy73 => (intro wx; go_simp; with_reducible rfl)
          simp only [Act.put, List.setIfInBounds_toArray, List.set_cons_zero, List.set_cons_succ]
          refine wpAny_ready (rs := [0]) (by kernel_rfl) (by simp) ?_
          refine (AllReady.cons rfl (fun K74 hK74 => ?_) AllReady.nil)
          · -- 0
            go_simp
            refine hK74 _ _ ?_
            refine wpAny_ready (rs := [3]) (by kernel_rfl) (by simp) ?_
            refine (AllReady.cons rfl (fun K75 hK75 => ?_) AllReady.nil)
            · -- 3
              refine step_append_lies _ rfl (.tmp 24) (.tmp 26) 31 rfl (w.heap.size + 6) 24 i0 _ 4 40 Try.underlying31 hi hz0 hz1 hz2 rfl (by decide) v _ _ rfl hrowA ⟨Wd.heap.size, 0, none⟩ 1 1 [.int .i64 xk, .int .i64 xn, .int .i64 xs, .string (Str xd)] rfl rfl (World.news_of_block hnewA) (by simp [Value.oneCell']) (by decide) (by unfold maxLen; omega) (by omega) hbaseA _ rfl ?_
              intro g cap w1 hown hgrow hat1 hlt1
              obtain ⟨hb2, hb4, _⟩ := RR.app (x := ((xk, xn, xs, xd), xu)) hRd hown hgrow
              have c2 := hb2.cell
              have f2 := hb2.frozen
              have c4 := hb4.cell
              have f4 := hb4.frozen
              simp only [Act.put, List.setIfInBounds_toArray, List.set_cons_zero, List.set_cons_succ]
              refine hK75 _ _ ?_
              refine wpAny_ready (rs := [7]) (by kernel_rfl) (by simp) ?_
              refine (AllReady.cons rfl (fun K76 hK76 => ?_) AllReady.nil)
              · -- 7
                go_simp
                refine hK76 _ _ ?_
                have c5 := (hb4.other (B' := w.heap.size + 1 + 1) (by omega) (.slice (some ⟨g, 0, none⟩) (pre.length + 1) cap)).cell
                have f5 := (hb4.other (B' := w.heap.size + 1 + 1) (by omega) (.slice (some ⟨g, 0, none⟩) (pre.length + 1) cap)).frozen
                refine wpAny_ready (rs := [8]) (by kernel_rfl) (by simp) ?_
                refine (AllReady.cons rfl (fun K77 hK77 => ?_) AllReady.nil)
                · -- 8
                  go_simp
                  refine hK77 _ _ ?_
                  exact wpAny_done (by kernel_rfl) (hleaf g cap w1 hown hgrow) _
      · -- 4
        go_simp
        refine hK35 _ _ ?_
        refine wpAny_take (i := 6) (oi := ?oi78) (v := ?v78) ?hi78 (by kernel_rfl) (by kernel_rfl) (by kernel_rfl) (fun _ _ _ h => h) (Or.inl ⟨?hw78, ?hy78⟩) ?rest78
        case hi78 => (simp only [List.getElem?_toArray, List.getElem?_cons_zero, List.getElem?_cons_succ]; rfl)
        case hw78 => rfl
        case hy78 => (intro wx; go_simp; with_reducible rfl)
        simp only [Act.put, List.setIfInBounds_toArray, List.set_cons_zero, List.set_cons_succ]
        refine wpAny_ready (rs := [0, 2]) (by kernel_rfl) (by simp) ?_
        refine (AllReady.cons rfl (fun K79 hK79 => ?_) (AllReady.cons rfl (fun K80 hK80 => ?_) AllReady.nil))
        · -- 0
          go_simp
          refine hK79 _ _ ?_
          refine wpAny_ready (rs := [2]) (by kernel_rfl) (by simp) ?_
          refine (AllReady.cons rfl (fun K81 hK81 => ?_) AllReady.nil)
          · -- 2
            go_simp
            refine hK81 _ _ ?_
            refine wpAny_ready (rs := [3]) (by kernel_rfl) (by simp) ?_
            refine (AllReady.cons rfl (fun K82 hK82 => ?_) AllReady.nil)
            · -- 3
              refine step_append_lies _ rfl (.tmp 24) (.tmp 26) 31 rfl (w.heap.size + 6) 24 i0 _ 4 40 Try.underlying31 hi hz0 hz1 hz2 rfl (by decide) v _ _ rfl hrowA ⟨Wd.heap.size, 0, none⟩ 1 1 [.int .i64 xk, .int .i64 xn, .int .i64 xs, .string (Str xd)] rfl rfl (World.news_of_block hnewA) (by simp [Value.oneCell']) (by decide) (by unfold maxLen; omega) (by omega) hbaseA _ rfl ?_
              intro g cap w1 hown hgrow hat1 hlt1
              obtain ⟨hb2, hb4, _⟩ := RR.app (x := ((xk, xn, xs, xd), xu)) hRd hown hgrow
              have c2 := hb2.cell
              have f2 := hb2.frozen
              have c4 := hb4.cell
              have f4 := hb4.frozen
              simp only [Act.put, List.setIfInBounds_toArray, List.set_cons_zero, List.set_cons_succ]
              refine hK82 _ _ ?_
              refine wpAny_ready (rs := [7]) (by kernel_rfl) (by simp) ?_
              refine (AllReady.cons rfl (fun K83 hK83 => ?_) AllReady.nil)
              · -- 7
                go_simp
                refine hK83 _ _ ?_
                have c5 := (hb4.other (B' := w.heap.size + 1 + 1) (by omega) (.slice (some ⟨g, 0, none⟩) (pre.length + 1) cap)).cell
                have f5 := (hb4.other (B' := w.heap.size + 1 + 1) (by omega) (.slice (some ⟨g, 0, none⟩) (pre.length + 1) cap)).frozen
                refine wpAny_ready (rs := [8]) (by kernel_rfl) (by simp) ?_
                refine (AllReady.cons rfl (fun K84 hK84 => ?_) AllReady.nil)
                · -- 8
                  go_simp
                  refine hK84 _ _ ?_
                  exact wpAny_done (by kernel_rfl) (hleaf g cap w1 hown hgrow) _
        · -- 2
          go_simp
          refine hK80 _ _ ?_
          refine wpAny_ready (rs := [0]) (by kernel_rfl) (by simp) ?_
          refine (AllReady.cons rfl (fun K85 hK85 => ?_) AllReady.nil)
          · -- 0
            go_simp
            refine hK85 _ _ ?_
            refine wpAny_ready (rs := [3]) (by kernel_rfl) (by simp) ?_
            refine (AllReady.cons rfl (fun K86 hK86 => ?_) AllReady.nil)
            · -- 3
              refine step_append_lies _ rfl (.tmp 24) (.tmp 26) 31 rfl (w.heap.size + 6) 24 i0 _ 4 40 Try.underlying31 hi hz0 hz1 hz2 rfl (by decide) v _ _ rfl hrowA ⟨Wd.heap.size, 0, none⟩ 1 1 [.int .i64 xk, .int .i64 xn, .int .i64 xs, .string (Str xd)] rfl rfl (World.news_of_block hnewA) (by simp [Value.oneCell']) (by decide) (by unfold maxLen; omega) (by omega) hbaseA _ rfl ?_
              intro g cap w1 hown hgrow hat1 hlt1
              obtain ⟨hb2, hb4, _⟩ := RR.app (x := ((xk, xn, xs, xd), xu)) hRd hown hgrow
              have c2 := hb2.cell
              have f2 := hb2.frozen
              have c4 := hb4.cell
              have f4 := hb4.frozen
              simp only [Act.put, List.setIfInBounds_toArray, List.set_cons_zero, List.set_cons_succ]
              refine hK86 _ _ ?_
              refine wpAny_ready (rs := [7]) (by kernel_rfl) (by simp) ?_
              refine (AllReady.cons rfl (fun K87 hK87 => ?_) AllReady.nil)
              · -- 7
                go_simp
                refine hK87 _ _ ?_
                have c5 := (hb4.other (B' := w.heap.size + 1 + 1) (by omega) (.slice (some ⟨g, 0, none⟩) (pre.length + 1) cap)).cell
                have f5 := (hb4.other (B' := w.heap.size + 1 + 1) (by omega) (.slice (some ⟨g, 0, none⟩) (pre.length + 1) cap)).frozen
                refine wpAny_ready (rs := [8]) (by kernel_rfl) (by simp) ?_
                refine (AllReady.cons rfl (fun K88 hK88 => ?_) AllReady.nil)
                · -- 8
                  go_simp
                  refine hK88 _ _ ?_
                  exact wpAny_done (by kernel_rfl) (hleaf g cap w1 hown hgrow) _
    · -- 4
      go_simp
      refine hK3 _ _ ?_
      refine wpAny_take (i := 6) (oi := ?oi89) (v := ?v89) ?hi89 (by kernel_rfl) (by kernel_rfl) (by kernel_rfl) (fun _ _ _ h => h) (Or.inl ⟨?hw89, ?hy89⟩) ?rest89
      case hi89 => (simp only [List.getElem?_toArray, List.getElem?_cons_zero, List.getElem?_cons_succ]; rfl)
      case hw89 => rfl
      case hy89 => (intro wx; go_simp; with_reducible rfl)
      simp only [Act.put, List.setIfInBounds_toArray, List.set_cons_zero, List.set_cons_succ]
      refine wpAny_ready (rs := [0, 1]) (by kernel_rfl) (by simp) ?_
      refine (AllReady.cons rfl (fun K90 hK90 => ?_) (AllReady.cons rfl (fun K91 hK91 => ?_) AllReady.nil))
      · -- 0
        go_simp
        refine hK90 _ _ ?_
        refine wpAny_ready (rs := [1]) (by kernel_rfl) (by simp) ?_
        refine (AllReady.cons rfl (fun K92 hK92 => ?_) AllReady.nil)
        · -- 1
          go_simp
          refine hK92 _ _ ?_
          refine wpAny_ready (rs := [2]) (by kernel_rfl) (by simp) ?_
          refine (AllReady.cons rfl (fun K93 hK93 => ?_) AllReady.nil)
          · -- 2
            go_simp
            refine hK93 _ _ ?_
            refine wpAny_ready (rs := [3]) (by kernel_rfl) (by simp) ?_
            refine (AllReady.cons rfl (fun K94 hK94 => ?_) AllReady.nil)
            · -- 3
              refine step_append_lies _ rfl (.tmp 24) (.tmp 26) 31 rfl (w.heap.size + 6) 24 i0 _ 4 40 Try.underlying31 hi hz0 hz1 hz2 rfl (by decide) v _ _ rfl hrowA ⟨Wd.heap.size, 0, none⟩ 1 1 [.int .i64 xk, .int .i64 xn, .int .i64 xs, .string (Str xd)] rfl rfl (World.news_of_block hnewA) (by simp [Value.oneCell']) (by decide) (by unfold maxLen; omega) (by omega) hbaseA _ rfl ?_
              intro g cap w1 hown hgrow hat1 hlt1
              obtain ⟨hb2, hb4, _⟩ := RR.app (x := ((xk, xn, xs, xd), xu)) hRd hown hgrow
              have c2 := hb2.cell
              have f2 := hb2.frozen
              have c4 := hb4.cell
              have f4 := hb4.frozen
              simp only [Act.put, List.setIfInBounds_toArray, List.set_cons_zero, List.set_cons_succ]
              refine hK94 _ _ ?_
              refine wpAny_ready (rs := [7]) (by kernel_rfl) (by simp) ?_
              refine (AllReady.cons rfl (fun K95 hK95 => ?_) AllReady.nil)
              · -- 7
                go_simp
                refine hK95 _ _ ?_
                have c5 := (hb4.other (B' := w.heap.size + 1 + 1) (by omega) (.slice (some ⟨g, 0, none⟩) (pre.length + 1) cap)).cell
                have f5 := (hb4.other (B' := w.heap.size + 1 + 1) (by omega) (.slice (some ⟨g, 0, none⟩) (pre.length + 1) cap)).frozen
                refine wpAny_ready (rs := [8]) (by kernel_rfl) (by simp) ?_
                refine (AllReady.cons rfl (fun K96 hK96 => ?_) AllReady.nil)
                · -- 8
                  go_simp
                  refine hK96 _ _ ?_
                  exact wpAny_done (by kernel_rfl) (hleaf g cap w1 hown hgrow) _
      · -- 1
        go_simp
        refine hK91 _ _ ?_
        refine wpAny_ready (rs := [0, 2]) (by kernel_rfl) (by simp) ?_
        refine (AllReady.cons rfl (fun K97 hK97 => ?_) (AllReady.cons rfl (fun K98 hK98 => ?_) AllReady.nil))
        · -- 0
          go_simp
          refine hK97 _ _ ?_
          refine wpAny_ready (rs := [2]) (by kernel_rfl) (by simp) ?_
          refine (AllReady.cons rfl (fun K99 hK99 => ?_) AllReady.nil)
          · -- 2
            go_simp
            refine hK99 _ _ ?_
            refine wpAny_ready (rs := [3]) (by kernel_rfl) (by simp) ?_
            refine (AllReady.cons rfl (fun K100 hK100 => ?_) AllReady.nil)
            · -- 3
              refine step_append_lies _ rfl (.tmp 24) (.tmp 26) 31 rfl (w.heap.size + 6) 24 i0 _ 4 40 Try.underlying31 hi hz0 hz1 hz2 rfl (by decide) v _ _ rfl hrowA ⟨Wd.heap.size, 0, none⟩ 1 1 [.int .i64 xk, .int .i64 xn, .int .i64 xs, .string (Str xd)] rfl rfl (World.news_of_block hnewA) (by simp [Value.oneCell']) (by decide) (by unfold maxLen; omega) (by omega) hbaseA _ rfl ?_
              intro g cap w1 hown hgrow hat1 hlt1
              obtain ⟨hb2, hb4, _⟩ := RR.app (x := ((xk, xn, xs, xd), xu)) hRd hown hgrow
              have c2 := hb2.cell
              have f2 := hb2.frozen
              have c4 := hb4.cell
              have f4 := hb4.frozen
              simp only [Act.put, List.setIfInBounds_toArray, List.set_cons_zero, List.set_cons_succ]
              refine hK100 _ _ ?_
              refine wpAny_ready (rs := [7]) (by kernel_rfl) (by simp) ?_
              refine (AllReady.cons rfl (fun K101 hK101 => ?_) AllReady.nil)
              · -- 7
                go_simp
                refine hK101 _ _ ?_
                have c5 := (hb4.other (B' := w.heap.size + 1 + 1) (by omega) (.slice (some ⟨g, 0, none⟩) (pre.length + 1) cap)).cell
                have f5 := (hb4.other (B' := w.heap.size + 1 + 1) (by omega) (.slice (some ⟨g, 0, none⟩) (pre.length + 1) cap)).frozen
                refine wpAny_ready (rs := [8]) (by kernel_rfl) (by simp) ?_
                refine (AllReady.cons rfl (fun K102 hK102 => ?_) AllReady.nil)
                · -- 8
                  go_simp
                  refine hK102 _ _ ?_
                  exact wpAny_done (by kernel_rfl) (hleaf g cap w1 hown hgrow) _
        · -- 2
          go_simp
          refine hK98 _ _ ?_
          refine wpAny_ready (rs := [0]) (by kernel_rfl) (by simp) ?_
          refine (AllReady.cons rfl (fun K103 hK103 => ?_) AllReady.nil)
          · -- 0
            go_simp
            refine hK103 _ _ ?_
            refine wpAny_ready (rs := [3]) (by kernel_rfl) (by simp) ?_
            refine (AllReady.cons rfl (fun K104 hK104 => ?_) AllReady.nil)
            · -- 3
              refine step_append_lies _ rfl (.tmp 24) (.tmp 26) 31 rfl (w.heap.size + 6) 24 i0 _ 4 40 Try.underlying31 hi hz0 hz1 hz2 rfl (by decide) v _ _ rfl hrowA ⟨Wd.heap.size, 0, none⟩ 1 1 [.int .i64 xk, .int .i64 xn, .int .i64 xs, .string (Str xd)] rfl rfl (World.news_of_block hnewA) (by simp [Value.oneCell']) (by decide) (by unfold maxLen; omega) (by omega) hbaseA _ rfl ?_
              intro g cap w1 hown hgrow hat1 hlt1
              obtain ⟨hb2, hb4, _⟩ := RR.app (x := ((xk, xn, xs, xd), xu)) hRd hown hgrow
              have c2 := hb2.cell
              have f2 := hb2.frozen
              have c4 := hb4.cell
              have f4 := hb4.frozen
              simp only [Act.put, List.setIfInBounds_toArray, List.set_cons_zero, List.set_cons_succ]
              refine hK104 _ _ ?_
              refine wpAny_ready (rs := [7]) (by kernel_rfl) (by simp) ?_
              refine (AllReady.cons rfl (fun K105 hK105 => ?_) AllReady.nil)
              · -- 7
                go_simp
                refine hK105 _ _ ?_
                have c5 := (hb4.other (B' := w.heap.size + 1 + 1) (by omega) (.slice (some ⟨g, 0, none⟩) (pre.length + 1) cap)).cell
                have f5 := (hb4.other (B' := w.heap.size + 1 + 1) (by omega) (.slice (some ⟨g, 0, none⟩) (pre.length + 1) cap)).frozen
                refine wpAny_ready (rs := [8]) (by kernel_rfl) (by simp) ?_
                refine (AllReady.cons rfl (fun K106 hK106 => ?_) AllReady.nil)
                · -- 8
                  go_simp
                  refine hK106 _ _ ?_
                  exact wpAny_done (by kernel_rfl) (hleaf g cap w1 hown hgrow) _
  case done =>
    rintro D ys W hD rfl ⟨⟨v, hR⟩, hpl⟩ hK
    obtain ⟨p, cap, rfl⟩ : ∃ p cap, v = .slice p (rks l.length l).length cap := by
      rcases hR.row.2 with ⟨h1, h2⟩ | ⟨g, cap, cur, h1, _⟩
      · exact ⟨none, 0, by rw [h1, h2]⟩
      · exact ⟨_, _, h1⟩
    have q0 := hR.r0.cell
    have q0f := hR.r0.frozen
    have q1 := hR.r1.cell
    have q1f := hR.r1.frozen
    have q2 := hR.l.cell
    have q3 := hR.cnt.cell
    have q4 := hR.en.cell
    by_cases h1 : (rks l.length l).length = c.toNat
    · have h1' : (((rks l.length l).length : Int) == (c.toNat : Int)) = true := by rw [beq_iff_eq]; omega
      have h1n : (((rks l.length l).length : Int) != (c.toNat : Int)) = false := by simp only [bne, h1', Bool.not_true]
      by_cases h2 : eR (rks l.length l) = (l.length : Int) + 1
      · have h2' : (eR (rks l.length l) == (l.length : Int) + 1) = true := by rw [beq_iff_eq]; exact h2
        have h2n : (eR (rks l.length l) != (l.length : Int) + 1) = false := by simp only [bne, h2', Bool.not_true]
        have HN : Hid (rowIs c l = true) := by show _ = _; unfold rowIs; rw [h2', beq_iff_eq.2 h1]; rfl
        clear h1 h2
        gi_wp2
        refine ⟨by simp, .inl ⟨_, _, rfl, run_takeDeferred (((KeepsOthers.setCell W ⟨w.heap.size, 0, none⟩ (.slice p (rks l.length l).length cap)).trans (KeepsOthers.setCell _ ⟨w.heap.size + 1, 0, none⟩ (.bool true))).same D _ hK rfl), ?_⟩⟩
        have e0 := (hR.r0.set (.slice p (rks l.length l).length cap)).other (B' := w.heap.size + 1) (by omega) (.bool true)
        have e1 := (hR.r1.other (B' := w.heap.size) (by omega) (.slice p (rks l.length l).length cap)).set (.bool true)
        have eB := (hR.below.setCell (p := ⟨w.heap.size, 0, none⟩) (Nat.le_refl _) (.slice p (rks l.length l).length cap)).setCell (p := ⟨w.heap.size + 1, 0, none⟩) (by simp) (.bool true)
        have eR' := row_far (k := w.heap.size + 1) (u := .bool true) (row_far (k := w.heap.size) (u := .slice p (rks l.length l).length cap) hR.row (by omega)) (by omega)
        have eK := (((KeepsOthers.setCell W ⟨w.heap.size, 0, none⟩ (.slice p (rks l.length l).length cap)).trans (KeepsOthers.setCell _ ⟨w.heap.size + 1, 0, none⟩ (.bool true))).same D _ hK rfl)
        generalize (W.setCell ⟨w.heap.size, 0, none⟩ (.slice p (rks l.length l).length cap)).setCell ⟨w.heap.size + 1, 0, none⟩ (.bool true) = Wx at *
        have hD' : w.heap.size + 6 ≤ D := by omega
        have g0 := (e0.kept (grownBy_putObj' Wx D (.deferred none)) (fun e => by cases e; omega)).cell
        have g1 := (e1.kept (grownBy_putObj' Wx D (.deferred none)) (fun e => by cases e; omega)).cell
        have gB := eB.grown (grownBy_putObj' Wx D (.deferred none)) eB.size (fun j e => by cases e; omega)
        refine ⟨.tuple #[.slice p (rks l.length l).length cap, .bool true], by simp [results, Try.results21, go_sem, g0, g1], gB, .inr ⟨HN.out, _, rfl, (ownsRow_putObj eR' _ eK rfl).mono (by omega)⟩⟩
      · have h2' : (eR (rks l.length l) == (l.length : Int) + 1) = false := by rw [beq_eq_false_iff_ne]; exact h2
        have h2n : (eR (rks l.length l) != (l.length : Int) + 1) = true := by simp only [bne, h2', Bool.not_false]
        have HN : Hid (rowIs c l = false) := by show _ = _; unfold rowIs; rw [h2']; simp
        clear h1 h2
        gi_wp2
        refine ⟨by simp, .inl ⟨_, _, rfl, run_takeDeferred (((KeepsOthers.setCell W ⟨w.heap.size, 0, none⟩ (.slice none 0 0)).trans (KeepsOthers.setCell _ ⟨w.heap.size + 1, 0, none⟩ (.bool false))).same D _ hK rfl), ?_⟩⟩
        have e0 := (hR.r0.set (.slice none 0 0)).other (B' := w.heap.size + 1) (by omega) (.bool false)
        have e1 := (hR.r1.other (B' := w.heap.size) (by omega) (.slice none 0 0)).set (.bool false)
        have eB := (hR.below.setCell (p := ⟨w.heap.size, 0, none⟩) (Nat.le_refl _) (.slice none 0 0)).setCell (p := ⟨w.heap.size + 1, 0, none⟩) (by simp) (.bool false)
        have eK := (((KeepsOthers.setCell W ⟨w.heap.size, 0, none⟩ (.slice none 0 0)).trans (KeepsOthers.setCell _ ⟨w.heap.size + 1, 0, none⟩ (.bool false))).same D _ hK rfl)
        generalize (W.setCell ⟨w.heap.size, 0, none⟩ (.slice none 0 0)).setCell ⟨w.heap.size + 1, 0, none⟩ (.bool false) = Wx at *
        have hD' : w.heap.size + 6 ≤ D := by omega
        have g0 := (e0.kept (grownBy_putObj' Wx D (.deferred none)) (fun e => by cases e; omega)).cell
        have g1 := (e1.kept (grownBy_putObj' Wx D (.deferred none)) (fun e => by cases e; omega)).cell
        have gB := eB.grown (grownBy_putObj' Wx D (.deferred none)) eB.size (fun j e => by cases e; omega)
        refine ⟨.tuple #[.slice none 0 0, .bool false], by simp [results, Try.results21, go_sem, g0, g1], gB, .inl ⟨HN.out, rfl⟩⟩
    · have h1' : (((rks l.length l).length : Int) == (c.toNat : Int)) = false := by rw [beq_eq_false_iff_ne]; omega
      have HN : Hid (rowIs c l = false) := by show _ = _; unfold rowIs; rw [beq_eq_false_iff_ne.2 h1]; rfl
      clear h1
      gi_wp2
      refine ⟨by simp, .inl ⟨_, _, rfl, run_takeDeferred (((KeepsOthers.setCell W ⟨w.heap.size, 0, none⟩ (.slice none 0 0)).trans (KeepsOthers.setCell _ ⟨w.heap.size + 1, 0, none⟩ (.bool false))).same D _ hK rfl), ?_⟩⟩
      have e0 := (hR.r0.set (.slice none 0 0)).other (B' := w.heap.size + 1) (by omega) (.bool false)
      have e1 := (hR.r1.other (B' := w.heap.size) (by omega) (.slice none 0 0)).set (.bool false)
      have eB := (hR.below.setCell (p := ⟨w.heap.size, 0, none⟩) (Nat.le_refl _) (.slice none 0 0)).setCell (p := ⟨w.heap.size + 1, 0, none⟩) (by simp) (.bool false)
      have eK := (((KeepsOthers.setCell W ⟨w.heap.size, 0, none⟩ (.slice none 0 0)).trans (KeepsOthers.setCell _ ⟨w.heap.size + 1, 0, none⟩ (.bool false))).same D _ hK rfl)
      generalize (W.setCell ⟨w.heap.size, 0, none⟩ (.slice none 0 0)).setCell ⟨w.heap.size + 1, 0, none⟩ (.bool false) = Wx at *
      have hD' : w.heap.size + 6 ≤ D := by omega
      have g0 := (e0.kept (grownBy_putObj' Wx D (.deferred none)) (fun e => by cases e; omega)).cell
      have g1 := (e1.kept (grownBy_putObj' Wx D (.deferred none)) (fun e => by cases e; omega)).cell
      have gB := eB.grown (grownBy_putObj' Wx D (.deferred none)) eB.size (fun j e => by cases e; omega)
      refine ⟨.tuple #[.slice none 0 0, .bool false], by simp [results, Try.results21, go_sem, g0, g1], gB, .inl ⟨HN.out, rfl⟩⟩
  case stop =>
    rintro D cc pre W hD hpre ⟨rfl, hlt, b0, b1, hB⟩ hK
    have HN : Hid (rowIs c l = false) := by
      show _ = _
      unfold rowIs
      have := hpre.length_le
      rw [beq_eq_false_iff_ne.2 (by omega)]; rfl
    gi_wp2
    refine ⟨by simp, .inl ⟨_, _, rfl, run_takeDeferred hK, ?_⟩⟩
    have hD' : w.heap.size + 6 ≤ D := by omega
    have g0 := (b0.kept (grownBy_putObj' W D (.deferred none)) (fun e => by cases e; omega)).cell
    have g1 := (b1.kept (grownBy_putObj' W D (.deferred none)) (fun e => by cases e; omega)).cell
    have gB := hB.grown (grownBy_putObj' W D (.deferred none)) hB.size (fun j e => by cases e; omega)
    exact ⟨.tuple #[.slice none 0 0, .bool false], by simp [results, Try.results21, go_sem, g0, g1], gB, .inl ⟨HN.out, rfl⟩⟩
end Go.Proofs.Ytbpjejjbgdikdaa
