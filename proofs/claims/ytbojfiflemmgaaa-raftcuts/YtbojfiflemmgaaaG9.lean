/-
  Package raft's add.
-/
import Derived.Test.YtbojfiflemmgaaaG8
namespace Go.Proofs.Ytbojfiflemmgaaa
open Go.RowKit
set_option linter.unusedSimpArgs false
set_option linter.unusedVariables false

abbrev enA (t : Nat) (d : ByteArray) : Array Value := #[nI t, .string d]
/-- an entry put behind a log, at a step -/
theorem step_appE {ops : Array Oper} {o : Oper} {a : Act} {K : Act → World → Prop} {Q : Exit → Act → World → Prop} {E : Prop} (hgd : o.guard = none) (sl x : Operand)
    (ho : o.op = .call { callee := .builtin .append, args := #[sl, x], argTypes := #[29, 29] })
    (X : World) (t : Nat) (d : ByteArray) (v : Value) (l : List En) (hown : X.ownsRow 0 34 2 v l.length (enC l)) (hs : a.eval sl = v)
    (hx : a.eval x = .slice (some ⟨X.heap.size, 0, none⟩) 1 1) (hlen : l.length ≤ 1000000)
    (h : ∀ g cap w', w'.ownsRow 0 34 2 (.slice (some ⟨g, 0, none⟩) (l.length + 1) cap) (l ++ [(⟨t, d⟩ : En)]).length (enC (l ++ [(⟨t, d⟩ : En)])) → (X.alloc (.cells (enA t d) 34)).grownBy w' v.ownBlock → (v.ownBlock = some g ∨ g = X.heap.size + 1) → K (a.put o.dst (.slice (some ⟨g, 0, none⟩) (l.length + 1) cap)) w') :
    if Region.wanted o (yielded ops a.tmps) = true then Oper.wp Try.prog o a (X.alloc (.cells (enA t d) 34)) K Q else E := by
  obtain ⟨i0, hi, hz0, hz1, hz2⟩ := info_parts info_en
  refine step_append_lies _ hgd sl x 29 ho 0 34 i0 _ 2 24 Try.underlying29 hi hz0 hz1 hz2 rfl (by decide) v l.length (enC l) hs (hown.alloc _) ⟨X.heap.size, 0, none⟩ 1 1 [nI t, .string d] hx rfl (cells_new X (enA t d) 34) (by simp [Value.oneCell']) (by decide) (by unfold maxLen; omega) (by omega) (by simp) (X.heap.size + 1) (by simp) ?_
  intro g cap w1 hown1 hgrow1 hat1 _
  refine h g cap w1 ?_ hgrow1 hat1
  rw [enC_app, List.length_append, List.length_singleton]
  exact hown1
theorem Fit.add {n : Nd} {d : ByteArray} (f : Fit n) (hl : n.log.length < 500000) (hd : d.size ≤ 1048576) : Fit (addN n d) :=
  ⟨f.id, f.size, f.next, by show (n.mat.set _ _).length = _; rw [List.length_set]; exact f.mat, f.forms, by show (n.log ++ [_]).length ≤ _; simp; omega,
    fun e he => by
      rcases List.mem_append.1 (show e ∈ n.log ++ [⟨n.term, d⟩] from he) with h | h
      · exact f.small e h
      · obtain rfl := List.mem_singleton.1 h; exact hd,
    fun e he => by
      rcases List.mem_append.1 (show e ∈ n.log ++ [⟨n.term, d⟩] from he) with h | h
      · exact f.terms e h
      · obtain rfl := List.mem_singleton.1 h; exact f.term,
    f.term, by
      show (if n.size = 1 then n.last + 1 else n.commit) ≤ _
      have := f.commit
      split
      · show n.log.length + 1 ≤ _; omega
      · exact this, f.clock, f.due⟩
abbrev addL (n : Nd) (d : ByteArray) : Nd := { n with log := n.log ++ [⟨n.term, d⟩] }
abbrev addK (n : Nd) (d : ByteArray) : Nd := { addL n d with mat := n.mat.set n.id (n.log.length + 1) }
theorem addN_one {n : Nd} {d : ByteArray} (h : n.votes.length = 1) : addN n d = { addK n d with commit := n.log.length + 1 } := by unfold addN; rw [if_pos h]
theorem addN_more {n : Nd} {d : ByteArray} (h : n.votes.length ≠ 1) : addN n d = addK n d := by unfold addN; rw [if_neg h]
set_option maxRecDepth 100000 in
set_option maxHeartbeats 8000000 in
theorem add_tail {r0 rest : Code} (hc : Try.f35.body = some (.seq r0 rest)) (b : Nat) (q : Q5) (sv : Value) (n : Nd) (S : List (Ms × Value)) (d : ByteArray) (F0 : Nat → Prop) (W X : World) {u4 u5 u6 u7 u8 u9 u10 u11 u12 u13 u14 u15 u16 u17 u18 u19 u20 u21 u22 : Value} (h : St b q sv (addL n d) S X) (hK : Keep W X F0 (Foot b q sv)) (f : Fit n) (hnx : NextOk n) (hl : n.log.length < 500000) (hd : d.size ≤ 1048576) (hS : S.length ≤ 90000) :
    rest.wp Try.prog (bodyPost Try.prog Try.f35 fun e W' => (∃ v, e = .returned v) ∧ Done b (addN n d) S (spreadM (addN n d)) F0 W W') ⟨#[ptr b 0, .string d, undef, undef, u4, u5, u6, u7, u8, u9, u10, u11, u12, u13, u14, u15, u16, u17, u18, u19, u20, u21, u22, undef, undef, undef, undef, undef, undef, undef, undef, undef, undef, undef, undef, undef, undef, undef, undef, undef, undef, undef, undef, undef, undef, undef, undef, undef, undef, undef, undef], []⟩ X := by
  unfold Try.f35 at hc
  cases hc
  have hid := f.id
  have hml := f.mat
  have LA := hide (fun W h => last_any b q sv (addL n d) S W h)
  have hll : (addL n d).log.length = n.log.length + 1 := by simp
  rw [hll] at LA
  obtain ⟨g, cap, hv, hg, hcell, hfz⟩ := own_cells h.rows.mat (show 0 < n.mat.length by omega)
  have c9 := h.c9
  rw [hv] at c9
  have c0 := h.c0
  have cm := hcell n.id _ (inC_at n.mat n.id (by omega))
  have hgb : g ≠ b := fun e => h.nb (.inr (.inr (.inr (.inl (e ▸ ownB_of hv)))))
  have hbl := h.blk.lt
  have hi0 : (0 : Int) ≤ (n.id : Int) := by omega
  have hi1 : (n.id : Int) < (n.mat.length : Int) := by omega
  have H := hide h
  have hcast : nI (n.log.length + 1) = .int .i64 ((n.log.length : Int) + 1) := rfl
  obtain ⟨HM1, HM2⟩ := h.mat_set hv (show n.id < n.mat.length by omega) (x := n.log.length + 1)
  rw [hcast] at HM1 HM2
  have HM3 : St b q sv (addK n d) S (X.setCell ⟨g, n.id, none⟩ (.int .i64 ((n.log.length : Int) + 1))).drew := HM1.call (below_drew _)
  have HM4 : Keep X (X.setCell ⟨g, n.id, none⟩ (.int .i64 ((n.log.length : Int) + 1))).drew (Foot b q sv) (Foot b q sv) := HM2.trans (Keep.call _ (below_drew _))
  clear HM1 HM2 hcast
  have hml2 : (n.mat.set n.id (n.log.length + 1)).length = n.votes.length := by rw [List.length_set]; exact hml
  clear h hcell
  go_wp2
  go_region_held3 (fun w' => w'.cell? ⟨b, 9, none⟩ = some (.slice (some ⟨g, 0, none⟩) n.mat.length cap) ∧ w'.cell? ⟨b, 0, none⟩ = some (.int .i64 (n.id : Int))) (first | exact ⟨(World.cell?_setCell_far _ _ _ _ hgb).trans c9, (World.cell?_setCell_far _ _ _ _ hgb).trans c0⟩ | go_keep) ((go_at_call 52; refine (unhide LA _ ((unhide H).call (below_drew X))).mono ?_; rintro e w' ⟨rfl, rfl⟩))
  generalize (X.setCell ⟨g, n.id, none⟩ (.int .i64 ((n.log.length : Int) + 1))).drew = Y at HM3 HM4
  have hKY := hide (hK.trans HM4)
  have d9 := HM3.c9
  have d6 := HM3.c6
  have dfz := HM3.fz
  have dl := HM3.blk.lt
  rw [hv] at d9
  have LB := hide (fun W h => last_any b q sv (addK n d) S W h)
  have hll2 : (addK n d).log.length = n.log.length + 1 := by simp
  rw [hll2] at LB
  have HY := hide HM3
  have HFA := hide (f.add hl hd)
  have HNX : Hid (NextOk (addN n d)) := hnx
  clear HM3 HM4 c9 c0 cm LA hK f hnx hll hll2
  by_cases h1 : n.votes.length = 1
  · have hm1 : n.mat.length = 1 := by omega
    have hm2 : (n.mat.set n.id (n.log.length + 1)).length = 1 := by omega
    have HP := hide ((unhide HY).put { addK n d with commit := n.log.length + 1 } 6 (nI (n.log.length + 1)) rfl rfl rfl rfl rfl rfl)
    rw [addN_one h1] at HFA HNX
    go_wp2_with (first
      | (go_at_call 52; refine (unhide LB _ (unhide HY)).mono ?_; rintro e w' ⟨rfl, rfl⟩)
      | (go_at_call 60; refine (sendAll_any b q sv _ S _ (unhide HP) (unhide HFA) (unhide HNX) hS).mono ?_; rintro e W3 ⟨⟨v, rfl⟩, hs⟩))
    go_end0
    rw [addN_one h1]
    exact ⟨⟨_, rfl⟩, hs.done ((unhide hKY).trans (Keep.set (St.fb b q sv)))⟩
  · rw [addN_more h1] at HFA HNX
    have hm1 : ¬ n.mat.length = 1 := by omega
    have hm2 : ¬ (n.mat.set n.id (n.log.length + 1)).length = 1 := by omega
    go_wp2_with (first
      | (go_at_call 60; refine (sendAll_any b q sv _ S _ (unhide HY) (unhide HFA) (unhide HNX) hS).mono ?_; rintro e W3 ⟨⟨v, rfl⟩, hs⟩))
    go_end0
    rw [addN_more h1]
    exact ⟨⟨_, rfl⟩, hs.done (unhide hKY)⟩
end Go.Proofs.Ytbojfiflemmgaaa
