/-
  Package raft's put.
-/
import Derived.Test.YtbojfiflemmgaaaCS
import Derived.Test.YtbojfiflemmgaaaHC
namespace Go.Proofs.Ytbojfiflemmgaaa
open Go.RowKit
set_option linter.unusedSimpArgs false
set_option linter.unusedVariables false

theorem sees_one {e : En} {l : List En} {W : World} {v : Value} {m : Nat} (h : Sees 2 v m (enC (e :: l)) W) : ∃ g o cap, v = .slice (some ⟨g, o, none⟩) (l.length + 1) (cap + 1) ∧ m = l.length + 1 ∧ l.length ≤ cap ∧ g < W.heap.size ∧ W.cell? ⟨g, o, none⟩ = some (.int .i64 (e.term : Int)) ∧ Sees 2 (.slice (if cap = 0 then some ⟨g, o, none⟩ else some ⟨g, o + 2, none⟩) l.length cap) l.length (enC l) W := by
  obtain ⟨p, cap, rfl, h1, h2, h3, h4⟩ := h
  rw [enC_len, List.length_cons] at h3
  obtain rfl : m = l.length + 1 := by omega
  obtain ⟨g, o, rfl, hg, hc⟩ := h4.resolve_left (fun h => by omega)
  obtain ⟨cap, rfl⟩ : ∃ c, cap = c + 1 := ⟨cap - 1, by omega⟩
  refine ⟨g, o, cap, rfl, rfl, by omega, hg.lt, hc 0 _ rfl, _, _, rfl, by omega, by omega, enC_len l, .inr ?_⟩
  by_cases hz : cap = 0
  · rw [if_pos hz]
    obtain rfl := List.eq_nil_of_length_eq_zero (show l.length = 0 by omega)
    exact ⟨g, o, rfl, hg, fun j u hu => by simp [enC] at hu⟩
  rw [if_neg hz]
  refine ⟨g, o + 2, rfl, hg, fun j u hu => ?_⟩
  have := hc (j + 2) u hu
  rw [show o + 2 + j = o + (j + 2) by omega]
  exact this
theorem own_front {W : World} {v : Value} {l : List En} {g cap : Nat} {k : Nat} (h : W.ownsRow 0 34 2 v l.length (enC l)) (hv : v = .slice (some ⟨g, 0, none⟩) l.length cap) (hk : k ≤ l.length) : W.ownsRow 0 34 2 (.slice (some ⟨g, 0, none⟩) k cap) k (enC (l.take k)) := by
  subst hv
  obtain ⟨h1, h2⟩ := h
  refine ⟨by rw [enC_len, List.length_take]; omega, ?_⟩
  rcases h2 with ⟨h2, _⟩ | ⟨g', cap', cur, he, hb, hg, hn, hc, hs, ht⟩
  · cases h2
  · injection he with e1 e2 e3
    injection e1 with e1
    injection e1 with e1
    subst e1 e3
    refine .inr ⟨g, cap, cur, rfl, hb, hg, by omega, hc, hs, ?_⟩
    rw [← enC_take, ← ht, List.take_take, Nat.min_eq_left (by omega)]
theorem putM_nil (log : List En) (i : Nat) : putM log i [] = log := by unfold putM; rfl
theorem putM_same {log : List En} {i : Nat} {e : En} {l : List En} (h : i < log.length) (ht : (log[i]'h).term = e.term) : putM log i (e :: l) = putM log (i + 1) l := by
  rw [putM, if_pos ⟨h, by rw [termAt_at log (i + 1) (by omega) (by omega)]; exact ht⟩]
theorem putM_cut {log : List En} {i : Nat} {e : En} {l : List En} (h : ¬ (i < log.length ∧ termAt log (i + 1) = e.term)) : putM log i (e :: l) = log.take i ++ (e :: l) := by
  rw [putM, if_neg h]
theorem news_of {m cap g : Nat} {cs : List Value} {W : World} (h : Sees 2 (.slice (some ⟨g, 0, none⟩) m cap) m cs W) : ∀ j u, cs[j]? = some u → W.cell? ((⟨g, 0, none⟩ : Addr).add j) = some u := by
  intro j u hu
  obtain ⟨p, c, he, _, _, _, ⟨h4, _⟩ | ⟨g', o', h4, _, hc⟩⟩ := h
  · injection he with e1; rw [h4] at e1; cases e1
  · injection he with e1
    rw [h4] at e1
    injection e1 with e1
    injection e1 with e1 e2
    subst e1 e2
    have hadd : (⟨g, 0, none⟩ : Addr).add j = ⟨g, 0 + j, none⟩ := by unfold Addr.add; split <;> simp_all
    rw [hadd]
    exact hc j u hu
theorem enC_one (l : List En) : ∀ u ∈ enC l, u.oneCell' = true := by
  intro u hu
  obtain ⟨e, _, he⟩ := List.mem_flatMap.1 hu
  simp at he
  rcases he with rfl | rfl <;> rfl
set_option maxRecDepth 100000 in
set_option maxHeartbeats 8000000 in
theorem put_tail {c1 c2 rest : Code} (hc : Try.f70.body = some (.scope (.seq (.label 0) (.seq c1 (.seq c2 rest))))) (J : Nat → Act → World → Prop) (b : Nat) (q : Q5) (sv : Value) (n : Nd) (S : List (Ms × Value)) (i : Nat) (e : En) (l : List En) (g o cap : Nat) (F0 : Nat → Prop) (W X : World) (u : Nat → Value) (r : List En) (h : St b q sv n S X) (hK : Keep W X F0 (Foot b q sv)) (hsee : Sees 2 (.slice (some ⟨g, o, none⟩) (l.length + 1) (cap + 1)) (e :: l).length (enC (e :: l)) X)
    (hi : i ≤ n.log.length) (hl : n.log.length ≤ 500000) (hl0 : l.length < 400000) (hd : Small (e :: l)) (hput : r = n.log.take i ++ (e :: l)) :
    rest.wp Try.prog (Exit.jumps J (bodyPost Try.prog Try.f70 fun e W' => (∃ v, e = .returned v) ∧ ∃ q', St b q' sv { n with log := r } S W' ∧ Keep W W' F0 (Foot b q' sv))) ⟨#[ptr b 0, .int .i64 (i : Int), .slice (some ⟨g, o, none⟩) (l.length + 1) (cap + 1), undef, undef, undef, u 6, u 7, u 8, u 9, u 10, u 11, u 12, u 13, u 14, u 15, u 16, u 17, u 18, u 19, u 20, u 21, u 22, u 23, u 24, u 25, u 26, u 27, u 28, u 29, u 30, u 31, u 32, u 33, u 34, u 35, u 36, u 37, u 38, u 39, u 40, u 41, u 42, u 43, u 44, u 45, u 46], []⟩ X := by
  unfold Try.f70 at hc
  cases hc
  have H := hide h
  have c1 := h.c1
  have c3 := h.c3
  have fz := h.fz
  have hlt := h.blk.lt
  have HK := hide hK
  have HP := hide hput
  have hlen : r.length = i + (l.length + 1) := by rw [hput, List.length_append, List.length_take, Nat.min_eq_left hi]; rfl
  have HL := hide hlen
  have HFR := hide (fun Y (hb : Below X.heap.size X Y) => (fresh_any _ (e :: l) Y (hsee.below hb) (by simp; omega) hd))
  have FR := h.rows.log
  have hi0 : (0 : Int) ≤ (i : Int) := by omega
  clear hK hput hsee hd hlen
  rcases FR.2 with ⟨hv, h0⟩ | ⟨g2, cap2, cur, hv, _, hg2, hn2, hcm, _⟩
  · have hlv : q.lv.ownBlock = none := by rw [hv]; rfl
    obtain rfl : i = 0 := by omega
    rw [hv] at c3
    have hi1 : ((0 : Nat) : Int) ≤ 0 := by omega
    have HV := hide hv
    have HO := hide (show ∀ Y : World, Y.ownsRow 0 34 2 (.slice none 0 0) 0 (enC (n.log.take 0)) from fun Y => ⟨by simp [enC], .inl ⟨rfl, rfl⟩⟩)
    clear h hv FR h0
    obtain ⟨i0_, ii_, iz0_, iz1_, iz2_⟩ := info_parts info_en
    go_wp2
    rename_i QQ
    refine wp_region_noPanic ?_
    refine wp_region_held_drew (S := (fun w' => w'.cell? ⟨b, 1, none⟩ = some (.int .i64 (n.term : Int)))) (by kernel_rfl) ((c1 : X.drew.cell? _ = _)) (fun hHeld => ?_)
    refine wpAnyH_take (i := 0) (oi := ?oi20001) (v := ?v20001) ?hi20001 (by kernel_rfl) (by kernel_rfl) (by kernel_rfl) (fun _ _ _ h => h) (Or.inl ⟨?hw20001, ?hy20001⟩) (by assumption) ?rest20001
    case hi20001 => (simp only [List.getElem?_toArray, List.getElem?_cons_zero]; rfl)
    case hw20001 => rfl
    case hy20001 => first | (intro wx hSw; go_simp; done) | (intro wx hSw; go_simp; with_reducible rfl)
    simp only [Act.put, List.setIfInBounds_toArray, List.set_cons_zero, List.set_cons_succ]
    refine wpAnyH_take (i := 1) (oi := ?oi20002) (v := ?v20002) ?hi20002 (by kernel_rfl) (by kernel_rfl) (by kernel_rfl) (fun _ _ _ h => h) (Or.inl ⟨?hw20002, ?hy20002⟩) (by assumption) ?rest20002
    case hi20002 => (simp only [List.getElem?_toArray, List.getElem?_cons_zero, List.getElem?_cons_succ]; rfl)
    case hw20002 => rfl
    case hy20002 => first | (intro wx hSw; go_simp; done) | (intro wx hSw; go_simp; with_reducible rfl)
    simp only [Act.put, List.setIfInBounds_toArray, List.set_cons_zero, List.set_cons_succ]
    refine wpAnyH_take (i := 2) (oi := ?oi20003) (v := ?v20003) ?hi20003 (by kernel_rfl) (by kernel_rfl) (by kernel_rfl) (fun _ _ _ h => h) (Or.inl ⟨?hw20003, ?hy20003⟩) (by assumption) ?rest20003
    case hi20003 => (simp only [List.getElem?_toArray, List.getElem?_cons_zero, List.getElem?_cons_succ]; rfl)
    case hw20003 => rfl
    case hy20003 => first | (intro wx hSw; go_simp; done) | (intro wx hSw; go_simp; with_reducible rfl)
    simp only [Act.put, List.setIfInBounds_toArray, List.set_cons_zero, List.set_cons_succ]
    refine wpAnyH_take (i := 3) (oi := ?oi20004) (v := ?v20004) ?hi20004 (by kernel_rfl) (by kernel_rfl) (by kernel_rfl) (fun _ _ _ h => h) (Or.inl ⟨?hw20004, ?hy20004⟩) (by assumption) ?rest20004
    case hi20004 => (simp only [List.getElem?_toArray, List.getElem?_cons_zero, List.getElem?_cons_succ]; rfl)
    case hw20004 => rfl
    case hy20004 => first | (intro wx hSw; go_simp; done) | (intro wx hSw; go_simp; with_reducible rfl)
    simp only [Act.put, List.setIfInBounds_toArray, List.set_cons_zero, List.set_cons_succ]
    refine wpAnyH_take (i := 4) (oi := ?oi20005) (v := ?v20005) ?hi20005 (by kernel_rfl) (by kernel_rfl) (by kernel_rfl) (fun _ _ _ h => h) (Or.inl ⟨?hw20005, ?hy20005⟩) (by assumption) ?rest20005
    case hi20005 => (simp only [List.getElem?_toArray, List.getElem?_cons_zero, List.getElem?_cons_succ]; rfl)
    case hw20005 => rfl
    case hy20005 => first | (intro wx hSw; go_simp; done) | (intro wx hSw; go_simp; with_reducible rfl)
    simp only [Act.put, List.setIfInBounds_toArray, List.set_cons_zero, List.set_cons_succ]
    refine wpAnyH_take (i := 6) (oi := ?oi20006) (v := ?v20006) ?hi20006 (by kernel_rfl) (by kernel_rfl) (by kernel_rfl) (fun _ _ _ h => h) (Or.inl ⟨?hw20006, ?hy20006⟩) (by assumption) ?rest20006
    case hi20006 => (simp only [List.getElem?_toArray, List.getElem?_cons_zero, List.getElem?_cons_succ]; rfl)
    case hw20006 => rfl
    case hy20006 => first | (intro wx hSw; go_simp; done) | (intro wx hSw; go_simp; with_reducible rfl)
    simp only [Act.put, List.setIfInBounds_toArray, List.set_cons_zero, List.set_cons_succ]
    refine wpAnyH_take (i := 8) (oi := ?oi20007) (v := ?v20007) ?hi20007 (by kernel_rfl) (by kernel_rfl) (by kernel_rfl) (fun _ _ _ h => h) (Or.inl ⟨?hw20007, ?hy20007⟩) (by assumption) ?rest20007
    case hi20007 => (simp only [List.getElem?_toArray, List.getElem?_cons_zero, List.getElem?_cons_succ]; rfl)
    case hw20007 => rfl
    case hy20007 => first | (intro wx hSw; go_simp; done) | (intro wx hSw; go_simp; with_reducible rfl)
    simp only [Act.put, List.setIfInBounds_toArray, List.set_cons_zero, List.set_cons_succ]
    refine wpAnyH_ready (rs := [5, 9]) (by kernel_rfl) (by simp) ?_
    refine AllReadyH.cons rfl (fun K20008 hK20008 => ?_) ?_
    · go_simp
      refine hK20008.out _ _ ?hs20008 (fun hHeld20008 => ?_)
      case hs20008 => exact hHeld
      clear hHeld
      have hHeld := hHeld20008; clear hHeld20008 hK20008 K20008
      refine wpAnyH_take (i := 7) (oi := ?oi20009) (v := ?v20009) ?hi20009 (by kernel_rfl) (by kernel_rfl) (by kernel_rfl) (fun _ _ _ h => h) (Or.inl ⟨?hw20009, ?hy20009⟩) (by assumption) ?rest20009
      case hi20009 => (simp only [List.getElem?_toArray, List.getElem?_cons_zero, List.getElem?_cons_succ]; rfl)
      case hw20009 => rfl
      case hy20009 => first | (intro wx hSw; go_simp; done) | (intro wx hSw; go_simp; with_reducible rfl)
      simp only [Act.put, List.setIfInBounds_toArray, List.set_cons_zero, List.set_cons_succ]
      refine wpAnyH_ready (rs := [9]) (by kernel_rfl) (by simp) ?_
      refine AllReadyH.cons rfl (fun K20010 hK20010 => ?_) AllReadyH.nil
      go_simp
      go_wp2_with (go_at_call 33; go_loud (refine (unhide HFR _ (below_drew X)).mono ?_; rintro e0 W1 ⟨uv, rfl, hou, hun, hb1⟩; have HB1 := hide (Below.onto (below_drew X) hb1); have H1 := hide ((unhide H).call (unhide HB1)); have c1_ := (unhide H1).c1; have c3_ := (unhide H1).c3; rw [unhide HV] at c3_; have l_ := (unhide H1).blk.lt; obtain ⟨gu, cu, curu, rfl, ub, ug, un, uc, us, ut⟩ := hou.2.resolve_left (fun x => hun x.1); have HU := hide (Sees.of_own hou); clear hou hun))
      refine hK20010.out _ _ ?hs20010 (fun hHeld20010 => ?_)
      case hs20010 => exact c1_
      clear hHeld
      have hHeld := hHeld20010; clear hHeld20010 hK20010 K20010
      refine wpAnyH_ready (rs := [10]) (by kernel_rfl) (by simp) ?_
      refine AllReadyH.cons rfl (fun K20011 hK20011 => ?_) AllReadyH.nil
      refine step_append_lies W1 (by rfl) _ _ 29 (by rfl) 0 34 i0_ _ 2 24 Try.underlying29 ii_ iz0_ iz1_ iz2_ rfl (by decide) (.slice none 0 0) 0 (enC (n.log.take 0)) (by rfl) (unhide HO W1) ⟨gu, 0, none⟩ (l.length + 1) cu (enC (e :: l)) (by rfl) (by rw [enC_len]; rfl) (news_of (unhide HU)) (enC_one _) (by omega) (by unfold maxLen; omega) (by omega) (by omega) W1.heap.size rfl ?_; intro g3 cap3 w1 hown1 hgr1 hat1 hg3; rw [← enC_app] at hown1; have kb_ := (show Blk b (wkA n q sv) 58 w1 from (unhide H1).blk.gr hgr1 (fun x => by cases x)); have e1_ := kb_.cell 3; have e2_ := kb_.froz 3; have e3_ := kb_.lt; have e4_ := kb_.cell 1
      refine hK20011.out _ _ ?hs20011 (fun hHeld20011 => ?_)
      case hs20011 => exact e4_
      clear hHeld
      have hHeld := hHeld20011; clear hHeld20011 hK20011 K20011
      refine wpAnyH_take (i := 11) (oi := ?oi20012) (v := ?v20012) ?hi20012 (by kernel_rfl) (by kernel_rfl) (by kernel_rfl) (fun _ _ _ h => h) (Or.inl ⟨?hw20012, ?hy20012⟩) (by assumption) ?rest20012
      case hi20012 => (simp only [List.getElem?_toArray, List.getElem?_cons_zero, List.getElem?_cons_succ]; rfl)
      case hw20012 => rfl
      case hy20012 => first | (intro wx hSw; go_simp; done) | (intro wx hSw; go_simp; with_reducible rfl)
      simp only [Act.put, List.setIfInBounds_toArray, List.set_cons_zero, List.set_cons_succ]
      refine wpAnyH_take (i := 12) (oi := ?oi20013) (v := ?v20013) ?hi20013 (by kernel_rfl) (by kernel_rfl) (by kernel_rfl) (fun _ _ _ h => h) (Or.inl ⟨?hw20013, ?hy20013⟩) (by assumption) ?rest20013
      case hi20013 => (simp only [List.getElem?_toArray, List.getElem?_cons_zero, List.getElem?_cons_succ]; rfl)
      case hw20013 => rfl
      case hy20013 => first | (intro wx hSw; go_simp; done) | (intro wx hSw; go_simp; with_reducible rfl)
      simp only [Act.put, List.setIfInBounds_toArray, List.set_cons_zero, List.set_cons_succ]
      refine wpAnyH_take (i := 13) (oi := ?oi20014) (v := ?v20014) ?hi20014 (by kernel_rfl) (by kernel_rfl) (by kernel_rfl) (fun _ _ _ h => h) (Or.inl ⟨?hw20014, ?hy20014⟩) (by assumption) ?rest20014
      case hi20014 => (simp only [List.getElem?_toArray, List.getElem?_cons_zero, List.getElem?_cons_succ]; rfl)
      case hw20014 => rfl
      case hy20014 => first | (intro wx hSw; go_simp; done) | (intro wx hSw; go_simp; with_reducible rfl)
      simp only [Act.put, List.setIfInBounds_toArray, List.set_cons_zero, List.set_cons_succ]
      refine wpAnyH_ready (rs := [14]) (by kernel_rfl) (by simp) ?_
      refine AllReadyH.cons rfl (fun K20015 hK20015 => ?_) AllReadyH.nil
      go_simp
      refine hK20015.out _ _ ?hs20015 (fun hHeld20015 => ?_)
      case hs20015 => exact (World.cell?_setCell_other _ _ _ _ (by simp)).trans e4_
      clear hHeld
      have hHeld := hHeld20015; clear hHeld20015 hK20015 K20015
      refine wpAnyH_done (by kernel_rfl) ?_ _
      refine NoPanic.normal ?_
      have hro : w1.ownsRow 0 34 2 (.slice (some ⟨g3, 0, none⟩) (l.length + 1) cap3) r.length (enC r) := by rw [unhide HL, unhide HP]; rw [Nat.zero_add] at hown1 ⊢; exact hown1
      obtain ⟨L1, L2⟩ := (unhide H1).log_put (Below.refl _ W1) (by rw [hlv]; exact hgr1) hro (fun k hk => by
        simp [Value.ownBlock] at hk
        subst hk
        rcases hat1 with h1 | h1
        · exact .inl (hlv.trans h1)
        · exact .inr (by omega))
      simp only [QQ, Exit.jumps]
      go_end0
      exact ⟨⟨_, rfl⟩, _, L1, (unhide HK).trans ((Keep.call _ (unhide HB1)).trans L2)⟩
    refine AllReadyH.cons rfl (fun K20016 hK20016 => ?_) AllReadyH.nil
    go_simp
    go_wp2_with (go_at_call 33; go_loud (refine (unhide HFR _ (below_drew X)).mono ?_; rintro e0 W1 ⟨uv, rfl, hou, hun, hb1⟩; have HB1 := hide (Below.onto (below_drew X) hb1); have H1 := hide ((unhide H).call (unhide HB1)); have c1_ := (unhide H1).c1; have c3_ := (unhide H1).c3; rw [unhide HV] at c3_; have l_ := (unhide H1).blk.lt; obtain ⟨gu, cu, curu, rfl, ub, ug, un, uc, us, ut⟩ := hou.2.resolve_left (fun x => hun x.1); have HU := hide (Sees.of_own hou); clear hou hun))
    refine hK20016.out _ _ ?hs20016 (fun hHeld20016 => ?_)
    case hs20016 => exact c1_
    clear hHeld
    have hHeld := hHeld20016; clear hHeld20016 hK20016 K20016
    refine wpAnyH_ready (rs := [5]) (by kernel_rfl) (by simp) ?_
    refine AllReadyH.cons rfl (fun K20017 hK20017 => ?_) AllReadyH.nil
    go_simp
    refine hK20017.out _ _ ?hs20017 (fun hHeld20017 => ?_)
    case hs20017 => exact hHeld
    clear hHeld
    have hHeld := hHeld20017; clear hHeld20017 hK20017 K20017
    refine wpAnyH_take (i := 7) (oi := ?oi20018) (v := ?v20018) ?hi20018 (by kernel_rfl) (by kernel_rfl) (by kernel_rfl) (fun _ _ _ h => h) (Or.inl ⟨?hw20018, ?hy20018⟩) (by assumption) ?rest20018
    case hi20018 => (simp only [List.getElem?_toArray, List.getElem?_cons_zero, List.getElem?_cons_succ]; rfl)
    case hw20018 => rfl
    case hy20018 => first | (intro wx hSw; go_simp; done) | (intro wx hSw; go_simp; with_reducible rfl)
    simp only [Act.put, List.setIfInBounds_toArray, List.set_cons_zero, List.set_cons_succ]
    refine wpAnyH_ready (rs := [10]) (by kernel_rfl) (by simp) ?_
    refine AllReadyH.cons rfl (fun K20019 hK20019 => ?_) AllReadyH.nil
    refine step_append_lies W1 (by rfl) _ _ 29 (by rfl) 0 34 i0_ _ 2 24 Try.underlying29 ii_ iz0_ iz1_ iz2_ rfl (by decide) (.slice none 0 0) 0 (enC (n.log.take 0)) (by rfl) (unhide HO W1) ⟨gu, 0, none⟩ (l.length + 1) cu (enC (e :: l)) (by rfl) (by rw [enC_len]; rfl) (news_of (unhide HU)) (enC_one _) (by omega) (by unfold maxLen; omega) (by omega) (by omega) W1.heap.size rfl ?_; intro g3 cap3 w1 hown1 hgr1 hat1 hg3; rw [← enC_app] at hown1; have kb_ := (show Blk b (wkA n q sv) 58 w1 from (unhide H1).blk.gr hgr1 (fun x => by cases x)); have e1_ := kb_.cell 3; have e2_ := kb_.froz 3; have e3_ := kb_.lt; have e4_ := kb_.cell 1
    refine hK20019.out _ _ ?hs20019 (fun hHeld20019 => ?_)
    case hs20019 => exact e4_
    clear hHeld
    have hHeld := hHeld20019; clear hHeld20019 hK20019 K20019
    refine wpAnyH_take (i := 11) (oi := ?oi20020) (v := ?v20020) ?hi20020 (by kernel_rfl) (by kernel_rfl) (by kernel_rfl) (fun _ _ _ h => h) (Or.inl ⟨?hw20020, ?hy20020⟩) (by assumption) ?rest20020
    case hi20020 => (simp only [List.getElem?_toArray, List.getElem?_cons_zero, List.getElem?_cons_succ]; rfl)
    case hw20020 => rfl
    case hy20020 => first | (intro wx hSw; go_simp; done) | (intro wx hSw; go_simp; with_reducible rfl)
    simp only [Act.put, List.setIfInBounds_toArray, List.set_cons_zero, List.set_cons_succ]
    refine wpAnyH_take (i := 12) (oi := ?oi20021) (v := ?v20021) ?hi20021 (by kernel_rfl) (by kernel_rfl) (by kernel_rfl) (fun _ _ _ h => h) (Or.inl ⟨?hw20021, ?hy20021⟩) (by assumption) ?rest20021
    case hi20021 => (simp only [List.getElem?_toArray, List.getElem?_cons_zero, List.getElem?_cons_succ]; rfl)
    case hw20021 => rfl
    case hy20021 => first | (intro wx hSw; go_simp; done) | (intro wx hSw; go_simp; with_reducible rfl)
    simp only [Act.put, List.setIfInBounds_toArray, List.set_cons_zero, List.set_cons_succ]
    refine wpAnyH_take (i := 13) (oi := ?oi20022) (v := ?v20022) ?hi20022 (by kernel_rfl) (by kernel_rfl) (by kernel_rfl) (fun _ _ _ h => h) (Or.inl ⟨?hw20022, ?hy20022⟩) (by assumption) ?rest20022
    case hi20022 => (simp only [List.getElem?_toArray, List.getElem?_cons_zero, List.getElem?_cons_succ]; rfl)
    case hw20022 => rfl
    case hy20022 => first | (intro wx hSw; go_simp; done) | (intro wx hSw; go_simp; with_reducible rfl)
    simp only [Act.put, List.setIfInBounds_toArray, List.set_cons_zero, List.set_cons_succ]
    refine wpAnyH_ready (rs := [14]) (by kernel_rfl) (by simp) ?_
    refine AllReadyH.cons rfl (fun K20023 hK20023 => ?_) AllReadyH.nil
    go_simp
    refine hK20023.out _ _ ?hs20023 (fun hHeld20023 => ?_)
    case hs20023 => exact (World.cell?_setCell_other _ _ _ _ (by simp)).trans e4_
    clear hHeld
    have hHeld := hHeld20023; clear hHeld20023 hK20023 K20023
    refine wpAnyH_done (by kernel_rfl) ?_ _
    refine NoPanic.normal ?_
    have hro : w1.ownsRow 0 34 2 (.slice (some ⟨g3, 0, none⟩) (l.length + 1) cap3) r.length (enC r) := by rw [unhide HL, unhide HP]; rw [Nat.zero_add] at hown1 ⊢; exact hown1
    obtain ⟨L1, L2⟩ := (unhide H1).log_put (Below.refl _ W1) (by rw [hlv]; exact hgr1) hro (fun k hk => by
      simp [Value.ownBlock] at hk
      subst hk
      rcases hat1 with h1 | h1
      · exact .inl (hlv.trans h1)
      · exact .inr (by omega))
    simp only [QQ, Exit.jumps]
    go_end0
    exact ⟨⟨_, rfl⟩, _, L1, (unhide HK).trans ((Keep.call _ (unhide HB1)).trans L2)⟩
  · have HO := hide (own_front FR hv hi)
    have hlv : q.lv.ownBlock = some g2 := by rw [hv]; rfl
    rw [hv] at c3
    have hi1 : (i : Int) ≤ (cap2 : Int) := by omega
    have hi2 : i ≤ cap2 := by omega
    have HV := hide hv
    clear h hv FR hg2
    obtain ⟨i0_, ii_, iz0_, iz1_, iz2_⟩ := info_parts info_en
    go_wp2
    rename_i QQ
    refine wp_region_noPanic ?_
    refine wp_region_held_drew (S := (fun w' => w'.cell? ⟨b, 1, none⟩ = some (.int .i64 (n.term : Int)))) (by kernel_rfl) ((c1 : X.drew.cell? _ = _)) (fun hHeld => ?_)
    refine wpAnyH_take (i := 0) (oi := ?oi20024) (v := ?v20024) ?hi20024 (by kernel_rfl) (by kernel_rfl) (by kernel_rfl) (fun _ _ _ h => h) (Or.inl ⟨?hw20024, ?hy20024⟩) (by assumption) ?rest20024
    case hi20024 => (simp only [List.getElem?_toArray, List.getElem?_cons_zero]; rfl)
    case hw20024 => rfl
    case hy20024 => first | (intro wx hSw; go_simp; done) | (intro wx hSw; go_simp; with_reducible rfl)
    simp only [Act.put, List.setIfInBounds_toArray, List.set_cons_zero, List.set_cons_succ]
    refine wpAnyH_take (i := 1) (oi := ?oi20025) (v := ?v20025) ?hi20025 (by kernel_rfl) (by kernel_rfl) (by kernel_rfl) (fun _ _ _ h => h) (Or.inl ⟨?hw20025, ?hy20025⟩) (by assumption) ?rest20025
    case hi20025 => (simp only [List.getElem?_toArray, List.getElem?_cons_zero, List.getElem?_cons_succ]; rfl)
    case hw20025 => rfl
    case hy20025 => first | (intro wx hSw; go_simp; done) | (intro wx hSw; go_simp; with_reducible rfl)
    simp only [Act.put, List.setIfInBounds_toArray, List.set_cons_zero, List.set_cons_succ]
    refine wpAnyH_take (i := 2) (oi := ?oi20026) (v := ?v20026) ?hi20026 (by kernel_rfl) (by kernel_rfl) (by kernel_rfl) (fun _ _ _ h => h) (Or.inl ⟨?hw20026, ?hy20026⟩) (by assumption) ?rest20026
    case hi20026 => (simp only [List.getElem?_toArray, List.getElem?_cons_zero, List.getElem?_cons_succ]; rfl)
    case hw20026 => rfl
    case hy20026 => first | (intro wx hSw; go_simp; done) | (intro wx hSw; go_simp; with_reducible rfl)
    simp only [Act.put, List.setIfInBounds_toArray, List.set_cons_zero, List.set_cons_succ]
    refine wpAnyH_take (i := 3) (oi := ?oi20027) (v := ?v20027) ?hi20027 (by kernel_rfl) (by kernel_rfl) (by kernel_rfl) (fun _ _ _ h => h) (Or.inl ⟨?hw20027, ?hy20027⟩) (by assumption) ?rest20027
    case hi20027 => (simp only [List.getElem?_toArray, List.getElem?_cons_zero, List.getElem?_cons_succ]; rfl)
    case hw20027 => rfl
    case hy20027 => first | (intro wx hSw; go_simp; done) | (intro wx hSw; go_simp; with_reducible rfl)
    simp only [Act.put, List.setIfInBounds_toArray, List.set_cons_zero, List.set_cons_succ]
    refine wpAnyH_take (i := 4) (oi := ?oi20028) (v := ?v20028) ?hi20028 (by kernel_rfl) (by kernel_rfl) (by kernel_rfl) (fun _ _ _ h => h) (Or.inl ⟨?hw20028, ?hy20028⟩) (by assumption) ?rest20028
    case hi20028 => (simp only [List.getElem?_toArray, List.getElem?_cons_zero, List.getElem?_cons_succ]; rfl)
    case hw20028 => rfl
    case hy20028 => first | (intro wx hSw; go_simp; done) | (intro wx hSw; go_simp; with_reducible rfl)
    simp only [Act.put, List.setIfInBounds_toArray, List.set_cons_zero, List.set_cons_succ]
    refine wpAnyH_take (i := 6) (oi := ?oi20029) (v := ?v20029) ?hi20029 (by kernel_rfl) (by kernel_rfl) (by kernel_rfl) (fun _ _ _ h => h) (Or.inl ⟨?hw20029, ?hy20029⟩) (by assumption) ?rest20029
    case hi20029 => (simp only [List.getElem?_toArray, List.getElem?_cons_zero, List.getElem?_cons_succ]; rfl)
    case hw20029 => rfl
    case hy20029 => first | (intro wx hSw; go_simp; done) | (intro wx hSw; go_simp; with_reducible rfl)
    simp only [Act.put, List.setIfInBounds_toArray, List.set_cons_zero, List.set_cons_succ]
    refine wpAnyH_take (i := 8) (oi := ?oi20030) (v := ?v20030) ?hi20030 (by kernel_rfl) (by kernel_rfl) (by kernel_rfl) (fun _ _ _ h => h) (Or.inl ⟨?hw20030, ?hy20030⟩) (by assumption) ?rest20030
    case hi20030 => (simp only [List.getElem?_toArray, List.getElem?_cons_zero, List.getElem?_cons_succ]; rfl)
    case hw20030 => rfl
    case hy20030 => first | (intro wx hSw; go_simp; done) | (intro wx hSw; go_simp; with_reducible rfl)
    simp only [Act.put, List.setIfInBounds_toArray, List.set_cons_zero, List.set_cons_succ]
    refine wpAnyH_ready (rs := [5, 9]) (by kernel_rfl) (by simp) ?_
    refine AllReadyH.cons rfl (fun K20031 hK20031 => ?_) ?_
    · go_simp
      refine hK20031.out _ _ ?hs20031 (fun hHeld20031 => ?_)
      case hs20031 => exact hHeld
      clear hHeld
      have hHeld := hHeld20031; clear hHeld20031 hK20031 K20031
      refine wpAnyH_take (i := 7) (oi := ?oi20032) (v := ?v20032) ?hi20032 (by kernel_rfl) (by kernel_rfl) (by kernel_rfl) (fun _ _ _ h => h) (Or.inl ⟨?hw20032, ?hy20032⟩) (by assumption) ?rest20032
      case hi20032 => (simp only [List.getElem?_toArray, List.getElem?_cons_zero, List.getElem?_cons_succ]; rfl)
      case hw20032 => rfl
      case hy20032 => first | (intro wx hSw; go_simp; done) | (intro wx hSw; go_simp; with_reducible rfl)
      simp only [Act.put, List.setIfInBounds_toArray, List.set_cons_zero, List.set_cons_succ]
      refine wpAnyH_ready (rs := [9]) (by kernel_rfl) (by simp) ?_
      refine AllReadyH.cons rfl (fun K20033 hK20033 => ?_) AllReadyH.nil
      go_simp
      go_wp2_with (go_at_call 33; go_loud (refine (unhide HFR _ (below_drew X)).mono ?_; rintro e0 W1 ⟨uv, rfl, hou, hun, hb1⟩; have HB1 := hide (Below.onto (below_drew X) hb1); have H1 := hide ((unhide H).call (unhide HB1)); have c1_ := (unhide H1).c1; have c3_ := (unhide H1).c3; rw [unhide HV] at c3_; have l_ := (unhide H1).blk.lt; obtain ⟨gu, cu, curu, rfl, ub, ug, un, uc, us, ut⟩ := hou.2.resolve_left (fun x => hun x.1); have HU := hide (Sees.of_own hou); clear hou hun))
      refine hK20033.out _ _ ?hs20033 (fun hHeld20033 => ?_)
      case hs20033 => exact c1_
      clear hHeld
      have hHeld := hHeld20033; clear hHeld20033 hK20033 K20033
      refine wpAnyH_ready (rs := [10]) (by kernel_rfl) (by simp) ?_
      refine AllReadyH.cons rfl (fun K20034 hK20034 => ?_) AllReadyH.nil
      refine step_append_lies W1 (by rfl) _ _ 29 (by rfl) 0 34 i0_ _ 2 24 Try.underlying29 ii_ iz0_ iz1_ iz2_ rfl (by decide) (.slice (some ⟨g2, 0, none⟩) i cap2) i (enC (n.log.take i)) (by rfl) (own_below (unhide HO) (unhide HB1)) ⟨gu, 0, none⟩ (l.length + 1) cu (enC (e :: l)) (by rfl) (by rw [enC_len]; rfl) (news_of (unhide HU)) (enC_one _) (by omega) (by unfold maxLen; omega) (by omega) (by omega) W1.heap.size rfl ?_; intro g3 cap3 w1 hown1 hgr1 hat1 hg3; rw [← enC_app] at hown1; have kb_ := (show Blk b (wkA n q sv) 58 w1 from (unhide H1).blk.gr hgr1 (fun x => (unhide H1).nb (.inl (hlv.trans x)))); have e1_ := kb_.cell 3; have e2_ := kb_.froz 3; have e3_ := kb_.lt; have e4_ := kb_.cell 1
      refine hK20034.out _ _ ?hs20034 (fun hHeld20034 => ?_)
      case hs20034 => exact e4_
      clear hHeld
      have hHeld := hHeld20034; clear hHeld20034 hK20034 K20034
      refine wpAnyH_take (i := 11) (oi := ?oi20035) (v := ?v20035) ?hi20035 (by kernel_rfl) (by kernel_rfl) (by kernel_rfl) (fun _ _ _ h => h) (Or.inl ⟨?hw20035, ?hy20035⟩) (by assumption) ?rest20035
      case hi20035 => (simp only [List.getElem?_toArray, List.getElem?_cons_zero, List.getElem?_cons_succ]; rfl)
      case hw20035 => rfl
      case hy20035 => first | (intro wx hSw; go_simp; done) | (intro wx hSw; go_simp; with_reducible rfl)
      simp only [Act.put, List.setIfInBounds_toArray, List.set_cons_zero, List.set_cons_succ]
      refine wpAnyH_take (i := 12) (oi := ?oi20036) (v := ?v20036) ?hi20036 (by kernel_rfl) (by kernel_rfl) (by kernel_rfl) (fun _ _ _ h => h) (Or.inl ⟨?hw20036, ?hy20036⟩) (by assumption) ?rest20036
      case hi20036 => (simp only [List.getElem?_toArray, List.getElem?_cons_zero, List.getElem?_cons_succ]; rfl)
      case hw20036 => rfl
      case hy20036 => first | (intro wx hSw; go_simp; done) | (intro wx hSw; go_simp; with_reducible rfl)
      simp only [Act.put, List.setIfInBounds_toArray, List.set_cons_zero, List.set_cons_succ]
      refine wpAnyH_take (i := 13) (oi := ?oi20037) (v := ?v20037) ?hi20037 (by kernel_rfl) (by kernel_rfl) (by kernel_rfl) (fun _ _ _ h => h) (Or.inl ⟨?hw20037, ?hy20037⟩) (by assumption) ?rest20037
      case hi20037 => (simp only [List.getElem?_toArray, List.getElem?_cons_zero, List.getElem?_cons_succ]; rfl)
      case hw20037 => rfl
      case hy20037 => first | (intro wx hSw; go_simp; done) | (intro wx hSw; go_simp; with_reducible rfl)
      simp only [Act.put, List.setIfInBounds_toArray, List.set_cons_zero, List.set_cons_succ]
      refine wpAnyH_ready (rs := [14]) (by kernel_rfl) (by simp) ?_
      refine AllReadyH.cons rfl (fun K20038 hK20038 => ?_) AllReadyH.nil
      go_simp
      refine hK20038.out _ _ ?hs20038 (fun hHeld20038 => ?_)
      case hs20038 => exact (World.cell?_setCell_other _ _ _ _ (by simp)).trans e4_
      clear hHeld
      have hHeld := hHeld20038; clear hHeld20038 hK20038 K20038
      refine wpAnyH_done (by kernel_rfl) ?_ _
      refine NoPanic.normal ?_
      have hro : w1.ownsRow 0 34 2 (.slice (some ⟨g3, 0, none⟩) (i + (l.length + 1)) cap3) r.length (enC r) := by rw [unhide HL, unhide HP]; exact hown1
      obtain ⟨L1, L2⟩ := (unhide H1).log_put (Below.refl _ W1) (by rw [hlv]; exact hgr1) hro (fun k hk => by
        simp [Value.ownBlock] at hk
        subst hk
        rcases hat1 with h1 | h1
        · exact .inl (hlv.trans h1)
        · exact .inr (by omega))
      simp only [QQ, Exit.jumps]
      go_end0
      exact ⟨⟨_, rfl⟩, _, L1, (unhide HK).trans ((Keep.call _ (unhide HB1)).trans L2)⟩
    refine AllReadyH.cons rfl (fun K20039 hK20039 => ?_) AllReadyH.nil
    go_simp
    go_wp2_with (go_at_call 33; go_loud (refine (unhide HFR _ (below_drew X)).mono ?_; rintro e0 W1 ⟨uv, rfl, hou, hun, hb1⟩; have HB1 := hide (Below.onto (below_drew X) hb1); have H1 := hide ((unhide H).call (unhide HB1)); have c1_ := (unhide H1).c1; have c3_ := (unhide H1).c3; rw [unhide HV] at c3_; have l_ := (unhide H1).blk.lt; obtain ⟨gu, cu, curu, rfl, ub, ug, un, uc, us, ut⟩ := hou.2.resolve_left (fun x => hun x.1); have HU := hide (Sees.of_own hou); clear hou hun))
    refine hK20039.out _ _ ?hs20039 (fun hHeld20039 => ?_)
    case hs20039 => exact c1_
    clear hHeld
    have hHeld := hHeld20039; clear hHeld20039 hK20039 K20039
    refine wpAnyH_ready (rs := [5]) (by kernel_rfl) (by simp) ?_
    refine AllReadyH.cons rfl (fun K20040 hK20040 => ?_) AllReadyH.nil
    go_simp
    refine hK20040.out _ _ ?hs20040 (fun hHeld20040 => ?_)
    case hs20040 => exact hHeld
    clear hHeld
    have hHeld := hHeld20040; clear hHeld20040 hK20040 K20040
    refine wpAnyH_take (i := 7) (oi := ?oi20041) (v := ?v20041) ?hi20041 (by kernel_rfl) (by kernel_rfl) (by kernel_rfl) (fun _ _ _ h => h) (Or.inl ⟨?hw20041, ?hy20041⟩) (by assumption) ?rest20041
    case hi20041 => (simp only [List.getElem?_toArray, List.getElem?_cons_zero, List.getElem?_cons_succ]; rfl)
    case hw20041 => rfl
    case hy20041 => first | (intro wx hSw; go_simp; done) | (intro wx hSw; go_simp; with_reducible rfl)
    simp only [Act.put, List.setIfInBounds_toArray, List.set_cons_zero, List.set_cons_succ]
    refine wpAnyH_ready (rs := [10]) (by kernel_rfl) (by simp) ?_
    refine AllReadyH.cons rfl (fun K20042 hK20042 => ?_) AllReadyH.nil
    refine step_append_lies W1 (by rfl) _ _ 29 (by rfl) 0 34 i0_ _ 2 24 Try.underlying29 ii_ iz0_ iz1_ iz2_ rfl (by decide) (.slice (some ⟨g2, 0, none⟩) i cap2) i (enC (n.log.take i)) (by rfl) (own_below (unhide HO) (unhide HB1)) ⟨gu, 0, none⟩ (l.length + 1) cu (enC (e :: l)) (by rfl) (by rw [enC_len]; rfl) (news_of (unhide HU)) (enC_one _) (by omega) (by unfold maxLen; omega) (by omega) (by omega) W1.heap.size rfl ?_; intro g3 cap3 w1 hown1 hgr1 hat1 hg3; rw [← enC_app] at hown1; have kb_ := (show Blk b (wkA n q sv) 58 w1 from (unhide H1).blk.gr hgr1 (fun x => (unhide H1).nb (.inl (hlv.trans x)))); have e1_ := kb_.cell 3; have e2_ := kb_.froz 3; have e3_ := kb_.lt; have e4_ := kb_.cell 1
    refine hK20042.out _ _ ?hs20042 (fun hHeld20042 => ?_)
    case hs20042 => exact e4_
    clear hHeld
    have hHeld := hHeld20042; clear hHeld20042 hK20042 K20042
    refine wpAnyH_take (i := 11) (oi := ?oi20043) (v := ?v20043) ?hi20043 (by kernel_rfl) (by kernel_rfl) (by kernel_rfl) (fun _ _ _ h => h) (Or.inl ⟨?hw20043, ?hy20043⟩) (by assumption) ?rest20043
    case hi20043 => (simp only [List.getElem?_toArray, List.getElem?_cons_zero, List.getElem?_cons_succ]; rfl)
    case hw20043 => rfl
    case hy20043 => first | (intro wx hSw; go_simp; done) | (intro wx hSw; go_simp; with_reducible rfl)
    simp only [Act.put, List.setIfInBounds_toArray, List.set_cons_zero, List.set_cons_succ]
    refine wpAnyH_take (i := 12) (oi := ?oi20044) (v := ?v20044) ?hi20044 (by kernel_rfl) (by kernel_rfl) (by kernel_rfl) (fun _ _ _ h => h) (Or.inl ⟨?hw20044, ?hy20044⟩) (by assumption) ?rest20044
    case hi20044 => (simp only [List.getElem?_toArray, List.getElem?_cons_zero, List.getElem?_cons_succ]; rfl)
    case hw20044 => rfl
    case hy20044 => first | (intro wx hSw; go_simp; done) | (intro wx hSw; go_simp; with_reducible rfl)
    simp only [Act.put, List.setIfInBounds_toArray, List.set_cons_zero, List.set_cons_succ]
    refine wpAnyH_take (i := 13) (oi := ?oi20045) (v := ?v20045) ?hi20045 (by kernel_rfl) (by kernel_rfl) (by kernel_rfl) (fun _ _ _ h => h) (Or.inl ⟨?hw20045, ?hy20045⟩) (by assumption) ?rest20045
    case hi20045 => (simp only [List.getElem?_toArray, List.getElem?_cons_zero, List.getElem?_cons_succ]; rfl)
    case hw20045 => rfl
    case hy20045 => first | (intro wx hSw; go_simp; done) | (intro wx hSw; go_simp; with_reducible rfl)
    simp only [Act.put, List.setIfInBounds_toArray, List.set_cons_zero, List.set_cons_succ]
    refine wpAnyH_ready (rs := [14]) (by kernel_rfl) (by simp) ?_
    refine AllReadyH.cons rfl (fun K20046 hK20046 => ?_) AllReadyH.nil
    go_simp
    refine hK20046.out _ _ ?hs20046 (fun hHeld20046 => ?_)
    case hs20046 => exact (World.cell?_setCell_other _ _ _ _ (by simp)).trans e4_
    clear hHeld
    have hHeld := hHeld20046; clear hHeld20046 hK20046 K20046
    refine wpAnyH_done (by kernel_rfl) ?_ _
    refine NoPanic.normal ?_
    have hro : w1.ownsRow 0 34 2 (.slice (some ⟨g3, 0, none⟩) (i + (l.length + 1)) cap3) r.length (enC r) := by rw [unhide HL, unhide HP]; exact hown1
    obtain ⟨L1, L2⟩ := (unhide H1).log_put (Below.refl _ W1) (by rw [hlv]; exact hgr1) hro (fun k hk => by
      simp [Value.ownBlock] at hk
      subst hk
      rcases hat1 with h1 | h1
      · exact .inl (hlv.trans h1)
      · exact .inr (by omega))
    simp only [QQ, Exit.jumps]
    go_end0
    exact ⟨⟨_, rfl⟩, _, L1, (unhide HK).trans ((Keep.call _ (unhide HB1)).trans L2)⟩
theorem put_tail' {c1 c2 rest : Code} (hc : Try.f70.body = some (.scope (.seq (.label 0) (.seq c1 (.seq c2 rest))))) (J : Nat → Act → World → Prop) (b : Nat) (q : Q5) (sv : Value) (n : Nd) (S : List (Ms × Value)) (i : Nat) (e : En) (l : List En) (g o cap : Nat) (F0 : Nat → Prop) (W X : World) (a : Act) (r : List En)
    (ha : a = ⟨#[ptr b 0, .int .i64 (i : Int), .slice (some ⟨g, o, none⟩) (l.length + 1) (cap + 1), undef, undef, undef, a.tmps.getD 6 undef, a.tmps.getD 7 undef, a.tmps.getD 8 undef, a.tmps.getD 9 undef, a.tmps.getD 10 undef, a.tmps.getD 11 undef, a.tmps.getD 12 undef, a.tmps.getD 13 undef, a.tmps.getD 14 undef, a.tmps.getD 15 undef, a.tmps.getD 16 undef, a.tmps.getD 17 undef, a.tmps.getD 18 undef, a.tmps.getD 19 undef, a.tmps.getD 20 undef, a.tmps.getD 21 undef, a.tmps.getD 22 undef, a.tmps.getD 23 undef, a.tmps.getD 24 undef, a.tmps.getD 25 undef, a.tmps.getD 26 undef, a.tmps.getD 27 undef, a.tmps.getD 28 undef, a.tmps.getD 29 undef, a.tmps.getD 30 undef, a.tmps.getD 31 undef, a.tmps.getD 32 undef, a.tmps.getD 33 undef, a.tmps.getD 34 undef, a.tmps.getD 35 undef, a.tmps.getD 36 undef, a.tmps.getD 37 undef, a.tmps.getD 38 undef, a.tmps.getD 39 undef, a.tmps.getD 40 undef, a.tmps.getD 41 undef, a.tmps.getD 42 undef, a.tmps.getD 43 undef, a.tmps.getD 44 undef, a.tmps.getD 45 undef, a.tmps.getD 46 undef], []⟩) (h : St b q sv n S X) (hK : Keep W X F0 (Foot b q sv)) (hsee : Sees 2 (.slice (some ⟨g, o, none⟩) (l.length + 1) (cap + 1)) (e :: l).length (enC (e :: l)) X)
    (hi : i ≤ n.log.length) (hl : n.log.length ≤ 500000) (hl0 : l.length < 400000) (hd : Small (e :: l)) (hput : r = n.log.take i ++ (e :: l)) :
    rest.wp Try.prog (Exit.jumps J (bodyPost Try.prog Try.f70 fun e W' => (∃ v, e = .returned v) ∧ ∃ q', St b q' sv { n with log := r } S W' ∧ Keep W W' F0 (Foot b q' sv))) a X := by
  rw [ha]
  exact put_tail hc J b q sv n S i e l g o cap F0 W X (fun i => a.tmps.getD i undef) r h hK hsee hi hl hl0 hd hput
/-- at put's label -/
def JPut (b : Nat) (q : Q5) (sv : Value) (n : Nd) (S : List (Ms × Value)) (i0 : Nat) (l0 : List En) (W : World) (lb m : Nat) (a : Act) (wr : World) : Prop :=
  lb = 0 ∧ ∃ (i : Nat) (l : List En) (v : Value) (u : Nat → Value), a = ⟨#[ptr b 0, .int .i64 (i : Int), v, undef, undef, undef, u 6, u 7, u 8, u 9, u 10, u 11, u 12, u 13, u 14, u 15, u 16, u 17, u 18, u 19, u 20, u 21, u 22, u 23, u 24, u 25, u 26, u 27, u 28, u 29, u 30, u 31, u 32, u 33, u 34, u 35, u 36, u 37, u 38, u 39, u 40, u 41, u 42, u 43, u 44, u 45, u 46], []⟩ ∧ m = l.length ∧
    Hid (St b q sv n S wr) ∧ Hid (Sees 2 v l.length (enC l) wr) ∧ Hid (∀ k, v.ownBlock = some k → ¬ Foot b q sv k) ∧ i ≤ n.log.length ∧ l.length ≤ l0.length ∧ Hid (∀ e ∈ l, e ∈ l0) ∧ Hid (putM n.log i l = putM n.log i0 l0) ∧ Hid (Below W.heap.size W wr)
theorem JPut.intro {b : Nat} {q : Q5} {sv : Value} {n : Nd} {S : List (Ms × Value)} {i0 : Nat} {l0 : List En} {W : World} {lb m : Nat} {wr : World} (a : Act) (i : Nat) (l : List En) (v : Value) (hl : lb = 0)
    (ha : a = ⟨#[ptr b 0, .int .i64 (i : Int), v, undef, undef, undef, a.tmps.getD 6 undef, a.tmps.getD 7 undef, a.tmps.getD 8 undef, a.tmps.getD 9 undef, a.tmps.getD 10 undef, a.tmps.getD 11 undef, a.tmps.getD 12 undef, a.tmps.getD 13 undef, a.tmps.getD 14 undef, a.tmps.getD 15 undef, a.tmps.getD 16 undef, a.tmps.getD 17 undef, a.tmps.getD 18 undef, a.tmps.getD 19 undef, a.tmps.getD 20 undef, a.tmps.getD 21 undef, a.tmps.getD 22 undef, a.tmps.getD 23 undef, a.tmps.getD 24 undef, a.tmps.getD 25 undef, a.tmps.getD 26 undef, a.tmps.getD 27 undef, a.tmps.getD 28 undef, a.tmps.getD 29 undef, a.tmps.getD 30 undef, a.tmps.getD 31 undef, a.tmps.getD 32 undef, a.tmps.getD 33 undef, a.tmps.getD 34 undef, a.tmps.getD 35 undef, a.tmps.getD 36 undef, a.tmps.getD 37 undef, a.tmps.getD 38 undef, a.tmps.getD 39 undef, a.tmps.getD 40 undef, a.tmps.getD 41 undef, a.tmps.getD 42 undef, a.tmps.getD 43 undef, a.tmps.getD 44 undef, a.tmps.getD 45 undef, a.tmps.getD 46 undef], []⟩) (hm : m = l.length)
    (h1 : St b q sv n S wr) (h2 : Sees 2 v l.length (enC l) wr) (h3 : ∀ k, v.ownBlock = some k → ¬ Foot b q sv k) (h4 : i ≤ n.log.length) (h5 : l.length ≤ l0.length) (h6 : ∀ e ∈ l, e ∈ l0) (h7 : putM n.log i l = putM n.log i0 l0) (h8 : Below W.heap.size W wr) : JPut b q sv n S i0 l0 W lb m a wr :=
  ⟨hl, i, l, v, (fun i => a.tmps.getD i undef), ha, hm, hide h1, hide h2, hide h3, h4, h5, hide h6, hide h7, hide h8⟩
set_option maxRecDepth 100000 in
set_option maxHeartbeats 8000000 in
theorem put_any (b : Nat) (q : Q5) (sv : Value) (n : Nd) (S : List (Ms × Value)) (i0 : Nat) (l0 : List En) (v0 : Value) (W : World) (h : St b q sv n S W) (hs : Sees 2 v0 l0.length (enC l0) W) (hf : ∀ k, v0.ownBlock = some k → ¬ Foot b q sv k) (hi : i0 ≤ n.log.length) (hl : n.log.length ≤ 500000) (hl0 : l0.length ≤ 400000) (hd : Small l0) :
    Calls Try.prog 70 #[ptr b 0, .int .i64 (i0 : Int), v0] W fun e W' => (∃ v, e = .returned v) ∧ ∃ q', St b q' sv { n with log := putM n.log i0 l0 } S W' ∧ Keep W W' (Foot b q sv) (Foot b q' sv) := by
  have LA := hide (fun W h => last_any b q sv n S W h)
  have H := hide h
  have HS0 := hide hs
  have HF0 := hide hf
  have HD := hide hd
  clear h hs hf hd
  go_enter Try.func70, Try.ntmps70
  refine wp_scope_fall (JPut b q sv n S i0 l0 W) ?first ?pass
  case first =>
    intro fall
    refine wp_seq (wp_label ?_)
    refine fall 0 l0.length _ _ (JPut.intro ⟨#[ptr b 0, .int .i64 (i0 : Int), v0, undef, undef, undef, undef, undef, undef, undef, undef, undef, undef, undef, undef, undef, undef, undef, undef, undef, undef, undef, undef, undef, undef, undef, undef, undef, undef, undef, undef, undef, undef, undef, undef, undef, undef, undef, undef, undef, undef, undef, undef, undef, undef, undef, undef], []⟩ i0 l0 v0 rfl rfl rfl (unhide H) (unhide HS0) (unhide HF0) hi (Nat.le_refl _) (fun e h => h) rfl (Below.refl _ _)) _ (by kernel_rfl)
  case pass =>
    intro lb m a wr fall hJ
    clear fall
    obtain ⟨rfl, i, l, v, u, rfl, rfl, hst, hsee, hfr, hil, hsum, hmem, hput, hbel⟩ := hJ
    clear H HS0 HF0
    refine ⟨_, rfl, ?_⟩
    cases l with
    | nil =>
      obtain ⟨p, cap, hv, _⟩ := unhide hsee
      simp only [List.length_nil] at hv
      subst hv
      go_wp2
      simp only [Exit.jumps]
      refine bodyPost_ret (results_none rfl _ _ _) rfl ?_
      refine ⟨⟨_, rfl⟩, q, ?_, Keep.call _ (unhide hbel)⟩
      rw [← unhide hput, putM_nil]
      exact unhide hst
    | cons e l =>
      obtain ⟨g, o, cap, rfl, _, hcap, hgl, hc0, htail⟩ := sees_one (unhide hsee)
      have HT := hide htail
      have c3 := (unhide hst).c3
      have hbl := (unhide hst).blk.lt
      have hll : ((l.length + 1 : Nat) : Int) ≠ 0 := by omega
      by_cases hlt : i < n.log.length
      · obtain ⟨g2, o2, cap2, hv2, d0, _⟩ := sees_en (Sees.of_own (unhide hst).rows.log) i hlt
        rw [hv2] at c3
        have HV2 := hide hv2
        clear hv2 htail
        have hlt1 : (i : Int) < (n.log.length : Int) := by omega
        have hlt2 : decide ((i : Int) < (n.log.length : Int)) = true := decide_eq_true hlt1
        by_cases ht : (n.log[i]'hlt).term = e.term
        · have ht2 : (((n.log[i]'hlt).term : Int) == (e.term : Int)) = true := by rw [ht]; exact beq_self_eq_true _
          go_wp2
          go_region_held3 (fun w' => w'.cell? ⟨b, 3, none⟩ = some (.slice (some ⟨g2, o2, none⟩) n.log.length cap2) ∧ w'.cell? ⟨g2, o2 + i * 2, none⟩ = some (.int .i64 ((n.log[i]'hlt).term : Int)) ∧ w'.cell? ⟨g, o, none⟩ = some (.int .i64 (e.term : Int))) (go_keep) ((go_at_call 52; refine (unhide LA _ ((unhide hst).call (Below.refl _ _).drew)).mono ?_; rintro e w' ⟨rfl, rfl⟩))
          have hnx : IntKind.i64.wrap ((i : Int) + 1) = ((i + 1 : Nat) : Int) := (IntWalk.i64_in _ (by omega)).trans (by omega)
          have hc1 : (1 : Int) ≤ ((l.length + 1 : Nat) : Int) := by omega
          have hc2 : (1 : Int) ≤ (l.length : Int) + 1 := by omega
          have hc3 : l.length + 1 ≤ cap + 1 := by omega
          have hc4 : (l.length : Int) + 1 ≤ (cap : Int) + 1 := by omega
          have hc5 : (l.length : Int) ≤ (cap : Int) := by omega
          go_wp2
          go_region_held3 (fun w' => w'.cell? ⟨b, 3, none⟩ = some (.slice (some ⟨g2, o2, none⟩) n.log.length cap2)) (go_keep) (fail)
          have hbd := hide ((unhide hbel).trans ((Below.refl _ wr).drew.drew.mono (unhide hbel).size))
          have hstd := hide ((unhide hst).call (Below.refl _ wr).drew.drew)
          have hsd := hide ((unhide HT).below (Below.refl _ wr).drew.drew)
          have hfp : Hid (∀ k, (Value.slice (if cap = 0 then some (⟨g, o, none⟩ : Addr) else some ⟨g, o + 2, none⟩) l.length cap).ownBlock = some k → ¬ Foot b q sv k) := hide (by intro k hk; refine unhide hfr k ?_; revert hk; split <;> exact id)
          generalize (if cap = 0 then some (⟨g, o, none⟩ : Addr) else some ⟨g, o + 2, none⟩) = p1 at hsd hfp ⊢
          go_wp2
          refine wp_goto ⟨l.length, by simp, JPut.intro _ (i + 1) l _ rfl (by rfl) rfl (unhide hstd) (unhide hsd) (unhide hfp) (by omega) (by simp only [List.length_cons] at hsum; omega) (fun x hx => unhide hmem x (by simp [hx])) ?_ (unhide hbd)⟩
          rw [← unhide hput, putM_same hlt ht]
        · have ht2 : (((n.log[i]'hlt).term : Int) == (e.term : Int)) = false := by rw [beq_eq_false_iff_ne]; omega
          have ht3 : ¬ ((n.log[i]'hlt).term : Int) = (e.term : Int) := by omega
          go_wp2
          go_region_held3 (fun w' => w'.cell? ⟨b, 3, none⟩ = some (.slice (some ⟨g2, o2, none⟩) n.log.length cap2) ∧ w'.cell? ⟨g2, o2 + i * 2, none⟩ = some (.int .i64 ((n.log[i]'hlt).term : Int)) ∧ w'.cell? ⟨g, o, none⟩ = some (.int .i64 (e.term : Int))) (go_keep) ((go_at_call 52; refine (unhide LA _ ((unhide hst).call (Below.refl _ _).drew)).mono ?_; rintro e w' ⟨rfl, rfl⟩))
          have hbd := hide ((unhide hbel).trans ((Below.refl _ wr).drew.mono (unhide hbel).size))
          have hstd := hide ((unhide hst).call (Below.refl _ wr).drew)
          have hsd := hide ((unhide hsee).below (Below.refl _ wr).drew)
          have hcut := putM_cut (log := n.log) (i := i) (e := e) (l := l) (fun x => ht (by rw [← x.2, termAt_at n.log (i + 1) (by omega) (by omega)]; rfl))
          go_wp2
          refine put_tail' rfl _ b q sv n S i e l g o cap _ W _ _ _ (by rfl) (unhide hstd) (Keep.call _ (unhide hbd)) (unhide hsd) (by omega) hl (by simp only [List.length_cons] at hsum; omega) (fun x hx => unhide HD x (unhide hmem x hx)) ?_
          rw [← unhide hput, hcut]
      · have hlt1 : ¬ (i : Int) < (n.log.length : Int) := by omega
        have hlt2 : decide ((i : Int) < (n.log.length : Int)) = false := decide_eq_false hlt1
        have hcut := putM_cut (log := n.log) (i := i) (e := e) (l := l) (fun x => hlt x.1)
        have c1 := (unhide hst).c1
        go_wp2
        rename_i hrest
        refine wp_region_noPanic ?_
        refine wp_region_held_drew (S := (fun w' => w'.cell? ⟨b, 1, none⟩ = some (.int .i64 (n.term : Int)))) (by kernel_rfl) ((c1 : wr.drew.cell? _ = _)) (fun hHeld => ?_)
        refine wpAnyH_take (i := 0) (oi := ?oi20047) (v := ?v20047) ?hi20047 (by kernel_rfl) (by kernel_rfl) (by kernel_rfl) (fun _ _ _ h => h) (Or.inl ⟨?hw20047, ?hy20047⟩) (by assumption) ?rest20047
        case hi20047 => (simp only [List.getElem?_toArray, List.getElem?_cons_zero]; rfl)
        case hw20047 => rfl
        case hy20047 => first | (intro wx hSw; go_simp; done) | (intro wx hSw; go_simp; with_reducible rfl)
        simp only [Act.put, List.setIfInBounds_toArray, List.set_cons_zero, List.set_cons_succ]
        refine wpAnyH_take (i := 1) (oi := ?oi20048) (v := ?v20048) ?hi20048 (by kernel_rfl) (by kernel_rfl) (by kernel_rfl) (fun _ _ _ h => h) (Or.inl ⟨?hw20048, ?hy20048⟩) (by assumption) ?rest20048
        case hi20048 => (simp only [List.getElem?_toArray, List.getElem?_cons_zero, List.getElem?_cons_succ]; rfl)
        case hw20048 => rfl
        case hy20048 => first | (intro wx hSw; go_simp; done) | (intro wx hSw; go_simp; with_reducible rfl)
        simp only [Act.put, List.setIfInBounds_toArray, List.set_cons_zero, List.set_cons_succ]
        refine wpAnyH_ready (rs := [2]) (by kernel_rfl) (by simp) ?_
        refine AllReadyH.cons rfl (fun K20049 hK20049 => ?_) AllReadyH.nil
        go_simp
        go_wp2_with (go_at_call 52; refine (unhide LA _ ((unhide hst).call (below_drew wr))).mono ?_; rintro e0 w' ⟨rfl, rfl⟩)
        refine hK20049.out _ _ ?hs20049 (fun hHeld20049 => ?_)
        case hs20049 => exact hHeld
        clear hHeld
        have hHeld := hHeld20049; clear hHeld20049 hK20049 K20049
        refine wpAnyH_take (i := 3) (oi := ?oi20050) (v := ?v20050) ?hi20050 (by kernel_rfl) (by kernel_rfl) (by kernel_rfl) (fun _ _ _ h => h) (Or.inl ⟨?hw20050, ?hy20050⟩) (by assumption) ?rest20050
        case hi20050 => (simp only [List.getElem?_toArray, List.getElem?_cons_zero, List.getElem?_cons_succ]; rfl)
        case hw20050 => rfl
        case hy20050 => first | (intro wx hSw; go_simp; done) | (intro wx hSw; go_simp; with_reducible rfl)
        simp only [Act.put, List.setIfInBounds_toArray, List.set_cons_zero, List.set_cons_succ]
        refine wpAnyH_take (i := 4) (oi := ?oi20051) (v := ?v20051) ?hi20051 (by kernel_rfl) (by kernel_rfl) (by kernel_rfl) (fun _ _ _ h => h) (Or.inl ⟨?hw20051, ?hy20051⟩) (by assumption) ?rest20051
        case hi20051 => (simp only [List.getElem?_toArray, List.getElem?_cons_zero, List.getElem?_cons_succ]; rfl)
        case hw20051 => rfl
        case hy20051 => first | (intro wx hSw; go_simp; done) | (intro wx hSw; go_simp; with_reducible rfl)
        simp only [Act.put, List.setIfInBounds_toArray, List.set_cons_zero, List.set_cons_succ]
        refine wpAnyH_take (i := 5) (oi := ?oi20052) (v := undef) ?hi20052 (by kernel_rfl) (by kernel_rfl) (by kernel_rfl) (fun _ _ _ h => h) (Or.inr ⟨?hw20052, rfl⟩) (by assumption) ?rest20052
        case hi20052 => (simp only [List.getElem?_toArray, List.getElem?_cons_zero, List.getElem?_cons_succ]; rfl)
        case hw20052 => rfl
        simp only [Act.put, List.setIfInBounds_toArray, List.set_cons_zero, List.set_cons_succ]
        refine wpAnyH_take (i := 6) (oi := ?oi20053) (v := undef) ?hi20053 (by kernel_rfl) (by kernel_rfl) (by kernel_rfl) (fun _ _ _ h => h) (Or.inr ⟨?hw20053, rfl⟩) (by assumption) ?rest20053
        case hi20053 => (simp only [List.getElem?_toArray, List.getElem?_cons_zero, List.getElem?_cons_succ]; rfl)
        case hw20053 => rfl
        simp only [Act.put, List.setIfInBounds_toArray, List.set_cons_zero, List.set_cons_succ]
        refine wpAnyH_take (i := 7) (oi := ?oi20054) (v := undef) ?hi20054 (by kernel_rfl) (by kernel_rfl) (by kernel_rfl) (fun _ _ _ h => h) (Or.inr ⟨?hw20054, rfl⟩) (by assumption) ?rest20054
        case hi20054 => (simp only [List.getElem?_toArray, List.getElem?_cons_zero, List.getElem?_cons_succ]; rfl)
        case hw20054 => rfl
        simp only [Act.put, List.setIfInBounds_toArray, List.set_cons_zero, List.set_cons_succ]
        refine wpAnyH_take (i := 8) (oi := ?oi20055) (v := undef) ?hi20055 (by kernel_rfl) (by kernel_rfl) (by kernel_rfl) (fun _ _ _ h => h) (Or.inr ⟨?hw20055, rfl⟩) (by assumption) ?rest20055
        case hi20055 => (simp only [List.getElem?_toArray, List.getElem?_cons_zero, List.getElem?_cons_succ]; rfl)
        case hw20055 => rfl
        simp only [Act.put, List.setIfInBounds_toArray, List.set_cons_zero, List.set_cons_succ]
        refine wpAnyH_take (i := 9) (oi := ?oi20056) (v := undef) ?hi20056 (by kernel_rfl) (by kernel_rfl) (by kernel_rfl) (fun _ _ _ h => h) (Or.inr ⟨?hw20056, rfl⟩) (by assumption) ?rest20056
        case hi20056 => (simp only [List.getElem?_toArray, List.getElem?_cons_zero, List.getElem?_cons_succ]; rfl)
        case hw20056 => rfl
        simp only [Act.put, List.setIfInBounds_toArray, List.set_cons_zero, List.set_cons_succ]
        refine wpAnyH_take (i := 10) (oi := ?oi20057) (v := undef) ?hi20057 (by kernel_rfl) (by kernel_rfl) (by kernel_rfl) (fun _ _ _ h => h) (Or.inr ⟨?hw20057, rfl⟩) (by assumption) ?rest20057
        case hi20057 => (simp only [List.getElem?_toArray, List.getElem?_cons_zero, List.getElem?_cons_succ]; rfl)
        case hw20057 => rfl
        simp only [Act.put, List.setIfInBounds_toArray, List.set_cons_zero, List.set_cons_succ]
        refine wpAnyH_take (i := 11) (oi := ?oi20058) (v := undef) ?hi20058 (by kernel_rfl) (by kernel_rfl) (by kernel_rfl) (fun _ _ _ h => h) (Or.inr ⟨?hw20058, rfl⟩) (by assumption) ?rest20058
        case hi20058 => (simp only [List.getElem?_toArray, List.getElem?_cons_zero, List.getElem?_cons_succ]; rfl)
        case hw20058 => rfl
        simp only [Act.put, List.setIfInBounds_toArray, List.set_cons_zero, List.set_cons_succ]
        refine wpAnyH_take (i := 12) (oi := ?oi20059) (v := undef) ?hi20059 (by kernel_rfl) (by kernel_rfl) (by kernel_rfl) (fun _ _ _ h => h) (Or.inr ⟨?hw20059, rfl⟩) (by assumption) ?rest20059
        case hi20059 => (simp only [List.getElem?_toArray, List.getElem?_cons_zero, List.getElem?_cons_succ]; rfl)
        case hw20059 => rfl
        simp only [Act.put, List.setIfInBounds_toArray, List.set_cons_zero, List.set_cons_succ]
        refine wpAnyH_take (i := 13) (oi := ?oi20060) (v := undef) ?hi20060 (by kernel_rfl) (by kernel_rfl) (by kernel_rfl) (fun _ _ _ h => h) (Or.inr ⟨?hw20060, rfl⟩) (by assumption) ?rest20060
        case hi20060 => (simp only [List.getElem?_toArray, List.getElem?_cons_zero, List.getElem?_cons_succ]; rfl)
        case hw20060 => rfl
        simp only [Act.put, List.setIfInBounds_toArray, List.set_cons_zero, List.set_cons_succ]
        refine wpAnyH_take (i := 14) (oi := ?oi20061) (v := undef) ?hi20061 (by kernel_rfl) (by kernel_rfl) (by kernel_rfl) (fun _ _ _ h => h) (Or.inr ⟨?hw20061, rfl⟩) (by assumption) ?rest20061
        case hi20061 => (simp only [List.getElem?_toArray, List.getElem?_cons_zero, List.getElem?_cons_succ]; rfl)
        case hw20061 => rfl
        simp only [Act.put, List.setIfInBounds_toArray, List.set_cons_zero, List.set_cons_succ]
        refine wpAnyH_take (i := 15) (oi := ?oi20062) (v := undef) ?hi20062 (by kernel_rfl) (by kernel_rfl) (by kernel_rfl) (fun _ _ _ h => h) (Or.inr ⟨?hw20062, rfl⟩) (by assumption) ?rest20062
        case hi20062 => (simp only [List.getElem?_toArray, List.getElem?_cons_zero, List.getElem?_cons_succ]; rfl)
        case hw20062 => rfl
        simp only [Act.put, List.setIfInBounds_toArray, List.set_cons_zero, List.set_cons_succ]
        refine wpAnyH_take (i := 16) (oi := ?oi20063) (v := undef) ?hi20063 (by kernel_rfl) (by kernel_rfl) (by kernel_rfl) (fun _ _ _ h => h) (Or.inr ⟨?hw20063, rfl⟩) (by assumption) ?rest20063
        case hi20063 => (simp only [List.getElem?_toArray, List.getElem?_cons_zero, List.getElem?_cons_succ]; rfl)
        case hw20063 => rfl
        simp only [Act.put, List.setIfInBounds_toArray, List.set_cons_zero, List.set_cons_succ]
        refine wpAnyH_take (i := 17) (oi := ?oi20064) (v := undef) ?hi20064 (by kernel_rfl) (by kernel_rfl) (by kernel_rfl) (fun _ _ _ h => h) (Or.inr ⟨?hw20064, rfl⟩) (by assumption) ?rest20064
        case hi20064 => (simp only [List.getElem?_toArray, List.getElem?_cons_zero, List.getElem?_cons_succ]; rfl)
        case hw20064 => rfl
        simp only [Act.put, List.setIfInBounds_toArray, List.set_cons_zero, List.set_cons_succ]
        refine wpAnyH_take (i := 18) (oi := ?oi20065) (v := undef) ?hi20065 (by kernel_rfl) (by kernel_rfl) (by kernel_rfl) (fun _ _ _ h => h) (Or.inr ⟨?hw20065, rfl⟩) (by assumption) ?rest20065
        case hi20065 => (simp only [List.getElem?_toArray, List.getElem?_cons_zero, List.getElem?_cons_succ]; rfl)
        case hw20065 => rfl
        simp only [Act.put, List.setIfInBounds_toArray, List.set_cons_zero, List.set_cons_succ]
        refine wpAnyH_take (i := 19) (oi := ?oi20066) (v := ?v20066) ?hi20066 (by kernel_rfl) (by kernel_rfl) (by kernel_rfl) (fun _ _ _ h => h) (Or.inl ⟨?hw20066, ?hy20066⟩) (by assumption) ?rest20066
        case hi20066 => (simp only [List.getElem?_toArray, List.getElem?_cons_zero, List.getElem?_cons_succ]; rfl)
        case hw20066 => rfl
        case hy20066 => first | (intro wx hSw; go_simp; done) | (intro wx hSw; go_simp; with_reducible rfl)
        simp only [Act.put, List.setIfInBounds_toArray, List.set_cons_zero, List.set_cons_succ]
        refine wpAnyH_done (by kernel_rfl) ?_ _
        refine NoPanic.normal ?_
        refine hrest _ _ ?_
        have hbd := hide ((unhide hbel).trans ((Below.refl _ wr).drew.mono (unhide hbel).size))
        have hstd := hide ((unhide hst).call (Below.refl _ wr).drew)
        have hsd := hide ((unhide hsee).below (Below.refl _ wr).drew)
        go_wp2
        refine put_tail' rfl _ b q sv n S i e l g o cap _ W _ _ _ (by rfl) (unhide hstd) (Keep.call _ (unhide hbd)) (unhide hsd) (by omega) hl (by simp only [List.length_cons] at hsum; omega) (fun x hx => unhide HD x (unhide hmem x hx)) ?_
        rw [← unhide hput, hcut]
end Go.Proofs.Ytbojfiflemmgaaa
