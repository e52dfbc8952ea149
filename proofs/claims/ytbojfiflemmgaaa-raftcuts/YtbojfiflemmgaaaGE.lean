/-
  Package raft's stand: from the votes on.
-/
import Derived.Test.YtbojfiflemmgaaaGD
import Derived.Test.YtbojfiflemmgaaaGU
namespace Go.Proofs.Ytbojfiflemmgaaa
open Go.RowKit Go.Shelf
set_option linter.unusedSimpArgs false
set_option linter.unusedVariables false
attribute [local go_sem] Oper.semAt_some

theorem sendV_any (b : Nat) (q : Q5) (sv : Value) (n : Nd) (S : List (Ms × Value)) (to x t : Nat) (W : World) (h : St b q sv n S W) (hS : S.length ≤ 100000) :
    Calls Try.prog 68 #[ptr b 0, nI to, .agg #[.int .i64 1, .int .i64 0, .int .i64 0, .int .i64 0, .int .i64 (x : Int), .int .i64 (t : Int), .bool false, .slice none 0 0, .int .i64 0, .int .i64 0]] W fun e W' => (∃ v, e = .returned v) ∧ ∃ sv', St b q sv' n (S ++ [(⟨1, n.id, to, n.term, x, t, false, [], 0, 0⟩, .slice none 0 0)]) W' ∧ Keep W W' (Foot b q sv) (Foot b q sv') :=
  send_any b q sv n S to ⟨1, 0, 0, 0, x, t, false, [], 0, 0⟩ (.slice none 0 0) W h (Sees.nil 2 W) (fun k hk => by cases hk) hS
abbrev st1 (n : Nd) : Nd := { n with term := n.term + 1, role := 1 }
abbrev st2 (n : Nd) : Nd := { st1 n with vote := (n.id : Int) }
abbrev st3 (n : Nd) : Nd := { st2 n with votes := List.replicate n.votes.length false }
theorem st4_eq (n : Nd) : anewM (st3 n) = standN n := rfl
theorem Fit.stand {n : Nd} (f : Fit n) (ht : n.term < 1099511627776) (hc : n.clock ≤ 1000000000000) : Fit (standN n) :=
  ⟨by simpa [standN] using f.id, by simpa [standN] using f.size, by simpa [standN] using f.next, by simpa [standN] using f.mat, by simpa [standN] using f.forms, f.log, f.small, f.terms, by show n.term + 1 ≤ _; omega, f.commit, f.clock, by
    show n.clock + 5 + 2 * n.id ≤ _
    have := f.id; have := f.size; omega⟩
theorem standN_len (n : Nd) : (standN n).votes.length = n.votes.length := by simp [standN]
theorem others_stand (n : Nd) : othersM (standN n) = othersM n := by unfold othersM Nd.size; rw [standN_len]; rfl
theorem Done.block {b : Nat} {n' : Nd} {S : List (Ms × Value)} {ms : List Ms} {F0 : Nat → Prop} {W0 W' : World} (h : Done b n' S ms F0 W0 W') {k : Nat} (hk : k < W0.heap.size) (hf : ¬ F0 k) : W'.heap[k]? = W0.heap[k]? := by
  obtain ⟨q, sv, es, _, _, h3⟩ := h
  exact (h3.block k hk hf).1
theorem Done.cells {b B0 : Nat} {n' : Nd} {S : List (Ms × Value)} {ms : List Ms} {F0 : Nat → Prop} {W0 W' : World} {cs : Value} {T : TypeId} {i : Nat} (h : Done b n' S ms F0 W0 W') (hb : Blk B0 #[cs] T W0) (hf : ¬ F0 B0) (hi : n'.id = i) : W'.cell? ⟨B0, 0, none⟩ = some cs ∧ W'.cell? ⟨b, 0, none⟩ = some (.int .i64 (i : Int)) := by
  obtain ⟨q, sv, es, _, h2, h3⟩ := h
  subst hi
  exact ⟨(h3.blk hb hf).cell 0, h2.c0⟩
theorem countM_id (n : Nd) (k : Nat) : (countM n k).1.id = n.id := by
  unfold countM
  split <;> rfl
theorem Done.putObj {b : Nat} {n' : Nd} {S : List (Ms × Value)} {ms : List Ms} {F0 : Nat → Prop} {W0 W' : World} (h : Done b n' S ms F0 W0 W') {j : Nat} (hj : W0.heap.size ≤ j) (hj2 : j < W'.heap.size) (hc : ¬ IsC j W') (o : Obj) : Done b n' S ms F0 W0 (W'.putObj j o) := by
  obtain ⟨q, sv, es, h1, h2, h3⟩ := h
  exact ⟨q, sv, es, h1, h2.putObj hc o, h3.put hj hj2 o⟩
theorem Done.join {b : Nat} {n' : Nd} {S : List (Ms × Value)} {ms ms2 : List Ms} {es : List Value} {F0 : Nat → Prop} {W0 W' : World} (he : NewE es ms W0) (h : Done b n' (S ++ ms.zip es) ms2 F0 W0 W') : Done b n' S (ms ++ ms2) F0 W0 W' := by
  obtain ⟨q, sv, es2, h1, h2, h3⟩ := h
  refine ⟨q, sv, es ++ es2, ⟨by simp [he.1, h1.1], fun e hm k hk => by
    rcases List.mem_append.1 hm with hm | hm
    · exact he.2 e hm k hk
    · exact h1.2 e hm k hk⟩, ?_, h3⟩
  rw [List.zip_append he.1.symm, ← List.append_assoc]
  exact h2
set_option maxRecDepth 100000 in
set_option maxHeartbeats 8000000 in
theorem stand_tail {r0 r1 r2 r3 r4 rest : Code} (hc : Try.f61.body = some (.seq r0 (.seq r1 (.seq r2 (.seq r3 (.seq r4 rest)))))) (b B0 : Nat) (q : Q5) (sv : Value) (n : Nd) (S : List (Ms × Value)) (F0 : Nat → Prop) (W X : World) {u3 u4 u5 u6 u7 u8 u9 u10 u11 u12 u13 u14 u15 u16 u17 u18 u19 u20 u21 u22 u23 u24 u25 u26 u27 u28 u29 u30 u31 u32 u33 u34 u35 : Value} (h : St b q sv (st3 n) S X) (hbx : Blk B0 #[ptr b 0] 75 X) (hnf : ¬ Foot b q sv B0) (hK : Keep W X F0 (Foot b q sv)) (f : Fit n) (ht : n.term < 1099511627776) (hck : n.clock ≤ 1000000000000) (hl : n.log.length < 500000) (hS : S.length ≤ 80000) :
    rest.wp Try.prog (bodyPostM Fence.wide 4 Try.prog Try.f61 (fun e W' => (∃ v, e = .returned v) ∧ Done b (standM n).1 S (standM n).2 F0 W W')) ⟨#[ptr b 0, ptr B0 0, undef, u3, u4, u5, u6, u7, u8, u9, u10, u11, u12, u13, u14, u15, u16, u17, u18, u19, u20, u21, u22, u23, u24, u25, u26, u27, u28, u29, u30, u31, u32, u33, u34, u35, undef, undef, undef, undef, undef, undef, undef, undef, undef, undef, undef, undef, undef, undef, undef, undef, undef, undef, undef, undef, undef, undef], []⟩ X := by
  unfold Try.f61 at hc
  cases hc
  have hsz := f.size
  have hid := f.id
  have FS := f.stand ht hck
  have hb0 := hbx.cell 0
  simp at hb0
  have BA := hide (beginAnew_any b q sv (st3 n) S X h (by show n.clock ≤ _; omega) (by show n.id ≤ 5; omega))
  have HX := hide h
  have hkW := hK
  have hWX := hK.size
  have HBX := hide hbx
  clear h hK hbx
  go_wp2_with (go_at_call 67; refine (unhide BA).mono ?_; rintro e X2 ⟨⟨vv, rfl⟩, h2, hk2⟩; have hb2 := hk2.blk (unhide HBX) hnf; have hb3 := hb2.cell 0; simp at hb3)
  have h2' : St b q sv (standN n) S X2 := h2
  have hnf2 : ¬ Foot b q sv B0 := hnf
  have hlo := others_len (standN n) (by rw [standN_len]; exact hsz) (by rw [standN_len]; exact hid)
  have hlo2 : (othersM (standN n)).length ≤ 5 := by rw [hlo, standN_len]; omega
  refine (wpIn_wide (n := 4)).1 ?_
  refine range_all (by omega) (gf := 75) (bd := #[ptr b 0]) (lb := #[]) rfl (enters_of Try.func75 (by kernel_rfl) rfl) (fun x : Nat => #[nI x]) (othersM (standN n)) (fun _ => rfl)
    (fun k W' => Sent b (standN n) S (((othersM (standN n)).map (askM (standN n))).take k) q sv X2 W')
    (fun k A B hi hb => hi.more hb)
    (fun k A j o hi hj hr => hi.putObj hj (by obtain ⟨r, hr⟩ := hr; exact (Array.getElem?_eq_some_iff.1 hr).1) (not_isC_loop hr) o)
    (Sent.start h2')
    (fun L J A hJI hJm hY hJ0 => others_in _ (by omega) L b (standN n) (by rw [standN_len]; exact hsz) (by rw [standN_len]; exact hid) J (fun k B hj => by obtain ⟨sv1, es, _, h2, _⟩ := hJI k B hj; exact ⟨_, _, _, h2⟩) hY A hJ0)
    (fun x => { tmps := #[ptr b 0, ptr B0 0, nI x, u3, u4, u5, u6, u7, u8, u9, u10, u11, u12, u13, u14, u15, u16, u17, u18, u19, u20, u21, u22, u23, u24, u25, u26, u27, u28, u29, u30, u31, u32, u33, u34, u35, ptr b 0, vv, ptr b 0, .func (.func 75) #[ptr b 0] #[], nI x, undef, undef, undef, undef, undef, undef, undef, undef, undef, undef, undef, undef, undef, undef, undef, undef, undef], defers := [] }) ?assign ?body ?done
  case assign =>
    intro L k x A K hi hK
    gi_wp2
    exact hK
  case body =>
    intro L k hk A hi
    obtain ⟨sv1, es, he, hs, hkp⟩ := hi
    have hbx2 := (hkp.blk hb2 hnf2).below (below_drew A)
    have hc0 : A.drew.cell? ⟨B0, 0, none⟩ = some (ptr b 0) := hbx2.cell 0
    have hnf2 : ¬ Foot b q sv1 B0 := (hkp.block B0 hb2.lt hnf2).2
    have hsk : ((othersM (standN n)).map (askM (standN n))).take (k + 1) = ((othersM (standN n)).map (askM (standN n))).take k ++ [askM (standN n) (othersM (standN n))[k]] := by
      rw [List.take_succ_eq_append_getElem (by simpa using hk)]
      simp
    obtain ⟨to, hto2⟩ : ∃ to, (othersM (standN n))[k] = to := ⟨_, rfl⟩
    rw [hto2] at hsk ⊢
    have hzl : ((((othersM (standN n)).map (askM (standN n))).take k).zip es).length ≤ 5 := by simp; omega
    obtain ⟨t, htt⟩ : ∃ t, termAt n.log n.log.length = t := ⟨_, rfl⟩
    have hask : askM (standN n) to = ⟨1, n.id, to, n.term + 1, n.log.length, t, false, [], 0, 0⟩ := by rw [← htt]; rfl
    rw [hask] at hsk
    have HSK := hide hsk
    have q1 := q
    have hs2 := hs.call (below_drew A)
    have hS2 : (S ++ (((othersM (standN n)).map (askM (standN n))).take k).zip es).length ≤ 100000 := by rw [List.length_append]; omega
    have LA := hide (fun W h => last_any b q sv1 (standN n) (S ++ (((othersM (standN n)).map (askM (standN n))).take k).zip es) W h)
    have TO := hide (fun W h => termOf_any b q sv1 (standN n) (S ++ (((othersM (standN n)).map (askM (standN n))).take k).zip es) n.log.length W h (by omega))
    have e1 : termAt (standN n).log n.log.length = t := htt
    have e2 : (standN n).log.length = n.log.length := rfl
    rw [e1] at TO
    rw [e2] at LA
    clear hsk hto2 htt hask e1 e2 q1
    gi_wp2
    refine region_round (S := (fun w' => w'.cell? ⟨B0, 0, none⟩ = some (ptr b 0))) (by kernel_rfl) (noDefer_ok (by kernel_rfl)) (fun a w h => h) hc0 (fun hHeld => ?_)
    refine wpAnyH_take (i := 0) (oi := ?oi20001) (v := ?v20001) ?hi20001 (by kernel_rfl) (by kernel_rfl) (by kernel_rfl) (fun _ _ _ h => h) (Or.inl ⟨?hw20001, ?hy20001⟩) (by assumption) ?rest20001
    case hi20001 => (simp only [List.getElem?_toArray, List.getElem?_cons_zero]; rfl)
    case hw20001 => rfl
    case hy20001 => first | (intro wx hSw; go_simp; done) | (intro wx hSw; go_simp; with_reducible rfl)
    simp only [Act.put, List.setIfInBounds_toArray, List.set_cons_zero, List.set_cons_succ]
    refine wpAnyH_take (i := 1) (oi := ?oi20002) (v := ?v20002) ?hi20002 (by kernel_rfl) (by kernel_rfl) (by kernel_rfl) (fun _ _ _ h => h) (Or.inl ⟨?hw20002, ?hy20002⟩) (by assumption) ?rest20002
    case hi20002 => (simp only [List.getElem?_toArray, List.getElem?_cons_zero, List.getElem?_cons_succ]; rfl)
    case hw20002 => rfl
    case hy20002 => first | (intro wx hSw; go_simp; done) | (intro wx hSw; go_simp; with_reducible rfl)
    simp only [Act.put, List.setIfInBounds_toArray, List.set_cons_zero, List.set_cons_succ]
    refine wpAnyH_take (i := 2) (oi := ?oi20003) (v := ?v20003) ?hi20003 (by kernel_rfl) (by kernel_rfl) (by kernel_rfl) (fun _ _ _ h => h) (Or.inl ⟨?hw20003, ?hy20003⟩) (by assumption) ?rest20003
    case hi20003 => (simp only [List.getElem?_toArray, List.getElem?_cons_zero, List.getElem?_cons_succ]; rfl)
    case hw20003 => rfl
    case hy20003 => first | (intro wx hSw; go_simp; done) | (intro wx hSw; go_simp; with_reducible rfl)
    simp only [Act.put, List.setIfInBounds_toArray, List.set_cons_zero, List.set_cons_succ]
    refine wpAnyH_take (i := 4) (oi := ?oi20004) (v := ?v20004) ?hi20004 (by kernel_rfl) (by kernel_rfl) (by kernel_rfl) (fun _ _ _ h => h) (Or.inl ⟨?hw20004, ?hy20004⟩) (by assumption) ?rest20004
    case hi20004 => (simp only [List.getElem?_toArray, List.getElem?_cons_zero, List.getElem?_cons_succ]; rfl)
    case hw20004 => rfl
    case hy20004 => first | (intro wx hSw; go_simp; done) | (intro wx hSw; go_simp; with_reducible rfl)
    simp only [Act.put, List.setIfInBounds_toArray, List.set_cons_zero, List.set_cons_succ]
    refine wpAnyH_take (i := 5) (oi := ?oi20005) (v := ?v20005) ?hi20005 (by kernel_rfl) (by kernel_rfl) (by kernel_rfl) (fun _ _ _ h => h) (Or.inl ⟨?hw20005, ?hy20005⟩) (by assumption) ?rest20005
    case hi20005 => (simp only [List.getElem?_toArray, List.getElem?_cons_zero, List.getElem?_cons_succ]; rfl)
    case hw20005 => rfl
    case hy20005 => first | (intro wx hSw; go_simp; done) | (intro wx hSw; go_simp; with_reducible rfl)
    simp only [Act.put, List.setIfInBounds_toArray, List.set_cons_zero, List.set_cons_succ]
    refine wpAnyH_ready (rs := [3]) (by kernel_rfl) (by simp) ?_
    refine AllReadyH.cons rfl (fun K20006 hK20006 => ?_) AllReadyH.nil
    go_simp
    go_wp2_with (go_at_call 52; refine (unhide LA _ hs2).mono ?_; rintro e w' ⟨rfl, rfl⟩)
    refine hK20006.out _ _ ?hs20006 (fun hHeld20006 => ?_)
    case hs20006 => exact hHeld
    clear hHeld
    have hHeld := hHeld20006; clear hHeld20006 hK20006 K20006
    refine wpAnyH_ready (rs := [6]) (by kernel_rfl) (by simp) ?_
    refine AllReadyH.cons rfl (fun K20007 hK20007 => ?_) AllReadyH.nil
    go_simp
    go_wp2_with (go_at_call 52; refine (unhide LA _ hs2).mono ?_; rintro e w' ⟨rfl, rfl⟩)
    refine hK20007.out _ _ ?hs20007 (fun hHeld20007 => ?_)
    case hs20007 => exact hHeld
    clear hHeld
    have hHeld := hHeld20007; clear hHeld20007 hK20007 K20007
    refine wpAnyH_ready (rs := [7]) (by kernel_rfl) (by simp) ?_
    refine AllReadyH.cons rfl (fun K20008 hK20008 => ?_) AllReadyH.nil
    go_simp
    go_wp2_with (go_at_call 66; refine (unhide TO _ hs2).mono ?_; rintro e w' ⟨rfl, rfl⟩)
    refine hK20008.out _ _ ?hs20008 (fun hHeld20008 => ?_)
    case hs20008 => exact hHeld
    clear hHeld
    have hHeld := hHeld20008; clear hHeld20008 hK20008 K20008
    refine wpAnyH_take (i := 8) (oi := ?oi20009) (v := ?v20009) ?hi20009 (by kernel_rfl) (by kernel_rfl) (by kernel_rfl) (fun _ _ _ h => h) (Or.inl ⟨?hw20009, ?hy20009⟩) (by assumption) ?rest20009
    case hi20009 => (simp only [List.getElem?_toArray, List.getElem?_cons_zero, List.getElem?_cons_succ]; rfl)
    case hw20009 => rfl
    case hy20009 => first | (intro wx hSw; go_simp; done) | (intro wx hSw; go_simp; with_reducible rfl)
    simp only [Act.put, List.setIfInBounds_toArray, List.set_cons_zero, List.set_cons_succ]
    refine wpAnyH_ready (rs := [9]) (by kernel_rfl) (by simp) ?_
    refine AllReadyH.cons rfl (fun K20010 hK20010 => ?_) AllReadyH.nil
    go_simp
    go_wp2_with (go_at_call 68; refine (sendV_any b q sv1 _ _ to n.log.length t _ hs2 hS2).mono ?_; rintro e W3 ⟨⟨v3, rfl⟩, sv3, H3, hK3⟩; have k3_ := ((hK3.blk hbx2 hnf2).cell 0))
    refine hK20010.out _ _ ?hs20010 (fun hHeld20010 => ?_)
    case hs20010 => exact k3_
    clear hHeld
    have hHeld := hHeld20010; clear hHeld20010 hK20010 K20010
    refine wpAnyH_done (by kernel_rfl) ?_ _
    exact ⟨rfl, keepsFrom_of _ ((Keep.call _ (below_drew A)).trans hK3) hs.footC, by rw [unhide HSK]; exact Sent.snoc he hkp (fun k hk => by cases hk) H3 ((Keep.call _ (below_drew A)).trans hK3)⟩
  case done =>
    rintro D A hD ⟨sv1, es, he, hs, hkp⟩ hd
    have hfull : ((othersM (standN n)).map (askM (standN n))).take (othersM (standN n)).length = (othersM (standN n)).map (askM (standN n)) := List.take_of_length_le (by simp)
    rw [hfull] at he hs
    have hj2 := (Array.getElem?_eq_some_iff.1 hd).1
    have hc0 := (hkp.blk hb2 hnf2).cell 0
    simp at hc0
    have c0 := hs.c0
    have hDn : ¬ Foot b q sv1 D := fun hf => not_isC_def hd (hs.footC D hf)
    have hnB : ¬ Foot b q sv1 B0 := (hkp.block B0 hb2.lt hnf2).2
    have hbA := hkp.blk hb2 hnf2
    have hzl : (((othersM (standN n)).map (askM (standN n))).zip es).length ≤ 5 := by simp; omega
    have CT := hide (count_any b q sv1 (standN n) _ n.id A.drew (hs.call (below_drew A)) FS (by rw [standN_len]; exact hid) hl (by rw [List.length_append]; omega))
    have hid2 : ((standN n).id : Int) = (n.id : Int) := rfl
    have hDX : X.heap.size ≤ D := Nat.le_trans hk2.size hD
    go_wp2
    go_region_held3 (fun w' => w'.cell? ⟨B0, 0, none⟩ = some (ptr b 0) ∧ w'.cell? ⟨b, 0, none⟩ = some (.int .i64 (n.id : Int))) (first | exact kk_ | go_keep) ((go_at_call 69; refine (unhide CT).mono ?_; rintro e W3 ⟨⟨v3, rfl⟩, hdn⟩; have kk_ : W3.cell? ⟨B0, 0, none⟩ = some (ptr b 0) ∧ W3.cell? ⟨b, 0, none⟩ = some (.int .i64 (n.id : Int)) := hdn.cells (hbA.below (below_drew A)) hnB (countM_id _ _)))
    have hdn2 := hdn.pre (Keep.call _ (below_drew A))
    have hd3 : W3.heap[D]? = some (.deferred (some [])) := (hdn2.block hj2 hDn).trans hd
    refine ⟨by simp, .inl ⟨_, _, rfl, run_takeDeferred hd3, ?_⟩⟩
    refine ⟨_, results_none rfl _ _ _, ⟨_, rfl⟩, ?_⟩
    have hfin := (Done.join he (hdn2.pre hkp)).pre (hkW.trans hk2)
    rw [others_stand] at hfin
    exact hfin.putObj (Nat.le_trans hWX hDX) (Array.getElem?_eq_some_iff.1 hd3).1 (not_isC_def hd3) _
end Go.Proofs.Ytbojfiflemmgaaa
