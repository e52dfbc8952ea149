/-
  What val.reckonDecs, val.reckon, val.Reckon return.
-/
import Derived.Test.YtliefgkhpgigaaaR
import Derived.Test.YtliefgkhpgigaaaF
import Derived.Deep.RegionHeld3
import Derived.Deep.DrawnRows
import Derived.RegionTactic
import Derived.Deep.CutRange
namespace Go.Proofs.Ytliefgkhpgigaaa
open Go.RowKit
set_option linter.unusedSimpArgs false
set_option linter.unusedVariables false
attribute [local go_sem ↓] Go.wp_at_zero Go.wp_at_succ

abbrev E0 : ByteArray := ByteArray.empty
/-- the numbers of two decimals, brought to one scale (to be multiplied: as they are); what they make; its scale -/
def strN (k n s m : Int) : Int := if k = 6 then n else wrap64 (n * pw (m - s))
def strOk (k n s m : Int) : Bool := if k = 6 then true else inI (n * pw (m - s))
def decN (k na sa nb sb : Int) : Int := opN k (strN k na sa (max sa sb)) (strN k nb sb (max sa sb))
def decS (k sa sb : Int) : Int := if k = 6 then sa + sb else max sa sb
def decOk (k na sa nb sb : Int) : Bool :=
  strOk k na sa (max sa sb) && strOk k nb sb (max sa sb) && inI (decN k na sa nb sb) && rdB (normN (wrap64 (decN k na sa nb sb)) (decS k sa sb)) (normC (wrap64 (decN k na sa nb sb)) (decS k sa sb))

/-- the world grows behind w; block b holds the value that is handed back -/
def Sv (w : World) (b : Nat) (zn zs : Int) (W : World) : Prop := Below w.heap.size w W ∧ Four b (.int .i64 3) (.int .i64 zn) (.int .i64 zs) (.string E0) W
theorem sv_call {w W w1 : World} {b : Nat} {zn zs : Int} (h : Sv w b zn zs W) (hb : Below W.heap.size W w1) : Sv w b zn zs w1 :=
  ⟨h.1.trans (hb.mono h.1.size), four_call h.2 hb⟩
theorem sv_set {w W : World} {b c : Nat} {zn zs : Int} (hc : w.heap.size ≤ c ∧ c ≠ b) (h : Sv w b zn zs W) (y0 y1 y2 y3 : Value) :
    Sv w b zn zs ((((W.setCell ⟨c, 0, none⟩ y0).setCell ⟨c, 1, none⟩ y1).setCell ⟨c, 2, none⟩ y2).setCell ⟨c, 3, none⟩ y3) :=
  ⟨h.1.trans ((below_set4 c W y0 y1 y2 y3).mono hc.1), four_other hc.2 h.2 y0 y1 y2 y3⟩
theorem right_dec (n s : Int) : rightB 3 n s E0 = rdB n s := by unfold rightB; simp [E0]
theorem retT {n s n' s' : Int} {c d : Bool} (h1 : n = n' ∧ s = s') (h2 : c = d) : Ending.returned (.tuple #[V 3 n s E0, .bool c]) = .returned (.tuple #[V 3 n' s' E0, .bool d]) := by rw [h1.1, h1.2, h2]
theorem max_run (x y : Int) (ts : Array TypeId) (T : TypeId) (w : World) : (Builtin.max_ ts T #[.int .i64 x, .int .i64 y]).run Try.prog w = .ok (.int .i64 (max x y)) w := by
  have : (if y > x then y else x) = max x y := by split <;> omega
  rw [← this]; simp [Builtin.max_, Builtin.max2]

set_option maxRecDepth 100000 in
set_option maxHeartbeats 4000000 in
theorem decs_sum (k na sa nb sb : Int) (w : World) (hk : k ≠ 6) (hna : Is64 na) (hnb : Is64 nb) (hsa : 0 ≤ sa ∧ sa ≤ 6) (hsb : 0 ≤ sb ∧ sb ≤ 6) :
    Calls Try.prog 85 #[.int .i64 k, V 3 na sa E0, V 3 nb sb E0] w fun e w' =>
      e = .returned (.tuple #[V 3 (normN (wrap64 (decN k na sa nb sb)) (decS k sa sb)) (normC (wrap64 (decN k na sa nb sb)) (decS k sa sb)) E0, .bool (decOk k na sa nb sb)]) ∧ Below w.heap.size w w' := by
  have hB : (k != 6) = true := bne_iff_ne.2 hk
  unfold decOk decN decS strN strOk
  simp only [if_neg hk, Bool.true_and, Bool.and_true]
  have hmx := max_run sa sb
  have hm1 : sa ≤ max sa sb := by omega
  have hm2 : sb ≤ max sa sb := by omega
  have hm3 : max sa sb ≤ 6 := by omega
  generalize max sa sb = m at *
  have hpa := pw_bd (m - sa)
  have hpb := pw_bd (m - sb)
  have CA := fun W => power_any (m - sa) W
  have CB := fun W => power_any (m - sb) W
  generalize pw (m - sa) = p at *
  generalize pw (m - sb) = q at *
  have HCA := hide CA
  have HCB := hide CB
  have MA := hide (fun W => mul_any na p W hna (by unfold Is64; omega))
  have MB := hide (fun W => mul_any nb q W hnb (by unfold Is64; omega))
  clear CA CB hk
  have hIa := wrap64_bd (na * p)
  have hIb := wrap64_bd (nb * q)
  generalize inI (na * p) = fa at *
  generalize inI (nb * q) = fb at *
  generalize wrap64 (na * p) = xa at *
  generalize wrap64 (nb * q) = xb at *
  have RI := hide (fun W => reckonInts_any k xa xb W hIa hIb)
  have hIn := wrap64_bd (opN k xa xb)
  generalize wrap64 (opN k xa xb) = z at *
  generalize inI (opN k xa xb) = fz at *
  have NZ := hide (fun W => norm_any 3 z m E0 W hIn (by unfold Is64; omega))
  have ez : nN 3 z m = normN z m ∧ nS 3 z m = normC z m := ⟨rfl, rfl⟩
  rw [ez.1, ez.2] at NZ
  clear ez
  generalize normN z m = zn at *
  generalize normC z m = zs at *
  have RZ := hide (fun W => right_any 3 zn zs E0 W (by decide))
  have hwa : IntKind.i64.wrap (m - sa) = m - sa := IntWalk.i64_in _ (by omega)
  have hwb : IntKind.i64.wrap (m - sb) = m - sb := IntWalk.i64_in _ (by omega)
  go_enter Try.func85, Try.ntmps85
  go_wp2
  go_cut [9] from 26 to 37 (fun f9 W => f9 = .bool fa ∧ W = (((w.alloc (.cells #[.int .i64 3, .int .i64 xa, .int .i64 sa, .string E0] 28)).alloc (.cells #[.int .i64 3, .int .i64 nb, .int .i64 sb, .string E0] 28)).alloc (.cells #[.int .i64 0, .int .i64 0, .int .i64 0, .string E0] 28)).drew)
  case first =>
    go_region_with (first
      | (go_at_call 93; refine (unhide HCA _).mono ?_; rintro e w1 ⟨rfl, rfl⟩)
      | (go_at_call 90; refine (unhide MA _).mono ?_; rintro e w1 ⟨rfl, rfl⟩))
    all_goals
      go_wp2_with fail
      go_meet
      exact ⟨rfl, rfl⟩
  case rest =>
  obtain ⟨rfl, rfl⟩ := hcut
  go_wp2
  go_cut [10] from 38 to 49 (fun f10 W => f10 = .bool fb ∧ W = (((w.alloc (.cells #[.int .i64 3, .int .i64 xa, .int .i64 sa, .string E0] 28)).alloc (.cells #[.int .i64 3, .int .i64 xb, .int .i64 sb, .string E0] 28)).alloc (.cells #[.int .i64 0, .int .i64 0, .int .i64 0, .string E0] 28)).drew.drew)
  case first =>
    go_region_with (first
      | (go_at_call 93; refine (unhide HCB _).mono ?_; rintro e w1 ⟨rfl, rfl⟩)
      | (go_at_call 90; refine (unhide MB _).mono ?_; rintro e w1 ⟨rfl, rfl⟩))
    all_goals
      go_wp2_with fail
      go_meet
      exact ⟨rfl, rfl⟩
  case rest =>
  obtain ⟨rfl, rfl⟩ := hcut
  go_wp2_with fail
  refine (unhide RI _).mono ?_
  rintro e w1 ⟨rfl, rfl⟩
  go_wp2_with fail
  refine (unhide NZ _).mono ?_
  rintro e w1 ⟨rfl, hb1⟩
  have hz1 := hb1.size
  have hb1' := hb1
  obtain ⟨hc1, hf1⟩ := bcell hb1
  simp at hz1
  have HB1 := hide hb1'
  clear hb1 hb1'
  go_wp2_with fail
  rename_i Q1 K1 hrest
  have hv := four_alloc (.int .i64 3) (.int .i64 zn) (.int .i64 zs) (.string E0) 28 w1
  have hr := four_more (four_below (four_drew (four_drew (four_alloc (.int .i64 0) (.int .i64 0) (.int .i64 0) (.string E0) 28 _))) (by simp) (unhide HB1)) (.cells #[.int .i64 3, .int .i64 zn, .int .i64 zs, .string E0] 28)
  simp only [World.size_alloc] at hr
  have hcb : w.heap.size ≤ w.heap.size + 1 + 1 ∧ w.heap.size + 1 + 1 ≠ w1.heap.size := by omega
  have hBW : Below w.heap.size w (w1.alloc (.cells #[.int .i64 3, .int .i64 zn, .int .i64 zs, .string E0] 28)) :=
    ((((((Below.refl _ _).alloc (Nat.le_refl _) _).alloc (by simp) _).alloc (by simp; omega) _).drew.drew).trans ((unhide HB1).mono (by simp; omega))).alloc (by omega) _
  refine wp_region_noPanic ?_
  refine wp_region_held_drew (S := Sv w w1.heap.size zn zs) (by kernel_rfl) ⟨hBW.drew, four_drew hv⟩ (fun hHeld => ?_)
  replace hr := four_drew hr
  revert hHeld hr
  generalize World.drew _ = W2
  intro hHeld hr
  clear HB1 hBW hv hc1 hf1 hmx HCA HCB MA MB RI NZ hIa hIb hIn hwa hwb hm1 hm2 hm3 hpa hpb hsa hsb hna hnb
  cases fa
  · refine wpAnyH_take (i := 0) (oi := ?oi101) (v := ?v101) ?hi101 (by kernel_rfl) (by kernel_rfl) (by kernel_rfl) (fun _ _ _ h => h) (Or.inl ⟨?hw101, ?hy101⟩) (by assumption) ?rest101
    case hi101 => (simp only [List.getElem?_toArray, List.getElem?_cons_zero]; rfl)
    case hw101 => rfl
    case hy101 => first | (intro wx hSw; obtain ⟨_, _, e0, e1, e2, e3, _⟩ := hSw; go_simp; done) | (intro wx hSw; obtain ⟨_, _, e0, e1, e2, e3, _⟩ := hSw; go_simp; with_reducible rfl)
    simp only [Act.put, List.setIfInBounds_toArray, List.set_cons_zero, List.set_cons_succ]
    refine wpAnyH_take (i := 1) (oi := ?oi102) (v := ?v102) ?hi102 (by kernel_rfl) (by kernel_rfl) (by kernel_rfl) (fun _ _ _ h => h) (Or.inl ⟨?hw102, ?hy102⟩) (by assumption) ?rest102
    case hi102 => (simp only [List.getElem?_toArray, List.getElem?_cons_zero, List.getElem?_cons_succ]; rfl)
    case hw102 => rfl
    case hy102 => first | (intro wx hSw; obtain ⟨_, _, e0, e1, e2, e3, _⟩ := hSw; go_simp; done) | (intro wx hSw; obtain ⟨_, _, e0, e1, e2, e3, _⟩ := hSw; go_simp; with_reducible rfl)
    simp only [Act.put, List.setIfInBounds_toArray, List.set_cons_zero, List.set_cons_succ]
    refine wpAnyH_take (i := 2) (oi := ?oi103) (v := ?v103) ?hi103 (by kernel_rfl) (by kernel_rfl) (by kernel_rfl) (fun _ _ _ h => h) (Or.inl ⟨?hw103, ?hy103⟩) (by assumption) ?rest103
    case hi103 => (simp only [List.getElem?_toArray, List.getElem?_cons_zero, List.getElem?_cons_succ]; rfl)
    case hw103 => rfl
    case hy103 => first | (intro wx hSw; obtain ⟨_, _, e0, e1, e2, e3, _⟩ := hSw; go_simp; done) | (intro wx hSw; obtain ⟨_, _, e0, e1, e2, e3, _⟩ := hSw; go_simp; with_reducible rfl)
    simp only [Act.put, List.setIfInBounds_toArray, List.set_cons_zero, List.set_cons_succ]
    refine wpAnyH_take (i := 3) (oi := ?oi104) (v := undef) ?hi104 (by kernel_rfl) (by kernel_rfl) (by kernel_rfl) (fun _ _ _ h => h) (Or.inr ⟨?hw104, rfl⟩) (by assumption) ?rest104
    case hi104 => (simp only [List.getElem?_toArray, List.getElem?_cons_zero, List.getElem?_cons_succ]; rfl)
    case hw104 => rfl
    simp only [Act.put, List.setIfInBounds_toArray, List.set_cons_zero, List.set_cons_succ]
    refine wpAnyH_take (i := 4) (oi := ?oi105) (v := ?v105) ?hi105 (by kernel_rfl) (by kernel_rfl) (by kernel_rfl) (fun _ _ _ h => h) (Or.inl ⟨?hw105, ?hy105⟩) (by assumption) ?rest105
    case hi105 => (simp only [List.getElem?_toArray, List.getElem?_cons_zero, List.getElem?_cons_succ]; rfl)
    case hw105 => rfl
    case hy105 => first | (intro wx hSw; obtain ⟨_, _, e0, e1, e2, e3, _⟩ := hSw; go_simp; done) | (intro wx hSw; obtain ⟨_, _, e0, e1, e2, e3, _⟩ := hSw; go_simp; with_reducible rfl)
    simp only [Act.put, List.setIfInBounds_toArray, List.set_cons_zero, List.set_cons_succ]
    refine wpAnyH_take (i := 5) (oi := ?oi106) (v := ?v106) ?hi106 (by kernel_rfl) (by kernel_rfl) (by kernel_rfl) (fun _ _ _ h => h) (Or.inl ⟨?hw106, ?hy106⟩) (by assumption) ?rest106
    case hi106 => (simp only [List.getElem?_toArray, List.getElem?_cons_zero, List.getElem?_cons_succ]; rfl)
    case hw106 => rfl
    case hy106 => first | (intro wx hSw; obtain ⟨_, _, e0, e1, e2, e3, _⟩ := hSw; go_simp; done) | (intro wx hSw; obtain ⟨_, _, e0, e1, e2, e3, _⟩ := hSw; go_simp; with_reducible rfl)
    simp only [Act.put, List.setIfInBounds_toArray, List.set_cons_zero, List.set_cons_succ]
    refine wpAnyH_take (i := 6) (oi := ?oi107) (v := undef) ?hi107 (by kernel_rfl) (by kernel_rfl) (by kernel_rfl) (fun _ _ _ h => h) (Or.inr ⟨?hw107, rfl⟩) (by assumption) ?rest107
    case hi107 => (simp only [List.getElem?_toArray, List.getElem?_cons_zero, List.getElem?_cons_succ]; rfl)
    case hw107 => rfl
    simp only [Act.put, List.setIfInBounds_toArray, List.set_cons_zero, List.set_cons_succ]
    refine wpAnyH_take (i := 7) (oi := ?oi108) (v := ?v108) ?hi108 (by kernel_rfl) (by kernel_rfl) (by kernel_rfl) (fun _ _ _ h => h) (Or.inl ⟨?hw108, ?hy108⟩) (by assumption) ?rest108
    case hi108 => (simp only [List.getElem?_toArray, List.getElem?_cons_zero, List.getElem?_cons_succ]; rfl)
    case hw108 => rfl
    case hy108 => first | (intro wx hSw; obtain ⟨_, _, e0, e1, e2, e3, _⟩ := hSw; go_simp; done) | (intro wx hSw; obtain ⟨_, _, e0, e1, e2, e3, _⟩ := hSw; go_simp; with_reducible rfl)
    simp only [Act.put, List.setIfInBounds_toArray, List.set_cons_zero, List.set_cons_succ]
    refine wpAnyH_take (i := 8) (oi := ?oi109) (v := ?v109) ?hi109 (by kernel_rfl) (by kernel_rfl) (by kernel_rfl) (fun _ _ _ h => h) (Or.inl ⟨?hw109, ?hy109⟩) (by assumption) ?rest109
    case hi109 => (simp only [List.getElem?_toArray, List.getElem?_cons_zero, List.getElem?_cons_succ]; rfl)
    case hw109 => rfl
    case hy109 => first | (intro wx hSw; obtain ⟨_, _, e0, e1, e2, e3, _⟩ := hSw; go_simp; done) | (intro wx hSw; obtain ⟨_, _, e0, e1, e2, e3, _⟩ := hSw; go_simp; with_reducible rfl)
    simp only [Act.put, List.setIfInBounds_toArray, List.set_cons_zero, List.set_cons_succ]
    refine wpAnyH_take (i := 9) (oi := ?oi110) (v := undef) ?hi110 (by kernel_rfl) (by kernel_rfl) (by kernel_rfl) (fun _ _ _ h => h) (Or.inr ⟨?hw110, rfl⟩) (by assumption) ?rest110
    case hi110 => (simp only [List.getElem?_toArray, List.getElem?_cons_zero, List.getElem?_cons_succ]; rfl)
    case hw110 => rfl
    simp only [Act.put, List.setIfInBounds_toArray, List.set_cons_zero, List.set_cons_succ]
    refine wpAnyH_take (i := 10) (oi := ?oi111) (v := undef) ?hi111 (by kernel_rfl) (by kernel_rfl) (by kernel_rfl) (fun _ _ _ h => h) (Or.inr ⟨?hw111, rfl⟩) (by assumption) ?rest111
    case hi111 => (simp only [List.getElem?_toArray, List.getElem?_cons_zero, List.getElem?_cons_succ]; rfl)
    case hw111 => rfl
    simp only [Act.put, List.setIfInBounds_toArray, List.set_cons_zero, List.set_cons_succ]
    refine wpAnyH_take (i := 11) (oi := ?oi112) (v := ?v112) ?hi112 (by kernel_rfl) (by kernel_rfl) (by kernel_rfl) (fun _ _ _ h => h) (Or.inl ⟨?hw112, ?hy112⟩) (by assumption) ?rest112
    case hi112 => (simp only [List.getElem?_toArray, List.getElem?_cons_zero, List.getElem?_cons_succ]; rfl)
    case hw112 => rfl
    case hy112 => first | (intro wx hSw; obtain ⟨_, _, e0, e1, e2, e3, _⟩ := hSw; go_simp; done) | (intro wx hSw; obtain ⟨_, _, e0, e1, e2, e3, _⟩ := hSw; go_simp; with_reducible rfl)
    simp only [Act.put, List.setIfInBounds_toArray, List.set_cons_zero, List.set_cons_succ]
    refine wpAnyH_ready (rs := [12]) (by kernel_rfl) (by simp) ?_
    refine AllReadyH.cons rfl (fun K113 hK113 => ?_) AllReadyH.nil
    have hrr := hr
    obtain ⟨-, g1, g2, g3, g4, g5, g6, g7, g8⟩ := hrr
    go_simp
    clear g1 g2 g3 g4 g5 g6 g7 g8
    refine hK113.out _ _ ?hs113 (fun hHeld113 => ?_)
    case hs113 => exact sv_set hcb hHeld _ _ _ _
    clear hHeld
    have hHeld := hHeld113; clear hHeld113 hK113 K113
    refine wpAnyH_take (i := 13) (oi := ?oi114) (v := ?v114) ?hi114 (by kernel_rfl) (by kernel_rfl) (by kernel_rfl) (fun _ _ _ h => h) (Or.inl ⟨?hw114, ?hy114⟩) (by assumption) ?rest114
    case hi114 => (simp only [List.getElem?_toArray, List.getElem?_cons_zero, List.getElem?_cons_succ]; rfl)
    case hw114 => rfl
    case hy114 => first | (intro wx hSw; obtain ⟨_, _, e0, e1, e2, e3, _⟩ := hSw; go_simp; done) | (intro wx hSw; obtain ⟨_, _, e0, e1, e2, e3, _⟩ := hSw; go_simp; with_reducible rfl)
    simp only [Act.put, List.setIfInBounds_toArray, List.set_cons_zero, List.set_cons_succ]
    refine wpAnyH_done (by kernel_rfl) ?_ _
    refine NoPanic.normal ?_
    refine hrest _ _ ?_
    go_wp2
    have hr4 := four_set hr (.int .i64 3) (.int .i64 zn) (.int .i64 zs) (.string E0)
    obtain ⟨-, g1, g2, g3, g4, -⟩ := hr4
    exact bodyPost_ret (v := .tuple #[V 3 zn zs E0, .bool false]) (by simp [results, Try.results85, go_sem, g1, g2, g3, g4]) rfl ⟨retT ⟨rfl, rfl⟩ (by simp), hHeld.1⟩
  cases fb
  · refine wpAnyH_take (i := 0) (oi := ?oi115) (v := ?v115) ?hi115 (by kernel_rfl) (by kernel_rfl) (by kernel_rfl) (fun _ _ _ h => h) (Or.inl ⟨?hw115, ?hy115⟩) (by assumption) ?rest115
    case hi115 => (simp only [List.getElem?_toArray, List.getElem?_cons_zero]; rfl)
    case hw115 => rfl
    case hy115 => first | (intro wx hSw; obtain ⟨_, _, e0, e1, e2, e3, _⟩ := hSw; go_simp; done) | (intro wx hSw; obtain ⟨_, _, e0, e1, e2, e3, _⟩ := hSw; go_simp; with_reducible rfl)
    simp only [Act.put, List.setIfInBounds_toArray, List.set_cons_zero, List.set_cons_succ]
    refine wpAnyH_take (i := 1) (oi := ?oi116) (v := ?v116) ?hi116 (by kernel_rfl) (by kernel_rfl) (by kernel_rfl) (fun _ _ _ h => h) (Or.inl ⟨?hw116, ?hy116⟩) (by assumption) ?rest116
    case hi116 => (simp only [List.getElem?_toArray, List.getElem?_cons_zero, List.getElem?_cons_succ]; rfl)
    case hw116 => rfl
    case hy116 => first | (intro wx hSw; obtain ⟨_, _, e0, e1, e2, e3, _⟩ := hSw; go_simp; done) | (intro wx hSw; obtain ⟨_, _, e0, e1, e2, e3, _⟩ := hSw; go_simp; with_reducible rfl)
    simp only [Act.put, List.setIfInBounds_toArray, List.set_cons_zero, List.set_cons_succ]
    refine wpAnyH_take (i := 2) (oi := ?oi117) (v := ?v117) ?hi117 (by kernel_rfl) (by kernel_rfl) (by kernel_rfl) (fun _ _ _ h => h) (Or.inl ⟨?hw117, ?hy117⟩) (by assumption) ?rest117
    case hi117 => (simp only [List.getElem?_toArray, List.getElem?_cons_zero, List.getElem?_cons_succ]; rfl)
    case hw117 => rfl
    case hy117 => first | (intro wx hSw; obtain ⟨_, _, e0, e1, e2, e3, _⟩ := hSw; go_simp; done) | (intro wx hSw; obtain ⟨_, _, e0, e1, e2, e3, _⟩ := hSw; go_simp; with_reducible rfl)
    simp only [Act.put, List.setIfInBounds_toArray, List.set_cons_zero, List.set_cons_succ]
    refine wpAnyH_take (i := 3) (oi := ?oi118) (v := ?v118) ?hi118 (by kernel_rfl) (by kernel_rfl) (by kernel_rfl) (fun _ _ _ h => h) (Or.inl ⟨?hw118, ?hy118⟩) (by assumption) ?rest118
    case hi118 => (simp only [List.getElem?_toArray, List.getElem?_cons_zero, List.getElem?_cons_succ]; rfl)
    case hw118 => rfl
    case hy118 => first | (intro wx hSw; obtain ⟨_, _, e0, e1, e2, e3, _⟩ := hSw; go_simp; done) | (intro wx hSw; obtain ⟨_, _, e0, e1, e2, e3, _⟩ := hSw; go_simp; with_reducible rfl)
    simp only [Act.put, List.setIfInBounds_toArray, List.set_cons_zero, List.set_cons_succ]
    refine wpAnyH_take (i := 4) (oi := ?oi119) (v := ?v119) ?hi119 (by kernel_rfl) (by kernel_rfl) (by kernel_rfl) (fun _ _ _ h => h) (Or.inl ⟨?hw119, ?hy119⟩) (by assumption) ?rest119
    case hi119 => (simp only [List.getElem?_toArray, List.getElem?_cons_zero, List.getElem?_cons_succ]; rfl)
    case hw119 => rfl
    case hy119 => first | (intro wx hSw; obtain ⟨_, _, e0, e1, e2, e3, _⟩ := hSw; go_simp; done) | (intro wx hSw; obtain ⟨_, _, e0, e1, e2, e3, _⟩ := hSw; go_simp; with_reducible rfl)
    simp only [Act.put, List.setIfInBounds_toArray, List.set_cons_zero, List.set_cons_succ]
    refine wpAnyH_take (i := 5) (oi := ?oi120) (v := ?v120) ?hi120 (by kernel_rfl) (by kernel_rfl) (by kernel_rfl) (fun _ _ _ h => h) (Or.inl ⟨?hw120, ?hy120⟩) (by assumption) ?rest120
    case hi120 => (simp only [List.getElem?_toArray, List.getElem?_cons_zero, List.getElem?_cons_succ]; rfl)
    case hw120 => rfl
    case hy120 => first | (intro wx hSw; obtain ⟨_, _, e0, e1, e2, e3, _⟩ := hSw; go_simp; done) | (intro wx hSw; obtain ⟨_, _, e0, e1, e2, e3, _⟩ := hSw; go_simp; with_reducible rfl)
    simp only [Act.put, List.setIfInBounds_toArray, List.set_cons_zero, List.set_cons_succ]
    refine wpAnyH_take (i := 6) (oi := ?oi121) (v := undef) ?hi121 (by kernel_rfl) (by kernel_rfl) (by kernel_rfl) (fun _ _ _ h => h) (Or.inr ⟨?hw121, rfl⟩) (by assumption) ?rest121
    case hi121 => (simp only [List.getElem?_toArray, List.getElem?_cons_zero, List.getElem?_cons_succ]; rfl)
    case hw121 => rfl
    simp only [Act.put, List.setIfInBounds_toArray, List.set_cons_zero, List.set_cons_succ]
    refine wpAnyH_take (i := 7) (oi := ?oi122) (v := ?v122) ?hi122 (by kernel_rfl) (by kernel_rfl) (by kernel_rfl) (fun _ _ _ h => h) (Or.inl ⟨?hw122, ?hy122⟩) (by assumption) ?rest122
    case hi122 => (simp only [List.getElem?_toArray, List.getElem?_cons_zero, List.getElem?_cons_succ]; rfl)
    case hw122 => rfl
    case hy122 => first | (intro wx hSw; obtain ⟨_, _, e0, e1, e2, e3, _⟩ := hSw; go_simp; done) | (intro wx hSw; obtain ⟨_, _, e0, e1, e2, e3, _⟩ := hSw; go_simp; with_reducible rfl)
    simp only [Act.put, List.setIfInBounds_toArray, List.set_cons_zero, List.set_cons_succ]
    refine wpAnyH_take (i := 8) (oi := ?oi123) (v := ?v123) ?hi123 (by kernel_rfl) (by kernel_rfl) (by kernel_rfl) (fun _ _ _ h => h) (Or.inl ⟨?hw123, ?hy123⟩) (by assumption) ?rest123
    case hi123 => (simp only [List.getElem?_toArray, List.getElem?_cons_zero, List.getElem?_cons_succ]; rfl)
    case hw123 => rfl
    case hy123 => first | (intro wx hSw; obtain ⟨_, _, e0, e1, e2, e3, _⟩ := hSw; go_simp; done) | (intro wx hSw; obtain ⟨_, _, e0, e1, e2, e3, _⟩ := hSw; go_simp; with_reducible rfl)
    simp only [Act.put, List.setIfInBounds_toArray, List.set_cons_zero, List.set_cons_succ]
    refine wpAnyH_take (i := 9) (oi := ?oi124) (v := undef) ?hi124 (by kernel_rfl) (by kernel_rfl) (by kernel_rfl) (fun _ _ _ h => h) (Or.inr ⟨?hw124, rfl⟩) (by assumption) ?rest124
    case hi124 => (simp only [List.getElem?_toArray, List.getElem?_cons_zero, List.getElem?_cons_succ]; rfl)
    case hw124 => rfl
    simp only [Act.put, List.setIfInBounds_toArray, List.set_cons_zero, List.set_cons_succ]
    refine wpAnyH_take (i := 10) (oi := ?oi125) (v := undef) ?hi125 (by kernel_rfl) (by kernel_rfl) (by kernel_rfl) (fun _ _ _ h => h) (Or.inr ⟨?hw125, rfl⟩) (by assumption) ?rest125
    case hi125 => (simp only [List.getElem?_toArray, List.getElem?_cons_zero, List.getElem?_cons_succ]; rfl)
    case hw125 => rfl
    simp only [Act.put, List.setIfInBounds_toArray, List.set_cons_zero, List.set_cons_succ]
    refine wpAnyH_take (i := 11) (oi := ?oi126) (v := ?v126) ?hi126 (by kernel_rfl) (by kernel_rfl) (by kernel_rfl) (fun _ _ _ h => h) (Or.inl ⟨?hw126, ?hy126⟩) (by assumption) ?rest126
    case hi126 => (simp only [List.getElem?_toArray, List.getElem?_cons_zero, List.getElem?_cons_succ]; rfl)
    case hw126 => rfl
    case hy126 => first | (intro wx hSw; obtain ⟨_, _, e0, e1, e2, e3, _⟩ := hSw; go_simp; done) | (intro wx hSw; obtain ⟨_, _, e0, e1, e2, e3, _⟩ := hSw; go_simp; with_reducible rfl)
    simp only [Act.put, List.setIfInBounds_toArray, List.set_cons_zero, List.set_cons_succ]
    refine wpAnyH_ready (rs := [12]) (by kernel_rfl) (by simp) ?_
    refine AllReadyH.cons rfl (fun K127 hK127 => ?_) AllReadyH.nil
    have hrr := hr
    obtain ⟨-, g1, g2, g3, g4, g5, g6, g7, g8⟩ := hrr
    go_simp
    clear g1 g2 g3 g4 g5 g6 g7 g8
    refine hK127.out _ _ ?hs127 (fun hHeld127 => ?_)
    case hs127 => exact sv_set hcb hHeld _ _ _ _
    clear hHeld
    have hHeld := hHeld127; clear hHeld127 hK127 K127
    refine wpAnyH_take (i := 13) (oi := ?oi128) (v := ?v128) ?hi128 (by kernel_rfl) (by kernel_rfl) (by kernel_rfl) (fun _ _ _ h => h) (Or.inl ⟨?hw128, ?hy128⟩) (by assumption) ?rest128
    case hi128 => (simp only [List.getElem?_toArray, List.getElem?_cons_zero, List.getElem?_cons_succ]; rfl)
    case hw128 => rfl
    case hy128 => first | (intro wx hSw; obtain ⟨_, _, e0, e1, e2, e3, _⟩ := hSw; go_simp; done) | (intro wx hSw; obtain ⟨_, _, e0, e1, e2, e3, _⟩ := hSw; go_simp; with_reducible rfl)
    simp only [Act.put, List.setIfInBounds_toArray, List.set_cons_zero, List.set_cons_succ]
    refine wpAnyH_done (by kernel_rfl) ?_ _
    refine NoPanic.normal ?_
    refine hrest _ _ ?_
    go_wp2
    have hr4 := four_set hr (.int .i64 3) (.int .i64 zn) (.int .i64 zs) (.string E0)
    obtain ⟨-, g1, g2, g3, g4, -⟩ := hr4
    exact bodyPost_ret (v := .tuple #[V 3 zn zs E0, .bool false]) (by simp [results, Try.results85, go_sem, g1, g2, g3, g4]) rfl ⟨retT ⟨rfl, rfl⟩ (by simp), hHeld.1⟩
  cases fz
  · refine wpAnyH_take (i := 0) (oi := ?oi129) (v := ?v129) ?hi129 (by kernel_rfl) (by kernel_rfl) (by kernel_rfl) (fun _ _ _ h => h) (Or.inl ⟨?hw129, ?hy129⟩) (by assumption) ?rest129
    case hi129 => (simp only [List.getElem?_toArray, List.getElem?_cons_zero]; rfl)
    case hw129 => rfl
    case hy129 => first | (intro wx hSw; obtain ⟨_, _, e0, e1, e2, e3, _⟩ := hSw; go_simp; done) | (intro wx hSw; obtain ⟨_, _, e0, e1, e2, e3, _⟩ := hSw; go_simp; with_reducible rfl)
    simp only [Act.put, List.setIfInBounds_toArray, List.set_cons_zero, List.set_cons_succ]
    refine wpAnyH_take (i := 1) (oi := ?oi130) (v := ?v130) ?hi130 (by kernel_rfl) (by kernel_rfl) (by kernel_rfl) (fun _ _ _ h => h) (Or.inl ⟨?hw130, ?hy130⟩) (by assumption) ?rest130
    case hi130 => (simp only [List.getElem?_toArray, List.getElem?_cons_zero, List.getElem?_cons_succ]; rfl)
    case hw130 => rfl
    case hy130 => first | (intro wx hSw; obtain ⟨_, _, e0, e1, e2, e3, _⟩ := hSw; go_simp; done) | (intro wx hSw; obtain ⟨_, _, e0, e1, e2, e3, _⟩ := hSw; go_simp; with_reducible rfl)
    simp only [Act.put, List.setIfInBounds_toArray, List.set_cons_zero, List.set_cons_succ]
    refine wpAnyH_take (i := 2) (oi := ?oi131) (v := ?v131) ?hi131 (by kernel_rfl) (by kernel_rfl) (by kernel_rfl) (fun _ _ _ h => h) (Or.inl ⟨?hw131, ?hy131⟩) (by assumption) ?rest131
    case hi131 => (simp only [List.getElem?_toArray, List.getElem?_cons_zero, List.getElem?_cons_succ]; rfl)
    case hw131 => rfl
    case hy131 => first | (intro wx hSw; obtain ⟨_, _, e0, e1, e2, e3, _⟩ := hSw; go_simp; done) | (intro wx hSw; obtain ⟨_, _, e0, e1, e2, e3, _⟩ := hSw; go_simp; with_reducible rfl)
    simp only [Act.put, List.setIfInBounds_toArray, List.set_cons_zero, List.set_cons_succ]
    refine wpAnyH_take (i := 3) (oi := ?oi132) (v := ?v132) ?hi132 (by kernel_rfl) (by kernel_rfl) (by kernel_rfl) (fun _ _ _ h => h) (Or.inl ⟨?hw132, ?hy132⟩) (by assumption) ?rest132
    case hi132 => (simp only [List.getElem?_toArray, List.getElem?_cons_zero, List.getElem?_cons_succ]; rfl)
    case hw132 => rfl
    case hy132 => first | (intro wx hSw; obtain ⟨_, _, e0, e1, e2, e3, _⟩ := hSw; go_simp; done) | (intro wx hSw; obtain ⟨_, _, e0, e1, e2, e3, _⟩ := hSw; go_simp; with_reducible rfl)
    simp only [Act.put, List.setIfInBounds_toArray, List.set_cons_zero, List.set_cons_succ]
    refine wpAnyH_take (i := 4) (oi := ?oi133) (v := ?v133) ?hi133 (by kernel_rfl) (by kernel_rfl) (by kernel_rfl) (fun _ _ _ h => h) (Or.inl ⟨?hw133, ?hy133⟩) (by assumption) ?rest133
    case hi133 => (simp only [List.getElem?_toArray, List.getElem?_cons_zero, List.getElem?_cons_succ]; rfl)
    case hw133 => rfl
    case hy133 => first | (intro wx hSw; obtain ⟨_, _, e0, e1, e2, e3, _⟩ := hSw; go_simp; done) | (intro wx hSw; obtain ⟨_, _, e0, e1, e2, e3, _⟩ := hSw; go_simp; with_reducible rfl)
    simp only [Act.put, List.setIfInBounds_toArray, List.set_cons_zero, List.set_cons_succ]
    refine wpAnyH_take (i := 5) (oi := ?oi134) (v := ?v134) ?hi134 (by kernel_rfl) (by kernel_rfl) (by kernel_rfl) (fun _ _ _ h => h) (Or.inl ⟨?hw134, ?hy134⟩) (by assumption) ?rest134
    case hi134 => (simp only [List.getElem?_toArray, List.getElem?_cons_zero, List.getElem?_cons_succ]; rfl)
    case hw134 => rfl
    case hy134 => first | (intro wx hSw; obtain ⟨_, _, e0, e1, e2, e3, _⟩ := hSw; go_simp; done) | (intro wx hSw; obtain ⟨_, _, e0, e1, e2, e3, _⟩ := hSw; go_simp; with_reducible rfl)
    simp only [Act.put, List.setIfInBounds_toArray, List.set_cons_zero, List.set_cons_succ]
    refine wpAnyH_take (i := 6) (oi := ?oi135) (v := ?v135) ?hi135 (by kernel_rfl) (by kernel_rfl) (by kernel_rfl) (fun _ _ _ h => h) (Or.inl ⟨?hw135, ?hy135⟩) (by assumption) ?rest135
    case hi135 => (simp only [List.getElem?_toArray, List.getElem?_cons_zero, List.getElem?_cons_succ]; rfl)
    case hw135 => rfl
    case hy135 => first | (intro wx hSw; obtain ⟨_, _, e0, e1, e2, e3, _⟩ := hSw; go_simp; done) | (intro wx hSw; obtain ⟨_, _, e0, e1, e2, e3, _⟩ := hSw; go_simp; with_reducible rfl)
    simp only [Act.put, List.setIfInBounds_toArray, List.set_cons_zero, List.set_cons_succ]
    refine wpAnyH_take (i := 7) (oi := ?oi136) (v := ?v136) ?hi136 (by kernel_rfl) (by kernel_rfl) (by kernel_rfl) (fun _ _ _ h => h) (Or.inl ⟨?hw136, ?hy136⟩) (by assumption) ?rest136
    case hi136 => (simp only [List.getElem?_toArray, List.getElem?_cons_zero, List.getElem?_cons_succ]; rfl)
    case hw136 => rfl
    case hy136 => first | (intro wx hSw; obtain ⟨_, _, e0, e1, e2, e3, _⟩ := hSw; go_simp; done) | (intro wx hSw; obtain ⟨_, _, e0, e1, e2, e3, _⟩ := hSw; go_simp; with_reducible rfl)
    simp only [Act.put, List.setIfInBounds_toArray, List.set_cons_zero, List.set_cons_succ]
    refine wpAnyH_take (i := 8) (oi := ?oi137) (v := ?v137) ?hi137 (by kernel_rfl) (by kernel_rfl) (by kernel_rfl) (fun _ _ _ h => h) (Or.inl ⟨?hw137, ?hy137⟩) (by assumption) ?rest137
    case hi137 => (simp only [List.getElem?_toArray, List.getElem?_cons_zero, List.getElem?_cons_succ]; rfl)
    case hw137 => rfl
    case hy137 => first | (intro wx hSw; obtain ⟨_, _, e0, e1, e2, e3, _⟩ := hSw; go_simp; done) | (intro wx hSw; obtain ⟨_, _, e0, e1, e2, e3, _⟩ := hSw; go_simp; with_reducible rfl)
    simp only [Act.put, List.setIfInBounds_toArray, List.set_cons_zero, List.set_cons_succ]
    refine wpAnyH_take (i := 9) (oi := ?oi138) (v := undef) ?hi138 (by kernel_rfl) (by kernel_rfl) (by kernel_rfl) (fun _ _ _ h => h) (Or.inr ⟨?hw138, rfl⟩) (by assumption) ?rest138
    case hi138 => (simp only [List.getElem?_toArray, List.getElem?_cons_zero, List.getElem?_cons_succ]; rfl)
    case hw138 => rfl
    simp only [Act.put, List.setIfInBounds_toArray, List.set_cons_zero, List.set_cons_succ]
    refine wpAnyH_take (i := 10) (oi := ?oi139) (v := undef) ?hi139 (by kernel_rfl) (by kernel_rfl) (by kernel_rfl) (fun _ _ _ h => h) (Or.inr ⟨?hw139, rfl⟩) (by assumption) ?rest139
    case hi139 => (simp only [List.getElem?_toArray, List.getElem?_cons_zero, List.getElem?_cons_succ]; rfl)
    case hw139 => rfl
    simp only [Act.put, List.setIfInBounds_toArray, List.set_cons_zero, List.set_cons_succ]
    refine wpAnyH_take (i := 11) (oi := ?oi140) (v := ?v140) ?hi140 (by kernel_rfl) (by kernel_rfl) (by kernel_rfl) (fun _ _ _ h => h) (Or.inl ⟨?hw140, ?hy140⟩) (by assumption) ?rest140
    case hi140 => (simp only [List.getElem?_toArray, List.getElem?_cons_zero, List.getElem?_cons_succ]; rfl)
    case hw140 => rfl
    case hy140 => first | (intro wx hSw; obtain ⟨_, _, e0, e1, e2, e3, _⟩ := hSw; go_simp; done) | (intro wx hSw; obtain ⟨_, _, e0, e1, e2, e3, _⟩ := hSw; go_simp; with_reducible rfl)
    simp only [Act.put, List.setIfInBounds_toArray, List.set_cons_zero, List.set_cons_succ]
    refine wpAnyH_ready (rs := [12]) (by kernel_rfl) (by simp) ?_
    refine AllReadyH.cons rfl (fun K141 hK141 => ?_) AllReadyH.nil
    have hrr := hr
    obtain ⟨-, g1, g2, g3, g4, g5, g6, g7, g8⟩ := hrr
    go_simp
    clear g1 g2 g3 g4 g5 g6 g7 g8
    refine hK141.out _ _ ?hs141 (fun hHeld141 => ?_)
    case hs141 => exact sv_set hcb hHeld _ _ _ _
    clear hHeld
    have hHeld := hHeld141; clear hHeld141 hK141 K141
    refine wpAnyH_take (i := 13) (oi := ?oi142) (v := ?v142) ?hi142 (by kernel_rfl) (by kernel_rfl) (by kernel_rfl) (fun _ _ _ h => h) (Or.inl ⟨?hw142, ?hy142⟩) (by assumption) ?rest142
    case hi142 => (simp only [List.getElem?_toArray, List.getElem?_cons_zero, List.getElem?_cons_succ]; rfl)
    case hw142 => rfl
    case hy142 => first | (intro wx hSw; obtain ⟨_, _, e0, e1, e2, e3, _⟩ := hSw; go_simp; done) | (intro wx hSw; obtain ⟨_, _, e0, e1, e2, e3, _⟩ := hSw; go_simp; with_reducible rfl)
    simp only [Act.put, List.setIfInBounds_toArray, List.set_cons_zero, List.set_cons_succ]
    refine wpAnyH_done (by kernel_rfl) ?_ _
    refine NoPanic.normal ?_
    refine hrest _ _ ?_
    go_wp2
    have hr4 := four_set hr (.int .i64 3) (.int .i64 zn) (.int .i64 zs) (.string E0)
    obtain ⟨-, g1, g2, g3, g4, -⟩ := hr4
    exact bodyPost_ret (v := .tuple #[V 3 zn zs E0, .bool false]) (by simp [results, Try.results85, go_sem, g1, g2, g3, g4]) rfl ⟨retT ⟨rfl, rfl⟩ (by simp), hHeld.1⟩
  refine wpAnyH_take (i := 0) (oi := ?oi143) (v := ?v143) ?hi143 (by kernel_rfl) (by kernel_rfl) (by kernel_rfl) (fun _ _ _ h => h) (Or.inl ⟨?hw143, ?hy143⟩) (by assumption) ?rest143
  case hi143 => (simp only [List.getElem?_toArray, List.getElem?_cons_zero]; rfl)
  case hw143 => rfl
  case hy143 => first | (intro wx hSw; obtain ⟨_, _, e0, e1, e2, e3, _⟩ := hSw; go_simp; done) | (intro wx hSw; obtain ⟨_, _, e0, e1, e2, e3, _⟩ := hSw; go_simp; with_reducible rfl)
  simp only [Act.put, List.setIfInBounds_toArray, List.set_cons_zero, List.set_cons_succ]
  refine wpAnyH_take (i := 1) (oi := ?oi144) (v := ?v144) ?hi144 (by kernel_rfl) (by kernel_rfl) (by kernel_rfl) (fun _ _ _ h => h) (Or.inl ⟨?hw144, ?hy144⟩) (by assumption) ?rest144
  case hi144 => (simp only [List.getElem?_toArray, List.getElem?_cons_zero, List.getElem?_cons_succ]; rfl)
  case hw144 => rfl
  case hy144 => first | (intro wx hSw; obtain ⟨_, _, e0, e1, e2, e3, _⟩ := hSw; go_simp; done) | (intro wx hSw; obtain ⟨_, _, e0, e1, e2, e3, _⟩ := hSw; go_simp; with_reducible rfl)
  simp only [Act.put, List.setIfInBounds_toArray, List.set_cons_zero, List.set_cons_succ]
  refine wpAnyH_take (i := 2) (oi := ?oi145) (v := ?v145) ?hi145 (by kernel_rfl) (by kernel_rfl) (by kernel_rfl) (fun _ _ _ h => h) (Or.inl ⟨?hw145, ?hy145⟩) (by assumption) ?rest145
  case hi145 => (simp only [List.getElem?_toArray, List.getElem?_cons_zero, List.getElem?_cons_succ]; rfl)
  case hw145 => rfl
  case hy145 => first | (intro wx hSw; obtain ⟨_, _, e0, e1, e2, e3, _⟩ := hSw; go_simp; done) | (intro wx hSw; obtain ⟨_, _, e0, e1, e2, e3, _⟩ := hSw; go_simp; with_reducible rfl)
  simp only [Act.put, List.setIfInBounds_toArray, List.set_cons_zero, List.set_cons_succ]
  refine wpAnyH_take (i := 3) (oi := ?oi146) (v := ?v146) ?hi146 (by kernel_rfl) (by kernel_rfl) (by kernel_rfl) (fun _ _ _ h => h) (Or.inl ⟨?hw146, ?hy146⟩) (by assumption) ?rest146
  case hi146 => (simp only [List.getElem?_toArray, List.getElem?_cons_zero, List.getElem?_cons_succ]; rfl)
  case hw146 => rfl
  case hy146 => first | (intro wx hSw; obtain ⟨_, _, e0, e1, e2, e3, _⟩ := hSw; go_simp; done) | (intro wx hSw; obtain ⟨_, _, e0, e1, e2, e3, _⟩ := hSw; go_simp; with_reducible rfl)
  simp only [Act.put, List.setIfInBounds_toArray, List.set_cons_zero, List.set_cons_succ]
  refine wpAnyH_take (i := 4) (oi := ?oi147) (v := ?v147) ?hi147 (by kernel_rfl) (by kernel_rfl) (by kernel_rfl) (fun _ _ _ h => h) (Or.inl ⟨?hw147, ?hy147⟩) (by assumption) ?rest147
  case hi147 => (simp only [List.getElem?_toArray, List.getElem?_cons_zero, List.getElem?_cons_succ]; rfl)
  case hw147 => rfl
  case hy147 => first | (intro wx hSw; obtain ⟨_, _, e0, e1, e2, e3, _⟩ := hSw; go_simp; done) | (intro wx hSw; obtain ⟨_, _, e0, e1, e2, e3, _⟩ := hSw; go_simp; with_reducible rfl)
  simp only [Act.put, List.setIfInBounds_toArray, List.set_cons_zero, List.set_cons_succ]
  refine wpAnyH_take (i := 5) (oi := ?oi148) (v := ?v148) ?hi148 (by kernel_rfl) (by kernel_rfl) (by kernel_rfl) (fun _ _ _ h => h) (Or.inl ⟨?hw148, ?hy148⟩) (by assumption) ?rest148
  case hi148 => (simp only [List.getElem?_toArray, List.getElem?_cons_zero, List.getElem?_cons_succ]; rfl)
  case hw148 => rfl
  case hy148 => first | (intro wx hSw; obtain ⟨_, _, e0, e1, e2, e3, _⟩ := hSw; go_simp; done) | (intro wx hSw; obtain ⟨_, _, e0, e1, e2, e3, _⟩ := hSw; go_simp; with_reducible rfl)
  simp only [Act.put, List.setIfInBounds_toArray, List.set_cons_zero, List.set_cons_succ]
  refine wpAnyH_take (i := 6) (oi := ?oi149) (v := ?v149) ?hi149 (by kernel_rfl) (by kernel_rfl) (by kernel_rfl) (fun _ _ _ h => h) (Or.inl ⟨?hw149, ?hy149⟩) (by assumption) ?rest149
  case hi149 => (simp only [List.getElem?_toArray, List.getElem?_cons_zero, List.getElem?_cons_succ]; rfl)
  case hw149 => rfl
  case hy149 => first | (intro wx hSw; obtain ⟨_, _, e0, e1, e2, e3, _⟩ := hSw; go_simp; done) | (intro wx hSw; obtain ⟨_, _, e0, e1, e2, e3, _⟩ := hSw; go_simp; with_reducible rfl)
  simp only [Act.put, List.setIfInBounds_toArray, List.set_cons_zero, List.set_cons_succ]
  refine wpAnyH_take (i := 7) (oi := ?oi150) (v := ?v150) ?hi150 (by kernel_rfl) (by kernel_rfl) (by kernel_rfl) (fun _ _ _ h => h) (Or.inl ⟨?hw150, ?hy150⟩) (by assumption) ?rest150
  case hi150 => (simp only [List.getElem?_toArray, List.getElem?_cons_zero, List.getElem?_cons_succ]; rfl)
  case hw150 => rfl
  case hy150 => first | (intro wx hSw; obtain ⟨_, _, e0, e1, e2, e3, _⟩ := hSw; go_simp; done) | (intro wx hSw; obtain ⟨_, _, e0, e1, e2, e3, _⟩ := hSw; go_simp; with_reducible rfl)
  simp only [Act.put, List.setIfInBounds_toArray, List.set_cons_zero, List.set_cons_succ]
  refine wpAnyH_take (i := 8) (oi := ?oi151) (v := ?v151) ?hi151 (by kernel_rfl) (by kernel_rfl) (by kernel_rfl) (fun _ _ _ h => h) (Or.inl ⟨?hw151, ?hy151⟩) (by assumption) ?rest151
  case hi151 => (simp only [List.getElem?_toArray, List.getElem?_cons_zero, List.getElem?_cons_succ]; rfl)
  case hw151 => rfl
  case hy151 => first | (intro wx hSw; obtain ⟨_, _, e0, e1, e2, e3, _⟩ := hSw; go_simp; done) | (intro wx hSw; obtain ⟨_, _, e0, e1, e2, e3, _⟩ := hSw; go_simp; with_reducible rfl)
  simp only [Act.put, List.setIfInBounds_toArray, List.set_cons_zero, List.set_cons_succ]
  refine wpAnyH_take (i := 9) (oi := ?oi152) (v := ?v152) ?hi152 (by kernel_rfl) (by kernel_rfl) (by kernel_rfl) (fun _ _ _ h => h) (Or.inl ⟨?hw152, ?hy152⟩) (by assumption) ?rest152
  case hi152 => (simp only [List.getElem?_toArray, List.getElem?_cons_zero, List.getElem?_cons_succ]; rfl)
  case hw152 => rfl
  case hy152 => first | (intro wx hSw; obtain ⟨_, _, e0, e1, e2, e3, _⟩ := hSw; go_simp; done) | (intro wx hSw; obtain ⟨_, _, e0, e1, e2, e3, _⟩ := hSw; go_simp; with_reducible rfl)
  simp only [Act.put, List.setIfInBounds_toArray, List.set_cons_zero, List.set_cons_succ]
  refine wpAnyH_ready (rs := [10]) (by kernel_rfl) (by simp) ?_
  refine AllReadyH.cons rfl (fun K153 hK153 => ?_) AllReadyH.nil
  go_simp
  go_wp2_with (go_at_call 95; refine (unhide RZ _).mono ?_; rintro e w2 ⟨rfl, hb2⟩)
  refine hK153.out _ _ ?hs153 (fun hHeld153 => ?_)
  case hs153 => exact sv_call hHeld hb2
  have hr2 := four_call hr hb2
  clear hHeld
  have hHeld := hHeld153; clear hHeld153 hK153 K153
  refine wpAnyH_take (i := 11) (oi := ?oi154) (v := ?v154) ?hi154 (by kernel_rfl) (by kernel_rfl) (by kernel_rfl) (fun _ _ _ h => h) (Or.inl ⟨?hw154, ?hy154⟩) (by assumption) ?rest154
  case hi154 => (simp only [List.getElem?_toArray, List.getElem?_cons_zero, List.getElem?_cons_succ]; rfl)
  case hw154 => rfl
  case hy154 => first | (intro wx hSw; obtain ⟨_, _, e0, e1, e2, e3, _⟩ := hSw; go_simp; done) | (intro wx hSw; obtain ⟨_, _, e0, e1, e2, e3, _⟩ := hSw; go_simp; with_reducible rfl)
  simp only [Act.put, List.setIfInBounds_toArray, List.set_cons_zero, List.set_cons_succ]
  refine wpAnyH_ready (rs := [12]) (by kernel_rfl) (by simp) ?_
  refine AllReadyH.cons rfl (fun K155 hK155 => ?_) AllReadyH.nil
  have hrr := hr2
  obtain ⟨-, g1, g2, g3, g4, g5, g6, g7, g8⟩ := hrr
  go_simp
  clear g1 g2 g3 g4 g5 g6 g7 g8
  refine hK155.out _ _ ?hs155 (fun hHeld155 => ?_)
  case hs155 => exact sv_set hcb hHeld _ _ _ _
  clear hHeld
  have hHeld := hHeld155; clear hHeld155 hK155 K155
  refine wpAnyH_take (i := 13) (oi := ?oi156) (v := ?v156) ?hi156 (by kernel_rfl) (by kernel_rfl) (by kernel_rfl) (fun _ _ _ h => h) (Or.inl ⟨?hw156, ?hy156⟩) (by assumption) ?rest156
  case hi156 => (simp only [List.getElem?_toArray, List.getElem?_cons_zero, List.getElem?_cons_succ]; rfl)
  case hw156 => rfl
  case hy156 => first | (intro wx hSw; obtain ⟨_, _, e0, e1, e2, e3, _⟩ := hSw; go_simp; done) | (intro wx hSw; obtain ⟨_, _, e0, e1, e2, e3, _⟩ := hSw; go_simp; with_reducible rfl)
  simp only [Act.put, List.setIfInBounds_toArray, List.set_cons_zero, List.set_cons_succ]
  refine wpAnyH_done (by kernel_rfl) ?_ _
  refine NoPanic.normal ?_
  refine hrest _ _ ?_
  go_wp2
  have hr4 := four_set hr2 (.int .i64 3) (.int .i64 zn) (.int .i64 zs) (.string E0)
  obtain ⟨-, g1, g2, g3, g4, -⟩ := hr4
  exact bodyPost_ret (v := .tuple #[V 3 zn zs E0, .bool (rightB 3 zn zs E0)]) (by simp [results, Try.results85, go_sem, g1, g2, g3, g4]) rfl ⟨retT ⟨rfl, rfl⟩ (by simp [right_dec]), hHeld.1⟩
end Go.Proofs.Ytliefgkhpgigaaa
