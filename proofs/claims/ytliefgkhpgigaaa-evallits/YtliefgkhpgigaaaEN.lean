/-
  What package eval's fold returns of values: an expression's fold, whatever the expression.
-/
import Derived.Test.YtliefgkhpgigaaaEK
import Derived.Test.YtliefgkhpgigaaaEL
import Derived.Test.YtliefgkhpgigaaaEM
namespace Go.Proofs.Ytliefgkhpgigaaa
open Go.RowKit
set_option linter.unusedSimpArgs false
set_option linter.unusedVariables false

theorem pass_allV (f : Ex → V4 → V4 → V4 × Int) (Pd : Ex → Prop) (Pv : V4 → Prop) (hz : Pv Z4) (hPd : ∀ (r : Fr V4) c, r.kid = some c → Pd r.e → Pd c) (hPf : ∀ r a b, Pd r → Pv a → Pv b → Pv (f r a b).1) (bt br : Nat) (e0 : Ex) (lv0 : Value) (w : World) (HOF : Hid (HOfV f Pd Pv bt br w)) (r0 c : Code) (hc : Try.f44.body = some (.seq r0 (.scope c)))
    (l n : Nat) (a : Act) (W : World)
    (fall : ∀ l' n' a' w', n' < n → J44 w bt br e0 lv0 Pd Pv f l' n' a' w' → ∀ rest, findLabel c l' = some (.seq .skip rest) → rest.wp Try.prog (Exit.jumps (fun l' a' w' => ∃ n', n' < n ∧ J44 w bt br e0 lv0 Pd Pv f l' n' a' w') (PQV f e0 w)) a' w')
    (hJ : J44 w bt br e0 lv0 Pd Pv f l n a W) : ∃ rest, findLabel c l = some (.seq .skip rest) ∧ rest.wp Try.prog (Exit.jumps (fun l' a' w' => ∃ n', n' < n ∧ J44 w bt br e0 lv0 Pd Pv f l' n' a' w') (PQV f e0 w)) a W := by
  have hJ0 := hJ
  obtain ⟨st, v, xc, u, rfl, hS, (⟨rfl, _⟩ | ⟨rfl, s0, tp, rfl, hK, hU, hn⟩)⟩ := hJ
  · exact pass0V f Pd Pv hz bt br e0 lv0 w n _ W r0 c hc fall hJ0
  · clear hJ0
    obtain ⟨g, cap, rfl, _, _⟩ := hS.row.form (by simp)
    have hl : (s0 ++ [tp]).length = s0.length + 1 := by simp
    rw [hl] at hS ⊢
    have hd := hS.deep s0.length tp (by simp)
    have hrp := hS.rep tp (by simp)
    cases hk : tp.kid with
    | some ck =>
      obtain ⟨gc, m, cp, lc, hlv, hdm, hm2, hcell, hRc⟩ := kid_rep hrp.1 hk
      obtain ⟨lp, lm, lq, rfl⟩ := rep_slice hRc
      obtain ⟨e, lv, d, ra, rb⟩ := tp
      simp only at hlv
      subst hlv
      exact pass1kV f Pd Pv bt br e0 lv0 w n W r0 c hc u hPd s0 e d m gc cp g cap ra rb xc ck lp lm lq hS hK hU hn hk hdm hm2 hcell hRc (by omega)
    | none =>
      obtain ⟨p, m, cp, hlv, hm2, hmd⟩ := nokid_rep hrp.1 hk
      have hcn := cont_none Z4 f hk
      have hrt : tp.remTop = 1 := by
        obtain ⟨e, lv, d, ra, rb⟩ := tp
        match e, d, hk with
        | .leaf k n v, d, _ => rfl
        | .one k n v x, d + 1, _ => rfl
        | .two k n v x y, d + 2, _ => rfl
      obtain ⟨e, lv, d, ra, rb⟩ := tp
      simp only at hlv
      subst hlv
      rw [hcn] at hU
      rw [hrt] at hn
      exact pass1dV f Pd Pv bt br e0 lv0 w n W r0 c hc u HOF s0 e p d m cp g cap ra rb (f e ra rb).1 (f e ra rb).2 xc hS hK hU hn rfl (hPf e ra rb hrp.2.1 hrp.2.2.1 hrp.2.2.2) hmd hm2 hrp.1 hrp.2 (by omega)

set_option maxHeartbeats 1000000 in
set_option maxRecDepth 100000 in
theorem foldV_any (f : Ex → V4 → V4 → V4 × Int) (Pd : Ex → Prop) (Pv : V4 → Prop) (hz : Pv Z4) (hPd : ∀ (r : Fr V4) c, r.kid = some c → Pd r.e → Pd c) (hPf : ∀ r a b, Pd r → Pv a → Pv b → Pv (f r a b).1) (bt br : Nat) (e0 : Ex) (lv0 : Value) (w : World) (hD : e0.deep ≤ 1000) (hR : Rep e0 lv0 w) (hP : Pd e0)
    (HOF : Hid (HOfV f Pd Pv bt br w)) :
    Calls Try.prog 44 #[.agg (exC e0 lv0).toArray, .func (.func 45) #[] #[.pointer (some ⟨bt, 0, none⟩), .pointer (some ⟨br, 0, none⟩)]] w (FinV (foldF Z4 f e0) w) := by
  obtain ⟨lp, lm, lq, rfl⟩ := rep_slice hR
  have HPF := hide hPf
  have HZ := hide hz
  clear hPf hz
  go_enter Try.func44, Try.ntmps44
  go_wp2
  refine wp_scope_fall (J44 w bt br e0 (.slice lp lm lq) Pd Pv f) ?first ?pass
  case first =>
    intro fall
    go_wp2
    rename_i hrest
    go_step3
    refine hrest _ _ ?_
    clear hrest
    refine fall 0 (3 * e0.size - 1) _ _ ?_ _ (by kernel_rfl)
    have hsz : 1 ≤ e0.size := by cases e0 <;> simp [Ex.size]
    have hnew := World.alloc_heap_new (w.alloc (.cells (exC e0 (.slice lp lm lq)).toArray 31)) (.cells #[.int .i64 0, .int .i64 0, .int .i64 0, .string ⟨#[]⟩] 28)
    rw [World.size_alloc] at hnew
    exact J44.intro _ [] (.slice none 0 0) (exC e0 (.slice lp lm lq)).toArray rfl ⟨World.ownsRow_nil _ _ _ _, (Below.heap_alloc _ _ _ (by simp)).trans (World.alloc_heap_new w _), hnew, ((Below.refl _ _).alloc (Nat.le_refl _) _).alloc (by simp) _, (fun r hr => by cases hr), (fun i r hr => by simp at hr), rfl⟩ (.inl ⟨rfl, (fun r hr => by cases hr), e0, .slice lp lm lq, rfl, hR, hP, by simpa using hD, rfl, by simp; omega⟩)
  case pass =>
    intro l n a W fall hJ
    exact pass_allV f Pd Pv (unhide HZ) hPd (unhide HPF) bt br e0 (.slice lp lm lq) w HOF _ _ rfl l n a W fall hJ
end Go.Proofs.Ytliefgkhpgigaaa
