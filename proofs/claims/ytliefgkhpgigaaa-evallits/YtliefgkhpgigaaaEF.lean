/-
  What package eval's fold returns of ints: an expression's fold, whatever the expression.
-/
import Derived.Test.YtliefgkhpgigaaaEC
import Derived.Test.YtliefgkhpgigaaaED
import Derived.Test.YtliefgkhpgigaaaEE
namespace Go.Proofs.Ytliefgkhpgigaaa
open Go.RowKit
set_option linter.unusedSimpArgs false
set_option linter.unusedVariables false

theorem pass_all (f : Ex → Int → Int → Int × Int) (Pd : Ex → Prop) (hPd : ∀ (r : Fr Int) c, r.kid = some c → Pd r.e → Pd c) (bt : Nat) (e0 : Ex) (lv0 : Value) (w : World) (HOF : Hid (HOf f Pd bt w)) (r0 c : Code) (hc : Try.f36.body = some (.seq r0 (.scope c)))
    (l n : Nat) (a : Act) (W : World)
    (fall : ∀ l' n' a' w', n' < n → J36 w bt e0 lv0 Pd f l' n' a' w' → ∀ rest, findLabel c l' = some (.seq .skip rest) → rest.wp Try.prog (Exit.jumps (fun l' a' w' => ∃ n', n' < n ∧ J36 w bt e0 lv0 Pd f l' n' a' w') (PQ f e0 w)) a' w')
    (hJ : J36 w bt e0 lv0 Pd f l n a W) : ∃ rest, findLabel c l = some (.seq .skip rest) ∧ rest.wp Try.prog (Exit.jumps (fun l' a' w' => ∃ n', n' < n ∧ J36 w bt e0 lv0 Pd f l' n' a' w') (PQ f e0 w)) a W := by
  have hJ0 := hJ
  obtain ⟨st, v, xc, u, rfl, hS, (⟨rfl, _⟩ | ⟨rfl, s0, tp, rfl, hK, hU, hn⟩)⟩ := hJ
  · exact pass0 f Pd bt e0 lv0 w n _ W r0 c hc fall hJ0
  · clear hJ0
    obtain ⟨g, cap, rfl, _, _⟩ := hS.row.form (by simp)
    have hl : (s0 ++ [tp]).length = s0.length + 1 := by simp
    rw [hl] at hS ⊢
    have hd := hS.deep s0.length tp (by simp)
    have hrp := hS.rep tp (by simp)
    cases hk : tp.kid with
    | some ck =>
      obtain ⟨gc, m, cp, lc, hlv, hdm, hm2, hcell, hRc⟩ := kid_rep hrp.1 hk
      obtain ⟨lp, lm, lq, rfl⟩ := rep_slice hRc
      obtain ⟨e, lv, d, ra, rb⟩ := tp
      simp only at hlv
      subst hlv
      exact pass1k f Pd bt e0 lv0 w n W r0 c hc u hPd s0 e d m gc cp g cap ra rb xc ck lp lm lq hS hK hU hn hk hdm hm2 hcell hRc (by omega)
    | none =>
      obtain ⟨p, m, cp, hlv, hm2, hmd⟩ := nokid_rep hrp.1 hk
      have hcn := cont_none 0 f hk
      have hrt : tp.remTop = 1 := by
        obtain ⟨e, lv, d, ra, rb⟩ := tp
        match e, d, hk with
        | .leaf k n v, d, _ => rfl
        | .one k n v x, d + 1, _ => rfl
        | .two k n v x y, d + 2, _ => rfl
      obtain ⟨e, lv, d, ra, rb⟩ := tp
      simp only at hlv
      subst hlv
      rw [hcn] at hU
      rw [hrt] at hn
      exact pass1d f Pd bt e0 lv0 w n W r0 c hc u HOF s0 e p d m cp g cap ra rb (f e ra rb).1 (f e ra rb).2 xc hS hK hU hn rfl hmd hm2 hrp.1 hrp.2 (by omega)

set_option maxHeartbeats 1000000 in
set_option maxRecDepth 100000 in
theorem foldI_any (f : Ex → Int → Int → Int × Int) (Pd : Ex → Prop) (hPd : ∀ (r : Fr Int) c, r.kid = some c → Pd r.e → Pd c) (bt : Nat) (e0 : Ex) (lv0 : Value) (w : World) (hD : e0.deep ≤ 1000) (hR : Rep e0 lv0 w) (hP : Pd e0)
    (HOF : Hid (HOf f Pd bt w)) :
    Calls Try.prog 36 #[.agg (exC e0 lv0).toArray, .func (.func 37) #[] #[.pointer (some ⟨bt, 0, none⟩)]] w (Fin (foldF 0 f e0) w) := by
  obtain ⟨lp, lm, lq, rfl⟩ := rep_slice hR
  go_enter Try.func36, Try.ntmps36
  go_wp2
  refine wp_scope_fall (J36 w bt e0 (.slice lp lm lq) Pd f) ?first ?pass
  case first =>
    intro fall
    go_wp2
    rename_i hrest
    go_step3
    refine hrest _ _ ?_
    clear hrest
    refine fall 0 (3 * e0.size - 1) _ _ ?_ _ (by kernel_rfl)
    have hsz : 1 ≤ e0.size := by cases e0 <;> simp [Ex.size]
    exact J36.intro _ [] (.slice none 0 0) (exC e0 (.slice lp lm lq)).toArray rfl ⟨World.ownsRow_nil _ _ _ _, World.alloc_heap_new w _, (Below.refl _ _).alloc (Nat.le_refl _) _, (fun r hr => by cases hr), (fun i r hr => by simp at hr), rfl⟩ (.inl ⟨rfl, (fun r hr => by cases hr), e0, .slice lp lm lq, rfl, hR, hP, by simpa using hD, rfl, by simp; omega⟩)
  case pass =>
    intro l n a W fall hJ
    exact pass_all f Pd hPd bt e0 (.slice lp lm lq) w HOF _ _ rfl l n a W fall hJ
end Go.Proofs.Ytliefgkhpgigaaa
