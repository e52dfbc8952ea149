/-
  What the reference's function Reckon returns, of any kind, of any two values that are right: what val's returns; and what is reckoned is right.
-/
import Derived.Test.YtphnpcidndmlnaaZ4
import Derived.Test.YtphnpcidndmlnaaU3
namespace Go.Proofs.Ytphnpcidndmlnaa
open Go.RowKit
set_option linter.unusedSimpArgs false
set_option linter.unusedVariables false

theorem ci_int (k a sa b sb : Int) (hk : k = 6 ∨ k = 7 ∨ k = 8) (ha : Is64 a) (hb : Is64 b) : Hid (∀ W, Calls Try.prog 54 #[.int .i64 k, .int .i64 a, .int .i64 b] W fun e w' =>
    e = .returned (.tuple #[V (recR k 2 a sa 2 b sb).1.1 (recR k 2 a sa 2 b sb).1.2.1 (recR k 2 a sa 2 b sb).1.2.2 ⟨#[]⟩, .int .i64 (recR k 2 a sa 2 b sb).2]) ∧ Below W.heap.size W w') := by
  intro W
  have h := rints_any k a b W hk ha hb
  rw [int_t k a sa b sb (by rcases hk with rfl | rfl | rfl <;> decide)] at h
  exact h
theorem ci_dec (k a sa b sb : Int) (hk : k = 6 ∨ k = 7 ∨ k = 8) (ha : Ok 3 a sa ⟨#[]⟩) (hb : Ok 3 b sb ⟨#[]⟩) : Hid (∀ W, Calls Try.prog 55 #[.int .i64 k, V 3 a sa ⟨#[]⟩, V 3 b sb ⟨#[]⟩] W fun e w' =>
    e = .returned (.tuple #[V (recR k 3 a sa 3 b sb).1.1 (recR k 3 a sa 3 b sb).1.2.1 (recR k 3 a sa 3 b sb).1.2.2 ⟨#[]⟩, .int .i64 (recR k 3 a sa 3 b sb).2]) ∧ Below W.heap.size W w') := by
  intro W
  obtain ⟨a1, a2⟩ := rd_is (ok_rd ha)
  obtain ⟨b1, b2⟩ := rd_is (ok_rd hb)
  rcases hk with rfl | rfl | rfl
  · have h := rdecs_mul a sa b sb W (ok_64 ha) (ok_64 hb) (ok_scale ha) (ok_scale hb)
    rw [dec_mul] at h; exact h
  · have h := rdecs_7 a sa b sb W a2 b2 (ok_scale ha) (ok_scale hb)
    have e := dec_sum (k := 7) (Or.inl rfl) (ok_scale ha) (ok_scale hb) a2 b2 a1 b1
    unfold sumT at e; rw [if_pos rfl] at e
    rw [e] at h; exact h
  · have h := rdecs_8 a sa b sb W a2 b2 (ok_scale ha) (ok_scale hb)
    have e := dec_sum (k := 8) (Or.inr rfl) (ok_scale ha) (ok_scale hb) a2 b2 a1 b1
    unfold sumT at e; rw [if_neg (by decide)] at e
    rw [e] at h; exact h
theorem ok_zero3 : Ok 3 0 0 ⟨#[]⟩ := ⟨by decide, by decide +kernel, by unfold Is64; omega, by decide, by decide, fun _ => rfl⟩
theorem told {P : Program} {f : Nat} {ag : Array Value} {W : World} {r : (Int × Int × Int) × Int} {a b c d : Int} (h : Calls P f ag W fun e w' => e = .returned (.tuple #[V a b c ⟨#[]⟩, .int .i64 d]) ∧ Below W.heap.size W w') (hr : r = ((a, b, c), d)) :
    Calls P f ag W fun e w' => e = .returned (recV r) ∧ Below W.heap.size W w' := by subst hr; exact h
theorem idB_is (k : Int) : (k == 0 || k == 2 || k == 3) = idB k := rfl

theorem rreckon_ok (k kx xn xs : Int) (xt : ByteArray) (ky yn ys : Int) (yt : ByteArray) (W : World) (hx : Ok kx xn xs xt) (hy : Ok ky yn ys yt) :
    Calls Try.prog 30 #[.int .i64 k, V kx xn xs xt, V ky yn ys yt] W fun e w' =>
      e = .returned (recV (if k = 4 then recR 8 kx 0 0 kx xn xs else recR k kx xn xs ky yn ys)) ∧ Below W.heap.size W w' := by
  by_cases h4 : k = 4
  · subst h4
    rw [if_pos rfl]
    have hk := hx.1
    have hc : kx = 0 ∨ kx = 2 ∨ kx = 3 ∨ (kx = 1 ∨ kx = 4 ∨ kx = 5) := by omega
    rcases hc with rfl | rfl | rfl | hc
    · exact told (rk_4b ky xn xs yn ys xt yt W) (rec_d (by decide) (by decide) (by decide) (Or.inl rfl))
    · exact rk_4c _ _ _ _ ky xn xs yn ys xt yt W (ci_int 8 0 0 xn xs (by decide) (by unfold Is64; omega) (ok_64 hx))
    · have e := ok_empty hx (by decide)
      subst e
      exact rk_4d _ _ _ _ ky xn xs yn ys yt W (ci_dec 8 0 0 xn xs (by decide) ok_zero3 hx)
    · refine told (rk_4a kx ky xn xs yn ys xt yt W (by simp; omega) (by simp; omega) (by simp; omega)) (rec_b (by decide) ?_)
      rw [← idB_is]; simp; omega
  · rw [if_neg h4]
    by_cases hk : k = 6 ∨ k = 7 ∨ k = 8
    · have hrk : reckB k = true := by rcases hk with rfl | rfl | rfl <;> decide
      cases ia : idB kx
      · have r := rec_b (na := xn) (sa := xs) (kb := ky) (nb := yn) (sb := ys) hrk ia
        rcases hk with rfl | rfl | rfl
        · exact told (rk_6a kx ky xn xs yn ys xt yt W ia) r
        · exact told (rk_7a kx ky xn xs yn ys xt yt W ia) r
        · exact told (rk_8a kx ky xn xs yn ys xt yt W ia) r
      cases ib : idB ky
      · have r := rec_c (na := xn) (sa := xs) (nb := yn) (sb := ys) hrk ia ib
        rcases hk with rfl | rfl | rfl
        · exact told (rk_6b kx ky xn xs yn ys xt yt W ia ib) r
        · exact told (rk_7b kx ky xn xs yn ys xt yt W ia ib) r
        · exact told (rk_8b kx ky xn xs yn ys xt yt W ia ib) r
      by_cases h0 : kx = 0
      · have r := rec_d (na := xn) (sa := xs) (nb := yn) (sb := ys) hrk ia ib (Or.inl h0)
        subst h0
        rcases hk with rfl | rfl | rfl
        · exact told (rk_6c ky xn xs yn ys xt yt W ib) r
        · exact told (rk_7c ky xn xs yn ys xt yt W ib) r
        · exact told (rk_8c ky xn xs yn ys xt yt W ib) r
      by_cases h0' : ky = 0
      · have r := rec_d (na := xn) (sa := xs) (nb := yn) (sb := ys) hrk ia ib (Or.inr h0')
        subst h0'
        have g0 : (kx == 0) = false := by simpa using h0
        rcases hk with rfl | rfl | rfl
        · exact told (rk_6d kx xn xs yn ys xt yt W ia g0) r
        · exact told (rk_7d kx xn xs yn ys xt yt W ia g0) r
        · exact told (rk_8d kx xn xs yn ys xt yt W ia g0) r
      have ca : kx = 2 ∨ kx = 3 := by rw [← idB_is] at ia; simp at ia; omega
      have cb : ky = 2 ∨ ky = 3 := by rw [← idB_is] at ib; simp at ib; omega
      rcases ca with rfl | rfl <;> rcases cb with rfl | rfl
      · have c := ci_int k xn xs yn ys hk (ok_64 hx) (ok_64 hy)
        rcases hk with rfl | rfl | rfl
        · exact rk_6f _ _ _ _ xn xs yn ys xt yt W c
        · exact rk_7f _ _ _ _ xn xs yn ys xt yt W c
        · exact rk_8f _ _ _ _ xn xs yn ys xt yt W c
      · have r := rec_f (na := xn) (sa := xs) (nb := yn) (sb := ys) hrk ia ib h0 h0' (by decide)
        rcases hk with rfl | rfl | rfl
        · exact told (rk_6e2 xn xs yn ys xt yt W) r
        · exact told (rk_7e2 xn xs yn ys xt yt W) r
        · exact told (rk_8e2 xn xs yn ys xt yt W) r
      · have r := rec_f (na := xn) (sa := xs) (nb := yn) (sb := ys) hrk ia ib h0 h0' (by decide)
        rcases hk with rfl | rfl | rfl
        · exact told (rk_6e3 xn xs yn ys xt yt W) r
        · exact told (rk_7e3 xn xs yn ys xt yt W) r
        · exact told (rk_8e3 xn xs yn ys xt yt W) r
      · have e1 := ok_empty hx (by decide)
        have e2 := ok_empty hy (by decide)
        subst e1; subst e2
        have c := ci_dec k xn xs yn ys hk hx hy
        rcases hk with rfl | rfl | rfl
        · exact rk_6g _ _ _ _ xn xs yn ys W c
        · exact rk_7g _ _ _ _ xn xs yn ys W c
        · exact rk_8g _ _ _ _ xn xs yn ys W c
    · have hrk : reckB k = false := by unfold reckB; simp; omega
      exact told (rk_no k kx ky xn xs yn ys xt yt W (by simpa using h4) (by simp; omega) (by simp; omega) (by simp; omega)) (rec_a hrk)

/-- what is reckoned without an error is right -/
theorem rec_right (k kx xn xs ky yn ys : Int) (h : (recR k kx xn xs ky yn ys).2 = 0) :
    rightB (recR k kx xn xs ky yn ys).1.1 (recR k kx xn xs ky yn ys).1.2.1 (recR k kx xn xs ky yn ys).1.2.2 ⟨#[]⟩ = true := by
  have r0 : rightB 0 0 0 ⟨#[]⟩ = true := by decide +kernel
  revert h
  unfold recR
  split
  · intro h; exact r0
  split
  · intro h; exact r0
  split
  · intro h; exact r0
  split
  · intro h; exact r0
  split
  · intro h; exact r0
  split
  · split
    · intro h
      show rightB 2 (wrap64 (opN k xn yn)) 0 ⟨#[]⟩ = true
      unfold rightB; rw [if_neg (by decide), if_neg (by decide), if_pos rfl]; decide +kernel
    · intro h; exact r0
  · split
    · rename_i hd
      intro h
      rw [right_dec0]
      unfold decOk at hd
      simp only [Bool.and_eq_true] at hd
      exact hd.2
    · intro h; exact r0
end Go.Proofs.Ytphnpcidndmlnaa
