/-
  What package eval's fold of values returns, handed Eval's function: the document's fold.
-/
import Derived.Test.YtliefgkhpgigaaaES
import Derived.Test.YtliefgkhpgigaaaET
import Derived.Test.YtliefgkhpgigaaaEN
import Derived.Test.YtliefgkhpgigaaaP0
namespace Go.Proofs.Ytliefgkhpgigaaa
open Go.RowKit
set_option linter.unusedSimpArgs false
set_option linter.unusedVariables false

/-- a value that may be on the way -/
def OkV (v : V4) : Prop := Is64 v.2.1 ∧ (0 ≤ v.2.2.1 ∧ v.2.2.1 ≤ 6) ∧ (v.1 = 3 → v.2.2.2 = E0) ∧ v.2.2.2.size ≤ 281474976710656
def ExOk : Ex → Prop
  | .leaf _ _ v => OkV v
  | .one _ _ v c => OkV v ∧ ExOk c
  | .two _ _ v a b => OkV v ∧ ExOk a ∧ ExOk b
theorem ExOk.v : ∀ {e : Ex}, ExOk e → OkV e.v
  | .leaf _ _ _, h => h
  | .one _ _ _ _, h => h.1
  | .two _ _ _ _ _, h => h.1
theorem ExOk.kid (r : Fr V4) (c : Ex) (hk : r.kid = some c) (h : ExOk r.e) : ExOk c := by
  obtain ⟨e, lv, d, a, b⟩ := r
  match e, d, hk with
  | .one k n v x, 0, hk => cases hk; exact h.2
  | .two k n v x y, 0, hk => cases hk; exact h.2.1
  | .two k n v x y, 1, hk => cases hk; exact h.2.2
theorem is64_n (n : Int) (h : -9223372036854775808 ≤ n ∧ n ≤ 9223372036854775807) : Is64 n := is64_of (by unfold inI; exact decide_eq_true h)
theorem okZ : OkV Z4 := ⟨is64_n _ (by decide), by decide, fun h => by simp at h, by decide⟩
def recW (k : Int) (a b : V4) : V4 × Int := (((if k = 4 then recR 8 a.1 0 0 a.1 a.2.1 a.2.2.1 else recR k a.1 a.2.1 a.2.2.1 b.1 b.2.1 b.2.2.1).1.1, (if k = 4 then recR 8 a.1 0 0 a.1 a.2.1 a.2.2.1 else recR k a.1 a.2.1 a.2.2.1 b.1 b.2.1 b.2.2.1).1.2.1, (if k = 4 then recR 8 a.1 0 0 a.1 a.2.1 a.2.2.1 else recR k a.1 a.2.1 a.2.2.1 b.1 b.2.1 b.2.2.1).1.2.2, E0), (if k = 4 then recR 8 a.1 0 0 a.1 a.2.1 a.2.2.1 else recR k a.1 a.2.1 a.2.2.1 b.1 b.2.1 b.2.2.1).2)
def cmpR (k : Int) (a b : V4) : Int := cmpT k (oneK a.1 b.1) (oneK a.1 b.1 && (ordV a.1 a.2.1 a.2.2.1 a.2.2.2 b.1 b.2.1 b.2.2.1 b.2.2.2 == 0)) (oneK a.1 b.1 && decide (ordV a.1 a.2.1 a.2.2.1 a.2.2.2 b.1 b.2.1 b.2.2.1 b.2.2.2 < 0))
def valF (cs : List C3) (vs : List V4) (r : Ex) (a b : V4) : V4 × Int := valueR r.k r.v (valR r.nm cs vs) (recW r.k a b) (truR r.k a b (cmpR r.k a b))
theorem recR_ok (k ka na sa kb nb sb : Int) : Is64 (recR k ka na sa kb nb sb).1.2.1 ∧ 0 ≤ (recR k ka na sa kb nb sb).1.2.2 ∧ (recR k ka na sa kb nb sb).1.2.2 ≤ 6 := by
  have z : Is64 0 := is64_n _ (by decide)
  unfold recR
  by_cases h1 : reckB k = false
  · rw [if_pos h1]; exact ⟨z, by decide⟩
  rw [if_neg h1]
  by_cases h2 : idB ka = false
  · rw [if_pos h2]; exact ⟨z, by decide⟩
  rw [if_neg h2]
  by_cases h3 : idB kb = false
  · rw [if_pos h3]; exact ⟨z, by decide⟩
  rw [if_neg h3]
  by_cases h4 : ka = 0 ∨ kb = 0
  · rw [if_pos h4]; exact ⟨z, by decide⟩
  rw [if_neg h4]
  by_cases h5 : ka ≠ kb
  · rw [if_pos h5]; exact ⟨z, by decide⟩
  rw [if_neg h5]
  by_cases h6 : ka = 2
  · rw [if_pos h6]
    by_cases h7 : inI (opN k na nb) = true
    · rw [if_pos h7, wrap64_is _ (is64_of h7)]; exact ⟨is64_of h7, (by omega : (0 : Int) ≤ 0 ∧ (0 : Int) ≤ 6)⟩
    · rw [if_neg h7]; exact ⟨z, by decide⟩
  rw [if_neg h6]
  by_cases h8 : decOk k na sa nb sb = true
  · rw [if_pos h8]
    have h9 : rdB (normN (wrap64 (decN k na sa nb sb)) (decS k sa sb)) (normC (wrap64 (decN k na sa nb sb)) (decS k sa sb)) = true := by unfold decOk at h8; simp only [Bool.and_eq_true] at h8; exact h8.2
    have h10 := of_decide_eq_true h9
    exact ⟨is64_n (normN (wrap64 (decN k na sa nb sb)) (decS k sa sb)) (by omega), h10.2.2.1, h10.2.2.2.1⟩
  · rw [if_neg h8]; exact ⟨z, by decide⟩
theorem recW_ok (k : Int) (a b : V4) : OkV (recW k a b).1 := by
  by_cases h : k = 4
  · have := recR_ok 8 a.1 0 0 a.1 a.2.1 a.2.2.1
    refine ⟨?_, ?_, fun _ => rfl, by simp [recW]⟩
    · simp only [recW, if_pos h]; exact this.1
    · simp only [recW, if_pos h]; exact this.2
  · have := recR_ok k a.1 a.2.1 a.2.2.1 b.1 b.2.1 b.2.2.1
    refine ⟨?_, ?_, fun _ => rfl, by simp [recW]⟩
    · simp only [recW, if_neg h]; exact this.1
    · simp only [recW, if_neg h]; exact this.2
theorem valFrom_mem (nm : ByteArray) : ∀ (cs : List C3) (vs : List V4) (v : V4), valFrom nm cs vs = some v → v ∈ vs
  | [], _, v, h => by simp [valFrom] at h
  | c :: l, [], v, h => by simp [valFrom] at h
  | c :: l, u :: vs, v, h => by
    unfold valFrom at h
    by_cases hc : (c.1.toList == nm.toList) = true
    · rw [if_pos hc] at h; cases h; exact List.mem_cons_self ..
    · rw [if_neg hc] at h; exact List.mem_cons_of_mem _ (valFrom_mem nm l vs v h)
theorem valR_ok (nm : ByteArray) (cs : List C3) (vs : List V4) (h : ∀ v ∈ vs, OkV v) : OkV (valR nm cs vs).1 := by
  unfold valR
  cases hv : valFrom nm cs vs with
  | none => exact okZ
  | some v => exact h v (valFrom_mem nm cs vs v hv)
theorem valT_ok (t : Int) : OkV (valT t) := by
  unfold valT
  split
  · exact ⟨is64_n _ (by decide), by decide, fun h => by simp at h, by decide⟩
  · split
    · exact ⟨is64_n _ (by decide), by decide, fun h => by simp at h, by decide⟩
    · exact okZ
theorem valF_ok (cs : List C3) (vs : List V4) (hvs : ∀ v ∈ vs, OkV v) (r : Ex) (a b : V4) (hr : ExOk r) (_ : OkV a) (_ : OkV b) : OkV (valF cs vs r a b).1 := by
  unfold valF valueR
  split
  · exact hr.v
  · split
    · exact valR_ok _ _ _ hvs
    · split
      · exact recW_ok _ _ _
      · exact valT_ok _
theorem reckon_V (k : Int) (a b : V4) (W : World) (ha : OkV a) (hb : OkV b) : Calls Try.prog 66 #[.int .i64 k, .agg (vC a).toArray, .agg (vC b).toArray] W (FinV (recW k a b) W) :=
  reckon_any k a.1 a.2.1 a.2.2.1 a.2.2.2 b.1 b.2.1 b.2.2.1 b.2.2.2 W ha.1 hb.1 (fun h => ⟨ha.2.1, ha.2.2.1 h⟩) (fun h => ⟨hb.2.1, hb.2.2.1 h⟩)
theorem compared_V (k : Int) (a b : V4) (W : World) (ha : OkV a) (hb : OkV b) : Calls Try.prog 80 #[.int .i64 k, .agg (vC a).toArray, .agg (vC b).toArray] W fun e W' => e = .returned (.int .i64 (cmpR k a b)) ∧ Below W.heap.size W W' :=
  compared_of k a b _ _ _ _ W (fun X => same_any a.1 a.2.1 a.2.2.1 a.2.2.2 b.1 b.2.1 b.2.2.1 b.2.2.2 X ha.1 hb.1 ha.2.1 hb.2.1) (fun X => less_any a.1 a.2.1 a.2.2.1 a.2.2.2 b.1 b.2.1 b.2.2.1 b.2.2.2 X ha.1 hb.1 ha.2.1 hb.2.1)
theorem valueOf_V (t0 t2 t3 t4 t5 t6 t7 t8 t9 t10 t11 v lr : Value) (cs : List C3) (p : Option Addr) (vs : List V4) (rcap : Nat) (r : Ex) (a b : V4) (w : World) (hv : ColsOf v cs w) (hr : RowOf p vs w) (ha : OkV a) (hb : OkV b) :
    Calls Try.prog 46 #[Tab t0 v t2 t3 t4 t5 t6 t7 t8 t9 t10 t11, .slice p vs.length rcap, .agg #[.int .i64 r.k, .string r.nm, .int .i64 r.v.1, .int .i64 r.v.2.1, .int .i64 r.v.2.2.1, .string r.v.2.2.2, lr], .agg (vC a).toArray, .agg (vC b).toArray] w (FinV (valF cs vs r a b) w) :=
  valueOf_of t0 t2 t3 t4 t5 t6 t7 t8 t9 t10 t11 v lr p vs.length rcap r.nm r.v.2.2.2 r.v.1 r.v.2.1 r.v.2.2.1 a b w r.k _ _ _
    (fun _ W hW => ofColV_any t0 t2 t3 t4 t5 t6 t7 t8 t9 t10 t11 v cs p vs rcap r.nm W (hv.call hW) (hr.call hW))
    (fun W => reckon_V r.k a b W ha hb) (fun W => truthFrom_any a b W r.k _ (fun X => compared_V r.k a b X ha hb))
theorem evalC_V (t0 t2 t3 t4 t5 t6 t7 t8 t9 t10 t11 v : Value) (cs : List C3) (p : Option Addr) (vs : List V4) (rcap : Nat) (bt br : Nat) (w : World) (hv : ColsOf v cs w) (hr : RowOf p vs w)
    (hbt : w.heap[bt]? = some (.cells #[t0, v, t2, t3, t4, t5, t6, t7, t8, t9, t10, t11] 34 (0, 0))) (T : TypeId) (hbr : w.heap[br]? = some (.cells #[.slice p vs.length rcap] T (0, 0))) :
    Hid (HOfV (valF cs vs) ExOk OkV bt br w) := by
  show ∀ _, _
  intro r lr a b W _ ha hb _ hW
  exact evalC_of t0 t2 t3 t4 t5 t6 t7 t8 t9 t10 t11 v lr p vs.length rcap r.k r.nm r.v.2.2.2 r.v.1 r.v.2.1 r.v.2.2.1 a b _ _ bt br W
    ((hW.block _ (Array.getElem?_eq_some_iff.1 hbt).1).trans hbt) T ((hW.block _ (Array.getElem?_eq_some_iff.1 hbr).1).trans hbr)
    (fun X hX => valueOf_V t0 t2 t3 t4 t5 t6 t7 t8 t9 t10 t11 v lr cs p vs rcap r a b X ((hv.call hW).call hX) ((hr.call hW).call hX) ha hb)
theorem foldV_eval (t0 t2 t3 t4 t5 t6 t7 t8 t9 t10 t11 v : Value) (cs : List C3) (p : Option Addr) (vs : List V4) (rcap : Nat) (bt br : Nat) (e0 : Ex) (lv0 : Value) (w : World) (hv : ColsOf v cs w) (hr : RowOf p vs w) (hvs : ∀ v ∈ vs, OkV v) (hD : e0.deep ≤ 1000) (hR : Rep e0 lv0 w) (hE : ExOk e0)
    (hbt : w.heap[bt]? = some (.cells #[t0, v, t2, t3, t4, t5, t6, t7, t8, t9, t10, t11] 34 (0, 0))) (T : TypeId) (hbr : w.heap[br]? = some (.cells #[.slice p vs.length rcap] T (0, 0))) :
    Calls Try.prog 44 #[.agg (exC e0 lv0).toArray, .func (.func 45) #[] #[.pointer (some ⟨bt, 0, none⟩), .pointer (some ⟨br, 0, none⟩)]] w (FinV (foldF Z4 (valF cs vs) e0) w) :=
  foldV_any (valF cs vs) ExOk OkV okZ ExOk.kid (valF_ok cs vs hvs) bt br e0 lv0 w hD hR hE (evalC_V t0 t2 t3 t4 t5 t6 t7 t8 t9 t10 t11 v cs p vs rcap bt br w hv hr hbt T hbr)
theorem fold_ok (cs : List C3) (vs : List V4) (hvs : ∀ v ∈ vs, OkV v) : ∀ e, ExOk e → OkV (foldF Z4 (valF cs vs) e).1
  | .leaf k n v, h => by
    unfold foldF fin
    split
    · exact valF_ok cs vs hvs _ _ _ h okZ okZ
    · exact okZ
  | .one k n v c, h => by
    have hc := fold_ok cs vs hvs c h.2
    unfold foldF fin
    split
    · split
      · exact valF_ok cs vs hvs _ _ _ h hc okZ
      · exact okZ
    · exact okZ
  | .two k n v a b, h => by
    have ha := fold_ok cs vs hvs a h.2.1
    have hb := fold_ok cs vs hvs b h.2.2
    unfold foldF fin
    split
    · split
      · split
        · exact valF_ok cs vs hvs _ _ _ h ha hb
        · exact okZ
      · exact okZ
    · exact okZ
end Go.Proofs.Ytliefgkhpgigaaa
