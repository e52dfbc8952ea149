/-
  Keys one behind the other: what package key's values goes through.
-/
import Derived.Test.YtbpjejjbgdikdaaS11
import Derived.Test.YtbpjejjbgdikdaaS13
namespace Go.Proofs.Ytbpjejjbgdikdaa
open Go.RowKit Go.Shelf
set_option linter.unusedSimpArgs false
set_option linter.unusedVariables false
attribute [local go_sem] Oper.semAt_some

theorem rtxt_suffix : ∀ (m : Nat) (acc l d r : List UInt8), l.length = m → rtxt acc l = some (d, r) → ∃ p, l = p ++ r := by
  intro m
  induction m using Nat.strongRecOn with
  | _ m ih =>
    intro acc l d r hm h
    cases l with
    | nil => simp [rtxt] at h
    | cons c l =>
      by_cases hc : c = 0
      · subst hc
        cases l with
        | nil => rw [rtxt_one] at h; cases h
        | cons x l =>
          rw [rtxt_zero] at h
          split at h
          · cases h; exact ⟨[0, x], rfl⟩
          · split at h
            · obtain ⟨p, hp⟩ := ih l.length (by simp at hm; omega) _ l d r rfl h
              exact ⟨0 :: x :: p, by rw [hp]; rfl⟩
            · cases h
      · rw [rtxt_plain _ _ _ hc] at h
        obtain ⟨p, hp⟩ := ih l.length (by simp at hm; omega) _ l d r rfl h
        exact ⟨c :: p, by rw [hp]; rfl⟩
theorem rval_suffix {l : List UInt8} {x : Int × Int × Int × List UInt8} {r : List UInt8} (h : rval l = some (x, r)) : ∃ p, l = p ++ r := by
  cases l with
  | nil => cases h
  | cons c l =>
    rw [rval_cons] at h
    split at h
    · cases h; exact ⟨[c], rfl⟩
    split at h
    · split at h
      · cases h
      · cases h; exact ⟨[c, _], rfl⟩
    split at h
    · split at h
      · cases h; exact ⟨c :: l.take 8, by simp⟩
      · cases h
    split at h
    · cases hr : rdec l with
      | none => rw [hr] at h; cases h
      | some y => rw [hr] at h; cases h; exact ⟨c :: l.take 12, by simp⟩
    split at h
    · cases hr : rtxt [] l with
      | none => rw [hr] at h; cases h
      | some y =>
        obtain ⟨p, hp⟩ := rtxt_suffix l.length [] l y.1 y.2 rfl hr
        rw [hr] at h; cases h; exact ⟨c :: p, by rw [hp]; simp⟩
    · cases h
theorem rkey_val {l : List UInt8} {x : Int × Int × Int × List UInt8} {r : List UInt8} (h : rkey l = some (x, r)) : rval l = some (x, r) := by
  unfold rkey at h
  cases hv : rval l with
  | none => rw [hv] at h; cases h
  | some y =>
    rw [hv] at h
    dsimp only at h
    split at h
    · exact h
    · cases h
theorem rkey_drop {l : List UInt8} {x : Int × Int × Int × List UInt8} {r : List UInt8} (h : rkey l = some (x, r)) : l.drop (l.length - r.length) = r ∧ r.length < l.length := by
  have hv := rkey_val h
  obtain ⟨p, rfl⟩ := rval_suffix hv
  exact ⟨by simp, (rval_len hv).2⟩

/-- the values that keys say, as far as there are any; with each how many bytes it has -/
abbrev RW := (Int × Int × Int × List UInt8) × Nat
def rks : Nat → List UInt8 → List RW
  | 0, _ => []
  | f + 1, l => match rkey l with
    | none => []
    | some (x, r) => (x, l.length - r.length) :: rks f r
def encR (x : RW) : Array Value := #[V x.1.1 x.1.2.1 x.1.2.2.1 (Str x.1.2.2.2), .int .i64 (x.2 : Int)]
theorem rks_len : ∀ (f : Nat) (l : List UInt8), (rks f l).length ≤ l.length
  | 0, l => by simp [rks]
  | f + 1, l => by
    unfold rks
    cases h : rkey l with
    | none => simp
    | some x =>
      have h1 := (rkey_drop (x := x.1) (r := x.2) h).2
      have h2 := rks_len f x.2
      simp; omega
theorem readKey_no (l : List UInt8) (hm : l.length ≤ 800000) (h : rkey l = none) (w : World) :
    Calls Try.prog 15 #[.string (Str l)] w fun e W => e = .returned (.tuple #[V 0 0 0 ⟨#[]⟩, .int .i64 0, .bool false]) ∧ Below w.heap.size w W := by
  refine (readKey_any l hm w).mono ?_
  rintro e W ⟨hb, (⟨_, he⟩ | ⟨k, n, s, d, r, hs, _⟩)⟩
  · exact ⟨he, hb⟩
  · rw [h] at hs; cases hs
theorem readKey_yes (l : List UInt8) (hm : l.length ≤ 800000) {x : Int × Int × Int × List UInt8} {r : List UInt8} (h : rkey l = some (x, r)) (w : World) :
    Calls Try.prog 15 #[.string (Str l)] w fun e W => e = .returned (.tuple #[V x.1 x.2.1 x.2.2.1 (Str x.2.2.2), .int .i64 ((l.length - r.length : Nat) : Int), .bool true]) ∧ Below w.heap.size w W := by
  refine (readKey_any l hm w).mono ?_
  rintro e W ⟨hb, (⟨hn, _⟩ | ⟨k, n, s, d, r', hs, he⟩)⟩
  · rw [h] at hn; cases hn
  · rw [h] at hs; cases hs
    have := (rkey_drop h).2
    refine ⟨he.trans ?_, hb⟩
    rw [show ((l.length - r.length : Nat) : Int) = (l.length : Int) - (r.length : Int) by omega]
theorem str_cut (l : List UInt8) (k : Nat) (h : k ≤ l.length) : (Str l).extract k l.length = Str (l.drop k) := str_drop l k h
def restS (b : Nat) (W : World) : Nat := match W.cell? ⟨b, 0, none⟩ with | some (.string t) => t.size | _ => 0
theorem restS_eq {b : Nat} {W : World} {l : List UInt8} (h : Boxed W b 9 (.string (Str l))) : restS b W = l.length := by
  unfold restS; rw [h.cell]; exact str_size l

set_option maxRecDepth 100000 in
set_option maxHeartbeats 2000000 in
theorem valsC_in (n : Nat) (hn : 1 ≤ n) (L Bn : Nat) (l0 : List UInt8) (hm : l0.length ≤ 800000) (J Jx : List RW → World → Prop) (hJ : Bears Bn J)
    (hY : ∀ pre x W1, J pre W1 → pre.length < l0.length + 1 → YieldAt Fence.wide (n - 1) Try.prog L (encR x) W1 fun e W' =>
      (e = .returned (.bool true) ∧ J (pre ++ [x]) W' ∧ KB Bn 9 W1 W') ∨ (e = .returned (.bool false) ∧ Jx (pre ++ [x]) W'))
    (W : World) (hB : Boxed W Bn 9 (.string (Str l0))) (h0 : J [] W) :
    CallsIn Fence.wide n Try.prog 51 #[.func (.yield L) #[] #[], .pointer (some ⟨Bn, 0, none⟩)] W fun e W' => (∃ v, e = .returned v) ∧
      ((∃ xs, xs = rks l0.length l0 ∧ J xs W') ∨ (∃ pre, pre <+: rks l0.length l0 ∧ Jx pre W')) := by
  refine callsIn_of_wp Try.func51 rfl trivial ?_ rfl
  simp only [Try.ntmps51, List.size_toArray, List.length_cons, List.length_nil, Nat.reduceAdd, Nat.reduceSub, Array.replicate_succ, Array.replicate_zero, List.push_toArray, List.append_toArray, List.nil_append, List.cons_append]
  gi_wp2
  gi_loopw [] (fun wr => ∃ (f : Nat) (pre : List RW) (r : List UInt8), r.length ≤ f ∧ r.length ≤ l0.length ∧ Boxed wr Bn 9 (.string (Str r)) ∧ J pre wr ∧ pre.length + r.length ≤ l0.length ∧ Hid (rks l0.length l0 = pre ++ rks f r))
    (fun wr => restS Bn wr)
  case atStart =>
    exact ⟨l0.length, [], l0, Nat.le_refl _, Nat.le_refl _, hB, h0, by simp, rfl⟩
  case round =>
    obtain ⟨f, pre, r, hrf, hrl, hb, hJs, hlen, HK⟩ := hrel
    have hc := hb.cell
    have hrest := restS_eq hb
    cases hk : rkey r with
    | none =>
      have HE : Hid (rks l0.length l0 = pre) := by
        show _ = _
        rw [HK.out]
        cases f with
        | zero => simp [rks]
        | succ f => simp [rks, hk]
      gi_wp2_with (refine ⟨trivial, ?_⟩; gi_at_call 15; refine (callsIn_wide.2 (readKey_no r (by omega) hk _)).mono ?_; rintro e W1 ⟨rfl, hb1⟩; have hJ1 := hJ.more _ _ _ hJs hb1)
      refine ⟨fun _ h => (by cases h), ?_⟩
      gi_wp2
      refine bodyPost_ret (results_none rfl _ _ _) rfl ?_
      exact ⟨⟨_, rfl⟩, .inl ⟨pre, HE.out.symm, hJ.more _ _ _ hJ1 ((Below.refl _ _).alloc (Nat.le_refl _) _)⟩⟩
    | some y =>
      obtain ⟨⟨k, m, s, d⟩, r'⟩ := y
      obtain ⟨hdr, hlr⟩ := rkey_drop hk
      obtain ⟨f, rfl⟩ : ∃ f', f = f' + 1 := ⟨f - 1, by omega⟩
      obtain ⟨u, hu⟩ : ∃ u, u = r.length - r'.length := ⟨_, rfl⟩
      have HE : Hid (rks l0.length l0 = pre ++ ((k, m, s, d), u) :: rks f r') := by
        show _ = _
        rw [HK.out, rks, hk, hu]
      have C := hide (fun W => readKey_yes r (by omega) hk W)
      rw [← hu] at C hdr
      have hcut := str_cut r u (by omega)
      rw [hdr] at hcut
      have hs := str_size r
      have hul : u ≤ r.length := by omega
      clear HK hdr hu
      gi_wp2_with (refine ⟨trivial, ?_⟩; gi_at_call 15; refine (callsIn_wide.2 (unhide C _)).mono ?_; rintro e W1 ⟨rfl, hb1⟩; have hJ1 := hJ.more _ _ _ hJs hb1; have hbx : Boxed W1 Bn 9 (.string (Str r)) := (hb1.block _ hb.lt).trans hb; have hJ2 := hJ.more _ _ _ hJ1 ((Below.refl _ _).alloc (Nat.le_refl _) (.cells #[.int .i64 k, .int .i64 m, .int .i64 s, .string (Str d)] 24)); obtain ⟨fn, tmps, assign, body, hy, hR⟩ := hY pre ((k, m, s, d), u) _ hJ2 (by omega); dsimp only [encR] at hy)
      refine hR.mono ?_
      rintro e W3 (⟨rfl, hJ3, hkb⟩ | ⟨rfl, hJx3⟩)
      · have hb3 := hkb _ (hbx.alloc _)
        have hc3 := hb3.cell
        have hf3 := hb3.frozen
        gi_wp2
        go_roundw
        case rel => exact ⟨f, pre ++ [((k, m, s, d), u)], r', by omega, by omega, hb3.set _, hJ.turn _ _ _ hJ3, by simp; omega, by show _ = _; rw [HE.out]; simp⟩
        case measure => rw [restS_eq (hb3.set (.string (Str r'))), hrest]; exact hlr
      · gi_wp2
        refine bodyPost_ret (results_none rfl _ _ _) rfl ?_
        exact ⟨⟨_, rfl⟩, .inr ⟨_, ⟨rks f r', by rw [HE.out]; simp⟩, hJx3⟩⟩

set_option maxHeartbeats 1000000 in
theorem vals_in (n : Nat) (t : ByteArray) (w : World) :
    CallsIn Fence.wide n Try.prog 35 #[.string t] w fun e w' => e = .returned (.func (.func 51) #[] #[.pointer (some ⟨w.heap.size, 0, none⟩)]) ∧ w' = w.alloc (.cells #[.string t] 9) := by
  refine callsIn_of_wp Try.func35 rfl trivial ?_ rfl
  simp only [Try.ntmps35, List.size_toArray, List.length_cons, List.length_nil, Nat.reduceAdd, Nat.reduceSub, Array.replicate_succ, Array.replicate_zero, List.push_toArray, List.append_toArray, List.nil_append, List.cons_append]
  gi_wp2
  go_ret
  exact ⟨rfl, rfl⟩
theorem vals_gives (n : Nat) (hn : 1 ≤ n) (Bn : Nat) (l : List UInt8) (hm : l.length ≤ 800000) (w : World) (hB : Boxed w Bn 9 (.string (Str l))) :
    Gives n 51 #[.pointer (some ⟨Bn, 0, none⟩)] encR Bn 9 (fun xs => xs = rks l.length l) (fun pre => pre <+: rks l.length l) (l.length + 1) w := fun L J Jx W hW hJ hY h0 =>
  valsC_in n hn L Bn l hm J Jx hJ hY W ((hW.block Bn hB.lt).trans hB) h0
end Go.Proofs.Ytbpjejjbgdikdaa
