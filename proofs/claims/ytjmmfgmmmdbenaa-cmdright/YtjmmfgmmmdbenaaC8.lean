/-
  Package cmd: numbers by seven bits, taken.
-/
import Derived.Test.YtjmmfgmmmdbenaaC7
namespace Go.Proofs.Ytjmmfgmmmdbenaa
open Go.RowKit
set_option linter.unusedSimpArgs false
set_option linter.unusedVariables false

def QS (y : Int) : Prop := 0 ≤ y ∧ y ≤ 9223372036854775807
/-- what is known of a number of which i bytes have been read -/
def SK (s : ByteArray) (q : Option (Int × List UInt8)) (i : Nat) (y : Int) : Prop :=
  (0 ≤ y ∧ y < 2 ^ (7 * i)) ∧ ∀ xt r, q = some (xt, r) → (0 ≤ xt ∧ xt ≤ 9223372036854775807) ∧ xt = y + 2 ^ (7 * i) * ((xt.toNat / 2 ^ (7 * i) : Nat) : Int) ∧ (by8 s).drop i = sh (xt.toNat / 2 ^ (7 * i)) ++ r ∧ (i = 0 ∨ 1 ≤ xt.toNat / 2 ^ (7 * i))
/-- at takeShort's label -/
def JT (W : World) (s : ByteArray) (b o : Nat) (q : Option (Int × List UInt8)) (l n : Nat) (a : Act) (wr : World) : Prop :=
  l = 0 ∧ ∃ (i : Nat) (y : Int) (u : Nat → Value), n = 9 - i ∧ i ≤ 9 ∧ i ≤ s.size ∧ a = ⟨#[.string s, ptr b o, undef, undef, .string ⟨#[]⟩, .bool false, .int .i64 (i : Int), u 7, u 8, u 9, u 10, u 11, u 12, u 13, u 14, u 15, u 16, u 17, u 18, u 19, u 20, u 21, u 22, u 23, u 24, u 25, u 26, u 27, u 28, u 29, u 30, u 31, u 32, u 33, u 34, u 35, u 36, u 37], []⟩ ∧ wr.cell? ⟨b, o, none⟩ = some (.int .i64 y) ∧ Hid (SK s q i y) ∧ Upd b o 1 W wr
theorem JT.intro {W : World} {s : ByteArray} {b o : Nat} {q : Option (Int × List UInt8)} {l n : Nat} {wr : World} (a : Act) (i : Nat) (y : Int) (hl : l = 0) (hn : n = 9 - i) (hi : i ≤ 9) (his : i ≤ s.size)
    (ha : a = ⟨#[.string s, ptr b o, undef, undef, .string ⟨#[]⟩, .bool false, .int .i64 (i : Int), a.tmps.getD 7 undef, a.tmps.getD 8 undef, a.tmps.getD 9 undef, a.tmps.getD 10 undef, a.tmps.getD 11 undef, a.tmps.getD 12 undef, a.tmps.getD 13 undef, a.tmps.getD 14 undef, a.tmps.getD 15 undef, a.tmps.getD 16 undef, a.tmps.getD 17 undef, a.tmps.getD 18 undef, a.tmps.getD 19 undef, a.tmps.getD 20 undef, a.tmps.getD 21 undef, a.tmps.getD 22 undef, a.tmps.getD 23 undef, a.tmps.getD 24 undef, a.tmps.getD 25 undef, a.tmps.getD 26 undef, a.tmps.getD 27 undef, a.tmps.getD 28 undef, a.tmps.getD 29 undef, a.tmps.getD 30 undef, a.tmps.getD 31 undef, a.tmps.getD 32 undef, a.tmps.getD 33 undef, a.tmps.getD 34 undef, a.tmps.getD 35 undef, a.tmps.getD 36 undef, a.tmps.getD 37 undef], []⟩)
    (h1 : wr.cell? ⟨b, o, none⟩ = some (.int .i64 y)) (h2 : SK s q i y) (h3 : Upd b o 1 W wr) : JT W s b o q l n a wr :=
  ⟨hl, i, y, (fun i => a.tmps.getD i undef), hn, hi, his, ha, h1, h2, h3⟩

theorem pow7 {i : Nat} (h : i ≤ 8) : (1 : Int) ≤ 2 ^ (7 * i) ∧ (2 : Int) ^ (7 * i) ≤ 2 ^ 56 := by
  have : i = 0 ∨ i = 1 ∨ i = 2 ∨ i = 3 ∨ i = 4 ∨ i = 5 ∨ i = 6 ∨ i = 7 ∨ i = 8 := by omega
  rcases this with rfl | rfl | rfl | rfl | rfl | rfl | rfl | rfl | rfl <;> decide
theorem andNot128 (c : UInt8) : bits BinOp.andNot IntKind.u8 (c.toNat : Int) 128 = ((c.toNat % 128 : Nat) : Int) := by
  have key : ∀ m : Fin 256, bits BinOp.andNot IntKind.u8 ((m.val : Nat) : Int) 128 = ((m.val % 128 : Nat) : Int) := by decide +kernel
  exact key ⟨c.toNat, c.toNat_lt⟩
theorem or_comm64 (x y : Int) : bits .or .i64 x y = bits .or .i64 y x := by simp only [bits, BitVec.or_comm]
theorem or_sh (y : Int) (c : UInt8) (i : Nat) (h0 : 0 ≤ y) (h1 : y < 2 ^ (7 * i)) (hi : i ≤ 8) :
    bits BinOp.or IntKind.i64 y (IntKind.i64.wrap (IntKind.i64.wrap (bits BinOp.andNot IntKind.u8 (c.toNat : Int) 128) * 2 ^ (7 * i))) = y + ((c.toNat % 128 : Nat) : Int) * 2 ^ (7 * i) := by
  obtain ⟨p1, p2⟩ := pow7 hi
  have hm : c.toNat % 128 < 128 := Nat.mod_lt _ (by decide)
  rw [andNot128, wraps_i64 ((c.toNat % 128 : Nat) : Int) (by omega) (by omega)]
  generalize c.toNat % 128 = m at *
  have hmul : (m : Int) * 2 ^ (7 * i) ≤ 127 * 2 ^ 56 := Int.mul_le_mul (by omega) p2 (by omega) (by omega)
  have hmul0 : 0 ≤ (m : Int) * 2 ^ (7 * i) := Int.mul_nonneg (by omega) (by omega)
  rw [wraps_i64 _ hmul0 (by omega), or_comm64, or_join _ _ (7 * i) hmul0 (Int.mul_emod_left _ _) (by omega) h0 h1 (by omega)]
  omega
theorem drop_head {s : ByteArray} {i : Nat} (h : i < s.size) {a : UInt8} {l : List UInt8} (hd : (by8 s).drop i = a :: l) : s[i] = a ∧ (by8 s).drop (i + 1) = l := by
  have h1 := byte_at s i h
  have h2 : (by8 s)[i]? = some a := by rw [← List.head?_drop, hd]; rfl
  rw [h1] at h2
  refine ⟨by injection h2, ?_⟩
  rw [← List.drop_drop, hd]; rfl
theorem sk_end {s : ByteArray} {q : Option (Int × List UInt8)} {i : Nat} {y nv : Int} (h : SK s q i y) (hi : i < s.size) (h8 : i ≤ 8) (hn : nv = y + ((s[i].toNat % 128 : Nat) : Int) * 2 ^ (7 * i)) (hc : s[i].toNat < 128) :
    QS nv ∧ ∀ xt r, q = some (xt, r) → nv = xt ∧ (by8 s).drop (i + 1) = r := by
  obtain ⟨⟨h0, h1⟩, h2⟩ := h
  obtain ⟨p1, p2⟩ := pow7 h8
  rw [Nat.mod_eq_of_lt hc] at hn
  have hmul : (s[i].toNat : Int) * 2 ^ (7 * i) ≤ 127 * 2 ^ 56 := Int.mul_le_mul (by omega) p2 (by omega) (by omega)
  have hmul0 : 0 ≤ (s[i].toNat : Int) * 2 ^ (7 * i) := Int.mul_nonneg (by omega) (by omega)
  refine ⟨⟨by omega, by omega⟩, fun xt r hq => ?_⟩
  obtain ⟨_, g1, g2, _⟩ := h2 xt r hq
  generalize xt.toNat / 2 ^ (7 * i) = m at *
  by_cases hm : m < 128
  · rw [sh_lt hm] at g2
    obtain ⟨e1, e2⟩ := drop_head hi g2
    rw [e1, u8_ofNat (by omega)] at hn
    exact ⟨by rw [hn, g1, Int.mul_comm], e2⟩
  · rw [sh_ge (by omega)] at g2
    obtain ⟨e1, e2⟩ := drop_head hi g2
    rw [e1, u8_ofNat (by omega)] at hc
    omega
theorem sk_step {s : ByteArray} {q : Option (Int × List UInt8)} {i : Nat} {y nv : Int} (h : SK s q i y) (hi : i < s.size) (h8 : i ≤ 8) (hn : nv = y + ((s[i].toNat % 128 : Nat) : Int) * 2 ^ (7 * i)) (hc : 128 ≤ s[i].toNat) : SK s q (i + 1) nv := by
  obtain ⟨⟨h0, h1⟩, h2⟩ := h
  obtain ⟨p1, p2⟩ := pow7 h8
  have hm8 : s[i].toNat % 128 < 128 := Nat.mod_lt _ (by decide)
  have hp : (2 : Int) ^ (7 * (i + 1)) = 2 ^ (7 * i) * 128 := by rw [show 7 * (i + 1) = 7 * i + 7 by omega, Int.pow_add]; rfl
  have hpn : (2 : Nat) ^ (7 * (i + 1)) = 2 ^ (7 * i) * 128 := by rw [show 7 * (i + 1) = 7 * i + 7 by omega, Nat.pow_add]
  have hmul : ((s[i].toNat % 128 : Nat) : Int) * 2 ^ (7 * i) ≤ 127 * 2 ^ (7 * i) := Int.mul_le_mul_of_nonneg_right (by omega) (by omega)
  have hmul0 : 0 ≤ ((s[i].toNat % 128 : Nat) : Int) * 2 ^ (7 * i) := Int.mul_nonneg (by omega) (by omega)
  refine ⟨⟨by omega, by rw [hp]; omega⟩, fun xt r hq => ?_⟩
  obtain ⟨g0, g1, g2, _⟩ := h2 xt r hq
  rw [hpn, ← Nat.div_div_eq_div_mul, hp]
  generalize xt.toNat / 2 ^ (7 * i) = m at *
  by_cases hm : m < 128
  · rw [sh_lt hm] at g2
    obtain ⟨e1, e2⟩ := drop_head hi g2
    rw [e1, u8_ofNat (by omega)] at hc
    omega
  · rw [sh_ge (by omega)] at g2
    obtain ⟨e1, e2⟩ := drop_head hi g2
    have e3 : s[i].toNat % 128 = m % 128 := by rw [e1, u8_ofNat (by omega)]; omega
    refine ⟨g0, ?_, e2, .inr (by omega)⟩
    rw [hn, e3, g1, Int.mul_comm ((m % 128 : Nat) : Int), Int.mul_assoc, Int.add_assoc, ← Int.mul_add]
    congr 2; omega

set_option maxRecDepth 100000 in
set_option maxHeartbeats 2000000 in
theorem shTakes (w0 : World) : Takes (.func (.func 92) #[] #[]) w0 tI (fun x => x = 0) QS (fun x => 0 ≤ x ∧ x ≤ 9223372036854775807) shI (fun _ _ => True) (fun y xt => y = xt) := by
  refine ⟨_, _, rfl, (fun _ _ => by kernel_rfl), fun s W b o base x q hB h1 h2 h3 hR hx hsl hq => ?_⟩
  simp only [List.append_toArray, List.cons_append, List.nil_append]
  subst hx
  obtain ⟨hm, hc⟩ := hR
  have HQ := hide hq
  have HM := hide hm
  clear hq hm
  go_enter Try.func92, Try.ntmps92
  go_wp2
  refine wp_scope_fall (JT W s b o q) ?first ?pass
  case first =>
    intro fall
    go_wp2
    rename_i hrest
    go_step3
    refine hrest _ _ ?_
    clear hrest
    exact fall 0 9 _ _ (JT.intro _ 0 0 rfl rfl (by omega) (by omega) rfl hc ⟨by decide, fun xt r h => ⟨(unhide HQ xt r h).1, by simp; have := (unhide HQ xt r h).1.1; omega, by have := (unhide HQ xt r h).2.2; simpa [shI] using this, .inl rfl⟩⟩ (Upd.refl _ _ _ _)) _ (by kernel_rfl)
  case pass =>
    intro l n a wr fall hJ
    clear fall
    obtain ⟨rfl, i, y, u, rfl, hi9, his, rfl, hcy, HS, hU⟩ := hJ
    refine ⟨_, rfl, ?_⟩
    by_cases hend : i = s.size ∨ i = 9
    · have hqn : q = none := by
        rcases hqq : q with _ | ⟨xt, r⟩
        · rfl
        · obtain ⟨g0, g1, g2, g3⟩ := (unhide HS).2 xt r hqq
          rcases hend with rfl | rfl
          · exfalso
            have := congrArg List.length g2
            have hp := sh_pos (xt.toNat / 2 ^ (7 * s.size))
            rw [List.length_drop, by8_len, List.length_append] at this
            omega
          · exfalso
            have : xt.toNat / 2 ^ (7 * 9) = 0 := Nat.div_eq_of_lt (by have : (2 : Nat) ^ (7 * 9) = 9223372036854775808 := by decide
                                                                      omega)
            omega
      have hgr := hU.grown
      by_cases he : i = s.size
      · subst he
        clear hend
        go_wp2
        change bodyPost Try.prog Try.f92 (TPost tI QS (fun y xt => y = xt) q W b o base s) Exit.ret _ _
        go_ret2
        exact TPost.fail 0 hgr hqn
      · obtain rfl : i = 9 := by omega
        clear hend
        have he2 : ((9 : Int) == (s.size : Int)) = false := by rw [beq_eq_false_iff_ne]; omega
        go_wp2
        change bodyPost Try.prog Try.f92 (TPost tI QS (fun y xt => y = xt) q W b o base s) Exit.ret _ _
        go_ret2
        exact TPost.fail 0 hgr hqn
    · obtain ⟨cur, T, hbk⟩ := hU.mem (unhide HM)
      have hks : i < s.size := by omega
      have hk9 : i < 9 := by omega
      have hi0 : ((i : Int) == (s.size : Int)) = false := by rw [beq_eq_false_iff_ne]; omega
      have hi1 : ((i : Int) == 9) = false := by rw [beq_eq_false_iff_ne]; omega
      have hi2 : ¬ (i : Int) = 9 := by omega
      have hi3 : ¬ (i : Int) = (s.size : Int) := by omega
      have hw7 : IntKind.i64.wrap (7 * (i : Int)) = 7 * (i : Int) := IntWalk.i64_in _ (by omega)
      have hw8 : IntKind.i64.wrap ((i : Int) + 1) = (i : Int) + 1 := IntWalk.i64_in _ (by omega)
      have hw9 : IntKind.i64.wrap ((i : Int) + 1 - 1) = (i : Int) := (IntWalk.i64_in _ (by omega)).trans (by omega)
      clear hend
      go_wp2
      rename_i hrest
      refine wp_region_noPanic ?_
      refine wp_region_held_drew (S := (fun _ => True)) (by kernel_rfl) (trivial) (fun hHeld => ?_)
      have hbkd : Blk b cur T wr.drew := hbk
      have hcyd : wr.drew.cell? ⟨b, o, none⟩ = some (.int .i64 y) := hcy
      have hUd : Upd b o 1 W wr.drew := hU.trans ⟨⟨rfl, rfl, rfl, Nat.le_refl _, fun _ _ _ => rfl⟩, fun cur T h => ⟨cur, h, rfl, fun _ _ => rfl⟩⟩
      clear hbk hcy hU
      generalize wr.drew = Wd at *
      refine wpAnyH_take (i := 0) (oi := ?oi20001) (v := ?v20001) ?hi20001 (by kernel_rfl) (by kernel_rfl) (by kernel_rfl) (fun _ _ _ h => h) (Or.inl ⟨?hw20001, ?hy20001⟩) (by assumption) ?rest20001
      case hi20001 => (simp only [List.getElem?_toArray, List.getElem?_cons_zero]; rfl)
      case hw20001 => rfl
      case hy20001 => first | (intro wx hSw; go_simp; done) | (intro wx hSw; go_simp; with_reducible rfl)
      simp only [Act.put, List.setIfInBounds_toArray, List.set_cons_zero, List.set_cons_succ]
      refine wpAnyH_take (i := 1) (oi := ?oi20002) (v := ?v20002) ?hi20002 (by kernel_rfl) (by kernel_rfl) (by kernel_rfl) (fun _ _ _ h => h) (Or.inl ⟨?hw20002, ?hy20002⟩) (by assumption) ?rest20002
      case hi20002 => (simp only [List.getElem?_toArray, List.getElem?_cons_zero, List.getElem?_cons_succ]; rfl)
      case hw20002 => rfl
      case hy20002 => first | (intro wx hSw; go_simp; done) | (intro wx hSw; go_simp; with_reducible rfl)
      simp only [Act.put, List.setIfInBounds_toArray, List.set_cons_zero, List.set_cons_succ]
      refine wpAnyH_take (i := 3) (oi := ?oi20003) (v := ?v20003) ?hi20003 (by kernel_rfl) (by kernel_rfl) (by kernel_rfl) (fun _ _ _ h => h) (Or.inl ⟨?hw20003, ?hy20003⟩) (by assumption) ?rest20003
      case hi20003 => (simp only [List.getElem?_toArray, List.getElem?_cons_zero, List.getElem?_cons_succ]; rfl)
      case hw20003 => rfl
      case hy20003 => first | (intro wx hSw; go_simp; done) | (intro wx hSw; go_simp; with_reducible rfl)
      simp only [Act.put, List.setIfInBounds_toArray, List.set_cons_zero, List.set_cons_succ]
      refine wpAnyH_take (i := 4) (oi := ?oi20004) (v := ?v20004) ?hi20004 (by kernel_rfl) (by kernel_rfl) (by kernel_rfl) (fun _ _ _ h => h) (Or.inl ⟨?hw20004, ?hy20004⟩) (by assumption) ?rest20004
      case hi20004 => (simp only [List.getElem?_toArray, List.getElem?_cons_zero, List.getElem?_cons_succ]; rfl)
      case hw20004 => rfl
      case hy20004 => first | (intro wx hSw; go_simp; done) | (intro wx hSw; go_simp; with_reducible rfl)
      simp only [Act.put, List.setIfInBounds_toArray, List.set_cons_zero, List.set_cons_succ]
      refine wpAnyH_take (i := 5) (oi := ?oi20005) (v := ?v20005) ?hi20005 (by kernel_rfl) (by kernel_rfl) (by kernel_rfl) (fun _ _ _ h => h) (Or.inl ⟨?hw20005, ?hy20005⟩) (by assumption) ?rest20005
      case hi20005 => (simp only [List.getElem?_toArray, List.getElem?_cons_zero, List.getElem?_cons_succ]; rfl)
      case hw20005 => rfl
      case hy20005 => first | (intro wx hSw; go_simp; done) | (intro wx hSw; go_simp; with_reducible rfl)
      simp only [Act.put, List.setIfInBounds_toArray, List.set_cons_zero, List.set_cons_succ]
      refine wpAnyH_take (i := 6) (oi := ?oi20006) (v := ?v20006) ?hi20006 (by kernel_rfl) (by kernel_rfl) (by kernel_rfl) (fun _ _ _ h => h) (Or.inl ⟨?hw20006, ?hy20006⟩) (by assumption) ?rest20006
      case hi20006 => (simp only [List.getElem?_toArray, List.getElem?_cons_zero, List.getElem?_cons_succ]; rfl)
      case hw20006 => rfl
      case hy20006 => first | (intro wx hSw; go_simp; done) | (intro wx hSw; go_simp; with_reducible rfl)
      simp only [Act.put, List.setIfInBounds_toArray, List.set_cons_zero, List.set_cons_succ]
      refine wpAnyH_take (i := 7) (oi := ?oi20007) (v := ?v20007) ?hi20007 (by kernel_rfl) (by kernel_rfl) (by kernel_rfl) (fun _ _ _ h => h) (Or.inl ⟨?hw20007, ?hy20007⟩) (by assumption) ?rest20007
      case hi20007 => (simp only [List.getElem?_toArray, List.getElem?_cons_zero, List.getElem?_cons_succ]; rfl)
      case hw20007 => rfl
      case hy20007 => first | (intro wx hSw; go_simp; done) | (intro wx hSw; go_simp; with_reducible rfl)
      simp only [Act.put, List.setIfInBounds_toArray, List.set_cons_zero, List.set_cons_succ]
      refine wpAnyH_take (i := 8) (oi := ?oi20008) (v := ?v20008) ?hi20008 (by kernel_rfl) (by kernel_rfl) (by kernel_rfl) (fun _ _ _ h => h) (Or.inl ⟨?hw20008, ?hy20008⟩) (by assumption) ?rest20008
      case hi20008 => (simp only [List.getElem?_toArray, List.getElem?_cons_zero, List.getElem?_cons_succ]; rfl)
      case hw20008 => rfl
      case hy20008 => first | (intro wx hSw; go_simp; done) | (intro wx hSw; go_simp; with_reducible rfl)
      simp only [Act.put, List.setIfInBounds_toArray, List.set_cons_zero, List.set_cons_succ]
      refine wpAnyH_take (i := 9) (oi := ?oi20009) (v := ?v20009) ?hi20009 (by kernel_rfl) (by kernel_rfl) (by kernel_rfl) (fun _ _ _ h => h) (Or.inl ⟨?hw20009, ?hy20009⟩) (by assumption) ?rest20009
      case hi20009 => (simp only [List.getElem?_toArray, List.getElem?_cons_zero, List.getElem?_cons_succ]; rfl)
      case hw20009 => rfl
      case hy20009 => first | (intro wx hSw; go_simp; done) | (intro wx hSw; go_simp; with_reducible rfl)
      simp only [Act.put, List.setIfInBounds_toArray, List.set_cons_zero, List.set_cons_succ]
      refine wpAnyH_take (i := 10) (oi := ?oi20010) (v := ?v20010) ?hi20010 (by kernel_rfl) (by kernel_rfl) (by kernel_rfl) (fun _ _ _ h => h) (Or.inl ⟨?hw20010, ?hy20010⟩) (by assumption) ?rest20010
      case hi20010 => (simp only [List.getElem?_toArray, List.getElem?_cons_zero, List.getElem?_cons_succ]; rfl)
      case hw20010 => rfl
      case hy20010 => first | (intro wx hSw; go_simp; done) | (intro wx hSw; go_simp; with_reducible rfl)
      simp only [Act.put, List.setIfInBounds_toArray, List.set_cons_zero, List.set_cons_succ]
      refine wpAnyH_ready (rs := [2]) (by kernel_rfl) (by simp) ?_
      refine AllReadyH.cons rfl (fun K20011 hK20011 => ?_) AllReadyH.nil
      go_simp
      refine hK20011.out _ _ ?hs20011 (fun hHeld20011 => ?_)
      case hs20011 => exact trivial
      clear hHeld
      have hHeld := hHeld20011; clear hHeld20011 hK20011 K20011
      refine wpAnyH_take (i := 11) (oi := ?oi20012) (v := ?v20012) ?hi20012 (by kernel_rfl) (by kernel_rfl) (by kernel_rfl) (fun _ _ _ h => h) (Or.inl ⟨?hw20012, ?hy20012⟩) (by assumption) ?rest20012
      case hi20012 => (simp only [List.getElem?_toArray, List.getElem?_cons_zero, List.getElem?_cons_succ]; rfl)
      case hw20012 => rfl
      case hy20012 => first | (intro wx hSw; go_simp; done) | (intro wx hSw; go_simp; with_reducible rfl)
      simp only [Act.put, List.setIfInBounds_toArray, List.set_cons_zero, List.set_cons_succ]
      refine wpAnyH_take (i := 12) (oi := ?oi20013) (v := ?v20013) ?hi20013 (by kernel_rfl) (by kernel_rfl) (by kernel_rfl) (fun _ _ _ h => h) (Or.inl ⟨?hw20013, ?hy20013⟩) (by assumption) ?rest20013
      case hi20013 => (simp only [List.getElem?_toArray, List.getElem?_cons_zero, List.getElem?_cons_succ]; rfl)
      case hw20013 => rfl
      case hy20013 => first | (intro wx hSw; go_simp; done) | (intro wx hSw; go_simp; with_reducible rfl)
      simp only [Act.put, List.setIfInBounds_toArray, List.set_cons_zero, List.set_cons_succ]
      have hfz := hbkd.froz o
      refine wpAnyH_ready (rs := [13]) (by kernel_rfl) (by simp) ?_
      refine AllReadyH.cons rfl (fun K20014 hK20014 => ?_) AllReadyH.nil
      go_simp
      refine hK20014.out _ _ ?hs20014 (fun hHeld20014 => ?_)
      case hs20014 => exact trivial
      clear hHeld
      have hHeld := hHeld20014; clear hHeld20014 hK20014 K20014
      refine wpAnyH_done (by kernel_rfl) ?_ _
      refine NoPanic.normal ?_
      refine hrest _ _ ?_
      clear hHeld
      have hny : Hid (bits BinOp.or IntKind.i64 y (IntKind.i64.wrap (IntKind.i64.wrap (bits BinOp.andNot IntKind.u8 (s[i].toNat : Int) 128) * 2 ^ (7 * (i : Int)).toNat)) = y + ((s[i].toNat % 128 : Nat) : Int) * 2 ^ (7 * i)) := by
        show _ = _
        rw [show (7 * (i : Int)).toNat = 7 * i by omega]
        exact or_sh y s[i] i (unhide HS).1.1 (unhide HS).1.2 (by omega)
      generalize bits BinOp.or IntKind.i64 y (IntKind.i64.wrap (IntKind.i64.wrap (bits BinOp.andNot IntKind.u8 (s[i].toNat : Int) 128) * 2 ^ (7 * (i : Int)).toNat)) = nv at *
      have hUn : Upd b o 1 W (Wd.setCell ⟨b, o, none⟩ (.int .i64 nv)) := hUd.trans (Upd.set _)
      have hcn : (Wd.setCell ⟨b, o, none⟩ (.int .i64 nv)).cell? ⟨b, o, none⟩ = some (.int .i64 nv) := (hbkd.set o _).cell o |>.trans (by rw [hbkd.cell] at hcyd; have := (Array.getElem?_eq_some_iff.1 hcyd).1; simp [this])
      have hmn := hUd.mem (unhide HM)
      clear hbkd hcyd hfz
      by_cases h128 : s[i].toNat < 128
      · have hz := sk_end (unhide HS) hks (by omega) (unhide hny) h128
        have hb : ((128 : Int) ≤ (s[i].toNat : Int)) = False := by simp; omega
        have HZ := hide hz
        clear hz
        go_wp2
        change bodyPost Try.prog Try.f92 (TPost tI QS (fun y xt => y = xt) q W b o base s) Exit.ret _ _
        go_ret2
        refine TPost.done (unhide HZ).1 ⟨hUn.mem (unhide HM), hcn⟩ ?_ (fun xt r0 h => ?_) hUn
        · show (s.extract _ s.size).size ≤ s.size
          rw [ByteArray.size_extract]; omega
        · obtain ⟨e1, e2⟩ := (unhide HZ).2 xt r0 h
          exact ⟨e1, (by8_drop s (i + 1)).trans e2⟩
      · have hz := sk_step (unhide HS) hks (by omega) (unhide hny) (by omega)
        have hb : (128 : Int) ≤ (s[i].toNat : Int) := by omega
        have HZ := hide hz
        clear hz
        go_wp2
        refine wp_goto ⟨9 - (i + 1), by omega, JT.intro _ (i + 1) nv rfl rfl (by omega) (by omega) (by rfl) hcn (unhide HZ) hUn⟩
end Go.Proofs.Ytjmmfgmmmdbenaa
