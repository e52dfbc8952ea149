/-
  The walk of the law CmdCut.
-/
import Derived.Test.YtjmmfgmmmdbenaaCN3
namespace Go.Proofs.Ytjmmfgmmmdbenaa
open Go.RowKit
set_option linter.unusedSimpArgs false
set_option linter.unusedVariables false

set_option maxRecDepth 100000 in
set_option maxHeartbeats 8000000 in
theorem cmdCut_more (a0 a1 a2 : Int) (v : Value) (s : ByteArray) (form cut : Int) (t : ByteArray) (w : World) (c : Cm) (g : GoodC c) (hs : s.size ≤ 60) (ht : t.size ≤ 60) (MK : Hid (Mk7 a0 a1 a2 v s w c)) (m : Int) (hm : form % 2 = m) (kf : Is64 form) (kc : Is64 cut) (hf : 1 + m = 2 ∨ 1 + m = 1 ∧ c.kind ≠ 5) (hne : t ≠ ⟨#[]⟩) :
    Calls Try.prog 9 #[.int .i64 a0, .int .i64 a1, .int .i64 a2, v, .string s, .int .i64 form, .int .i64 cut, .string t] w fun e w' => e = .returned (.bool true) ∧ Below w.heap.size w w' := by
  have hsi : (s.size : Int) ≤ 60 := by omega
  have hti : (t.size : Int) ≤ 60 := by omega
  have hw1 : IntKind.i64.wrap (1 + m) = 1 + m := IntWalk.i64_in _ (by omega)
  have EC := hide (fun v W hv => encG g hf v W hv)
  have WF := hide (fun W => within7_at kf (by decide) hm W)
  have hok := g.ok hf
  have hby := encS_by8 hok
  have hsz := g.size (1 + m)
  have hpos : 0 < (encS (1 + m) c).size := by
    obtain ⟨a, l, h⟩ := enc_cons (1 + m) c
    rw [← by8_len, hby, h]; simp
  have hNC := fun k hk => none_cut hok ⟨g.2.1, g.2.2⟩ hby k hk
  have hNM := none_more hok ⟨g.2.1, g.2.2⟩ hby hne
  have hsm := g.small (1 + m)
  generalize encS (1 + m) c = u at *
  obtain ⟨k, hk⟩ : ∃ k : Nat, cut % (u.size : Int) = (k : Int) := ⟨(cut % (u.size : Int)).toNat, by have := Int.emod_nonneg cut (show (u.size : Int) ≠ 0 by omega); omega⟩
  have hku : k < u.size := by have := Int.emod_lt_of_pos cut (show 0 < (u.size : Int) by omega); omega
  have WC := hide (fun W => within7_at kc ⟨by omega, by omega⟩ hk W)
  have hx : (u.extract 0 k).size ≤ 1099511627776 := by rw [ByteArray.size_extract]; omega
  have DN := hide (fun W => decN (u.extract 0 k) hx (hNC k hku) W)
  have UN := hide (fun W => upN (u.extract 0 k) hx (hNC k hku) W)
  have hcat : ¬ 9223372036854775807 < u.size + t.size := by omega
  have DM := hide (fun W => decN (u ++ t) (by rw [ByteArray.size_append]; omega) hNM W)
  have hte := ba_beq hne
  have hte2 : t.toList.isEmpty = false := by rw [nil_iff]; exact decide_eq_false (fun h => hne (size0 h))
  have htl := ba_ne_list hne
  have hki : (k : Int) ≤ u.size := by omega
  have hu0 : ((u.size : Int) == 0) = false := by rw [beq_eq_false_iff_ne]; omega
  have hu1 : ¬ (u.size : Int) = 0 := by omega
  have hu2 : ¬ u.size = 0 := by omega
  clear g hf hok hby hsz hsm hNC hk hx hpos hm hNM hne
  go_enter Try.func9, Try.ntmps9
  go_wp2_with (first | (go_at_call 13; refine (known7_any _).mono ?_; rintro e W1 ⟨rfl, hb1⟩) | (go_at_call 14; refine (unhide MK _ hb1).mono ?_; rintro e W2 ⟨q, cap, rfl, hws, hb2⟩; have HB := hide (Below.onto hb1 hb2); have HW := hide hws; clear hb1 hb2 hws MK) | (go_at_call_of 15 (Value.int IntKind.i64 form); refine (unhide WF _).mono ?_; rintro e X2 ⟨rfl, hX2⟩; replace hX2 := hX2.symm; subst hX2) | (go_at_call_of 15 (Value.int IntKind.i64 cut); refine (unhide WC _).mono ?_; rintro e X2 ⟨rfl, hX2⟩; replace hX2 := hX2.symm; subst hX2) | (go_at_call 16; refine (unhide EC (.agg #[.int .i64 c.kind, .int .i64 c.id, .int .i64 c.txn, .bool c.com, .slice q c.ws.length cap, .string c.text]) _ (cmv (unhide HW))).mono ?_; rintro e W3 ⟨rfl, hb3⟩; replace HB := hide (Below.onto (unhide HB) hb3); clear hb3) | (go_at_call 18; first | (refine (unhide DN W3).mono ?_; rintro e W4 ⟨rfl, hb4⟩; clear DN; have hn := below_new W4 (.cells #[.int .i64 0, .int .i64 0, .int .i64 0, .bool false, .slice none 0 0, .string ⟨#[]⟩] 26); have hz := Blk.new W4 #[.int .i64 0, .int .i64 0, .int .i64 0, .bool false, .slice none 0 0, .string ⟨#[]⟩] 26; have HZ := hide hz; replace HB := hide (Below.onto (Below.onto (unhide HB) hb4) hn); clear hb4 hn hz) | (refine (unhide DM _).mono ?_; rintro e W5 ⟨rfl, hb5⟩; clear DM; have hn := below_new W5 (.cells #[.int .i64 0, .int .i64 0, .int .i64 0, .bool false, .slice none 0 0, .string ⟨#[]⟩] 26); replace HZ := hide (((unhide HZ).below hb5).below hn); replace HB := hide (Below.onto (Below.onto (unhide HB) hb5) hn); clear hb5 hn)) | (go_at_call 21; refine (unhide UN _).mono ?_; rintro e W6 ⟨rfl, hb6⟩; have k_ := (unhide HZ).below hb6; replace HZ := hide k_; have z0_ := k_.cell 0; have z1_ := k_.cell 1; have z2_ := k_.cell 2; have z3_ := k_.cell 3; have z4_ := k_.cell 4; have z5_ := k_.cell 5; simp at z0_ z1_ z2_ z3_ z4_ z5_; clear k_; replace HB := hide (Below.onto (unhide HB) hb6); clear hb6) | (go_at_call 19; refine (same0_any _ 0 0 0 false ⟨#[]⟩ none none 0 0).mono ?_; rintro e W7 ⟨rfl, hb7⟩; replace HB := hide (Below.onto (unhide HB) hb7); clear hb7))
  go_ret
  exact ⟨rfl, unhide HB⟩
set_option maxRecDepth 100000 in
set_option maxHeartbeats 8000000 in
theorem cmdCut_same (a0 a1 a2 : Int) (v : Value) (s : ByteArray) (form cut : Int) (t : ByteArray) (w : World) (c : Cm) (g : GoodC c) (hs : s.size ≤ 60) (ht : t.size ≤ 60) (MK : Hid (Mk7 a0 a1 a2 v s w c)) (m : Int) (hm : form % 2 = m) (kf : Is64 form) (kc : Is64 cut) (hf : 1 + m = 2 ∨ 1 + m = 1 ∧ c.kind ≠ 5) (hne : t = ⟨#[]⟩) :
    Calls Try.prog 9 #[.int .i64 a0, .int .i64 a1, .int .i64 a2, v, .string s, .int .i64 form, .int .i64 cut, .string t] w fun e w' => e = .returned (.bool true) ∧ Below w.heap.size w w' := by
  have hsi : (s.size : Int) ≤ 60 := by omega
  have hti : (t.size : Int) ≤ 60 := by omega
  have hw1 : IntKind.i64.wrap (1 + m) = 1 + m := IntWalk.i64_in _ (by omega)
  have EC := hide (fun v W hv => encG g hf v W hv)
  have WF := hide (fun W => within7_at kf (by decide) hm W)
  have hok := g.ok hf
  have hby := encS_by8 hok
  have hsz := g.size (1 + m)
  have hpos : 0 < (encS (1 + m) c).size := by
    obtain ⟨a, l, h⟩ := enc_cons (1 + m) c
    rw [← by8_len, hby, h]; simp
  have hNC := fun k hk => none_cut hok ⟨g.2.1, g.2.2⟩ hby k hk
  have DG := hide (fun W => decG g hf W)
  have hsm := g.small (1 + m)
  generalize encS (1 + m) c = u at *
  obtain ⟨k, hk⟩ : ∃ k : Nat, cut % (u.size : Int) = (k : Int) := ⟨(cut % (u.size : Int)).toNat, by have := Int.emod_nonneg cut (show (u.size : Int) ≠ 0 by omega); omega⟩
  have hku : k < u.size := by have := Int.emod_lt_of_pos cut (show 0 < (u.size : Int) by omega); omega
  have WC := hide (fun W => within7_at kc ⟨by omega, by omega⟩ hk W)
  have hx : (u.extract 0 k).size ≤ 1099511627776 := by rw [ByteArray.size_extract]; omega
  have DN := hide (fun W => decN (u.extract 0 k) hx (hNC k hku) W)
  have UN := hide (fun W => upN (u.extract 0 k) hx (hNC k hku) W)
  subst hne
  have hcat : ¬ 9223372036854775807 < u.size := by omega
  have hcat2 : ¬ 9223372036854775807 < u.size + 0 := by omega
  have happ : u ++ (⟨#[]⟩ : ByteArray) = u := by apply by8_inj; simp [by8]
  have hki : (k : Int) ≤ u.size := by omega
  have hu0 : ((u.size : Int) == 0) = false := by rw [beq_eq_false_iff_ne]; omega
  have hu1 : ¬ (u.size : Int) = 0 := by omega
  have hu2 : ¬ u.size = 0 := by omega
  clear g hf hok hby hsz hsm hNC hk hx hpos hm
  go_enter Try.func9, Try.ntmps9
  go_wp2_with (first | (go_at_call 13; refine (known7_any _).mono ?_; rintro e W1 ⟨rfl, hb1⟩) | (go_at_call 14; refine (unhide MK _ hb1).mono ?_; rintro e W2 ⟨q, cap, rfl, hws, hb2⟩; have HB := hide (Below.onto hb1 hb2); have HW := hide hws; clear hb1 hb2 hws MK) | (go_at_call_of 15 (Value.int IntKind.i64 form); refine (unhide WF _).mono ?_; rintro e X2 ⟨rfl, hX2⟩; replace hX2 := hX2.symm; subst hX2) | (go_at_call_of 15 (Value.int IntKind.i64 cut); refine (unhide WC _).mono ?_; rintro e X2 ⟨rfl, hX2⟩; replace hX2 := hX2.symm; subst hX2) | (go_at_call 16; refine (unhide EC (.agg #[.int .i64 c.kind, .int .i64 c.id, .int .i64 c.txn, .bool c.com, .slice q c.ws.length cap, .string c.text]) _ (cmv (unhide HW))).mono ?_; rintro e W3 ⟨rfl, hb3⟩; replace HB := hide (Below.onto (unhide HB) hb3); clear hb3) | (go_at_call 18; first | (refine (unhide DN W3).mono ?_; rintro e W4 ⟨rfl, hb4⟩; clear DN; have hn := below_new W4 (.cells #[.int .i64 0, .int .i64 0, .int .i64 0, .bool false, .slice none 0 0, .string ⟨#[]⟩] 26); have hz := Blk.new W4 #[.int .i64 0, .int .i64 0, .int .i64 0, .bool false, .slice none 0 0, .string ⟨#[]⟩] 26; have HZ := hide hz; replace HB := hide (Below.onto (Below.onto (unhide HB) hb4) hn); clear hb4 hn hz) | (refine (unhide DG _).mono ?_; rintro e W5 ⟨p3, cap3, rfl, _, hb5⟩; clear DG; have hn := below_new W5 (.cells #[.int .i64 c.kind, .int .i64 c.id, .int .i64 c.txn, .bool c.com, .slice p3 c.ws.length cap3, .string c.text] 26); replace HZ := hide (((unhide HZ).below hb5).below hn); replace HB := hide (Below.onto (Below.onto (unhide HB) hb5) hn); clear hb5 hn)) | (go_at_call 21; refine (unhide UN _).mono ?_; rintro e W6 ⟨rfl, hb6⟩; have k_ := (unhide HZ).below hb6; replace HZ := hide k_; have z0_ := k_.cell 0; have z1_ := k_.cell 1; have z2_ := k_.cell 2; have z3_ := k_.cell 3; have z4_ := k_.cell 4; have z5_ := k_.cell 5; simp at z0_ z1_ z2_ z3_ z4_ z5_; clear k_; replace HB := hide (Below.onto (unhide HB) hb6); clear hb6) | (go_at_call 19; refine (same0_any _ 0 0 0 false ⟨#[]⟩ none none 0 0).mono ?_; rintro e W7 ⟨rfl, hb7⟩; replace HB := hide (Below.onto (unhide HB) hb7); clear hb7))
  go_ret
  exact ⟨rfl, unhide HB⟩
set_option maxRecDepth 100000 in
set_option maxHeartbeats 4000000 in
theorem cmdCut_no (a0 a1 a2 : Int) (v : Value) (s : ByteArray) (form cut : Int) (t : ByteArray) (w : World) (c : Cm) (g : GoodC c) (hs : s.size ≤ 60) (ht : t.size ≤ 60) (MK : Hid (Mk7 a0 a1 a2 v s w c)) (hm : form % 2 = 0) (kf : Is64 form) (h5 : c.kind = 5) :
    Calls Try.prog 9 #[.int .i64 a0, .int .i64 a1, .int .i64 a2, v, .string s, .int .i64 form, .int .i64 cut, .string t] w fun e w' => e = .returned (.bool true) ∧ Below w.heap.size w w' := by
  have hsi : (s.size : Int) ≤ 60 := by omega
  have hti : (t.size : Int) ≤ 60 := by omega
  have EC := hide (fun v W hv => encN g h5 v W hv)
  have WF := hide (fun W => within7_at kf (by decide) hm W)
  clear g h5 hm
  go_enter Try.func9, Try.ntmps9
  go_wp2_with (first | (go_at_call 13; refine (known7_any _).mono ?_; rintro e W1 ⟨rfl, hb1⟩) | (go_at_call 14; refine (unhide MK _ hb1).mono ?_; rintro e W2 ⟨q, cap, rfl, hws, hb2⟩; have HB := hide (Below.onto hb1 hb2); have HW := hide hws; clear hb1 hb2 hws MK) | (go_at_call_of 15 (Value.int IntKind.i64 form); refine (unhide WF _).mono ?_; rintro e X2 ⟨rfl, hX2⟩; replace hX2 := hX2.symm; subst hX2) | (go_at_call 16; refine (unhide EC (.agg #[.int .i64 c.kind, .int .i64 c.id, .int .i64 c.txn, .bool c.com, .slice q c.ws.length cap, .string c.text]) _ (cmv (unhide HW))).mono ?_; rintro e W3 ⟨rfl, hb3⟩; replace HB := hide (Below.onto (unhide HB) hb3); clear hb3))
  go_ret
  exact ⟨rfl, unhide HB⟩
set_option maxHeartbeats 1000000 in
theorem cmdCut_long (a0 a1 a2 : Int) (v : Value) (s : ByteArray) (form cut : Int) (t : ByteArray) (w : World) (hs : (60 : Int) < s.size ∨ (60 : Int) < t.size) :
    Calls Try.prog 9 #[.int .i64 a0, .int .i64 a1, .int .i64 a2, v, .string s, .int .i64 form, .int .i64 cut, .string t] w fun e w' => e = .returned (.bool true) ∧ Below w.heap.size w w' := by
  by_cases h1 : (60 : Int) < s.size
  · clear hs
    go_enter Try.func9, Try.ntmps9
    go_wp2_with (go_at_call 13; refine (known7_any _).mono ?_; rintro e W1 ⟨rfl, hb1⟩)
    go_ret
    exact ⟨rfl, hb1⟩
  · have h2 : (60 : Int) < t.size := by rcases hs with h | h; exact absurd h h1; exact h
    clear hs
    go_enter Try.func9, Try.ntmps9
    go_wp2_with (go_at_call 13; refine (known7_any _).mono ?_; rintro e W1 ⟨rfl, hb1⟩)
    go_ret
    exact ⟨rfl, hb1⟩
theorem cmdCut_walk (a0 a1 a2 : Int) (v3 : Value) (a3 : List Int) (a4 : ByteArray) (a5 a6 : Int) (a7 : ByteArray) (k0 : Is64 a0) (k1 : Is64 a1) (k2 : Is64 a2) (k5 : Is64 a5) (k6 : Is64 a6) (w : World) (w3 : Ints v3 a3 w) :
    Calls Try.prog 9 #[.int .i64 a0, .int .i64 a1, .int .i64 a2, v3, .string a4, .int .i64 a5, .int .i64 a6, .string a7] w fun e w' => e = .returned (.bool true) ∧ Below w.heap.size w w' := by
  by_cases hs : a4.size ≤ 60 ∧ a7.size ≤ 60
  · obtain ⟨hs, ht⟩ := hs
    have MK := hide (mk7_of a0 a1 a2 v3 a3 a4 w k0 k1 k2 w3 (by omega))
    have g := mkC_good a0 a1 a2 a3 a4 (by omega)
    generalize mkC a0 a1 a2 a3 a4 = c at *
    have hm : a5 % 2 = 0 ∨ a5 % 2 = 1 := by omega
    have hf : (a5 % 2 = 0 ∧ c.kind = 5) ∨ (1 + a5 % 2 = 2 ∨ 1 + a5 % 2 = 1 ∧ c.kind ≠ 5) := by omega
    rcases hf with ⟨h0, h5⟩ | hf
    · exact cmdCut_no a0 a1 a2 v3 a4 a5 a6 a7 w c g hs ht MK h0 k5 h5
    · by_cases hne : a7 = ⟨#[]⟩
      · exact cmdCut_same a0 a1 a2 v3 a4 a5 a6 a7 w c g hs ht MK _ rfl k5 k6 hf hne
      · exact cmdCut_more a0 a1 a2 v3 a4 a5 a6 a7 w c g hs ht MK _ rfl k5 k6 hf hne
  · exact cmdCut_long a0 a1 a2 v3 a4 a5 a6 a7 w (by omega)
end Go.Proofs.Ytjmmfgmmmdbenaa
