/-
  The walk of the law CmdBack.
-/
import Derived.Test.YtjmmfgmmmdbenaaRE7
import Derived.Test.YtjmmfgmmmdbenaaCP
namespace Go.Proofs.Ytjmmfgmmmdbenaa
open Go.RowKit
set_option linter.unusedSimpArgs false
set_option linter.unusedVariables false

set_option maxRecDepth 100000 in
set_option maxHeartbeats 8000000 in
theorem cmdBack_none (a0 a1 a2 : Int) (v : Value) (s : ByteArray) (form : Int) (w : World) (c : Cm) (g : GoodC c) (hs : s.size ≤ 200) (MK : Hid (Mk7 a0 a1 a2 v s w c)) (kf : Is64 form) (hm : form % 2 = 0) (h5 : c.kind = 5) :
    Calls Try.prog 3 #[.int .i64 a0, .int .i64 a1, .int .i64 a2, v, .string s, .int .i64 form] w fun e w' => e = .returned (.bool true) ∧ Below w.heap.size w w' := by
  have hsi : (s.size : Int) ≤ 200 := by omega
  have WF := hide (fun W => within7_at kf (by decide) hm W)
  have EC := hide (fun v W hv => encN g h5 v W hv)
  have RC := hide (fun v W hv => by have h := rencode_any 1 c v W hv g.fine; rw [g.no h5, encS_no (g.no h5)] at h; exact h)
  have hk5 : (c.kind == 5) = true := by rw [h5]; rfl
  clear g h5 hm
  go_enter Try.func3, Try.ntmps3
  go_wp2_with (first | (go_at_call 13; refine (known7_any _).mono ?_; rintro e W1 ⟨rfl, hb1⟩) | (go_at_call 14; refine (unhide MK _ hb1).mono ?_; rintro e W2 ⟨q, cap, rfl, hws, hb2⟩; have HB := hide (Below.onto (Below.onto hb1 hb2) (below_new W2 (.cells #[.int .i64 c.kind, .int .i64 c.id, .int .i64 c.txn, .bool c.com, .slice q c.ws.length cap, .string c.text] 26))); have HC := hide (Blk.new W2 #[.int .i64 c.kind, .int .i64 c.id, .int .i64 c.txn, .bool c.com, .slice q c.ws.length cap, .string c.text] 26); have HW := hide (hws.below (below_new W2 (.cells #[.int .i64 c.kind, .int .i64 c.id, .int .i64 c.txn, .bool c.com, .slice q c.ws.length cap, .string c.text] 26))); clear hb1 hb2 hws MK) | (go_at_call 15; refine (unhide WF _).mono ?_; rintro e X2 ⟨rfl, hX2⟩; replace hX2 := hX2.symm; subst hX2) | (go_at_call 16; refine (unhide EC (.agg #[.int .i64 c.kind, .int .i64 c.id, .int .i64 c.txn, .bool c.com, .slice q c.ws.length cap, .string c.text]) _ (cmv (unhide HW))).mono ?_; rintro e W3 ⟨rfl, hb3⟩; clear EC; have k_ := (unhide HC).below hb3; replace HC := hide k_; have x0_ := k_.cell 0; have x1_ := k_.cell 1; have x2_ := k_.cell 2; have x3_ := k_.cell 3; have x4_ := k_.cell 4; have x5_ := k_.cell 5; simp at x0_ x1_ x2_ x3_ x4_ x5_; clear k_; replace HW := hide ((unhide HW).below hb3); replace HB := hide (Below.onto (unhide HB) hb3); clear hb3) | (go_at_call 17; refine (unhide RC (.agg #[.int .i64 c.kind, .int .i64 c.id, .int .i64 c.txn, .bool c.com, .slice q c.ws.length cap, .string c.text]) W3 (cmv (unhide HW))).mono ?_; rintro e W4 ⟨rfl, hb4⟩; clear RC; have k_ := (unhide HC).below hb4; replace HC := hide k_; have y0_ := k_.cell 0; have y1_ := k_.cell 1; have y2_ := k_.cell 2; have y3_ := k_.cell 3; have y4_ := k_.cell 4; have y5_ := k_.cell 5; simp at y0_ y1_ y2_ y3_ y4_ y5_; clear k_; replace HW := hide ((unhide HW).below hb4); replace HB := hide (Below.onto (unhide HB) hb4); clear hb4 x0_ x1_ x2_ x3_ x4_ x5_))
  go_ret
  exact ⟨rfl, unhide HB⟩
set_option maxRecDepth 100000 in
set_option maxHeartbeats 8000000 in
theorem cmdBack_one (a0 a1 a2 : Int) (v : Value) (s : ByteArray) (form : Int) (w : World) (c : Cm) (g : GoodC c) (hs : s.size ≤ 200) (MK : Hid (Mk7 a0 a1 a2 v s w c)) (kf : Is64 form) (hm : form % 2 = 0) (h5 : c.kind ≠ 5) :
    Calls Try.prog 3 #[.int .i64 a0, .int .i64 a1, .int .i64 a2, v, .string s, .int .i64 form] w fun e w' => e = .returned (.bool true) ∧ Below w.heap.size w w' := by
  have hsi : (s.size : Int) ≤ 200 := by omega
  have WF := hide (fun W => within7_at kf (by decide) hm W)
  have EC := hide (fun v W hv => encG g (f := 1) (.inr ⟨rfl, h5⟩) v W hv)
  have RC := hide (fun v W hv => by have h := rencode_any 1 c v W hv g.fine; rw [g.ok (f := 1) (.inr ⟨rfl, h5⟩)] at h; exact h)
  have DC := hide (fun W => decG g (f := 1) (.inr ⟨rfl, h5⟩) W)
  have SM := hide (fun v u W hv hu => sameG g.fine.len g.fine.len true ⟨fun _ => rfl, fun _ => rfl⟩ v u W hv hu)
  have hk5 : (c.kind == 5) = false := by rw [beq_eq_false_iff_ne]; exact h5
  generalize encS 1 c = s2 at *
  clear g hm h5
  go_enter Try.func3, Try.ntmps3
  go_wp2_with (first | (go_at_call 13; refine (known7_any _).mono ?_; rintro e W1 ⟨rfl, hb1⟩) | (go_at_call 14; refine (unhide MK _ hb1).mono ?_; rintro e W2 ⟨q, cap, rfl, hws, hb2⟩; have HB := hide (Below.onto (Below.onto hb1 hb2) (below_new W2 (.cells #[.int .i64 c.kind, .int .i64 c.id, .int .i64 c.txn, .bool c.com, .slice q c.ws.length cap, .string c.text] 26))); have HC := hide (Blk.new W2 #[.int .i64 c.kind, .int .i64 c.id, .int .i64 c.txn, .bool c.com, .slice q c.ws.length cap, .string c.text] 26); have HW := hide (hws.below (below_new W2 (.cells #[.int .i64 c.kind, .int .i64 c.id, .int .i64 c.txn, .bool c.com, .slice q c.ws.length cap, .string c.text] 26))); clear hb1 hb2 hws MK) | (go_at_call 15; refine (unhide WF _).mono ?_; rintro e X2 ⟨rfl, hX2⟩; replace hX2 := hX2.symm; subst hX2) | (go_at_call 16; refine (unhide EC (.agg #[.int .i64 c.kind, .int .i64 c.id, .int .i64 c.txn, .bool c.com, .slice q c.ws.length cap, .string c.text]) _ (cmv (unhide HW))).mono ?_; rintro e W3 ⟨rfl, hb3⟩; clear EC; have k_ := (unhide HC).below hb3; replace HC := hide k_; have x0_ := k_.cell 0; have x1_ := k_.cell 1; have x2_ := k_.cell 2; have x3_ := k_.cell 3; have x4_ := k_.cell 4; have x5_ := k_.cell 5; simp at x0_ x1_ x2_ x3_ x4_ x5_; clear k_; replace HW := hide ((unhide HW).below hb3); replace HB := hide (Below.onto (unhide HB) hb3); clear hb3) | (go_at_call 17; refine (unhide RC (.agg #[.int .i64 c.kind, .int .i64 c.id, .int .i64 c.txn, .bool c.com, .slice q c.ws.length cap, .string c.text]) W3 (cmv (unhide HW))).mono ?_; rintro e W4 ⟨rfl, hb4⟩; clear RC; have k_ := (unhide HC).below hb4; replace HC := hide k_; have y0_ := k_.cell 0; have y1_ := k_.cell 1; have y2_ := k_.cell 2; have y3_ := k_.cell 3; have y4_ := k_.cell 4; have y5_ := k_.cell 5; simp at y0_ y1_ y2_ y3_ y4_ y5_; clear k_; replace HW := hide ((unhide HW).below hb4); replace HB := hide (Below.onto (unhide HB) hb4); clear hb4 x0_ x1_ x2_ x3_ x4_ x5_) | (go_at_call 18; refine (unhide DC W4).mono ?_; rintro e W7 ⟨q2, cap2, rfl, hr, hb7⟩; have hn := below_new W7 (.cells #[.int .i64 c.kind, .int .i64 c.id, .int .i64 c.txn, .bool c.com, .slice q2 c.ws.length cap2, .string c.text] 26); have hd := Blk.new W7 #[.int .i64 c.kind, .int .i64 c.id, .int .i64 c.txn, .bool c.com, .slice q2 c.ws.length cap2, .string c.text] 26; have HW2 := hide ((row_wsv hr).below hn); have k_ := ((unhide HC).below hb7).below hn; replace HC := hide k_; have r0_ := k_.cell 0; have t0_ := hd.cell 0; have r1_ := k_.cell 1; have t1_ := hd.cell 1; have r2_ := k_.cell 2; have t2_ := hd.cell 2; have r3_ := k_.cell 3; have t3_ := hd.cell 3; have r4_ := k_.cell 4; have t4_ := hd.cell 4; have r5_ := k_.cell 5; have t5_ := hd.cell 5; simp at r0_ t0_ r1_ t1_ r2_ t2_ r3_ t3_ r4_ t4_ r5_ t5_; replace HW := hide (((unhide HW).below hb7).below hn); replace HB := hide (Below.onto (Below.onto (unhide HB) hb7) hn); clear k_ hd hr hb7 hn y0_ y1_ y2_ y3_ y4_ y5_) | (go_at_call 19; refine (unhide SM (.agg #[.int .i64 c.kind, .int .i64 c.id, .int .i64 c.txn, .bool c.com, .slice q c.ws.length cap, .string c.text]) (.agg #[.int .i64 c.kind, .int .i64 c.id, .int .i64 c.txn, .bool c.com, .slice q2 c.ws.length cap2, .string c.text]) _ (cmv (unhide HW)) (cmv (unhide HW2))).mono ?_; rintro e W8 ⟨rfl, hb8⟩; replace HB := hide (Below.onto (unhide HB) hb8)))
  go_ret
  exact ⟨rfl, unhide HB⟩
set_option maxRecDepth 100000 in
set_option maxHeartbeats 8000000 in
theorem cmdBack_two (a0 a1 a2 : Int) (v : Value) (s : ByteArray) (form : Int) (w : World) (c : Cm) (g : GoodC c) (hs : s.size ≤ 200) (MK : Hid (Mk7 a0 a1 a2 v s w c)) (kf : Is64 form) (hm : form % 2 = 1) :
    Calls Try.prog 3 #[.int .i64 a0, .int .i64 a1, .int .i64 a2, v, .string s, .int .i64 form] w fun e w' => e = .returned (.bool true) ∧ Below w.heap.size w w' := by
  have hsi : (s.size : Int) ≤ 200 := by omega
  have WF := hide (fun W => within7_at kf (by decide) hm W)
  have EC := hide (fun v W hv => encG g (f := 2) (.inl rfl) v W hv)
  have RC := hide (fun v W hv => by have h := rencode_any 2 c v W hv g.fine; rw [g.ok (f := 2) (.inl rfl)] at h; exact h)
  have DC := hide (fun W => decG g (f := 2) (.inl rfl) W)
  have SM := hide (fun v u W hv hu => sameG g.fine.len g.fine.len true ⟨fun _ => rfl, fun _ => rfl⟩ v u W hv hu)
  generalize encS 2 c = s2 at *
  clear g hm
  go_enter Try.func3, Try.ntmps3
  go_wp2_with (first | (go_at_call 13; refine (known7_any _).mono ?_; rintro e W1 ⟨rfl, hb1⟩) | (go_at_call 14; refine (unhide MK _ hb1).mono ?_; rintro e W2 ⟨q, cap, rfl, hws, hb2⟩; have HB := hide (Below.onto (Below.onto hb1 hb2) (below_new W2 (.cells #[.int .i64 c.kind, .int .i64 c.id, .int .i64 c.txn, .bool c.com, .slice q c.ws.length cap, .string c.text] 26))); have HC := hide (Blk.new W2 #[.int .i64 c.kind, .int .i64 c.id, .int .i64 c.txn, .bool c.com, .slice q c.ws.length cap, .string c.text] 26); have HW := hide (hws.below (below_new W2 (.cells #[.int .i64 c.kind, .int .i64 c.id, .int .i64 c.txn, .bool c.com, .slice q c.ws.length cap, .string c.text] 26))); clear hb1 hb2 hws MK) | (go_at_call 15; refine (unhide WF _).mono ?_; rintro e X2 ⟨rfl, hX2⟩; replace hX2 := hX2.symm; subst hX2) | (go_at_call 16; refine (unhide EC (.agg #[.int .i64 c.kind, .int .i64 c.id, .int .i64 c.txn, .bool c.com, .slice q c.ws.length cap, .string c.text]) _ (cmv (unhide HW))).mono ?_; rintro e W3 ⟨rfl, hb3⟩; clear EC; have k_ := (unhide HC).below hb3; replace HC := hide k_; have x0_ := k_.cell 0; have x1_ := k_.cell 1; have x2_ := k_.cell 2; have x3_ := k_.cell 3; have x4_ := k_.cell 4; have x5_ := k_.cell 5; simp at x0_ x1_ x2_ x3_ x4_ x5_; clear k_; replace HW := hide ((unhide HW).below hb3); replace HB := hide (Below.onto (unhide HB) hb3); clear hb3) | (go_at_call 17; refine (unhide RC (.agg #[.int .i64 c.kind, .int .i64 c.id, .int .i64 c.txn, .bool c.com, .slice q c.ws.length cap, .string c.text]) W3 (cmv (unhide HW))).mono ?_; rintro e W4 ⟨rfl, hb4⟩; clear RC; have k_ := (unhide HC).below hb4; replace HC := hide k_; have y0_ := k_.cell 0; have y1_ := k_.cell 1; have y2_ := k_.cell 2; have y3_ := k_.cell 3; have y4_ := k_.cell 4; have y5_ := k_.cell 5; simp at y0_ y1_ y2_ y3_ y4_ y5_; clear k_; replace HW := hide ((unhide HW).below hb4); replace HB := hide (Below.onto (unhide HB) hb4); clear hb4 x0_ x1_ x2_ x3_ x4_ x5_) | (go_at_call 18; refine (unhide DC W4).mono ?_; rintro e W7 ⟨q2, cap2, rfl, hr, hb7⟩; have hn := below_new W7 (.cells #[.int .i64 c.kind, .int .i64 c.id, .int .i64 c.txn, .bool c.com, .slice q2 c.ws.length cap2, .string c.text] 26); have hd := Blk.new W7 #[.int .i64 c.kind, .int .i64 c.id, .int .i64 c.txn, .bool c.com, .slice q2 c.ws.length cap2, .string c.text] 26; have HW2 := hide ((row_wsv hr).below hn); have k_ := ((unhide HC).below hb7).below hn; replace HC := hide k_; have r0_ := k_.cell 0; have t0_ := hd.cell 0; have r1_ := k_.cell 1; have t1_ := hd.cell 1; have r2_ := k_.cell 2; have t2_ := hd.cell 2; have r3_ := k_.cell 3; have t3_ := hd.cell 3; have r4_ := k_.cell 4; have t4_ := hd.cell 4; have r5_ := k_.cell 5; have t5_ := hd.cell 5; simp at r0_ t0_ r1_ t1_ r2_ t2_ r3_ t3_ r4_ t4_ r5_ t5_; replace HW := hide (((unhide HW).below hb7).below hn); replace HB := hide (Below.onto (Below.onto (unhide HB) hb7) hn); clear k_ hd hr hb7 hn y0_ y1_ y2_ y3_ y4_ y5_) | (go_at_call 19; refine (unhide SM (.agg #[.int .i64 c.kind, .int .i64 c.id, .int .i64 c.txn, .bool c.com, .slice q c.ws.length cap, .string c.text]) (.agg #[.int .i64 c.kind, .int .i64 c.id, .int .i64 c.txn, .bool c.com, .slice q2 c.ws.length cap2, .string c.text]) _ (cmv (unhide HW)) (cmv (unhide HW2))).mono ?_; rintro e W8 ⟨rfl, hb8⟩; replace HB := hide (Below.onto (unhide HB) hb8)))
  go_ret
  exact ⟨rfl, unhide HB⟩
set_option maxHeartbeats 1000000 in
theorem cmdBack_long (a0 a1 a2 : Int) (v : Value) (s : ByteArray) (form : Int) (w : World) (hs : (200 : Int) < s.size) :
    Calls Try.prog 3 #[.int .i64 a0, .int .i64 a1, .int .i64 a2, v, .string s, .int .i64 form] w fun e w' => e = .returned (.bool true) ∧ Below w.heap.size w w' := by
  go_enter Try.func3, Try.ntmps3
  go_wp2_with (go_at_call 13; refine (known7_any _).mono ?_; rintro e W1 ⟨rfl, hb1⟩)
  go_ret
  exact ⟨rfl, hb1⟩
theorem cmdBack_walk (a0 a1 a2 : Int) (v3 : Value) (a3 : List Int) (a4 : ByteArray) (a5 : Int) (k0 : Is64 a0) (k1 : Is64 a1) (k2 : Is64 a2) (k5 : Is64 a5) (w : World) (w3 : Ints v3 a3 w) :
    Calls Try.prog 3 #[.int .i64 a0, .int .i64 a1, .int .i64 a2, v3, .string a4, .int .i64 a5] w fun e w' => e = .returned (.bool true) ∧ Below w.heap.size w w' := by
  by_cases hs : a4.size ≤ 200
  · have MK := hide (mk7_of a0 a1 a2 v3 a3 a4 w k0 k1 k2 w3 (by omega))
    have g := mkC_good a0 a1 a2 a3 a4 (by omega)
    generalize mkC a0 a1 a2 a3 a4 = c at *
    have hm : a5 % 2 = 0 ∨ a5 % 2 = 1 := by omega
    rcases hm with hm | hm
    · by_cases h5 : c.kind = 5
      · exact cmdBack_none a0 a1 a2 v3 a4 a5 w c g hs MK k5 hm h5
      · exact cmdBack_one a0 a1 a2 v3 a4 a5 w c g hs MK k5 hm h5
    · exact cmdBack_two a0 a1 a2 v3 a4 a5 w c g hs MK k5 hm
  · exact cmdBack_long a0 a1 a2 v3 a4 a5 w (by omega)
end Go.Proofs.Ytjmmfgmmmdbenaa
