/-
  The walk of the law CmdOwn.
-/
import Derived.Test.YtjmmfgmmmdbenaaCP
namespace Go.Proofs.Ytjmmfgmmmdbenaa
open Go.RowKit
set_option linter.unusedSimpArgs false
set_option linter.unusedVariables false

set_option maxRecDepth 100000 in
set_option maxHeartbeats 8000000 in
theorem cmdOwn_some (a0 a1 a2 : Int) (v : Value) (s : ByteArray) (w : World) (c : Cm) (g : GoodC c) (hs : s.size ≤ 60) (MK : Hid (Mk7 a0 a1 a2 v s w c)) :
    Calls Try.prog 12 #[.int .i64 a0, .int .i64 a1, .int .i64 a2, v, .string s] w fun e w' => e = .returned (.bool true) ∧ Below w.heap.size w w' := by
  have hsi : (s.size : Int) ≤ 60 := by omega
  have MD := MK
  have EC2 := hide (fun v W hv => encG g (f := 2) (.inl rfl) v W hv)
  have DG := hide (fun W => decG g (f := 2) (.inl rfl) W)
  have SM := hide (fun v u W hv hu => sameG g.fine.len g.fine.len true ⟨fun _ => rfl, fun _ => rfl⟩ v u W hv hu)
  have hlen := g.fine.len
  generalize encS 2 c = s2 at *
  clear g
  go_enter Try.func12, Try.ntmps12
  go_wp2_with (first | (go_at_call 13; refine (known7_any _).mono ?_; rintro e W1 ⟨rfl, hb1⟩) | (go_at_call 14; first | (refine (unhide MK _ hb1).mono ?_; rintro e W2 ⟨q, cap, rfl, hws, hb2⟩; clear MK) | (refine (unhide MD _ (Below.onto hb1 hb2)).mono ?_; rintro e W3 ⟨q2, cap2, rfl, hws2, hb3⟩; have hba := below_new W3 (.cells #[.int .i64 c.kind, .int .i64 c.id, .int .i64 c.txn, .bool c.com, .slice q c.ws.length cap, .string c.text] 26); have hbb := below_new (W3.alloc (.cells #[.int .i64 c.kind, .int .i64 c.id, .int .i64 c.txn, .bool c.com, .slice q c.ws.length cap, .string c.text] 26)) (.cells #[.int .i64 c.kind, .int .i64 c.id, .int .i64 c.txn, .bool c.com, .slice q2 c.ws.length cap2, .string c.text] 26); have HB := hide (Below.onto (Below.onto (Below.onto (Below.onto hb1 hb2) hb3) hba) hbb); have hcc := (Blk.new W3 #[.int .i64 c.kind, .int .i64 c.id, .int .i64 c.txn, .bool c.com, .slice q c.ws.length cap, .string c.text] 26).below hbb; have hdd := Blk.new (W3.alloc (.cells #[.int .i64 c.kind, .int .i64 c.id, .int .i64 c.txn, .bool c.com, .slice q c.ws.length cap, .string c.text] 26)) #[.int .i64 c.kind, .int .i64 c.id, .int .i64 c.txn, .bool c.com, .slice q2 c.ws.length cap2, .string c.text] 26; rw [World.size_alloc] at hdd; have HC := hide hcc; have HD := hide hdd; have HW := hide (((hws.below hb3).below hba).below hbb); have HV := hide ((hws2.below hba).below hbb); have x0_ := hcc.cell 0; have y0_ := hdd.cell 0; have x1_ := hcc.cell 1; have y1_ := hdd.cell 1; have x2_ := hcc.cell 2; have y2_ := hdd.cell 2; have x3_ := hcc.cell 3; have y3_ := hdd.cell 3; have x4_ := hcc.cell 4; have y4_ := hdd.cell 4; have x5_ := hcc.cell 5; have y5_ := hdd.cell 5; simp at x0_ y0_ x1_ y1_ x2_ y2_ x3_ y3_ x4_ y4_ x5_ y5_; clear hb1 hb2 hb3 hba hbb hcc hdd hws hws2 MD)) | (go_at_call 16; refine (unhide EC2 (.agg #[.int .i64 c.kind, .int .i64 c.id, .int .i64 c.txn, .bool c.com, .slice q c.ws.length cap, .string c.text]) _ (cmv (unhide HW))).mono ?_; rintro e W4 ⟨rfl, hb4⟩; clear EC2; have k_ := (unhide HC).below hb4; replace HC := hide k_; have z0_ := k_.cell 0; have z1_ := k_.cell 1; have z2_ := k_.cell 2; have z3_ := k_.cell 3; have z4_ := k_.cell 4; have z5_ := k_.cell 5; simp at z0_ z1_ z2_ z3_ z4_ z5_; clear k_; have k_ := (unhide HD).below hb4; replace HD := hide k_; have u0_ := k_.cell 0; have u1_ := k_.cell 1; have u2_ := k_.cell 2; have u3_ := k_.cell 3; have u4_ := k_.cell 4; have u5_ := k_.cell 5; simp at u0_ u1_ u2_ u3_ u4_ u5_; clear k_; replace HW := hide ((unhide HW).below hb4); replace HV := hide ((unhide HV).below hb4); replace HB := hide (Below.onto (unhide HB) hb4); clear x0_ x1_ x2_ x3_ x4_ x5_ y0_ y1_ y2_ y3_ y4_ y5_; clear hb4) | (go_at_call 18; refine (unhide DG W4).mono ?_; rintro e W5 ⟨p3, cap3, rfl, hr, hb5⟩; have hn := below_new W5 (.cells #[.int .i64 c.kind, .int .i64 c.id, .int .i64 c.txn, .bool c.com, .slice p3 c.ws.length cap3, .string c.text] 26); have HX := hide (Blk.new W5 #[.int .i64 c.kind, .int .i64 c.id, .int .i64 c.txn, .bool c.com, .slice p3 c.ws.length cap3, .string c.text] 26); have HR := hide hr; have HBN := hide (hb5); clear hb5 hn hr))
  obtain ⟨X0, hX0⟩ : ∃ X0, W5.alloc (.cells #[.int .i64 c.kind, .int .i64 c.id, .int .i64 c.txn, .bool c.com, .slice p3 c.ws.length cap3, .string c.text] 26) = X0 := ⟨_, rfl⟩
  rw [hX0] at HX ⊢
  have HB5 : Hid (Below W4.heap.size W4 X0) := hide (hX0 ▸ Below.onto (unhide HBN) (below_new W5 _))
  have HR0 : Hid (X0.ownsRow W4.heap.size 40 3 (.slice p3 c.ws.length cap3) c.ws.length (wcells c.ws)) := hide (hX0 ▸ World.ownsRow.kept (unhide HR) (grownBy_below none (below_new W5 _)) (by cases hv : (Value.slice p3 c.ws.length cap3).ownBlock <;> simp))
  have HNE : Hid ((Value.slice p3 c.ws.length cap3).ownBlock ≠ some W5.heap.size) := hide (fun e => by have h9 := ((unhide HR).lt _ e).2; omega)
  have HG : Hid (∀ k, k < c.ws.length → ∃ g cur, p3 = some ⟨g, 0, none⟩ ∧ W4.heap.size ≤ g ∧ g ≠ W5.heap.size ∧ Blk g cur 40 X0 ∧ c.ws.length * 3 ≤ cur.size) := by
    refine hide (fun k hk => ?_)
    rcases (unhide HR0).2 with ⟨e, e0⟩ | ⟨g, cap', cur, e, hge, hb, hcp, hcm, hcs, hct⟩
    · omega
    · injection e with e1 e2 e3
      refine ⟨g, cur, e1, hge, ?_, hb, ?_⟩
      · intro e; apply unhide HNE; rw [e1, ← e]; rfl
      · rw [hcs]; exact Nat.mul_le_mul_right 3 hcp
  have hsz5 : W5.heap.size < X0.heap.size := (unhide HX).lt
  clear hX0 HR HBN HR0 HNE z0_ u0_ z1_ u1_ z2_ u2_ z3_ u3_ z4_ u4_ z5_ u5_
  go_loopw [18] (fun i wr => ∃ k : Nat, k ≤ c.ws.length ∧ i = .int .i64 (k : Int) ∧ Hid (Blk W5.heap.size #[.int .i64 c.kind, .int .i64 c.id, .int .i64 c.txn, .bool c.com, .slice p3 c.ws.length cap3, .string c.text] 26 wr) ∧ Hid (Below W4.heap.size W4 wr) ∧ Hid (∀ k, k < c.ws.length → ∃ g cur, p3 = some ⟨g, 0, none⟩ ∧ W4.heap.size ≤ g ∧ g ≠ W5.heap.size ∧ Blk g cur 40 wr ∧ c.ws.length * 3 ≤ cur.size))
    (fun i wr => c.ws.length - (intOf i).toNat)
  case atStart => exact ⟨0, Nat.zero_le _, rfl, HX, HB5, HG⟩
  case round =>
    clear HX HB5 HG
    obtain ⟨k, hk, rfl, HX, HB5, HG⟩ := hrel
    have x4_ := (unhide HX).cell 4
    have xl_ := (unhide HX).lt
    simp at x4_
    by_cases hlt : k < c.ws.length
    · obtain ⟨g, cur, rfl, hge, hne, hblk, hsz⟩ := unhide HG k hlt
      have hwk : IntKind.i64.wrap ((k : Int) * 3) = (k : Int) * 3 := IntWalk.i64_in _ (by omega)
      have hcg : wr.cell? ⟨g, k * 3, none⟩ = cur[k * 3]? := hblk.cell (k * 3)
      have hcf := hblk.froz (k * 3)
      rw [Array.getElem?_eq_getElem (by omega)] at hcg
      have hgl := hblk.lt
      go_wp2
      go_roundw
      case rel =>
        refine ⟨k + 1, by omega, by go_num, hide ((Below.heap_setCell _ _ _ _ (by show W5.heap.size ≠ g; exact fun e => hne e.symm)).trans (unhide HX)), hide ((unhide HB5).setCell (p := ⟨g, k * 3, none⟩) hge _), hide (fun j hj => ?_)⟩
        have h2 := hblk.set (k * 3) (.string ⟨#[63]⟩)
        exact ⟨g, _, rfl, hge, hne, h2, by simpa using hsz⟩
      case measure => simp [intOf] <;> omega
    · obtain rfl : k = c.ws.length := by omega
      replace HB := hide (Below.onto (unhide HB) (unhide HB5))
      have k_ := (unhide HC).below (unhide HB5)
      replace HC := hide k_
      have z0_ := k_.cell 0
      have z1_ := k_.cell 1
      have z2_ := k_.cell 2
      have z3_ := k_.cell 3
      have z4_ := k_.cell 4
      have z5_ := k_.cell 5
      simp at z0_ z1_ z2_ z3_ z4_ z5_
      clear k_
      have k_ := (unhide HD).below (unhide HB5)
      replace HD := hide k_
      have u0_ := k_.cell 0
      have u1_ := k_.cell 1
      have u2_ := k_.cell 2
      have u3_ := k_.cell 3
      have u4_ := k_.cell 4
      have u5_ := k_.cell 5
      simp at u0_ u1_ u2_ u3_ u4_ u5_
      clear k_
      replace HW := hide ((unhide HW).below (unhide HB5))
      replace HV := hide ((unhide HV).below (unhide HB5))
      clear HB5 HG
      go_wp2_with (first | (go_at_call 18; refine (unhide DG _).mono ?_; rintro e W6 ⟨p4, cap4, rfl, hr, hb6⟩; have hn := below_new W6 (.cells #[.int .i64 c.kind, .int .i64 c.id, .int .i64 c.txn, .bool c.com, .slice p4 c.ws.length cap4, .string c.text] 26); have hbn := Below.onto hb6 hn; have hy := Blk.new W6 #[.int .i64 c.kind, .int .i64 c.id, .int .i64 c.txn, .bool c.com, .slice p4 c.ws.length cap4, .string c.text] 26; have HY := hide hy; have HU := hide ((row_wsv hr).below hn); have k_ := (unhide HC).below hbn; replace HC := hide k_; have x0_ := k_.cell 0; have x1_ := k_.cell 1; have x2_ := k_.cell 2; have x3_ := k_.cell 3; have x4_ := k_.cell 4; have x5_ := k_.cell 5; simp at x0_ x1_ x2_ x3_ x4_ x5_; clear k_; have k_ := (unhide HD).below hbn; replace HD := hide k_; have y0_ := k_.cell 0; have y1_ := k_.cell 1; have y2_ := k_.cell 2; have y3_ := k_.cell 3; have y4_ := k_.cell 4; have y5_ := k_.cell 5; simp at y0_ y1_ y2_ y3_ y4_ y5_; clear k_; replace HW := hide ((unhide HW).below hbn); replace HV := hide ((unhide HV).below hbn); replace HB := hide (Below.onto (unhide HB) hbn); clear z0_ z1_ z2_ z3_ z4_ z5_ u0_ u1_ u2_ u3_ u4_ u5_; have t0_ := hy.cell 0; have t1_ := hy.cell 1; have t2_ := hy.cell 2; have t3_ := hy.cell 3; have t4_ := hy.cell 4; have t5_ := hy.cell 5; simp at t0_ t1_ t2_ t3_ t4_ t5_; clear hb6 hn hr hbn hy) | (go_at_call 19; first | (refine (unhide SM (.agg #[.int .i64 c.kind, .int .i64 c.id, .int .i64 c.txn, .bool c.com, .slice q c.ws.length cap, .string c.text]) (.agg #[.int .i64 c.kind, .int .i64 c.id, .int .i64 c.txn, .bool c.com, .slice q2 c.ws.length cap2, .string c.text]) _ (cmv (unhide HW)) (cmv (unhide HV))).mono ?_; rintro e W7 ⟨rfl, hb7⟩; have k_ := (unhide HD).below hb7; replace HD := hide k_; have u0_ := k_.cell 0; have u1_ := k_.cell 1; have u2_ := k_.cell 2; have u3_ := k_.cell 3; have u4_ := k_.cell 4; have u5_ := k_.cell 5; simp at u0_ u1_ u2_ u3_ u4_ u5_; clear k_; have k_ := (unhide HY).below hb7; replace HY := hide k_; have r0_ := k_.cell 0; have r1_ := k_.cell 1; have r2_ := k_.cell 2; have r3_ := k_.cell 3; have r4_ := k_.cell 4; have r5_ := k_.cell 5; simp at r0_ r1_ r2_ r3_ r4_ r5_; clear k_; replace HU := hide ((unhide HU).below hb7); replace HV := hide ((unhide HV).below hb7); replace HB := hide (Below.onto (unhide HB) hb7); clear x0_ y0_ t0_ x1_ y1_ t1_ x2_ y2_ t2_ x3_ y3_ t3_ x4_ y4_ t4_ x5_ y5_ t5_ HW; clear hb7) | (refine (unhide SM (.agg #[.int .i64 c.kind, .int .i64 c.id, .int .i64 c.txn, .bool c.com, .slice p4 c.ws.length cap4, .string c.text]) (.agg #[.int .i64 c.kind, .int .i64 c.id, .int .i64 c.txn, .bool c.com, .slice q2 c.ws.length cap2, .string c.text]) _ (cmv (unhide HU)) (cmv (unhide HV))).mono ?_; rintro e W8 ⟨rfl, hb8⟩; replace HB := hide (Below.onto (unhide HB) hb8))))
      go_ret
      exact ⟨rfl, unhide HB⟩
set_option maxHeartbeats 1000000 in
theorem cmdOwn_long (a0 a1 a2 : Int) (v : Value) (s : ByteArray) (w : World) (hs : (60 : Int) < s.size) :
    Calls Try.prog 12 #[.int .i64 a0, .int .i64 a1, .int .i64 a2, v, .string s] w fun e w' => e = .returned (.bool true) ∧ Below w.heap.size w w' := by
  go_enter Try.func12, Try.ntmps12
  go_wp2_with (go_at_call 13; refine (known7_any _).mono ?_; rintro e W1 ⟨rfl, hb1⟩)
  go_ret
  exact ⟨rfl, hb1⟩
theorem cmdOwn_walk (a0 a1 a2 : Int) (v3 : Value) (a3 : List Int) (a4 : ByteArray) (k0 : Is64 a0) (k1 : Is64 a1) (k2 : Is64 a2) (w : World) (w3 : Ints v3 a3 w) :
    Calls Try.prog 12 #[.int .i64 a0, .int .i64 a1, .int .i64 a2, v3, .string a4] w fun e w' => e = .returned (.bool true) ∧ Below w.heap.size w w' := by
  by_cases hs : a4.size ≤ 60
  · exact cmdOwn_some a0 a1 a2 v3 a4 w _ (mkC_good a0 a1 a2 a3 a4 (by omega)) hs (hide (mk7_of a0 a1 a2 v3 a3 a4 w k0 k1 k2 w3 (by omega)))
  · exact cmdOwn_long a0 a1 a2 v3 a4 w (by omega)
end Go.Proofs.Ytjmmfgmmmdbenaa
