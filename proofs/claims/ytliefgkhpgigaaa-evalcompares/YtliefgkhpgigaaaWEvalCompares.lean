/-
  EvalCompares: the walk.
-/
import Derived.Test.YtliefgkhpgigaaaVCpT
namespace Go.Proofs.Ytliefgkhpgigaaa
open Go.RowKit
set_option linter.unusedSimpArgs false
set_option linter.unusedVariables false

set_option maxHeartbeats 32000000 in
set_option maxRecDepth 100000 in
theorem compares_walk (a b which : Int) (ha : Is64 a) (hb : Is64 b) (hw : Is64 which) (w : World) :
    Calls Try.prog 5 #[.int .i64 a, .int .i64 b, .int .i64 which] w fun e w' => e = .returned (.bool true) ∧ Below w.heap.size w w' := by
  have CW4 := hide (fun W => within4_any which 4 W hw (by decide))
  have CW2 := hide (fun W => within4_any which 2 W hw (by decide))
  have h0 := Int.emod_nonneg which (show (2 : Int) ≠ 0 by decide)
  have h1 := Int.emod_lt_of_pos which (show (0 : Int) < 2 by decide)
  have hj : which % 2 = 0 ∨ which % 2 = 1 := by omega
  clear h0 h1
  generalize which % 2 = j at *
  generalize which % 4 = m at *
  have ha64 := hide ha
  have hb64 := hide hb
  clear ha hb hw
  go_enter Try.func5, Try.ntmps5
  go_wp2_with fail
  refine (known4_any _).mono ?_
  rintro e W1 ⟨rfl, hb1⟩
  have G : Hid (Grown w W1) := hb1
  clear hb1
  go_wp2_with fail
  have hX := (Blk.new W1 #[.int .i64 2, .int .i64 a, .int .i64 0, .string ⟨#[]⟩] 28).call (below_new _ (.cells #[.int .i64 2, .int .i64 b, .int .i64 0, .string ⟨#[]⟩] 28))
  have hY := Blk.new (W1.alloc (.cells #[.int .i64 2, .int .i64 a, .int .i64 0, .string ⟨#[]⟩] 28)) #[.int .i64 2, .int .i64 b, .int .i64 0, .string ⟨#[]⟩] 28
  rw [World.size_alloc] at hY
  have gg := below_2 W1 (.cells #[.int .i64 2, .int .i64 a, .int .i64 0, .string ⟨#[]⟩] 28) (.cells #[.int .i64 2, .int .i64 b, .int .i64 0, .string ⟨#[]⟩] 28)
  have hgb : w.heap.size ≤ W1.heap.size + 1 := Nat.le_succ_of_le (Below.size (unhide G))
  replace G := hide ((unhide G).call gg)
  have hne : W1.heap.size ≠ W1.heap.size + 1 := by omega
  clear gg
  replace hX := hide hX
  replace hY := hide hY
  refine (unhide CW4 _).mono ?_
  rintro e W2 ⟨rfl, rfl⟩
  generalize (W1.alloc (.cells #[.int .i64 2, .int .i64 a, .int .i64 0, .string ⟨#[]⟩] 28)).alloc (.cells #[.int .i64 2, .int .i64 b, .int .i64 0, .string ⟨#[]⟩] 28) = X at *
  generalize W1.heap.size + 1 = by_ at *
  generalize W1.heap.size = bx at *
  clear CW4
  by_cases hm : m = 0
  · subst hm
    have lX := (unhide hX).lt
    have lY := (unhide hY).lt
    have c0 := (unhide hX).cell 0
    have d0 := (unhide hY).cell 0
    have f0 := (unhide hY).froz 0
    have c1 := (unhide hX).cell 1
    have d1 := (unhide hY).cell 1
    have f1 := (unhide hY).froz 1
    have c2 := (unhide hX).cell 2
    have d2 := (unhide hY).cell 2
    have f2 := (unhide hY).froz 2
    have c3 := (unhide hX).cell 3
    have d3 := (unhide hY).cell 3
    have f3 := (unhide hY).froz 3
    simp at c0 d0 c1 d1 c2 d2 c3 d3
    go_wp2_with fail
    rename_i K7 hk7
    have hY2 := hide (heapSet4 (unhide hY) (.int .i64 2) (.int .i64 a) (.int .i64 0) (.string S0))
    have hX2 := hide (((((unhide hX).set hne 0 (.int .i64 2)).set hne 1 (.int .i64 a)).set hne 2 (.int .i64 0)).set hne 3 (.string S0))
    have G2 : Hid (Grown w _) := hide (((((unhide G : Below w.heap.size w X).setCell (p := ⟨by_, 0, none⟩) hgb (.int .i64 2)).setCell (p := ⟨by_, 1, none⟩) hgb (.int .i64 a)).setCell (p := ⟨by_, 2, none⟩) hgb (.int .i64 0)).setCell (p := ⟨by_, 3, none⟩) hgb (.string S0))
    clear c0 c1 c2 c3 d0 d1 d2 d3 f0 f1 f2 f3 lX lY G hX hY
    exact cpC rfl (Grown w) a a which w.heap.size bx by_ K7 _ (hide (fun ac gc br bt X ha hN hP hX hY hC hBr hnb hT => hk7 _ _ (cpT rfl w a a which j ha64 ha64 hj CW2 gc br bt bx by_ ac X ha (hide (unhide hP).out) hX hY hBr hnb hC hT))) _ _ (by kernel_rfl) (hide (Below.size (unhide G2))) (grP_of (fun X Y h hb => Grown.call h hb) G2) hX2 hY2
  · go_wp2_with fail
    rename_i K7 hk7
    exact cpC rfl (Grown w) a b which w.heap.size bx by_ K7 _ (hide (fun ac gc br bt X ha hN hP hX hY hC hBr hnb hT => hk7 _ _ (cpT rfl w a b which j ha64 hb64 hj CW2 gc br bt bx by_ ac X ha (hide (unhide hP).out) hX hY hBr hnb hC hT))) _ _ (by kernel_rfl) (hide (Below.size (unhide G))) (grP_of (fun X Y h hb => Grown.call h hb) G) hX hY
end Go.Proofs.Ytliefgkhpgigaaa
