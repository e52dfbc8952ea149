/-
  CmdRight's switch: the whole.
-/
import Derived.Test.YtjmmfgmmmdbenaaWRf
import Derived.Test.YtjmmfgmmmdbenaaWR5
import Derived.Test.YtjmmfgmmmdbenaaWR6
import Derived.Test.YtjmmfgmmmdbenaaWR7
import Derived.Test.YtjmmfgmmmdbenaaWR8
import Derived.Test.YtjmmfgmmmdbenaaCP
namespace Go.Proofs.Ytjmmfgmmmdbenaa
open Go.RowKit
set_option linter.unusedSimpArgs false
set_option linter.unusedVariables false

theorem right_main {r0 r1 r2 r3 r4 rest : Code} (hc : Try.f5.body = some (.seq r0 (.seq r1 (.seq r2 (.seq r3 (.seq r4 rest)))))) (d : Cm) (q2 : Option Addr) (cap2 : Nat) (a1 a2 a3 : Int) (v4 : Value) (s : ByteArray) (which vv form : Int) (w : World) (c : Cm) (g : GoodC c) (MK : Hid (Mk7 a1 a2 a3 v4 s w c)) (HV0 : Hid (WsV q2 d.ws w)) (FD : Hid (FineW d)) (hs : (s.size : Int) ≤ 60) (ht : (d.text.size : Int) ≤ 100) (hw : (d.ws.length : Int) ≤ 50) (kw : Is64 which) (kv : Is64 vv) :
    (Code.seq r0 (.seq r1 (.seq r2 (.seq r3 (.seq r4 rest))))).wp Try.prog (bodyPost Try.prog Try.f5 (fun e w' => e = .returned (.bool true) ∧ Below w.heap.size w w')) ⟨#[.agg #[.int .i64 d.kind, .int .i64 d.id, .int .i64 d.txn, .bool d.com, .slice q2 d.ws.length cap2, .string d.text], .int .i64 a1, .int .i64 a2, .int .i64 a3, v4, .string s, .int .i64 which, .int .i64 vv, .int .i64 form, undef, undef, undef, undef, undef, undef, undef, undef, undef, undef, undef, undef, undef, undef, undef, undef, undef, undef, undef, undef, undef, undef, undef, undef, undef, undef, undef, undef, undef, undef, undef, undef, undef, undef, undef, undef, undef, undef, undef, undef, undef, undef, undef, undef, undef, undef, undef, undef, undef, undef, undef, undef, undef, undef, undef, undef, undef, undef, undef, undef, undef, undef, undef, undef, undef, undef, undef, undef, undef, undef, undef, undef, undef, undef, undef, undef, undef, undef, undef, undef, undef, undef, undef, undef, undef, undef, undef, undef, undef, undef, undef, undef, undef, undef, undef, undef, undef, undef, undef, undef, undef, undef, undef, undef, undef, undef, undef, undef, undef, undef, undef, undef, undef, undef, undef, undef, undef, undef, undef, undef, undef, undef, undef, undef, undef, undef, undef, undef, undef, undef, undef, undef, undef, undef, undef, undef, undef, undef, undef, undef, undef, undef, undef, undef, undef, undef, undef, undef, undef, undef, undef, undef, undef, undef, undef, undef, undef, undef, undef, undef, undef, undef, undef, undef, undef, undef, undef, undef, undef, undef, undef, undef, undef, undef, undef, undef, undef, undef, undef, undef, undef, undef, undef, undef, undef, undef, undef, undef], []⟩ w := by
  have hs2 : s.size ≤ 60 := by omega
  refine right_front hc (.seq r4 rest) d q2 cap2 a1 a2 a3 v4 s which vv form w c MK HV0 hs ht hw (hide (fun ac q cap V X ha HC HD HW HV HBV HB => wp_seq ?_))
  have hA : Hid (After (rest.wp Try.prog (bodyPost Try.prog Try.f5 (fun e w' => e = .returned (.bool true) ∧ Below w.heap.size w w'))) w form w.heap.size V d q2 cap2) := hide (fun ac' c' q' cap' X' ha' h1 h2 h3 h4 h5 h6 => right_tail hc w form ac' V.heap.size w.heap.size X' ha' c' d q' q2 cap' cap2 h1 h2 h3 h4 h5 FD h6)
  have hj : which % 9 = 0 ∨ which % 9 = 1 ∨ which % 9 = 2 ∨ which % 9 = 3 ∨ which % 9 = 4 ∨ which % 9 = 5 ∨ which % 9 = 6 ∨ which % 9 = 7 ∨ which % 9 = 8 := by omega
  rcases hj with hj | hj | hj | hj | hj | hj | hj | hj | hj
  · exact right_sw0 hc w s which vv form ac w.heap.size V X ha c d q q2 cap cap2 g HC HD HW HV HBV HB kw kv hs2 _ _ hA hj
  · exact right_sw1 hc w s which vv form ac w.heap.size V X ha c d q q2 cap cap2 g HC HD HW HV HBV HB kw kv hs2 _ _ hA hj
  · exact right_sw2 hc w s which vv form ac w.heap.size V X ha c d q q2 cap cap2 g HC HD HW HV HBV HB kw kv hs2 _ _ hA hj
  · exact right_sw3 hc w s which vv form ac w.heap.size V X ha c d q q2 cap cap2 g HC HD HW HV HBV HB kw kv hs2 _ _ hA hj
  · exact right_sw4 hc w s which vv form ac w.heap.size V X ha c d q q2 cap cap2 g HC HD HW HV HBV HB kw kv hs2 _ _ hA hj
  · exact right_sw5 hc w s which vv form ac w.heap.size V X ha c d q q2 cap cap2 g HC HD HW HV HBV HB kw kv hs2 _ _ hA hj
  · exact right_sw6 hc w s which vv form ac w.heap.size V X ha c d q q2 cap cap2 g HC HD HW HV HBV HB kw kv hs2 _ _ hA hj
  · exact right_sw7 hc w s which vv form ac w.heap.size V X ha c d q q2 cap cap2 g HC HD HW HV HBV HB kw kv hs2 _ _ hA hj
  · exact right_sw8 hc w s which vv form ac w.heap.size V X ha c d q q2 cap cap2 g HC HD HW HV HBV HB kw kv hs2 _ _ hA hj
set_option maxRecDepth 100000 in
theorem cmdRight_walk (d : Cm) (q2 : Option Addr) (cap2 : Nat) (a1 a2 a3 : Int) (v4 : Value) (zs : List Int) (s : ByteArray) (which vv form : Int) (k1 : Is64 a1) (k2 : Is64 a2) (k3 : Is64 a3) (kw : Is64 which) (kv : Is64 vv) (kf : Is64 form) (w : World) (HV0 : WsV q2 d.ws w) (FD : d.ws.length ≤ 50 → FineW d) (w4 : Ints v4 zs w) :
    Calls Try.prog 5 #[.agg #[.int .i64 d.kind, .int .i64 d.id, .int .i64 d.txn, .bool d.com, .slice q2 d.ws.length cap2, .string d.text], .int .i64 a1, .int .i64 a2, .int .i64 a3, v4, .string s, .int .i64 which, .int .i64 vv, .int .i64 form] w fun e w' => e = .returned (.bool true) ∧ Below w.heap.size w w' := by
  by_cases hs : (s.size : Int) ≤ 60
  · by_cases ht : (d.text.size : Int) ≤ 100
    · by_cases hw : (d.ws.length : Int) ≤ 50
      · have MK := hide (mk7_of a1 a2 a3 v4 zs s w k1 k2 k3 w4 (by omega))
        have g := mkC_good a1 a2 a3 zs s (by omega)
        generalize mkC a1 a2 a3 zs s = c at *
        go_enter Try.func5, Try.ntmps5
        exact right_main rfl d q2 cap2 a1 a2 a3 v4 s which vv form w c g MK (hide HV0) (hide (FD (by omega))) hs ht hw kw kv
      · exact right_long_w d q2 cap2 a1 a2 a3 v4 s which vv form w hs ht (by omega)
    · exact right_long_t d q2 cap2 a1 a2 a3 v4 s which vv form w hs (by omega)
  · exact right_long_s d q2 cap2 a1 a2 a3 v4 s which vv form w (by omega)
end Go.Proofs.Ytjmmfgmmmdbenaa
