/-
  What strings.Clone returns: the same bytes (the library's contract of internal/stringslite.Clone, laid in plain words).
-/
import Derived.Test.YtjmmfgmmmdbenaaC6
import Derived.Shelf.Strconv.Clone
namespace Go.Proofs.Ytjmmfgmmmdbenaa
open Go.RowKit Go.Shelf
set_option linter.unusedSimpArgs false
set_option linter.unusedVariables false

def ren316 : Go.Shelf.Ren := ⟨fun n => if n = 316 then 97 else n, fun n => if n = 5 then 5 else if n = 37 then 35 else if n = 127 then 125 else if n = 3 then 3 else if n = 4 then 4 else if n = 9 then 9 else n, fun n => n⟩
theorem lays316 : LaysM.n316 Try.prog ren316 := {
  mixed := by kernel_rfl
  f316 := Try.func97.trans (by kernel_rfl)
  t0 := Try.underlying0
  a0 := Try.isAgg0
  z0 := Try.sizeOf0
  v0 := Try.zeroValue0
  i0 := by kernel_rfl
  t3 := Try.underlying3
  a3 := Try.isAgg3
  z3 := Try.sizeOf3
  v3 := Try.zeroValue3
  i3 := by kernel_rfl
  t4 := Try.underlying4
  a4 := Try.isAgg4
  z4 := Try.sizeOf4
  v4 := Try.zeroValue4
  i4 := by kernel_rfl
  t9 := Try.underlying9
  a9 := Try.isAgg9
  z9 := Try.sizeOf9
  v9 := Try.zeroValue9
  i9 := by kernel_rfl
  t37 := Try.underlying35
  a37 := Try.isAgg35
  z37 := Try.sizeOf35
  v37 := Try.zeroValue35
  i37 := by kernel_rfl
  t127 := Try.underlying125
  a127 := Try.isAgg125
  z127 := Try.sizeOf125
  v127 := Try.zeroValue125
  i127 := by kernel_rfl
  t5 := Try.underlying5
  a5 := Try.isAgg5
  z5 := Try.sizeOf5
  v5 := Try.zeroValue5
  i5 := by kernel_rfl }
theorem clone2_any (s : ByteArray) (w : World) (h : s.size ≤ 281474976710656) : Calls Try.prog 97 #[.string s] w fun e w' => e = .returned (.string s) ∧ Below w.heap.size w w' := Any.stringslite_Clone lays316 s w h
set_option maxHeartbeats 400000 in
theorem clone_any (s : ByteArray) (w : World) (h : s.size ≤ 281474976710656) : Calls Try.prog 73 #[.string s] w fun e w' => e = .returned (.string s) ∧ Below w.heap.size w w' := by
  have C := hide (fun W => clone2_any s W h)
  clear h
  go_enter Try.func73, Try.ntmps73
  go_wp2_with (go_at_call 97; refine (unhide C _).mono ?_; rintro e W1 ⟨rfl, hb1⟩)
  go_ret
  exact ⟨rfl, hb1⟩
end Go.Proofs.Ytjmmfgmmmdbenaa
