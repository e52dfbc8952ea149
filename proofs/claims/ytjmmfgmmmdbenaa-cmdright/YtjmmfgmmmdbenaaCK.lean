/-
  Package cmd's functions that make codes: what they return, what they leave.
-/
import Derived.Test.YtjmmfgmmmdbenaaCD
namespace Go.Proofs.Ytjmmfgmmmdbenaa
open Go.RowKit
set_option linter.unusedSimpArgs false
set_option linter.unusedVariables false

abbrev Fv (K : FuncId) (caps : Array Value) : Value := .func (.func K) #[] caps
abbrev Cv (f g : Value) : Value := .agg #[f, g]

set_option maxRecDepth 100000 in
set_option maxHeartbeats 1000000 in
theorem fixedC_any (n : Int) (w : World) : Calls Try.prog 47 #[.int .i64 n] w fun e w' => ∃ b0 : Nat, e = .returned (Cv (Fv 65 #[ptr b0 0]) (Fv 66 #[ptr b0 0])) ∧ (Blk b0 #[.int .i64 n] 3 w' ∧ w.heap.size ≤ b0) ∧ Below w.heap.size w w' := by
  go_enter Try.func47, Try.ntmps47
  go_wp2
  refine bodyPost_ret (v := Cv (Fv 65 #[ptr (w.heap.size) 0]) (Fv 66 #[ptr (w.heap.size) 0])) (by simp [results, Try.results47, go_sem]) rfl ?_
  have h0 := fun (Tz : TypeId) T => Blk.new w #[.int .i64 n] T
  exact ⟨_, rfl, ⟨((h0 0 _).below (below_new _ _)), by omega⟩, (((Below.refl _ _).alloc (by simp) _).alloc (by simp) _)⟩

set_option maxRecDepth 100000 in
set_option maxHeartbeats 1000000 in
theorem signC_any (n : Int) (w : World) : Calls Try.prog 80 #[.int .u8 n] w fun e w' => ∃ b0 : Nat, e = .returned (Cv (Fv 98 #[ptr b0 0]) (Fv 99 #[ptr b0 0])) ∧ (Blk b0 #[.int .u8 n] 5 w' ∧ w.heap.size ≤ b0) ∧ Below w.heap.size w w' := by
  go_enter Try.func80, Try.ntmps80
  go_wp2
  refine bodyPost_ret (v := Cv (Fv 98 #[ptr (w.heap.size) 0]) (Fv 99 #[ptr (w.heap.size) 0])) (by simp [results, Try.results80, go_sem]) rfl ?_
  have h0 := fun (Tz : TypeId) T => Blk.new w #[.int .u8 n] T
  exact ⟨_, rfl, ⟨((h0 0 _).below (below_new _ _)), by omega⟩, (((Below.refl _ _).alloc (by simp) _).alloc (by simp) _)⟩

set_option maxRecDepth 100000 in
set_option maxHeartbeats 1000000 in
theorem textC_any (K1 K2 : FuncId) (p1 p2 : Array Value) (w : World) : Calls Try.prog 50 #[Cv (Fv K1 p1) (Fv K2 p2)] w fun e w' => ∃ b0 : Nat, e = .returned (Cv (Fv 71 #[ptr b0 0]) (Fv 72 #[ptr b0 0])) ∧ (Blk b0 #[Fv K1 p1, Fv K2 p2] 77 w' ∧ w.heap.size ≤ b0) ∧ Below w.heap.size w w' := by
  go_enter Try.func50, Try.ntmps50
  go_wp2
  refine bodyPost_ret (v := Cv (Fv 71 #[ptr (w.heap.size) 0]) (Fv 72 #[ptr (w.heap.size) 0])) (by simp [results, Try.results50, go_sem]) rfl ?_
  have h0 := fun (Tz : TypeId) T => Blk.new w #[Fv K1 p1, Fv K2 p2] T
  exact ⟨_, rfl, ⟨((h0 0 _).below (below_new _ _)), by omega⟩, (((Below.refl _ _).alloc (by simp) _).alloc (by simp) _)⟩

set_option maxRecDepth 100000 in
set_option maxHeartbeats 1000000 in
theorem shortC_any (w : World) : Calls Try.prog 61 #[] w fun e w' => e = .returned (Cv (Fv 91 #[]) (Fv 92 #[])) ∧ Below w.heap.size w w' := by
  go_enter Try.func61, Try.ntmps61
  go_wp2
  refine bodyPost_ret (v := Cv (Fv 91 #[]) (Fv 92 #[])) (by simp [results, Try.results61, go_sem]) rfl ?_
  exact ⟨rfl, ((Below.refl _ _).alloc (by simp) _)⟩

set_option maxRecDepth 100000 in
set_option maxHeartbeats 1000000 in
theorem flagC_any (w : World) : Calls Try.prog 54 #[] w fun e w' => e = .returned (Cv (Fv 76 #[]) (Fv 77 #[])) ∧ Below w.heap.size w w' := by
  go_enter Try.func54, Try.ntmps54
  go_wp2
  refine bodyPost_ret (v := Cv (Fv 76 #[]) (Fv 77 #[])) (by simp [results, Try.results54, go_sem]) rfl ?_
  exact ⟨rfl, ((Below.refl _ _).alloc (by simp) _)⟩

set_option maxRecDepth 100000 in
set_option maxHeartbeats 1000000 in
theorem partWritestringC_any (K1 K2 : FuncId) (p1 p2 : Array Value) (P : FuncId) (w : World) : Calls Try.prog 49 #[Cv (Fv K1 p1) (Fv K2 p2), Fv P #[]] w fun e w' => ∃ b0 b1 : Nat, e = .returned (Cv (Fv 69 #[ptr b0 0, ptr b1 0]) (Fv 70 #[ptr b0 0, ptr b1 0])) ∧ (Blk b0 #[Fv K1 p1, Fv K2 p2] 88 w' ∧ w.heap.size ≤ b0) ∧ ((∃ T, Blk b1 #[Fv P #[]] T w') ∧ w.heap.size ≤ b1) ∧ Below w.heap.size w w' := by
  go_enter Try.func49, Try.ntmps49
  go_wp2
  refine bodyPost_ret (v := Cv (Fv 69 #[ptr (w.heap.size) 0, ptr (w.heap.size + 1) 0]) (Fv 70 #[ptr (w.heap.size) 0, ptr (w.heap.size + 1) 0])) (by simp [results, Try.results49, go_sem]) rfl ?_
  have h0 := fun (Tz : TypeId) T => Blk.new w #[Fv K1 p1, Fv K2 p2] T
  have h1 := fun (Tz : TypeId) T => Blk.new (w.alloc (.cells #[Fv K1 p1, Fv K2 p2] 88)) #[Fv P #[]] T
  simp only [World.size_alloc] at h1
  exact ⟨_, _, rfl, ⟨(((h0 0 _).below (below_new _ _)).below (below_new _ _)), by omega⟩, ⟨⟨_, ((h1 0 _).below (below_new _ _))⟩, by omega⟩, ((((Below.refl _ _).alloc (by simp) _).alloc (by simp) _).alloc (by simp; omega) _)⟩

set_option maxRecDepth 100000 in
set_option maxHeartbeats 1000000 in
theorem partWriteboolC_any (K1 K2 : FuncId) (p1 p2 : Array Value) (P : FuncId) (w : World) : Calls Try.prog 53 #[Cv (Fv K1 p1) (Fv K2 p2), Fv P #[]] w fun e w' => ∃ b0 b1 : Nat, e = .returned (Cv (Fv 74 #[ptr b0 0, ptr b1 0]) (Fv 75 #[ptr b0 0, ptr b1 0])) ∧ (Blk b0 #[Fv K1 p1, Fv K2 p2] 95 w' ∧ w.heap.size ≤ b0) ∧ ((∃ T, Blk b1 #[Fv P #[]] T w') ∧ w.heap.size ≤ b1) ∧ Below w.heap.size w w' := by
  go_enter Try.func53, Try.ntmps53
  go_wp2
  refine bodyPost_ret (v := Cv (Fv 74 #[ptr (w.heap.size) 0, ptr (w.heap.size + 1) 0]) (Fv 75 #[ptr (w.heap.size) 0, ptr (w.heap.size + 1) 0])) (by simp [results, Try.results53, go_sem]) rfl ?_
  have h0 := fun (Tz : TypeId) T => Blk.new w #[Fv K1 p1, Fv K2 p2] T
  have h1 := fun (Tz : TypeId) T => Blk.new (w.alloc (.cells #[Fv K1 p1, Fv K2 p2] 95)) #[Fv P #[]] T
  simp only [World.size_alloc] at h1
  exact ⟨_, _, rfl, ⟨(((h0 0 _).below (below_new _ _)).below (below_new _ _)), by omega⟩, ⟨⟨_, ((h1 0 _).below (below_new _ _))⟩, by omega⟩, ((((Below.refl _ _).alloc (by simp) _).alloc (by simp) _).alloc (by simp; omega) _)⟩

set_option maxRecDepth 100000 in
set_option maxHeartbeats 1000000 in
theorem partCmdintC_any (K1 K2 : FuncId) (p1 p2 : Array Value) (P : FuncId) (w : World) : Calls Try.prog 81 #[Cv (Fv K1 p1) (Fv K2 p2), Fv P #[]] w fun e w' => ∃ b0 b1 : Nat, e = .returned (Cv (Fv 100 #[ptr b0 0, ptr b1 0]) (Fv 101 #[ptr b0 0, ptr b1 0])) ∧ (Blk b0 #[Fv K1 p1, Fv K2 p2] 77 w' ∧ w.heap.size ≤ b0) ∧ ((∃ T, Blk b1 #[Fv P #[]] T w') ∧ w.heap.size ≤ b1) ∧ Below w.heap.size w w' := by
  go_enter Try.func81, Try.ntmps81
  go_wp2
  refine bodyPost_ret (v := Cv (Fv 100 #[ptr (w.heap.size) 0, ptr (w.heap.size + 1) 0]) (Fv 101 #[ptr (w.heap.size) 0, ptr (w.heap.size + 1) 0])) (by simp [results, Try.results81, go_sem]) rfl ?_
  have h0 := fun (Tz : TypeId) T => Blk.new w #[Fv K1 p1, Fv K2 p2] T
  have h1 := fun (Tz : TypeId) T => Blk.new (w.alloc (.cells #[Fv K1 p1, Fv K2 p2] 77)) #[Fv P #[]] T
  simp only [World.size_alloc] at h1
  exact ⟨_, _, rfl, ⟨(((h0 0 _).below (below_new _ _)).below (below_new _ _)), by omega⟩, ⟨⟨_, ((h1 0 _).below (below_new _ _))⟩, by omega⟩, ((((Below.refl _ _).alloc (by simp) _).alloc (by simp) _).alloc (by simp; omega) _)⟩

set_option maxRecDepth 100000 in
set_option maxHeartbeats 1000000 in
theorem partCmdboolC_any (K1 K2 : FuncId) (p1 p2 : Array Value) (P : FuncId) (w : World) : Calls Try.prog 85 #[Cv (Fv K1 p1) (Fv K2 p2), Fv P #[]] w fun e w' => ∃ b0 b1 : Nat, e = .returned (Cv (Fv 102 #[ptr b0 0, ptr b1 0]) (Fv 103 #[ptr b0 0, ptr b1 0])) ∧ (Blk b0 #[Fv K1 p1, Fv K2 p2] 95 w' ∧ w.heap.size ≤ b0) ∧ ((∃ T, Blk b1 #[Fv P #[]] T w') ∧ w.heap.size ≤ b1) ∧ Below w.heap.size w w' := by
  go_enter Try.func85, Try.ntmps85
  go_wp2
  refine bodyPost_ret (v := Cv (Fv 102 #[ptr (w.heap.size) 0, ptr (w.heap.size + 1) 0]) (Fv 103 #[ptr (w.heap.size) 0, ptr (w.heap.size + 1) 0])) (by simp [results, Try.results85, go_sem]) rfl ?_
  have h0 := fun (Tz : TypeId) T => Blk.new w #[Fv K1 p1, Fv K2 p2] T
  have h1 := fun (Tz : TypeId) T => Blk.new (w.alloc (.cells #[Fv K1 p1, Fv K2 p2] 95)) #[Fv P #[]] T
  simp only [World.size_alloc] at h1
  exact ⟨_, _, rfl, ⟨(((h0 0 _).below (below_new _ _)).below (below_new _ _)), by omega⟩, ⟨⟨_, ((h1 0 _).below (below_new _ _))⟩, by omega⟩, ((((Below.refl _ _).alloc (by simp) _).alloc (by simp) _).alloc (by simp; omega) _)⟩

set_option maxRecDepth 100000 in
set_option maxHeartbeats 1000000 in
theorem partCmdstringC_any (K1 K2 : FuncId) (p1 p2 : Array Value) (P : FuncId) (w : World) : Calls Try.prog 63 #[Cv (Fv K1 p1) (Fv K2 p2), Fv P #[]] w fun e w' => ∃ b0 b1 : Nat, e = .returned (Cv (Fv 95 #[ptr b0 0, ptr b1 0]) (Fv 96 #[ptr b0 0, ptr b1 0])) ∧ (Blk b0 #[Fv K1 p1, Fv K2 p2] 88 w' ∧ w.heap.size ≤ b0) ∧ ((∃ T, Blk b1 #[Fv P #[]] T w') ∧ w.heap.size ≤ b1) ∧ Below w.heap.size w w' := by
  go_enter Try.func63, Try.ntmps63
  go_wp2
  refine bodyPost_ret (v := Cv (Fv 95 #[ptr (w.heap.size) 0, ptr (w.heap.size + 1) 0]) (Fv 96 #[ptr (w.heap.size) 0, ptr (w.heap.size + 1) 0])) (by simp [results, Try.results63, go_sem]) rfl ?_
  have h0 := fun (Tz : TypeId) T => Blk.new w #[Fv K1 p1, Fv K2 p2] T
  have h1 := fun (Tz : TypeId) T => Blk.new (w.alloc (.cells #[Fv K1 p1, Fv K2 p2] 88)) #[Fv P #[]] T
  simp only [World.size_alloc] at h1
  exact ⟨_, _, rfl, ⟨(((h0 0 _).below (below_new _ _)).below (below_new _ _)), by omega⟩, ⟨⟨_, ((h1 0 _).below (below_new _ _))⟩, by omega⟩, ((((Below.refl _ _).alloc (by simp) _).alloc (by simp) _).alloc (by simp; omega) _)⟩

set_option maxRecDepth 100000 in
set_option maxHeartbeats 1000000 in
theorem partCmdWritesC_any (K1 K2 : FuncId) (p1 p2 : Array Value) (P : FuncId) (w : World) : Calls Try.prog 58 #[Cv (Fv K1 p1) (Fv K2 p2), Fv P #[]] w fun e w' => ∃ b0 b1 : Nat, e = .returned (Cv (Fv 87 #[ptr b0 0, ptr b1 0]) (Fv 88 #[ptr b0 0, ptr b1 0])) ∧ (Blk b0 #[Fv K1 p1, Fv K2 p2] 104 w' ∧ w.heap.size ≤ b0) ∧ ((∃ T, Blk b1 #[Fv P #[]] T w') ∧ w.heap.size ≤ b1) ∧ Below w.heap.size w w' := by
  go_enter Try.func58, Try.ntmps58
  go_wp2
  refine bodyPost_ret (v := Cv (Fv 87 #[ptr (w.heap.size) 0, ptr (w.heap.size + 1) 0]) (Fv 88 #[ptr (w.heap.size) 0, ptr (w.heap.size + 1) 0])) (by simp [results, Try.results58, go_sem]) rfl ?_
  have h0 := fun (Tz : TypeId) T => Blk.new w #[Fv K1 p1, Fv K2 p2] T
  have h1 := fun (Tz : TypeId) T => Blk.new (w.alloc (.cells #[Fv K1 p1, Fv K2 p2] 104)) #[Fv P #[]] T
  simp only [World.size_alloc] at h1
  exact ⟨_, _, rfl, ⟨(((h0 0 _).below (below_new _ _)).below (below_new _ _)), by omega⟩, ⟨⟨_, ((h1 0 _).below (below_new _ _))⟩, by omega⟩, ((((Below.refl _ _).alloc (by simp) _).alloc (by simp) _).alloc (by simp; omega) _)⟩

set_option maxRecDepth 100000 in
set_option maxHeartbeats 1000000 in
theorem unlessC_any (K1 K2 : FuncId) (p1 p2 : Array Value) (P : FuncId) (w : World) : Calls Try.prog 62 #[Fv P #[], Cv (Fv K1 p1) (Fv K2 p2)] w fun e w' => ∃ b0 b1 : Nat, e = .returned (Cv (Fv 93 #[ptr b0 0, ptr b1 0]) (Fv 94 #[ptr b0 0, ptr b1 0])) ∧ ((∃ T, Blk b0 #[Fv P #[]] T w') ∧ w.heap.size ≤ b0) ∧ (Blk b1 #[Fv K1 p1, Fv K2 p2] 82 w' ∧ w.heap.size ≤ b1) ∧ Below w.heap.size w w' := by
  go_enter Try.func62, Try.ntmps62
  go_wp2
  refine bodyPost_ret (v := Cv (Fv 93 #[ptr (w.heap.size) 0, ptr (w.heap.size + 1) 0]) (Fv 94 #[ptr (w.heap.size) 0, ptr (w.heap.size + 1) 0])) (by simp [results, Try.results62, go_sem]) rfl ?_
  have h0 := fun (Tz : TypeId) T => Blk.new w #[Fv P #[]] T
  have h1 := fun Tz T => Blk.new (w.alloc (.cells #[Fv P #[]] Tz)) #[Fv K1 p1, Fv K2 p2] T
  simp only [World.size_alloc] at h1
  exact ⟨_, _, rfl, ⟨⟨_, (((h0 0 _).below (below_new _ _)).below (below_new _ _))⟩, by omega⟩, ⟨((h1 _ _).below (below_new _ _)), by omega⟩, ((((Below.refl _ _).alloc (by simp) _).alloc (by simp) _).alloc (by simp; omega) _)⟩

set_option maxRecDepth 100000 in
set_option maxHeartbeats 1000000 in
theorem listC_any (K1 K2 : FuncId) (p1 p2 : Array Value) (K3 K4 : FuncId) (p3 p4 : Array Value) (w : World) : Calls Try.prog 59 #[Cv (Fv K1 p1) (Fv K2 p2), Cv (Fv K3 p3) (Fv K4 p4)] w fun e w' => ∃ b0 b1 : Nat, e = .returned (Cv (Fv 89 #[ptr b0 0, ptr b1 0]) (Fv 90 #[ptr b0 0, ptr b1 0])) ∧ (Blk b0 #[Fv K1 p1, Fv K2 p2] 77 w' ∧ w.heap.size ≤ b0) ∧ (Blk b1 #[Fv K3 p3, Fv K4 p4] 82 w' ∧ w.heap.size ≤ b1) ∧ Below w.heap.size w w' := by
  go_enter Try.func59, Try.ntmps59
  go_wp2
  refine bodyPost_ret (v := Cv (Fv 89 #[ptr (w.heap.size) 0, ptr (w.heap.size + 1) 0]) (Fv 90 #[ptr (w.heap.size) 0, ptr (w.heap.size + 1) 0])) (by simp [results, Try.results59, go_sem]) rfl ?_
  have h0 := fun (Tz : TypeId) T => Blk.new w #[Fv K1 p1, Fv K2 p2] T
  have h1 := fun (Tz : TypeId) T => Blk.new (w.alloc (.cells #[Fv K1 p1, Fv K2 p2] 77)) #[Fv K3 p3, Fv K4 p4] T
  simp only [World.size_alloc] at h1
  exact ⟨_, _, rfl, ⟨(((h0 0 _).below (below_new _ _)).below (below_new _ _)), by omega⟩, ⟨((h1 0 _).below (below_new _ _)), by omega⟩, ((((Below.refl _ _).alloc (by simp) _).alloc (by simp) _).alloc (by simp; omega) _)⟩

set_option maxRecDepth 100000 in
set_option maxHeartbeats 1000000 in
theorem allWriteC_any (g n c : Nat) (w : World) : Calls Try.prog 48 #[.slice (some ⟨g, 0, none⟩) n c] w fun e w' => ∃ b0 : Nat, e = .returned (Cv (Fv 67 #[ptr b0 0]) (Fv 68 #[ptr b0 0])) ∧ (Blk b0 #[.slice (some ⟨g, 0, none⟩) n c] 113 w' ∧ w.heap.size ≤ b0) ∧ Below w.heap.size w w' := by
  go_enter Try.func48, Try.ntmps48
  go_wp2
  refine bodyPost_ret (v := Cv (Fv 67 #[ptr (w.heap.size) 0]) (Fv 68 #[ptr (w.heap.size) 0])) (by simp [results, Try.results48, go_sem]) rfl ?_
  have h0 := fun (Tz : TypeId) T => Blk.new w #[.slice (some ⟨g, 0, none⟩) n c] T
  exact ⟨_, rfl, ⟨((h0 0 _).below (below_new _ _)), by omega⟩, (((Below.refl _ _).alloc (by simp) _).alloc (by simp) _)⟩

set_option maxRecDepth 100000 in
set_option maxHeartbeats 1000000 in
theorem allCmdC_any (g n c : Nat) (w : World) : Calls Try.prog 56 #[.slice (some ⟨g, 0, none⟩) n c] w fun e w' => ∃ b0 : Nat, e = .returned (Cv (Fv 78 #[ptr b0 0]) (Fv 79 #[ptr b0 0])) ∧ (Blk b0 #[.slice (some ⟨g, 0, none⟩) n c] 118 w' ∧ w.heap.size ≤ b0) ∧ Below w.heap.size w w' := by
  go_enter Try.func56, Try.ntmps56
  go_wp2
  refine bodyPost_ret (v := Cv (Fv 78 #[ptr (w.heap.size) 0]) (Fv 79 #[ptr (w.heap.size) 0])) (by simp [results, Try.results56, go_sem]) rfl ?_
  have h0 := fun (Tz : TypeId) T => Blk.new w #[.slice (some ⟨g, 0, none⟩) n c] T
  exact ⟨_, rfl, ⟨((h0 0 _).below (below_new _ _)), by omega⟩, (((Below.refl _ _).alloc (by simp) _).alloc (by simp) _)⟩
end Go.Proofs.Ytjmmfgmmmdbenaa
