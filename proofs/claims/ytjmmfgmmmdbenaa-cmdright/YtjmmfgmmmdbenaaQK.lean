/-
  A command that came in, opened.
-/
import Derived.Test.YtjmmfgmmmdbenaaCXw
import Derived.Test.YtjmmfgmmmdbenaaQJ
import Derived.OpenShut
import Derived.ProofKit
import Derived.Carry
namespace Go.Proofs.Ytjmmfgmmmdbenaa
open Go.ChangeShapes Go.WideShapes Go.ChangeAt Go.RowKit
set_option linter.unusedVariables false

theorem cellsStr : Try.prog.cellsOf 9 = 1 := by kernel_rfl
theorem cellsBool : Try.prog.cellsOf 4 = 1 := by kernel_rfl
theorem cellsWt : Try.prog.cellsOf 40 = 3 := by kernel_rfl
theorem cellsCm : Try.prog.cellsOf 26 = 6 := by kernel_rfl
theorem cellsSlW : Try.prog.cellsOf 24 = 1 := by kernel_rfl
set_option maxRecDepth 100000 in
theorem wt_trod {H : Type} {enc : TypeId × Value → H} {W : World} (fuel : Nat) (cs : List Value) (x : DataW H × List MemPlace) (h : DataW.trod enc Try.prog W 0 (fun _ => true) true fuel 40 cs = some x) : ∃ t : Wt, cs = [.string t.k, .string t.v, .bool t.g] ∧ t.k.size ≤ maxLen ∧ t.v.size ≤ maxLen := by
  obtain ⟨xs, m, _, _, hl, hxl, hf⟩ := DataW.trod_struct Try.underlying40 h
  rw [cellsWt] at hl
  match cs, hl with
  | [c0, c1, c2], _ =>
    have hx3 : xs.length = 3 := hxl
    have f0 : DataW.trod enc Try.prog W 0 (fun _ => true) true m 9 ((([c0, c1, c2] : List Value).drop 0).take (Try.prog.cellsOf 9)) = xs[0]? := hf 0 _ rfl
    rw [cellsStr, List.getElem?_eq_getElem (by omega)] at f0
    have f1 : DataW.trod enc Try.prog W 0 (fun _ => true) true m 9 ((([c0, c1, c2] : List Value).drop 1).take (Try.prog.cellsOf 9)) = xs[1]? := hf 1 _ rfl
    rw [cellsStr, List.getElem?_eq_getElem (by omega)] at f1
    have f2 : DataW.trod enc Try.prog W 0 (fun _ => true) true m 4 ((([c0, c1, c2] : List Value).drop 2).take (Try.prog.cellsOf 4)) = xs[2]? := hf 2 _ rfl
    rw [cellsBool, List.getElem?_eq_getElem (by omega)] at f2
    obtain ⟨K, e0, _, k0⟩ := DataW.trod_string Try.underlying9 f0
    obtain ⟨S, e1, _, k1⟩ := DataW.trod_string Try.underlying9 f1
    obtain ⟨G, e2, _⟩ := DataW.trod_bool Try.underlying4 f2
    have d0 : c0 = .string K := by simpa using e0
    have d1 : c1 = .string S := by simpa using e1
    have d2 : c2 = .bool G := by simpa using e2
    subst d0 d1 d2
    exact ⟨⟨K, S, G⟩, rfl, k0, k1⟩
set_option maxRecDepth 100000 in
theorem ws_trod {H : Type} {enc : TypeId × Value → H} {W : World} (fuel : Nat) (cs : List Value) (x : DataW H × List MemPlace) (h : DataW.trod enc Try.prog W 0 (fun _ => true) true fuel 24 cs = some x) : ∃ (ws : List Wt) (q : Option Addr) (cap : Nat), cs = [.slice q ws.length cap] ∧ WsV q ws W ∧ ∀ t ∈ ws, t.k.size ≤ maxLen ∧ t.v.size ≤ maxLen := by
  rcases DataW.trod_slice Try.underlying24 h with ⟨rfl, _⟩ | ⟨a, len, cap, elems, rest, n, _, rfl, _, hb, hl, hm, hlen, hel, _, _⟩
  · exact ⟨[], none, 0, rfl, ⟨0, 0, fun h => absurd rfl h, fun i hi => absurd hi (by simp)⟩, fun t ht => by cases ht⟩
  · have hP : ∀ i, ∃ t : Wt, i < len → (∀ j u, ([.string t.k, .string t.v, .bool t.g] : List Value)[j]? = some u → W.cell? ((a.add (i * 3)).add j) = some u) ∧ t.k.size ≤ maxLen ∧ t.v.size ≤ maxLen := fun i => by
      by_cases hi : i < len
      · have he := hel i hi
        rw [cellsWt, List.getElem?_eq_getElem (by omega), Option.bind_eq_some_iff] at he
        obtain ⟨cs3, hcs, hy⟩ := he
        obtain ⟨_, h3, hc⟩ := World.cells?_some hcs
        obtain ⟨t, rfl, k0, k1⟩ := wt_trod n cs3 _ hy
        refine ⟨t, fun _ => ⟨fun j u hj => ?_, k0, k1⟩⟩
        have hj3 : j < 3 := (List.getElem?_eq_some_iff.1 hj).1
        exact (hc j hj3).trans hj
      · exact ⟨⟨⟨#[]⟩, ⟨#[]⟩, false⟩, fun h => absurd h hi⟩
    obtain ⟨f, hf⟩ : ∃ f : Nat → Wt, ∀ i, i < len → (∀ j u, ([.string (f i).k, .string (f i).v, .bool (f i).g] : List Value)[j]? = some u → W.cell? ((a.add (i * 3)).add j) = some u) ∧ (f i).k.size ≤ maxLen ∧ (f i).v.size ≤ maxLen := ⟨fun i => Classical.choose (hP i), fun i => Classical.choose_spec (hP i)⟩
    have hwl : ((List.range len).map f).length = len := by simp
    refine ⟨(List.range len).map f, some a, cap, by rw [hwl], ?_, fun t ht => ?_⟩
    · by_cases h0 : len = 0
      · exact ⟨0, 0, fun h => absurd (hwl.trans h0) h, fun i hi => absurd hi (by rw [hwl]; omega)⟩
      · obtain ⟨b, off, spot⟩ := a
        have hspot : spot = none := by simpa [Addr.add] using World.cell?_spot ((hf 0 (by omega)).1 0 _ rfl)
        subst hspot
        refine ⟨b, off, fun _ => rfl, fun i hi => ?_⟩
        have hi2 : i < len := by rw [hwl] at hi; exact hi
        have e : ((List.range len).map f)[i] = f i := by simp
        rw [e]
        have h1 := (hf i hi2).1
        have c0 := h1 0 _ rfl
        have c1 := h1 1 _ rfl
        have c2 := h1 2 _ rfl
        rw [Go.WideShapes.add_plain, Go.WideShapes.add_plain] at c0 c1 c2
        exact ⟨⟨c0, c1, c2⟩, World.block_lt_of_cell? W _ c0⟩
    · obtain ⟨i, hi, rfl⟩ := List.mem_map.1 ht
      exact (hf i (List.mem_range.1 hi)).2
set_option maxRecDepth 100000 in
theorem cmd_of {H : Type} {enc : TypeId × Value → H} {W : World} {base : Nat} {v : Value} {d : DataW H} {p : List MemPlace} (hval : Value.okWide Try.prog W .any base 26 v) (h : DataW.Trod enc Try.prog W 0 (fun _ => true) true 26 v d p) : ∃ (c : Cm) (q : Option Addr) (cap : Nat), v = .agg #[.int .i64 c.kind, .int .i64 c.id, .int .i64 c.txn, .bool c.com, .slice q c.ws.length cap, .string c.text] ∧ WsV q c.ws W ∧ (c.ws.length ≤ 50 → FineW c) := by
  obtain ⟨cs, rfl, hsz⟩ := okWide_struct Try.underlying26 hval
  obtain ⟨fuel, hf0⟩ := h
  rw [cellsCm] at hsz
  obtain ⟨l⟩ := cs
  match l, hsz with
  | [c0, c1, c2, c3, c4, c5], _ =>
    have hf1 : DataW.trod enc Try.prog W 0 (fun _ => true) true fuel 26 [c0, c1, c2, c3, c4, c5] = some (d, p) := by simpa [Value.cells] using hf0
    obtain ⟨xs, m, _, _, hl, hxl, hf⟩ := DataW.trod_struct Try.underlying26 hf1
    have hx6 : xs.length = 6 := hxl
    have f0 : DataW.trod enc Try.prog W 0 (fun _ => true) true m 3 ((([c0, c1, c2, c3, c4, c5] : List Value).drop 0).take (Try.prog.cellsOf 3)) = xs[0]? := hf 0 _ rfl
    rw [cellsInt, List.getElem?_eq_getElem (by omega)] at f0
    have f1 : DataW.trod enc Try.prog W 0 (fun _ => true) true m 3 ((([c0, c1, c2, c3, c4, c5] : List Value).drop 1).take (Try.prog.cellsOf 3)) = xs[1]? := hf 1 _ rfl
    rw [cellsInt, List.getElem?_eq_getElem (by omega)] at f1
    have f2 : DataW.trod enc Try.prog W 0 (fun _ => true) true m 3 ((([c0, c1, c2, c3, c4, c5] : List Value).drop 2).take (Try.prog.cellsOf 3)) = xs[2]? := hf 2 _ rfl
    rw [cellsInt, List.getElem?_eq_getElem (by omega)] at f2
    have f3 : DataW.trod enc Try.prog W 0 (fun _ => true) true m 4 ((([c0, c1, c2, c3, c4, c5] : List Value).drop 3).take (Try.prog.cellsOf 4)) = xs[3]? := hf 3 _ rfl
    rw [cellsBool, List.getElem?_eq_getElem (by omega)] at f3
    have f4 : DataW.trod enc Try.prog W 0 (fun _ => true) true m 24 ((([c0, c1, c2, c3, c4, c5] : List Value).drop 4).take (Try.prog.cellsOf 24)) = xs[4]? := hf 4 _ rfl
    rw [cellsSlW, List.getElem?_eq_getElem (by omega)] at f4
    have f5 : DataW.trod enc Try.prog W 0 (fun _ => true) true m 9 ((([c0, c1, c2, c3, c4, c5] : List Value).drop 5).take (Try.prog.cellsOf 9)) = xs[5]? := hf 5 _ rfl
    rw [cellsStr, List.getElem?_eq_getElem (by omega)] at f5
    obtain ⟨K, e0, _, k0⟩ := DataW.trod_int Try.underlying3 f0
    obtain ⟨I, e1, _, k1⟩ := DataW.trod_int Try.underlying3 f1
    obtain ⟨X, e2, _, k2⟩ := DataW.trod_int Try.underlying3 f2
    obtain ⟨B, e3, _⟩ := DataW.trod_bool Try.underlying4 f3
    obtain ⟨ws, q, cap, e4, k4, k5⟩ := ws_trod m _ _ f4
    obtain ⟨S, e5, _, k6⟩ := DataW.trod_string Try.underlying9 f5
    have d0 : c0 = .int .i64 K := by simpa using e0
    have d1 : c1 = .int .i64 I := by simpa using e1
    have d2 : c2 = .int .i64 X := by simpa using e2
    have d3 : c3 = .bool B := by simpa using e3
    have d4 : c4 = .slice q ws.length cap := by simpa using e4
    have d5 : c5 = .string S := by simpa using e5
    subst d0 d1 d2 d3 d4 d5
    exact ⟨⟨K, I, X, B, ws, S⟩, q, cap, rfl, k4, fun hl => ⟨is64_litQ k0, is64_litQ k1, is64_litQ k2, Nat.le_trans hl (by decide), fun t ht => by have h9 := k5 t ht; unfold maxLen at h9; omega, by unfold maxLen at k6; show S.size ≤ _; omega⟩⟩
end Go.Proofs.Ytjmmfgmmmdbenaa
