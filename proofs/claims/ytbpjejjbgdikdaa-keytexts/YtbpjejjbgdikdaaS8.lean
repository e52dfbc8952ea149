/-
  A text read off a text's front: what package key's text returns and leaves.
-/
import Derived.Test.YtbpjejjbgdikdaaS7
import Derived.Test.YtbpjejjbgdikdaaS2
import Derived.Laws.IdiomStrings
import Derived.Laws.BytesArg
namespace Go.Proofs.Ytbpjejjbgdikdaa
open Go.RowKit
set_option linter.unusedSimpArgs false
set_option linter.unusedVariables false

theorem nm8_cons (c : UInt8) (l : List UInt8) (hm : l.length ≤ 900000) (b : Nat) (w : World) (hB : Boxed w b 52 (.string (Str (c :: l)))) :
    Calls Try.prog 44 #[.pointer (some ⟨b, 0, none⟩)] w fun e w' => e = .returned (.tuple #[.int .u8 (c.toNat : Int), .bool true]) ∧ w' = w.setCell ⟨b, 0, none⟩ (.string (Str l)) := by
  have h := nm8_yes (c :: l) (by simp) (by simp; omega) b w hB.cell hB.frozen
  have e : numB ((c :: l).take 1) = (c.toNat : Int) := by simp [numB]
  rw [e] at h
  exact h
theorem nm8_nil (b : Nat) (w : World) (hB : Boxed w b 52 (.string (Str []))) :
    Calls Try.prog 44 #[.pointer (some ⟨b, 0, none⟩)] w fun e w' => e = .returned (.tuple #[.int .u8 0, .bool false]) ∧ w' = w := nm8_no [] (by decide) b w hB.cell

/-- a text off a list's front, and what is left; acc: what has come -/
def rtxt : List UInt8 → List UInt8 → Option (List UInt8 × List UInt8)
  | _, [] => none
  | acc, [c] => if c = 0 then none else none
  | acc, c :: m :: l => if c = 0 then (if m = 1 then some (acc, l) else if m = 255 then rtxt (acc ++ [0]) l else none) else rtxt (acc ++ [c]) (m :: l)
theorem rtxt_plain (acc : List UInt8) (c : UInt8) (l : List UInt8) (h : c ≠ 0) : rtxt acc (c :: l) = rtxt (acc ++ [c]) l := by
  cases l with
  | nil => simp [rtxt, h]
  | cons m l => rw [rtxt, if_neg h]
theorem rtxt_one (acc : List UInt8) : rtxt acc [0] = none := by simp [rtxt]
theorem rtxt_zero (acc : List UInt8) (m : UInt8) (l : List UInt8) : rtxt acc (0 :: m :: l) = if m = 1 then some (acc, l) else if m = 255 then rtxt (acc ++ [0]) l else none := by rw [rtxt, if_pos rfl]

abbrev U8 (l : List UInt8) : List Value := l.map (fun c => Value.int .u8 (c.toNat : Int))
theorem run_string_u8 {w : World} {B : Nat} {v : Value} {l : List UInt8} (h : w.ownsRow B 5 1 v l.length (U8 l)) :
    (convert 49 9 v).run Try.prog w = .ok (.string (Str l)) w := by
  rcases h.2 with ⟨rfl, h0⟩ | ⟨g, cap, cur, rfl, _, hgb, _, _, _, ht⟩
  · obtain rfl : l = [] := List.length_eq_zero_iff.1 h0
    exact run_convert_bytes_nil w 49 5 Try.underlying49 Try.underlying5 0 0 9 Try.underlying9
  · refine run_convert_bytes_back w 49 9 5 ⟨g, 0, none⟩ cap l Try.underlying49 Try.underlying5 Try.underlying9 ?_
    intro j hj
    have hadd : (⟨g, 0, none⟩ : Addr).add j = ⟨g, j, none⟩ := by unfold Addr.add; split <;> simp_all
    rw [hadd, cell_of_row w g j cur _ _ hgb]
    have h1 : (cur.toList.take (l.length * 1))[j]? = (U8 l)[j]? := by rw [ht]
    rw [List.getElem?_take_of_lt (by omega)] at h1
    simp [List.getElem?_map, List.getElem?_eq_getElem hj] at h1 ⊢
    exact h1

/-- how many bytes are left in a reader's box -/
def restLen (b : Nat) (W : World) : Nat := match W.cell? ⟨b, 0, none⟩ with | some (.string t) => t.size | _ => 0
theorem restLen_eq {b : Nat} {W : World} {l : List UInt8} (h : Boxed W b 52 (.string (Str l))) : restLen b W = l.length := by
  unfold restLen; rw [h.cell]; exact str_size l
theorem eqz_true {c : UInt8} (h : c = 0) : ((c.toNat : Int) == 0) = true := by subst h; rfl
theorem eqz_false {c d : UInt8} (h : c ≠ d) : ((c.toNat : Int) == (d.toNat : Int)) = false := by
  rw [beq_eq_false_iff_ne]; intro e; exact h (UInt8.toNat_inj.1 (by omega))

/-- one byte more: what lies behind the append -/
theorem text_step {w wr w0 w1 : World} {b : Nat} {v : Value} {acc l' : List UInt8} {c : UInt8} {g cap : Nat} {tmp : Obj} (hbl : b < w.heap.size) (hsz : w.heap.size ≤ wr.heap.size) (hg : w.grownBy wr (some b))
    (hb : Boxed w0 b 52 (.string (Str l'))) (h0 : wr.grownBy w0 (some b)) (hrow : w0.ownsRow w.heap.size 5 1 v acc.length (U8 acc))
    (hown' : w1.ownsRow w.heap.size 5 1 (.slice (some ⟨g, 0, none⟩) (acc.length + 1) cap) (acc.length + 1) (U8 acc ++ [.int .u8 (c.toNat : Int)])) (hgrow : (w0.alloc tmp).grownBy w1 v.ownBlock) :
    Boxed w1 b 52 (.string (Str l')) ∧ w1.ownsRow w.heap.size 5 1 (.slice (some ⟨g, 0, none⟩) (acc.length + 1) cap) (acc ++ [c]).length (U8 (acc ++ [c])) ∧ w.grownBy w1 (some b) := by
  have hne : ∀ k, v.ownBlock = some k → w.heap.size ≤ k := by
    intro k e
    rcases hrow.2 with ⟨rfl, _⟩ | ⟨g, cap, cur, rfl, hge, _⟩
    · cases e
    · cases e; exact hge
  refine ⟨(hb.alloc tmp).kept hgrow (fun e => by have := hne b e.symm; omega), by simpa using hown', ?_⟩
  exact grownBy_trans (grownBy_trans (grownBy_trans hg h0 (.inl rfl)) (grownBy_alloc' w0 tmp none) (.inr fun _ e => by cases e)) hgrow (.inr hne)
theorem row_set {w wr : World} {b : Nat} {v u : Value} {k : Nat} {xs : List Value} (hbl : b < w.heap.size) (hrow : wr.ownsRow w.heap.size 5 1 v k xs) : (wr.setCell ⟨b, 0, none⟩ u).ownsRow w.heap.size 5 1 v k xs :=
  hrow.kept (grownBy_setCell' wr b u) (by
    rcases hrow.2 with ⟨rfl, _⟩ | ⟨g, cap, cur, rfl, hge, _⟩
    · exact .inl rfl
    · right; intro e; simp [Value.ownBlock] at e; omega)

set_option maxRecDepth 100000 in
set_option maxHeartbeats 2000000 in
theorem rtext_any (l : List UInt8) (hm : l.length ≤ 900000) (b : Nat) (w : World) (hB : Boxed w b 52 (.string (Str l))) :
    Calls Try.prog 47 #[.pointer (some ⟨b, 0, none⟩)] w fun e w' => ∃ l', Boxed w' b 52 (.string (Str l')) ∧ w.grownBy w' (some b) ∧ l'.length ≤ l.length ∧
      ((rtxt [] l = none ∧ e = .returned (.tuple #[.string ⟨#[]⟩, .bool false])) ∨ (∃ d, rtxt [] l = some (d, l') ∧ e = .returned (.tuple #[.string (Str d), .bool true]))) := by
  obtain ⟨i0, hi, hz0, hz1, hz2⟩ := info_parts info_byte
  go_enter Try.func47, Try.ntmps47
  go_wp2
  go_loopw [4] (fun v wr => ∃ acc l' : List UInt8, Boxed wr b 52 (.string (Str l')) ∧ wr.ownsRow w.heap.size 5 1 v acc.length (U8 acc) ∧ w.grownBy wr (some b) ∧ acc.length + l'.length ≤ l.length ∧ Hid (rtxt acc l' = rtxt [] l))
    (fun v wr => restLen b wr)
  case atStart => exact ⟨[], l, hB, World.ownsRow_nil _ _ _ _, grownBy_refl _ _, by simp, rfl⟩
  case round =>
    obtain ⟨acc, l', hb, hrow, hg, hlen, HR⟩ := hrel
    have hml := restLen_eq hb
    have hbl := hB.lt
    cases l' with
    | nil =>
      go_wp2_with (go_at_call 44; refine (nm8_nil b _ hb).mono ?_; rintro e w' ⟨rfl, rfl⟩)
      go_ret2
      exact ⟨[], hb, hg, by simp, .inl ⟨by rw [← HR.out]; rfl, rfl⟩⟩
    | cons c l' =>
      have hb1 := hb.set (.string (Str l'))
      have hlen' : acc.length + (l'.length + 1) ≤ l.length := by simpa using hlen
      have hrow1 := row_set (u := .string (Str l')) hbl hrow
      have hsz := hg.size
      by_cases hc : c = 0
      · subst hc
        cases l' with
        | nil =>
          have HN : Hid (rtxt [] l = none) := by show _ = _; rw [← HR.out]; exact rtxt_one acc
          clear HR
          go_wp2_with (first | (go_at_call 44; refine (nm8_cons 0 [] (by decide) b _ hb).mono ?_; clear hb; rintro e w' ⟨rfl, rfl⟩) | (go_at_call 44; refine (nm8_nil b _ hb1).mono ?_; rintro e w' ⟨rfl, rfl⟩))
          go_ret2
          exact ⟨[], hb1, grownBy_trans hg (grownBy_setCell' wr b _) (.inl rfl), by simp, .inl ⟨HN.out, rfl⟩⟩
        | cons m l' =>
          have hlen2 : acc.length + (l'.length + 1 + 1) ≤ l.length := by simpa using hlen'
          have hb2 := hb1.set (.string (Str l'))
          have hrow2 := row_set (u := .string (Str l')) hbl hrow1
          have hgg : wr.grownBy ((wr.setCell ⟨b, 0, none⟩ (.string (Str (m :: l')))).setCell ⟨b, 0, none⟩ (.string (Str l'))) (some b) := grownBy_trans (grownBy_setCell' wr b _) (grownBy_setCell' _ b _) (.inl rfl)
          by_cases h1 : m = 1
          · subst h1
            have HN : Hid (rtxt [] l = some (acc, l')) := by show _ = _; rw [← HR.out, rtxt_zero, if_pos rfl]
            have hrun := run_string_u8 hrow2
            clear HR
            go_wp2_with (first | (go_at_call 44; refine (nm8_cons 0 (1 :: l') (by simp; omega) b _ hb).mono ?_; clear hb; rintro e w' ⟨rfl, rfl⟩) | (go_at_call 44; refine (nm8_cons 1 l' (by omega) b _ hb1).mono ?_; rintro e w' ⟨rfl, rfl⟩))
            go_ret2
            exact ⟨l', hb2, grownBy_trans hg hgg (.inl rfl), by omega, .inr ⟨acc, HN.out, rfl⟩⟩
          · have hm1 : ((m.toNat : Int) == 1) = false := eqz_false (d := 1) h1
            by_cases h255 : m = 255
            · subst h255
              have HS : Hid (rtxt (acc ++ [0]) l' = rtxt [] l) := by show _ = _; rw [← HR.out, rtxt_zero, if_neg (by decide), if_pos rfl]
              clear HR
              go_wp2_with (first | (go_at_call 44; refine (nm8_cons 0 (255 :: l') (by simp; omega) b _ hb).mono ?_; clear hb; rintro e w' ⟨rfl, rfl⟩) | (go_at_call 44; refine (nm8_cons 255 l' (by omega) b _ hb1).mono ?_; clear hb1; rintro e w' ⟨rfl, rfl⟩) | (at_builtin; refine wpList_append_lies _ rfl _ _ 49 rfl w.heap.size 5 i0 (.int .u8 0) 1 1 Try.underlying49 hi hz0 hz1 hz2 rfl (by decide) u4 _ _ rfl (hrow2.alloc _) ⟨wr.heap.size, 0, none⟩ 1 1 [.int .u8 0] rfl rfl (by simpa using cell_one_new ((wr.setCell ⟨b, 0, none⟩ (.string (Str (255 :: l')))).setCell ⟨b, 0, none⟩ (.string (Str l'))) _ _) (by simp [Value.oneCell']) (by decide) (by unfold maxLen; omega) (by omega) (by simp; omega) _ rfl ?_; intro g cap w1 hown' hgrow hat _))
              obtain ⟨t1, t2, t3⟩ := text_step (c := 0) hbl hsz hg hb2 hgg hrow2 hown' hgrow
              exact ⟨⟨acc ++ [0], l', t1, t2, t3, by simp; omega, HS⟩, by rw [restLen_eq t1, hml]; simp; omega⟩
            · have hm255 : ((m.toNat : Int) == 255) = false := eqz_false (d := 255) h255
              have HN : Hid (rtxt [] l = none) := by show _ = _; rw [← HR.out, rtxt_zero, if_neg h1, if_neg h255]
              clear HR
              go_wp2_with (first | (go_at_call 44; refine (nm8_cons 0 (m :: l') (by simp; omega) b _ hb).mono ?_; clear hb; rintro e w' ⟨rfl, rfl⟩) | (go_at_call 44; refine (nm8_cons m l' (by omega) b _ hb1).mono ?_; rintro e w' ⟨rfl, rfl⟩))
              go_ret2
              exact ⟨l', hb2, grownBy_trans hg hgg (.inl rfl), by omega, .inl ⟨HN.out, rfl⟩⟩
      · have hz : ((c.toNat : Int) == 0) = false := eqz_false (d := 0) hc
        have HS : Hid (rtxt (acc ++ [c]) l' = rtxt [] l) := by show _ = _; rw [← rtxt_plain acc c l' hc]; exact HR.out
        clear hc HR
        go_wp2_with (first | (go_at_call 44; refine (nm8_cons c l' (by omega) b _ hb).mono ?_; rintro e w' ⟨rfl, rfl⟩) | (at_builtin; refine wpList_append_lies _ rfl _ _ 49 rfl w.heap.size 5 i0 (.int .u8 0) 1 1 Try.underlying49 hi hz0 hz1 hz2 rfl (by decide) u4 _ _ rfl (hrow1.alloc _) ⟨wr.heap.size, 0, none⟩ 1 1 [.int .u8 (c.toNat : Int)] rfl rfl (by simpa using cell_one_new (wr.setCell ⟨b, 0, none⟩ (.string (Str l'))) _ _) (by simp [Value.oneCell']) (by decide) (by unfold maxLen; omega) (by omega) (by simp; omega) _ rfl ?_; intro g cap w1 hown' hgrow hat _))
        obtain ⟨t1, t2, t3⟩ := text_step hbl hsz hg hb1 (grownBy_setCell' wr b _) hrow1 hown' hgrow
        exact ⟨⟨acc ++ [c], l', t1, t2, t3, by simp; omega, HS⟩, by rw [restLen_eq t1, hml]; simp⟩
end Go.Proofs.Ytbpjejjbgdikdaa
