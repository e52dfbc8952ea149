/-
  ValInts: the walk of great numbers.
-/
import Derived.Test.YtglbghgenckgeaaVInA
import Derived.Test.YtglbghgenckgeaaVInB
import Derived.Test.YtglbghgenckgeaaVInC
import Derived.Test.YtglbghgenckgeaaWIe
namespace Go.Proofs.Ytglbghgenckgeaa
open Go.RowKit
set_option linter.unusedSimpArgs false
set_option linter.unusedVariables false

set_option maxHeartbeats 8000000 in
set_option maxRecDepth 100000 in
theorem ints_big (a b : Int) (w : World) (ha : Is64 a) (hb : Is64 b) :
    Calls Try.prog 11 #[.int .i64 a, .int .i64 b, .bool false] w fun e w' => e = .returned (.bool true) ∧ Below w.heap.size w w' := by
  have CS := hide (fun W => reckon_ints 7 a b EZ EZ W ha hb (by decide))
  have CD := hide (fun W => reckon_ints 8 a b EZ EZ W ha hb (by decide))
  have CP := hide (fun W => reckon_ints 6 a b EZ EZ W ha hb (by decide))
  have CC := hide (fun W => reckon_back a b E0 EZ W ha hb)
  have R7 := hide (ints_rel7 a b ha hb)
  have R8 := hide (ints_rel8 a b ha hb)
  have R6 := hide (ints_rel6 a b)
  have RB := hide (back_rel a b)
  generalize intK 7 a b = ks at *
  generalize intN 7 a b = zs at *
  generalize intE 7 a b = es at *
  generalize intK 8 a b = kd at *
  generalize intN 8 a b = zd at *
  generalize intE 8 a b = ed at *
  generalize intK 6 a b = kp at *
  generalize intN 6 a b = zp at *
  generalize intE 6 a b = ep at *
  generalize backK a b = kc at *
  generalize backN a b = zc at *
  have HI : Hid (Is64 a ∧ Is64 b) := ⟨ha, hb⟩
  clear ha hb
  go_enter Try.func11, Try.ntmps11
  go_wp2_with fail
  refine (known_any _).mono ?_
  rintro e W1 ⟨rfl, hb⟩
  have G : Hid (Below w.heap.size w W1) := hb
  clear hb
  go_wp2_with fail
  have g1 := bel_new W1 (.cells #[.int .i64 2, .int .i64 a, .int .i64 0, .string ⟨#[]⟩] 23)
  have g2 := bel_new (W1.alloc (.cells #[.int .i64 2, .int .i64 a, .int .i64 0, .string ⟨#[]⟩] 23)) (.cells #[.int .i64 2, .int .i64 b, .int .i64 0, .string ⟨#[]⟩] 23)
  have hx := (BkI.new W1 #[.int .i64 2, .int .i64 a, .int .i64 0, .string ⟨#[]⟩]).call g2
  have hy := BkI.new (W1.alloc (.cells #[.int .i64 2, .int .i64 a, .int .i64 0, .string ⟨#[]⟩] 23)) #[.int .i64 2, .int .i64 b, .int .i64 0, .string ⟨#[]⟩]
  rw [World.size_alloc] at hy
  replace G := hide ((unhide G).trans (((g1.trans (g2.mono g1.size))).mono (unhide G).size))
  clear g1 g2
  replace hx := hide hx
  replace hy := hide hy
  generalize (W1.alloc (.cells #[.int .i64 2, .int .i64 a, .int .i64 0, .string ⟨#[]⟩] 23)).alloc (.cells #[.int .i64 2, .int .i64 b, .int .i64 0, .string ⟨#[]⟩] 23) = Z0 at *
  generalize W1.heap.size + 1 = by_ at *
  generalize W1.heap.size = bx at *
  refine (unhide CS _).mono ?_
  rintro e Y0 ⟨rfl, hb⟩
  replace G := hide ((unhide G).trans (hb.mono (unhide G).size))
  replace hx := hide ((unhide hx).call hb)
  replace hy := hide ((unhide hy).call hb)
  clear hb
  have lx := (unhide hx).lt
  have x0 := (unhide hx).cell 0
  have x1 := (unhide hx).cell 1
  have x2 := (unhide hx).cell 2
  have x3 := (unhide hx).cell 3
  have ly := (unhide hy).lt
  have y0 := (unhide hy).cell 0
  have y1 := (unhide hy).cell 1
  have y2 := (unhide hy).cell 2
  have y3 := (unhide hy).cell 3
  simp at x0 x1 x2 x3 y0 y1 y2 y3
  go_wp2_with fail
  clear lx ly x0 x1 x2 x3 y0 y1 y2 y3
  have gz := bel_new Y0 (.cells #[.int .i64 ks, .int .i64 zs, .int .i64 0, .string E0] 23)
  have hs := hide (BkI.new Y0 #[.int .i64 ks, .int .i64 zs, .int .i64 0, .string E0])
  replace hx := hide ((unhide hx).call gz)
  replace hy := hide ((unhide hy).call gz)
  replace G := hide ((unhide G).trans (gz.mono (unhide G).size))
  clear gz
  generalize Y0.alloc (.cells #[.int .i64 ks, .int .i64 zs, .int .i64 0, .string E0] 23) = Z1 at *
  generalize Y0.heap.size = bs at *
  refine (unhide CD _).mono ?_
  rintro e Y1 ⟨rfl, hb⟩
  replace G := hide ((unhide G).trans (hb.mono (unhide G).size))
  replace hx := hide ((unhide hx).call hb)
  replace hy := hide ((unhide hy).call hb)
  replace hs := hide ((unhide hs).call hb)
  clear hb
  have lx := (unhide hx).lt
  have x0 := (unhide hx).cell 0
  have x1 := (unhide hx).cell 1
  have x2 := (unhide hx).cell 2
  have x3 := (unhide hx).cell 3
  have ly := (unhide hy).lt
  have y0 := (unhide hy).cell 0
  have y1 := (unhide hy).cell 1
  have y2 := (unhide hy).cell 2
  have y3 := (unhide hy).cell 3
  simp at x0 x1 x2 x3 y0 y1 y2 y3
  go_wp2_with fail
  clear lx ly x0 x1 x2 x3 y0 y1 y2 y3
  have gz := bel_new Y1 (.cells #[.int .i64 kd, .int .i64 zd, .int .i64 0, .string E0] 23)
  have hd := hide (BkI.new Y1 #[.int .i64 kd, .int .i64 zd, .int .i64 0, .string E0])
  replace hx := hide ((unhide hx).call gz)
  replace hy := hide ((unhide hy).call gz)
  replace hs := hide ((unhide hs).call gz)
  replace G := hide ((unhide G).trans (gz.mono (unhide G).size))
  clear gz
  generalize Y1.alloc (.cells #[.int .i64 kd, .int .i64 zd, .int .i64 0, .string E0] 23) = Z2 at *
  generalize Y1.heap.size = bd at *
  refine (unhide CP _).mono ?_
  rintro e Y2 ⟨rfl, hb⟩
  replace G := hide ((unhide G).trans (hb.mono (unhide G).size))
  replace hx := hide ((unhide hx).call hb)
  replace hy := hide ((unhide hy).call hb)
  replace hs := hide ((unhide hs).call hb)
  replace hd := hide ((unhide hd).call hb)
  clear hb
  have ls := (unhide hs).lt
  have s0 := (unhide hs).cell 0
  have s1 := (unhide hs).cell 1
  have s2 := (unhide hs).cell 2
  have s3 := (unhide hs).cell 3
  have ly := (unhide hy).lt
  have y0 := (unhide hy).cell 0
  have y1 := (unhide hy).cell 1
  have y2 := (unhide hy).cell 2
  have y3 := (unhide hy).cell 3
  simp at s0 s1 s2 s3 y0 y1 y2 y3
  go_wp2_with fail
  clear ls ly s0 s1 s2 s3 y0 y1 y2 y3
  have gz := bel_new Y2 (.cells #[.int .i64 kp, .int .i64 zp, .int .i64 0, .string E0] 23)
  have hp := hide (BkI.new Y2 #[.int .i64 kp, .int .i64 zp, .int .i64 0, .string E0])
  replace hx := hide ((unhide hx).call gz)
  replace hy := hide ((unhide hy).call gz)
  replace hs := hide ((unhide hs).call gz)
  replace hd := hide ((unhide hd).call gz)
  replace G := hide ((unhide G).trans (gz.mono (unhide G).size))
  clear gz
  generalize Y2.alloc (.cells #[.int .i64 kp, .int .i64 zp, .int .i64 0, .string E0] 23) = Z3 at *
  generalize Y2.heap.size = bp at *
  rename_i K9 hk9 K0 hk0
  refine (unhide CC _).mono ?_
  rintro e Y3 ⟨rfl, hb⟩
  replace G := hide ((unhide G).trans (hb.mono (unhide G).size))
  replace hx := hide ((unhide hx).call hb)
  replace hy := hide ((unhide hy).call hb)
  replace hs := hide ((unhide hs).call hb)
  replace hd := hide ((unhide hd).call hb)
  replace hp := hide ((unhide hp).call hb)
  clear hb
  have gz := bel_new Y3 (.cells #[.int .i64 kc, .int .i64 zc, .int .i64 0, .string E0] 23)
  have hc := hide (BkI.new Y3 #[.int .i64 kc, .int .i64 zc, .int .i64 0, .string E0])
  replace hx := hide ((unhide hx).call gz)
  replace hy := hide ((unhide hy).call gz)
  replace hs := hide ((unhide hs).call gz)
  replace hd := hide ((unhide hd).call gz)
  replace hp := hide ((unhide hp).call gz)
  replace G := hide ((unhide G).trans (gz.mono (unhide G).size))
  clear gz
  have REST9 : ∀ (ac : Act) (bc : Nat) (X : World), ac = ⟨#[.int .i64 a, .int .i64 b, ac.tmps.getD 2 undef, ac.tmps.getD 3 undef, ac.tmps.getD 4 undef, ac.tmps.getD 5 undef, ac.tmps.getD 6 undef, .pointer (some ⟨bx, 0, none⟩), ac.tmps.getD 8 undef, .pointer (some ⟨bs, 0, none⟩), .int .i64 es, .pointer (some ⟨bd, 0, none⟩), .int .i64 ed, .pointer (some ⟨bp, 0, none⟩), .int .i64 ep, .pointer (some ⟨bc, 0, none⟩), .int .i64 0, ac.tmps.getD 17 undef, ac.tmps.getD 18 undef, ac.tmps.getD 19 undef, ac.tmps.getD 20 undef, ac.tmps.getD 21 undef, ac.tmps.getD 22 undef, ac.tmps.getD 23 undef, ac.tmps.getD 24 undef, ac.tmps.getD 25 undef, ac.tmps.getD 26 undef, ac.tmps.getD 27 undef, ac.tmps.getD 28 undef, ac.tmps.getD 29 undef, ac.tmps.getD 30 undef, ac.tmps.getD 31 undef, ac.tmps.getD 32 undef, ac.tmps.getD 33 undef, ac.tmps.getD 34 undef, ac.tmps.getD 35 undef, ac.tmps.getD 36 undef, ac.tmps.getD 37 undef, ac.tmps.getD 38 undef, ac.tmps.getD 39 undef, ac.tmps.getD 40 undef, ac.tmps.getD 41 undef, ac.tmps.getD 42 undef, ac.tmps.getD 43 undef, ac.tmps.getD 44 undef, ac.tmps.getD 45 undef, ac.tmps.getD 46 undef, ac.tmps.getD 47 undef, ac.tmps.getD 48 undef, ac.tmps.getD 49 undef, ac.tmps.getD 50 undef, ac.tmps.getD 51 undef, ac.tmps.getD 52 undef, ac.tmps.getD 53 undef, ac.tmps.getD 54 undef, ac.tmps.getD 55 undef, ac.tmps.getD 56 undef, ac.tmps.getD 57 undef, ac.tmps.getD 58 undef, ac.tmps.getD 59 undef, ac.tmps.getD 60 undef, ac.tmps.getD 61 undef, ac.tmps.getD 62 undef, ac.tmps.getD 63 undef, ac.tmps.getD 64 undef, ac.tmps.getD 65 undef, ac.tmps.getD 66 undef, ac.tmps.getD 67 undef, ac.tmps.getD 68 undef, ac.tmps.getD 69 undef, ac.tmps.getD 70 undef, ac.tmps.getD 71 undef, ac.tmps.getD 72 undef, ac.tmps.getD 73 undef, ac.tmps.getD 74 undef, ac.tmps.getD 75 undef, ac.tmps.getD 76 undef, ac.tmps.getD 77 undef, ac.tmps.getD 78 undef, ac.tmps.getD 79 undef, ac.tmps.getD 80 undef, ac.tmps.getD 81 undef, ac.tmps.getD 82 undef, ac.tmps.getD 83 undef, ac.tmps.getD 84 undef, ac.tmps.getD 85 undef, ac.tmps.getD 86 undef, ac.tmps.getD 87 undef, ac.tmps.getD 88 undef, ac.tmps.getD 89 undef, ac.tmps.getD 90 undef, ac.tmps.getD 91 undef, ac.tmps.getD 92 undef, ac.tmps.getD 93 undef, ac.tmps.getD 94 undef, ac.tmps.getD 95 undef, ac.tmps.getD 96 undef, ac.tmps.getD 97 undef, ac.tmps.getD 98 undef, ac.tmps.getD 99 undef, ac.tmps.getD 100 undef, ac.tmps.getD 101 undef, ac.tmps.getD 102 undef, ac.tmps.getD 103 undef, ac.tmps.getD 104 undef, ac.tmps.getD 105 undef, ac.tmps.getD 106 undef, ac.tmps.getD 107 undef, ac.tmps.getD 108 undef, ac.tmps.getD 109 undef, ac.tmps.getD 110 undef, ac.tmps.getD 111 undef, ac.tmps.getD 112 undef, ac.tmps.getD 113 undef, ac.tmps.getD 114 undef, ac.tmps.getD 115 undef, ac.tmps.getD 116 undef, ac.tmps.getD 117 undef, ac.tmps.getD 118 undef, ac.tmps.getD 119 undef, ac.tmps.getD 120 undef, ac.tmps.getD 121 undef, ac.tmps.getD 122 undef, ac.tmps.getD 123 undef, ac.tmps.getD 124 undef, ac.tmps.getD 125 undef, ac.tmps.getD 126 undef, ac.tmps.getD 127 undef, ac.tmps.getD 128 undef, ac.tmps.getD 129 undef, ac.tmps.getD 130 undef, ac.tmps.getD 131 undef, ac.tmps.getD 132 undef, ac.tmps.getD 133 undef, ac.tmps.getD 134 undef, ac.tmps.getD 135 undef, ac.tmps.getD 136 undef, ac.tmps.getD 137 undef, ac.tmps.getD 138 undef, ac.tmps.getD 139 undef, ac.tmps.getD 140 undef, ac.tmps.getD 141 undef, ac.tmps.getD 142 undef, ac.tmps.getD 143 undef, ac.tmps.getD 144 undef, ac.tmps.getD 145 undef, ac.tmps.getD 146 undef, ac.tmps.getD 147 undef, ac.tmps.getD 148 undef, ac.tmps.getD 149 undef, ac.tmps.getD 150 undef, ac.tmps.getD 151 undef, ac.tmps.getD 152 undef, ac.tmps.getD 153 undef, ac.tmps.getD 154 undef, ac.tmps.getD 155 undef, ac.tmps.getD 156 undef, ac.tmps.getD 157 undef], []⟩ → Hid (BkI bx #[.int .i64 2, .int .i64 a, .int .i64 0, .string ⟨#[]⟩] X) → Hid (BkI bs #[.int .i64 ks, .int .i64 zs, .int .i64 0, .string ⟨#[]⟩] X) → Hid (BkI bd #[.int .i64 kd, .int .i64 zd, .int .i64 0, .string ⟨#[]⟩] X) → Hid (BkI bp #[.int .i64 kp, .int .i64 zp, .int .i64 0, .string ⟨#[]⟩] X) → Hid (BkI bc #[.int .i64 kc, .int .i64 zc, .int .i64 0, .string ⟨#[]⟩] X) → Hid (Below w.heap.size w X) → K9 ac X := by
    clear hx hy hs hd hp hc G
    intro ac bc X ha hx hs hd hp hc_ G
    refine hk9 _ _ ?_
    obtain ⟨ia, ib⟩ := unhide HI
    rcases unhide R7 with ⟨rfl, e7⟩ | ⟨rfl, g7⟩
    · obtain ⟨rfl, rfl⟩ := unhide RB rfl
      have e7' : IntKind.i64.wrap (zc + b) = zs := by rw [IntWalk.i64_left, e7]
      rcases unhide R8 with ⟨rfl, e8⟩ | ⟨rfl, g8⟩
      · have e8' : IntKind.i64.wrap (zc - b) = zd := by rw [IntWalk.i64_left, e8]
        rcases unhide R6 with ⟨rfl, e6⟩ | rfl
        · exact vi111 rfl w zc b ks zs kd zd kp zp 0 0 0 bx bs bd bp bc e7' e8' (by rw [IntWalk.i64_left, e6]) ac X ha hx hs hd hp hc_ G
        · exact vi110 rfl w zc b ks zs kd zd kp zp 0 0 0 bx bs bd bp bc e7' e8' ac X ha hx hs hd hp hc_ G
      · have hg : (zc < 0 ∧ ¬ b < 0) ∨ (¬ zc < 0 ∧ b < 0) := by omega
        rcases unhide R6 with ⟨rfl, e6⟩ | rfl
        · rcases hg with ⟨ga, gb⟩ | ⟨ga, gb⟩
          · exact vi101A rfl w zc b ks zs kd zd kp zp 0 0 0 bx bs bd bp bc e7' (by rw [IntWalk.i64_left, e6]) ga gb ac X ha hx hs hd hp hc_ G
          · exact vi101B rfl w zc b ks zs kd zd kp zp 0 0 0 bx bs bd bp bc e7' (by rw [IntWalk.i64_left, e6]) ga gb ac X ha hx hs hd hp hc_ G
        · rcases hg with ⟨ga, gb⟩ | ⟨ga, gb⟩
          · exact vi100A rfl w zc b ks zs kd zd kp zp 0 0 0 bx bs bd bp bc e7' ga gb ac X ha hx hs hd hp hc_ G
          · exact vi100B rfl w zc b ks zs kd zd kp zp 0 0 0 bx bs bd bp bc e7' ga gb ac X ha hx hs hd hp hc_ G
    · rcases unhide R8 with ⟨rfl, e8⟩ | ⟨rfl, g8⟩
      · have e8' : IntKind.i64.wrap (a - b) = zd := by rw [IntWalk.i64_left, e8]
        have hg : (a < 0 ∧ b < 0) ∨ (¬ a < 0 ∧ ¬ b < 0) := by omega
        rcases unhide R6 with ⟨rfl, e6⟩ | rfl
        · rcases hg with ⟨ga, gb⟩ | ⟨ga, gb⟩
          · exact vi011A rfl w a b ks zs kd zd kp zp kc zc 0 bx bs bd bp bc e8' (by rw [IntWalk.i64_left, e6]) ga gb ac X ha hx hs hd hp hc_ G
          · exact vi011B rfl w a b ks zs kd zd kp zp kc zc 0 bx bs bd bp bc e8' (by rw [IntWalk.i64_left, e6]) ga gb ac X ha hx hs hd hp hc_ G
        · rcases hg with ⟨ga, gb⟩ | ⟨ga, gb⟩
          · exact vi010A rfl w a b ks zs kd zd kp zp kc zc 0 bx bs bd bp bc e8' ga gb ac X ha hx hs hd hp hc_ G
          · exact vi010B rfl w a b ks zs kd zd kp zp kc zc 0 bx bs bd bp bc e8' ga gb ac X ha hx hs hd hp hc_ G
      · exact absurd g7 g8
  have REST9 := hide REST9
  clear hk9
  go_wp2_with fail
  exact unhide REST9 _ Y3.heap.size (Y3.alloc (.cells #[.int .i64 kc, .int .i64 zc, .int .i64 0, .string E0] 23)) (by kernel_rfl) hx hs hd hp hc G
theorem valInts_walk (a b : Int) (small : Bool) (wa : (Lit.int .i64 a).wf = true) (wb : (Lit.int .i64 b).wf = true) (w : World) :
    Calls Try.prog 11 #[.int .i64 a, .int .i64 b, .bool small] w fun e w' => e = .returned (.bool true) ∧ Below w.heap.size w w' := by
  cases small
  case true => exact ints_small a b w (is64_wf wa) (is64_wf wb)
  case false => exact ints_big a b w (is64_wf wa) (is64_wf wb)
end Go.Proofs.Ytglbghgenckgeaa
