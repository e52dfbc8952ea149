/-
  No cell of these rows narrows 'for every input' (looked for: loops, veiled, ifaces, maps, wideKeys, modest, calm, conditions, laid).
  DERIVED. THE GIVEN ROWS OF THIS SEAT. 4 by the template 'for every input the law returns true; each argument reads behind the call as it read before'; 0 by the template 'total and deterministic' (their statements: YtdifkecpcnakoabTotals.lean).
  GIVEN WITH THE SEED: the statements are not yours to turn. If you find one false, say at which input.
  Laid BY PROGRAM, IN A SANDBOX (cutbox-rows.mjs): the forced cells as the released guide's own fill.sh prints them over the translation 0749e0edd252456c… (all of the seat's roots in one cut). By AI agents, Wed Nov 11 2026. No macro, syntax, notation, axiom, sorry.
-/
import Derived.Test.YtdifkecpcnakoabChecked
import GoSem.Claim
import GoSem.ClaimJoined
import GoSem.ClaimMapViews
import Derived.JoinedTies
import Derived.KernelRfl
namespace Go.Proofs.Ytdifkecpcnakoab
/- THE CELL 'sum', in the pinned program and in every row, IS THE sha256 OF THE DUMP (.gsa) THAT YtdifkecpcnakoabProg.lean LOADS. Nothing in Lean hashes anything: it is a label: what it is worth is what the hold of that sum in a sandbox is worth. -/
noncomputable def Try.pinned : Pinned := { name := "ytdifkecpcnakoab", sum := "0749e0edd252456ca4b34dcdc53d3993fbde9e25244a846f3519a2f309862153", checked := Try.checked }
namespace Rows
def none {H : Type} : Left H := { results := [], args := [] }

/-- 'federationlaw1.ValDecs': WHATEVER THE INPUT: true; the input reads as it did. -/
def valDecsSpec : ChangeSpec := { name := "valDecs", fn := fun _ => fun
  | [d1, d2, d3, d4] => { results := [.lit (.bool true)], args := [d1, d2, d3, d4] }
  | _ => none }
def valDecsRow : OpenClaim := { program := "ytdifkecpcnakoab", sum := "0749e0edd252456ca4b34dcdc53d3993fbde9e25244a846f3519a2f309862153", func := "federation/federationlaw1.ValDecs", spec := "valDecs", unfollowed := true, recurses := true, apart := false }
def ValDecsSaid : Prop := valDecsRow.holds Try.pinned (OpenSpec.ofChange valDecsSpec)

/-- ITS FALSE NEIGHBOUR: 'it returns false'. Refute it at one input. -/
def valDecsWrong : ChangeSpec := { name := "valDecs", fn := fun _ => fun
  | [d1, d2, d3, d4] => { results := [.lit (.bool false)], args := [d1, d2, d3, d4] }
  | _ => none }
def ValDecsWrongFalsely : Prop := valDecsRow.holds Try.pinned (OpenSpec.ofChange valDecsWrong)

/-- 'federationlaw1.ValScales': WHATEVER THE INPUT: true; the input reads as it did. -/
def valScalesSpec : ChangeSpec := { name := "valScales", fn := fun _ => fun
  | [d1, d2, d3] => { results := [.lit (.bool true)], args := [d1, d2, d3] }
  | _ => none }
def valScalesRow : OpenClaim := { program := "ytdifkecpcnakoab", sum := "0749e0edd252456ca4b34dcdc53d3993fbde9e25244a846f3519a2f309862153", func := "federation/federationlaw1.ValScales", spec := "valScales", unfollowed := true, recurses := true, apart := false }
def ValScalesSaid : Prop := valScalesRow.holds Try.pinned (OpenSpec.ofChange valScalesSpec)

/-- ITS FALSE NEIGHBOUR: 'it returns false'. Refute it at one input. -/
def valScalesWrong : ChangeSpec := { name := "valScales", fn := fun _ => fun
  | [d1, d2, d3] => { results := [.lit (.bool false)], args := [d1, d2, d3] }
  | _ => none }
def ValScalesWrongFalsely : Prop := valScalesRow.holds Try.pinned (OpenSpec.ofChange valScalesWrong)

/-- 'federationlaw1.ValInts': WHATEVER THE INPUT: true; the input reads as it did. -/
def valIntsSpec : ChangeSpec := { name := "valInts", fn := fun _ => fun
  | [d1, d2, d3] => { results := [.lit (.bool true)], args := [d1, d2, d3] }
  | _ => none }
def valIntsRow : OpenClaim := { program := "ytdifkecpcnakoab", sum := "0749e0edd252456ca4b34dcdc53d3993fbde9e25244a846f3519a2f309862153", func := "federation/federationlaw1.ValInts", spec := "valInts", unfollowed := true, recurses := true, apart := false }
def ValIntsSaid : Prop := valIntsRow.holds Try.pinned (OpenSpec.ofChange valIntsSpec)

/-- ITS FALSE NEIGHBOUR: 'it returns false'. Refute it at one input. -/
def valIntsWrong : ChangeSpec := { name := "valInts", fn := fun _ => fun
  | [d1, d2, d3] => { results := [.lit (.bool false)], args := [d1, d2, d3] }
  | _ => none }
def ValIntsWrongFalsely : Prop := valIntsRow.holds Try.pinned (OpenSpec.ofChange valIntsWrong)

/-- 'federationlaw1.ValKinds': WHATEVER THE INPUT: true; the input reads as it did. -/
def valKindsSpec : ChangeSpec := { name := "valKinds", fn := fun _ => fun
  | [d1, d2, d3, d4, d5, d6] => { results := [.lit (.bool true)], args := [d1, d2, d3, d4, d5, d6] }
  | _ => none }
def valKindsRow : OpenClaim := { program := "ytdifkecpcnakoab", sum := "0749e0edd252456ca4b34dcdc53d3993fbde9e25244a846f3519a2f309862153", func := "federation/federationlaw1.ValKinds", spec := "valKinds", unfollowed := true, recurses := true, apart := false }
def ValKindsSaid : Prop := valKindsRow.holds Try.pinned (OpenSpec.ofChange valKindsSpec)

/-- ITS FALSE NEIGHBOUR: 'it returns false'. Refute it at one input. -/
def valKindsWrong : ChangeSpec := { name := "valKinds", fn := fun _ => fun
  | [d1, d2, d3, d4, d5, d6] => { results := [.lit (.bool false)], args := [d1, d2, d3, d4, d5, d6] }
  | _ => none }
def ValKindsWrongFalsely : Prop := valKindsRow.holds Try.pinned (OpenSpec.ofChange valKindsWrong)

/- THE SECOND FORM. 'bulk': how many values and letters a reading holds, each counted each time it is reached (what is shared counts as often as it is met; a slice's spare places count too). A statement '..UptoSaid' is the law's where the arguments, and the package variables that the reading takes, are together of bulk at most 1048576: NARROWER than '..Said'. Prove '..Said' where nothing that the law and all that it calls make is longer than what came in: it says more and counts as full. Else prove '..UptoSaid'. A law counts once. -/
mutual
def uptoBulk {H : Type} : DataW H → Nat
  | .lit (.string bytes) => bytes.length + 1
  | .lit _ => 1
  | .nil => 1
  | .ptr d => uptoBulk d + 1
  | .slice elems spare => uptoBulkAll elems + uptoBulkAll spare + 1
  | .agg parts => uptoBulkAll parts + 1
  | .iface _ d => uptoBulk d + 1
  | .map entries => uptoBulkEntries entries + 1
  | .held _ => 1
def uptoBulkAll {H : Type} : List (DataW H) → Nat
  | [] => 0
  | d :: r => uptoBulk d + uptoBulkAll r
def uptoBulkEntries {H : Type} : List (Lit × DataW H) → Nat
  | [] => 0
  | x :: r => uptoBulkEntry x + uptoBulkEntries r
def uptoBulkEntry {H : Type} : Lit × DataW H → Nat
  | (.string bytes, d) => bytes.length + uptoBulk d + 1
  | (_, d) => uptoBulk d + 1
 end
def uptoSmall : (H : Type) → List (DataW H) → Bool := fun _ ds => decide (uptoBulkAll ds ≤ 1048576)
def OpenSpec.upto (s : _root_.Go.ChangeSpec) : _root_.Go.OpenSpec := { _root_.Go.OpenSpec.ofChange s with cond := some uptoSmall }

/-- 'federationlaw1.ValDecs', WHERE WHAT IT READS IS OF BULK AT MOST 1048576: true; the input reads as it did. -/
def valDecsUptoRow : OpenClaim := { program := "ytdifkecpcnakoab", sum := "0749e0edd252456ca4b34dcdc53d3993fbde9e25244a846f3519a2f309862153", func := "federation/federationlaw1.ValDecs", spec := "valDecs", unfollowed := true, recurses := true, apart := false, narrowed := true }
def ValDecsUptoSaid : Prop := valDecsUptoRow.holds Try.pinned (OpenSpec.upto valDecsSpec)

/-- 'federationlaw1.ValScales', WHERE WHAT IT READS IS OF BULK AT MOST 1048576: true; the input reads as it did. -/
def valScalesUptoRow : OpenClaim := { program := "ytdifkecpcnakoab", sum := "0749e0edd252456ca4b34dcdc53d3993fbde9e25244a846f3519a2f309862153", func := "federation/federationlaw1.ValScales", spec := "valScales", unfollowed := true, recurses := true, apart := false, narrowed := true }
def ValScalesUptoSaid : Prop := valScalesUptoRow.holds Try.pinned (OpenSpec.upto valScalesSpec)

/-- 'federationlaw1.ValInts', WHERE WHAT IT READS IS OF BULK AT MOST 1048576: true; the input reads as it did. -/
def valIntsUptoRow : OpenClaim := { program := "ytdifkecpcnakoab", sum := "0749e0edd252456ca4b34dcdc53d3993fbde9e25244a846f3519a2f309862153", func := "federation/federationlaw1.ValInts", spec := "valInts", unfollowed := true, recurses := true, apart := false, narrowed := true }
def ValIntsUptoSaid : Prop := valIntsUptoRow.holds Try.pinned (OpenSpec.upto valIntsSpec)

/-- 'federationlaw1.ValKinds', WHERE WHAT IT READS IS OF BULK AT MOST 1048576: true; the input reads as it did. -/
def valKindsUptoRow : OpenClaim := { program := "ytdifkecpcnakoab", sum := "0749e0edd252456ca4b34dcdc53d3993fbde9e25244a846f3519a2f309862153", func := "federation/federationlaw1.ValKinds", spec := "valKinds", unfollowed := true, recurses := true, apart := false, narrowed := true }
def ValKindsUptoSaid : Prop := valKindsUptoRow.holds Try.pinned (OpenSpec.upto valKindsSpec)

end Rows
end Go.Proofs.Ytdifkecpcnakoab
