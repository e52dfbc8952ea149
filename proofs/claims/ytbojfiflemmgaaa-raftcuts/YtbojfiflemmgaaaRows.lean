/-
  No cell of these rows narrows 'for every input' (looked for: loops, veiled, ifaces, maps, wideKeys, modest, calm, conditions, laid).
  DERIVED. THE GIVEN ROWS OF THIS SEAT. 9 by the template 'for every input the law returns true; each argument reads behind the call as it read before'; 0 by the template 'total and deterministic' (their statements: YtbojfiflemmgaaaTotals.lean).
  GIVEN WITH THE SEED: the statements are not yours to turn. If you find one false, say at which input.
  Laid BY PROGRAM, IN A SANDBOX (cutbox-rows.mjs): the forced cells as the released guide's own fill.sh prints them over the translation a9e07e1aa33d69a2… (all of the seat's roots in one cut). By AI agents, Wed Nov 11 2026. No macro, syntax, notation, axiom, sorry.
-/
import Derived.Test.YtbojfiflemmgaaaChecked
import GoSem.Claim
import GoSem.ClaimJoined
import GoSem.ClaimMapViews
import Derived.JoinedTies
import Derived.KernelRfl
namespace Go.Proofs.Ytbojfiflemmgaaa
/- THE CELL 'sum', in the pinned program and in every row, IS THE sha256 OF THE DUMP (.gsa) THAT YtbojfiflemmgaaaProg.lean LOADS. Nothing in Lean hashes anything: it is a label: what it is worth is what the hold of that sum in a sandbox is worth. -/
noncomputable def Try.pinned : Pinned := { name := "ytbojfiflemmgaaa", sum := "a9e07e1aa33d69a2ee457e586166a1ba3ac08966214ddda8fc012d196488685c", checked := Try.checked }
namespace Rows
def none {H : Type} : Left H := { results := [], args := [] }

/-- 'federationlaw8.RaftPlays': WHATEVER THE INPUT: true; the input reads as it did. -/
def raftPlaysSpec : ChangeSpec := { name := "raftPlays", fn := fun _ => fun
  | [d1, d2] => { results := [.lit (.bool true)], args := [d1, d2] }
  | _ => none }
def raftPlaysRow : OpenClaim := { program := "ytbojfiflemmgaaa", sum := "a9e07e1aa33d69a2ee457e586166a1ba3ac08966214ddda8fc012d196488685c", func := "federation/federationlaw8.RaftPlays", spec := "raftPlays", inPlace := ["internal/abi.NoEscape", "internal/bytealg.MakeNoZero"], unfollowed := true, recurses := true, apart := false }
def RaftPlaysSaid : Prop := raftPlaysRow.holds Try.pinned (OpenSpec.ofChange raftPlaysSpec)

/-- ITS FALSE NEIGHBOUR: 'it returns false'. Refute it at one input. -/
def raftPlaysWrong : ChangeSpec := { name := "raftPlays", fn := fun _ => fun
  | [d1, d2] => { results := [.lit (.bool false)], args := [d1, d2] }
  | _ => none }
def RaftPlaysWrongFalsely : Prop := raftPlaysRow.holds Try.pinned (OpenSpec.ofChange raftPlaysWrong)

/-- 'federationlaw8.RaftLogs': WHATEVER THE INPUT: true; the input reads as it did. -/
def raftLogsSpec : ChangeSpec := { name := "raftLogs", fn := fun _ => fun
  | [d1, d2] => { results := [.lit (.bool true)], args := [d1, d2] }
  | _ => none }
def raftLogsRow : OpenClaim := { program := "ytbojfiflemmgaaa", sum := "a9e07e1aa33d69a2ee457e586166a1ba3ac08966214ddda8fc012d196488685c", func := "federation/federationlaw8.RaftLogs", spec := "raftLogs", inPlace := ["internal/abi.NoEscape", "internal/bytealg.MakeNoZero"], unfollowed := true, recurses := true, apart := false }
def RaftLogsSaid : Prop := raftLogsRow.holds Try.pinned (OpenSpec.ofChange raftLogsSpec)

/-- ITS FALSE NEIGHBOUR: 'it returns false'. Refute it at one input. -/
def raftLogsWrong : ChangeSpec := { name := "raftLogs", fn := fun _ => fun
  | [d1, d2] => { results := [.lit (.bool false)], args := [d1, d2] }
  | _ => none }
def RaftLogsWrongFalsely : Prop := raftLogsRow.holds Try.pinned (OpenSpec.ofChange raftLogsWrong)

/-- 'federationlaw8.RaftVotes': WHATEVER THE INPUT: true; the input reads as it did. -/
def raftVotesSpec : ChangeSpec := { name := "raftVotes", fn := fun _ => fun
  | [d1, d2, d3] => { results := [.lit (.bool true)], args := [d1, d2, d3] }
  | _ => none }
def raftVotesRow : OpenClaim := { program := "ytbojfiflemmgaaa", sum := "a9e07e1aa33d69a2ee457e586166a1ba3ac08966214ddda8fc012d196488685c", func := "federation/federationlaw8.RaftVotes", spec := "raftVotes", inPlace := ["internal/abi.NoEscape", "internal/bytealg.MakeNoZero"], unfollowed := true, recurses := true, apart := false }
def RaftVotesSaid : Prop := raftVotesRow.holds Try.pinned (OpenSpec.ofChange raftVotesSpec)

/-- ITS FALSE NEIGHBOUR: 'it returns false'. Refute it at one input. -/
def raftVotesWrong : ChangeSpec := { name := "raftVotes", fn := fun _ => fun
  | [d1, d2, d3] => { results := [.lit (.bool false)], args := [d1, d2, d3] }
  | _ => none }
def RaftVotesWrongFalsely : Prop := raftVotesRow.holds Try.pinned (OpenSpec.ofChange raftVotesWrong)

/-- 'federationlaw8.RaftOwn': WHATEVER THE INPUT: true; the input reads as it did. -/
def raftOwnSpec : ChangeSpec := { name := "raftOwn", fn := fun _ => fun
  | [d1, d2, d3] => { results := [.lit (.bool true)], args := [d1, d2, d3] }
  | _ => none }
def raftOwnRow : OpenClaim := { program := "ytbojfiflemmgaaa", sum := "a9e07e1aa33d69a2ee457e586166a1ba3ac08966214ddda8fc012d196488685c", func := "federation/federationlaw8.RaftOwn", spec := "raftOwn", inPlace := ["internal/abi.NoEscape", "internal/bytealg.MakeNoZero"], unfollowed := true, recurses := true, apart := false }
def RaftOwnSaid : Prop := raftOwnRow.holds Try.pinned (OpenSpec.ofChange raftOwnSpec)

/-- ITS FALSE NEIGHBOUR: 'it returns false'. Refute it at one input. -/
def raftOwnWrong : ChangeSpec := { name := "raftOwn", fn := fun _ => fun
  | [d1, d2, d3] => { results := [.lit (.bool false)], args := [d1, d2, d3] }
  | _ => none }
def RaftOwnWrongFalsely : Prop := raftOwnRow.holds Try.pinned (OpenSpec.ofChange raftOwnWrong)

/-- 'federationlaw8.RaftTicks': WHATEVER THE INPUT: true; the input reads as it did. -/
def raftTicksSpec : ChangeSpec := { name := "raftTicks", fn := fun _ => fun
  | [d1, d2, d3] => { results := [.lit (.bool true)], args := [d1, d2, d3] }
  | _ => none }
def raftTicksRow : OpenClaim := { program := "ytbojfiflemmgaaa", sum := "a9e07e1aa33d69a2ee457e586166a1ba3ac08966214ddda8fc012d196488685c", func := "federation/federationlaw8.RaftTicks", spec := "raftTicks", inPlace := ["internal/abi.NoEscape", "internal/bytealg.MakeNoZero"], unfollowed := true, recurses := true, apart := false }
def RaftTicksSaid : Prop := raftTicksRow.holds Try.pinned (OpenSpec.ofChange raftTicksSpec)

/-- ITS FALSE NEIGHBOUR: 'it returns false'. Refute it at one input. -/
def raftTicksWrong : ChangeSpec := { name := "raftTicks", fn := fun _ => fun
  | [d1, d2, d3] => { results := [.lit (.bool false)], args := [d1, d2, d3] }
  | _ => none }
def RaftTicksWrongFalsely : Prop := raftTicksRow.holds Try.pinned (OpenSpec.ofChange raftTicksWrong)

/-- 'federationlaw8.RaftLeads': WHATEVER THE INPUT: true; the input reads as it did. -/
def raftLeadsSpec : ChangeSpec := { name := "raftLeads", fn := fun _ => fun
  | [d1, d2] => { results := [.lit (.bool true)], args := [d1, d2] }
  | _ => none }
def raftLeadsRow : OpenClaim := { program := "ytbojfiflemmgaaa", sum := "a9e07e1aa33d69a2ee457e586166a1ba3ac08966214ddda8fc012d196488685c", func := "federation/federationlaw8.RaftLeads", spec := "raftLeads", inPlace := ["internal/abi.NoEscape", "internal/bytealg.MakeNoZero"], unfollowed := true, recurses := true, apart := false }
def RaftLeadsSaid : Prop := raftLeadsRow.holds Try.pinned (OpenSpec.ofChange raftLeadsSpec)

/-- ITS FALSE NEIGHBOUR: 'it returns false'. Refute it at one input. -/
def raftLeadsWrong : ChangeSpec := { name := "raftLeads", fn := fun _ => fun
  | [d1, d2] => { results := [.lit (.bool false)], args := [d1, d2] }
  | _ => none }
def RaftLeadsWrongFalsely : Prop := raftLeadsRow.holds Try.pinned (OpenSpec.ofChange raftLeadsWrong)

/-- 'federationlaw8.RaftCommits': WHATEVER THE INPUT: true; the input reads as it did. -/
def raftCommitsSpec : ChangeSpec := { name := "raftCommits", fn := fun _ => fun
  | [d1, d2, d3] => { results := [.lit (.bool true)], args := [d1, d2, d3] }
  | _ => none }
def raftCommitsRow : OpenClaim := { program := "ytbojfiflemmgaaa", sum := "a9e07e1aa33d69a2ee457e586166a1ba3ac08966214ddda8fc012d196488685c", func := "federation/federationlaw8.RaftCommits", spec := "raftCommits", inPlace := ["internal/abi.NoEscape", "internal/bytealg.MakeNoZero"], unfollowed := true, recurses := true, apart := false }
def RaftCommitsSaid : Prop := raftCommitsRow.holds Try.pinned (OpenSpec.ofChange raftCommitsSpec)

/-- ITS FALSE NEIGHBOUR: 'it returns false'. Refute it at one input. -/
def raftCommitsWrong : ChangeSpec := { name := "raftCommits", fn := fun _ => fun
  | [d1, d2, d3] => { results := [.lit (.bool false)], args := [d1, d2, d3] }
  | _ => none }
def RaftCommitsWrongFalsely : Prop := raftCommitsRow.holds Try.pinned (OpenSpec.ofChange raftCommitsWrong)

/-- 'federationlaw8.RaftOlder': WHATEVER THE INPUT: true; the input reads as it did. -/
def raftOlderSpec : ChangeSpec := { name := "raftOlder", fn := fun _ => fun
  | [d1, d2, d3, d4] => { results := [.lit (.bool true)], args := [d1, d2, d3, d4] }
  | _ => none }
def raftOlderRow : OpenClaim := { program := "ytbojfiflemmgaaa", sum := "a9e07e1aa33d69a2ee457e586166a1ba3ac08966214ddda8fc012d196488685c", func := "federation/federationlaw8.RaftOlder", spec := "raftOlder", inPlace := ["internal/abi.NoEscape", "internal/bytealg.MakeNoZero"], unfollowed := true, recurses := true, apart := false }
def RaftOlderSaid : Prop := raftOlderRow.holds Try.pinned (OpenSpec.ofChange raftOlderSpec)

/-- ITS FALSE NEIGHBOUR: 'it returns false'. Refute it at one input. -/
def raftOlderWrong : ChangeSpec := { name := "raftOlder", fn := fun _ => fun
  | [d1, d2, d3, d4] => { results := [.lit (.bool false)], args := [d1, d2, d3, d4] }
  | _ => none }
def RaftOlderWrongFalsely : Prop := raftOlderRow.holds Try.pinned (OpenSpec.ofChange raftOlderWrong)

/-- 'federationlaw8.RaftCuts': WHATEVER THE INPUT: true; the input reads as it did. -/
def raftCutsSpec : ChangeSpec := { name := "raftCuts", fn := fun _ => fun
  | [d1, d2, d3, d4] => { results := [.lit (.bool true)], args := [d1, d2, d3, d4] }
  | _ => none }
def raftCutsRow : OpenClaim := { program := "ytbojfiflemmgaaa", sum := "a9e07e1aa33d69a2ee457e586166a1ba3ac08966214ddda8fc012d196488685c", func := "federation/federationlaw8.RaftCuts", spec := "raftCuts", inPlace := ["internal/abi.NoEscape", "internal/bytealg.MakeNoZero"], unfollowed := true, recurses := true, apart := false }
def RaftCutsSaid : Prop := raftCutsRow.holds Try.pinned (OpenSpec.ofChange raftCutsSpec)

/-- ITS FALSE NEIGHBOUR: 'it returns false'. Refute it at one input. -/
def raftCutsWrong : ChangeSpec := { name := "raftCuts", fn := fun _ => fun
  | [d1, d2, d3, d4] => { results := [.lit (.bool false)], args := [d1, d2, d3, d4] }
  | _ => none }
def RaftCutsWrongFalsely : Prop := raftCutsRow.holds Try.pinned (OpenSpec.ofChange raftCutsWrong)

/- THE SECOND FORM. 'bulk': how many values and letters a reading holds, each counted each time it is reached (what is shared counts as often as it is met; a slice's spare places count too). A statement '..UptoSaid' is the law's where the arguments, and the package variables that the reading takes, are together of bulk at most 1048576: NARROWER than '..Said'. Prove '..Said' where nothing that the law and all that it calls make is longer than what came in: it says more and counts as full. Else prove '..UptoSaid'. A law counts once. -/
mutual
def uptoBulk {H : Type} : DataW H → Nat
  | .lit (.string bytes) => bytes.length + 1
  | .lit _ => 1
  | .nil => 1
  | .ptr d => uptoBulk d + 1
  | .slice elems spare => uptoBulkAll elems + uptoBulkAll spare + 1
  | .agg parts => uptoBulkAll parts + 1
  | .iface _ d => uptoBulk d + 1
  | .map entries => uptoBulkEntries entries + 1
  | .held _ => 1
def uptoBulkAll {H : Type} : List (DataW H) → Nat
  | [] => 0
  | d :: r => uptoBulk d + uptoBulkAll r
def uptoBulkEntries {H : Type} : List (Lit × DataW H) → Nat
  | [] => 0
  | x :: r => uptoBulkEntry x + uptoBulkEntries r
def uptoBulkEntry {H : Type} : Lit × DataW H → Nat
  | (.string bytes, d) => bytes.length + uptoBulk d + 1
  | (_, d) => uptoBulk d + 1
 end
def uptoSmall : (H : Type) → List (DataW H) → Bool := fun _ ds => decide (uptoBulkAll ds ≤ 1048576)
def OpenSpec.upto (s : _root_.Go.ChangeSpec) : _root_.Go.OpenSpec := { _root_.Go.OpenSpec.ofChange s with cond := some uptoSmall }

/-- 'federationlaw8.RaftPlays', WHERE WHAT IT READS IS OF BULK AT MOST 1048576: true; the input reads as it did. -/
def raftPlaysUptoRow : OpenClaim := { program := "ytbojfiflemmgaaa", sum := "a9e07e1aa33d69a2ee457e586166a1ba3ac08966214ddda8fc012d196488685c", func := "federation/federationlaw8.RaftPlays", spec := "raftPlays", inPlace := ["internal/abi.NoEscape", "internal/bytealg.MakeNoZero"], unfollowed := true, recurses := true, apart := false, narrowed := true }
def RaftPlaysUptoSaid : Prop := raftPlaysUptoRow.holds Try.pinned (OpenSpec.upto raftPlaysSpec)

/-- 'federationlaw8.RaftLogs', WHERE WHAT IT READS IS OF BULK AT MOST 1048576: true; the input reads as it did. -/
def raftLogsUptoRow : OpenClaim := { program := "ytbojfiflemmgaaa", sum := "a9e07e1aa33d69a2ee457e586166a1ba3ac08966214ddda8fc012d196488685c", func := "federation/federationlaw8.RaftLogs", spec := "raftLogs", inPlace := ["internal/abi.NoEscape", "internal/bytealg.MakeNoZero"], unfollowed := true, recurses := true, apart := false, narrowed := true }
def RaftLogsUptoSaid : Prop := raftLogsUptoRow.holds Try.pinned (OpenSpec.upto raftLogsSpec)

/-- 'federationlaw8.RaftVotes', WHERE WHAT IT READS IS OF BULK AT MOST 1048576: true; the input reads as it did. -/
def raftVotesUptoRow : OpenClaim := { program := "ytbojfiflemmgaaa", sum := "a9e07e1aa33d69a2ee457e586166a1ba3ac08966214ddda8fc012d196488685c", func := "federation/federationlaw8.RaftVotes", spec := "raftVotes", inPlace := ["internal/abi.NoEscape", "internal/bytealg.MakeNoZero"], unfollowed := true, recurses := true, apart := false, narrowed := true }
def RaftVotesUptoSaid : Prop := raftVotesUptoRow.holds Try.pinned (OpenSpec.upto raftVotesSpec)

/-- 'federationlaw8.RaftOwn', WHERE WHAT IT READS IS OF BULK AT MOST 1048576: true; the input reads as it did. -/
def raftOwnUptoRow : OpenClaim := { program := "ytbojfiflemmgaaa", sum := "a9e07e1aa33d69a2ee457e586166a1ba3ac08966214ddda8fc012d196488685c", func := "federation/federationlaw8.RaftOwn", spec := "raftOwn", inPlace := ["internal/abi.NoEscape", "internal/bytealg.MakeNoZero"], unfollowed := true, recurses := true, apart := false, narrowed := true }
def RaftOwnUptoSaid : Prop := raftOwnUptoRow.holds Try.pinned (OpenSpec.upto raftOwnSpec)

/-- 'federationlaw8.RaftTicks', WHERE WHAT IT READS IS OF BULK AT MOST 1048576: true; the input reads as it did. -/
def raftTicksUptoRow : OpenClaim := { program := "ytbojfiflemmgaaa", sum := "a9e07e1aa33d69a2ee457e586166a1ba3ac08966214ddda8fc012d196488685c", func := "federation/federationlaw8.RaftTicks", spec := "raftTicks", inPlace := ["internal/abi.NoEscape", "internal/bytealg.MakeNoZero"], unfollowed := true, recurses := true, apart := false, narrowed := true }
def RaftTicksUptoSaid : Prop := raftTicksUptoRow.holds Try.pinned (OpenSpec.upto raftTicksSpec)

/-- 'federationlaw8.RaftLeads', WHERE WHAT IT READS IS OF BULK AT MOST 1048576: true; the input reads as it did. -/
def raftLeadsUptoRow : OpenClaim := { program := "ytbojfiflemmgaaa", sum := "a9e07e1aa33d69a2ee457e586166a1ba3ac08966214ddda8fc012d196488685c", func := "federation/federationlaw8.RaftLeads", spec := "raftLeads", inPlace := ["internal/abi.NoEscape", "internal/bytealg.MakeNoZero"], unfollowed := true, recurses := true, apart := false, narrowed := true }
def RaftLeadsUptoSaid : Prop := raftLeadsUptoRow.holds Try.pinned (OpenSpec.upto raftLeadsSpec)

/-- 'federationlaw8.RaftCommits', WHERE WHAT IT READS IS OF BULK AT MOST 1048576: true; the input reads as it did. -/
def raftCommitsUptoRow : OpenClaim := { program := "ytbojfiflemmgaaa", sum := "a9e07e1aa33d69a2ee457e586166a1ba3ac08966214ddda8fc012d196488685c", func := "federation/federationlaw8.RaftCommits", spec := "raftCommits", inPlace := ["internal/abi.NoEscape", "internal/bytealg.MakeNoZero"], unfollowed := true, recurses := true, apart := false, narrowed := true }
def RaftCommitsUptoSaid : Prop := raftCommitsUptoRow.holds Try.pinned (OpenSpec.upto raftCommitsSpec)

/-- 'federationlaw8.RaftOlder', WHERE WHAT IT READS IS OF BULK AT MOST 1048576: true; the input reads as it did. -/
def raftOlderUptoRow : OpenClaim := { program := "ytbojfiflemmgaaa", sum := "a9e07e1aa33d69a2ee457e586166a1ba3ac08966214ddda8fc012d196488685c", func := "federation/federationlaw8.RaftOlder", spec := "raftOlder", inPlace := ["internal/abi.NoEscape", "internal/bytealg.MakeNoZero"], unfollowed := true, recurses := true, apart := false, narrowed := true }
def RaftOlderUptoSaid : Prop := raftOlderUptoRow.holds Try.pinned (OpenSpec.upto raftOlderSpec)

/-- 'federationlaw8.RaftCuts', WHERE WHAT IT READS IS OF BULK AT MOST 1048576: true; the input reads as it did. -/
def raftCutsUptoRow : OpenClaim := { program := "ytbojfiflemmgaaa", sum := "a9e07e1aa33d69a2ee457e586166a1ba3ac08966214ddda8fc012d196488685c", func := "federation/federationlaw8.RaftCuts", spec := "raftCuts", inPlace := ["internal/abi.NoEscape", "internal/bytealg.MakeNoZero"], unfollowed := true, recurses := true, apart := false, narrowed := true }
def RaftCutsUptoSaid : Prop := raftCutsUptoRow.holds Try.pinned (OpenSpec.upto raftCutsSpec)

end Rows
end Go.Proofs.Ytbojfiflemmgaaa
