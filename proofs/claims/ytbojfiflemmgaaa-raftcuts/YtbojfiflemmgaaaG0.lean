/-
  Plain mathematics of chapter 8: a node, its messages, what each call makes of them. No program is named here.
-/
import Derived.WalkKit
namespace Go.Proofs.Ytbojfiflemmgaaa
open Go.RowKit
set_option linter.unusedSimpArgs false
set_option linter.unusedVariables false

/-- an entry of a log -/
structure En where
  term : Nat
  data : ByteArray
/-- a node -/
structure Nd where
  id : Nat
  term : Nat
  vote : Int
  log : List En
  form : Nat
  role : Nat
  commit : Nat
  votes : List Bool
  next : List Nat
  mat : List Nat
  forms : List Nat
  clock : Nat
  due : Nat
/-- a message -/
structure Ms where
  kind : Nat
  frm : Nat
  to : Nat
  term : Nat
  index : Nat
  lterm : Nat
  ok : Bool
  ents : List En
  commit : Nat
  form : Nat

def noBytes : ByteArray := ⟨#[]⟩
def termAt (l : List En) (i : Nat) : Nat := if i = 0 then 0 else ((l[i - 1]?).map En.term).getD 0
abbrev Nd.last (n : Nd) : Nat := n.log.length
abbrev Nd.size (n : Nd) : Nat := n.votes.length
def newM (id size form : Nat) : Nd := ⟨id, 0, -1, [], form, 0, 0, List.replicate size false, List.replicate size 1, List.replicate size 0, List.replicate size 1, 0, 5 + 2 * id⟩
def restartM (n : Nd) (form : Nat) : Nd := { newM n.id n.size (max n.form form) with term := n.term, vote := n.vote, log := n.log }
def anewM (n : Nd) : Nd := { n with due := n.clock + 5 + 2 * n.id }
/-- entries from one on, to one -/
def sendM (n : Nd) (to : Nat) : Ms :=
  let at' := n.next.getD to 0 - 1
  ⟨3, n.id, to, n.term, at', termAt n.log at', false, (n.log.drop at').take 5, n.commit, 0⟩
def othersM (n : Nd) : List Nat := (List.range n.size).filter fun i => i != n.id
def spreadM (n : Nd) : List Ms := (othersM n).map (sendM n)
def addN (n : Nd) (data : ByteArray) : Nd :=
  { n with log := n.log ++ [⟨n.term, data⟩], mat := n.mat.set n.id (n.last + 1), commit := if n.size = 1 then n.last + 1 else n.commit }
def addM (n : Nd) (data : ByteArray) : Nd × List Ms := (addN n data, spreadM (addN n data))
def leadN (n : Nd) : Nd := { n with role := 2, next := List.replicate n.size (n.last + 1), mat := List.replicate n.size 0 }
def leadM (n : Nd) : Nd × List Ms := addM (leadN n) noBytes
def votesOf (l : List Bool) : Nat := (l.filter id).length
def countN (n : Nd) (k : Nat) : Nd := { n with votes := n.votes.set k true }
def countM (n : Nd) (k : Nat) : Nd × List Ms := if n.size < 2 * votesOf (countN n k).votes then leadM (countN n k) else (countN n k, [])
def standN (n : Nd) : Nd := { n with term := n.term + 1, role := 1, vote := n.id, votes := List.replicate n.size false, due := n.clock + 5 + 2 * n.id }
def askM (n : Nd) (to : Nat) : Ms := ⟨1, n.id, to, n.term, n.last, termAt n.log n.last, false, [], 0, 0⟩
def standM (n : Nd) : Nd × List Ms :=
  let r := countM (standN n) n.id
  (r.1, (othersM n).map (askM (standN n)) ++ r.2)
def tickN (n : Nd) : Nd := { n with clock := n.clock + 1 }
def tickM (n : Nd) : Nd × List Ms :=
  let n := tickN n
  if n.role = 2 then (n, if n.clock % 2 = 0 then spreadM n else [])
  else if n.clock < n.due then (n, []) else standM n
def proposeM (n : Nd) (data : ByteArray) : Nd × List Ms := if n.role = 2 then addM n data else (n, [])
def heardM (n : Nd) (m : Ms) : Nd := if n.term < m.term then { n with term := m.term, vote := -1, role := 0 } else n
def grants (n : Nd) (m : Ms) : Bool :=
  decide (m.term = n.term ∧ (n.vote = -1 ∨ n.vote = (m.frm : Int)) ∧ (termAt n.log n.last < m.lterm ∨ m.lterm = termAt n.log n.last ∧ n.last ≤ m.index))
def backM (n : Nd) (m : Ms) (kind index : Nat) (ok : Bool) (form : Nat) : Ms := ⟨kind, n.id, m.frm, n.term, index, 0, ok, [], 0, form⟩
def voteN (n : Nd) (m : Ms) : Nd := if grants n m then anewM { n with vote := m.frm } else n
def voteM (n : Nd) (m : Ms) : Nd × List Ms := (voteN n m, [backM n m 2 0 (grants n m) 0])
def votedM (n : Nd) (m : Ms) : Nd × List Ms := if n.role = 1 ∧ m.term = n.term ∧ m.ok = true then countM n m.frm else (n, [])
/-- entries put behind the first so many ones -/
def putM (log : List En) : Nat → List En → List En
  | _, [] => log
  | i, e :: es => if i < log.length ∧ termAt log (i + 1) = e.term then putM log (i + 1) es else log.take i ++ (e :: es)
def followN (n : Nd) : Nd := anewM { n with role := 0 }
def fits (n : Nd) (m : Ms) : Bool := decide (m.index ≤ n.last ∧ (m.index = 0 ∨ termAt n.log m.index = m.lterm))
def tookN (n : Nd) (m : Ms) : Nd :=
  { followN n with log := putM n.log m.index m.ents, commit := max n.commit (min m.commit (m.index + m.ents.length)) }
def followM (n : Nd) (m : Ms) : Nd × List Ms :=
  if m.term < n.term then (n, [backM n m 4 n.last false n.form])
  else if fits n m then (tookN n m, [backM n m 4 (m.index + m.ents.length) true n.form])
  else (followN n, [backM n m 4 (min n.last (m.index - 1)) false n.form])
def reach (l : List Nat) (k : Nat) : Nat := (l.filter fun x => decide (k ≤ x)).length
/-- the greatest number, above c, at most k, of an entry of this term that a majority has; c: there is none -/
def commitAt (n : Nd) : Nat → Nat
  | 0 => n.commit
  | k + 1 => if k + 1 ≤ n.commit then n.commit else if termAt n.log (k + 1) = n.term ∧ n.mat.length < 2 * reach n.mat (k + 1) then k + 1 else commitAt n k
def matchN (n : Nd) (m : Ms) : Nd := { n with forms := n.forms.set m.frm m.form }
def noN (n : Nd) (m : Ms) : Nd := { matchN n m with next := n.next.set m.frm (max 1 (min (n.next.getD m.frm 0 - 1) (m.index + 1))) }
def yesN (n : Nd) (m : Ms) : Nd :=
  { matchN n m with mat := n.mat.set m.frm (max (n.mat.getD m.frm 0) m.index), next := n.next.set m.frm (max (n.mat.getD m.frm 0) m.index + 1) }
def yesC (n : Nd) (m : Ms) : Nd := { yesN n m with commit := commitAt (yesN n m) n.last }
def matchM (n : Nd) (m : Ms) : Nd × List Ms :=
  if n.role = 2 ∧ m.term = n.term then if m.ok then (yesC n m, []) else (noN n m, [sendM (noN n m) m.frm]) else (n, [])
def handleM (n : Nd) (m : Ms) : Nd × List Ms :=
  let n := heardM n m
  if m.kind = 1 then voteM n m else if m.kind = 2 then votedM n m else if m.kind = 3 then followM n m else matchM n m
end Go.Proofs.Ytbojfiflemmgaaa
