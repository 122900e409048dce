/-
  No cell of these rows narrows 'for every input' (looked for: loops, veiled, ifaces, maps, wideKeys, modest, calm, conditions, laid).
  DERIVED. THE GIVEN ROWS OF THIS SEAT. 6 by the template 'for every input the law returns true; each argument reads behind the call as it read before'; 0 by the template 'total and deterministic' (their statements: YtagkbbcpbebapaaTotals.lean).
  GIVEN WITH THE SEED: the statements are not yours to turn. If you find one false, say at which input.
  Laid BY PROGRAM, IN A SANDBOX (cutbox-rows.mjs): the forced cells as the released guide's own fill.sh prints them over the translation 05d6e4cffbe06316… (all of the seat's roots in one cut). By AI agents, Wed Nov 11 2026. No macro, syntax, notation, axiom, sorry.
-/
import Derived.Test.YtagkbbcpbebapaaChecked
import GoSem.Claim
import GoSem.ClaimJoined
import GoSem.ClaimMapViews
import Derived.JoinedTies
import Derived.KernelRfl
namespace Go.Proofs.Ytagkbbcpbebapaa
/- THE CELL 'sum', in the pinned program and in every row, IS THE sha256 OF THE DUMP (.gsa) THAT YtagkbbcpbebapaaProg.lean LOADS. Nothing in Lean hashes anything: it is a label: what it is worth is what the hold of that sum in a sandbox is worth. -/
noncomputable def Try.pinned : Pinned := { name := "ytagkbbcpbebapaa", sum := "05d6e4cffbe063163975a5443fb2e345d55bd174bf3ade7ec83341a75cd4861f", checked := Try.checked }
namespace Rows
def none {H : Type} : Left H := { results := [], args := [] }

/-- 'palimpsestlaw10.InvertTurns': WHATEVER THE INPUT: true; the input reads as it did. -/
def invertTurnsSpec : ChangeSpec := { name := "invertTurns", fn := fun _ => fun
  | [d] => { results := [.lit (.bool true)], args := [d] }
  | _ => none }
def invertTurnsRow : OpenClaim := { program := "ytagkbbcpbebapaa", sum := "05d6e4cffbe063163975a5443fb2e345d55bd174bf3ade7ec83341a75cd4861f", func := "palimpsest/palimpsestlaw10.InvertTurns", spec := "invertTurns", recurses := true, apart := false }
def InvertTurnsSaid : Prop := invertTurnsRow.holds Try.pinned (OpenSpec.ofChange invertTurnsSpec)

/-- ITS FALSE NEIGHBOUR: 'it returns false'. Refute it at one input. -/
def invertTurnsWrong : ChangeSpec := { name := "invertTurns", fn := fun _ => fun
  | [d] => { results := [.lit (.bool false)], args := [d] }
  | _ => none }
def InvertTurnsWrongFalsely : Prop := invertTurnsRow.holds Try.pinned (OpenSpec.ofChange invertTurnsWrong)

/-- 'palimpsestlaw10.InvertUndoes': WHATEVER THE INPUT: true; the input reads as it did. -/
def invertUndoesSpec : ChangeSpec := { name := "invertUndoes", fn := fun _ => fun
  | [d] => { results := [.lit (.bool true)], args := [d] }
  | _ => none }
def invertUndoesRow : OpenClaim := { program := "ytagkbbcpbebapaa", sum := "05d6e4cffbe063163975a5443fb2e345d55bd174bf3ade7ec83341a75cd4861f", func := "palimpsest/palimpsestlaw10.InvertUndoes", spec := "invertUndoes", recurses := true, apart := false }
def InvertUndoesSaid : Prop := invertUndoesRow.holds Try.pinned (OpenSpec.ofChange invertUndoesSpec)

/-- ITS FALSE NEIGHBOUR: 'it returns false'. Refute it at one input. -/
def invertUndoesWrong : ChangeSpec := { name := "invertUndoes", fn := fun _ => fun
  | [d] => { results := [.lit (.bool false)], args := [d] }
  | _ => none }
def InvertUndoesWrongFalsely : Prop := invertUndoesRow.holds Try.pinned (OpenSpec.ofChange invertUndoesWrong)

/-- 'palimpsestlaw10.InvertAgain': WHATEVER THE INPUT: true; the input reads as it did. -/
def invertAgainSpec : ChangeSpec := { name := "invertAgain", fn := fun _ => fun
  | [d] => { results := [.lit (.bool true)], args := [d] }
  | _ => none }
def invertAgainRow : OpenClaim := { program := "ytagkbbcpbebapaa", sum := "05d6e4cffbe063163975a5443fb2e345d55bd174bf3ade7ec83341a75cd4861f", func := "palimpsest/palimpsestlaw10.InvertAgain", spec := "invertAgain", recurses := true, apart := false }
def InvertAgainSaid : Prop := invertAgainRow.holds Try.pinned (OpenSpec.ofChange invertAgainSpec)

/-- ITS FALSE NEIGHBOUR: 'it returns false'. Refute it at one input. -/
def invertAgainWrong : ChangeSpec := { name := "invertAgain", fn := fun _ => fun
  | [d] => { results := [.lit (.bool false)], args := [d] }
  | _ => none }
def InvertAgainWrongFalsely : Prop := invertAgainRow.holds Try.pinned (OpenSpec.ofChange invertAgainWrong)

/-- 'palimpsestlaw10.InvertOwns': WHATEVER THE INPUT: true; the input reads as it did. -/
def invertOwnsSpec : ChangeSpec := { name := "invertOwns", fn := fun _ => fun
  | [d] => { results := [.lit (.bool true)], args := [d] }
  | _ => none }
def invertOwnsRow : OpenClaim := { program := "ytagkbbcpbebapaa", sum := "05d6e4cffbe063163975a5443fb2e345d55bd174bf3ade7ec83341a75cd4861f", func := "palimpsest/palimpsestlaw10.InvertOwns", spec := "invertOwns", recurses := true, apart := false }
def InvertOwnsSaid : Prop := invertOwnsRow.holds Try.pinned (OpenSpec.ofChange invertOwnsSpec)

/-- ITS FALSE NEIGHBOUR: 'it returns false'. Refute it at one input. -/
def invertOwnsWrong : ChangeSpec := { name := "invertOwns", fn := fun _ => fun
  | [d] => { results := [.lit (.bool false)], args := [d] }
  | _ => none }
def InvertOwnsWrongFalsely : Prop := invertOwnsRow.holds Try.pinned (OpenSpec.ofChange invertOwnsWrong)

/-- 'palimpsestlaw10.InvertKinds': WHATEVER THE INPUT: true; the input reads as it did. -/
def invertKindsSpec : ChangeSpec := { name := "invertKinds", fn := fun _ => fun
  | [d] => { results := [.lit (.bool true)], args := [d] }
  | _ => none }
def invertKindsRow : OpenClaim := { program := "ytagkbbcpbebapaa", sum := "05d6e4cffbe063163975a5443fb2e345d55bd174bf3ade7ec83341a75cd4861f", func := "palimpsest/palimpsestlaw10.InvertKinds", spec := "invertKinds", recurses := true, apart := false }
def InvertKindsSaid : Prop := invertKindsRow.holds Try.pinned (OpenSpec.ofChange invertKindsSpec)

/-- ITS FALSE NEIGHBOUR: 'it returns false'. Refute it at one input. -/
def invertKindsWrong : ChangeSpec := { name := "invertKinds", fn := fun _ => fun
  | [d] => { results := [.lit (.bool false)], args := [d] }
  | _ => none }
def InvertKindsWrongFalsely : Prop := invertKindsRow.holds Try.pinned (OpenSpec.ofChange invertKindsWrong)

/-- 'palimpsestlaw10.InvertChains': WHATEVER THE INPUT: true; the input reads as it did. -/
def invertChainsSpec : ChangeSpec := { name := "invertChains", fn := fun _ => fun
  | [d1, d2] => { results := [.lit (.bool true)], args := [d1, d2] }
  | _ => none }
def invertChainsRow : OpenClaim := { program := "ytagkbbcpbebapaa", sum := "05d6e4cffbe063163975a5443fb2e345d55bd174bf3ade7ec83341a75cd4861f", func := "palimpsest/palimpsestlaw10.InvertChains", spec := "invertChains", recurses := true, apart := false }
def InvertChainsSaid : Prop := invertChainsRow.holds Try.pinned (OpenSpec.ofChange invertChainsSpec)

/-- ITS FALSE NEIGHBOUR: 'it returns false'. Refute it at one input. -/
def invertChainsWrong : ChangeSpec := { name := "invertChains", fn := fun _ => fun
  | [d1, d2] => { results := [.lit (.bool false)], args := [d1, d2] }
  | _ => none }
def InvertChainsWrongFalsely : Prop := invertChainsRow.holds Try.pinned (OpenSpec.ofChange invertChainsWrong)

/- THE SECOND FORM. 'bulk': how many values and letters a reading holds, each counted each time it is reached (what is shared counts as often as it is met; a slice's spare places count too). A statement '..UptoSaid' is the law's where the arguments, and the package variables that the reading takes, are together of bulk at most 1048576: NARROWER than '..Said'. Prove '..Said' where nothing that the law and all that it calls make is longer than what came in: it says more and counts as full. Else prove '..UptoSaid'. A law counts once. -/
mutual
def uptoBulk {H : Type} : DataW H → Nat
  | .lit (.string bytes) => bytes.length + 1
  | .lit _ => 1
  | .nil => 1
  | .ptr d => uptoBulk d + 1
  | .slice elems spare => uptoBulkAll elems + uptoBulkAll spare + 1
  | .agg parts => uptoBulkAll parts + 1
  | .iface _ d => uptoBulk d + 1
  | .map entries => uptoBulkEntries entries + 1
  | .held _ => 1
def uptoBulkAll {H : Type} : List (DataW H) → Nat
  | [] => 0
  | d :: r => uptoBulk d + uptoBulkAll r
def uptoBulkEntries {H : Type} : List (Lit × DataW H) → Nat
  | [] => 0
  | x :: r => uptoBulkEntry x + uptoBulkEntries r
def uptoBulkEntry {H : Type} : Lit × DataW H → Nat
  | (.string bytes, d) => bytes.length + uptoBulk d + 1
  | (_, d) => uptoBulk d + 1
 end
def uptoSmall : (H : Type) → List (DataW H) → Bool := fun _ ds => decide (uptoBulkAll ds ≤ 1048576)
def OpenSpec.upto (s : _root_.Go.ChangeSpec) : _root_.Go.OpenSpec := { _root_.Go.OpenSpec.ofChange s with cond := some uptoSmall }

/-- 'palimpsestlaw10.InvertTurns', WHERE WHAT IT READS IS OF BULK AT MOST 1048576: true; the input reads as it did. -/
def invertTurnsUptoRow : OpenClaim := { program := "ytagkbbcpbebapaa", sum := "05d6e4cffbe063163975a5443fb2e345d55bd174bf3ade7ec83341a75cd4861f", func := "palimpsest/palimpsestlaw10.InvertTurns", spec := "invertTurns", recurses := true, apart := false, narrowed := true }
def InvertTurnsUptoSaid : Prop := invertTurnsUptoRow.holds Try.pinned (OpenSpec.upto invertTurnsSpec)

/-- 'palimpsestlaw10.InvertUndoes', WHERE WHAT IT READS IS OF BULK AT MOST 1048576: true; the input reads as it did. -/
def invertUndoesUptoRow : OpenClaim := { program := "ytagkbbcpbebapaa", sum := "05d6e4cffbe063163975a5443fb2e345d55bd174bf3ade7ec83341a75cd4861f", func := "palimpsest/palimpsestlaw10.InvertUndoes", spec := "invertUndoes", recurses := true, apart := false, narrowed := true }
def InvertUndoesUptoSaid : Prop := invertUndoesUptoRow.holds Try.pinned (OpenSpec.upto invertUndoesSpec)

/-- 'palimpsestlaw10.InvertAgain', WHERE WHAT IT READS IS OF BULK AT MOST 1048576: true; the input reads as it did. -/
def invertAgainUptoRow : OpenClaim := { program := "ytagkbbcpbebapaa", sum := "05d6e4cffbe063163975a5443fb2e345d55bd174bf3ade7ec83341a75cd4861f", func := "palimpsest/palimpsestlaw10.InvertAgain", spec := "invertAgain", recurses := true, apart := false, narrowed := true }
def InvertAgainUptoSaid : Prop := invertAgainUptoRow.holds Try.pinned (OpenSpec.upto invertAgainSpec)

/-- 'palimpsestlaw10.InvertOwns', WHERE WHAT IT READS IS OF BULK AT MOST 1048576: true; the input reads as it did. -/
def invertOwnsUptoRow : OpenClaim := { program := "ytagkbbcpbebapaa", sum := "05d6e4cffbe063163975a5443fb2e345d55bd174bf3ade7ec83341a75cd4861f", func := "palimpsest/palimpsestlaw10.InvertOwns", spec := "invertOwns", recurses := true, apart := false, narrowed := true }
def InvertOwnsUptoSaid : Prop := invertOwnsUptoRow.holds Try.pinned (OpenSpec.upto invertOwnsSpec)

/-- 'palimpsestlaw10.InvertKinds', WHERE WHAT IT READS IS OF BULK AT MOST 1048576: true; the input reads as it did. -/
def invertKindsUptoRow : OpenClaim := { program := "ytagkbbcpbebapaa", sum := "05d6e4cffbe063163975a5443fb2e345d55bd174bf3ade7ec83341a75cd4861f", func := "palimpsest/palimpsestlaw10.InvertKinds", spec := "invertKinds", recurses := true, apart := false, narrowed := true }
def InvertKindsUptoSaid : Prop := invertKindsUptoRow.holds Try.pinned (OpenSpec.upto invertKindsSpec)

/-- 'palimpsestlaw10.InvertChains', WHERE WHAT IT READS IS OF BULK AT MOST 1048576: true; the input reads as it did. -/
def invertChainsUptoRow : OpenClaim := { program := "ytagkbbcpbebapaa", sum := "05d6e4cffbe063163975a5443fb2e345d55bd174bf3ade7ec83341a75cd4861f", func := "palimpsest/palimpsestlaw10.InvertChains", spec := "invertChains", recurses := true, apart := false, narrowed := true }
def InvertChainsUptoSaid : Prop := invertChainsUptoRow.holds Try.pinned (OpenSpec.upto invertChainsSpec)

end Rows
end Go.Proofs.Ytagkbbcpbebapaa
