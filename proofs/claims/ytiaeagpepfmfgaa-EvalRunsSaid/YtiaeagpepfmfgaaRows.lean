/-
  No cell of these rows narrows 'for every input' (looked for: loops, veiled, ifaces, maps, wideKeys, modest, calm, conditions, laid).
  DERIVED. THE GIVEN ROWS OF THIS SEAT. 6 by the template 'for every input the law returns true; each argument reads behind the call as it read before'; 0 by the template 'total and deterministic' (their statements: YtiaeagpepfmfgaaTotals.lean).
  GIVEN WITH THE SEED: the statements are not yours to turn. If you find one false, say at which input.
  Laid BY PROGRAM, IN A SANDBOX (cutbox-rows.mjs): the forced cells as the released guide's own fill.sh prints them over the translation 64f1ea196ea1dde7… (all of the seat's roots in one cut). By AI agents, Wed Nov 11 2026. No macro, syntax, notation, axiom, sorry.
-/
import Derived.Test.YtiaeagpepfmfgaaChecked
import GoSem.Claim
import GoSem.ClaimJoined
import GoSem.ClaimMapViews
import Derived.JoinedTies
import Derived.KernelRfl
namespace Go.Proofs.Ytiaeagpepfmfgaa
/- THE CELL 'sum', in the pinned program and in every row, IS THE sha256 OF THE DUMP (.gsa) THAT YtiaeagpepfmfgaaProg.lean LOADS. Nothing in Lean hashes anything: it is a label: what it is worth is what the hold of that sum in a sandbox is worth. -/
noncomputable def Try.pinned : Pinned := { name := "ytiaeagpepfmfgaa", sum := "64f1ea196ea1dde7597563bfd92b7d63c13bde8523f361fa886eae78fc4811aa", checked := Try.checked }
namespace Rows
def none {H : Type} : Left H := { results := [], args := [] }

/-- 'palimpsestlaw09.EvalRuns': WHATEVER THE INPUT: true; the input reads as it did. -/
def evalRunsSpec : ChangeSpec := { name := "evalRuns", fn := fun _ => fun
  | [d] => { results := [.lit (.bool true)], args := [d] }
  | _ => none }
def evalRunsRow : OpenClaim := { program := "ytiaeagpepfmfgaa", sum := "64f1ea196ea1dde7597563bfd92b7d63c13bde8523f361fa886eae78fc4811aa", func := "palimpsest/palimpsestlaw09.EvalRuns", spec := "evalRuns", recurses := true, apart := false }
def EvalRunsSaid : Prop := evalRunsRow.holds Try.pinned (OpenSpec.ofChange evalRunsSpec)

/-- ITS FALSE NEIGHBOUR: 'it returns false'. Refute it at one input. -/
def evalRunsWrong : ChangeSpec := { name := "evalRuns", fn := fun _ => fun
  | [d] => { results := [.lit (.bool false)], args := [d] }
  | _ => none }
def EvalRunsWrongFalsely : Prop := evalRunsRow.holds Try.pinned (OpenSpec.ofChange evalRunsWrong)

/-- 'palimpsestlaw09.EvalReads': WHATEVER THE INPUT: true; the input reads as it did. -/
def evalReadsSpec : ChangeSpec := { name := "evalReads", fn := fun _ => fun
  | [d] => { results := [.lit (.bool true)], args := [d] }
  | _ => none }
def evalReadsRow : OpenClaim := { program := "ytiaeagpepfmfgaa", sum := "64f1ea196ea1dde7597563bfd92b7d63c13bde8523f361fa886eae78fc4811aa", func := "palimpsest/palimpsestlaw09.EvalReads", spec := "evalReads", recurses := true, apart := false }
def EvalReadsSaid : Prop := evalReadsRow.holds Try.pinned (OpenSpec.ofChange evalReadsSpec)

/-- ITS FALSE NEIGHBOUR: 'it returns false'. Refute it at one input. -/
def evalReadsWrong : ChangeSpec := { name := "evalReads", fn := fun _ => fun
  | [d] => { results := [.lit (.bool false)], args := [d] }
  | _ => none }
def EvalReadsWrongFalsely : Prop := evalReadsRow.holds Try.pinned (OpenSpec.ofChange evalReadsWrong)

/-- 'palimpsestlaw09.EvalAdds': WHATEVER THE INPUT: true; the input reads as it did. -/
def evalAddsSpec : ChangeSpec := { name := "evalAdds", fn := fun _ => fun
  | [d1, d2] => { results := [.lit (.bool true)], args := [d1, d2] }
  | _ => none }
def evalAddsRow : OpenClaim := { program := "ytiaeagpepfmfgaa", sum := "64f1ea196ea1dde7597563bfd92b7d63c13bde8523f361fa886eae78fc4811aa", func := "palimpsest/palimpsestlaw09.EvalAdds", spec := "evalAdds", recurses := true, apart := false }
def EvalAddsSaid : Prop := evalAddsRow.holds Try.pinned (OpenSpec.ofChange evalAddsSpec)

/-- ITS FALSE NEIGHBOUR: 'it returns false'. Refute it at one input. -/
def evalAddsWrong : ChangeSpec := { name := "evalAdds", fn := fun _ => fun
  | [d1, d2] => { results := [.lit (.bool false)], args := [d1, d2] }
  | _ => none }
def EvalAddsWrongFalsely : Prop := evalAddsRow.holds Try.pinned (OpenSpec.ofChange evalAddsWrong)

/-- 'palimpsestlaw09.EvalOperators': WHATEVER THE INPUT: true; the input reads as it did. -/
def evalOperatorsSpec : ChangeSpec := { name := "evalOperators", fn := fun _ => fun
  | [d1, d2] => { results := [.lit (.bool true)], args := [d1, d2] }
  | _ => none }
def evalOperatorsRow : OpenClaim := { program := "ytiaeagpepfmfgaa", sum := "64f1ea196ea1dde7597563bfd92b7d63c13bde8523f361fa886eae78fc4811aa", func := "palimpsest/palimpsestlaw09.EvalOperators", spec := "evalOperators", recurses := true, apart := false }
def EvalOperatorsSaid : Prop := evalOperatorsRow.holds Try.pinned (OpenSpec.ofChange evalOperatorsSpec)

/-- ITS FALSE NEIGHBOUR: 'it returns false'. Refute it at one input. -/
def evalOperatorsWrong : ChangeSpec := { name := "evalOperators", fn := fun _ => fun
  | [d1, d2] => { results := [.lit (.bool false)], args := [d1, d2] }
  | _ => none }
def EvalOperatorsWrongFalsely : Prop := evalOperatorsRow.holds Try.pinned (OpenSpec.ofChange evalOperatorsWrong)

/-- 'palimpsestlaw09.EvalNeeds': WHATEVER THE INPUT: true; the input reads as it did. -/
def evalNeedsSpec : ChangeSpec := { name := "evalNeeds", fn := fun _ => fun
  | [d1, d2, d3] => { results := [.lit (.bool true)], args := [d1, d2, d3] }
  | _ => none }
def evalNeedsRow : OpenClaim := { program := "ytiaeagpepfmfgaa", sum := "64f1ea196ea1dde7597563bfd92b7d63c13bde8523f361fa886eae78fc4811aa", func := "palimpsest/palimpsestlaw09.EvalNeeds", spec := "evalNeeds", recurses := true, apart := false }
def EvalNeedsSaid : Prop := evalNeedsRow.holds Try.pinned (OpenSpec.ofChange evalNeedsSpec)

/-- ITS FALSE NEIGHBOUR: 'it returns false'. Refute it at one input. -/
def evalNeedsWrong : ChangeSpec := { name := "evalNeeds", fn := fun _ => fun
  | [d1, d2, d3] => { results := [.lit (.bool false)], args := [d1, d2, d3] }
  | _ => none }
def EvalNeedsWrongFalsely : Prop := evalNeedsRow.holds Try.pinned (OpenSpec.ofChange evalNeedsWrong)

/-- 'palimpsestlaw09.EvalSwaps': WHATEVER THE INPUT: true; the input reads as it did. -/
def evalSwapsSpec : ChangeSpec := { name := "evalSwaps", fn := fun _ => fun
  | [d1, d2, d3] => { results := [.lit (.bool true)], args := [d1, d2, d3] }
  | _ => none }
def evalSwapsRow : OpenClaim := { program := "ytiaeagpepfmfgaa", sum := "64f1ea196ea1dde7597563bfd92b7d63c13bde8523f361fa886eae78fc4811aa", func := "palimpsest/palimpsestlaw09.EvalSwaps", spec := "evalSwaps", recurses := true, apart := false }
def EvalSwapsSaid : Prop := evalSwapsRow.holds Try.pinned (OpenSpec.ofChange evalSwapsSpec)

/-- ITS FALSE NEIGHBOUR: 'it returns false'. Refute it at one input. -/
def evalSwapsWrong : ChangeSpec := { name := "evalSwaps", fn := fun _ => fun
  | [d1, d2, d3] => { results := [.lit (.bool false)], args := [d1, d2, d3] }
  | _ => none }
def EvalSwapsWrongFalsely : Prop := evalSwapsRow.holds Try.pinned (OpenSpec.ofChange evalSwapsWrong)

/- THE SECOND FORM. 'bulk': how many values and letters a reading holds, each counted each time it is reached (what is shared counts as often as it is met; a slice's spare places count too). A statement '..UptoSaid' is the law's where the arguments, and the package variables that the reading takes, are together of bulk at most 1048576: NARROWER than '..Said'. Prove '..Said' where nothing that the law and all that it calls make is longer than what came in: it says more and counts as full. Else prove '..UptoSaid'. A law counts once. -/
mutual
def uptoBulk {H : Type} : DataW H → Nat
  | .lit (.string bytes) => bytes.length + 1
  | .lit _ => 1
  | .nil => 1
  | .ptr d => uptoBulk d + 1
  | .slice elems spare => uptoBulkAll elems + uptoBulkAll spare + 1
  | .agg parts => uptoBulkAll parts + 1
  | .iface _ d => uptoBulk d + 1
  | .map entries => uptoBulkEntries entries + 1
  | .held _ => 1
def uptoBulkAll {H : Type} : List (DataW H) → Nat
  | [] => 0
  | d :: r => uptoBulk d + uptoBulkAll r
def uptoBulkEntries {H : Type} : List (Lit × DataW H) → Nat
  | [] => 0
  | x :: r => uptoBulkEntry x + uptoBulkEntries r
def uptoBulkEntry {H : Type} : Lit × DataW H → Nat
  | (.string bytes, d) => bytes.length + uptoBulk d + 1
  | (_, d) => uptoBulk d + 1
 end
def uptoSmall : (H : Type) → List (DataW H) → Bool := fun _ ds => decide (uptoBulkAll ds ≤ 1048576)
def OpenSpec.upto (s : _root_.Go.ChangeSpec) : _root_.Go.OpenSpec := { _root_.Go.OpenSpec.ofChange s with cond := some uptoSmall }

/-- 'palimpsestlaw09.EvalRuns', WHERE WHAT IT READS IS OF BULK AT MOST 1048576: true; the input reads as it did. -/
def evalRunsUptoRow : OpenClaim := { program := "ytiaeagpepfmfgaa", sum := "64f1ea196ea1dde7597563bfd92b7d63c13bde8523f361fa886eae78fc4811aa", func := "palimpsest/palimpsestlaw09.EvalRuns", spec := "evalRuns", recurses := true, apart := false, narrowed := true }
def EvalRunsUptoSaid : Prop := evalRunsUptoRow.holds Try.pinned (OpenSpec.upto evalRunsSpec)

/-- 'palimpsestlaw09.EvalReads', WHERE WHAT IT READS IS OF BULK AT MOST 1048576: true; the input reads as it did. -/
def evalReadsUptoRow : OpenClaim := { program := "ytiaeagpepfmfgaa", sum := "64f1ea196ea1dde7597563bfd92b7d63c13bde8523f361fa886eae78fc4811aa", func := "palimpsest/palimpsestlaw09.EvalReads", spec := "evalReads", recurses := true, apart := false, narrowed := true }
def EvalReadsUptoSaid : Prop := evalReadsUptoRow.holds Try.pinned (OpenSpec.upto evalReadsSpec)

/-- 'palimpsestlaw09.EvalAdds', WHERE WHAT IT READS IS OF BULK AT MOST 1048576: true; the input reads as it did. -/
def evalAddsUptoRow : OpenClaim := { program := "ytiaeagpepfmfgaa", sum := "64f1ea196ea1dde7597563bfd92b7d63c13bde8523f361fa886eae78fc4811aa", func := "palimpsest/palimpsestlaw09.EvalAdds", spec := "evalAdds", recurses := true, apart := false, narrowed := true }
def EvalAddsUptoSaid : Prop := evalAddsUptoRow.holds Try.pinned (OpenSpec.upto evalAddsSpec)

/-- 'palimpsestlaw09.EvalOperators', WHERE WHAT IT READS IS OF BULK AT MOST 1048576: true; the input reads as it did. -/
def evalOperatorsUptoRow : OpenClaim := { program := "ytiaeagpepfmfgaa", sum := "64f1ea196ea1dde7597563bfd92b7d63c13bde8523f361fa886eae78fc4811aa", func := "palimpsest/palimpsestlaw09.EvalOperators", spec := "evalOperators", recurses := true, apart := false, narrowed := true }
def EvalOperatorsUptoSaid : Prop := evalOperatorsUptoRow.holds Try.pinned (OpenSpec.upto evalOperatorsSpec)

/-- 'palimpsestlaw09.EvalNeeds', WHERE WHAT IT READS IS OF BULK AT MOST 1048576: true; the input reads as it did. -/
def evalNeedsUptoRow : OpenClaim := { program := "ytiaeagpepfmfgaa", sum := "64f1ea196ea1dde7597563bfd92b7d63c13bde8523f361fa886eae78fc4811aa", func := "palimpsest/palimpsestlaw09.EvalNeeds", spec := "evalNeeds", recurses := true, apart := false, narrowed := true }
def EvalNeedsUptoSaid : Prop := evalNeedsUptoRow.holds Try.pinned (OpenSpec.upto evalNeedsSpec)

/-- 'palimpsestlaw09.EvalSwaps', WHERE WHAT IT READS IS OF BULK AT MOST 1048576: true; the input reads as it did. -/
def evalSwapsUptoRow : OpenClaim := { program := "ytiaeagpepfmfgaa", sum := "64f1ea196ea1dde7597563bfd92b7d63c13bde8523f361fa886eae78fc4811aa", func := "palimpsest/palimpsestlaw09.EvalSwaps", spec := "evalSwaps", recurses := true, apart := false, narrowed := true }
def EvalSwapsUptoSaid : Prop := evalSwapsUptoRow.holds Try.pinned (OpenSpec.upto evalSwapsSpec)

end Rows
end Go.Proofs.Ytiaeagpepfmfgaa
