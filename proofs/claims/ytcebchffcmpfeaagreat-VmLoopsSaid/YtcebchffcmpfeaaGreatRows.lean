/-
  No cell of these rows narrows 'for every input' (looked for: loops, veiled, ifaces, maps, wideKeys, modest, calm, conditions, laid).
  DERIVED. THE GIVEN ROWS OF THIS SEAT. 4 by the template 'for every input the law returns true; each argument reads behind the call as it read before'; 0 by the template 'total and deterministic' (their statements: YtcebchffcmpfeaaGreatTotals.lean).
  GIVEN WITH THE SEED: the statements are not yours to turn. If you find one false, say at which input.
  Laid BY PROGRAM, IN A SANDBOX (cutbox-rows.mjs): the forced cells as the released guide's own fill.sh prints them over the translation 1ea7f0dcdef43a8c… (all of the seat's roots in one cut). By AI agents, Wed Nov 11 2026. No macro, syntax, notation, axiom, sorry.
-/
import Derived.Test.YtcebchffcmpfeaaGreatChecked
import GoSem.Claim
import GoSem.ClaimJoined
import GoSem.ClaimMapViews
import Derived.JoinedTies
import Derived.KernelRfl
namespace Go.Proofs.YtcebchffcmpfeaaGreat
/- THE CELL 'sum', in the pinned program and in every row, IS THE sha256 OF THE DUMP (.gsa) THAT YtcebchffcmpfeaaGreatProg.lean LOADS. Nothing in Lean hashes anything: it is a label: what it is worth is what the hold of that sum in a sandbox is worth. -/
noncomputable def Tryz.pinned : Pinned := { name := "ytcebchffcmpfeaagreat", sum := "1ea7f0dcdef43a8cfa3e888c04be7bad5c6a32cf9d9c26d690b700d00d3328c4", checked := Tryz.checked }
namespace Rows
def none {H : Type} : Left H := { results := [], args := [] }

/-- 'palimpsestlaw12.VmRuns': WHATEVER THE INPUT: true; the input reads as it did. -/
def vmRunsSpec : ChangeSpec := { name := "vmRuns", fn := fun _ => fun
  | [d] => { results := [.lit (.bool true)], args := [d] }
  | _ => none }
def vmRunsRow : OpenClaim := { program := "ytcebchffcmpfeaagreat", sum := "1ea7f0dcdef43a8cfa3e888c04be7bad5c6a32cf9d9c26d690b700d00d3328c4", func := "palimpsest/palimpsestlaw12.VmRuns", spec := "vmRuns", unfollowed := true, recurses := true, apart := false }
def VmRunsSaid : Prop := vmRunsRow.holds Tryz.pinned (OpenSpec.ofChange vmRunsSpec)

/-- ITS FALSE NEIGHBOUR: 'it returns false'. Refute it at one input. -/
def vmRunsWrong : ChangeSpec := { name := "vmRuns", fn := fun _ => fun
  | [d] => { results := [.lit (.bool false)], args := [d] }
  | _ => none }
def VmRunsWrongFalsely : Prop := vmRunsRow.holds Tryz.pinned (OpenSpec.ofChange vmRunsWrong)

/-- 'palimpsestlaw12.VmEnds': WHATEVER THE INPUT: true; the input reads as it did. -/
def vmEndsSpec : ChangeSpec := { name := "vmEnds", fn := fun _ => fun
  | [d] => { results := [.lit (.bool true)], args := [d] }
  | _ => none }
def vmEndsRow : OpenClaim := { program := "ytcebchffcmpfeaagreat", sum := "1ea7f0dcdef43a8cfa3e888c04be7bad5c6a32cf9d9c26d690b700d00d3328c4", func := "palimpsest/palimpsestlaw12.VmEnds", spec := "vmEnds", unfollowed := true, recurses := true, apart := false }
def VmEndsSaid : Prop := vmEndsRow.holds Tryz.pinned (OpenSpec.ofChange vmEndsSpec)

/-- ITS FALSE NEIGHBOUR: 'it returns false'. Refute it at one input. -/
def vmEndsWrong : ChangeSpec := { name := "vmEnds", fn := fun _ => fun
  | [d] => { results := [.lit (.bool false)], args := [d] }
  | _ => none }
def VmEndsWrongFalsely : Prop := vmEndsRow.holds Tryz.pinned (OpenSpec.ofChange vmEndsWrong)

/-- 'palimpsestlaw12.VmArgs': WHATEVER THE INPUT: true; the input reads as it did. -/
def vmArgsSpec : ChangeSpec := { name := "vmArgs", fn := fun _ => fun
  | [d] => { results := [.lit (.bool true)], args := [d] }
  | _ => none }
def vmArgsRow : OpenClaim := { program := "ytcebchffcmpfeaagreat", sum := "1ea7f0dcdef43a8cfa3e888c04be7bad5c6a32cf9d9c26d690b700d00d3328c4", func := "palimpsest/palimpsestlaw12.VmArgs", spec := "vmArgs", unfollowed := true, recurses := true, apart := false }
def VmArgsSaid : Prop := vmArgsRow.holds Tryz.pinned (OpenSpec.ofChange vmArgsSpec)

/-- ITS FALSE NEIGHBOUR: 'it returns false'. Refute it at one input. -/
def vmArgsWrong : ChangeSpec := { name := "vmArgs", fn := fun _ => fun
  | [d] => { results := [.lit (.bool false)], args := [d] }
  | _ => none }
def VmArgsWrongFalsely : Prop := vmArgsRow.holds Tryz.pinned (OpenSpec.ofChange vmArgsWrong)

/-- 'palimpsestlaw12.VmLoops': WHATEVER THE INPUT: true; the input reads as it did. -/
def vmLoopsSpec : ChangeSpec := { name := "vmLoops", fn := fun _ => fun
  | [d] => { results := [.lit (.bool true)], args := [d] }
  | _ => none }
def vmLoopsRow : OpenClaim := { program := "ytcebchffcmpfeaagreat", sum := "1ea7f0dcdef43a8cfa3e888c04be7bad5c6a32cf9d9c26d690b700d00d3328c4", func := "palimpsest/palimpsestlaw12.VmLoops", spec := "vmLoops", unfollowed := true, recurses := true, apart := false }
def VmLoopsSaid : Prop := vmLoopsRow.holds Tryz.pinned (OpenSpec.ofChange vmLoopsSpec)

/-- ITS FALSE NEIGHBOUR: 'it returns false'. Refute it at one input. -/
def vmLoopsWrong : ChangeSpec := { name := "vmLoops", fn := fun _ => fun
  | [d] => { results := [.lit (.bool false)], args := [d] }
  | _ => none }
def VmLoopsWrongFalsely : Prop := vmLoopsRow.holds Tryz.pinned (OpenSpec.ofChange vmLoopsWrong)

/- THE SECOND FORM. 'bulk': how many values and letters a reading holds, each counted each time it is reached (what is shared counts as often as it is met; a slice's spare places count too). A statement '..UptoSaid' is the law's where the arguments, and the package variables that the reading takes, are together of bulk at most 1048576: NARROWER than '..Said'. Prove '..Said' where nothing that the law and all that it calls make is longer than what came in: it says more and counts as full. Else prove '..UptoSaid'. A law counts once. -/
mutual
def uptoBulk {H : Type} : DataW H → Nat
  | .lit (.string bytes) => bytes.length + 1
  | .lit _ => 1
  | .nil => 1
  | .ptr d => uptoBulk d + 1
  | .slice elems spare => uptoBulkAll elems + uptoBulkAll spare + 1
  | .agg parts => uptoBulkAll parts + 1
  | .iface _ d => uptoBulk d + 1
  | .map entries => uptoBulkEntries entries + 1
  | .held _ => 1
def uptoBulkAll {H : Type} : List (DataW H) → Nat
  | [] => 0
  | d :: r => uptoBulk d + uptoBulkAll r
def uptoBulkEntries {H : Type} : List (Lit × DataW H) → Nat
  | [] => 0
  | x :: r => uptoBulkEntry x + uptoBulkEntries r
def uptoBulkEntry {H : Type} : Lit × DataW H → Nat
  | (.string bytes, d) => bytes.length + uptoBulk d + 1
  | (_, d) => uptoBulk d + 1
 end
def uptoSmall : (H : Type) → List (DataW H) → Bool := fun _ ds => decide (uptoBulkAll ds ≤ 1048576)
def OpenSpec.upto (s : _root_.Go.ChangeSpec) : _root_.Go.OpenSpec := { _root_.Go.OpenSpec.ofChange s with cond := some uptoSmall }

/-- 'palimpsestlaw12.VmRuns', WHERE WHAT IT READS IS OF BULK AT MOST 1048576: true; the input reads as it did. -/
def vmRunsUptoRow : OpenClaim := { program := "ytcebchffcmpfeaagreat", sum := "1ea7f0dcdef43a8cfa3e888c04be7bad5c6a32cf9d9c26d690b700d00d3328c4", func := "palimpsest/palimpsestlaw12.VmRuns", spec := "vmRuns", unfollowed := true, recurses := true, apart := false, narrowed := true }
def VmRunsUptoSaid : Prop := vmRunsUptoRow.holds Tryz.pinned (OpenSpec.upto vmRunsSpec)

/-- 'palimpsestlaw12.VmEnds', WHERE WHAT IT READS IS OF BULK AT MOST 1048576: true; the input reads as it did. -/
def vmEndsUptoRow : OpenClaim := { program := "ytcebchffcmpfeaagreat", sum := "1ea7f0dcdef43a8cfa3e888c04be7bad5c6a32cf9d9c26d690b700d00d3328c4", func := "palimpsest/palimpsestlaw12.VmEnds", spec := "vmEnds", unfollowed := true, recurses := true, apart := false, narrowed := true }
def VmEndsUptoSaid : Prop := vmEndsUptoRow.holds Tryz.pinned (OpenSpec.upto vmEndsSpec)

/-- 'palimpsestlaw12.VmArgs', WHERE WHAT IT READS IS OF BULK AT MOST 1048576: true; the input reads as it did. -/
def vmArgsUptoRow : OpenClaim := { program := "ytcebchffcmpfeaagreat", sum := "1ea7f0dcdef43a8cfa3e888c04be7bad5c6a32cf9d9c26d690b700d00d3328c4", func := "palimpsest/palimpsestlaw12.VmArgs", spec := "vmArgs", unfollowed := true, recurses := true, apart := false, narrowed := true }
def VmArgsUptoSaid : Prop := vmArgsUptoRow.holds Tryz.pinned (OpenSpec.upto vmArgsSpec)

/-- 'palimpsestlaw12.VmLoops', WHERE WHAT IT READS IS OF BULK AT MOST 1048576: true; the input reads as it did. -/
def vmLoopsUptoRow : OpenClaim := { program := "ytcebchffcmpfeaagreat", sum := "1ea7f0dcdef43a8cfa3e888c04be7bad5c6a32cf9d9c26d690b700d00d3328c4", func := "palimpsest/palimpsestlaw12.VmLoops", spec := "vmLoops", unfollowed := true, recurses := true, apart := false, narrowed := true }
def VmLoopsUptoSaid : Prop := vmLoopsUptoRow.holds Tryz.pinned (OpenSpec.upto vmLoopsSpec)

end Rows
end Go.Proofs.YtcebchffcmpfeaaGreat
