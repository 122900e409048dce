/-
  No cell of these rows narrows 'for every input' (looked for: loops, veiled, ifaces, maps, wideKeys, modest, calm, conditions, laid).
  DERIVED. THE GIVEN ROWS OF THIS SEAT. 7 by the template 'for every input the law returns true; each argument reads behind the call as it read before'; 0 by the template 'total and deterministic' (their statements: YtjcpmfdgcomfgaaTotals.lean).
  GIVEN WITH THE SEED: the statements are not yours to turn. If you find one false, say at which input.
  Laid BY PROGRAM, IN A SANDBOX (cutbox-rows.mjs): the forced cells as the released guide's own fill.sh prints them over the translation 524fa8e9657bebfa… (all of the seat's roots in one cut). By AI agents, Wed Nov 11 2026. No macro, syntax, notation, axiom, sorry.
-/
import Derived.Test.YtjcpmfdgcomfgaaChecked
import GoSem.Claim
import GoSem.ClaimJoined
import GoSem.ClaimMapViews
import Derived.JoinedTies
import Derived.KernelRfl
namespace Go.Proofs.Ytjcpmfdgcomfgaa
/- THE CELL 'sum', in the pinned program and in every row, IS THE sha256 OF THE DUMP (.gsa) THAT YtjcpmfdgcomfgaaProg.lean LOADS. Nothing in Lean hashes anything: it is a label: what it is worth is what the hold of that sum in a sandbox is worth. -/
noncomputable def Try.pinned : Pinned := { name := "ytjcpmfdgcomfgaa", sum := "524fa8e9657bebfa1604d78260600569ef904709c275999b4a42d6adf105aea9", checked := Try.checked }
namespace Rows
def none {H : Type} : Left H := { results := [], args := [] }

/-- 'palimpsestlaw08.CheckTexts': WHATEVER THE INPUT: true; the input reads as it did. -/
def checkTextsSpec : ChangeSpec := { name := "checkTexts", fn := fun _ => fun
  | [d] => { results := [.lit (.bool true)], args := [d] }
  | _ => none }
def checkTextsRow : OpenClaim := { program := "ytjcpmfdgcomfgaa", sum := "524fa8e9657bebfa1604d78260600569ef904709c275999b4a42d6adf105aea9", func := "palimpsest/palimpsestlaw08.CheckTexts", spec := "checkTexts", recurses := true, apart := false }
def CheckTextsSaid : Prop := checkTextsRow.holds Try.pinned (OpenSpec.ofChange checkTextsSpec)

/-- ITS FALSE NEIGHBOUR: 'it returns false'. Refute it at one input. -/
def checkTextsWrong : ChangeSpec := { name := "checkTexts", fn := fun _ => fun
  | [d] => { results := [.lit (.bool false)], args := [d] }
  | _ => none }
def CheckTextsWrongFalsely : Prop := checkTextsRow.holds Try.pinned (OpenSpec.ofChange checkTextsWrong)

/-- 'palimpsestlaw08.CheckNames': WHATEVER THE INPUT: true; the input reads as it did. -/
def checkNamesSpec : ChangeSpec := { name := "checkNames", fn := fun _ => fun
  | [d] => { results := [.lit (.bool true)], args := [d] }
  | _ => none }
def checkNamesRow : OpenClaim := { program := "ytjcpmfdgcomfgaa", sum := "524fa8e9657bebfa1604d78260600569ef904709c275999b4a42d6adf105aea9", func := "palimpsest/palimpsestlaw08.CheckNames", spec := "checkNames", recurses := true, apart := false }
def CheckNamesSaid : Prop := checkNamesRow.holds Try.pinned (OpenSpec.ofChange checkNamesSpec)

/-- ITS FALSE NEIGHBOUR: 'it returns false'. Refute it at one input. -/
def checkNamesWrong : ChangeSpec := { name := "checkNames", fn := fun _ => fun
  | [d] => { results := [.lit (.bool false)], args := [d] }
  | _ => none }
def CheckNamesWrongFalsely : Prop := checkNamesRow.holds Try.pinned (OpenSpec.ofChange checkNamesWrong)

/-- 'palimpsestlaw08.CheckModes': WHATEVER THE INPUT: true; the input reads as it did. -/
def checkModesSpec : ChangeSpec := { name := "checkModes", fn := fun _ => fun
  | [d] => { results := [.lit (.bool true)], args := [d] }
  | _ => none }
def checkModesRow : OpenClaim := { program := "ytjcpmfdgcomfgaa", sum := "524fa8e9657bebfa1604d78260600569ef904709c275999b4a42d6adf105aea9", func := "palimpsest/palimpsestlaw08.CheckModes", spec := "checkModes", recurses := true, apart := false }
def CheckModesSaid : Prop := checkModesRow.holds Try.pinned (OpenSpec.ofChange checkModesSpec)

/-- ITS FALSE NEIGHBOUR: 'it returns false'. Refute it at one input. -/
def checkModesWrong : ChangeSpec := { name := "checkModes", fn := fun _ => fun
  | [d] => { results := [.lit (.bool false)], args := [d] }
  | _ => none }
def CheckModesWrongFalsely : Prop := checkModesRow.holds Try.pinned (OpenSpec.ofChange checkModesWrong)

/-- 'palimpsestlaw08.CheckSteps': WHATEVER THE INPUT: true; the input reads as it did. -/
def checkStepsSpec : ChangeSpec := { name := "checkSteps", fn := fun _ => fun
  | [d1, d2] => { results := [.lit (.bool true)], args := [d1, d2] }
  | _ => none }
def checkStepsRow : OpenClaim := { program := "ytjcpmfdgcomfgaa", sum := "524fa8e9657bebfa1604d78260600569ef904709c275999b4a42d6adf105aea9", func := "palimpsest/palimpsestlaw08.CheckSteps", spec := "checkSteps", recurses := true, apart := false }
def CheckStepsSaid : Prop := checkStepsRow.holds Try.pinned (OpenSpec.ofChange checkStepsSpec)

/-- ITS FALSE NEIGHBOUR: 'it returns false'. Refute it at one input. -/
def checkStepsWrong : ChangeSpec := { name := "checkSteps", fn := fun _ => fun
  | [d1, d2] => { results := [.lit (.bool false)], args := [d1, d2] }
  | _ => none }
def CheckStepsWrongFalsely : Prop := checkStepsRow.holds Try.pinned (OpenSpec.ofChange checkStepsWrong)

/-- 'palimpsestlaw08.CheckTypes': WHATEVER THE INPUT: true; the input reads as it did. -/
def checkTypesSpec : ChangeSpec := { name := "checkTypes", fn := fun _ => fun
  | [d1, d2, d3] => { results := [.lit (.bool true)], args := [d1, d2, d3] }
  | _ => none }
def checkTypesRow : OpenClaim := { program := "ytjcpmfdgcomfgaa", sum := "524fa8e9657bebfa1604d78260600569ef904709c275999b4a42d6adf105aea9", func := "palimpsest/palimpsestlaw08.CheckTypes", spec := "checkTypes", unfollowed := true, recurses := true, apart := false }
def CheckTypesSaid : Prop := checkTypesRow.holds Try.pinned (OpenSpec.ofChange checkTypesSpec)

/-- ITS FALSE NEIGHBOUR: 'it returns false'. Refute it at one input. -/
def checkTypesWrong : ChangeSpec := { name := "checkTypes", fn := fun _ => fun
  | [d1, d2, d3] => { results := [.lit (.bool false)], args := [d1, d2, d3] }
  | _ => none }
def CheckTypesWrongFalsely : Prop := checkTypesRow.holds Try.pinned (OpenSpec.ofChange checkTypesWrong)

/-- 'palimpsestlaw08.CheckCalls': WHATEVER THE INPUT: true; the input reads as it did. -/
def checkCallsSpec : ChangeSpec := { name := "checkCalls", fn := fun _ => fun
  | [d1, d2] => { results := [.lit (.bool true)], args := [d1, d2] }
  | _ => none }
def checkCallsRow : OpenClaim := { program := "ytjcpmfdgcomfgaa", sum := "524fa8e9657bebfa1604d78260600569ef904709c275999b4a42d6adf105aea9", func := "palimpsest/palimpsestlaw08.CheckCalls", spec := "checkCalls", recurses := true, apart := false }
def CheckCallsSaid : Prop := checkCallsRow.holds Try.pinned (OpenSpec.ofChange checkCallsSpec)

/-- ITS FALSE NEIGHBOUR: 'it returns false'. Refute it at one input. -/
def checkCallsWrong : ChangeSpec := { name := "checkCalls", fn := fun _ => fun
  | [d1, d2] => { results := [.lit (.bool false)], args := [d1, d2] }
  | _ => none }
def CheckCallsWrongFalsely : Prop := checkCallsRow.holds Try.pinned (OpenSpec.ofChange checkCallsWrong)

/-- 'palimpsestlaw08.CheckScopes': WHATEVER THE INPUT: true; the input reads as it did. -/
def checkScopesSpec : ChangeSpec := { name := "checkScopes", fn := fun _ => fun
  | [d] => { results := [.lit (.bool true)], args := [d] }
  | _ => none }
def checkScopesRow : OpenClaim := { program := "ytjcpmfdgcomfgaa", sum := "524fa8e9657bebfa1604d78260600569ef904709c275999b4a42d6adf105aea9", func := "palimpsest/palimpsestlaw08.CheckScopes", spec := "checkScopes", recurses := true, apart := false }
def CheckScopesSaid : Prop := checkScopesRow.holds Try.pinned (OpenSpec.ofChange checkScopesSpec)

/-- ITS FALSE NEIGHBOUR: 'it returns false'. Refute it at one input. -/
def checkScopesWrong : ChangeSpec := { name := "checkScopes", fn := fun _ => fun
  | [d] => { results := [.lit (.bool false)], args := [d] }
  | _ => none }
def CheckScopesWrongFalsely : Prop := checkScopesRow.holds Try.pinned (OpenSpec.ofChange checkScopesWrong)

/- THE SECOND FORM. 'bulk': how many values and letters a reading holds, each counted each time it is reached (what is shared counts as often as it is met; a slice's spare places count too). A statement '..UptoSaid' is the law's where the arguments, and the package variables that the reading takes, are together of bulk at most 1048576: NARROWER than '..Said'. Prove '..Said' where nothing that the law and all that it calls make is longer than what came in: it says more and counts as full. Else prove '..UptoSaid'. A law counts once. -/
mutual
def uptoBulk {H : Type} : DataW H → Nat
  | .lit (.string bytes) => bytes.length + 1
  | .lit _ => 1
  | .nil => 1
  | .ptr d => uptoBulk d + 1
  | .slice elems spare => uptoBulkAll elems + uptoBulkAll spare + 1
  | .agg parts => uptoBulkAll parts + 1
  | .iface _ d => uptoBulk d + 1
  | .map entries => uptoBulkEntries entries + 1
  | .held _ => 1
def uptoBulkAll {H : Type} : List (DataW H) → Nat
  | [] => 0
  | d :: r => uptoBulk d + uptoBulkAll r
def uptoBulkEntries {H : Type} : List (Lit × DataW H) → Nat
  | [] => 0
  | x :: r => uptoBulkEntry x + uptoBulkEntries r
def uptoBulkEntry {H : Type} : Lit × DataW H → Nat
  | (.string bytes, d) => bytes.length + uptoBulk d + 1
  | (_, d) => uptoBulk d + 1
 end
def uptoSmall : (H : Type) → List (DataW H) → Bool := fun _ ds => decide (uptoBulkAll ds ≤ 1048576)
def OpenSpec.upto (s : _root_.Go.ChangeSpec) : _root_.Go.OpenSpec := { _root_.Go.OpenSpec.ofChange s with cond := some uptoSmall }

/-- 'palimpsestlaw08.CheckTexts', WHERE WHAT IT READS IS OF BULK AT MOST 1048576: true; the input reads as it did. -/
def checkTextsUptoRow : OpenClaim := { program := "ytjcpmfdgcomfgaa", sum := "524fa8e9657bebfa1604d78260600569ef904709c275999b4a42d6adf105aea9", func := "palimpsest/palimpsestlaw08.CheckTexts", spec := "checkTexts", recurses := true, apart := false, narrowed := true }
def CheckTextsUptoSaid : Prop := checkTextsUptoRow.holds Try.pinned (OpenSpec.upto checkTextsSpec)

/-- 'palimpsestlaw08.CheckNames', WHERE WHAT IT READS IS OF BULK AT MOST 1048576: true; the input reads as it did. -/
def checkNamesUptoRow : OpenClaim := { program := "ytjcpmfdgcomfgaa", sum := "524fa8e9657bebfa1604d78260600569ef904709c275999b4a42d6adf105aea9", func := "palimpsest/palimpsestlaw08.CheckNames", spec := "checkNames", recurses := true, apart := false, narrowed := true }
def CheckNamesUptoSaid : Prop := checkNamesUptoRow.holds Try.pinned (OpenSpec.upto checkNamesSpec)

/-- 'palimpsestlaw08.CheckModes', WHERE WHAT IT READS IS OF BULK AT MOST 1048576: true; the input reads as it did. -/
def checkModesUptoRow : OpenClaim := { program := "ytjcpmfdgcomfgaa", sum := "524fa8e9657bebfa1604d78260600569ef904709c275999b4a42d6adf105aea9", func := "palimpsest/palimpsestlaw08.CheckModes", spec := "checkModes", recurses := true, apart := false, narrowed := true }
def CheckModesUptoSaid : Prop := checkModesUptoRow.holds Try.pinned (OpenSpec.upto checkModesSpec)

/-- 'palimpsestlaw08.CheckSteps', WHERE WHAT IT READS IS OF BULK AT MOST 1048576: true; the input reads as it did. -/
def checkStepsUptoRow : OpenClaim := { program := "ytjcpmfdgcomfgaa", sum := "524fa8e9657bebfa1604d78260600569ef904709c275999b4a42d6adf105aea9", func := "palimpsest/palimpsestlaw08.CheckSteps", spec := "checkSteps", recurses := true, apart := false, narrowed := true }
def CheckStepsUptoSaid : Prop := checkStepsUptoRow.holds Try.pinned (OpenSpec.upto checkStepsSpec)

/-- 'palimpsestlaw08.CheckTypes', WHERE WHAT IT READS IS OF BULK AT MOST 1048576: true; the input reads as it did. -/
def checkTypesUptoRow : OpenClaim := { program := "ytjcpmfdgcomfgaa", sum := "524fa8e9657bebfa1604d78260600569ef904709c275999b4a42d6adf105aea9", func := "palimpsest/palimpsestlaw08.CheckTypes", spec := "checkTypes", unfollowed := true, recurses := true, apart := false, narrowed := true }
def CheckTypesUptoSaid : Prop := checkTypesUptoRow.holds Try.pinned (OpenSpec.upto checkTypesSpec)

/-- 'palimpsestlaw08.CheckCalls', WHERE WHAT IT READS IS OF BULK AT MOST 1048576: true; the input reads as it did. -/
def checkCallsUptoRow : OpenClaim := { program := "ytjcpmfdgcomfgaa", sum := "524fa8e9657bebfa1604d78260600569ef904709c275999b4a42d6adf105aea9", func := "palimpsest/palimpsestlaw08.CheckCalls", spec := "checkCalls", recurses := true, apart := false, narrowed := true }
def CheckCallsUptoSaid : Prop := checkCallsUptoRow.holds Try.pinned (OpenSpec.upto checkCallsSpec)

/-- 'palimpsestlaw08.CheckScopes', WHERE WHAT IT READS IS OF BULK AT MOST 1048576: true; the input reads as it did. -/
def checkScopesUptoRow : OpenClaim := { program := "ytjcpmfdgcomfgaa", sum := "524fa8e9657bebfa1604d78260600569ef904709c275999b4a42d6adf105aea9", func := "palimpsest/palimpsestlaw08.CheckScopes", spec := "checkScopes", recurses := true, apart := false, narrowed := true }
def CheckScopesUptoSaid : Prop := checkScopesUptoRow.holds Try.pinned (OpenSpec.upto checkScopesSpec)

end Rows
end Go.Proofs.Ytjcpmfdgcomfgaa
