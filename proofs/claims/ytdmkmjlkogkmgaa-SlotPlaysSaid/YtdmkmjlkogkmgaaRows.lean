/-
  No cell of these rows narrows 'for every input' (looked for: loops, veiled, ifaces, maps, wideKeys, modest, calm, conditions, laid).
  DERIVED. THE GIVEN ROWS OF THIS SEAT. 5 by the template 'for every input the law returns true; each argument reads behind the call as it read before'; 0 by the template 'total and deterministic' (their statements: YtdmkmjlkogkmgaaTotals.lean).
  GIVEN WITH THE SEED: the statements are not yours to turn. If you find one false, say at which input.
  Laid BY PROGRAM, IN A SANDBOX (cutbox-rows.mjs): the forced cells as the released guide's own fill.sh prints them over the translation 90949ef2fba42db1… (all of the seat's roots in one cut). By AI agents, Wed Nov 11 2026. No macro, syntax, notation, axiom, sorry.
-/
import Derived.Test.YtdmkmjlkogkmgaaChecked
import GoSem.Claim
import GoSem.ClaimJoined
import GoSem.ClaimMapViews
import Derived.JoinedTies
import Derived.KernelRfl
namespace Go.Proofs.Ytdmkmjlkogkmgaa
/- THE CELL 'sum', in the pinned program and in every row, IS THE sha256 OF THE DUMP (.gsa) THAT YtdmkmjlkogkmgaaProg.lean LOADS. Nothing in Lean hashes anything: it is a label: what it is worth is what the hold of that sum in a sandbox is worth. -/
noncomputable def Try.pinned : Pinned := { name := "ytdmkmjlkogkmgaa", sum := "90949ef2fba42db1273f1efa05c9f15f41a92a4c7a9ff1a051cea557e97616ed", checked := Try.checked }
namespace Rows
def none {H : Type} : Left H := { results := [], args := [] }

/-- 'palimpsestlaw03.SlotPlays': WHATEVER THE INPUT: true; the input reads as it did. -/
def slotPlaysSpec : ChangeSpec := { name := "slotPlays", fn := fun _ => fun
  | [d1, d2] => { results := [.lit (.bool true)], args := [d1, d2] }
  | _ => none }
def slotPlaysRow : OpenClaim := { program := "ytdmkmjlkogkmgaa", sum := "90949ef2fba42db1273f1efa05c9f15f41a92a4c7a9ff1a051cea557e97616ed", func := "palimpsest/palimpsestlaw03.SlotPlays", spec := "slotPlays", inPlace := ["sync/atomic.LoadInt64", "sync/atomic.AddInt64", "sync/atomic.StoreInt64"], apart := false }
def SlotPlaysSaid : Prop := slotPlaysRow.holds Try.pinned (OpenSpec.ofChange slotPlaysSpec)

/-- ITS FALSE NEIGHBOUR: 'it returns false'. Refute it at one input. -/
def slotPlaysWrong : ChangeSpec := { name := "slotPlays", fn := fun _ => fun
  | [d1, d2] => { results := [.lit (.bool false)], args := [d1, d2] }
  | _ => none }
def SlotPlaysWrongFalsely : Prop := slotPlaysRow.holds Try.pinned (OpenSpec.ofChange slotPlaysWrong)

/-- 'palimpsestlaw03.SlotCuts': WHATEVER THE INPUT: true; the input reads as it did. -/
def slotCutsSpec : ChangeSpec := { name := "slotCuts", fn := fun _ => fun
  | [d] => { results := [.lit (.bool true)], args := [d] }
  | _ => none }
def slotCutsRow : OpenClaim := { program := "ytdmkmjlkogkmgaa", sum := "90949ef2fba42db1273f1efa05c9f15f41a92a4c7a9ff1a051cea557e97616ed", func := "palimpsest/palimpsestlaw03.SlotCuts", spec := "slotCuts", inPlace := ["sync/atomic.LoadInt64", "sync/atomic.AddInt64", "sync/atomic.StoreInt64"], apart := false }
def SlotCutsSaid : Prop := slotCutsRow.holds Try.pinned (OpenSpec.ofChange slotCutsSpec)

/-- ITS FALSE NEIGHBOUR: 'it returns false'. Refute it at one input. -/
def slotCutsWrong : ChangeSpec := { name := "slotCuts", fn := fun _ => fun
  | [d] => { results := [.lit (.bool false)], args := [d] }
  | _ => none }
def SlotCutsWrongFalsely : Prop := slotCutsRow.holds Try.pinned (OpenSpec.ofChange slotCutsWrong)

/-- 'palimpsestlaw03.SlotDead': WHATEVER THE INPUT: true; the input reads as it did. -/
def slotDeadSpec : ChangeSpec := { name := "slotDead", fn := fun _ => fun
  | [d1, d2, d3] => { results := [.lit (.bool true)], args := [d1, d2, d3] }
  | _ => none }
def slotDeadRow : OpenClaim := { program := "ytdmkmjlkogkmgaa", sum := "90949ef2fba42db1273f1efa05c9f15f41a92a4c7a9ff1a051cea557e97616ed", func := "palimpsest/palimpsestlaw03.SlotDead", spec := "slotDead", inPlace := ["sync/atomic.LoadInt64", "sync/atomic.AddInt64", "sync/atomic.StoreInt64"], apart := false }
def SlotDeadSaid : Prop := slotDeadRow.holds Try.pinned (OpenSpec.ofChange slotDeadSpec)

/-- ITS FALSE NEIGHBOUR: 'it returns false'. Refute it at one input. -/
def slotDeadWrong : ChangeSpec := { name := "slotDead", fn := fun _ => fun
  | [d1, d2, d3] => { results := [.lit (.bool false)], args := [d1, d2, d3] }
  | _ => none }
def SlotDeadWrongFalsely : Prop := slotDeadRow.holds Try.pinned (OpenSpec.ofChange slotDeadWrong)

/-- 'palimpsestlaw03.SlotRows': WHATEVER THE INPUT: true; the input reads as it did. -/
def slotRowsSpec : ChangeSpec := { name := "slotRows", fn := fun _ => fun
  | [d1, d2, d3] => { results := [.lit (.bool true)], args := [d1, d2, d3] }
  | _ => none }
def slotRowsRow : OpenClaim := { program := "ytdmkmjlkogkmgaa", sum := "90949ef2fba42db1273f1efa05c9f15f41a92a4c7a9ff1a051cea557e97616ed", func := "palimpsest/palimpsestlaw03.SlotRows", spec := "slotRows", inPlace := ["sync/atomic.LoadInt64", "sync/atomic.AddInt64"], recurses := true, apart := false }
def SlotRowsSaid : Prop := slotRowsRow.holds Try.pinned (OpenSpec.ofChange slotRowsSpec)

/-- ITS FALSE NEIGHBOUR: 'it returns false'. Refute it at one input. -/
def slotRowsWrong : ChangeSpec := { name := "slotRows", fn := fun _ => fun
  | [d1, d2, d3] => { results := [.lit (.bool false)], args := [d1, d2, d3] }
  | _ => none }
def SlotRowsWrongFalsely : Prop := slotRowsRow.holds Try.pinned (OpenSpec.ofChange slotRowsWrong)

/-- 'palimpsestlaw03.SlotNone': WHATEVER THE INPUT: true; the input reads as it did. -/
def slotNoneSpec : ChangeSpec := { name := "slotNone", fn := fun _ => fun
  | [d1, d2] => { results := [.lit (.bool true)], args := [d1, d2] }
  | _ => none }
def slotNoneRow : OpenClaim := { program := "ytdmkmjlkogkmgaa", sum := "90949ef2fba42db1273f1efa05c9f15f41a92a4c7a9ff1a051cea557e97616ed", func := "palimpsest/palimpsestlaw03.SlotNone", spec := "slotNone", inPlace := ["sync/atomic.LoadInt64", "sync/atomic.AddInt64"], apart := false }
def SlotNoneSaid : Prop := slotNoneRow.holds Try.pinned (OpenSpec.ofChange slotNoneSpec)

/-- ITS FALSE NEIGHBOUR: 'it returns false'. Refute it at one input. -/
def slotNoneWrong : ChangeSpec := { name := "slotNone", fn := fun _ => fun
  | [d1, d2] => { results := [.lit (.bool false)], args := [d1, d2] }
  | _ => none }
def SlotNoneWrongFalsely : Prop := slotNoneRow.holds Try.pinned (OpenSpec.ofChange slotNoneWrong)

/- THE SECOND FORM. 'bulk': how many values and letters a reading holds, each counted each time it is reached (what is shared counts as often as it is met; a slice's spare places count too). A statement '..UptoSaid' is the law's where the arguments, and the package variables that the reading takes, are together of bulk at most 1048576: NARROWER than '..Said'. Prove '..Said' where nothing that the law and all that it calls make is longer than what came in: it says more and counts as full. Else prove '..UptoSaid'. A law counts once. -/
mutual
def uptoBulk {H : Type} : DataW H → Nat
  | .lit (.string bytes) => bytes.length + 1
  | .lit _ => 1
  | .nil => 1
  | .ptr d => uptoBulk d + 1
  | .slice elems spare => uptoBulkAll elems + uptoBulkAll spare + 1
  | .agg parts => uptoBulkAll parts + 1
  | .iface _ d => uptoBulk d + 1
  | .map entries => uptoBulkEntries entries + 1
  | .held _ => 1
def uptoBulkAll {H : Type} : List (DataW H) → Nat
  | [] => 0
  | d :: r => uptoBulk d + uptoBulkAll r
def uptoBulkEntries {H : Type} : List (Lit × DataW H) → Nat
  | [] => 0
  | x :: r => uptoBulkEntry x + uptoBulkEntries r
def uptoBulkEntry {H : Type} : Lit × DataW H → Nat
  | (.string bytes, d) => bytes.length + uptoBulk d + 1
  | (_, d) => uptoBulk d + 1
 end
def uptoSmall : (H : Type) → List (DataW H) → Bool := fun _ ds => decide (uptoBulkAll ds ≤ 1048576)
def OpenSpec.upto (s : _root_.Go.ChangeSpec) : _root_.Go.OpenSpec := { _root_.Go.OpenSpec.ofChange s with cond := some uptoSmall }

/-- 'palimpsestlaw03.SlotPlays', WHERE WHAT IT READS IS OF BULK AT MOST 1048576: true; the input reads as it did. -/
def slotPlaysUptoRow : OpenClaim := { program := "ytdmkmjlkogkmgaa", sum := "90949ef2fba42db1273f1efa05c9f15f41a92a4c7a9ff1a051cea557e97616ed", func := "palimpsest/palimpsestlaw03.SlotPlays", spec := "slotPlays", inPlace := ["sync/atomic.LoadInt64", "sync/atomic.AddInt64", "sync/atomic.StoreInt64"], apart := false, narrowed := true }
def SlotPlaysUptoSaid : Prop := slotPlaysUptoRow.holds Try.pinned (OpenSpec.upto slotPlaysSpec)

/-- 'palimpsestlaw03.SlotCuts', WHERE WHAT IT READS IS OF BULK AT MOST 1048576: true; the input reads as it did. -/
def slotCutsUptoRow : OpenClaim := { program := "ytdmkmjlkogkmgaa", sum := "90949ef2fba42db1273f1efa05c9f15f41a92a4c7a9ff1a051cea557e97616ed", func := "palimpsest/palimpsestlaw03.SlotCuts", spec := "slotCuts", inPlace := ["sync/atomic.LoadInt64", "sync/atomic.AddInt64", "sync/atomic.StoreInt64"], apart := false, narrowed := true }
def SlotCutsUptoSaid : Prop := slotCutsUptoRow.holds Try.pinned (OpenSpec.upto slotCutsSpec)

/-- 'palimpsestlaw03.SlotDead', WHERE WHAT IT READS IS OF BULK AT MOST 1048576: true; the input reads as it did. -/
def slotDeadUptoRow : OpenClaim := { program := "ytdmkmjlkogkmgaa", sum := "90949ef2fba42db1273f1efa05c9f15f41a92a4c7a9ff1a051cea557e97616ed", func := "palimpsest/palimpsestlaw03.SlotDead", spec := "slotDead", inPlace := ["sync/atomic.LoadInt64", "sync/atomic.AddInt64", "sync/atomic.StoreInt64"], apart := false, narrowed := true }
def SlotDeadUptoSaid : Prop := slotDeadUptoRow.holds Try.pinned (OpenSpec.upto slotDeadSpec)

/-- 'palimpsestlaw03.SlotRows', WHERE WHAT IT READS IS OF BULK AT MOST 1048576: true; the input reads as it did. -/
def slotRowsUptoRow : OpenClaim := { program := "ytdmkmjlkogkmgaa", sum := "90949ef2fba42db1273f1efa05c9f15f41a92a4c7a9ff1a051cea557e97616ed", func := "palimpsest/palimpsestlaw03.SlotRows", spec := "slotRows", inPlace := ["sync/atomic.LoadInt64", "sync/atomic.AddInt64"], recurses := true, apart := false, narrowed := true }
def SlotRowsUptoSaid : Prop := slotRowsUptoRow.holds Try.pinned (OpenSpec.upto slotRowsSpec)

/-- 'palimpsestlaw03.SlotNone', WHERE WHAT IT READS IS OF BULK AT MOST 1048576: true; the input reads as it did. -/
def slotNoneUptoRow : OpenClaim := { program := "ytdmkmjlkogkmgaa", sum := "90949ef2fba42db1273f1efa05c9f15f41a92a4c7a9ff1a051cea557e97616ed", func := "palimpsest/palimpsestlaw03.SlotNone", spec := "slotNone", inPlace := ["sync/atomic.LoadInt64", "sync/atomic.AddInt64"], apart := false, narrowed := true }
def SlotNoneUptoSaid : Prop := slotNoneUptoRow.holds Try.pinned (OpenSpec.upto slotNoneSpec)

end Rows
end Go.Proofs.Ytdmkmjlkogkmgaa
