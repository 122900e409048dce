import Derived.Test.YtheanmadognhbaaGreatDoorHhs
import Derived.Test.YtheanmadognhbaaGreatDoorWas
import Derived.Test.YtheanmadognhbaaGreatDoorRows
import Derived.Test.YtheanmadognhbaaGreatDoorTie
import Derived.Test.YtheanmadognhbaaGreatDoorCards
import Derived.Stop.LaidErr
import Derived.SizedLaws
import Derived.ChangeSame
import Derived.ChangeVars
import Derived.ChangeMaps5
import Derived.JoinedOf
import Derived.JoinedAt
import Derived.RowKit
import Derived.RowKit3
import Derived.RowKitTokens
import Derived.LaidLaws
import Derived.SevenTiedAt
namespace Go.Proofs.YtheanmadognhbaaGreatDoor
open Go.ChangeShapes Go.WideShapes Go.ChangeAt Go.RowKit
set_option linter.unusedSimpArgs false
set_option linter.unusedVariables false
def laid5 : List (String × DataW Unit) := [("math/bits.deBruijn32tab", Rows.laid_math_bits_deBruijn32tab), ("math/bits.deBruijn64tab", Rows.laid_math_bits_deBruijn64tab), ("internal/strconv.uint64pow10", Rows.laid_internal_strconv_uint64pow10)]
def litCells : List (DataW Unit) → List Value
  | [] => []
  | .lit (.int k n) :: r => .int k n :: litCells r
  | _ :: r => litCells r
def aggCells : DataW Unit → Array Value
  | .agg l => (litCells l).toArray
  | _ => #[]
noncomputable def lay1 (h : Array Obj) (g : Nat) (cs : Array Value) : Array Obj := h.modify g fun
  | .cells _ t frozen => .cells cs t frozen
  | o => o
noncomputable def laidWorld (os : Os) : World :=
  let w0 := World.holding Tryz.prog os ⟨#[], #[], []⟩
  { w0 with heap := lay1 (lay1 (lay1 w0.heap 0 (aggCells Rows.laid_internal_strconv_uint64pow10)) 1 (aggCells Rows.laid_math_bits_deBruijn32tab)) 2 (aggCells Rows.laid_math_bits_deBruijn64tab) }
theorem laidWorld_met (os : Os) (args : Array Value) : laidMet Tryz.prog laid5 ((laidWorld os).forCall (fun _ _ => 0) ⟨#[], args, []⟩).memory :=
  laidMet_of_run' 8 (by kernel_rfl) (by kernel_rfl)
theorem g_pow : Tryz.prog.globalNamed "internal/strconv.uint64pow10" = some 0 := by kernel_rfl
theorem errs_of_laid {w : World} (h : laidMet Tryz.prog laid5 w) : Tab w := by
  have h3 : laidMet Tryz.prog [("internal/strconv.uint64pow10", Lib.tabData .u64 Lib.pow10Tab)] w := h.tail.tail
  exact Lib.tabIs_of_head g_pow (by kernel_rfl) Tryz.underlying205 Tryz.underlying168 (by kernel_rfl) (by kernel_rfl) h3
end Go.Proofs.YtheanmadognhbaaGreatDoor
