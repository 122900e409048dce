/- What the listed variables hold, and a start at which they do. -/
import Derived.Test.YtajkdkemnchfnaaDoorC3
import Derived.Test.YtajkdkemnchfnaaDoorL
import Derived.Test.YtajkdkemnchfnaaDoorRows
import Derived.Test.YtajkdkemnchfnaaDoorTie
import Derived.Test.YtajkdkemnchfnaaDoorCards
import Derived.Stop.LaidErr
import Derived.SizedLaws
import Derived.ChangeSame
import Derived.ChangeVars
import Derived.ChangeMaps5
import Derived.JoinedOf
import Derived.JoinedAt
import Derived.RowKit
import Derived.RowKit3
import Derived.RowKitTokens
import Derived.LaidLaws
import Derived.SevenTiedAt
namespace Go.Proofs.YtajkdkemnchfnaaDoor
open Go.ChangeShapes Go.WideShapes Go.ChangeAt Go.RowKit
set_option linter.unusedSimpArgs false
set_option linter.unusedVariables false

def laid5 : List (String × DataW Unit) := [("math/bits.deBruijn32tab", Rows.laid_math_bits_deBruijn32tab), ("math/bits.deBruijn64tab", Rows.laid_math_bits_deBruijn64tab), ("internal/strconv.uint64pow10", Rows.laid_internal_strconv_uint64pow10), ("strconv.ErrRange", Rows.laid_strconv_ErrRange), ("strconv.ErrSyntax", Rows.laid_strconv_ErrSyntax)]

abbrev synS : ByteArray := { data := #[105, 110, 118, 97, 108, 105, 100, 32, 115, 121, 110, 116, 97, 120] }
abbrev rngS : ByteArray := { data := #[118, 97, 108, 117, 101, 32, 111, 117, 116, 32, 111, 102, 32, 114, 97, 110, 103, 101] }
def litCells : List (DataW Unit) → List Value
  | [] => []
  | .lit (.int k n) :: r => .int k n :: litCells r
  | _ :: r => litCells r
def aggCells : DataW Unit → Array Value
  | .agg l => (litCells l).toArray
  | _ => #[]
/-- So many blocks has the settled world. -/
noncomputable def low : Nat := (World.holding Tryd.prog default ⟨#[], #[], []⟩).heap.size
noncomputable def lay1 (h : Array Obj) (g : Nat) (cs : Array Value) : Array Obj := h.modify g fun
  | .cells _ t frozen => .cells cs t frozen
  | o => o
/-- The settled world with two blocks more, each an error's text; the listed variables hold what their initialisers lay. -/
noncomputable def laidWorld (os : Os) : World :=
  let w0 := World.holding Tryd.prog os ⟨#[.cells #[.string synS] 74, .cells #[.string rngS] 74], #[], []⟩
  { w0 with heap := lay1 (lay1 (lay1 (lay1 (lay1 w0.heap 0 #[.iface 72 (.pointer (some ⟨low, 0, none⟩))]) 1 #[.iface 72 (.pointer (some ⟨low + 1, 0, none⟩))])
    3 (aggCells Rows.laid_internal_strconv_uint64pow10)) 4 (aggCells Rows.laid_math_bits_deBruijn32tab)) 5 (aggCells Rows.laid_math_bits_deBruijn64tab) }
theorem laidWorld_met (os : Os) (args : Array Value) : laidMet Tryd.prog laid5 ((laidWorld os).forCall (fun _ _ => 0) ⟨#[], args, []⟩).memory :=
  laidMet_of_run' 8 (by kernel_rfl) (by kernel_rfl)

theorem g_syn : Tryd.prog.globalNamed "strconv.ErrSyntax" = some 0 := by kernel_rfl
theorem g_synT : (Tryd.prog.globals[0]?).map (·.type) = some 25 := by kernel_rfl
theorem g_rng : Tryd.prog.globalNamed "strconv.ErrRange" = some 1 := by kernel_rfl
theorem g_rngT : (Tryd.prog.globals[1]?).map (·.type) = some 25 := by kernel_rfl
theorem var_iface {P : Program} {n nm : String} {d : DataW Unit} {r : List (String × DataW Unit)} {W : World} {g : Nat} {ti : TypeId} {ms : Array (String × TypeId)}
    (h : laidMet P ((n, .iface nm d) :: r) W) (hg : P.globalNamed n = some g) (ht : (P.globals[g]?).map (·.type) = some ti) (hi : P.underlying ti = some (.interface ms)) :
    ∃ t p, W.cell? ⟨g, 0, none⟩ = some (.iface t p) := by
  obtain ⟨ps, ⟨g0, t0, cs0, f0, p0, q0, hg0, ht0, hv0, hd0, _, e0⟩, _, hrows⟩ := h
  obtain rfl := Option.some.inj (hg.symm.trans hg0)
  obtain rfl := Option.some.inj (ht.symm.trans ht0)
  have hv := World.var?_cell hg0 hv0 0
  obtain ⟨l0⟩ := cs0
  cases f0 with
  | zero => simp [DataW.trod] at hd0
  | succ f0 =>
    simp only [DataW.trod, hi] at hd0
    match l0, hd0, hv with
    | [], hd0, hv => simp at hd0
    | [c], hd0, hv =>
      cases c with
      | iface t p => exact ⟨t, p, by simpa using hv⟩
      | _ => simp at hd0
    | c :: c' :: l, hd0, hv => simp at hd0
theorem errs_of_laid {w : World} (h : laidMet Tryd.prog laid5 w) : Errs w := by
  have h3 := h.tail.tail.tail
  exact ⟨var_iface h3.tail g_syn g_synT Tryd.underlying25, var_iface h3 g_rng g_rngT Tryd.underlying25⟩
end Go.Proofs.YtajkdkemnchfnaaDoor
