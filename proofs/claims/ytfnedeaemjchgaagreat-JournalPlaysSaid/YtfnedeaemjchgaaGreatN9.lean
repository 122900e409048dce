/- The document's own answer for wire: numbers, rows, the check. -/
import Derived.Test.YtfnedeaemjchgaaGreatN4
import Derived.Test.YtfnedeaemjchgaaGreatN8
namespace Go.Proofs.YtfnedeaemjchgaaGreat
open Go.RowKit Go.Maps
set_option linter.unusedSimpArgs false
set_option linter.unusedVariables false

theorem ref_half (x : Nat) (hx : x < 4294967296) (h : x % 2 = 1) : bits .xor .u32 ((x : Int) / 2) 3988292384 = ((sh1 x : Nat) : Int) := by
  have := xor_u32 (x / 2) poly (by omega) (by decide)
  unfold sh1
  rw [if_pos h, ← this]
  rfl
end Go.Proofs.YtfnedeaemjchgaaGreat
