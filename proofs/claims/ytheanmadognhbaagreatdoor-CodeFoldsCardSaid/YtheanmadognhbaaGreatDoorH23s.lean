import Derived.Test.YtheanmadognhbaaGreatDoorHhs
import Derived.Test.YtheanmadognhbaaGreatDoorH21s
namespace Go.Proofs.YtheanmadognhbaaGreatDoor
open Go.RowKit Go.Maps
set_option linter.unusedSimpArgs false
set_option linter.unusedVariables false
end Go.Proofs.YtheanmadognhbaaGreatDoor
