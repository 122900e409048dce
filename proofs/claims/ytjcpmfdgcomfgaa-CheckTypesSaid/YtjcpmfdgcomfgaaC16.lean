/- The same tokens, side by side: how the world is left, to the draw. -/
import Derived.Test.YtjcpmfdgcomfgaaC11
namespace Go.Proofs.Ytjcpmfdgcomfgaa
open Go.RowKit Go.Maps
set_option linter.unusedSimpArgs false
set_option linter.unusedVariables false

end Go.Proofs.Ytjcpmfdgcomfgaa
