import Derived.Test.YtiaeagpepfmfgaaC6q
namespace Go.Proofs.Ytiaeagpepfmfgaa
open Go.RowKit Go.Maps
set_option linter.unusedSimpArgs false
set_option linter.unusedVariables false
end Go.Proofs.Ytiaeagpepfmfgaa
