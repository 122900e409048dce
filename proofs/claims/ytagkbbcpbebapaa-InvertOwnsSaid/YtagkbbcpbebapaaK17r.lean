import Derived.Test.YtagkbbcpbebapaaK16r
import Derived.BigQuiet
namespace Go.Proofs.Ytagkbbcpbebapaa
open Go.RowKit Go.Maps
set_option linter.unusedSimpArgs false
set_option linter.unusedVariables false
theorem parseS_code {l:Sec} {k q:Nat} (h:parseS l=.error (k,q)):0 < k:=by
 unfold parseS at h
 repeat' split at h
 all_goals first | (cases h;done) | (cases h;decide)
end Go.Proofs.Ytagkbbcpbebapaa
