/- The same tokens, side by side. -/
import Derived.Test.YtjcpmfdgcomfgaaC6
namespace Go.Proofs.Ytjcpmfdgcomfgaa
open Go.RowKit Go.Maps
set_option linter.unusedSimpArgs false
set_option linter.unusedVariables false

theorem only_drewN {S : List Nat} {a w : World} {n : Nat} (h : Only S a w) : Only S a (w.drewN n) := ⟨h.os, h.tape, h.output, h.size, h.block⟩
end Go.Proofs.Ytjcpmfdgcomfgaa
