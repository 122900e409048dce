import Derived.Test.YtiaeagpepfmfgaaB2q
import Derived.Test.YtiaeagpepfmfgaaC1q
import Derived.LoopTactic
namespace Go.Proofs.Ytiaeagpepfmfgaa
open Go.RowKit Go.Maps
set_option linter.unusedSimpArgs false
set_option linter.unusedVariables false
theorem byteAt (s:ByteArray) (k:Nat) (h:k < s.size):s.data.toList[k]?=some s[k]:=by
 rw [List.getElem?_eq_getElem (by simpa using h)]
 rfl
theorem bytesLen (s:ByteArray):s.data.toList.length=s.size:=by simp [Array.length_toList]
end Go.Proofs.Ytiaeagpepfmfgaa
