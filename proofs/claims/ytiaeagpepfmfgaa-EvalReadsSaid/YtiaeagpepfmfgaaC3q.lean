import Derived.Test.YtiaeagpepfmfgaaC2q
import Derived.Test.YtiaeagpepfmfgaaLibq
import Derived.Lib.IndexBytes
import Derived.Lib.ItoaWalk
namespace Go.Proofs.Ytiaeagpepfmfgaa
open Go.RowKit Go.Maps
set_option linter.unusedSimpArgs false
set_option linter.unusedVariables false
theorem str_empty {s:ByteArray} (h:s.size=0):s=⟨#[]⟩:=ByteArray.ext (Array.eq_empty_of_size_eq_zero h)
theorem str_head {s:ByteArray} (h:0 < s.size):s.data.toList.head?=some s[0]:=by
 rw [List.head?_eq_getElem?]
 exact byteAt s 0 h
theorem str_eq_iff {s:ByteArray} {l:Sec}:s=⟨l.toArray⟩↔s.data.toList=l:=by
 constructor
 ·intro h
  rw [h]
 ·intro h
  apply ByteArray.ext
  rw [← h]
theorem str_neq {s:ByteArray} {l:Sec} (h:s.data.toList≠l):(s.toList == l)=false:=by
 rw [ByteArray.toList_eq]
 simpa using h
theorem valN_cons (acc:Nat) (c:UInt8) (r:Sec):valN acc (c :: r)=valN (acc*10+(c.toNat - 48)) r:=by conv=>lhs;unfold valN
end Go.Proofs.Ytiaeagpepfmfgaa
