import Derived.Test.YtiaeagpepfmfgaaC3q
namespace Go.Proofs.Ytiaeagpepfmfgaa
open Go.RowKit Go.Maps
set_option linter.unusedSimpArgs false
set_option linter.unusedVariables false
theorem signN_two {l:Sec} (h:l.take 2∈twos):signN l=2:=by
 unfold signN
 rw [if_pos (by simpa using h)]
theorem signN_one {l:Sec} {c:UInt8} (h:l.take 2∉twos) (hc:l.head?=some c):signN l=if ones.contains c=true then 1 else 0:=by
 unfold signN
 rw [if_neg (by simpa using h),hc]
 rfl
theorem neq_two {s:ByteArray} {l:Sec} (h:s.data.toList=l) (hn:l∉twos):∀ m∈twos,(s.toList == m)=false:=fun m hm=>str_neq (fun e=>hn (by rw [← h,e];exact hm))
end Go.Proofs.Ytiaeagpepfmfgaa
