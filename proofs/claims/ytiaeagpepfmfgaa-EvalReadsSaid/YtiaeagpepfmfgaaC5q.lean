import Derived.Test.YtiaeagpepfmfgaaC3q
import Derived.WalkMore
import Derived.Deep.LoopGhost
namespace Go.Proofs.Ytiaeagpepfmfgaa
open Go.RowKit Go.Maps
set_option linter.unusedSimpArgs false
set_option linter.unusedVariables false
theorem gap_blank {l:Sec} {k:Nat} {c:UInt8} (h:l[k]?=some c) (hb:isBlk c=true):gapN false (l.drop k)=1+gapN false (l.drop (k+1)):=by
 obtain ⟨hlt,hc⟩:=List.getElem?_eq_some_iff.1 h
 rw [List.drop_eq_getElem_cons hlt,hc]
 simp only [gapN,hb,if_true]
 omega
theorem gap_remark {l:Sec} {k:Nat} {c:UInt8} (h:l[k]?=some c) (hb:c.toNat=35):gapN false (l.drop k)=runN isRem (l.drop k)+gapN false (l.drop (k+runN isRem (l.drop k)))∧0 < runN isRem (l.drop k):=by
 obtain ⟨hlt,hc⟩:=List.getElem?_eq_some_iff.1 h
 have h1:isBlk c=false:=by simp [isBlk,hb]
 have h2:isRem c=true:=by simp [isRem,hb]
 have h3:=gapN_rem (l.drop (k+1))
 rw [List.drop_eq_getElem_cons hlt,hc]
 have e:runN isRem (c :: l.drop (k+1))=runN isRem (l.drop (k+1))+1:=by simp only [runN,h2,if_true]
 rw [e]
 rw [List.drop_drop] at h3
 rw [show k+(runN isRem (l.drop (k+1))+1)=k+1+runN isRem (l.drop (k+1)) by omega]
 simp only [gapN,h1,hb,Bool.false_eq_true,if_false,if_true]
 omega
end Go.Proofs.Ytiaeagpepfmfgaa
