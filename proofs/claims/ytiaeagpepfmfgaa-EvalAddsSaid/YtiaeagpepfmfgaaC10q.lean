import Derived.Test.YtiaeagpepfmfgaaC8q
import Derived.Test.YtiaeagpepfmfgaaC9q
import Derived.WalkMore
import Derived.Deep.LoopGhost
namespace Go.Proofs.Ytiaeagpepfmfgaa
open Go.RowKit Go.Maps
set_option linter.unusedSimpArgs false
set_option linter.unusedVariables false
theorem dig_not {c:UInt8} (h:isDig c=true):isLet c=false∧isBlk c=false∧c.toNat≠35∧ones.contains c=false∧∀ d,[c,d]∉twos:=by
 simp [isDig] at h
 refine ⟨?_,?_,by omega,?_,fun d hd=>?_⟩
 ·simp only [isLet,Bool.or_eq_false_iff,Bool.and_eq_false_iff,decide_eq_false_iff_not]
  omega
 ·simp only [isBlk,Bool.or_eq_false_iff,decide_eq_false_iff_not]
  omega
 ·rw [Bool.eq_false_iff]
  intro hc
  have hm:c∈ones:=by simpa using hc
  simp only [ones,List.mem_cons,List.not_mem_nil,or_false] at hm
  rcases hm with e | e | e | e | e | e | e | e | e | e | e | e | e | e | e | e | e<;>rw [e] at h<;>revert h<;>decide
 ·simp only [twos,List.mem_cons,List.not_mem_nil,or_false,List.cons.injEq,and_true] at hd
  rcases hd with e | e | e | e | e | e | e | e | e | e<;>rw [e.1] at h<;>revert h<;>decide
theorem signN_dig {c:UInt8} {r:Sec} (h:isDig c=true):signN (c :: r)=0:=by
 obtain ⟨_,_,_,h1,h2⟩:=dig_not h
 have h3:(c :: r).take 2∉twos:=by
  cases r with
  | nil=>
   intro hd
   simp [twos] at hd
  | cons d r=>exact h2 d
 rw [signN_one h3 rfl,if_neg (by rw [h1];simp)]
end Go.Proofs.Ytiaeagpepfmfgaa
