import Derived.Test.YtiaeagpepfmfgaaG3q
namespace Go.Proofs.Ytiaeagpepfmfgaa
open Go.RowKit Go.Maps
set_option linter.unusedSimpArgs false
set_option linter.unusedVariables false
section
variable {w w':World} {v:Value} {ts:List Tok}
theorem numW_take (l:Sec) (k:Nat) (c:UInt8) (h:l[k]?=some c):numW (l.take (k+1))=wrap64 (wrap64 (10*numW (l.take k))+((c.toNat:Int) - 48) % 256):=by
 unfold numW
 rw [List.take_add_one,h,Option.toList_some,List.foldl_append]
 rfl
set_option maxHeartbeats 1000000 in
theorem rnum_any (h:TS w v ts) (p:Except Nat Nat) (hp:PosOk ts p) :
  Calls Try.prog 61 #[v,.int .i64 (zP p)] w fun e w'=>e=.returned (.tuple #[.int .i64 (valI (numP ts p)),.int .i64 (zR (numP ts p))])∧w=w':=by
 have hlen:=h.len
 cases p with
 | error k=>
  obtain ⟨a,cap,rfl⟩:=h.shape
  show Calls _ _ #[_,.int .i64 (zP (.error k))] _ (fun e w'=>e=.returned (.tuple #[.int .i64 0,.int .i64 (zP (.error k))])∧w=w')
  obtain ⟨y,hy⟩:∃ y:Int,zP (.error k)=y:=⟨_,rfl⟩
  have hy0:y < 0:=by
   rw [← hy]
   show -1 - (k:Int) < 0
   omega
  rw [hy]
  clear h hp hy
  go_enter Try.func61,Try.ntmps61
  go_wp2_with fail
  go_ret2
  exact ⟨rfl,rfl⟩
 | ok i=>
  have hi:i < ts.length:=hp
  obtain ⟨b,cap,rfl,c0,c1,-⟩:=h.at_ hi
  have KB:=rbad_any i (by omega) w
  show Calls _ _ #[_,.int .i64 (i:Int)] _ (fun e w'=>e=.returned (.tuple #[.int .i64 (valI (numT ts i)),.int .i64 (zR (numT ts i))])∧w=w')
  obtain ⟨k,hk⟩:∃ k,kAt ts i=k:=⟨_,rfl⟩
  obtain ⟨s,hS⟩:∃ S,S=strOf (xAt ts i):=⟨_,rfl⟩
  have hsz:s.size≤1000:=by rw [hS];simpa [strOf,ByteArray.size] using h.txt i
  have hsl:xAt ts i=s.data.toList:=by rw [hS];simp [strOf]
  have i0:(0:Int)≤(i:Int):=by omega
  have i1:(i:Int) < (ts.length:Int):=by omega
  have hb:¬ (i:Int) < 0:=by omega
  by_cases hk1:k=2
  ·have e1:numT ts i=.ok (numW s.data.toList,i+1):=by
    unfold numT
    rw [if_pos (hk.trans hk1),hsl]
   rw [e1]
   show Calls _ _ _ _ (fun e w'=>e=.returned (.tuple #[.int .i64 (numW s.data.toList),.int .i64 ((i+1:Nat):Int)])∧w=w')
   rw [hk,hk1] at c0
   rw [← hS] at c1
   clear h hp hS hk hi e1 KB hsl
   go_enter Try.func61,Try.ntmps61
   go_wp2_with fail
   go_loop [6,7] (fun n j=>∃ k:Nat,k≤s.size∧j=.int .i64 k∧n=.int .i64 (numW (s.data.toList.take k))) (fun _ j=>s.size - (intOf j).toNat)
   case atStart=>exact ⟨0,Nat.zero_le _,rfl,rfl⟩
   case round=>
    obtain ⟨j,hj,rfl,rfl⟩:=hrel
    by_cases hlt:j < s.size
    ·obtain ⟨n0,hn0⟩:∃ n0,n0=numW (s.data.toList.take j):=⟨_,rfl⟩
     rw [← hn0]
     have HN:=Lib.hid hn0
     clear hn0
     go_wp2_with fail
     go_round
     case rel=>exact ⟨j+1,by omega,by go_num,by rw [numW_take _ j _ (byteAt s j hlt),← HN.out]⟩
     case measure=>simp [intOf];omega
    ·obtain rfl:j=s.size:=by omega
     have e2:s.data.toList.take s.size=s.data.toList:=List.take_of_length_le (by rw [bytesLen];exact Nat.le_refl _)
     rw [e2]
     go_wp2_with fail
     go_ret2
     exact ⟨rfl,rfl⟩
  ·have e1:numT ts i=.error i:=if_neg (fun e=>hk1 (hk.symm.trans e))
   rw [e1]
   have hk6:((k:Int) != 2)=true:=by simp;omega
   show Calls _ _ _ _ (fun e w'=>e=.returned (.tuple #[.int .i64 0,.int .i64 (-1 - (i:Int))])∧w=w')
   rw [hk] at c0
   rw [← hS] at c1
   clear h hp hS hk hi e1
   go_enter Try.func61,Try.ntmps61
   go_wp2_with fail
   refine KB.mono ?_
   rintro e w' ⟨rfl,rfl⟩
   go_wp2_with fail
   go_ret2
   exact ⟨rfl,rfl⟩
end
def ops7:List Sec:=[[124,124],[38,38],[60],[60,61],[62],[62,61],[61,61],[33,61],[43],[45],[42],[47],[37]]
theorem lvl_other {x:Sec} (h:x∉ops7):lvl x=0:=by
 unfold lvl
 simp only [ops7,List.mem_cons,List.not_mem_nil,or_false,not_or] at h
 simp [h]
theorem neq_op {s:ByteArray} (hn:s.data.toList∉ops7):∀ m∈ops7,(s.toList == m)=false:=fun m hm=>str_neq (fun e=>hn (by rw [e];exact hm))
set_option maxHeartbeats 4000000 in
theorem rlevel_any (s:ByteArray) (w:World) :
  Calls Try.prog 58 #[.string s] w fun e w'=>e=.returned (.int .i64 (lvl s.data.toList:Nat))∧w=w':=by
 by_cases hm:s.data.toList∈ops7
 ·simp only [ops7,List.mem_cons,List.not_mem_nil,or_false] at hm
  rcases hm with h | h | h | h | h | h | h | h | h | h | h | h | h<;>
  ·obtain rfl:=str_eq_iff.2 h
   clear h
   go_enter Try.func58,Try.ntmps58
   go_wp2
   go_ret
   exact ⟨rfl,rfl⟩
 ·rw [lvl_other hm]
  have n1:=neq_op hm [124,124] (by decide)
  have n2:=neq_op hm [38,38] (by decide)
  have n3:=neq_op hm [60] (by decide)
  have n4:=neq_op hm [60,61] (by decide)
  have n5:=neq_op hm [62] (by decide)
  have n6:=neq_op hm [62,61] (by decide)
  have n7:=neq_op hm [61,61] (by decide)
  have n8:=neq_op hm [33,61] (by decide)
  have n9:=neq_op hm [43] (by decide)
  have n10:=neq_op hm [45] (by decide)
  have n11:=neq_op hm [42] (by decide)
  have n12:=neq_op hm [47] (by decide)
  have n13:=neq_op hm [37] (by decide)
  clear hm
  go_enter Try.func58,Try.ntmps58
  go_wp2
  go_ret
  exact ⟨rfl,rfl⟩
end Go.Proofs.Ytiaeagpepfmfgaa
