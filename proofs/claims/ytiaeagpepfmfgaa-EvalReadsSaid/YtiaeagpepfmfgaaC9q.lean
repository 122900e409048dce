import Derived.Test.YtiaeagpepfmfgaaC4q
namespace Go.Proofs.Ytiaeagpepfmfgaa
open Go.RowKit Go.Maps
set_option linter.unusedSimpArgs false
set_option linter.unusedVariables false
def lettersL:Sec:=[97,98,99,100,101,102,103,104,105,106,107,108,109,110,111,112,113,114,115,116,117,118,119,120,121,122,65,66,67,68,69,70,71,72,73,74,75,76,77,78,79,80,81,82,83,84,85,86,87,88,89,90]
def digitsL:Sec:=[48,49,50,51,52,53,54,55,56,57]
def wordsL:Sec:=lettersL++digitsL++[95]
theorem lets_256:∀ n < 256,lettersL.contains (UInt8.ofNat n)=isLet (UInt8.ofNat n):=by decide +kernel
theorem digs_256:∀ n < 256,digitsL.contains (UInt8.ofNat n)=isDig (UInt8.ofNat n):=by decide +kernel
theorem wrds_256:∀ n < 256,wordsL.contains (UInt8.ofNat n)=isWrd (UInt8.ofNat n):=by decide +kernel
theorem lets_all (c:UInt8):lettersL.contains c=isLet c:=by have:=lets_256 c.toNat c.toNat_lt;rwa [UInt8.ofNat_toNat] at this
theorem digs_all (c:UInt8):digitsL.contains c=isDig c:=by have:=digs_256 c.toNat c.toNat_lt;rwa [UInt8.ofNat_toNat] at this
theorem wrds_all (c:UInt8):wordsL.contains c=isWrd c:=by have:=wrds_256 c.toNat c.toNat_lt;rwa [UInt8.ofNat_toNat] at this
theorem byte_ne {a b:UInt8} (h:a≠b):((a.toNat:Int) == (b.toNat:Int))=false:=by
 have h2:a.toNat≠b.toNat:=fun e=>h (UInt8.toNat_inj.1 e)
 simp
 omega
set_option maxHeartbeats 1000000 in
theorem has_any (s:ByteArray) (c:UInt8) (w:World) (hs:s.size≤9223372036854775807) :
  Calls Try.prog 55 #[.string s,.int .u8 (c.toNat:Int)] w fun e w'=>e=.returned (.bool (s.data.toList.contains c))∧w=w':=by
 obtain ⟨r,hr⟩:∃ r,r=s.data.toList.contains c:=⟨_,rfl⟩
 rw [← hr]
 have HR:=Lib.hid hr
 clear hr
 go_enter Try.func55,Try.ntmps55
 go_wp2
 go_loop [5] (fun i=>∃ k:Nat,k≤s.size∧i=.int .i64 k∧Hid (∀ j (h:j < s.size),j < k→s[j]≠c)) (fun i=>s.size - (intOf i).toNat)
 case atStart=>exact ⟨0,Nat.zero_le _,rfl,Lib.hid (fun j h hj=>by omega)⟩
 case round=>
  obtain ⟨k,hk,rfl,HK⟩:=hrel
  by_cases hlt:k < s.size
  ·by_cases hc:s[k]=c
   ·have f:((s[k].toNat:Int) == (c.toNat:Int))=true:=by rw [hc];simp
    obtain rfl:r=true:=by
     rw [HR.out]
     have:=List.mem_of_getElem? (byteAt s k hlt)
     rw [hc] at this
     simpa using this
    clear hc HR HK
    go_wp2
    go_ret
    exact ⟨rfl,rfl⟩
   ·have f:=byte_ne hc
    have HK1:Hid (∀ j (h:j < s.size),j < k+1→s[j]≠c):=Lib.hid (fun j h hj=>by
     by_cases e:j=k
     ·subst e;exact hc
     ·exact HK.out j h (by omega))
    clear hc HK
    go_wp2
    go_round
    case rel=>exact ⟨k+1,by omega,by go_num,HK1⟩
    case measure=>simp [intOf];omega
  ·obtain rfl:r=false:=by
    rw [HR.out]
    rw [Bool.eq_false_iff]
    intro h
    have hm:c∈s.data.toList:=by simpa using h
    obtain ⟨i,hi⟩:=List.getElem?_of_mem hm
    have hil:=(List.getElem?_eq_some_iff.1 hi).1
    rw [bytesLen] at hil
    rw [byteAt s i hil] at hi
    exact HK.out i hil (by omega) (Option.some.inj hi)
   clear HR HK
   go_wp2
   go_ret
   exact ⟨rfl,rfl⟩
set_option maxHeartbeats 1000000 in
theorem all_any (s S:ByteArray) (w:World) (hs:s.size≤9223372036854775807) (hS:S.size≤9223372036854775807) :
  Calls Try.prog 36 #[.string s,.string S] w fun e w'=>e=.returned (.bool (s.data.toList.all fun c=>S.data.toList.contains c))∧w=w':=by
 obtain ⟨r,hr⟩:∃ r,r=s.data.toList.all fun c=>S.data.toList.contains c:=⟨_,rfl⟩
 rw [← hr]
 have HR:=Lib.hid hr
 clear hr
 go_enter Try.func36,Try.ntmps36
 go_wp2
 go_loop [5] (fun i=>∃ k:Nat,k≤s.size∧i=.int .i64 k∧Hid (∀ j (h:j < s.size),j < k→S.data.toList.contains s[j]=true)) (fun i=>s.size - (intOf i).toNat)
 case atStart=>exact ⟨0,Nat.zero_le _,rfl,Lib.hid (fun j h hj=>by omega)⟩
 case round=>
  obtain ⟨k,hk,rfl,HK⟩:=hrel
  by_cases hlt:k < s.size
  ·have K:=has_any S s[k] w hS
   cases hc:S.data.toList.contains s[k] with
   | false=>
    rw [hc] at K
    obtain rfl:r=false:=by
     rw [HR.out,Bool.eq_false_iff]
     intro h
     have:=List.all_eq_true.1 h _ (List.mem_of_getElem? (byteAt s k hlt))
     rw [hc] at this
     cases this
    clear hc HR HK
    go_wp2_with (go_at_call 55;refine K.mono ?_;rintro e w' ⟨rfl,rfl⟩)
    go_ret
    exact ⟨rfl,rfl⟩
   | true=>
    rw [hc] at K
    have HK1:Hid (∀ j (h:j < s.size),j < k+1→S.data.toList.contains s[j]=true):=Lib.hid (fun j h hj=>by
     by_cases e:j=k
     ·subst e;exact hc
     ·exact HK.out j h (by omega))
    clear hc HK
    go_wp2_with (go_at_call 55;refine K.mono ?_;rintro e w' ⟨rfl,rfl⟩)
    go_round
    case rel=>exact ⟨k+1,by omega,by go_num,HK1⟩
    case measure=>simp [intOf];omega
  ·obtain rfl:r=true:=by
    rw [HR.out,List.all_eq_true]
    intro c hm
    obtain ⟨i,hi⟩:=List.getElem?_of_mem hm
    have hil:=(List.getElem?_eq_some_iff.1 hi).1
    rw [bytesLen] at hil
    rw [byteAt s i hil] at hi
    rw [← Option.some.inj hi]
    exact HK.out i hil (by omega)
   clear HR HK
   go_wp2
   go_ret
   exact ⟨rfl,rfl⟩
def longB (l:Sec):Bool:=(l.head?.map isLet).getD false && l.all isWrd
def wordB (l:Sec):Bool:=longB l && decide (l.length≤16)
theorem runN_whole (p:UInt8→Bool):∀ l:Sec,runN p l=l.length↔l.all p=true
 | []=>by simp [runN]
 | c :: r=>by
  have ih:=runN_whole p r
  simp only [runN,List.length_cons,List.all_cons,Bool.and_eq_true]
  by_cases h:p c=true
  ·simp only [h,if_true,true_and]
   rw [← ih]
   omega
  ·simp [h]
theorem all_words (l:Sec):(l.all fun c=>wordsL.contains c)=l.all isWrd:=by
 congr 1
 funext c
 exact wrds_all c
theorem all_digits (l:Sec):(l.all fun c=>digitsL.contains c)=l.all isDig:=by
 congr 1
 funext c
 exact digs_all c
theorem long_any (s:ByteArray) (w:World) (hs:s.size≤9223372036854775807) :
  Calls Try.prog 35 #[.string s] w fun e w'=>e=.returned (.bool (longB s.data.toList))∧w=w':=by
 by_cases h0:s.size=0
 ·obtain rfl:=str_empty h0
  clear h0 hs
  go_enter Try.func35,Try.ntmps35
  go_wp2
  go_ret
  exact ⟨rfl,rfl⟩
 ·have hpos:0 < s.size:=by omega
  have hhd:=str_head hpos
  have K1:Calls Try.prog 55 #[.string ⟨lettersL.toArray⟩,.int .u8 (s[0].toNat:Int)] w fun e w'=>e=.returned (.bool (isLet s[0]))∧w=w':=by
   have:=has_any ⟨lettersL.toArray⟩ s[0] w (by decide)
   rwa [show (⟨lettersL.toArray⟩:ByteArray).data.toList=lettersL from rfl,lets_all] at this
  have K2:Calls Try.prog 36 #[.string s,.string ⟨wordsL.toArray⟩] w fun e w'=>e=.returned (.bool (s.data.toList.all isWrd))∧w=w':=by
   have:=all_any s ⟨wordsL.toArray⟩ w hs (by decide)
   rwa [show (⟨wordsL.toArray⟩:ByteArray).data.toList=wordsL from rfl,all_words] at this
  have hL:longB s.data.toList=(isLet s[0] && s.data.toList.all isWrd):=by
   unfold longB
   rw [hhd]
   rfl
  rw [hL]
  clear hL hhd
  generalize isLet s[0]=b1 at K1⊢
  generalize s.data.toList.all isWrd=b2 at K2⊢
  cases b1 with
  | false=>
   go_enter Try.func35,Try.ntmps35
   go_wp2_with (go_at_call 55;refine K1.mono ?_;rintro e w' ⟨rfl,rfl⟩)
   go_ret
   exact ⟨rfl,rfl⟩
  | true=>
   go_enter Try.func35,Try.ntmps35
   go_wp2_with (first
    | (go_at_call 55;refine K1.mono ?_;rintro e w' ⟨rfl,rfl⟩)
    | (go_at_call 36;refine K2.mono ?_;rintro e w' ⟨rfl,rfl⟩))
   go_ret
   exact ⟨rfl,rfl⟩
theorem RWord_any (s:ByteArray) (w:World) (hs:s.size≤9223372036854775807) :
  Calls Try.prog 38 #[.string s] w fun e w'=>e=.returned (.bool (wordB s.data.toList))∧w=w':=by
 have K:=long_any s w hs
 unfold wordB
 rw [bytesLen]
 generalize longB s.data.toList=b at K⊢
 cases b with
 | false=>
  go_enter Try.func38,Try.ntmps38
  go_wp2_with (go_at_call 35;refine K.mono ?_;rintro e w' ⟨rfl,rfl⟩)
  go_ret
  exact ⟨rfl,rfl⟩
 | true=>
  by_cases h:s.size≤16
  ·have d1:decide ((s.size:Int)≤16)=true:=by simp;omega
   rw [decide_eq_true h]
   go_enter Try.func38,Try.ntmps38
   go_wp2_with (go_at_call 35;refine K.mono ?_;rintro e w' ⟨rfl,rfl⟩)
   go_ret
   exact ⟨rfl,rfl⟩
  ·have d1:decide ((s.size:Int)≤16)=false:=by simp;omega
   rw [decide_eq_false h]
   go_enter Try.func38,Try.ntmps38
   go_wp2_with (go_at_call 35;refine K.mono ?_;rintro e w' ⟨rfl,rfl⟩)
   go_ret
   exact ⟨rfl,rfl⟩
def kws:List Sec:=[[111,112],[110,101,101,100],[108,101,116],[105,102],[101,108,115,101],[102,111,114],[105,110],[103,105,118,101],[116,114,117,101],[102,97,108,115,101]]
theorem neq_kw {s:ByteArray} (hn:s.data.toList∉kws):∀ m∈kws,(s.toList == m)=false:=fun m hm=>str_neq (fun e=>hn (by rw [e];exact hm))
set_option maxHeartbeats 4000000 in
theorem RKeyword_any (s:ByteArray) (w:World) :
  Calls Try.prog 56 #[.string s] w fun e w'=>e=.returned (.bool (kws.contains s.data.toList))∧w=w':=by
 by_cases hm:s.data.toList∈kws
 ·rw [show kws.contains s.data.toList=true by simpa using hm]
  simp only [kws,List.mem_cons,List.not_mem_nil,or_false] at hm
  rcases hm with h | h | h | h | h | h | h | h | h | h<;>
  ·obtain rfl:=str_eq_iff.2 h
   clear h
   go_enter Try.func56,Try.ntmps56
   go_wp2
   go_ret
   exact ⟨rfl,rfl⟩
 ·rw [show kws.contains s.data.toList=false by simpa using hm]
  have n1:=neq_kw hm [111,112] (by decide)
  have n2:=neq_kw hm [110,101,101,100] (by decide)
  have n3:=neq_kw hm [108,101,116] (by decide)
  have n4:=neq_kw hm [105,102] (by decide)
  have n5:=neq_kw hm [101,108,115,101] (by decide)
  have n6:=neq_kw hm [102,111,114] (by decide)
  have n7:=neq_kw hm [105,110] (by decide)
  have n8:=neq_kw hm [103,105,118,101] (by decide)
  have n9:=neq_kw hm [116,114,117,101] (by decide)
  have n10:=neq_kw hm [102,97,108,115,101] (by decide)
  clear hm
  go_enter Try.func56,Try.ntmps56
  go_wp2
  go_ret
  exact ⟨rfl,rfl⟩
end Go.Proofs.Ytiaeagpepfmfgaa
