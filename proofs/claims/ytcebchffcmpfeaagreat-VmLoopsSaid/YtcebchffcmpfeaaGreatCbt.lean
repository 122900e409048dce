import Derived.Test.YtcebchffcmpfeaaGreatCat
import Derived.WalkLawsBesides
namespace Go.Proofs.YtcebchffcmpfeaaGreat
set_option linter.unusedVariables false
set_option linter.unusedSimpArgs false
set_option maxRecDepth 100000
set_option maxHeartbeats 16000000
open Go.RowKit Go.Maps
def lettersL:Sec:=[97,98,99,100,101,102,103,104,105,106,107,108,109,110,111,112,113,114,115,116,117,118,119,120,121,122,65,66,67,68,69,70,71,72,73,74,75,76,77,78,79,80,81,82,83,84,85,86,87,88,89,90]
def digitsL:Sec:=[48,49,50,51,52,53,54,55,56,57]
def wordsL:Sec:=lettersL++digitsL++[95]
theorem lets_256:∀ n < 256,lettersL.contains (UInt8.ofNat n)=cQ (UInt8.ofNat n):=by decide +kernel
theorem digs_256:∀ n < 256,digitsL.contains (UInt8.ofNat n)=aK (UInt8.ofNat n):=by decide +kernel
theorem wrds_256:∀ n < 256,wordsL.contains (UInt8.ofNat n)=cx (UInt8.ofNat n):=by decide +kernel
theorem lets_all (c:UInt8):lettersL.contains c=cQ c:=by have:=lets_256 c.toNat c.toNat_lt;rwa [UInt8.ofNat_toNat] at this
theorem digs_all (c:UInt8):digitsL.contains c=aK c:=by have:=digs_256 c.toNat c.toNat_lt;rwa [UInt8.ofNat_toNat] at this
theorem wrds_all (c:UInt8):wordsL.contains c=cx c:=by have:=wrds_256 c.toNat c.toNat_lt;rwa [UInt8.ofNat_toNat] at this
theorem byte_ne {a b:UInt8} (h:a≠b):((a.toNat:Int) == (b.toNat:Int))=false:=by
 have h2:a.toNat≠b.toNat:=fun e=>h (UInt8.toNat_inj.1 e);simp;omega
theorem pj (s:ByteArray) (c:UInt8) (w:World) (hs:s.size≤9223372036854775807) :
  Calls Tryz.prog 85 #[.string s,.int .u8 (c.toNat:Int)] w fun e w'=>e=.returned (.bool (s.data.toList.contains c))∧w=w':=by
 obtain ⟨r,hr⟩:∃ r,r=s.data.toList.contains c:=⟨_,rfl⟩
 rw [← hr];have HR:=Hd hr;clear hr
 go_enter Tryz.func85,Tryz.ntmps85
 go_wp2
 go_loop [5] (fun i=>∃ k:Nat,k≤s.size∧i=.int .i64 k∧Hid (∀ j (h:j < s.size),j < k→s[j]≠c)) (fun i=>s.size - (intOf i).toNat)
 case atStart=>exact ⟨0,Nat.zero_le _,rfl,Hd (fun j h hj=>by omega)⟩
 case round=>
  obtain ⟨k,hk,rfl,HK⟩:=hrel
  by_cases hlt:k < s.size
  ·by_cases hc:s[k]=c
   ·have f:((s[k].toNat:Int) == (c.toNat:Int))=true:=by rw [hc];simp
    obtain rfl:r=true:=by
     rw [HR.out];have:=List.mem_of_getElem? (fS s k hlt)
     rw [hc] at this;simpa using this
    clear hc HR HK
    go_wp2
    go_ret;exact ⟨rfl,rfl⟩
   ·have f:=byte_ne hc
    have HK1:Hid (∀ j (h:j < s.size),j < k+1→s[j]≠c):=Hd (fun j h hj=>by
     by_cases e:j=k
     ·subst e;exact hc
     ·exact HK.out j h (by omega))
    clear hc HK
    go_wp2
    go_round
    case rel=>exact ⟨k+1,by omega,by go_num,HK1⟩
    case measure=>simp [intOf];omega
  ·obtain rfl:r=false:=by
    rw [HR.out];rw [Bool.eq_false_iff];intro h;have hm:c∈s.data.toList:=by simpa using h
    obtain ⟨i,hi⟩:=List.getElem?_of_mem hm;have hil:=(List.getElem?_eq_some_iff.1 hi).1;rw [aQ] at hil;rw [fS s i hil] at hi;exact HK.out i hil (by omega) (Option.some.inj hi)
   clear HR HK
   go_wp2
   go_ret;exact ⟨rfl,rfl⟩
theorem un (s S:ByteArray) (w:World) (hs:s.size≤9223372036854775807) (hS:S.size≤9223372036854775807) :
  Calls Tryz.prog 53 #[.string s,.string S] w fun e w'=>e=.returned (.bool (s.data.toList.all fun c=>S.data.toList.contains c))∧w=w':=by
 obtain ⟨r,hr⟩:∃ r,r=s.data.toList.all fun c=>S.data.toList.contains c:=⟨_,rfl⟩
 rw [← hr];have HR:=Hd hr;clear hr
 go_enter Tryz.func53,Tryz.ntmps53
 go_wp2
 go_loop [5] (fun i=>∃ k:Nat,k≤s.size∧i=.int .i64 k∧Hid (∀ j (h:j < s.size),j < k→S.data.toList.contains s[j]=true)) (fun i=>s.size - (intOf i).toNat)
 case atStart=>exact ⟨0,Nat.zero_le _,rfl,Hd (fun j h hj=>by omega)⟩
 case round=>
  obtain ⟨k,hk,rfl,HK⟩:=hrel
  by_cases hlt:k < s.size
  ·have K:=pj S s[k] w hS;cases hc:S.data.toList.contains s[k] with
   | false=>
    rw [hc] at K;obtain rfl:r=false:=by
     rw [HR.out,Bool.eq_false_iff];intro h;have:=List.all_eq_true.1 h _ (List.mem_of_getElem? (fS s k hlt));rw [hc] at this;cases this
    clear hc HR HK;go_wp2_with (go_at_call 85;refine K.mono ?_;rintro e w' ⟨rfl,rfl⟩)
    go_ret;exact ⟨rfl,rfl⟩
   | true=>
    rw [hc] at K
    have HK1:Hid (∀ j (h:j < s.size),j < k+1→S.data.toList.contains s[j]=true):=Hd (fun j h hj=>by
     by_cases e:j=k
     ·subst e;exact hc
     ·exact HK.out j h (by omega))
    clear hc HK;go_wp2_with (go_at_call 85;refine K.mono ?_;rintro e w' ⟨rfl,rfl⟩)
    go_round
    case rel=>exact ⟨k+1,by omega,by go_num,HK1⟩
    case measure=>simp [intOf];omega
  ·obtain rfl:r=true:=by
    rw [HR.out,List.all_eq_true];intro c hm;obtain ⟨i,hi⟩:=List.getElem?_of_mem hm;have hil:=(List.getElem?_eq_some_iff.1 hi).1;rw [aQ] at hil;rw [fS s i hil] at hi;rw [← Option.some.inj hi];exact HK.out i hil (by omega)
   clear HR HK
   go_wp2
   go_ret;exact ⟨rfl,rfl⟩
def fj (l:Sec):Bool:=(l.head?.map cQ).getD false && l.all cx
def wordB (l:Sec):Bool:=fj l && decide (l.length≤16)
theorem kK (p:UInt8→Bool):∀ l:Sec,bF p l=l.length↔l.all p=true
 | []=>by simp [bF]
 | c :: r=>by
  have ih:=kK p r;simp only [bF,List.length_cons,List.all_cons,Bool.and_eq_true]
  by_cases h:p c=true
  ·simp only [h,if_true,true_and];rw [← ih];omega
  ·simp [h]
theorem uo (l:Sec):(l.all fun c=>wordsL.contains c)=l.all cx:=by
 congr 1;funext c;exact wrds_all c
theorem rW (l:Sec):(l.all fun c=>digitsL.contains c)=l.all aK:=by
 congr 1;funext c;exact digs_all c
theorem lK (s:ByteArray) (w:World) (hs:s.size≤9223372036854775807) :
  Calls Tryz.prog 52 #[.string s] w fun e w'=>e=.returned (.bool (fj s.data.toList))∧w=w':=by
 by_cases h0:s.size=0
 ·obtain rfl:=ui h0;clear h0 hs
  go_enter Tryz.func52,Tryz.ntmps52
  go_wp2
  go_ret;exact ⟨rfl,rfl⟩
 ·have hpos:0 < s.size:=by omega
  have hhd:=lJ hpos;have K1:Calls Tryz.prog 85 #[.string ⟨lettersL.toArray⟩,.int .u8 (s[0].toNat:Int)] w fun e w'=>e=.returned (.bool (cQ s[0]))∧w=w':=by
   have:=pj ⟨lettersL.toArray⟩ s[0] w (by decide)
   rwa [show (⟨lettersL.toArray⟩:ByteArray).data.toList=lettersL from rfl,lets_all] at this
  have K2:Calls Tryz.prog 53 #[.string s,.string ⟨wordsL.toArray⟩] w fun e w'=>e=.returned (.bool (s.data.toList.all cx))∧w=w':=by
   have:=un s ⟨wordsL.toArray⟩ w hs (by decide)
   rwa [show (⟨wordsL.toArray⟩:ByteArray).data.toList=wordsL from rfl,uo] at this
  have hL:fj s.data.toList=(cQ s[0] && s.data.toList.all cx):=by
   unfold fj;rw [hhd];rfl
  rw [hL];clear hL hhd;generalize cQ s[0]=b1 at K1⊢;generalize s.data.toList.all cx=b2 at K2⊢;cases b1 with
  | false=>
   go_enter Tryz.func52,Tryz.ntmps52
   go_wp2_with (go_at_call 85;refine K1.mono ?_;rintro e w' ⟨rfl,rfl⟩)
   go_ret;exact ⟨rfl,rfl⟩
  | true=>
   go_enter Tryz.func52,Tryz.ntmps52
   go_wp2_with (first
    | (go_at_call 85;refine K1.mono ?_;rintro e w' ⟨rfl,rfl⟩)
    | (go_at_call 53;refine K2.mono ?_;rintro e w' ⟨rfl,rfl⟩))
   go_ret;exact ⟨rfl,rfl⟩
theorem uq (s:ByteArray) (w:World) (hs:s.size≤9223372036854775807) :
  Calls Tryz.prog 55 #[.string s] w fun e w'=>e=.returned (.bool (wordB s.data.toList))∧w=w':=by
 have K:=lK s w hs;unfold wordB;rw [aQ];generalize fj s.data.toList=b at K⊢;cases b with
 | false=>
  go_enter Tryz.func55,Tryz.ntmps55
  go_wp2_with (go_at_call 52;refine K.mono ?_;rintro e w' ⟨rfl,rfl⟩)
  go_ret;exact ⟨rfl,rfl⟩
 | true=>
  by_cases h:s.size≤16
  ·have d1:decide ((s.size:Int)≤16)=true:=by simp;omega
   rw [decide_eq_true h]
   go_enter Tryz.func55,Tryz.ntmps55
   go_wp2_with (go_at_call 52;refine K.mono ?_;rintro e w' ⟨rfl,rfl⟩)
   go_ret;exact ⟨rfl,rfl⟩
  ·have d1:decide ((s.size:Int)≤16)=false:=by simp;omega
   rw [decide_eq_false h]
   go_enter Tryz.func55,Tryz.ntmps55
   go_wp2_with (go_at_call 52;refine K.mono ?_;rintro e w' ⟨rfl,rfl⟩)
   go_ret;exact ⟨rfl,rfl⟩
def kws:List Sec:=[[111,112],[110,101,101,100],[108,101,116],[105,102],[101,108,115,101],[102,111,114],[105,110],[103,105,118,101],[116,114,117,101],[102,97,108,115,101]]
theorem fo {s:ByteArray} (hn:s.data.toList∉kws):∀ m∈kws,(s.toList == m)=false:=fun m hm=>fy (fun e=>hn (by rw [e];exact hm))
theorem mL (s:ByteArray) (w:World) :
  Calls Tryz.prog 86 #[.string s] w fun e w'=>e=.returned (.bool (kws.contains s.data.toList))∧w=w':=by
 by_cases hm:s.data.toList∈kws
 ·rw [show kws.contains s.data.toList=true by simpa using hm];simp only [kws,List.mem_cons,List.not_mem_nil,or_false] at hm;rcases hm with h | h | h | h | h | h | h | h | h | h<;>
  ·obtain rfl:=bk.2 h;clear h
   go_enter Tryz.func86,Tryz.ntmps86
   go_wp2
   go_ret;exact ⟨rfl,rfl⟩
 ·rw [show kws.contains s.data.toList=false by simpa using hm];have n1:=fo hm [111,112] (by decide);have n2:=fo hm [110,101,101,100] (by decide);have n3:=fo hm [108,101,116] (by decide);have n4:=fo hm [105,102] (by decide);have n5:=fo hm [101,108,115,101] (by decide);have n6:=fo hm [102,111,114] (by decide);have n7:=fo hm [105,110] (by decide);have n8:=fo hm [103,105,118,101] (by decide);have n9:=fo hm [116,114,117,101] (by decide);have n10:=fo hm [102,97,108,115,101] (by decide);clear hm
  go_enter Tryz.func86,Tryz.ntmps86
  go_wp2
  go_ret;exact ⟨rfl,rfl⟩
def ur (u:Nat):Sec:=if h:u < 10 then [UInt8.ofNat (48+u)] else ur (u / 10)++[UInt8.ofNat (48+u % 10)]
termination_by u
decreasing_by omega
theorem kL {u:Nat} (h:u < 10):ur u=[UInt8.ofNat (48+u)]:=by
 conv=>lhs;unfold ur
 rw [dif_pos h]
theorem decL_big {u:Nat} (h:¬ u < 10):ur u=ur (u / 10)++[UInt8.ofNat (48+u % 10)]:=by
 conv=>lhs;unfold ur
 rw [dif_neg h]
theorem qN:∀ (k u:Nat),u < 10 ^ (k+1)→(ur u).length≤k+1
 | 0,u,h=>by rw [kL (by omega)];simp
 | k+1,u,h=>by
  by_cases hu:u < 10
  ·rw [kL hu];simp
  ·have:=qN k (u / 10) (by rw [Nat.pow_succ] at h;omega);rw [decL_big hu,List.length_append,List.length_singleton];omega
theorem ut {u:Nat} (h:u < 9223372036854775808):(ur u).length≤19:=qN 18 u (by omega)
theorem pl {c:UInt8} (h:aK c=true):cQ c=false∧ej c=false∧c.toNat≠35∧ones.contains c=false∧∀ d,[c,d]∉twos:=by
 simp [aK] at h;refine ⟨?_,?_,by omega,?_,fun d hd=>?_⟩
 ·simp only [cQ,Bool.or_eq_false_iff,Bool.and_eq_false_iff,decide_eq_false_iff_not];omega
 ·simp only [ej,Bool.or_eq_false_iff,decide_eq_false_iff_not];omega
 ·rw [Bool.eq_false_iff];intro hc;have hm:c∈ones:=by simpa using hc
  simp only [ones,List.mem_cons,List.not_mem_nil,or_false] at hm;rcases hm with e | e | e | e | e | e | e | e | e | e | e | e | e | e | e | e | e<;>rw [e] at h<;>revert h<;>decide
 ·simp only [twos,List.mem_cons,List.not_mem_nil,or_false,List.cons.injEq,and_true] at hd;rcases hd with e | e | e | e | e | e | e | e | e | e<;>rw [e.1] at h<;>revert h<;>decide
theorem uu {c:UInt8} {r:Sec} (h:aK c=true):fh (c :: r)=0:=by
 obtain ⟨_,_,_,h1,h2⟩:=pl h;have h3:(c :: r).take 2∉twos:=by
  cases r with
  | nil=>
   intro hd;simp [twos] at hd
  | cons d r=>exact h2 d
 rw [co h3 rfl,if_neg (by rw [h1];simp)]
def DInv (n m:Nat) (t:Sec):Prop:=(t=[]∧m=n)∨(t≠[]∧(m=0∧ur n=t∨0 < m∧ur n=ur m++t))
theorem DInv.len {n m:Nat} {t:Sec} (h:DInv n m t) (hn:n < 9223372036854775808):t.length≤19:=by
 have:=ut hn;rcases h with ⟨rfl,rfl⟩ | ⟨_,⟨_,h⟩ | ⟨_,h⟩⟩
 ·simp
 ·rw [← h];exact this
 ·rw [h,List.length_append] at this;omega
theorem lL (acc:Nat):iM acc []=acc:=rfl
theorem eJ:∀ (l:Sec) (acc:Nat),iM acc l=acc*10 ^ l.length+iM 0 l
 | [],acc=>by rw [lL,lL,List.length_nil,Nat.pow_zero,Nat.mul_one,Nat.add_zero]
 | c :: r,acc=>by
  rw [dA,dA,eJ r (acc*10+(c.toNat - 48)),eJ r (0*10+(c.toNat - 48)),List.length_cons,Nat.pow_succ,Nat.zero_mul,Nat.zero_add,Nat.add_mul];have:acc*10*10 ^ r.length=acc*(10 ^ r.length*10):=by rw [Nat.mul_assoc,Nat.mul_comm 10]
  omega
theorem lM:∀ (l:Sec),(∀ c∈l,aK c=true)→iM 0 l < 10 ^ l.length
 | [],_=>by rw [lL];exact Nat.one_pos
 | c :: r,h=>by
  have ih:=lM r (fun x hx=>h x (by simp [hx]));have hc:=h c (by simp);simp only [aK,Bool.and_eq_true,decide_eq_true_eq] at hc;rw [dA,eJ,List.length_cons,Nat.pow_succ,Nat.zero_mul,Nat.zero_add];have h1:(c.toNat - 48)*10 ^ r.length≤9*10 ^ r.length:=Nat.mul_le_mul_right _ (by omega);omega
theorem rX {c:UInt8} {r:Sec} (hc:aK c=true) (h:c≠48):10 ^ r.length≤iM 0 (c :: r):=by
 simp only [aK,Bool.and_eq_true,decide_eq_true_eq] at hc;have h2:c.toNat≠48:=fun e=>h (UInt8.toNat_inj.1 e);rw [dA,eJ,Nat.zero_mul,Nat.zero_add];have h1:1*10 ^ r.length≤(c.toNat - 48)*10 ^ r.length:=Nat.mul_le_mul_right _ (by omega);omega
theorem qO:∀ (l m:Sec),l.length=m.length→(∀ c∈l,aK c=true)→(∀ c∈m,aK c=true)→((Op.bytesLess l m=true↔iM 0 l < iM 0 m)∧(l=m↔iM 0 l=iM 0 m))
 | [],[],_,_,_=>⟨⟨fun h=>by simp [Op.bytesLess] at h,fun h=>absurd h (Nat.lt_irrefl _)⟩,⟨fun _=>rfl,fun _=>rfl⟩⟩
 | [],d :: m,h,_,_=>by simp at h
 | c :: l,[],h,_,_=>by simp at h
 | c :: l,d :: m,h,hl,hm=>by
  obtain ⟨i1,i2⟩:=qO l m (by simpa using h) (fun x hx=>hl x (by simp [hx])) (fun x hx=>hm x (by simp [hx]));have hc:=hl c (by simp);have hd:=hm d (by simp);simp only [aK,Bool.and_eq_true,decide_eq_true_eq] at hc hd;have b1:=lM l (fun x hx=>hl x (by simp [hx]));have b2:=lM m (fun x hx=>hm x (by simp [hx]));have hlen:l.length=m.length:=by simpa using h
  rw [dA,dA,eJ l,eJ m,Nat.zero_mul,Nat.zero_add,Nat.zero_add];rw [hlen] at b1⊢;generalize 10 ^ m.length=P at b1 b2⊢;rcases Nat.lt_trichotomy c.toNat d.toNat with h1 | h1 | h1
  ·have h2:(c.toNat - 48+1)*P≤(d.toNat - 48)*P:=Nat.mul_le_mul_right _ (by omega);rw [Nat.add_mul,Nat.one_mul] at h2;have h3:c≠d:=fun e=>by rw [e] at h1;omega
   refine ⟨⟨fun _=>by omega,fun _=>?_⟩,⟨fun e=>absurd (List.cons.inj e).1 h3,fun e=>by omega⟩⟩;simp [Op.bytesLess,UInt8.lt_iff_toNat_lt,h1]
  ·obtain rfl:c=d:=UInt8.toNat_inj.1 h1;refine ⟨?_,?_⟩
   ·simp only [Op.bytesLess];simp;rw [i1]
   ·rw [List.cons.injEq,i2];constructor
    ·rintro ⟨_,e⟩;omega
    ·intro e;exact ⟨rfl,by omega⟩
  ·have h2:(d.toNat - 48+1)*P≤(c.toNat - 48)*P:=Nat.mul_le_mul_right _ (by omega);rw [Nat.add_mul,Nat.one_mul] at h2;have h3:c≠d:=fun e=>by rw [e] at h1;omega
   refine ⟨⟨fun e=>?_,fun _=>by omega⟩,⟨fun e=>absurd (List.cons.inj e).1 h3,fun e=>by omega⟩⟩;have e':(decide (c < d) || (c == d && Op.bytesLess l m))=true:=e;rcases Bool.or_eq_true_iff.1 e' with e1 | e1
   ·have:=UInt8.lt_iff_toNat_lt.1 (of_decide_eq_true e1);omega
   ·exact absurd (eq_of_beq (Bool.and_eq_true_iff.1 e1).1) h3
def rY:Sec:=[57,50,50,51,51,55,50,48,51,54,56,53,52,55,55,53,56,48,55]
theorem maxL_val:iM 0 rY=9223372036854775807:=by kernel_rfl
theorem maxL_dig:∀ c∈rY,aK c=true:=by decide
def mM (l:Sec):Bool:=!((decide (1 < l.length) && (l.head? == some 48)) || decide (19 < l.length)) && (decide (l.length < 19) || (Op.bytesLess l rY || l == rY))
theorem uv {l:Sec} (h:∀ c∈l,aK c=true) (h0:l≠[]):mM l=true↔¬ (1 < l.length∧l.head?=some 48)∧iM 0 l < 9223372036854775808:=by
 obtain ⟨c,r,rfl⟩:∃ c r,l=c :: r:=by
  cases l with
  | nil=>exact absurd rfl h0
  | cons c r=>exact ⟨c,r,rfl⟩
 have hlt:=lM (c :: r) h;have hfi:=fun hc=>rX (r:=r) (h c (by simp)) (c:=c) hc;have hle:=fun he=>qO (c :: r) rY he h maxL_dig;rw [maxL_val] at hle;simp only [List.length_cons] at hlt hle⊢;unfold mM;simp only [List.length_cons,List.head?_cons,Bool.and_eq_true,Bool.not_eq_true',Bool.or_eq_false_iff,Bool.and_eq_false_iff,Bool.or_eq_true,decide_eq_true_eq,decide_eq_false_iff_not,beq_iff_eq,beq_eq_false_iff_ne,ne_eq,Option.some.injEq];generalize iM 0 (c :: r)=v at hlt hfi hle⊢;have hP:∀ a b:Nat,a≤b→10 ^ a≤10 ^ b:=fun a b hab=>Nat.pow_le_pow_right (by omega) hab;constructor
 ·rintro ⟨⟨h1,h2⟩,h3⟩;refine ⟨fun hx=>h1.elim (fun e=>e hx.1) (fun e=>e hx.2),?_⟩;rcases h3 with h3 | h3
  ·have:=hP (r.length+1) 18 (by omega);have e:(10:Nat) ^ 18=1000000000000000000:=by decide
   omega
  ·by_cases h4:r.length+1 < 19
   ·have:=hP (r.length+1) 18 (by omega);have e:(10:Nat) ^ 18=1000000000000000000:=by decide
    omega
   ·obtain ⟨i1,i2⟩:=hle (show r.length+1=19 by omega);rcases h3 with h3 | h3
    ·have:=i1.1 h3;omega
    ·have:=i2.1 h3;omega
 ·rintro ⟨h1,h2⟩;have h19:¬ 19 < r.length+1:=by
   intro h3;have hc:c≠48:=fun e=>h1 ⟨by omega,e⟩;have:=hfi hc;have:=hP 19 r.length (by omega);have e:(10:Nat) ^ 19=10000000000000000000:=by decide
   omega
  refine ⟨⟨?_,h19⟩,?_⟩
  ·by_cases h3:1 < r.length+1
   ·exact .inr (fun e=>h1 ⟨h3,e⟩)
   ·exact .inl h3
  ·by_cases h4:r.length+1 < 19
   ·exact .inl h4
   ·obtain ⟨i1,i2⟩:=hle (show r.length+1=19 by omega);right
    by_cases h5:v < 9223372036854775807
    ·exact .inl (i1.2 h5)
    ·exact .inr (i2.2 (by omega))
theorem pm (s:ByteArray) (w:World) (hs:s.size≤65536) (h0:s.size≠0) :
  Calls Tryz.prog 56 #[.string s] w fun e w'=>e=.returned (.bool (mM s.data.toList))∧w=w':=by
 have hpos:0 < s.size:=by omega
 have hhd:=lJ hpos;have hle:(Op.bytesLess s.toList rY || s.toList == rY)=(Op.bytesLess s.data.toList rY || s.data.toList == rY):=by rw [ByteArray.toList_eq]
 have hok:mM s.data.toList=(!((decide (1 < s.size) && (some s[0] == some (48:UInt8))) || decide (19 < s.size)) && (decide (s.size < 19) || (Op.bytesLess s.toList rY || s.toList == rY))):=by
  rw [hle];unfold mM;rw [aQ,hhd]
 rw [hok];clear hok hhd hle
 by_cases h1:1 < s.size∧s[0]=48
 ·obtain ⟨h2,h3⟩:=h1;have hc:((s[0].toNat:Int) == 48)=true:=by rw [h3];rfl
  rw [show (!((decide (1 < s.size) && (some s[0] == some (48:UInt8))) || decide (19 < s.size)) && (decide (s.size < 19) || (Op.bytesLess s.toList rY || s.toList == rY)))=false by simp [h2,h3]];clear h3
  go_enter Tryz.func56,Tryz.ntmps56
  go_wp2
  go_ret;exact ⟨rfl,rfl⟩
 ·have hno:(decide (1 < s.size) && (some s[0] == some (48:UInt8)))=false:=by
   rw [Bool.and_eq_false_iff]
   by_cases h2:1 < s.size
   ·right;simpa using fun e=>h1 ⟨h2,e⟩
   ·left;simpa using h2
  rw [hno,Bool.false_or];have hor:¬ 1 < s.size∨1 < s.size∧((s[0].toNat:Int) == 48)=false:=by
   by_cases h2:1 < s.size
   ·refine .inr ⟨h2,?_⟩;have h3:s[0].toNat≠48:=fun e=>h1 ⟨h2,UInt8.toNat_inj.1 e⟩;simp;omega
   ·exact .inl h2
  clear hno h1
  by_cases h19:19 < s.size
  ·rw [decide_eq_true h19];simp only [Bool.not_true,Bool.false_and];have h2:1 < s.size:=by omega
   obtain ⟨_,hc⟩:=hor.resolve_left (fun h=>h h2);clear hor
   go_enter Tryz.func56,Tryz.ntmps56
   go_wp2
   go_ret;exact ⟨rfl,rfl⟩
  ·rw [decide_eq_false h19];simp only [Bool.not_false,Bool.true_and]
   by_cases h18:s.size < 19
   ·rw [decide_eq_true h18];simp only [Bool.true_or];rcases hor with h2 | ⟨h2,hc⟩
    ·go_enter Tryz.func56,Tryz.ntmps56
     go_wp2
     go_ret;exact ⟨rfl,rfl⟩
    ·go_enter Tryz.func56,Tryz.ntmps56
     go_wp2
     go_ret;exact ⟨rfl,rfl⟩
   ·rw [decide_eq_false h18];simp only [Bool.false_or];have h2:1 < s.size:=by omega
    obtain ⟨_,hc⟩:=hor.resolve_left (fun h=>h h2);have d18:decide ((s.size:Int) < 19)=false:=by simp;omega
    have d19:decide ((19:Int) < s.size)=false:=by simp;omega
    clear hor
    go_enter Tryz.func56,Tryz.ntmps56
    go_wp2
    go_ret;exact ⟨rfl,rfl⟩
def iN (l:Sec):Bool:=if l.length=1 then (l.head?.map ones.contains).getD false else twos.contains l
theorem uw (s:ByteArray) (w:World) (hs:s.size≤65536) :
  Calls Tryz.prog 54 #[.string s] w fun e w'=>e=.returned (.bool (iN s.data.toList))∧w=w':=by
 unfold iN;rw [aQ]
 by_cases h1:s.size=1
 ·rw [if_pos h1];have hpos:0 < s.size:=by omega
  rw [lJ hpos];have K:=pj ⟨ones.toArray⟩ s[0] w (by decide);rw [show (⟨ones.toArray⟩:ByteArray).data.toList=ones from rfl] at K;have f:((s.size:Int) == 1)=true:=by rw [h1];rfl
  simp only [Option.map_some,Option.getD_some];generalize ones.contains s[0]=b at K⊢;clear h1
  go_enter Tryz.func54,Tryz.ntmps54
  go_wp2_with (go_at_call 85;refine K.mono ?_;rintro e w' ⟨rfl,rfl⟩)
  go_ret;exact ⟨rfl,rfl⟩
 ·rw [if_neg h1];have f:((s.size:Int) == 1)=false:=by
   rw [beq_eq_false_iff_ne];omega
  by_cases hm:s.data.toList∈twos
  ·rw [show twos.contains s.data.toList=true by simpa using hm];simp only [twos,List.mem_cons,List.not_mem_nil,or_false] at hm;rcases hm with h | h | h | h | h | h | h | h | h | h<;>
   ·obtain rfl:=bk.2 h;clear h h1 f
    go_enter Tryz.func54,Tryz.ntmps54
    go_wp2
    go_ret;exact ⟨rfl,rfl⟩
  ·rw [show twos.contains s.data.toList=false by simpa using hm];have n1:=du rfl hm [43,61] (by decide);have n2:=du rfl hm [45,61] (by decide);have n3:=du rfl hm [60,62] (by decide);have n4:=du rfl hm [60,61] (by decide);have n5:=du rfl hm [62,61] (by decide);have n6:=du rfl hm [61,61] (by decide);have n7:=du rfl hm [33,61] (by decide);have n8:=du rfl hm [38,38] (by decide);have n9:=du rfl hm [124,124] (by decide);have n10:=du rfl hm [46,46] (by decide);clear hm h1
   go_enter Tryz.func54,Tryz.ntmps54
   go_wp2
   go_ret;exact ⟨rfl,rfl⟩
def ux (l:Sec):Bool:=l.all aK
def endN (l:Sec):Nat:=
 if (l.head?.map cQ).getD false=true then bF cx l
 else if (l.head?.map aK).getD false=true then bF aK l
 else fh l
theorem mN (c:UInt8) (r:Sec):endN (c :: r)=if cQ c=true then bF cx (c :: r) else if aK c=true then bF aK (c :: r) else fh (c :: r):=rfl
theorem uy (l:Sec):endN l≤l.length:=by
 have h1:=gX cx l;have h2:=gX aK l;have h3:=qM l;unfold endN
 repeat' split
 all_goals omega
theorem iY {p:UInt8→Bool} {l:Sec} {e:Nat} (he:e≤l.length):(l.take e).all p=true↔e≤bF p l:=by
 rw [← kK,fR,List.length_take];omega
theorem dC {l:Sec} {e:Nat} (h:0 < e):(l.take e).head?=l.head?:=by
 cases l with
 | nil=>simp
 | cons c r=>
  cases e with
  | zero=>omega
  | succ e=>rfl
theorem uz {c:UInt8} (h:cQ c=true):aK c=false∧ones.contains c=false∧∀ d,[c,d]∉twos:=by
 simp only [cQ,Bool.or_eq_true,Bool.and_eq_true,decide_eq_true_eq] at h;refine ⟨?_,?_,fun d hd=>?_⟩
 ·simp only [aK,Bool.and_eq_false_iff,decide_eq_false_iff_not];omega
 ·rw [Bool.eq_false_iff];intro hc;have hm:c∈ones:=by simpa using hc
  simp only [ones,List.mem_cons,List.not_mem_nil,or_false] at hm;rcases hm with e | e | e | e | e | e | e | e | e | e | e | e | e | e | e | e | e<;>rw [e] at h<;>revert h<;>decide
 ·simp only [twos,List.mem_cons,List.not_mem_nil,or_false,List.cons.injEq,and_true] at hd;rcases hd with e | e | e | e | e | e | e | e | e | e<;>rw [e.1] at h<;>revert h<;>decide
theorem pn {m:Sec} (h:m∈twos):m.length=2:=by
 simp only [twos,List.mem_cons,List.not_mem_nil,or_false] at h;rcases h with h | h | h | h | h | h | h | h | h | h<;>rw [h]<;>rfl
theorem lN {c:UInt8} {r:Sec} (h1:ones.contains c=false) (h2:∀ d,[c,d]∉twos) (e:Nat) (he:0 < e):iN ((c :: r).take e)=false:=by
 unfold iN;rw [dC he];split
 ·simpa using h1
 ·rw [Bool.eq_false_iff];intro h;have hm:(c :: r).take e∈twos:=by simpa using h
  have h3:=pn hm;obtain ⟨n,rfl⟩:∃ n,e=n+1:=⟨e - 1,by omega⟩
  rw [List.take_succ_cons] at hm h3
  match hr:r.take n,hm,h3 with
  | [d],hm,_=>exact h2 d hm
  | [],_,h3=>simp at h3
  | _ :: _ :: _,_,h3=>simp at h3
theorem uA {c:UInt8} {r:Sec} {e:Nat} (he:e≤(c :: r).length) (h:endN (c :: r) < e):fj ((c :: r).take e)=false∧ux ((c :: r).take e)=false∧iN ((c :: r).take e)=false:=by
 have h0:0 < e:=by omega
 have hb1:=iY (p:=cx) he;have hb2:=iY (p:=aK) he;have hlong:fj ((c :: r).take e)=(cQ c && ((c :: r).take e).all cx):=by
  unfold fj;rw [dC h0];rfl
 rw [mN] at h;rw [hlong];cases hl:cQ c with
 | true=>
  rw [hl,if_pos rfl] at h;obtain ⟨k1,k2,k3⟩:=uz hl;refine ⟨?_,?_,lN k2 k3 e h0⟩
  ·rw [Bool.true_and,Bool.eq_false_iff];intro x;have:=hb1.1 x;omega
  ·unfold ux;rw [Bool.eq_false_iff];intro x;have:=hb2.1 x;have h4:bF aK (c :: r)=0:=by simp [bF,k1]
   omega
 | false=>
  rw [hl,if_neg (by simp)] at h;refine ⟨by simp,?_⟩;cases hd:aK c with
  | true=>
   rw [hd,if_pos rfl] at h;obtain ⟨_,_,_,k2,k3⟩:=pl hd;refine ⟨?_,lN k2 k3 e h0⟩;unfold ux;rw [Bool.eq_false_iff];intro x;have:=hb2.1 x;omega
  | false=>
   rw [hd,if_neg (by simp)] at h;have h4:bF aK (c :: r)=0:=by simp [bF,hd]
   refine ⟨?_,?_⟩
   ·unfold ux;rw [Bool.eq_false_iff];intro x;have:=hb2.1 x;omega
   ·unfold iN;rw [dC h0];have hlen:((c :: r).take e).length=e:=by rw [List.length_take];omega
    rw [hlen]
    by_cases h2:(c :: r).take 2∈twos
    ·rw [eq h2] at h;rw [if_neg (by omega),Bool.eq_false_iff];intro x;have:=pn (show (c :: r).take e∈twos by simpa using x);omega
    ·rw [co h2 rfl] at h
     by_cases h1:e=1
     ·subst h1;rw [if_pos rfl];cases ho:ones.contains c with
      | true=>rw [ho,if_pos rfl] at h;omega
      | false=>simpa using ho
     ·rw [if_neg h1,Bool.eq_false_iff];intro x;have hx:(c :: r).take e∈twos:=by simpa using x
      have:=pn hx;obtain rfl:e=2:=by omega
      exact h2 hx
theorem end_at {c:UInt8} {r:Sec} {z:Nat} (hz:z=endN (c :: r)) :
  (z=0∧(al (c :: r)).2=0)∨
  (0 < z∧fj ((c :: r).take z)=true∧ux ((c :: r).take z)=false∧iN ((c :: r).take z)=false∧(z≤16∧al (c :: r)=(1,z)∨16 < z∧(al (c :: r)).2=0))∨
  (0 < z∧fj ((c :: r).take z)=false∧ux ((c :: r).take z)=true∧iN ((c :: r).take z)=false∧(mM ((c :: r).take z)=true∧al (c :: r)=(2,z)∨mM ((c :: r).take z)=false∧(al (c :: r)).2=0))∨
  (0 < z∧fj ((c :: r).take z)=false∧ux ((c :: r).take z)=false∧iN ((c :: r).take z)=true∧al (c :: r)=(3,z)):=by
 have hzl:z≤(c :: r).length:=by rw [hz];exact uy _
 have hb1:=iY (p:=cx) hzl;have hb2:=iY (p:=aK) hzl;have hlong:0 < z→fj ((c :: r).take z)=(cQ c && ((c :: r).take z).all cx):=fun h=>by
  unfold fj;rw [dC h];rfl
 rw [mN] at hz;cases hl:cQ c with
 | true=>
  rw [hl,if_pos rfl] at hz;obtain ⟨k1,k2,k3⟩:=uz hl;have h4:bF aK (c :: r)=0:=by simp [bF,k1]
  have hw:cx c=true:=by simp [cx,hl]
  have h0:0 < z:=by rw [hz];simp [bF,hw]
  refine .inr (.inl ⟨h0,?_,?_,lN k2 k3 z h0,?_⟩)
  ·rw [hlong h0,hl,Bool.true_and];exact hb1.2 (by omega)
  ·unfold ux;rw [Bool.eq_false_iff];intro x;have:=hb2.1 x;omega
  ·have hname:cR (c :: r)=if z≤16 then z else 0:=by
    unfold cR;rw [← hz];simp [hl]
   have hnum:jg (c :: r)=0:=by unfold jg;rw [h4];split<;>rfl
   have hsg:fh (c :: r)=0:=by
    have h3:(c :: r).take 2∉twos:=by
     cases r with
     | nil=>intro hd;simp [twos] at hd
     | cons d r=>exact k3 d
    rw [co h3 rfl,if_neg (by rw [k2];simp)]
   by_cases h16:z≤16
   ·refine .inl ⟨h16,?_⟩;unfold al;rw [hname,if_pos h16,if_pos h0]
   ·refine .inr ⟨by omega,?_⟩;unfold al;rw [hname,if_neg h16,hnum,hsg,if_neg (by omega),if_neg (by omega)]
 | false=>
  rw [hl,if_neg (by simp)] at hz;have hname:cR (c :: r)=0:=by simp [cR,hl]
  cases hd:aK c with
  | true=>
   rw [hd,if_pos rfl] at hz;obtain ⟨_,_,_,k2,k3⟩:=pl hd;have h0:0 < z:=by rw [hz];simp [bF,hd]
   have hall:((c :: r).take z).all aK=true:=hb2.2 (by omega);have hne:(c :: r).take z≠[]:=by
    intro e;have:=congrArg List.length e;rw [List.length_take,List.length_nil] at this;omega
   have hok:=uv (fun x hx=>List.all_eq_true.1 hall x hx) hne;rw [dC h0,List.length_take,Nat.min_eq_left hzl] at hok;have hsg:fh (c :: r)=0:=uu hd;refine .inr (.inr (.inl ⟨h0,by rw [hlong h0,hl];rfl,hall,lN k2 k3 z h0,?_⟩));cases hn:mM ((c :: r).take z) with
   | true=>
    refine .inl ⟨rfl,?_⟩;obtain ⟨m1,m2⟩:=hok.1 hn;have hnum:jg (c :: r)=z:=by
     unfold jg;rw [← hz,if_neg (fun x=>x.elim m1 (fun y=>by omega))]
    unfold al;rw [hname,hnum,if_neg (by omega),if_pos h0]
   | false=>
    refine .inr ⟨rfl,?_⟩;have hno:¬ (¬ (1 < z∧(c :: r).head?=some 48)∧iM 0 ((c :: r).take z) < 9223372036854775808):=fun x=>by rw [hok.2 x] at hn;cases hn
    have hnum:jg (c :: r)=0:=by
     unfold jg;rw [← hz]
     by_cases hx:1 < z∧(c :: r).head?=some 48
     ·rw [if_pos (.inl hx)]
     ·rw [if_pos (.inr (Nat.le_of_not_lt fun y=>hno ⟨hx,y⟩))]
    unfold al;rw [hname,hnum,hsg,if_neg (by omega),if_neg (by omega)]
  | false=>
   rw [hd,if_neg (by simp)] at hz;have h4:bF aK (c :: r)=0:=by simp [bF,hd]
   have hnum:jg (c :: r)=0:=by unfold jg;rw [h4];split<;>rfl
   have hf:al (c :: r)=(3,z):=by
    unfold al;rw [hname,hnum,← hz,if_neg (by omega),if_neg (by omega)]
   by_cases h0:z=0
   ·exact .inl ⟨h0,by rw [hf];exact h0⟩
   ·have h0':0 < z:=by omega
    refine .inr (.inr (.inr ⟨h0',by rw [hlong h0',hl];rfl,?_,?_,hf⟩))
    ·unfold ux;rw [Bool.eq_false_iff];intro x;have:=hb2.1 x;omega
    ·unfold iN;rw [dC h0',List.length_take,Nat.min_eq_left hzl]
     by_cases h2:(c :: r).take 2∈twos
     ·rw [eq h2] at hz;subst hz;rw [if_neg (by omega)];simpa using h2
     ·rw [co h2 rfl] at hz;cases ho:ones.contains c with
      | true=>
       rw [ho,if_pos rfl] at hz;rw [if_pos hz];simpa using ho
      | false=>
       rw [ho,if_neg (by simp)] at hz;omega
theorem mO {L:Sec} {k m:Nat} (h:bh false (L.drop k)=m+bh false (L.drop (k+m))):fi k (L.drop k)=fi (k+m) (L.drop (k+m)):=by
 rw [← dT k,← dT (k+m),List.drop_drop,List.drop_drop,h,Nat.add_assoc]
theorem uB {L:Sec} {k:Nat} {c:UInt8} (hk:L[k]?=some c) (h:ej c=true):fi k (L.drop k)=fi (k+1) (L.drop (k+1)):=mO (uk hk h)
theorem po {L:Sec} {k:Nat} {c:UInt8} (hk:L[k]?=some c) (h:c.toNat=35):fi k (L.drop k)=fi (k+bF bV (L.drop k)) (L.drop (k+bF bV (L.drop k))):=mO (kJ hk h).1
theorem r5 {L:Sec} {k z kd:Nat} {acc:List Tok} {c:UInt8} (hk:L[k]?=some c) (h1:ej c=false) (h2:c.toNat≠35) (hf:al (L.drop k)=(kd,z)) (hz:z≠0) (h:lex L=(fi k (L.drop k)).map (acc++·)) :
  lex L=(fi (k+z) (L.drop (k+z))).map ((acc++[⟨kd,(L.drop k).take z,k⟩])++·):=by
 have:=(um hk h1 h2 h).2;rw [hf] at this;rw [this hz];congr 1;have hg:=dT (k+z) (L.drop (k+z));rw [List.drop_drop] at hg;exact hg
def uC (l:Sec) (base:Nat) (v:Value) (c p:Int) (w':World):Prop:=
 (480 < l.length∧v=.slice none 0 0∧c=2∧p=0)∨
 (l.length≤480∧∃ q:Nat,lex l=.error q∧v=.slice none 0 0∧c=7∧p=q)∨
 (l.length≤480∧∃ ts,lex l=.ok ts∧c=0∧p=0∧OTk w' base v ts)
theorem r6 (L:Sec):lex L=(fi 0 (L.drop 0)).map (([]:List Tok)++·):=by
 rw [uh,List.drop_zero];generalize fi 0 L=x;cases x<;>rfl
theorem all_dig (T:ByteArray) (w:World) (hs:T.size≤65536):Calls Tryz.prog 53 #[.string T,.string ⟨#[48,49,50,51,52,53,54,55,56,57]⟩] w fun e w'=>e=.returned (.bool (ux T.data.toList))∧w=w':=by
 have:=un T ⟨digitsL.toArray⟩ w (by omega) (by decide)
 rwa [show (⟨digitsL.toArray⟩:ByteArray).data.toList=digitsL from rfl,rW] at this
theorem mP (s:ByteArray) (w:World) (hs:s.size≤9223372036854775807) (h:480 < s.size) :
  Calls Tryz.prog 31 #[.string s] w fun e w'=>∃ v c p,e=.returned (.tuple #[v,.int .i64 c,.int .i64 p])∧uC s.data.toList w.heap.size v c p w'∧Only [] w w':=by
 go_enter Tryz.func31,Tryz.ntmps31
 go_wp2
 go_ret3
 exact ⟨_,_,_,rfl,.inl ⟨by rw [aQ];exact h,rfl,rfl,rfl⟩,Only.refl _ _⟩
theorem lO (s:ByteArray) (w:World) (h:s.size≤480) :
    Calls Tryz.prog 31 #[.string s] w fun e w'=>∃ v c p,e=.returned (.tuple #[v,.int .i64 c,.int .i64 p])∧uC s.data.toList w.heap.size v c p w'∧Only [] w w':=by
  have HL0:=Hd (r6 s.data.toList)
  go_enter Tryz.func31,Tryz.ntmps31
  go_wp2
  obtain ⟨wo,hwo⟩:∃ wo:World,wo=w:=⟨_,rfl⟩
  go_loopg [5,6] s.size (fun gk v5 a wr=>∃ (acc:List Tok) (k:Nat),a=.int .i64 k∧k≤s.size∧k+gk=s.size∧acc.length≤k∧Hid (lex s.data.toList=(fi k (s.data.toList.drop k)).map (acc++·))∧Hid (OTk wr wo.heap.size v5 acc)∧Hid (Only [] wo wr))
  case atStart=>exact ⟨[],0,rfl,Nat.zero_le _,by omega,Nat.zero_le _,HL0,Hd (OTk.nil _ _),Hd (by rw [hwo];exact Only.refl _ _)⟩
  case round=>
    clear HL0;obtain ⟨acc,k,rfl,hk,hkg,hak,HL,HW,HO⟩:=hrel
    by_cases hlt:k < s.size
    · have hb:=fS s k hlt
      by_cases hblk:ej s[k]=true
      · have HL2:Hid (lex s.data.toList=(fi (k+1) (s.data.toList.drop (k+1))).map (acc++·)):=Hd (by rw [HL.out,uB hb hblk])
        clear HL hb
        by_cases e1:s[k].toNat=32
        · have f1:((s[k].toNat:Int) == 32)=true:=by simp;omega
          clear e1 hblk;go_wp2_with fail
          go_roundg (s.size - (k+1))
          case measure=>omega
          case rel=>exact ⟨acc,k+1,by go_num,by omega,by omega,by omega,HL2,HW,HO⟩
        · have f1:((s[k].toNat:Int) == 32)=false:=by simp;omega
          by_cases e2:s[k].toNat=9
          · have f2:((s[k].toNat:Int) == 9)=true:=by simp;omega
            clear e1 e2 hblk;go_wp2_with fail
            go_roundg (s.size - (k+1))
            case measure=>omega
            case rel=>exact ⟨acc,k+1,by go_num,by omega,by omega,by omega,HL2,HW,HO⟩
          · have f2:((s[k].toNat:Int) == 9)=false:=by simp;omega
            have e3:s[k].toNat=10:=by simp [ej] at hblk;omega
            have f3:((s[k].toNat:Int) == 10)=true:=by simp;omega
            clear e1 e2 e3 hblk;go_wp2_with fail
            go_roundg (s.size - (k+1))
            case measure=>omega
            case rel=>exact ⟨acc,k+1,by go_num,by omega,by omega,by omega,HL2,HW,HO⟩
      · have hbf:ej s[k]=false:=by simpa using hblk
        have hn:s[k].toNat≠32∧s[k].toNat≠9∧s[k].toNat≠10:=by simp [ej] at hbf;omega
        have f1:((s[k].toNat:Int) == 32)=false:=by simp;omega
        have f2:((s[k].toNat:Int) == 9)=false:=by simp;omega
        have f3:((s[k].toNat:Int) == 10)=false:=by simp;omega
        by_cases e4:s[k].toNat=35
        · have f4:((s[k].toNat:Int) == 35)=true:=by simp;omega
          have hpos:=(kJ hb e4).2;have hrl:=gX bV (s.data.toList.drop k);rw [List.length_drop,aQ] at hrl;have HL2:Hid (lex s.data.toList=(fi (k+bF bV (s.data.toList.drop k)) (s.data.toList.drop (k+bF bV (s.data.toList.drop k)))).map (acc++·)):=Hd (by rw [HL.out,po hb e4]);obtain ⟨m,hm⟩:∃ m,m=bF bV (s.data.toList.drop k):=⟨_,rfl⟩
          have hin:∀ j (hj:k+j < s.size),j < m→bV s[k+j]=true:=fun j hj hjm=>lG bV (s.data.toList.drop k) j _ (by rw [← hm];exact hjm) (by rw [List.getElem?_drop];exact fS s _ hj);have hout:∀ (hj:k+m < s.size),bV s[k+m]=false:=fun hj=>qK bV (s.data.toList.drop k) _ (by rw [← hm,List.getElem?_drop];exact fS s _ hj);rw [← hm] at hpos hrl HL2;have HIN:=Hd hin;have HOUT:=Hd hout;clear hin hout hm HL hb e4 hn hbf hblk;(go_wp2_with fail);obtain ⟨wi,hwi⟩:∃ wi:World,wi=wr:=⟨_,rfl⟩
          go_loopg [6] m (fun g2 a wq=>∃ j:Nat,a=.int .i64 (k+j:Nat)∧j+g2=m∧wq=wi)
          case atStart=>exact ⟨0,rfl,by omega,hwi.symm⟩
          case round=>
            obtain ⟨j,rfl,hjg,hwq⟩:=hrel;subst hwq;subst hwi
            by_cases hjm:j < m
            · have hj:k+j < s.size:=by omega
              have hr:=HIN.out j hj hjm;have fr:((s[k+j].toNat:Int) != 10)=true:=by
                simp [bV] at hr;simp;omega
              clear hr f1 f2 f3 f4;generalize hkj:k+j=kj at hj fr⊢;go_wp2_with fail
              go_roundg (m - (j+1))
              case measure=>omega
              case rel=>exact ⟨j+1,by rw [← hkj];go_num,by omega,rfl⟩
            · obtain rfl:j=m:=by omega
              clear f1 f2 f3 f4
              by_cases hend:k+j < s.size
              · have hr:=HOUT.out hend
                have fr:((s[k+j].toNat:Int) != 10)=false:=by
                  simp [bV] at hr;simp;omega
                clear hr;generalize hkj:k+j=kj at hend fr HL2⊢;go_wp2_with fail
                go_roundg (s.size - kj)
                case measure=>omega
                case rel=>exact ⟨acc,kj,rfl,by omega,by omega,by omega,HL2,HW,HO⟩
              · generalize hkj:k+j=kj at hend HL2⊢
                go_wp2_with fail
                go_roundg (s.size - kj)
                case measure=>omega
                case rel=>exact ⟨acc,kj,rfl,by omega,by omega,by omega,HL2,HW,HO⟩
        · have f4:((s[k].toNat:Int) == 35)=false:=by simp;omega
          obtain ⟨hltL,hcL⟩:=List.getElem?_eq_some_iff.1 hb;have hd:s.data.toList.drop k=s[k] :: s.data.toList.drop (k+1):=by rw [List.drop_eq_getElem_cons hltL,hcL]
          have hzl:=uy (s.data.toList.drop k);obtain ⟨z,hz⟩:∃ z,z=endN (s.data.toList.drop k):=⟨_,rfl⟩
          rw [← hz,List.length_drop,aQ] at hzl;have habove:∀ e,z < e→e≤s.size - k→fj ((s.data.toList.drop k).take e)=false∧ux ((s.data.toList.drop k).take e)=false∧iN ((s.data.toList.drop k).take e)=false:=fun e h1 h2=>by
            rw [hd];rw [hd] at hz;exact uA (by rw [← hd,List.length_drop,aQ];exact h2) (by rw [← hz];exact h1)
          have hat:=end_at (c:=s[k]) (r:=s.data.toList.drop (k+1)) (z:=z) (by rw [← hd];exact hz);rw [← hd] at hat;have htok:=fun kd (hf:al (s.data.toList.drop k)=(kd,z)) (hz:z≠0)=>r5 hb hbf e4 hf hz HL.out;have herr:=fun (hz:(al (s.data.toList.drop k)).2=0)=>(um hb hbf e4 HL.out).1 hz;have HTOK:=Hd htok;have HERR:=Hd herr;have HAB:=Hd habove;have HAT:=Hd hat;have KL:=fun (e:Nat) (W:World)=>lK (s.extract k (k+e)) W;have hXd:∀ e,(s.extract k (k+e)).data.toList=(s.data.toList.drop k).take e:=fun e=>by rw [Lib.extract_data,Nat.add_sub_cancel_left]
          have HXD:=Hd hXd;clear htok herr habove hat hz hd hcL hltL hb hbf e4 hn hblk KL hXd HL;(go_wp2_with fail);clear f1 f2 f3 f4;obtain ⟨wi,hwi⟩:∃ wi:World,wi=wr:=⟨_,rfl⟩
          go_loopg [7] (s.size - k - z) (fun g2 a wq=>∃ e:Nat,a=.int .i64 (k+e:Nat)∧z+g2=e∧k+e≤s.size∧wq=wi)
          case atStart=>exact ⟨s.size - k,by congr 1;omega,by omega,by omega,hwi.symm⟩
          case round=>
            obtain ⟨e,rfl,hze,hes,hwq⟩:=hrel;subst hwq;subst hwi;have hsl:∀ W,(Instr.slice 9 (.string s) (some (.int .i64 k)) (some (.int .i64 (k+e:Nat))) none).run Tryz.prog W=.ok (.string (s.extract k (k+e))) W:=fun W=>by
              rw [run_slice_string W 9 s .i64 .i64 (k:Int) ((k+e:Nat):Int) Tryz.underlying9 (by omega) (by omega) (by omega)];rfl
            have hX:=HXD.out e;have hXs:(s.extract k (k+e)).size≤480:=by rw [← aQ,hX,List.length_take,List.length_drop,aQ];omega
            have K1:=fun W=>lK (s.extract k (k+e)) W (by omega);have K2:=fun W=>all_dig (s.extract k (k+e)) W (by omega);have K3:=fun W=>uw (s.extract k (k+e)) W (by omega);rw [hX] at K1 K2 K3
            by_cases hez:z < e
            · obtain ⟨b1,b2,b3⟩:=HAB.out e hez (by omega)
              rw [b1] at K1;rw [b2] at K2;rw [b3] at K3;clear b1 b2 b3 hX hXs;generalize s.extract k (k+e)=X at hsl K1 K2 K3;generalize hkj:k+e=ke at hsl hes⊢
              go_wp2_with (first
                | (go_at_call 52;refine (K1 _).mono ?_;rintro e w' ⟨rfl,rfl⟩)
                | (go_at_call 53;refine (K2 _).mono ?_;rintro e w' ⟨rfl,rfl⟩)
                | (go_at_call 54;refine (K3 _).mono ?_;rintro e w' ⟨rfl,rfl⟩))
              go_roundg (e - 1 - z)
              case measure=>omega
              case rel=>exact ⟨e - 1,by congr 1;omega,by omega,by omega,rfl⟩
            · obtain rfl:e=z:=by omega
              have KW:=fun W=>uq (s.extract k (k+e)) W (by omega);rw [hX] at KW;have hlz:((s.data.toList.drop k).take e).length=e:=by rw [List.length_take,List.length_drop,aQ];omega
              have hXe:s.extract k (k+e)=aj ((s.data.toList.drop k).take e):=bk.2 hX;have HXE:=Hd hXe;have KN:=fun (h0:e≠0) W=>pm (s.extract k (k+e)) W (by omega) (by rw [← aQ,hX,hlz];exact h0);rw [hX] at KN;have hwb:wordB ((s.data.toList.drop k).take e)=(fj ((s.data.toList.drop k).take e) && decide (e≤16)):=by unfold wordB;rw [hlz]
              rw [hwb] at KW;clear hwb hXe hX hez;rcases HAT.out with ⟨z0,hf⟩ | ⟨z0,b1,b2,b3,hx⟩ | ⟨z0,b1,b2,b3,hx⟩ | ⟨z0,b1,b2,b3,hf⟩
              · subst z0
                rw [List.take_zero] at K1 K2 K3 KW;rw [show fj ([]:Sec)=false from rfl] at K1 KW;rw [show iN ([]:Sec)=false from rfl] at K3;rw [Bool.false_and] at KW;have HER:=Hd (HERR.out hf);generalize s.extract k (k+0)=X at hsl K1 K2 K3 KW;generalize hkj:k+0=ke at hsl hes⊢;have hkk:ke=k:=by omega
                subst hkk;clear HERR HTOK HAT HAB HXE HXD hf hlz
                go_wp2_with (first
                  | (go_at_call 52;refine (K1 _).mono ?_;rintro e w' ⟨rfl,rfl⟩)
                  | (go_at_call 53;refine (K2 _).mono ?_;rintro e w' ⟨rfl,rfl⟩)
                  | (go_at_call 54;refine (K3 _).mono ?_;rintro e w' ⟨rfl,rfl⟩)
                  | (go_at_call 55;refine (KW _).mono ?_;rintro e w' ⟨rfl,rfl⟩))
                go_ret3
                exact ⟨_,_,_,rfl,.inr (.inl ⟨by rw [aQ];exact h,_,HER.out,rfl,rfl,rfl⟩),by rw [← hwo];exact HO.out.alloc _⟩
              · rw [b1] at K1 KW
                rw [b2] at K2;rw [b3] at K3;rw [Bool.true_and] at KW;have KN:=KN (by omega);clear b1 b2 b3;rcases hx with ⟨hx,hf⟩ | ⟨hx,hf⟩
                · rw [decide_eq_true hx] at KW
                  have HTK:=Hd (HTOK.out _ hf (by omega));generalize s.extract k (k+e)=X at hsl K1 K2 K3 KW KN HXE;generalize hkj:k+e=ke at hsl hes HTK⊢;have hkl:k < ke:=by omega
                  obtain ⟨t1,t2,t3⟩:=fT (wr.alloc (.cells #[.int .i64 1,.string X,.int .i64 k] 84)) 1 X k;rw [show (wr.alloc (.cells #[.int .i64 1,.string X,.int .i64 k] 84)).heap.size=wr.heap.size+1 by simp] at t1 t2 t3;have HT:=Hd (And.intro t1 (And.intro t2 t3));have o3:Only [] wr ((wr.alloc (.cells #[.int .i64 1,.string X,.int .i64 k] 84)).alloc (.cells #[.int .i64 1,.string X,.int .i64 k] 84)):=((Only.refl [] wr).alloc _).alloc _;have HW3:=Hd (HW.out.quiet o3);have HO3:=Hd (HO.out.trans o3 (by simp));clear t1 t2 t3 HW HO o3 HERR HTOK HAT HAB hf hlz HXD
                  go_wp2_with (first
                    | (go_at_call 52;refine (K1 _).mono ?_;rintro e w' ⟨rfl,rfl⟩)
                    | (go_at_call 53;refine (K2 _).mono ?_;rintro e w' ⟨rfl,rfl⟩)
                    | (go_at_call 54;refine (K3 _).mono ?_;rintro e w' ⟨rfl,rfl⟩)
                    | (go_at_call 55;refine (KW _).mono ?_;rintro e w' ⟨rfl,rfl⟩)
                    | (go_at_call 56;refine (KN _).mono ?_;rintro e w' ⟨rfl,rfl⟩)
                    | (refine bG rfl (.tmp 113) (.tmp 115) rfl wo.heap.size _ acc (by rfl) HW3.out (wr.heap.size+1) 1 (by rfl) ⟨1,(s.data.toList.drop k).take e,k⟩ HT.out.1 (by rw [HT.out.2.1,HXE.out]) HT.out.2.2 (by omega) HO3.out.size ?_
                       intro v6 w4 hown4 ho4;have HW4:=Hd hown4;have HO4:=Hd (show Only [] wo w4 from HO3.out.trans ho4 (fun g hg=>.inr (HW3.out.lt (by simpa using hg)).1))
                       clear hown4 ho4))
                  go_roundg (s.size - ke)
                  case measure=>omega
                  case rel=>exact ⟨acc++[⟨1,(s.data.toList.drop k).take e,k⟩],ke,rfl,by omega,by omega,by simp;omega,HTK,HW4,HO4⟩
                · rw [decide_eq_false (by omega)] at KW
                  have HER:=Hd (HERR.out hf);generalize s.extract k (k+e)=X at hsl K1 K2 K3 KW KN;generalize hkj:k+e=ke at hsl hes⊢;have hkl:k < ke:=by omega
                  clear HERR HTOK HAT HAB HXE HXD hf hlz
                  go_wp2_with (first
                    | (go_at_call 52;refine (K1 _).mono ?_;rintro e w' ⟨rfl,rfl⟩)
                    | (go_at_call 53;refine (K2 _).mono ?_;rintro e w' ⟨rfl,rfl⟩)
                    | (go_at_call 54;refine (K3 _).mono ?_;rintro e w' ⟨rfl,rfl⟩)
                    | (go_at_call 55;refine (KW _).mono ?_;rintro e w' ⟨rfl,rfl⟩))
                  go_ret3
                  exact ⟨_,_,_,rfl,.inr (.inl ⟨by rw [aQ];exact h,_,HER.out,rfl,rfl,rfl⟩),by rw [← hwo];exact HO.out.alloc _⟩
              · rw [b1] at K1 KW
                rw [b2] at K2;rw [b3] at K3;rw [Bool.false_and] at KW;have KN:=KN (by omega);clear b1 b2 b3;rcases hx with ⟨hx,hf⟩ | ⟨hx,hf⟩
                · rw [hx] at KN
                  have HTK:=Hd (HTOK.out _ hf (by omega));generalize s.extract k (k+e)=X at hsl K1 K2 K3 KW KN HXE;generalize hkj:k+e=ke at hsl hes HTK⊢;have hkl:k < ke:=by omega
                  obtain ⟨t1,t2,t3⟩:=fT (wr.alloc (.cells #[.int .i64 2,.string X,.int .i64 k] 84)) 2 X k;rw [show (wr.alloc (.cells #[.int .i64 2,.string X,.int .i64 k] 84)).heap.size=wr.heap.size+1 by simp] at t1 t2 t3;have HT:=Hd (And.intro t1 (And.intro t2 t3));have o3:Only [] wr ((wr.alloc (.cells #[.int .i64 2,.string X,.int .i64 k] 84)).alloc (.cells #[.int .i64 2,.string X,.int .i64 k] 84)):=((Only.refl [] wr).alloc _).alloc _;have HW3:=Hd (HW.out.quiet o3);have HO3:=Hd (HO.out.trans o3 (by simp));clear t1 t2 t3 HW HO o3 HERR HTOK HAT HAB hf hlz HXD
                  go_wp2_with (first
                    | (go_at_call 52;refine (K1 _).mono ?_;rintro e w' ⟨rfl,rfl⟩)
                    | (go_at_call 53;refine (K2 _).mono ?_;rintro e w' ⟨rfl,rfl⟩)
                    | (go_at_call 54;refine (K3 _).mono ?_;rintro e w' ⟨rfl,rfl⟩)
                    | (go_at_call 55;refine (KW _).mono ?_;rintro e w' ⟨rfl,rfl⟩)
                    | (go_at_call 56;refine (KN _).mono ?_;rintro e w' ⟨rfl,rfl⟩)
                    | (refine bG rfl (.tmp 113) (.tmp 115) rfl wo.heap.size _ acc (by rfl) HW3.out (wr.heap.size+1) 1 (by rfl) ⟨2,(s.data.toList.drop k).take e,k⟩ HT.out.1 (by rw [HT.out.2.1,HXE.out]) HT.out.2.2 (by omega) HO3.out.size ?_
                       intro v6 w4 hown4 ho4;have HW4:=Hd hown4;have HO4:=Hd (show Only [] wo w4 from HO3.out.trans ho4 (fun g hg=>.inr (HW3.out.lt (by simpa using hg)).1))
                       clear hown4 ho4))
                  go_roundg (s.size - ke)
                  case measure=>omega
                  case rel=>exact ⟨acc++[⟨2,(s.data.toList.drop k).take e,k⟩],ke,rfl,by omega,by omega,by simp;omega,HTK,HW4,HO4⟩
                · rw [hx] at KN
                  have HER:=Hd (HERR.out hf);generalize s.extract k (k+e)=X at hsl K1 K2 K3 KW KN;generalize hkj:k+e=ke at hsl hes⊢;have hkl:k < ke:=by omega
                  clear HERR HTOK HAT HAB HXE HXD hf hlz hx
                  go_wp2_with (first
                    | (go_at_call 52;refine (K1 _).mono ?_;rintro e w' ⟨rfl,rfl⟩)
                    | (go_at_call 53;refine (K2 _).mono ?_;rintro e w' ⟨rfl,rfl⟩)
                    | (go_at_call 54;refine (K3 _).mono ?_;rintro e w' ⟨rfl,rfl⟩)
                    | (go_at_call 55;refine (KW _).mono ?_;rintro e w' ⟨rfl,rfl⟩) | (go_at_call 56;refine (KN _).mono ?_;rintro e w' ⟨rfl,rfl⟩))
                  go_ret3
                  exact ⟨_,_,_,rfl,.inr (.inl ⟨by rw [aQ];exact h,_,HER.out,rfl,rfl,rfl⟩),by rw [← hwo];exact HO.out.alloc _⟩
              · rw [b1] at K1 KW
                rw [b2] at K2;rw [b3] at K3;rw [Bool.false_and] at KW;have KN:=KN (by omega);clear b1 b2 b3;have HTK:=Hd (HTOK.out _ hf (by omega));generalize s.extract k (k+e)=X at hsl K1 K2 K3 KW KN HXE;generalize hkj:k+e=ke at hsl hes HTK⊢;have hkl:k < ke:=by omega
                obtain ⟨t1,t2,t3⟩:=fT (wr.alloc (.cells #[.int .i64 3,.string X,.int .i64 k] 84)) 3 X k;rw [show (wr.alloc (.cells #[.int .i64 3,.string X,.int .i64 k] 84)).heap.size=wr.heap.size+1 by simp] at t1 t2 t3;have HT:=Hd (And.intro t1 (And.intro t2 t3));have o3:Only [] wr ((wr.alloc (.cells #[.int .i64 3,.string X,.int .i64 k] 84)).alloc (.cells #[.int .i64 3,.string X,.int .i64 k] 84)):=((Only.refl [] wr).alloc _).alloc _;have HW3:=Hd (HW.out.quiet o3);have HO3:=Hd (HO.out.trans o3 (by simp));clear t1 t2 t3 HW HO o3 HERR HTOK HAT HAB hf hlz HXD
                go_wp2_with (first
                  | (go_at_call 52;refine (K1 _).mono ?_;rintro e w' ⟨rfl,rfl⟩)
                  | (go_at_call 53;refine (K2 _).mono ?_;rintro e w' ⟨rfl,rfl⟩)
                  | (go_at_call 54;refine (K3 _).mono ?_;rintro e w' ⟨rfl,rfl⟩)
                  | (go_at_call 55;refine (KW _).mono ?_;rintro e w' ⟨rfl,rfl⟩)
                  | (go_at_call 56;refine (KN _).mono ?_;rintro e w' ⟨rfl,rfl⟩)
                  | (refine bG rfl (.tmp 113) (.tmp 115) rfl wo.heap.size _ acc (by rfl) HW3.out (wr.heap.size+1) 1 (by rfl) ⟨3,(s.data.toList.drop k).take e,k⟩ HT.out.1 (by rw [HT.out.2.1,HXE.out]) HT.out.2.2 (by omega) HO3.out.size ?_
                     intro v6 w4 hown4 ho4;have HW4:=Hd hown4;have HO4:=Hd (show Only [] wo w4 from HO3.out.trans ho4 (fun g hg=>.inr (HW3.out.lt (by simpa using hg)).1))
                     clear hown4 ho4))
                go_roundg (s.size - ke)
                case measure=>omega
                case rel=>exact ⟨acc++[⟨3,(s.data.toList.drop k).take e,k⟩],ke,rfl,by omega,by omega,by simp;omega,HTK,HW4,HO4⟩
    · obtain rfl:k=s.size:=by omega
      have hend:lex s.data.toList=.ok (acc++[⟨4,[],s.size⟩]):=by
        rw [HL.out,List.drop_of_length_le (by rw [aQ];exact Nat.le_refl _),lI];rfl
      have HEND:=Hd hend;obtain ⟨t1,t2,t3⟩:=fT wr 4 ⟨#[]⟩ s.size;have HT:=Hd (And.intro t1 (And.intro t2 t3));have o3:Only [] wr (wr.alloc (.cells #[.int .i64 4,.string ⟨#[]⟩,.int .i64 s.size] 84)):=(Only.refl [] wr).alloc _;have HW3:=Hd (HW.out.quiet o3);have HO3:=Hd (HO.out.trans o3 (by simp));clear t1 t2 t3 HW HO o3 hend HL
      go_wp2_with (
        refine bG rfl (.tmp 118) (.tmp 122) rfl wo.heap.size _ acc (by rfl) HW3.out wr.heap.size 1 (by rfl) ⟨4,[],s.size⟩ HT.out.1 HT.out.2.1 HT.out.2.2 (by omega) HO3.out.size ?_;intro v6 w4 hown4 ho4;have HW4:=Hd hown4;have HO4:=Hd (show Only [] wo w4 from HO3.out.trans ho4 (fun g hg=>.inr (HW3.out.lt (by simpa using hg)).1))
        clear hown4 ho4)
      go_ret3
      exact ⟨_,_,_,rfl,.inr (.inr ⟨by rw [aQ];exact h,_,HEND.out,rfl,rfl,by rw [← hwo];exact HW4.out⟩),by rw [← hwo];exact HO4.out⟩
theorem pq (s:ByteArray) (w:World) (hs:s.size≤9223372036854775807) :
  Calls Tryz.prog 31 #[.string s] w fun e w'=>∃ v c p,e=.returned (.tuple #[v,.int .i64 c,.int .i64 p])∧uC s.data.toList w.heap.size v c p w'∧Only [] w w':=by
 by_cases h:s.size≤480
 ·exact lO s w h
 ·exact mP s w hs (by omega)
theorem qP:∀ (n at_:Nat) (l:Sec) (ts:List Tok),kI n at_ l=.ok ts→ts.length≤n+1
 | 0,at_,l,ts,h=>by
  simp only [kI,Except.ok.injEq] at h;rw [← h];simp
 | n+1,at_,l,ts,h=>by
  simp only [kI] at h;split at h
  ·simp only [Except.ok.injEq] at h;rw [← h];simp
  ·split at h
   ·cases h
   ·cases hx:kI n (at_+(al l).2+bh false (l.drop (al l).2)) (l.drop ((al l).2+bh false (l.drop (al l).2))) with
    | error e=>
     rw [hx] at h;cases h
    | ok us=>
     rw [hx] at h;have ih:=qP n _ _ us hx;have e:ts=⟨(al l).1,l.take (al l).2,at_⟩ :: us:=by
      have h':(Except.ok (⟨(al l).1,l.take (al l).2,at_⟩ :: us):Except Nat (List Tok))=.ok ts:=h;exact (Except.ok.inj h').symm
     rw [e,List.length_cons];omega
theorem uD {l:Sec} {ts:List Tok} (h:lex l=.ok ts):ts.length≤l.length+2:=qP _ _ _ _ h
end Go.Proofs.YtcebchffcmpfeaaGreat
