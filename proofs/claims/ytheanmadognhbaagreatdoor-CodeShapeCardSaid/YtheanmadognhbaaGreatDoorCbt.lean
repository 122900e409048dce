import Derived.Test.YtheanmadognhbaaGreatDoorCat
import Derived.WalkLawsBesides
namespace Go.Proofs.YtheanmadognhbaaGreatDoor
set_option linter.unusedVariables false
set_option linter.unusedSimpArgs false
set_option maxRecDepth 100000
set_option maxHeartbeats 16000000
open Go.RowKit Go.Maps
def lettersL:Sec:=[97,98,99,100,101,102,103,104,105,106,107,108,109,110,111,112,113,114,115,116,117,118,119,120,121,122,65,66,67,68,69,70,71,72,73,74,75,76,77,78,79,80,81,82,83,84,85,86,87,88,89,90]
def digitsL:Sec:=[48,49,50,51,52,53,54,55,56,57]
def wordsL:Sec:=lettersL++digitsL++[95]
theorem lets_256:∀ n < 256,lettersL.contains (UInt8.ofNat n)=dm (UInt8.ofNat n):=by decide +kernel
theorem digs_256:∀ n < 256,digitsL.contains (UInt8.ofNat n)=aL (UInt8.ofNat n):=by decide +kernel
theorem wrds_256:∀ n < 256,wordsL.contains (UInt8.ofNat n)=cX (UInt8.ofNat n):=by decide +kernel
theorem lets_all (c:UInt8):lettersL.contains c=dm c:=by have:=lets_256 c.toNat c.toNat_lt;rwa [UInt8.ofNat_toNat] at this
theorem digs_all (c:UInt8):digitsL.contains c=aL c:=by have:=digs_256 c.toNat c.toNat_lt;rwa [UInt8.ofNat_toNat] at this
theorem wrds_all (c:UInt8):wordsL.contains c=cX c:=by have:=wrds_256 c.toNat c.toNat_lt;rwa [UInt8.ofNat_toNat] at this
theorem byte_ne {a b:UInt8} (h:a≠b):((a.toNat:Int) == (b.toNat:Int))=false:=by
 have h2:a.toNat≠b.toNat:=fun e=>h (UInt8.toNat_inj.1 e);simp;omega
theorem oX (s:ByteArray) (c:UInt8) (w:World) (hs:s.size≤9223372036854775807) :
  Calls Tryz.prog 72 #[.string s,.int .u8 (c.toNat:Int)] w fun e w'=>e=.returned (.bool (s.data.toList.contains c))∧w=w':=by
 obtain ⟨r,hr⟩:∃ r,r=s.data.toList.contains c:=⟨_,rfl⟩
 rw [← hr];have HR:=Hd hr;clear hr
 go_enter Tryz.func72,Tryz.ntmps72
 go_wp2
 go_loop [5] (fun i=>∃ k:Nat,k≤s.size∧i=.int .i64 k∧Hid (∀ j (h:j < s.size),j < k→s[j]≠c)) (fun i=>s.size - (intOf i).toNat)
 case atStart=>exact ⟨0,Nat.zero_le _,rfl,Hd (fun j h hj=>by omega)⟩
 case round=>
  obtain ⟨k,hk,rfl,HK⟩:=hrel
  by_cases hlt:k < s.size
  ·by_cases hc:s[k]=c
   ·have f:((s[k].toNat:Int) == (c.toNat:Int))=true:=by rw [hc];simp
    obtain rfl:r=true:=by
     rw [HR.out];have:=List.mem_of_getElem? (fX s k hlt)
     rw [hc] at this;simpa using this
    clear hc HR HK
    go_wp2
    go_ret;exact ⟨rfl,rfl⟩
   ·have f:=byte_ne hc
    have HK1:Hid (∀ j (h:j < s.size),j < k+1→s[j]≠c):=Hd (fun j h hj=>by
     by_cases e:j=k
     ·subst e;exact hc
     ·exact HK.out j h (by omega))
    clear hc HK
    go_wp2
    go_round
    case rel=>exact ⟨k+1,by omega,by go_num,HK1⟩
    case measure=>simp [intOf];omega
  ·obtain rfl:r=false:=by
    rw [HR.out];rw [Bool.eq_false_iff];intro h;have hm:c∈s.data.toList:=by simpa using h
    obtain ⟨i,hi⟩:=List.getElem?_of_mem hm;have hil:=(List.getElem?_eq_some_iff.1 hi).1;rw [aU] at hil;rw [fX s i hil] at hi;exact HK.out i hil (by omega) (Option.some.inj hi)
   clear HR HK
   go_wp2
   go_ret;exact ⟨rfl,rfl⟩
theorem uh (s S:ByteArray) (w:World) (hs:s.size≤9223372036854775807) (hS:S.size≤9223372036854775807) :
  Calls Tryz.prog 41 #[.string s,.string S] w fun e w'=>e=.returned (.bool (s.data.toList.all fun c=>S.data.toList.contains c))∧w=w':=by
 obtain ⟨r,hr⟩:∃ r,r=s.data.toList.all fun c=>S.data.toList.contains c:=⟨_,rfl⟩
 rw [← hr];have HR:=Hd hr;clear hr
 go_enter Tryz.func41,Tryz.ntmps41
 go_wp2
 go_loop [5] (fun i=>∃ k:Nat,k≤s.size∧i=.int .i64 k∧Hid (∀ j (h:j < s.size),j < k→S.data.toList.contains s[j]=true)) (fun i=>s.size - (intOf i).toNat)
 case atStart=>exact ⟨0,Nat.zero_le _,rfl,Hd (fun j h hj=>by omega)⟩
 case round=>
  obtain ⟨k,hk,rfl,HK⟩:=hrel
  by_cases hlt:k < s.size
  ·have K:=oX S s[k] w hS;cases hc:S.data.toList.contains s[k] with
   | false=>
    rw [hc] at K;obtain rfl:r=false:=by
     rw [HR.out,Bool.eq_false_iff];intro h;have:=List.all_eq_true.1 h _ (List.mem_of_getElem? (fX s k hlt));rw [hc] at this;cases this
    clear hc HR HK;go_wp2_with (go_at_call 72;refine K.mono ?_;rintro e w' ⟨rfl,rfl⟩)
    go_ret;exact ⟨rfl,rfl⟩
   | true=>
    rw [hc] at K
    have HK1:Hid (∀ j (h:j < s.size),j < k+1→S.data.toList.contains s[j]=true):=Hd (fun j h hj=>by
     by_cases e:j=k
     ·subst e;exact hc
     ·exact HK.out j h (by omega))
    clear hc HK;go_wp2_with (go_at_call 72;refine K.mono ?_;rintro e w' ⟨rfl,rfl⟩)
    go_round
    case rel=>exact ⟨k+1,by omega,by go_num,HK1⟩
    case measure=>simp [intOf];omega
  ·obtain rfl:r=true:=by
    rw [HR.out,List.all_eq_true];intro c hm;obtain ⟨i,hi⟩:=List.getElem?_of_mem hm;have hil:=(List.getElem?_eq_some_iff.1 hi).1;rw [aU] at hil;rw [fX s i hil] at hi;rw [← Option.some.inj hi];exact HK.out i hil (by omega)
   clear HR HK
   go_wp2
   go_ret;exact ⟨rfl,rfl⟩
def ft (l:Sec):Bool:=(l.head?.map dm).getD false && l.all cX
def wordB (l:Sec):Bool:=ft l && decide (l.length≤16)
theorem kN (p:UInt8→Bool):∀ l:Sec,bO p l=l.length↔l.all p=true
 | []=>by simp [bO]
 | c :: r=>by
  have ih:=kN p r;simp only [bO,List.length_cons,List.all_cons,Bool.and_eq_true]
  by_cases h:p c=true
  ·simp only [h,if_true,true_and];rw [← ih];omega
  ·simp [h]
theorem ui (l:Sec):(l.all fun c=>wordsL.contains c)=l.all cX:=by
 congr 1;funext c;exact wrds_all c
theorem rB (l:Sec):(l.all fun c=>digitsL.contains c)=l.all aL:=by
 congr 1;funext c;exact digs_all c
theorem lU (s:ByteArray) (w:World) (hs:s.size≤9223372036854775807) :
  Calls Tryz.prog 40 #[.string s] w fun e w'=>e=.returned (.bool (ft s.data.toList))∧w=w':=by
 by_cases h0:s.size=0
 ·obtain rfl:=tZ h0;clear h0 hs
  go_enter Tryz.func40,Tryz.ntmps40
  go_wp2
  go_ret;exact ⟨rfl,rfl⟩
 ·have hpos:0 < s.size:=by omega
  have hhd:=lS hpos;have K1:Calls Tryz.prog 72 #[.string ⟨lettersL.toArray⟩,.int .u8 (s[0].toNat:Int)] w fun e w'=>e=.returned (.bool (dm s[0]))∧w=w':=by
   have:=oX ⟨lettersL.toArray⟩ s[0] w (by decide)
   rwa [show (⟨lettersL.toArray⟩:ByteArray).data.toList=lettersL from rfl,lets_all] at this
  have K2:Calls Tryz.prog 41 #[.string s,.string ⟨wordsL.toArray⟩] w fun e w'=>e=.returned (.bool (s.data.toList.all cX))∧w=w':=by
   have:=uh s ⟨wordsL.toArray⟩ w hs (by decide)
   rwa [show (⟨wordsL.toArray⟩:ByteArray).data.toList=wordsL from rfl,ui] at this
  have hL:ft s.data.toList=(dm s[0] && s.data.toList.all cX):=by
   unfold ft;rw [hhd];rfl
  rw [hL];clear hL hhd;generalize dm s[0]=b1 at K1⊢;generalize s.data.toList.all cX=b2 at K2⊢;cases b1 with
  | false=>
   go_enter Tryz.func40,Tryz.ntmps40
   go_wp2_with (go_at_call 72;refine K1.mono ?_;rintro e w' ⟨rfl,rfl⟩)
   go_ret;exact ⟨rfl,rfl⟩
  | true=>
   go_enter Tryz.func40,Tryz.ntmps40
   go_wp2_with (first
    | (go_at_call 72;refine K1.mono ?_;rintro e w' ⟨rfl,rfl⟩)
    | (go_at_call 41;refine K2.mono ?_;rintro e w' ⟨rfl,rfl⟩))
   go_ret;exact ⟨rfl,rfl⟩
theorem uk (s:ByteArray) (w:World) (hs:s.size≤9223372036854775807) :
  Calls Tryz.prog 43 #[.string s] w fun e w'=>e=.returned (.bool (wordB s.data.toList))∧w=w':=by
 have K:=lU s w hs;unfold wordB;rw [aU];generalize ft s.data.toList=b at K⊢;cases b with
 | false=>
  go_enter Tryz.func43,Tryz.ntmps43
  go_wp2_with (go_at_call 40;refine K.mono ?_;rintro e w' ⟨rfl,rfl⟩)
  go_ret;exact ⟨rfl,rfl⟩
 | true=>
  by_cases h:s.size≤16
  ·have d1:decide ((s.size:Int)≤16)=true:=by simp;omega
   rw [decide_eq_true h]
   go_enter Tryz.func43,Tryz.ntmps43
   go_wp2_with (go_at_call 40;refine K.mono ?_;rintro e w' ⟨rfl,rfl⟩)
   go_ret;exact ⟨rfl,rfl⟩
  ·have d1:decide ((s.size:Int)≤16)=false:=by simp;omega
   rw [decide_eq_false h]
   go_enter Tryz.func43,Tryz.ntmps43
   go_wp2_with (go_at_call 40;refine K.mono ?_;rintro e w' ⟨rfl,rfl⟩)
   go_ret;exact ⟨rfl,rfl⟩
def kws:List Sec:=[[111,112],[110,101,101,100],[108,101,116],[105,102],[101,108,115,101],[102,111,114],[105,110],[103,105,118,101],[116,114,117,101],[102,97,108,115,101]]
theorem fy {s:ByteArray} (hn:s.data.toList∉kws):∀ m∈kws,(s.toList == m)=false:=fun m hm=>bw (fun e=>hn (by rw [e];exact hm))
theorem mP (s:ByteArray) (w:World) :
  Calls Tryz.prog 20 #[.string s] w fun e w'=>e=.returned (.bool (kws.contains s.data.toList))∧w=w':=by
 by_cases hm:s.data.toList∈kws
 ·rw [show kws.contains s.data.toList=true by simpa using hm];simp only [kws,List.mem_cons,List.not_mem_nil,or_false] at hm;rcases hm with h | h | h | h | h | h | h | h | h | h<;>
  ·obtain rfl:=aJ.2 h;clear h
   go_enter Tryz.func20,Tryz.ntmps20
   go_wp2
   go_ret;exact ⟨rfl,rfl⟩
 ·rw [show kws.contains s.data.toList=false by simpa using hm];have n1:=fy hm [111,112] (by decide);have n2:=fy hm [110,101,101,100] (by decide);have n3:=fy hm [108,101,116] (by decide);have n4:=fy hm [105,102] (by decide);have n5:=fy hm [101,108,115,101] (by decide);have n6:=fy hm [102,111,114] (by decide);have n7:=fy hm [105,110] (by decide);have n8:=fy hm [103,105,118,101] (by decide);have n9:=fy hm [116,114,117,101] (by decide);have n10:=fy hm [102,97,108,115,101] (by decide);clear hm
  go_enter Tryz.func20,Tryz.ntmps20
  go_wp2
  go_ret;exact ⟨rfl,rfl⟩
theorem um (a:Sec):(ai a).size=a.length:=by simp [ai,ByteArray.size]
def un (u:Nat):Sec:=if h:u < 10 then [UInt8.ofNat (48+u)] else un (u / 10)++[UInt8.ofNat (48+u % 10)]
termination_by u
decreasing_by omega
theorem kO {u:Nat} (h:u < 10):un u=[UInt8.ofNat (48+u)]:=by
 conv=>lhs;unfold un
 rw [dif_pos h]
theorem decL_big {u:Nat} (h:¬ u < 10):un u=un (u / 10)++[UInt8.ofNat (48+u % 10)]:=by
 conv=>lhs;unfold un
 rw [dif_neg h]
theorem qu:∀ (k u:Nat),u < 10 ^ (k+1)→(un u).length≤k+1
 | 0,u,h=>by rw [kO (by omega)];simp
 | k+1,u,h=>by
  by_cases hu:u < 10
  ·rw [kO hu];simp
  ·have:=qu k (u / 10) (by rw [Nat.pow_succ] at h;omega);rw [decL_big hu,List.length_append,List.length_singleton];omega
theorem uo {u:Nat} (h:u < 9223372036854775808):(un u).length≤19:=qu 18 u (by omega)
theorem oY {c:UInt8} (h:aL c=true):dm c=false∧eB c=false∧c.toNat≠35∧ones.contains c=false∧∀ d,[c,d]∉twos:=by
 simp [aL] at h;refine ⟨?_,?_,by omega,?_,fun d hd=>?_⟩
 ·simp only [dm,Bool.or_eq_false_iff,Bool.and_eq_false_iff,decide_eq_false_iff_not];omega
 ·simp only [eB,Bool.or_eq_false_iff,decide_eq_false_iff_not];omega
 ·rw [Bool.eq_false_iff];intro hc;have hm:c∈ones:=by simpa using hc
  simp only [ones,List.mem_cons,List.not_mem_nil,or_false] at hm;rcases hm with e | e | e | e | e | e | e | e | e | e | e | e | e | e | e | e | e<;>rw [e] at h<;>revert h<;>decide
 ·simp only [twos,List.mem_cons,List.not_mem_nil,or_false,List.cons.injEq,and_true] at hd;rcases hd with e | e | e | e | e | e | e | e | e | e<;>rw [e.1] at h<;>revert h<;>decide
theorem uq {c:UInt8} {r:Sec} (h:aL c=true):fp (c :: r)=0:=by
 obtain ⟨_,_,_,h1,h2⟩:=oY h;have h3:(c :: r).take 2∉twos:=by
  cases r with
  | nil=>
   intro hd;simp [twos] at hd
  | cons d r=>exact h2 d
 rw [cP h3 rfl,if_neg (by rw [h1];simp)]
def DInv (n m:Nat) (t:Sec):Prop:=(t=[]∧m=n)∨(t≠[]∧(m=0∧un n=t∨0 < m∧un n=un m++t))
theorem DInv.len {n m:Nat} {t:Sec} (h:DInv n m t) (hn:n < 9223372036854775808):t.length≤19:=by
 have:=uo hn;rcases h with ⟨rfl,rfl⟩ | ⟨_,⟨_,h⟩ | ⟨_,h⟩⟩
 ·simp
 ·rw [← h];exact this
 ·rw [h,List.length_append] at this;omega
theorem lV (acc:Nat):iI acc []=acc:=rfl
theorem eV:∀ (l:Sec) (acc:Nat),iI acc l=acc*10 ^ l.length+iI 0 l
 | [],acc=>by rw [lV,lV,List.length_nil,Nat.pow_zero,Nat.mul_one,Nat.add_zero]
 | c :: r,acc=>by
  rw [d5,d5,eV r (acc*10+(c.toNat - 48)),eV r (0*10+(c.toNat - 48)),List.length_cons,Nat.pow_succ,Nat.zero_mul,Nat.zero_add,Nat.add_mul];have:acc*10*10 ^ r.length=acc*(10 ^ r.length*10):=by rw [Nat.mul_assoc,Nat.mul_comm 10]
  omega
theorem lW:∀ (l:Sec),(∀ c∈l,aL c=true)→iI 0 l < 10 ^ l.length
 | [],_=>by rw [lV];exact Nat.one_pos
 | c :: r,h=>by
  have ih:=lW r (fun x hx=>h x (by simp [hx]));have hc:=h c (by simp);simp only [aL,Bool.and_eq_true,decide_eq_true_eq] at hc;rw [d5,eV,List.length_cons,Nat.pow_succ,Nat.zero_mul,Nat.zero_add];have h1:(c.toNat - 48)*10 ^ r.length≤9*10 ^ r.length:=Nat.mul_le_mul_right _ (by omega);omega
theorem rC {c:UInt8} {r:Sec} (hc:aL c=true) (h:c≠48):10 ^ r.length≤iI 0 (c :: r):=by
 simp only [aL,Bool.and_eq_true,decide_eq_true_eq] at hc;have h2:c.toNat≠48:=fun e=>h (UInt8.toNat_inj.1 e);rw [d5,eV,Nat.zero_mul,Nat.zero_add];have h1:1*10 ^ r.length≤(c.toNat - 48)*10 ^ r.length:=Nat.mul_le_mul_right _ (by omega);omega
theorem qv:∀ (l m:Sec),l.length=m.length→(∀ c∈l,aL c=true)→(∀ c∈m,aL c=true)→((Op.bytesLess l m=true↔iI 0 l < iI 0 m)∧(l=m↔iI 0 l=iI 0 m))
 | [],[],_,_,_=>⟨⟨fun h=>by simp [Op.bytesLess] at h,fun h=>absurd h (Nat.lt_irrefl _)⟩,⟨fun _=>rfl,fun _=>rfl⟩⟩
 | [],d :: m,h,_,_=>by simp at h
 | c :: l,[],h,_,_=>by simp at h
 | c :: l,d :: m,h,hl,hm=>by
  obtain ⟨i1,i2⟩:=qv l m (by simpa using h) (fun x hx=>hl x (by simp [hx])) (fun x hx=>hm x (by simp [hx]));have hc:=hl c (by simp);have hd:=hm d (by simp);simp only [aL,Bool.and_eq_true,decide_eq_true_eq] at hc hd;have b1:=lW l (fun x hx=>hl x (by simp [hx]));have b2:=lW m (fun x hx=>hm x (by simp [hx]));have hlen:l.length=m.length:=by simpa using h
  rw [d5,d5,eV l,eV m,Nat.zero_mul,Nat.zero_add,Nat.zero_add];rw [hlen] at b1⊢;generalize 10 ^ m.length=P at b1 b2⊢;rcases Nat.lt_trichotomy c.toNat d.toNat with h1 | h1 | h1
  ·have h2:(c.toNat - 48+1)*P≤(d.toNat - 48)*P:=Nat.mul_le_mul_right _ (by omega);rw [Nat.add_mul,Nat.one_mul] at h2;have h3:c≠d:=fun e=>by rw [e] at h1;omega
   refine ⟨⟨fun _=>by omega,fun _=>?_⟩,⟨fun e=>absurd (List.cons.inj e).1 h3,fun e=>by omega⟩⟩;simp [Op.bytesLess,UInt8.lt_iff_toNat_lt,h1]
  ·obtain rfl:c=d:=UInt8.toNat_inj.1 h1;refine ⟨?_,?_⟩
   ·simp only [Op.bytesLess];simp;rw [i1]
   ·rw [List.cons.injEq,i2];constructor
    ·rintro ⟨_,e⟩;omega
    ·intro e;exact ⟨rfl,by omega⟩
  ·have h2:(d.toNat - 48+1)*P≤(c.toNat - 48)*P:=Nat.mul_le_mul_right _ (by omega);rw [Nat.add_mul,Nat.one_mul] at h2;have h3:c≠d:=fun e=>by rw [e] at h1;omega
   refine ⟨⟨fun e=>?_,fun _=>by omega⟩,⟨fun e=>absurd (List.cons.inj e).1 h3,fun e=>by omega⟩⟩;have e':(decide (c < d) || (c == d && Op.bytesLess l m))=true:=e;rcases Bool.or_eq_true_iff.1 e' with e1 | e1
   ·have:=UInt8.lt_iff_toNat_lt.1 (of_decide_eq_true e1);omega
   ·exact absurd (eq_of_beq (Bool.and_eq_true_iff.1 e1).1) h3
def rD:Sec:=[57,50,50,51,51,55,50,48,51,54,56,53,52,55,55,53,56,48,55]
theorem maxL_val:iI 0 rD=9223372036854775807:=by kernel_rfl
theorem maxL_dig:∀ c∈rD,aL c=true:=by decide
def mQ (l:Sec):Bool:=!((decide (1 < l.length) && (l.head? == some 48)) || decide (19 < l.length)) && (decide (l.length < 19) || (Op.bytesLess l rD || l == rD))
theorem ur {l:Sec} (h:∀ c∈l,aL c=true) (h0:l≠[]):mQ l=true↔¬ (1 < l.length∧l.head?=some 48)∧iI 0 l < 9223372036854775808:=by
 obtain ⟨c,r,rfl⟩:∃ c r,l=c :: r:=by
  cases l with
  | nil=>exact absurd rfl h0
  | cons c r=>exact ⟨c,r,rfl⟩
 have hlt:=lW (c :: r) h;have hfi:=fun hc=>rC (r:=r) (h c (by simp)) (c:=c) hc;have hle:=fun he=>qv (c :: r) rD he h maxL_dig;rw [maxL_val] at hle;simp only [List.length_cons] at hlt hle⊢;unfold mQ;simp only [List.length_cons,List.head?_cons,Bool.and_eq_true,Bool.not_eq_true',Bool.or_eq_false_iff,Bool.and_eq_false_iff,Bool.or_eq_true,decide_eq_true_eq,decide_eq_false_iff_not,beq_iff_eq,beq_eq_false_iff_ne,ne_eq,Option.some.injEq];generalize iI 0 (c :: r)=v at hlt hfi hle⊢;have hP:∀ a b:Nat,a≤b→10 ^ a≤10 ^ b:=fun a b hab=>Nat.pow_le_pow_right (by omega) hab;constructor
 ·rintro ⟨⟨h1,h2⟩,h3⟩;refine ⟨fun hx=>h1.elim (fun e=>e hx.1) (fun e=>e hx.2),?_⟩;rcases h3 with h3 | h3
  ·have:=hP (r.length+1) 18 (by omega);have e:(10:Nat) ^ 18=1000000000000000000:=by decide
   omega
  ·by_cases h4:r.length+1 < 19
   ·have:=hP (r.length+1) 18 (by omega);have e:(10:Nat) ^ 18=1000000000000000000:=by decide
    omega
   ·obtain ⟨i1,i2⟩:=hle (show r.length+1=19 by omega);rcases h3 with h3 | h3
    ·have:=i1.1 h3;omega
    ·have:=i2.1 h3;omega
 ·rintro ⟨h1,h2⟩;have h19:¬ 19 < r.length+1:=by
   intro h3;have hc:c≠48:=fun e=>h1 ⟨by omega,e⟩;have:=hfi hc;have:=hP 19 r.length (by omega);have e:(10:Nat) ^ 19=10000000000000000000:=by decide
   omega
  refine ⟨⟨?_,h19⟩,?_⟩
  ·by_cases h3:1 < r.length+1
   ·exact .inr (fun e=>h1 ⟨h3,e⟩)
   ·exact .inl h3
  ·by_cases h4:r.length+1 < 19
   ·exact .inl h4
   ·obtain ⟨i1,i2⟩:=hle (show r.length+1=19 by omega);right
    by_cases h5:v < 9223372036854775807
    ·exact .inl (i1.2 h5)
    ·exact .inr (i2.2 (by omega))
theorem oZ (s:ByteArray) (w:World) (hs:s.size≤65536) (h0:s.size≠0) :
  Calls Tryz.prog 44 #[.string s] w fun e w'=>e=.returned (.bool (mQ s.data.toList))∧w=w':=by
 have hpos:0 < s.size:=by omega
 have hhd:=lS hpos;have hle:(Op.bytesLess s.toList rD || s.toList == rD)=(Op.bytesLess s.data.toList rD || s.data.toList == rD):=by rw [ByteArray.toList_eq]
 have hok:mQ s.data.toList=(!((decide (1 < s.size) && (some s[0] == some (48:UInt8))) || decide (19 < s.size)) && (decide (s.size < 19) || (Op.bytesLess s.toList rD || s.toList == rD))):=by
  rw [hle];unfold mQ;rw [aU,hhd]
 rw [hok];clear hok hhd hle
 by_cases h1:1 < s.size∧s[0]=48
 ·obtain ⟨h2,h3⟩:=h1;have hc:((s[0].toNat:Int) == 48)=true:=by rw [h3];rfl
  rw [show (!((decide (1 < s.size) && (some s[0] == some (48:UInt8))) || decide (19 < s.size)) && (decide (s.size < 19) || (Op.bytesLess s.toList rD || s.toList == rD)))=false by simp [h2,h3]];clear h3
  go_enter Tryz.func44,Tryz.ntmps44
  go_wp2
  go_ret;exact ⟨rfl,rfl⟩
 ·have hno:(decide (1 < s.size) && (some s[0] == some (48:UInt8)))=false:=by
   rw [Bool.and_eq_false_iff]
   by_cases h2:1 < s.size
   ·right;simpa using fun e=>h1 ⟨h2,e⟩
   ·left;simpa using h2
  rw [hno,Bool.false_or];have hor:¬ 1 < s.size∨1 < s.size∧((s[0].toNat:Int) == 48)=false:=by
   by_cases h2:1 < s.size
   ·refine .inr ⟨h2,?_⟩;have h3:s[0].toNat≠48:=fun e=>h1 ⟨h2,UInt8.toNat_inj.1 e⟩;simp;omega
   ·exact .inl h2
  clear hno h1
  by_cases h19:19 < s.size
  ·rw [decide_eq_true h19];simp only [Bool.not_true,Bool.false_and];have h2:1 < s.size:=by omega
   obtain ⟨_,hc⟩:=hor.resolve_left (fun h=>h h2);clear hor
   go_enter Tryz.func44,Tryz.ntmps44
   go_wp2
   go_ret;exact ⟨rfl,rfl⟩
  ·rw [decide_eq_false h19];simp only [Bool.not_false,Bool.true_and]
   by_cases h18:s.size < 19
   ·rw [decide_eq_true h18];simp only [Bool.true_or];rcases hor with h2 | ⟨h2,hc⟩
    ·go_enter Tryz.func44,Tryz.ntmps44
     go_wp2
     go_ret;exact ⟨rfl,rfl⟩
    ·go_enter Tryz.func44,Tryz.ntmps44
     go_wp2
     go_ret;exact ⟨rfl,rfl⟩
   ·rw [decide_eq_false h18];simp only [Bool.false_or];have h2:1 < s.size:=by omega
    obtain ⟨_,hc⟩:=hor.resolve_left (fun h=>h h2);have d18:decide ((s.size:Int) < 19)=false:=by simp;omega
    have d19:decide ((19:Int) < s.size)=false:=by simp;omega
    clear hor
    go_enter Tryz.func44,Tryz.ntmps44
    go_wp2
    go_ret;exact ⟨rfl,rfl⟩
def iJ (l:Sec):Bool:=if l.length=1 then (l.head?.map ones.contains).getD false else twos.contains l
theorem ut (s:ByteArray) (w:World) (hs:s.size≤65536) :
  Calls Tryz.prog 42 #[.string s] w fun e w'=>e=.returned (.bool (iJ s.data.toList))∧w=w':=by
 unfold iJ;rw [aU]
 by_cases h1:s.size=1
 ·rw [if_pos h1];have hpos:0 < s.size:=by omega
  rw [lS hpos];have K:=oX ⟨ones.toArray⟩ s[0] w (by decide);rw [show (⟨ones.toArray⟩:ByteArray).data.toList=ones from rfl] at K;have f:((s.size:Int) == 1)=true:=by rw [h1];rfl
  simp only [Option.map_some,Option.getD_some];generalize ones.contains s[0]=b at K⊢;clear h1
  go_enter Tryz.func42,Tryz.ntmps42
  go_wp2_with (go_at_call 72;refine K.mono ?_;rintro e w' ⟨rfl,rfl⟩)
  go_ret;exact ⟨rfl,rfl⟩
 ·rw [if_neg h1];have f:((s.size:Int) == 1)=false:=by
   rw [beq_eq_false_iff_ne];omega
  by_cases hm:s.data.toList∈twos
  ·rw [show twos.contains s.data.toList=true by simpa using hm];simp only [twos,List.mem_cons,List.not_mem_nil,or_false] at hm;rcases hm with h | h | h | h | h | h | h | h | h | h<;>
   ·obtain rfl:=aJ.2 h;clear h h1 f
    go_enter Tryz.func42,Tryz.ntmps42
    go_wp2
    go_ret;exact ⟨rfl,rfl⟩
  ·rw [show twos.contains s.data.toList=false by simpa using hm];have n1:=dX rfl hm [43,61] (by decide);have n2:=dX rfl hm [45,61] (by decide);have n3:=dX rfl hm [60,62] (by decide);have n4:=dX rfl hm [60,61] (by decide);have n5:=dX rfl hm [62,61] (by decide);have n6:=dX rfl hm [61,61] (by decide);have n7:=dX rfl hm [33,61] (by decide);have n8:=dX rfl hm [38,38] (by decide);have n9:=dX rfl hm [124,124] (by decide);have n10:=dX rfl hm [46,46] (by decide);clear hm h1
   go_enter Tryz.func42,Tryz.ntmps42
   go_wp2
   go_ret;exact ⟨rfl,rfl⟩
def uu (l:Sec):Bool:=l.all aL
def endN (l:Sec):Nat:=
 if (l.head?.map dm).getD false=true then bO cX l
 else if (l.head?.map aL).getD false=true then bO aL l
 else fp l
theorem mR (c:UInt8) (r:Sec):endN (c :: r)=if dm c=true then bO cX (c :: r) else if aL c=true then bO aL (c :: r) else fp (c :: r):=rfl
theorem uv (l:Sec):endN l≤l.length:=by
 have h1:=gY cX l;have h2:=gY aL l;have h3:=qt l;unfold endN
 repeat' split
 all_goals omega
theorem iR {p:UInt8→Bool} {l:Sec} {e:Nat} (he:e≤l.length):(l.take e).all p=true↔e≤bO p l:=by
 rw [← kN,fW,List.length_take];omega
theorem d6 {l:Sec} {e:Nat} (h:0 < e):(l.take e).head?=l.head?:=by
 cases l with
 | nil=>simp
 | cons c r=>
  cases e with
  | zero=>omega
  | succ e=>rfl
theorem uw {c:UInt8} (h:dm c=true):aL c=false∧ones.contains c=false∧∀ d,[c,d]∉twos:=by
 simp only [dm,Bool.or_eq_true,Bool.and_eq_true,decide_eq_true_eq] at h;refine ⟨?_,?_,fun d hd=>?_⟩
 ·simp only [aL,Bool.and_eq_false_iff,decide_eq_false_iff_not];omega
 ·rw [Bool.eq_false_iff];intro hc;have hm:c∈ones:=by simpa using hc
  simp only [ones,List.mem_cons,List.not_mem_nil,or_false] at hm;rcases hm with e | e | e | e | e | e | e | e | e | e | e | e | e | e | e | e | e<;>rw [e] at h<;>revert h<;>decide
 ·simp only [twos,List.mem_cons,List.not_mem_nil,or_false,List.cons.injEq,and_true] at hd;rcases hd with e | e | e | e | e | e | e | e | e | e<;>rw [e.1] at h<;>revert h<;>decide
theorem o0 {m:Sec} (h:m∈twos):m.length=2:=by
 simp only [twos,List.mem_cons,List.not_mem_nil,or_false] at h;rcases h with h | h | h | h | h | h | h | h | h | h<;>rw [h]<;>rfl
theorem lZ {c:UInt8} {r:Sec} (h1:ones.contains c=false) (h2:∀ d,[c,d]∉twos) (e:Nat) (he:0 < e):iJ ((c :: r).take e)=false:=by
 unfold iJ;rw [d6 he];split
 ·simpa using h1
 ·rw [Bool.eq_false_iff];intro h;have hm:(c :: r).take e∈twos:=by simpa using h
  have h3:=o0 hm;obtain ⟨n,rfl⟩:∃ n,e=n+1:=⟨e - 1,by omega⟩
  rw [List.take_succ_cons] at hm h3
  match hr:r.take n,hm,h3 with
  | [d],hm,_=>exact h2 d hm
  | [],_,h3=>simp at h3
  | _ :: _ :: _,_,h3=>simp at h3
theorem ux {c:UInt8} {r:Sec} {e:Nat} (he:e≤(c :: r).length) (h:endN (c :: r) < e):ft ((c :: r).take e)=false∧uu ((c :: r).take e)=false∧iJ ((c :: r).take e)=false:=by
 have h0:0 < e:=by omega
 have hb1:=iR (p:=cX) he;have hb2:=iR (p:=aL) he;have hlong:ft ((c :: r).take e)=(dm c && ((c :: r).take e).all cX):=by
  unfold ft;rw [d6 h0];rfl
 rw [mR] at h;rw [hlong];cases hl:dm c with
 | true=>
  rw [hl,if_pos rfl] at h;obtain ⟨k1,k2,k3⟩:=uw hl;refine ⟨?_,?_,lZ k2 k3 e h0⟩
  ·rw [Bool.true_and,Bool.eq_false_iff];intro x;have:=hb1.1 x;omega
  ·unfold uu;rw [Bool.eq_false_iff];intro x;have:=hb2.1 x;have h4:bO aL (c :: r)=0:=by simp [bO,k1]
   omega
 | false=>
  rw [hl,if_neg (by simp)] at h;refine ⟨by simp,?_⟩;cases hd:aL c with
  | true=>
   rw [hd,if_pos rfl] at h;obtain ⟨_,_,_,k2,k3⟩:=oY hd;refine ⟨?_,lZ k2 k3 e h0⟩;unfold uu;rw [Bool.eq_false_iff];intro x;have:=hb2.1 x;omega
  | false=>
   rw [hd,if_neg (by simp)] at h;have h4:bO aL (c :: r)=0:=by simp [bO,hd]
   refine ⟨?_,?_⟩
   ·unfold uu;rw [Bool.eq_false_iff];intro x;have:=hb2.1 x;omega
   ·unfold iJ;rw [d6 h0];have hlen:((c :: r).take e).length=e:=by rw [List.length_take];omega
    rw [hlen]
    by_cases h2:(c :: r).take 2∈twos
    ·rw [eF h2] at h;rw [if_neg (by omega),Bool.eq_false_iff];intro x;have:=o0 (show (c :: r).take e∈twos by simpa using x);omega
    ·rw [cP h2 rfl] at h
     by_cases h1:e=1
     ·subst h1;rw [if_pos rfl];cases ho:ones.contains c with
      | true=>rw [ho,if_pos rfl] at h;omega
      | false=>simpa using ho
     ·rw [if_neg h1,Bool.eq_false_iff];intro x;have hx:(c :: r).take e∈twos:=by simpa using x
      have:=o0 hx;obtain rfl:e=2:=by omega
      exact h2 hx
theorem end_at {c:UInt8} {r:Sec} {z:Nat} (hz:z=endN (c :: r)) :
  (z=0∧(al (c :: r)).2=0)∨
  (0 < z∧ft ((c :: r).take z)=true∧uu ((c :: r).take z)=false∧iJ ((c :: r).take z)=false∧(z≤16∧al (c :: r)=(1,z)∨16 < z∧(al (c :: r)).2=0))∨
  (0 < z∧ft ((c :: r).take z)=false∧uu ((c :: r).take z)=true∧iJ ((c :: r).take z)=false∧(mQ ((c :: r).take z)=true∧al (c :: r)=(2,z)∨mQ ((c :: r).take z)=false∧(al (c :: r)).2=0))∨
  (0 < z∧ft ((c :: r).take z)=false∧uu ((c :: r).take z)=false∧iJ ((c :: r).take z)=true∧al (c :: r)=(3,z)):=by
 have hzl:z≤(c :: r).length:=by rw [hz];exact uv _
 have hb1:=iR (p:=cX) hzl;have hb2:=iR (p:=aL) hzl;have hlong:0 < z→ft ((c :: r).take z)=(dm c && ((c :: r).take z).all cX):=fun h=>by
  unfold ft;rw [d6 h];rfl
 rw [mR] at hz;cases hl:dm c with
 | true=>
  rw [hl,if_pos rfl] at hz;obtain ⟨k1,k2,k3⟩:=uw hl;have h4:bO aL (c :: r)=0:=by simp [bO,k1]
  have hw:cX c=true:=by simp [cX,hl]
  have h0:0 < z:=by rw [hz];simp [bO,hw]
  refine .inr (.inl ⟨h0,?_,?_,lZ k2 k3 z h0,?_⟩)
  ·rw [hlong h0,hl,Bool.true_and];exact hb1.2 (by omega)
  ·unfold uu;rw [Bool.eq_false_iff];intro x;have:=hb2.1 x;omega
  ·have hname:dn (c :: r)=if z≤16 then z else 0:=by
    unfold dn;rw [← hz];simp [hl]
   have hnum:jf (c :: r)=0:=by unfold jf;rw [h4];split<;>rfl
   have hsg:fp (c :: r)=0:=by
    have h3:(c :: r).take 2∉twos:=by
     cases r with
     | nil=>intro hd;simp [twos] at hd
     | cons d r=>exact k3 d
    rw [cP h3 rfl,if_neg (by rw [k2];simp)]
   by_cases h16:z≤16
   ·refine .inl ⟨h16,?_⟩;unfold al;rw [hname,if_pos h16,if_pos h0]
   ·refine .inr ⟨by omega,?_⟩;unfold al;rw [hname,if_neg h16,hnum,hsg,if_neg (by omega),if_neg (by omega)]
 | false=>
  rw [hl,if_neg (by simp)] at hz;have hname:dn (c :: r)=0:=by simp [dn,hl]
  cases hd:aL c with
  | true=>
   rw [hd,if_pos rfl] at hz;obtain ⟨_,_,_,k2,k3⟩:=oY hd;have h0:0 < z:=by rw [hz];simp [bO,hd]
   have hall:((c :: r).take z).all aL=true:=hb2.2 (by omega);have hne:(c :: r).take z≠[]:=by
    intro e;have:=congrArg List.length e;rw [List.length_take,List.length_nil] at this;omega
   have hok:=ur (fun x hx=>List.all_eq_true.1 hall x hx) hne;rw [d6 h0,List.length_take,Nat.min_eq_left hzl] at hok;have hsg:fp (c :: r)=0:=uq hd;refine .inr (.inr (.inl ⟨h0,by rw [hlong h0,hl];rfl,hall,lZ k2 k3 z h0,?_⟩));cases hn:mQ ((c :: r).take z) with
   | true=>
    refine .inl ⟨rfl,?_⟩;obtain ⟨m1,m2⟩:=hok.1 hn;have hnum:jf (c :: r)=z:=by
     unfold jf;rw [← hz,if_neg (fun x=>x.elim m1 (fun y=>by omega))]
    unfold al;rw [hname,hnum,if_neg (by omega),if_pos h0]
   | false=>
    refine .inr ⟨rfl,?_⟩;have hno:¬ (¬ (1 < z∧(c :: r).head?=some 48)∧iI 0 ((c :: r).take z) < 9223372036854775808):=fun x=>by rw [hok.2 x] at hn;cases hn
    have hnum:jf (c :: r)=0:=by
     unfold jf;rw [← hz]
     by_cases hx:1 < z∧(c :: r).head?=some 48
     ·rw [if_pos (.inl hx)]
     ·rw [if_pos (.inr (Nat.le_of_not_lt fun y=>hno ⟨hx,y⟩))]
    unfold al;rw [hname,hnum,hsg,if_neg (by omega),if_neg (by omega)]
  | false=>
   rw [hd,if_neg (by simp)] at hz;have h4:bO aL (c :: r)=0:=by simp [bO,hd]
   have hnum:jf (c :: r)=0:=by unfold jf;rw [h4];split<;>rfl
   have hf:al (c :: r)=(3,z):=by
    unfold al;rw [hname,hnum,← hz,if_neg (by omega),if_neg (by omega)]
   by_cases h0:z=0
   ·exact .inl ⟨h0,by rw [hf];exact h0⟩
   ·have h0':0 < z:=by omega
    refine .inr (.inr (.inr ⟨h0',by rw [hlong h0',hl];rfl,?_,?_,hf⟩))
    ·unfold uu;rw [Bool.eq_false_iff];intro x;have:=hb2.1 x;omega
    ·unfold iJ;rw [d6 h0',List.length_take,Nat.min_eq_left hzl]
     by_cases h2:(c :: r).take 2∈twos
     ·rw [eF h2] at hz;subst hz;rw [if_neg (by omega)];simpa using h2
     ·rw [cP h2 rfl] at hz;cases ho:ones.contains c with
      | true=>
       rw [ho,if_pos rfl] at hz;rw [if_pos hz];simpa using ho
      | false=>
       rw [ho,if_neg (by simp)] at hz;omega
theorem mS {L:Sec} {k m:Nat} (h:br false (L.drop k)=m+br false (L.drop (k+m))):fq k (L.drop k)=fq (k+m) (L.drop (k+m)):=by
 rw [← em k,← em (k+m),List.drop_drop,List.drop_drop,h,Nat.add_assoc]
theorem uy {L:Sec} {k:Nat} {c:UInt8} (hk:L[k]?=some c) (h:eB c=true):fq k (L.drop k)=fq (k+1) (L.drop (k+1)):=mS (t8 hk h)
theorem pb {L:Sec} {k:Nat} {c:UInt8} (hk:L[k]?=some c) (h:c.toNat=35):fq k (L.drop k)=fq (k+bO cj (L.drop k)) (L.drop (k+bO cj (L.drop k))):=mS (kM hk h).1
theorem rE {L:Sec} {k z kd:Nat} {acc:List Tok} {c:UInt8} (hk:L[k]?=some c) (h1:eB c=false) (h2:c.toNat≠35) (hf:al (L.drop k)=(kd,z)) (hz:z≠0) (h:lex L=(fq k (L.drop k)).map (acc++·)) :
  lex L=(fq (k+z) (L.drop (k+z))).map ((acc++[⟨kd,(L.drop k).take z,k⟩])++·):=by
 have:=(uf hk h1 h2 h).2;rw [hf] at this;rw [this hz];congr 1;have hg:=em (k+z) (L.drop (k+z));rw [List.drop_drop] at hg;exact hg
end Go.Proofs.YtheanmadognhbaaGreatDoor
