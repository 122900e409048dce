import Derived.Test.YtiaeagpepfmfgaaC10q
import Derived.WalkLawsBesides
namespace Go.Proofs.Ytiaeagpepfmfgaa
open Go.RowKit Go.Maps
set_option linter.unusedSimpArgs false
set_option linter.unusedVariables false
theorem valN_nil (acc:Nat):valN acc []=acc:=rfl
theorem valN_lin:∀ (l:Sec) (acc:Nat),valN acc l=acc*10 ^ l.length+valN 0 l
 | [],acc=>by rw [valN_nil,valN_nil,List.length_nil,Nat.pow_zero,Nat.mul_one,Nat.add_zero]
 | c :: r,acc=>by
  rw [valN_cons,valN_cons,valN_lin r (acc*10+(c.toNat - 48)),valN_lin r (0*10+(c.toNat - 48)),List.length_cons,Nat.pow_succ,Nat.zero_mul,Nat.zero_add,Nat.add_mul]
  have:acc*10*10 ^ r.length=acc*(10 ^ r.length*10):=by rw [Nat.mul_assoc,Nat.mul_comm 10]
  omega
theorem valN_lt:∀ (l:Sec),(∀ c∈l,isDig c=true)→valN 0 l < 10 ^ l.length
 | [],_=>by rw [valN_nil];exact Nat.one_pos
 | c :: r,h=>by
  have ih:=valN_lt r (fun x hx=>h x (by simp [hx]))
  have hc:=h c (by simp)
  simp only [isDig,Bool.and_eq_true,decide_eq_true_eq] at hc
  rw [valN_cons,valN_lin,List.length_cons,Nat.pow_succ,Nat.zero_mul,Nat.zero_add]
  have h1:(c.toNat - 48)*10 ^ r.length≤9*10 ^ r.length:=Nat.mul_le_mul_right _ (by omega)
  omega
theorem valN_first {c:UInt8} {r:Sec} (hc:isDig c=true) (h:c≠48):10 ^ r.length≤valN 0 (c :: r):=by
 simp only [isDig,Bool.and_eq_true,decide_eq_true_eq] at hc
 have h2:c.toNat≠48:=fun e=>h (UInt8.toNat_inj.1 e)
 rw [valN_cons,valN_lin,Nat.zero_mul,Nat.zero_add]
 have h1:1*10 ^ r.length≤(c.toNat - 48)*10 ^ r.length:=Nat.mul_le_mul_right _ (by omega)
 omega
theorem less_iff:∀ (l m:Sec),l.length=m.length→(∀ c∈l,isDig c=true)→(∀ c∈m,isDig c=true)→((Op.bytesLess l m=true↔valN 0 l < valN 0 m)∧(l=m↔valN 0 l=valN 0 m))
 | [],[],_,_,_=>⟨⟨fun h=>by simp [Op.bytesLess] at h,fun h=>absurd h (Nat.lt_irrefl _)⟩,⟨fun _=>rfl,fun _=>rfl⟩⟩
 | [],d :: m,h,_,_=>by simp at h
 | c :: l,[],h,_,_=>by simp at h
 | c :: l,d :: m,h,hl,hm=>by
  obtain ⟨i1,i2⟩:=less_iff l m (by simpa using h) (fun x hx=>hl x (by simp [hx])) (fun x hx=>hm x (by simp [hx]))
  have hc:=hl c (by simp)
  have hd:=hm d (by simp)
  simp only [isDig,Bool.and_eq_true,decide_eq_true_eq] at hc hd
  have b1:=valN_lt l (fun x hx=>hl x (by simp [hx]))
  have b2:=valN_lt m (fun x hx=>hm x (by simp [hx]))
  have hlen:l.length=m.length:=by simpa using h
  rw [valN_cons,valN_cons,valN_lin l,valN_lin m,Nat.zero_mul,Nat.zero_add,Nat.zero_add]
  rw [hlen] at b1⊢
  generalize 10 ^ m.length=P at b1 b2⊢
  rcases Nat.lt_trichotomy c.toNat d.toNat with h1 | h1 | h1
  ·have h2:(c.toNat - 48+1)*P≤(d.toNat - 48)*P:=Nat.mul_le_mul_right _ (by omega)
   rw [Nat.add_mul,Nat.one_mul] at h2
   have h3:c≠d:=fun e=>by rw [e] at h1;omega
   refine ⟨⟨fun _=>by omega,fun _=>?_⟩,⟨fun e=>absurd (List.cons.inj e).1 h3,fun e=>by omega⟩⟩
   simp [Op.bytesLess,UInt8.lt_iff_toNat_lt,h1]
  ·obtain rfl:c=d:=UInt8.toNat_inj.1 h1
   refine ⟨?_,?_⟩
   ·simp only [Op.bytesLess]
    simp
    rw [i1]
   ·rw [List.cons.injEq,i2]
    constructor
    ·rintro ⟨_,e⟩;omega
    ·intro e;exact ⟨rfl,by omega⟩
  ·have h2:(d.toNat - 48+1)*P≤(c.toNat - 48)*P:=Nat.mul_le_mul_right _ (by omega)
   rw [Nat.add_mul,Nat.one_mul] at h2
   have h3:c≠d:=fun e=>by rw [e] at h1;omega
   refine ⟨⟨fun e=>?_,fun _=>by omega⟩,⟨fun e=>absurd (List.cons.inj e).1 h3,fun e=>by omega⟩⟩
   have e':(decide (c < d) || (c == d && Op.bytesLess l m))=true:=e
   rcases Bool.or_eq_true_iff.1 e' with e1 | e1
   ·have:=UInt8.lt_iff_toNat_lt.1 (of_decide_eq_true e1)
    omega
   ·exact absurd (eq_of_beq (Bool.and_eq_true_iff.1 e1).1) h3
def maxL:Sec:=[57,50,50,51,51,55,50,48,51,54,56,53,52,55,55,53,56,48,55]
theorem maxL_val:valN 0 maxL=9223372036854775807:=by kernel_rfl
theorem maxL_dig:∀ c∈maxL,isDig c=true:=by decide
def numOk (l:Sec):Bool:=!((decide (1 < l.length) && (l.head? == some 48)) || decide (19 < l.length)) && (decide (l.length < 19) || (Op.bytesLess l maxL || l == maxL))
theorem numOk_iff {l:Sec} (h:∀ c∈l,isDig c=true) (h0:l≠[]):numOk l=true↔¬ (1 < l.length∧l.head?=some 48)∧valN 0 l < 9223372036854775808:=by
 obtain ⟨c,r,rfl⟩:∃ c r,l=c :: r:=by
  cases l with
  | nil=>exact absurd rfl h0
  | cons c r=>exact ⟨c,r,rfl⟩
 have hlt:=valN_lt (c :: r) h
 have hfi:=fun hc=>valN_first (r:=r) (h c (by simp)) (c:=c) hc
 have hle:=fun he=>less_iff (c :: r) maxL he h maxL_dig
 rw [maxL_val] at hle
 simp only [List.length_cons] at hlt hle⊢
 unfold numOk
 simp only [List.length_cons,List.head?_cons,Bool.and_eq_true,Bool.not_eq_true',Bool.or_eq_false_iff,Bool.and_eq_false_iff,Bool.or_eq_true,decide_eq_true_eq,decide_eq_false_iff_not,beq_iff_eq,beq_eq_false_iff_ne,ne_eq,Option.some.injEq]
 generalize valN 0 (c :: r)=v at hlt hfi hle⊢
 have hP:∀ a b:Nat,a≤b→10 ^ a≤10 ^ b:=fun a b hab=>Nat.pow_le_pow_right (by omega) hab
 constructor
 ·rintro ⟨⟨h1,h2⟩,h3⟩
  refine ⟨fun hx=>h1.elim (fun e=>e hx.1) (fun e=>e hx.2),?_⟩
  rcases h3 with h3 | h3
  ·have:=hP (r.length+1) 18 (by omega)
   have e:(10:Nat) ^ 18=1000000000000000000:=by decide
   omega
  ·by_cases h4:r.length+1 < 19
   ·have:=hP (r.length+1) 18 (by omega)
    have e:(10:Nat) ^ 18=1000000000000000000:=by decide
    omega
   ·obtain ⟨i1,i2⟩:=hle (show r.length+1=19 by omega)
    rcases h3 with h3 | h3
    ·have:=i1.1 h3;omega
    ·have:=i2.1 h3;omega
 ·rintro ⟨h1,h2⟩
  have h19:¬ 19 < r.length+1:=by
   intro h3
   have hc:c≠48:=fun e=>h1 ⟨by omega,e⟩
   have:=hfi hc
   have:=hP 19 r.length (by omega)
   have e:(10:Nat) ^ 19=10000000000000000000:=by decide
   omega
  refine ⟨⟨?_,h19⟩,?_⟩
  ·by_cases h3:1 < r.length+1
   ·exact .inr (fun e=>h1 ⟨h3,e⟩)
   ·exact .inl h3
  ·by_cases h4:r.length+1 < 19
   ·exact .inl h4
   ·obtain ⟨i1,i2⟩:=hle (show r.length+1=19 by omega)
    right
    by_cases h5:v < 9223372036854775807
    ·exact .inl (i1.2 h5)
    ·exact .inr (i2.2 (by omega))
set_option maxHeartbeats 1000000 in
theorem RNumber_any (s:ByteArray) (w:World) (hs:s.size≤65536) (h0:s.size≠0) :
  Calls Try.prog 39 #[.string s] w fun e w'=>e=.returned (.bool (numOk s.data.toList))∧w=w':=by
 have hpos:0 < s.size:=by omega
 have hhd:=str_head hpos
 have hle:(Op.bytesLess s.toList maxL || s.toList == maxL)=(Op.bytesLess s.data.toList maxL || s.data.toList == maxL):=by rw [ByteArray.toList_eq]
 have hok:numOk s.data.toList=(!((decide (1 < s.size) && (some s[0] == some (48:UInt8))) || decide (19 < s.size)) && (decide (s.size < 19) || (Op.bytesLess s.toList maxL || s.toList == maxL))):=by
  rw [hle]
  unfold numOk
  rw [bytesLen,hhd]
 rw [hok]
 clear hok hhd hle
 by_cases h1:1 < s.size∧s[0]=48
 ·obtain ⟨h2,h3⟩:=h1
  have hc:((s[0].toNat:Int) == 48)=true:=by rw [h3];rfl
  rw [show (!((decide (1 < s.size) && (some s[0] == some (48:UInt8))) || decide (19 < s.size)) && (decide (s.size < 19) || (Op.bytesLess s.toList maxL || s.toList == maxL)))=false by simp [h2,h3]]
  clear h3
  go_enter Try.func39,Try.ntmps39
  go_wp2
  go_ret
  exact ⟨rfl,rfl⟩
 ·have hno:(decide (1 < s.size) && (some s[0] == some (48:UInt8)))=false:=by
   rw [Bool.and_eq_false_iff]
   by_cases h2:1 < s.size
   ·right
    simpa using fun e=>h1 ⟨h2,e⟩
   ·left
    simpa using h2
  rw [hno,Bool.false_or]
  have hor:¬ 1 < s.size∨1 < s.size∧((s[0].toNat:Int) == 48)=false:=by
   by_cases h2:1 < s.size
   ·refine .inr ⟨h2,?_⟩
    have h3:s[0].toNat≠48:=fun e=>h1 ⟨h2,UInt8.toNat_inj.1 e⟩
    simp
    omega
   ·exact .inl h2
  clear hno h1
  by_cases h19:19 < s.size
  ·rw [decide_eq_true h19]
   simp only [Bool.not_true,Bool.false_and]
   have h2:1 < s.size:=by omega
   obtain ⟨_,hc⟩:=hor.resolve_left (fun h=>h h2)
   clear hor
   go_enter Try.func39,Try.ntmps39
   go_wp2
   go_ret
   exact ⟨rfl,rfl⟩
  ·rw [decide_eq_false h19]
   simp only [Bool.not_false,Bool.true_and]
   by_cases h18:s.size < 19
   ·rw [decide_eq_true h18]
    simp only [Bool.true_or]
    rcases hor with h2 | ⟨h2,hc⟩
    ·go_enter Try.func39,Try.ntmps39
     go_wp2
     go_ret
     exact ⟨rfl,rfl⟩
    ·go_enter Try.func39,Try.ntmps39
     go_wp2
     go_ret
     exact ⟨rfl,rfl⟩
   ·rw [decide_eq_false h18]
    simp only [Bool.false_or]
    have h2:1 < s.size:=by omega
    obtain ⟨_,hc⟩:=hor.resolve_left (fun h=>h h2)
    have d18:decide ((s.size:Int) < 19)=false:=by simp;omega
    have d19:decide ((19:Int) < s.size)=false:=by simp;omega
    clear hor
    go_enter Try.func39,Try.ntmps39
    go_wp2
    go_ret
    exact ⟨rfl,rfl⟩
def signB (l:Sec):Bool:=if l.length=1 then (l.head?.map ones.contains).getD false else twos.contains l
set_option maxHeartbeats 4000000 in
theorem RSign_any (s:ByteArray) (w:World) (hs:s.size≤65536) :
  Calls Try.prog 37 #[.string s] w fun e w'=>e=.returned (.bool (signB s.data.toList))∧w=w':=by
 unfold signB
 rw [bytesLen]
 by_cases h1:s.size=1
 ·rw [if_pos h1]
  have hpos:0 < s.size:=by omega
  rw [str_head hpos]
  have K:=has_any ⟨ones.toArray⟩ s[0] w (by decide)
  rw [show (⟨ones.toArray⟩:ByteArray).data.toList=ones from rfl] at K
  have f:((s.size:Int) == 1)=true:=by rw [h1];rfl
  simp only [Option.map_some,Option.getD_some]
  generalize ones.contains s[0]=b at K⊢
  clear h1
  go_enter Try.func37,Try.ntmps37
  go_wp2_with (go_at_call 55;refine K.mono ?_;rintro e w' ⟨rfl,rfl⟩)
  go_ret
  exact ⟨rfl,rfl⟩
 ·rw [if_neg h1]
  have f:((s.size:Int) == 1)=false:=by
   rw [beq_eq_false_iff_ne]
   omega
  by_cases hm:s.data.toList∈twos
  ·rw [show twos.contains s.data.toList=true by simpa using hm]
   simp only [twos,List.mem_cons,List.not_mem_nil,or_false] at hm
   rcases hm with h | h | h | h | h | h | h | h | h | h<;>
   ·obtain rfl:=str_eq_iff.2 h
    clear h h1 f
    go_enter Try.func37,Try.ntmps37
    go_wp2
    go_ret
    exact ⟨rfl,rfl⟩
  ·rw [show twos.contains s.data.toList=false by simpa using hm]
   have n1:=neq_two rfl hm [43,61] (by decide)
   have n2:=neq_two rfl hm [45,61] (by decide)
   have n3:=neq_two rfl hm [60,62] (by decide)
   have n4:=neq_two rfl hm [60,61] (by decide)
   have n5:=neq_two rfl hm [62,61] (by decide)
   have n6:=neq_two rfl hm [61,61] (by decide)
   have n7:=neq_two rfl hm [33,61] (by decide)
   have n8:=neq_two rfl hm [38,38] (by decide)
   have n9:=neq_two rfl hm [124,124] (by decide)
   have n10:=neq_two rfl hm [46,46] (by decide)
   clear hm h1
   go_enter Try.func37,Try.ntmps37
   go_wp2
   go_ret
   exact ⟨rfl,rfl⟩
end Go.Proofs.Ytiaeagpepfmfgaa
