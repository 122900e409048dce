import Derived.Test.YtiaeagpepfmfgaaC12q
namespace Go.Proofs.Ytiaeagpepfmfgaa
open Go.RowKit Go.Maps
set_option linter.unusedSimpArgs false
set_option linter.unusedVariables false
def digB (l:Sec):Bool:=l.all isDig
def endN (l:Sec):Nat:=
 if (l.head?.map isLet).getD false=true then runN isWrd l
 else if (l.head?.map isDig).getD false=true then runN isDig l
 else signN l
theorem endN_cons (c:UInt8) (r:Sec):endN (c :: r)=if isLet c=true then runN isWrd (c :: r) else if isDig c=true then runN isDig (c :: r) else signN (c :: r):=rfl
theorem endN_le (l:Sec):endN l≤l.length:=by
 have h1:=runN_le isWrd l
 have h2:=runN_le isDig l
 have h3:=signN_le l
 unfold endN
 repeat' split
 all_goals omega
theorem take_all {p:UInt8→Bool} {l:Sec} {e:Nat} (he:e≤l.length):(l.take e).all p=true↔e≤runN p l:=by
 rw [← runN_whole,runN_take,List.length_take]
 omega
theorem take_head {l:Sec} {e:Nat} (h:0 < e):(l.take e).head?=l.head?:=by
 cases l with
 | nil=>simp
 | cons c r=>
  cases e with
  | zero=>omega
  | succ e=>rfl
theorem let_not {c:UInt8} (h:isLet c=true):isDig c=false∧ones.contains c=false∧∀ d,[c,d]∉twos:=by
 simp only [isLet,Bool.or_eq_true,Bool.and_eq_true,decide_eq_true_eq] at h
 refine ⟨?_,?_,fun d hd=>?_⟩
 ·simp only [isDig,Bool.and_eq_false_iff,decide_eq_false_iff_not]
  omega
 ·rw [Bool.eq_false_iff]
  intro hc
  have hm:c∈ones:=by simpa using hc
  simp only [ones,List.mem_cons,List.not_mem_nil,or_false] at hm
  rcases hm with e | e | e | e | e | e | e | e | e | e | e | e | e | e | e | e | e<;>rw [e] at h<;>revert h<;>decide
 ·simp only [twos,List.mem_cons,List.not_mem_nil,or_false,List.cons.injEq,and_true] at hd
  rcases hd with e | e | e | e | e | e | e | e | e | e<;>rw [e.1] at h<;>revert h<;>decide
theorem two_len {m:Sec} (h:m∈twos):m.length=2:=by
 simp only [twos,List.mem_cons,List.not_mem_nil,or_false] at h
 rcases h with h | h | h | h | h | h | h | h | h | h<;>rw [h]<;>rfl
theorem sign_no {c:UInt8} {r:Sec} (h1:ones.contains c=false) (h2:∀ d,[c,d]∉twos) (e:Nat) (he:0 < e):signB ((c :: r).take e)=false:=by
 unfold signB
 rw [take_head he]
 split
 ·simpa using h1
 ·rw [Bool.eq_false_iff]
  intro h
  have hm:(c :: r).take e∈twos:=by simpa using h
  have h3:=two_len hm
  obtain ⟨n,rfl⟩:∃ n,e=n+1:=⟨e - 1,by omega⟩
  rw [List.take_succ_cons] at hm h3
  match hr:r.take n,hm,h3 with
  | [d],hm,_=>exact h2 d hm
  | [],_,h3=>simp at h3
  | _ :: _ :: _,_,h3=>simp at h3
theorem end_above {c:UInt8} {r:Sec} {e:Nat} (he:e≤(c :: r).length) (h:endN (c :: r) < e):longB ((c :: r).take e)=false∧digB ((c :: r).take e)=false∧signB ((c :: r).take e)=false:=by
 have h0:0 < e:=by omega
 have hb1:=take_all (p:=isWrd) he
 have hb2:=take_all (p:=isDig) he
 have hlong:longB ((c :: r).take e)=(isLet c && ((c :: r).take e).all isWrd):=by
  unfold longB
  rw [take_head h0]
  rfl
 rw [endN_cons] at h
 rw [hlong]
 cases hl:isLet c with
 | true=>
  rw [hl,if_pos rfl] at h
  obtain ⟨k1,k2,k3⟩:=let_not hl
  refine ⟨?_,?_,sign_no k2 k3 e h0⟩
  ·rw [Bool.true_and,Bool.eq_false_iff]
   intro x
   have:=hb1.1 x
   omega
  ·unfold digB
   rw [Bool.eq_false_iff]
   intro x
   have:=hb2.1 x
   have h4:runN isDig (c :: r)=0:=by simp [runN,k1]
   omega
 | false=>
  rw [hl,if_neg (by simp)] at h
  refine ⟨by simp,?_⟩
  cases hd:isDig c with
  | true=>
   rw [hd,if_pos rfl] at h
   obtain ⟨_,_,_,k2,k3⟩:=dig_not hd
   refine ⟨?_,sign_no k2 k3 e h0⟩
   unfold digB
   rw [Bool.eq_false_iff]
   intro x
   have:=hb2.1 x
   omega
  | false=>
   rw [hd,if_neg (by simp)] at h
   have h4:runN isDig (c :: r)=0:=by simp [runN,hd]
   refine ⟨?_,?_⟩
   ·unfold digB
    rw [Bool.eq_false_iff]
    intro x
    have:=hb2.1 x
    omega
   ·unfold signB
    rw [take_head h0]
    have hlen:((c :: r).take e).length=e:=by rw [List.length_take];omega
    rw [hlen]
    by_cases h2:(c :: r).take 2∈twos
    ·rw [signN_two h2] at h
     rw [if_neg (by omega),Bool.eq_false_iff]
     intro x
     have:=two_len (show (c :: r).take e∈twos by simpa using x)
     omega
    ·rw [signN_one h2 rfl] at h
     by_cases h1:e=1
     ·subst h1
      rw [if_pos rfl]
      cases ho:ones.contains c with
      | true=>rw [ho,if_pos rfl] at h;omega
      | false=>simpa using ho
     ·rw [if_neg h1,Bool.eq_false_iff]
      intro x
      have hx:(c :: r).take e∈twos:=by simpa using x
      have:=two_len hx
      obtain rfl:e=2:=by omega
      exact h2 hx
theorem end_at {c:UInt8} {r:Sec} {z:Nat} (hz:z=endN (c :: r)) :
  (z=0∧(firstN (c :: r)).2=0)∨
  (0 < z∧longB ((c :: r).take z)=true∧digB ((c :: r).take z)=false∧signB ((c :: r).take z)=false∧(z≤16∧firstN (c :: r)=(1,z)∨16 < z∧(firstN (c :: r)).2=0))∨
  (0 < z∧longB ((c :: r).take z)=false∧digB ((c :: r).take z)=true∧signB ((c :: r).take z)=false∧(numOk ((c :: r).take z)=true∧firstN (c :: r)=(2,z)∨numOk ((c :: r).take z)=false∧(firstN (c :: r)).2=0))∨
  (0 < z∧longB ((c :: r).take z)=false∧digB ((c :: r).take z)=false∧signB ((c :: r).take z)=true∧firstN (c :: r)=(3,z)):=by
 have hzl:z≤(c :: r).length:=by rw [hz];exact endN_le _
 have hb1:=take_all (p:=isWrd) hzl
 have hb2:=take_all (p:=isDig) hzl
 have hlong:0 < z→longB ((c :: r).take z)=(isLet c && ((c :: r).take z).all isWrd):=fun h=>by
  unfold longB
  rw [take_head h]
  rfl
 rw [endN_cons] at hz
 cases hl:isLet c with
 | true=>
  rw [hl,if_pos rfl] at hz
  obtain ⟨k1,k2,k3⟩:=let_not hl
  have h4:runN isDig (c :: r)=0:=by simp [runN,k1]
  have hw:isWrd c=true:=by simp [isWrd,hl]
  have h0:0 < z:=by rw [hz];simp [runN,hw]
  refine .inr (.inl ⟨h0,?_,?_,sign_no k2 k3 z h0,?_⟩)
  ·rw [hlong h0,hl,Bool.true_and]
   exact hb1.2 (by omega)
  ·unfold digB
   rw [Bool.eq_false_iff]
   intro x
   have:=hb2.1 x
   omega
  ·have hname:nameN (c :: r)=if z≤16 then z else 0:=by
    unfold nameN
    rw [← hz]
    simp [hl]
   have hnum:numN (c :: r)=0:=by unfold numN;rw [h4];split<;>rfl
   have hsg:signN (c :: r)=0:=by
    have h3:(c :: r).take 2∉twos:=by
     cases r with
     | nil=>intro hd;simp [twos] at hd
     | cons d r=>exact k3 d
    rw [signN_one h3 rfl,if_neg (by rw [k2];simp)]
   by_cases h16:z≤16
   ·refine .inl ⟨h16,?_⟩
    unfold firstN
    rw [hname,if_pos h16,if_pos h0]
   ·refine .inr ⟨by omega,?_⟩
    unfold firstN
    rw [hname,if_neg h16,hnum,hsg,if_neg (by omega),if_neg (by omega)]
 | false=>
  rw [hl,if_neg (by simp)] at hz
  have hname:nameN (c :: r)=0:=by simp [nameN,hl]
  cases hd:isDig c with
  | true=>
   rw [hd,if_pos rfl] at hz
   obtain ⟨_,_,_,k2,k3⟩:=dig_not hd
   have h0:0 < z:=by rw [hz];simp [runN,hd]
   have hall:((c :: r).take z).all isDig=true:=hb2.2 (by omega)
   have hne:(c :: r).take z≠[]:=by
    intro e
    have:=congrArg List.length e
    rw [List.length_take,List.length_nil] at this
    omega
   have hok:=numOk_iff (fun x hx=>List.all_eq_true.1 hall x hx) hne
   rw [take_head h0,List.length_take,Nat.min_eq_left hzl] at hok
   have hsg:signN (c :: r)=0:=signN_dig hd
   refine .inr (.inr (.inl ⟨h0,by rw [hlong h0,hl];rfl,hall,sign_no k2 k3 z h0,?_⟩))
   cases hn:numOk ((c :: r).take z) with
   | true=>
    refine .inl ⟨rfl,?_⟩
    obtain ⟨m1,m2⟩:=hok.1 hn
    have hnum:numN (c :: r)=z:=by
     unfold numN
     rw [← hz,if_neg (fun x=>x.elim m1 (fun y=>by omega))]
    unfold firstN
    rw [hname,hnum,if_neg (by omega),if_pos h0]
   | false=>
    refine .inr ⟨rfl,?_⟩
    have hno:¬ (¬ (1 < z∧(c :: r).head?=some 48)∧valN 0 ((c :: r).take z) < 9223372036854775808):=fun x=>by rw [hok.2 x] at hn;cases hn
    have hnum:numN (c :: r)=0:=by
     unfold numN
     rw [← hz]
     by_cases hx:1 < z∧(c :: r).head?=some 48
     ·rw [if_pos (.inl hx)]
     ·rw [if_pos (.inr (Nat.le_of_not_lt fun y=>hno ⟨hx,y⟩))]
    unfold firstN
    rw [hname,hnum,hsg,if_neg (by omega),if_neg (by omega)]
  | false=>
   rw [hd,if_neg (by simp)] at hz
   have h4:runN isDig (c :: r)=0:=by simp [runN,hd]
   have hnum:numN (c :: r)=0:=by unfold numN;rw [h4];split<;>rfl
   have hf:firstN (c :: r)=(3,z):=by
    unfold firstN
    rw [hname,hnum,← hz,if_neg (by omega),if_neg (by omega)]
   by_cases h0:z=0
   ·exact .inl ⟨h0,by rw [hf];exact h0⟩
   ·have h0':0 < z:=by omega
    refine .inr (.inr (.inr ⟨h0',by rw [hlong h0',hl];rfl,?_,?_,hf⟩))
    ·unfold digB
     rw [Bool.eq_false_iff]
     intro x
     have:=hb2.1 x
     omega
    ·unfold signB
     rw [take_head h0',List.length_take,Nat.min_eq_left hzl]
     by_cases h2:(c :: r).take 2∈twos
     ·rw [signN_two h2] at hz
      subst hz
      rw [if_neg (by omega)]
      simpa using h2
     ·rw [signN_one h2 rfl] at hz
      cases ho:ones.contains c with
      | true=>
       rw [ho,if_pos rfl] at hz
       rw [if_pos hz]
       simpa using ho
      | false=>
       rw [ho,if_neg (by simp)] at hz
       omega
theorem lexG_jump {L:Sec} {k m:Nat} (h:gapN false (L.drop k)=m+gapN false (L.drop (k+m))):lexG k (L.drop k)=lexG (k+m) (L.drop (k+m)):=by
 rw [← lexG_gap k,← lexG_gap (k+m),List.drop_drop,List.drop_drop,h,Nat.add_assoc]
theorem lexG_pass {L:Sec} {k:Nat} {c:UInt8} (hk:L[k]?=some c) (h:isBlk c=true):lexG k (L.drop k)=lexG (k+1) (L.drop (k+1)):=lexG_jump (gap_blank hk h)
theorem lexG_remark {L:Sec} {k:Nat} {c:UInt8} (hk:L[k]?=some c) (h:c.toNat=35):lexG k (L.drop k)=lexG (k+runN isRem (L.drop k)) (L.drop (k+runN isRem (L.drop k))):=lexG_jump (gap_remark hk h).1
theorem lexG_token {L:Sec} {k z kd:Nat} {acc:List Tok} {c:UInt8} (hk:L[k]?=some c) (h1:isBlk c=false) (h2:c.toNat≠35) (hf:firstN (L.drop k)=(kd,z)) (hz:z≠0) (h:lex L=(lexG k (L.drop k)).map (acc++·)) :
  lex L=(lexG (k+z) (L.drop (k+z))).map ((acc++[⟨kd,(L.drop k).take z,k⟩])++·):=by
 have:=(lexG_on hk h1 h2 h).2
 rw [hf] at this
 rw [this hz]
 congr 1
 have hg:=lexG_gap (k+z) (L.drop (k+z))
 rw [List.drop_drop] at hg
 exact hg
end Go.Proofs.Ytiaeagpepfmfgaa
