import Derived.Test.YtcebchffcmpfeaaGreatCbt
namespace Go.Proofs.YtcebchffcmpfeaaGreat
set_option linter.unusedVariables false
set_option linter.unusedSimpArgs false
open Go.RowKit Go.Maps
theorem ie {at_:Nat} {l:Sec} {ts:List Tok} (h:fi at_ l=.ok ts) :
  (l.length≤bh false l∧ts=[⟨4,[],at_+bh false l⟩])∨
  ∃ us kd z,ts=⟨kd,(l.drop (bh false l)).take z,at_+bh false l⟩ :: us∧al (l.drop (bh false l))=(kd,z)∧0 < z∧bh false l+z≤l.length∧fi (at_+bh false l+z) (l.drop (bh false l+z))=.ok us:=by
 have hg:=dT at_ l;rw [h] at hg;cases hd:l.drop (bh false l) with
 | nil=>
  left;have hlen:=congrArg List.length hd;rw [List.length_drop,List.length_nil] at hlen;rw [hd,lI] at hg;exact ⟨by omega,(Except.ok.inj hg).symm⟩
 | cons c r=>
  right;have hc:l[bh false l]?=some c:=by rw [← List.head?_drop,hd];rfl
  obtain ⟨h1,h2⟩:=eI false l c hc;rw [hd,jj _ c r h1 h2] at hg;have hfl:=jh (c :: r);have hlen:=congrArg List.length hd;rw [List.length_drop] at hlen;rcases hf:al (c :: r) with ⟨kd,z⟩
  rw [hf] at hg hfl;simp only at hg hfl;split at hg
  ·cases hg
  ·rename_i hz;cases hx:fi (at_+bh false l+z) ((c :: r).drop z) with
   | error e=>
    rw [hx] at hg;cases hg
   | ok us=>
    rw [hx] at hg;refine ⟨us,kd,z,?_,rfl,by omega,by omega,?_⟩
    ·exact (Except.ok.inj hg).symm
    ·rw [← hx,← hd,List.drop_drop]
theorem jA {l:Sec} {kd z m:Nat} (h:al l=(kd,z)) (hz:0 < z) (hm:z≤m):al (l.take m)=(kd,z):=by
 cases l with
 | nil=>simpa using h
 | cons c r=>
  obtain ⟨n,rfl⟩:∃ n,m=n+1:=⟨m - 1,by omega⟩
  have hw:=fR cx (c :: r) (n+1);have hdg:=fR aK (c :: r) (n+1);have hname:cR (c :: r)=z∨cR (c :: r)=0:=by
   unfold al at h
   by_cases h1:0 < cR (c :: r)
   ·rw [if_pos h1] at h;exact .inl (Prod.mk.inj h).2
   ·omega
  rw [List.take_succ_cons] at hw hdg⊢;have n1:0 < cR (c :: r)→cR (c :: r.take n)=cR (c :: r):=by
   intro h1;have h2:cR (c :: r)=bF cx (c :: r)∧cQ c=true∧bF cx (c :: r)≤16:=by
    unfold cR at h1⊢;split at h1
    ·rename_i hx;rw [if_pos hx];exact ⟨rfl,hx.1,hx.2⟩
    ·omega
   have h3:bF cx (c :: r.take n)=bF cx (c :: r):=by rw [hw];omega
   have h4:cR (c :: r.take n)=bF cx (c :: r):=by
    unfold cR;rw [h3,if_pos ⟨h2.2.1,h2.2.2⟩]
   rw [h4,h2.1]
  have n0:cR (c :: r)=0→cR (c :: r.take n)=0∨cQ c=true:=by
   intro h1
   by_cases hl:cQ c=true
   ·exact .inr hl
   ·left;unfold cR;rw [if_neg (fun hx=>hl hx.1)]
  unfold al at h⊢
  by_cases h1:0 < cR (c :: r)
  ·rw [if_pos h1] at h;rw [n1 h1,if_pos h1];exact h
  ·rw [if_neg h1] at h
   by_cases hl:cQ c=true
   ·
    exfalso;have hnd:aK c=false:=by
     simp only [cQ,Bool.or_eq_true,Bool.and_eq_true,decide_eq_true_eq] at hl;simp only [aK,Bool.and_eq_false_iff,decide_eq_false_iff_not];omega
    have h4:bF aK (c :: r)=0:=by simp [bF,hnd]
    have hnum:jg (c :: r)=0:=by unfold jg;rw [h4];split<;>rfl
    have hsg:fh (c :: r)=0:=by
     have ho:ones.contains c=false:=by
      rw [Bool.eq_false_iff];intro hc;have hm:c∈ones:=by simpa using hc
      simp only [ones,List.mem_cons,List.not_mem_nil,or_false] at hm;rcases hm with e | e | e | e | e | e | e | e | e | e | e | e | e | e | e | e | e<;>rw [e] at hl<;>revert hl<;>decide
     have h3:(c :: r).take 2∉twos:=by
      cases r with
      | nil=>intro hd;simp [twos] at hd
      | cons d r=>
       intro hd;simp only [List.take_succ_cons,List.take_zero,twos,List.mem_cons,List.not_mem_nil,or_false,List.cons.injEq,and_true] at hd;rcases hd with e | e | e | e | e | e | e | e | e | e<;>rw [e.1] at hl<;>revert hl<;>decide
     rw [co h3 rfl,if_neg (by rw [ho];simp)]
    rw [hnum,hsg,if_neg (by omega)] at h;have:=(Prod.mk.inj h).2;omega
   ·have hn0:cR (c :: r.take n)=0:=(n0 (by omega)).resolve_right hl;rw [hn0,if_neg (by omega)]
    by_cases h2:0 < jg (c :: r)
    ·rw [if_pos h2] at h;obtain ⟨rfl,hz2⟩:=Prod.mk.inj h;have h3:jg (c :: r)=bF aK (c :: r)∧¬ ((1 < bF aK (c :: r)∧(c :: r).head?=some 48)∨9223372036854775808≤iM 0 ((c :: r).take (bF aK (c :: r)))):=by
      unfold jg at h2⊢;split at h2
      ·omega
      ·rename_i hx;rw [if_neg hx];exact ⟨rfl,hx⟩
     have h4:bF aK (c :: r.take n)=bF aK (c :: r):=by rw [hdg];omega
     have h5:jg (c :: r.take n)=bF aK (c :: r):=by
      unfold jg;rw [h4,if_neg];have e:(c :: r.take n).take (bF aK (c :: r))=(c :: r).take (bF aK (c :: r)):=by
       rw [← List.take_succ_cons,List.take_take,Nat.min_eq_left (by omega)]
      rw [e];exact h3.2
     rw [h5,if_pos (by omega)];rw [← h3.1,hz2]
    ·rw [if_neg h2] at h;obtain ⟨rfl,hz2⟩:=Prod.mk.inj h;have hd0:aK c=false:=by
      rw [Bool.eq_false_iff];intro hd;have hs0:fh (c :: r)=0:=by
       have hx:=hd;simp only [aK,Bool.and_eq_true,decide_eq_true_eq] at hx;have ho:ones.contains c=false:=by
        rw [Bool.eq_false_iff];intro hc;have hm:c∈ones:=by simpa using hc
        simp only [ones,List.mem_cons,List.not_mem_nil,or_false] at hm;rcases hm with e | e | e | e | e | e | e | e | e | e | e | e | e | e | e | e | e<;>rw [e] at hd<;>revert hd<;>decide
       have h3:(c :: r).take 2∉twos:=by
        cases r with
        | nil=>intro hd;simp [twos] at hd
        | cons d r=>
         intro hd2;simp only [List.take_succ_cons,List.take_zero,twos,List.mem_cons,List.not_mem_nil,or_false,List.cons.injEq,and_true] at hd2;rcases hd2 with e | e | e | e | e | e | e | e | e | e<;>rw [e.1] at hd<;>revert hd<;>decide
       rw [co h3 rfl,if_neg (by rw [ho];simp)]
      omega
     have h4:bF aK (c :: r.take n)=0:=by simp [bF,hd0]
     have h5:jg (c :: r.take n)=0:=by unfold jg;rw [h4];split<;>rfl
     rw [h5,if_neg (by omega)];have h6:fh (c :: r.take n)=fh (c :: r):=by
      by_cases ht:(c :: r).take 2∈twos
      ·have hz3:z=2:=by rw [← hz2,eq ht]
       have e:(c :: r.take n).take 2=(c :: r).take 2:=by
        rw [← List.take_succ_cons,List.take_take,Nat.min_eq_left (by omega)]
       rw [eq ht,eq (by rw [e];exact ht)]
      ·have ht2:(c :: r.take n).take 2∉twos:=by
        intro hx;apply ht;have hl2:((c :: r.take n).take 2).length=2:=by
         simp only [twos,List.mem_cons,List.not_mem_nil,or_false] at hx;rcases hx with h | h | h | h | h | h | h | h | h | h<;>rw [h]<;>rfl
        rw [← List.take_succ_cons,List.take_take] at hx hl2
        by_cases h2n:2≤n+1
        ·rw [Nat.min_eq_left h2n] at hx;exact hx
        ·rw [List.length_take] at hl2;omega
       rw [co ht rfl,co ht2 rfl]
     rw [h6,hz2]
theorem rj:∀ (k:Nat) (at_:Nat) (l:Sec) (ts:List Tok) (t:Tok),fi at_ l=.ok ts→ts[k]?=some t→at_≤t.pos∧t.pos≤at_+l.length∧fi at_ (l.take (t.pos - at_))=.ok (ts.take k++[⟨4,[],t.pos⟩])
 | k,at_,l,ts,t,h,ht=>by
  have hgl:=lH false l;rcases ie h with ⟨h1,rfl⟩ | ⟨us,kd,z,rfl,hf,hz,hzl,hu⟩
  ·have hk:k=0:=by
    have:=(List.getElem?_eq_some_iff.1 ht).1;simp at this;omega
   subst hk;simp at ht;rw [← ht];have e:bh false l=l.length:=by omega
   refine ⟨by simp,by simp;omega,?_⟩;simp only [Nat.add_sub_cancel_left,List.take_zero,List.nil_append];rw [e,List.take_length,h,e]
  ·cases k with
   | zero=>
    simp at ht;rw [← ht];refine ⟨by simp,by simp;omega,?_⟩;simp only [Nat.add_sub_cancel_left,List.take_zero,List.nil_append];have e:bh false (l.take (bh false l))=bh false l:=by rw [ep];omega
    have hg:=dT at_ (l.take (bh false l));rw [e,List.drop_of_length_le (by rw [List.length_take];omega),lI] at hg;exact hg.symm
   | succ k=>
    have ht':us[k]?=some t:=by simpa using ht
    obtain ⟨i1,i2,i3⟩:=rj k _ _ us t hu ht';rw [List.length_drop] at i2;refine ⟨by omega,by omega,?_⟩;obtain ⟨m,hm⟩:∃ m,m=t.pos - at_:=⟨_,rfl⟩
    have hm2:bh false l+z≤m:=by omega
    rw [← hm];have e:bh false (l.take m)=bh false l:=by rw [ep];omega
    have hd:(l.take m).drop (bh false l)=(l.drop (bh false l)).take (m - bh false l):=List.drop_take;have hf2:al ((l.take m).drop (bh false l))=(kd,z):=by
     rw [hd];exact jA hf hz (by omega)
    have hg:=dT at_ (l.take m);rw [e] at hg;rw [← hg];cases hc:(l.take m).drop (bh false l) with
    | nil=>
     rw [hc] at hf2;have:(al ([]:Sec)).2=0:=rfl;rw [hf2] at this;simp at this;omega
    | cons c r=>
     have hcc:(l.take m)[bh false (l.take m)]?=some c:=by rw [e,← List.head?_drop,hc];rfl
     obtain ⟨h1,h2⟩:=eI false (l.take m) c hcc;rw [jj _ c r h1 h2,← hc,hf2];simp only;rw [if_neg (by omega),List.drop_drop];have hd2:(l.take m).drop (bh false l+z)=(l.drop (bh false l+z)).take (t.pos - (at_+bh false l+z)):=by
      rw [List.drop_take];congr 1;omega
     rw [hd2,i3,hd,List.take_take,Nat.min_eq_left (by omega)];rfl
termination_by k=>k
theorem lexN_ne:∀ (n at_:Nat) (l:Sec) (ts:List Tok),kI n at_ l=.ok ts→ts≠[]
 | 0,at_,l,ts,h=>by
  simp only [kI,Except.ok.injEq] at h;rw [← h];simp
 | n+1,at_,l,ts,h=>by
  simp only [kI] at h;split at h
  ·simp only [Except.ok.injEq] at h;rw [← h];simp
  ·split at h
   ·cases h
   ·cases hx:kI n (at_+(al l).2+bh false (l.drop (al l).2)) (l.drop ((al l).2+bh false (l.drop (al l).2))) with
    | error e=>
     rw [hx] at h;cases h
    | ok us=>
     rw [hx] at h;have h':(Except.ok (⟨(al l).1,l.take (al l).2,at_⟩ :: us):Except Nat (List Tok))=.ok ts:=h;rw [← Except.ok.inj h'];simp
def vm:List Tok→Prop
 | []=>False
 | t :: ts=>(ts=[]∧t.kind=4∧t.text=[])∨(t.text≠[]∧al t.text=(t.kind,t.text.length)∧vm ts)
theorem nf:∀ (n:Nat) (at_:Nat) (l:Sec) (ts:List Tok),ts.length≤n→fi at_ l=.ok ts→vm ts∧∀ t∈ts,t.text.length≤l.length
 | 0,at_,l,ts,hn,h=>by
  have:=List.length_pos_iff.2 (lexN_ne _ _ _ _ h);omega
 | n+1,at_,l,ts,hn,h=>by
  rcases ie h with ⟨h1,rfl⟩ | ⟨us,kd,z,rfl,hf,hz,hzl,hu⟩
  ·refine ⟨.inl ⟨rfl,rfl,rfl⟩,fun t ht=>?_⟩;rw [List.mem_singleton] at ht;rw [ht];simp
  ·obtain ⟨i1,i2⟩:=nf n _ _ us (by simp at hn;omega) hu;have hlen:((l.drop (bh false l)).take z).length=z:=by rw [List.length_take,List.length_drop];omega
   refine ⟨.inr ⟨?_,?_,i1⟩,fun t ht=>?_⟩
   ·intro e;simp only at e;rw [e] at hlen;simp at hlen;omega
   ·simp only;rw [hlen];exact jA hf hz (Nat.le_refl _)
   ·rcases List.mem_cons.1 ht with e | e
    ·rw [e];simp only;rw [hlen];omega
    ·have:=i2 t e;rw [List.length_drop] at this;omega
end Go.Proofs.YtcebchffcmpfeaaGreat
