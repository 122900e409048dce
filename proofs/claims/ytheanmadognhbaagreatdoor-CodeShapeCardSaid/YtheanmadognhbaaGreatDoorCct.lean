import Derived.Test.YtheanmadognhbaaGreatDoorC14t
namespace Go.Proofs.YtheanmadognhbaaGreatDoor
set_option linter.unusedVariables false
set_option linter.unusedSimpArgs false
open Go.RowKit Go.Maps
theorem hO {at_:Nat} {l:Sec} {ts:List Tok} (h:fq at_ l=.ok ts) :
  (l.length≤br false l∧ts=[⟨4,[],at_+br false l⟩])∨
  ∃ us kd z,ts=⟨kd,(l.drop (br false l)).take z,at_+br false l⟩ :: us∧al (l.drop (br false l))=(kd,z)∧0 < z∧br false l+z≤l.length∧fq (at_+br false l+z) (l.drop (br false l+z))=.ok us:=by
 have hg:=em at_ l;rw [h] at hg;cases hd:l.drop (br false l) with
 | nil=>
  left;have hlen:=congrArg List.length hd;rw [List.length_drop,List.length_nil] at hlen;rw [hd,lQ] at hg;exact ⟨by omega,(Except.ok.inj hg).symm⟩
 | cons c r=>
  right;have hc:l[br false l]?=some c:=by rw [← List.head?_drop,hd];rfl
  obtain ⟨h1,h2⟩:=eU false l c hc;rw [hd,ji _ c r h1 h2] at hg;have hfl:=jg (c :: r);have hlen:=congrArg List.length hd;rw [List.length_drop] at hlen;rcases hf:al (c :: r) with ⟨kd,z⟩
  rw [hf] at hg hfl;simp only at hg hfl;split at hg
  ·cases hg
  ·rename_i hz;cases hx:fq (at_+br false l+z) ((c :: r).drop z) with
   | error e=>
    rw [hx] at hg;cases hg
   | ok us=>
    rw [hx] at hg;refine ⟨us,kd,z,?_,rfl,by omega,by omega,?_⟩
    ·exact (Except.ok.inj hg).symm
    ·rw [← hx,← hd,List.drop_drop]
theorem jz {l:Sec} {kd z m:Nat} (h:al l=(kd,z)) (hz:0 < z) (hm:z≤m):al (l.take m)=(kd,z):=by
 cases l with
 | nil=>simpa using h
 | cons c r=>
  obtain ⟨n,rfl⟩:∃ n,m=n+1:=⟨m - 1,by omega⟩
  have hw:=fW cX (c :: r) (n+1);have hdg:=fW aL (c :: r) (n+1);have hname:dn (c :: r)=z∨dn (c :: r)=0:=by
   unfold al at h
   by_cases h1:0 < dn (c :: r)
   ·rw [if_pos h1] at h;exact .inl (Prod.mk.inj h).2
   ·omega
  rw [List.take_succ_cons] at hw hdg⊢;have n1:0 < dn (c :: r)→dn (c :: r.take n)=dn (c :: r):=by
   intro h1;have h2:dn (c :: r)=bO cX (c :: r)∧dm c=true∧bO cX (c :: r)≤16:=by
    unfold dn at h1⊢;split at h1
    ·rename_i hx;rw [if_pos hx];exact ⟨rfl,hx.1,hx.2⟩
    ·omega
   have h3:bO cX (c :: r.take n)=bO cX (c :: r):=by rw [hw];omega
   have h4:dn (c :: r.take n)=bO cX (c :: r):=by
    unfold dn;rw [h3,if_pos ⟨h2.2.1,h2.2.2⟩]
   rw [h4,h2.1]
  have n0:dn (c :: r)=0→dn (c :: r.take n)=0∨dm c=true:=by
   intro h1
   by_cases hl:dm c=true
   ·exact .inr hl
   ·left;unfold dn;rw [if_neg (fun hx=>hl hx.1)]
  unfold al at h⊢
  by_cases h1:0 < dn (c :: r)
  ·rw [if_pos h1] at h;rw [n1 h1,if_pos h1];exact h
  ·rw [if_neg h1] at h
   by_cases hl:dm c=true
   ·
    exfalso;have hnd:aL c=false:=by
     simp only [dm,Bool.or_eq_true,Bool.and_eq_true,decide_eq_true_eq] at hl;simp only [aL,Bool.and_eq_false_iff,decide_eq_false_iff_not];omega
    have h4:bO aL (c :: r)=0:=by simp [bO,hnd]
    have hnum:jf (c :: r)=0:=by unfold jf;rw [h4];split<;>rfl
    have hsg:fp (c :: r)=0:=by
     have ho:ones.contains c=false:=by
      rw [Bool.eq_false_iff];intro hc;have hm:c∈ones:=by simpa using hc
      simp only [ones,List.mem_cons,List.not_mem_nil,or_false] at hm;rcases hm with e | e | e | e | e | e | e | e | e | e | e | e | e | e | e | e | e<;>rw [e] at hl<;>revert hl<;>decide
     have h3:(c :: r).take 2∉twos:=by
      cases r with
      | nil=>intro hd;simp [twos] at hd
      | cons d r=>
       intro hd;simp only [List.take_succ_cons,List.take_zero,twos,List.mem_cons,List.not_mem_nil,or_false,List.cons.injEq,and_true] at hd;rcases hd with e | e | e | e | e | e | e | e | e | e<;>rw [e.1] at hl<;>revert hl<;>decide
     rw [cP h3 rfl,if_neg (by rw [ho];simp)]
    rw [hnum,hsg,if_neg (by omega)] at h;have:=(Prod.mk.inj h).2;omega
   ·have hn0:dn (c :: r.take n)=0:=(n0 (by omega)).resolve_right hl;rw [hn0,if_neg (by omega)]
    by_cases h2:0 < jf (c :: r)
    ·rw [if_pos h2] at h;obtain ⟨rfl,hz2⟩:=Prod.mk.inj h;have h3:jf (c :: r)=bO aL (c :: r)∧¬ ((1 < bO aL (c :: r)∧(c :: r).head?=some 48)∨9223372036854775808≤iI 0 ((c :: r).take (bO aL (c :: r)))):=by
      unfold jf at h2⊢;split at h2
      ·omega
      ·rename_i hx;rw [if_neg hx];exact ⟨rfl,hx⟩
     have h4:bO aL (c :: r.take n)=bO aL (c :: r):=by rw [hdg];omega
     have h5:jf (c :: r.take n)=bO aL (c :: r):=by
      unfold jf;rw [h4,if_neg];have e:(c :: r.take n).take (bO aL (c :: r))=(c :: r).take (bO aL (c :: r)):=by
       rw [← List.take_succ_cons,List.take_take,Nat.min_eq_left (by omega)]
      rw [e];exact h3.2
     rw [h5,if_pos (by omega)];rw [← h3.1,hz2]
    ·rw [if_neg h2] at h;obtain ⟨rfl,hz2⟩:=Prod.mk.inj h;have hd0:aL c=false:=by
      rw [Bool.eq_false_iff];intro hd;have hs0:fp (c :: r)=0:=by
       have hx:=hd;simp only [aL,Bool.and_eq_true,decide_eq_true_eq] at hx;have ho:ones.contains c=false:=by
        rw [Bool.eq_false_iff];intro hc;have hm:c∈ones:=by simpa using hc
        simp only [ones,List.mem_cons,List.not_mem_nil,or_false] at hm;rcases hm with e | e | e | e | e | e | e | e | e | e | e | e | e | e | e | e | e<;>rw [e] at hd<;>revert hd<;>decide
       have h3:(c :: r).take 2∉twos:=by
        cases r with
        | nil=>intro hd;simp [twos] at hd
        | cons d r=>
         intro hd2;simp only [List.take_succ_cons,List.take_zero,twos,List.mem_cons,List.not_mem_nil,or_false,List.cons.injEq,and_true] at hd2;rcases hd2 with e | e | e | e | e | e | e | e | e | e<;>rw [e.1] at hd<;>revert hd<;>decide
       rw [cP h3 rfl,if_neg (by rw [ho];simp)]
      omega
     have h4:bO aL (c :: r.take n)=0:=by simp [bO,hd0]
     have h5:jf (c :: r.take n)=0:=by unfold jf;rw [h4];split<;>rfl
     rw [h5,if_neg (by omega)];have h6:fp (c :: r.take n)=fp (c :: r):=by
      by_cases ht:(c :: r).take 2∈twos
      ·have hz3:z=2:=by rw [← hz2,eF ht]
       have e:(c :: r.take n).take 2=(c :: r).take 2:=by
        rw [← List.take_succ_cons,List.take_take,Nat.min_eq_left (by omega)]
       rw [eF ht,eF (by rw [e];exact ht)]
      ·have ht2:(c :: r.take n).take 2∉twos:=by
        intro hx;apply ht;have hl2:((c :: r.take n).take 2).length=2:=by
         simp only [twos,List.mem_cons,List.not_mem_nil,or_false] at hx;rcases hx with h | h | h | h | h | h | h | h | h | h<;>rw [h]<;>rfl
        rw [← List.take_succ_cons,List.take_take] at hx hl2
        by_cases h2n:2≤n+1
        ·rw [Nat.min_eq_left h2n] at hx;exact hx
        ·rw [List.length_take] at hl2;omega
       rw [cP ht rfl,cP ht2 rfl]
     rw [h6,hz2]
theorem qN:∀ (k:Nat) (at_:Nat) (l:Sec) (ts:List Tok) (t:Tok),fq at_ l=.ok ts→ts[k]?=some t→at_≤t.pos∧t.pos≤at_+l.length∧fq at_ (l.take (t.pos - at_))=.ok (ts.take k++[⟨4,[],t.pos⟩])
 | k,at_,l,ts,t,h,ht=>by
  have hgl:=lP false l;rcases hO h with ⟨h1,rfl⟩ | ⟨us,kd,z,rfl,hf,hz,hzl,hu⟩
  ·have hk:k=0:=by
    have:=(List.getElem?_eq_some_iff.1 ht).1;simp at this;omega
   subst hk;simp at ht;rw [← ht];have e:br false l=l.length:=by omega
   refine ⟨by simp,by simp;omega,?_⟩;simp only [Nat.add_sub_cancel_left,List.take_zero,List.nil_append];rw [e,List.take_length,h,e]
  ·cases k with
   | zero=>
    simp at ht;rw [← ht];refine ⟨by simp,by simp;omega,?_⟩;simp only [Nat.add_sub_cancel_left,List.take_zero,List.nil_append];have e:br false (l.take (br false l))=br false l:=by rw [eE];omega
    have hg:=em at_ (l.take (br false l));rw [e,List.drop_of_length_le (by rw [List.length_take];omega),lQ] at hg;exact hg.symm
   | succ k=>
    have ht':us[k]?=some t:=by simpa using ht
    obtain ⟨i1,i2,i3⟩:=qN k _ _ us t hu ht';rw [List.length_drop] at i2;refine ⟨by omega,by omega,?_⟩;obtain ⟨m,hm⟩:∃ m,m=t.pos - at_:=⟨_,rfl⟩
    have hm2:br false l+z≤m:=by omega
    rw [← hm];have e:br false (l.take m)=br false l:=by rw [eE];omega
    have hd:(l.take m).drop (br false l)=(l.drop (br false l)).take (m - br false l):=List.drop_take;have hf2:al ((l.take m).drop (br false l))=(kd,z):=by
     rw [hd];exact jz hf hz (by omega)
    have hg:=em at_ (l.take m);rw [e] at hg;rw [← hg];cases hc:(l.take m).drop (br false l) with
    | nil=>
     rw [hc] at hf2;have:(al ([]:Sec)).2=0:=rfl;rw [hf2] at this;simp at this;omega
    | cons c r=>
     have hcc:(l.take m)[br false (l.take m)]?=some c:=by rw [e,← List.head?_drop,hc];rfl
     obtain ⟨h1,h2⟩:=eU false (l.take m) c hcc;rw [ji _ c r h1 h2,← hc,hf2];simp only;rw [if_neg (by omega),List.drop_drop];have hd2:(l.take m).drop (br false l+z)=(l.drop (br false l+z)).take (t.pos - (at_+br false l+z)):=by
      rw [List.drop_take];congr 1;omega
     rw [hd2,i3,hd,List.take_take,Nat.min_eq_left (by omega)];rfl
termination_by k=>k
theorem lexN_ne:∀ (n at_:Nat) (l:Sec) (ts:List Tok),kL n at_ l=.ok ts→ts≠[]
 | 0,at_,l,ts,h=>by
  simp only [kL,Except.ok.injEq] at h;rw [← h];simp
 | n+1,at_,l,ts,h=>by
  simp only [kL] at h;split at h
  ·simp only [Except.ok.injEq] at h;rw [← h];simp
  ·split at h
   ·cases h
   ·cases hx:kL n (at_+(al l).2+br false (l.drop (al l).2)) (l.drop ((al l).2+br false (l.drop (al l).2))) with
    | error e=>
     rw [hx] at h;cases h
    | ok us=>
     rw [hx] at h;have h':(Except.ok (⟨(al l).1,l.take (al l).2,at_⟩ :: us):Except Nat (List Tok))=.ok ts:=h;rw [← Except.ok.inj h'];simp
def vi:List Tok→Prop
 | []=>False
 | t :: ts=>(ts=[]∧t.kind=4∧t.text=[])∨(t.text≠[]∧al t.text=(t.kind,t.text.length)∧vi ts)
theorem nj:∀ (n:Nat) (at_:Nat) (l:Sec) (ts:List Tok),ts.length≤n→fq at_ l=.ok ts→vi ts∧∀ t∈ts,t.text.length≤l.length
 | 0,at_,l,ts,hn,h=>by
  have:=List.length_pos_iff.2 (lexN_ne _ _ _ _ h);omega
 | n+1,at_,l,ts,hn,h=>by
  rcases hO h with ⟨h1,rfl⟩ | ⟨us,kd,z,rfl,hf,hz,hzl,hu⟩
  ·refine ⟨.inl ⟨rfl,rfl,rfl⟩,fun t ht=>?_⟩;rw [List.mem_singleton] at ht;rw [ht];simp
  ·obtain ⟨i1,i2⟩:=nj n _ _ us (by simp at hn;omega) hu;have hlen:((l.drop (br false l)).take z).length=z:=by rw [List.length_take,List.length_drop];omega
   refine ⟨.inr ⟨?_,?_,i1⟩,fun t ht=>?_⟩
   ·intro e;simp only at e;rw [e] at hlen;simp at hlen;omega
   ·simp only;rw [hlen];exact jz hf hz (Nat.le_refl _)
   ·rcases List.mem_cons.1 ht with e | e
    ·rw [e];simp only;rw [hlen];omega
    ·have:=i2 t e;rw [List.length_drop] at this;omega
end Go.Proofs.YtheanmadognhbaaGreatDoor
