import Derived.Test.YtcebchffcmpfeaaGreatKet
import Derived.Test.YtcebchffcmpfeaaGreatGft
import Derived.Test.YtcebchffcmpfeaaGreatCct
namespace Go.Proofs.YtcebchffcmpfeaaGreat
set_option linter.unusedVariables false
set_option linter.unusedSimpArgs false
open Go.RowKit Go.Maps
theorem opr_lvl {x:Sec} (h:lvl x≠0):(opr x).2≠0:=by
 have h0:x∈[[124,124],[38,38],[60],[60,61],[62],[62,61],[61,61],[33,61],[43],[45],[42],[47],[37]]:=by
  apply Classical.byContradiction;intro hn;simp only [List.mem_cons,List.not_mem_nil,or_false,not_or] at hn;refine h ?_;unfold lvl;simp only [hn,if_false,or_self]
 have key:∀ y∈([[124,124],[38,38],[60],[60,61],[62],[62,61],[61,61],[33,61],[43],[45],[42],[47],[37]]:List Sec),(opr y).2≠0:=by decide
 exact key x h0
theorem i8 (k n:Int) (nm:Sec) (xs:List E) (p:Int):aC (.mk k n nm xs p)=1+aq xs:=by conv=>lhs;unfold aC
theorem a6:aq []=0:=by unfold aq;rfl
theorem aE (e:E) (es:List E):aq (e :: es)=aC e+aq es:=by conv=>lhs;unfold aq
theorem f9 (k:Int) (nm:Sec) (xs:List E) (n:Int) (bd els:List St) (p:Int):bn (.mk k nm xs n bd els p)=1+aq xs+ah bd+ah els:=by conv=>lhs;unfold bn
theorem cJ:ah []=0:=by unfold ah;rfl
theorem fE (e:St) (es:List St):ah (e :: es)=bn e+ah es:=by conv=>lhs;unfold ah
theorem jB:wL []:=by unfold wL;trivial
theorem jC {e:E} (h:wE e):wL [e]:=by unfold wL;exact ⟨h,jB⟩
theorem wL_two {e f:E} (h:wE e) (h2:wE f):wL [e,f]:=by unfold wL;exact ⟨h,jC h2⟩
theorem iB:wB []:=by unfold wB;trivial
section
variable {ts:List Tok}
theorem kY (hx:∀ i,(xAt ts i).length≤65536):∀ f:Nat,
  (∀ i least dp e a,cT ts f i least dp=.ok (e,a)→wE e∧aC e+i≤a)∧(∀ l i least most dp e a,wE l→dl ts f l i least most dp=.ok (e,a)→wE e∧aC e+i≤a+aC l)∧
  (∀ i dp e a,bL ts f i dp=.ok (e,a)→wE e∧aC e+i≤a)∧(∀ i dp b c e a,aO ts f i dp b c=.ok (e,a)→wE e∧aC e+i+2≤a):=by
 intro f
 induction f with
 | zero=>
  refine ⟨fun i _ _ e a h=>?_,fun _ i _ _ _ e a _ h=>?_,fun i _ e a h=>?_,fun i _ _ _ e a h=>?_⟩
  ·unfold cT at h;cases h
  ·unfold dl at h;cases h
  ·unfold bL at h;cases h
  ·unfold aO at h;cases h
 | succ f ih=>
  obtain ⟨ih1,ih2,ih3,ih4⟩:=ih;refine ⟨fun i least dp e a h=>?_,fun l i least most dp e a hl h=>?_,fun i dp e a h=>?_,fun i dp b c e a h=>?_⟩
  ·unfold cT at h;split at h
   ·cases h
   ·rename_i l b hs;obtain ⟨h1,h2⟩:=ih3 _ _ _ _ hs;obtain ⟨h3,h4⟩:=ih2 _ _ _ _ _ _ _ h1 h;exact ⟨h3,by omega⟩
  ·unfold dl at h;split at h
   ·rename_i hc;split at h
    ·cases h
    ·rename_i r b hs;obtain ⟨h1,h2⟩:=ih1 _ _ _ _ _ hs;have hw:wE (.mk 6 0 (xAt ts i) [l,r] (pAt ts i)):=by
      unfold wE;exact ⟨.inr (.inr ⟨rfl,rfl,opr_lvl (fun e=>hc.2 (.inr (.inr e)))⟩),hx i,wL_two hl h1⟩
     obtain ⟨h3,h4⟩:=ih2 _ _ _ _ _ _ _ hw h;refine ⟨h3,?_⟩;have:aC (.mk 6 0 (xAt ts i) [l,r] (pAt ts i))=1+(aC l+(aC r+0)):=by rw [i8,aE,aE,a6]
     omega
   ·cases h;exact ⟨hl,by omega⟩
  ·unfold bL at h;split at h
   ·split at h
    ·cases h
    ·split at h
     ·cases h
     ·rename_i e' b hs;cases h;obtain ⟨h1,h2⟩:=ih3 _ _ _ _ hs;refine ⟨?_,?_⟩
      ·unfold wE;refine ⟨.inr (.inl ⟨?_,rfl⟩),by simp,jC h1⟩;split<;>simp
      ·have:∀ k p,aC (.mk k 0 [] [e'] p)=1+(aC e'+0):=fun k p=>by rw [i8,aE,a6]
       rw [this];omega
   ·split at h
    ·split at h
     ·cases h
     ·rename_i e' b hs;cases h;obtain ⟨h1,h2⟩:=ih4 _ _ _ _ _ _ hs;refine ⟨?_,?_⟩
      ·unfold wE;exact ⟨.inr (.inl ⟨.inl rfl,rfl⟩),by simp,jC h1⟩
      ·have:∀ k p,aC (.mk k 0 [] [e'] p)=1+(aC e'+0):=fun k p=>by rw [i8,aE,a6]
       rw [this];omega
    ·split at h
     ·obtain ⟨h1,h2⟩:=ih4 _ _ _ _ _ _ h;exact ⟨h1,by omega⟩
     ·have one:∀ k n s p,aC (.mk k n s [] p)=1:=fun k n s p=>by rw [i8,a6]
      split at h
      ·cases h;refine ⟨?_,by rw [one];omega⟩;unfold wE;exact ⟨.inl ⟨.inl rfl,rfl⟩,by simp,jB⟩
      ·split at h
       ·cases h;refine ⟨?_,by rw [one];omega⟩;unfold wE;exact ⟨.inl ⟨.inr rfl,rfl⟩,hx i,jB⟩
       ·split at h
        ·cases h
        ·rename_i s b hs;cases h;unfold bp at hs;split at hs
         ·cases hs;refine ⟨?_,by rw [one];omega⟩;unfold wE;exact ⟨.inl ⟨.inr rfl,rfl⟩,hx i,jB⟩
         ·cases hs
  ·unfold aO at h;split at h
   ·cases h
   ·split at h
    ·split at h
     ·cases h
     ·rename_i e' b' hs;split at h
      ·cases h
      ·rename_i a' he;cases h;obtain ⟨h1,h2⟩:=ih1 _ _ _ _ _ hs;unfold bE at he;split at he
       ·cases he;exact ⟨h1,by omega⟩
       ·cases he
    ·cases h
theorem cZ (hx:∀ i,(xAt ts i).length≤65536) {i dp a:Nat} {e:E} (h:br ts i dp=.ok (e,a)):wE e∧aC e+i≤a:=(kY hx _).1 _ _ _ _ _ h
theorem ga (hx:∀ i,(xAt ts i).length≤65536) {i dp a:Nat} {e:E} (h:bP ts i dp=.ok (e,a)):wE e∧aC e+i≤a:=by
 obtain ⟨h1,h2⟩:=(kY hx _).2.2.2 _ _ _ _ _ _ h;exact ⟨h1,by omega⟩
theorem bu {i a:Nat} {x:Sec} (h:bE ts i x=.ok a):a=i+1:=by
 unfold bE at h;split at h<;>cases h
 rfl
theorem i9 {i a:Nat} {s:Sec} (h:bp ts i=.ok (s,a)):s=xAt ts i∧a=i+1:=by
 unfold bp at h;split at h<;>cases h
 exact ⟨rfl,rfl⟩
theorem vn {i a:Nat} {n:Int} (h:pu ts i=.ok (n,a)):kAt ts i=2∧n=kz (xAt ts i)∧a=i+1:=by
 unfold pu at h;split at h<;>cases h
 rename_i hk;exact ⟨hk,rfl,rfl⟩
theorem wS_two {k:Int} (hk:k=2∨k=3∨k=4∨k=5) {l r:E} (h1:wE l) (h2:wE r) (p:Int):wS (.mk k [] [l,r] 0 [] [] p):=by
 unfold wS;exact ⟨.inr (.inl ⟨hk,rfl⟩),by simp,wL_two h1 h2,iB,iB⟩
theorem nh (k:Int) (l r:E) (p:Int):bn (.mk k [] [l,r] 0 [] [] p)=1+(aC l+(aC r+0))+0+0:=by rw [f9,aE,aE,a6,cJ]
theorem jD (k:Int) (nm:Sec) (e:E) (bd els:List St) (p:Int):bn (.mk k nm [e] 0 bd els p)=1+(aC e+0)+ah bd+ah els:=by rw [f9,aE,a6]
theorem sK (k:Int) (nm:Sec) (n:Int) (bd:List St) (p:Int):bn (.mk k nm [] n bd [] p)=1+0+ah bd+0:=by rw [f9,a6,cJ]
theorem sL (hx:∀ i,(xAt ts i).length≤65536) {i dp a:Nat} {s:St} (h:dE ts i dp=.ok (s,a)):wS s∧bn s+i≤a:=by
 unfold dE at h;split at h
 ·cases h
 ·rename_i l b hl;obtain ⟨h1,h2⟩:=ga hx hl;split at h
  ·split at h
   ·cases h
   ·rename_i r c hr;obtain ⟨h3,h4⟩:=cZ hx hr;split at h
    ·cases h
    ·rename_i c' hc;cases h;have:=bu hc;refine ⟨wS_two ?_ h1 h3 _,by rw [nh];omega⟩;split
     ·exact .inl rfl
     ·split
      ·exact .inr (.inl rfl)
      ·exact .inr (.inr (.inl rfl))
  ·split at h
   ·split at h
    ·cases h
    ·rename_i r c hr;obtain ⟨h3,h4⟩:=ga hx hr;split at h
     ·cases h
     ·rename_i c' hc;cases h;have:=bu hc;exact ⟨wS_two (.inr (.inr (.inr rfl))) h1 h3 _,by rw [nh];omega⟩
   ·cases h
theorem vp (hx:∀ i,(xAt ts i).length≤65536) {i dp a:Nat} {s:St} (h:pw ts i dp=.ok (s,a)):wS s∧bn s+i≤a:=by
 unfold pw at h;split at h
 ·cases h
 ·rename_i nm b hw;obtain ⟨rfl,rfl⟩:=i9 hw;split at h
  ·cases h
  ·rename_i c hc;have:=bu hc;split at h
   ·cases h
   ·rename_i e d he;obtain ⟨h1,h2⟩:=cZ hx he;split at h
    ·cases h
    ·rename_i d' hd;have:=bu hd;cases h;refine ⟨?_,by rw [jD,cJ];omega⟩;unfold wS;exact ⟨.inl ⟨.inl rfl,rfl⟩,hx _,jC h1,iB,iB⟩
theorem vr (hx:∀ i,(xAt ts i).length≤65536) (hn:∀ i,kAt ts i=2→0≤kz (xAt ts i)) {i a:Nat} {s:Sec} {n:Int} (h:forR ts i=.ok ((s,n),a)):s.length≤65536∧0≤n∧i+1≤a:=by
 unfold forR at h;split at h
 ·cases h
 ·rename_i nm b hw;obtain ⟨rfl,rfl⟩:=i9 hw;split at h
  ·cases h
  ·rename_i c hc;have:=bu hc;split at h
   ·cases h
   ·rename_i d hd;have:=bu hd;split at h
    ·cases h
    ·rename_i e he;have:=bu he;split at h
     ·cases h
     ·rename_i m g hg;obtain ⟨h1,h2,h3⟩:=vn hg;cases h;exact ⟨hx _,by rw [h2];exact hn _ h1,by omega⟩
theorem sM (hx:∀ i,(xAt ts i).length≤65536) (hn:∀ i,kAt ts i=2→0≤kz (xAt ts i)):∀ f:Nat,
  (∀ i dp s a,bm ts f i dp=.ok (s,a)→wS s∧bn s+i≤a)∧(∀ i dp l a,aX ts f i dp=.ok (l,a)→wB l∧ah l+i+2≤a)∧
  (∀ i dp l a,aR ts f i dp=.ok (l,a)→wB l∧ah l+i≤a):=by
 intro f
 induction f with
 | zero=>
  refine ⟨fun i _ e a h=>?_,fun i _ e a h=>?_,fun i _ e a h=>?_⟩
  ·unfold bm at h;cases h
  ·unfold aX at h;cases h
  ·unfold aR at h;cases h
 | succ f ih=>
  obtain ⟨ih1,ih2,ih3⟩:=ih;refine ⟨fun i dp s a h=>?_,fun i dp l a h=>?_,fun i dp l a h=>?_⟩
  ·unfold bm at h;split at h
   ·exact sL hx h
   ·split at h
    ·exact vp hx h
    ·split at h
     ·split at h
      ·cases h
      ·rename_i e b he;obtain ⟨h1,h2⟩:=cZ hx he;split at h
       ·cases h
       ·rename_i bd c hb;obtain ⟨h3,h4⟩:=ih2 _ _ _ _ hb;split at h
        ·split at h
         ·cases h
         ·rename_i els d hd;obtain ⟨h5,h6⟩:=ih2 _ _ _ _ hd;cases h;refine ⟨?_,by rw [jD];omega⟩;unfold wS;exact ⟨.inl ⟨.inr rfl,rfl⟩,by simp,jC h1,h3,h5⟩
        ·cases h;refine ⟨?_,by rw [jD,cJ];omega⟩;unfold wS;exact ⟨.inl ⟨.inr rfl,rfl⟩,by simp,jC h1,h3,iB⟩
     ·split at h
      ·split at h
       ·cases h
       ·rename_i x b hf;obtain ⟨xs,xn⟩:=x;obtain ⟨h1,h2,h3⟩:=vr hx hn hf;split at h
        ·cases h
        ·rename_i bd c hb;obtain ⟨h4,h5⟩:=ih2 _ _ _ _ hb;cases h;refine ⟨?_,by rw [sK];omega⟩;unfold wS;exact ⟨.inr (.inr ⟨.inl rfl,rfl,h2⟩),h1,jB,h4,iB⟩
      ·cases h
  ·unfold aX at h;split at h
   ·cases h
   ·split at h
    ·split at h
     ·cases h
     ·rename_i l' b hs;obtain ⟨h1,h2⟩:=ih3 _ _ _ _ hs;split at h
      ·cases h
      ·rename_i c hc;have:=bu hc;cases h;exact ⟨h1,by omega⟩
    ·cases h
  ·unfold aR at h;split at h
   ·cases h;exact ⟨iB,by rw [cJ];omega⟩
   ·split at h
    ·cases h
    ·rename_i s b hs;obtain ⟨h1,h2⟩:=ih1 _ _ _ _ hs;split at h
     ·cases h
     ·rename_i l' c hl;obtain ⟨h3,h4⟩:=ih3 _ _ _ _ hl;cases h;refine ⟨by unfold wB;exact ⟨h1,h3⟩,?_⟩;rw [fE];omega
theorem ni (hx:∀ i,(xAt ts i).length≤65536):∀ f i l a,aS ts f i=.ok (l,a)→(∀ nm∈l,nm.length≤65536)∧l.length+i≤a:=by
 intro f
 induction f with
 | zero=>intro i l a h;unfold aS at h;cases h
 | succ f ih=>
  intro i l a h;unfold aS at h;split at h
  ·cases h
  ·rename_i s b hw;obtain ⟨rfl,rfl⟩:=i9 hw;split at h
   ·split at h
    ·cases h
    ·rename_i l' c hl;obtain ⟨h1,h2⟩:=ih _ _ _ hl;cases h;refine ⟨fun nm hm=>?_,by simp;omega⟩;rcases List.mem_cons.1 hm with rfl | hm
     ·exact hx i
     ·exact h1 nm hm
   ·cases h;exact ⟨fun nm hm=>by rw [List.mem_singleton.1 hm];exact hx i,by simp;omega⟩
theorem pU (hx:∀ i,(xAt ts i).length≤65536):∀ f i l a,bo ts f i=.ok (l,a)→wL l∧aq l+i≤a:=by
 intro f
 induction f with
 | zero=>intro i l a h;unfold bo at h;cases h
 | succ f ih=>
  intro i l a h;unfold bo at h;split at h
  ·split at h
   ·cases h
   ·rename_i e b he;obtain ⟨h1,h2⟩:=cZ hx he;split at h
    ·cases h
    ·rename_i c hc;have:=bu hc;split at h
     ·cases h
     ·rename_i l' d hl;obtain ⟨h3,h4⟩:=ih _ _ _ hl;cases h;refine ⟨by unfold wL;exact ⟨h1,h3⟩,?_⟩;rw [aE];omega
  ·cases h;exact ⟨jB,by rw [a6];omega⟩
theorem sN (hx:∀ i,(xAt ts i).length≤65536) (hn:∀ i,kAt ts i=2→0≤kz (xAt ts i)):∀ f i l a,bM ts f i=.ok (l,a)→wB l∧ah l+i≤a:=by
 intro f
 induction f with
 | zero=>intro i l a h;unfold bM at h;cases h
 | succ f ih=>
  intro i l a h;unfold bM at h;split at h
  ·cases h;exact ⟨iB,by rw [cJ];omega⟩
  ·split at h
   ·cases h
   ·rename_i s b hs;obtain ⟨h1,h2⟩:=(sM hx hn _).1 _ _ _ _ hs;split at h
    ·cases h
    ·rename_i l' d hl;obtain ⟨h3,h4⟩:=ih _ _ _ hl;cases h;refine ⟨by unfold wB;exact ⟨h1,h3⟩,?_⟩;rw [fE];omega
theorem sO (hx:∀ i,(xAt ts i).length≤65536) {i a:Nat} {l:List E} (h:fk ts i=.ok (l,a)):wL l∧aq l+i≤a∧l.length≤1:=by
 unfold fk at h;split at h
 ·split at h
  ·cases h
  ·rename_i e b he;obtain ⟨h1,h2⟩:=cZ hx he;split at h
   ·cases h
   ·rename_i c hc;have:=bu hc;cases h;refine ⟨jC h1,?_,by simp⟩;rw [aE,a6];omega
 ·cases h;exact ⟨jB,by rw [a6];omega,by simp⟩
theorem vt (he:Ends ts) (hx:∀ i,(xAt ts i).length≤65536) (hn:∀ i,kAt ts i=2→0≤kz (xAt ts i)) (hl:ts.length≤482) {d:Df} {a:Nat} (h:oV ts=.ok (d,a)):Whole d:=by
 have hpos:=rh he;rw [h] at hpos;have hpos:a < ts.length:=hpos;unfold oV at h;split at h
 ·cases h
 ·rename_i hd a1 hh;split at h
  ·cases h
  ·rename_i ns a2 h2;split at h
   ·cases h
   ·rename_i b a3 h3;split at h
    ·cases h
    ·rename_i g a4 h4;split at h
     ·cases h
     ·rename_i a5 h5;have e5:=bu h5;obtain ⟨n1,n2⟩:=pU hx _ _ _ _ h2;obtain ⟨b1,b2⟩:=sN hx hn _ _ _ _ h3;obtain ⟨g1,g2,g3⟩:=sO hx h4;have hp:(∀ nm∈hd.2,nm.length≤65536)∧hd.2.length+2≤a1:=by
       unfold uF at hh;split at hh
       ·cases hh
       ·split at hh
        ·cases hh
        ·split at hh
         ·cases hh
         ·split at hh
          ·cases hh
          ·rename_i ps c hps;split at hh
           ·cases hh
           ·rename_i c1 hc1;have:=bu hc1;split at hh
            ·cases hh
            ·rename_i c2 hc2;have:=bu hc2;cases hh;unfold cU at hps;split at hps
             ·cases hps;exact ⟨fun nm hm=>absurd hm (by simp),by show 0+2≤_;omega⟩
             ·obtain ⟨p1,p2⟩:=ni hx _ _ _ _ hps;exact ⟨p1,by show ps.length+2≤_;omega⟩
      cases h;exact ⟨n1,b1,g1,g3,by show aq ns+ah b+aq g≤480;omega,hp.1,by show hd.2.length≤480;omega⟩
end
theorem nj {n:Int} (h0:-9223372036854775808≤n) (h1:n < 9223372036854775808):wrap64 n=n:=by unfold wrap64;omega
theorem vw (l:Sec):∀ acc:Nat,acc≤iM acc l:=by
 induction l with
 | nil=>intro acc;exact Nat.le_refl _
 | cons c r ih=>intro acc;have:=ih (acc*10+(c.toNat - 48));show acc≤iM (acc*10+(c.toNat - 48)) r;omega
theorem numW_val:∀ (l:Sec) (acc:Nat),(∀ c∈l,aK c=true)→iM acc l < 9223372036854775808→l.foldl (fun n c=>wrap64 (wrap64 (10*n)+((c.toNat:Int) - 48) % 256)) (acc:Int)=(iM acc l:Int):=by
 intro l
 induction l with
 | nil=>intro acc _ _;rfl
 | cons c r ih=>
  intro acc hd hv;have hv':iM (acc*10+(c.toNat - 48)) r < 9223372036854775808:=hv;have h1:=vw r (acc*10+(c.toNat - 48));have hc:=hd c (by simp);simp only [aK,Bool.and_eq_true,decide_eq_true_eq] at hc;rw [List.foldl_cons,nj (n:=10*(acc:Int)) (by omega) (by omega),show ((c.toNat:Int) - 48) % 256=((c.toNat - 48:Nat):Int) by omega,nj (by omega) (by omega)];have:=ih (acc*10+(c.toNat - 48)) (fun x hx=>hd x (by simp [hx])) hv';rw [show 10*(acc:Int)+((c.toNat - 48:Nat):Int)=((acc*10+(c.toNat - 48):Nat):Int) by omega];exact this
theorem sR {x:Sec} (h:al x=(2,x.length)) (hx:x≠[]):(∀ c∈x,aK c=true)∧iM 0 x < 9223372036854775808:=by
 have hp:=List.length_pos_iff.2 hx;unfold al at h;split at h
 ·cases h
 ·split at h
  ·rename_i h1 h2;have hn:jg x=x.length:=(Prod.mk.inj h).2;unfold jg at hn;split at hn
   ·omega
   ·rename_i hq;have hr:=hn;refine ⟨fun c hc=>?_,?_⟩
    ·obtain ⟨i,hi,rfl⟩:=List.getElem_of_mem hc;exact lG aK x i _ (by omega) (List.getElem?_eq_getElem hi)
    ·rw [hr,List.take_length] at hq;omega
  ·cases h
theorem rk:∀ {ts:List Tok},vm ts→∀ i:Nat,i+1 < ts.length→(xAt ts i)≠[]∧al (xAt ts i)=(kAt ts i,(xAt ts i).length)
 | [],h,i,hi=>by simp at hi
 | t :: ts,h,i,hi=>by
  unfold vm at h;rcases h with ⟨rfl,_,_⟩ | ⟨h1,h2,h3⟩
  ·simp at hi
  ·cases i with
   | zero=>exact ⟨h1,h2⟩
   | succ i=>
    have:=rk h3 i (by simpa using hi);unfold xAt kAt at this⊢;simpa using this
theorem vx {l:Sec} {ts:List Tok} (h:lex l=.ok ts):vm ts:=(nf ts.length 0 l ts (Nat.le_refl _) (by rw [← h];exact (uh l).symm)).1
theorem lex_num {l:Sec} {ts:List Tok} (h:lex l=.ok ts) (i:Nat) (hk:kAt ts i=2):0≤kz (xAt ts i):=by
 have he:=i7 h;have hi:i < ts.length:=by
  apply Classical.byContradiction;intro hc;unfold kAt at hk;rw [List.getElem?_eq_none (by omega)] at hk;simp at hk
 have h1:=jl he hi (by rw [hk];decide);obtain ⟨h2,h3⟩:=rk (vx h) i h1;rw [hk] at h3;obtain ⟨h4,h5⟩:=sR h3 h2;have:=numW_val (xAt ts i) 0 h4 h5;unfold kz;rw [show (0:Int)=((0:Nat):Int) from rfl,this];omega
theorem pV {l:Sec} {d:Df} (h:cq l=.ok d):Whole d:=by
 unfold cq at h;split at h
 ·cases h
 ·rename_i hl;split at h
  ·cases h
  ·rename_i ts hlex;split at h
   ·cases h
   ·rename_i d' hp;cases h;unfold fV at hp;split at hp
    ·cases hp
    ·rename_i d2 a hd;split at hp
     ·cases hp;have:=uD hlex;exact vt (i7 hlex) (fun i=>by have:=ri hlex i;omega) (lex_num hlex) (by omega) hd
     ·cases hp
mutual
theorem wE_ok:∀ e:E,wE e→okE e
 | .mk k n s xs p,h=>by
  unfold wE at h;unfold okE;refine ⟨h.2.1,fun hk e=>?_,vy xs h.2.2⟩;subst e;rcases h.1 with h1 | h1 | h1
  ·omega
  ·omega
  ·simp at h1
theorem vy:∀ xs:List E,wL xs→okL xs
 | [],h=>by unfold okL;trivial
 | x :: xs,h=>by unfold wL at h;unfold okL;exact ⟨wE_ok x h.1,vy xs h.2⟩
end
mutual
theorem wS_ok:∀ e:St,wS e→okS e
 | .mk k nm xs n bd els p,h=>by
  unfold wS at h;unfold okS;refine ⟨?_,?_,h.2.1,fun hk e=>?_,vy xs h.2.2.1,wB_ok bd h.2.2.2.1,wB_ok els h.2.2.2.2⟩
  ·rcases h.1 with h1 | h1 | h1<;>omega
  ·rcases h.1 with h1 | h1 | h1<;>omega
  ·subst e;rcases h.1 with h1 | h1 | h1
   ·simp at h1
   ·omega
   ·omega
theorem wB_ok:∀ xs:List St,wB xs→si xs
 | [],h=>by unfold si;trivial
 | x :: xs,h=>by unfold wB at h;unfold si;exact ⟨wS_ok x h.1,wB_ok xs h.2⟩
end
end Go.Proofs.YtcebchffcmpfeaaGreat
