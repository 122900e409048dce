import Derived.Test.YtheanmadognhbaaGreatDoorKes
import Derived.Test.YtheanmadognhbaaGreatDoorG21s
import Derived.Test.YtheanmadognhbaaGreatDoorCcs
namespace Go.Proofs.YtheanmadognhbaaGreatDoor
open Go.RowKit Go.Maps
set_option linter.unusedSimpArgs false
set_option linter.unusedVariables false
theorem opr_lvl {x:Sec} (h:lvl x≠0):(opr x).2≠0:=by
 have h0:x∈[[124,124],[38,38],[60],[60,61],[62],[62,61],[61,61],[33,61],[43],[45],[42],[47],[37]]:=by
  apply Classical.byContradiction
  intro hn
  simp only [List.mem_cons,List.not_mem_nil,or_false,not_or] at hn
  refine h ?_
  unfold lvl
  simp only [hn,if_false,or_self]
 have key:∀ y∈([[124,124],[38,38],[60],[60,61],[62],[62,61],[61,61],[33,61],[43],[45],[42],[47],[37]]:List Sec),(opr y).2≠0:=by decide
 exact key x h0
theorem sizeE_mk (k n:Int) (nm:Sec) (xs:List E) (p:Int):sizeE (.mk k n nm xs p)=1+sizeL xs:=by conv=>lhs;unfold sizeE
theorem sizeL_nil:sizeL []=0:=by unfold sizeL;rfl
theorem sizeL_cons (e:E) (es:List E):sizeL (e :: es)=sizeE e+sizeL es:=by conv=>lhs;unfold sizeL
theorem sizeS_mk (k:Int) (nm:Sec) (xs:List E) (n:Int) (bd els:List St) (p:Int):sizeS (.mk k nm xs n bd els p)=1+sizeL xs+sizeSs bd+sizeSs els:=by conv=>lhs;unfold sizeS
theorem sizeSs_nil:sizeSs []=0:=by unfold sizeSs;rfl
theorem sizeSs_cons (e:St) (es:List St):sizeSs (e :: es)=sizeS e+sizeSs es:=by conv=>lhs;unfold sizeSs
theorem wL_nil:wL []:=by unfold wL;trivial
theorem wL_one {e:E} (h:wE e):wL [e]:=by unfold wL;exact ⟨h,wL_nil⟩
theorem wL_two {e f:E} (h:wE e) (h2:wE f):wL [e,f]:=by unfold wL;exact ⟨h,wL_one h2⟩
theorem wB_nil:wB []:=by unfold wB;trivial
section
variable {ts:List Tok}
theorem whole_expr (hx:∀ i,(xAt ts i).length≤65536):∀ f:Nat,
  (∀ i least dp e a,exprR ts f i least dp=.ok (e,a)→wE e∧sizeE e+i≤a)∧(∀ l i least most dp e a,wE l→loopR ts f l i least most dp=.ok (e,a)→wE e∧sizeE e+i≤a+sizeE l)∧
  (∀ i dp e a,smallR ts f i dp=.ok (e,a)→wE e∧sizeE e+i≤a)∧(∀ i dp b c e a,aroundR ts f i dp b c=.ok (e,a)→wE e∧sizeE e+i+2≤a):=by
 intro f
 induction f with
 | zero=>
  refine ⟨fun i _ _ e a h=>?_,fun _ i _ _ _ e a _ h=>?_,fun i _ e a h=>?_,fun i _ _ _ e a h=>?_⟩
  ·unfold exprR at h;cases h
  ·unfold loopR at h;cases h
  ·unfold smallR at h;cases h
  ·unfold aroundR at h;cases h
 | succ f ih=>
  obtain ⟨ih1,ih2,ih3,ih4⟩:=ih
  refine ⟨fun i least dp e a h=>?_,fun l i least most dp e a hl h=>?_,fun i dp e a h=>?_,fun i dp b c e a h=>?_⟩
  ·unfold exprR at h
   split at h
   ·cases h
   ·rename_i l b hs
    obtain ⟨h1,h2⟩:=ih3 _ _ _ _ hs
    obtain ⟨h3,h4⟩:=ih2 _ _ _ _ _ _ _ h1 h
    exact ⟨h3,by omega⟩
  ·unfold loopR at h
   split at h
   ·rename_i hc
    split at h
    ·cases h
    ·rename_i r b hs
     obtain ⟨h1,h2⟩:=ih1 _ _ _ _ _ hs
     have hw:wE (.mk 6 0 (xAt ts i) [l,r] (pAt ts i)):=by
      unfold wE
      exact ⟨.inr (.inr ⟨rfl,rfl,opr_lvl (fun e=>hc.2 (.inr (.inr e)))⟩),hx i,wL_two hl h1⟩
     obtain ⟨h3,h4⟩:=ih2 _ _ _ _ _ _ _ hw h
     refine ⟨h3,?_⟩
     have:sizeE (.mk 6 0 (xAt ts i) [l,r] (pAt ts i))=1+(sizeE l+(sizeE r+0)):=by rw [sizeE_mk,sizeL_cons,sizeL_cons,sizeL_nil]
     omega
   ·cases h
    exact ⟨hl,by omega⟩
  ·unfold smallR at h
   split at h
   ·split at h
    ·cases h
    ·split at h
     ·cases h
     ·rename_i e' b hs
      cases h
      obtain ⟨h1,h2⟩:=ih3 _ _ _ _ hs
      refine ⟨?_,?_⟩
      ·unfold wE
       refine ⟨.inr (.inl ⟨?_,rfl⟩),by simp,wL_one h1⟩
       split<;>simp
      ·have:∀ k p,sizeE (.mk k 0 [] [e'] p)=1+(sizeE e'+0):=fun k p=>by rw [sizeE_mk,sizeL_cons,sizeL_nil]
       rw [this];omega
   ·split at h
    ·split at h
     ·cases h
     ·rename_i e' b hs
      cases h
      obtain ⟨h1,h2⟩:=ih4 _ _ _ _ _ _ hs
      refine ⟨?_,?_⟩
      ·unfold wE
       exact ⟨.inr (.inl ⟨.inl rfl,rfl⟩),by simp,wL_one h1⟩
      ·have:∀ k p,sizeE (.mk k 0 [] [e'] p)=1+(sizeE e'+0):=fun k p=>by rw [sizeE_mk,sizeL_cons,sizeL_nil]
       rw [this];omega
    ·split at h
     ·obtain ⟨h1,h2⟩:=ih4 _ _ _ _ _ _ h
      exact ⟨h1,by omega⟩
     ·have one:∀ k n s p,sizeE (.mk k n s [] p)=1:=fun k n s p=>by rw [sizeE_mk,sizeL_nil]
      split at h
      ·cases h
       refine ⟨?_,by rw [one];omega⟩
       unfold wE
       exact ⟨.inl ⟨.inl rfl,rfl⟩,by simp,wL_nil⟩
      ·split at h
       ·cases h
        refine ⟨?_,by rw [one];omega⟩
        unfold wE
        exact ⟨.inl ⟨.inr rfl,rfl⟩,hx i,wL_nil⟩
       ·split at h
        ·cases h
        ·rename_i s b hs
         cases h
         unfold wordT at hs
         split at hs
         ·cases hs
          refine ⟨?_,by rw [one];omega⟩
          unfold wE
          exact ⟨.inl ⟨.inr rfl,rfl⟩,hx i,wL_nil⟩
         ·cases hs
  ·unfold aroundR at h
   split at h
   ·cases h
   ·split at h
    ·split at h
     ·cases h
     ·rename_i e' b' hs
      split at h
      ·cases h
      ·rename_i a' he
       cases h
       obtain ⟨h1,h2⟩:=ih1 _ _ _ _ _ hs
       unfold eatT at he
       split at he
       ·cases he
        exact ⟨h1,by omega⟩
       ·cases he
    ·cases h
theorem whole_exprT (hx:∀ i,(xAt ts i).length≤65536) {i dp a:Nat} {e:E} (h:exprT ts i dp=.ok (e,a)):wE e∧sizeE e+i≤a:=(whole_expr hx _).1 _ _ _ _ _ h
theorem whole_aroundT (hx:∀ i,(xAt ts i).length≤65536) {i dp a:Nat} {e:E} (h:aroundT ts i dp=.ok (e,a)):wE e∧sizeE e+i≤a:=by
 obtain ⟨h1,h2⟩:=(whole_expr hx _).2.2.2 _ _ _ _ _ _ h
 exact ⟨h1,by omega⟩
theorem eatT_ok {i a:Nat} {x:Sec} (h:eatT ts i x=.ok a):a=i+1:=by
 unfold eatT at h
 split at h<;>cases h
 rfl
theorem wordT_ok {i a:Nat} {s:Sec} (h:wordT ts i=.ok (s,a)):s=xAt ts i∧a=i+1:=by
 unfold wordT at h
 split at h<;>cases h
 exact ⟨rfl,rfl⟩
theorem numT_ok {i a:Nat} {n:Int} (h:numT ts i=.ok (n,a)):kAt ts i=2∧n=numW (xAt ts i)∧a=i+1:=by
 unfold numT at h
 split at h<;>cases h
 rename_i hk
 exact ⟨hk,rfl,rfl⟩
theorem wS_two {k:Int} (hk:k=2∨k=3∨k=4∨k=5) {l r:E} (h1:wE l) (h2:wE r) (p:Int):wS (.mk k [] [l,r] 0 [] [] p):=by
 unfold wS
 exact ⟨.inr (.inl ⟨hk,rfl⟩),by simp,wL_two h1 h2,wB_nil,wB_nil⟩
theorem sizeS_two (k:Int) (l r:E) (p:Int):sizeS (.mk k [] [l,r] 0 [] [] p)=1+(sizeE l+(sizeE r+0))+0+0:=by rw [sizeS_mk,sizeL_cons,sizeL_cons,sizeL_nil,sizeSs_nil]
theorem sizeS_one (k:Int) (nm:Sec) (e:E) (bd els:List St) (p:Int):sizeS (.mk k nm [e] 0 bd els p)=1+(sizeE e+0)+sizeSs bd+sizeSs els:=by rw [sizeS_mk,sizeL_cons,sizeL_nil]
theorem sizeS_none (k:Int) (nm:Sec) (n:Int) (bd:List St) (p:Int):sizeS (.mk k nm [] n bd [] p)=1+0+sizeSs bd+0:=by rw [sizeS_mk,sizeL_nil,sizeSs_nil]
theorem whole_cell (hx:∀ i,(xAt ts i).length≤65536) {i dp a:Nat} {s:St} (h:cellR ts i dp=.ok (s,a)):wS s∧sizeS s+i≤a:=by
 unfold cellR at h
 split at h
 ·cases h
 ·rename_i l b hl
  obtain ⟨h1,h2⟩:=whole_aroundT hx hl
  split at h
  ·split at h
   ·cases h
   ·rename_i r c hr
    obtain ⟨h3,h4⟩:=whole_exprT hx hr
    split at h
    ·cases h
    ·rename_i c' hc
     cases h
     have:=eatT_ok hc
     refine ⟨wS_two ?_ h1 h3 _,by rw [sizeS_two];omega⟩
     split
     ·exact .inl rfl
     ·split
      ·exact .inr (.inl rfl)
      ·exact .inr (.inr (.inl rfl))
  ·split at h
   ·split at h
    ·cases h
    ·rename_i r c hr
     obtain ⟨h3,h4⟩:=whole_aroundT hx hr
     split at h
     ·cases h
     ·rename_i c' hc
      cases h
      have:=eatT_ok hc
      exact ⟨wS_two (.inr (.inr (.inr rfl))) h1 h3 _,by rw [sizeS_two];omega⟩
   ·cases h
theorem whole_let (hx:∀ i,(xAt ts i).length≤65536) {i dp a:Nat} {s:St} (h:letR ts i dp=.ok (s,a)):wS s∧sizeS s+i≤a:=by
 unfold letR at h
 split at h
 ·cases h
 ·rename_i nm b hw
  obtain ⟨rfl,rfl⟩:=wordT_ok hw
  split at h
  ·cases h
  ·rename_i c hc
   have:=eatT_ok hc
   split at h
   ·cases h
   ·rename_i e d he
    obtain ⟨h1,h2⟩:=whole_exprT hx he
    split at h
    ·cases h
    ·rename_i d' hd
     have:=eatT_ok hd
     cases h
     refine ⟨?_,by rw [sizeS_one,sizeSs_nil];omega⟩
     unfold wS
     exact ⟨.inl ⟨.inl rfl,rfl⟩,hx _,wL_one h1,wB_nil,wB_nil⟩
theorem whole_for (hx:∀ i,(xAt ts i).length≤65536) (hn:∀ i,kAt ts i=2→0≤numW (xAt ts i)) {i a:Nat} {s:Sec} {n:Int} (h:forR ts i=.ok ((s,n),a)):s.length≤65536∧0≤n∧i+1≤a:=by
 unfold forR at h
 split at h
 ·cases h
 ·rename_i nm b hw
  obtain ⟨rfl,rfl⟩:=wordT_ok hw
  split at h
  ·cases h
  ·rename_i c hc
   have:=eatT_ok hc
   split at h
   ·cases h
   ·rename_i d hd
    have:=eatT_ok hd
    split at h
    ·cases h
    ·rename_i e he
     have:=eatT_ok he
     split at h
     ·cases h
     ·rename_i m g hg
      obtain ⟨h1,h2,h3⟩:=numT_ok hg
      cases h
      exact ⟨hx _,by rw [h2];exact hn _ h1,by omega⟩
theorem whole_stmt (hx:∀ i,(xAt ts i).length≤65536) (hn:∀ i,kAt ts i=2→0≤numW (xAt ts i)):∀ f:Nat,
  (∀ i dp s a,stmtR ts f i dp=.ok (s,a)→wS s∧sizeS s+i≤a)∧(∀ i dp l a,blockR ts f i dp=.ok (l,a)→wB l∧sizeSs l+i+2≤a)∧
  (∀ i dp l a,stmtsR ts f i dp=.ok (l,a)→wB l∧sizeSs l+i≤a):=by
 intro f
 induction f with
 | zero=>
  refine ⟨fun i _ e a h=>?_,fun i _ e a h=>?_,fun i _ e a h=>?_⟩
  ·unfold stmtR at h;cases h
  ·unfold blockR at h;cases h
  ·unfold stmtsR at h;cases h
 | succ f ih=>
  obtain ⟨ih1,ih2,ih3⟩:=ih
  refine ⟨fun i dp s a h=>?_,fun i dp l a h=>?_,fun i dp l a h=>?_⟩
  ·unfold stmtR at h
   split at h
   ·exact whole_cell hx h
   ·split at h
    ·exact whole_let hx h
    ·split at h
     ·split at h
      ·cases h
      ·rename_i e b he
       obtain ⟨h1,h2⟩:=whole_exprT hx he
       split at h
       ·cases h
       ·rename_i bd c hb
        obtain ⟨h3,h4⟩:=ih2 _ _ _ _ hb
        split at h
        ·split at h
         ·cases h
         ·rename_i els d hd
          obtain ⟨h5,h6⟩:=ih2 _ _ _ _ hd
          cases h
          refine ⟨?_,by rw [sizeS_one];omega⟩
          unfold wS
          exact ⟨.inl ⟨.inr rfl,rfl⟩,by simp,wL_one h1,h3,h5⟩
        ·cases h
         refine ⟨?_,by rw [sizeS_one,sizeSs_nil];omega⟩
         unfold wS
         exact ⟨.inl ⟨.inr rfl,rfl⟩,by simp,wL_one h1,h3,wB_nil⟩
     ·split at h
      ·split at h
       ·cases h
       ·rename_i x b hf
        obtain ⟨xs,xn⟩:=x
        obtain ⟨h1,h2,h3⟩:=whole_for hx hn hf
        split at h
        ·cases h
        ·rename_i bd c hb
         obtain ⟨h4,h5⟩:=ih2 _ _ _ _ hb
         cases h
         refine ⟨?_,by rw [sizeS_none];omega⟩
         unfold wS
         exact ⟨.inr (.inr ⟨.inl rfl,rfl,h2⟩),h1,wL_nil,h4,wB_nil⟩
      ·cases h
  ·unfold blockR at h
   split at h
   ·cases h
   ·split at h
    ·split at h
     ·cases h
     ·rename_i l' b hs
      obtain ⟨h1,h2⟩:=ih3 _ _ _ _ hs
      split at h
      ·cases h
      ·rename_i c hc
       have:=eatT_ok hc
       cases h
       exact ⟨h1,by omega⟩
    ·cases h
  ·unfold stmtsR at h
   split at h
   ·cases h
    exact ⟨wB_nil,by rw [sizeSs_nil];omega⟩
   ·split at h
    ·cases h
    ·rename_i s b hs
     obtain ⟨h1,h2⟩:=ih1 _ _ _ _ hs
     split at h
     ·cases h
     ·rename_i l' c hl
      obtain ⟨h3,h4⟩:=ih3 _ _ _ _ hl
      cases h
      refine ⟨by unfold wB;exact ⟨h1,h3⟩,?_⟩
      rw [sizeSs_cons]
      omega
theorem whole_params (hx:∀ i,(xAt ts i).length≤65536):∀ f i l a,paramsR ts f i=.ok (l,a)→(∀ nm∈l,nm.length≤65536)∧l.length+i≤a:=by
 intro f
 induction f with
 | zero=>intro i l a h;unfold paramsR at h;cases h
 | succ f ih=>
  intro i l a h
  unfold paramsR at h
  split at h
  ·cases h
  ·rename_i s b hw
   obtain ⟨rfl,rfl⟩:=wordT_ok hw
   split at h
   ·split at h
    ·cases h
    ·rename_i l' c hl
     obtain ⟨h1,h2⟩:=ih _ _ _ hl
     cases h
     refine ⟨fun nm hm=>?_,by simp;omega⟩
     rcases List.mem_cons.1 hm with rfl | hm
     ·exact hx i
     ·exact h1 nm hm
   ·cases h
    exact ⟨fun nm hm=>by rw [List.mem_singleton.1 hm];exact hx i,by simp;omega⟩
theorem whole_needs (hx:∀ i,(xAt ts i).length≤65536):∀ f i l a,needsR ts f i=.ok (l,a)→wL l∧sizeL l+i≤a:=by
 intro f
 induction f with
 | zero=>intro i l a h;unfold needsR at h;cases h
 | succ f ih=>
  intro i l a h
  unfold needsR at h
  split at h
  ·split at h
   ·cases h
   ·rename_i e b he
    obtain ⟨h1,h2⟩:=whole_exprT hx he
    split at h
    ·cases h
    ·rename_i c hc
     have:=eatT_ok hc
     split at h
     ·cases h
     ·rename_i l' d hl
      obtain ⟨h3,h4⟩:=ih _ _ _ hl
      cases h
      refine ⟨by unfold wL;exact ⟨h1,h3⟩,?_⟩
      rw [sizeL_cons]
      omega
  ·cases h
   exact ⟨wL_nil,by rw [sizeL_nil];omega⟩
theorem whole_body (hx:∀ i,(xAt ts i).length≤65536) (hn:∀ i,kAt ts i=2→0≤numW (xAt ts i)):∀ f i l a,bodyR ts f i=.ok (l,a)→wB l∧sizeSs l+i≤a:=by
 intro f
 induction f with
 | zero=>intro i l a h;unfold bodyR at h;cases h
 | succ f ih=>
  intro i l a h
  unfold bodyR at h
  split at h
  ·cases h
   exact ⟨wB_nil,by rw [sizeSs_nil];omega⟩
  ·split at h
   ·cases h
   ·rename_i s b hs
    obtain ⟨h1,h2⟩:=(whole_stmt hx hn _).1 _ _ _ _ hs
    split at h
    ·cases h
    ·rename_i l' d hl
     obtain ⟨h3,h4⟩:=ih _ _ _ hl
     cases h
     refine ⟨by unfold wB;exact ⟨h1,h3⟩,?_⟩
     rw [sizeSs_cons]
     omega
theorem whole_give (hx:∀ i,(xAt ts i).length≤65536) {i a:Nat} {l:List E} (h:giveR ts i=.ok (l,a)):wL l∧sizeL l+i≤a∧l.length≤1:=by
 unfold giveR at h
 split at h
 ·split at h
  ·cases h
  ·rename_i e b he
   obtain ⟨h1,h2⟩:=whole_exprT hx he
   split at h
   ·cases h
   ·rename_i c hc
    have:=eatT_ok hc
    cases h
    refine ⟨wL_one h1,?_,by simp⟩
    rw [sizeL_cons,sizeL_nil]
    omega
 ·cases h
  exact ⟨wL_nil,by rw [sizeL_nil];omega,by simp⟩
theorem whole_def (he:Ends ts) (hx:∀ i,(xAt ts i).length≤65536) (hn:∀ i,kAt ts i=2→0≤numW (xAt ts i)) (hl:ts.length≤482) {d:Df} {a:Nat} (h:defR ts=.ok (d,a)):Whole d:=by
 have hpos:=defR_pos he
 rw [h] at hpos
 have hpos:a < ts.length:=hpos
 unfold defR at h
 split at h
 ·cases h
 ·rename_i hd a1 hh
  split at h
  ·cases h
  ·rename_i ns a2 h2
   split at h
   ·cases h
   ·rename_i b a3 h3
    split at h
    ·cases h
    ·rename_i g a4 h4
     split at h
     ·cases h
     ·rename_i a5 h5
      have e5:=eatT_ok h5
      obtain ⟨n1,n2⟩:=whole_needs hx _ _ _ _ h2
      obtain ⟨b1,b2⟩:=whole_body hx hn _ _ _ _ h3
      obtain ⟨g1,g2,g3⟩:=whole_give hx h4
      have hp:(∀ nm∈hd.2,nm.length≤65536)∧hd.2.length+2≤a1:=by
       unfold headR at hh
       split at hh
       ·cases hh
       ·split at hh
        ·cases hh
        ·split at hh
         ·cases hh
         ·split at hh
          ·cases hh
          ·rename_i ps c hps
           split at hh
           ·cases hh
           ·rename_i c1 hc1
            have:=eatT_ok hc1
            split at hh
            ·cases hh
            ·rename_i c2 hc2
             have:=eatT_ok hc2
             cases hh
             unfold paramsT at hps
             split at hps
             ·cases hps
              exact ⟨fun nm hm=>absurd hm (by simp),by show 0+2≤_;omega⟩
             ·obtain ⟨p1,p2⟩:=whole_params hx _ _ _ _ hps
              exact ⟨p1,by show ps.length+2≤_;omega⟩
      cases h
      exact ⟨n1,b1,g1,g3,by show sizeL ns+sizeSs b+sizeL g≤480;omega,hp.1,by show hd.2.length≤480;omega⟩
end
theorem wrap64_id {n:Int} (h0:-9223372036854775808≤n) (h1:n < 9223372036854775808):wrap64 n=n:=by unfold wrap64;omega
theorem valN_mono (l:Sec):∀ acc:Nat,acc≤valN acc l:=by
 induction l with
 | nil=>intro acc;exact Nat.le_refl _
 | cons c r ih=>intro acc;have:=ih (acc*10+(c.toNat - 48));show acc≤valN (acc*10+(c.toNat - 48)) r;omega
theorem numW_val:∀ (l:Sec) (acc:Nat),(∀ c∈l,isDig c=true)→valN acc l < 9223372036854775808→l.foldl (fun n c=>wrap64 (wrap64 (10*n)+((c.toNat:Int) - 48) % 256)) (acc:Int)=(valN acc l:Int):=by
 intro l
 induction l with
 | nil=>intro acc _ _;rfl
 | cons c r ih=>
  intro acc hd hv
  have hv':valN (acc*10+(c.toNat - 48)) r < 9223372036854775808:=hv
  have h1:=valN_mono r (acc*10+(c.toNat - 48))
  have hc:=hd c (by simp)
  simp only [isDig,Bool.and_eq_true,decide_eq_true_eq] at hc
  rw [List.foldl_cons,wrap64_id (n:=10*(acc:Int)) (by omega) (by omega),show ((c.toNat:Int) - 48) % 256=((c.toNat - 48:Nat):Int) by omega,wrap64_id (by omega) (by omega)]
  have:=ih (acc*10+(c.toNat - 48)) (fun x hx=>hd x (by simp [hx])) hv'
  rw [show 10*(acc:Int)+((c.toNat - 48:Nat):Int)=((acc*10+(c.toNat - 48):Nat):Int) by omega]
  exact this
theorem firstN_num {x:Sec} (h:firstN x=(2,x.length)) (hx:x≠[]):(∀ c∈x,isDig c=true)∧valN 0 x < 9223372036854775808:=by
 have hp:=List.length_pos_iff.2 hx
 unfold firstN at h
 split at h
 ·cases h
 ·split at h
  ·rename_i h1 h2
   have hn:numN x=x.length:=(Prod.mk.inj h).2
   unfold numN at hn
   split at hn
   ·omega
   ·rename_i hq
    have hr:=hn
    refine ⟨fun c hc=>?_,?_⟩
    ·obtain ⟨i,hi,rfl⟩:=List.getElem_of_mem hc
     exact runN_all isDig x i _ (by omega) (List.getElem?_eq_getElem hi)
    ·rw [hr,List.take_length] at hq
     omega
  ·cases h
theorem chain_at:∀ {ts:List Tok},Chain ts→∀ i:Nat,i+1 < ts.length→(xAt ts i)≠[]∧firstN (xAt ts i)=(kAt ts i,(xAt ts i).length)
 | [],h,i,hi=>by simp at hi
 | t :: ts,h,i,hi=>by
  unfold Chain at h
  rcases h with ⟨rfl,_,_⟩ | ⟨h1,h2,h3⟩
  ·simp at hi
  ·cases i with
   | zero=>exact ⟨h1,h2⟩
   | succ i=>
    have:=chain_at h3 i (by simpa using hi)
    unfold xAt kAt at this⊢
    simpa using this
theorem lex_chain {l:Sec} {ts:List Tok} (h:lex l=.ok ts):Chain ts:=(chain_lex ts.length 0 l ts (Nat.le_refl _) (by rw [← h];exact (lex_eq l).symm)).1
theorem lex_num {l:Sec} {ts:List Tok} (h:lex l=.ok ts) (i:Nat) (hk:kAt ts i=2):0≤numW (xAt ts i):=by
 have he:=lex_ends h
 have hi:i < ts.length:=by
  apply Classical.byContradiction
  intro hc
  unfold kAt at hk
  rw [List.getElem?_eq_none (by omega)] at hk
  simp at hk
 have h1:=kAt_lt he hi (by rw [hk];decide)
 obtain ⟨h2,h3⟩:=chain_at (lex_chain h) i h1
 rw [hk] at h3
 obtain ⟨h4,h5⟩:=firstN_num h3 h2
 have:=numW_val (xAt ts i) 0 h4 h5
 unfold numW
 rw [show (0:Int)=((0:Nat):Int) from rfl,this]
 omega
theorem parse_whole {l:Sec} {d:Df} (h:parseS l=.ok d):Whole d:=by
 unfold parseS at h
 split at h
 ·cases h
 ·rename_i hl
  split at h
  ·cases h
  ·rename_i ts hlex
   split at h
   ·cases h
   ·rename_i d' hp
    cases h
    unfold parseR at hp
    split at hp
    ·cases hp
    ·rename_i d2 a hd
     split at hp
     ·cases hp
      have:=lex_len hlex
      exact whole_def (lex_ends hlex) (fun i=>by have:=lex_text hlex i;omega) (lex_num hlex) (by omega) hd
     ·cases hp
mutual
theorem wE_ok:∀ e:E,wE e→okE e
 | .mk k n s xs p,h=>by
  unfold wE at h
  unfold okE
  refine ⟨h.2.1,fun hk e=>?_,wL_ok xs h.2.2⟩
  subst e
  rcases h.1 with h1 | h1 | h1
  ·omega
  ·omega
  ·simp at h1
theorem wL_ok:∀ xs:List E,wL xs→okL xs
 | [],h=>by unfold okL;trivial
 | x :: xs,h=>by unfold wL at h;unfold okL;exact ⟨wE_ok x h.1,wL_ok xs h.2⟩
end
mutual
theorem wS_ok:∀ e:St,wS e→okS e
 | .mk k nm xs n bd els p,h=>by
  unfold wS at h
  unfold okS
  refine ⟨?_,?_,h.2.1,fun hk e=>?_,wL_ok xs h.2.2.1,wB_ok bd h.2.2.2.1,wB_ok els h.2.2.2.2⟩
  ·rcases h.1 with h1 | h1 | h1<;>omega
  ·rcases h.1 with h1 | h1 | h1<;>omega
  ·subst e
   rcases h.1 with h1 | h1 | h1
   ·simp at h1
   ·omega
   ·omega
theorem wB_ok:∀ xs:List St,wB xs→okSs xs
 | [],h=>by unfold okSs;trivial
 | x :: xs,h=>by unfold wB at h;unfold okSs;exact ⟨wS_ok x h.1,wB_ok xs h.2⟩
end
end Go.Proofs.YtheanmadognhbaaGreatDoor
