import Derived.Test.YtcebchffcmpfeaaGreatHft
namespace Go.Proofs.YtcebchffcmpfeaaGreat
set_option linter.unusedVariables false
set_option linter.unusedSimpArgs false
open Go.RowKit Go.Maps
theorem oM:∀ (i:Nat) (at_:Nat) (l:Sec) (ts:List Tok),fi at_ l=.ok ts→∀ (j:Nat) (ti tj:Tok),ts[i]?=some ti→ts[j]?=some tj→i < j→ti.pos < tj.pos
 | i,at_,l,ts,h,j,ti,tj,hi,hj,hij=>by
  rcases ie h with ⟨h1,rfl⟩ | ⟨us,kd,z,rfl,hf,hz,hzl,hu⟩
  ·have:=(List.getElem?_eq_some_iff.1 hj).1;simp at this;omega
  ·obtain ⟨j,rfl⟩:∃ k,j=k+1:=⟨j - 1,by omega⟩
   have hj':us[j]?=some tj:=by simpa using hj
   cases i with
   | zero=>
    simp at hi;have:=(rj j _ _ us tj hu hj').1;rw [← hi];simp only;omega
   | succ i=>
    exact oM i _ _ us hu j ti tj (by simpa using hi) hj' (by omega)
def Up (ts:List Tok):Prop:=∀ i j,i < j→j < ts.length→pAt ts i < pAt ts j
theorem up_lex {l:Sec} {ts:List Tok} (h:lex l=.ok ts):Up ts:=by
 intro i j hij hj;rw [uh] at h;have e1:ts[i]?=some ts[i]:=List.getElem?_eq_getElem (by omega);have e2:ts[j]?=some ts[j]:=List.getElem?_eq_getElem hj;have:=oM i 0 l ts h j _ _ e1 e2 hij;unfold pAt;rw [e1,e2];exact this
def OI (ts:List Tok) (a:Nat):Nat→List Dc→Prop | i,[]=>i≤a | i,x :: xs=>∃ k,i≤k∧k < ts.length∧x.2.1=(pAt ts k:Nat)∧OI ts a (k+1) xs
section
variable {ts:List Tok}
theorem OI.le {a:Nat}:∀ {l:List Dc} {i:Nat},OI ts a i l→i≤a
 | [],i,h=>h
 | x :: xs,i,h=>by
  obtain ⟨k,h1,-,-,h2⟩:=h;have:=OI.le h2;omega
theorem OI.from_ {a:Nat} {l:List Dc} {i j:Nat} (h:OI ts a i l) (hij:j≤i):OI ts a j l:=by
 cases l with
 | nil=>exact Nat.le_trans hij h
 | cons x xs=>
  obtain ⟨k,h1,h2⟩:=h;exact ⟨k,Nat.le_trans hij h1,h2⟩
theorem OI.to {a b:Nat} (hab:a≤b):∀ {l:List Dc} {i:Nat},OI ts a i l→OI ts b i l
 | [],i,h=>Nat.le_trans h hab
 | x :: xs,i,h=>by
  obtain ⟨k,h1,h2,h3,h4⟩:=h;exact ⟨k,h1,h2,h3,OI.to hab h4⟩
theorem OI.app {a b:Nat} {m:List Dc} (hm:OI ts b a m):∀ {l:List Dc} {i:Nat},OI ts a i l→OI ts b i (l++m)
 | [],i,h=>hm.from_ h
 | x :: xs,i,h=>by
  obtain ⟨k,h1,h2,h3,h4⟩:=h;exact ⟨k,h1,h2,h3,OI.app hm h4⟩
theorem OI.all (hu:Up ts) {a:Nat}:∀ {l:List Dc} {i:Nat},OI ts a i l→∀ y∈l,∃ k,i≤k∧k < ts.length∧y.2.1=(pAt ts k:Nat)
 | [],i,h=>by intro y hy;cases hy
 | x :: xs,i,h=>by
  obtain ⟨k,h1,h2,h3,h4⟩:=h;intro y hy;rcases List.mem_cons.1 hy with rfl | hy
  ·exact ⟨k,h1,h2,h3⟩
  ·obtain ⟨m,g1,g2,g3⟩:=OI.all hu h4 y hy;exact ⟨m,by omega,g2,g3⟩
theorem OI.inc (hu:Up ts) {a:Nat}:∀ {l:List Dc} {i:Nat},OI ts a i l→Inc l
 | [],i,h=>trivial
 | x :: xs,i,h=>by
  obtain ⟨k,h1,h2,h3,h4⟩:=h;refine ⟨fun y hy=>?_,OI.inc hu h4⟩;obtain ⟨m,g1,g2,g3⟩:=OI.all hu h4 y hy;have:=hu k m (by omega) g2;rw [h3,g3];omega
theorem xM {i:Nat} {c:UInt8} {r:Sec} (h:isT ts i (c :: r)=true):i < ts.length:=by
 rcases Nat.lt_or_ge i ts.length with h1 | h1
 ·exact h1
 ·unfold isT xAt at h;rw [List.getElem?_eq_none h1] at h;simp at h
theorem forR_ok {i a:Nat} {x:Sec×Int} (h:forR ts i=.ok (x,a)):i+1≤a:=by
 unfold forR at h;split at h
 ·cases h
 ·rename_i s a1 h1;have e1:=(i9 h1).2;split at h
  ·cases h
  ·rename_i a2 h2;have e2:=bu h2;split at h
   ·cases h
   ·rename_i a3 h3;have e3:=bu h3;split at h
    ·cases h
    ·rename_i a4 h4;have e4:=bu h4;split at h
     ·cases h
     ·rename_i n a5 h5;have e5:=(vn h5).2.2;cases h;omega
theorem xN {i dp a:Nat} {s:St} (h:dE ts i dp=.ok (s,a)):cy s=[]:=by
 unfold dE at h;split at h
 ·cases h
 ·split at h
  ·split at h
   ·cases h
   ·split at h
    ·cases h
    ·cases h;have key:∀ k:Int,k=2∨k=3∨k=4→∀ (xs:List E) (p:Int),cy (.mk k [] xs 0 [] [] p)=[]:=by
      intro k hk xs p;unfold cy aA;rw [if_neg (by omega)];rfl
     refine key _ ?_ _ _;split
     ·exact .inl rfl
     ·split
      ·exact .inr (.inl rfl)
      ·exact .inr (.inr rfl)
  ·split at h
   ·split at h
    ·cases h
    ·split at h
     ·cases h
     ·cases h;unfold cy aA;rfl
   ·cases h
theorem decl_let {i dp a:Nat} {s:St} (h:pw ts i dp=.ok (s,a)):∃ nm,cy s=[(nm,((pAt ts i:Nat):Int),1)]:=by
 unfold pw at h;split at h
 ·cases h
 ·split at h
  ·cases h
  ·split at h
   ·cases h
   ·split at h
    ·cases h
    ·rename_i s0 _ _ _ _ _ _ _ _ _;cases h;exact ⟨_,by unfold cy aA;rfl⟩
theorem oi_stmt (he:Ends ts):∀ f:Nat,(∀ i dp s a,i < ts.length→bm ts f i dp=.ok (s,a)→OI ts a i (cy s))∧(∀ i dp l a,i < ts.length→aX ts f i dp=.ok (l,a)→OI ts a i (aA l))∧
  (∀ i dp l a,i < ts.length→aR ts f i dp=.ok (l,a)→OI ts a i (aA l)):=by
 intro f
 induction f with
 | zero=>
  refine ⟨fun i _ e a _ h=>?_,fun i _ e a _ h=>?_,fun i _ e a _ h=>?_⟩
  ·unfold bm at h;cases h
  ·unfold aX at h;cases h
  ·unfold aR at h;cases h
 | succ f ih=>
  obtain ⟨ih1,ih2,ih3⟩:=ih;refine ⟨fun i dp s a hi h=>?_,fun i dp l a hi h=>?_,fun i dp l a hi h=>?_⟩
  ·have hadv:=(dn he (f+1)).1 i dp hi;rw [h] at hadv;have hadv:i < a∧a < ts.length:=hadv;unfold bm at h;split at h
   ·rw [xN h];exact Nat.le_of_lt hadv.1
   ·split at h
    ·obtain ⟨nm,e⟩:=decl_let h;rw [e];exact ⟨i,Nat.le_refl _,hi,rfl,hadv.1⟩
    ·split at h
     ·rename_i hif;have hi1:=aL he hi hif;have hadx:=AdvP.expr he (i:=i+1) (p:=.ok (i+1)) ⟨Nat.le_refl _,hi1⟩ dp;split at h
      ·cases h
      ·rename_i e b0 hex;have hb0:i+1 < b0∧b0 < ts.length:=by
        have e1:g8 ts (.ok (i+1)) dp=br ts (i+1) dp:=rfl;rw [e1,hex] at hadx;exact hadx
       split at h
       ·cases h
       ·rename_i bd c hb;have hc:=(dn he f).2.1 b0 dp hb0.2;rw [hb] at hc;have hc:b0 < c∧c < ts.length:=hc;have q1:=ih2 _ _ _ _ hb0.2 hb;split at h
        ·rename_i hel;have hc1:=aL he hc.2 hel;split at h
         ·cases h
         ·rename_i els d hd;have q2:=ih2 _ _ _ _ hc1 hd;cases h;unfold cy;rw [if_neg (by decide),List.nil_append];exact (OI.app (q2.from_ (by omega)) q1).from_ (by omega)
        ·cases h;unfold cy;rw [if_neg (by decide),List.nil_append];have e0:aA []=[]:=by unfold aA;rfl
         rw [e0,List.append_nil];exact q1.from_ (by omega)
     ·split at h
      ·split at h
       ·cases h
       ·rename_i x c hf;have hfor:=forR_ok hf;have hclen:c < ts.length:=by
         rcases Nat.lt_or_ge c ts.length with h1 | h1
         ·exact h1
         ·exfalso;split at h
          ·cases h
          ·rename_i bd d hb;cases f with
           | zero=>unfold aX at hb;cases hb
           | succ f=>
            unfold aX at hb;split at hb
            ·cases hb
            ·split at hb
             ·rename_i h2;have:=xM h2;omega
             ·cases hb
        split at h
        ·cases h
        ·rename_i bd d hb;have q1:=ih2 _ _ _ _ hclen hb;cases h;unfold cy;rw [if_pos (by decide)];have e0:aA []=[]:=by unfold aA;rfl
         rw [e0,List.append_nil];exact ⟨i,Nat.le_refl _,hi,rfl,q1.from_ hfor⟩
      ·cases h
  ·unfold aX at h;split at h
   ·cases h
   ·split at h
    ·rename_i hop;have hi1:=aL he hi hop;split at h
     ·cases h
     ·rename_i l' b hs;have q:=ih3 _ _ _ _ hi1 hs;split at h
      ·cases h
      ·rename_i c hc;have:=bu hc;cases h;exact (q.from_ (by omega)).to (by omega)
    ·cases h
  ·unfold aR at h;split at h
   ·cases h;unfold aA;exact Nat.le_refl _
   ·split at h
    ·cases h
    ·rename_i s b hs;have hb:=(dn he f).1 i dp hi;rw [hs] at hb;have hb:i < b∧b < ts.length:=hb;split at h
     ·cases h
     ·rename_i l' c hl;cases h;unfold aA;exact OI.app (ih3 _ _ _ _ hb.2 hl) (ih1 _ _ _ _ hi hs)
theorem oi_body (he:Ends ts):∀ f i l a,i < ts.length→bM ts f i=.ok (l,a)→OI ts a i (aA l):=by
 intro f
 induction f with
 | zero=>intro i l a _ h;unfold bM at h;cases h
 | succ f ih=>
  intro i l a hi h;unfold bM at h;split at h
  ·cases h;unfold aA;exact Nat.le_refl _
  ·split at h
   ·cases h
   ·rename_i s b hs;have hb:=(dn he (4*ts.length+8)).1 i 1 hi;have hs':bm ts (4*ts.length+8) i 1=.ok (s,b):=hs;rw [hs'] at hb;have hb:i < b∧b < ts.length:=hb;split at h
    ·cases h
    ·rename_i l' d hl;cases h;unfold aA;exact OI.app (ih _ _ _ hb.2 hl) ((oi_stmt he _).1 _ _ _ _ hi hs')
theorem tQ {f i a:Nat} {l:List St} (h:bM ts f i=.ok (l,a)):i < ts.length:=by
 rcases Nat.lt_or_ge i ts.length with h1 | h1
 ·exact h1
 ·exfalso;cases f with
  | zero=>unfold bM at h;cases h
  | succ f=>
   have hn:∀ (c:UInt8) (r:Sec),isT ts i (c :: r)=false:=fun c r=>by
    cases hq:isT ts i (c :: r) with
    | false=>rfl
    | true=>have:=xM hq;omega
   unfold bM at h;split at h
   ·rename_i h2;rcases h2 with h2 | h2
    ·rw [hn] at h2;cases h2
    ·rw [hn] at h2;cases h2
   ·split at h
    ·cases h
    ·rename_i s b hs;have hs':bm ts (4*ts.length+7+1) i 1=.ok (s,b):=hs;rw [ib (hn _ _) (hn _ _) (hn _ _) (hn _ _)] at hs';cases hs'
theorem def_inc (he:Ends ts) (hu:Up ts) {d:Df} {a:Nat} (h:oV ts=.ok (d,a)):Inc (aA d.body):=by
 unfold oV at h;split at h
 ·cases h
 ·split at h
  ·cases h
  ·split at h
   ·cases h
   ·rename_i b a3 h3;split at h
    ·cases h
    ·split at h
     ·cases h
     ·cases h;exact (oi_body he _ _ _ _ (tQ h3) h3).inc hu
end
theorem xO {l:Sec} {d:Df} (h:cq l=.ok d):Inc (aA d.body):=by
 unfold cq at h;split at h
 ·cases h
 ·rename_i hl;split at h
  ·cases h
  ·rename_i ts hlex;split at h
   ·cases h
   ·rename_i d' hp;cases h;unfold fV at hp;split at hp
    ·cases hp
    ·rename_i d2 a hd;split at hp
     ·cases hp;exact def_inc (i7 hlex) (up_lex hlex) hd
     ·cases hp
theorem xP {l:Sec} {d:Df} (h:cq l=.ok d):DfOk d:=⟨pV h,pY h,tf h,aA d.body,xO h,List.Perm.refl _⟩
end Go.Proofs.YtcebchffcmpfeaaGreat
