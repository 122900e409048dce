import Derived.Test.YtcebchffcmpfeaaGreatKft
namespace Go.Proofs.YtcebchffcmpfeaaGreat
set_option linter.unusedVariables false
set_option linter.unusedSimpArgs false
open Go.RowKit Go.Maps
abbrev Env:=List (Sec×Int)
structure RS where
 decl:List Sec
 code:Int
 at_:Int
def RS.fail (r:RS) (c p:Int):RS:=if r.code=0 then {r with code:=c,at_:=p } else r
def RS.declare (r:RS) (nm:Sec) (p:Int):RS:=if nm∈r.decl then r.fail 9 p else if 16≤r.decl.length then r.fail 15 p else {r with decl:=r.decl++[nm] }
def bO:Env→Sec→Option Int
 | [],_=>none
 | x :: l,nm=>if x.1=nm then some x.2 else bO l nm
def iE (k:Int) (nm:Sec) (i:Nat) (ts:List Int):Int:=
 if k=4 then 2 else if k≠6 then 1 else if nm=[38,38]∨nm=[124,124] then 2
 else if nm=[61,61]∨nm=[33,61] then (if i=0 then 0 else (ts[0]?).getD 0) else 1
abbrev ar5 (nm:Sec):Prop:=nm=[43]∨nm=[45]∨nm=[42]∨nm=[47]∨nm=[37]
def l7 (r:RS) (k:Int) (nm:Sec) (p:Int) (env:Env):Int×RS:=
 if k=2 then (if nm=[116,114,117,101]∨nm=[102,97,108,115,101] then (2,r) else match bO env nm with
  | some t=>(t,r)
  | none=>(1,r.fail 9 p))
 else if k=4 then (2,r) else if k=6 then (if ar5 nm then 1 else 2,r) else (1,r)
mutual
def bq:RS→E→Env→Int×RS
 | r,.mk k _ nm xs p,env=>l7 (cw r k nm xs env []) k nm p env
def cw:RS→Int→Sec→List E→Env→List Int→RS
 | r,_,_,[],_,_=>r
 | r,k,nm,e :: es,env,ts=>
  cw (if iE k nm ts.length (ts++[(bq r e env).1])≠0∧(bq r e env).1≠iE k nm ts.length (ts++[(bq r e env).1]) then (bq r e env).2.fail 10 e.pos else (bq r e env).2) k nm es env (ts++[(bq r e env).1])
end
def bR (r:RS) (e:E) (want:Int) (env:Env):RS:=if (bq r e env).1≠want then (bq r e env).2.fail 10 e.pos else (bq r e env).2
theorem c9 {s:CS} {x:Int×Int} (h:s.flt=some x) (c p:Int):(s.fail c p).flt=some x:=by
 unfold CS.fail;rw [h];exact h
theorem dq {s:CS} {x:Int×Int} (h:s.flt=some x) (nm:Sec) (t p:Int):(s.declare nm t p).flt=some x:=by
 unfold CS.declare;split
 ·exact c9 h _ _
 ·split
  ·exact c9 h _ _
  ·exact h
theorem vQ {s:CS} {x:Int×Int} (h:s.flt=some x) (nm:Sec) (p:Int):(s.look nm p).2.flt=some x:=by
 unfold CS.look;split
 ·exact h
 ·split
  ·exact h
  ·exact c9 h _ _
mutual
theorem dH:∀ (e:E) (s:CS) (x:Int×Int),s.flt=some x→(aI s e).2.flt=some x
 | .mk k n nm xs p,s,x,h=>by
  unfold aI;split
  ·exact vQ h _ _
  ·split
   ·exact aU xs _ _ x h
   ·split
    ·exact aU xs _ _ x h
    ·split
     ·exact aU xs _ _ x h
     ·split
      ·split
       ·exact qd xs _ x h
       ·exact aU xs _ _ x h
      ·exact h
theorem aU:∀ (xs:List E) (s:CS) (want:Int) (x:Int×Int),s.flt=some x→(ay s want xs).flt=some x
 | [],s,want,x,h=>by unfold ay;exact h
 | e :: es,s,want,x,h=>by
  unfold ay;refine aU es _ _ x ?_;split
  ·exact dH e s x h
  ·exact c9 (dH e s x h) _ _
theorem qd:∀ (xs:List E) (s:CS) (x:Int×Int),s.flt=some x→(cW s xs).flt=some x
 | [],s,x,h=>by unfold cW;exact h
 | e :: es,s,x,h=>by
  unfold cW;exact aU es _ _ x (dH e s x h)
end
mutual
theorem sX:∀ (x:St) (s:CS) (y:Int×Int),s.flt=some y→(iP s x).flt=some y
 | .mk k nm xs n bd els p,s,y,h=>by
  unfold iP;split
  ·split
   ·exact h
   ·exact dq (dH _ _ y h) _ _ _
  ·split
   ·exact da els _ y (da bd _ y (aU xs _ _ y h))
   ·split
    ·refine da bd _ y ?_;split
     ·exact c9 (dq h _ _ _) _ _
     ·exact dq h _ _ _
    ·exact aU xs _ _ y h
theorem da:∀ (xs:List St) (s:CS) (y:Int×Int),s.flt=some y→(aT s xs).flt=some y
 | [],s,y,h=>by unfold aT;exact h
 | x :: xs,s,y,h=>by
  unfold aT;exact da xs _ y (sX x (s.bump x.kind) y h)
end
def RS.bad (r:RS) (x:Int×Int):Prop:=r.code=x.1∧r.at_=x.2∧x.1≠0
theorem RS.bad.fail {r:RS} {x:Int×Int} (h:r.bad x) (c p:Int):(r.fail c p).bad x:=by
 unfold RS.fail;rw [if_neg (by rw [h.1];exact h.2.2)];exact h
theorem RS.bad.declare {r:RS} {x:Int×Int} (h:r.bad x) (nm:Sec) (p:Int):(r.declare nm p).bad x:=by
 unfold RS.declare;split
 ·exact h.fail _ _
 ·split
  ·exact h.fail _ _
  ·exact h
theorem RS.bad.type {r:RS} {x:Int×Int} (h:r.bad x) (k:Int) (nm:Sec) (p:Int) (env:Env):(l7 r k nm p env).2.bad x:=by
 unfold l7;split
 ·split
  ·exact h
  ·split
   ·exact h
   ·exact h.fail _ _
 ·split
  ·exact h
  ·split
   ·exact h
   ·exact h
mutual
theorem RS.bad.kind:∀ (e:E) (r:RS) (x:Int×Int) (env:Env),r.bad x→(bq r e env).2.bad x
 | .mk k n nm xs p,r,x,env,h=>by
  unfold bq;exact (RS.bad.args xs r x k nm env [] h).type _ _ _ _
theorem RS.bad.args:∀ (xs:List E) (r:RS) (x:Int×Int) (k:Int) (nm:Sec) (env:Env) (ts:List Int),r.bad x→(cw r k nm xs env ts).bad x
 | [],r,x,k,nm,env,ts,h=>by unfold cw;exact h
 | e :: es,r,x,k,nm,env,ts,h=>by
  unfold cw;refine RS.bad.args es _ x k nm env _ ?_;split
  ·exact (RS.bad.kind e r x env h).fail _ _
  ·exact RS.bad.kind e r x env h
end
theorem RS.bad.need {r:RS} {x:Int×Int} (h:r.bad x) (e:E) (want:Int) (env:Env):(bR r e want env).bad x:=by
 unfold bR;split
 ·exact (RS.bad.kind e r x env h).fail _ _
 ·exact RS.bad.kind e r x env h
structure Agree (s:CS) (r:RS) (env:Env):Prop where
 bad:∀ x,s.flt=some x→r.bad x
 good:s.flt=none→r.code=0∧s.decl=r.decl∧(∀ z,s.known z=bO env z)∧(∀ z t,s.known z=some t→(t=1∨t=2)∧z∈s.decl)∧s.decl.length≤16
theorem Agree.of_bad {s:CS} {r:RS} {env:Env} {x:Int×Int} (h1:s.flt=some x) (h2:r.bad x):Agree s r env:=
 ⟨fun y e=>by rw [h1] at e;cases e;exact h2,fun e=>by rw [h1] at e;cases e⟩
theorem Agree.fail {s:CS} {r:RS} {env env':Env} (h:Agree s r env) {c:Int} (hc:c≠0) (p:Int):Agree (s.fail c p) (r.fail c p) env':=by
 cases hf:s.flt with
 | some x=>exact .of_bad (c9 hf _ _) ((h.bad x hf).fail _ _)
 | none=>
  have h0:=(h.good hf).1;refine Agree.of_bad (x:=(c,p)) (by unfold CS.fail;rw [hf]) ?_;unfold RS.fail;rw [if_pos h0];exact ⟨rfl,rfl,hc⟩
theorem jG {nm:Sec} (h:(opr nm).2≠0):nm∈([[124,124],[38,38],[60],[60,61],[62],[62,61],[61,61],[33,61],[43],[45],[42],[47],[37]]:List Sec):=by
 apply Classical.byContradiction;intro hn;simp only [List.mem_cons,List.not_mem_nil,or_false,not_or] at hn;refine h ?_;unfold opr;simp only [hn,if_false,or_self]
theorem opr_ar {nm:Sec} (h:(opr nm).2≠0):(opr nm).2=if ar5 nm then 1 else 2:=by
 have key:∀ y∈([[124,124],[38,38],[60],[60,61],[62],[62,61],[61,61],[33,61],[43],[45],[42],[47],[37]]:List Sec),(opr y).2=if ar5 y then 1 else 2:=by decide
 exact key nm (jG h)
theorem vR {nm:Sec} (h:(opr nm).2≠0):(opr nm).1=(if nm=[38,38]∨nm=[124,124] then 2 else if nm=[61,61]∨nm=[33,61] then 0 else 1):=by
 have key:∀ y∈([[124,124],[38,38],[60],[60,61],[62],[62,61],[61,61],[33,61],[43],[45],[42],[47],[37]]:List Sec),(opr y).1=(if y=[38,38]∨y=[124,124] then 2 else if y=[61,61]∨y=[33,61] then 0 else 1):=by decide
 exact key nm (jG h)
theorem Agree.kept {s s':CS} {r:RS} {env:Env} (h:Agree s r env) (h1:s'.flt=s.flt) (h2:s'.decl=s.decl) (h3:s'.known=s.known):Agree s' r env:=
 ⟨fun x e=>h.bad x (h1 ▸ e),fun e=>by rw [h2,h3];exact h.good (h1 ▸ e)⟩
def KindA (s:CS) (e:E) (r:RS) (env:Env):Prop:=Agree (aI s e).2 (bq r e env).2 env∧((aI s e).2.flt=none→(aI s e).1=(bq r e env).1∧((aI s e).1=1∨(aI s e).1=2))
theorem dI {s:CS} {r:RS} {env:Env} {e:E} {want:Int} (h:KindA s e r env) :
  Agree (if (aI s e).1=want then (aI s e).2 else (aI s e).2.fail 10 e.pos) (bR r e want env) env:=by
 unfold bR;cases hf:(aI s e).2.flt with
 | some x=>
  have hb:=h.1.bad x hf;refine Agree.of_bad (x:=x) ?_ ?_
  ·split
   ·exact hf
   ·exact c9 hf _ _
  ·split
   ·exact hb.fail _ _
   ·exact hb
 | none=>
  obtain ⟨h1,h2⟩:=h.2 hf;rw [h1]
  by_cases hw:(bq r e env).1=want
  ·rw [if_pos hw,if_neg (fun n=>n hw)];exact h.1
  ·rw [if_neg hw,if_pos hw];exact h.1.fail (by decide) _
theorem nw {r:RS} {k:Int} {nm:Sec} {e:E} {es:List E} {env:Env} {ts:List Int} {want:Int} (hw:iE k nm ts.length (ts++[(bq r e env).1])=want) (h0:want≠0) :
  cw r k nm (e :: es) env ts=cw (bR r e want env) k nm es env (ts++[(bq r e env).1]):=by
 conv=>lhs;unfold cw
 rw [hw];unfold bR;congr 1
 by_cases hx:(bq r e env).1=want
 ·rw [if_neg (fun n=>n.2 hx),if_neg (fun n=>n hx)]
 ·rw [if_pos ⟨h0,hx⟩,if_pos hx]
mutual
theorem bT:∀ (e:E) (s:CS) (r:RS) (env:Env),wE e→Agree s r env→KindA s e r env
 | .mk k n nm xs p,s,r,env,hw,h=>by
  unfold wE at hw;obtain ⟨hk,hn,hxs⟩:=hw;cases hf:s.flt with
  | some x=>
   have hb:=h.bad x hf;have h1:=dH (.mk k n nm xs p) s x hf;exact ⟨.of_bad h1 (RS.bad.kind _ r x env hb),fun e=>by rw [h1] at e;cases e⟩
  | none=>
   obtain ⟨g1,g2,g3,g4,g5⟩:=h.good hf;unfold KindA aI bq
   by_cases h2:k=2
   ·subst h2;have hx:xs=[]:=by
     rcases hk with hk | hk | hk
     ·exact List.eq_nil_of_length_eq_zero hk.2
     ·omega
     ·omega
    subst hx;rw [show cw r 2 nm [] env []=r by unfold cw;rfl];simp only [if_true];unfold CS.look l7;simp only [if_true]
    by_cases ht:nm=[116,114,117,101]∨nm=[102,97,108,115,101]
    ·rw [if_pos ht,if_pos ht];exact ⟨h,fun _=>⟨rfl,.inr rfl⟩⟩
    ·rw [if_neg ht,if_neg ht,g3 nm];cases hl:bO env nm with
     | some t=>
      exact ⟨h,fun _=>⟨rfl,(g4 nm t (by rw [g3 nm,hl])).1⟩⟩
     | none=>
      exact ⟨h.fail (by decide) p,fun e=>absurd e (cj _ _ _)⟩
   ·rw [if_neg h2];have tail:∀ (r':RS),l7 r' k nm p env=(if k=4 then 2 else if k=6 then (if ar5 nm then 1 else 2) else 1,r'):=fun r'=>by
     unfold l7;rw [if_neg h2];split
     ·rfl
     ·split<;>rfl
    rw [tail]
    by_cases h3:k=3
    ·subst h3;rw [if_pos rfl,if_neg (by decide),if_neg (by decide)];exact ⟨dJ xs _ r env 3 nm 1 [] hxs (fun _ _=>rfl) (by decide) (h.kept rfl rfl rfl),fun _=>⟨rfl,.inl rfl⟩⟩
    ·rw [if_neg h3]
     by_cases h5:k=5
     ·subst h5;rw [if_pos rfl,if_neg (by decide),if_neg (by decide)];exact ⟨dJ xs _ r env 5 nm 1 [] hxs (fun _ _=>rfl) (by decide) h,fun _=>⟨rfl,.inl rfl⟩⟩
     ·rw [if_neg h5]
      by_cases h4:k=4
      ·subst h4;rw [if_pos rfl,if_pos rfl];refine ⟨dJ xs _ r env 4 nm 2 [] hxs (fun _ _=>rfl) (by decide) h,fun _=>⟨rfl,.inr rfl⟩⟩
      ·rw [if_neg h4]
       by_cases h6:k=6
       ·subst h6;have ho:xs.length=2∧(opr nm).2≠0:=by
         rcases hk with hk | hk | hk
         ·omega
         ·omega
         ·exact hk.2
        have hty:=opr_ar ho.2;have hwt:=vR ho.2;have h12:(opr nm).2=1∨(opr nm).2=2:=by rw [hty];split<;>simp
        have e64:∀ b:Int,(if (6:Int)=4 then (2:Int) else if (6:Int)=6 then b else 1)=b:=fun _=>rfl;rw [if_pos rfl,e64]
        by_cases hz:(opr nm).1=0
        ·rw [if_pos hz];refine ⟨?_,fun _=>⟨hty,h12⟩⟩;have hnm:¬ (nm=[38,38]∨nm=[124,124])∧(nm=[61,61]∨nm=[33,61]):=by
          by_cases q1:nm=[38,38]∨nm=[124,124]
          ·rw [if_pos q1,hz] at hwt;omega
          ·rw [if_neg q1] at hwt
           by_cases q2:nm=[61,61]∨nm=[33,61]
           ·exact ⟨q1,q2⟩
           ·rw [if_neg q2,hz] at hwt;omega
         match xs,ho.1,hxs with
         | [a,b],_,hxs=>
          unfold wL wL at hxs;have ka:=bT a s r env hxs.1 h;unfold cW;have e1:cw r 6 nm [a,b] env []=cw (bq r a env).2 6 nm [b] env [(bq r a env).1]:=by
           conv=>lhs;unfold cw
           have:iE 6 nm ([]:List Int).length ([]++[(bq r a env).1])=0:=by
            unfold iE;rw [if_neg (by decide),if_neg (by decide),if_neg hnm.1,if_pos hnm.2];rfl
           rw [this,if_neg (fun n=>n.1 rfl)];rfl
          rw [e1];cases hfa:(aI s a).2.flt with
          | some x=>exact .of_bad (aU _ _ _ x hfa) (RS.bad.args _ _ x _ _ _ _ (ka.1.bad x hfa))
          | none=>
           obtain ⟨k1,k2⟩:=ka.2 hfa;have e2:cw (bq r a env).2 6 nm [b] env [(bq r a env).1]=bR (bq r a env).2 b (aI s a).1 env:=by
            rw [nw (want:=(aI s a).1) ?_ (by rcases k2 with k2 | k2<;>rw [k2]<;>decide)]
            ·unfold cw;rfl
            ·unfold iE;rw [if_neg (by decide),if_neg (by decide),if_neg hnm.1,if_pos hnm.2,k1];rfl
           rw [e2];have kb:=bT b (aI s a).2 (bq r a env).2 env hxs.2.1 ka.1;unfold ay ay;exact dI kb
        ·rw [if_neg hz];refine ⟨dJ xs s r env 6 nm (opr nm).1 [] hxs (fun i ts=>?_) hz h,fun _=>⟨hty,h12⟩⟩;unfold iE;rw [if_neg (by decide),if_neg (by decide),hwt]
         by_cases q1:nm=[38,38]∨nm=[124,124]
         ·rw [if_pos q1,if_pos q1]
         ·rw [if_neg q1,if_neg q1];rw [if_neg q1] at hwt
          by_cases q2:nm=[61,61]∨nm=[33,61]
          ·rw [if_pos q2] at hwt;exact absurd hwt hz
          ·rw [if_neg q2,if_neg q2]
       ·have hx:xs=[]:=by
         rcases hk with hk | hk | hk
         ·exact List.eq_nil_of_length_eq_zero hk.2
         ·omega
         ·omega
        subst hx;rw [if_neg h6,if_neg h4,if_neg h6];rw [show cw r k nm [] env []=r by unfold cw;rfl];exact ⟨h,fun _=>⟨rfl,.inl rfl⟩⟩
theorem dJ:∀ (xs:List E) (s:CS) (r:RS) (env:Env) (k:Int) (nm:Sec) (want:Int) (ts:List Int),wL xs→(∀ i ts,iE k nm i ts=want)→want≠0→Agree s r env→
  Agree (ay s want xs) (cw r k nm xs env ts) env
 | [],s,r,env,k,nm,want,ts,_,_,_,h=>by unfold ay cw;exact h
 | e :: es,s,r,env,k,nm,want,ts,hw,hwt,h0,h=>by
  unfold wL at hw;rw [nw (hwt _ _) h0];unfold ay;exact dJ es _ _ env k nm want _ hw.2 hwt h0 (dI (bT e s r env hw.1 h))
end
theorem sY {s:CS} {r:RS} {env:Env} {e:E} (want:Int) (hw:wE e) (h:Agree s r env):Agree (ay s want [e]) (bR r e want env) env:=by
 unfold ay ay;exact dI (bT e s r env hw h)
mutual
def cD:RS→St→Env→RS×Env
 | r,.mk k nm xs n bd els p,env=>
  if k=1 then (match xs with | []=>(r,env) | x :: _=>((bq r x env).2.declare nm p,env++[(nm,(bq r x env).1)]))
  else if k=6 then (match xs with | []=>(r,env) | x :: _=>((aV (aV (bR r x 2 env) bd env).1 els env).1,env))
  else if k=7∨k=8 then ((aV (if 64 < n then (r.declare nm p).fail 11 p else r.declare nm p) bd (env++[(nm,1)])).1,env)
  else (match xs with | x :: y :: _=>(bR (bR r x 1 env) y 1 env,env) | _=>(r,env))
def aV:RS→List St→Env→RS×Env
 | r,[],env=>(r,env)
 | r,x :: xs,env=>aV (cD r x env).1 xs (cD r x env).2
end
mutual
theorem RS.bad.stmt:∀ (e:St) (r:RS) (x:Int×Int) (env:Env),r.bad x→(cD r e env).1.bad x
 | .mk k nm xs n bd els p,r,x,env,h=>by
  unfold cD;split
  ·split
   ·exact h
   ·exact (RS.bad.kind _ r x env h).declare _ _
  ·split
   ·split
    ·exact h
    ·exact RS.bad.block els _ x env (RS.bad.block bd _ x env (h.need _ _ _))
   ·split
    ·refine RS.bad.block bd _ x _ ?_;split
     ·exact (h.declare _ _).fail _ _
     ·exact h.declare _ _
    ·split
     ·exact (h.need _ _ _).need _ _ _
     ·exact h
theorem RS.bad.block:∀ (xs:List St) (r:RS) (x:Int×Int) (env:Env),r.bad x→(aV r xs env).1.bad x
 | [],r,x,env,h=>by unfold aV;exact h
 | y :: xs,r,x,env,h=>by unfold aV;exact RS.bad.block xs _ x _ (RS.bad.stmt y r x env h)
end
theorem dK (x:Sec×Int) (l:Env) (z:Sec):bO (x :: l) z=if x.1=z then some x.2 else bO l z:=rfl
theorem dL:∀ (l m:Env) (z:Sec),bO (l++m) z=match bO l z with | some t=>some t | none=>bO m z
 | [],m,z=>rfl
 | x :: l,m,z=>by
  rw [List.cons_append,dK,dK]
  by_cases h:x.1=z
  ·rw [if_pos h,if_pos h]
  ·rw [if_neg h,if_neg h];exact dL l m z
theorem ik:∀ (l:Env) (z:Sec),(∀ x∈l,x.1≠z)→bO l z=none
 | [],z,_=>rfl
 | x :: l,z,h=>by
  rw [dK,if_neg (h x (by simp))];exact ik l z (fun y hy=>h y (by simp [hy]))
def Grew (s s':CS) (env env':Env):Prop:=s.flt=none∧∃ (M:List Sec) (N:Env),s'.decl=s.decl++M∧env'=env++N∧(∀ x∈N,x.1∈M)∧∀ z∈M,z∉s.decl
def StA (s s':CS) (r':RS) (env env':Env):Prop:=Agree s' r' env'∧(s'.flt=none→Grew s s' env env')
theorem Grew.refl {s:CS} (h:s.flt=none) (env:Env):Grew s s env env:=⟨h,[],[],by simp,by simp,by simp,by simp⟩
theorem Grew.trans {s s1 s2:CS} {env env1 env2:Env} (h1:Grew s s1 env env1) (h2:Grew s1 s2 env1 env2):Grew s s2 env env2:=by
 obtain ⟨g1,M1,N1,a1,a2,a3,a4⟩:=h1;obtain ⟨_,M2,N2,b1,b2,b3,b4⟩:=h2;refine ⟨g1,M1++M2,N1++N2,by rw [b1,a1,List.append_assoc],by rw [b2,a2,List.append_assoc],fun x hx=>?_,fun z hz=>?_⟩
 ·rcases List.mem_append.1 hx with hx | hx
  ·exact List.mem_append.2 (.inl (a3 x hx))
  ·exact List.mem_append.2 (.inr (b3 x hx))
 ·rcases List.mem_append.1 hz with hz | hz
  ·exact a4 z hz
  ·intro hd;exact b4 z hz (by rw [a1];exact List.mem_append.2 (.inl hd))
theorem StA.trans {s s1 s2:CS} {r1 r2:RS} {env env1 env2:Env} (h1:StA s s1 r1 env env1) (h2:StA s1 s2 r2 env1 env2):StA s s2 r2 env env2:=
 ⟨h2.1,fun e=>(h1.2 (h2.2 e).1).trans (h2.2 e)⟩
theorem StA.of_agree {s s':CS} {r':RS} {env:Env} (h:Agree s' r' env) (h1:s'.flt=none→s.flt=none) (h2:s'.flt=none→s'.decl=s.decl):StA s s' r' env env:=
 ⟨h,fun e=>⟨h1 e,[],[],by simp [h2 e],by simp,by simp,by simp⟩⟩
theorem StA.bad {s s':CS} {r':RS} {env env':Env} {x:Int×Int} (h1:s'.flt=some x) (h2:r'.bad x):StA s s' r' env env':=
 ⟨.of_bad h1 h2,fun e=>by rw [h1] at e;cases e⟩
theorem dU {s:CS} {r:RS} {env:Env} (h:Agree s r env) (nm:Sec) (p:Int) {t t':Int} (ht:s.flt=none→t=t'∧(t=1∨t=2)):StA s (s.declare nm t p) (r.declare nm p) env (env++[(nm,t')]):=by
 cases hf:s.flt with
 | some x=>exact .bad (dq hf _ _ _) ((h.bad x hf).declare _ _)
 | none=>
  obtain ⟨g1,g2,g3,g4,g5⟩:=h.good hf;obtain ⟨rfl,ht2⟩:=ht hf;unfold CS.declare RS.declare;rw [← g2]
  by_cases hm:nm∈s.decl
  ·rw [if_pos hm,if_pos hm];have hb:=h.fail (env':=env++[(nm,t)]) (c:=9) (by decide) p;exact ⟨hb,fun e=>absurd e (cj _ _ _)⟩
  ·rw [if_neg hm,if_neg hm]
   by_cases hl:s.decl.length=16
   ·rw [if_pos hl,if_pos (by omega)];have hb:=h.fail (env':=env++[(nm,t)]) (c:=15) (by decide) p;exact ⟨hb,fun e=>absurd e (cj _ _ _)⟩
   ·rw [if_neg hl,if_neg (by omega)];have hnone:∀ z,bO env z≠none→z∈s.decl:=fun z hz=>by
     cases hq:bO env z with
     | none=>exact absurd hq hz
     | some v=>exact (g4 z v (by rw [g3 z,hq])).2
    refine ⟨⟨(fun x e=>by rw [show ({s with decl:=s.decl++[nm],known:=dk s.known nm t }:CS).flt=s.flt from rfl,hf] at e;cases e),fun _=>⟨g1,rfl,fun z=>?_,fun z v hz=>?_,?_⟩⟩,fun _=>⟨hf,[nm],[(nm,t)],rfl,rfl,by simp,by simpa using hm⟩⟩
    ·rw [dL];show dk s.known nm t z=_;unfold dk
     by_cases e:z=nm
     ·subst e;rw [if_pos rfl];cases hq:bO env z with
      | some v=>exact absurd (hnone z (by rw [hq];simp)) hm
      | none=>simp [bO]
     ·rw [if_neg e,g3 z];cases hq:bO env z with
      | some v=>rfl
      | none=>
       simp only [bO];rw [if_neg (fun q=>e q.symm)]
    ·have hz:dk s.known nm t z=some v:=hz;show _∧z∈s.decl++[nm];unfold dk at hz
     by_cases e:z=nm
     ·rw [if_pos e] at hz;cases hz;exact ⟨ht2,by simp [e]⟩
     ·rw [if_neg e] at hz;exact ⟨(g4 z v hz).1,List.mem_append.2 (.inl (g4 z v hz).2)⟩
    ·show (s.decl++[nm]).length≤16;simp;omega
theorem eC {s s':CS} {r r':RS} {env env':Env} (h:Agree s r env) (hs:StA s s' r' env env'):StA s (s'.forget s.decl.length) r' env env:=by
 cases hf:s'.flt with
 | some x=>exact .bad (show (s'.forget s.decl.length).flt=some x from hf) (hs.1.bad x hf)
 | none=>
  obtain ⟨hs0,M,N,a1,a2,a3,a4⟩:=hs.2 hf;obtain ⟨g1,g2,g3,g4,g5⟩:=h.good hs0;obtain ⟨k1,k2,k3,k4,k5⟩:=hs.1.good hf;have hkn:∀ z,(s'.forget s.decl.length).known z=bO env z:=fun z=>by
   show (match idx s'.decl z with | some c=>if (s.decl.length:Int)≤c then none else s'.known z | none=>s'.known z)=_;unfold idx;rw [a1]
   by_cases hz:z∈s.decl
   ·rw [if_pos (List.mem_append.2 (.inl hz))];have hlt:=List.idxOf_lt_length_of_mem hz;have hi:(s.decl++M).idxOf z=s.decl.idxOf z:=by rw [List.idxOf_append,if_pos hz]
    rw [hi];simp only;rw [if_neg (by omega),k3 z,a2,dL];cases hq:bO env z with
    | some v=>rfl
    | none=>exact ik N z (fun x hx e=>a4 _ (a3 x hx) (e ▸ hz))
   ·have hl:bO env z=none:=by
     cases hq:bO env z with
     | none=>rfl
     | some v=>exact absurd (g4 z v (by rw [g3 z,hq])).2 hz
    rw [hl]
    by_cases hm:z∈M
    ·rw [if_pos (List.mem_append.2 (.inr hm))];have hi:(s.decl++M).idxOf z=M.idxOf z+s.decl.length:=by rw [List.idxOf_append,if_neg hz]
     rw [hi];simp only;rw [if_pos (by omega)]
    ·rw [if_neg (fun e=>(List.mem_append.1 e).elim hz hm)];simp only;rw [k3 z,a2,dL,hl];exact ik N z (fun x hx e=>hm (e ▸ a3 x hx))
  refine ⟨⟨(fun x e=>by rw [show (s'.forget s.decl.length).flt=s'.flt from rfl,hf] at e;cases e),fun _=>⟨k1,k2,hkn,fun z t hz=>?_,k5⟩⟩,fun _=>⟨hs0,M,[],a1,by simp,by simp,a4⟩⟩;rw [hkn z,← g3 z] at hz;obtain ⟨q1,q2⟩:=g4 z t hz;exact ⟨q1,by show z∈s'.decl;rw [a1];exact List.mem_append.2 (.inl q2)⟩
mutual
theorem eQ:∀ (e:E) (s:CS),(aI s e).2.decl=s.decl
 | .mk k n nm xs p,s=>by
  unfold aI;split
  ·unfold CS.look;split
   ·rfl
   ·split
    ·rfl
    ·unfold CS.fail;split<;>rfl
  ·split
   ·rw [bA xs]
   ·split
    ·exact bA xs _ _
    ·split
     ·exact bA xs _ _
     ·split
      ·split
       ·exact qe xs _
       ·exact bA xs _ _
      ·rfl
theorem bA:∀ (xs:List E) (s:CS) (want:Int),(ay s want xs).decl=s.decl
 | [],s,want=>by unfold ay;rfl
 | e :: es,s,want=>by
  unfold ay;rw [bA es];split
  ·exact eQ e s
  ·unfold CS.fail;split<;>exact eQ e s
theorem qe:∀ (xs:List E) (s:CS),(cW s xs).decl=s.decl
 | [],s=>by unfold cW;rfl
 | e :: es,s=>by
  unfold cW;rw [bA es];exact eQ e s
end
theorem sZ {s:CS} {r:RS} {env:Env} (k:Int) (h:Agree s r env):Agree (s.bump k) r env:=h.kept rfl rfl rfl
mutual
theorem s8:∀ (x:St) (s:CS) (r:RS) (env:Env),wS x→Agree s r env→StA s (iP s x) (cD r x env).1 env (cD r x env).2
 | .mk k nm xs n bd els p,s,r,env,hw,h=>by
  unfold wS at hw;obtain ⟨hk,hn,hx,hb,he⟩:=hw;unfold iP cD
  by_cases h1:k=1
  ·rw [if_pos h1,if_pos h1];have hl:xs.length=1:=by rcases hk with hk | hk | hk<;>omega
   match xs,hl,hx with
   | [x],_,hx=>
    unfold wL at hx;have ka:=bT x s r env hx.1 h;have hq:StA s (aI s x).2 (bq r x env).2 env env:=.of_agree ka.1 (eP x s) (fun _=>eQ x s);exact hq.trans (dU ka.1 nm p ka.2)
  ·rw [if_neg h1,if_neg h1]
   by_cases h6:k=6
   ·rw [if_pos h6,if_pos h6];have hl:xs.length=1:=by rcases hk with hk | hk | hk<;>omega
    match xs,hl,hx with
    | [x],_,hx=>
     unfold wL at hx;have ka:=sY 2 hx.1 h;have hq:StA s (ay s 2 [x]) (bR r x 2 env) env env:=.of_agree ka (aP _ _ _) (fun _=>bA _ _ _);have hb1:=eC ka (db bd _ _ env hb ka);have hb2:=eC hb1.1 (db els _ _ env he hb1.1);exact (hq.trans hb1).trans hb2
   ·rw [if_neg h6,if_neg h6]
    by_cases h7:k=7∨k=8
    ·rw [if_pos h7,if_pos h7];have hd:=dU (t:=1) (t':=1) h nm p (fun _=>⟨rfl,.inl rfl⟩);have hd2:StA s (if 64 < n then (s.declare nm 1 p).fail 11 p else s.declare nm 1 p) (if 64 < n then (r.declare nm p).fail 11 p else r.declare nm p) env (env++[(nm,1)]):=by
      split
      ·exact ⟨hd.1.fail (by decide) p,fun e=>absurd e (cj _ _ _)⟩
      ·exact hd
     exact eC h (hd2.trans (db bd _ _ _ hb hd2.1))
    ·rw [if_neg h7,if_neg h7];have hl:xs.length=2:=by rcases hk with hk | hk | hk<;>omega
     match xs,hl,hx with
     | [x,y],_,hx=>
      unfold wL wL at hx;have ka:=bT x s r env hx.1 h;have k1:=dI (want:=1) ka;have k2:=dI (want:=1) (bT y _ _ env hx.2.1 k1);have e:ay s 1 [x,y]=(if (aI (if (aI s x).1=1 then (aI s x).2 else (aI s x).2.fail 10 x.pos) y).1=1 then (aI (if (aI s x).1=1 then (aI s x).2 else (aI s x).2.fail 10 x.pos) y).2 else (aI (if (aI s x).1=1 then (aI s x).2 else (aI s x).2.fail 10 x.pos) y).2.fail 10 y.pos):=by
       unfold ay ay ay;rfl
      exact .of_agree (by rw [e];exact k2) (aP _ _ _) (fun _=>bA _ _ _)
theorem db:∀ (xs:List St) (s:CS) (r:RS) (env:Env),wB xs→Agree s r env→StA s (aT s xs) (aV r xs env).1 env (aV r xs env).2
 | [],s,r,env,_,h=>by
  unfold aT aV;exact .of_agree h (fun e=>e) (fun _=>rfl)
 | x :: xs,s,r,env,hw,h=>by
  unfold wB at hw;unfold aT aV;have h1:=s8 x (s.bump x.kind) r env hw.1 (sZ _ h);have h2:=db xs _ _ _ hw.2 h1.1;have h3:=h1.trans h2;exact ⟨h3.1,fun e=>h3.2 e⟩
end
def kD:RS→List Sec→RS
 | r,[]=>r
 | r,n :: ns=>kD (r.declare n 0) ns
def qf (l:List Sec):Env:=l.map fun n=>(n,1)
def gn (want:Int) (env:Env):RS→List E→RS
 | r,[]=>r
 | r,e :: es=>gn want env (bR r e want env) es
theorem nx:∀ (l:List Sec) (s:CS) (r:RS) (env:Env),Agree s r env→Agree (vz s l) (kD r l) (env++qf l)
 | [],s,r,env,h=>by
  show Agree s r (env++[]);rw [List.append_nil];exact h
 | n :: ns,s,r,env,h=>by
  have h1:=(dU (t:=1) (t':=1) h n 0 (fun _=>⟨rfl,.inl rfl⟩)).1;have h2:=nx ns _ _ _ h1;rw [List.append_assoc] at h2;exact h2
theorem fF {want:Int} {env:Env}:∀ (l:List E) (s:CS) (r:RS),wL l→Agree s r env→Agree (ay s want l) (gn want env r l) env
 | [],s,r,_,h=>by unfold ay;exact h
 | e :: es,s,r,hw,h=>by
  unfold wL at hw;unfold ay;exact fF es _ _ hw.2 (dI (bT e s r env hw.1 h))
def RS.new:RS:=⟨[],0,0⟩
theorem vS:Agree CS.new RS.new []:=⟨(fun x h=>by cases h),fun _=>⟨rfl,rfl,fun _=>rfl,(fun z t h=>by cases h),by decide⟩⟩
def refN (d:Df):RS:=gn 2 (qf d.params) (kD RS.new d.params) d.needs
def refB (d:Df):RS×Env:=aV (refN d) d.body (qf d.params)
def refG (d:Df):RS:=gn 1 (refB d).2 (refB d).1 d.give
theorem lb {d:Df} (hw:Whole d) (h8:d.params.length≤8):Agree (opG CS.new d) (refG d) (refB d).2:=by
 have h1:Agree (dw CS.new d.params) (kD RS.new d.params) (qf d.params):=by
  unfold dw;rw [if_neg (by omega)];exact nx d.params _ _ _ vS
 have h2:Agree (opT CS.new d) (refN d) (qf d.params):=fF d.needs _ _ hw.needs h1;have h3:=(db d.body _ _ _ hw.body h2).1;exact fF d.give _ _ hw.give h3
theorem qg {d:Df} (h8:8 < d.params.length):(opG CS.new d).flt=some (15,0):=by
 have h1:(dw CS.new d.params).flt=some (15,0):=by
  unfold dw;rw [if_pos h8];rfl
 exact aU _ _ _ _ (da _ _ _ (aU _ _ _ _ h1))
theorem fq {d:Df} (h:(opG CS.new d).flt=none):d.params.length≤8:=by
 apply Classical.byContradiction;intro hc;rw [qg (by omega)] at h;cases h
theorem l9 {d:Df} (h:(opS CS.new d).flt=none):(opG CS.new d).flt=none∧stD d≤2048∧opS CS.new d=opG CS.new d:=by
 unfold opS at h⊢;cases hf:(opG CS.new d).flt with
 | some x=>rw [hf] at h;simp only [Option.isSome_some,if_true] at h;rw [hf] at h;cases h
 | none=>
  rw [hf] at h;simp only [Option.isSome_none,Bool.false_eq_true,if_false] at h⊢
  by_cases h2:2048 < stD d
  ·rw [if_pos h2] at h;exact absurd h (cj _ _ _)
  ·rw [if_neg h2];exact ⟨by trivial,by omega,rfl⟩
theorem EsV.elem {w:World} {B:Nat→Prop} {a:Option Addr} {n cap j:Nat} {xs:List E} (h:EsV w B (.slice a n cap) xs) (hj:j < n) :
  n=xs.length∧∃ gr k nn nm ys p a' c',a=some ⟨gr,0,none⟩∧xs[j]?=some (.mk k nn nm ys p)∧w.cell? ⟨gr,j*5,none⟩=some (.int .i64 k)∧w.cell? ⟨gr,j*5+1,none⟩=some (.int .i64 nn)∧
   w.cell? ⟨gr,j*5+2,none⟩=some (.string (aj nm))∧w.cell? ⟨gr,j*5+3,none⟩=some (.slice a' ys.length c')∧w.cell? ⟨gr,j*5+4,none⟩=some (.int .i64 p)∧EsV w B (.slice a' ys.length c') ys:=by
 obtain ⟨a0,cap0,hv,hc,hx⟩:=h;cases hv;obtain ⟨e,he⟩:∃ e,xs[j]?=some e:=⟨_,List.getElem?_eq_getElem hj⟩
 obtain ⟨gr,rfl,hgr,hes⟩:∃ gr,a=some ⟨gr,0,none⟩∧B gr∧EsAt w B gr 0 xs:=by
  rcases hx with hx | hx
  ·rw [hx] at he;simp at he
  ·exact hx
 obtain ⟨cs,hev,hcs⟩:=(EsAt.eso xs 0 0 rfl hes) j e he;obtain ⟨k,nn,nm,ys,p⟩:=e;unfold EV at hev;obtain ⟨a',cap',rfl,hc',hx'⟩:=hev;exact ⟨rfl,gr,k,nn,nm,ys,p,a',cap',rfl,he,by simpa using hcs 0 _ rfl,by simpa using hcs 1 _ rfl,by simpa using hcs 2 _ rfl,by simpa using hcs 3 _ rfl,by simpa using hcs 4 _ rfl,EsV.of_parts hc' hx'⟩
theorem SsV.elem {w:World} {B:Nat→Prop} {a:Option Addr} {n cap j:Nat} {xs:List St} (h:SsV w B (.slice a n cap) xs) (hj:j < n) :
  n=xs.length∧∃ gr k nm ys nn bd els p a0 c0 a1 c1 a2 c2,a=some ⟨gr,0,none⟩∧xs[j]?=some (.mk k nm ys nn bd els p)∧w.cell? ⟨gr,j*7,none⟩=some (.int .i64 k)∧w.cell? ⟨gr,j*7+1,none⟩=some (.string (aj nm))∧
   w.cell? ⟨gr,j*7+2,none⟩=some (.slice a0 ys.length c0)∧w.cell? ⟨gr,j*7+3,none⟩=some (.int .i64 nn)∧w.cell? ⟨gr,j*7+4,none⟩=some (.slice a1 bd.length c1)∧w.cell? ⟨gr,j*7+5,none⟩=some (.slice a2 els.length c2)∧w.cell? ⟨gr,j*7+6,none⟩=some (.int .i64 p)∧
   EsV w B (.slice a0 ys.length c0) ys∧SsV w B (.slice a1 bd.length c1) bd∧SsV w B (.slice a2 els.length c2) els:=by
 obtain ⟨a0,cap0,hv,hc,hx⟩:=h;cases hv;obtain ⟨e,he⟩:∃ e,xs[j]?=some e:=⟨_,List.getElem?_eq_getElem hj⟩
 obtain ⟨gr,rfl,hgr,hes⟩:∃ gr,a=some ⟨gr,0,none⟩∧B gr∧SsAt w B gr 0 xs:=by
  rcases hx with hx | hx
  ·rw [hx] at he;simp at he
  ·exact hx
 obtain ⟨cs,hev,hcs⟩:=SsAt.get xs 0 hes j e he;obtain ⟨k,nm,ys,nn,bd,els,p⟩:=e;unfold SV at hev;obtain ⟨va,a1,c1,a2,c2,rfl,⟨a0,c0,rfl,q1,q2⟩,⟨q3,q4⟩,⟨q5,q6⟩⟩:=hev;exact ⟨rfl,gr,k,nm,ys,nn,bd,els,p,a0,c0,a1,c1,a2,c2,rfl,he,by simpa using hcs 0 _ rfl,by simpa using hcs 1 _ rfl,by simpa using hcs 2 _ rfl,by simpa using hcs 3 _ rfl,by simpa using hcs 4 _ rfl,by simpa using hcs 5 _ rfl,by simpa using hcs 6 _ rfl,⟨a0,c0,rfl,q1,q2⟩,⟨a1,c1,rfl,q3,q4⟩,⟨a2,c2,rfl,q5,q6⟩⟩
end Go.Proofs.YtcebchffcmpfeaaGreat
