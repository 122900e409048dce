import Derived.Test.YtheanmadognhbaaGreatDoorKft
namespace Go.Proofs.YtheanmadognhbaaGreatDoor
set_option linter.unusedVariables false
set_option linter.unusedSimpArgs false
set_option maxRecDepth 100000
set_option maxHeartbeats 16000000
open Go.RowKit Go.Maps
abbrev Env:=List (Sec×Int)
structure RS where
 decl:List Sec
 code:Int
 at_:Int
def RS.fail (r:RS) (c p:Int):RS:=if r.code=0 then {r with code:=c,at_:=p } else r
def RS.declare (r:RS) (nm:Sec) (p:Int):RS:=if nm∈r.decl then r.fail 9 p else if 16≤r.decl.length then r.fail 15 p else {r with decl:=r.decl++[nm] }
def bj:Env→Sec→Option Int
 | [],_=>none
 | x :: l,nm=>if x.1=nm then some x.2 else bj l nm
def dU (k:Int) (nm:Sec) (i:Nat) (ts:List Int):Int:=
 if k=4 then 2 else if k≠6 then 1 else if nm=[38,38]∨nm=[124,124] then 2
 else if nm=[61,61]∨nm=[33,61] then (if i=0 then 0 else (ts[0]?).getD 0) else 1
abbrev ar5 (nm:Sec):Prop:=nm=[43]∨nm=[45]∨nm=[42]∨nm=[47]∨nm=[37]
def eC (r:RS) (k:Int) (nm:Sec) (p:Int) (env:Env):Int×RS:=
 if k=2 then (if nm=[116,114,117,101]∨nm=[102,97,108,115,101] then (2,r) else match bj env nm with
  | some t=>(t,r)
  | none=>(1,r.fail 9 p))
 else if k=4 then (2,r) else if k=6 then (if ar5 nm then 1 else 2,r) else (1,r)
mutual
def aR:RS→E→Env→Int×RS
 | r,.mk k _ nm xs p,env=>eC (bC r k nm xs env []) k nm p env
def bC:RS→Int→Sec→List E→Env→List Int→RS
 | r,_,_,[],_,_=>r
 | r,k,nm,e :: es,env,ts=>
  bC (if dU k nm ts.length (ts++[(aR r e env).1])≠0∧(aR r e env).1≠dU k nm ts.length (ts++[(aR r e env).1]) then (aR r e env).2.fail 10 e.pos else (aR r e env).2) k nm es env (ts++[(aR r e env).1])
end
def bp (r:RS) (e:E) (want:Int) (env:Env):RS:=if (aR r e env).1≠want then (aR r e env).2.fail 10 e.pos else (aR r e env).2
theorem dA {s:CS} {x:Int×Int} (h:s.flt=some x) (c p:Int):(s.fail c p).flt=some x:=by
 unfold CS.fail;rw [h];exact h
theorem dV {s:CS} {x:Int×Int} (h:s.flt=some x) (nm:Sec) (t p:Int):(s.declare nm t p).flt=some x:=by
 unfold CS.declare;split
 ·exact dA h _ _
 ·split
  ·exact dA h _ _
  ·exact h
theorem vI {s:CS} {x:Int×Int} (h:s.flt=some x) (nm:Sec) (p:Int):(s.look nm p).2.flt=some x:=by
 unfold CS.look;split
 ·exact h
 ·split
  ·exact h
  ·exact dA h _ _
mutual
theorem d9:∀ (e:E) (s:CS) (x:Int×Int),s.flt=some x→(aE s e).2.flt=some x
 | .mk k n nm xs p,s,x,h=>by
  unfold aE;split
  ·exact vI h _ _
  ·split
   ·exact ba xs _ _ x h
   ·split
    ·exact ba xs _ _ x h
    ·split
     ·exact ba xs _ _ x h
     ·split
      ·split
       ·exact pL xs _ x h
       ·exact ba xs _ _ x h
      ·exact h
theorem ba:∀ (xs:List E) (s:CS) (want:Int) (x:Int×Int),s.flt=some x→(an s want xs).flt=some x
 | [],s,want,x,h=>by unfold an;exact h
 | e :: es,s,want,x,h=>by
  unfold an;refine ba es _ _ x ?_;split
  ·exact d9 e s x h
  ·exact dA (d9 e s x h) _ _
theorem pL:∀ (xs:List E) (s:CS) (x:Int×Int),s.flt=some x→(bX s xs).flt=some x
 | [],s,x,h=>by unfold bX;exact h
 | e :: es,s,x,h=>by
  unfold bX;exact ba es _ _ x (d9 e s x h)
end
mutual
theorem sD:∀ (x:St) (s:CS) (y:Int×Int),s.flt=some y→(fw s x).flt=some y
 | .mk k nm xs n bd els p,s,y,h=>by
  unfold fw;split
  ·split
   ·exact h
   ·exact dV (d9 _ _ y h) _ _ _
  ·split
   ·exact dC els _ y (dC bd _ y (ba xs _ _ y h))
   ·split
    ·refine dC bd _ y ?_;split
     ·exact dA (dV h _ _ _) _ _
     ·exact dV h _ _ _
    ·exact ba xs _ _ y h
theorem dC:∀ (xs:List St) (s:CS) (y:Int×Int),s.flt=some y→(aI s xs).flt=some y
 | [],s,y,h=>by unfold aI;exact h
 | x :: xs,s,y,h=>by
  unfold aI;exact dC xs _ y (sD x (s.bump x.kind) y h)
end
def RS.bad (r:RS) (x:Int×Int):Prop:=r.code=x.1∧r.at_=x.2∧x.1≠0
theorem RS.bad.fail {r:RS} {x:Int×Int} (h:r.bad x) (c p:Int):(r.fail c p).bad x:=by
 unfold RS.fail;rw [if_neg (by rw [h.1];exact h.2.2)];exact h
theorem RS.bad.declare {r:RS} {x:Int×Int} (h:r.bad x) (nm:Sec) (p:Int):(r.declare nm p).bad x:=by
 unfold RS.declare;split
 ·exact h.fail _ _
 ·split
  ·exact h.fail _ _
  ·exact h
theorem RS.bad.type {r:RS} {x:Int×Int} (h:r.bad x) (k:Int) (nm:Sec) (p:Int) (env:Env):(eC r k nm p env).2.bad x:=by
 unfold eC;split
 ·split
  ·exact h
  ·split
   ·exact h
   ·exact h.fail _ _
 ·split
  ·exact h
  ·split
   ·exact h
   ·exact h
mutual
theorem RS.bad.kind:∀ (e:E) (r:RS) (x:Int×Int) (env:Env),r.bad x→(aR r e env).2.bad x
 | .mk k n nm xs p,r,x,env,h=>by
  unfold aR;exact (RS.bad.args xs r x k nm env [] h).type _ _ _ _
theorem RS.bad.args:∀ (xs:List E) (r:RS) (x:Int×Int) (k:Int) (nm:Sec) (env:Env) (ts:List Int),r.bad x→(bC r k nm xs env ts).bad x
 | [],r,x,k,nm,env,ts,h=>by unfold bC;exact h
 | e :: es,r,x,k,nm,env,ts,h=>by
  unfold bC;refine RS.bad.args es _ x k nm env _ ?_;split
  ·exact (RS.bad.kind e r x env h).fail _ _
  ·exact RS.bad.kind e r x env h
end
theorem RS.bad.need {r:RS} {x:Int×Int} (h:r.bad x) (e:E) (want:Int) (env:Env):(bp r e want env).bad x:=by
 unfold bp;split
 ·exact (RS.bad.kind e r x env h).fail _ _
 ·exact RS.bad.kind e r x env h
structure Agree (s:CS) (r:RS) (env:Env):Prop where
 bad:∀ x,s.flt=some x→r.bad x
 good:s.flt=none→r.code=0∧s.decl=r.decl∧(∀ z,s.known z=bj env z)∧(∀ z t,s.known z=some t→(t=1∨t=2)∧z∈s.decl)∧s.decl.length≤16
theorem Agree.of_bad {s:CS} {r:RS} {env:Env} {x:Int×Int} (h1:s.flt=some x) (h2:r.bad x):Agree s r env:=
 ⟨fun y e=>by rw [h1] at e;cases e;exact h2,fun e=>by rw [h1] at e;cases e⟩
theorem Agree.fail {s:CS} {r:RS} {env env':Env} (h:Agree s r env) {c:Int} (hc:c≠0) (p:Int):Agree (s.fail c p) (r.fail c p) env':=by
 cases hf:s.flt with
 | some x=>exact .of_bad (dA hf _ _) ((h.bad x hf).fail _ _)
 | none=>
  have h0:=(h.good hf).1;refine Agree.of_bad (x:=(c,p)) (by unfold CS.fail;rw [hf]) ?_;unfold RS.fail;rw [if_pos h0];exact ⟨rfl,rfl,hc⟩
theorem jH {nm:Sec} (h:(opr nm).2≠0):nm∈([[124,124],[38,38],[60],[60,61],[62],[62,61],[61,61],[33,61],[43],[45],[42],[47],[37]]:List Sec):=by
 apply Classical.byContradiction;intro hn;simp only [List.mem_cons,List.not_mem_nil,or_false,not_or] at hn;refine h ?_;unfold opr;simp only [hn,if_false,or_self]
theorem opr_ar {nm:Sec} (h:(opr nm).2≠0):(opr nm).2=if ar5 nm then 1 else 2:=by
 have key:∀ y∈([[124,124],[38,38],[60],[60,61],[62],[62,61],[61,61],[33,61],[43],[45],[42],[47],[37]]:List Sec),(opr y).2=if ar5 y then 1 else 2:=by decide
 exact key nm (jH h)
theorem vJ {nm:Sec} (h:(opr nm).2≠0):(opr nm).1=(if nm=[38,38]∨nm=[124,124] then 2 else if nm=[61,61]∨nm=[33,61] then 0 else 1):=by
 have key:∀ y∈([[124,124],[38,38],[60],[60,61],[62],[62,61],[61,61],[33,61],[43],[45],[42],[47],[37]]:List Sec),(opr y).1=(if y=[38,38]∨y=[124,124] then 2 else if y=[61,61]∨y=[33,61] then 0 else 1):=by decide
 exact key nm (jH h)
theorem Agree.kept {s s':CS} {r:RS} {env:Env} (h:Agree s r env) (h1:s'.flt=s.flt) (h2:s'.decl=s.decl) (h3:s'.known=s.known):Agree s' r env:=
 ⟨fun x e=>h.bad x (h1 ▸ e),fun e=>by rw [h2,h3];exact h.good (h1 ▸ e)⟩
def KindA (s:CS) (e:E) (r:RS) (env:Env):Prop:=Agree (aE s e).2 (aR r e env).2 env∧((aE s e).2.flt=none→(aE s e).1=(aR r e env).1∧((aE s e).1=1∨(aE s e).1=2))
theorem ed {s:CS} {r:RS} {env:Env} {e:E} {want:Int} (h:KindA s e r env) :
  Agree (if (aE s e).1=want then (aE s e).2 else (aE s e).2.fail 10 e.pos) (bp r e want env) env:=by
 unfold bp;cases hf:(aE s e).2.flt with
 | some x=>
  have hb:=h.1.bad x hf;refine Agree.of_bad (x:=x) ?_ ?_
  ·split
   ·exact hf
   ·exact dA hf _ _
  ·split
   ·exact hb.fail _ _
   ·exact hb
 | none=>
  obtain ⟨h1,h2⟩:=h.2 hf;rw [h1]
  by_cases hw:(aR r e env).1=want
  ·rw [if_pos hw,if_neg (fun n=>n hw)];exact h.1
  ·rw [if_neg hw,if_pos hw];exact h.1.fail (by decide) _
theorem nr {r:RS} {k:Int} {nm:Sec} {e:E} {es:List E} {env:Env} {ts:List Int} {want:Int} (hw:dU k nm ts.length (ts++[(aR r e env).1])=want) (h0:want≠0) :
  bC r k nm (e :: es) env ts=bC (bp r e want env) k nm es env (ts++[(aR r e env).1]):=by
 conv=>lhs;unfold bC
 rw [hw];unfold bp;congr 1
 by_cases hx:(aR r e env).1=want
 ·rw [if_neg (fun n=>n.2 hx),if_neg (fun n=>n hx)]
 ·rw [if_pos ⟨h0,hx⟩,if_pos hx]
mutual
theorem ch:∀ (e:E) (s:CS) (r:RS) (env:Env),wE e→Agree s r env→KindA s e r env
 | .mk k n nm xs p,s,r,env,hw,h=>by
  unfold wE at hw;obtain ⟨hk,hn,hxs⟩:=hw;cases hf:s.flt with
  | some x=>
   have hb:=h.bad x hf;have h1:=d9 (.mk k n nm xs p) s x hf;exact ⟨.of_bad h1 (RS.bad.kind _ r x env hb),fun e=>by rw [h1] at e;cases e⟩
  | none=>
   obtain ⟨g1,g2,g3,g4,g5⟩:=h.good hf;unfold KindA aE aR
   by_cases h2:k=2
   ·subst h2;have hx:xs=[]:=by
     rcases hk with hk | hk | hk
     ·exact List.eq_nil_of_length_eq_zero hk.2
     ·omega
     ·omega
    subst hx;rw [show bC r 2 nm [] env []=r by unfold bC;rfl];simp only [if_true];unfold CS.look eC;simp only [if_true]
    by_cases ht:nm=[116,114,117,101]∨nm=[102,97,108,115,101]
    ·rw [if_pos ht,if_pos ht];exact ⟨h,fun _=>⟨rfl,.inr rfl⟩⟩
    ·rw [if_neg ht,if_neg ht,g3 nm];cases hl:bj env nm with
     | some t=>
      exact ⟨h,fun _=>⟨rfl,(g4 nm t (by rw [g3 nm,hl])).1⟩⟩
     | none=>
      exact ⟨h.fail (by decide) p,fun e=>absurd e (cN _ _ _)⟩
   ·rw [if_neg h2];have tail:∀ (r':RS),eC r' k nm p env=(if k=4 then 2 else if k=6 then (if ar5 nm then 1 else 2) else 1,r'):=fun r'=>by
     unfold eC;rw [if_neg h2];split
     ·rfl
     ·split<;>rfl
    rw [tail]
    by_cases h3:k=3
    ·subst h3;rw [if_pos rfl,if_neg (by decide),if_neg (by decide)];exact ⟨ef xs _ r env 3 nm 1 [] hxs (fun _ _=>rfl) (by decide) (h.kept rfl rfl rfl),fun _=>⟨rfl,.inl rfl⟩⟩
    ·rw [if_neg h3]
     by_cases h5:k=5
     ·subst h5;rw [if_pos rfl,if_neg (by decide),if_neg (by decide)];exact ⟨ef xs _ r env 5 nm 1 [] hxs (fun _ _=>rfl) (by decide) h,fun _=>⟨rfl,.inl rfl⟩⟩
     ·rw [if_neg h5]
      by_cases h4:k=4
      ·subst h4;rw [if_pos rfl,if_pos rfl];refine ⟨ef xs _ r env 4 nm 2 [] hxs (fun _ _=>rfl) (by decide) h,fun _=>⟨rfl,.inr rfl⟩⟩
      ·rw [if_neg h4]
       by_cases h6:k=6
       ·subst h6;have ho:xs.length=2∧(opr nm).2≠0:=by
         rcases hk with hk | hk | hk
         ·omega
         ·omega
         ·exact hk.2
        have hty:=opr_ar ho.2;have hwt:=vJ ho.2;have h12:(opr nm).2=1∨(opr nm).2=2:=by rw [hty];split<;>simp
        have e64:∀ b:Int,(if (6:Int)=4 then (2:Int) else if (6:Int)=6 then b else 1)=b:=fun _=>rfl;rw [if_pos rfl,e64]
        by_cases hz:(opr nm).1=0
        ·rw [if_pos hz];refine ⟨?_,fun _=>⟨hty,h12⟩⟩;have hnm:¬ (nm=[38,38]∨nm=[124,124])∧(nm=[61,61]∨nm=[33,61]):=by
          by_cases q1:nm=[38,38]∨nm=[124,124]
          ·rw [if_pos q1,hz] at hwt;omega
          ·rw [if_neg q1] at hwt
           by_cases q2:nm=[61,61]∨nm=[33,61]
           ·exact ⟨q1,q2⟩
           ·rw [if_neg q2,hz] at hwt;omega
         match xs,ho.1,hxs with
         | [a,b],_,hxs=>
          unfold wL wL at hxs;have ka:=ch a s r env hxs.1 h;unfold bX;have e1:bC r 6 nm [a,b] env []=bC (aR r a env).2 6 nm [b] env [(aR r a env).1]:=by
           conv=>lhs;unfold bC
           have:dU 6 nm ([]:List Int).length ([]++[(aR r a env).1])=0:=by
            unfold dU;rw [if_neg (by decide),if_neg (by decide),if_neg hnm.1,if_pos hnm.2];rfl
           rw [this,if_neg (fun n=>n.1 rfl)];rfl
          rw [e1];cases hfa:(aE s a).2.flt with
          | some x=>exact .of_bad (ba _ _ _ x hfa) (RS.bad.args _ _ x _ _ _ _ (ka.1.bad x hfa))
          | none=>
           obtain ⟨k1,k2⟩:=ka.2 hfa;have e2:bC (aR r a env).2 6 nm [b] env [(aR r a env).1]=bp (aR r a env).2 b (aE s a).1 env:=by
            rw [nr (want:=(aE s a).1) ?_ (by rcases k2 with k2 | k2<;>rw [k2]<;>decide)]
            ·unfold bC;rfl
            ·unfold dU;rw [if_neg (by decide),if_neg (by decide),if_neg hnm.1,if_pos hnm.2,k1];rfl
           rw [e2];have kb:=ch b (aE s a).2 (aR r a env).2 env hxs.2.1 ka.1;unfold an an;exact ed kb
        ·rw [if_neg hz];refine ⟨ef xs s r env 6 nm (opr nm).1 [] hxs (fun i ts=>?_) hz h,fun _=>⟨hty,h12⟩⟩;unfold dU;rw [if_neg (by decide),if_neg (by decide),hwt]
         by_cases q1:nm=[38,38]∨nm=[124,124]
         ·rw [if_pos q1,if_pos q1]
         ·rw [if_neg q1,if_neg q1];rw [if_neg q1] at hwt
          by_cases q2:nm=[61,61]∨nm=[33,61]
          ·rw [if_pos q2] at hwt;exact absurd hwt hz
          ·rw [if_neg q2,if_neg q2]
       ·have hx:xs=[]:=by
         rcases hk with hk | hk | hk
         ·exact List.eq_nil_of_length_eq_zero hk.2
         ·omega
         ·omega
        subst hx;rw [if_neg h6,if_neg h4,if_neg h6];rw [show bC r k nm [] env []=r by unfold bC;rfl];exact ⟨h,fun _=>⟨rfl,.inl rfl⟩⟩
theorem ef:∀ (xs:List E) (s:CS) (r:RS) (env:Env) (k:Int) (nm:Sec) (want:Int) (ts:List Int),wL xs→(∀ i ts,dU k nm i ts=want)→want≠0→Agree s r env→
  Agree (an s want xs) (bC r k nm xs env ts) env
 | [],s,r,env,k,nm,want,ts,_,_,_,h=>by unfold an bC;exact h
 | e :: es,s,r,env,k,nm,want,ts,hw,hwt,h0,h=>by
  unfold wL at hw;rw [nr (hwt _ _) h0];unfold an;exact ef es _ _ env k nm want _ hw.2 hwt h0 (ed (ch e s r env hw.1 h))
end
theorem sF {s:CS} {r:RS} {env:Env} {e:E} (want:Int) (hw:wE e) (h:Agree s r env):Agree (an s want [e]) (bp r e want env) env:=by
 unfold an an;exact ed (ch e s r env hw h)
mutual
def bY:RS→St→Env→RS×Env
 | r,.mk k nm xs n bd els p,env=>
  if k=1 then (match xs with | []=>(r,env) | x :: _=>((aR r x env).2.declare nm p,env++[(nm,(aR r x env).1)]))
  else if k=6 then (match xs with | []=>(r,env) | x :: _=>((ay (ay (bp r x 2 env) bd env).1 els env).1,env))
  else if k=7∨k=8 then ((ay (if 64 < n then (r.declare nm p).fail 11 p else r.declare nm p) bd (env++[(nm,1)])).1,env)
  else (match xs with | x :: y :: _=>(bp (bp r x 1 env) y 1 env,env) | _=>(r,env))
def ay:RS→List St→Env→RS×Env
 | r,[],env=>(r,env)
 | r,x :: xs,env=>ay (bY r x env).1 xs (bY r x env).2
end
mutual
theorem RS.bad.stmt:∀ (e:St) (r:RS) (x:Int×Int) (env:Env),r.bad x→(bY r e env).1.bad x
 | .mk k nm xs n bd els p,r,x,env,h=>by
  unfold bY;split
  ·split
   ·exact h
   ·exact (RS.bad.kind _ r x env h).declare _ _
  ·split
   ·split
    ·exact h
    ·exact RS.bad.block els _ x env (RS.bad.block bd _ x env (h.need _ _ _))
   ·split
    ·refine RS.bad.block bd _ x _ ?_;split
     ·exact (h.declare _ _).fail _ _
     ·exact h.declare _ _
    ·split
     ·exact (h.need _ _ _).need _ _ _
     ·exact h
theorem RS.bad.block:∀ (xs:List St) (r:RS) (x:Int×Int) (env:Env),r.bad x→(ay r xs env).1.bad x
 | [],r,x,env,h=>by unfold ay;exact h
 | y :: xs,r,x,env,h=>by unfold ay;exact RS.bad.block xs _ x _ (RS.bad.stmt y r x env h)
end
theorem dd (x:Sec×Int) (l:Env) (z:Sec):bj (x :: l) z=if x.1=z then some x.2 else bj l z:=rfl
theorem eg:∀ (l m:Env) (z:Sec),bj (l++m) z=match bj l z with | some t=>some t | none=>bj m z
 | [],m,z=>rfl
 | x :: l,m,z=>by
  rw [List.cons_append,dd,dd]
  by_cases h:x.1=z
  ·rw [if_pos h,if_pos h]
  ·rw [if_neg h,if_neg h];exact eg l m z
theorem ib:∀ (l:Env) (z:Sec),(∀ x∈l,x.1≠z)→bj l z=none
 | [],z,_=>rfl
 | x :: l,z,h=>by
  rw [dd,if_neg (h x (by simp))];exact ib l z (fun y hy=>h y (by simp [hy]))
def Grew (s s':CS) (env env':Env):Prop:=s.flt=none∧∃ (M:List Sec) (N:Env),s'.decl=s.decl++M∧env'=env++N∧(∀ x∈N,x.1∈M)∧∀ z∈M,z∉s.decl
def StA (s s':CS) (r':RS) (env env':Env):Prop:=Agree s' r' env'∧(s'.flt=none→Grew s s' env env')
theorem Grew.refl {s:CS} (h:s.flt=none) (env:Env):Grew s s env env:=⟨h,[],[],by simp,by simp,by simp,by simp⟩
theorem Grew.trans {s s1 s2:CS} {env env1 env2:Env} (h1:Grew s s1 env env1) (h2:Grew s1 s2 env1 env2):Grew s s2 env env2:=by
 obtain ⟨g1,M1,N1,a1,a2,a3,a4⟩:=h1;obtain ⟨_,M2,N2,b1,b2,b3,b4⟩:=h2;refine ⟨g1,M1++M2,N1++N2,by rw [b1,a1,List.append_assoc],by rw [b2,a2,List.append_assoc],fun x hx=>?_,fun z hz=>?_⟩
 ·rcases List.mem_append.1 hx with hx | hx
  ·exact List.mem_append.2 (.inl (a3 x hx))
  ·exact List.mem_append.2 (.inr (b3 x hx))
 ·rcases List.mem_append.1 hz with hz | hz
  ·exact a4 z hz
  ·intro hd;exact b4 z hz (by rw [a1];exact List.mem_append.2 (.inl hd))
theorem StA.trans {s s1 s2:CS} {r1 r2:RS} {env env1 env2:Env} (h1:StA s s1 r1 env env1) (h2:StA s1 s2 r2 env1 env2):StA s s2 r2 env env2:=
 ⟨h2.1,fun e=>(h1.2 (h2.2 e).1).trans (h2.2 e)⟩
theorem StA.of_agree {s s':CS} {r':RS} {env:Env} (h:Agree s' r' env) (h1:s'.flt=none→s.flt=none) (h2:s'.flt=none→s'.decl=s.decl):StA s s' r' env env:=
 ⟨h,fun e=>⟨h1 e,[],[],by simp [h2 e],by simp,by simp,by simp⟩⟩
theorem StA.bad {s s':CS} {r':RS} {env env':Env} {x:Int×Int} (h1:s'.flt=some x) (h2:r'.bad x):StA s s' r' env env':=
 ⟨.of_bad h1 h2,fun e=>by rw [h1] at e;cases e⟩
theorem ep {s:CS} {r:RS} {env:Env} (h:Agree s r env) (nm:Sec) (p:Int) {t t':Int} (ht:s.flt=none→t=t'∧(t=1∨t=2)):StA s (s.declare nm t p) (r.declare nm p) env (env++[(nm,t')]):=by
 cases hf:s.flt with
 | some x=>exact .bad (dV hf _ _ _) ((h.bad x hf).declare _ _)
 | none=>
  obtain ⟨g1,g2,g3,g4,g5⟩:=h.good hf;obtain ⟨rfl,ht2⟩:=ht hf;unfold CS.declare RS.declare;rw [← g2]
  by_cases hm:nm∈s.decl
  ·rw [if_pos hm,if_pos hm];have hb:=h.fail (env':=env++[(nm,t)]) (c:=9) (by decide) p;exact ⟨hb,fun e=>absurd e (cN _ _ _)⟩
  ·rw [if_neg hm,if_neg hm]
   by_cases hl:s.decl.length=16
   ·rw [if_pos hl,if_pos (by omega)];have hb:=h.fail (env':=env++[(nm,t)]) (c:=15) (by decide) p;exact ⟨hb,fun e=>absurd e (cN _ _ _)⟩
   ·rw [if_neg hl,if_neg (by omega)];have hnone:∀ z,bj env z≠none→z∈s.decl:=fun z hz=>by
     cases hq:bj env z with
     | none=>exact absurd hq hz
     | some v=>exact (g4 z v (by rw [g3 z,hq])).2
    refine ⟨⟨(fun x e=>by rw [show ({s with decl:=s.decl++[nm],known:=dL s.known nm t }:CS).flt=s.flt from rfl,hf] at e;cases e),fun _=>⟨g1,rfl,fun z=>?_,fun z v hz=>?_,?_⟩⟩,fun _=>⟨hf,[nm],[(nm,t)],rfl,rfl,by simp,by simpa using hm⟩⟩
    ·rw [eg];show dL s.known nm t z=_;unfold dL
     by_cases e:z=nm
     ·subst e;rw [if_pos rfl];cases hq:bj env z with
      | some v=>exact absurd (hnone z (by rw [hq];simp)) hm
      | none=>simp [bj]
     ·rw [if_neg e,g3 z];cases hq:bj env z with
      | some v=>rfl
      | none=>
       simp only [bj];rw [if_neg (fun q=>e q.symm)]
    ·have hz:dL s.known nm t z=some v:=hz;show _∧z∈s.decl++[nm];unfold dL at hz
     by_cases e:z=nm
     ·rw [if_pos e] at hz;cases hz;exact ⟨ht2,by simp [e]⟩
     ·rw [if_neg e] at hz;exact ⟨(g4 z v hz).1,List.mem_append.2 (.inl (g4 z v hz).2)⟩
    ·show (s.decl++[nm]).length≤16;simp;omega
theorem eM {s s':CS} {r r':RS} {env env':Env} (h:Agree s r env) (hs:StA s s' r' env env'):StA s (s'.forget s.decl.length) r' env env:=by
 cases hf:s'.flt with
 | some x=>exact .bad (show (s'.forget s.decl.length).flt=some x from hf) (hs.1.bad x hf)
 | none=>
  obtain ⟨hs0,M,N,a1,a2,a3,a4⟩:=hs.2 hf;obtain ⟨g1,g2,g3,g4,g5⟩:=h.good hs0;obtain ⟨k1,k2,k3,k4,k5⟩:=hs.1.good hf;have hkn:∀ z,(s'.forget s.decl.length).known z=bj env z:=fun z=>by
   show (match idx s'.decl z with | some c=>if (s.decl.length:Int)≤c then none else s'.known z | none=>s'.known z)=_;unfold idx;rw [a1]
   by_cases hz:z∈s.decl
   ·rw [if_pos (List.mem_append.2 (.inl hz))];have hlt:=List.idxOf_lt_length_of_mem hz;have hi:(s.decl++M).idxOf z=s.decl.idxOf z:=by rw [List.idxOf_append,if_pos hz]
    rw [hi];simp only;rw [if_neg (by omega),k3 z,a2,eg];cases hq:bj env z with
    | some v=>rfl
    | none=>exact ib N z (fun x hx e=>a4 _ (a3 x hx) (e ▸ hz))
   ·have hl:bj env z=none:=by
     cases hq:bj env z with
     | none=>rfl
     | some v=>exact absurd (g4 z v (by rw [g3 z,hq])).2 hz
    rw [hl]
    by_cases hm:z∈M
    ·rw [if_pos (List.mem_append.2 (.inr hm))];have hi:(s.decl++M).idxOf z=M.idxOf z+s.decl.length:=by rw [List.idxOf_append,if_neg hz]
     rw [hi];simp only;rw [if_pos (by omega)]
    ·rw [if_neg (fun e=>(List.mem_append.1 e).elim hz hm)];simp only;rw [k3 z,a2,eg,hl];exact ib N z (fun x hx e=>hm (e ▸ a3 x hx))
  refine ⟨⟨(fun x e=>by rw [show (s'.forget s.decl.length).flt=s'.flt from rfl,hf] at e;cases e),fun _=>⟨k1,k2,hkn,fun z t hz=>?_,k5⟩⟩,fun _=>⟨hs0,M,[],a1,by simp,by simp,a4⟩⟩;rw [hkn z,← g3 z] at hz;obtain ⟨q1,q2⟩:=g4 z t hz;exact ⟨q1,by show z∈s'.decl;rw [a1];exact List.mem_append.2 (.inl q2)⟩
mutual
theorem fc:∀ (e:E) (s:CS),(aE s e).2.decl=s.decl
 | .mk k n nm xs p,s=>by
  unfold aE;split
  ·unfold CS.look;split
   ·rfl
   ·split
    ·rfl
    ·unfold CS.fail;split<;>rfl
  ·split
   ·rw [bK xs]
   ·split
    ·exact bK xs _ _
    ·split
     ·exact bK xs _ _
     ·split
      ·split
       ·exact pM xs _
       ·exact bK xs _ _
      ·rfl
theorem bK:∀ (xs:List E) (s:CS) (want:Int),(an s want xs).decl=s.decl
 | [],s,want=>by unfold an;rfl
 | e :: es,s,want=>by
  unfold an;rw [bK es];split
  ·exact fc e s
  ·unfold CS.fail;split<;>exact fc e s
theorem pM:∀ (xs:List E) (s:CS),(bX s xs).decl=s.decl
 | [],s=>by unfold bX;rfl
 | e :: es,s=>by
  unfold bX;rw [bK es];exact fc e s
end
theorem sG {s:CS} {r:RS} {env:Env} (k:Int) (h:Agree s r env):Agree (s.bump k) r env:=h.kept rfl rfl rfl
mutual
theorem sH:∀ (x:St) (s:CS) (r:RS) (env:Env),wS x→Agree s r env→StA s (fw s x) (bY r x env).1 env (bY r x env).2
 | .mk k nm xs n bd els p,s,r,env,hw,h=>by
  unfold wS at hw;obtain ⟨hk,hn,hx,hb,he⟩:=hw;unfold fw bY
  by_cases h1:k=1
  ·rw [if_pos h1,if_pos h1];have hl:xs.length=1:=by rcases hk with hk | hk | hk<;>omega
   match xs,hl,hx with
   | [x],_,hx=>
    unfold wL at hx;have ka:=ch x s r env hx.1 h;have hq:StA s (aE s x).2 (aR r x env).2 env env:=.of_agree ka.1 (fa x s) (fun _=>fc x s);exact hq.trans (ep ka.1 nm p ka.2)
  ·rw [if_neg h1,if_neg h1]
   by_cases h6:k=6
   ·rw [if_pos h6,if_pos h6];have hl:xs.length=1:=by rcases hk with hk | hk | hk<;>omega
    match xs,hl,hx with
    | [x],_,hx=>
     unfold wL at hx;have ka:=sF 2 hx.1 h;have hq:StA s (an s 2 [x]) (bp r x 2 env) env env:=.of_agree ka (aT _ _ _) (fun _=>bK _ _ _);have hb1:=eM ka (dD bd _ _ env hb ka);have hb2:=eM hb1.1 (dD els _ _ env he hb1.1);exact (hq.trans hb1).trans hb2
   ·rw [if_neg h6,if_neg h6]
    by_cases h7:k=7∨k=8
    ·rw [if_pos h7,if_pos h7];have hd:=ep (t:=1) (t':=1) h nm p (fun _=>⟨rfl,.inl rfl⟩);have hd2:StA s (if 64 < n then (s.declare nm 1 p).fail 11 p else s.declare nm 1 p) (if 64 < n then (r.declare nm p).fail 11 p else r.declare nm p) env (env++[(nm,1)]):=by
      split
      ·exact ⟨hd.1.fail (by decide) p,fun e=>absurd e (cN _ _ _)⟩
      ·exact hd
     exact eM h (hd2.trans (dD bd _ _ _ hb hd2.1))
    ·rw [if_neg h7,if_neg h7];have hl:xs.length=2:=by rcases hk with hk | hk | hk<;>omega
     match xs,hl,hx with
     | [x,y],_,hx=>
      unfold wL wL at hx;have ka:=ch x s r env hx.1 h;have k1:=ed (want:=1) ka;have k2:=ed (want:=1) (ch y _ _ env hx.2.1 k1);have e:an s 1 [x,y]=(if (aE (if (aE s x).1=1 then (aE s x).2 else (aE s x).2.fail 10 x.pos) y).1=1 then (aE (if (aE s x).1=1 then (aE s x).2 else (aE s x).2.fail 10 x.pos) y).2 else (aE (if (aE s x).1=1 then (aE s x).2 else (aE s x).2.fail 10 x.pos) y).2.fail 10 y.pos):=by
       unfold an an an;rfl
      exact .of_agree (by rw [e];exact k2) (aT _ _ _) (fun _=>bK _ _ _)
theorem dD:∀ (xs:List St) (s:CS) (r:RS) (env:Env),wB xs→Agree s r env→StA s (aI s xs) (ay r xs env).1 env (ay r xs env).2
 | [],s,r,env,_,h=>by
  unfold aI ay;exact .of_agree h (fun e=>e) (fun _=>rfl)
 | x :: xs,s,r,env,hw,h=>by
  unfold wB at hw;unfold aI ay;have h1:=sH x (s.bump x.kind) r env hw.1 (sG _ h);have h2:=dD xs _ _ _ hw.2 h1.1;have h3:=h1.trans h2;exact ⟨h3.1,fun e=>h3.2 e⟩
end
mutual
def stN:St→Nat | .mk k _ xs n bd els _=>1+ak xs+(if k=6 then max (fd 0 bd) (fd 0 els) else if k=7∨k=8 then n.toNat*(1+fd 0 bd) else 0)
def fd:Nat→List St→Nat | acc,[]=>acc | acc,x :: xs=>fd (min (acc+stN x) 1073741824) xs
end
mutual
theorem stN_st:∀ x:St,min (stN x) 2049=min (stS x) 2049
 | .mk k nm xs n bd els p=>by
  have h1:=mp bd 0;have h2:=mp els 0;rw [show min 0 2049=0 from rfl] at h1 h2;unfold stN stS
  by_cases h6:k=6
  ·rw [if_pos h6,if_pos h6];omega
  ·rw [if_neg h6,if_neg h6]
   by_cases h7:k=7∨k=8
   ·rw [if_pos h7,if_pos h7];rcases Nat.le_total (fd 0 bd) 2049 with hl | hl
    ·rw [show stB 0 bd=fd 0 bd by omega]
    ·have hb:stB 0 bd=2049:=by omega
     rw [hb];rcases Nat.eq_zero_or_pos n.toNat with h0 | h0
     ·rw [h0];omega
     ·have q1:=Nat.le_mul_of_pos_left (1+fd 0 bd) h0;have q2:=Nat.le_mul_of_pos_left (1+2049) h0;omega
   ·rw [if_neg h7,if_neg h7]
theorem mp:∀ (xs:List St) (a:Nat),min (fd a xs) 2049=stB (min a 2049) xs
 | [],a=>by unfold fd stB;rfl
 | x :: xs,a=>by
  have h1:=stN_st x;unfold fd stB;rw [mp xs];congr 1;omega
end
theorem mq:∀ (xs:List St) (a:Nat),a≤1073741824→fd a xs≤1073741824
 | [],a,h=>by unfold fd;exact h
 | x :: xs,a,h=>by unfold fd;exact mq xs _ (by omega)
mutual
def sI:E→Bool | .mk k _ _ xs _=>decide (k=3) || cR xs
def cR:List E→Bool | []=>false | e :: es=>sI e || cR es
end
mutual
def sJ:St→Bool | .mk _ _ xs _ bd els _=>cR xs || (dR bd || dR els)
def dR:List St→Bool | []=>false | x :: xs=>sJ x || dR xs
end
mutual
def hasS (a b:Int):St→Bool | .mk k _ _ _ bd els _=>(decide (a≤k) && decide (k≤b)) || (eN a b bd || eN a b els)
def eN (a b:Int):List St→Bool | []=>false | x :: xs=>hasS a b x || eN a b xs
end
mutual
def cE:E→Nat | .mk k _ _ xs _=>(if k=3 then 1 else 0)+cL xs
def cL:List E→Nat | []=>0 | e :: es=>cE e+cL es
end
mutual
def cS:St→Nat | .mk _ _ xs _ bd els _=>cL xs+(cB bd+cB els)
def cB:List St→Nat | []=>0 | x :: xs=>cS x+cB xs
end
mutual
def kS (j:Nat):St→Nat | .mk k _ _ _ bd els _=>(if (j:Int)=k then 1 else 0)+(kB j bd+kB j els)
def kB (j:Nat):List St→Nat | []=>0 | x :: xs=>kS j x+kB j xs
end
mutual
theorem cE_pos:∀ e:E,sI e=decide (0 < cE e)
 | .mk k n nm xs p=>by
  unfold sI cE;rw [nt xs]
  by_cases h:k=3<;>simp [h]<;>omega
theorem nt:∀ xs:List E,cR xs=decide (0 < cL xs)
 | []=>by unfold cR cL;rfl
 | e :: es=>by
  unfold cR cL;rw [cE_pos e,nt es,Bool.eq_iff_iff];simp only [Bool.or_eq_true,decide_eq_true_eq];omega
end
mutual
theorem cS_pos:∀ x:St,sJ x=decide (0 < cS x)
 | .mk k nm xs n bd els p=>by
  unfold sJ cS;rw [nt xs,nw bd,nw els,Bool.eq_iff_iff];simp only [Bool.or_eq_true,decide_eq_true_eq];omega
theorem nw:∀ xs:List St,dR xs=decide (0 < cB xs)
 | []=>by unfold dR cB;rfl
 | x :: xs=>by
  unfold dR cB;rw [cS_pos x,nw xs,Bool.eq_iff_iff];simp only [Bool.or_eq_true,decide_eq_true_eq];omega
end
mutual
theorem kS_one (j:Nat):∀ x:St,hasS j j x=decide (0 < kS j x)
 | .mk k nm xs n bd els p=>by
  unfold hasS kS;rw [nx j bd,nx j els,Bool.eq_iff_iff];simp only [Bool.or_eq_true,Bool.and_eq_true,decide_eq_true_eq]
  by_cases h:(j:Int)=k
  ·rw [if_pos h];omega
  ·rw [if_neg h];omega
theorem nx (j:Nat):∀ xs:List St,eN j j xs=decide (0 < kB j xs)
 | []=>by unfold eN kB;rfl
 | x :: xs=>by
  unfold eN kB;rw [kS_one j x,nx j xs,Bool.eq_iff_iff];simp only [Bool.or_eq_true,decide_eq_true_eq];omega
end
mutual
theorem kS_all:∀ x:St,hasS 2 5 x=decide (0 < kS 2 x+kS 3 x+kS 4 x+kS 5 x)
 | .mk k nm xs n bd els p=>by
  unfold hasS kS;rw [qR bd,qR els,Bool.eq_iff_iff];simp only [Bool.or_eq_true,Bool.and_eq_true,decide_eq_true_eq];constructor
  ·intro h;rcases h with ⟨h1,h2⟩ | h | h
   ·have:k=2∨k=3∨k=4∨k=5:=by omega
    rcases this with rfl | rfl | rfl | rfl<;>simp<;>omega
   ·omega
   ·omega
  ·intro h
   by_cases h1:2≤k∧k≤5
   ·exact .inl h1
   ·right;rw [if_neg (by omega),if_neg (by omega),if_neg (by omega),if_neg (by omega)] at h;omega
theorem qR:∀ xs:List St,eN 2 5 xs=decide (0 < kB 2 xs+kB 3 xs+kB 4 xs+kB 5 xs)
 | []=>by unfold eN kB;rfl
 | x :: xs=>by
  unfold eN kB;rw [kS_all x,qR xs,Bool.eq_iff_iff];simp only [Bool.or_eq_true,decide_eq_true_eq];omega
end
theorem aK {n:Int} (h0:0≤n) (h1:n < 9223372036854775808):wrap64 n=n:=jD (by omega) h1
mutual
theorem cE_le:∀ e:E,cE e≤aw e
 | .mk k n nm xs p=>by
  have:=sK xs;unfold cE aw;split<;>omega
theorem sK:∀ xs:List E,cL xs≤ak xs
 | []=>by unfold cL;omega
 | e :: es=>by have:=cE_le e;have:=sK es;unfold cL ak;omega
end
theorem jI (s:CS) (c p:Int):(s.fail c p).ki=s.ki:=by unfold CS.fail;split<;>rfl
theorem de (s:CS) (c p:Int):(s.fail c p).cells=s.cells:=by unfold CS.fail;split<;>rfl
theorem fe (s:CS) (nm:Sec) (t p:Int):(s.declare nm t p).ki=s.ki:=by
 unfold CS.declare;split
 ·exact jI _ _ _
 ·split
  ·exact jI _ _ _
  ·rfl
theorem c9 (s:CS) (nm:Sec) (t p:Int):(s.declare nm t p).cells=s.cells:=by
 unfold CS.declare;split
 ·exact de _ _ _
 ·split
  ·exact de _ _ _
  ·rfl
theorem look_ki (s:CS) (nm:Sec) (p:Int):(s.look nm p).2.ki=s.ki:=by
 unfold CS.look;split
 ·rfl
 ·split
  ·rfl
  ·exact jI _ _ _
theorem sL (s:CS) (nm:Sec) (p:Int):(s.look nm p).2.cells=s.cells:=by
 unfold CS.look;split
 ·rfl
 ·split
  ·rfl
  ·exact de _ _ _
mutual
theorem iW:∀ (e:E) (s:CS),(aE s e).2.ki=s.ki
 | .mk k n nm xs p,s=>by
  unfold aE;split
  ·exact look_ki _ _ _
  ·split
   ·rw [bZ xs]
   ·split
    ·exact bZ xs _ _
    ·split
     ·exact bZ xs _ _
     ·split
      ·split
       ·exact vK xs _
       ·exact bZ xs _ _
      ·rfl
theorem bZ:∀ (xs:List E) (s:CS) (want:Int),(an s want xs).ki=s.ki
 | [],s,want=>by unfold an;rfl
 | e :: es,s,want=>by
  unfold an;rw [bZ es];split
  ·exact iW e s
  ·rw [jI];exact iW e s
theorem vK:∀ (xs:List E) (s:CS),(bX s xs).ki=s.ki
 | [],s=>by unfold bX;rfl
 | e :: es,s=>by
  unfold bX;rw [bZ es];exact iW e s
end
mutual
theorem fJ:∀ (e:E) (s:CS),wE e→0≤s.cells→s.cells+aw e≤1000000→(aE s e).2.cells=s.cells+cE e
 | .mk k n nm xs p,s,hw,h0,hb=>by
  unfold wE at hw;obtain ⟨hk,hn,hx⟩:=hw;unfold aw at hb;unfold aE cE
  by_cases h2:k=2
  ·rw [if_pos h2,if_neg (by omega)];have:xs=[]:=by
    rcases hk with hk | hk | hk
    ·exact List.eq_nil_of_length_eq_zero hk.2
    ·omega
    ·omega
   subst this;rw [sL];unfold cL;omega
  ·rw [if_neg h2]
   by_cases h3:k=3
   ·rw [if_pos h3,if_pos h3];have hw:wrap64 (s.cells+1)=s.cells+1:=aK (by omega) (by omega);rw [aX xs _ _ hx (by show 0≤wrap64 (s.cells+1);omega) (by show wrap64 (s.cells+1)+(ak xs:Int)≤1000000;omega)];show wrap64 (s.cells+1)+(cL xs:Int)=_;omega
   ·rw [if_neg h3,if_neg h3]
    by_cases h5:k=5
    ·rw [if_pos h5];rw [aX xs _ _ hx h0 (by omega)];omega
    ·rw [if_neg h5]
     by_cases h4:k=4
     ·rw [if_pos h4];rw [aX xs _ _ hx h0 (by omega)];omega
     ·rw [if_neg h4]
      by_cases h6:k=6
      ·rw [if_pos h6];split
       ·rw [ny xs _ hx h0 (by omega)];omega
       ·rw [aX xs _ _ hx h0 (by omega)];omega
      ·rw [if_neg h6];have:xs=[]:=by
        rcases hk with hk | hk | hk
        ·exact List.eq_nil_of_length_eq_zero hk.2
        ·omega
        ·omega
       subst this;unfold cL;simp
theorem aX:∀ (xs:List E) (s:CS) (want:Int),wL xs→0≤s.cells→s.cells+ak xs≤1000000→(an s want xs).cells=s.cells+cL xs
 | [],s,want,_,_,_=>by unfold an cL;simp
 | e :: es,s,want,hw,h0,hb=>by
  unfold wL at hw;unfold ak at hb;have h1:=fJ e s hw.1 h0 (by omega);have h2:=cE_le e;have h3:∀ s':CS,s'.cells=(aE s e).2.cells→(an s' want es).cells=s'.cells+cL es:=fun s' e'=>aX es s' want hw.2 (by omega) (by omega);unfold an cL;split
  ·rw [h3 _ rfl];omega
  ·rw [h3 _ (de _ _ _),de];omega
theorem ny:∀ (xs:List E) (s:CS),wL xs→0≤s.cells→s.cells+ak xs≤1000000→(bX s xs).cells=s.cells+cL xs
 | [],s,_,_,_=>by unfold bX cL;simp
 | e :: es,s,hw,h0,hb=>by
  unfold wL at hw;unfold ak at hb;have h1:=fJ e s hw.1 h0 (by omega);have h2:=cE_le e;unfold bX cL;rw [aX es _ _ hw.2 (by omega) (by omega)];omega
end
mutual
theorem cS_le:∀ x:St,cS x≤aQ x
 | .mk k nm xs n bd els p=>by
  have:=sK xs;have:=vL bd;have:=vL els;unfold cS aQ;omega
theorem vL:∀ xs:List St,cB xs≤ah xs
 | []=>by unfold cB;omega
 | x :: xs=>by have:=cS_le x;have:=vL xs;unfold cB ah;omega
end
theorem cT (s:CS) (k:Int):(s.forget k).cells=s.cells:=rfl
theorem eO (s:CS) (k:Int):(s.forget k).ki=s.ki:=rfl
theorem ll (s:CS) (k:Int):(s.bump k).cells=s.cells:=rfl
mutual
theorem pN:∀ (x:St) (s:CS),wS x→pS x→0≤s.cells→s.cells+aQ x≤1000000→(fw s x).cells=s.cells+cS x
 | .mk k nm xs n bd els p,s,hw,hp,h0,hb=>by
  unfold wS at hw;unfold pS at hp;obtain ⟨hs,hn,hx,hbd,he⟩:=hw;obtain ⟨p1,p2,p3,p4⟩:=hp;unfold aQ at hb;have q1:=sK xs;have q2:=vL bd;unfold fw cS
  by_cases h1:k=1
  ·rw [if_pos h1];obtain rfl:=p1 (by omega);obtain rfl:=p2 (by omega);have hl:xs.length=1:=by rcases hs with hk | hk | hk<;>omega
   match xs,hl,hx with
   | [x],_,hx=>
    unfold wL at hx;unfold ak ak at hb;show ((aE s x).2.declare nm (aE s x).1 p).cells=_;rw [c9,fJ x s hx.1 h0 (by omega)];unfold cL cL cB;omega
  ·rw [if_neg h1]
   by_cases h6:k=6
   ·rw [if_pos h6];have t1:=aX xs s 2 hx h0 (by omega);have t2:=cU bd (an s 2 xs) hbd p3 (by omega) (by omega);have t3:=cU els ((aI (an s 2 xs) bd).forget (an s 2 xs).decl.length) he p4 (by rw [cT];omega) (by rw [cT];omega);rw [cT,t3,cT];omega
   ·rw [if_neg h6];obtain rfl:=p1 h6
    by_cases h7:k=7∨k=8
    ·rw [if_pos h7,cT];have hl:xs.length=0:=by rcases hs with hk | hk | hk<;>omega
     obtain rfl:=List.eq_nil_of_length_eq_zero hl;have hd:(if 64 < n then (s.declare nm 1 p).fail 11 p else s.declare nm 1 p).cells=s.cells:=by
      split
      ·rw [de,c9]
      ·exact c9 _ _ _ _
     rw [cU bd _ hbd p3 (by omega) (by omega),hd];unfold cL cB;omega
    ·rw [if_neg h7];obtain rfl:=p2 (by rcases hs with hk | hk | hk<;>omega);rw [aX xs s 1 hx h0 (by omega)];unfold cB;omega
theorem cU:∀ (xs:List St) (s:CS),wB xs→pB xs→0≤s.cells→s.cells+ah xs≤1000000→(aI s xs).cells=s.cells+cB xs
 | [],s,_,_,_,_=>by unfold aI cB;simp
 | x :: xs,s,hw,hp,h0,hb=>by
  unfold wB at hw;unfold pB at hp;unfold ah at hb;have h1:=pN x (s.bump x.kind) hw.1 hp.1 h0 (by rw [ll];omega);rw [ll] at h1;have h2:=cS_le x;unfold aI cB;rw [cU xs _ hw.2 hp.2 (by omega) (by omega),h1];omega
end
mutual
theorem kS_le (j:Nat):∀ x:St,kS j x≤aQ x
 | .mk k nm xs n bd els p=>by
  have:=nz j bd;have:=nz j els;unfold kS aQ;split<;>omega
theorem nz (j:Nat):∀ xs:List St,kB j xs≤ah xs
 | []=>by unfold kB;omega
 | x :: xs=>by have:=kS_le j x;have:=nz j xs;unfold kB ah;omega
end
mutual
theorem stmtC_ki (j:Nat):∀ (x:St) (s:CS),wS x→pS x→0≤s.ki j→s.ki j+aQ x≤1000000→(fw (s.bump x.kind) x).ki j=s.ki j+kS j x
 | .mk k nm xs n bd els p,s,hw,hp,h0,hb=>by
  unfold wS at hw;unfold pS at hp;obtain ⟨hs,hn,hx,hbd,he⟩:=hw;obtain ⟨p1,p2,p3,p4⟩:=hp;unfold aQ at hb;have q2:=nz j bd;have hbump:(s.bump k).ki j=s.ki j+(if (j:Int)=k then 1 else 0:Nat):=by
   show (if (j:Int)=k then wrap64 (s.ki j+1) else s.ki j)=_;split
   ·rw [aK (by omega) (by omega)];omega
   ·omega
  have hle:(if (j:Int)=k then 1 else 0:Nat)≤1:=by split<;>omega
  have hkind:(St.mk k nm xs n bd els p).kind=k:=rfl;rw [hkind];unfold fw kS
  by_cases h1:k=1
  ·rw [if_pos h1];obtain rfl:=p1 (by omega);obtain rfl:=p2 (by omega);have:∀ s':CS,(match xs with | []=>s' | x :: _=>(aE s' x).2.declare nm (aE s' x).1 p).ki j=s'.ki j:=fun s'=>by
    cases xs with
    | nil=>rfl
    | cons x _=>show ((aE s' x).2.declare nm (aE s' x).1 p).ki j=_;rw [fe,iW]
   refine (this _).trans ?_;rw [hbump];unfold kB;omega
  ·rw [if_neg h1]
   by_cases h6:k=6
   ·rw [if_pos h6];have t1:(an (s.bump k) 2 xs).ki=(s.bump k).ki:=bZ _ _ _;have t2:=eP j bd (an (s.bump k) 2 xs) hbd p3 (by rw [t1];omega) (by rw [t1];omega);rw [t1] at t2;have t3:=eP j els ((aI (an (s.bump k) 2 xs) bd).forget (an (s.bump k) 2 xs).decl.length) he p4 (by rw [eO];omega) (by rw [eO];omega);rw [eO,t3,eO];omega
   ·rw [if_neg h6];obtain rfl:=p1 h6
    by_cases h7:k=7∨k=8
    ·rw [if_pos h7,eO];have hd:(if 64 < n then ((s.bump k).declare nm 1 p).fail 11 p else (s.bump k).declare nm 1 p).ki=(s.bump k).ki:=by
      split
      ·rw [jI,fe]
      ·exact fe _ _ _ _
     rw [eP j bd _ hbd p3 (by rw [hd];omega) (by rw [hd];omega),hd,hbump];unfold kB;omega
    ·rw [if_neg h7];obtain rfl:=p2 (by rcases hs with hk | hk | hk<;>omega);rw [bZ,hbump];unfold kB;omega
theorem eP (j:Nat):∀ (xs:List St) (s:CS),wB xs→pB xs→0≤s.ki j→s.ki j+ah xs≤1000000→(aI s xs).ki j=s.ki j+kB j xs
 | [],s,_,_,_,_=>by unfold aI kB;simp
 | x :: xs,s,hw,hp,h0,hb=>by
  unfold wB at hw;unfold pB at hp;unfold ah at hb;have h1:=stmtC_ki j x s hw.1 hp.1 h0 (by omega);have h2:=kS_le j x;unfold aI kB;rw [eP j xs _ hw.2 hp.2 (by omega) (by omega),h1];omega
end
def iA:RS→List Sec→RS
 | r,[]=>r
 | r,n :: ns=>iA (r.declare n 0) ns
def iB (l:List Sec):Env:=l.map fun n=>(n,1)
def dE (want:Int) (env:Env):RS→List E→RS
 | r,[]=>r
 | r,e :: es=>dE want env (bp r e want env) es
theorem nA:∀ (l:List Sec) (s:CS) (r:RS) (env:Env),Agree s r env→Agree (qP s l) (iA r l) (env++iB l)
 | [],s,r,env,h=>by
  show Agree s r (env++[]);rw [List.append_nil];exact h
 | n :: ns,s,r,env,h=>by
  have h1:=(ep (t:=1) (t':=1) h n 0 (fun _=>⟨rfl,.inl rfl⟩)).1;have h2:=nA ns _ _ _ h1;rw [List.append_assoc] at h2;exact h2
theorem fK {want:Int} {env:Env}:∀ (l:List E) (s:CS) (r:RS),wL l→Agree s r env→Agree (an s want l) (dE want env r l) env
 | [],s,r,_,h=>by unfold an;exact h
 | e :: es,s,r,hw,h=>by
  unfold wL at hw;unfold an;exact fK es _ _ hw.2 (ed (ch e s r env hw.1 h))
def RS.new:RS:=⟨[],0,0⟩
theorem vM:Agree CS.new RS.new []:=⟨(fun x h=>by cases h),fun _=>⟨rfl,rfl,fun _=>rfl,(fun z t h=>by cases h),by decide⟩⟩
def refN (d:Df):RS:=dE 2 (iB d.params) (iA RS.new d.params) d.needs
def refB (d:Df):RS×Env:=ay (refN d) d.body (iB d.params)
def refG (d:Df):RS:=dE 1 (refB d).2 (refB d).1 d.give
theorem ff {d:Df} (hw:Whole d) (h8:d.params.length≤8):Agree (opG CS.new d) (refG d) (refB d).2:=by
 have h1:Agree (cK CS.new d.params) (iA RS.new d.params) (iB d.params):=by
  unfold cK;rw [if_neg (by omega)];exact nA d.params _ _ _ vM
 have h2:Agree (opT CS.new d) (refN d) (iB d.params):=fK d.needs _ _ hw.needs h1;have h3:=(dD d.body _ _ _ hw.body h2).1;exact fK d.give _ _ hw.give h3
theorem jJ {d:Df} (h8:8 < d.params.length):(opG CS.new d).flt=some (15,0):=by
 have h1:(cK CS.new d.params).flt=some (15,0):=by
  unfold cK;rw [if_pos h8];rfl
 exact ba _ _ _ _ (dC _ _ _ (ba _ _ _ _ h1))
theorem dZ {d:Df} (h:(opG CS.new d).flt=none):d.params.length≤8:=by
 apply Classical.byContradiction;intro hc;rw [jJ (by omega)] at h;cases h
theorem iX {d:Df} (h:(opS CS.new d).flt=none):(opG CS.new d).flt=none∧stD d≤2048∧opS CS.new d=opG CS.new d:=by
 unfold opS at h⊢;cases hf:(opG CS.new d).flt with
 | some x=>rw [hf] at h;simp only [Option.isSome_some,if_true] at h;rw [hf] at h;cases h
 | none=>
  rw [hf] at h;simp only [Option.isSome_none,Bool.false_eq_true,if_false] at h⊢
  by_cases h2:2048 < stD d
  ·rw [if_pos h2] at h;exact absurd h (cN _ _ _)
  ·rw [if_neg h2];exact ⟨by trivial,by omega,rfl⟩
theorem vN:∀ (l:List Sec) (s:CS),(qP s l).ki=s.ki∧(qP s l).cells=s.cells
 | [],s=>⟨rfl,rfl⟩
 | n :: ns,s=>by
  obtain ⟨h1,h2⟩:=vN ns (s.declare n 1 0);show (qP (s.declare n 1 0) ns).ki=_∧_;exact ⟨h1.trans (fe _ _ _ _),h2.trans (c9 _ _ _ _)⟩
def fL (d:Df):Int:=if eN 2 5 d.body=false then 1 else if eN 2 2 d.body=false∧eN 5 5 d.body=false∧dR d.body=false∧cR d.needs=false∧cR d.give=false then 2 else 3
theorem info_of {d:Df} (hw:Whole d) (hp:pB d.body) (h:(opS CS.new d).flt=none) :
  opI CS.new d=⟨fL d,stD d,(opG CS.new d).decl.length,!eN 2 2 d.body && !dR d.body⟩∧stD d≤2048∧(opG CS.new d).decl.length≤16:=by
 obtain ⟨h1,h2,h3⟩:=iX h;have h8:=dZ h1;have hag:=(ff hw h8).good h1;have hsz:=hw.size;have hpk:(cK CS.new d.params).ki=(fun _=>0)∧(cK CS.new d.params).cells=0:=by
  unfold cK;rw [if_neg (by omega)];exact vN _ _
 have t1:(opT CS.new d).ki=fun _=>0:=by unfold opT;rw [bZ,hpk.1]
 have t2:(opT CS.new d).cells=cL d.needs:=by
  unfold opT;rw [aX _ _ _ hw.needs (by rw [hpk.2];omega) (by rw [hpk.2];omega),hpk.2];omega
 have c1:=sK d.needs;have c2:=vL d.body;have c3:=sK d.give;have b1:∀ j,(opB CS.new d).ki j=kB j d.body:=fun j=>by
  unfold opB;rw [eP j d.body _ hw.body hp (by rw [t1];exact Int.le_refl 0) (by rw [t1];show 0+(ah d.body:Int)≤1000000;omega),t1];show 0+(kB j d.body:Int)=_;omega
 have b2:(opB CS.new d).cells=cL d.needs+cB d.body:=by
  unfold opB;rw [cU d.body _ hw.body hp (by rw [t2];omega) (by rw [t2];omega),t2]
 have g1:∀ j,(opG CS.new d).ki j=kB j d.body:=fun j=>by
  unfold opG;rw [bZ,b1]
 have g2:(opG CS.new d).cells=cL d.needs+cB d.body+cL d.give:=by
  unfold opG;rw [aX _ _ _ hw.give (by rw [b2];omega) (by rw [b2];omega),b2]
 have k2:=nz 2 d.body;have k3:=nz 3 d.body;have k4:=nz 4 d.body;have k5:=nz 5 d.body;refine ⟨?_,h2,hag.2.2.2.2⟩;unfold opI;rw [h3];have o2:eN 2 2 d.body=decide (0 < kB 2 d.body):=nx 2 d.body;have o5:eN 5 5 d.body=decide (0 < kB 5 d.body):=nx 5 d.body;have hm:dO (opG CS.new d)=fL d:=by
  unfold dO fL;rw [g1,g1,g1,g1,g2,qR,o2,o5,nw,nt,nt];simp only [decide_eq_false_iff_not,Int.cast_ofNat_Int];rw [aK (n:=(kB 3 d.body:Int)+kB 4 d.body) (by omega) (by omega),aK (n:=(kB 2 d.body:Int)+kB 5 d.body) (by omega) (by omega),aK (by omega) (by omega)]
  repeat' split
  all_goals first | rfl | (exfalso;omega)
 have ht:((opG CS.new d).ki 2 == 0 && wrap64 ((opB CS.new d).cells - (opT CS.new d).cells) == 0)=(!eN 2 2 d.body && !dR d.body):=by
  rw [g1,b2,t2,o2,nw,aK (by omega) (by omega),Bool.eq_iff_iff];simp only [Bool.and_eq_true,beq_iff_eq,Bool.not_eq_true',decide_eq_false_iff_not];omega
 rw [hm,ht]
theorem EsV.elem {w:World} {B:Nat→Prop} {a:Option Addr} {n cap j:Nat} {xs:List E} (h:EsV w B (.slice a n cap) xs) (hj:j < n) :
  n=xs.length∧∃ gr k nn nm ys p a' c',a=some ⟨gr,0,none⟩∧xs[j]?=some (.mk k nn nm ys p)∧w.cell? ⟨gr,j*5,none⟩=some (.int .i64 k)∧w.cell? ⟨gr,j*5+1,none⟩=some (.int .i64 nn)∧
   w.cell? ⟨gr,j*5+2,none⟩=some (.string (ai nm))∧w.cell? ⟨gr,j*5+3,none⟩=some (.slice a' ys.length c')∧w.cell? ⟨gr,j*5+4,none⟩=some (.int .i64 p)∧EsV w B (.slice a' ys.length c') ys:=by
 obtain ⟨a0,cap0,hv,hc,hx⟩:=h;cases hv;obtain ⟨e,he⟩:∃ e,xs[j]?=some e:=⟨_,List.getElem?_eq_getElem hj⟩
 obtain ⟨gr,rfl,hgr,hes⟩:∃ gr,a=some ⟨gr,0,none⟩∧B gr∧EsAt w B gr 0 xs:=by
  rcases hx with hx | hx
  ·rw [hx] at he;simp at he
  ·exact hx
 obtain ⟨cs,hev,hcs⟩:=(EsAt.eso xs 0 0 rfl hes) j e he;obtain ⟨k,nn,nm,ys,p⟩:=e;unfold EV at hev;obtain ⟨a',cap',rfl,hc',hx'⟩:=hev;exact ⟨rfl,gr,k,nn,nm,ys,p,a',cap',rfl,he,by simpa using hcs 0 _ rfl,by simpa using hcs 1 _ rfl,by simpa using hcs 2 _ rfl,by simpa using hcs 3 _ rfl,by simpa using hcs 4 _ rfl,EsV.of_parts hc' hx'⟩
theorem SsV.elem {w:World} {B:Nat→Prop} {a:Option Addr} {n cap j:Nat} {xs:List St} (h:SsV w B (.slice a n cap) xs) (hj:j < n) :
  n=xs.length∧∃ gr k nm ys nn bd els p a0 c0 a1 c1 a2 c2,a=some ⟨gr,0,none⟩∧xs[j]?=some (.mk k nm ys nn bd els p)∧w.cell? ⟨gr,j*7,none⟩=some (.int .i64 k)∧w.cell? ⟨gr,j*7+1,none⟩=some (.string (ai nm))∧
   w.cell? ⟨gr,j*7+2,none⟩=some (.slice a0 ys.length c0)∧w.cell? ⟨gr,j*7+3,none⟩=some (.int .i64 nn)∧w.cell? ⟨gr,j*7+4,none⟩=some (.slice a1 bd.length c1)∧w.cell? ⟨gr,j*7+5,none⟩=some (.slice a2 els.length c2)∧w.cell? ⟨gr,j*7+6,none⟩=some (.int .i64 p)∧
   EsV w B (.slice a0 ys.length c0) ys∧SsV w B (.slice a1 bd.length c1) bd∧SsV w B (.slice a2 els.length c2) els:=by
 obtain ⟨a0,cap0,hv,hc,hx⟩:=h;cases hv;obtain ⟨e,he⟩:∃ e,xs[j]?=some e:=⟨_,List.getElem?_eq_getElem hj⟩
 obtain ⟨gr,rfl,hgr,hes⟩:∃ gr,a=some ⟨gr,0,none⟩∧B gr∧SsAt w B gr 0 xs:=by
  rcases hx with hx | hx
  ·rw [hx] at he;simp at he
  ·exact hx
 obtain ⟨cs,hev,hcs⟩:=SsAt.get xs 0 hes j e he;obtain ⟨k,nm,ys,nn,bd,els,p⟩:=e;unfold SV at hev;obtain ⟨va,a1,c1,a2,c2,rfl,⟨a0,c0,rfl,q1,q2⟩,⟨q3,q4⟩,⟨q5,q6⟩⟩:=hev;exact ⟨rfl,gr,k,nm,ys,nn,bd,els,p,a0,c0,a1,c1,a2,c2,rfl,he,by simpa using hcs 0 _ rfl,by simpa using hcs 1 _ rfl,by simpa using hcs 2 _ rfl,by simpa using hcs 3 _ rfl,by simpa using hcs 4 _ rfl,by simpa using hcs 5 _ rfl,by simpa using hcs 6 _ rfl,⟨a0,c0,rfl,q1,q2⟩,⟨a1,c1,rfl,q3,q4⟩,⟨a2,c2,rfl,q5,q6⟩⟩
theorem sM {xs:List E} {j:Nat} {e:E} (hj:xs[j]?=some e):cR (xs.drop j)=(sI e || cR (xs.drop (j+1))):=by
 obtain ⟨hlt,rfl⟩:=List.getElem?_eq_some_iff.1 hj;rw [List.drop_eq_getElem_cons hlt]
 conv=>lhs;unfold cR
theorem dF:∀ xs:List E,xs.length≤ak xs
 | []=>Nat.zero_le _
 | e :: es=>by
  have:=dF es;have:1≤aw e:=by cases e;rw [cy];omega
  rw [aB,List.length_cons];omega
def vO (N:Nat):Prop:=∀ (xs:List E),ak xs≤N→∀ (w:World) (v:Value) (B:Nat→Prop),EsV w B v xs→Calls Tryz.prog 65 #[v] w fun en w'=>en=.returned (.bool (cR xs))∧Only [] w w'
theorem sO (N:Nat) (hNN:N≤1000000) (IS:∀ M,M < N→vO M):vO N:=by
 intro xs hN w v B hv;obtain ⟨a,cap,rfl,-⟩:=id hv;have hlen:=dF xs;obtain ⟨n,hn⟩:∃ n,n=xs.length:=⟨_,rfl⟩
 rw [← hn] at hlen hv⊢;have HV:=Hd hv;have HN:=Hd hn;have hnb:n≤1000000:=by omega
 obtain ⟨R,hR⟩:∃ R,R=cR xs:=⟨_,rfl⟩
 rw [← hR];have HR:=Hd hR;clear hv hn hR
 go_enter Tryz.func65,Tryz.ntmps65
 go_wp2_with fail
 go_loopw [3] (fun ix wr=>∃ j:Nat,j≤n∧ix=.int .i64 (j:Int)∧Hid (R=cR (xs.drop j))∧Hid (Only [] w wr)) (fun ix _=>n - (intOf ix).toNat)
 case atStart=>exact ⟨0,Nat.zero_le _,rfl,Hd (by rw [HR.out,List.drop_zero]),Hd (Only.refl _ _)⟩
 case round=>
  obtain ⟨j,hjn,rfl,HT,HO⟩:=hrel
  by_cases hlt:j < n
  ·have hlt':(j:Int) < (n:Int):=by omega
   have j0:(0:Int)≤(j:Int):=by omega
   obtain ⟨-,gr,k,nn,nm,ys,p,a',c',rfl,he,x0,x1,x2,x3,x4,hv'⟩:=(HV.out.quiet HO.out).elem hlt;have hT1:=bu he;rw [cy] at hT1;have hT:=HT.out;rw [sM he] at hT;have hce:sI (.mk k nn nm ys p)=(decide (k=3) || cR ys):=by conv=>lhs;unfold sI
   rw [hce] at hT;obtain ⟨L,hL⟩:∃ L,L=ys.length:=⟨_,rfl⟩
   rw [← hL] at x3 hv';have K1:=IS _ (show ak ys < N by omega) ys (Nat.le_refl _) wr _ B hv';have HT2:=Hd hT;obtain ⟨b,hb⟩:∃ b,b=cR ys:=⟨_,rfl⟩
   rw [← hb] at K1 HT2;have HB:=Hd hb;clear he hT hce hL hv' hb hT1 hlen hN x1 x2 x4
   by_cases h3:k=3
   ·subst h3;have hR2:R=true:=by have:=HT2.out;simpa using this
    have HR2:=Hd hR2;clear K1 hR2;(go_wp2_with fail);go_ret;exact ⟨by rw [HR2.out];rfl,HO.out⟩
   ·have h3':(k == 3)=false:=by simpa using h3
    have hR2:R=(b || cR (xs.drop (j+1))):=by have:=HT2.out;simpa [h3] using this
    have HR2:=Hd hR2;clear hR2 h3;(go_wp2_with fail);refine K1.mono ?_;rintro en w6 ⟨rfl,ho6⟩;have HO6:=Hd (HO.out.trans ho6 (by simp));clear ho6 K1 x0 x3;cases b
    ·(go_wp2_with fail);go_roundw
     case rel=>exact ⟨j+1,by omega,by go_num,Hd (by rw [HR2.out];simp),HO6⟩
     case measure=>simp [intOf];omega
    ·(go_wp2_with fail);go_ret;exact ⟨by rw [HR2.out];rfl,HO6.out⟩
  ·obtain rfl:j=n:=by omega
   have hT:R=false:=by rw [HT.out,HN.out,List.drop_length];unfold cR;rfl
   have HTT:=Hd hT;clear hT;(go_wp2_with fail);go_ret;rw [HTT.out];exact ⟨rfl,HO.out⟩
theorem jK (N:Nat) (hN:N≤1000000):vO N:=by
 induction N using Nat.strongRecOn with
 | _ N ih=>exact sO N hN (fun M hM=>ih M hM (by omega))
theorem sR {xs:List St} {j:Nat} {e:St} (hj:xs[j]?=some e):dR (xs.drop j)=(sJ e || dR (xs.drop (j+1))):=by
 obtain ⟨hlt,rfl⟩:=List.getElem?_eq_some_iff.1 hj;rw [List.drop_eq_getElem_cons hlt]
 conv=>lhs;unfold dR
theorem vP {a b:Int} {xs:List St} {j:Nat} {e:St} (hj:xs[j]?=some e):eN a b (xs.drop j)=(hasS a b e || eN a b (xs.drop (j+1))):=by
 obtain ⟨hlt,rfl⟩:=List.getElem?_eq_some_iff.1 hj;rw [List.drop_eq_getElem_cons hlt]
 conv=>lhs;unfold eN
def vQ (N:Nat):Prop:=∀ (xs:List St),ah xs≤N→∀ (w:World) (v:Value) (B:Nat→Prop),SsV w B v xs→Calls Tryz.prog 64 #[v] w fun en w'=>en=.returned (.bool (dR xs))∧Only [] w w'
theorem sS (N:Nat) (hNN:N≤1000000) (IS:∀ M,M < N→vQ M):vQ N:=by
 intro xs hN w v B hv;obtain ⟨a,cap,rfl,-⟩:=id hv;have hlen:=bg xs;obtain ⟨n,hn⟩:∃ n,n=xs.length:=⟨_,rfl⟩
 rw [← hn] at hlen hv⊢;have HV:=Hd hv;have HN:=Hd hn;have hnb:n≤1000000:=by omega
 obtain ⟨R,hR⟩:∃ R,R=dR xs:=⟨_,rfl⟩
 rw [← hR];have HR:=Hd hR;clear hv hn hR
 go_enter Tryz.func64,Tryz.ntmps64
 go_wp2_with fail
 go_loopw [3] (fun ix wr=>∃ j:Nat,j≤n∧ix=.int .i64 (j:Int)∧Hid (R=dR (xs.drop j))∧Hid (Only [] w wr)) (fun ix _=>n - (intOf ix).toNat)
 case atStart=>exact ⟨0,Nat.zero_le _,rfl,Hd (by rw [HR.out,List.drop_zero]),Hd (Only.refl _ _)⟩
 case round=>
  obtain ⟨j,hjn,rfl,HT,HO⟩:=hrel
  by_cases hlt:j < n
  ·have hlt':(j:Int) < (n:Int):=by omega
   have j0:(0:Int)≤(j:Int):=by omega
   obtain ⟨-,gr,k,nm,ys,nn,bd,els,p,a0,c0,a1,c1,a2,c2,rfl,he,x0,x1,x2,x3,x4,x5,x6,hv0,hv1,hv2⟩:=(HV.out.quiet HO.out).elem hlt;have hT1:=bn he;rw [b8] at hT1;have hT:=HT.out;rw [sR he] at hT;have hce:sJ (.mk k nm ys nn bd els p)=(cR ys || (dR bd || dR els)):=by conv=>lhs;unfold sJ
   rw [hce] at hT;have K1:=jK 1000000 (Nat.le_refl _) ys (by omega) wr _ B hv0;have I1:=IS _ (show ah bd < N by omega) bd (Nat.le_refl _);have I2:=IS _ (show ah els < N by omega) els (Nat.le_refl _);obtain ⟨L0,hL0⟩:∃ L,L=ys.length:=⟨_,rfl⟩
   obtain ⟨L1,hL1⟩:∃ L,L=bd.length:=⟨_,rfl⟩
   obtain ⟨L2,hL2⟩:∃ L,L=els.length:=⟨_,rfl⟩
   rw [← hL0] at x2 K1;rw [← hL1] at x4 hv1;rw [← hL2] at x5 hv2;have HV1:=Hd hv1;have HV2:=Hd hv2;obtain ⟨b0,hb0⟩:∃ b,b=cR ys:=⟨_,rfl⟩
   obtain ⟨b1,hb1⟩:∃ b,b=dR bd:=⟨_,rfl⟩
   obtain ⟨b2,hb2⟩:∃ b,b=dR els:=⟨_,rfl⟩
   rw [← hb0] at K1;rw [← hb0,← hb1,← hb2] at hT;have HB:=Hd (And.intro hb1 hb2);have HT2:=Hd hT;have HI1:=Hd I1;have HI2:=Hd I2;clear he hT hce hL0 hL1 hL2 hv0 hv1 hv2 hb0 hb1 hb2 hT1 hlen hN x0 x1 x3 x6 I1 I2;(go_wp2_with fail);refine K1.mono ?_;rintro en w6 ⟨rfl,ho6⟩;have HO6:=Hd (HO.out.trans ho6 (by simp));cases b0
   ·have K2:=HI1.out w6 _ B (HV1.out.quiet ho6);have x4':=ae ho6 x4 (by simp);have x5':=ae ho6 x5 (by simp);replace HV2:=Hd (HV2.out.quiet ho6);rw [← HB.out.1] at K2;clear ho6 K1 x2 x4 x5;(go_wp2_with fail);refine K2.mono ?_;rintro en w7 ⟨rfl,ho7⟩;have HO7:=Hd (HO6.out.trans ho7 (by simp));cases b1
    ·have K3:=HI2.out w7 _ B (HV2.out.quiet ho7);have x5'':=ae ho7 x5' (by simp);rw [← HB.out.2] at K3;clear ho7 K2 x4' x5';(go_wp2_with fail);refine K3.mono ?_;rintro en w8 ⟨rfl,ho8⟩;have HO8:=Hd (HO7.out.trans ho8 (by simp));clear ho8 K3 x5'';cases b2
     ·(go_wp2_with fail);go_roundw
      case rel=>exact ⟨j+1,by omega,by go_num,Hd (by rw [HT2.out];simp),HO8⟩
      case measure=>simp [intOf];omega
     ·(go_wp2_with fail);go_ret;exact ⟨by rw [HT2.out];simp,HO8.out⟩
    ·clear ho7 K2 x4' x5';(go_wp2_with fail);go_ret;exact ⟨by rw [HT2.out];simp,HO7.out⟩
   ·clear ho6 K1 x2 x4 x5;(go_wp2_with fail);go_ret;exact ⟨by rw [HT2.out];simp,HO6.out⟩
  ·obtain rfl:j=n:=by omega
   have hT:R=false:=by rw [HT.out,HN.out,List.drop_length];unfold dR;rfl
   have HTT:=Hd hT;clear hT;(go_wp2_with fail);go_ret;rw [HTT.out];exact ⟨rfl,HO.out⟩
theorem vR (N:Nat) (hN:N≤1000000):vQ N:=by
 induction N using Nat.strongRecOn with
 | _ N ih=>exact sS N hN (fun M hM=>ih M hM (by omega))
def CHasP (x y:Int) (N:Nat):Prop:=∀ (xs:List St),ah xs≤N→∀ (w:World) (v:Value) (B:Nat→Prop),SsV w B v xs→Calls Tryz.prog 63 #[v,.int .i64 x,.int .i64 y] w fun en w'=>en=.returned (.bool (eN x y xs))∧Only [] w w'
theorem vS (x y:Int) (N:Nat) (hNN:N≤1000000) (IS:∀ M,M < N→CHasP x y M):CHasP x y N:=by
 intro xs hN w v B hv;obtain ⟨a,cap,rfl,-⟩:=id hv;have hlen:=bg xs;obtain ⟨n,hn⟩:∃ n,n=xs.length:=⟨_,rfl⟩
 rw [← hn] at hlen hv⊢;have HV:=Hd hv;have HN:=Hd hn;have hnb:n≤1000000:=by omega
 obtain ⟨R,hR⟩:∃ R,R=eN x y xs:=⟨_,rfl⟩
 rw [← hR];have HR:=Hd hR;clear hv hn hR
 go_enter Tryz.func63,Tryz.ntmps63
 go_wp2_with fail
 go_loopw [7] (fun ix wr=>∃ j:Nat,j≤n∧ix=.int .i64 (j:Int)∧Hid (R=eN x y (xs.drop j))∧Hid (Only [] w wr)) (fun ix _=>n - (intOf ix).toNat)
 case atStart=>exact ⟨0,Nat.zero_le _,rfl,Hd (by rw [HR.out,List.drop_zero]),Hd (Only.refl _ _)⟩
 case round=>
  obtain ⟨j,hjn,rfl,HT,HO⟩:=hrel
  by_cases hlt:j < n
  ·have hlt':(j:Int) < (n:Int):=by omega
   have j0:(0:Int)≤(j:Int):=by omega
   obtain ⟨-,gr,k,nm,ys,nn,bd,els,p,a0,c0,a1,c1,a2,c2,rfl,he,x0,x1,x2,x3,x4,x5,x6,hv0,hv1,hv2⟩:=(HV.out.quiet HO.out).elem hlt;have hT1:=bn he;rw [b8] at hT1;have hT:=HT.out;rw [vP he] at hT;have hce:hasS x y (.mk k nm ys nn bd els p)=((decide (x≤k) && decide (k≤y)) || (eN x y bd || eN x y els)):=by conv=>lhs;unfold hasS
   rw [hce] at hT;have I1:=IS _ (show ah bd < N by omega) bd (Nat.le_refl _);have I2:=IS _ (show ah els < N by omega) els (Nat.le_refl _);obtain ⟨L1,hL1⟩:∃ L,L=bd.length:=⟨_,rfl⟩
   obtain ⟨L2,hL2⟩:∃ L,L=els.length:=⟨_,rfl⟩
   rw [← hL1] at x4 hv1;rw [← hL2] at x5 hv2;have HV1:=Hd hv1;have HV2:=Hd hv2;obtain ⟨b1,hb1⟩:∃ b,b=eN x y bd:=⟨_,rfl⟩
   obtain ⟨b2,hb2⟩:∃ b,b=eN x y els:=⟨_,rfl⟩
   rw [← hb1,← hb2] at hT;have HB:=Hd (And.intro hb1 hb2);have HI1:=Hd I1;have HI2:=Hd I2;clear he hce hL1 hL2 hv0 hv1 hv2 hb1 hb2 hT1 hlen hN x1 x2 x3 x6 I1 I2
   by_cases g1:x≤k
   ·by_cases g2:k≤y
    ·have HT2:=Hd hT;have hR2:R=true:=by have:=HT2.out;simpa [g1,g2] using this
     have HR2:=Hd hR2;clear hR2 hT;(go_wp2_with fail);go_ret;exact ⟨by rw [HR2.out];rfl,HO.out⟩
    ·have hT':R=((b1 || b2) || eN x y (xs.drop (j+1))):=by simpa [g1,g2] using hT
     have HT2:=Hd hT';clear hT' hT;have K2:=HI1.out wr _ B HV1.out;rw [← HB.out.1] at K2;(go_wp2_with fail);refine K2.mono ?_;rintro en w7 ⟨rfl,ho7⟩;have HO7:=Hd (HO.out.trans ho7 (by simp));cases b1
     ·have K3:=HI2.out w7 _ B (HV2.out.quiet ho7);have x5'':=ae ho7 x5 (by simp);rw [← HB.out.2] at K3;clear ho7 K2 x4 x5;(go_wp2_with fail);refine K3.mono ?_;rintro en w8 ⟨rfl,ho8⟩;have HO8:=Hd (HO7.out.trans ho8 (by simp));clear ho8 K3 x5'';cases b2
      ·(go_wp2_with fail);go_roundw
       case rel=>exact ⟨j+1,by omega,by go_num,Hd (by rw [HT2.out];simp),HO8⟩
       case measure=>simp [intOf];omega
      ·(go_wp2_with fail);go_ret;exact ⟨by rw [HT2.out];simp,HO8.out⟩
     ·clear ho7 K2 x4 x5;(go_wp2_with fail);go_ret;exact ⟨by rw [HT2.out];simp,HO7.out⟩
   ·have hT':R=((b1 || b2) || eN x y (xs.drop (j+1))):=by simpa [g1] using hT
    have HT2:=Hd hT';clear hT' hT;have K2:=HI1.out wr _ B HV1.out;rw [← HB.out.1] at K2;(go_wp2_with fail);refine K2.mono ?_;rintro en w7 ⟨rfl,ho7⟩;have HO7:=Hd (HO.out.trans ho7 (by simp));cases b1
    ·have K3:=HI2.out w7 _ B (HV2.out.quiet ho7);have x5'':=ae ho7 x5 (by simp);rw [← HB.out.2] at K3;clear ho7 K2 x4 x5;(go_wp2_with fail);refine K3.mono ?_;rintro en w8 ⟨rfl,ho8⟩;have HO8:=Hd (HO7.out.trans ho8 (by simp));clear ho8 K3 x5'';cases b2
     ·(go_wp2_with fail);go_roundw
      case rel=>exact ⟨j+1,by omega,by go_num,Hd (by rw [HT2.out];simp),HO8⟩
      case measure=>simp [intOf];omega
     ·(go_wp2_with fail);go_ret;exact ⟨by rw [HT2.out];simp,HO8.out⟩
    ·clear ho7 K2 x4 x5;(go_wp2_with fail);go_ret;exact ⟨by rw [HT2.out];simp,HO7.out⟩
  ·obtain rfl:j=n:=by omega
   have hT:R=false:=by rw [HT.out,HN.out,List.drop_length];unfold eN;rfl
   have HTT:=Hd hT;clear hT;(go_wp2_with fail);go_ret;rw [HTT.out];exact ⟨rfl,HO.out⟩
theorem mr (x y:Int) (N:Nat) (hN:N≤1000000):CHasP x y N:=by
 induction N using Nat.strongRecOn with
 | _ N ih=>exact vS x y N hN (fun M hM=>ih M hM (by omega))
end Go.Proofs.YtheanmadognhbaaGreatDoor
