import Derived.Test.YtcebchffcmpfeaaGreatZat
import Derived.Test.YtcebchffcmpfeaaGreatQat
namespace Go.Proofs.YtcebchffcmpfeaaGreat
set_option linter.unusedVariables false
set_option linter.unusedSimpArgs false
open Go.RowKit Go.Maps
mutual
def gE:E→Prop | .mk _ n _ xs _=>n64 n∧gL xs
def gL:List E→Prop | []=>True | x :: xs=>gE x∧gL xs
end
mutual
def gS:St→Prop | .mk _ nm xs _ bd els _=>nm∉kws∧gL xs∧gB bd∧gB els
def gB:List St→Prop | []=>True | x :: xs=>gS x∧gB xs
end
theorem jH:gL []:=by unfold gL;trivial
theorem jI {e:E} (h:gE e):gL [e]:=by unfold gL;exact ⟨h,jH⟩
theorem vT {e f:E} (h:gE e) (h2:gE f):gL [e,f]:=by unfold gL;exact ⟨h,jI h2⟩
theorem ft:gB []:=by unfold gB;trivial
theorem s9 {k n:Int} {nm:Sec} {xs:List E} {p:Int} (h1:n64 n) (h2:gL xs):gE (.mk k n nm xs p):=by unfold gE;exact ⟨h1,h2⟩
theorem td {k:Int} {nm:Sec} {xs:List E} {n:Int} {bd els:List St} {p:Int} (h1:nm∉kws) (h2:gL xs) (h3:gB bd) (h4:gB els):gS (.mk k nm xs n bd els p):=by unfold gS;exact ⟨h1,h2,h3,h4⟩
theorem numW_n64 (l:Sec):n64 (kz l):=by
 have h:∀ (l:Sec) (acc:Int),n64 acc→n64 (l.foldl (fun n c=>wrap64 (wrap64 (10*n)+((c.toNat:Int) - 48) % 256)) acc):=by
  intro l
  induction l with
  | nil=>intro acc h;exact h
  | cons c l ih=>intro acc _;exact ih _ (gj _)
 exact h l 0 a7
theorem me:([]:Sec)∉kws:=by decide
section
variable {ts:List Tok}
theorem ny:∀ f:Nat,
  (∀ i least dp e a,cT ts f i least dp=.ok (e,a)→gE e)∧(∀ l i least most dp e a,gE l→dl ts f l i least most dp=.ok (e,a)→gE e)∧
  (∀ i dp e a,bL ts f i dp=.ok (e,a)→gE e)∧(∀ i dp b c e a,aO ts f i dp b c=.ok (e,a)→gE e):=by
 intro f
 induction f with
 | zero=>
  refine ⟨fun i _ _ e a h=>?_,fun _ i _ _ _ e a _ h=>?_,fun i _ e a h=>?_,fun i _ _ _ e a h=>?_⟩
  ·unfold cT at h;cases h
  ·unfold dl at h;cases h
  ·unfold bL at h;cases h
  ·unfold aO at h;cases h
 | succ f ih=>
  obtain ⟨ih1,ih2,ih3,ih4⟩:=ih;refine ⟨fun i least dp e a h=>?_,fun l i least most dp e a hl h=>?_,fun i dp e a h=>?_,fun i dp b c e a h=>?_⟩
  ·unfold cT at h;split at h
   ·cases h
   ·rename_i l b hs;exact ih2 _ _ _ _ _ _ _ (ih3 _ _ _ _ hs) h
  ·unfold dl at h;split at h
   ·rename_i hc;split at h
    ·cases h
    ·rename_i r b hs;exact ih2 _ _ _ _ _ _ _ (s9 a7 (vT hl (ih1 _ _ _ _ _ hs))) h
   ·cases h;exact hl
  ·unfold bL at h;split at h
   ·split at h
    ·cases h
    ·split at h
     ·cases h
     ·rename_i e' b hs;cases h;exact s9 a7 (jI (ih3 _ _ _ _ hs))
   ·split at h
    ·split at h
     ·cases h
     ·rename_i e' b hs;cases h;exact s9 a7 (jI (ih4 _ _ _ _ _ _ hs))
    ·split at h
     ·exact ih4 _ _ _ _ _ _ h
     ·split at h
      ·cases h;exact s9 (numW_n64 _) jH
      ·split at h
       ·cases h;exact s9 a7 jH
       ·split at h
        ·cases h
        ·cases h;exact s9 a7 jH
  ·unfold aO at h;split at h
   ·cases h
   ·split at h
    ·split at h
     ·cases h
     ·rename_i e' b' hs;split at h
      ·cases h
      ·cases h;exact ih1 _ _ _ _ _ hs
    ·cases h
theorem cL {i dp a:Nat} {e:E} (h:br ts i dp=.ok (e,a)):gE e:=(ny _).1 _ _ _ _ _ h
theorem iF {i dp a:Nat} {e:E} (h:bP ts i dp=.ok (e,a)):gE e:=(ny _).2.2.2 _ _ _ _ _ _ h
theorem go {i a:Nat} {s:Sec} (h:bp ts i=.ok (s,a)):s∉kws:=by
 unfold bp at h;split at h<;>cases h
 rename_i hk;exact hk.2
theorem vU {i dp a:Nat} {s:St} (h:dE ts i dp=.ok (s,a)):gS s:=by
 unfold dE at h;split at h
 ·cases h
 ·rename_i l b hl;have g1:=iF hl;split at h
  ·split at h
   ·cases h
   ·rename_i r c hr;have g2:=cL hr;split at h<;>cases h
    exact td me (vT g1 g2) ft ft
  ·split at h
   ·split at h
    ·cases h
    ·rename_i r c hr;have g2:=iF hr;split at h<;>cases h
     exact td me (vT g1 g2) ft ft
   ·cases h
theorem good_let {i dp a:Nat} {s:St} (h:pw ts i dp=.ok (s,a)):gS s:=by
 unfold pw at h;split at h
 ·cases h
 ·rename_i nm b hw;split at h
  ·cases h
  ·split at h
   ·cases h
   ·rename_i e c he;split at h<;>cases h
    exact td (go hw) (jI (cL he)) ft ft
theorem good_for {i a:Nat} {s:Sec} {n:Int} (h:forR ts i=.ok ((s,n),a)):s∉kws:=by
 unfold forR at h;split at h
 ·cases h
 ·rename_i nm b hw;split at h
  ·cases h
  ·split at h
   ·cases h
   ·split at h
    ·cases h
    ·split at h
     ·cases h
     ·cases h;exact go hw
theorem vV:∀ f:Nat,(∀ i dp s a,bm ts f i dp=.ok (s,a)→gS s)∧(∀ i dp l a,aX ts f i dp=.ok (l,a)→gB l)∧(∀ i dp l a,aR ts f i dp=.ok (l,a)→gB l):=by
 intro f
 induction f with
 | zero=>
  refine ⟨fun i _ e a h=>?_,fun i _ e a h=>?_,fun i _ e a h=>?_⟩
  ·unfold bm at h;cases h
  ·unfold aX at h;cases h
  ·unfold aR at h;cases h
 | succ f ih=>
  obtain ⟨ih1,ih2,ih3⟩:=ih;refine ⟨fun i dp s a h=>?_,fun i dp l a h=>?_,fun i dp l a h=>?_⟩
  ·unfold bm at h;split at h
   ·exact vU h
   ·split at h
    ·exact good_let h
    ·split at h
     ·split at h
      ·cases h
      ·rename_i e b0 he;split at h
       ·cases h
       ·rename_i bd c hb;split at h
        ·split at h
         ·cases h
         ·rename_i els d hd;cases h;exact td me (jI (cL he)) (ih2 _ _ _ _ hb) (ih2 _ _ _ _ hd)
        ·cases h;exact td me (jI (cL he)) (ih2 _ _ _ _ hb) ft
     ·split at h
      ·split at h
       ·cases h
       ·rename_i x c hf;obtain ⟨s0,n0⟩:=x;split at h
        ·cases h
        ·rename_i bd c hb;cases h;exact td (good_for hf) jH (ih2 _ _ _ _ hb) ft
      ·cases h
  ·unfold aX at h;split at h
   ·cases h
   ·split at h
    ·split at h
     ·cases h
     ·rename_i l' b hs;split at h<;>cases h
      exact ih3 _ _ _ _ hs
    ·cases h
  ·unfold aR at h;split at h
   ·cases h;exact ft
   ·split at h
    ·cases h
    ·rename_i s b hs;split at h
     ·cases h
     ·rename_i l' c hl;cases h;unfold gB;exact ⟨ih1 _ _ _ _ hs,ih3 _ _ _ _ hl⟩
theorem vW:∀ f i l a,bM ts f i=.ok (l,a)→gB l:=by
 intro f
 induction f with
 | zero=>intro i l a h;unfold bM at h;cases h
 | succ f ih=>
  intro i l a h;unfold bM at h;split at h
  ·cases h;exact ft
  ·split at h
   ·cases h
   ·rename_i s b hs;split at h
    ·cases h
    ·rename_i l' d hl;cases h;unfold gB;exact ⟨(vV _).1 _ _ _ _ hs,ih _ _ _ hl⟩
theorem qh:∀ f i l a,aS ts f i=.ok (l,a)→∀ nm∈l,nm∉kws:=by
 intro f
 induction f with
 | zero=>intro i l a h;unfold aS at h;cases h
 | succ f ih=>
  intro i l a h;unfold aS at h;split at h
  ·cases h
  ·rename_i s b hw;split at h
   ·split at h
    ·cases h
    ·rename_i l' c hl;cases h;intro nm hm;rcases List.mem_cons.1 hm with rfl | hm
     ·exact go hw
     ·exact ih _ _ _ hl nm hm
   ·cases h;intro nm hm;rw [List.mem_singleton.1 hm];exact go hw
theorem te:∀ f i l a,bo ts f i=.ok (l,a)→gL l:=by
 intro f
 induction f with
 | zero=>intro i l a h;unfold bo at h;cases h
 | succ f ih=>
  intro i l a h;unfold bo at h;split at h
  ·split at h
   ·cases h
   ·rename_i e b he;split at h
    ·cases h
    ·split at h
     ·cases h
     ·rename_i l' d hl;cases h;unfold gL;exact ⟨cL he,ih _ _ _ hl⟩
  ·cases h;exact jH
theorem vX {i a:Nat} {l:List E} (h:fk ts i=.ok (l,a)):gL l:=by
 unfold fk at h;split at h
 ·split at h
  ·cases h
  ·rename_i e b he;split at h
   ·cases h
   ·cases h;exact jI (cL he)
 ·cases h;exact jH
structure Good (d:Df):Prop where
 params:∀ nm∈d.params,nm∉kws
 needs:gL d.needs
 body:gB d.body
 give:gL d.give
theorem good_def {d:Df} {a:Nat} (h:oV ts=.ok (d,a)):Good d:=by
 unfold oV at h;split at h
 ·cases h
 ·rename_i hd a1 hh;split at h
  ·cases h
  ·rename_i ns a2 h2;split at h
   ·cases h
   ·rename_i b a3 h3;split at h
    ·cases h
    ·rename_i g a4 h4;split at h
     ·cases h
     ·cases h;refine ⟨?_,te _ _ _ _ h2,vW _ _ _ _ h3,vX h4⟩;unfold uF at hh;split at hh
      ·cases hh
      ·split at hh
       ·cases hh
       ·split at hh
        ·cases hh
        ·split at hh
         ·cases hh
         ·rename_i ps c hps;split at hh
          ·cases hh
          ·split at hh
           ·cases hh
           ·cases hh;unfold cU at hps;split at hps
            ·cases hps;exact fun nm hm=>absurd hm (by simp)
            ·exact qh _ _ _ _ hps
end
theorem tf {l:Sec} {d:Df} (h:cq l=.ok d):Good d:=by
 unfold cq at h;split at h
 ·cases h
 ·split at h
  ·cases h
  ·split at h
   ·cases h
   ·rename_i d' hp;cases h;unfold fV at hp;split at hp
    ·cases hp
    ·rename_i d2 a hd;split at hp
     ·cases hp;exact good_def hd
     ·cases hp
abbrev Nms:=Sec→Option Int
structure PS where
 c:List Int
 m:Nms
def gU (c:List Int) (i:Int):Int:=if 0≤i∧i < 60 then c.getD i.toNat 0 else 0
def nmV (m:Nms) (nm:Sec):Int:=if nm=[116,114,117,101] then 1 else if nm=[102,97,108,115,101] then 0 else (m nm).getD 0
def exO (c:List Int) (m:Nms) (k n:Int) (nm:Sec) (vs:List Int):Int:=
 if k=2 then nmV m nm else if k=3 then gU c (vs.getD 0 0) else if k=4 then tr (vs.getD 0 0=0) else if k=5 then wrap64 (-(vs.getD 0 0))
 else if k=6 then opV nm (vs.getD 0 0) (vs.getD 1 0) else n
mutual
def exV (c:List Int) (m:Nms):E→Int | .mk k n nm xs _=>exO c m k n nm (tX c m xs)
def tX (c:List Int) (m:Nms):List E→List Int | []=>[] | x :: xs=>exV c m x :: tX c m xs
end
abbrev inC (i:Int):Prop:=0≤i∧i < 60
def tY (k:Int) (c:List Int) (i v:Int):List Int:=
 if inC i then (if k=2 then c.set i.toNat v else if k=3 then c.set i.toNat (wrap64 (gU c i+v)) else if k=4 then c.set i.toNat (wrap64 (gU c i - v)) else c) else c
def swpC (c:List Int) (i j:Int):List Int:=if inC i∧inC j then (c.set i.toNat (gU c j)).set j.toNat (gU c i) else c
abbrev VE:=List (Sec×Int)
def bJ:VE→Nms
 | [],_=>none
 | x :: l,z=>match bJ l z with | some v=>some v | none=>if z=x.1 then some x.2 else none
theorem ld:∀ (l:VE) (k:Sec) (v:Int),bJ (l++[(k,v)])=dk (bJ l) k v
 | [],k,v=>by
  funext z;show (match bJ [] z with | some v=>some v | none=>if z=k then some v else none)=_;rfl
 | x :: l,k,v=>by
  funext z;have ih:=congrFun (ld l k v) z;show (match bJ (l++[(k,v)]) z with | some v=>some v | none=>if z=x.1 then some x.2 else none)=_;rw [ih];unfold dk
  by_cases h:z=k
  ·rw [if_pos h,if_pos h]
  ·rw [if_neg h,if_neg h];rfl
structure CW (c:List Int):Prop where
 len:c.length=60
 in_:∀ z∈c,n64 z
def NW (m:Nms):Prop:=∀ z v,m z=some v→n64 v
theorem CW.get {c:List Int} (h:CW c) (i:Int):n64 (gU c i):=by
 unfold gU;split
 ·rename_i hi;have hl:i.toNat < c.length:=by rw [h.len];omega
  rw [List.getD_eq_getElem?_getD,List.getElem?_eq_getElem hl];exact h.in_ _ (List.getElem_mem hl)
 ·exact a7
theorem CW.set {c:List Int} (h:CW c) (i:Nat) {v:Int} (hv:n64 v):CW (c.set i v):=
 ⟨by rw [List.length_set];exact h.len,fun z hz=>by
  rcases List.mem_or_eq_of_mem_set hz with hz | rfl
  ·exact h.in_ z hz
  ·exact hv⟩
theorem NW.put {m:Nms} (h:NW m) (k:Sec) {v:Int} (hv:n64 v):NW (dk m k v):=fun z u hz=>by
 unfold dk at hz;split at hz
 ·cases hz;exact hv
 ·exact h z u hz
theorem tr_n64 (p:Prop) [Decidable p]:n64 (tr p):=by
 unfold tr;split
 ·exact vJ
 ·exact a7
theorem n64_ite {p:Prop} [Decidable p] {a b:Int} (h1:n64 a) (h2:n64 b):n64 (if p then a else b):=by
 split
 ·exact h1
 ·exact h2
theorem vY (nm:Sec) (a b:Int):n64 (opV nm a b):=by
 unfold opV
 repeat' (first | exact gj _ | exact tr_n64 _ | exact a7 | refine n64_ite ?_ ?_)
theorem nmV_n64 {m:Nms} (h:NW m) (nm:Sec):n64 (nmV m nm):=by
 unfold nmV;split
 ·exact vJ
 ·split
  ·exact a7
  ·cases hm:m nm with
   | none=>exact a7
   | some v=>exact h nm v hm
theorem exO_n64 {c:List Int} {m:Nms} (hc:CW c) (hm:NW m) (k:Int) {n:Int} (hn:n64 n) (nm:Sec) (vs:List Int):n64 (exO c m k n nm vs):=by
 unfold exO;split
 ·exact nmV_n64 hm _
 ·split
  ·exact hc.get _
  ·split
   ·exact tr_n64 _
   ·split
    ·exact gj _
    ·split
     ·exact vY _ _ _
     ·exact hn
theorem qi {c:List Int} {m:Nms} (hc:CW c) (hm:NW m):∀ e:E,gE e→n64 (exV c m e)
 | .mk k n nm xs p,h=>by
  unfold gE at h;unfold exV;exact exO_n64 hc hm k h.1 nm _
def SW (s:PS):Prop:=CW s.c∧NW s.m
theorem vZ {m:Nms} {nm z:Sec} {v:Int} (h:z≠nm):dk m nm v z=m z:=by
 unfold dk;rw [if_neg h]
theorem tg {r:RS} {c p:Int} (h:(r.fail c p).code=0):r.code=0:=by
 unfold RS.fail at h;split at h
 ·assumption
 ·exact h
theorem il {r:RS} {c p:Int} (hc:c≠0):(r.fail c p).code≠0:=by
 unfold RS.fail;split
 ·exact hc
 ·assumption
theorem aW {r r':RS} (h:∀ x,r.bad x→r'.bad x) (h0:r'.code=0):r.code=0:=by
 apply Classical.byContradiction;intro hc;have:=h (r.code,r.at_) ⟨rfl,rfl,hc⟩;exact hc (this.1.symm.trans h0)
theorem wj {xs:List E} {r:RS} {k:Int} {nm:Sec} {env:Env} {ts:List Int} (h:(cw r k nm xs env ts).code=0):r.code=0:=aW (fun x hx=>RS.bad.args xs r x k nm env ts hx) h
theorem jJ (r:RS) (c p:Int):(r.fail c p).decl=r.decl:=by unfold RS.fail;split<;>rfl
theorem wk (r:RS) (k:Int) (nm:Sec) (p:Int) (env:Env):(l7 r k nm p env).2.decl=r.decl:=by
 unfold l7
 repeat' split
 all_goals first | rfl | exact jJ _ _ _
mutual
theorem dM:∀ (e:E) (r:RS) (env:Env),(bq r e env).2.decl=r.decl
 | .mk k n nm xs p,r,env=>by
  unfold bq;rw [wk,lh]
theorem lh:∀ (xs:List E) (r:RS) (k:Int) (nm:Sec) (env:Env) (ts:List Int),(cw r k nm xs env ts).decl=r.decl
 | [],r,k,nm,env,ts=>by unfold cw;rfl
 | e :: es,r,k,nm,env,ts=>by
  unfold cw;rw [lh];split
  ·rw [jJ,dM]
  ·rw [dM]
end
theorem eR (r:RS) (e:E) (want:Int) (env:Env):(bR r e want env).decl=r.decl:=by
 unfold bR;split
 ·rw [jJ,dM]
 ·rw [dM]
def SameN (env:Env) (m m':Nms):Prop:=∀ z,(bO env z).isSome=true→m z=m' z
theorem wl {r:RS} {e:E} {want:Int} {env:Env} (h:(bR r e want env).code=0):(bq r e env).2.code=0∧r.code=0:=by
 have h1:(bq r e env).2.code=0:=by
  unfold bR at h;split at h
  ·exact tg h
  ·exact h
 exact ⟨h1,aW (fun x hx=>RS.bad.kind e r x env hx) h1⟩
theorem bB {r:RS} {nm:Sec} {p:Int} (h:(r.declare nm p).code=0):r.code=0∧nm∉r.decl∧(r.declare nm p).decl=r.decl++[nm]:=by
 unfold RS.declare at h⊢;split at h
 ·exact absurd h (il (by decide))
 ·rename_i h1;split at h
  ·exact absurd h (il (by decide))
  ·rename_i h2;rw [if_neg h1,if_neg h2];exact ⟨h,h1,rfl⟩
def Know (r:RS) (env:Env):Prop:=∀ z,(bO env z).isSome=true→z∈r.decl
theorem eT {env:Env} {nm:Sec} {t:Int} {z:Sec} (h:(bO (env++[(nm,t)]) z).isSome=true):(bO env z).isSome=true∨z=nm:=by
 rw [dL] at h;cases hl:bO env z with
 | some t=>exact .inl rfl
 | none=>
  rw [hl] at h;refine .inr ?_;apply Classical.byContradiction;intro hn;have h':(bO [(nm,t)] z).isSome=true:=h;rw [dK,if_neg (fun e=>hn e.symm)] at h';cases h'
theorem Know.sub {r r':RS} {env:Env} (h:Know r env) (hd:∀ z∈r.decl,z∈r'.decl):Know r' env:=fun z hz=>hd z (h z hz)
theorem Know.snoc {r r':RS} {env:Env} {nm:Sec} {t:Int} (h:Know r env) (hd:r'.decl=r.decl++[nm]):Know r' (env++[(nm,t)]):=fun z hz=>by
 rw [hd];rcases eT hz with h1 | h1
 ·exact List.mem_append_left _ (h z h1)
 ·simp [h1]
theorem SameN.snoc {r:RS} {env:Env} {m:Nms} {ve:VE} {nm:Sec} {t:Int} (h:SameN env m (bJ ve)) (hk:Know r env) (hn:nm∉r.decl) (v:Int):SameN (env++[(nm,t)]) (dk m nm v) (bJ (ve++[(nm,v)])):=fun z hz=>by
 rw [ld];unfold dk
 by_cases e:z=nm
 ·rw [if_pos e,if_pos e]
 ·rw [if_neg e,if_neg e];rcases eT hz with h1 | h1
  ·exact h z h1
  ·exact absurd h1 e
end Go.Proofs.YtcebchffcmpfeaaGreat
