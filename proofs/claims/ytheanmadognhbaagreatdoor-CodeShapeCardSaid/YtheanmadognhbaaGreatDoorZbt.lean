import Derived.Test.YtheanmadognhbaaGreatDoorZat
import Derived.Test.YtheanmadognhbaaGreatDoorQat
namespace Go.Proofs.YtheanmadognhbaaGreatDoor
set_option linter.unusedVariables false
set_option linter.unusedSimpArgs false
open Go.RowKit Go.Maps
mutual
def gE:E→Prop | .mk _ n _ xs _=>n64 n∧gL xs
def gL:List E→Prop | []=>True | x :: xs=>gE x∧gL xs
end
mutual
def gS:St→Prop | .mk _ nm xs _ bd els _=>nm∉kws∧gL xs∧gB bd∧gB els
def gB:List St→Prop | []=>True | x :: xs=>gS x∧gB xs
end
theorem gA:gL []:=by unfold gL;trivial
theorem jL {e:E} (h:gE e):gL [e]:=by unfold gL;exact ⟨h,gA⟩
theorem vT {e f:E} (h:gE e) (h2:gE f):gL [e,f]:=by unfold gL;exact ⟨h,jL h2⟩
theorem fB:gB []:=by unfold gB;trivial
theorem sT {k n:Int} {nm:Sec} {xs:List E} {p:Int} (h1:n64 n) (h2:gL xs):gE (.mk k n nm xs p):=by unfold gE;exact ⟨h1,h2⟩
theorem sU {k:Int} {nm:Sec} {xs:List E} {n:Int} {bd els:List St} {p:Int} (h1:nm∉kws) (h2:gL xs) (h3:gB bd) (h4:gB els):gS (.mk k nm xs n bd els p):=by unfold gS;exact ⟨h1,h2,h3,h4⟩
theorem numW_n64 (l:Sec):n64 (kv l):=by
 have h:∀ (l:Sec) (acc:Int),n64 acc→n64 (l.foldl (fun n c=>wrap64 (wrap64 (10*n)+((c.toNat:Int) - 48) % 256)) acc):=by
  intro l
  induction l with
  | nil=>intro acc h;exact h
  | cons c l ih=>intro acc _;exact ih _ (ml _)
 exact h l 0 bR
theorem ms:([]:Sec)∉kws:=by decide
section
variable {ts:List Tok}
theorem nC:∀ f:Nat,
  (∀ i least dp e a,dr ts f i least dp=.ok (e,a)→gE e)∧(∀ l i least most dp e a,gE l→dM ts f l i least most dp=.ok (e,a)→gE e)∧
  (∀ i dp e a,bV ts f i dp=.ok (e,a)→gE e)∧(∀ i dp b c e a,aS ts f i dp b c=.ok (e,a)→gE e):=by
 intro f
 induction f with
 | zero=>
  refine ⟨fun i _ _ e a h=>?_,fun _ i _ _ _ e a _ h=>?_,fun i _ e a h=>?_,fun i _ _ _ e a h=>?_⟩
  ·unfold dr at h;cases h
  ·unfold dM at h;cases h
  ·unfold bV at h;cases h
  ·unfold aS at h;cases h
 | succ f ih=>
  obtain ⟨ih1,ih2,ih3,ih4⟩:=ih;refine ⟨fun i least dp e a h=>?_,fun l i least most dp e a hl h=>?_,fun i dp e a h=>?_,fun i dp b c e a h=>?_⟩
  ·unfold dr at h;split at h
   ·cases h
   ·rename_i l b hs;exact ih2 _ _ _ _ _ _ _ (ih3 _ _ _ _ hs) h
  ·unfold dM at h;split at h
   ·rename_i hc;split at h
    ·cases h
    ·rename_i r b hs;exact ih2 _ _ _ _ _ _ _ (sT bR (vT hl (ih1 _ _ _ _ _ hs))) h
   ·cases h;exact hl
  ·unfold bV at h;split at h
   ·split at h
    ·cases h
    ·split at h
     ·cases h
     ·rename_i e' b hs;cases h;exact sT bR (jL (ih3 _ _ _ _ hs))
   ·split at h
    ·split at h
     ·cases h
     ·rename_i e' b hs;cases h;exact sT bR (jL (ih4 _ _ _ _ _ _ hs))
    ·split at h
     ·exact ih4 _ _ _ _ _ _ h
     ·split at h
      ·cases h;exact sT (numW_n64 _) gA
      ·split at h
       ·cases h;exact sT bR gA
       ·split at h
        ·cases h
        ·cases h;exact sT bR gA
  ·unfold aS at h;split at h
   ·cases h
   ·split at h
    ·split at h
     ·cases h
     ·rename_i e' b' hs;split at h
      ·cases h
      ·cases h;exact ih1 _ _ _ _ _ hs
    ·cases h
theorem dg {i dp a:Nat} {e:E} (h:bE ts i dp=.ok (e,a)):gE e:=(nC _).1 _ _ _ _ _ h
theorem iC {i dp a:Nat} {e:E} (h:b9 ts i dp=.ok (e,a)):gE e:=(nC _).2.2.2 _ _ _ _ _ _ h
theorem gC {i a:Nat} {s:Sec} (h:bB ts i=.ok (s,a)):s∉kws:=by
 unfold bB at h;split at h<;>cases h
 rename_i hk;exact hk.2
theorem vU {i dp a:Nat} {s:St} (h:d8 ts i dp=.ok (s,a)):gS s:=by
 unfold d8 at h;split at h
 ·cases h
 ·rename_i l b hl;have g1:=iC hl;split at h
  ·split at h
   ·cases h
   ·rename_i r c hr;have g2:=dg hr;split at h<;>cases h
    exact sU ms (vT g1 g2) fB fB
  ·split at h
   ·split at h
    ·cases h
    ·rename_i r c hr;have g2:=iC hr;split at h<;>cases h
     exact sU ms (vT g1 g2) fB fB
   ·cases h
theorem good_let {i dp a:Nat} {s:St} (h:pj ts i dp=.ok (s,a)):gS s:=by
 unfold pj at h;split at h
 ·cases h
 ·rename_i nm b hw;split at h
  ·cases h
  ·split at h
   ·cases h
   ·rename_i e c he;split at h<;>cases h
    exact sU (gC hw) (jL (dg he)) fB fB
theorem good_for {i a:Nat} {s:Sec} {n:Int} (h:forR ts i=.ok ((s,n),a)):s∉kws:=by
 unfold forR at h;split at h
 ·cases h
 ·rename_i nm b hw;split at h
  ·cases h
  ·split at h
   ·cases h
   ·split at h
    ·cases h
    ·split at h
     ·cases h
     ·cases h;exact gC hw
theorem vV:∀ f:Nat,(∀ i dp s a,bz ts f i dp=.ok (s,a)→gS s)∧(∀ i dp l a,be ts f i dp=.ok (l,a)→gB l)∧(∀ i dp l a,aW ts f i dp=.ok (l,a)→gB l):=by
 intro f
 induction f with
 | zero=>
  refine ⟨fun i _ e a h=>?_,fun i _ e a h=>?_,fun i _ e a h=>?_⟩
  ·unfold bz at h;cases h
  ·unfold be at h;cases h
  ·unfold aW at h;cases h
 | succ f ih=>
  obtain ⟨ih1,ih2,ih3⟩:=ih;refine ⟨fun i dp s a h=>?_,fun i dp l a h=>?_,fun i dp l a h=>?_⟩
  ·unfold bz at h;split at h
   ·exact vU h
   ·split at h
    ·exact good_let h
    ·split at h
     ·split at h
      ·cases h
      ·rename_i e b0 he;split at h
       ·cases h
       ·rename_i bd c hb;split at h
        ·split at h
         ·cases h
         ·rename_i els d hd;cases h;exact sU ms (jL (dg he)) (ih2 _ _ _ _ hb) (ih2 _ _ _ _ hd)
        ·cases h;exact sU ms (jL (dg he)) (ih2 _ _ _ _ hb) fB
     ·split at h
      ·split at h
       ·cases h
       ·rename_i x c hf;obtain ⟨s0,n0⟩:=x;split at h
        ·cases h
        ·rename_i bd c hb;cases h;exact sU (good_for hf) gA (ih2 _ _ _ _ hb) fB
      ·cases h
  ·unfold be at h;split at h
   ·cases h
   ·split at h
    ·split at h
     ·cases h
     ·rename_i l' b hs;split at h<;>cases h
      exact ih3 _ _ _ _ hs
    ·cases h
  ·unfold aW at h;split at h
   ·cases h;exact fB
   ·split at h
    ·cases h
    ·rename_i s b hs;split at h
     ·cases h
     ·rename_i l' c hl;cases h;unfold gB;exact ⟨ih1 _ _ _ _ hs,ih3 _ _ _ _ hl⟩
theorem vW:∀ f i l a,bW ts f i=.ok (l,a)→gB l:=by
 intro f
 induction f with
 | zero=>intro i l a h;unfold bW at h;cases h
 | succ f ih=>
  intro i l a h;unfold bW at h;split at h
  ·cases h;exact fB
  ·split at h
   ·cases h
   ·rename_i s b hs;split at h
    ·cases h
    ·rename_i l' d hl;cases h;unfold gB;exact ⟨(vV _).1 _ _ _ _ hs,ih _ _ _ hl⟩
theorem pO:∀ f i l a,aY ts f i=.ok (l,a)→∀ nm∈l,nm∉kws:=by
 intro f
 induction f with
 | zero=>intro i l a h;unfold aY at h;cases h
 | succ f ih=>
  intro i l a h;unfold aY at h;split at h
  ·cases h
  ·rename_i s b hw;split at h
   ·split at h
    ·cases h
    ·rename_i l' c hl;cases h;intro nm hm;rcases List.mem_cons.1 hm with rfl | hm
     ·exact gC hw
     ·exact ih _ _ _ hl nm hm
   ·cases h;intro nm hm;rw [List.mem_singleton.1 hm];exact gC hw
theorem sV:∀ f i l a,bA ts f i=.ok (l,a)→gL l:=by
 intro f
 induction f with
 | zero=>intro i l a h;unfold bA at h;cases h
 | succ f ih=>
  intro i l a h;unfold bA at h;split at h
  ·split at h
   ·cases h
   ·rename_i e b he;split at h
    ·cases h
    ·split at h
     ·cases h
     ·rename_i l' d hl;cases h;unfold gL;exact ⟨dg he,ih _ _ _ hl⟩
  ·cases h;exact gA
theorem vX {i a:Nat} {l:List E} (h:fu ts i=.ok (l,a)):gL l:=by
 unfold fu at h;split at h
 ·split at h
  ·cases h
  ·rename_i e b he;split at h
   ·cases h
   ·cases h;exact jL (dg he)
 ·cases h;exact gA
structure Good (d:Df):Prop where
 params:∀ nm∈d.params,nm∉kws
 needs:gL d.needs
 body:gB d.body
 give:gL d.give
theorem good_def {d:Df} {a:Nat} (h:oL ts=.ok (d,a)):Good d:=by
 unfold oL at h;split at h
 ·cases h
 ·rename_i hd a1 hh;split at h
  ·cases h
  ·rename_i ns a2 h2;split at h
   ·cases h
   ·rename_i b a3 h3;split at h
    ·cases h
    ·rename_i g a4 h4;split at h
     ·cases h
     ·cases h;refine ⟨?_,sV _ _ _ _ h2,vW _ _ _ _ h3,vX h4⟩;unfold uC at hh;split at hh
      ·cases hh
      ·split at hh
       ·cases hh
       ·split at hh
        ·cases hh
        ·split at hh
         ·cases hh
         ·rename_i ps c hps;split at hh
          ·cases hh
          ·split at hh
           ·cases hh
           ·cases hh;unfold du at hps;split at hps
            ·cases hps;exact fun nm hm=>absurd hm (by simp)
            ·exact pO _ _ _ _ hps
end
theorem ln {l:Sec} {d:Df} (h:bf l=.ok d):Good d:=by
 unfold bf at h;split at h
 ·cases h
 ·split at h
  ·cases h
  ·split at h
   ·cases h
   ·rename_i d' hp;cases h;unfold f6 at hp;split at hp
    ·cases hp
    ·rename_i d2 a hd;split at hp
     ·cases hp;exact good_def hd
     ·cases hp
abbrev Nms:=Sec→Option Int
structure PS where
 c:List Int
 m:Nms
def getC (c:List Int) (i:Int):Int:=if 0≤i∧i < 60 then c.getD i.toNat 0 else 0
def nmV (m:Nms) (nm:Sec):Int:=if nm=[116,114,117,101] then 1 else if nm=[102,97,108,115,101] then 0 else (m nm).getD 0
def exO (c:List Int) (m:Nms) (k n:Int) (nm:Sec) (vs:List Int):Int:=
 if k=2 then nmV m nm else if k=3 then getC c (vs.getD 0 0) else if k=4 then tr (vs.getD 0 0=0) else if k=5 then wrap64 (-(vs.getD 0 0))
 else if k=6 then opV nm (vs.getD 0 0) (vs.getD 1 0) else n
mutual
def exV (c:List Int) (m:Nms):E→Int | .mk k n nm xs _=>exO c m k n nm (tR c m xs)
def tR (c:List Int) (m:Nms):List E→List Int | []=>[] | x :: xs=>exV c m x :: tR c m xs
end
abbrev VE:=List (Sec×Int)
def bS:VE→Nms
 | [],_=>none
 | x :: l,z=>match bS l z with | some v=>some v | none=>if z=x.1 then some x.2 else none
theorem lq:∀ (l:VE) (k:Sec) (v:Int),bS (l++[(k,v)])=dL (bS l) k v
 | [],k,v=>by
  funext z;show (match bS [] z with | some v=>some v | none=>if z=k then some v else none)=_;rfl
 | x :: l,k,v=>by
  funext z;have ih:=congrFun (lq l k v) z;show (match bS (l++[(k,v)]) z with | some v=>some v | none=>if z=x.1 then some x.2 else none)=_;rw [ih];unfold dL
  by_cases h:z=k
  ·rw [if_pos h,if_pos h]
  ·rw [if_neg h,if_neg h];rfl
structure CW (c:List Int):Prop where
 len:c.length=60
 in_:∀ z∈c,n64 z
def NW (m:Nms):Prop:=∀ z v,m z=some v→n64 v
theorem CW.get {c:List Int} (h:CW c) (i:Int):n64 (getC c i):=by
 unfold getC;split
 ·rename_i hi;have hl:i.toNat < c.length:=by rw [h.len];omega
  rw [List.getD_eq_getElem?_getD,List.getElem?_eq_getElem hl];exact h.in_ _ (List.getElem_mem hl)
 ·exact bR
theorem CW.set {c:List Int} (h:CW c) (i:Nat) {v:Int} (hv:n64 v):CW (c.set i v):=
 ⟨by rw [List.length_set];exact h.len,fun z hz=>by
  rcases List.mem_or_eq_of_mem_set hz with hz | rfl
  ·exact h.in_ z hz
  ·exact hv⟩
theorem NW.put {m:Nms} (h:NW m) (k:Sec) {v:Int} (hv:n64 v):NW (dL m k v):=fun z u hz=>by
 unfold dL at hz;split at hz
 ·cases hz;exact hv
 ·exact h z u hz
theorem tr_n64 (p:Prop) [Decidable p]:n64 (tr p):=by
 unfold tr;split
 ·exact vE
 ·exact bR
theorem n64_ite {p:Prop} [Decidable p] {a b:Int} (h1:n64 a) (h2:n64 b):n64 (if p then a else b):=by
 split
 ·exact h1
 ·exact h2
theorem opV_n64 (nm:Sec) (a b:Int):n64 (opV nm a b):=by
 unfold opV
 repeat' (first | exact ml _ | exact tr_n64 _ | exact bR | refine n64_ite ?_ ?_)
theorem nmV_n64 {m:Nms} (h:NW m) (nm:Sec):n64 (nmV m nm):=by
 unfold nmV;split
 ·exact vE
 ·split
  ·exact bR
  ·cases hm:m nm with
   | none=>exact bR
   | some v=>exact h nm v hm
theorem exO_n64 {c:List Int} {m:Nms} (hc:CW c) (hm:NW m) (k:Int) {n:Int} (hn:n64 n) (nm:Sec) (vs:List Int):n64 (exO c m k n nm vs):=by
 unfold exO;split
 ·exact nmV_n64 hm _
 ·split
  ·exact hc.get _
  ·split
   ·exact tr_n64 _
   ·split
    ·exact ml _
    ·split
     ·exact opV_n64 _ _ _
     ·exact hn
theorem pP {c:List Int} {m:Nms} (hc:CW c) (hm:NW m):∀ e:E,gE e→n64 (exV c m e)
 | .mk k n nm xs p,h=>by
  unfold gE at h;unfold exV;exact exO_n64 hc hm k h.1 nm _
def SW (s:PS):Prop:=CW s.c∧NW s.m
theorem vY {m:Nms} {nm z:Sec} {v:Int} (h:z≠nm):dL m nm v z=m z:=by
 unfold dL;rw [if_neg h]
theorem sW {r:RS} {c p:Int} (h:(r.fail c p).code=0):r.code=0:=by
 unfold RS.fail at h;split at h
 ·assumption
 ·exact h
theorem ic {r:RS} {c p:Int} (hc:c≠0):(r.fail c p).code≠0:=by
 unfold RS.fail;split
 ·exact hc
 ·assumption
theorem bb {r r':RS} (h:∀ x,r.bad x→r'.bad x) (h0:r'.code=0):r.code=0:=by
 apply Classical.byContradiction;intro hc;have:=h (r.code,r.at_) ⟨rfl,rfl,hc⟩;exact hc (this.1.symm.trans h0)
theorem vZ {xs:List E} {r:RS} {k:Int} {nm:Sec} {env:Env} {ts:List Int} (h:(bC r k nm xs env ts).code=0):r.code=0:=bb (fun x hx=>RS.bad.args xs r x k nm env ts hx) h
theorem jM (r:RS) (c p:Int):(r.fail c p).decl=r.decl:=by unfold RS.fail;split<;>rfl
theorem wj (r:RS) (k:Int) (nm:Sec) (p:Int) (env:Env):(eC r k nm p env).2.decl=r.decl:=by
 unfold eC
 repeat' split
 all_goals first | rfl | exact jM _ _ _
mutual
theorem eh:∀ (e:E) (r:RS) (env:Env),(aR r e env).2.decl=r.decl
 | .mk k n nm xs p,r,env=>by
  unfold aR;rw [wj,lr]
theorem lr:∀ (xs:List E) (r:RS) (k:Int) (nm:Sec) (env:Env) (ts:List Int),(bC r k nm xs env ts).decl=r.decl
 | [],r,k,nm,env,ts=>by unfold bC;rfl
 | e :: es,r,k,nm,env,ts=>by
  unfold bC;rw [lr];split
  ·rw [jM,eh]
  ·rw [eh]
end
theorem fh (r:RS) (e:E) (want:Int) (env:Env):(bp r e want env).decl=r.decl:=by
 unfold bp;split
 ·rw [jM,eh]
 ·rw [eh]
def SameN (env:Env) (m m':Nms):Prop:=∀ z,(bj env z).isSome=true→m z=m' z
theorem wk {r:RS} {e:E} {want:Int} {env:Env} (h:(bp r e want env).code=0):(aR r e env).2.code=0∧r.code=0:=by
 have h1:(aR r e env).2.code=0:=by
  unfold bp at h;split at h
  ·exact sW h
  ·exact h
 exact ⟨h1,bb (fun x hx=>RS.bad.kind e r x env hx) h1⟩
theorem bL {r:RS} {nm:Sec} {p:Int} (h:(r.declare nm p).code=0):r.code=0∧nm∉r.decl∧(r.declare nm p).decl=r.decl++[nm]:=by
 unfold RS.declare at h⊢;split at h
 ·exact absurd h (ic (by decide))
 ·rename_i h1;split at h
  ·exact absurd h (ic (by decide))
  ·rename_i h2;rw [if_neg h1,if_neg h2];exact ⟨h,h1,rfl⟩
def Know (r:RS) (env:Env):Prop:=∀ z,(bj env z).isSome=true→z∈r.decl
theorem fi {env:Env} {nm:Sec} {t:Int} {z:Sec} (h:(bj (env++[(nm,t)]) z).isSome=true):(bj env z).isSome=true∨z=nm:=by
 rw [eg] at h;cases hl:bj env z with
 | some t=>exact .inl rfl
 | none=>
  rw [hl] at h;refine .inr ?_;apply Classical.byContradiction;intro hn;have h':(bj [(nm,t)] z).isSome=true:=h;rw [dd,if_neg (fun e=>hn e.symm)] at h';cases h'
theorem Know.snoc {r r':RS} {env:Env} {nm:Sec} {t:Int} (h:Know r env) (hd:r'.decl=r.decl++[nm]):Know r' (env++[(nm,t)]):=fun z hz=>by
 rw [hd];rcases fi hz with h1 | h1
 ·exact List.mem_append_left _ (h z h1)
 ·simp [h1]
theorem SameN.snoc {r:RS} {env:Env} {m:Nms} {ve:VE} {nm:Sec} {t:Int} (h:SameN env m (bS ve)) (hk:Know r env) (hn:nm∉r.decl) (v:Int):SameN (env++[(nm,t)]) (dL m nm v) (bS (ve++[(nm,v)])):=fun z hz=>by
 rw [lq];unfold dL
 by_cases e:z=nm
 ·rw [if_pos e,if_pos e]
 ·rw [if_neg e,if_neg e];rcases fi hz with h1 | h1
  ·exact h z h1
  ·exact absurd h1 e
end Go.Proofs.YtheanmadognhbaaGreatDoor
