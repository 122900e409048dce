import Derived.Test.YtheanmadognhbaaGreatDoorGar
import Derived.Test.YtheanmadognhbaaGreatDoorKfr
import Derived.Test.YtheanmadognhbaaGreatDoorCcr
import Derived.Test.YtheanmadognhbaaGreatDoorK14r
import Derived.Test.YtheanmadognhbaaGreatDoorHfr
namespace Go.Proofs.YtheanmadognhbaaGreatDoor
open Go.RowKit Go.Maps
set_option linter.unusedSimpArgs false
set_option linter.unusedVariables false
def Wd (x:Sec):Prop:=∃ c l,x=c :: l∧isLet c=true
structure Ren (ρ:Sec→Sec):Prop where
 key:∀ x,x∈kws→ρ x=x
 new:∀ x,x∉kws→ρ x∉kws
 inj:∀ x y,ρ x=ρ y→x=y
 wd:∀ x,Wd x→Wd (ρ x)
theorem Ren.id:Ren (fun x=>x):=⟨fun _ _=>rfl,fun _ h=>h,fun _ _ h=>h,fun _ h=>h⟩
mutual
def mapE (ρ:Sec→Sec):E→E | .mk k n nm xs _=>.mk k n (if k=2 then ρ nm else nm) (mapL ρ xs) 0
def mapL (ρ:Sec→Sec):List E→List E | []=>[] | e :: es=>mapE ρ e :: mapL ρ es
end
def SE (ρ:Sec→Sec) (e e':E):Prop:=mapE ρ e=mapE (fun x=>x) e'
def SXy {α:Type} (R:α→α→Prop):Except Nat (α×Nat)→Except Nat (α×Nat)→Prop
 | .error k,.error k'=>k=k'
 | .ok (e,a),.ok (e',a')=>R e e'∧a=a'
 | _,_=>False
structure TR (ρ:Sec→Sec) (ts ts':List Tok):Prop where
 len:ts'.length=ts.length
 kind:∀ i,kAt ts' i=kAt ts i
 word:∀ i,kAt ts i=1→xAt ts' i=ρ (xAt ts i)∧Wd (xAt ts i)
 rest:∀ i,kAt ts i≠1→xAt ts' i=xAt ts i
section
variable {ρ:Sec→Sec} {ts ts':List Tok}
theorem isT_same (hr:Ren ρ) (h:TR ρ ts ts') (i:Nat) {x:Sec} (hx:x∈kws∨¬ Wd x):isT ts' i x=isT ts i x:=by
 unfold isT
 rw [h.kind]
 by_cases hk:kAt ts i=1
 ·obtain ⟨h1,h2⟩:=h.word i hk
  rw [h1]
  rcases hx with hx | hx
  ·by_cases hy:xAt ts i∈kws
   ·rw [hr.key _ hy]
   ·have a1:xAt ts i≠x:=fun e=>hy (e ▸ hx)
    have a2:ρ (xAt ts i)≠x:=fun e=>hr.new _ hy (e ▸ hx)
    rw [beq_eq_false_iff_ne.2 a1,beq_eq_false_iff_ne.2 a2]
  ·have a1:xAt ts i≠x:=fun e=>hx (e ▸ h2)
   have a2:ρ (xAt ts i)≠x:=fun e=>hx (e ▸ hr.wd _ h2)
   rw [beq_eq_false_iff_ne.2 a1,beq_eq_false_iff_ne.2 a2]
 ·rw [h.rest i hk]
theorem eatT_same (hr:Ren ρ) (h:TR ρ ts ts') (i:Nat) {x:Sec} (hx:x∈kws∨¬ Wd x):eatT ts' i x=eatT ts i x:=by
 unfold eatT
 rw [isT_same hr h i hx]
theorem wordT_same (hr:Ren ρ) (h:TR ρ ts ts') (i:Nat):SXy (fun s s'=>s'=ρ s) (wordT ts i) (wordT ts' i):=by
 unfold wordT
 rw [h.kind]
 by_cases hk:kAt ts i=1
 ·obtain ⟨h1,h2⟩:=h.word i hk
  rw [h1]
  by_cases hy:xAt ts i∈kws
  ·rw [if_neg (fun e=>e.2 hy),if_neg (fun e=>e.2 (by rw [hr.key _ hy];exact hy))]
   exact rfl
  ·rw [if_pos ⟨hk,hy⟩,if_pos ⟨hk,hr.new _ hy⟩]
   exact ⟨rfl,rfl⟩
 ·rw [if_neg (fun e=>hk e.1),if_neg (fun e=>hk e.1)]
  exact rfl
theorem numT_same (h:TR ρ ts ts') (i:Nat):numT ts' i=numT ts i:=by
 unfold numT
 rw [h.kind]
 by_cases hk:kAt ts i=2
 ·rw [h.rest i (by omega)]
 ·rw [if_neg hk,if_neg hk]
end
theorem nw {x:Sec} (h:∀ c l,x=c :: l→¬ isLet c=true):¬ Wd x:=fun ⟨c,l,e,hc⟩=>h c l e hc
theorem sg (c:UInt8) (l:Sec) (h:¬ isLet c=true):(c :: l)∈kws∨¬ Wd (c :: l):=.inr (nw fun c' l' e=>by cases e;exact h)
theorem mapE_mk (ρ:Sec→Sec) (k n:Int) (nm:Sec) (xs:List E) (p:Int):mapE ρ (.mk k n nm xs p)=.mk k n (if k=2 then ρ nm else nm) (mapL ρ xs) 0:=by rw [mapE]
theorem mapL_nil (ρ:Sec→Sec):mapL ρ []=[]:=by rw [mapL]
theorem mapL_cons (ρ:Sec→Sec) (e:E) (es:List E):mapL ρ (e :: es)=mapE ρ e :: mapL ρ es:=by rw [mapL]
theorem SE.mk {ρ:Sec→Sec} {k n:Int} {nm nm':Sec} {xs xs':List E} {p p':Int} (h1:(if k=2 then ρ nm else nm)=nm') (h2:mapL ρ xs=mapL (fun x=>x) xs'):SE ρ (.mk k n nm xs p) (.mk k n nm' xs' p'):=by
 unfold SE
 rw [mapE_mk,mapE_mk,h1,h2,ite_self]
theorem SL.one {ρ:Sec→Sec} {e e':E} (h:SE ρ e e'):mapL ρ [e]=mapL (fun x=>x) [e']:=by
 rw [mapL_cons,mapL_cons,mapL_nil,mapL_nil]
 unfold SE at h
 rw [h]
theorem SL.two {ρ:Sec→Sec} {e e' f f':E} (h:SE ρ e e') (h2:SE ρ f f'):mapL ρ [e,f]=mapL (fun x=>x) [e',f']:=by
 rw [mapL_cons ρ e,mapL_cons _ e',SL.one h2,show mapE ρ e=mapE (fun x=>x) e' from h]
theorem SXy.cases {α:Type} {R:α→α→Prop} {r r':Except Nat (α×Nat)} (h:SXy R r r'):(∃ k,r=.error k∧r'=.error k)∨∃ e e' a,r=.ok (e,a)∧r'=.ok (e',a)∧R e e':=by
 rcases r with k | ⟨e,a⟩<;>rcases r' with k' | ⟨e',a'⟩
 ·exact .inl ⟨k,rfl,by rw [show k=k' from h]⟩
 ·exact h.elim
 ·exact h.elim
 ·exact .inr ⟨e,e',a,rfl,by rw [h.2],h.1⟩
section
variable {ρ:Sec→Sec} {ts ts':List Tok}
theorem expr_same (hr:Ren ρ) (h:TR ρ ts ts'):∀ f:Nat,
  (∀ i l d,SXy (SE ρ) (exprR ts f i l d) (exprR ts' f i l d))∧
  (∀ e e' i l m d,SE ρ e e'→SXy (SE ρ) (loopR ts f e i l m d) (loopR ts' f e' i l m d))∧
  (∀ i d,SXy (SE ρ) (smallR ts f i d) (smallR ts' f i d))∧
  (∀ i d b c,(b∈kws∨¬ Wd b)→(c∈kws∨¬ Wd c)→SXy (SE ρ) (aroundR ts f i d b c) (aroundR ts' f i d b c))
 | 0=>by
  refine ⟨fun i l d=>?_,fun e e' i l m d _=>?_,fun i d=>?_,fun i d b c _ _=>?_⟩
  ·unfold exprR;exact rfl
  ·unfold loopR;exact rfl
  ·unfold smallR;exact rfl
  ·unfold aroundR;exact rfl
 | f+1=>by
  obtain ⟨I1,I2,I3,I4⟩:=expr_same hr h f
  refine ⟨fun i l d=>?_,fun e e' i l m d he=>?_,fun i d=>?_,fun i d b c hb hc=>?_⟩
  ·unfold exprR
   rcases (I3 i d).cases with ⟨k,e1,e2⟩ | ⟨e,e',a,e1,e2,he⟩
   ·rw [e1,e2];exact rfl
   ·rw [e1,e2];exact I2 e e' a l 5 d he
  ·unfold loopR
   rw [h.kind]
   by_cases hk:kAt ts i=3
   ·rw [h.rest i (by omega)]
    split
    ·rcases (I1 (i+1) (lvl (xAt ts i)+1) d).cases with ⟨k,e1,e2⟩ | ⟨x,x',a,e1,e2,hx⟩
     ·rw [e1,e2];exact rfl
     ·rw [e1,e2];exact I2 _ _ _ _ _ _ (.mk (by simp) (SL.two he hx))
    ·exact ⟨he,rfl⟩
   ·rw [if_neg (fun e=>hk e.1),if_neg (fun e=>hk e.1)]
    exact ⟨he,rfl⟩
  ·unfold smallR
   rw [isT_same hr h i (sg 33 [] (by decide)),isT_same hr h i (sg 45 [] (by decide)),isT_same hr h i (sg 91 [] (by decide)),isT_same hr h i (sg 40 [] (by decide)),isT_same hr h i (x:=[116,114,117,101]) (.inl (by decide)),isT_same hr h i (x:=[102,97,108,115,101]) (.inl (by decide)),h.kind]
   by_cases c1:isT ts i [33]=true∨isT ts i [45]=true
   ·rw [if_pos c1,if_pos c1]
    by_cases c2:12≤d
    ·rw [if_pos c2,if_pos c2];exact rfl
    ·rw [if_neg c2,if_neg c2]
     have hx:(xAt ts' i=[45])↔(xAt ts i=[45]):=by
      have:=isT_same hr h i (sg 45 [] (by decide))
      have hk4:kAt ts i≠4:=by
       intro e
       rcases c1 with c1 | c1<;>· unfold isT at c1;rw [e] at c1;simp at c1
      unfold isT at this
      rw [h.kind] at this
      rw [show (kAt ts i != 4)=true by simpa using hk4,Bool.true_and,Bool.true_and] at this
      have:=congrArg (·=true) this
      simpa using this
     rcases (I3 (i+1) (d+1)).cases with ⟨k,e1,e2⟩ | ⟨x,x',a,e1,e2,hx2⟩
     ·rw [e1,e2];exact rfl
     ·rw [e1,e2]
      refine ⟨?_,rfl⟩
      simp only [hx]
      exact .mk (by simp;intro e;split at e<;>omega) (SL.one hx2)
   ·rw [if_neg c1,if_neg c1]
    by_cases c2:isT ts i [91]=true
    ·rw [if_pos c2,if_pos c2]
     rcases (I4 i d [91] [93] (sg 91 [] (by decide)) (sg 93 [] (by decide))).cases with ⟨k,e1,e2⟩ | ⟨x,x',a,e1,e2,hx2⟩
     ·rw [e1,e2];exact rfl
     ·rw [e1,e2]
      exact ⟨.mk (by simp) (SL.one hx2),rfl⟩
    ·rw [if_neg c2,if_neg c2]
     by_cases c3:isT ts i [40]=true
     ·rw [if_pos c3,if_pos c3]
      exact I4 i d [40] [41] (sg 40 [] (by decide)) (sg 41 [] (by decide))
     ·rw [if_neg c3,if_neg c3]
      by_cases c4:kAt ts i=2
      ·rw [if_pos c4,if_pos c4,h.rest i (by omega)]
       exact ⟨.mk (by simp) rfl,rfl⟩
      ·rw [if_neg c4,if_neg c4]
       by_cases c5:isT ts i [116,114,117,101]=true∨isT ts i [102,97,108,115,101]=true
       ·rw [if_pos c5,if_pos c5]
        have hk:xAt ts i∈kws:=by
         rcases c5 with c5 | c5<;>· unfold isT at c5;simp only [Bool.and_eq_true,beq_iff_eq] at c5;rw [c5.2];decide
        have hx:ρ (xAt ts i)=xAt ts' i:=by
         by_cases hk1:kAt ts i=1
         ·exact (h.word i hk1).1.symm
         ·rw [h.rest i hk1,hr.key _ hk]
        exact ⟨.mk (by simpa using hx) rfl,rfl⟩
       ·rw [if_neg c5,if_neg c5]
        rcases (wordT_same hr h i).cases with ⟨k,e1,e2⟩ | ⟨x,x',a,e1,e2,hx2⟩
        ·rw [e1,e2];exact rfl
        ·rw [e1,e2]
         exact ⟨.mk (by simpa using hx2.symm) rfl,rfl⟩
  ·unfold aroundR
   rw [isT_same hr h i hb]
   by_cases c1:12≤d∧isT ts i b=true
   ·rw [if_pos c1,if_pos c1];exact rfl
   ·rw [if_neg c1,if_neg c1]
    by_cases c2:isT ts i b=true
    ·rw [if_pos c2,if_pos c2]
     rcases (I1 (i+1) 1 (d+1)).cases with ⟨k,e1,e2⟩ | ⟨x,x',a,e1,e2,hx⟩
     ·rw [e1,e2];exact rfl
     ·rw [e1,e2]
      simp only [eatT_same hr h a hc]
      cases eatT ts a c with
      | error k=>exact rfl
      | ok a=>exact ⟨hx,rfl⟩
    ·rw [if_neg c2,if_neg c2];exact rfl
end
end Go.Proofs.YtheanmadognhbaaGreatDoor
namespace Go.Proofs.YtheanmadognhbaaGreatDoor
open Go.RowKit Go.Maps
set_option linter.unusedSimpArgs false
set_option linter.unusedVariables false
mutual
def mapS (ρ:Sec→Sec):St→St | .mk k nm es n bd els _=>.mk k (if k=1∨k=7∨k=8 then ρ nm else nm) (mapL ρ es) n (mapB ρ bd) (mapB ρ els) 0
def mapB (ρ:Sec→Sec):List St→List St | []=>[] | x :: xs=>mapS ρ x :: mapB ρ xs
end
def SS (ρ:Sec→Sec) (x x':St):Prop:=mapS ρ x=mapS (fun x=>x) x'
def SSs (ρ:Sec→Sec) (x x':List St):Prop:=mapB ρ x=mapB (fun x=>x) x'
def SEs (ρ:Sec→Sec) (x x':List E):Prop:=mapL ρ x=mapL (fun x=>x) x'
theorem mapS_mk (ρ:Sec→Sec) (k n:Int) (nm:Sec) (es:List E) (bd els:List St) (p:Int):mapS ρ (.mk k nm es n bd els p)=.mk k (if k=1∨k=7∨k=8 then ρ nm else nm) (mapL ρ es) n (mapB ρ bd) (mapB ρ els) 0:=by rw [mapS]
theorem mapB_nil (ρ:Sec→Sec):mapB ρ []=[]:=by rw [mapB]
theorem mapB_cons (ρ:Sec→Sec) (e:St) (es:List St):mapB ρ (e :: es)=mapS ρ e :: mapB ρ es:=by rw [mapB]
theorem SS.mk {ρ:Sec→Sec} {k n:Int} {nm nm':Sec} {xs xs':List E} {bd bd' els els':List St} {p p':Int} (h1:(if k=1∨k=7∨k=8 then ρ nm else nm)=nm') (h2:SEs ρ xs xs') (h3:SSs ρ bd bd') (h4:SSs ρ els els'):SS ρ (.mk k nm xs n bd els p) (.mk k nm' xs' n bd' els' p'):=by
 unfold SS
 rw [mapS_mk,mapS_mk,h1,show mapL ρ xs=_ from h2,show mapB ρ bd=_ from h3,show mapB ρ els=_ from h4,ite_self]
theorem SSs.nil (ρ:Sec→Sec):SSs ρ [] []:=by unfold SSs;rw [mapB_nil,mapB_nil]
theorem SEs.nil (ρ:Sec→Sec):SEs ρ [] []:=by unfold SEs;rw [mapL_nil,mapL_nil]
theorem SSs.cons {ρ:Sec→Sec} {x x':St} {l l':List St} (h:SS ρ x x') (h2:SSs ρ l l'):SSs ρ (x :: l) (x' :: l'):=by
 unfold SSs
 rw [mapB_cons,mapB_cons,show mapS ρ x=_ from h,show mapB ρ l=_ from h2]
theorem SEs.cons {ρ:Sec→Sec} {x x':E} {l l':List E} (h:SE ρ x x') (h2:SEs ρ l l'):SEs ρ (x :: l) (x' :: l'):=by
 unfold SEs
 rw [mapL_cons,mapL_cons,show mapE ρ x=_ from h,show mapL ρ l=_ from h2]
section
variable {ρ:Sec→Sec} {ts ts':List Tok}
theorem exprT_same (hr:Ren ρ) (h:TR ρ ts ts') (i d:Nat):SXy (SE ρ) (exprT ts i d) (exprT ts' i d):=by
 unfold exprT
 rw [h.len]
 exact (expr_same hr h _).1 i 1 d
theorem aroundT_same (hr:Ren ρ) (h:TR ρ ts ts') (i d:Nat):SXy (SE ρ) (aroundT ts i d) (aroundT ts' i d):=by
 unfold aroundT
 rw [h.len]
 exact (expr_same hr h _).2.2.2 i d _ _ (sg 91 [] (by decide)) (sg 93 [] (by decide))
theorem cellR_same (hr:Ren ρ) (h:TR ρ ts ts') (i d:Nat):SXy (SS ρ) (cellR ts i d) (cellR ts' i d):=by
 unfold cellR
 rcases (aroundT_same hr h i d).cases with ⟨k,e1,e2⟩ | ⟨l,l',a,e1,e2,hl⟩
 ·rw [e1,e2];exact rfl
 rw [e1,e2]
 dsimp only
 rw [isT_same hr h a (sg 61 [] (by decide)),isT_same hr h a (sg 43 [61] (by decide)),isT_same hr h a (sg 45 [61] (by decide)),isT_same hr h a (sg 60 [62] (by decide))]
 by_cases c1:isT ts a [61]=true∨isT ts a [43,61]=true∨isT ts a [45,61]=true
 ·rw [if_pos c1,if_pos c1]
  rcases (exprT_same hr h (a+1) d).cases with ⟨k,e1,e2⟩ | ⟨r,r',b,e1,e2,hx⟩
  ·rw [e1,e2];exact rfl
  rw [e1,e2]
  dsimp only
  rw [eatT_same hr h b (sg 59 [] (by decide))]
  cases eatT ts b [59] with
  | error k=>exact rfl
  | ok b=>exact ⟨.mk (by split<;>simp;split<;>simp) (SL.two hl hx) (.nil _) (.nil _),rfl⟩
 ·rw [if_neg c1,if_neg c1]
  by_cases c2:isT ts a [60,62]=true
  ·rw [if_pos c2,if_pos c2]
   rcases (aroundT_same hr h (a+1) d).cases with ⟨k,e1,e2⟩ | ⟨r,r',b,e1,e2,hx⟩
   ·rw [e1,e2];exact rfl
   rw [e1,e2]
   dsimp only
   rw [eatT_same hr h b (sg 59 [] (by decide))]
   cases eatT ts b [59] with
   | error k=>exact rfl
   | ok b=>exact ⟨.mk (by simp) (SL.two hl hx) (.nil _) (.nil _),rfl⟩
  ·rw [if_neg c2,if_neg c2];exact rfl
theorem letR_same (hr:Ren ρ) (h:TR ρ ts ts') (i d:Nat):SXy (SS ρ) (letR ts i d) (letR ts' i d):=by
 unfold letR
 rcases (wordT_same hr h (i+1)).cases with ⟨k,e1,e2⟩ | ⟨s,s',a,e1,e2,hs⟩
 ·rw [e1,e2];exact rfl
 rw [e1,e2]
 dsimp only
 rw [eatT_same hr h a (sg 61 [] (by decide))]
 cases eatT ts a [61] with
 | error k=>exact rfl
 | ok a=>
  dsimp only
  rcases (exprT_same hr h a d).cases with ⟨k,e1,e2⟩ | ⟨r,r',b,e1,e2,hx⟩
  ·rw [e1,e2];exact rfl
  rw [e1,e2]
  dsimp only
  rw [eatT_same hr h b (sg 59 [] (by decide))]
  cases eatT ts b [59] with
  | error k=>exact rfl
  | ok b=>exact ⟨.mk (by simpa using hs.symm) (SL.one hx) (.nil _) (.nil _),rfl⟩
theorem forR_same (hr:Ren ρ) (h:TR ρ ts ts') (i:Nat):SXy (fun x x'=>x'.1=ρ x.1∧x'.2=x.2) (forR ts i) (forR ts' i):=by
 unfold forR
 rcases (wordT_same hr h (i+1)).cases with ⟨k,e1,e2⟩ | ⟨s,s',a,e1,e2,hs⟩
 ·rw [e1,e2];exact rfl
 rw [e1,e2]
 dsimp only
 rw [eatT_same hr h a (x:=[105,110]) (.inl (by decide))]
 cases eatT ts a [105,110] with
 | error k=>exact rfl
 | ok a=>
  dsimp only
  rw [eatT_same hr h a (sg 48 [] (by decide))]
  cases eatT ts a [48] with
  | error k=>exact rfl
  | ok a=>
   dsimp only
   rw [eatT_same hr h a (sg 46 [46] (by decide))]
   cases eatT ts a [46,46] with
   | error k=>exact rfl
   | ok a=>
    dsimp only
    rw [numT_same h]
    cases numT ts a with
    | error k=>exact rfl
    | ok x=>exact ⟨⟨hs,rfl⟩,rfl⟩
theorem stmtY_same (hr:Ren ρ) (h:TR ρ ts ts'):∀ f:Nat,
  (∀ i d,SXy (SS ρ) (stmtR ts f i d) (stmtR ts' f i d))∧(∀ i d,SXy (SSs ρ) (blockR ts f i d) (blockR ts' f i d))∧(∀ i d,SXy (SSs ρ) (stmtsR ts f i d) (stmtsR ts' f i d))
 | 0=>by
  refine ⟨fun i d=>?_,fun i d=>?_,fun i d=>?_⟩
  ·unfold stmtR;exact rfl
  ·unfold blockR;exact rfl
  ·unfold stmtsR;exact rfl
 | f+1=>by
  obtain ⟨I1,I2,I3⟩:=stmtY_same hr h f
  refine ⟨fun i d=>?_,fun i d=>?_,fun i d=>?_⟩
  ·unfold stmtR
   rw [isT_same hr h i (sg 91 [] (by decide)),isT_same hr h i (x:=[108,101,116]) (.inl (by decide)),isT_same hr h i (x:=[105,102]) (.inl (by decide)),isT_same hr h i (x:=[102,111,114]) (.inl (by decide))]
   split
   ·exact cellR_same hr h i d
   split
   ·exact letR_same hr h i d
   split
   ·rcases (exprT_same hr h (i+1) d).cases with ⟨k,e1,e2⟩ | ⟨e,e',a,e1,e2,hx⟩
    ·rw [e1,e2];exact rfl
    rw [e1,e2]
    dsimp only
    rcases (I2 a d).cases with ⟨k,e1,e2⟩ | ⟨b,b',a,e1,e2,hb⟩
    ·rw [e1,e2];exact rfl
    rw [e1,e2]
    dsimp only
    rw [isT_same hr h a (x:=[101,108,115,101]) (.inl (by decide))]
    split
    ·rcases (I2 (a+1) d).cases with ⟨k,e1,e2⟩ | ⟨c,c',a,e1,e2,hc⟩
     ·rw [e1,e2];exact rfl
     rw [e1,e2]
     exact ⟨.mk (by simp) (SL.one hx) hb hc,rfl⟩
    ·exact ⟨.mk (by simp) (SL.one hx) hb (.nil _),rfl⟩
   split
   ·rcases (forR_same hr h i).cases with ⟨k,e1,e2⟩ | ⟨x,x',a,e1,e2,hx⟩
    ·rw [e1,e2];exact rfl
    rw [e1,e2]
    dsimp only
    rcases (I2 a d).cases with ⟨k,e1,e2⟩ | ⟨b,b',a,e1,e2,hb⟩
    ·rw [e1,e2];exact rfl
    rw [e1,e2]
    obtain ⟨s,n⟩:=x
    obtain ⟨s',n'⟩:=x'
    obtain ⟨hs,rfl⟩:=hx
    exact ⟨.mk (by simpa using hs.symm) (.nil _) hb (.nil _),rfl⟩
   ·exact rfl
  ·unfold blockR
   rw [isT_same hr h i (sg 123 [] (by decide))]
   split
   ·exact rfl
   split
   ·rcases (I3 (i+1) (d+1)).cases with ⟨k,e1,e2⟩ | ⟨l,l',a,e1,e2,hx⟩
    ·rw [e1,e2];exact rfl
    rw [e1,e2]
    dsimp only
    rw [eatT_same hr h a (sg 125 [] (by decide))]
    cases eatT ts a [125] with
    | error k=>exact rfl
    | ok a=>exact ⟨hx,rfl⟩
   ·exact rfl
  ·unfold stmtsR
   rw [isT_same hr h i (sg 125 [] (by decide))]
   split
   ·exact ⟨.nil _,rfl⟩
   rcases (I1 i d).cases with ⟨k,e1,e2⟩ | ⟨x,x',a,e1,e2,hx⟩
   ·rw [e1,e2];exact rfl
   rw [e1,e2]
   dsimp only
   rcases (I3 a d).cases with ⟨k,e1,e2⟩ | ⟨l,l',b,e1,e2,hl⟩
   ·rw [e1,e2];exact rfl
   rw [e1,e2]
   exact ⟨.cons hx hl,rfl⟩
theorem paramsR_same (hr:Ren ρ) (h:TR ρ ts ts'):∀ f i:Nat,SXy (fun l l'=>l'=l.map ρ) (paramsR ts f i) (paramsR ts' f i)
 | 0,i=>by unfold paramsR;exact rfl
 | f+1,i=>by
  unfold paramsR
  rcases (wordT_same hr h i).cases with ⟨k,e1,e2⟩ | ⟨s,s',a,e1,e2,hs⟩
  ·rw [e1,e2];exact rfl
  rw [e1,e2]
  dsimp only
  rw [isT_same hr h a (sg 44 [] (by decide))]
  split
  ·rcases (paramsR_same hr h f (a+1)).cases with ⟨k,e1,e2⟩ | ⟨l,l',b,e1,e2,hl⟩
   ·rw [e1,e2];exact rfl
   rw [e1,e2]
   exact ⟨by rw [hs,hl];rfl,rfl⟩
  ·exact ⟨by rw [hs];rfl,rfl⟩
theorem needsR_same (hr:Ren ρ) (h:TR ρ ts ts'):∀ f i:Nat,SXy (SEs ρ) (needsR ts f i) (needsR ts' f i)
 | 0,i=>by unfold needsR;exact rfl
 | f+1,i=>by
  unfold needsR
  rw [isT_same hr h i (x:=[110,101,101,100]) (.inl (by decide))]
  split
  ·rcases (exprT_same hr h (i+1) 1).cases with ⟨k,e1,e2⟩ | ⟨e,e',a,e1,e2,hx⟩
   ·rw [e1,e2];exact rfl
   rw [e1,e2]
   dsimp only
   rw [eatT_same hr h a (sg 59 [] (by decide))]
   cases eatT ts a [59] with
   | error k=>exact rfl
   | ok a=>
    dsimp only
    rcases (needsR_same hr h f a).cases with ⟨k,e1,e2⟩ | ⟨l,l',b,e1,e2,hl⟩
    ·rw [e1,e2];exact rfl
    rw [e1,e2]
    exact ⟨.cons hx hl,rfl⟩
  ·exact ⟨.nil _,rfl⟩
theorem bodyR_same (hr:Ren ρ) (h:TR ρ ts ts'):∀ f i:Nat,SXy (SSs ρ) (bodyR ts f i) (bodyR ts' f i)
 | 0,i=>by unfold bodyR;exact rfl
 | f+1,i=>by
  unfold bodyR
  rw [isT_same hr h i (x:=[103,105,118,101]) (.inl (by decide)),isT_same hr h i (sg 125 [] (by decide))]
  split
  ·exact ⟨.nil _,rfl⟩
  have hst:SXy (SS ρ) (stmtT ts i 1) (stmtT ts' i 1):=by unfold stmtT;rw [h.len];exact (stmtY_same hr h _).1 i 1
  rcases hst.cases with ⟨k,e1,e2⟩ | ⟨x,x',a,e1,e2,hx⟩
  ·rw [e1,e2];exact rfl
  rw [e1,e2]
  dsimp only
  rcases (bodyR_same hr h f a).cases with ⟨k,e1,e2⟩ | ⟨l,l',b,e1,e2,hl⟩
  ·rw [e1,e2];exact rfl
  rw [e1,e2]
  exact ⟨.cons hx hl,rfl⟩
theorem giveR_same (hr:Ren ρ) (h:TR ρ ts ts') (i:Nat):SXy (SEs ρ) (giveR ts i) (giveR ts' i):=by
 unfold giveR
 rw [isT_same hr h i (x:=[103,105,118,101]) (.inl (by decide))]
 split
 ·rcases (exprT_same hr h (i+1) 1).cases with ⟨k,e1,e2⟩ | ⟨e,e',a,e1,e2,hx⟩
  ·rw [e1,e2];exact rfl
  rw [e1,e2]
  dsimp only
  rw [eatT_same hr h a (sg 59 [] (by decide))]
  cases eatT ts a [59] with
  | error k=>exact rfl
  | ok a=>exact ⟨.cons hx (.nil _),rfl⟩
 ·exact ⟨.nil _,rfl⟩
theorem headR_same (hr:Ren ρ) (h:TR ρ ts ts'):SXy (fun x x'=>x'.1=ρ x.1∧x'.2=x.2.map ρ) (headR ts) (headR ts'):=by
 unfold headR
 rw [eatT_same hr h 0 (x:=[111,112]) (.inl (by decide))]
 cases eatT ts 0 [111,112] with
 | error k=>exact rfl
 | ok a=>
  dsimp only
  rcases (wordT_same hr h a).cases with ⟨k,e1,e2⟩ | ⟨s,s',a,e1,e2,hs⟩
  ·rw [e1,e2];exact rfl
  rw [e1,e2]
  dsimp only
  rw [eatT_same hr h a (sg 40 [] (by decide))]
  cases eatT ts a [40] with
  | error k=>exact rfl
  | ok a=>
   dsimp only
   have hp:SXy (fun l l'=>l'=l.map ρ) (paramsT ts a) (paramsT ts' a):=by
    unfold paramsT
    rw [isT_same hr h a (sg 41 [] (by decide)),h.len]
    split
    ·exact ⟨rfl,rfl⟩
    ·exact paramsR_same hr h _ _
   rcases hp.cases with ⟨k,e1,e2⟩ | ⟨ps,ps',a,e1,e2,hps⟩
   ·rw [e1,e2];exact rfl
   rw [e1,e2]
   dsimp only
   rw [eatT_same hr h a (sg 41 [] (by decide))]
   cases eatT ts a [41] with
   | error k=>exact rfl
   | ok a=>
    dsimp only
    rw [eatT_same hr h a (sg 123 [] (by decide))]
    cases eatT ts a [123] with
    | error k=>exact rfl
    | ok a=>exact ⟨⟨hs,hps⟩,rfl⟩
structure SD (ρ:Sec→Sec) (d d':Df):Prop where
 name:d'.name=ρ d.name
 params:d'.params=d.params.map ρ
 needs:SEs ρ d.needs d'.needs
 body:SSs ρ d.body d'.body
 give:SEs ρ d.give d'.give
theorem defR_same (hr:Ren ρ) (h:TR ρ ts ts'):SXy (SD ρ) (defR ts) (defR ts'):=by
 unfold defR
 rcases (headR_same hr h).cases with ⟨k,e1,e2⟩ | ⟨x,x',a,e1,e2,hx⟩
 ·rw [e1,e2];exact rfl
 rw [e1,e2]
 dsimp only
 rw [h.len]
 rcases (needsR_same hr h (ts.length+1) a).cases with ⟨k,e1,e2⟩ | ⟨n,n',a,e1,e2,hn⟩
 ·rw [e1,e2];exact rfl
 rw [e1,e2]
 dsimp only
 rcases (bodyR_same hr h (ts.length+1) a).cases with ⟨k,e1,e2⟩ | ⟨b,b',a,e1,e2,hb⟩
 ·rw [e1,e2];exact rfl
 rw [e1,e2]
 dsimp only
 rcases (giveR_same hr h a).cases with ⟨k,e1,e2⟩ | ⟨g,g',a,e1,e2,hg⟩
 ·rw [e1,e2];exact rfl
 rw [e1,e2]
 dsimp only
 rw [eatT_same hr h a (sg 125 [] (by decide))]
 cases eatT ts a [125] with
 | error k=>exact rfl
 | ok a=>exact ⟨⟨hx.1,hx.2,hn,hb,hg⟩,rfl⟩
theorem parseR_same (hr:Ren ρ) (h:TR ρ ts ts') {d:Df} (hd:parseR ts=.ok d):∃ d',parseR ts'=.ok d'∧SD ρ d d':=by
 unfold parseR at hd⊢
 rcases (defR_same hr h).cases with ⟨k,e1,e2⟩ | ⟨x,x',a,e1,e2,hx⟩
 ·rw [e1] at hd;cases hd
 rw [e1] at hd
 rw [e2]
 dsimp only at hd⊢
 rw [h.kind]
 split at hd
 ·cases hd
  rename_i hk
  exact ⟨x',by rw [if_pos hk],hx⟩
 ·cases hd
end
end Go.Proofs.YtheanmadognhbaaGreatDoor
namespace Go.Proofs.YtheanmadognhbaaGreatDoor
open Go.RowKit Go.Maps
set_option linter.unusedSimpArgs false
set_option linter.unusedVariables false
structure RC (ρ:Sec→Sec) (s s':CS):Prop where
 decl:s'.decl=s.decl.map ρ
 known:∀ z,s'.known (ρ z)=s.known z
 ki:s'.ki=s.ki
 cells:s'.cells=s.cells
 flt:s'.flt.map Prod.fst=s.flt.map Prod.fst
section
variable {ρ:Sec→Sec} {s s':CS}
theorem RC.isSome (h:RC ρ s s'):s'.flt.isSome=s.flt.isSome:=by
 have:=congrArg Option.isSome h.flt
 simpa using this
theorem RC.fail (h:RC ρ s s') (c p p':Int):RC ρ (s.fail c p) (s'.fail c p'):=by
 have h5:=h.flt
 unfold CS.fail
 cases e:s.flt with
 | none=>
  cases e':s'.flt with
  | none=>exact ⟨h.decl,h.known,h.ki,h.cells,rfl⟩
  | some y=>rw [e,e'] at h5;cases h5
 | some x=>
  cases e':s'.flt with
  | none=>rw [e,e'] at h5;cases h5
  | some y=>exact h
theorem mem_ren (hr:Ren ρ) (l:List Sec) (x:Sec):(ρ x∈l.map ρ)↔x∈l:=by
 constructor
 ·intro h
  obtain ⟨y,hy,e⟩:=List.mem_map.1 h
  rw [← hr.inj _ _ e];exact hy
 ·exact fun h=>List.mem_map.2 ⟨x,h,rfl⟩
theorem idxOf_ren (hr:Ren ρ):∀ (l:List Sec) (x:Sec),(l.map ρ).idxOf (ρ x)=l.idxOf x
 | [],x=>rfl
 | y :: l,x=>by
  rw [List.map_cons,List.idxOf_cons,List.idxOf_cons,idxOf_ren hr l x]
  by_cases e:y=x
  ·subst e;simp
  ·have e2:ρ y≠ρ x:=fun h=>e (hr.inj _ _ h)
   rw [beq_eq_false_iff_ne.2 e,beq_eq_false_iff_ne.2 e2]
theorem idx_ren (hr:Ren ρ) (l:List Sec) (x:Sec):idx (l.map ρ) (ρ x)=idx l x:=by
 unfold idx
 simp only [mem_ren hr,idxOf_ren hr]
theorem RC.declare (hr:Ren ρ) (h:RC ρ s s') (nm:Sec) (t p p':Int):RC ρ (s.declare nm t p) (s'.declare (ρ nm) t p'):=by
 unfold CS.declare
 rw [h.decl,List.length_map]
 by_cases c1:nm∈s.decl
 ·rw [if_pos c1,if_pos ((mem_ren hr _ _).2 c1)]
  exact h.fail _ _ _
 ·rw [if_neg c1,if_neg (fun e=>c1 ((mem_ren hr _ _).1 e))]
  split
  ·exact h.fail _ _ _
  ·refine ⟨by simp,fun z=>?_,h.ki,h.cells,h.flt⟩
   show nput s'.known (ρ nm) t (ρ z)=nput s.known nm t z
   unfold nput
   by_cases e:z=nm
   ·rw [if_pos e,if_pos (by rw [e])]
   ·rw [if_neg e,if_neg (fun e2=>e (hr.inj _ _ e2)),h.known]
theorem RC.forget (hr:Ren ρ) (h:RC ρ s s') (k:Int):RC ρ (s.forget k) (s'.forget k):=by
 refine ⟨h.decl,fun z=>?_,h.ki,h.cells,h.flt⟩
 show (match idx s'.decl (ρ z) with | some c=>if k≤c then none else s'.known (ρ z) | none=>s'.known (ρ z))=(match idx s.decl z with | some c=>if k≤c then none else s.known z | none=>s.known z)
 rw [h.decl,idx_ren hr,h.known]
theorem RC.bump (h:RC ρ s s') (k:Int):RC ρ (s.bump k) (s'.bump k):=by
 refine ⟨h.decl,h.known,?_,h.cells,h.flt⟩
 show (fun j=>if ((j:Nat):Int)=k then wrap64 (s'.ki j+1) else s'.ki j)=_
 rw [h.ki]
 rfl
theorem RC.len (h:RC ρ s s'):s'.decl.length=s.decl.length:=by rw [h.decl,List.length_map]
theorem RC.look (hr:Ren ρ) (h:RC ρ s s') (nm:Sec) (p p':Int):(s'.look (ρ nm) p').1=(s.look nm p).1∧RC ρ (s.look nm p).2 (s'.look (ρ nm) p').2:=by
 have ht:∀ x,x∈kws→(ρ nm=x↔nm=x):=fun x hx=>⟨fun e=>hr.inj _ _ (by rw [e,hr.key _ hx]),fun e=>by rw [e,hr.key _ hx]⟩
 unfold CS.look
 have h1:=ht _ (show ([116,114,117,101]:Sec)∈kws by decide)
 have h2:=ht _ (show ([102,97,108,115,101]:Sec)∈kws by decide)
 by_cases c:nm=[116,114,117,101]∨nm=[102,97,108,115,101]
 ·rw [if_pos c,if_pos (by rw [h1,h2];exact c)]
  exact ⟨rfl,h⟩
 ·rw [if_neg c,if_neg (by rw [h1,h2];exact c),h.known]
  cases s.known nm with
  | none=>exact ⟨rfl,h.fail _ _ _⟩
  | some t=>exact ⟨rfl,h⟩
end
theorem SE.inv {ρ:Sec→Sec} {k n:Int} {nm:Sec} {xs:List E} {p:Int} {e':E} (h:SE ρ (.mk k n nm xs p) e'):∃ xs' p',e'=.mk k n (if k=2 then ρ nm else nm) xs' p'∧SEs ρ xs xs':=by
 obtain ⟨k',n',nm',xs',p'⟩:=e'
 unfold SE at h
 rw [mapE_mk,mapE_mk,ite_self] at h
 injection h with h1 h2 h3 h4
 subst h1 h2
 exact ⟨xs',p',by rw [h3],h4⟩
theorem SEs.inv_nil {ρ:Sec→Sec} {l:List E} (h:SEs ρ [] l):l=[]:=by
 cases l with
 | nil=>rfl
 | cons e es=>unfold SEs at h;rw [mapL_nil,mapL_cons] at h;cases h
theorem SEs.inv_cons {ρ:Sec→Sec} {e:E} {es l:List E} (h:SEs ρ (e :: es) l):∃ e' es',l=e' :: es'∧SE ρ e e'∧SEs ρ es es':=by
 cases l with
 | nil=>unfold SEs at h;rw [mapL_nil,mapL_cons] at h;cases h
 | cons e' es'=>
  unfold SEs at h
  rw [mapL_cons,mapL_cons] at h
  injection h with h1 h2
  exact ⟨e',es',rfl,h1,h2⟩
theorem SS.inv {ρ:Sec→Sec} {k n:Int} {nm:Sec} {xs:List E} {bd els:List St} {p:Int} {x':St} (h:SS ρ (.mk k nm xs n bd els p) x'):∃ xs' bd' els' p',x'=.mk k (if k=1∨k=7∨k=8 then ρ nm else nm) xs' n bd' els' p'∧SEs ρ xs xs'∧SSs ρ bd bd'∧SSs ρ els els':=by
 obtain ⟨k',nm',xs',n',bd',els',p'⟩:=x'
 unfold SS at h
 rw [mapS_mk,mapS_mk,ite_self] at h
 injection h with h1 h2 h3 h4 h5 h6
 subst h1 h4
 exact ⟨xs',bd',els',p',by rw [h2],h3,h5,h6⟩
theorem SSs.inv_nil {ρ:Sec→Sec} {l:List St} (h:SSs ρ [] l):l=[]:=by
 cases l with
 | nil=>rfl
 | cons e es=>unfold SSs at h;rw [mapB_nil,mapB_cons] at h;cases h
theorem SSs.inv_cons {ρ:Sec→Sec} {e:St} {es l:List St} (h:SSs ρ (e :: es) l):∃ e' es',l=e' :: es'∧SS ρ e e'∧SSs ρ es es':=by
 cases l with
 | nil=>unfold SSs at h;rw [mapB_nil,mapB_cons] at h;cases h
 | cons e' es'=>
  unfold SSs at h
  rw [mapB_cons,mapB_cons] at h
  injection h with h1 h2
  exact ⟨e',es',rfl,h1,h2⟩
mutual
theorem exprC_same {ρ:Sec→Sec} (hr:Ren ρ):∀ (e e':E) (s s':CS),SE ρ e e'→RC ρ s s'→(exprC s' e').1=(exprC s e).1∧RC ρ (exprC s e).2 (exprC s' e').2
 | .mk k n nm xs p,e',s,s',he,h=>by
  obtain ⟨xs',p',rfl,hx⟩:=he.inv
  unfold exprC
  by_cases c2:k=2
  ·rw [if_pos c2,if_pos c2,if_pos c2]
   exact h.look hr nm p p'
  rw [if_neg c2,if_neg c2,if_neg c2]
  by_cases c3:k=3
  ·rw [if_pos c3,if_pos c3]
   exact ⟨rfl,typedC_same hr xs xs' _ _ 1 hx ⟨h.decl,h.known,h.ki,by show wrap64 (s'.cells+1)=wrap64 (s.cells+1);rw [h.cells],h.flt⟩⟩
  rw [if_neg c3,if_neg c3]
  by_cases c5:k=5
  ·rw [if_pos c5,if_pos c5]
   exact ⟨rfl,typedC_same hr xs xs' _ _ 1 hx h⟩
  rw [if_neg c5,if_neg c5]
  by_cases c4:k=4
  ·rw [if_pos c4,if_pos c4]
   exact ⟨rfl,typedC_same hr xs xs' _ _ 2 hx h⟩
  rw [if_neg c4,if_neg c4]
  by_cases c6:k=6
  ·rw [if_pos c6,if_pos c6]
   by_cases c0:(opr nm).1=0
   ·rw [if_pos c0,if_pos c0]
    exact ⟨rfl,alikeC_same hr xs xs' _ _ hx h⟩
   ·rw [if_neg c0,if_neg c0]
    exact ⟨rfl,typedC_same hr xs xs' _ _ _ hx h⟩
  ·rw [if_neg c6,if_neg c6]
   exact ⟨rfl,h⟩
theorem typedC_same {ρ:Sec→Sec} (hr:Ren ρ):∀ (xs xs':List E) (s s':CS) (want:Int),SEs ρ xs xs'→RC ρ s s'→RC ρ (typedC s want xs) (typedC s' want xs')
 | [],xs',s,s',want,hx,h=>by
  rw [hx.inv_nil]
  unfold typedC
  exact h
 | e :: es,xs',s,s',want,hx,h=>by
  obtain ⟨e',es',rfl,h1,h2⟩:=hx.inv_cons
  unfold typedC
  obtain ⟨k1,k2⟩:=exprC_same hr e e' s s' h1 h
  refine typedC_same hr es es' _ _ want h2 ?_
  rw [k1]
  split
  ·exact k2
  ·exact k2.fail _ _ _
theorem alikeC_same {ρ:Sec→Sec} (hr:Ren ρ):∀ (xs xs':List E) (s s':CS),SEs ρ xs xs'→RC ρ s s'→RC ρ (alikeC s xs) (alikeC s' xs')
 | [],xs',s,s',hx,h=>by
  rw [hx.inv_nil]
  unfold alikeC
  exact h
 | e :: es,xs',s,s',hx,h=>by
  obtain ⟨e',es',rfl,h1,h2⟩:=hx.inv_cons
  unfold alikeC
  obtain ⟨k1,k2⟩:=exprC_same hr e e' s s' h1 h
  rw [k1]
  exact typedC_same hr es es' _ _ _ h2 k2
end
theorem kindY_same {ρ:Sec→Sec} {x x':St} (h:SS ρ x x'):x'.kind=x.kind:=by
 obtain ⟨k,nm,xs,n,bd,els,p⟩:=x
 obtain ⟨_,_,_,_,rfl,-⟩:=h.inv
 rfl
mutual
theorem stmtC_same {ρ:Sec→Sec} (hr:Ren ρ):∀ (x x':St) (s s':CS),SS ρ x x'→RC ρ s s'→RC ρ (stmtC s x) (stmtC s' x')
 | .mk k nm xs n bd els p,x',s,s',hx,h=>by
  obtain ⟨xs',bd',els',p',rfl,h1,h2,h3⟩:=hx.inv
  unfold stmtC
  by_cases c1:k=1
  ·rw [if_pos c1,if_pos c1,if_pos (.inl c1)]
   cases xs with
   | nil=>rw [h1.inv_nil];exact h
   | cons e es=>
    obtain ⟨e',es',rfl,h4,h5⟩:=h1.inv_cons
    obtain ⟨k1,k2⟩:=exprC_same hr e e' s s' h4 h
    dsimp only
    rw [k1]
    exact k2.declare hr nm _ _ _
  rw [if_neg c1,if_neg c1]
  by_cases c6:k=6
  ·rw [if_pos c6,if_pos c6]
   have a1:=typedC_same hr xs xs' s s' 2 h1 h
   have a2:=(stmtsC_same hr bd bd' _ _ h2 a1).forget hr (typedC s 2 xs).decl.length
   rw [a1.len]
   have a3:=(stmtsC_same hr els els' _ _ h3 a2).forget hr ((stmtsC (typedC s 2 xs) bd).forget (typedC s 2 xs).decl.length).decl.length
   rw [a2.len]
   exact a3
  rw [if_neg c6,if_neg c6]
  by_cases c7:k=7∨k=8
  ·rw [if_pos c7,if_pos c7,show (if k=1∨k=7∨k=8 then ρ nm else nm)=ρ nm from if_pos (.inr c7),h.len]
   refine (stmtsC_same hr bd bd' _ _ h2 ?_).forget hr _
   have a1:=h.declare hr nm 1 p p'
   split
   ·exact a1.fail _ _ _
   ·exact a1
  ·rw [if_neg c7,if_neg c7]
   exact typedC_same hr xs xs' s s' 1 h1 h
theorem stmtsC_same {ρ:Sec→Sec} (hr:Ren ρ):∀ (xs xs':List St) (s s':CS),SSs ρ xs xs'→RC ρ s s'→RC ρ (stmtsC s xs) (stmtsC s' xs')
 | [],xs',s,s',hx,h=>by
  rw [hx.inv_nil]
  unfold stmtsC
  exact h
 | x :: xs,l',s,s',hx,h=>by
  obtain ⟨x',xs',rfl,h1,h2⟩:=hx.inv_cons
  unfold stmtsC
  refine stmtsC_same hr xs xs' _ _ h2 (stmtC_same hr x x' _ _ h1 ?_)
  rw [kindY_same h1]
  exact h.bump _
end
theorem parC_same {ρ:Sec→Sec} (hr:Ren ρ):∀ (l:List Sec) (s s':CS),RC ρ s s'→RC ρ (parC s l) (parC s' (l.map ρ))
 | [],s,s',h=>h
 | x :: l,s,s',h=>parC_same hr l _ _ (h.declare hr x 1 0 0)
mutual
theorem sizeE_same {ρ:Sec→Sec}:∀ (e e':E),SE ρ e e'→sizeE e'=sizeE e
 | .mk k n nm xs p,e',he=>by
  obtain ⟨xs',p',rfl,hx⟩:=he.inv
  unfold sizeE
  rw [sizeL_same xs xs' hx]
theorem sizeL_same {ρ:Sec→Sec}:∀ (xs xs':List E),SEs ρ xs xs'→sizeL xs'=sizeL xs
 | [],xs',hx=>by rw [hx.inv_nil]
 | e :: es,xs',hx=>by
  obtain ⟨e',es',rfl,h1,h2⟩:=hx.inv_cons
  rw [sizeL_cons,sizeL_cons,sizeE_same e e' h1,sizeL_same es es' h2]
end
mutual
theorem stS_same {ρ:Sec→Sec}:∀ (x x':St),SS ρ x x'→stS x'=stS x
 | .mk k nm xs n bd els p,x',hx=>by
  obtain ⟨xs',bd',els',p',rfl,h1,h2,h3⟩:=hx.inv
  unfold stS
  rw [sizeL_same xs xs' h1,stB_same bd bd' 0 h2,stB_same els els' 0 h3]
theorem stB_same {ρ:Sec→Sec}:∀ (xs xs':List St) (a:Nat),SSs ρ xs xs'→stB a xs'=stB a xs
 | [],xs',a,hx=>by rw [hx.inv_nil]
 | x :: xs,l',a,hx=>by
  obtain ⟨x',xs',rfl,h1,h2⟩:=hx.inv_cons
  unfold stB
  rw [stS_same x x' h1,stB_same xs xs' _ h2]
end
end Go.Proofs.YtheanmadognhbaaGreatDoor
namespace Go.Proofs.YtheanmadognhbaaGreatDoor
open Go.RowKit Go.Maps
set_option linter.unusedSimpArgs false
set_option linter.unusedVariables false
def qn (x:Sec):Sec:=if x∈kws then x else 81 :: 95 :: x
theorem q_new (x:Sec):(81 :: 95 :: x:Sec)∉kws:=by simp [kws]
theorem qn_key {x:Sec} (h:x∈kws):qn x=x:=if_pos h
theorem qn_new {x:Sec} (h:x∉kws):qn x=81 :: 95 :: x:=if_neg h
theorem ren_qn:Ren qn:=by
 refine ⟨fun x h=>qn_key h,fun x h=>by rw [qn_new h];exact q_new x,fun x y e=>?_,fun x h=>?_⟩
 ·by_cases hx:x∈kws
  ·by_cases hy:y∈kws
   ·rwa [qn_key hx,qn_key hy] at e
   ·rw [qn_key hx,qn_new hy] at e
    exact absurd (e ▸ hx) (q_new y)
  ·by_cases hy:y∈kws
   ·rw [qn_new hx,qn_key hy] at e
    exact absurd (e ▸ hy) (q_new x)
   ·rw [qn_new hx,qn_new hy] at e
    injection e with _ e
    injection e
 ·by_cases hx:x∈kws
  ·rwa [qn_key hx]
  ·rw [qn_new hx]
   exact ⟨81,95 :: x,rfl,by decide⟩
def rnT (ρ:Sec→Sec) (t:Tok):Tok:=if t.kind=1 then {t with text:=ρ t.text } else t
theorem rnT_kind (ρ:Sec→Sec) (t:Tok):(rnT ρ t).kind=t.kind:=by unfold rnT;split<;>rfl
theorem first_one {x:Sec} {k n:Nat} (h:firstN x=(k,n)) (hk:k=1):nameN x=n∧0 < nameN x:=by
 unfold firstN at h
 split at h
 ·injection h with h1 h2
  exact ⟨h2,by assumption⟩
 ·split at h
  ·injection h with h1 h2;omega
  ·injection h with h1 h2;omega
theorem name_form {x:Sec} (h:0 < nameN x):nameN x=runN isWrd x∧Wd x∧runN isWrd x≤16:=by
 unfold nameN at h⊢
 split at h
 ·rename_i hc
  rw [if_pos hc]
  refine ⟨rfl,?_,hc.2⟩
  cases x with
  | nil=>simp at hc
  | cons c l=>exact ⟨c,l,rfl,by simpa using hc.1⟩
 ·omega
theorem first_q {x:Sec} (h:firstN x=(1,x.length)) (hl:x.length≤13):firstN (81 :: 95 :: x)=(1,(81 :: 95 :: x:Sec).length):=by
 obtain ⟨h1,h2⟩:=first_one h rfl
 obtain ⟨h3,h4,h5⟩:=name_form h2
 have hr:runN isWrd (81 :: 95 :: x)=x.length+2:=by
  rw [runN,if_pos (by decide),runN,if_pos (by decide),← h3,h1]
 have hn:nameN (81 :: 95 :: x)=x.length+2:=by
  unfold nameN
  rw [hr,if_pos ⟨show isLet 81=true by decide,by omega⟩]
 unfold firstN
 rw [hn,if_pos (by omega)]
 rfl
theorem chain_ren:∀ (ts:List Tok),Chain ts→(∀ t∈ts,t.kind=1→t.text∉kws→t.text.length≤13)→Chain (ts.map (rnT qn))
 | [],h,_=>h
 | t :: ts,h,hl=>by
  rcases h with ⟨rfl,h1,h2⟩ | ⟨h1,h2,h3⟩
  ·refine .inl ⟨rfl,by rw [rnT_kind];exact h1,?_⟩
   unfold rnT
   rw [if_neg (by omega)]
   exact h2
  ·refine .inr ?_
   by_cases hk:t.kind=1
   ·by_cases hq:t.text∈kws
    ·have e:rnT qn t=t:=by unfold rnT;rw [if_pos hk,qn_key hq]
     rw [e]
     exact ⟨h1,h2,chain_ren ts h3 (fun x hx=>hl x (List.mem_cons_of_mem _ hx))⟩
    ·have e:(rnT qn t).text=81 :: 95 :: t.text:=by unfold rnT;rw [if_pos hk];exact qn_new hq
     rw [rnT_kind,e,hk]
     rw [hk] at h2
     exact ⟨by simp,first_q h2 (hl t (List.mem_cons_self ..) hk hq),chain_ren ts h3 (fun x hx=>hl x (List.mem_cons_of_mem _ hx))⟩
   ·have e:rnT qn t=t:=by unfold rnT;rw [if_neg hk]
    rw [e]
    exact ⟨h1,h2,chain_ren ts h3 (fun x hx=>hl x (List.mem_cons_of_mem _ hx))⟩
theorem chain_end:∀ {ts:List Tok},Chain ts→∃ t,ts[ts.length - 1]?=some t∧t.kind=4
 | [],h=>h.elim
 | t :: ts,h=>by
  rcases h with ⟨rfl,h1,h2⟩ | ⟨h1,h2,h3⟩
  ·exact ⟨t,rfl,h1⟩
  ·obtain ⟨x,hx,hk⟩:=chain_end h3
   have hp:0 < ts.length:=by
    cases ts with
    | nil=>exact h3.elim
    | cons=>simp
   refine ⟨x,?_,hk⟩
   rw [List.length_cons,show ts.length+1 - 1=(ts.length - 1)+1 by omega,List.getElem?_cons_succ]
   exact hx
theorem chain_word {ts:List Tok} (h:Chain ts) {i:Nat} (hk:kAt ts i=1):Wd (xAt ts i):=by
 have hi:i+1 < ts.length:=by
  obtain ⟨t,ht,h4⟩:=chain_end h
  rcases Nat.lt_trichotomy (i+1) ts.length with h1 | h1 | h1
  ·exact h1
  ·have:kAt ts i=4:=by
    unfold kAt
    rw [show i=ts.length - 1 by omega,ht]
    exact h4
   omega
  ·have:kAt ts i=4:=by
    unfold kAt
    rw [List.getElem?_eq_none (by omega)]
    rfl
   omega
 obtain ⟨h1,h2⟩:=chain_at h i hi
 exact (name_form (first_one h2 hk).2).2.1
theorem tr_of_map {ρ:Sec→Sec} {ts us:List Tok} (hc:Chain ts) (h:us.map (fun t=>(t.kind,t.text))=(ts.map (rnT ρ)).map (fun t=>(t.kind,t.text))):TR ρ ts us:=by
 have hat:∀ i:Nat,(us[i]?).map (fun t:Tok=>(t.kind,t.text))=(ts[i]?).map (fun t:Tok=>(t.kind,(rnT ρ t).text)):=by
  intro i
  have:=congrArg (fun l=>l[i]?) h
  simp only [List.getElem?_map,Option.map_map] at this
  rw [this]
  cases ts[i]? with
  | none=>rfl
  | some t=>simp [rnT_kind]
 have hk:∀ i,kAt us i=kAt ts i:=by
  intro i
  have:=hat i
  unfold kAt
  cases e:us[i]?<;>cases e2:ts[i]?<;>rw [e,e2] at this<;>simp at this⊢
  exact this.1
 have hx:∀ i,xAt us i=((ts[i]?).map (fun t:Tok=>(rnT ρ t).text)).getD []:=by
  intro i
  have:=hat i
  unfold xAt
  cases e:us[i]?<;>cases e2:ts[i]?<;>rw [e,e2] at this<;>simp at this⊢
  exact this.2
 refine ⟨by have:=congrArg List.length h;simpa using this,hk,fun i hi=>⟨?_,chain_word hc hi⟩,fun i hi=>?_⟩
 ·rw [hx]
  unfold kAt xAt at *
  cases e2:ts[i]? with
  | none=>rw [e2] at hi;simp at hi
  | some t=>
   rw [e2] at hi
   have hi:t.kind=1:=by simpa using hi
   simp [rnT,hi]
 ·rw [hx]
  unfold kAt xAt at *
  cases e2:ts[i]? with
  | none=>simp
  | some t=>
   rw [e2] at hi
   have hi:t.kind≠1:=by simpa using hi
   simp [rnT,hi]
end Go.Proofs.YtheanmadognhbaaGreatDoor
namespace Go.Proofs.YtheanmadognhbaaGreatDoor
open Go.RowKit Go.Maps
set_option linter.unusedSimpArgs false
set_option linter.unusedVariables false
theorem SSs.len {ρ:Sec→Sec}:∀ (xs xs':List St),SSs ρ xs xs'→xs'.length=xs.length
 | [],xs',h=>by rw [h.inv_nil]
 | x :: xs,l',h=>by
  obtain ⟨x',xs',rfl,h1,h2⟩:=h.inv_cons
  rw [List.length_cons,List.length_cons,SSs.len xs xs' h2]
section
variable {ρ:Sec→Sec} (hr:Ren ρ)
include hr
set_option linter.unusedSectionVars false
theorem ren_eq {x t:Sec} (ht:t∈kws):ρ x=t↔x=t:=by
 refine ⟨fun e=>hr.inj x t (e.trans (hr.key t ht).symm),fun e=>by rw [e];exact hr.key t ht⟩
theorem isTF_ren (x:Sec):isTF (ρ x)=isTF x:=by
 have h1:=ren_eq hr (x:=x) (t:=[116,114,117,101]) (by decide)
 have h2:=ren_eq hr (x:=x) (t:=[102,97,108,115,101]) (by decide)
 unfold isTF
 simp only [h1,h2]
theorem isTF_key {x:Sec} (h:isTF x=true):ρ x=x:=by
 unfold isTF at h
 simp only [Bool.or_eq_true,decide_eq_true_eq] at h
 rcases h with rfl | rfl<;>exact hr.key _ (by decide)
theorem idxF_ren:∀ (l:List Sec) (x:Sec) (i:Nat),idxF (l.map ρ) (ρ x) i=idxF l x i
 | [],_,_=>rfl
 | y :: l,x,i=>by
  rw [List.map_cons]
  unfold idxF
  by_cases e:y=x
  ·rw [if_pos e,if_pos (by rw [e])]
  ·rw [if_neg e,if_neg (fun h=>e (hr.inj _ _ h)),idxF_ren l x (i+1)]
mutual
theorem fixE_same:∀ (e e':E),SE ρ e e'→fixE e'=fixE e
 | .mk k n nm xs p,e',h=>by
  obtain ⟨xs',p',rfl,h1⟩:=h.inv
  unfold fixE
  rw [fixL_same xs xs' h1]
  by_cases h3:k=3
  ·rw [if_pos h3,if_pos h3]
  ·rw [if_neg h3,if_neg h3]
   by_cases h2:k=2
   ·rw [if_pos h2,if_pos h2,if_pos h2,isTF_ren hr]
   ·rw [if_neg h2,if_neg h2]
theorem fixL_same:∀ (xs xs':List E),SEs ρ xs xs'→fixL xs'=fixL xs
 | [],xs',h=>by rw [h.inv_nil]
 | x :: xs,l',h=>by
  obtain ⟨x',xs',rfl,h1,h2⟩:=h.inv_cons
  unfold fixL
  rw [fixE_same x x' h1,fixL_same xs xs' h2]
end
mutual
theorem exV_same (c:List Int) (m:Nms):∀ (e e':E),SE ρ e e'→fixE e=true→exV c m e'=exV c m e
 | .mk k n nm xs p,e',h,hf=>by
  obtain ⟨xs',p',rfl,h1⟩:=h.inv
  unfold fixE at hf
  have hk3:k≠3:=fun e=>by rw [if_pos e] at hf;cases hf
  rw [if_neg hk3] at hf
  unfold exV
  by_cases h2:k=2
  ·rw [if_pos h2] at hf
   rw [if_pos h2,isTF_key hr hf]
   unfold exO
   simp only [h2]
   simp
  ·rw [if_neg h2] at hf
   rw [if_neg h2,exVs_same c m xs xs' h1 hf]
theorem exVs_same (c:List Int) (m:Nms):∀ (xs xs':List E),SEs ρ xs xs'→fixL xs=true→exVs c m xs'=exVs c m xs
 | [],xs',h,_=>by rw [h.inv_nil]
 | x :: xs,l',h,hf=>by
  obtain ⟨x',xs',rfl,h1,h2⟩:=h.inv_cons
  unfold fixL at hf
  rw [Bool.and_eq_true] at hf
  unfold exVs
  rw [exV_same c m x x' h1 hf.1,exVs_same c m xs xs' h2 hf.2]
end
section
variable {F F':Nv} (hl:∀ x,F'.lc (ρ x)=F.lc x)
include hl
mutual
theorem genE_ren:∀ (e e':E),SE ρ e e'→genE F' e'=genE F e
 | .mk k n nm xs p,e',h=>by
  have hf:=fixE_same hr _ _ h
  have hv:=exV_same hr blankP (lastE []) _ _ h
  obtain ⟨xs',p',rfl,h1⟩:=h.inv
  unfold genE
  rw [hf,genL_ren xs xs' h1]
  by_cases hx:fixE (.mk k n nm xs p)=true
  ·rw [if_pos hx,if_pos hx,hv hx]
  ·rw [if_neg hx,if_neg hx]
   by_cases h2:k=2
   ·rw [if_pos h2,if_pos h2,if_pos h2,hl]
   ·rw [if_neg h2,if_neg h2,if_neg h2]
theorem genL_ren:∀ (xs xs':List E),SEs ρ xs xs'→genL F' xs'=genL F xs
 | [],xs',h=>by rw [h.inv_nil];unfold genL;rfl
 | x :: xs,l',h=>by
  obtain ⟨x',xs',rfl,h1,h2⟩:=h.inv_cons
  unfold genL
  rw [genE_ren x x' h1,genL_ren xs xs' h2]
end
theorem needG_ren:∀ (xs xs':List E),SEs ρ xs xs'→needG F' xs'=needG F xs
 | [],xs',h=>by rw [h.inv_nil];rfl
 | x :: xs,l',h=>by
  obtain ⟨x',xs',rfl,h1,h2⟩:=h.inv_cons
  unfold needG
  rw [genE_ren hr hl x x' h1,needG_ren xs xs' h2]
theorem giveG_ren:∀ (xs xs':List E),SEs ρ xs xs'→giveG F' xs'=giveG F xs
 | [],xs',h=>by rw [h.inv_nil];rfl
 | x :: xs,l',h=>by
  obtain ⟨x',xs',rfl,h1,h2⟩:=h.inv_cons
  unfold giveG
  rw [genE_ren hr hl x x' h1,giveG_ren xs xs' h2]
variable (h7:∀ x,F'.c7 (ρ x)=F.c7 x) (h8:∀ x,F'.c8 (ρ x)=F.c8 x)
include h7 h8
mutual
theorem genS_ren:∀ (x x':St) (h:Nat) (lp:List Lp),SS ρ x x'→genS F' x' h lp=genS F x h lp
 | .mk k nm xs n bd els p,x',h,lp,hx=>by
  obtain ⟨xs',bd',els',p',rfl,e1,e2,e3⟩:=hx.inv
  have q1:=genL_ren hr hl xs xs' e1
  have q2:=fun h lp=>genB_ren bd bd' h lp e2
  have q3:=fun h lp=>genB_ren els els' h lp e3
  have q4:els'.length=els.length:=SSs.len _ _ e3
  unfold genS
  rw [q1]
  simp only [q2,q3,q4]
  by_cases k1:k=1
  ·rw [if_pos k1,if_pos k1,if_pos (Or.inl k1),hl]
  ·rw [if_neg k1,if_neg k1]
   by_cases k6:k=6
   ·rw [if_pos k6,if_pos k6]
   ·rw [if_neg k6,if_neg k6]
    by_cases k7:k=7
    ·rw [if_pos k7,if_pos k7,if_pos (Or.inr (Or.inl k7)),h7]
    ·rw [if_neg k7,if_neg k7]
     by_cases k8:k=8
     ·rw [if_pos k8,if_pos k8,if_pos (Or.inr (Or.inr k8)),h8,hl]
     ·rw [if_neg k8,if_neg k8]
theorem genB_ren:∀ (xs xs':List St) (h:Nat) (lp:List Lp),SSs ρ xs xs'→genB F' xs' h lp=genB F xs h lp
 | [],xs',h,lp,hx=>by rw [hx.inv_nil];unfold genB;rfl
 | x :: xs,l',h,lp,hx=>by
  obtain ⟨x',xs',rfl,h1,h2⟩:=hx.inv_cons
  rw [genB_cons,genB_cons,genS_ren x x' h lp h1,genB_ren xs xs' _ _ h2]
end
end
mutual
theorem declS_ren:∀ (x x':St),SS ρ x x'→(declS x').map (fun y=>(y.1,y.2.2))=(declS x).map (fun y=>(ρ y.1,y.2.2))
 | .mk k nm xs n bd els p,x',h=>by
  obtain ⟨xs',bd',els',p',rfl,e1,e2,e3⟩:=h.inv
  unfold declS
  rw [List.map_append,List.map_append,List.map_append,List.map_append,declB_ren bd bd' e2,declB_ren els els' e3]
  by_cases hk:k=1∨k=7∨k=8
  ·rw [if_pos hk,if_pos hk,if_pos hk]
   rfl
  ·rw [if_neg hk,if_neg hk]
   rfl
theorem declB_ren:∀ (xs xs':List St),SSs ρ xs xs'→(declB xs').map (fun y=>(y.1,y.2.2))=(declB xs).map (fun y=>(ρ y.1,y.2.2))
 | [],xs',h=>by rw [h.inv_nil];unfold declB;rfl
 | x :: xs,l',h=>by
  obtain ⟨x',xs',rfl,h1,h2⟩:=h.inv_cons
  unfold declB
  rw [List.map_append,List.map_append,declS_ren x x' h1,declB_ren xs xs' h2]
end
theorem opS_flt_same {d d':Df} (h:SD ρ d d'):(opS CS.new d').flt.isSome=(opS CS.new d).flt.isSome:=by
 have a0:RC ρ CS.new CS.new:=⟨rfl,fun _=>rfl,rfl,rfl,rfl⟩
 have a1:RC ρ (paramsC CS.new d.params) (paramsC CS.new d'.params):=by
  unfold paramsC
  rw [h.params,List.length_map]
  split
  ·exact a0.fail _ _ _
  ·exact parC_same hr _ _ _ a0
 have a2:RC ρ (opT CS.new d) (opT CS.new d'):=typedC_same hr _ _ _ _ 2 h.needs a1
 have a3:RC ρ (opB CS.new d) (opB CS.new d'):=stmtsC_same hr _ _ _ _ h.body a2
 have a4:RC ρ (opG CS.new d) (opG CS.new d'):=typedC_same hr _ _ _ _ 1 h.give a3
 have hst:stD d'=stD d:=by
  unfold stD
  rw [sizeL_same _ _ h.needs,sizeL_same _ _ h.give,stB_same _ _ 0 h.body]
 have a5:RC ρ (opS CS.new d) (opS CS.new d'):=by
  unfold opS
  rw [a4.isSome,hst]
  split
  ·exact a4
  ·split
   ·exact a4.fail _ _ _
   ·exact a4
 exact a5.isSome
theorem codeOf_ren {d d':Df} (h:SD ρ d d') (hi:Inc (declB d.body)) (hi':Inc (declB d'.body)):codeOf d'=codeOf d:=by
 have e1:=sortD_inc hi
 have e2:=sortD_inc hi'
 have hm:=declB_ren hr d.body d'.body h.body
 have n1:(declB d'.body).map (·.1)=((declB d.body).map (·.1)).map ρ:=by
  have:=congrArg (List.map Prod.fst) hm
  simpa [List.map_map,Function.comp_def] using this
 have hL:locN d'=(locN d).map ρ:=by
  unfold locN
  rw [e1,e2,n1,h.params,List.map_append]
 have hC:kindN 8 d'=(kindN 8 d).map ρ:=by
  have:=congrArg (fun l=>(l.filter (fun x=>decide (x.2=8))).map Prod.fst) hm
  unfold kindN
  rw [e1,e2]
  rw [List.filter_map,List.filter_map] at this
  simpa [List.map_map,Function.comp_def] using this
 have hg:genD d'=genD d:=by
  have f1:∀ x,(refV (locN d') (kindN 8 d')).lc (ρ x)=(refV (locN d) (kindN 8 d)).lc x:=fun x=>by
   show ((idxN (locN d') (ρ x):Nat):Int)=(idxN (locN d) x:Nat)
   unfold idxN
   rw [hL,idxF_ren hr]
  have f7:∀ x,(refV (locN d') (kindN 8 d')).c7 (ρ x)=(refV (locN d) (kindN 8 d)).c7 x:=f1
  have f8:∀ x,(refV (locN d') (kindN 8 d')).c8 (ρ x)=(refV (locN d) (kindN 8 d)).c8 x:=fun x=>by
   show (((locN d').length+idxN (kindN 8 d') (ρ x):Nat):Int)=(((locN d).length+idxN (kindN 8 d) x:Nat):Int)
   unfold idxN
   rw [hL,hC,idxF_ren hr,List.length_map]
  unfold genD genC
  dsimp only
  rw [needG_ren hr f1 _ _ h.needs,genB_ren hr f1 f7 f8 _ _ _ _ h.body,giveG_ren hr f1 _ _ h.give,h.params,List.length_map,hL,hC,List.length_map,List.length_map]
 unfold codeOf
 rw [opS_flt_same hr h,hg]
end
end Go.Proofs.YtheanmadognhbaaGreatDoor
