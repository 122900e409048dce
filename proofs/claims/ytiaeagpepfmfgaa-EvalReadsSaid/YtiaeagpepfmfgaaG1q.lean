import Derived.Test.YtiaeagpepfmfgaaC9q
namespace Go.Proofs.Ytiaeagpepfmfgaa
open Go.RowKit Go.Maps
set_option linter.unusedSimpArgs false
set_option linter.unusedVariables false
inductive E where
 | mk (kind num:Int) (name:Sec) (args:List E) (pos:Int)
inductive St where
 | mk (kind:Int) (name:Sec) (exprs:List E) (n:Int) (body els:List St) (pos:Int)
structure Df where
 name:Sec
 params:List Sec
 needs:List E
 body:List St
 give:List E
section
variable (ts:List Tok)
def kAt (i:Nat):Nat:=(ts[i]?.map (·.kind)).getD 4
def xAt (i:Nat):Sec:=(ts[i]?.map (·.text)).getD []
def pAt (i:Nat):Nat:=(ts[i]?.map (·.pos)).getD 0
def isT (i:Nat) (x:Sec):Bool:=kAt ts i != 4 && xAt ts i == x
def eatT (i:Nat) (x:Sec):Except Nat Nat:=if isT ts i x=true then .ok (i+1) else .error i
def wordT (i:Nat):Except Nat (Sec×Nat):=if kAt ts i=1∧xAt ts i∉kws then .ok (xAt ts i,i+1) else .error i
def numW (l:Sec):Int:=l.foldl (fun n c=>wrap64 (wrap64 (10*n)+((c.toNat:Int) - 48) % 256)) 0
def numT (i:Nat):Except Nat (Int×Nat):=if kAt ts i=2 then .ok (numW (xAt ts i),i+1) else .error i
def lvl (x:Sec):Nat:=
 if x=[124,124] then 1 else if x=[38,38] then 2
 else if x=[60]∨x=[60,61]∨x=[62]∨x=[62,61]∨x=[61,61]∨x=[33,61] then 3
 else if x=[43]∨x=[45] then 4 else if x=[42]∨x=[47]∨x=[37] then 5 else 0
mutual
def exprR:Nat→Nat→Nat→Nat→Except Nat (E×Nat)
 | 0,i,_,_=>.error i
 | f+1,i,least,dp=>match smallR f i dp with
  | .error k=>.error k
  | .ok (l,a)=>loopR f l a least 5 dp
def loopR:Nat→E→Nat→Nat→Nat→Nat→Except Nat (E×Nat)
 | 0,_,i,_,_,_=>.error i
 | f+1,l,i,least,most,dp=>
  if kAt ts i=3∧¬ (lvl (xAt ts i) < least∨most < lvl (xAt ts i)∨lvl (xAt ts i)=0) then
   match exprR f (i+1) (lvl (xAt ts i)+1) dp with
   | .error k=>.error k
   | .ok (r,a)=>loopR f (.mk 6 0 (xAt ts i) [l,r] (pAt ts i)) a least (if lvl (xAt ts i)=3 then 2 else lvl (xAt ts i)) dp
  else .ok (l,i)
def smallR:Nat→Nat→Nat→Except Nat (E×Nat)
 | 0,i,_=>.error i
 | f+1,i,dp=>
  if isT ts i [33]=true∨isT ts i [45]=true then
   if 12≤dp then .error i else match smallR f (i+1) (dp+1) with
    | .error k=>.error k
    | .ok (e,a)=>.ok (.mk (if xAt ts i=[45] then 5 else 4) 0 [] [e] (pAt ts i),a)
  else if isT ts i [91]=true then match aroundR f i dp [91] [93] with
   | .error k=>.error k
   | .ok (e,a)=>.ok (.mk 3 0 [] [e] (pAt ts i),a)
  else if isT ts i [40]=true then aroundR f i dp [40] [41]
  else if kAt ts i=2 then .ok (.mk 1 (numW (xAt ts i)) [] [] (pAt ts i),i+1)
  else if isT ts i [116,114,117,101]=true∨isT ts i [102,97,108,115,101]=true then .ok (.mk 2 0 (xAt ts i) [] (pAt ts i),i+1)
  else match wordT ts i with
   | .error k=>.error k
   | .ok (s,a)=>.ok (.mk 2 0 s [] (pAt ts i),a)
def aroundR:Nat→Nat→Nat→Sec→Sec→Except Nat (E×Nat)
 | 0,i,_,_,_=>.error i
 | f+1,i,dp,b,c=>
  if 12≤dp∧isT ts i b=true then .error i
  else if isT ts i b=true then match exprR f (i+1) 1 (dp+1) with
   | .error k=>.error k
   | .ok (e,a)=>match eatT ts a c with
    | .error k=>.error k
    | .ok a=>.ok (e,a)
  else .error i
end
def exprT (i dp:Nat):Except Nat (E×Nat):=exprR ts (4*ts.length+8) i 1 dp
def aroundT (i dp:Nat):Except Nat (E×Nat):=aroundR ts (4*ts.length+8) i dp [91] [93]
def cellR (i dp:Nat):Except Nat (St×Nat):=
 match aroundT ts i dp with
 | .error k=>.error k
 | .ok (l,a)=>
  if isT ts a [61]=true∨isT ts a [43,61]=true∨isT ts a [45,61]=true then
   match exprT ts (a+1) dp with
   | .error k=>.error k
   | .ok (r,b)=>match eatT ts b [59] with
    | .error k=>.error k
    | .ok b=>.ok (.mk (if isT ts a [61]=true then 2 else if isT ts a [43,61]=true then 3 else 4) [] [l,r] 0 [] [] (pAt ts i),b)
  else if isT ts a [60,62]=true then
   match aroundT ts (a+1) dp with
   | .error k=>.error k
   | .ok (r,b)=>match eatT ts b [59] with
    | .error k=>.error k
    | .ok b=>.ok (.mk 5 [] [l,r] 0 [] [] (pAt ts i),b)
  else .error a
def letR (i dp:Nat):Except Nat (St×Nat):=
 match wordT ts (i+1) with
 | .error k=>.error k
 | .ok (s,a)=>match eatT ts a [61] with
  | .error k=>.error k
  | .ok a=>match exprT ts a dp with
   | .error k=>.error k
   | .ok (e,a)=>match eatT ts a [59] with
    | .error k=>.error k
    | .ok a=>.ok (.mk 1 s [e] 0 [] [] (pAt ts i),a)
def forR (i:Nat):Except Nat ((Sec×Int)×Nat):=
 match wordT ts (i+1) with
 | .error k=>.error k
 | .ok (s,a)=>match eatT ts a [105,110] with
  | .error k=>.error k
  | .ok a=>match eatT ts a [48] with
   | .error k=>.error k
   | .ok a=>match eatT ts a [46,46] with
    | .error k=>.error k
    | .ok a=>match numT ts a with
     | .error k=>.error k
     | .ok (n,a)=>.ok ((s,n),a)
mutual
def stmtR:Nat→Nat→Nat→Except Nat (St×Nat)
 | 0,i,_=>.error i
 | f+1,i,dp=>
  if isT ts i [91]=true then cellR ts i dp
  else if isT ts i [108,101,116]=true then letR ts i dp
  else if isT ts i [105,102]=true then
   match exprT ts (i+1) dp with
   | .error k=>.error k
   | .ok (e,a)=>match blockR f a dp with
    | .error k=>.error k
    | .ok (b,a)=>
     if isT ts a [101,108,115,101]=true then match blockR f (a+1) dp with
      | .error k=>.error k
      | .ok (c,a)=>.ok (.mk 6 [] [e] 0 b c (pAt ts i),a)
     else .ok (.mk 6 [] [e] 0 b [] (pAt ts i),a)
  else if isT ts i [102,111,114]=true then
   match forR ts i with
   | .error k=>.error k
   | .ok (x,a)=>match blockR f a dp with
    | .error k=>.error k
    | .ok (b,a)=>.ok (.mk 7 x.1 [] x.2 b [] (pAt ts i),a)
  else .error i
def blockR:Nat→Nat→Nat→Except Nat (List St×Nat)
 | 0,i,_=>.error i
 | f+1,i,dp=>
  if 12≤dp∧isT ts i [123]=true then .error i
  else if isT ts i [123]=true then match stmtsR f (i+1) (dp+1) with
   | .error k=>.error k
   | .ok (l,a)=>match eatT ts a [125] with
    | .error k=>.error k
    | .ok a=>.ok (l,a)
  else .error i
def stmtsR:Nat→Nat→Nat→Except Nat (List St×Nat)
 | 0,i,_=>.error i
 | f+1,i,dp=>
  if isT ts i [125]=true then .ok ([],i)
  else match stmtR f i dp with
   | .error k=>.error k
   | .ok (s,a)=>match stmtsR f a dp with
    | .error k=>.error k
    | .ok (l,b)=>.ok (s :: l,b)
end
def stmtT (i dp:Nat):Except Nat (St×Nat):=stmtR ts (4*ts.length+8) i dp
def paramsR:Nat→Nat→Except Nat (List Sec×Nat)
 | 0,i=>.error i
 | f+1,i=>match wordT ts i with
  | .error k=>.error k
  | .ok (s,a)=>if isT ts a [44]=true then match paramsR f (a+1) with
    | .error k=>.error k
    | .ok (l,b)=>.ok (s :: l,b)
   else .ok ([s],a)
def paramsT (i:Nat):Except Nat (List Sec×Nat):=if isT ts i [41]=true then .ok ([],i) else paramsR ts (ts.length+1) i
def needsR:Nat→Nat→Except Nat (List E×Nat)
 | 0,i=>.error i
 | f+1,i=>if isT ts i [110,101,101,100]=true then match exprT ts (i+1) 1 with
   | .error k=>.error k
   | .ok (e,a)=>match eatT ts a [59] with
    | .error k=>.error k
    | .ok a=>match needsR f a with
     | .error k=>.error k
     | .ok (l,b)=>.ok (e :: l,b)
  else .ok ([],i)
def bodyR:Nat→Nat→Except Nat (List St×Nat)
 | 0,i=>.error i
 | f+1,i=>if isT ts i [103,105,118,101]=true∨isT ts i [125]=true then .ok ([],i)
  else match stmtT ts i 1 with
   | .error k=>.error k
   | .ok (s,a)=>match bodyR f a with
    | .error k=>.error k
    | .ok (l,b)=>.ok (s :: l,b)
def giveR (i:Nat):Except Nat (List E×Nat):=
 if isT ts i [103,105,118,101]=true then match exprT ts (i+1) 1 with
  | .error k=>.error k
  | .ok (e,a)=>match eatT ts a [59] with
   | .error k=>.error k
   | .ok a=>.ok ([e],a)
 else .ok ([],i)
def headR:Except Nat ((Sec×List Sec)×Nat):=
 match eatT ts 0 [111,112] with
 | .error k=>.error k
 | .ok a=>match wordT ts a with
  | .error k=>.error k
  | .ok (s,a)=>match eatT ts a [40] with
   | .error k=>.error k
   | .ok a=>match paramsT ts a with
    | .error k=>.error k
    | .ok (ps,a)=>match eatT ts a [41] with
     | .error k=>.error k
     | .ok a=>match eatT ts a [123] with
      | .error k=>.error k
      | .ok a=>.ok ((s,ps),a)
def defR:Except Nat (Df×Nat):=
 match headR ts with
 | .error k=>.error k
 | .ok (h,a)=>match needsR ts (ts.length+1) a with
  | .error k=>.error k
  | .ok (ns,a)=>match bodyR ts (ts.length+1) a with
   | .error k=>.error k
   | .ok (b,a)=>match giveR ts a with
    | .error k=>.error k
    | .ok (g,a)=>match eatT ts a [125] with
     | .error k=>.error k
     | .ok a=>.ok (⟨h.1,h.2,ns,b,g⟩,a)
def parseR:Except Nat Df:=
 match defR ts with
 | .error k=>.error (pAt ts k)
 | .ok (d,a)=>if kAt ts a=4 then .ok d else .error (pAt ts a)
end
structure Ends (ts:List Tok):Prop where
 pos:0 < ts.length
 last:kAt ts (ts.length - 1)=4
 first:∀ i,i+1 < ts.length→kAt ts i≠4
section
variable {ts:List Tok} {α:Type}
def Adv (ts:List Tok) (i:Nat) (r:Except Nat (α×Nat)):Prop:=
 match r with
 | .ok (_,a)=>i < a∧a < ts.length
 | .error k=>i≤k∧k < ts.length
def AdvL (ts:List Tok) (i:Nat) (r:Except Nat (α×Nat)):Prop:=
 match r with
 | .ok (_,a)=>i≤a∧a < ts.length
 | .error k=>i≤k∧k < ts.length
theorem kAt_lt (h:Ends ts) {i:Nat} (hi:i < ts.length) (hk:kAt ts i≠4):i+1 < ts.length:=by
 rcases Nat.lt_or_ge (i+1) ts.length with h1 | h1
 ·exact h1
 ·have e:i=ts.length - 1:=by omega
  rw [e] at hk
  exact absurd h.last hk
theorem isT_lt (h:Ends ts) {i:Nat} {x:Sec} (hi:i < ts.length) (hx:isT ts i x=true):i+1 < ts.length:=by
 unfold isT at hx
 simp only [Bool.and_eq_true,bne_iff_ne,ne_eq] at hx
 exact kAt_lt h hi hx.1
theorem eatT_adv (h:Ends ts) {i:Nat} (x:Sec) (hi:i < ts.length):match eatT ts i x with | .ok a=>a=i+1∧a < ts.length | .error k=>k=i:=by
 unfold eatT
 split
 ·rename_i heq
  split at heq
  ·rename_i hx
   cases heq
   exact ⟨rfl,isT_lt h hi hx⟩
  ·cases heq
 ·rename_i heq
  split at heq
  ·cases heq
  ·cases heq
   rfl
theorem wordT_adv (h:Ends ts) {i:Nat} (hi:i < ts.length):Adv ts i (wordT ts i):=by
 unfold wordT Adv
 split
 ·rename_i a b heq
  split at heq
  ·rename_i hx
   cases heq
   exact ⟨by omega,kAt_lt h hi (by rw [hx.1];decide)⟩
  ·cases heq
 ·rename_i heq
  split at heq
  ·cases heq
  ·cases heq
   exact ⟨Nat.le_refl _,hi⟩
theorem numT_adv (h:Ends ts) {i:Nat} (hi:i < ts.length):Adv ts i (numT ts i):=by
 unfold numT Adv
 split
 ·rename_i a b heq
  split at heq
  ·rename_i hx
   cases heq
   exact ⟨by omega,kAt_lt h hi (by rw [hx];decide)⟩
  ·cases heq
 ·rename_i heq
  split at heq
  ·cases heq
  ·cases heq
   exact ⟨Nat.le_refl _,hi⟩
theorem adv_expr (h:Ends ts):∀ f:Nat,
  (∀ i least dp,i < ts.length→Adv ts i (exprR ts f i least dp))∧(∀ l i least most dp,i < ts.length→AdvL ts i (loopR ts f l i least most dp))∧
  (∀ i dp,i < ts.length→Adv ts i (smallR ts f i dp))∧(∀ i dp b c,i < ts.length→Adv ts i (aroundR ts f i dp b c)):=by
 intro f
 induction f with
 | zero=>
  refine ⟨fun i _ _ hi=>?_,fun _ i _ _ _ hi=>?_,fun i _ hi=>?_,fun i _ _ _ hi=>?_⟩
  ·unfold exprR;exact ⟨Nat.le_refl _,hi⟩
  ·unfold loopR;exact ⟨Nat.le_refl _,hi⟩
  ·unfold smallR;exact ⟨Nat.le_refl _,hi⟩
  ·unfold aroundR;exact ⟨Nat.le_refl _,hi⟩
 | succ f ih=>
  obtain ⟨ih1,ih2,ih3,ih4⟩:=ih
  refine ⟨fun i least dp hi=>?_,fun l i least most dp hi=>?_,fun i dp hi=>?_,fun i dp b c hi=>?_⟩
  ·have h1:=ih3 i dp hi
   unfold exprR
   cases e:smallR ts f i dp with
   | error k=>rw [e] at h1;exact h1
   | ok x=>
    obtain ⟨l,a⟩:=x
    rw [e] at h1
    have h2:=ih2 l a least 5 dp h1.2
    show Adv ts i (loopR ts f l a least 5 dp)
    cases e2:loopR ts f l a least 5 dp with
    | error k=>rw [e2] at h2;exact ⟨Nat.le_trans (Nat.le_of_lt h1.1) h2.1,h2.2⟩
    | ok y=>obtain ⟨r,b⟩:=y;rw [e2] at h2;exact ⟨Nat.lt_of_lt_of_le h1.1 h2.1,h2.2⟩
  ·unfold loopR
   by_cases hc:kAt ts i=3∧¬ (lvl (xAt ts i) < least∨most < lvl (xAt ts i)∨lvl (xAt ts i)=0)
   ·rw [if_pos hc]
    have h0:=kAt_lt h hi (by rw [hc.1];decide)
    have h1:=ih1 (i+1) (lvl (xAt ts i)+1) dp h0
    cases e:exprR ts f (i+1) (lvl (xAt ts i)+1) dp with
    | error k=>rw [e] at h1;exact ⟨by have:=h1.1;omega,h1.2⟩
    | ok x=>
     obtain ⟨r,a⟩:=x
     rw [e] at h1
     have h2:=ih2 (.mk 6 0 (xAt ts i) [l,r] (pAt ts i)) a least (if lvl (xAt ts i)=3 then 2 else lvl (xAt ts i)) dp h1.2
     show AdvL ts i (loopR ts f _ a least _ dp)
     cases e2:loopR ts f (.mk 6 0 (xAt ts i) [l,r] (pAt ts i)) a least (if lvl (xAt ts i)=3 then 2 else lvl (xAt ts i)) dp with
     | error k=>rw [e2] at h2;exact ⟨by have:=h1.1;have:=h2.1;omega,h2.2⟩
     | ok y=>obtain ⟨r2,b⟩:=y;rw [e2] at h2;exact ⟨by have:=h1.1;have:=h2.1;omega,h2.2⟩
   ·rw [if_neg hc]
    exact ⟨Nat.le_refl _,hi⟩
  ·unfold smallR
   split
   ·rename_i hx
    split
    ·exact ⟨Nat.le_refl _,hi⟩
    ·have h0:i+1 < ts.length:=by
      rcases hx with hx | hx
      ·exact isT_lt h hi hx
      ·exact isT_lt h hi hx
     have h1:=ih3 (i+1) (dp+1) h0
     cases e:smallR ts f (i+1) (dp+1) with
     | error k=>rw [e] at h1;exact ⟨by have:=h1.1;omega,h1.2⟩
     | ok x=>obtain ⟨l,a⟩:=x;rw [e] at h1;exact ⟨by have:=h1.1;omega,h1.2⟩
   ·split
    ·have h1:=ih4 i dp [91] [93] hi
     cases e:aroundR ts f i dp [91] [93] with
     | error k=>rw [e] at h1;exact h1
     | ok x=>obtain ⟨l,a⟩:=x;rw [e] at h1;exact h1
    ·split
     ·exact ih4 i dp [40] [41] hi
     ·split
      ·rename_i hx
       exact ⟨by omega,kAt_lt h hi (by rw [hx];decide)⟩
      ·split
       ·rename_i hx
        refine ⟨by omega,?_⟩
        rcases hx with hx | hx
        ·exact isT_lt h hi hx
        ·exact isT_lt h hi hx
       ·have h1:=wordT_adv h hi
        cases e:wordT ts i with
        | error k=>rw [e] at h1;exact h1
        | ok x=>obtain ⟨l,a⟩:=x;rw [e] at h1;exact h1
  ·unfold aroundR
   split
   ·exact ⟨Nat.le_refl _,hi⟩
   ·split
    ·rename_i hx
     have h1:=ih1 (i+1) 1 (dp+1) (isT_lt h hi hx)
     cases e:exprR ts f (i+1) 1 (dp+1) with
     | error k=>rw [e] at h1;exact ⟨by have:=h1.1;omega,h1.2⟩
     | ok x=>
      obtain ⟨l,a⟩:=x
      rw [e] at h1
      have h2:=eatT_adv h c h1.2
      show Adv ts i (match eatT ts a c with | .error k=>.error k | .ok a=>.ok (l,a))
      cases e2:eatT ts a c with
      | error k=>rw [e2] at h2;obtain rfl:k=a:=h2;exact ⟨by have:=h1.1;omega,h1.2⟩
      | ok b=>rw [e2] at h2;exact ⟨by have:=h1.1;have:=h2.1;omega,h2.2⟩
    ·exact ⟨Nat.le_refl _,hi⟩
end
end Go.Proofs.Ytiaeagpepfmfgaa
