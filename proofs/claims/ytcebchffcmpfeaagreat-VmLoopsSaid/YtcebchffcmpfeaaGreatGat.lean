import Derived.Test.YtcebchffcmpfeaaGreatCbt
namespace Go.Proofs.YtcebchffcmpfeaaGreat
set_option linter.unusedVariables false
set_option linter.unusedSimpArgs false
set_option maxRecDepth 100000
set_option maxHeartbeats 16000000
open Go.RowKit Go.Maps
inductive E where
 | mk (kind num:Int) (name:Sec) (args:List E) (pos:Int)
inductive St where
 | mk (kind:Int) (name:Sec) (exprs:List E) (n:Int) (body els:List St) (pos:Int)
structure Df where
 name:Sec
 params:List Sec
 needs:List E
 body:List St
 give:List E
section
variable (ts:List Tok)
def kAt (i:Nat):Nat:=(ts[i]?.map (·.kind)).getD 4
def xAt (i:Nat):Sec:=(ts[i]?.map (·.text)).getD []
def pAt (i:Nat):Nat:=(ts[i]?.map (·.pos)).getD 0
def isT (i:Nat) (x:Sec):Bool:=kAt ts i != 4 && xAt ts i == x
def bE (i:Nat) (x:Sec):Except Nat Nat:=if isT ts i x=true then .ok (i+1) else .error i
def bp (i:Nat):Except Nat (Sec×Nat):=if kAt ts i=1∧xAt ts i∉kws then .ok (xAt ts i,i+1) else .error i
def kz (l:Sec):Int:=l.foldl (fun n c=>wrap64 (wrap64 (10*n)+((c.toNat:Int) - 48) % 256)) 0
def pu (i:Nat):Except Nat (Int×Nat):=if kAt ts i=2 then .ok (kz (xAt ts i),i+1) else .error i
def lvl (x:Sec):Nat:=
 if x=[124,124] then 1 else if x=[38,38] then 2
 else if x=[60]∨x=[60,61]∨x=[62]∨x=[62,61]∨x=[61,61]∨x=[33,61] then 3
 else if x=[43]∨x=[45] then 4 else if x=[42]∨x=[47]∨x=[37] then 5 else 0
mutual
def cT:Nat→Nat→Nat→Nat→Except Nat (E×Nat)
 | 0,i,_,_=>.error i
 | f+1,i,least,dp=>match bL f i dp with
  | .error k=>.error k
  | .ok (l,a)=>dl f l a least 5 dp
def dl:Nat→E→Nat→Nat→Nat→Nat→Except Nat (E×Nat)
 | 0,_,i,_,_,_=>.error i
 | f+1,l,i,least,most,dp=>
  if kAt ts i=3∧¬ (lvl (xAt ts i) < least∨most < lvl (xAt ts i)∨lvl (xAt ts i)=0) then
   match cT f (i+1) (lvl (xAt ts i)+1) dp with
   | .error k=>.error k
   | .ok (r,a)=>dl f (.mk 6 0 (xAt ts i) [l,r] (pAt ts i)) a least (if lvl (xAt ts i)=3 then 2 else lvl (xAt ts i)) dp
  else .ok (l,i)
def bL:Nat→Nat→Nat→Except Nat (E×Nat)
 | 0,i,_=>.error i
 | f+1,i,dp=>
  if isT ts i [33]=true∨isT ts i [45]=true then
   if 12≤dp then .error i else match bL f (i+1) (dp+1) with
    | .error k=>.error k
    | .ok (e,a)=>.ok (.mk (if xAt ts i=[45] then 5 else 4) 0 [] [e] (pAt ts i),a)
  else if isT ts i [91]=true then match aO f i dp [91] [93] with
   | .error k=>.error k
   | .ok (e,a)=>.ok (.mk 3 0 [] [e] (pAt ts i),a)
  else if isT ts i [40]=true then aO f i dp [40] [41]
  else if kAt ts i=2 then .ok (.mk 1 (kz (xAt ts i)) [] [] (pAt ts i),i+1)
  else if isT ts i [116,114,117,101]=true∨isT ts i [102,97,108,115,101]=true then .ok (.mk 2 0 (xAt ts i) [] (pAt ts i),i+1)
  else match bp ts i with
   | .error k=>.error k
   | .ok (s,a)=>.ok (.mk 2 0 s [] (pAt ts i),a)
def aO:Nat→Nat→Nat→Sec→Sec→Except Nat (E×Nat)
 | 0,i,_,_,_=>.error i
 | f+1,i,dp,b,c=>
  if 12≤dp∧isT ts i b=true then .error i
  else if isT ts i b=true then match cT f (i+1) 1 (dp+1) with
   | .error k=>.error k
   | .ok (e,a)=>match bE ts a c with
    | .error k=>.error k
    | .ok a=>.ok (e,a)
  else .error i
end
def br (i dp:Nat):Except Nat (E×Nat):=cT ts (4*ts.length+8) i 1 dp
def bP (i dp:Nat):Except Nat (E×Nat):=aO ts (4*ts.length+8) i dp [91] [93]
def dE (i dp:Nat):Except Nat (St×Nat):=
 match bP ts i dp with
 | .error k=>.error k
 | .ok (l,a)=>
  if isT ts a [61]=true∨isT ts a [43,61]=true∨isT ts a [45,61]=true then
   match br ts (a+1) dp with
   | .error k=>.error k
   | .ok (r,b)=>match bE ts b [59] with
    | .error k=>.error k
    | .ok b=>.ok (.mk (if isT ts a [61]=true then 2 else if isT ts a [43,61]=true then 3 else 4) [] [l,r] 0 [] [] (pAt ts i),b)
  else if isT ts a [60,62]=true then
   match bP ts (a+1) dp with
   | .error k=>.error k
   | .ok (r,b)=>match bE ts b [59] with
    | .error k=>.error k
    | .ok b=>.ok (.mk 5 [] [l,r] 0 [] [] (pAt ts i),b)
  else .error a
def pw (i dp:Nat):Except Nat (St×Nat):=
 match bp ts (i+1) with
 | .error k=>.error k
 | .ok (s,a)=>match bE ts a [61] with
  | .error k=>.error k
  | .ok a=>match br ts a dp with
   | .error k=>.error k
   | .ok (e,a)=>match bE ts a [59] with
    | .error k=>.error k
    | .ok a=>.ok (.mk 1 s [e] 0 [] [] (pAt ts i),a)
def forR (i:Nat):Except Nat ((Sec×Int)×Nat):=
 match bp ts (i+1) with
 | .error k=>.error k
 | .ok (s,a)=>match bE ts a [105,110] with
  | .error k=>.error k
  | .ok a=>match bE ts a [48] with
   | .error k=>.error k
   | .ok a=>match bE ts a [46,46] with
    | .error k=>.error k
    | .ok a=>match pu ts a with
     | .error k=>.error k
     | .ok (n,a)=>.ok ((s,n),a)
mutual
def bm:Nat→Nat→Nat→Except Nat (St×Nat)
 | 0,i,_=>.error i
 | f+1,i,dp=>
  if isT ts i [91]=true then dE ts i dp
  else if isT ts i [108,101,116]=true then pw ts i dp
  else if isT ts i [105,102]=true then
   match br ts (i+1) dp with
   | .error k=>.error k
   | .ok (e,a)=>match aX f a dp with
    | .error k=>.error k
    | .ok (b,a)=>
     if isT ts a [101,108,115,101]=true then match aX f (a+1) dp with
      | .error k=>.error k
      | .ok (c,a)=>.ok (.mk 6 [] [e] 0 b c (pAt ts i),a)
     else .ok (.mk 6 [] [e] 0 b [] (pAt ts i),a)
  else if isT ts i [102,111,114]=true then
   match forR ts i with
   | .error k=>.error k
   | .ok (x,a)=>match aX f a dp with
    | .error k=>.error k
    | .ok (b,a)=>.ok (.mk 7 x.1 [] x.2 b [] (pAt ts i),a)
  else .error i
def aX:Nat→Nat→Nat→Except Nat (List St×Nat)
 | 0,i,_=>.error i
 | f+1,i,dp=>
  if 12≤dp∧isT ts i [123]=true then .error i
  else if isT ts i [123]=true then match aR f (i+1) (dp+1) with
   | .error k=>.error k
   | .ok (l,a)=>match bE ts a [125] with
    | .error k=>.error k
    | .ok a=>.ok (l,a)
  else .error i
def aR:Nat→Nat→Nat→Except Nat (List St×Nat)
 | 0,i,_=>.error i
 | f+1,i,dp=>
  if isT ts i [125]=true then .ok ([],i)
  else match bm f i dp with
   | .error k=>.error k
   | .ok (s,a)=>match aR f a dp with
    | .error k=>.error k
    | .ok (l,b)=>.ok (s :: l,b)
end
def pz (i dp:Nat):Except Nat (St×Nat):=bm ts (4*ts.length+8) i dp
def aS:Nat→Nat→Except Nat (List Sec×Nat)
 | 0,i=>.error i
 | f+1,i=>match bp ts i with
  | .error k=>.error k
  | .ok (s,a)=>if isT ts a [44]=true then match aS f (a+1) with
    | .error k=>.error k
    | .ok (l,b)=>.ok (s :: l,b)
   else .ok ([s],a)
def cU (i:Nat):Except Nat (List Sec×Nat):=if isT ts i [41]=true then .ok ([],i) else aS ts (ts.length+1) i
def bo:Nat→Nat→Except Nat (List E×Nat)
 | 0,i=>.error i
 | f+1,i=>if isT ts i [110,101,101,100]=true then match br ts (i+1) 1 with
   | .error k=>.error k
   | .ok (e,a)=>match bE ts a [59] with
    | .error k=>.error k
    | .ok a=>match bo f a with
     | .error k=>.error k
     | .ok (l,b)=>.ok (e :: l,b)
  else .ok ([],i)
def bM:Nat→Nat→Except Nat (List St×Nat)
 | 0,i=>.error i
 | f+1,i=>if isT ts i [103,105,118,101]=true∨isT ts i [125]=true then .ok ([],i)
  else match pz ts i 1 with
   | .error k=>.error k
   | .ok (s,a)=>match bM f a with
    | .error k=>.error k
    | .ok (l,b)=>.ok (s :: l,b)
def fk (i:Nat):Except Nat (List E×Nat):=
 if isT ts i [103,105,118,101]=true then match br ts (i+1) 1 with
  | .error k=>.error k
  | .ok (e,a)=>match bE ts a [59] with
   | .error k=>.error k
   | .ok a=>.ok ([e],a)
 else .ok ([],i)
def uF:Except Nat ((Sec×List Sec)×Nat):=
 match bE ts 0 [111,112] with
 | .error k=>.error k
 | .ok a=>match bp ts a with
  | .error k=>.error k
  | .ok (s,a)=>match bE ts a [40] with
   | .error k=>.error k
   | .ok a=>match cU ts a with
    | .error k=>.error k
    | .ok (ps,a)=>match bE ts a [41] with
     | .error k=>.error k
     | .ok a=>match bE ts a [123] with
      | .error k=>.error k
      | .ok a=>.ok ((s,ps),a)
def oV:Except Nat (Df×Nat):=
 match uF ts with
 | .error k=>.error k
 | .ok (h,a)=>match bo ts (ts.length+1) a with
  | .error k=>.error k
  | .ok (ns,a)=>match bM ts (ts.length+1) a with
   | .error k=>.error k
   | .ok (b,a)=>match fk ts a with
    | .error k=>.error k
    | .ok (g,a)=>match bE ts a [125] with
     | .error k=>.error k
     | .ok a=>.ok (⟨h.1,h.2,ns,b,g⟩,a)
def fV:Except Nat Df:=
 match oV ts with
 | .error k=>.error (pAt ts k)
 | .ok (d,a)=>if kAt ts a=4 then .ok d else .error (pAt ts a)
end
structure Ends (ts:List Tok):Prop where
 pos:0 < ts.length
 last:kAt ts (ts.length - 1)=4
 first:∀ i,i+1 < ts.length→kAt ts i≠4
section
variable {ts:List Tok} {α:Type}
def Adv (ts:List Tok) (i:Nat) (r:Except Nat (α×Nat)):Prop:=
 match r with
 | .ok (_,a)=>i < a∧a < ts.length
 | .error k=>i≤k∧k < ts.length
def AdvL (ts:List Tok) (i:Nat) (r:Except Nat (α×Nat)):Prop:=
 match r with
 | .ok (_,a)=>i≤a∧a < ts.length
 | .error k=>i≤k∧k < ts.length
theorem jl (h:Ends ts) {i:Nat} (hi:i < ts.length) (hk:kAt ts i≠4):i+1 < ts.length:=by
 rcases Nat.lt_or_ge (i+1) ts.length with h1 | h1
 ·exact h1
 ·have e:i=ts.length - 1:=by omega
  rw [e] at hk;exact absurd h.last hk
theorem aL (h:Ends ts) {i:Nat} {x:Sec} (hi:i < ts.length) (hx:isT ts i x=true):i+1 < ts.length:=by
 unfold isT at hx;simp only [Bool.and_eq_true,bne_iff_ne,ne_eq] at hx;exact jl h hi hx.1
theorem fW (h:Ends ts) {i:Nat} (x:Sec) (hi:i < ts.length):match bE ts i x with | .ok a=>a=i+1∧a < ts.length | .error k=>k=i:=by
 unfold bE;split
 ·rename_i heq;split at heq
  ·rename_i hx;cases heq;exact ⟨rfl,aL h hi hx⟩
  ·cases heq
 ·rename_i heq;split at heq
  ·cases heq
  ·cases heq;rfl
theorem bY (h:Ends ts) {i:Nat} (hi:i < ts.length):Adv ts i (bp ts i):=by
 unfold bp Adv;split
 ·rename_i a b heq;split at heq
  ·rename_i hx;cases heq;exact ⟨by omega,jl h hi (by rw [hx.1];decide)⟩
  ·cases heq
 ·rename_i heq;split at heq
  ·cases heq
  ·cases heq;exact ⟨Nat.le_refl _,hi⟩
theorem numT_adv (h:Ends ts) {i:Nat} (hi:i < ts.length):Adv ts i (pu ts i):=by
 unfold pu Adv;split
 ·rename_i a b heq;split at heq
  ·rename_i hx;cases heq;exact ⟨by omega,jl h hi (by rw [hx];decide)⟩
  ·cases heq
 ·rename_i heq;split at heq
  ·cases heq
  ·cases heq;exact ⟨Nat.le_refl _,hi⟩
theorem bi (h:Ends ts):∀ f:Nat,
  (∀ i least dp,i < ts.length→Adv ts i (cT ts f i least dp))∧(∀ l i least most dp,i < ts.length→AdvL ts i (dl ts f l i least most dp))∧
  (∀ i dp,i < ts.length→Adv ts i (bL ts f i dp))∧(∀ i dp b c,i < ts.length→Adv ts i (aO ts f i dp b c)):=by
 intro f
 induction f with
 | zero=>
  refine ⟨fun i _ _ hi=>?_,fun _ i _ _ _ hi=>?_,fun i _ hi=>?_,fun i _ _ _ hi=>?_⟩
  ·unfold cT;exact ⟨Nat.le_refl _,hi⟩
  ·unfold dl;exact ⟨Nat.le_refl _,hi⟩
  ·unfold bL;exact ⟨Nat.le_refl _,hi⟩
  ·unfold aO;exact ⟨Nat.le_refl _,hi⟩
 | succ f ih=>
  obtain ⟨ih1,ih2,ih3,ih4⟩:=ih;refine ⟨fun i least dp hi=>?_,fun l i least most dp hi=>?_,fun i dp hi=>?_,fun i dp b c hi=>?_⟩
  ·have h1:=ih3 i dp hi;unfold cT;cases e:bL ts f i dp with
   | error k=>rw [e] at h1;exact h1
   | ok x=>
    obtain ⟨l,a⟩:=x;rw [e] at h1;have h2:=ih2 l a least 5 dp h1.2;show Adv ts i (dl ts f l a least 5 dp);cases e2:dl ts f l a least 5 dp with
    | error k=>rw [e2] at h2;exact ⟨Nat.le_trans (Nat.le_of_lt h1.1) h2.1,h2.2⟩
    | ok y=>obtain ⟨r,b⟩:=y;rw [e2] at h2;exact ⟨Nat.lt_of_lt_of_le h1.1 h2.1,h2.2⟩
  ·unfold dl
   by_cases hc:kAt ts i=3∧¬ (lvl (xAt ts i) < least∨most < lvl (xAt ts i)∨lvl (xAt ts i)=0)
   ·rw [if_pos hc];have h0:=jl h hi (by rw [hc.1];decide);have h1:=ih1 (i+1) (lvl (xAt ts i)+1) dp h0;cases e:cT ts f (i+1) (lvl (xAt ts i)+1) dp with
    | error k=>rw [e] at h1;exact ⟨by have:=h1.1;omega,h1.2⟩
    | ok x=>
     obtain ⟨r,a⟩:=x;rw [e] at h1;have h2:=ih2 (.mk 6 0 (xAt ts i) [l,r] (pAt ts i)) a least (if lvl (xAt ts i)=3 then 2 else lvl (xAt ts i)) dp h1.2;show AdvL ts i (dl ts f _ a least _ dp);cases e2:dl ts f (.mk 6 0 (xAt ts i) [l,r] (pAt ts i)) a least (if lvl (xAt ts i)=3 then 2 else lvl (xAt ts i)) dp with
     | error k=>rw [e2] at h2;exact ⟨by have:=h1.1;have:=h2.1;omega,h2.2⟩
     | ok y=>obtain ⟨r2,b⟩:=y;rw [e2] at h2;exact ⟨by have:=h1.1;have:=h2.1;omega,h2.2⟩
   ·rw [if_neg hc];exact ⟨Nat.le_refl _,hi⟩
  ·unfold bL;split
   ·rename_i hx;split
    ·exact ⟨Nat.le_refl _,hi⟩
    ·have h0:i+1 < ts.length:=by
      rcases hx with hx | hx
      ·exact aL h hi hx
      ·exact aL h hi hx
     have h1:=ih3 (i+1) (dp+1) h0;cases e:bL ts f (i+1) (dp+1) with
     | error k=>rw [e] at h1;exact ⟨by have:=h1.1;omega,h1.2⟩
     | ok x=>obtain ⟨l,a⟩:=x;rw [e] at h1;exact ⟨by have:=h1.1;omega,h1.2⟩
   ·split
    ·have h1:=ih4 i dp [91] [93] hi;cases e:aO ts f i dp [91] [93] with
     | error k=>rw [e] at h1;exact h1
     | ok x=>obtain ⟨l,a⟩:=x;rw [e] at h1;exact h1
    ·split
     ·exact ih4 i dp [40] [41] hi
     ·split
      ·rename_i hx;exact ⟨by omega,jl h hi (by rw [hx];decide)⟩
      ·split
       ·rename_i hx;refine ⟨by omega,?_⟩;rcases hx with hx | hx
        ·exact aL h hi hx
        ·exact aL h hi hx
       ·have h1:=bY h hi;cases e:bp ts i with
        | error k=>rw [e] at h1;exact h1
        | ok x=>obtain ⟨l,a⟩:=x;rw [e] at h1;exact h1
  ·unfold aO;split
   ·exact ⟨Nat.le_refl _,hi⟩
   ·split
    ·rename_i hx;have h1:=ih1 (i+1) 1 (dp+1) (aL h hi hx);cases e:cT ts f (i+1) 1 (dp+1) with
     | error k=>rw [e] at h1;exact ⟨by have:=h1.1;omega,h1.2⟩
     | ok x=>
      obtain ⟨l,a⟩:=x;rw [e] at h1;have h2:=fW h c h1.2;show Adv ts i (match bE ts a c with | .error k=>.error k | .ok a=>.ok (l,a));cases e2:bE ts a c with
      | error k=>rw [e2] at h2;obtain rfl:k=a:=h2;exact ⟨by have:=h1.1;omega,h1.2⟩
      | ok b=>rw [e2] at h2;exact ⟨by have:=h1.1;have:=h2.1;omega,h2.2⟩
    ·exact ⟨Nat.le_refl _,hi⟩
end
mutual
def EV (w:World) (B:Nat→Prop):E→List Value→Prop
 | .mk k n s xs p,cs=>∃ (a:Option Addr) (cap:Nat),cs=[.int .i64 k,.int .i64 n,.string (aj s),.slice a xs.length cap,.int .i64 p]∧xs.length≤cap∧(xs=[]∨∃ g,a=some ⟨g,0,none⟩∧B g∧EsAt w B g 0 xs)
def EsAt (w:World) (B:Nat→Prop) (g:Nat):Nat→List E→Prop
 | _,[]=>True
 | i,e :: es=>(∃ cs,EV w B e cs∧∀ j,j < 5→w.cell? ⟨g,i*5+j,none⟩=cs[j]?)∧EsAt w B g (i+1) es
end
def EsV (w:World) (B:Nat→Prop) (v:Value) (xs:List E):Prop:=
 ∃ (a:Option Addr) (cap:Nat),v=.slice a xs.length cap∧xs.length≤cap∧(xs=[]∨∃ g,a=some ⟨g,0,none⟩∧B g∧EsAt w B g 0 xs)
theorem EV.mk' {w:World} {B:Nat→Prop} {k n p:Int} {s:Sec} {xs:List E} {v:Value} (h:EsV w B v xs):EV w B (.mk k n s xs p) [.int .i64 k,.int .i64 n,.string (aj s),v,.int .i64 p]:=by
 obtain ⟨a,cap,rfl,h1,h2⟩:=h;unfold EV;exact ⟨a,cap,rfl,h1,h2⟩
theorem EV.len {w:World} {B:Nat→Prop} {e:E} {cs:List Value} (h:EV w B e cs):cs.length=5:=by
 cases e;unfold EV at h;obtain ⟨a,cap,rfl,_⟩:=h;rfl
mutual
theorem EV.kept {w w':World} {S:List Nat} {B B':Nat→Prop} (ho:Only S w w') (hs:∀ k∈S,¬ B k) (hB:∀ k,B k→B' k):∀ (e:E) (cs:List Value),EV w B e cs→EV w' B' e cs
 | .mk k n s xs p,cs,h=>by
  unfold EV at h⊢;obtain ⟨a,cap,h1,h2,h3⟩:=h;refine ⟨a,cap,h1,h2,h3.imp id ?_⟩;rintro ⟨g,h4,h5,h6⟩;exact ⟨g,h4,hB g h5,EsAt.kept ho hs hB h5 0 xs h6⟩
theorem EsAt.kept {w w':World} {S:List Nat} {B B':Nat→Prop} (ho:Only S w w') (hs:∀ k∈S,¬ B k) (hB:∀ k,B k→B' k) {g:Nat} (hg:B g):∀ (i:Nat) (es:List E),EsAt w B g i es→EsAt w' B' g i es
 | _,[],h=>by unfold EsAt;trivial
 | i,e :: es,h=>by
  unfold EsAt at h⊢;obtain ⟨⟨cs,h1,h2⟩,h3⟩:=h;refine ⟨⟨cs,EV.kept ho hs hB e cs h1,fun j hj=>?_⟩,EsAt.kept ho hs hB hg (i+1) es h3⟩;have hc:=h2 j hj;obtain ⟨u,hu⟩:∃ u,cs[j]?=some u:=⟨_,List.getElem?_eq_getElem (by rw [h1.len];exact hj)⟩
  rw [hu] at hc⊢;exact ac ho hc (fun hk=>hs _ hk hg)
end
theorem EsV.kept {w w':World} {S:List Nat} {B B':Nat→Prop} (ho:Only S w w') (hs:∀ k∈S,¬ B k) (hB:∀ k,B k→B' k) {v:Value} {xs:List E} (h:EsV w B v xs):EsV w' B' v xs:=by
 obtain ⟨a,cap,h1,h2,h3⟩:=h;refine ⟨a,cap,h1,h2,h3.imp id ?_⟩;rintro ⟨g,h4,h5,h6⟩;exact ⟨g,h4,hB g h5,EsAt.kept ho hs hB h5 0 xs h6⟩
theorem EsAt.here {w:World} {B:Nat→Prop} {g i:Nat} {xs:List E} (hx:xs≠[]) (h:EsAt w B g i xs):g < w.heap.size:=by
 cases xs with
 | nil=>exact absurd rfl hx
 | cons e es=>
  unfold EsAt at h;obtain ⟨⟨cs,h1,h2⟩,_⟩:=h;have hc:=h2 0 (by omega);obtain ⟨u,hu⟩:∃ u,cs[0]?=some u:=⟨_,List.getElem?_eq_getElem (by rw [h1.len];omega)⟩
  rw [hu] at hc;exact World.block_lt_of_cell? _ _ hc
mutual
theorem EV.lt {w:World} {B:Nat→Prop}:∀ (e:E) (cs:List Value),EV w B e cs→EV w (fun b=>B b∧b < w.heap.size) e cs
 | .mk k n s xs p,cs,h=>by
  unfold EV at h⊢;obtain ⟨a,cap,h1,h2,h3⟩:=h;refine ⟨a,cap,h1,h2,?_⟩
  by_cases hx:xs=[]
  ·exact .inl hx
  ·rcases h3 with h3 | ⟨g,h4,h5,h6⟩
   ·exact .inl h3
   ·exact .inr ⟨g,h4,⟨h5,EsAt.here hx h6⟩,EsAt.lt g 0 xs h6⟩
theorem EsAt.lt {w:World} {B:Nat→Prop} (g:Nat):∀ (i:Nat) (es:List E),EsAt w B g i es→EsAt w (fun b=>B b∧b < w.heap.size) g i es
 | _,[],h=>by unfold EsAt;trivial
 | i,e :: es,h=>by
  unfold EsAt at h⊢;obtain ⟨⟨cs,h1,h2⟩,h3⟩:=h;exact ⟨⟨cs,EV.lt e cs h1,h2⟩,EsAt.lt g (i+1) es h3⟩
end
section
variable {w w':World} {B B':Nat→Prop} {v:Value} {xs:List E} {e:E} {cs:List Value}
theorem EV.quiet (h:EV w B e cs) (ho:Only [] w w'):EV w' B e cs:=EV.kept ho (by simp) (fun _ h=>h) e cs h
theorem EsV.quiet (h:EsV w B v xs) (ho:Only [] w w'):EsV w' B v xs:=h.kept ho (by simp) (fun _ h=>h)
theorem EsV.nil (w:World) (B:Nat→Prop):EsV w B (.slice none 0 0) []:=⟨none,0,rfl,Nat.le_refl _,.inl rfl⟩
theorem EsAt.one {g i:Nat} (h:EV w B e cs) (hc:∀ j,j < 5→w.cell? ⟨g,i*5+j,none⟩=cs[j]?) {es:List E} (hr:EsAt w B g (i+1) es):EsAt w B g i (e :: es):=by
 unfold EsAt;exact ⟨⟨cs,h,hc⟩,hr⟩
theorem EsAt.nil' {g i:Nat}:EsAt w B g i []:=by unfold EsAt;trivial
theorem EsV.made1 {cs:List Value} (h:EV w B e cs) (hB:B w.heap.size):EsV (w.alloc (.cells cs.toArray 95)) B (.slice (some ⟨w.heap.size,0,none⟩) 1 1) [e]:=by
 refine ⟨_,_,rfl,Nat.le_refl _,.inr ⟨w.heap.size,rfl,hB,EsAt.one (cs:=cs) (h.quiet ((Only.refl [] w).alloc _)) (fun j hj=>?_) EsAt.nil'⟩⟩;rw [ab _ (ag w _)];simp
theorem EsV.made2 {e2:E} {cs cs2:List Value} (h:EV w B e cs) (h2:EV w B e2 cs2) (hB:B w.heap.size):EsV (w.alloc (.cells (cs++cs2).toArray 95)) B (.slice (some ⟨w.heap.size,0,none⟩) 2 2) [e,e2]:=by
 have l1:=h.len;have l2:=h2.len;refine ⟨_,_,rfl,Nat.le_refl _,.inr ⟨w.heap.size,rfl,hB,EsAt.one (cs:=cs) (h.quiet ((Only.refl [] w).alloc _)) (fun j hj=>?_) (EsAt.one (cs:=cs2) (h2.quiet ((Only.refl [] w).alloc _)) (fun j hj=>?_) EsAt.nil')⟩⟩
 ·rw [ab _ (ag w _)];simp;rw [List.getElem?_append_left (by omega)]
 ·rw [ab _ (ag w _)];simp;rw [List.getElem?_append_right (by omega)];congr 1;omega
end
def zP (p:Except Nat Nat):Int:=match p with | .ok a=>(a:Int) | .error k=>-1 - (k:Int)
def aM (ts:List Tok) (p:Except Nat Nat):Prop:=match p with | .ok a=>a < ts.length | .error k=>k < ts.length
def isP (ts:List Tok) (p:Except Nat Nat) (x:Sec):Bool:=match p with | .ok i=>isT ts i x | .error _=>false
def ba (ts:List Tok) (p:Except Nat Nat) (x:Sec):Except Nat Nat:=match p with | .ok i=>bE ts i x | .error k=>.error k
structure TS (w:World) (v:Value) (ts:List Tok):Prop where
 tv:TV w v ts
 ends:Ends ts
 len:ts.length≤1000
 txt:∀ i,(xAt ts i).length≤1000
section
variable {w w':World} {v:Value} {ts:List Tok}
theorem TS.quiet (h:TS w v ts) (ho:Only [] w w'):TS w' v ts:=⟨h.tv.quiet ho,h.ends,h.len,h.txt⟩
theorem TS.at_ (h:TS w v ts) {i:Nat} (hi:i < ts.length):∃ b cap,v=.slice (some ⟨b,0,none⟩) ts.length cap∧w.cell? ⟨b,i*3,none⟩=some (.int .i64 (kAt ts i:Nat))∧w.cell? ⟨b,i*3+1,none⟩=some (.string (aj (xAt ts i)))∧w.cell? ⟨b,i*3+2,none⟩=some (.int .i64 (pAt ts i:Nat)):=by
 obtain ⟨a,cap,hv,_,hc⟩:=h.tv;obtain ⟨t,ht⟩:∃ t,ts[i]?=some t:=⟨_,List.getElem?_eq_getElem hi⟩
 obtain ⟨b,rfl,c0,c1,c2⟩:=hc i t ht;refine ⟨b,cap,hv,?_,?_,?_⟩
 ·unfold kAt;rw [ht];exact c0
 ·unfold xAt;rw [ht];exact c1
 ·unfold pAt;rw [ht];exact c2
theorem TS.shape (h:TS w v ts):∃ a cap,v=.slice a ts.length cap:=by
 obtain ⟨a,cap,hv,_⟩:=h.tv;exact ⟨a,cap,hv⟩
theorem cV (he:Ends ts) {p:Except Nat Nat} (hp:aM ts p) (x:Sec):aM ts (ba ts p x):=by
 cases p with
 | error k=>exact hp
 | ok i=>
  have h:=fW he x hp;show aM ts (bE ts i x);cases e:bE ts i x with
  | error k=>rw [e] at h;obtain rfl:k=i:=h;exact hp
  | ok a=>rw [e] at h;exact h.2
theorem bZ (n:Nat) (hn:n≤1000) (w:World):Calls Tryz.prog 33 #[.int .i64 (n:Int)] w fun e w'=>e=.returned (.int .i64 (-1 - (n:Int)))∧w=w':=by
 have h1:IntKind.i64.wrap (-1 - (n:Int))=-1 - (n:Int):=by rw [IntKind.wrap_i64];omega
 go_enter Tryz.func33,Tryz.ntmps33
 go_wp2_with fail
 go_ret;exact ⟨rfl,rfl⟩
theorem str_dec {x:ByteArray} {X:Sec} {S:ByteArray} (hS:S=aj X):(S.toList == x.toList)=decide (X=x.data.toList):=by
 rw [ByteArray.toList_eq,ByteArray.toList_eq,hS];have h2:(aj X).data.toList=X:=by simp [aj]
 rw [h2]
 by_cases h:X=x.data.toList<;>simp [h]
theorem bb (h:TS w v ts) (p:Except Nat Nat) (hp:aM ts p) (x:ByteArray) :
  Calls Tryz.prog 59 #[v,.int .i64 (zP p),.string x] w fun e w'=>e=.returned (.bool (isP ts p x.data.toList))∧w=w':=by
 have hlen:=h.len;cases p with
 | error k=>
  obtain ⟨a,cap,rfl⟩:=h.shape;obtain ⟨y,hy⟩:∃ y:Int,zP (.error k)=y:=⟨_,rfl⟩
  have hy0:y < 0:=by
   rw [← hy];show -1 - (k:Int) < 0;omega
  rw [hy];clear h hp hy
  go_enter Tryz.func59,Tryz.ntmps59
  go_wp2_with fail
  go_ret;exact ⟨rfl,rfl⟩
 | ok i=>
  have hi:i < ts.length:=hp;obtain ⟨b,cap,rfl,c0,c1,-⟩:=h.at_ hi;show Calls _ _ #[_,.int .i64 (i:Int),_] _ _;have e1:isP ts (.ok i) x.data.toList=(kAt ts i != 4 && xAt ts i == x.data.toList):=rfl;rw [e1];obtain ⟨k,hk⟩:∃ k,kAt ts i=k:=⟨_,rfl⟩
  obtain ⟨S,hS⟩:∃ S,S=aj (xAt ts i):=⟨_,rfl⟩
  rw [hk] at c0⊢;have hq:=str_dec (x:=x) hS;rw [← hS] at c1;have i0:(0:Int)≤(i:Int):=by omega
  have i1:(i:Int) < (ts.length:Int):=by omega
  have hx:(xAt ts i == x.data.toList)=decide (xAt ts i=x.data.toList):=by
   by_cases e:xAt ts i=x.data.toList<;>simp [e]
  rw [hx];generalize decide (xAt ts i=x.data.toList)=d at hq⊢;clear h hp hS hk hi e1 hx
  by_cases hk4:k=4
  ·subst hk4
   go_enter Tryz.func59,Tryz.ntmps59
   (go_wp2_with fail);go_ret;exact ⟨rfl,rfl⟩
  ·have hk5:(k != 4)=true:=by simpa using hk4
   have hk6:((k:Int) != 4)=true:=by simp;omega
   rw [hk5]
   go_enter Tryz.func59,Tryz.ntmps59
   (go_wp2_with fail);go_ret;exact ⟨rfl,rfl⟩
theorem aH (h:TS w v ts) (p:Except Nat Nat) (hp:aM ts p) (x:ByteArray) :
  Calls Tryz.prog 58 #[v,.int .i64 (zP p),.string x] w fun e w'=>e=.returned (.int .i64 (zP (ba ts p x.data.toList)))∧w=w':=by
 have hlen:=h.len;have K:=bb h p hp x;obtain ⟨a,cap,rfl⟩:=h.shape;cases p with
 | error k=>
  clear K;show Calls _ _ #[_,.int .i64 (zP (.error k)),_] _ (fun e w'=>e=.returned (.int .i64 (zP (.error k)))∧w=w');obtain ⟨y,hy⟩:∃ y:Int,zP (.error k)=y:=⟨_,rfl⟩
  have hy0:y < 0:=by
   rw [← hy];show -1 - (k:Int) < 0;omega
  rw [hy];clear h hp hy
  go_enter Tryz.func58,Tryz.ntmps58
  go_wp2_with fail
  go_ret;exact ⟨rfl,rfl⟩
 | ok i=>
  have hi:i < ts.length:=hp;have KB:=bZ i (by omega) w;show Calls _ _ #[_,.int .i64 (i:Int),_] _ (fun e w'=>e=.returned (.int .i64 (zP (bE ts i x.data.toList)))∧w=w');have e1:zP (bE ts i x.data.toList)=if isT ts i x.data.toList=true then (i:Int)+1 else -1 - (i:Int):=by
   unfold bE;split
   ·show ((i+1:Nat):Int)=_;omega
   ·rfl
  rw [e1];have K':Calls Tryz.prog 59 #[.slice a ts.length cap,.int .i64 (i:Int),.string x] w fun e w'=>e=.returned (.bool (isT ts i x.data.toList))∧w=w':=K;generalize isT ts i x.data.toList=d at K'⊢;have hb:¬ (i:Int) < 0:=by omega
  clear h hp e1 K;cases d
  ·rw [if_neg (by decide)]
   go_enter Tryz.func58,Tryz.ntmps58
   (go_wp2_with fail);refine K'.mono ?_;rintro e w' ⟨rfl,rfl⟩;(go_wp2_with fail);refine KB.mono ?_;rintro e w' ⟨rfl,rfl⟩;(go_wp2_with fail);go_ret;exact ⟨rfl,rfl⟩
  ·rw [if_pos rfl]
   go_enter Tryz.func58,Tryz.ntmps58
   (go_wp2_with fail);refine K'.mono ?_;rintro e w' ⟨rfl,rfl⟩;(go_wp2_with fail);go_ret;exact ⟨rfl,rfl⟩
def zR {α:Type} (r:Except Nat (α×Nat)):Int:=match r with | .ok (_,a)=>(a:Int) | .error k=>-1 - (k:Int)
def fC (ts:List Tok) (p:Except Nat Nat):Except Nat (Sec×Nat):=match p with | .ok i=>bp ts i | .error k=>.error k
def uG (ts:List Tok) (p:Except Nat Nat):Except Nat (Int×Nat):=match p with | .ok i=>pu ts i | .error k=>.error k
def ai {α:Type} (r:Except Nat (α×Nat)):Except Nat Nat:=match r with | .ok (_,a)=>.ok a | .error k=>.error k
theorem bs {α:Type} (r:Except Nat (α×Nat)):zR r=zP (ai r):=by
 cases r with
 | error k=>rfl
 | ok x=>rfl
def iZ (r:Except Nat (Sec×Nat)):Sec:=match r with | .ok (s,_)=>s | .error _=>[]
def valI (r:Except Nat (Int×Nat)):Int:=match r with | .ok (s,_)=>s | .error _=>0
theorem eu (h:TS w v ts) (p:Except Nat Nat) (hp:aM ts p) :
  Calls Tryz.prog 57 #[v,.int .i64 (zP p)] w fun e w'=>e=.returned (.tuple #[.string (aj (iZ (fC ts p))),.int .i64 (zR (fC ts p))])∧w=w':=by
 have hlen:=h.len;cases p with
 | error k=>
  obtain ⟨a,cap,rfl⟩:=h.shape;show Calls _ _ #[_,.int .i64 (zP (.error k))] _ (fun e w'=>e=.returned (.tuple #[.string ⟨#[]⟩,.int .i64 (zP (.error k))])∧w=w');obtain ⟨y,hy⟩:∃ y:Int,zP (.error k)=y:=⟨_,rfl⟩
  have hy0:y < 0:=by
   rw [← hy];show -1 - (k:Int) < 0;omega
  rw [hy];clear h hp hy
  go_enter Tryz.func57,Tryz.ntmps57
  go_wp2_with fail
  go_ret2
  exact ⟨rfl,rfl⟩
 | ok i=>
  have hi:i < ts.length:=hp;obtain ⟨b,cap,rfl,c0,c1,-⟩:=h.at_ hi;have KB:=bZ i (by omega) w;show Calls _ _ #[_,.int .i64 (i:Int)] _ (fun e w'=>e=.returned (.tuple #[.string (aj (iZ (bp ts i))),.int .i64 (zR (bp ts i))])∧w=w');obtain ⟨k,hk⟩:∃ k,kAt ts i=k:=⟨_,rfl⟩
  obtain ⟨S,hS⟩:∃ S,S=aj (xAt ts i):=⟨_,rfl⟩
  have KK:=mL S w;rw [show S.data.toList=xAt ts i by rw [hS];simp [aj]] at KK;have i0:(0:Int)≤(i:Int):=by omega
  have i1:(i:Int) < (ts.length:Int):=by omega
  have hb:¬ (i:Int) < 0:=by omega
  by_cases hk1:k=1
  ·by_cases hkw:xAt ts i∈kws
   ·have e1:bp ts i=.error i:=if_neg (fun e=>e.2 hkw);rw [e1,show (kws.contains (xAt ts i))=true by simpa using hkw] at *;rw [hk,hk1] at c0;rw [← hS] at c1;clear h hp hS hk hi;show Calls _ _ _ _ (fun e w'=>e=.returned (.tuple #[.string ⟨#[]⟩,.int .i64 (-1 - (i:Int))])∧w=w')
    go_enter Tryz.func57,Tryz.ntmps57
    (go_wp2_with fail);refine KK.mono ?_;rintro e w' ⟨rfl,rfl⟩;(go_wp2_with fail);refine KB.mono ?_;rintro e w' ⟨rfl,rfl⟩;go_wp2_with fail
    go_ret2
    exact ⟨rfl,rfl⟩
   ·have e1:bp ts i=.ok (xAt ts i,i+1):=if_pos ⟨hk.trans hk1,hkw⟩;rw [show (kws.contains (xAt ts i))=false by simpa using hkw] at KK;rw [e1];show Calls _ _ _ _ (fun e w'=>e=.returned (.tuple #[.string (aj (xAt ts i)),.int .i64 ((i+1:Nat):Int)])∧w=w');rw [hk,hk1] at c0;rw [← hS] at c1⊢;clear h hp hS hk hi e1
    go_enter Tryz.func57,Tryz.ntmps57
    (go_wp2_with fail);refine KK.mono ?_;rintro e w' ⟨rfl,rfl⟩;go_wp2_with fail
    go_ret2
    exact ⟨rfl,rfl⟩
  ·have e1:bp ts i=.error i:=if_neg (fun e=>hk1 (hk.symm.trans e.1));rw [e1];have hk6:((k:Int) != 1)=true:=by simp;omega
   show Calls _ _ _ _ (fun e w'=>e=.returned (.tuple #[.string ⟨#[]⟩,.int .i64 (-1 - (i:Int))])∧w=w');rw [hk] at c0;rw [← hS] at c1;clear h hp hS hk hi e1
   go_enter Tryz.func57,Tryz.ntmps57
   (go_wp2_with fail);refine KB.mono ?_;rintro e w' ⟨rfl,rfl⟩;go_wp2_with fail
   go_ret2
   exact ⟨rfl,rfl⟩
end
section
variable {w w':World} {v:Value} {ts:List Tok}
theorem uH (l:Sec) (k:Nat) (c:UInt8) (h:l[k]?=some c):kz (l.take (k+1))=wrap64 (wrap64 (10*kz (l.take k))+((c.toNat:Int) - 48) % 256):=by
 unfold kz;rw [List.take_add_one,h,Option.toList_some,List.foldl_append];rfl
theorem qT (h:TS w v ts) (p:Except Nat Nat) (hp:aM ts p) :
  Calls Tryz.prog 91 #[v,.int .i64 (zP p)] w fun e w'=>e=.returned (.tuple #[.int .i64 (valI (uG ts p)),.int .i64 (zR (uG ts p))])∧w=w':=by
 have hlen:=h.len;cases p with
 | error k=>
  obtain ⟨a,cap,rfl⟩:=h.shape;show Calls _ _ #[_,.int .i64 (zP (.error k))] _ (fun e w'=>e=.returned (.tuple #[.int .i64 0,.int .i64 (zP (.error k))])∧w=w');obtain ⟨y,hy⟩:∃ y:Int,zP (.error k)=y:=⟨_,rfl⟩
  have hy0:y < 0:=by
   rw [← hy];show -1 - (k:Int) < 0;omega
  rw [hy];clear h hp hy
  go_enter Tryz.func91,Tryz.ntmps91
  go_wp2_with fail
  go_ret2
  exact ⟨rfl,rfl⟩
 | ok i=>
  have hi:i < ts.length:=hp;obtain ⟨b,cap,rfl,c0,c1,-⟩:=h.at_ hi;have KB:=bZ i (by omega) w;show Calls _ _ #[_,.int .i64 (i:Int)] _ (fun e w'=>e=.returned (.tuple #[.int .i64 (valI (pu ts i)),.int .i64 (zR (pu ts i))])∧w=w');obtain ⟨k,hk⟩:∃ k,kAt ts i=k:=⟨_,rfl⟩
  obtain ⟨s,hS⟩:∃ S,S=aj (xAt ts i):=⟨_,rfl⟩
  have hsz:s.size≤1000:=by rw [hS];simpa [aj,ByteArray.size] using h.txt i
  have hsl:xAt ts i=s.data.toList:=by rw [hS];simp [aj]
  have i0:(0:Int)≤(i:Int):=by omega
  have i1:(i:Int) < (ts.length:Int):=by omega
  have hb:¬ (i:Int) < 0:=by omega
  by_cases hk1:k=2
  ·have e1:pu ts i=.ok (kz s.data.toList,i+1):=by
    unfold pu;rw [if_pos (hk.trans hk1),hsl]
   rw [e1];show Calls _ _ _ _ (fun e w'=>e=.returned (.tuple #[.int .i64 (kz s.data.toList),.int .i64 ((i+1:Nat):Int)])∧w=w');rw [hk,hk1] at c0;rw [← hS] at c1;clear h hp hS hk hi e1 KB hsl
   go_enter Tryz.func91,Tryz.ntmps91
   go_wp2_with fail
   go_loop [6,7] (fun n j=>∃ k:Nat,k≤s.size∧j=.int .i64 k∧n=.int .i64 (kz (s.data.toList.take k))) (fun _ j=>s.size - (intOf j).toNat)
   case atStart=>exact ⟨0,Nat.zero_le _,rfl,rfl⟩
   case round=>
    obtain ⟨j,hj,rfl,rfl⟩:=hrel
    by_cases hlt:j < s.size
    ·obtain ⟨n0,hn0⟩:∃ n0,n0=kz (s.data.toList.take j):=⟨_,rfl⟩
     rw [← hn0];have HN:=Hd hn0;clear hn0;go_wp2_with fail
     go_round
     case rel=>exact ⟨j+1,by omega,by go_num,by rw [uH _ j _ (fS s j hlt),← HN.out]⟩
     case measure=>simp [intOf];omega
    ·obtain rfl:j=s.size:=by omega
     have e2:s.data.toList.take s.size=s.data.toList:=List.take_of_length_le (by rw [aQ];exact Nat.le_refl _);rw [e2];go_wp2_with fail
     go_ret2
     exact ⟨rfl,rfl⟩
  ·have e1:pu ts i=.error i:=if_neg (fun e=>hk1 (hk.symm.trans e));rw [e1];have hk6:((k:Int) != 2)=true:=by simp;omega
   show Calls _ _ _ _ (fun e w'=>e=.returned (.tuple #[.int .i64 0,.int .i64 (-1 - (i:Int))])∧w=w');rw [hk] at c0;rw [← hS] at c1;clear h hp hS hk hi e1
   go_enter Tryz.func91,Tryz.ntmps91
   (go_wp2_with fail);refine KB.mono ?_;rintro e w' ⟨rfl,rfl⟩;go_wp2_with fail
   go_ret2
   exact ⟨rfl,rfl⟩
end
def oX:List Sec:=[[124,124],[38,38],[60],[60,61],[62],[62,61],[61,61],[33,61],[43],[45],[42],[47],[37]]
theorem uI {x:Sec} (h:x∉oX):lvl x=0:=by
 unfold lvl;simp only [oX,List.mem_cons,List.not_mem_nil,or_false,not_or] at h;simp [h]
theorem bg {s:ByteArray} (hn:s.data.toList∉oX):∀ m∈oX,(s.toList == m)=false:=fun m hm=>fy (fun e=>hn (by rw [e];exact hm))
theorem r9 (s:ByteArray) (w:World) :
  Calls Tryz.prog 88 #[.string s] w fun e w'=>e=.returned (.int .i64 (lvl s.data.toList:Nat))∧w=w':=by
 by_cases hm:s.data.toList∈oX
 ·simp only [oX,List.mem_cons,List.not_mem_nil,or_false] at hm;rcases hm with h | h | h | h | h | h | h | h | h | h | h | h | h<;>
  ·obtain rfl:=bk.2 h;clear h
   go_enter Tryz.func88,Tryz.ntmps88
   go_wp2
   go_ret;exact ⟨rfl,rfl⟩
 ·rw [uI hm];have n1:=bg hm [124,124] (by decide);have n2:=bg hm [38,38] (by decide);have n3:=bg hm [60] (by decide);have n4:=bg hm [60,61] (by decide);have n5:=bg hm [62] (by decide);have n6:=bg hm [62,61] (by decide);have n7:=bg hm [61,61] (by decide);have n8:=bg hm [33,61] (by decide);have n9:=bg hm [43] (by decide);have n10:=bg hm [45] (by decide);have n11:=bg hm [42] (by decide);have n12:=bg hm [47] (by decide);have n13:=bg hm [37] (by decide);clear hm
  go_enter Tryz.func88,Tryz.ntmps88
  go_wp2
  go_ret;exact ⟨rfl,rfl⟩
def RE (w:World) (r:Except Nat (E×Nat)) (e:Ending) (w':World):Prop:=
 ∃ (k n:Int) (s:ByteArray) (a:Option Addr) (l c:Nat) (p:Int),e=.returned (.tuple #[.agg #[.int .i64 k,.int .i64 n,.string s,.slice a l c,.int .i64 p],.int .i64 (zR r)])∧
  (∀ t i,r=.ok (t,i)→EV w' (fun b=>w.heap.size≤b) t [.int .i64 k,.int .i64 n,.string s,.slice a l c,.int .i64 p])∧Only [] w w'
theorem RE.bad {w w':World} {k n:Int} {s:ByteArray} {a:Option Addr} {l c:Nat} {p z:Int} {i:Nat} (hz:z=-1 - (i:Int)) (ho:Only [] w w') :
  RE w (.error i) (.returned (.tuple #[.agg #[.int .i64 k,.int .i64 n,.string s,.slice a l c,.int .i64 p],.int .i64 z])) w':=
 ⟨k,n,s,a,l,c,p,by rw [hz];rfl,fun t j h=>(by cases h),ho⟩
theorem RE.good {w w':World} {k n:Int} {s:ByteArray} {a:Option Addr} {l c:Nat} {p z:Int} {i:Nat} {t:E} (hz:z=(i:Int)) (ho:Only [] w w')
  (hv:EV w' (fun b=>w.heap.size≤b) t [.int .i64 k,.int .i64 n,.string s,.slice a l c,.int .i64 p]) :
  RE w (.ok (t,i)) (.returned (.tuple #[.agg #[.int .i64 k,.int .i64 n,.string s,.slice a l c,.int .i64 p],.int .i64 z])) w':=
 ⟨k,n,s,a,l,c,p,by rw [hz];rfl,fun t' j h=>by cases h;exact hv,ho⟩
section
variable {w w':World} {v:Value} {ts:List Tok}
theorem mR (k:Nat):∃ y:Int,zP (.error k)=y∧y < 0∧y=-1 - (k:Int):=⟨_,rfl,by show -1 - (k:Int) < 0;omega,rfl⟩
theorem sa (h:TS w v ts) (k:Nat) (dp:Int):Calls Tryz.prog 87 #[v,.int .i64 (zP (.error k)),.int .i64 dp] w (RE w (.error k)):=by
 obtain ⟨a,cap,rfl⟩:=h.shape;obtain ⟨y,hy,hy0,hy1⟩:=mR k;rw [hy];have HY:=Hd hy1;clear h hy hy1
 go_enter Tryz.func87,Tryz.ntmps87
 go_wp2_with fail
 go_returns
 exact RE.bad HY.out ((Only.refl [] w).alloc _)
def qU (ts:List Tok) (f:Nat):Prop:=∀ (w:World) (v:Value) (i dp:Nat),TS w v ts→i < ts.length→3*(ts.length - i)+2≤f→dp≤13→Calls Tryz.prog 87 #[v,.int .i64 (i:Int),.int .i64 (dp:Int)] w (RE w (bL ts f i dp))
def pC (ts:List Tok) (f:Nat):Prop:=∀ (w:World) (v:Value) (i dp:Nat) (x y:ByteArray),TS w v ts→i < ts.length→3*(ts.length - i)+1≤f→dp≤13→Calls Tryz.prog 109 #[v,.int .i64 (i:Int),.int .i64 (dp:Int),.string x,.string y] w (RE w (aO ts f i dp x.data.toList y.data.toList))
def ExprC (ts:List Tok) (f:Nat):Prop:=∀ (w:World) (v:Value) (i least dp:Nat),TS w v ts→i < ts.length→3*(ts.length - i)+3≤f→least≤6→dp≤13→Calls Tryz.prog 60 #[v,.int .i64 (i:Int),.int .i64 (least:Int),.int .i64 (dp:Int)] w (RE w (cT ts f i least dp))
theorem EV.leaf {w:World} {B:Nat→Prop} (k n p:Int) (s:ByteArray) (l:Sec) (hs:aj l=s):EV w B (.mk k n l [] p) [.int .i64 k,.int .i64 n,.string s,.slice none 0 0,.int .i64 p]:=by
 subst hs;exact EV.mk' (EsV.nil _ _)
theorem RE.leaf {w w':World} {k n p z:Int} {s:ByteArray} {l:Sec} {i:Nat} (hs:aj l=s) (hz:z=(i:Int)) (ho:Only [] w w') :
  RE w (.ok (.mk k n l [] p,i)) (.returned (.tuple #[.agg #[.int .i64 k,.int .i64 n,.string s,.slice none 0 0,.int .i64 p],.int .i64 z])) w':=
 RE.good hz ho (EV.leaf _ _ _ _ _ hs)
def oneR (kd ps:Int) (r:Except Nat (E×Nat)):Except Nat (E×Nat):=match r with | .error k=>.error k | .ok (e,a)=>.ok (.mk kd 0 [] [e] ps,a)
theorem RE.one {w w3 w4 W1 W:World} {gE gR ng:Nat} {t:E} {cs:List Value} {kd ps z:Int} {i:Nat} (hv:EV w4 (fun b=>w3.heap.size≤b) t cs) (h03:Only [] w w3) (h34:Only [] w3 w4) (hE:w.heap.size≤gE∧gE < w3.heap.size) (hR:w.heap.size≤gR∧gR < w3.heap.size)
  (o1:Only [gE] w4 W1) (o2:Only [gE,gR] (W1.alloc (.cells cs.toArray 95)) W) (hng:W1.heap.size=ng) (hz:z=(i:Int)) :
  RE w (.ok (.mk kd 0 [] [t] ps,i)) (.returned (.tuple #[.agg #[.int .i64 kd,.int .i64 0,.string ⟨#[]⟩,.slice (some ⟨ng,0,none⟩) 1 1,.int .i64 ps],.int .i64 z])) W:=by
 have h04:=h03.trans h34 (by simp);have hz4:=h34.size;have hz1:=o1.size;have ho:Only [] w W:=by
  refine (h04.trans (T:=[gE]) o1 (fun k hk=>.inr ?_)).trans (T:=[gE,gR]) (((Only.refl [gE,gR] W1).alloc _).trans o2 (fun k hk=>.inl hk)) (fun k hk=>.inr ?_)
  ·rw [List.mem_singleton.1 hk];exact hE.1
  ·rcases List.mem_cons.1 hk with rfl | hk
   ·exact hE.1
   ·rw [List.mem_singleton.1 hk];exact hR.1
 refine RE.good hz ho ?_;have h1:EV W1 (fun b=>w3.heap.size≤b) t cs:=EV.kept o1 (fun k hk hb=>by rw [List.mem_singleton.1 hk] at hb;omega) (fun _ h=>h) t cs hv;have h2:=EsV.made1 h1 (show w3.heap.size≤W1.heap.size by omega);rw [hng] at h2
 have h3:EsV W (fun b=>w.heap.size≤b) (.slice (some ⟨ng,0,none⟩) 1 1) [t]:=h2.kept o2 (fun k hk hb=>by
  rcases List.mem_cons.1 hk with rfl | hk
  ·omega
  ·rw [List.mem_singleton.1 hk] at hb;omega) (fun b hb=>by have:=h03.size;omega)
 exact EV.mk' (s:=[]) h3
theorem aD {W:World} {g:Nat} {z0 z1 z2 z3 z4:Value} {t:TypeId} (h:W.heap[g]?=some (.cells #[z0,z1,z2,z3,z4] t (0,0))) (v0 v1 v2 v3 v4:Value) :
  (((((W.setCell ⟨g,0,none⟩ v0).setCell ⟨g,1,none⟩ v1).setCell ⟨g,2,none⟩ v2).setCell ⟨g,3,none⟩ v3).setCell ⟨g,4,none⟩ v4).heap[g]?=some (.cells #[v0,v1,v2,v3,v4] t (0,0)):=
 af (i:=4) v4 (af (i:=3) v3 (af (i:=2) v2 (af (i:=1) v1 (af (i:=0) v0 h))))
theorem jm (w:World) (g:Nat) (v0 v1 v2 v3 v4:Value) (h:w.heap[g]?=some (.cells #[v0,v1,v2,v3,v4] 95 (0,0))):(loadVar 95 ⟨g,0,none⟩).run Tryz.prog w=.ok (.agg #[v0,v1,v2,v3,v4]) w:=by
 have c0:w.cell? ⟨g,0,none⟩=some v0:=ab 0 h;have c1:w.cell? ⟨g,1,none⟩=some v1:=ab 1 h;have c2:w.cell? ⟨g,2,none⟩=some v2:=ab 2 h;have c3:w.cell? ⟨g,3,none⟩=some v3:=ab 3 h;have c4:w.cell? ⟨g,4,none⟩=some v4:=ab 4 h;clear h;simp [go_sem,c0,c1,c2,c3,c4]
theorem bt (tmps:Array Value) (w:World) (g:Nat) (v0 v1 v2 v3 v4 z:Value) (h6:tmps.getD 6 undef=.pointer (some ⟨g,0,none⟩)) (h7:tmps.getD 7 undef=z) (h:w.heap[g]?=some (.cells #[v0,v1,v2,v3,v4] 95 (0,0))) :
  (results Tryz.f87 tmps).run Tryz.prog w=.ok (.tuple #[.agg #[v0,v1,v2,v3,v4],z]) w:=by
 have hl:=jm w g v0 v1 v2 v3 v4 h;have h6':tmps[6]?.getD undef=.pointer (some ⟨g,0,none⟩):=by simpa using h6
 have h7':tmps[7]?.getD undef=z:=by simpa using h7
 simp [results,Tryz.results87,asAddr,h6',h7',hl]
theorem pD {P:Program} {f:FuncId} {args:Array Value} {A B C:Obj} {Q:Ending→World→Prop} (h:∀ w3,w3.heap[w.heap.size]?=some A→w3.heap[w.heap.size+1]?=some B→w3.heap[w.heap.size+1+1]?=some C→Only [] w w3→Calls P f args w3 Q) :
  Calls P f args (((w.alloc A).alloc B).alloc C) Q:=by
 have s1:(w.alloc A).heap.size=w.heap.size+1:=Array.size_push _;have s2:((w.alloc A).alloc B).heap.size=w.heap.size+1+1:=by rw [← s1];exact Array.size_push _
 refine h _ ?_ ?_ ?_ ((((Only.refl [] w).alloc _).alloc _).alloc _)
 ·exact ax _ (ax _ (ag w A))
 ·rw [← s1];exact ax _ (ag (w.alloc A) B)
 ·rw [← s2];exact ag _ C
end
end Go.Proofs.YtcebchffcmpfeaaGreat
