import Derived.Test.YtagkbbcpbebapaaZbr
import Derived.Test.YtagkbbcpbebapaaQar
namespace Go.Proofs.Ytagkbbcpbebapaa
open Go.RowKit Go.Maps
set_option linter.unusedSimpArgs false
set_option linter.unusedVariables false
def flipK (k:Int):Int:=if k=3 then 4 else if k=4 then 3 else if k=7 then 8 else if k=8 then 7 else k
def letsB:List St→List St | []=>[] | x :: xs=>if x.kind=1 then x :: letsB xs else letsB xs
mutual
def tuS:St→St | .mk k nm xs n bd els p=>.mk (flipK k) nm xs n (letsB bd++tuO bd) (letsB els++tuO els) p
def tuO:List St→List St | []=>[] | x :: xs=>tuO xs++(if x.kind=1 then [] else [tuS x])
end
def tuB (l:List St):List St:=letsB l++tuO l
def turnD (d:Df):Df:=⟨d.name,d.params,[],tuB d.body,[]⟩
mutual
theorem exV_free (c c':List Int) (m:Nms):∀ e:E,cellE e=false→exV c m e=exV c' m e
 | .mk k n nm xs p,h=>by
  unfold cellE at h
  rw [Bool.or_eq_false_iff,decide_eq_false_iff_not] at h
  unfold exV
  rw [exVs_free c c' m xs h.2]
  unfold exO
  simp only [if_neg h.1]
theorem exVs_free (c c':List Int) (m:Nms):∀ xs:List E,cellL xs=false→exVs c m xs=exVs c' m xs
 | [],_=>rfl
 | x :: xs,h=>by
  unfold cellL at h
  rw [Bool.or_eq_false_iff] at h
  unfold exVs
  rw [exV_free c c' m x h.1,exVs_free c c' m xs h.2]
end
theorem SameN.rfl' (env:Env) (m:Nms):SameN env m m:=fun _ _=>rfl
theorem SameN.both {env:Env} {a b:VE} (h:SameN env (lastE a) (lastE b)) (nm:Sec) (t v:Int):SameN (env++[(nm,t)]) (lastE (a++[(nm,v)])) (lastE (b++[(nm,v)])):=fun z hz=>by
 rw [lastE_snoc,lastE_snoc]
 unfold nput
 by_cases e:z=nm
 ·rw [if_pos e,if_pos e]
 ·rw [if_neg e,if_neg e]
  rcases lookE_snoc hz with h1 | h1
  ·exact h z h1
  ·exact absurd h1 e
theorem loopA_congr {α:Type} {f g:Nat→α→α} (h:∀ i s,f i s=g i s):∀ (j:Nat) (s:α),loopA f j s=loopA g j s
 | 0,_=>rfl
 | j+1,s=>by
  show f j (loopA f j s)=g j (loopA g j s)
  rw [loopA_congr h j s,h]
theorem loopA_undo {α:Type} {f g:Nat→α→α} (P:α→Prop) (n:Nat) (hf:∀ i s,P s→P (f i s)) (h:∀ i s,i < n→P s→g (n - 1 - i) (f i s)=s) (s:α) (hs:P s):loopA g n (loopA f n s)=s:=by
 have hP:∀ j,P (loopA f j s):=fun j=>by
  induction j with
  | zero=>exact hs
  | succ j ih=>exact hf j _ ih
 have:∀ j,j≤n→loopA g j (loopA f n s)=loopA f (n - j) s:=fun j=>by
  induction j with
  | zero=>intro _;rfl
  | succ j ih=>
   intro hj
   show g j (loopA g j (loopA f n s))=_
   rw [ih (by omega),show n - j=(n - (j+1))+1 by omega]
   show g j (f (n - (j+1)) (loopA f (n - (j+1)) s))=_
   have:=h (n - (j+1)) (loopA f (n - (j+1)) s) (by omega) (hP _)
   rw [show n - 1 - (n - (j+1))=j by omega] at this
   exact this
 have:=this n (Nat.le_refl _)
 rw [Nat.sub_self] at this
 exact this
section
variable {nm:Sec} {xs:List E} {n p:Int} {bd els:List St} {s:List Int×VE} {env:Env} {r:RS}
theorem dcS_let:dcS (.mk 1 nm xs n bd els p) s=(s.1,s.2++[(nm,(exVs s.1 (lastE s.2) xs).getD 0 0)]):=by
 unfold dcS;rw [if_pos rfl]
theorem dcS_if:dcS (.mk 6 nm xs n bd els p) s=(if (exVs s.1 (lastE s.2) xs).getD 0 0≠0 then (dcB bd s).1 else (dcB els s).1,s.2):=by
 conv=>lhs;unfold dcS
 rw [if_neg (by decide),if_pos rfl]
theorem dcS_for:dcS (.mk 7 nm xs n bd els p) s=(loopA (fun i c=>(dcB bd (c,s.2++[(nm,(i:Int))])).1) n.toNat s.1,s.2):=by
 conv=>lhs;unfold dcS
 rw [if_neg (by decide),if_neg (by decide),if_pos rfl]
theorem dcS_back:dcS (.mk 8 nm xs n bd els p) s=(loopA (fun i c=>(dcB bd (c,s.2++[(nm,n - 1 - (i:Int))])).1) n.toNat s.1,s.2):=by
 conv=>lhs;unfold dcS
 rw [if_neg (by decide),if_neg (by decide),if_neg (by decide),if_pos rfl]
theorem dcS_swap:dcS (.mk 5 nm xs n bd els p) s=(swpC s.1 ((exVs s.1 (lastE s.2) xs).getD 0 0) ((exVs s.1 (lastE s.2) xs).getD 1 0),s.2):=by
 conv=>lhs;unfold dcS
 rw [if_neg (by decide),if_neg (by decide),if_neg (by decide),if_neg (by decide),if_pos rfl]
theorem dcS_chg {k:Int} (hk:k=2∨k=3∨k=4):dcS (.mk k nm xs n bd els p) s=(chgC k s.1 ((exVs s.1 (lastE s.2) xs).getD 0 0) ((exVs s.1 (lastE s.2) xs).getD 1 0),s.2):=by
 conv=>lhs;unfold dcS
 rw [if_neg (by omega),if_neg (by omega),if_neg (by omega),if_neg (by omega),if_neg (by omega)]
theorem stmtD_let {x:E}:stmtD r (.mk 1 nm [x] n bd els p) env=((kindR r x env).2.declare nm p,env++[(nm,(kindR r x env).1)]):=by
 unfold stmtD;rw [if_pos rfl]
theorem stmtD_if {x:E}:stmtD r (.mk 6 nm [x] n bd els p) env=((blockD (blockD (needR r x 2 env) bd env).1 els env).1,env):=by
 conv=>lhs;unfold stmtD
 rw [if_neg (by decide),if_pos rfl]
theorem stmtD_loop {k:Int} (hk:k=7∨k=8):stmtD r (.mk k nm xs n bd els p) env=((blockD (if 64 < n then (r.declare nm p).fail 11 p else r.declare nm p) bd (env++[(nm,1)])).1,env):=by
 conv=>lhs;unfold stmtD
 rw [if_neg (by omega),if_neg (by omega),if_pos hk]
theorem stmtD_two {k:Int} {x y:E} (hk:k=2∨k=3∨k=4∨k=5):stmtD r (.mk k nm [x,y] n bd els p) env=(needR (needR r x 1 env) y 1 env,env):=by
 conv=>lhs;unfold stmtD
 rw [if_neg (by omega),if_neg (by omega),if_neg (by omega)]
end
theorem isS_split {k:Int} {xs:List E} {n:Int} (h:isS k xs.length n):(∃ x,xs=[x]∧k=1)∨(∃ x,xs=[x]∧k=6)∨(∃ x y,xs=[x,y]∧(k=2∨k=3∨k=4∨k=5))∨(xs=[]∧0≤n∧(k=7∨k=8)):=by
 rcases h with ⟨hk,hl⟩ | ⟨hk,hl⟩ | ⟨hk,hl,hn⟩
 ·obtain ⟨x,rfl⟩:=List.length_eq_one_iff.1 hl
  rcases hk with rfl | rfl
  ·exact .inl ⟨x,rfl,rfl⟩
  ·exact .inr (.inl ⟨x,rfl,rfl⟩)
 ·rcases xs with _ | ⟨x,_ | ⟨y,_ | ⟨z,xs⟩⟩⟩
  ·simp at hl
  ·simp at hl
  ·exact .inr (.inr (.inl ⟨x,y,rfl,hk⟩))
  ·simp at hl
 ·obtain rfl:=List.eq_nil_of_length_eq_zero hl
  exact .inr (.inr (.inr ⟨rfl,hn,hk⟩))
theorem decl_code {r:RS} {nm:Sec} {n p:Int} {bd:List St} {env:Env} (h:(blockD (if 64 < n then (r.declare nm p).fail 11 p else r.declare nm p) bd env).1.code=0):n≤64∧(r.declare nm p).code=0∧(if 64 < n then (r.declare nm p).fail 11 p else r.declare nm p)=r.declare nm p:=by
 have c1:(if 64 < n then (r.declare nm p).fail 11 p else r.declare nm p).code=0:=code_of_bad (fun y hy=>RS.bad.block bd _ y _ hy) h
 by_cases h64:64 < n
 ·rw [if_pos h64] at c1
  exact absurd c1 (fail_ne (by decide))
 ·rw [if_neg h64] at c1⊢
  exact ⟨by omega,c1,rfl⟩
mutual
theorem stmt_two:∀ (x:St) (r:RS) (env:Env) (c:List Int) (a b:VE),wS x→(stmtD r x env).1.code=0→SameN env (lastE a) (lastE b)→
  (dcS x (c,a)).1=(dcS x (c,b)).1∧SameN (stmtD r x env).2 (lastE (dcS x (c,a)).2) (lastE (dcS x (c,b)).2)
 | .mk k nm xs n bd els p,r,env,c,a,b,hw,h0,hs=>by
  unfold wS at hw
  obtain ⟨hi,-,hx,hb,he⟩:=hw
  rcases isS_split hi with ⟨x,rfl,rfl⟩ | ⟨x,rfl,rfl⟩ | ⟨x,y,rfl,hk⟩ | ⟨rfl,hn,hk⟩
  ·rw [stmtD_let] at h0⊢
   obtain ⟨d1,-,-⟩:=declare_code h0
   have hv:=getD_cons1 (xs:=[]) (kind_same c hs x r d1)
   rw [dcS_let,dcS_let]
   dsimp only
   rw [hv]
   exact ⟨rfl,hs.both nm _ _⟩
  ·rw [stmtD_if] at h0⊢
   have c1:(blockD (needR r x 2 env) bd env).1.code=0:=code_of_bad (fun y hy=>RS.bad.block els _ y env hy) h0
   have c2:(needR r x 2 env).code=0:=code_of_bad (fun y hy=>RS.bad.block bd _ y env hy) c1
   have hv:=getD_cons1 (xs:=[]) (kind_same c hs x r (need_code c2).1)
   have r1:=block_two bd _ env c a b hb c1 hs
   have r2:=block_two els _ env c a b he h0 hs
   rw [dcS_if,dcS_if]
   dsimp only
   rw [hv,r1.1,r2.1]
   exact ⟨rfl,hs⟩
  ·rw [stmtD_two hk] at h0⊢
   obtain ⟨c1,c2⟩:=need_code h0
   obtain ⟨c3,-⟩:=need_code c2
   obtain ⟨v1,v2⟩:=getD_cons2 (xs:=[]) (kind_same c hs x r c3) (kind_same c hs y _ c1)
   rcases hk with rfl | rfl | rfl | rfl
   ·rw [dcS_chg (.inl rfl),dcS_chg (.inl rfl)];dsimp only;rw [v1,v2];exact ⟨rfl,hs⟩
   ·rw [dcS_chg (.inr (.inl rfl)),dcS_chg (.inr (.inl rfl))];dsimp only;rw [v1,v2];exact ⟨rfl,hs⟩
   ·rw [dcS_chg (.inr (.inr rfl)),dcS_chg (.inr (.inr rfl))];dsimp only;rw [v1,v2];exact ⟨rfl,hs⟩
   ·rw [dcS_swap,dcS_swap];dsimp only;rw [v1,v2];exact ⟨rfl,hs⟩
  ·rw [stmtD_loop hk] at h0⊢
   obtain ⟨-,-,e1⟩:=decl_code h0
   have hr:∀ (v:Int) (c:List Int),(dcB bd (c,a++[(nm,v)])).1=(dcB bd (c,b++[(nm,v)])).1:=fun v c=>(block_two bd _ _ c _ _ hb h0 (hs.both nm 1 v)).1
   rcases hk with rfl | rfl
   ·rw [dcS_for,dcS_for]
    exact ⟨loopA_congr (fun i c=>hr _ c) _ _,hs⟩
   ·rw [dcS_back,dcS_back]
    exact ⟨loopA_congr (fun i c=>hr _ c) _ _,hs⟩
theorem block_two:∀ (xs:List St) (r:RS) (env:Env) (c:List Int) (a b:VE),wB xs→(blockD r xs env).1.code=0→SameN env (lastE a) (lastE b)→
  (dcB xs (c,a)).1=(dcB xs (c,b)).1∧SameN (blockD r xs env).2 (lastE (dcB xs (c,a)).2) (lastE (dcB xs (c,b)).2)
 | [],r,env,c,a,b,_,h0,hs=>by
  unfold dcB blockD
  exact ⟨rfl,hs⟩
 | x :: xs,r,env,c,a,b,hw,h0,hs=>by
  unfold wB at hw
  unfold blockD at h0⊢
  unfold dcB
  have c1:(stmtD r x env).1.code=0:=code_of_bad (fun y hy=>RS.bad.block xs _ y _ hy) h0
  have r1:=stmt_two x r env c a b hw.1 c1 hs
  have r2:=block_two xs _ _ (dcS x (c,a)).1 (dcS x (c,a)).2 (dcS x (c,b)).2 hw.2 h0 r1.2
  have e1:dcS x (c,a)=((dcS x (c,a)).1,(dcS x (c,a)).2):=rfl
  have e2:dcS x (c,b)=((dcS x (c,a)).1,(dcS x (c,b)).2):=by rw [r1.1]
  rw [e1,e2]
  exact r2
end
theorem stmtD_env (x:St) (r:RS) (env:Env):∃ N,(stmtD r x env).2=env++N:=by
 obtain ⟨k,nm,xs,n,bd,els,p⟩:=x
 unfold stmtD
 split
 ·split
  ·exact ⟨[],by simp⟩
  ·exact ⟨_,rfl⟩
 ·split
  ·split<;>exact ⟨[],by simp⟩
  ·split
   ·exact ⟨[],by simp⟩
   ·split<;>exact ⟨[],by simp⟩
theorem blockD_env:∀ (xs:List St) (r:RS) (env:Env),∃ N,(blockD r xs env).2=env++N
 | [],r,env=>by unfold blockD;exact ⟨[],by simp⟩
 | x :: xs,r,env=>by
  unfold blockD
  obtain ⟨N,h⟩:=stmtD_env x r env
  obtain ⟨M,h2⟩:=blockD_env xs (stmtD r x env).1 (stmtD r x env).2
  exact ⟨N++M,by rw [h2,h,List.append_assoc]⟩
theorem look_more {env N:Env} {z:Sec} (h:(lookE env z).isSome=true):(lookE (env++N) z).isSome=true:=by
 rw [lookE_app]
 cases hl:lookE env z with
 | some t=>rfl
 | none=>rw [hl] at h;cases h
theorem block_keeps (xs:List St) {r:RS} {env:Env} (c:List Int) (ve:VE) (hw:wB xs) (h0:(blockD r xs env).1.code=0) (hk:Know r env) {z:Sec} (hz:(lookE env z).isSome=true) :
  lastE (dcB xs (c,ve)).2 z=lastE ve z:=by
 have h:=block_same xs r env ⟨c,lastE ve⟩ ve hw h0 hk (SameN.rfl' _ _)
 obtain ⟨N,hN⟩:=blockD_env xs r env
 rw [← h.same z (by rw [hN];exact look_more hz),h.old z (hk z hz)]
theorem stmt_know (x:St) {r:RS} {env:Env} (hw:wS x) (h0:(stmtD r x env).1.code=0) (hk:Know r env):Know (stmtD r x env).1 (stmtD r x env).2:=
 (stmt_same x r env ⟨[],fun _=>none⟩ [] hw h0 hk (fun _ _=>rfl)).know
theorem wrap_back {a v:Int} (h:n64 a):wrap64 (wrap64 (a+v) - v)=a:=by
 unfold n64 at h
 unfold wrap64
 omega
theorem wrap_back' {a v:Int} (h:n64 a):wrap64 (wrap64 (a - v)+v)=a:=by
 unfold n64 at h
 unfold wrap64
 omega
theorem getC_set {c:List Int} (hc:c.length=60) {i:Int} (hi:inC i) (v:Int):getC (c.set i.toNat v) i=v:=by
 unfold getC
 rw [if_pos hi,List.getD_eq_getElem?_getD,List.getElem?_set_self (by omega)]
 rfl
theorem set_get {c:List Int} (hc:c.length=60) {i:Int} (hi:inC i):c.set i.toNat (getC c i)=c:=by
 unfold getC
 have hl:i.toNat < c.length:=by omega
 rw [if_pos hi,List.getD_eq_getElem?_getD,List.getElem?_eq_getElem hl]
 exact List.set_getElem_self hl
theorem chgC_three (c:List Int) (i v:Int):chgC 3 c i v=if inC i then c.set i.toNat (wrap64 (getC c i+v)) else c:=by
 unfold chgC
 rw [if_neg (show ¬ (3:Int)=2 by decide),if_pos rfl]
theorem chgC_four (c:List Int) (i v:Int):chgC 4 c i v=if inC i then c.set i.toNat (wrap64 (getC c i - v)) else c:=by
 unfold chgC
 rw [if_neg (show ¬ (4:Int)=2 by decide),if_neg (show ¬ (4:Int)=3 by decide),if_pos rfl]
theorem add_take {c:List Int} (h:CW c) (i v:Int):chgC 4 (chgC 3 c i v) i v=c:=by
 rw [chgC_three,chgC_four]
 by_cases hi:inC i
 ·rw [if_pos hi,if_pos hi,getC_set h.len hi,wrap_back (h.get i),List.set_set,set_get h.len hi]
 ·rw [if_neg hi,if_neg hi]
theorem take_add {c:List Int} (h:CW c) (i v:Int):chgC 3 (chgC 4 c i v) i v=c:=by
 rw [chgC_three,chgC_four]
 by_cases hi:inC i
 ·rw [if_pos hi,if_pos hi,getC_set h.len hi,wrap_back' (h.get i),List.set_set,set_get h.len hi]
 ·rw [if_neg hi,if_neg hi]
theorem getC_set_ne {c:List Int} {i j:Int} (hi:inC i) (hj:inC j) (h:i≠j) (v:Int):getC (c.set i.toNat v) j=getC c j:=by
 unfold getC
 rw [if_pos hj,if_pos hj,List.getD_eq_getElem?_getD,List.getD_eq_getElem?_getD,List.getElem?_set_ne (by omega)]
theorem swap_swap {c:List Int} (h:c.length=60) (i j:Int):swpC (swpC c i j) i j=c:=by
 unfold swpC
 by_cases hi:inC i∧inC j
 ·simp only [if_pos hi]
  by_cases e:i=j
  ·subst e
   have h1:(c.set i.toNat (getC c i))=c:=set_get h hi.1
   rw [h1,h1,h1,h1]
  ·have l1:(c.set i.toNat (getC c j)).length=60:=by rw [List.length_set];exact h
   rw [getC_set l1 hi.2,getC_set_ne hi.2 hi.1 (fun e'=>e e'.symm),getC_set h hi.1]
   have hne:i.toNat≠j.toNat:=by omega
   rw [List.set_comm _ _ (Ne.symm hne)]
   simp only [List.set_set]
   rw [set_get h hi.1,set_get h hi.2]
 ·simp only [if_neg hi]
theorem hasS_mk (a b:Int) (k:Int) (nm:Sec) (xs:List E) (n:Int) (bd els:List St) (p:Int):hasS a b (.mk k nm xs n bd els p)=false↔¬ (a≤k∧k≤b)∧hasB a b bd=false∧hasB a b els=false:=by
 conv=>lhs;unfold hasS
 simp [Bool.or_eq_false_iff,Bool.and_eq_false_iff]
theorem hasB_cons (a b:Int) (x:St) (xs:List St):hasB a b (x :: xs)=false↔hasS a b x=false∧hasB a b xs=false:=by
 conv=>lhs;unfold hasB
 rw [Bool.or_eq_false_iff]
theorem readS_mk (k:Int) (nm:Sec) (xs:List E) (n:Int) (bd els:List St) (p:Int):readS (.mk k nm xs n bd els p)=false↔cellL xs=false∧readB bd=false∧readB els=false:=by
 conv=>lhs;unfold readS
 rw [Bool.or_eq_false_iff,Bool.or_eq_false_iff]
theorem readB_cons (x:St) (xs:List St):readB (x :: xs)=false↔readS x=false∧readB xs=false:=by
 conv=>lhs;unfold readB
 rw [Bool.or_eq_false_iff]
theorem CW.chg2 {c:List Int} (h:CW c) {k:Int} (hk:k≠2) (i v:Int):CW (chgC k c i v):=by
 unfold chgC
 split
 ·split
  ·exact h.set _ (n64_wrap _)
  ·split
   ·exact h.set _ (n64_wrap _)
   ·exact h
 ·exact h
mutual
theorem dcS_w:∀ (x:St) (c:List Int) (ve:VE),wS x→hasS 2 2 x=false→CW c→CW (dcS x (c,ve)).1
 | .mk k nm xs n bd els p,c,ve,hw,hh,h=>by
  unfold wS at hw
  obtain ⟨hi,-,hx,hb,he⟩:=hw
  obtain ⟨hk2,h1,h2⟩:=(hasS_mk _ _ _ _ _ _ _ _ _).1 hh
  rcases isS_split hi with ⟨x,rfl,rfl⟩ | ⟨x,rfl,rfl⟩ | ⟨x,y,rfl,hk⟩ | ⟨rfl,hn,hk⟩
  ·rw [dcS_let];exact h
  ·rw [dcS_if]
   dsimp only
   split
   ·exact dcB_w bd c ve hb h1 h
   ·exact dcB_w els c ve he h2 h
  ·rcases hk with rfl | rfl | rfl | rfl
   ·omega
   ·rw [dcS_chg (.inr (.inl rfl))];exact h.chg2 (by decide) _ _
   ·rw [dcS_chg (.inr (.inr rfl))];exact h.chg2 (by decide) _ _
   ·rw [dcS_swap];exact h.swp _ _
  ·rcases hk with rfl | rfl
   ·rw [dcS_for]
    exact loopA_inv CW n.toNat (fun i s _ hs=>dcB_w bd s _ hb h1 hs) _ (Nat.le_refl _) c h
   ·rw [dcS_back]
    exact loopA_inv CW n.toNat (fun i s _ hs=>dcB_w bd s _ hb h1 hs) _ (Nat.le_refl _) c h
theorem dcB_w:∀ (xs:List St) (c:List Int) (ve:VE),wB xs→hasB 2 2 xs=false→CW c→CW (dcB xs (c,ve)).1
 | [],c,ve,_,_,h=>by unfold dcB;exact h
 | x :: xs,c,ve,hw,hh,h=>by
  unfold wB at hw
  obtain ⟨h1,h2⟩:=(hasB_cons _ _ _ _).1 hh
  unfold dcB
  exact dcB_w xs _ _ hw.2 h2 (dcS_w x c ve hw.1 h1 h)
end
theorem dcB_app:∀ (xs ys:List St) (s:List Int×VE),dcB (xs++ys) s=dcB ys (dcB xs s)
 | [],ys,s=>by
  conv=>rhs;arg 2;unfold dcB
  rfl
 | x :: xs,ys,s=>by
  rw [List.cons_append]
  conv=>lhs;unfold dcB
  conv=>rhs;arg 2;unfold dcB
  exact dcB_app xs ys _
theorem dcS_env {x:St} (hw:wS x) (h:x.kind≠1) (s:List Int×VE):(dcS x s).2=s.2:=by
 obtain ⟨k,nm,xs,n,bd,els,p⟩:=x
 have h:k≠1:=h
 unfold dcS
 rw [if_neg h]
 repeat' split
 all_goals rfl
theorem lets_dc:∀ (xs:List St) (c c':List Int) (ve:VE),wB xs→readB xs=false→dcB (letsB xs) (c',ve)=(c',(dcB xs (c,ve)).2)
 | [],c,c',ve,_,_=>by unfold letsB dcB;rfl
 | x :: xs,c,c',ve,hw,hr=>by
  unfold wB at hw
  obtain ⟨h1,h2⟩:=(readB_cons _ _).1 hr
  unfold letsB
  conv=>rhs;unfold dcB
  by_cases hk:x.kind=1
  ·rw [if_pos hk]
   conv=>lhs;unfold dcB
   obtain ⟨k,nm,es,n,bd,els,p⟩:=x
   obtain rfl:k=1:=hk
   obtain ⟨h3,-,-⟩:=(readS_mk _ _ _ _ _ _ _).1 h1
   rw [dcS_let,dcS_let]
   dsimp only
   rw [exVs_free c' c _ es h3]
   exact lets_dc xs c c' _ hw.2 h2
  ·rw [if_neg hk]
   have e:dcS x (c,ve)=((dcS x (c,ve)).1,ve):=Prod.ext rfl (dcS_env hw.1 hk (c,ve))
   rw [e]
   exact lets_dc xs _ c' ve hw.2 h2
mutual
theorem undoS:∀ (x:St) (r:RS) (env:Env) (c:List Int) (ve:VE),wS x→x.kind≠1→(stmtD r x env).1.code=0→Know r env→hasS 2 2 x=false→readS x=false→CW c→dcS (tuS x) ((dcS x (c,ve)).1,ve)=(c,ve)
 | .mk k nm xs n bd els p,r,env,c,ve,hw,h1,h0,hk,hh,hr,hc=>by
  unfold wS at hw
  obtain ⟨hi,-,hx,hb,he⟩:=hw
  have h1:k≠1:=h1
  obtain ⟨hk2,hh1,hh2⟩:=(hasS_mk _ _ _ _ _ _ _ _ _).1 hh
  obtain ⟨hr0,hr1,hr2⟩:=(readS_mk _ _ _ _ _ _ _).1 hr
  have ht:tuS (.mk k nm xs n bd els p)=.mk (flipK k) nm xs n (letsB bd++tuO bd) (letsB els++tuO els) p:=by conv=>lhs;unfold tuS
  rw [ht]
  rcases isS_split hi with ⟨x,rfl,rfl⟩ | ⟨x,rfl,rfl⟩ | ⟨x,y,rfl,k2⟩ | ⟨rfl,hn,k2⟩
  ·exact absurd rfl h1
  ·rw [stmtD_if] at h0
   have c1:(blockD (needR r x 2 env) bd env).1.code=0:=code_of_bad (fun y hy=>RS.bad.block els _ y env hy) h0
   have c2:(needR r x 2 env).code=0:=code_of_bad (fun y hy=>RS.bad.block bd _ y env hy) c1
   have e1:=needR_decl r x 2 env
   have k1:Know (needR r x 2 env) env:=hk.sub (by rw [e1];exact fun z h=>h)
   have d1:=(block_same bd _ env ⟨c,lastE ve⟩ ve hb c1 k1 (SameN.rfl' _ _)).decl
   rw [show flipK 6=6 from rfl,dcS_if,dcS_if]
   dsimp only
   rw [exVs_free _ c (lastE ve) [x] hr0]
   by_cases hv:(exVs c (lastE ve) [x]).getD 0 0≠0
   ·simp only [if_pos hv]
    rw [dcB_app,lets_dc bd c _ ve hb hr1,undoO bd _ env c ve _ hb c1 k1 hh1 hr1 hc (SameN.rfl' _ _)]
   ·simp only [if_neg hv]
    rw [dcB_app,lets_dc els c _ ve he hr2,undoO els _ env c ve _ he h0 (k1.sub d1) hh2 hr2 hc (SameN.rfl' _ _)]
  ·have hf:=fun c'=>exVs_free c' c (lastE ve) [x,y] hr0
   rcases k2 with rfl | rfl | rfl | rfl
   ·omega
   ·rw [show flipK 3=4 from rfl,dcS_chg (.inr (.inl rfl)),dcS_chg (.inr (.inr rfl))]
    dsimp only
    rw [hf (chgC 3 _ _ _),add_take hc]
   ·rw [show flipK 4=3 from rfl,dcS_chg (.inr (.inr rfl)),dcS_chg (.inr (.inl rfl))]
    dsimp only
    rw [hf (chgC 4 _ _ _),take_add hc]
   ·rw [show flipK 5=5 from rfl,dcS_swap,dcS_swap]
    dsimp only
    rw [hf (swpC _ _ _),swap_swap hc.len]
  ·rw [stmtD_loop k2] at h0
   obtain ⟨-,c1,e1⟩:=decl_code h0
   rw [e1] at h0
   obtain ⟨d1,d2,d3⟩:=declare_code c1
   have k1:Know (r.declare nm p) (env++[(nm,1)]):=hk.snoc d3
   have round:∀ (v:Int) (s:List Int),CW s→(dcB (letsB bd++tuO bd) ((dcB bd (s,ve++[(nm,v)])).1,ve++[(nm,v)])).1=s:=fun v s hs=>by
    rw [dcB_app,lets_dc bd s _ _ hb hr1,undoO bd _ _ s _ _ hb h0 k1 hh1 hr1 hs (SameN.rfl' _ _)]
   rcases k2 with rfl | rfl
   ·rw [show flipK 7=8 from rfl,dcS_for,dcS_back]
    dsimp only
    rw [loopA_undo CW n.toNat (fun i s hs=>dcB_w bd s _ hb hh1 hs) (fun i s hin hs=>?_) c hc]
    have:=round (i:Int) s hs
    rw [show n - 1 - ((n.toNat - 1 - i:Nat):Int)=(i:Int) by omega]
    exact this
   ·rw [show flipK 8=7 from rfl,dcS_back,dcS_for]
    dsimp only
    rw [loopA_undo CW n.toNat (fun i s hs=>dcB_w bd s _ hb hh1 hs) (fun i s hin hs=>?_) c hc]
    have:=round (n - 1 - (i:Int)) s hs
    rw [show ((n.toNat - 1 - i:Nat):Int)=n - 1 - (i:Int) by omega]
    exact this
theorem undoO:∀ (xs:List St) (r:RS) (env:Env) (c:List Int) (ve veF:VE),wB xs→(blockD r xs env).1.code=0→Know r env→hasB 2 2 xs=false→readB xs=false→CW c→
  SameN (blockD r xs env).2 (lastE (dcB xs (c,ve)).2) (lastE veF)→dcB (tuO xs) ((dcB xs (c,ve)).1,veF)=(c,veF)
 | [],r,env,c,ve,veF,_,h0,hk,hh,hr,hc,hs=>by
  unfold tuO dcB
  rfl
 | x :: xs,r,env,c,ve,veF,hw,h0,hk,hh,hr,hc,hs=>by
  have hw0:=hw
  unfold wB at hw
  obtain ⟨hh1,hh2⟩:=(hasB_cons _ _ _ _).1 hh
  obtain ⟨hr1,hr2⟩:=(readB_cons _ _).1 hr
  have hs0:SameN env (lastE ve) (lastE veF):=fun z hz=>by
   rw [← block_keeps (x :: xs) c ve hw0 h0 hk hz]
   obtain ⟨N,hN⟩:=blockD_env (x :: xs) r env
   exact hs z (by rw [hN];exact look_more hz)
  have hbl:blockD r (x :: xs) env=blockD (stmtD r x env).1 xs (stmtD r x env).2:=by conv=>lhs;unfold blockD
  have hdc:dcB (x :: xs) (c,ve)=dcB xs (dcS x (c,ve)):=by conv=>lhs;unfold dcB
  have htu:tuO (x :: xs)=tuO xs++(if x.kind=1 then [] else [tuS x]):=by conv=>lhs;unfold tuO
  rw [hbl] at h0 hs
  rw [hdc] at hs⊢
  have c1:(stmtD r x env).1.code=0:=code_of_bad (fun y hy=>RS.bad.block xs _ y _ hy) h0
  have hk1:=stmt_know x hw.1 c1 hk
  have hc1:=dcS_w x c ve hw.1 hh1 hc
  have ih:=undoO xs _ _ (dcS x (c,ve)).1 (dcS x (c,ve)).2 veF hw.2 h0 hk1 hh2 hr2 hc1 hs
  rw [htu,dcB_app,ih]
  by_cases hkd:x.kind=1
  ·rw [if_pos hkd]
   obtain ⟨k,nm,es,n,bd,els,p⟩:=x
   obtain rfl:k=1:=hkd
   rw [dcS_let]
   unfold dcB
   rfl
  ·rw [if_neg hkd]
   have u:=undoS x r env c veF hw.1 hkd c1 hk hh1 hr1 hc
   rw [← (stmt_two x r env c ve veF hw.1 c1 hs0).1] at u
   unfold dcB
   rw [u]
   unfold dcB
   rfl
end
theorem undoB (xs:List St) (r:RS) (env:Env) (c:List Int) (ve:VE) (hw:wB xs) (h0:(blockD r xs env).1.code=0) (hk:Know r env) (hh:hasB 2 2 xs=false) (hr:readB xs=false) (hc:CW c) :
  dcB (tuB xs) ((dcB xs (c,ve)).1,ve)=(c,(dcB xs (c,ve)).2):=by
 unfold tuB
 rw [dcB_app,lets_dc xs c _ ve hw hr,undoO xs r env c ve _ hw h0 hk hh hr hc (SameN.rfl' _ _)]
end Go.Proofs.Ytagkbbcpbebapaa
namespace Go.Proofs.Ytagkbbcpbebapaa
open Go.RowKit Go.Maps
set_option linter.unusedSimpArgs false
set_option linter.unusedVariables false
def Sub (env env':Env):Prop:=∀ z t,lookE env z=some t→lookE env' z=some t
theorem Sub.refl (env:Env):Sub env env:=fun _ _ h=>h
theorem Sub.trans {a b c:Env} (h1:Sub a b) (h2:Sub b c):Sub a c:=fun z t h=>h2 z t (h1 z t h)
theorem Sub.app (env N:Env):Sub env (env++N):=fun z t h=>by rw [lookE_app,h]
theorem if_fail {b:Prop} [Decidable b] {r:RS} {p:Int} (h:(if b then r.fail 10 p else r).code=0):¬ b∧r.code=0:=by
 by_cases hb:b
 ·rw [if_pos hb] at h
  exact absurd h (fail_ne (by decide))
 ·rw [if_neg hb] at h
  exact ⟨hb,h⟩
section
variable {env env':Env} (hs:Sub env env')
include hs
set_option linter.unusedSectionVars false
mutual
theorem kind_wk:∀ (e:E) (r r':RS),r'.code=0→(kindR r e env).2.code=0→(kindR r' e env').1=(kindR r e env).1∧(kindR r' e env').2.code=0
 | .mk k n nm xs p,r,r',h',h=>by
  unfold kindR at h⊢
  have ha:(argsR r k nm xs env []).code=0:=code_of_bad (fun x hx=>hx.type k nm p env) h
  have ha':=args_wk xs r r' k nm [] h' ha
  unfold typeR at h⊢
  by_cases hk:k=2
  ·rw [if_pos hk] at h⊢
   rw [if_pos hk]
   by_cases h1:nm=[116,114,117,101]∨nm=[102,97,108,115,101]
   ·rw [if_pos h1,if_pos h1]
    exact ⟨rfl,ha'⟩
   ·rw [if_neg h1] at h⊢
    rw [if_neg h1]
    cases hl:lookE env nm with
    | none=>rw [hl] at h;exact absurd h (fail_ne (by decide))
    | some t=>rw [hs nm t hl];exact ⟨rfl,ha'⟩
  ·rw [if_neg hk,if_neg hk]
   split
   ·exact ⟨rfl,ha'⟩
   ·split
    ·exact ⟨rfl,ha'⟩
    ·exact ⟨rfl,ha'⟩
theorem args_wk:∀ (xs:List E) (r r':RS) (k:Int) (nm:Sec) (ts:List Int),r'.code=0→(argsR r k nm xs env ts).code=0→(argsR r' k nm xs env' ts).code=0
 | [],r,r',k,nm,ts,h',h=>by unfold argsR;exact h'
 | e :: es,r,r',k,nm,ts,h',h=>by
  unfold argsR at h⊢
  obtain ⟨h1,h2⟩:=if_fail (args_code h)
  obtain ⟨k1,k2⟩:=kind_wk e r r' h' h2
  rw [k1,if_neg h1]
  exact args_wk es _ _ k nm _ k2 h
end
theorem need_wk {e:E} {want:Int} {r r':RS} (h':r'.code=0) (h:(needR r e want env).code=0):(needR r' e want env').code=0:=by
 unfold needR at h⊢
 obtain ⟨h1,h2⟩:=if_fail h
 obtain ⟨k1,k2⟩:=kind_wk hs e r r' h' h2
 rw [k1,if_neg h1]
 exact k2
end
mutual
def ndS:St→List Sec | .mk k nm _ _ bd els _=>if k=1 then [nm] else if k=6 then ndB bd++ndB els else if k=7∨k=8 then nm :: ndB bd else []
def ndB:List St→List Sec | []=>[] | x :: xs=>ndS x++ndB xs
end
def ndL:List St→List Sec | []=>[] | x :: xs=>if x.kind=1 then ndS x++ndL xs else ndL xs
def ndO:List St→List Sec | []=>[] | x :: xs=>if x.kind=1 then ndO xs else ndS x++ndO xs
theorem nd_perm:∀ xs:List St,(ndB xs).Perm (ndL xs++ndO xs)
 | []=>by unfold ndB ndL ndO;exact List.Perm.refl _
 | x :: xs=>by
  unfold ndB ndL ndO
  have ih:=nd_perm xs
  split
  ·rw [List.append_assoc]
   exact ih.append_left _
  ·refine (ih.append_left _).trans ?_
   rw [← List.append_assoc,← List.append_assoc]
   exact List.perm_append_comm.append_right _
section
variable {nm:Sec} {xs:List E} {n p:Int} {bd els:List St}
theorem ndS_let:ndS (.mk 1 nm xs n bd els p)=[nm]:=by conv=>lhs;unfold ndS;rw [if_pos rfl]
theorem ndS_if:ndS (.mk 6 nm xs n bd els p)=ndB bd++ndB els:=by
 conv=>lhs;unfold ndS
 rw [if_neg (by decide),if_pos rfl]
theorem ndS_loop {k:Int} (hk:k=7∨k=8):ndS (.mk k nm xs n bd els p)=nm :: ndB bd:=by
 conv=>lhs;unfold ndS
 rw [if_neg (by omega),if_neg (by omega),if_pos hk]
theorem ndS_two {k:Int} (hk:k=2∨k=3∨k=4∨k=5):ndS (.mk k nm xs n bd els p)=[]:=by
 conv=>lhs;unfold ndS
 rw [if_neg (by omega),if_neg (by omega),if_neg (by omega)]
end
def OkN (L:List Sec):Prop:=L.Nodup∧L.length≤16
theorem OkN.perm {L L':List Sec} (h:OkN L) (hp:L.Perm L'):OkN L':=⟨hp.nodup_iff.1 h.1,by rw [← hp.length_eq];exact h.2⟩
theorem OkN.left {A B:List Sec} (h:OkN (A++B)):OkN A:=⟨(List.nodup_append.1 h.1).1,by have:=h.2;rw [List.length_append] at this;omega⟩
theorem declare_room {r:RS} {nm:Sec} {L:List Sec} (p:Int) (h0:r.code=0) (h:OkN (r.decl++nm :: L)):(r.declare nm p).code=0∧(r.declare nm p).decl=r.decl++[nm]∧nm∉r.decl:=by
 have hl:=h.2
 rw [List.length_append,List.length_cons] at hl
 have hn:nm∉r.decl:=fun hm=>(List.nodup_append.1 h.1).2.2 nm hm nm (by simp) rfl
 unfold RS.declare
 rw [if_neg hn,if_neg (by omega)]
 exact ⟨h0,rfl,hn⟩
theorem declare_okN {r:RS} {nm:Sec} {p:Int} (h:(r.declare nm p).code=0) (hr:OkN r.decl):OkN (r.declare nm p).decl:=by
 obtain ⟨-,h2,h3⟩:=declare_code h
 rw [h3]
 have hl:r.decl.length < 16:=by
  unfold RS.declare at h
  rw [if_neg h2] at h
  split at h
  ·exact absurd h (fail_ne (by decide))
  ·omega
 refine ⟨List.nodup_append.2 ⟨hr.1,by simp,fun a ha b hb=>?_⟩,by rw [List.length_append,List.length_singleton];omega⟩
 rw [List.mem_singleton.1 hb]
 exact fun e=>h2 (e ▸ ha)
mutual
theorem stmt_nd:∀ (x:St) (r:RS) (env:Env),wS x→(stmtD r x env).1.code=0→(stmtD r x env).1.decl=r.decl++ndS x∧(OkN r.decl→OkN (stmtD r x env).1.decl)
 | .mk k nm xs n bd els p,r,env,hw,h0=>by
  unfold wS at hw
  obtain ⟨hi,-,hx,hb,he⟩:=hw
  rcases isS_split hi with ⟨x,rfl,rfl⟩ | ⟨x,rfl,rfl⟩ | ⟨x,y,rfl,hk⟩ | ⟨rfl,hn,hk⟩
  ·rw [stmtD_let] at h0⊢
   rw [ndS_let]
   have e1:=kindR_decl x r env
   refine ⟨by rw [(declare_code h0).2.2,e1],fun h=>declare_okN h0 (by rw [e1];exact h)⟩
  ·rw [stmtD_if] at h0⊢
   rw [ndS_if]
   have c1:(blockD (needR r x 2 env) bd env).1.code=0:=code_of_bad (fun y hy=>RS.bad.block els _ y env hy) h0
   obtain ⟨a1,a2⟩:=block_nd bd _ env hb c1
   obtain ⟨b1,b2⟩:=block_nd els _ env he h0
   have e1:=needR_decl r x 2 env
   refine ⟨?_,fun h=>b2 (a2 (by rw [e1];exact h))⟩
   show (blockD _ els env).1.decl=_
   rw [b1,a1,e1,List.append_assoc]
  ·rw [stmtD_two hk] at h0⊢
   rw [ndS_two hk]
   have e1:(needR (needR r x 1 env) y 1 env).decl=r.decl:=by rw [needR_decl,needR_decl]
   exact ⟨by rw [List.append_nil];exact e1,fun h=>by show OkN (needR (needR r x 1 env) y 1 env).decl;rw [e1];exact h⟩
  ·rw [stmtD_loop hk] at h0⊢
   rw [ndS_loop hk]
   obtain ⟨-,c1,e1⟩:=decl_code h0
   rw [e1] at h0⊢
   obtain ⟨a1,a2⟩:=block_nd bd _ _ hb h0
   refine ⟨?_,fun h=>a2 (declare_okN c1 h)⟩
   show (blockD _ bd _).1.decl=_
   rw [a1,(declare_code c1).2.2,List.append_assoc]
   rfl
theorem block_nd:∀ (xs:List St) (r:RS) (env:Env),wB xs→(blockD r xs env).1.code=0→(blockD r xs env).1.decl=r.decl++ndB xs∧(OkN r.decl→OkN (blockD r xs env).1.decl)
 | [],r,env,_,h0=>by unfold blockD ndB;exact ⟨(List.append_nil _).symm,fun h=>h⟩
 | x :: xs,r,env,hw,h0=>by
  unfold wB at hw
  unfold blockD at h0⊢
  unfold ndB
  have c1:(stmtD r x env).1.code=0:=code_of_bad (fun y hy=>RS.bad.block xs _ y _ hy) h0
  obtain ⟨a1,a2⟩:=stmt_nd x r env hw.1 c1
  obtain ⟨b1,b2⟩:=block_nd xs _ _ hw.2 h0
  exact ⟨by rw [b1,a1,List.append_assoc],fun h=>b2 (a2 h)⟩
end
theorem blockD_app:∀ (xs ys:List St) (r:RS) (env:Env),blockD r (xs++ys) env=blockD (blockD r xs env).1 ys (blockD r xs env).2
 | [],ys,r,env=>by
  have e:blockD r [] env=(r,env):=by unfold blockD;rfl
  rw [e]
  rfl
 | x :: xs,ys,r,env=>by
  rw [List.cons_append]
  have e1:blockD r (x :: (xs++ys)) env=blockD (stmtD r x env).1 (xs++ys) (stmtD r x env).2:=by conv=>lhs;unfold blockD
  have e2:blockD r (x :: xs) env=blockD (stmtD r x env).1 xs (stmtD r x env).2:=by conv=>lhs;unfold blockD
  rw [e1,e2,blockD_app xs ys]
theorem sub_snoc {r':RS} {env env':Env} {nm:Sec} (t:Int) (h:Sub env env') (hk:Know r' env') (hn:nm∉r'.decl):Sub (env++[(nm,t)]) (env'++[(nm,t)]):=fun z u hz=>by
 rw [lookE_app] at hz⊢
 cases hl:lookE env z with
 | some v=>
  rw [hl] at hz
  rw [h z v hl]
  exact hz
 | none=>
  rw [hl] at hz
  have hz':lookE [(nm,t)] z=some u:=hz
  rw [lookE_cons] at hz'
  by_cases e:nm=z
  ·cases hl':lookE env' z with
   | none=>exact hz
   | some v=>exact absurd (hk z (by rw [hl'];rfl)) (e ▸ hn)
  ·rw [if_neg e] at hz'
   cases hz'
theorem lets_ok:∀ (xs:List St) (r:RS) (env:Env),wB xs→(blockD r xs env).1.code=0→∀ (r':RS) (env':Env),Sub env env'→Know r' env'→r'.code=0→OkN (r'.decl++ndL xs)→
  (blockD r' (letsB xs) env').1.code=0∧(blockD r' (letsB xs) env').1.decl=r'.decl++ndL xs∧Sub (blockD r xs env).2 (blockD r' (letsB xs) env').2∧Know (blockD r' (letsB xs) env').1 (blockD r' (letsB xs) env').2
 | [],r,env,_,h0,r',env',hs,hk,h',hr=>by
  unfold letsB ndL blockD
  exact ⟨h',(List.append_nil _).symm,hs,hk⟩
 | x :: xs,r,env,hw,h0,r',env',hs,hk,h',hr=>by
  unfold wB at hw
  have hbl:blockD r (x :: xs) env=blockD (stmtD r x env).1 xs (stmtD r x env).2:=by conv=>lhs;unfold blockD
  rw [hbl] at h0⊢
  have c1:(stmtD r x env).1.code=0:=code_of_bad (fun y hy=>RS.bad.block xs _ y _ hy) h0
  unfold letsB
  unfold ndL at hr⊢
  by_cases hkd:x.kind=1
  ·rw [if_pos hkd] at hr⊢
   rw [if_pos hkd]
   obtain ⟨k,nm,es,n,bd,els,p⟩:=x
   obtain rfl:k=1:=hkd
   have hw1:=hw.1
   unfold wS at hw1
   rcases isS_split hw1.1 with ⟨x,rfl,-⟩ | ⟨x,rfl,e⟩ | ⟨x,y,rfl,e⟩ | ⟨rfl,hn,e⟩
   ·have hb2:blockD r' (.mk 1 nm [x] n bd els p :: letsB xs) env'=blockD (stmtD r' (.mk 1 nm [x] n bd els p) env').1 (letsB xs) (stmtD r' (.mk 1 nm [x] n bd els p) env').2:=by conv=>lhs;unfold blockD
    rw [hb2]
    rw [stmtD_let] at h0 c1⊢
    rw [stmtD_let]
    rw [ndS_let] at hr⊢
    obtain ⟨d1,-,-⟩:=declare_code c1
    obtain ⟨w1,w2⟩:=kind_wk hs x r r' h' d1
    have e1:=kindR_decl x r' env'
    obtain ⟨q1,q2,q3⟩:=declare_room (r:=(kindR r' x env').2) (nm:=nm) (L:=ndL xs) p w2 (by rw [e1];exact hr)
    rw [e1] at q2 q3
    have ih:=lets_ok xs _ _ hw.2 h0 ((kindR r' x env').2.declare nm p) (env'++[(nm,(kindR r x env).1)]) (sub_snoc _ hs hk q3) (hk.snoc q2) q1 (by rw [q2,List.append_assoc];exact hr)
    rw [w1]
    refine ⟨ih.1,?_,ih.2.2.1,ih.2.2.2⟩
    rw [ih.2.1,q2,List.append_assoc]
   ·omega
   ·omega
   ·omega
  ·rw [if_neg hkd] at hr⊢
   rw [if_neg hkd]
   have he:(stmtD r x env).2=env:=by
    obtain ⟨k,nm,es,n,bd,els,p⟩:=x
    have hkd:k≠1:=hkd
    unfold stmtD
    rw [if_neg hkd]
    split
    ·split<;>rfl
    ·split
     ·rfl
     ·split<;>rfl
   rw [he] at h0⊢
   exact lets_ok xs _ _ hw.2 h0 r' env' hs hk h' hr
mutual
theorem tuS_ok:∀ (x:St) (r:RS) (env:Env),wS x→x.kind≠1→(stmtD r x env).1.code=0→∀ (r':RS) (env':Env),Sub env env'→Know r' env'→r'.code=0→OkN (r'.decl++ndS x)→
  (stmtD r' (tuS x) env').1.code=0∧(stmtD r' (tuS x) env').1.decl.Perm (r'.decl++ndS x)∧(stmtD r' (tuS x) env').2=env'
 | .mk k nm xs n bd els p,r,env,hw,h1,h0,r',env',hs,hk,h',hr=>by
  unfold wS at hw
  obtain ⟨hi,-,hx,hb,he⟩:=hw
  have h1:k≠1:=h1
  have ht:tuS (.mk k nm xs n bd els p)=.mk (flipK k) nm xs n (letsB bd++tuO bd) (letsB els++tuO els) p:=by conv=>lhs;unfold tuS
  rw [ht]
  rcases isS_split hi with ⟨x,rfl,rfl⟩ | ⟨x,rfl,rfl⟩ | ⟨x,y,rfl,k2⟩ | ⟨rfl,hn,k2⟩
  ·exact absurd rfl h1
  ·rw [stmtD_if] at h0
   rw [ndS_if] at hr⊢
   rw [show flipK 6=6 from rfl,stmtD_if]
   have c1:(blockD (needR r x 2 env) bd env).1.code=0:=code_of_bad (fun y hy=>RS.bad.block els _ y env hy) h0
   have c2:(needR r x 2 env).code=0:=code_of_bad (fun y hy=>RS.bad.block bd _ y env hy) c1
   have n1:=need_wk hs h' c2
   have e1:=needR_decl r' x 2 env'
   have k1:Know (needR r' x 2 env') env':=hk.sub (by rw [e1];exact fun z h=>h)
   have q1:=tuBk_ok bd _ env hb c1 (needR r' x 2 env') env' hs k1 n1 (by rw [e1];rw [← List.append_assoc] at hr;exact hr.left)
   rw [e1] at q1
   have q2:=tuBk_ok els _ env he h0 _ env' hs (k1.sub (fun z hz=>q1.2.mem_iff.2 (List.mem_append_left _ (e1 ▸ hz)))) q1.1 (by rw [← List.append_assoc] at hr;exact hr.perm (q1.2.symm.append_right _))
   refine ⟨q2.1,q2.2.trans ?_,rfl⟩
   rw [← List.append_assoc]
   exact q1.2.append_right _
  ·rw [stmtD_two k2] at h0
   have k3:flipK k=2∨flipK k=3∨flipK k=4∨flipK k=5:=by rcases k2 with rfl | rfl | rfl | rfl<;>decide
   rw [stmtD_two k3,ndS_two k2]
   obtain ⟨c1,c2⟩:=need_code h0
   refine ⟨need_wk hs (need_wk hs h' c2) h0,?_,rfl⟩
   rw [List.append_nil]
   show (needR (needR r' x 1 env') y 1 env').decl.Perm _
   rw [needR_decl,needR_decl]
  ·rw [stmtD_loop k2] at h0
   have k3:flipK k=7∨flipK k=8:=by rcases k2 with rfl | rfl<;>decide
   rw [ndS_loop k2] at hr⊢
   rw [stmtD_loop k3]
   obtain ⟨h64,c1,e1⟩:=decl_code h0
   rw [e1] at h0
   rw [if_neg (by omega)]
   obtain ⟨q1,q2,q3⟩:=declare_room p h' hr
   have q:=tuBk_ok bd _ _ hb h0 (r'.declare nm p) (env'++[(nm,1)]) (sub_snoc 1 hs hk q3) (hk.snoc q2) q1 (by rw [q2,List.append_assoc];exact hr)
   refine ⟨q.1,?_,rfl⟩
   have:=q.2
   rw [q2,List.append_assoc] at this
   exact this
theorem tuBk_ok:∀ (xs:List St) (r:RS) (env:Env),wB xs→(blockD r xs env).1.code=0→∀ (r':RS) (env':Env),Sub env env'→Know r' env'→r'.code=0→OkN (r'.decl++ndB xs)→
  (blockD r' (letsB xs++tuO xs) env').1.code=0∧(blockD r' (letsB xs++tuO xs) env').1.decl.Perm (r'.decl++ndB xs)
 | xs,r,env,hw,h0,r',env',hs,hk,h',hr=>by
  have hp:=(nd_perm xs).append_left r'.decl
  have hr2:=hr.perm hp
  rw [← List.append_assoc] at hr2
  obtain ⟨a1,a2,a3,a4⟩:=lets_ok xs r env hw h0 r' env' hs hk h' hr2.left
  have q:=tuO_ok xs r env hw h0 _ _ a3 a4 a1 (by rw [a2];exact hr2)
  rw [blockD_app]
  refine ⟨q.1,q.2.1.trans ?_⟩
  rw [a2,List.append_assoc]
  exact hp.symm
theorem tuO_ok:∀ (xs:List St) (r:RS) (env:Env),wB xs→(blockD r xs env).1.code=0→∀ (r':RS) (env':Env),Sub (blockD r xs env).2 env'→Know r' env'→r'.code=0→OkN (r'.decl++ndO xs)→
  (blockD r' (tuO xs) env').1.code=0∧(blockD r' (tuO xs) env').1.decl.Perm (r'.decl++ndO xs)∧(blockD r' (tuO xs) env').2=env'
 | [],r,env,hw,h0,r',env',hs,hk,h',hr=>by
  unfold tuO ndO blockD
  exact ⟨h',by rw [List.append_nil],rfl⟩
 | x :: xs,r,env,hw,h0,r',env',hs,hk,h',hr=>by
  unfold wB at hw
  have hbl:blockD r (x :: xs) env=blockD (stmtD r x env).1 xs (stmtD r x env).2:=by conv=>lhs;unfold blockD
  have htu:tuO (x :: xs)=tuO xs++(if x.kind=1 then [] else [tuS x]):=by conv=>lhs;unfold tuO
  have hdn:ndO (x :: xs)=if x.kind=1 then ndO xs else ndS x++ndO xs:=by conv=>lhs;unfold ndO
  have hsub:Sub env env':=by
   obtain ⟨N,hN⟩:=blockD_env (x :: xs) r env
   refine Sub.trans ?_ hs
   rw [hN]
   exact Sub.app _ _
  rw [hbl] at h0 hs
  have c1:(stmtD r x env).1.code=0:=code_of_bad (fun y hy=>RS.bad.block xs _ y _ hy) h0
  rw [hdn] at hr⊢
  rw [htu]
  by_cases hkd:x.kind=1
  ·rw [if_pos hkd] at hr⊢
   rw [if_pos hkd,List.append_nil]
   exact tuO_ok xs _ _ hw.2 h0 r' env' hs hk h' hr
  ·rw [if_neg hkd] at hr⊢
   rw [if_neg hkd]
   have hp:(r'.decl++(ndS x++ndO xs)).Perm (r'.decl++ndO xs++ndS x):=by
    rw [List.append_assoc]
    exact List.perm_append_comm.append_left _
   have hr2:=hr.perm hp
   have ih:=tuO_ok xs _ _ hw.2 h0 r' env' hs hk h' hr2.left
   rw [blockD_app]
   have hb1:∀ (s:RS) (e:Env),blockD s [tuS x] e=stmtD s (tuS x) e:=fun s e=>by
    unfold blockD
    unfold blockD
    rfl
   rw [hb1,ih.2.2]
   have q:=tuS_ok x r env hw.1 hkd c1 _ env' hsub (hk.sub (fun z hz=>ih.2.1.mem_iff.2 (List.mem_append_left _ hz))) ih.1 (hr2.perm (ih.2.1.symm.append_right _))
   exact ⟨q.1,q.2.1.trans ((ih.2.1.append_right _).trans hp.symm),q.2.2⟩
end
def smB:List St→Nat | []=>0 | x :: xs=>stS x+smB xs
theorem stB_sm:∀ (xs:List St) (a:Nat),a≤2049→stB a xs=min (a+smB xs) 2049
 | [],a,h=>by unfold stB smB;omega
 | x :: xs,a,h=>by
  unfold stB smB
  rw [stB_sm xs _ (by omega)]
  omega
theorem smB_nil:smB []=0:=by unfold smB;rfl
theorem smB_cons (x:St) (xs:List St):smB (x :: xs)=stS x+smB xs:=by conv=>lhs;unfold smB
theorem smB_app:∀ (xs ys:List St),smB (xs++ys)=smB xs+smB ys
 | [],ys=>by rw [smB_nil,List.nil_append];omega
 | x :: xs,ys=>by rw [List.cons_append,smB_cons,smB_cons,smB_app xs ys];omega
theorem smB_one (x:St):smB [x]=stS x:=by rw [smB_cons,smB_nil];omega
mutual
theorem tuS_st : ∀ x : St,stS (tuS x) = stS x
  | .mk k nm xs n bd els p => by
    have h1 := tuB_sm bd
    have h2 := tuB_sm els
    have ht : tuS (.mk k nm xs n bd els p) = .mk (flipK k) nm xs n (letsB bd ++ tuO bd) (letsB els ++ tuO els) p := by conv => lhs;unfold tuS
    rw [ht]
    unfold stS
    rw [stB_sm _ _ (by omega),stB_sm _ _ (by omega),stB_sm bd _ (by omega),stB_sm els _ (by omega),h1,h2]
    have f6 : flipK k = 6 ↔ k = 6 := by unfold flipK;repeat' split
                                        all_goals omega
    have f7 : (flipK k = 7 ∨ flipK k = 8) ↔ (k = 7 ∨ k = 8) := by unfold flipK;repeat' split
                                                                  all_goals omega
    simp only [f6,f7]
theorem tuB_sm : ∀ xs : List St,smB (letsB xs ++ tuO xs) = smB xs
  | [] => by unfold letsB tuO;rfl
  | x :: xs => by
    have h1 := tuS_st x
    have h2 := tuB_sm xs
    have htu : tuO (x :: xs) = tuO xs ++ (if x.kind = 1 then [] else [tuS x]) := by conv => lhs;unfold tuO
    have hle : letsB (x :: xs) = if x.kind = 1 then x :: letsB xs else letsB xs := by conv => lhs;unfold letsB
    rw [smB_app] at h2
    rw [htu,hle,smB_cons,smB_app,smB_app]
    by_cases hkd : x.kind = 1
    · rw [if_pos hkd,if_pos hkd,smB_cons]
      rw [smB_nil]
      omega
    · rw [if_neg hkd,if_neg hkd,smB_one]
      omega
end
theorem sizeSs_app:∀ (xs ys:List St),sizeSs (xs++ys)=sizeSs xs+sizeSs ys
 | [],ys=>by simp [sizeSs]
 | x :: xs,ys=>by rw [List.cons_append];simp only [sizeSs];rw [sizeSs_app xs ys];omega
mutual
theorem tuS_size:∀ x:St,sizeS (tuS x)=sizeS x
 | .mk k nm xs n bd els p=>by
  have h1:=tuB_size bd
  have h2:=tuB_size els
  have ht:tuS (.mk k nm xs n bd els p)=.mk (flipK k) nm xs n (letsB bd++tuO bd) (letsB els++tuO els) p:=by conv=>lhs;unfold tuS
  rw [ht]
  unfold sizeS
  rw [h1,h2]
theorem tuB_size:∀ xs:List St,sizeSs (letsB xs++tuO xs)=sizeSs xs
 | []=>by unfold letsB tuO;rfl
 | x :: xs=>by
  have h1:=tuS_size x
  have h2:=tuB_size xs
  have htu:tuO (x :: xs)=tuO xs++(if x.kind=1 then [] else [tuS x]):=by conv=>lhs;unfold tuO
  have hle:letsB (x :: xs)=if x.kind=1 then x :: letsB xs else letsB xs:=by conv=>lhs;unfold letsB
  rw [sizeSs_app] at h2
  rw [htu,hle,sizeSs_cons,sizeSs_app,sizeSs_app]
  by_cases hkd:x.kind=1
  ·rw [if_pos hkd,if_pos hkd,sizeSs_cons,sizeSs_nil]
   omega
  ·rw [if_neg hkd,if_neg hkd,sizeSs_cons,sizeSs_nil]
   omega
end
theorem all_tu {P:St→Prop} {A:List St→Prop} (h0:A []) (h1:∀ x xs,A (x :: xs)↔P x∧A xs):(∀ (xs:List St),A xs→(∀ x∈xs,P x→P (tuS x))→A (letsB xs++tuO xs)):=by
 have happ:∀ (xs ys:List St),A xs→A ys→A (xs++ys):=fun xs=>by
  induction xs with
  | nil=>exact fun ys _ h=>h
  | cons x xs ih=>exact fun ys h h'=>(h1 _ _).2 ⟨((h1 _ _).1 h).1,ih ys ((h1 _ _).1 h).2 h'⟩
 have hl:∀ xs,A xs→A (letsB xs):=fun xs=>by
  induction xs with
  | nil=>exact fun _=>by unfold letsB;exact h0
  | cons x xs ih=>
   intro h
   obtain ⟨a,b⟩:=(h1 _ _).1 h
   unfold letsB
   split
   ·exact (h1 _ _).2 ⟨a,ih b⟩
   ·exact ih b
 have ho:∀ xs,A xs→(∀ x∈xs,P x→P (tuS x))→A (tuO xs):=fun xs=>by
  induction xs with
  | nil=>exact fun _ _=>by unfold tuO;exact h0
  | cons x xs ih=>
   intro h hx
   obtain ⟨a,b⟩:=(h1 _ _).1 h
   unfold tuO
   refine happ _ _ (ih b (fun y hy=>hx y (by simp [hy]))) ?_
   split
   ·exact h0
   ·exact (h1 _ _).2 ⟨hx x (by simp) a,h0⟩
 exact fun xs h hx=>happ _ _ (hl xs h) (ho xs h hx)
theorem tu_mk (k:Int) (nm:Sec) (xs:List E) (n:Int) (bd els:List St) (p:Int):tuS (.mk k nm xs n bd els p)=.mk (flipK k) nm xs n (letsB bd++tuO bd) (letsB els++tuO els) p:=by conv=>lhs;unfold tuS
theorem tu_ind {P:St→Prop} {A:List St→Prop} (h0:A []) (h1:∀ x xs,A (x :: xs)↔P x∧A xs)
  (hP:∀ k nm xs n bd els p,(A bd→A (letsB bd++tuO bd))→(A els→A (letsB els++tuO els))→P (.mk k nm xs n bd els p)→P (.mk (flipK k) nm xs n (letsB bd++tuO bd) (letsB els++tuO els) p)):∀ (N:Nat) (x:St),sizeS x≤N→P x→P (tuS x)
 | 0,.mk k nm xs n bd els p,hN,_=>by unfold sizeS at hN;omega
 | N+1,.mk k nm xs n bd els p,hN,h=>by
  unfold sizeS at hN
  rw [tu_mk]
  have hb:∀ l:List St,sizeSs l≤N→A l→A (letsB l++tuO l):=fun l hl ha=>all_tu h0 h1 l ha (fun x hx hp=>by
   obtain ⟨j,hj,e⟩:=List.mem_iff_getElem.1 hx
   have:=sizeSs_mem (xs:=l) (j:=j) (e:=x) (by rw [List.getElem?_eq_getElem hj,e])
   exact tu_ind h0 h1 hP N x (by omega) hp)
  exact hP k nm xs n bd els p (hb bd (by omega)) (hb els (by omega)) h
theorem tu_all {P:St→Prop} {A:List St→Prop} (h0:A []) (h1:∀ x xs,A (x :: xs)↔P x∧A xs)
  (hP:∀ k nm xs n bd els p,(A bd→A (letsB bd++tuO bd))→(A els→A (letsB els++tuO els))→P (.mk k nm xs n bd els p)→P (.mk (flipK k) nm xs n (letsB bd++tuO bd) (letsB els++tuO els) p)) (xs:List St) (h:A xs):A (tuB xs):=
 all_tu h0 h1 xs h fun x _ hp=>tu_ind h0 h1 hP _ x (Nat.le_refl _) hp
theorem tuB_w (xs:List St) (h:wB xs):wB (tuB xs):=
 tu_all (P:=wS) (A:=wB) (by unfold wB;trivial) (fun x xs=>by conv=>lhs;unfold wB) (fun k nm xs n bd els p hb he h=>by
  unfold wS at h⊢
  obtain ⟨hi,h2,h3,h4,h5⟩:=h
  refine ⟨?_,h2,h3,hb h4,he h5⟩
  unfold isS at hi⊢
  unfold flipK
  repeat' split
  all_goals omega) xs h
theorem tuB_p (xs:List St) (h:pB xs):pB (tuB xs):=
  tu_all (P:=pS) (A:=pB) (by unfold pB;trivial) (fun x xs=>by conv=>lhs;unfold pB) (fun k nm xs n bd els p hb he h=>by
    unfold pS at h⊢
    obtain ⟨h1,h2,h3,h4⟩:=h
    refine ⟨fun e=>?_,fun e=>?_,hb h3,he h4⟩
    · rw [h1 (fun e'=>e (by rw [e'];rfl))]
      unfold letsB tuO
      rfl
    · rw [h2 (by unfold flipK at e;repeat' split at e
                 all_goals omega)]
      unfold letsB tuO
      rfl) xs h
theorem tuB_g (xs:List St) (h:gB xs):gB (tuB xs):=
 tu_all (P:=gS) (A:=gB) (by unfold gB;trivial) (fun x xs=>by conv=>lhs;unfold gB) (fun k nm xs n bd els p hb he h=>by
  unfold gS at h⊢
  obtain ⟨h1,h2,h3,h4⟩:=h
  exact ⟨h1,h2,hb h3,he h4⟩) xs h
theorem tuB_read (xs:List St) (h:readB xs=false):readB (tuB xs)=false:=
 tu_all (P:=fun x=>readS x=false) (A:=fun xs=>readB xs=false) (by unfold readB;rfl) (fun x xs=>readB_cons x xs) (fun k nm xs n bd els p hb he h=>by
  rw [readS_mk] at h⊢
  exact ⟨h.1,hb h.2.1,he h.2.2⟩) xs h
theorem tuB_hasnt {a b:Int} (hf:∀ k,(a≤flipK k∧flipK k≤b)→(a≤k∧k≤b)) (xs:List St) (h:hasB a b xs=false):hasB a b (tuB xs)=false:=
 tu_all (P:=fun x=>hasS a b x=false) (A:=fun xs=>hasB a b xs=false) (by unfold hasB;rfl) (fun x xs=>hasB_cons a b x xs) (fun k nm xs n bd els p hb he h=>by
  rw [hasS_mk] at h⊢
  exact ⟨fun e=>h.1 (hf k e),hb h.2.1,he h.2.2⟩) xs h
end Go.Proofs.Ytagkbbcpbebapaa
namespace Go.Proofs.Ytagkbbcpbebapaa
open Go.RowKit Go.Maps
set_option linter.unusedSimpArgs false
set_option linter.unusedVariables false
theorem parD_code:∀ (l:List Sec) (r:RS),(parD r l).code=0→r.code=0
 | [],r,h=>h
 | x :: l,r,h=>(declare_code (parD_code l (r.declare x 0) h)).1
theorem parD_know:∀ (l:List Sec) (r:RS) (env:Env),Know r env→(parD r l).code=0→Know (parD r l) (env++envP l)
 | [],r,env,h,_=>by
  show Know r (env++[])
  rw [List.append_nil]
  exact h
 | x :: l,r,env,h,h0=>by
  have h1:=parD_know l (r.declare x 0) (env++[(x,1)]) (h.snoc (declare_code (parD_code l _ h0)).2.2) h0
  rw [List.append_assoc] at h1
  exact h1
theorem needsD_code {want:Int} {env:Env}:∀ (l:List E) (r:RS),(needsD want env r l).code=0→r.code=0
 | [],r,h=>h
 | e :: l,r,h=>(need_code (needsD_code l _ h)).2
theorem needsD_decl {want:Int} {env:Env}:∀ (l:List E) (r:RS),(needsD want env r l).decl=r.decl
 | [],r=>rfl
 | e :: l,r=>by
  show (needsD want env (needR r e want env) l).decl=r.decl
  rw [needsD_decl l,needR_decl]
end Go.Proofs.Ytagkbbcpbebapaa
namespace Go.Proofs.Ytagkbbcpbebapaa
open Go.RowKit Go.Maps
set_option linter.unusedSimpArgs false
set_option linter.unusedVariables false
theorem wL_none:wL []:=by unfold wL;trivial
theorem turn_whole {d:Df} (h:Whole d):Whole (turnD d) where
 needs:=wL_none
 body:=tuB_w _ h.body
 give:=wL_none
 one:=by show ([]:List E).length≤1;simp
 size:=by
  show sizeL []+sizeSs (letsB d.body++tuO d.body)+sizeL []≤480
  have h1:=h.size
  have h2:sizeL ([]:List E)=0:=by unfold sizeL;rfl
  rw [tuB_size,h2]
  omega
 params:=h.params
 plen:=h.plen
theorem turn_good {d:Df} (h:Good d):Good (turnD d):=⟨h.params,gL_nil,tuB_g _ h.body,gL_nil⟩
theorem turn_plain {d:Df} (h:pB d.body):pB (turnD d).body:=tuB_p _ h
def Turns (d:Df):Prop:=(opS CS.new d).flt=none∧hasB 2 2 d.body=false∧readB d.body=false
theorem parD_okN:∀ (l:List Sec) (r:RS),(parD r l).code=0→OkN r.decl→OkN (parD r l).decl
 | [],r,_,h=>h
 | x :: l,r,h0,h=>parD_okN l (r.declare x 0) h0 (declare_okN (parD_code l _ h0) h)
structure CleanD (d:Df):Prop where
 code:(refB d).1.code=0
 needs:(refN d).code=0
 pars:(parD RS.new d.params).code=0
 know:Know (parD RS.new d.params) (envP d.params)
 decl:(refN d).decl=(parD RS.new d.params).decl
 okn:OkN ((parD RS.new d.params).decl++ndB d.body)
theorem CleanD.knowN {d:Df} (h:CleanD d):Know (refN d) (envP d.params):=h.know.sub (by rw [h.decl];exact fun z h=>h)
theorem clean_of {d:Df} (hw:Whole d) (h:(opS CS.new d).flt=none):CleanD d:=by
 have h1:=(opS_none h).1
 have hg:=(refG_agree hw (opG_few_params h1)).good h1
 have c1:(refG d).code=0:=hg.1
 have c2:(refB d).1.code=0:=needsD_code _ _ c1
 have c3:(refN d).code=0:=code_of_bad (fun y hy=>RS.bad.block d.body _ y _ hy) c2
 have c4:(parD RS.new d.params).code=0:=needsD_code _ _ c3
 have e1:(refN d).decl=(parD RS.new d.params).decl:=needsD_decl _ _
 have k1:Know (parD RS.new d.params) (envP d.params):=parD_know d.params RS.new [] (fun z hz=>by cases hz) c4
 have o1:OkN (parD RS.new d.params).decl:=parD_okN d.params RS.new c4 ⟨List.nodup_nil,by show ([]:List Sec).length≤16;simp⟩
 obtain ⟨b1,b2⟩:=block_nd d.body (refN d) (envP d.params) hw.body c2
 have o2:=b2 (by rw [e1];exact o1)
 rw [b1,e1] at o2
 exact ⟨c2,c3,c4,k1,e1,o2⟩
theorem turn_code {d:Df} (hw:Whole d) (h:CleanD d):(refB (turnD d)).1.code=0∧(refB (turnD d)).1.decl.Perm ((parD RS.new d.params).decl++ndB d.body):=
 tuBk_ok d.body (refN d) (envP d.params) hw.body h.code (parD RS.new d.params) (envP d.params) (Sub.refl _) h.know h.pars h.okn
theorem turn_steps (d:Df):stD (turnD d)=min (smB d.body) 2049:=by
 show min (sizeL []+stB 0 (letsB d.body++tuO d.body)+sizeL []) 2049=_
 have h2:sizeL ([]:List E)=0:=by unfold sizeL;rfl
 rw [h2,stB_sm _ _ (by omega),tuB_sm]
 omega
theorem stD_bare (d:Df) (h1:d.needs=[]) (h2:d.give=[]):stD d=min (smB d.body) 2049:=by
 have h3:sizeL ([]:List E)=0:=by unfold sizeL;rfl
 unfold stD
 rw [h1,h2,h3,stB_sm _ _ (by omega)]
 omega
theorem turn_clean {d:Df} (hw:Whole d) (h:(opS CS.new d).flt=none):(opS CS.new (turnD d)).flt=none:=by
 have hc:=clean_of hw h
 have h1:=(opS_none h).1
 have h8:=opG_few_params h1
 have ht:=turn_code hw hc
 have hag:=refG_agree (d:=turnD d) (turn_whole hw) h8
 have hg:(opG CS.new (turnD d)).flt=none:=by
  cases hf:(opG CS.new (turnD d)).flt with
  | none=>rfl
  | some x=>
   have hb:=hag.bad x hf
   have:(refG (turnD d)).code=0:=ht.1
   exact absurd (hb.1.symm.trans this) hb.2.2
 have hst:stD (turnD d)≤2048:=by
  have hd:=(opS_none h).2.1
  rw [turn_steps]
  unfold stD at hd
  rw [stB_sm _ _ (by omega)] at hd
  omega
 unfold opS
 rw [hg]
 have h0:¬ (none:Option (Int×Int)).isSome=true:=by decide
 rw [if_neg h0,if_neg (by omega)]
 exact hg
theorem flip_22 (k:Int):(2≤flipK k∧flipK k≤2)↔(2≤k∧k≤2):=by unfold flipK;(repeat' split)<;>omega
theorem flip_55 (k:Int):(5≤flipK k∧flipK k≤5)↔(5≤k∧k≤5):=by unfold flipK;(repeat' split)<;>omega
theorem flip_25 (k:Int):(2≤flipK k∧flipK k≤5)↔(2≤k∧k≤5):=by unfold flipK;(repeat' split)<;>omega
theorem turn_turns {d:Df} (hw:Whole d) (h:Turns d):Turns (turnD d):=
 ⟨turn_clean hw h.1,tuB_hasnt (fun k=>(flip_22 k).1) _ h.2.1,tuB_read _ h.2.2⟩
theorem hasB_one (a b:Int) (x:St):hasB a b [x]=hasS a b x:=by
 unfold hasB
 unfold hasB
 rw [Bool.or_false]
theorem hasB_app (a b:Int):∀ (xs ys:List St),hasB a b (xs++ys)=(hasB a b xs || hasB a b ys)
 | [],ys=>by
  have:hasB a b ([]:List St)=false:=by unfold hasB;rfl
  rw [this,List.nil_append,Bool.false_or]
 | x :: xs,ys=>by
  have e:∀ l:List St,hasB a b (x :: l)=(hasS a b x || hasB a b l):=fun l=>by conv=>lhs;unfold hasB
  rw [List.cons_append,e,e,hasB_app a b xs ys,Bool.or_assoc]
section
variable {a b:Int} (hf:∀ k,(a≤flipK k∧flipK k≤b)↔(a≤k∧k≤b))
include hf
set_option linter.unusedSectionVars false
mutual
theorem tuS_has:∀ x:St,hasS a b (tuS x)=hasS a b x
 | .mk k nm xs n bd els p=>by
  have h1:=tuB_has bd
  have h2:=tuB_has els
  rw [tu_mk]
  unfold hasS
  rw [h1,h2]
  have:(decide (a≤flipK k) && decide (flipK k≤b))=(decide (a≤k) && decide (k≤b)):=by
   rw [Bool.eq_iff_iff]
   simp only [Bool.and_eq_true,decide_eq_true_eq]
   exact hf k
  rw [this]
theorem tuB_has:∀ xs:List St,hasB a b (letsB xs++tuO xs)=hasB a b xs
 | []=>by unfold letsB tuO;rfl
 | x :: xs=>by
  have h1:=tuS_has x
  have h2:=tuB_has xs
  have htu:tuO (x :: xs)=tuO xs++(if x.kind=1 then [] else [tuS x]):=by conv=>lhs;unfold tuO
  have hle:letsB (x :: xs)=if x.kind=1 then x :: letsB xs else letsB xs:=by conv=>lhs;unfold letsB
  have e:∀ l:List St,hasB a b (x :: l)=(hasS a b x || hasB a b l):=fun l=>by conv=>lhs;unfold hasB
  rw [htu,hle,e,← h2]
  by_cases hkd:x.kind=1
  ·rw [if_pos hkd,if_pos hkd,List.append_nil,List.cons_append,e]
  ·rw [if_neg hkd,if_neg hkd,← List.append_assoc,hasB_app,hasB_one,h1,Bool.or_comm]
end
end
theorem turn_info {d:Df} (hw:Whole d) (hp:pB d.body) (h1:d.needs=[]) (h2:d.give=[]) (h:Turns d):opI CS.new (turnD d)=opI CS.new d:=by
 have hc:=clean_of hw h.1
 have ht:=turn_clean hw h.1
 obtain ⟨i1,-,-⟩:=info_of hw hp h.1
 obtain ⟨i2,-,-⟩:=info_of (turn_whole hw) (turn_plain hp) ht
 rw [i1,i2]
 have hg1:=(refG_agree hw (opG_few_params (opS_none h.1).1)).good (opS_none h.1).1
 have hg2:=(refG_agree (turn_whole hw) (opG_few_params (opS_none ht).1)).good (opS_none ht).1
 have e1:(opG CS.new d).decl.length=((parD RS.new d.params).decl++ndB d.body).length:=by
  rw [hg1.2.1]
  unfold refG
  rw [needsD_decl,← hc.decl,← (block_nd d.body (refN d) (envP d.params) hw.body hc.code).1]
  rfl
 have e2:(opG CS.new (turnD d)).decl.length=((parD RS.new d.params).decl++ndB d.body).length:=by
  rw [hg2.2.1]
  unfold refG
  rw [needsD_decl]
  exact (turn_code hw hc).2.length_eq
 have e3:modeF (turnD d)=modeF d:=by
  unfold modeF
  rw [h1,h2]
  have q1:hasB 2 5 (turnD d).body=hasB 2 5 d.body:=tuB_has flip_25 d.body
  have q2:hasB 2 2 (turnD d).body=hasB 2 2 d.body:=tuB_has flip_22 d.body
  have q3:hasB 5 5 (turnD d).body=hasB 5 5 d.body:=tuB_has flip_55 d.body
  have q4:readB (turnD d).body=readB d.body:=by rw [h.2.2];exact tuB_read _ h.2.2
  rw [q1,q2,q3,q4]
  rfl
 have e4:(!hasB 2 2 (turnD d).body && !readB (turnD d).body)=(!hasB 2 2 d.body && !readB d.body):=by
  have q2:hasB 2 2 (turnD d).body=hasB 2 2 d.body:=tuB_has flip_22 d.body
  have q4:readB (turnD d).body=readB d.body:=by rw [h.2.2];exact tuB_read _ h.2.2
  rw [q2,q4]
 rw [e1,e2,e3,e4,turn_steps,stD_bare d h1 h2]
end Go.Proofs.Ytagkbbcpbebapaa
