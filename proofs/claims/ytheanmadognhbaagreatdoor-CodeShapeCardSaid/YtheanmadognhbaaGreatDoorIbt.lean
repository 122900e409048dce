import Derived.Test.YtheanmadognhbaaGreatDoorZbt
namespace Go.Proofs.YtheanmadognhbaaGreatDoor
set_option linter.unusedVariables false
set_option linter.unusedSimpArgs false
set_option linter.unusedSectionVars false
open Go.RowKit Go.Maps
def gD (k:Int):Int:=if k=3 then 4 else if k=4 then 3 else if k=7 then 8 else if k=8 then 7 else k
def aG:List St→List St | []=>[] | x :: xs=>if x.kind=1 then x :: aG xs else aG xs
mutual
def tuS:St→St | .mk k nm xs n bd els p=>.mk (gD k) nm xs n (aG bd++tuO bd) (aG els++tuO els) p
def tuO:List St→List St | []=>[] | x :: xs=>tuO xs++(if x.kind=1 then [] else [tuS x])
end
def tuB (l:List St):List St:=aG l++tuO l
def mu (d:Df):Df:=⟨d.name,d.params,[],tuB d.body,[]⟩
section
variable {nm:Sec} {xs:List E} {n p:Int} {bd els:List St} {s:List Int×VE} {env:Env} {r:RS}
theorem nF {x:E}:bY r (.mk 1 nm [x] n bd els p) env=((aR r x env).2.declare nm p,env++[(nm,(aR r x env).1)]):=by
 unfold bY;rw [if_pos rfl]
theorem qS {x:E}:bY r (.mk 6 nm [x] n bd els p) env=((ay (ay (bp r x 2 env) bd env).1 els env).1,env):=by
 conv=>lhs;unfold bY
 rw [if_neg (by decide),if_pos rfl]
theorem lw {k:Int} (hk:k=7∨k=8):bY r (.mk k nm xs n bd els p) env=((ay (if 64 < n then (r.declare nm p).fail 11 p else r.declare nm p) bd (env++[(nm,1)])).1,env):=by
 conv=>lhs;unfold bY
 rw [if_neg (by omega),if_neg (by omega),if_pos hk]
theorem nG {k:Int} {x y:E} (hk:k=2∨k=3∨k=4∨k=5):bY r (.mk k nm [x,y] n bd els p) env=(bp (bp r x 1 env) y 1 env,env):=by
 conv=>lhs;unfold bY
 rw [if_neg (by omega),if_neg (by omega),if_neg (by omega)]
end
theorem nH {k:Int} {xs:List E} {n:Int} (h:isS k xs.length n):(∃ x,xs=[x]∧k=1)∨(∃ x,xs=[x]∧k=6)∨(∃ x y,xs=[x,y]∧(k=2∨k=3∨k=4∨k=5))∨(xs=[]∧0≤n∧(k=7∨k=8)):=by
 rcases h with ⟨hk,hl⟩ | ⟨hk,hl⟩ | ⟨hk,hl,hn⟩
 ·obtain ⟨x,rfl⟩:=List.length_eq_one_iff.1 hl;rcases hk with rfl | rfl
  ·exact .inl ⟨x,rfl,rfl⟩
  ·exact .inr (.inl ⟨x,rfl,rfl⟩)
 ·rcases xs with _ | ⟨x,_ | ⟨y,_ | ⟨z,xs⟩⟩⟩
  ·simp at hl
  ·simp at hl
  ·exact .inr (.inr (.inl ⟨x,y,rfl,hk⟩))
  ·simp at hl
 ·obtain rfl:=List.eq_nil_of_length_eq_zero hl;exact .inr (.inr (.inr ⟨rfl,hn,hk⟩))
theorem nJ {r:RS} {nm:Sec} {n p:Int} {bd:List St} {env:Env} (h:(ay (if 64 < n then (r.declare nm p).fail 11 p else r.declare nm p) bd env).1.code=0):n≤64∧(r.declare nm p).code=0∧(if 64 < n then (r.declare nm p).fail 11 p else r.declare nm p)=r.declare nm p:=by
 have c1:(if 64 < n then (r.declare nm p).fail 11 p else r.declare nm p).code=0:=bb (fun y hy=>RS.bad.block bd _ y _ hy) h
 by_cases h64:64 < n
 ·rw [if_pos h64] at c1;exact absurd c1 (ic (by decide))
 ·rw [if_neg h64] at c1⊢;exact ⟨by omega,c1,rfl⟩
def Sub (env env':Env):Prop:=∀ z t,bj env z=some t→bj env' z=some t
theorem Sub.refl (env:Env):Sub env env:=fun _ _ h=>h
theorem Sub.trans {a b c:Env} (h1:Sub a b) (h2:Sub b c):Sub a c:=fun z t h=>h2 z t (h1 z t h)
theorem Sub.app (env N:Env):Sub env (env++N):=fun z t h=>by rw [eg,h]
theorem wn {b:Prop} [Decidable b] {r:RS} {p:Int} (h:(if b then r.fail 10 p else r).code=0):¬ b∧r.code=0:=by
 by_cases hb:b
 ·rw [if_pos hb] at h;exact absurd h (ic (by decide))
 ·rw [if_neg hb] at h;exact ⟨hb,h⟩
section
variable {env env':Env} (hs:Sub env env')
include hs
end
mutual
def ndS:St→List Sec | .mk k nm _ _ bd els _=>if k=1 then [nm] else if k=6 then ndB bd++ndB els else if k=7∨k=8 then nm :: ndB bd else []
def ndB:List St→List Sec | []=>[] | x :: xs=>ndS x++ndB xs
end
section
variable {nm:Sec} {xs:List E} {n p:Int} {bd els:List St}
theorem ws:ndS (.mk 1 nm xs n bd els p)=[nm]:=by conv=>lhs;unfold ndS;rw [if_pos rfl]
theorem ndS_if:ndS (.mk 6 nm xs n bd els p)=ndB bd++ndB els:=by
 conv=>lhs;unfold ndS
 rw [if_neg (by decide),if_pos rfl]
theorem qT {k:Int} (hk:k=7∨k=8):ndS (.mk k nm xs n bd els p)=nm :: ndB bd:=by
 conv=>lhs;unfold ndS
 rw [if_neg (by omega),if_neg (by omega),if_pos hk]
theorem wt {k:Int} (hk:k=2∨k=3∨k=4∨k=5):ndS (.mk k nm xs n bd els p)=[]:=by
 conv=>lhs;unfold ndS
 rw [if_neg (by omega),if_neg (by omega),if_neg (by omega)]
end
def OkN (L:List Sec):Prop:=L.Nodup∧L.length≤16
theorem OkN.perm {L L':List Sec} (h:OkN L) (hp:L.Perm L'):OkN L':=⟨hp.nodup_iff.1 h.1,by rw [← hp.length_eq];exact h.2⟩
theorem OkN.left {A B:List Sec} (h:OkN (A++B)):OkN A:=⟨(List.nodup_append.1 h.1).1,by have:=h.2;rw [List.length_append] at this;omega⟩
theorem fM {r:RS} {nm:Sec} {p:Int} (h:(r.declare nm p).code=0) (hr:OkN r.decl):OkN (r.declare nm p).decl:=by
 obtain ⟨-,h2,h3⟩:=bL h;rw [h3];have hl:r.decl.length < 16:=by
  unfold RS.declare at h;rw [if_neg h2] at h;split at h
  ·exact absurd h (ic (by decide))
  ·omega
 refine ⟨List.nodup_append.2 ⟨hr.1,by simp,fun a ha b hb=>?_⟩,by rw [List.length_append,List.length_singleton];omega⟩;rw [List.mem_singleton.1 hb];exact fun e=>h2 (e ▸ ha)
mutual
theorem stmt_nd:∀ (x:St) (r:RS) (env:Env),wS x→(bY r x env).1.code=0→(bY r x env).1.decl=r.decl++ndS x∧(OkN r.decl→OkN (bY r x env).1.decl)
 | .mk k nm xs n bd els p,r,env,hw,h0=>by
  unfold wS at hw;obtain ⟨hi,-,hx,hb,he⟩:=hw;rcases nH hi with ⟨x,rfl,rfl⟩ | ⟨x,rfl,rfl⟩ | ⟨x,y,rfl,hk⟩ | ⟨rfl,hn,hk⟩
  ·rw [nF] at h0⊢;rw [ws];have e1:=eh x r env;refine ⟨by rw [(bL h0).2.2,e1],fun h=>fM h0 (by rw [e1];exact h)⟩
  ·rw [qS] at h0⊢;rw [ndS_if];have c1:(ay (bp r x 2 env) bd env).1.code=0:=bb (fun y hy=>RS.bad.block els _ y env hy) h0;obtain ⟨a1,a2⟩:=gF bd _ env hb c1;obtain ⟨b1,b2⟩:=gF els _ env he h0;have e1:=fh r x 2 env;refine ⟨?_,fun h=>b2 (a2 (by rw [e1];exact h))⟩;show (ay _ els env).1.decl=_;rw [b1,a1,e1,List.append_assoc]
  ·rw [nG hk] at h0⊢;rw [wt hk];have e1:(bp (bp r x 1 env) y 1 env).decl=r.decl:=by rw [fh,fh]
   exact ⟨by rw [List.append_nil];exact e1,fun h=>by show OkN (bp (bp r x 1 env) y 1 env).decl;rw [e1];exact h⟩
  ·rw [lw hk] at h0⊢;rw [qT hk];obtain ⟨-,c1,e1⟩:=nJ h0;rw [e1] at h0⊢;obtain ⟨a1,a2⟩:=gF bd _ _ hb h0;refine ⟨?_,fun h=>a2 (fM c1 h)⟩;show (ay _ bd _).1.decl=_;rw [a1,(bL c1).2.2,List.append_assoc];rfl
theorem gF:∀ (xs:List St) (r:RS) (env:Env),wB xs→(ay r xs env).1.code=0→(ay r xs env).1.decl=r.decl++ndB xs∧(OkN r.decl→OkN (ay r xs env).1.decl)
 | [],r,env,_,h0=>by unfold ay ndB;exact ⟨(List.append_nil _).symm,fun h=>h⟩
 | x :: xs,r,env,hw,h0=>by
  unfold wB at hw;unfold ay at h0⊢;unfold ndB;have c1:(bY r x env).1.code=0:=bb (fun y hy=>RS.bad.block xs _ y _ hy) h0;obtain ⟨a1,a2⟩:=stmt_nd x r env hw.1 c1;obtain ⟨b1,b2⟩:=gF xs _ _ hw.2 h0;exact ⟨by rw [b1,a1,List.append_assoc],fun h=>b2 (a2 h)⟩
end
theorem fj:∀ (xs ys:List St),ah (xs++ys)=ah xs+ah ys
 | [],ys=>by simp [ah]
 | x :: xs,ys=>by rw [List.cons_append];simp only [ah];rw [fj xs ys];omega
mutual
theorem tuS_size:∀ x:St,aQ (tuS x)=aQ x
 | .mk k nm xs n bd els p=>by
  have h1:=iY bd;have h2:=iY els;have ht:tuS (.mk k nm xs n bd els p)=.mk (gD k) nm xs n (aG bd++tuO bd) (aG els++tuO els) p:=by conv=>lhs;unfold tuS
  rw [ht];unfold aQ;rw [h1,h2]
theorem iY:∀ xs:List St,ah (aG xs++tuO xs)=ah xs
 | []=>by unfold aG tuO;rfl
 | x :: xs=>by
  have h1:=tuS_size x;have h2:=iY xs;have htu:tuO (x :: xs)=tuO xs++(if x.kind=1 then [] else [tuS x]):=by conv=>lhs;unfold tuO
  have hle:aG (x :: xs)=if x.kind=1 then x :: aG xs else aG xs:=by conv=>lhs;unfold aG
  rw [fj] at h2;rw [htu,hle,bH,fj,fj]
  by_cases hkd:x.kind=1
  ·rw [if_pos hkd,if_pos hkd,bH,cb];omega
  ·rw [if_neg hkd,if_neg hkd,bH,cb];omega
end
theorem all_tu {P:St→Prop} {A:List St→Prop} (h0:A []) (h1:∀ x xs,A (x :: xs)↔P x∧A xs):(∀ (xs:List St),A xs→(∀ x∈xs,P x→P (tuS x))→A (aG xs++tuO xs)):=by
 have happ:∀ (xs ys:List St),A xs→A ys→A (xs++ys):=fun xs=>by
  induction xs with
  | nil=>exact fun ys _ h=>h
  | cons x xs ih=>exact fun ys h h'=>(h1 _ _).2 ⟨((h1 _ _).1 h).1,ih ys ((h1 _ _).1 h).2 h'⟩
 have hl:∀ xs,A xs→A (aG xs):=fun xs=>by
  induction xs with
  | nil=>exact fun _=>by unfold aG;exact h0
  | cons x xs ih=>
   intro h;obtain ⟨a,b⟩:=(h1 _ _).1 h;unfold aG;split
   ·exact (h1 _ _).2 ⟨a,ih b⟩
   ·exact ih b
 have ho:∀ xs,A xs→(∀ x∈xs,P x→P (tuS x))→A (tuO xs):=fun xs=>by
  induction xs with
  | nil=>exact fun _ _=>by unfold tuO;exact h0
  | cons x xs ih=>
   intro h hx;obtain ⟨a,b⟩:=(h1 _ _).1 h;unfold tuO;refine happ _ _ (ih b (fun y hy=>hx y (by simp [hy]))) ?_;split
   ·exact h0
   ·exact (h1 _ _).2 ⟨hx x (by simp) a,h0⟩
 exact fun xs h hx=>happ _ _ (hl xs h) (ho xs h hx)
theorem nK (k:Int) (nm:Sec) (xs:List E) (n:Int) (bd els:List St) (p:Int):tuS (.mk k nm xs n bd els p)=.mk (gD k) nm xs n (aG bd++tuO bd) (aG els++tuO els) p:=by conv=>lhs;unfold tuS
theorem tu_ind {P:St→Prop} {A:List St→Prop} (h0:A []) (h1:∀ x xs,A (x :: xs)↔P x∧A xs)
  (hP:∀ k nm xs n bd els p,(A bd→A (aG bd++tuO bd))→(A els→A (aG els++tuO els))→P (.mk k nm xs n bd els p)→P (.mk (gD k) nm xs n (aG bd++tuO bd) (aG els++tuO els) p)):∀ (N:Nat) (x:St),aQ x≤N→P x→P (tuS x)
 | 0,.mk k nm xs n bd els p,hN,_=>by unfold aQ at hN;omega
 | N+1,.mk k nm xs n bd els p,hN,h=>by
  unfold aQ at hN;rw [nK]
  have hb:∀ l:List St,ah l≤N→A l→A (aG l++tuO l):=fun l hl ha=>all_tu h0 h1 l ha (fun x hx hp=>by
   obtain ⟨j,hj,e⟩:=List.mem_iff_getElem.1 hx;have:=bn (xs:=l) (j:=j) (e:=x) (by rw [List.getElem?_eq_getElem hj,e])
   exact tu_ind h0 h1 hP N x (by omega) hp)
  exact hP k nm xs n bd els p (hb bd (by omega)) (hb els (by omega)) h
theorem wu {P:St→Prop} {A:List St→Prop} (h0:A []) (h1:∀ x xs,A (x :: xs)↔P x∧A xs)
  (hP:∀ k nm xs n bd els p,(A bd→A (aG bd++tuO bd))→(A els→A (aG els++tuO els))→P (.mk k nm xs n bd els p)→P (.mk (gD k) nm xs n (aG bd++tuO bd) (aG els++tuO els) p)) (xs:List St) (h:A xs):A (tuB xs):=
 all_tu h0 h1 xs h fun x _ hp=>tu_ind h0 h1 hP _ x (Nat.le_refl _) hp
theorem tuB_w (xs:List St) (h:wB xs):wB (tuB xs):=
 wu (P:=wS) (A:=wB) (by unfold wB;trivial) (fun x xs=>by conv=>lhs;unfold wB) (fun k nm xs n bd els p hb he h=>by
  unfold wS at h⊢;obtain ⟨hi,h2,h3,h4,h5⟩:=h;refine ⟨?_,h2,h3,hb h4,he h5⟩;unfold isS at hi⊢;unfold gD
  repeat' split
  all_goals omega) xs h
theorem tuB_p (xs:List St) (h:pB xs):pB (tuB xs):=
  wu (P:=pS) (A:=pB) (by unfold pB;trivial) (fun x xs=>by conv=>lhs;unfold pB) (fun k nm xs n bd els p hb he h=>by
    unfold pS at h⊢;obtain ⟨h1,h2,h3,h4⟩:=h;refine ⟨fun e=>?_,fun e=>?_,hb h3,he h4⟩
    · rw [h1 (fun e'=>e (by rw [e'];rfl))]
      unfold aG tuO;rfl
    · rw [h2 (by unfold gD at e;repeat' split at e
                 all_goals omega)]
      unfold aG tuO
      rfl) xs h
theorem tuB_g (xs:List St) (h:gB xs):gB (tuB xs):=
 wu (P:=gS) (A:=gB) (by unfold gB;trivial) (fun x xs=>by conv=>lhs;unfold gB) (fun k nm xs n bd els p hb he h=>by
  unfold gS at h⊢;obtain ⟨h1,h2,h3,h4⟩:=h
  exact ⟨h1,h2,hb h3,he h4⟩) xs h
theorem gG:∀ (l:List Sec) (r:RS),(iA r l).code=0→r.code=0
 | [],r,h=>h
 | x :: l,r,h=>(bL (gG l (r.declare x 0) h)).1
theorem nM:∀ (l:List Sec) (r:RS) (env:Env),Know r env→(iA r l).code=0→Know (iA r l) (env++iB l)
 | [],r,env,h,_=>by
  show Know r (env++[]);rw [List.append_nil];exact h
 | x :: l,r,env,h,h0=>by
  have h1:=nM l (r.declare x 0) (env++[(x,1)]) (h.snoc (bL (gG l _ h0)).2.2) h0;rw [List.append_assoc] at h1;exact h1
theorem eq {want:Int} {env:Env}:∀ (l:List E) (r:RS),(dE want env r l).code=0→r.code=0
 | [],r,h=>h
 | e :: l,r,h=>(wk (eq l _ h)).2
theorem jN {want:Int} {env:Env}:∀ (l:List E) (r:RS),(dE want env r l).decl=r.decl
 | [],r=>rfl
 | e :: l,r=>by
  show (dE want env (bp r e want env) l).decl=r.decl;rw [jN l,fh]
theorem wv:wL []:=by unfold wL;trivial
theorem sY {d:Df} (h:Whole d):Whole (mu d) where
 needs:=wv
 body:=tuB_w _ h.body
 give:=wv
 one:=by show ([]:List E).length≤1;simp
 size:=by
  show ak []+ah (aG d.body++tuO d.body)+ak []≤480;have h1:=h.size;have h2:ak ([]:List E)=0:=by unfold ak;rfl
  rw [iY,h2];omega
 params:=h.params
 plen:=h.plen
theorem ww {d:Df} (h:Good d):Good (mu d):=⟨h.params,gA,tuB_g _ h.body,gA⟩
theorem sZ {d:Df} (h:pB d.body):pB (mu d).body:=tuB_p _ h
theorem qU:∀ (l:List Sec) (r:RS),(iA r l).code=0→OkN r.decl→OkN (iA r l).decl
 | [],r,_,h=>h
 | x :: l,r,h0,h=>qU l (r.declare x 0) h0 (fM (gG l _ h0) h)
structure CleanD (d:Df):Prop where
 code:(refB d).1.code=0
 needs:(refN d).code=0
 pars:(iA RS.new d.params).code=0
 know:Know (iA RS.new d.params) (iB d.params)
 decl:(refN d).decl=(iA RS.new d.params).decl
 okn:OkN ((iA RS.new d.params).decl++ndB d.body)
theorem qV {d:Df} (hw:Whole d) (h:(opS CS.new d).flt=none):CleanD d:=by
 have h1:=(iX h).1;have hg:=(ff hw (dZ h1)).good h1;have c1:(refG d).code=0:=hg.1;have c2:(refB d).1.code=0:=eq _ _ c1;have c3:(refN d).code=0:=bb (fun y hy=>RS.bad.block d.body _ y _ hy) c2;have c4:(iA RS.new d.params).code=0:=eq _ _ c3;have e1:(refN d).decl=(iA RS.new d.params).decl:=jN _ _;have k1:Know (iA RS.new d.params) (iB d.params):=nM d.params RS.new [] (fun z hz=>by cases hz) c4;have o1:OkN (iA RS.new d.params).decl:=qU d.params RS.new c4 ⟨List.nodup_nil,by show ([]:List Sec).length≤16;simp⟩;obtain ⟨b1,b2⟩:=gF d.body (refN d) (iB d.params) hw.body c2;have o2:=b2 (by rw [e1];exact o1);rw [b1,e1] at o2;exact ⟨c2,c3,c4,k1,e1,o2⟩
section
variable {a b:Int} (hf:∀ k,(a≤gD k∧gD k≤b)↔(a≤k∧k≤b))
include hf
end
end Go.Proofs.YtheanmadognhbaaGreatDoor
