import Derived.Test.YtcebchffcmpfeaaGreatZbt
namespace Go.Proofs.YtcebchffcmpfeaaGreat
set_option linter.unusedVariables false
set_option linter.unusedSimpArgs false
set_option linter.unusedSectionVars false
open Go.RowKit Go.Maps
def flipK (k:Int):Int:=if k=3 then 4 else if k=4 then 3 else if k=7 then 8 else if k=8 then 7 else k
section
variable {nm:Sec} {xs:List E} {n p:Int} {bd els:List St} {s:List Int×VE} {env:Env} {r:RS}
theorem nz {x:E}:cD r (.mk 1 nm [x] n bd els p) env=((bq r x env).2.declare nm p,env++[(nm,(bq r x env).1)]):=by
 unfold cD;rw [if_pos rfl]
theorem ru {x:E}:cD r (.mk 6 nm [x] n bd els p) env=((aV (aV (bR r x 2 env) bd env).1 els env).1,env):=by
 conv=>lhs;unfold cD
 rw [if_neg (by decide),if_pos rfl]
theorem lj {k:Int} (hk:k=7∨k=8):cD r (.mk k nm xs n bd els p) env=((aV (if 64 < n then (r.declare nm p).fail 11 p else r.declare nm p) bd (env++[(nm,1)])).1,env):=by
 conv=>lhs;unfold cD
 rw [if_neg (by omega),if_neg (by omega),if_pos hk]
theorem nA {k:Int} {x y:E} (hk:k=2∨k=3∨k=4∨k=5):cD r (.mk k nm [x,y] n bd els p) env=(bR (bR r x 1 env) y 1 env,env):=by
 conv=>lhs;unfold cD
 rw [if_neg (by omega),if_neg (by omega),if_neg (by omega)]
end
theorem nC {k:Int} {xs:List E} {n:Int} (h:isS k xs.length n):(∃ x,xs=[x]∧k=1)∨(∃ x,xs=[x]∧k=6)∨(∃ x y,xs=[x,y]∧(k=2∨k=3∨k=4∨k=5))∨(xs=[]∧0≤n∧(k=7∨k=8)):=by
 rcases h with ⟨hk,hl⟩ | ⟨hk,hl⟩ | ⟨hk,hl,hn⟩
 ·obtain ⟨x,rfl⟩:=List.length_eq_one_iff.1 hl;rcases hk with rfl | rfl
  ·exact .inl ⟨x,rfl,rfl⟩
  ·exact .inr (.inl ⟨x,rfl,rfl⟩)
 ·rcases xs with _ | ⟨x,_ | ⟨y,_ | ⟨z,xs⟩⟩⟩
  ·simp at hl
  ·simp at hl
  ·exact .inr (.inr (.inl ⟨x,y,rfl,hk⟩))
  ·simp at hl
 ·obtain rfl:=List.eq_nil_of_length_eq_zero hl;exact .inr (.inr (.inr ⟨rfl,hn,hk⟩))
theorem nF {r:RS} {nm:Sec} {n p:Int} {bd:List St} {env:Env} (h:(aV (if 64 < n then (r.declare nm p).fail 11 p else r.declare nm p) bd env).1.code=0):n≤64∧(r.declare nm p).code=0∧(if 64 < n then (r.declare nm p).fail 11 p else r.declare nm p)=r.declare nm p:=by
 have c1:(if 64 < n then (r.declare nm p).fail 11 p else r.declare nm p).code=0:=aW (fun y hy=>RS.bad.block bd _ y _ hy) h
 by_cases h64:64 < n
 ·rw [if_pos h64] at c1;exact absurd c1 (il (by decide))
 ·rw [if_neg h64] at c1⊢;exact ⟨by omega,c1,rfl⟩
def Sub (env env':Env):Prop:=∀ z t,bO env z=some t→bO env' z=some t
theorem Sub.refl (env:Env):Sub env env:=fun _ _ h=>h
theorem Sub.trans {a b c:Env} (h1:Sub a b) (h2:Sub b c):Sub a c:=fun z t h=>h2 z t (h1 z t h)
theorem Sub.app (env N:Env):Sub env (env++N):=fun z t h=>by rw [dL,h]
theorem ws {b:Prop} [Decidable b] {r:RS} {p:Int} (h:(if b then r.fail 10 p else r).code=0):¬ b∧r.code=0:=by
 by_cases hb:b
 ·rw [if_pos hb] at h;exact absurd h (il (by decide))
 ·rw [if_neg hb] at h;exact ⟨hb,h⟩
section
variable {env env':Env} (hs:Sub env env')
include hs
end
mutual
def ndS:St→List Sec | .mk k nm _ _ bd els _=>if k=1 then [nm] else if k=6 then ndB bd++ndB els else if k=7∨k=8 then nm :: ndB bd else []
def ndB:List St→List Sec | []=>[] | x :: xs=>ndS x++ndB xs
end
section
variable {nm:Sec} {xs:List E} {n p:Int} {bd els:List St}
theorem wt:ndS (.mk 1 nm xs n bd els p)=[nm]:=by conv=>lhs;unfold ndS;rw [if_pos rfl]
theorem ndS_if:ndS (.mk 6 nm xs n bd els p)=ndB bd++ndB els:=by
 conv=>lhs;unfold ndS
 rw [if_neg (by decide),if_pos rfl]
theorem rx {k:Int} (hk:k=7∨k=8):ndS (.mk k nm xs n bd els p)=nm :: ndB bd:=by
 conv=>lhs;unfold ndS
 rw [if_neg (by omega),if_neg (by omega),if_pos hk]
theorem wu {k:Int} (hk:k=2∨k=3∨k=4∨k=5):ndS (.mk k nm xs n bd els p)=[]:=by
 conv=>lhs;unfold ndS
 rw [if_neg (by omega),if_neg (by omega),if_neg (by omega)]
end
def OkN (L:List Sec):Prop:=L.Nodup∧L.length≤16
theorem OkN.perm {L L':List Sec} (h:OkN L) (hp:L.Perm L'):OkN L':=⟨hp.nodup_iff.1 h.1,by rw [← hp.length_eq];exact h.2⟩
theorem OkN.left {A B:List Sec} (h:OkN (A++B)):OkN A:=⟨(List.nodup_append.1 h.1).1,by have:=h.2;rw [List.length_append] at this;omega⟩
theorem fG {r:RS} {nm:Sec} {p:Int} (h:(r.declare nm p).code=0) (hr:OkN r.decl):OkN (r.declare nm p).decl:=by
 obtain ⟨-,h2,h3⟩:=bB h;rw [h3];have hl:r.decl.length < 16:=by
  unfold RS.declare at h;rw [if_neg h2] at h;split at h
  ·exact absurd h (il (by decide))
  ·omega
 refine ⟨List.nodup_append.2 ⟨hr.1,by simp,fun a ha b hb=>?_⟩,by rw [List.length_append,List.length_singleton];omega⟩;rw [List.mem_singleton.1 hb];exact fun e=>h2 (e ▸ ha)
mutual
theorem stmt_nd:∀ (x:St) (r:RS) (env:Env),wS x→(cD r x env).1.code=0→(cD r x env).1.decl=r.decl++ndS x∧(OkN r.decl→OkN (cD r x env).1.decl)
 | .mk k nm xs n bd els p,r,env,hw,h0=>by
  unfold wS at hw;obtain ⟨hi,-,hx,hb,he⟩:=hw;rcases nC hi with ⟨x,rfl,rfl⟩ | ⟨x,rfl,rfl⟩ | ⟨x,y,rfl,hk⟩ | ⟨rfl,hn,hk⟩
  ·rw [nz] at h0⊢;rw [wt];have e1:=dM x r env;refine ⟨by rw [(bB h0).2.2,e1],fun h=>fG h0 (by rw [e1];exact h)⟩
  ·rw [ru] at h0⊢;rw [ndS_if];have c1:(aV (bR r x 2 env) bd env).1.code=0:=aW (fun y hy=>RS.bad.block els _ y env hy) h0;obtain ⟨a1,a2⟩:=gu bd _ env hb c1;obtain ⟨b1,b2⟩:=gu els _ env he h0;have e1:=eR r x 2 env;refine ⟨?_,fun h=>b2 (a2 (by rw [e1];exact h))⟩;show (aV _ els env).1.decl=_;rw [b1,a1,e1,List.append_assoc]
  ·rw [nA hk] at h0⊢;rw [wu hk];have e1:(bR (bR r x 1 env) y 1 env).decl=r.decl:=by rw [eR,eR]
   exact ⟨by rw [List.append_nil];exact e1,fun h=>by show OkN (bR (bR r x 1 env) y 1 env).decl;rw [e1];exact h⟩
  ·rw [lj hk] at h0⊢;rw [rx hk];obtain ⟨-,c1,e1⟩:=nF h0;rw [e1] at h0⊢;obtain ⟨a1,a2⟩:=gu bd _ _ hb h0;refine ⟨?_,fun h=>a2 (fG c1 h)⟩;show (aV _ bd _).1.decl=_;rw [a1,(bB c1).2.2,List.append_assoc];rfl
theorem gu:∀ (xs:List St) (r:RS) (env:Env),wB xs→(aV r xs env).1.code=0→(aV r xs env).1.decl=r.decl++ndB xs∧(OkN r.decl→OkN (aV r xs env).1.decl)
 | [],r,env,_,h0=>by unfold aV ndB;exact ⟨(List.append_nil _).symm,fun h=>h⟩
 | x :: xs,r,env,hw,h0=>by
  unfold wB at hw;unfold aV at h0⊢;unfold ndB;have c1:(cD r x env).1.code=0:=aW (fun y hy=>RS.bad.block xs _ y _ hy) h0;obtain ⟨a1,a2⟩:=stmt_nd x r env hw.1 c1;obtain ⟨b1,b2⟩:=gu xs _ _ hw.2 h0;exact ⟨by rw [b1,a1,List.append_assoc],fun h=>b2 (a2 h)⟩
end
theorem gw:∀ (l:List Sec) (r:RS),(kD r l).code=0→r.code=0
 | [],r,h=>h
 | x :: l,r,h=>(bB (gw l (r.declare x 0) h)).1
theorem nG:∀ (l:List Sec) (r:RS) (env:Env),Know r env→(kD r l).code=0→Know (kD r l) (env++qf l)
 | [],r,env,h,_=>by
  show Know r (env++[]);rw [List.append_nil];exact h
 | x :: l,r,env,h,h0=>by
  have h1:=nG l (r.declare x 0) (env++[(x,1)]) (h.snoc (bB (gw l _ h0)).2.2) h0;rw [List.append_assoc] at h1;exact h1
theorem dV {want:Int} {env:Env}:∀ (l:List E) (r:RS),(gn want env r l).code=0→r.code=0
 | [],r,h=>h
 | e :: l,r,h=>(wl (dV l _ h)).2
theorem jK {want:Int} {env:Env}:∀ (l:List E) (r:RS),(gn want env r l).decl=r.decl
 | [],r=>rfl
 | e :: l,r=>by
  show (gn want env (bR r e want env) l).decl=r.decl;rw [jK l,eR]
theorem ry:∀ (l:List Sec) (r:RS),(kD r l).code=0→OkN r.decl→OkN (kD r l).decl
 | [],r,_,h=>h
 | x :: l,r,h0,h=>ry l (r.declare x 0) h0 (fG (gw l _ h0) h)
structure CleanD (d:Df):Prop where
 code:(refB d).1.code=0
 needs:(refN d).code=0
 pars:(kD RS.new d.params).code=0
 know:Know (kD RS.new d.params) (qf d.params)
 decl:(refN d).decl=(kD RS.new d.params).decl
 okn:OkN ((kD RS.new d.params).decl++ndB d.body)
theorem rz {d:Df} (hw:Whole d) (h:(opS CS.new d).flt=none):CleanD d:=by
 have h1:=(l9 h).1;have hg:=(lb hw (fq h1)).good h1;have c1:(refG d).code=0:=hg.1;have c2:(refB d).1.code=0:=dV _ _ c1;have c3:(refN d).code=0:=aW (fun y hy=>RS.bad.block d.body _ y _ hy) c2;have c4:(kD RS.new d.params).code=0:=dV _ _ c3;have e1:(refN d).decl=(kD RS.new d.params).decl:=jK _ _;have k1:Know (kD RS.new d.params) (qf d.params):=nG d.params RS.new [] (fun z hz=>by cases hz) c4;have o1:OkN (kD RS.new d.params).decl:=ry d.params RS.new c4 ⟨List.nodup_nil,by show ([]:List Sec).length≤16;simp⟩;obtain ⟨b1,b2⟩:=gu d.body (refN d) (qf d.params) hw.body c2;have o2:=b2 (by rw [e1];exact o1);rw [b1,e1] at o2;exact ⟨c2,c3,c4,k1,e1,o2⟩
section
variable {a b:Int} (hf:∀ k,(a≤flipK k∧flipK k≤b)↔(a≤k∧k≤b))
include hf
end
end Go.Proofs.YtcebchffcmpfeaaGreat
