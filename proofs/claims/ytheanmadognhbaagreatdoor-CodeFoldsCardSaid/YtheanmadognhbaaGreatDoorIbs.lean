import Derived.Test.YtheanmadognhbaaGreatDoorZbs
import Derived.Test.YtheanmadognhbaaGreatDoorQas
namespace Go.Proofs.YtheanmadognhbaaGreatDoor
open Go.RowKit Go.Maps
set_option linter.unusedSimpArgs false
set_option linter.unusedVariables false
def flipK (k:Int):Int:=if k=3 then 4 else if k=4 then 3 else if k=7 then 8 else if k=8 then 7 else k
section
variable {nm:Sec} {xs:List E} {n p:Int} {bd els:List St} {s:List Int×VE} {env:Env} {r:RS}
theorem stmtD_let {x:E}:stmtD r (.mk 1 nm [x] n bd els p) env=((kindR r x env).2.declare nm p,env++[(nm,(kindR r x env).1)]):=by
 unfold stmtD;rw [if_pos rfl]
theorem stmtD_if {x:E}:stmtD r (.mk 6 nm [x] n bd els p) env=((blockD (blockD (needR r x 2 env) bd env).1 els env).1,env):=by
 conv=>lhs;unfold stmtD
 rw [if_neg (by decide),if_pos rfl]
theorem stmtD_loop {k:Int} (hk:k=7∨k=8):stmtD r (.mk k nm xs n bd els p) env=((blockD (if 64 < n then (r.declare nm p).fail 11 p else r.declare nm p) bd (env++[(nm,1)])).1,env):=by
 conv=>lhs;unfold stmtD
 rw [if_neg (by omega),if_neg (by omega),if_pos hk]
theorem stmtD_two {k:Int} {x y:E} (hk:k=2∨k=3∨k=4∨k=5):stmtD r (.mk k nm [x,y] n bd els p) env=(needR (needR r x 1 env) y 1 env,env):=by
 conv=>lhs;unfold stmtD
 rw [if_neg (by omega),if_neg (by omega),if_neg (by omega)]
end
theorem isS_split {k:Int} {xs:List E} {n:Int} (h:isS k xs.length n):(∃ x,xs=[x]∧k=1)∨(∃ x,xs=[x]∧k=6)∨(∃ x y,xs=[x,y]∧(k=2∨k=3∨k=4∨k=5))∨(xs=[]∧0≤n∧(k=7∨k=8)):=by
 rcases h with ⟨hk,hl⟩ | ⟨hk,hl⟩ | ⟨hk,hl,hn⟩
 ·obtain ⟨x,rfl⟩:=List.length_eq_one_iff.1 hl
  rcases hk with rfl | rfl
  ·exact .inl ⟨x,rfl,rfl⟩
  ·exact .inr (.inl ⟨x,rfl,rfl⟩)
 ·rcases xs with _ | ⟨x,_ | ⟨y,_ | ⟨z,xs⟩⟩⟩
  ·simp at hl
  ·simp at hl
  ·exact .inr (.inr (.inl ⟨x,y,rfl,hk⟩))
  ·simp at hl
 ·obtain rfl:=List.eq_nil_of_length_eq_zero hl
  exact .inr (.inr (.inr ⟨rfl,hn,hk⟩))
theorem decl_code {r:RS} {nm:Sec} {n p:Int} {bd:List St} {env:Env} (h:(blockD (if 64 < n then (r.declare nm p).fail 11 p else r.declare nm p) bd env).1.code=0):n≤64∧(r.declare nm p).code=0∧(if 64 < n then (r.declare nm p).fail 11 p else r.declare nm p)=r.declare nm p:=by
 have c1:(if 64 < n then (r.declare nm p).fail 11 p else r.declare nm p).code=0:=code_of_bad (fun y hy=>RS.bad.block bd _ y _ hy) h
 by_cases h64:64 < n
 ·rw [if_pos h64] at c1
  exact absurd c1 (fail_ne (by decide))
 ·rw [if_neg h64] at c1⊢
  exact ⟨by omega,c1,rfl⟩
end Go.Proofs.YtheanmadognhbaaGreatDoor
namespace Go.Proofs.YtheanmadognhbaaGreatDoor
open Go.RowKit Go.Maps
set_option linter.unusedSimpArgs false
set_option linter.unusedVariables false
def Sub (env env':Env):Prop:=∀ z t,lookE env z=some t→lookE env' z=some t
theorem Sub.refl (env:Env):Sub env env:=fun _ _ h=>h
theorem Sub.trans {a b c:Env} (h1:Sub a b) (h2:Sub b c):Sub a c:=fun z t h=>h2 z t (h1 z t h)
theorem Sub.app (env N:Env):Sub env (env++N):=fun z t h=>by rw [lookE_app,h]
theorem if_fail {b:Prop} [Decidable b] {r:RS} {p:Int} (h:(if b then r.fail 10 p else r).code=0):¬ b∧r.code=0:=by
 by_cases hb:b
 ·rw [if_pos hb] at h
  exact absurd h (fail_ne (by decide))
 ·rw [if_neg hb] at h
  exact ⟨hb,h⟩
section
variable {env env':Env} (hs:Sub env env')
include hs
set_option linter.unusedSectionVars false
end
mutual
def ndS:St→List Sec | .mk k nm _ _ bd els _=>if k=1 then [nm] else if k=6 then ndB bd++ndB els else if k=7∨k=8 then nm :: ndB bd else []
def ndB:List St→List Sec | []=>[] | x :: xs=>ndS x++ndB xs
end
section
variable {nm:Sec} {xs:List E} {n p:Int} {bd els:List St}
theorem ndS_let:ndS (.mk 1 nm xs n bd els p)=[nm]:=by conv=>lhs;unfold ndS;rw [if_pos rfl]
theorem ndS_if:ndS (.mk 6 nm xs n bd els p)=ndB bd++ndB els:=by
 conv=>lhs;unfold ndS
 rw [if_neg (by decide),if_pos rfl]
theorem ndS_loop {k:Int} (hk:k=7∨k=8):ndS (.mk k nm xs n bd els p)=nm :: ndB bd:=by
 conv=>lhs;unfold ndS
 rw [if_neg (by omega),if_neg (by omega),if_pos hk]
theorem ndS_two {k:Int} (hk:k=2∨k=3∨k=4∨k=5):ndS (.mk k nm xs n bd els p)=[]:=by
 conv=>lhs;unfold ndS
 rw [if_neg (by omega),if_neg (by omega),if_neg (by omega)]
end
def OkN (L:List Sec):Prop:=L.Nodup∧L.length≤16
theorem OkN.perm {L L':List Sec} (h:OkN L) (hp:L.Perm L'):OkN L':=⟨hp.nodup_iff.1 h.1,by rw [← hp.length_eq];exact h.2⟩
theorem OkN.left {A B:List Sec} (h:OkN (A++B)):OkN A:=⟨(List.nodup_append.1 h.1).1,by have:=h.2;rw [List.length_append] at this;omega⟩
theorem declare_okN {r:RS} {nm:Sec} {p:Int} (h:(r.declare nm p).code=0) (hr:OkN r.decl):OkN (r.declare nm p).decl:=by
 obtain ⟨-,h2,h3⟩:=declare_code h
 rw [h3]
 have hl:r.decl.length < 16:=by
  unfold RS.declare at h
  rw [if_neg h2] at h
  split at h
  ·exact absurd h (fail_ne (by decide))
  ·omega
 refine ⟨List.nodup_append.2 ⟨hr.1,by simp,fun a ha b hb=>?_⟩,by rw [List.length_append,List.length_singleton];omega⟩
 rw [List.mem_singleton.1 hb]
 exact fun e=>h2 (e ▸ ha)
mutual
theorem stmt_nd:∀ (x:St) (r:RS) (env:Env),wS x→(stmtD r x env).1.code=0→(stmtD r x env).1.decl=r.decl++ndS x∧(OkN r.decl→OkN (stmtD r x env).1.decl)
 | .mk k nm xs n bd els p,r,env,hw,h0=>by
  unfold wS at hw
  obtain ⟨hi,-,hx,hb,he⟩:=hw
  rcases isS_split hi with ⟨x,rfl,rfl⟩ | ⟨x,rfl,rfl⟩ | ⟨x,y,rfl,hk⟩ | ⟨rfl,hn,hk⟩
  ·rw [stmtD_let] at h0⊢
   rw [ndS_let]
   have e1:=kindR_decl x r env
   refine ⟨by rw [(declare_code h0).2.2,e1],fun h=>declare_okN h0 (by rw [e1];exact h)⟩
  ·rw [stmtD_if] at h0⊢
   rw [ndS_if]
   have c1:(blockD (needR r x 2 env) bd env).1.code=0:=code_of_bad (fun y hy=>RS.bad.block els _ y env hy) h0
   obtain ⟨a1,a2⟩:=block_nd bd _ env hb c1
   obtain ⟨b1,b2⟩:=block_nd els _ env he h0
   have e1:=needR_decl r x 2 env
   refine ⟨?_,fun h=>b2 (a2 (by rw [e1];exact h))⟩
   show (blockD _ els env).1.decl=_
   rw [b1,a1,e1,List.append_assoc]
  ·rw [stmtD_two hk] at h0⊢
   rw [ndS_two hk]
   have e1:(needR (needR r x 1 env) y 1 env).decl=r.decl:=by rw [needR_decl,needR_decl]
   exact ⟨by rw [List.append_nil];exact e1,fun h=>by show OkN (needR (needR r x 1 env) y 1 env).decl;rw [e1];exact h⟩
  ·rw [stmtD_loop hk] at h0⊢
   rw [ndS_loop hk]
   obtain ⟨-,c1,e1⟩:=decl_code h0
   rw [e1] at h0⊢
   obtain ⟨a1,a2⟩:=block_nd bd _ _ hb h0
   refine ⟨?_,fun h=>a2 (declare_okN c1 h)⟩
   show (blockD _ bd _).1.decl=_
   rw [a1,(declare_code c1).2.2,List.append_assoc]
   rfl
theorem block_nd:∀ (xs:List St) (r:RS) (env:Env),wB xs→(blockD r xs env).1.code=0→(blockD r xs env).1.decl=r.decl++ndB xs∧(OkN r.decl→OkN (blockD r xs env).1.decl)
 | [],r,env,_,h0=>by unfold blockD ndB;exact ⟨(List.append_nil _).symm,fun h=>h⟩
 | x :: xs,r,env,hw,h0=>by
  unfold wB at hw
  unfold blockD at h0⊢
  unfold ndB
  have c1:(stmtD r x env).1.code=0:=code_of_bad (fun y hy=>RS.bad.block xs _ y _ hy) h0
  obtain ⟨a1,a2⟩:=stmt_nd x r env hw.1 c1
  obtain ⟨b1,b2⟩:=block_nd xs _ _ hw.2 h0
  exact ⟨by rw [b1,a1,List.append_assoc],fun h=>b2 (a2 h)⟩
end
end Go.Proofs.YtheanmadognhbaaGreatDoor
namespace Go.Proofs.YtheanmadognhbaaGreatDoor
open Go.RowKit Go.Maps
set_option linter.unusedSimpArgs false
set_option linter.unusedVariables false
theorem parD_code:∀ (l:List Sec) (r:RS),(parD r l).code=0→r.code=0
 | [],r,h=>h
 | x :: l,r,h=>(declare_code (parD_code l (r.declare x 0) h)).1
theorem parD_know:∀ (l:List Sec) (r:RS) (env:Env),Know r env→(parD r l).code=0→Know (parD r l) (env++envP l)
 | [],r,env,h,_=>by
  show Know r (env++[])
  rw [List.append_nil]
  exact h
 | x :: l,r,env,h,h0=>by
  have h1:=parD_know l (r.declare x 0) (env++[(x,1)]) (h.snoc (declare_code (parD_code l _ h0)).2.2) h0
  rw [List.append_assoc] at h1
  exact h1
theorem needsD_code {want:Int} {env:Env}:∀ (l:List E) (r:RS),(needsD want env r l).code=0→r.code=0
 | [],r,h=>h
 | e :: l,r,h=>(need_code (needsD_code l _ h)).2
theorem needsD_decl {want:Int} {env:Env}:∀ (l:List E) (r:RS),(needsD want env r l).decl=r.decl
 | [],r=>rfl
 | e :: l,r=>by
  show (needsD want env (needR r e want env) l).decl=r.decl
  rw [needsD_decl l,needR_decl]
end Go.Proofs.YtheanmadognhbaaGreatDoor
namespace Go.Proofs.YtheanmadognhbaaGreatDoor
open Go.RowKit Go.Maps
set_option linter.unusedSimpArgs false
set_option linter.unusedVariables false
theorem parD_okN:∀ (l:List Sec) (r:RS),(parD r l).code=0→OkN r.decl→OkN (parD r l).decl
 | [],r,_,h=>h
 | x :: l,r,h0,h=>parD_okN l (r.declare x 0) h0 (declare_okN (parD_code l _ h0) h)
structure CleanD (d:Df):Prop where
 code:(refB d).1.code=0
 needs:(refN d).code=0
 pars:(parD RS.new d.params).code=0
 know:Know (parD RS.new d.params) (envP d.params)
 decl:(refN d).decl=(parD RS.new d.params).decl
 okn:OkN ((parD RS.new d.params).decl++ndB d.body)
theorem clean_of {d:Df} (hw:Whole d) (h:(opS CS.new d).flt=none):CleanD d:=by
 have h1:=(opS_none h).1
 have hg:=(refG_agree hw (opG_few_params h1)).good h1
 have c1:(refG d).code=0:=hg.1
 have c2:(refB d).1.code=0:=needsD_code _ _ c1
 have c3:(refN d).code=0:=code_of_bad (fun y hy=>RS.bad.block d.body _ y _ hy) c2
 have c4:(parD RS.new d.params).code=0:=needsD_code _ _ c3
 have e1:(refN d).decl=(parD RS.new d.params).decl:=needsD_decl _ _
 have k1:Know (parD RS.new d.params) (envP d.params):=parD_know d.params RS.new [] (fun z hz=>by cases hz) c4
 have o1:OkN (parD RS.new d.params).decl:=parD_okN d.params RS.new c4 ⟨List.nodup_nil,by show ([]:List Sec).length≤16;simp⟩
 obtain ⟨b1,b2⟩:=block_nd d.body (refN d) (envP d.params) hw.body c2
 have o2:=b2 (by rw [e1];exact o1)
 rw [b1,e1] at o2
 exact ⟨c2,c3,c4,k1,e1,o2⟩
section
variable {a b:Int} (hf:∀ k,(a≤flipK k∧flipK k≤b)↔(a≤k∧k≤b))
include hf
set_option linter.unusedSectionVars false
end
end Go.Proofs.YtheanmadognhbaaGreatDoor
