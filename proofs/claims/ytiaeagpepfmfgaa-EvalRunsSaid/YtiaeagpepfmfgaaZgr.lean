import Derived.Test.YtiaeagpepfmfgaaZ20r
import Derived.Test.YtiaeagpepfmfgaaQ13r
import Derived.Test.YtiaeagpepfmfgaaZfr
import Derived.SizedLaws
namespace Go.Proofs.Ytiaeagpepfmfgaa
open Go.RowKit Go.Maps
set_option linter.unusedSimpArgs false
set_option linter.unusedVariables false
def dnB (d:Df) (c av:List Int):List Int×VE:=dcB d.body (c,d.params.zip av)
def runD (d:Df) (n:Int) (c av:List Int):(Int×List Int)×Int×Int:=
 if (opS CS.new d).flt.isSome=true then ((0,blankP),0,13)
 else if av.length≠d.params.length then ((0,blankP),0,2)
 else if (exVs c (mP d.params av) d.needs).any (fun v=>v == 0)=true then ((0,blankP),0,12)
 else ((n,(dnB d c av).1),(exVs (dnB d c av).1 (lastE (dnB d c av).2) d.give).getD 0 0,0)
theorem parD_code:∀ (l:List Sec) (r:RS),(parD r l).code=0→r.code=0
 | [],r,h=>h
 | x :: l,r,h=>(declare_code (parD_code l (r.declare x 0) h)).1
theorem parD_know:∀ (l:List Sec) (r:RS) (env:Env),Know r env→(parD r l).code=0→Know (parD r l) (env++envP l)
 | [],r,env,h,_=>by
  show Know r (env++[])
  rw [List.append_nil]
  exact h
 | x :: l,r,env,h,h0=>by
  have h1:=parD_know l (r.declare x 0) (env++[(x,1)]) (h.snoc (declare_code (parD_code l _ h0)).2.2) h0
  rw [List.append_assoc] at h1
  exact h1
theorem needsD_code {want:Int} {env:Env}:∀ (l:List E) (r:RS),(needsD want env r l).code=0→r.code=0
 | [],r,h=>h
 | e :: l,r,h=>(need_code (needsD_code l _ h)).2
theorem needsD_decl {want:Int} {env:Env}:∀ (l:List E) (r:RS),(needsD want env r l).decl=r.decl
 | [],r=>rfl
 | e :: l,r=>by
  show (needsD want env (needR r e want env) l).decl=r.decl
  rw [needsD_decl l,needR_decl]
theorem give_same {want:Int} {env:Env} (c:List Int) {m m':Nms} (hm:SameN env m m'):∀ (l:List E) (r:RS),(needsD want env r l).code=0→exVs c m l=exVs c m' l
 | [],r,_=>by unfold exVs;rfl
 | e :: l,r,h=>by
  have h1:=needsD_code l _ h
  unfold exVs
  rw [kind_same c hm e r (need_code h1).1,give_same c hm l _ h]
theorem runD_eq {d:Df} (hw:Whole d) (n:Int) (c av:List Int):runD d n c av=runP d n c av:=by
 unfold runD runP
 cases hf:(opS CS.new d).flt with
 | some x=>rfl
 | none=>
  have h0:¬ (none:Option (Int×Int)).isSome=true:=by decide
  rw [if_neg h0,if_neg h0]
  have h1:=(opS_none hf).1
  have hg:=(refG_agree hw (opG_few_params h1)).good h1
  have c1:(refG d).code=0:=hg.1
  have c2:(refB d).1.code=0:=needsD_code _ _ c1
  have c3:(refN d).code=0:=code_of_bad (fun y hy=>RS.bad.block d.body _ y _ hy) c2
  have c4:(parD RS.new d.params).code=0:=needsD_code _ _ c3
  have k1:Know (parD RS.new d.params) (envP d.params):=parD_know d.params RS.new [] (fun z hz=>by cases hz) c4
  have k2:Know (refN d) (envP d.params):=k1.sub (by unfold refN;rw [needsD_decl];exact fun z h=>h)
  have hr:=block_same d.body (refN d) (envP d.params) ⟨c,mP d.params av⟩ (d.params.zip av) hw.body c2 k2 (fun z _=>rfl)
  have e1:(pgB d.body ⟨c,mP d.params av⟩).c=(dnB d c av).1:=hr.cells
  have e2:=give_same (dnB d c av).1 hr.same d.give _ c1
  split
  ·rfl
  ·split
   ·rfl
   ·rw [e1]
    show _=((n,(dnB d c av).1),(exVs (dnB d c av).1 (pgB d.body ⟨c,mP d.params av⟩).m d.give).getD 0 0,0)
    rw [e2]
    rfl
def DunPost (w:World) (r:(Int×List Int)×Int×Int) (e:Ending) (w':World):Prop:=e=.returned (.tuple #[.agg (ivA (r.1.1 :: r.1.2)),.int .i64 r.2.1,.int .i64 r.2.2])∧Only [] w w'
section
variable {w:World} {ops:Array Oper} {rest:List Oper} {o:Oper} {a:Act} {Q:Exit→Act→World→Prop}
theorem wpList_append_ces (hg:o.guard=none) (s x:Operand) (hop:o.op=Op.call {callee:=Callee.builtin Builtin.append,args:=#[s,x],argTypes:=#[22,22] })
  (v:Value) (hs:a.eval s=v) (hown:OCe w v []) (b off L capx:Nat) (m:List Int) (hx:a.eval x=.slice (some ⟨b,off,none⟩) L capx) (hL:m.length=L) (hm:∀ j z,m[j]?=some z→w.cell? ⟨b,off+j,none⟩=some (.int .i64 z)) (hn:L≤1048576) (h0:0 < L)
  (hK:∀ a' cap w',OCe w' (.slice a' L cap) m→Ext w v w' (.slice a' L cap)→wpList Try.prog ops Q rest (a.put o.dst (.slice a' L cap)) w'):wpList Try.prog ops Q (o :: rest) a w:=by
 subst hL
 refine wpList_plain hg fun K' hK'=>?_
 obtain ⟨a',cap,w',hrun,k1,k2⟩:=run_append_ces o.type v [] hown b off capx m hm (by simpa using hn) h0
 simp only [List.length_nil,Nat.zero_add,List.nil_append] at hrun k1 k2
 unfold Oper.wp
 simp [execOp,hop,resolve,invoke,builtin,hs,hx,hrun,Result.andThen]
 exact hK' _ _ (hK _ _ w' k1 k2)
end
theorem OCe.block {w:World} {v:Value} {c:List Int} (h:OCe w v c) (h0:0 < c.length):∃ g,v.ownBlock=some g:=by
 rcases h.2 with ⟨rfl,hn⟩ | ⟨g,cap,cur,rfl,_⟩
 ·omega
 ·exact ⟨g,rfl⟩
theorem zip_nof {ps:List Sec} {l:List Int} (h:∀ nm∈ps,nm∉kws):NoF (ps.zip l):=fun x hx e=>by
 obtain ⟨x1,x2⟩:=x
 have h1:=h x1 (List.of_mem_zip hx).1
 dsimp only at e
 rw [e] at h1
 exact h1 (by decide)
structure ZI (w0 wr:World) (ve:Value) (env:VE):Prop where
 o:Only [] w0 wr
 e:OVe wr ve env
 n:∀ q,ve.ownBlock=some q→w0.heap.size≤q
theorem ZI.grow {w0 wr w2:World} {ve ve2:Value} {env env2:VE} (h:ZI w0 wr ve env) (he:OVe w2 ve2 env2) (hx:Ext wr ve w2 ve2):ZI w0 w2 ve2 env2:=
 ⟨h.o.trans hx.only (fun q hq=>.inr (h.n q (by simpa using hq))),he,fun q hq=>(hx.src q hq).elim (h.n q) (fun e=>Nat.le_trans h.o.size e)⟩
theorem ZI.quiet {w0 wr w2:World} {ve:Value} {env:VE} (h:ZI w0 wr ve env) (ho:Only [] wr w2):ZI w0 w2 ve env:=⟨h.o.trans ho (by simp),h.e.kept ho (by simp),h.n⟩
end Go.Proofs.Ytiaeagpepfmfgaa
namespace Go.Proofs.Ytiaeagpepfmfgaa
open Go.ChangeShapes Go.WideShapes Go.ChangeAt Go.RowKit Go.Deep Go.Maps
set_option linter.unusedSimpArgs false
set_option linter.unusedVariables false
theorem bytes_int:Try.prog.bytesOf 3=8:=by kernel_rfl
section
variable {H:Type} {enc:TypeId×Value→H} {W:World} {base:Nat} {sp:Nat→Bool} {held:Bool}
theorem nums_weight {fuel len cap:Nat} {a:Option Addr} {x:DataW H×List MemPlace} (h:DataW.trod enc Try.prog W base sp held fuel 22 [.slice a len cap]=some x) (hw:∀ z∈DataW.weights Try.prog 22 x.1,z≤reachBytes):len*8≤reachBytes:=by
 rcases DataW.trod_slice Try.underlying22 h with ⟨e,-⟩ | ⟨a',l',c',elems,rest,n,-,e,rfl,-,-,-,hl,-⟩
 ·simp only [List.cons.injEq,Value.slice.injEq,and_true] at e
  rw [e.2.1]
  decide
 ·simp only [List.cons.injEq,Value.slice.injEq,and_true] at e
  obtain ⟨-,rfl,-⟩:=e
  have:=hw (((elems.map (·.1)).length+(rest.map (·.1)).length)*Try.prog.bytesOf 3) (by simp [DataW.weights,Try.underlying22])
  rw [bytes_int,List.length_map,List.length_map,hl] at this
  omega
set_option maxRecDepth 100000 in
theorem open_case9s {r:Reach} {b0:Nat} {v:Value} {d:DataW H} {p:List MemPlace} (hv:Value.okWide Try.prog W r b0 24 v) (h:DataW.Trod enc Try.prog W base sp held 24 v d p) (hw:∀ z∈DataW.weights Try.prog 24 d,z≤reachBytes) :
  ∃ (s:ByteArray) (bv:Value) (l:List Int) (cv:Value) (m:List Int),v=.agg #[.string s,bv,cv]∧s.size≤maxLen∧IntsV W bv l∧Fit bv∧l.length≤maxLen∧IntsV W cv m∧Fit cv∧m.length*8≤reachBytes:=by
 obtain ⟨v0,v1,v2,y0,y1,y2,n,rfl,rfl,_,h0,h1,h2⟩:=Go.Joins.open_agg3 Try.underlying24 (by kernel_rfl) (by kernel_rfl) hv h
 obtain ⟨s,rfl,hs⟩:=open_str (u:=v0) (x:=y0) h0
 obtain ⟨l,hb,hf,hl⟩:=open_nums (v:=v1) (x:=y1) h1
 obtain ⟨m,hc,hg,hm⟩:=open_nums (v:=v2) (x:=y2) h2
 refine ⟨s,v1,l,v2,m,rfl,hs,hb,hf,hl,hc,hg,?_⟩
 obtain ⟨a,cap,rfl,-⟩:=id hc
 refine nums_weight h2 (fun z hz=>hw z ?_)
 simp only [DataW.weights,Try.underlying24,List.map_cons,List.map_nil,DataW.weightsEach,List.mem_append]
 exact .inr (.inr (.inl hz))
end
section
variable {w:World} {ops:Array Oper} {rest:List Oper} {o:Oper} {a:Act} {Q:Exit→Act→World→Prop}
theorem step_make_ce {K:Act→World→Prop} {E:Prop} (hg:o.guard=none) (c:Operand) (hop:o.op=Op.makeSlice 22 (.const (.int .i64 0)) c) (z:Int) (n:Nat) (hc:a.eval c=.int .i64 z) (hz:z=(n:Int)) (hn:n*8≤281474976710656)
  (hK:∀ w' g,OCe w' (.slice (some ⟨g,0,none⟩) 0 n) []→g=w.heap.size→Only [] w w'→K (a.put o.dst (.slice (some ⟨g,0,none⟩) 0 n)) w') :
  if Region.wanted o (yielded ops a.tmps)=true then Oper.wp Try.prog o a w K Q else E:=by
 subst hz
 obtain ⟨i,hi,hz⟩:=Option.map_eq_some_iff.1 info_int
 simp only [Prod.mk.injEq] at hz
 obtain ⟨z1,z2,z3⟩:=hz
 have hw:Region.wanted o (yielded ops a.tmps)=true:=by simp [Region.wanted,hg]
 rw [if_pos hw]
 obtain ⟨w',hrun,h1,h2⟩:=run_make_own (P:=Try.prog) w 0 22 3 i (.int .i64 0) 1 Try.underlying22 hi z1 z2 .i64 .i64 n (by rw [z3];omega) (by unfold maxLen;omega) (Nat.zero_le _)
 have h0:a.eval (.const (.int .i64 0))=.int .i64 0:=rfl
 unfold Oper.wp
 simp [execOp,hop,h0,hc,hrun,Result.andThen]
 exact hK w' _ h1 rfl (by simpa using Only.of_grown h2)
theorem run_append_oce {w:World} (ty:TypeId) (v x:Value) (l m:List Int) (hown:OCe w v l) (hx:IntsV w x m) (hn:(l.length+m.length)*8≤140737488355328) :
  ∃ a cap w',(Builtin.append_ #[22,22] ty #[v,x]).run Try.prog w=.ok (.slice a (l.length+m.length) cap) w'∧OCe w' (.slice a (l.length+m.length) cap) (l++m)∧Ext w v w' (.slice a (l.length+m.length) cap):=by
 obtain ⟨i,hi,hz⟩:=Option.map_eq_some_iff.1 info_int
 simp only [Prod.mk.injEq] at hz
 obtain ⟨z1,z2,z3⟩:=hz
 obtain ⟨ao,capx,rfl,hcell⟩:=id hx
 by_cases h0:m.length=0
 ·obtain rfl:m=[]:=List.eq_nil_of_length_eq_zero h0
  obtain ⟨a,cap,rfl⟩:=hown.shape
  exact ⟨a,cap,w,run_append_empty (P:=Try.prog) 0 22 ty 3 i 1 Try.underlying22 hi _ _ _ hown ao capx,by simpa using hown,by simpa using Ext.refl w _⟩
 ·obtain ⟨_,b,off,rfl,_⟩:=hcell 0 m[0] (List.getElem?_eq_getElem (by omega))
  have hnews:∀ (j:Nat) (u:Value),(iv m)[j]?=some u→w.cell? ((⟨b,off,none⟩:Addr).add j)=some u:=fun j u hj=>by
   have hadd:(⟨b,off,none⟩:Addr).add j=⟨b,off+j,none⟩:=by simp [Addr.add]
   rw [hadd]
   unfold iv at hj
   rw [List.getElem?_map] at hj
   cases hz:m[j]? with
   | none=>rw [hz] at hj;cases hj
   | some z=>
    rw [hz] at hj
    cases hj
    obtain ⟨_,b',off',e,hc⟩:=hcell j z hz
    cases e
    exact hc
  obtain ⟨v',w',hr,k1,k2,_,k5⟩:=run_append_own_at (P:=Try.prog) w 0 22 ty 3 i (.int .i64 0) 1 8 Try.underlying22 hi z1 z2 z3 rfl (by omega) v l.length (iv l) hown ⟨b,off,none⟩ m.length capx (iv m) (by rw [iv_length];omega) hnews (by intro u hu;simp only [iv,List.mem_map] at hu;obtain ⟨z,_,rfl⟩:=hu;rfl) (by unfold maxLen;omega) (by omega) (Nat.zero_le _)
  have hsh:∃ a cap,v'=.slice a (l.length+m.length) cap:=by
   rcases k1.2 with ⟨_,hn⟩ | ⟨g,cap,cur,rfl,_⟩
   ·omega
   ·exact ⟨_,_,rfl⟩
  obtain ⟨a,cap,rfl⟩:=hsh
  refine ⟨a,cap,w',hr,?_,Only.of_grown k2,fun g hg=>?_⟩
  ·have e:iv (l++m)=iv l++iv m:=by simp [iv]
   unfold OCe
   rw [e,List.length_append]
   exact k1
  ·rcases k5 with k5 | k5
   ·exact .inl (by rw [← k5];exact hg)
   ·rw [k5] at hg
    exact .inr (Nat.le_of_eq (Option.some.inj hg))
theorem step_append_oce {K:Act→World→Prop} {E:Prop} (hg:o.guard=none) (s x:Operand) (hop:o.op=Op.call {callee:=Callee.builtin Builtin.append,args:=#[s,x],argTypes:=#[22,22] })
  (v xv:Value) (l m:List Int) (L:Nat) (hL:l.length+m.length=L) (hs:a.eval s=v) (hown:OCe w v l) (hx:a.eval x=xv) (hxv:IntsV w xv m) (hn:L*8≤140737488355328)
  (hK:∀ a' cap w',OCe w' (.slice a' L cap) (l++m)→Ext w v w' (.slice a' L cap)→K (a.put o.dst (.slice a' L cap)) w') :
  if Region.wanted o (yielded ops a.tmps)=true then Oper.wp Try.prog o a w K Q else E:=by
 subst hL
 have hw:Region.wanted o (yielded ops a.tmps)=true:=by simp [Region.wanted,hg]
 rw [if_pos hw]
 obtain ⟨a',cap,w',hrun,k1,k2⟩:=run_append_oce o.type v xv l m hown hxv hn
 unfold Oper.wp
 simp [execOp,hop,resolve,invoke,builtin,hs,hx,hrun,Result.andThen]
 exact hK a' cap w' k1 k2
end
theorem OCe.front {w:World} {a:Option Addr} {cap:Nat} {m:List Int} {z:Int} (h:OCe w (.slice a (m.length+1) cap) (m++[z])) (hm:∀ x∈m,n64 x) :
  ∃ g,a=some ⟨g,0,none⟩∧m.length+1≤cap∧cap≤maxLen∧IntsV w (.slice a m.length cap) m∧w.cell? ⟨g,m.length,none⟩=some (.int .i64 z):=by
 rcases h.2 with ⟨_,hn⟩ | ⟨g,cap',cur,e,hb,hg,h1,h2,h3,h4⟩
 ·simp at hn
 ·obtain ⟨rfl,-,rfl⟩:=Value.slice.inj e
  have hcell:∀ i k,(m++[z])[i]?=some k→w.cell? ⟨g,i,none⟩=some (.int .i64 k):=fun i k hi=>by
   have hlt:=(List.getElem?_eq_some_iff.1 hi).1
   rw [cell_at _ hg]
   have e:(iv (m++[z]))[i]?=some (.int .i64 k):=by unfold iv;rw [List.getElem?_map,hi];rfl
   rw [← h4,List.getElem?_take_of_lt (by simpa using hlt)] at e
   simpa using e
  refine ⟨g,rfl,(by simpa using h1),h2,⟨_,cap,rfl,fun i k hi=>⟨n64_wf (hm k (List.mem_of_getElem? hi)),g,0,rfl,?_⟩⟩,hcell _ _ (by rw [List.getElem?_append_right (Nat.le_refl _),Nat.sub_self];rfl)⟩
  rw [Nat.zero_add]
  exact hcell i k (by rw [List.getElem?_append_left (List.getElem?_eq_some_iff.1 hi).1];exact hi)
end Go.Proofs.Ytiaeagpepfmfgaa
