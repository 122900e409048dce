import Derived.Deep.Slices
import Derived.Lib.SmallJoins
import Derived.Test.YtcebchffcmpfeaaGreatX23t
namespace Go.Proofs.YtcebchffcmpfeaaGreat
set_option linter.unusedVariables false
set_option linter.unusedSimpArgs false
set_option maxRecDepth 100000
set_option maxHeartbeats 16000000
open Go.ChangeShapes Go.WideShapes Go.ChangeAt Go.RowKit Go.Deep
section
variable {H:Type} {enc:TypeId×Value→H} {W:World} {base:Nat} {sp:Nat→Bool} {held:Bool}
theorem mC (a:Addr) (i:Nat) (h:a.spot=none):a.add i=⟨a.block,a.off+i,none⟩:=by
 unfold Addr.add;obtain ⟨b,o,s⟩:=a;simp only at h;subst h;split<;>simp_all
theorem oO {a:Addr} {v:Value} (h:W.cell? a=some v):a.spot=none:=by
 unfold World.cell? at h;split at h
 ·split at h
  ·cases h
  ·rename_i hs;simpa using hs
 ·cases h
theorem oP {a:Addr} {cs':List Value} (h:W.cells? base a 1=some cs'):∃ u,cs'=[u]∧W.cell? a=some u:=by
 obtain ⟨_,hl,hat⟩:=World.cells?_some h
 match cs',hl with
 | [u],_=>
  have:=hat 0 (by omega);have ha0:a.add 0=a:=by simp [Addr.add]
  rw [ha0] at this;exact ⟨u,rfl,by simpa using this⟩
theorem dS:Tryz.prog.cellsOf 3=1:=by kernel_rfl
theorem cH {fuel:Nat} {u:Value} {x:DataW H×List MemPlace} (h:DataW.trod enc Tryz.prog W base sp held fuel 3 [u]=some x):∃ q:Int,u=.int .i64 q∧(Lit.int .i64 q).wf=true:=by
 obtain ⟨q,hq,_,hw⟩:=DataW.trod_int Tryz.underlying3 h;exact ⟨q,by simpa using hq,hw⟩
theorem open_row {t e:TypeId} (ht:Tryz.prog.underlying t=some (.slice e)) (he:Tryz.prog.cellsOf e=1) {fuel:Nat} {v:Value} {x:DataW H×List MemPlace} (h:DataW.trod enc Tryz.prog W base sp held fuel t [v]=some x) :
  ∃ (a:Option Addr) (len cap:Nat),v=.slice a len cap∧(len≤cap∧cap≤maxLen)∧∀ i,i < len→∃ (b off:Nat) (u:Value) (n:Nat) (y:DataW H×List MemPlace),a=some ⟨b,off,none⟩∧W.cell? ⟨b,off+i,none⟩=some u∧DataW.trod enc Tryz.prog W base sp held n e [u]=some y:=by
 rcases open_slice ht h with ⟨hcs,_⟩ | ⟨a,len,cap,m,n,D,Pl,hcs,_,hl,hm,hmm,_,hi⟩
 ·exact ⟨none,0,0,by simpa using hcs,⟨Nat.zero_le _,Nat.zero_le _⟩,fun i hi=>absurd hi (Nat.not_lt_zero _)⟩
 ·obtain rfl:v=.slice (some a) len cap:=by simpa using hcs
  have hlm:len≤m:=by rw [hmm];split<;>omega
  refine ⟨some a,len,cap,rfl,⟨hl,hm⟩,fun i hil=>?_⟩;clear hm;obtain ⟨cs0,hc0,_⟩:=hi 0 (by omega);rw [he] at hc0;obtain ⟨u0,_,hcell0⟩:=oP hc0;have hs:a.spot=none:=by
   have e0:a.add (0*1)=a:=by simp [Addr.add]
   rw [e0] at hcell0;exact oO hcell0
  obtain ⟨cs1,hc1,ht1⟩:=hi i (by omega);rw [he] at hc1;obtain ⟨u,rfl,hcell⟩:=oP hc1;rw [mC a _ hs,Nat.mul_one] at hcell;refine ⟨a.block,a.off,u,n,_,?_,hcell,ht1⟩;obtain ⟨b,o,s⟩:=a;simp only at hs;rw [hs]
theorem open_nums {fuel:Nat} {v:Value} {x:DataW H×List MemPlace} (h:DataW.trod enc Tryz.prog W base sp held fuel 26 [v]=some x):∃ l:List Int,IntsV W v l∧Fit v∧l.length≤maxLen:=by
 obtain ⟨a,len,cap,rfl,hlen,hi⟩:=open_row Tryz.underlying26 dS h;have hex:∀ i,∃ q:Int,i < len→(Lit.int .i64 q).wf=true∧∃ b off,a=some ⟨b,off,none⟩∧W.cell? ⟨b,off+i,none⟩=some (.int .i64 q):=fun i=>by
  by_cases hil:i < len
  ·obtain ⟨b,off,u,n,y,ha,hc,ht⟩:=hi i hil;obtain ⟨q,rfl,hw⟩:=cH ht;exact ⟨q,fun _=>⟨hw,b,off,ha,hc⟩⟩
  ·exact ⟨0,fun h=>absurd h hil⟩
 refine ⟨(List.range len).map fun i=>(hex i).choose,⟨a,cap,by simp,fun i c hic=>?_⟩,(fun a' n' c' e=>by cases e;exact hlen),by simpa using Nat.le_trans hlen.1 hlen.2⟩;have hil:i < len:=by simpa using (List.getElem?_eq_some_iff.1 hic).1
 rw [List.getElem?_map,List.getElem?_range hil,Option.map_some] at hic;rw [← Option.some.inj hic];exact (hex i).choose_spec hil
end
open Go.ChangeShapes Go.WideShapes Go.ChangeAt Go.RowKit Go.Deep Go.Maps
theorem oQ {z:Int} (h:(Lit.int .i64 z).wf=true):n64 z:=by
 have e1:IntKind.i64.min=-9223372036854775808:=by decide
 have e2:IntKind.i64.max=9223372036854775807:=by decide
 simpa [Lit.wf,e1,e2,n64] using h
section
variable {H:Type} {enc:TypeId×Value→H} {W:World} {base:Nat} {sp:Nat→Bool} {held:Bool}
theorem xQ {α:Type} {R:RowT α} {X:α→Prop} (d0:α) (hk:Tryz.prog.cellsOf R.t=R.k)
  (hel:∀ (fuel:Nat) (cs:List Value) (x:DataW H×List MemPlace),DataW.trod enc Tryz.prog W base sp held fuel R.t cs=some x→∃ p:α,cs=R.en p∧X p)
  {fuel:Nat} {v:Value} {x:DataW H×List MemPlace} (h:DataW.trod enc Tryz.prog W base sp held fuel R.ts [v]=some x):∃ l:List α,RV R W v l∧(∀ p∈l,X p)∧l.length≤maxLen:=by
 rcases open_slice R.hts h with ⟨hcs,_⟩ | ⟨a,len,cap,m,n,D,Pl,hcs,_,hl,hm,hmm,_,hi⟩
 ·exact ⟨[],⟨none,0,by simpa using hcs,.inl rfl⟩,fun p hp=>by simp at hp,Nat.zero_le _⟩
 ·obtain rfl:v=.slice (some a) len cap:=by simpa using hcs
  have hlm:len≤m:=by rw [hmm];split<;>omega
  have hlen:=Nat.le_trans hl hm;clear hm;rw [hk] at hi;have hk0:=R.h0;have hs:0 < len→a.spot=none:=fun h0=>by
   obtain ⟨cs0,hc0,ht0⟩:=hi 0 (by omega);obtain ⟨_,hl0,hat0⟩:=World.cells?_some hc0;obtain ⟨p,rfl,-⟩:=hel _ _ _ ht0;have h0:=hat0 0 (by omega);have e0:(a.add (0*R.k)).add 0=a:=by simp [Addr.add]
   rw [e0,List.getElem?_eq_getElem (by rw [R.hk];omega)] at h0;exact oO h0
  have hex:∀ i,∃ p:α,i < len→X p∧∀ j u,(R.en p)[j]?=some u→W.cell? ⟨a.block,a.off+i*R.k+j,none⟩=some u:=fun i=>by
   by_cases hil:i < len
   ·obtain ⟨cs1,hc1,ht1⟩:=hi i (by omega);obtain ⟨_,hl1,hat1⟩:=World.cells?_some hc1;obtain ⟨p,rfl,hp⟩:=hel _ _ _ ht1;refine ⟨p,fun _=>⟨hp,fun j u hj=>?_⟩⟩;have hjk:j < R.k:=by have:=(List.getElem?_eq_some_iff.1 hj).1;rwa [R.hk] at this
    have g:=hat1 j hjk;rw [mC a _ (hs (by omega)),mC _ _ rfl,hj] at g;exact g
   ·exact ⟨d0,fun h=>absurd h hil⟩
  refine ⟨(List.range len).map fun i=>(hex i).choose,⟨some a,cap,by simp,?_⟩,fun p hp=>?_,by simpa using hlen⟩
  ·by_cases h0:len=0
   ·exact .inl (List.eq_nil_of_length_eq_zero (by simp [h0]))
   ·refine .inr ⟨a.block,a.off,?_,fun i o hio=>?_⟩
    ·have:=hs (by omega);obtain ⟨b,o',s⟩:=a;simp only at this;rw [this]
    ·have hil:i < len:=by simpa using (List.getElem?_eq_some_iff.1 hio).1
     rw [List.getElem?_map,List.getElem?_range hil,Option.map_some] at hio;rw [← Option.some.inj hio];exact ((hex i).choose_spec hil).2
  ·obtain ⟨i,hi',rfl⟩:=List.mem_map.1 hp;exact ((hex i).choose_spec (List.mem_range.1 hi')).1
theorem xR {α:Type} (l:List α) (h:l.length=2):∃ a b,l=[a,b]:=by
 match l,h with
 | [a,b],_=>exact ⟨a,b,rfl⟩
theorem mD {α:Type} (l:List α) (h:l.length=4):∃ a b c d,l=[a,b,c,d]:=by
 match l,h with
 | [a,b,c,d],_=>exact ⟨a,b,c,d,rfl⟩
theorem kv:Tryz.prog.cellsOf 52=2:=by kernel_rfl
theorem lC:Tryz.prog.cellsOf 54=4:=by kernel_rfl
theorem tR {fuel:Nat} {cs:List Value} {x:DataW H×List MemPlace} (h:DataW.trod enc Tryz.prog W base sp held fuel 52 cs=some x):∃ p:Ins,cs=rI.en p∧n64 p.1∧n64 p.2:=by
 obtain ⟨xs,n,_,_,hl,hx,hf⟩:=DataW.trod_struct Tryz.underlying52 h;rw [kv] at hl;have hx2:xs.length=2:=hx;obtain ⟨v0,v1,rfl⟩:=xR cs hl;obtain ⟨y0,y1,rfl⟩:=xR xs hx2;have f0:DataW.trod enc Tryz.prog W base sp held n 3 (List.take (Tryz.prog.cellsOf 3) (List.drop 0 [v0,v1]))=some y0:=hf 0 _ rfl;have f1:DataW.trod enc Tryz.prog W base sp held n 3 (List.take (Tryz.prog.cellsOf 3) (List.drop 1 [v0,v1]))=some y1:=hf 1 _ rfl;rw [dS] at f0 f1;obtain ⟨k,rfl,w0⟩:=cH (u:=v0) (x:=y0) f0;obtain ⟨q,rfl,w1⟩:=cH (u:=v1) (x:=y1) f1;exact ⟨(k,q),rfl,oQ w0,oQ w1⟩
theorem xS {fuel:Nat} {cs:List Value} {x:DataW H×List MemPlace} (h:DataW.trod enc Tryz.prog W base sp held fuel 54 cs=some x):∃ p:Lp,cs=rL.en p∧True:=by
 obtain ⟨xs,n,_,_,hl,hx,hf⟩:=DataW.trod_struct Tryz.underlying54 h;rw [lC] at hl;have hx2:xs.length=4:=hx;obtain ⟨v0,v1,v2,v3,rfl⟩:=mD cs hl;obtain ⟨y0,y1,y2,y3,rfl⟩:=mD xs hx2;have f0:DataW.trod enc Tryz.prog W base sp held n 3 (List.take (Tryz.prog.cellsOf 3) (List.drop 0 [v0,v1,v2,v3]))=some y0:=hf 0 _ rfl;have f1:DataW.trod enc Tryz.prog W base sp held n 3 (List.take (Tryz.prog.cellsOf 3) (List.drop 1 [v0,v1,v2,v3]))=some y1:=hf 1 _ rfl;have f2:DataW.trod enc Tryz.prog W base sp held n 3 (List.take (Tryz.prog.cellsOf 3) (List.drop 2 [v0,v1,v2,v3]))=some y2:=hf 2 _ rfl;have f3:DataW.trod enc Tryz.prog W base sp held n 3 (List.take (Tryz.prog.cellsOf 3) (List.drop 3 [v0,v1,v2,v3]))=some y3:=hf 3 _ rfl;rw [dS] at f0 f1 f2 f3;obtain ⟨k0,rfl,w0⟩:=cH (u:=v0) (x:=y0) f0;obtain ⟨k1,rfl,w1⟩:=cH (u:=v1) (x:=y1) f1;obtain ⟨k2,rfl,w2⟩:=cH (u:=v2) (x:=y2) f2;obtain ⟨k3,rfl,w3⟩:=cH (u:=v3) (x:=y3) f3;exact ⟨⟨k0,k1,k2,k3⟩,rfl,trivial⟩
end
section
variable {H:Type} {enc:TypeId×Value→H} {W:World} {base:Nat} {sp:Nat→Bool} {held:Bool}
theorem open_cap {α:Type} {R:RowT α} {fuel:Nat} {v:Value} {x:DataW H×List MemPlace} (h:DataW.trod enc Tryz.prog W base sp held fuel R.ts [v]=some x):∃ a n c,v=.slice a n c∧n≤c∧c≤maxLen:=by
 rcases open_slice R.hts h with ⟨hcs,_⟩ | ⟨a,len,cap,m,n,D,Pl,hcs,_,hl,hm,-⟩
 ·exact ⟨none,0,0,by simpa using hcs,Nat.le_refl _,Nat.zero_le _⟩
 ·exact ⟨some a,len,cap,by simpa using hcs,hl,hm⟩
theorem rP {fuel:Nat} {cs:List Value} {x:DataW H×List MemPlace} (h:DataW.trod enc Tryz.prog W base sp held fuel 3 cs=some x):∃ p:Int,cs=rZ.en p∧n64 p:=by
 obtain ⟨q,hq,_,hw⟩:=DataW.trod_int Tryz.underlying3 h;exact ⟨q,hq,oQ hw⟩
theorem gT {α:Type} {R:RowT α} {X:α→Prop} (d0:α) (hk:Tryz.prog.cellsOf R.t=R.k)
  (hel:∀ (fuel:Nat) (cs:List Value) (x:DataW H×List MemPlace),DataW.trod enc Tryz.prog W base sp held fuel R.t cs=some x→∃ p:α,cs=R.en p∧X p)
  {fuel:Nat} {v:Value} {x:DataW H×List MemPlace} (h:DataW.trod enc Tryz.prog W base sp held fuel R.ts [v]=some x):∃ (l:List α) (a:Option Addr) (c:Nat),v=.slice a l.length c∧RV R W (.slice a l.length c) l∧(∀ p∈l,X p)∧l.length≤c∧c≤maxLen:=by
 obtain ⟨a,n,c,rfl,h1,h2⟩:=open_cap h;obtain ⟨l,hl,hx,-⟩:=xQ d0 hk hel h;obtain rfl:n=l.length:=by
  obtain ⟨a',c',e,-⟩:=hl;injection e
 exact ⟨l,a,c,rfl,hl,hx,h1,h2⟩
theorem tS:Tryz.prog.cellsOf 25=4:=by kernel_rfl
theorem qD:Tryz.prog.cellsOf 26=1:=by kernel_rfl
theorem qE:Tryz.prog.cellsOf 28=6:=by kernel_rfl
theorem oT:Tryz.prog.cellsOf 22=1:=by kernel_rfl
theorem qF:Tryz.prog.cellsOf 23=1:=by kernel_rfl
theorem six_of {α:Type} (l:List α) (h:l.length=6):∃ a b c d e f,l=[a,b,c,d,e,f]:=by
 match l,h with
 | [a,b,c,d,e,f],_=>exact ⟨a,b,c,d,e,f,rfl⟩
theorem three_of {α:Type} (l:List α) (h:l.length=3):∃ a b c,l=[a,b,c]:=by
 match l,h with
 | [a,b,c],_=>exact ⟨a,b,c,rfl⟩
def xT (c:Cd) (a1:Option Addr) (c1:Nat) (a2:Option Addr) (c2:Nat) (a3:Option Addr) (n3 c3:Nat) (a4:Option Addr) (n4 c4:Nat):Value:=
 .agg #[.int .i64 c.params,.int .i64 c.locals,.slice a1 c.ins.length c1,.slice a2 c.loops.length c2,.slice a3 n3 c3,.slice a4 n4 c4]
theorem tT {r:Reach} {b0:Nat} {v:Value} {d:DataW H} {p:List MemPlace} (hv:Value.okWide Tryz.prog W r b0 28 v) (h:DataW.Trod enc Tryz.prog W base sp held 28 v d p) :
  ∃ (c:Cd) (l3 l4:List Int) (a1:Option Addr) (c1:Nat) (a2:Option Addr) (c2:Nat) (a3:Option Addr) (c3:Nat) (a4:Option Addr) (c4:Nat),v=xT c a1 c1 a2 c2 a3 l3.length c3 a4 l4.length c4∧
   RV rI W (.slice a1 c.ins.length c1) c.ins∧c.ins.length≤c1∧(∀ x∈c.ins,n64 x.1∧n64 x.2)∧RV rL W (.slice a2 c.loops.length c2) c.loops∧c.loops.length≤c2∧
   RV rZ W (.slice a3 l3.length c3) l3∧(∀ z∈l3,n64 z)∧l3.length≤c3∧c3≤maxLen∧RV rZ W (.slice a4 l4.length c4) l4∧(∀ z∈l4,n64 z)∧l4.length≤c4∧c4≤maxLen∧n64 c.params∧n64 c.locals:=by
 obtain ⟨cs,rfl,hsz⟩:=okWide_struct Tryz.underlying28 hv;obtain ⟨fuel,hf⟩:=h;obtain ⟨xs,n,_,_,hl,hx,hf⟩:=DataW.trod_struct Tryz.underlying28 hf;simp only [Value.cells] at hl hf;rw [qE] at hl;obtain ⟨v0,v1,v2,v3,v4,v5,e⟩:=six_of _ hl;obtain rfl:cs=#[v0,v1,v2,v3,v4,v5]:=by cases cs;simp_all
 obtain ⟨y0,y1,y2,rfl⟩:=three_of xs hx;have f0:DataW.trod enc Tryz.prog W base sp held n 25 (List.take (Tryz.prog.cellsOf 25) (List.drop 0 [v0,v1,v2,v3,v4,v5]))=some y0:=hf 0 _ rfl;have f1:DataW.trod enc Tryz.prog W base sp held n 26 (List.take (Tryz.prog.cellsOf 26) (List.drop (Tryz.prog.cellsOf 25) [v0,v1,v2,v3,v4,v5]))=some y1:=hf 1 _ rfl;have f2:DataW.trod enc Tryz.prog W base sp held n 26 (List.take (Tryz.prog.cellsOf 26) (List.drop (Tryz.prog.cellsOf 25+Tryz.prog.cellsOf 26) [v0,v1,v2,v3,v4,v5]))=some y2:=hf 2 _ rfl;rw [tS] at f0 f1 f2;rw [qD] at f1 f2;obtain ⟨zs,n',_,_,hl',hx',hg⟩:=DataW.trod_struct Tryz.underlying25 f0;obtain ⟨z0,z1,z2,z3,rfl⟩:=mD zs hx';have g0:DataW.trod enc Tryz.prog W base sp held n' 3 (List.take (Tryz.prog.cellsOf 3) (List.drop 0 [v0,v1,v2,v3]))=some z0:=hg 0 _ rfl;have g1:DataW.trod enc Tryz.prog W base sp held n' 3 (List.take (Tryz.prog.cellsOf 3) (List.drop 1 [v0,v1,v2,v3]))=some z1:=hg 1 _ rfl;have g2:DataW.trod enc Tryz.prog W base sp held n' 22 (List.take (Tryz.prog.cellsOf 22) (List.drop 2 [v0,v1,v2,v3]))=some z2:=hg 2 _ rfl;have g3:DataW.trod enc Tryz.prog W base sp held n' 23 (List.take (Tryz.prog.cellsOf 23) (List.drop 3 [v0,v1,v2,v3]))=some z3:=hg 3 _ rfl;rw [dS] at g0 g1;rw [oT] at g2;rw [qF] at g3;obtain ⟨k,rfl,w0⟩:=cH (u:=v0) (x:=z0) g0;obtain ⟨q,rfl,w1⟩:=cH (u:=v1) (x:=z1) g1;obtain ⟨li,a1,c1,rfl,h1,n1,k1,-⟩:=gT (R:=rI) (0,0) kv (fun _ _ _=>tR) (v:=v2) (x:=z2) g2;obtain ⟨lo,a2,c2,rfl,h2,-,k2,-⟩:=gT (R:=rL) ⟨0,0,0,0⟩ lC (fun _ _ _=>xS) (v:=v3) (x:=z3) g3;obtain ⟨l3,a3,c3,rfl,h3,n3,k3,m3⟩:=gT (R:=rZ) 0 dS (fun _ _ _=>rP) (v:=v4) (x:=y1) f1;obtain ⟨l4,a4,c4,rfl,h4,n4,k4,m4⟩:=gT (R:=rZ) 0 dS (fun _ _ _=>rP) (v:=v5) (x:=y2) f2;exact ⟨⟨k,q,li,lo⟩,l3,l4,a1,c1,a2,c2,a3,c3,a4,c4,rfl,h1,k1,n1,h2,k2,h3,n3,k3,m3,h4,n4,k4,m4,oQ w0,oQ w1⟩
end
end Go.Proofs.YtcebchffcmpfeaaGreat
