import Derived.Test.YtheanmadognhbaaGreatDoorH21r
import Derived.Test.YtheanmadognhbaaGreatDoorS2r
import Derived.Deep.Slices
import Derived.Carry
namespace Go.Proofs.YtheanmadognhbaaGreatDoor
open Go.ChangeShapes Go.WideShapes Go.ChangeAt Go.RowKit Go.Deep Go.Maps
set_option linter.unusedSimpArgs false
set_option linter.unusedVariables false
theorem wf_n64 {z:Int} (h:(Lit.int .i64 z).wf=true):n64 z:=by
 have e1:IntKind.i64.min=-9223372036854775808:=by decide
 have e2:IntKind.i64.max=9223372036854775807:=by decide
 simpa [Lit.wf,e1,e2,n64] using h
section
variable {H:Type} {enc:TypeId×Value→H} {W:World} {base:Nat} {sp:Nat→Bool} {held:Bool}
theorem open_rows {α:Type} {R:RowT α} {X:α→Prop} (d0:α) (hk:Tryz.prog.cellsOf R.t=R.k)
  (hel:∀ (fuel:Nat) (cs:List Value) (x:DataW H×List MemPlace),DataW.trod enc Tryz.prog W base sp held fuel R.t cs=some x→∃ p:α,cs=R.en p∧X p)
  {fuel:Nat} {v:Value} {x:DataW H×List MemPlace} (h:DataW.trod enc Tryz.prog W base sp held fuel R.ts [v]=some x):∃ l:List α,RV R W v l∧(∀ p∈l,X p)∧l.length≤maxLen:=by
 rcases open_slice R.hts h with ⟨hcs,_⟩ | ⟨a,len,cap,m,n,D,Pl,hcs,_,hl,hm,hmm,_,hi⟩
 ·exact ⟨[],⟨none,0,by simpa using hcs,.inl rfl⟩,fun p hp=>by simp at hp,Nat.zero_le _⟩
 ·obtain rfl:v=.slice (some a) len cap:=by simpa using hcs
  have hlm:len≤m:=by rw [hmm];split<;>omega
  have hlen:=Nat.le_trans hl hm
  clear hm
  rw [hk] at hi
  have hk0:=R.h0
  have hs:0 < len→a.spot=none:=fun h0=>by
   obtain ⟨cs0,hc0,ht0⟩:=hi 0 (by omega)
   obtain ⟨_,hl0,hat0⟩:=World.cells?_some hc0
   obtain ⟨p,rfl,-⟩:=hel _ _ _ ht0
   have h0:=hat0 0 (by omega)
   have e0:(a.add (0*R.k)).add 0=a:=by simp [Addr.add]
   rw [e0,List.getElem?_eq_getElem (by rw [R.hk];omega)] at h0
   exact spot_none h0
  have hex:∀ i,∃ p:α,i < len→X p∧∀ j u,(R.en p)[j]?=some u→W.cell? ⟨a.block,a.off+i*R.k+j,none⟩=some u:=fun i=>by
   by_cases hil:i < len
   ·obtain ⟨cs1,hc1,ht1⟩:=hi i (by omega)
    obtain ⟨_,hl1,hat1⟩:=World.cells?_some hc1
    obtain ⟨p,rfl,hp⟩:=hel _ _ _ ht1
    refine ⟨p,fun _=>⟨hp,fun j u hj=>?_⟩⟩
    have hjk:j < R.k:=by have:=(List.getElem?_eq_some_iff.1 hj).1;rwa [R.hk] at this
    have g:=hat1 j hjk
    rw [addr_add a _ (hs (by omega)),addr_add _ _ rfl,hj] at g
    exact g
   ·exact ⟨d0,fun h=>absurd h hil⟩
  refine ⟨(List.range len).map fun i=>(hex i).choose,⟨some a,cap,by simp,?_⟩,fun p hp=>?_,by simpa using hlen⟩
  ·by_cases h0:len=0
   ·exact .inl (List.eq_nil_of_length_eq_zero (by simp [h0]))
   ·refine .inr ⟨a.block,a.off,?_,fun i o hio=>?_⟩
    ·have:=hs (by omega)
     obtain ⟨b,o',s⟩:=a
     simp only at this
     rw [this]
    ·have hil:i < len:=by simpa using (List.getElem?_eq_some_iff.1 hio).1
     rw [List.getElem?_map,List.getElem?_range hil,Option.map_some] at hio
     rw [← Option.some.inj hio]
     exact ((hex i).choose_spec hil).2
  ·obtain ⟨i,hi',rfl⟩:=List.mem_map.1 hp
   exact ((hex i).choose_spec (List.mem_range.1 hi')).1
theorem two_ofA {α:Type} (l:List α) (h:l.length=2):∃ a b,l=[a,b]:=by
 match l,h with
 | [a,b],_=>exact ⟨a,b,rfl⟩
theorem four_ofA {α:Type} (l:List α) (h:l.length=4):∃ a b c d,l=[a,b,c,d]:=by
 match l,h with
 | [a,b,c,d],_=>exact ⟨a,b,c,d,rfl⟩
theorem cells_instr:Tryz.prog.cellsOf 51=2:=by kernel_rfl
theorem cells_loop:Tryz.prog.cellsOf 55=4:=by kernel_rfl
theorem open_instr {fuel:Nat} {cs:List Value} {x:DataW H×List MemPlace} (h:DataW.trod enc Tryz.prog W base sp held fuel 51 cs=some x):∃ p:Ins,cs=rI.en p∧n64 p.1∧n64 p.2:=by
 obtain ⟨xs,n,_,_,hl,hx,hf⟩:=DataW.trod_struct Tryz.underlying51 h
 rw [cells_instr] at hl
 have hx2:xs.length=2:=hx
 obtain ⟨v0,v1,rfl⟩:=two_ofA cs hl
 obtain ⟨y0,y1,rfl⟩:=two_ofA xs hx2
 have f0:DataW.trod enc Tryz.prog W base sp held n 3 (List.take (Tryz.prog.cellsOf 3) (List.drop 0 [v0,v1]))=some y0:=hf 0 _ rfl
 have f1:DataW.trod enc Tryz.prog W base sp held n 3 (List.take (Tryz.prog.cellsOf 3) (List.drop 1 [v0,v1]))=some y1:=hf 1 _ rfl
 rw [cells_int] at f0 f1
 obtain ⟨k,rfl,w0⟩:=open_num (u:=v0) (x:=y0) f0
 obtain ⟨q,rfl,w1⟩:=open_num (u:=v1) (x:=y1) f1
 exact ⟨(k,q),rfl,wf_n64 w0,wf_n64 w1⟩
theorem open_loop {fuel:Nat} {cs:List Value} {x:DataW H×List MemPlace} (h:DataW.trod enc Tryz.prog W base sp held fuel 55 cs=some x):∃ p:Lp,cs=rL.en p∧True:=by
 obtain ⟨xs,n,_,_,hl,hx,hf⟩:=DataW.trod_struct Tryz.underlying55 h
 rw [cells_loop] at hl
 have hx2:xs.length=4:=hx
 obtain ⟨v0,v1,v2,v3,rfl⟩:=four_ofA cs hl
 obtain ⟨y0,y1,y2,y3,rfl⟩:=four_ofA xs hx2
 have f0:DataW.trod enc Tryz.prog W base sp held n 3 (List.take (Tryz.prog.cellsOf 3) (List.drop 0 [v0,v1,v2,v3]))=some y0:=hf 0 _ rfl
 have f1:DataW.trod enc Tryz.prog W base sp held n 3 (List.take (Tryz.prog.cellsOf 3) (List.drop 1 [v0,v1,v2,v3]))=some y1:=hf 1 _ rfl
 have f2:DataW.trod enc Tryz.prog W base sp held n 3 (List.take (Tryz.prog.cellsOf 3) (List.drop 2 [v0,v1,v2,v3]))=some y2:=hf 2 _ rfl
 have f3:DataW.trod enc Tryz.prog W base sp held n 3 (List.take (Tryz.prog.cellsOf 3) (List.drop 3 [v0,v1,v2,v3]))=some y3:=hf 3 _ rfl
 rw [cells_int] at f0 f1 f2 f3
 obtain ⟨k0,rfl,w0⟩:=open_num (u:=v0) (x:=y0) f0
 obtain ⟨k1,rfl,w1⟩:=open_num (u:=v1) (x:=y1) f1
 obtain ⟨k2,rfl,w2⟩:=open_num (u:=v2) (x:=y2) f2
 obtain ⟨k3,rfl,w3⟩:=open_num (u:=v3) (x:=y3) f3
 exact ⟨⟨k0,k1,k2,k3⟩,rfl,trivial⟩
set_option maxRecDepth 100000 in
theorem open_code {r:Reach} {b0:Nat} {v:Value} {d:DataW H} {p:List MemPlace} (hv:Value.okWide Tryz.prog W r b0 33 v) (h:DataW.Trod enc Tryz.prog W base sp held 33 v d p) :
  ∃ (P1 P2:Int) (v1 u1:Value) (l:List Ins) (m:List Lp),v=CdA P1 P2 v1 u1∧RV rI W v1 l∧(∀ x∈l,n64 x.1∧n64 x.2)∧l.length≤maxLen∧RV rL W u1 m∧m.length≤maxLen:=by
 obtain ⟨v0,v1,v2,v3,y0,y1,y2,y3,n,rfl,_,_,h0,h1,h2,h3⟩:=Go.Joins.open_agg4 Tryz.underlying33 (by kernel_rfl) (by kernel_rfl) hv h
 obtain ⟨k,rfl,w0⟩:=open_num (u:=v0) (x:=y0) h0
 obtain ⟨q,rfl,w1⟩:=open_num (u:=v1) (x:=y1) h1
 obtain ⟨l,hl,hx,hn⟩:=open_rows (R:=rI) (0,0) cells_instr (fun _ _ _=>open_instr) (v:=v2) (x:=y2) h2
 obtain ⟨m,hm,-,hn2⟩:=open_rows (R:=rL) ⟨0,0,0,0⟩ cells_loop (fun _ _ _=>open_loop) (v:=v3) (x:=y3) h3
 exact ⟨k,q,v2,v3,l,m,rfl,hl,hx,hn,hm,hn2⟩
end
end Go.Proofs.YtheanmadognhbaaGreatDoor
