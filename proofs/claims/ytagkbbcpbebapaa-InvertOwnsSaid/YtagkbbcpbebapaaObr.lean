import Derived.Test.YtagkbbcpbebapaaOar
import Derived.Deep.Cut
import Derived.Test.YtagkbbcpbebapaaK14r
import Derived.Test.YtagkbbcpbebapaaIcr
namespace Go.Proofs.Ytagkbbcpbebapaa
open Go.RowKit Go.Maps
set_option linter.unusedSimpArgs false
set_option linter.unusedVariables false
structure Zr (base:Nat) (w w':World):Prop where
 os:w'.os=w.os
 tape:w'.tape=w.tape
 output:w'.output=w.output
 size:w.heap.size≤w'.heap.size
 heap:∀ k,k < base→k < w.heap.size→w'.heap[k]?=w.heap[k]?
 rest:∀ (g:Nat) (cur:Array Value) (t:TypeId) (fr:Nat×Nat),w.heap[g]?=some (.cells cur t fr)→t≠74→t≠61→w'.heap[g]?=some (.cells cur t fr)
 ex:∀ g cur,w.heap[g]?=some (.cells cur 74 (0,0))→(∃ cur',w'.heap[g]?=some (.cells cur' 74 (0,0)))∧∀ i,(∀ j,j < 5→w'.cell? ⟨g,i*5+j,none⟩=w.cell? ⟨g,i*5+j,none⟩)∨(∀ j,j < 5→w'.cell? ⟨g,i*5+j,none⟩=zE0[j]?)
 st:∀ g cur,w.heap[g]?=some (.cells cur 61 (0,0))→(∃ cur',w'.heap[g]?=some (.cells cur' 61 (0,0)))∧∀ i,(∀ j,j < 7→w'.cell? ⟨g,i*7+j,none⟩=w.cell? ⟨g,i*7+j,none⟩)∨(∀ j,j < 7→w'.cell? ⟨g,i*7+j,none⟩=zS0[j]?)
theorem Zr.refl (base:Nat) (w:World):Zr base w w:=⟨rfl,rfl,rfl,Nat.le_refl _,fun _ _ _=>rfl,fun _ _ _ _ h _ _=>h,fun g cur h=>⟨⟨cur,h⟩,fun i=>.inl fun _ _=>rfl⟩,fun g cur h=>⟨⟨cur,h⟩,fun i=>.inl fun _ _=>rfl⟩⟩
theorem Zr.trans {base:Nat} {a b c:World} (h:Zr base a b) (k:Zr base b c):Zr base a c:=by
 refine ⟨k.os.trans h.os,k.tape.trans h.tape,k.output.trans h.output,Nat.le_trans h.size k.size,fun i hi hl=>(k.heap i hi (Nat.lt_of_lt_of_le hl h.size)).trans (h.heap i hi hl),fun g cur t fr hg h1 h2=>k.rest g cur t fr (h.rest g cur t fr hg h1 h2) h1 h2,fun g cur hg=>?_,fun g cur hg=>?_⟩
 ·obtain ⟨⟨cur1,h1⟩,h2⟩:=h.ex g cur hg
  obtain ⟨h3,h4⟩:=k.ex g cur1 h1
  refine ⟨h3,fun i=>?_⟩
  rcases h4 i with h4 | h4
  ·rcases h2 i with h2 | h2
   ·exact .inl fun j hj=>(h4 j hj).trans (h2 j hj)
   ·exact .inr fun j hj=>(h4 j hj).trans (h2 j hj)
  ·exact .inr h4
 ·obtain ⟨⟨cur1,h1⟩,h2⟩:=h.st g cur hg
  obtain ⟨h3,h4⟩:=k.st g cur1 h1
  refine ⟨h3,fun i=>?_⟩
  rcases h4 i with h4 | h4
  ·rcases h2 i with h2 | h2
   ·exact .inl fun j hj=>(h4 j hj).trans (h2 j hj)
   ·exact .inr fun j hj=>(h4 j hj).trans (h2 j hj)
  ·exact .inr h4
theorem Zr.only {w0 w w':World} (ho:Only [] w0 w) (h:Zr w0.heap.size w w'):Only [] w0 w':=
 ⟨h.os.trans ho.os,h.tape.trans ho.tape,h.output.trans ho.output,Nat.le_trans ho.size h.size,fun k hk _=>(h.heap k hk (Nat.lt_of_lt_of_le hk ho.size)).trans (ho.block k hk (by simp))⟩
mutual
theorem ZE.still {base:Nat} {w w':World} (h:Zr base w w') {B:Nat→Prop}:∀ (x:E) (cs:List Value),ZE w B x cs→ZE w' B x cs
 | .mk k n nm xs p,cs,hx=>by
  unfold ZE at hx⊢
  obtain ⟨k',n',p',s,a,l,c,e,hx⟩:=hx
  refine ⟨k',n',p',s,a,l,c,e,hx.imp id ?_⟩
  rintro ⟨e1,g,cur,e2,e3,e4,e5⟩
  obtain ⟨⟨cur',h1⟩,-⟩:=h.ex g cur e4
  exact ⟨e1,g,cur',e2,e3,h1,ZEsAt.still h g cur e4 xs 0 e5⟩
theorem ZEsAt.still {base:Nat} {w w':World} (h:Zr base w w') {B:Nat→Prop} (g:Nat) (cur:Array Value) (hg:w.heap[g]?=some (.cells cur 74 (0,0))):∀ (xs:List E) (i:Nat),ZEsAt w B g i xs→ZEsAt w' B g i xs
 | [],_,_=>by unfold ZEsAt;trivial
 | x :: xs,i,hx=>by
  unfold ZEsAt at hx⊢
  obtain ⟨⟨cs,h1,h2⟩,h3⟩:=hx
  refine ⟨?_,ZEsAt.still h g cur hg xs (i+1) h3⟩
  rcases (h.ex g cur hg).2 i with h4 | h4
  ·exact ⟨cs,ZE.still h x cs h1,fun j hj=>(h4 j hj).trans (h2 j hj)⟩
  ·exact ⟨zE0,ZE.zero w' B x,h4⟩
end
theorem ZEsV.still {base:Nat} {w w':World} (h:Zr base w w') {B:Nat→Prop} {v:Value} {xs:List E} (hx:ZEsV w B v xs):ZEsV w' B v xs:=by
 obtain ⟨a,l,c,e,hx⟩:=hx
 refine ⟨a,l,c,e,hx.imp id ?_⟩
 rintro ⟨e1,g,cur,e2,e3,e4,e5⟩
 obtain ⟨⟨cur',h1⟩,-⟩:=h.ex g cur e4
 exact ⟨e1,g,cur',e2,e3,h1,ZEsAt.still h g cur e4 xs 0 e5⟩
mutual
theorem ZS.still {base:Nat} {w w':World} (h:Zr base w w') {B:Nat→Prop}:∀ (x:St) (cs:List Value),ZS w B x cs→ZS w' B x cs
 | .mk k nm xs n bd els p,cs,hx=>by
  unfold ZS at hx⊢
  obtain ⟨k',n',p',s,v,a1,a2,l1,l2,c1,c2,e,h0,h1,h2⟩:=hx
  refine ⟨k',n',p',s,v,a1,a2,l1,l2,c1,c2,e,ZEsV.still h h0,h1.imp id ?_,h2.imp id ?_⟩
  ·rintro ⟨e1,g,cur,e2,e3,e4,e5⟩
   obtain ⟨⟨cur',h1⟩,-⟩:=h.st g cur e4
   exact ⟨e1,g,cur',e2,e3,h1,ZSsAt.still h g cur e4 bd 0 e5⟩
  ·rintro ⟨e1,g,cur,e2,e3,e4,e5⟩
   obtain ⟨⟨cur',h1⟩,-⟩:=h.st g cur e4
   exact ⟨e1,g,cur',e2,e3,h1,ZSsAt.still h g cur e4 els 0 e5⟩
theorem ZSsAt.still {base:Nat} {w w':World} (h:Zr base w w') {B:Nat→Prop} (g:Nat) (cur:Array Value) (hg:w.heap[g]?=some (.cells cur 61 (0,0))):∀ (xs:List St) (i:Nat),ZSsAt w B g i xs→ZSsAt w' B g i xs
 | [],_,_=>by unfold ZSsAt;trivial
 | x :: xs,i,hx=>by
  unfold ZSsAt at hx⊢
  obtain ⟨⟨cs,h1,h2⟩,h3⟩:=hx
  refine ⟨?_,ZSsAt.still h g cur hg xs (i+1) h3⟩
  rcases (h.st g cur hg).2 i with h4 | h4
  ·exact ⟨cs,ZS.still h x cs h1,fun j hj=>(h4 j hj).trans (h2 j hj)⟩
  ·exact ⟨zS0,ZS.zero w' B x,h4⟩
end
theorem ZSsV.still {base:Nat} {w w':World} (h:Zr base w w') {B:Nat→Prop} {v:Value} {xs:List St} (hx:ZSsV w B v xs):ZSsV w' B v xs:=by
 obtain ⟨a,l,c,e,hx⟩:=hx
 refine ⟨a,l,c,e,hx.imp id ?_⟩
 rintro ⟨e1,g,cur,e2,e3,e4,e5⟩
 obtain ⟨⟨cur',h1⟩,-⟩:=h.st g cur e4
 exact ⟨e1,g,cur',e2,e3,h1,ZSsAt.still h g cur e4 xs 0 e5⟩
theorem ZEsAt.get {w:World} {B:Nat→Prop} {g:Nat}:∀ (xs:List E) (i j:Nat) (x:E),ZEsAt w B g i xs→xs[j]?=some x→∃ cs,ZE w B x cs∧∀ k,k < 5→w.cell? ⟨g,(i+j)*5+k,none⟩=cs[k]?
 | [],_,j,_,_,h=>by simp at h
 | y :: ys,i,0,x,h,hx=>by
  unfold ZEsAt at h
  simp at hx
  subst hx
  exact h.1
 | y :: ys,i,j+1,x,h,hx=>by
  unfold ZEsAt at h
  have:=ZEsAt.get ys (i+1) j x h.2 (by simpa using hx)
  rw [show i+1+j=i+(j+1) by omega] at this
  exact this
theorem ZSsAt.get {w:World} {B:Nat→Prop} {g:Nat}:∀ (xs:List St) (i j:Nat) (x:St),ZSsAt w B g i xs→xs[j]?=some x→∃ cs,ZS w B x cs∧∀ k,k < 7→w.cell? ⟨g,(i+j)*7+k,none⟩=cs[k]?
 | [],_,j,_,_,h=>by simp at h
 | y :: ys,i,0,x,h,hx=>by
  unfold ZSsAt at h
  simp at hx
  subst hx
  exact h.1
 | y :: ys,i,j+1,x,h,hx=>by
  unfold ZSsAt at h
  have:=ZSsAt.get ys (i+1) j x h.2 (by simpa using hx)
  rw [show i+1+j=i+(j+1) by omega] at this
  exact this
def put5 (w:World) (g i:Nat) (v0 v1 v2 v3 v4:Value):World:=
 ((((w.setCell ⟨g,i*5,none⟩ v0).setCell ⟨g,i*5+1,none⟩ v1).setCell ⟨g,i*5+2,none⟩ v2).setCell ⟨g,i*5+3,none⟩ v3).setCell ⟨g,i*5+4,none⟩ v4
theorem put5_row {w:World} {g i:Nat} {cur:Array Value} {t:TypeId} (h:w.heap[g]?=some (.cells cur t (0,0))) (hi:i*5+5≤cur.size) (v0 v1 v2 v3 v4:Value) :
  ∃ cur',(put5 w g i v0 v1 v2 v3 v4).heap[g]?=some (.cells cur' t (0,0))∧(∀ c,(c < i*5∨i*5+5≤c)→(put5 w g i v0 v1 v2 v3 v4).cell? ⟨g,c,none⟩=w.cell? ⟨g,c,none⟩)∧
   (∀ k,k < 5→(put5 w g i v0 v1 v2 v3 v4).cell? ⟨g,i*5+k,none⟩=[v0,v1,v2,v3,v4][k]?)∧Only [g] w (put5 w g i v0 v1 v2 v3 v4):=by
 have h7:=heap_cell (i:=i*5+4) v4 (heap_cell (i:=i*5+3) v3 (heap_cell (i:=i*5+2) v2 (heap_cell (i:=i*5+1) v1 (heap_cell (i:=i*5) v0 h))))
 refine ⟨_,h7,fun c hc=>?_,fun k hk=>?_,?_⟩
 ·unfold put5
  rw [cell_at _ h7,cell_at _ h]
  simp only [Array.getElem?_setIfInBounds]
  repeat rw [if_neg (by omega)]
 ·unfold put5
  rw [cell_at _ h7]
  simp only [Array.getElem?_setIfInBounds,Array.size_setIfInBounds]
  match k,hk with
  | 0,_=>(repeat (first | rw [if_pos (by omega)] | rw [if_neg (by omega)]));rfl
  | 1,_=>(repeat (first | rw [if_pos (by omega)] | rw [if_neg (by omega)]));rfl
  | 2,_=>(repeat (first | rw [if_pos (by omega)] | rw [if_neg (by omega)]));rfl
  | 3,_=>(repeat (first | rw [if_pos (by omega)] | rw [if_neg (by omega)]));rfl
  | 4,_=>(repeat (first | rw [if_pos (by omega)] | rw [if_neg (by omega)]));rfl
 ·unfold put5
  repeat' (first | with_reducible exact Only.refl _ _ | refine Only.setCell ?_ (.inl (by simp)) _)
theorem size_of_cell {w:World} {g i:Nat} {cur:Array Value} {t:TypeId} {u:Value} (h:w.heap[g]?=some (.cells cur t (0,0))) (hc:w.cell? ⟨g,i,none⟩=some u):i < cur.size:=by
 rw [cell_at _ h] at hc
 exact (Array.getElem?_eq_some_iff.1 hc).1
theorem Zr.zeroE {base:Nat} {w:World} {g i:Nat} {cur:Array Value} {u:Value} (h:w.heap[g]?=some (.cells cur 74 (0,0))) (hb:base≤g) (hc:w.cell? ⟨g,i*5+4,none⟩=some u) :
  Zr base w (put5 w g i (.int .i64 0) (.int .i64 0) (.string ⟨#[]⟩) (.slice none 0 0) (.int .i64 0)):=by
 have hs:=size_of_cell h hc
 obtain ⟨cur',p1,p2,p3,p4⟩:=put5_row (i:=i) h (by omega) (.int .i64 0) (.int .i64 0) (.string ⟨#[]⟩) (.slice none 0 0) (.int .i64 0)
 refine ⟨p4.os,p4.tape,p4.output,p4.size,fun k hk hl=>p4.block k hl (by simp;omega),fun g' cu t fr hg n1 n2=>p4.heap hg (by
  simp only [List.mem_singleton]
  rintro rfl
  rw [h] at hg
  injection hg with hg
  injection hg with _ hg _
  exact n1 hg.symm),fun g' cu hg=>?_,fun g' cu hg=>?_⟩
 ·by_cases e:g'=g
  ·subst e
   refine ⟨⟨cur',p1⟩,fun i'=>?_⟩
   by_cases e2:i'=i
   ·subst e2
    exact .inr p3
   ·exact .inl fun j hj=>p2 _ (by omega)
  ·refine ⟨⟨cu,p4.heap hg (by simpa using e)⟩,fun i'=>.inl fun j _=>World.cell?_of_block (a:=⟨g',i'*5+j,none⟩) (p4.block g' (lt_of_heap hg) (by simpa using e))⟩
 ·have e:g'≠g:=fun e=>by
   subst e
   rw [h] at hg
   injection hg with hg
   injection hg with _ hg _
   exact absurd hg (by decide)
  exact ⟨⟨cu,p4.heap hg (by simpa using e)⟩,fun i'=>.inl fun j _=>World.cell?_of_block (a:=⟨g',i'*7+j,none⟩) (p4.block g' (lt_of_heap hg) (by simpa using e))⟩
theorem Zr.zeroS {base:Nat} {w:World} {g i:Nat} {cur:Array Value} {u:Value} (h:w.heap[g]?=some (.cells cur 61 (0,0))) (hb:base≤g) (hc:w.cell? ⟨g,i*7+6,none⟩=some u) :
  Zr base w (put7 w g i (.int .i64 0) (.string ⟨#[]⟩) (.slice none 0 0) (.int .i64 0) (.slice none 0 0) (.slice none 0 0) (.int .i64 0)):=by
 have hs:=size_of_cell h hc
 obtain ⟨cur',p1,-,p2,p3,p4⟩:=put7_row (i:=i) h (by omega) (.int .i64 0) (.string ⟨#[]⟩) (.slice none 0 0) (.int .i64 0) (.slice none 0 0) (.slice none 0 0) (.int .i64 0)
 refine ⟨p4.os,p4.tape,p4.output,p4.size,fun k hk hl=>p4.block k hl (by simp;omega),fun g' cu t fr hg n1 n2=>p4.heap hg (by
  simp only [List.mem_singleton]
  rintro rfl
  rw [h] at hg
  injection hg with hg
  injection hg with _ hg _
  exact n2 hg.symm),fun g' cu hg=>?_,fun g' cu hg=>?_⟩
 ·have e:g'≠g:=fun e=>by
   subst e
   rw [h] at hg
   injection hg with hg
   injection hg with _ hg _
   exact absurd hg (by decide)
  exact ⟨⟨cu,p4.heap hg (by simpa using e)⟩,fun i'=>.inl fun j _=>World.cell?_of_block (a:=⟨g',i'*5+j,none⟩) (p4.block g' (lt_of_heap hg) (by simpa using e))⟩
 ·by_cases e:g'=g
  ·subst e
   refine ⟨⟨cur',p1⟩,fun i'=>?_⟩
   by_cases e2:i'=i
   ·subst e2
    exact .inr p3
   ·exact .inl fun j hj=>p2 _ (by omega)
  ·refine ⟨⟨cu,p4.heap hg (by simpa using e)⟩,fun i'=>.inl fun j _=>World.cell?_of_block (a:=⟨g',i'*7+j,none⟩) (p4.block g' (lt_of_heap hg) (by simpa using e))⟩
end Go.Proofs.Ytagkbbcpbebapaa
namespace Go.Proofs.Ytagkbbcpbebapaa
open Go.RowKit Go.Maps
set_option linter.unusedSimpArgs false
set_option linter.unusedVariables false
def ZxP (N:Nat):Prop:=∀ (xs:List E),sizeL xs≤N→∀ (w:World) (base:Nat) (v:Value) (B:Nat→Prop),(∀ b,B b→base≤b)→ZEsV w B v xs→
 Calls Try.prog 33 #[v] w fun en w'=>en=.returned (.tuple #[])∧Zr base w w'
theorem ZEsV.elem {w:World} {B:Nat→Prop} {a:Option Addr} {l c j:Nat} {xs:List E} (h:ZEsV w B (.slice a l c) xs) (hj:j < l) :
  ∃ g cur k nn nm ys p k' n' p' s' a' l' c',a=some ⟨g,0,none⟩∧B g∧w.heap[g]?=some (.cells cur 74 (0,0))∧xs[j]?=some (.mk k nn nm ys p)∧w.cell? ⟨g,j*5,none⟩=some (.int .i64 k')∧w.cell? ⟨g,j*5+1,none⟩=some (.int .i64 n')∧
   w.cell? ⟨g,j*5+2,none⟩=some (.string s')∧w.cell? ⟨g,j*5+3,none⟩=some (.slice a' l' c')∧w.cell? ⟨g,j*5+4,none⟩=some (.int .i64 p')∧ZEsV w B (.slice a' l' c') ys:=by
 obtain ⟨a0,l0,c0,e,hx⟩:=h
 cases e
 rcases hx with rfl | ⟨e1,g,cur,e2,e3,e4,e5⟩
 ·omega
 ·obtain ⟨x,hx⟩:∃ x,xs[j]?=some x:=⟨_,List.getElem?_eq_getElem (by omega)⟩
  obtain ⟨cs,h1,h2⟩:=ZEsAt.get xs 0 j x e5 hx
  obtain ⟨k,nn,nm,ys,p⟩:=x
  unfold ZE at h1
  obtain ⟨k',n',p',s',a',l',c',rfl,h1⟩:=h1
  rw [Nat.zero_add] at h2
  exact ⟨g,cur,k,nn,nm,ys,p,k',n',p',s',a',l',c',e2,e3,e4,hx,by simpa using h2 0 (by omega),h2 1 (by omega),h2 2 (by omega),h2 3 (by omega),h2 4 (by omega),⟨a',l',c',rfl,h1⟩⟩
theorem ZSsV.elem {w:World} {B:Nat→Prop} {a:Option Addr} {l c j:Nat} {xs:List St} (h:ZSsV w B (.slice a l c) xs) (hj:j < l) :
  ∃ g cur k nm ys nn bd els p k' n' p' s' a0 l0 c0 a1 l1 c1 a2 l2 c2,a=some ⟨g,0,none⟩∧B g∧w.heap[g]?=some (.cells cur 61 (0,0))∧xs[j]?=some (.mk k nm ys nn bd els p)∧w.cell? ⟨g,j*7,none⟩=some (.int .i64 k')∧w.cell? ⟨g,j*7+1,none⟩=some (.string s')∧
   w.cell? ⟨g,j*7+2,none⟩=some (.slice a0 l0 c0)∧w.cell? ⟨g,j*7+3,none⟩=some (.int .i64 n')∧w.cell? ⟨g,j*7+4,none⟩=some (.slice a1 l1 c1)∧w.cell? ⟨g,j*7+5,none⟩=some (.slice a2 l2 c2)∧w.cell? ⟨g,j*7+6,none⟩=some (.int .i64 p')∧
   ZEsV w B (.slice a0 l0 c0) ys∧ZSsV w B (.slice a1 l1 c1) bd∧ZSsV w B (.slice a2 l2 c2) els:=by
 obtain ⟨a0,l0,c0,e,hx⟩:=h
 cases e
 rcases hx with rfl | ⟨e1,g,cur,e2,e3,e4,e5⟩
 ·omega
 ·obtain ⟨x,hx⟩:∃ x,xs[j]?=some x:=⟨_,List.getElem?_eq_getElem (by omega)⟩
  obtain ⟨cs,h1,h2⟩:=ZSsAt.get xs 0 j x e5 hx
  obtain ⟨k,nm,ys,nn,bd,els,p⟩:=x
  unfold ZS at h1
  obtain ⟨k',n',p',s',v,a1,a2,l1,l2,c1,c2,rfl,⟨a0,l0,c0,rfl,h0⟩,h1,h3⟩:=h1
  rw [Nat.zero_add] at h2
  exact ⟨g,cur,k,nm,ys,nn,bd,els,p,k',n',p',s',a0,l0,c0,a1,l1,c1,a2,l2,c2,e2,e3,e4,hx,by simpa using h2 0 (by omega),h2 1 (by omega),h2 2 (by omega),h2 3 (by omega),h2 4 (by omega),h2 5 (by omega),h2 6 (by omega),⟨a0,l0,c0,rfl,h0⟩,⟨a1,l1,c1,rfl,h1⟩,⟨a2,l2,c2,rfl,h3⟩⟩
theorem ZEsV.few {w:World} {B:Nat→Prop} {a:Option Addr} {l c:Nat} {xs:List E} (h:ZEsV w B (.slice a l c) xs):l≤xs.length:=by
 obtain ⟨a0,l0,c0,e,hx⟩:=h
 cases e
 rcases hx with rfl | ⟨e1,-⟩<;>omega
theorem ZSsV.few {w:World} {B:Nat→Prop} {a:Option Addr} {l c:Nat} {xs:List St} (h:ZSsV w B (.slice a l c) xs):l≤xs.length:=by
 obtain ⟨a0,l0,c0,e,hx⟩:=h
 cases e
 rcases hx with rfl | ⟨e1,-⟩<;>omega
set_option maxRecDepth 100000 in
set_option maxHeartbeats 8000000 in
theorem zx_step (N:Nat) (hNN:N≤1000000) (IS:∀ M,M < N→ZxP M):ZxP N:=by
 intro xs hN w base v B hB hv
 obtain ⟨a,n,cap,rfl,-⟩:=id hv
 have hlen:=sizeL_len xs
 have hfw:=hv.few
 have HV:=Hd hv
 have hnb:n≤1000000:=by omega
 clear hv
 go_enter Try.func33,Try.ntmps33
 go_wp2_with fail
 go_loopw [5] (fun ix wr=>∃ j:Nat,j≤n∧ix=.int .i64 (j:Int)∧Hid (Zr base w wr)) (fun ix _=>n - (intOf ix).toNat)
 case atStart=>exact ⟨0,Nat.zero_le _,rfl,Hd (Zr.refl _ _)⟩
 case round=>
  obtain ⟨j,hjn,rfl,HZ⟩:=hrel
  by_cases hlt:j < n
  ·have hlt':(j:Int) < (n:Int):=by omega
   have j0:(0:Int)≤(j:Int):=by omega
   have hvr:=HV.out.still HZ.out
   obtain ⟨g,cur,k,nn,nm,ys,p,k',n',p',s',a',l',c',rfl,hg,hh,he,x0,x1,x2,x3,x4,hy⟩:=hvr.elem hlt
   have hT1:=sizeL_mem he
   rw [sizeE_mk] at hT1
   have K1:=IS _ (show sizeL ys < N by omega) ys (Nat.le_refl _) wr base _ B hB hy
   have HVR:=Hd hvr
   clear he hy hT1 hlen hN hfw hh hvr
   go_wp2_with fail
   refine K1.mono ?_
   rintro en w5 ⟨rfl,hz5⟩
   obtain ⟨g',cur5,k2,nn2,nm2,ys2,p2,k3,n3,p3,s3,a3,l3,c3,hge,hg5,hh5,-,z0,z1,z2,z3,z4,-⟩:=(HVR.out.still hz5).elem hlt
   cases hge
   have HZ5:=Hd ((HZ.out.trans hz5).trans (Zr.zeroE (i:=j) hh5 (hB g hg) z4))
   have f5:=fun c=>free_at c hh5
   clear K1 x0 x1 x2 x3 x4 hz5 hh5 HZ HVR
   go_wp2_with fail
   refine ⟨⟨j+1,by omega,rfl,HZ5⟩,?_⟩
   simp [intOf]
   omega
  ·obtain rfl:j=n:=by omega
   go_wp2_with fail
   go_end0
   exact ⟨rfl,HZ.out⟩
theorem zx_all (N:Nat) (hN:N≤1000000):ZxP N:=by
 induction N using Nat.strongRecOn with
 | _ N ih=>exact zx_step N hN (fun M hM=>ih M hM (by omega))
def ZsP (N:Nat):Prop:=∀ (xs:List St),sizeSs xs≤N→∀ (w:World) (base:Nat) (v:Value) (B:Nat→Prop),(∀ b,B b→base≤b)→ZSsV w B v xs→
 Calls Try.prog 18 #[v] w fun en w'=>en=.returned (.tuple #[])∧Zr base w w'
set_option maxRecDepth 100000 in
set_option maxHeartbeats 8000000 in
theorem zs_step (N:Nat) (hNN:N≤1000000) (IS:∀ M,M < N→ZsP M):ZsP N:=by
 intro xs hN w base v B hB hv
 obtain ⟨a,n,cap,rfl,-⟩:=id hv
 have hlen:=sizeSs_len xs
 have hfw:=hv.few
 have HV:=Hd hv
 have hnb:n≤1000000:=by omega
 clear hv
 go_enter Try.func18,Try.ntmps18
 go_wp2_with fail
 go_loopw [5] (fun ix wr=>∃ j:Nat,j≤n∧ix=.int .i64 (j:Int)∧Hid (Zr base w wr)) (fun ix _=>n - (intOf ix).toNat)
 case atStart=>exact ⟨0,Nat.zero_le _,rfl,Hd (Zr.refl _ _)⟩
 case round=>
  obtain ⟨j,hjn,rfl,HZ⟩:=hrel
  by_cases hlt:j < n
  ·have hlt':(j:Int) < (n:Int):=by omega
   have j0:(0:Int)≤(j:Int):=by omega
   obtain ⟨g,cur,k,nm,ys,nn,bd,els,p,k',n',p',s',a0,l0,c0,a1,l1,c1,a2,l2,c2,rfl,hg,hh,he,x0,x1,x2,x3,x4,x5,x6,hy0,hy1,hy2⟩:=(HV.out.still HZ.out).elem hlt
   have hT1:=sizeSs_mem he
   rw [sizeS_mk] at hT1
   have HI1:=Hd (fun W v hv=>IS _ (show sizeSs bd < N by omega) bd (Nat.le_refl _) W base v B hB hv)
   have HI2:=Hd (fun W v hv=>IS _ (show sizeSs els < N by omega) els (Nat.le_refl _) W base v B hB hv)
   have K1:=zx_all 1000000 (Nat.le_refl _) ys (by omega) wr base _ B hB hy0
   have HE:=Hd he
   have HZw0:=HZ
   clear he hy0 hy1 hy2 hT1 hlen hN hfw hh
   go_wp2_with fail
   refine K1.mono ?_
   rintro en w1 ⟨rfl,hz5⟩
   have HZw1:=Hd (HZw0.out.trans hz5)
   obtain ⟨g',cur5,k2,nm2,ys2,nn2,bd2,els2,p2,k3,n3,p3,s3,b0,m0,d0,b1,m1,d1,b2,m2,d2,hge,hg5,hh5,he5,z0,z1,z2,z3,z4,z5,z6,hy0,hy1,hy2⟩:=(HV.out.still HZw1.out).elem hlt
   cases hge
   rw [HE.out] at he5
   cases he5
   clear hz5
   have K1:=HI1.out w1 _ hy1
   clear x0 x1 x2 x3 x4 x5 x6 hh5 hy0 hy1 hy2
   go_wp2_with fail
   refine K1.mono ?_
   clear z0 z1 z2 z3 z4 z5 z6 hg5
   rintro en w2 ⟨rfl,hz5⟩
   have HZw2:=Hd (HZw1.out.trans hz5)
   obtain ⟨g',cur5,k2,nm2,ys2,nn2,bd2,els2,p2,k3,n3,p3,s3,b0,m0,d0,b1,m1,d1,b2,m2,d2,hge,hg5,hh5,he5,z0,z1,z2,z3,z4,z5,z6,hy0,hy1,hy2⟩:=(HV.out.still HZw2.out).elem hlt
   cases hge
   rw [HE.out] at he5
   cases he5
   clear hz5
   have K1:=HI2.out w2 _ hy2
   clear hh5 hy0 hy1 hy2
   go_wp2_with fail
   refine K1.mono ?_
   clear z0 z1 z2 z3 z4 z5 z6 hg5
   rintro en w3 ⟨rfl,hz5⟩
   have HZw3:=Hd (HZw2.out.trans hz5)
   obtain ⟨g',cur5,k2,nm2,ys2,nn2,bd2,els2,p2,k3,n3,p3,s3,b0,m0,d0,b1,m1,d1,b2,m2,d2,hge,hg5,hh5,he5,z0,z1,z2,z3,z4,z5,z6,hy0,hy1,hy2⟩:=(HV.out.still HZw3.out).elem hlt
   cases hge
   rw [HE.out] at he5
   cases he5
   clear hz5
   have HZ5:=Hd (HZw3.out.trans (Zr.zeroS (i:=j) hh5 (hB g hg) z6))
   have f5:=fun c=>free_at c hh5
   clear hh5 hy0 hy1 hy2
   go_wp2_with fail
   refine ⟨⟨j+1,by omega,rfl,HZ5⟩,?_⟩
   simp [intOf]
   omega
  ·obtain rfl:j=n:=by omega
   go_wp2_with fail
   go_end0
   exact ⟨rfl,HZ.out⟩
theorem zs_all (N:Nat) (hN:N≤1000000):ZsP N:=by
 induction N using Nat.strongRecOn with
 | _ N ih=>exact zs_step N hN (fun M hM=>ih M hM (by omega))
end Go.Proofs.Ytagkbbcpbebapaa
namespace Go.Proofs.Ytagkbbcpbebapaa
open Go.RowKit Go.Maps
set_option linter.unusedSimpArgs false
set_option linter.unusedVariables false
def NZ (w:World) (B:Nat→Prop) (v:Value):Prop:=
 ∃ (a:Option Addr) (l c:Nat),v=.slice a l c∧(l=0∨∃ g cur,a=some ⟨g,0,none⟩∧B g∧w.heap[g]?=some (.cells cur 9 (0,0))∧l≤cur.size)
theorem NZ.kept {w w':World} {S:List Nat} {B B':Nat→Prop} {v:Value} (ho:Only S w w') (hs:∀ k∈S,¬ B k) (hB:∀ k,B k→B' k) (h:NZ w B v):NZ w' B' v:=by
 obtain ⟨a,l,c,e,h⟩:=h
 refine ⟨a,l,c,e,h.imp id ?_⟩
 rintro ⟨g,cur,e1,e2,e3,e4⟩
 exact ⟨g,cur,e1,hB g e2,ho.heap e3 (fun hk=>hs _ hk e2),e4⟩
theorem ONm.nz {w:World} {base:Nat} {v:Value} {l:List Sec} (h:ONm w base v l):NZ w (fun b=>base≤b) v:=by
 rcases h.2 with ⟨rfl,hn⟩ | ⟨g,cap,cur,rfl,hb,hg,hc,_,hz,_⟩
 ·exact ⟨none,0,0,rfl,.inl rfl⟩
 ·exact ⟨_,_,cap,rfl,.inr ⟨g,cur,rfl,hb,hg,by omega⟩⟩
def ToPost (w:World) (d:Df) (e:Ending) (w':World):Prop:=
 ∃ (s:ByteArray) (a1 a2 a3 a4:Option Addr) (l1 l2 l3 l4 c1 c2 c3 c4:Nat),e=.returned (.tuple #[.agg #[.string s,.slice a1 l1 c1,.slice a2 l2 c2,.slice a3 l3 c3,.slice a4 l4 c4],if okT d=true then .nilIface else err 13])∧
  (okT d=true→l1=d.params.length∧NZ w' (fun b=>w.heap.size≤b) (.slice a1 l1 c1)∧ZSsV w' (fun b=>w.heap.size≤b) (.slice a3 l3 c3) (tuB d.body))∧Only [] w w'
set_option maxRecDepth 100000 in
set_option maxHeartbeats 8000000 in
theorem oturn_any {w:World} {B:Nat→Prop} {d:Df} {cs:List Value} (hd:DV w B d cs) (hw:Whole d) (hp:pB d.body):Calls Try.prog 11 #[.agg cs.toArray] w (ToPost w d):=by
 obtain ⟨v1,v2,v3,v4,rfl,hv1,hv2,hv3,hv4⟩:=id hd
 obtain ⟨a1,c1,rfl,-⟩:=id hv1
 obtain ⟨a2,c2,rfl,-⟩:=id hv2
 obtain ⟨a3,c3,rfl,-⟩:=id hv3
 obtain ⟨a4,c4,rfl,-⟩:=id hv4
 obtain ⟨sn,hsn⟩:∃ sn,sn=strOf d.name:=⟨_,rfl⟩
 obtain ⟨L1,hL1⟩:∃ L,L=d.params.length:=⟨_,rfl⟩
 obtain ⟨L2,hL2⟩:∃ L,L=d.needs.length:=⟨_,rfl⟩
 obtain ⟨L3,hL3⟩:∃ L,L=d.body.length:=⟨_,rfl⟩
 obtain ⟨L4,hL4⟩:∃ L,L=d.give.length:=⟨_,rfl⟩
 rw [← hsn,← hL1,← hL2,← hL3,← hL4] at hd⊢
 rw [← hL1] at hv1
 rw [← hL3] at hv3
 have HD:=Hd hd
 have HV1:=Hd hv1
 have HV3:=Hd hv3
 have HWH:=Hd hw
 have HP:=Hd hp
 have HS:=Hd hsn
 have HL1:=Hd hL1
 have HL3:=Hd hL3
 clear hd hv1 hv2 hv3 hv4 hw hp hsn hL1 hL2 hL3 hL4
 go_enter Try.func11,Try.ntmps11
 go_upto_region 1 with (fail)
 obtain ⟨w2,hw2⟩:∃ w2,w2=(w.alloc (.cells #[.string sn,.slice a1 L1 c1,.slice a2 L2 c2,.slice a3 L3 c3,.slice a4 L4 c4] 27)).alloc (.cells #[.string ⟨#[]⟩,.slice none 0 0,.slice none 0 0,.slice none 0 0,.slice none 0 0] 27):=⟨_,rfl⟩
 have s1:(w.alloc (.cells #[.string sn,.slice a1 L1 c1,.slice a2 L2 c2,.slice a3 L3 c3,.slice a4 L4 c4] 27)).heap.size=w.heap.size+1:=Array.size_push _
 have hA:w2.heap[w.heap.size]?=some (.cells #[.string sn,.slice a1 L1 c1,.slice a2 L2 c2,.slice a3 L3 c3,.slice a4 L4 c4] 27 (0,0)):=by rw [hw2];exact heap_old _ (heap_new w _)
 have hZ:w2.heap[w.heap.size+1]?=some (.cells #[.string ⟨#[]⟩,.slice none 0 0,.slice none 0 0,.slice none 0 0,.slice none 0 0] 27 (0,0)):=by
  have:=heap_new (w.alloc (.cells #[.string sn,.slice a1 L1 c1,.slice a2 L2 c2,.slice a3 L3 c3,.slice a4 L4 c4] 27)) (.cells #[.string ⟨#[]⟩,.slice none 0 0,.slice none 0 0,.slice none 0 0,.slice none 0 0] 27)
  rw [s1] at this
  rw [hw2]
  exact this
 have o2:Only [] w w2:=by rw [hw2];exact ((Only.refl [] w).alloc _).alloc _
 rw [← hw2]
 clear s1 hw2
 obtain ⟨ga,hga⟩:∃ g,g=w.heap.size:=⟨_,rfl⟩
 obtain ⟨gz,hgz⟩:∃ g,g=w.heap.size+1:=⟨_,rfl⟩
 rw [← hgz] at hZ⊢
 rw [← hga] at hA⊢
 have HA:=Hd hA
 have HZ:=Hd hZ
 have HO:=Hd o2
 have HG:=Hd (And.intro hga hgz)
 replace HD:=Hd (HD.out.kept o2 (by simp) (fun _ h=>h))
 replace HV1:=Hd (HV1.out.kept o2 (by simp) (fun _ h=>h))
 replace HV3:=Hd (HV3.out.quiet o2)
 have K1:=check_any HD.out HWH.out HP.out
 have y0:w2.cell? ⟨ga,0,none⟩=some (.string sn):=cell_at 0 hA
 have y1:w2.cell? ⟨ga,1,none⟩=some (.slice a1 L1 c1):=cell_at 1 hA
 have y2:w2.cell? ⟨ga,2,none⟩=some (.slice a2 L2 c2):=cell_at 2 hA
 have y3:w2.cell? ⟨ga,3,none⟩=some (.slice a3 L3 c3):=cell_at 3 hA
 have y4:w2.cell? ⟨ga,4,none⟩=some (.slice a4 L4 c4):=cell_at 4 hA
 clear hA hZ o2 hga hgz
 go_wp2_with fail
 refine K1.mono ?_
 rintro e w3 ⟨ev,rfl,hfz,o3⟩
 replace HO:=Hd (HO.out.trans o3 (by simp))
 replace HA:=Hd (o3.heap HA.out (by simp))
 replace HZ:=Hd (o3.heap HZ.out (by simp))
 replace HV1:=Hd (HV1.out.kept o3 (by simp) (fun _ h=>h))
 replace HV3:=Hd (HV3.out.quiet o3)
 have HFZ:=Hd hfz
 obtain ⟨i0,ci0,pi0,hi0⟩:∃ i c p,chkD d=(i,c,p):=⟨_,_,_,rfl⟩
 have hok:okT d=(ci0 == 0 && i0.turns):=by unfold okT;rw [hi0]
 rw [hi0]
 obtain ⟨im,ist,inn,itu⟩:=i0
 unfold infoV
 dsimp only at hok⊢
 have hci:(opS CS.new d).flt=none→ci0=0:=fun h=>by
  unfold chkD at hi0
  rw [h] at hi0
  injection hi0 with _ h2
  injection h2 with h3 _
  exact h3.symm
 have HCI:=Hd hci
 have HOK:=Hd hok
 obtain ⟨st',hst⟩:∃ x:Int,x=ist:=⟨_,rfl⟩
 obtain ⟨nm',hnm⟩:∃ x:Int,x=inn:=⟨_,rfl⟩
 rw [← hst,← hnm]
 clear K1 o3 hfz hi0 hst hnm y0 y1 y2 y3 y4 hok hci HD
 go_upto_region 2 with (fail)
 have o4:=(Only.refl [] w3).alloc (.cells #[.int .i64 im,.int .i64 st',.int .i64 nm',.bool itu] 51)
 have h4:=heap_new w3 (.cells #[.int .i64 im,.int .i64 st',.int .i64 nm',.bool itu] 51)
 obtain ⟨gi,hgi⟩:∃ g,g=w3.heap.size:=⟨_,rfl⟩
 rw [← hgi] at h4⊢
 generalize w3.alloc (.cells #[.int .i64 im,.int .i64 st',.int .i64 nm',.bool itu] 51)=w4 at o4 h4⊢
 replace HO:=Hd (HO.out.trans o4 (by simp))
 replace HA:=Hd (o4.heap HA.out (by simp))
 replace HZ:=Hd (o4.heap HZ.out (by simp))
 replace HV1:=Hd (HV1.out.kept o4 (by simp) (fun _ h=>h))
 replace HV3:=Hd (HV3.out.quiet o4)
 replace HFZ:=Hd (HFZ.out.quiet o4)
 have x3:w4.cell? ⟨gi,3,none⟩=some (.bool itu):=cell_at 3 h4
 clear o4 h4 hgi
 have z0:w4.cell? ⟨gz,0,none⟩=some (.string ⟨#[]⟩):=cell_at 0 HZ.out
 have z1:w4.cell? ⟨gz,1,none⟩=some (.slice none 0 0):=cell_at 1 HZ.out
 have z2:w4.cell? ⟨gz,2,none⟩=some (.slice none 0 0):=cell_at 2 HZ.out
 have z3:w4.cell? ⟨gz,3,none⟩=some (.slice none 0 0):=cell_at 3 HZ.out
 have z4:w4.cell? ⟨gz,4,none⟩=some (.slice none 0 0):=cell_at 4 HZ.out
 have fz0:=free_at 0 HZ.out
 have fz1:=free_at 1 HZ.out
 have fz2:=free_at 2 HZ.out
 have fz3:=free_at 3 HZ.out
 have fz4:=free_at 4 HZ.out
 cases hflt:(opS CS.new d).flt with
 | some x=>
  obtain ⟨cc,pp⟩:=x
  have hfz:=HFZ.out
  rw [hflt] at hfz
  obtain ⟨fg,rfl,-⟩:=hfz
  have HNO:=Hd (okT_some hflt)
  have q1:=neq_fltT fg
  clear hflt HCI HOK
  go_wp2_with fail
  (try simp only [Exit.inBlock,Exit.then])
  refine bodyPost_ret (res_iturn _ _ gz _ _ _ _ _ (err 13) rfl rfl (five_set HZ.out _ _ _ _ _)) rfl ?_
  refine ⟨⟨#[]⟩,none,none,none,none,0,0,0,0,0,0,0,0,by rw [HNO.out];rfl,(fun h=>by rw [HNO.out] at h;cases h),HO.out.trans (show Only [gz] w4 _ from (((((Only.refl _ _).setCell (.inl (by simp)) _).setCell (.inl (by simp)) _).setCell (.inl (by simp)) _).setCell (.inl (by simp)) _).setCell (.inl (by simp)) _) (fun k hk=>.inr (by rw [List.mem_singleton.1 hk,HG.out.2];omega))⟩
 | none=>
  have hfz:=HFZ.out
  rw [hflt] at hfz
  have hfz:ev=.nilIface:=hfz
  subst hfz
  have q1:=neq_nilT
  have hc0:=HCI.out hflt
  cases itu with
  | false=>
   have HNO:Hid (okT d=false):=Hd (by rw [HOK.out];simp)
   clear hflt HCI HOK hc0
   go_wp2_with fail
   (try simp only [Exit.inBlock,Exit.then])
   refine bodyPost_ret (res_iturn _ _ gz _ _ _ _ _ (err 13) rfl rfl (five_set HZ.out _ _ _ _ _)) rfl ?_
   refine ⟨⟨#[]⟩,none,none,none,none,0,0,0,0,0,0,0,0,by rw [HNO.out];rfl,(fun h=>by rw [HNO.out] at h;cases h),HO.out.trans (show Only [gz] w4 _ from (((((Only.refl _ _).setCell (.inl (by simp)) _).setCell (.inl (by simp)) _).setCell (.inl (by simp)) _).setCell (.inl (by simp)) _).setCell (.inl (by simp)) _) (fun k hk=>.inr (by rw [List.mem_singleton.1 hk,HG.out.2];omega))⟩
  | true=>
   have HYES:Hid (okT d=true):=Hd (by rw [HOK.out,hc0];rfl)
   clear hflt HCI HOK hc0
   go_upto_region 4 with (fail)
   have oD:Only [] w4 w4.drew:=(Only.refl [] w4).drew
   have hA5:=oD.heap HA.out (by simp)
   have hZ5:=oD.heap HZ.out (by simp)
   replace HO:=Hd (HO.out.trans oD (by simp))
   replace HV1:=Hd (HV1.out.kept oD (by simp) (fun _ h=>h))
   replace HV3:=Hd (HV3.out.quiet oD)
   clear x3 z0 z1 z2 z3 z4 fz0 fz1 fz2 fz3 fz4 HFZ HA HZ oD
   refine wp_region_held_drew (S:=fun w'=>w'.cell? ⟨ga,0,none⟩=some (.string sn)∧w'.cell? ⟨ga,1,none⟩=some (.slice a1 L1 c1)∧w'.cell? ⟨ga,3,none⟩=some (.slice a3 L3 c3)) (by kernel_rfl) ⟨cell_at 0 hA5,cell_at 1 hA5,cell_at 3 hA5⟩ (fun hH=>?_)
   generalize w4.drew=w5 at HO HV1 HV3 hA5 hZ5 hH⊢
   have HA:=Hd hA5
   have HZ:=Hd hZ5
   have HZL:=Hd (lt_of_heap hZ5)
   clear hA5 hZ5
   refine tk 0 hH ?_
   refine tk 1 hH ?_
   refine tk 2 hH ?_
   refine tk 3 hH ?_
   refine tk 5 hH ?_
   refine tk 6 hH ?_
   have hpl:=HWH.out.plen
   have hbs:=HWH.out.size
   have KN:=cloneN_any (.slice a1 L1 c1) d.params w5 B HV1.out (by omega)
   have KB:=fun W hV=>oblock_all 1000000 (Nat.le_refl _) d.body (by omega) HWH.out.body HP.out W (.slice a3 L3 c3) B hV
   rw [← HL1.out] at KN
   rw [← HL3.out] at KB
   have HKB:=Hd KB
   clear hpl hbs KB
   refine rd 4 (fun K hK=>?_)
   go_simp
   refine KN.mono ?_
   rintro e w6 ⟨a5,c5,rfl,hn5,o6⟩
   have hA6:=o6.heap HA.out (by simp)
   have HZ6:=Hd (o6.heap HZ.out (by simp))
   have HN6:=Hd hn5.nz
   have HS6:=Hd o6.size
   replace HO:=Hd (HO.out.trans o6 (by simp))
   replace HV3:=Hd (HV3.out.quiet o6)
   refine hK.out _ _ ⟨cell_at 0 hA6,cell_at 1 hA6,cell_at 3 hA6⟩ (fun hH=>?_)
   have HA6:=Hd hA6
   clear hK K KN hn5 o6 hA6 HA HZ HV1
   refine rd 7 (fun K hK=>?_)
   go_simp
   refine (HKB.out w6 HV3.out).mono ?_
   rintro e w7 ⟨a6,c6,rfl,-,hs6,o7⟩
   have hA7:=o7.heap HA6.out (by simp)
   have HZ7:=Hd (o7.heap HZ6.out (by simp))
   have HN7:=Hd (HN6.out.kept o7 (by simp) (fun _ h=>h))
   have HB7:=Hd (hs6.kept (B':=fun q=>w5.heap.size≤q) (Only.refl [] w7) (by simp) (fun q hq=>Nat.le_trans HS6.out hq))
   replace HO:=Hd (HO.out.trans o7 (by simp))
   refine hK.out _ _ ⟨cell_at 0 hA7,cell_at 1 hA7,cell_at 3 hA7⟩ (fun hH=>?_)
   have HA7:=Hd hA7
   clear hK K HKB hs6 o7 hA7 HA6 HZ6 HN6 HS6 HV3
   refine tk 8 hH ?_
   have z0:w7.cell? ⟨gz,0,none⟩=some (.string ⟨#[]⟩):=cell_at 0 HZ7.out
   have z1:w7.cell? ⟨gz,1,none⟩=some (.slice none 0 0):=cell_at 1 HZ7.out
   have z2:w7.cell? ⟨gz,2,none⟩=some (.slice none 0 0):=cell_at 2 HZ7.out
   have z3:w7.cell? ⟨gz,3,none⟩=some (.slice none 0 0):=cell_at 3 HZ7.out
   have z4:w7.cell? ⟨gz,4,none⟩=some (.slice none 0 0):=cell_at 4 HZ7.out
   have fz0:=free_at 0 HZ7.out
   have fz1:=free_at 1 HZ7.out
   have fz2:=free_at 2 HZ7.out
   have fz3:=free_at 3 HZ7.out
   have fz4:=free_at 4 HZ7.out
   clear hH
   refine rd 9 (fun K hK=>?_)
   go_simp
   have oz:Only [gz] w7 (((((w7.setCell ⟨gz,0,none⟩ (.string sn)).setCell ⟨gz,1,none⟩ (.slice a5 L1 c5)).setCell ⟨gz,2,none⟩ (.slice none 0 0)).setCell ⟨gz,3,none⟩ (.slice a6 L3 c6)).setCell ⟨gz,4,none⟩ (.slice none 0 0)):=
    (((((Only.refl _ _).setCell (.inl (by simp)) _).setCell (.inl (by simp)) _).setCell (.inl (by simp)) _).setCell (.inl (by simp)) _).setCell (.inl (by simp)) _
   have hz:=five_set HZ7.out (.string sn) (.slice a5 L1 c5) (.slice none 0 0) (.slice a6 L3 c6) (.slice none 0 0)
   have hgne:ga≠gz:=by rw [HG.out.1,HG.out.2];omega
   have hA8:=oz.heap HA7.out (by simpa using hgne)
   generalize ((((w7.setCell ⟨gz,0,none⟩ (.string sn)).setCell ⟨gz,1,none⟩ (.slice a5 L1 c5)).setCell ⟨gz,2,none⟩ (.slice none 0 0)).setCell ⟨gz,3,none⟩ (.slice a6 L3 c6)).setCell ⟨gz,4,none⟩ (.slice none 0 0)=w8 at oz hz hA8⊢
   have HOZ:=Hd oz
   have HZ8:=Hd hz
   refine hK.out _ _ ⟨cell_at 0 hA8,cell_at 1 hA8,cell_at 3 hA8⟩ (fun hH=>?_)
   clear hK K hz hA8 oz z0 z1 z2 z3 z4 fz0 fz1 fz2 fz3 fz4
   refine tk 10 hH ?_
   refine wpAnyH_done (by kernel_rfl) ?_ _
   clear hH
   go_wp2_with fail
   (try simp only [Exit.inBlock,Exit.then])
   refine bodyPost_ret (res_iturn _ _ gz _ _ _ _ _ .nilIface rfl rfl HZ8.out) rfl ?_
   have hnz:∀ q∈[gz],¬ (w5.heap.size≤q):=fun q hq=>by
    rw [List.mem_singleton.1 hq]
    have:=HZL.out
    omega
   have hw5:∀ q,w5.heap.size≤q→w.heap.size≤q:=fun q hq=>by
    have:=HZL.out
    have:=HG.out.2
    omega
   exact ⟨sn,a5,none,a6,none,L1,0,L3,0,c5,0,c6,0,by rw [HYES.out];rfl,fun _=>⟨HL1.out,HN7.out.kept HOZ.out hnz hw5,ZSsV.kept HOZ.out hnz hw5 HB7.out⟩,HO.out.trans HOZ.out (fun k hk=>.inr (by rw [List.mem_singleton.1 hk,HG.out.2];omega))⟩
end Go.Proofs.Ytagkbbcpbebapaa
