import Derived.Test.YtagkbbcpbebapaaZ8r
namespace Go.Proofs.Ytagkbbcpbebapaa
open Go.RowKit Go.Maps
set_option linter.unusedSimpArgs false
set_option linter.unusedVariables false
mutual
def inS (L:List Sec):St→Prop | .mk k nm _ _ bd els _=>(k=1∨k=7∨k=8→nm∈L)∧inB L bd∧inB L els
def inB (L:List Sec):List St→Prop | []=>True | x :: xs=>inS L x∧inB L xs
end
structure OkS (L:List Sec) (x:St):Prop where
 w:wS x
 g:gS x
 few:fewS x
 in_:inS L x
structure OkB (L:List Sec) (xs:List St):Prop where
 w:wB xs
 g:gB xs
 few:fewB xs
 in_:inB L xs
theorem OkB.cons {L:List Sec} {x:St} {xs:List St} (h:OkB L (x :: xs)):OkS L x∧OkB L xs:=by
 obtain ⟨h1,h2,h3,h4⟩:=h
 unfold wB at h1
 unfold gB at h2
 unfold fewB at h3
 unfold inB at h4
 exact ⟨⟨h1.1,h2.1,h3.1,h4.1⟩,⟨h1.2,h2.2,h3.2,h4.2⟩⟩
theorem OkB.mem {L:List Sec}:∀ {xs:List St} {j:Nat} {e:St},OkB L xs→xs[j]?=some e→OkS L e
 | [],j,e,_,h=>by simp at h
 | x :: xs,0,e,h,hj=>by simp at hj;subst hj;exact h.cons.1
 | x :: xs,j+1,e,h,hj=>OkB.mem h.cons.2 (by simpa using hj)
theorem OkS.parts {L:List Sec} {k:Int} {nm:Sec} {xs:List E} {n:Int} {bd els:List St} {p:Int} (h:OkS L (.mk k nm xs n bd els p)) :
  isS k xs.length n∧nm.length≤65536∧wL xs∧gL xs∧OkB L bd∧OkB L els∧(k=7∨k=8→0≤n∧n≤64)∧(k=1∨k=7∨k=8→nm∈L):=by
 obtain ⟨h1,h2,h3,h4⟩:=h
 unfold wS at h1
 unfold gS at h2
 unfold fewS at h3
 unfold inS at h4
 exact ⟨h1.1,h1.2.1,h1.2.2.1,h2.2.1,⟨h1.2.2.2.1,h2.2.2.1,h3.2.1,h4.2.1⟩,⟨h1.2.2.2.2,h2.2.2.2,h3.2.2,h4.2.2⟩,h3.1,h4.1⟩
theorem pgB_nil (s:PS):pgB [] s=s:=by unfold pgB;rfl
theorem pgB_cons (x:St) (xs:List St) (s:PS):pgB (x :: xs) s=pgB xs (pgS x s):=by conv=>lhs;unfold pgB
theorem pgB_drop {s:PS} {xs:List St} {j:Nat} {e:St} (hj:xs[j]?=some e):pgB (xs.drop j) s=pgB (xs.drop (j+1)) (pgS e s):=by
 obtain ⟨hlt,rfl⟩:=List.getElem?_eq_some_iff.1 hj
 rw [List.drop_eq_getElem_cons hlt,pgB_cons]
def SPr (N:Nat):Prop:=∀ (x:St),sizeS x≤N→∀ (w:World) (g b:Nat) (L:List Sec) (C:Nat) (n:Int) (s:PS) (cs:List Value) (B:Nat→Prop),RM w g b L C n s→OkS L x→SV w B x cs→¬ B g→¬ B b→
 Calls Try.prog 50 #[.pointer (some ⟨g,0,none⟩),.agg cs.toArray] w fun en w'=>en=.returned (.tuple #[])∧RM w' g b L C n (pgS x s)∧Only [g,b] w w'
def BPr (N:Nat):Prop:=∀ (xs:List St),sizeSs xs≤N→∀ (w:World) (g b:Nat) (L:List Sec) (C:Nat) (n:Int) (s:PS) (v:Value) (B:Nat→Prop),RM w g b L C n s→OkB L xs→SsV w B v xs→¬ B g→¬ B b→
 Calls Try.prog 30 #[.pointer (some ⟨g,0,none⟩),v] w fun en w'=>en=.returned (.tuple #[])∧RM w' g b L C n (pgB xs s)∧Only [g,b] w w'
theorem two_notB {B:Nat→Prop} {g b:Nat} (hg:¬ B g) (hb:¬ B b):∀ k∈[g,b],¬ B k:=by
 intro k hk
 simp only [List.mem_cons,List.not_mem_nil,or_false] at hk
 rcases hk with rfl | rfl
 ·exact hg
 ·exact hb
set_option maxRecDepth 100000 in
set_option maxHeartbeats 4000000 in
theorem pblock_step (N:Nat) (hNN:N≤1000000) (IS:SPr N):BPr N:=by
 intro xs hN w g b L C n s v B h hok hv hg hb
 obtain ⟨a,cap,rfl,-,hx⟩:=hv
 have hlen:=sizeSs_len xs
 have H:=Hd h
 have HX:=Hd hx
 have HOK:=Hd hok
 have HB:=Hd (two_notB hg hb)
 clear h hx hok
 go_enter Try.func30,Try.ntmps30
 go_wp2_with fail
 obtain ⟨m,hm⟩:∃ m,m=xs.length:=⟨_,rfl⟩
 rw [← hm] at hlen⊢
 have HM:=Hd hm
 clear hm
 go_loopw [8] (fun ix wr=>∃ (j:Nat) (sj:PS),j≤m∧ix=.int .i64 (j:Int)∧Hid (pgB xs s=pgB (xs.drop j) sj)∧Hid (RM wr g b L C n sj)∧Hid (Only [g,b] w wr)) (fun ix _=>m - (intOf ix).toNat)
 case atStart=>exact ⟨0,s,Nat.zero_le _,rfl,Hd (by rw [List.drop_zero]),H,Hd (Only.refl _ _)⟩
 case round=>
  obtain ⟨j,sj,hjn,rfl,HT,HK,HO⟩:=hrel
  by_cases hlt:j < m
  ·have hlt':(j:Int) < (m:Int):=by omega
   have j0:(0:Int)≤(j:Int):=by omega
   obtain ⟨e,he⟩:∃ e,xs[j]?=some e:=⟨_,List.getElem?_eq_getElem (by rw [← HM.out];exact hlt)⟩
   obtain ⟨gr,rfl,hgr,hes⟩:∃ gr,a=some ⟨gr,0,none⟩∧B gr∧SsAt w B gr 0 xs:=by
    rcases HX.out with hx | hx
    ·rw [hx] at he;simp at he
    ·exact hx
   obtain ⟨cs,hev,hcs⟩:=SsAt.get xs 0 (SsAt.kept HO.out HB.out (fun _ h=>h) hgr 0 xs hes) j e he
   obtain ⟨k,nm,ys,nn,bd,els,p⟩:=e
   have hoke:=HOK.out.mem he
   have hev':=hev
   unfold SV at hev'
   obtain ⟨va,a1,c1,a2,c2,rfl,⟨a0,c0,rfl,-⟩,-,-⟩:=hev'
   have x0:wr.cell? ⟨gr,j*7,none⟩=some (.int .i64 k):=by simpa using hcs 0 _ rfl
   have x1:wr.cell? ⟨gr,j*7+1,none⟩=some (.string (strOf nm)):=by simpa using hcs 1 _ rfl
   have x2:wr.cell? ⟨gr,j*7+2,none⟩=some (.slice a0 ys.length c0):=by simpa using hcs 2 _ rfl
   have x3:wr.cell? ⟨gr,j*7+3,none⟩=some (.int .i64 nn):=by simpa using hcs 3 _ rfl
   have x4:wr.cell? ⟨gr,j*7+4,none⟩=some (.slice a1 bd.length c1):=by simpa using hcs 4 _ rfl
   have x5:wr.cell? ⟨gr,j*7+5,none⟩=some (.slice a2 els.length c2):=by simpa using hcs 5 _ rfl
   have x6:wr.cell? ⟨gr,j*7+6,none⟩=some (.int .i64 p):=by simpa using hcs 6 _ rfl
   obtain ⟨ee,hee⟩:∃ ee,ee=St.mk k nm ys nn bd els p:=⟨_,rfl⟩
   obtain ⟨sn,hsn⟩:∃ sn,sn=strOf nm:=⟨_,rfl⟩
   obtain ⟨L0,hL0⟩:∃ L,L=ys.length:=⟨_,rfl⟩
   obtain ⟨L1,hL1⟩:∃ L,L=bd.length:=⟨_,rfl⟩
   obtain ⟨L2,hL2⟩:∃ L,L=els.length:=⟨_,rfl⟩
   rw [← hee] at he hev hoke
   rw [← hsn] at x1 hev
   rw [← hL0] at x2 hev
   rw [← hL1] at x4 hev
   rw [← hL2] at x5 hev
   have HEV:=Hd hev
   have HOKE:=Hd hoke
   have hstep:=HT.out.trans (pgB_drop he)
   have HST:=Hd hstep
   have hsz:sizeS ee≤N:=Nat.le_trans (sizeSs_mem he) hN
   clear hev hcs he hee hsn hL0 hL1 hL2 hes hoke hstep
   go_upto_region 3 with (fail)
   have o5:Only [] wr (wr.alloc (.cells #[.int .i64 k,.string sn,.slice a0 L0 c0,.int .i64 nn,.slice a1 L1 c1,.slice a2 L2 c2,.int .i64 p] 61)):=(Only.refl _ _).alloc _
   have hY:=heap_new wr (.cells #[.int .i64 k,.string sn,.slice a0 L0 c0,.int .i64 nn,.slice a1 L1 c1,.slice a2 L2 c2,.int .i64 p] 61)
   generalize wr.alloc (.cells #[.int .i64 k,.string sn,.slice a0 L0 c0,.int .i64 nn,.slice a1 L1 c1,.slice a2 L2 c2,.int .i64 p] 61)=w5 at o5 hY⊢
   have KX:=IS ee hsz w5 g b L C n sj _ B (HK.out.quiet o5) HOKE.out (SV.kept o5 (by simp) (fun _ h=>h) ee _ HEV.out) hg hb
   have HO5:=Hd (HO.out.trans o5 (by simp))
   have y0:w5.cell? ⟨wr.heap.size,0,none⟩=some (.int .i64 k):=cell_at 0 hY
   have y1:w5.cell? ⟨wr.heap.size,1,none⟩=some (.string sn):=cell_at 1 hY
   have y2:w5.cell? ⟨wr.heap.size,2,none⟩=some (.slice a0 L0 c0):=cell_at 2 hY
   have y3:w5.cell? ⟨wr.heap.size,3,none⟩=some (.int .i64 nn):=cell_at 3 hY
   have y4:w5.cell? ⟨wr.heap.size,4,none⟩=some (.slice a1 L1 c1):=cell_at 4 hY
   have y5:w5.cell? ⟨wr.heap.size,5,none⟩=some (.slice a2 L2 c2):=cell_at 5 hY
   have y6:w5.cell? ⟨wr.heap.size,6,none⟩=some (.int .i64 p):=cell_at 6 hY
   clear o5 hY x0 x1 x2 x3 x4 x5 x6
   go_wp2_with fail
   refine KX.mono ?_
   rintro en w8 ⟨rfl,hk8,ho8⟩
   have HK8:=Hd hk8
   have HO8:=Hd (HO5.out.trans ho8 (fun k hk=>.inl hk))
   clear hk8 ho8 KX y0 y1 y2 y3 y4 y5 y6
   go_wp2_with fail
   refine ⟨⟨j+1,_,by omega,by go_num,HST,HK8,HO8⟩,?_⟩
   simp [intOf]
   omega
  ·obtain rfl:j=m:=by omega
   have hR:pgB xs s=sj:=by rw [HT.out,HM.out,List.drop_length,pgB_nil]
   have HR2:=Hd hR
   clear hR
   go_wp2_with fail
   go_end0
   rw [HR2.out]
   exact ⟨rfl,HK.out,HO.out⟩
end Go.Proofs.Ytagkbbcpbebapaa
