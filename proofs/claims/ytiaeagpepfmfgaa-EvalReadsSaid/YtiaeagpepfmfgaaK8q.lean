import Derived.Test.YtiaeagpepfmfgaaK7q
namespace Go.Proofs.Ytiaeagpepfmfgaa
open Go.RowKit Go.Maps
set_option linter.unusedSimpArgs false
set_option linter.unusedVariables false
theorem sizeL_snoc (l:List E) (e:E):sizeL (l++[e])=sizeL l+sizeE e:=by
 induction l with
 | nil=>simp [sizeL]
 | cons x l ih=>simp [sizeL,ih];omega
theorem sizeL_take {xs:List E} {j:Nat} {e:E} (hj:xs[j]?=some e):sizeL (xs.take (j+1))=sizeL (xs.take j)+sizeE e:=by
 rw [List.take_add_one,hj,Option.toList_some,sizeL_snoc]
theorem sizeL_take_le (xs:List E) (j:Nat):sizeL (xs.take j)≤sizeL xs:=by
 induction xs generalizing j with
 | nil=>simp
 | cons x xs ih=>
  cases j with
  | zero=>simp [sizeL]
  | succ j=>have:=ih j;simp [sizeL];omega
theorem EsV.of_parts {w:World} {B:Nat→Prop} {a:Option Addr} {ys:List E} {cap:Nat} (h1:ys.length≤cap) (h2:ys=[]∨∃ g,a=some ⟨g,0,none⟩∧B g∧EsAt w B g 0 ys):EsV w B (.slice a ys.length cap) ys:=⟨a,cap,rfl,h1,h2⟩
def CSizeP (N:Nat):Prop:=∀ (xs:List E),sizeL xs≤N→∀ (w:World) (v:Value) (B:Nat→Prop),EsV w B v xs→Calls Try.prog 83 #[v] w fun en w'=>en=.returned (.int .i64 (sizeL xs:Nat))∧Only [] w w'
set_option maxRecDepth 100000 in
set_option maxHeartbeats 4000000 in
theorem csize_step (N:Nat) (hNN:N≤1000000) (IS:∀ M,M < N→CSizeP M):CSizeP N:=by
 intro xs hN w v B hv
 obtain ⟨a,cap,rfl,hcap,hx⟩:=hv
 have hlen:xs.length≤sizeL xs:=by
  clear hN hcap hx
  induction xs with
  | nil=>exact Nat.le_refl _
  | cons e es ih=>
   have:1≤sizeE e:=by cases e;unfold sizeE;omega
   unfold sizeL
   simp
   omega
 have HX:=Lib.hid hx
 obtain ⟨n,hn⟩:∃ n,n=xs.length:=⟨_,rfl⟩
 rw [← hn] at hlen⊢
 have HN:=Lib.hid hn
 have hnb:n≤1000000:=by omega
 clear hx hn hcap
 go_enter Try.func83,Try.ntmps83
 go_wp2_with fail
 go_loopw [3,8] (fun st ix wr=>∃ (j T:Nat),j≤n∧ix=.int .i64 (j:Int)∧st=.int .i64 (T:Int)∧Hid (T=sizeL (xs.take j))∧Hid (Only [] w wr)) (fun _ ix _=>n - (intOf ix).toNat)
 case atStart=>exact ⟨0,0,Nat.zero_le _,rfl,rfl,Lib.hid (by simp [sizeL]),Lib.hid (Only.refl _ _)⟩
 case round=>
  obtain ⟨j,T,hjn,rfl,rfl,HT,HO⟩:=hrel
  by_cases hlt:j < n
  ·have hlt':(j:Int) < (n:Int):=by omega
   have j0:(0:Int)≤(j:Int):=by omega
   obtain ⟨e,he⟩:∃ e,xs[j]?=some e:=⟨_,List.getElem?_eq_getElem (by rw [← HN.out];exact hlt)⟩
   obtain ⟨gr,rfl,hgr,hes⟩:∃ gr,a=some ⟨gr,0,none⟩∧B gr∧EsAt w B gr 0 xs:=by
    rcases HX.out with hx | hx
    ·rw [hx] at he;simp at he
    ·exact hx
   obtain ⟨cs,hev,hcs⟩:=(EsAt.eso xs 0 0 rfl hes).kept HO.out (by simp) hgr j e he
   obtain ⟨k,nn,nm,ys,p⟩:=e
   have hT1:=sizeL_take he
   have hT2:=sizeL_take_le xs (j+1)
   rw [← HT.out] at hT1
   unfold sizeE at hT1
   unfold EV at hev
   obtain ⟨a',cap',rfl,hc',hx'⟩:=hev
   have x0:wr.cell? ⟨gr,j*5,none⟩=some (.int .i64 k):=by simpa using hcs 0 _ rfl
   have x1:wr.cell? ⟨gr,j*5+1,none⟩=some (.int .i64 nn):=by simpa using hcs 1 _ rfl
   have x2:wr.cell? ⟨gr,j*5+2,none⟩=some (.string (strOf nm)):=by simpa using hcs 2 _ rfl
   have x3:wr.cell? ⟨gr,j*5+3,none⟩=some (.slice a' ys.length cap'):=by simpa using hcs 3 _ rfl
   have x4:wr.cell? ⟨gr,j*5+4,none⟩=some (.int .i64 p):=by simpa using hcs 4 _ rfl
   have hev2:=EsV.of_parts hc' hx'
   have hsz:sizeL ys < N:=by omega
   obtain ⟨sn,hsn⟩:∃ sn,sn=strOf nm:=⟨_,rfl⟩
   obtain ⟨L,hL⟩:∃ L,L=ys.length:=⟨_,rfl⟩
   rw [← hsn] at x2
   rw [← hL] at x3 hev2
   have HEV:=Lib.hid hev2
   obtain ⟨Y,hY⟩:∃ Y,Y=sizeL ys:=⟨_,rfl⟩
   obtain ⟨T',hT'⟩:∃ T',T'=sizeL (xs.take (j+1)):=⟨_,rfl⟩
   rw [← hY,← hT'] at hT1
   rw [← hT'] at hT2
   have b1:T+(1+Y)≤1000000:=by omega
   have HT1:=Lib.hid hT1
   have HT':=Lib.hid hT'
   have IS':=IS _ hsz
   have HY:=Lib.hid hY
   clear hev2 hcs he hsn hL hes hx' hY hT1 hT' hT2 hsz hN hlen
   go_upto_region 5 with (fail)
   have o5:Only [] wr (wr.alloc (.cells #[.int .i64 k,.int .i64 nn,.string sn,.slice a' L cap',.int .i64 p] 70)):=(Only.refl _ _).alloc _
   have hY5:=heap_new wr (.cells #[.int .i64 k,.int .i64 nn,.string sn,.slice a' L cap',.int .i64 p] 70)
   generalize wr.alloc (.cells #[.int .i64 k,.int .i64 nn,.string sn,.slice a' L cap',.int .i64 p] 70)=w5 at o5 hY5⊢
   have y3:w5.cell? ⟨wr.heap.size,3,none⟩=some (.slice a' L cap'):=cell_at 3 hY5
   have K1:=IS' ys (Nat.le_refl _) w5 _ B (HEV.out.quiet o5)
   rw [← HY.out] at K1
   have HO5:=Lib.hid (HO.out.trans o5 (by simp))
   clear o5 hY5 x0 x1 x2 x3 x4
   go_wp2_with fail
   refine K1.mono ?_
   rintro en w6 ⟨rfl,ho6⟩
   have HO6:=Lib.hid (HO5.out.trans ho6 (by simp))
   clear ho6 K1 y3
   go_wp2_with fail
   refine ⟨⟨j+1,T+(1+Y),by omega,rfl,by simp,Lib.hid (by rw [← HT'.out,HT1.out]),HO6⟩,?_⟩
   simp [intOf]
   omega
  ·obtain rfl:j=n:=by omega
   have hT:T=sizeL xs:=by rw [HT.out,HN.out,List.take_length]
   have HTT:=Lib.hid hT
   clear hT
   go_wp2_with fail
   go_ret
   rw [← HTT.out]
   exact ⟨rfl,HO.out⟩
theorem csize_all (N:Nat) (hN:N≤1000000):CSizeP N:=by
 induction N using Nat.strongRecOn with
 | _ N ih=>exact csize_step N hN (fun M hM=>ih M hM (by omega))
mutual
def stS:St→Nat | .mk k _ xs n bd els _=>1+sizeL xs+(if k=6 then max (stB 0 bd) (stB 0 els) else if k=7∨k=8 then n.toNat*(1+stB 0 bd) else 0)
def stB:Nat→List St→Nat | acc,[]=>acc | acc,x :: xs=>stB (min (acc+stS x) 2049) xs
end
theorem stB_le:∀ (xs:List St) (acc:Nat),acc≤2049→stB acc xs≤2049
 | [],acc,h=>by unfold stB;exact h
 | x :: xs,acc,h=>by unfold stB;exact stB_le xs _ (by omega)
mutual
def fewS:St→Prop | .mk k _ _ n bd els _=>(k=7∨k=8→0≤n∧n≤64)∧fewB bd∧fewB els
def fewB:List St→Prop | []=>True | x :: xs=>fewS x∧fewB xs
end
theorem fewB_mem:∀ {xs:List St} {j:Nat} {e:St},fewB xs→xs[j]?=some e→fewS e
 | [],j,e,_,h=>by simp at h
 | x :: xs,0,e,h,hj=>by unfold fewB at h;simp at hj;subst hj;exact h.1
 | x :: xs,j+1,e,h,hj=>by unfold fewB at h;exact fewB_mem h.2 (by simpa using hj)
theorem stB_drop {acc:Nat} {xs:List St} {j:Nat} {e:St} (hj:xs[j]?=some e):stB acc (xs.drop j)=stB (min (acc+stS e) 2049) (xs.drop (j+1)):=by
 obtain ⟨hlt,rfl⟩:=List.getElem?_eq_some_iff.1 hj
 rw [List.drop_eq_getElem_cons hlt]
 conv=>lhs;unfold stB
def CStpP (N:Nat):Prop:=∀ (e:St),sizeS e≤N→∀ (w:World) (cs:List Value) (B:Nat→Prop),fewS e→SV w B e cs→Calls Try.prog 90 #[.agg cs.toArray] w fun en w'=>en=.returned (.int .i64 (stS e:Nat))∧Only [] w w'
def CStbP (N:Nat):Prop:=∀ (xs:List St),sizeSs xs≤N→∀ (w:World) (v:Value) (B:Nat→Prop),fewB xs→SsV w B v xs→Calls Try.prog 84 #[v] w fun en w'=>en=.returned (.int .i64 (stB 0 xs:Nat))∧Only [] w w'
set_option maxRecDepth 100000 in
set_option maxHeartbeats 4000000 in
theorem cstb_step (N:Nat) (hNN:N≤1000000) (hst:∀ e,sizeS e≤N→fewS e→stS e≤100000000) (IS:CStpP N):CStbP N:=by
 intro xs hN w v B hok hv
 obtain ⟨a,cap,rfl,-,hx⟩:=hv
 have hlen:=sizeSs_len xs
 have HX:=Lib.hid hx
 have HOK:=Lib.hid hok
 obtain ⟨n,hn⟩:∃ n,n=xs.length:=⟨_,rfl⟩
 rw [← hn] at hlen⊢
 have HN:=Lib.hid hn
 have hnb:n≤1000000:=by omega
 clear hx hn hok
 go_enter Try.func84,Try.ntmps84
 go_wp2_with fail
 go_loopw [3,8] (fun st ix wr=>∃ (j T:Nat),j≤n∧ix=.int .i64 (j:Int)∧st=.int .i64 (T:Int)∧T≤2049∧Hid (stB 0 xs=stB T (xs.drop j))∧Hid (Only [] w wr)) (fun _ ix _=>n - (intOf ix).toNat)
 case atStart=>exact ⟨0,0,Nat.zero_le _,rfl,rfl,by omega,Lib.hid (by rw [List.drop_zero]),Lib.hid (Only.refl _ _)⟩
 case round=>
  obtain ⟨j,T,hjn,rfl,rfl,hTb,HT,HO⟩:=hrel
  by_cases hlt:j < n
  ·have hlt':(j:Int) < (n:Int):=by omega
   have j0:(0:Int)≤(j:Int):=by omega
   obtain ⟨e,he⟩:∃ e,xs[j]?=some e:=⟨_,List.getElem?_eq_getElem (by rw [← HN.out];exact hlt)⟩
   obtain ⟨gr,rfl,hgr,hes⟩:∃ gr,a=some ⟨gr,0,none⟩∧B gr∧SsAt w B gr 0 xs:=by
    rcases HX.out with hx | hx
    ·rw [hx] at he;simp at he
    ·exact hx
   obtain ⟨cs,hev,hcs⟩:=SsAt.get xs 0 (SsAt.kept HO.out (by simp) (fun _ h=>h) hgr 0 xs hes) j e he
   have hfe:=fewB_mem HOK.out he
   have hsz:sizeS e≤N:=Nat.le_trans (sizeSs_mem he) hN
   have hb:=hst e hsz hfe
   have hstep:=stB_drop (acc:=T) he
   obtain ⟨k,nm,ys,nn,bd,els,p⟩:=e
   have hev':=hev
   unfold SV at hev'
   obtain ⟨va,a1,c1,a2,c2,rfl,⟨a0,c0,rfl,-⟩,-,-⟩:=hev'
   have x0:wr.cell? ⟨gr,j*7,none⟩=some (.int .i64 k):=by simpa using hcs 0 _ rfl
   have x1:wr.cell? ⟨gr,j*7+1,none⟩=some (.string (strOf nm)):=by simpa using hcs 1 _ rfl
   have x2:wr.cell? ⟨gr,j*7+2,none⟩=some (.slice a0 ys.length c0):=by simpa using hcs 2 _ rfl
   have x3:wr.cell? ⟨gr,j*7+3,none⟩=some (.int .i64 nn):=by simpa using hcs 3 _ rfl
   have x4:wr.cell? ⟨gr,j*7+4,none⟩=some (.slice a1 bd.length c1):=by simpa using hcs 4 _ rfl
   have x5:wr.cell? ⟨gr,j*7+5,none⟩=some (.slice a2 els.length c2):=by simpa using hcs 5 _ rfl
   have x6:wr.cell? ⟨gr,j*7+6,none⟩=some (.int .i64 p):=by simpa using hcs 6 _ rfl
   obtain ⟨ee,hee⟩:∃ ee,ee=St.mk k nm ys nn bd els p:=⟨_,rfl⟩
   obtain ⟨sn,hsn⟩:∃ sn,sn=strOf nm:=⟨_,rfl⟩
   obtain ⟨L0,hL0⟩:∃ L,L=ys.length:=⟨_,rfl⟩
   obtain ⟨L1,hL1⟩:∃ L,L=bd.length:=⟨_,rfl⟩
   obtain ⟨L2,hL2⟩:∃ L,L=els.length:=⟨_,rfl⟩
   rw [← hee] at hev hfe hsz hb hstep
   rw [← hsn] at x1 hev
   rw [← hL0] at x2 hev
   rw [← hL1] at x4 hev
   rw [← hL2] at x5 hev
   have HEV:=Lib.hid hev
   obtain ⟨Y,hY⟩:∃ Y,Y=stS ee:=⟨_,rfl⟩
   rw [← hY] at hb hstep
   have hstep2:stB 0 xs=stB (min (T+Y) 2049) (xs.drop (j+1)):=by rw [HT.out,hstep]
   have HST:=Lib.hid hstep2
   have HY:=Lib.hid hY
   clear hev hcs he hee hsn hL0 hL1 hL2 hes hY hstep hstep2
   go_upto_region 5 with (fail)
   have o5:Only [] wr (wr.alloc (.cells #[.int .i64 k,.string sn,.slice a0 L0 c0,.int .i64 nn,.slice a1 L1 c1,.slice a2 L2 c2,.int .i64 p] 102)):=(Only.refl _ _).alloc _
   have hY5:=heap_new wr (.cells #[.int .i64 k,.string sn,.slice a0 L0 c0,.int .i64 nn,.slice a1 L1 c1,.slice a2 L2 c2,.int .i64 p] 102)
   generalize wr.alloc (.cells #[.int .i64 k,.string sn,.slice a0 L0 c0,.int .i64 nn,.slice a1 L1 c1,.slice a2 L2 c2,.int .i64 p] 102)=w5 at o5 hY5⊢
   have y0:w5.cell? ⟨wr.heap.size,0,none⟩=some (.int .i64 k):=cell_at 0 hY5
   have y1:w5.cell? ⟨wr.heap.size,1,none⟩=some (.string sn):=cell_at 1 hY5
   have y2:w5.cell? ⟨wr.heap.size,2,none⟩=some (.slice a0 L0 c0):=cell_at 2 hY5
   have y3:w5.cell? ⟨wr.heap.size,3,none⟩=some (.int .i64 nn):=cell_at 3 hY5
   have y4:w5.cell? ⟨wr.heap.size,4,none⟩=some (.slice a1 L1 c1):=cell_at 4 hY5
   have y5:w5.cell? ⟨wr.heap.size,5,none⟩=some (.slice a2 L2 c2):=cell_at 5 hY5
   have y6:w5.cell? ⟨wr.heap.size,6,none⟩=some (.int .i64 p):=cell_at 6 hY5
   have K1:=IS ee hsz w5 _ B hfe (HEV.out.quiet o5)
   rw [← HY.out] at K1
   have HO5:=Lib.hid (HO.out.trans o5 (by simp))
   clear o5 hY5 x0 x1 x2 x3 x4 x5 x6 hfe
   go_wp2_with fail
   refine K1.mono ?_
   rintro en w6 ⟨rfl,ho6⟩
   have HO6:=Lib.hid (HO5.out.trans ho6 (by simp))
   clear ho6 K1 y0 y1 y2 y3 y4 y5 y6
   by_cases hm:T+Y≤2049
   ·rw [Nat.min_eq_left hm] at HST
    have hmm:¬ (2049:Int) < (T:Int)+(Y:Int):=by omega
    go_wp2_with fail
    refine ⟨⟨j+1,T+Y,by omega,rfl,by simp,hm,HST,HO6⟩,?_⟩
    simp [intOf]
    omega
   ·rw [Nat.min_eq_right (by omega)] at HST
    have hmm:(2049:Int) < (T:Int)+(Y:Int):=by omega
    go_wp2_with fail
    refine ⟨⟨j+1,2049,by omega,rfl,by simp,Nat.le_refl _,HST,HO6⟩,?_⟩
    simp [intOf]
    omega
  ·obtain rfl:j=n:=by omega
   have hT:stB 0 xs=T:=by
    rw [HT.out,HN.out,List.drop_length]
    unfold stB
    rfl
   have HTT:=Lib.hid hT
   clear hT
   go_wp2_with fail
   go_ret
   rw [HTT.out]
   exact ⟨rfl,HO.out⟩
end Go.Proofs.Ytiaeagpepfmfgaa
