import Derived.Test.YtagkbbcpbebapaaK9r
namespace Go.Proofs.Ytagkbbcpbebapaa
open Go.RowKit Go.Maps
set_option linter.unusedSimpArgs false
set_option linter.unusedVariables false
def isE (k:Int) (nm:Sec) (n:Nat):Prop:=(k=1∨k=2)∧n=0∨(k=3∨k=4∨k=5)∧n=1∨k=6∧n=2∧(opr nm).2≠0
def isS (k:Int) (n:Nat) (N:Int):Prop:=(k=1∨k=6)∧n=1∨(k=2∨k=3∨k=4∨k=5)∧n=2∨(k=7∨k=8)∧n=0∧0≤N
mutual
def wE:E→Prop | .mk k _ nm xs _=>isE k nm xs.length∧nm.length≤65536∧wL xs
def wL:List E→Prop | []=>True | x :: xs=>wE x∧wL xs
end
mutual
def wS:St→Prop | .mk k nm xs n bd els _=>isS k xs.length n∧nm.length≤65536∧wL xs∧wB bd∧wB els
def wB:List St→Prop | []=>True | x :: xs=>wS x∧wB xs
end
theorem wL_mem:∀ {xs:List E} {j:Nat} {e:E},wL xs→xs[j]?=some e→wE e
 | [],j,e,_,h=>by simp at h
 | x :: xs,0,e,h,hj=>by unfold wL at h;simp at hj;subst hj;exact h.1
 | x :: xs,j+1,e,h,hj=>by unfold wL at h;exact wL_mem h.2 (by simpa using hj)
theorem wB_mem:∀ {xs:List St} {j:Nat} {e:St},wB xs→xs[j]?=some e→wS e
 | [],j,e,_,h=>by simp at h
 | x :: xs,0,e,h,hj=>by unfold wB at h;simp at hj;subst hj;exact h.1
 | x :: xs,j+1,e,h,hj=>by unfold wB at h;exact wB_mem h.2 (by simpa using hj)
theorem sizeSs_snoc (l:List St) (e:St):sizeSs (l++[e])=sizeSs l+sizeS e:=by
 induction l with
 | nil=>simp [sizeSs]
 | cons x l ih=>simp [sizeSs,ih];omega
theorem sizeSs_take {xs:List St} {j:Nat} {e:St} (hj:xs[j]?=some e):sizeSs (xs.take (j+1))=sizeSs (xs.take j)+sizeS e:=by
 rw [List.take_add_one,hj,Option.toList_some,sizeSs_snoc]
theorem sizeSs_take_le (xs:List St) (j:Nat):sizeSs (xs.take j)≤sizeSs xs:=by
 induction xs generalizing j with
 | nil=>simp
 | cons x xs ih=>
  cases j with
  | zero=>simp [sizeSs]
  | succ j=>have:=ih j;simp [sizeSs];omega
set_option maxRecDepth 100000 in
set_option maxHeartbeats 4000000 in
theorem cisExpr_any (w:World) (k n p:Int) (nm:Sec) (a:Option Addr) (L c:Nat) (h:isE k nm L) :
  Calls Try.prog 76 #[.agg #[.int .i64 k,.int .i64 n,.string (strOf nm),.slice a L c,.int .i64 p]] w fun en w'=>en=.returned (.bool true)∧Only [] w w':=by
 rcases h with ⟨h,rfl⟩ | ⟨h,rfl⟩ | ⟨rfl,rfl,ho⟩
 ·rcases h with rfl | rfl<;>
  ·go_enter Try.func76,Try.ntmps76
   go_wp2_with fail
   go_ret
   exact ⟨rfl,(Only.refl _ _).alloc _⟩
 ·rcases h with rfl | rfl | rfl<;>
  ·go_enter Try.func76,Try.ntmps76
   go_wp2_with fail
   go_ret
   exact ⟨rfl,(Only.refl _ _).alloc _⟩
 ·obtain ⟨sn,hsn⟩:∃ sn,sn=strOf nm:=⟨_,rfl⟩
  have KO:=coperator_any sn
  rw [show sn.data.toList=nm by rw [hsn];simp [strOf]] at KO
  rw [← hsn]
  obtain ⟨wh,hwh⟩:∃ wh,wh=(opr nm).2:=⟨_,rfl⟩
  rw [← hwh] at KO ho
  generalize (opr nm).1=pa at KO
  have ho':(wh != 0)=true:=by simpa using ho
  clear hsn hwh ho
  go_enter Try.func76,Try.ntmps76
  go_wp2_with fail
  refine (KO _).mono ?_
  rintro en w' ⟨rfl,rfl⟩
  go_wp2_with fail
  go_ret
  exact ⟨rfl,(Only.refl _ _).alloc _⟩
set_option maxRecDepth 100000 in
set_option maxHeartbeats 4000000 in
theorem cisStmt_any (w:World) (k N p:Int) (sn:ByteArray) (a a1 a2:Option Addr) (L c L1 c1 L2 c2:Nat) (h:isS k L N) :
  Calls Try.prog 77 #[.agg #[.int .i64 k,.string sn,.slice a L c,.int .i64 N,.slice a1 L1 c1,.slice a2 L2 c2,.int .i64 p]] w fun en w'=>en=.returned (.bool true)∧Only [] w w':=by
 rcases h with ⟨h,rfl⟩ | ⟨h,rfl⟩ | ⟨h,rfl,hN⟩
 ·rcases h with rfl | rfl<;>
  ·go_enter Try.func77,Try.ntmps77
   go_wp2_with fail
   go_ret
   exact ⟨rfl,(Only.refl _ _).alloc _⟩
 ·rcases h with rfl | rfl | rfl | rfl<;>
  ·go_enter Try.func77,Try.ntmps77
   go_wp2_with fail
   go_ret
   exact ⟨rfl,(Only.refl _ _).alloc _⟩
 ·rcases h with rfl | rfl<;>
  ·go_enter Try.func77,Try.ntmps77
   go_wp2_with fail
   go_ret
   exact ⟨rfl,(Only.refl _ _).alloc _⟩
def Left (w:World) (g:Nat) (n:Nat):Prop:=w.heap[g]?=some (.cells #[.int .i64 (n:Int)] 114 (0,0))
def CWlP (N:Nat):Prop:=∀ (xs:List E),sizeL xs≤N→∀ (w:World) (g lf:Nat) (v:Value) (B:Nat→Prop),Left w g lf→sizeL xs≤lf→lf≤480→wL xs→EsV w B v xs→¬ B g→
 Calls Try.prog 51 #[.pointer (some ⟨g,0,none⟩),v] w fun en w'=>en=.returned (.bool true)∧Left w' g (lf - sizeL xs)∧Only [g] w w'
set_option maxRecDepth 100000 in
set_option maxHeartbeats 8000000 in
theorem cwl_step (N:Nat) (IS:∀ M,M < N→CWlP M):CWlP N:=by
 intro xs hN w g lf v B hL hle hlf hok hv hB
 obtain ⟨a,cap,rfl,hcap,hx⟩:=hv
 have hlen:xs.length≤sizeL xs:=by
  clear hN hcap hx hok hle
  induction xs with
  | nil=>exact Nat.le_refl _
  | cons e es ih=>
   have:1≤sizeE e:=by cases e;unfold sizeE;omega
   unfold sizeL
   simp
   omega
 have HX:=Hd hx
 have HL:=Hd hL
 have HOK:=Hd hok
 obtain ⟨n,hn⟩:∃ n,n=xs.length:=⟨_,rfl⟩
 rw [← hn] at hlen⊢
 have HN:=Hd hn
 have hnb:n≤480:=by omega
 clear hx hn hcap hL hok
 go_enter Try.func51,Try.ntmps51
 go_wp2_with fail
 go_loopw [9] (fun ix wr=>∃ (j:Nat),j≤n∧ix=.int .i64 (j:Int)∧Hid (Left wr g (lf - sizeL (xs.take j)))∧Hid (Only [g] w wr)) (fun ix _=>n - (intOf ix).toNat)
 case atStart=>exact ⟨0,Nat.zero_le _,rfl,Hd (by simpa [sizeL] using HL.out),Hd (Only.refl _ _)⟩
 case round=>
  obtain ⟨j,hjn,rfl,HLF,HO⟩:=hrel
  by_cases hlt:j < n
  ·have hlt':(j:Int) < (n:Int):=by omega
   have j0:(0:Int)≤(j:Int):=by omega
   obtain ⟨e,he⟩:∃ e,xs[j]?=some e:=⟨_,List.getElem?_eq_getElem (by rw [← HN.out];exact hlt)⟩
   obtain ⟨gr,rfl,hgr,hes⟩:∃ gr,a=some ⟨gr,0,none⟩∧B gr∧EsAt w B gr 0 xs:=by
    rcases HX.out with hx | hx
    ·rw [hx] at he;simp at he
    ·exact hx
   obtain ⟨cs,hev,hcs⟩:=(EsAt.eso xs 0 0 rfl hes).kept HO.out (by simpa using hB) hgr j e he
   have hwe:=wL_mem HOK.out he
   obtain ⟨k,nn,nm,ys,p⟩:=e
   have hT1:=sizeL_take he
   have hT2:=sizeL_take_le xs (j+1)
   unfold sizeE at hT1
   unfold EV at hev
   unfold wE at hwe
   obtain ⟨hwk,hwn,hwl⟩:=hwe
   obtain ⟨a',cap',rfl,hc',hx'⟩:=hev
   have x0:wr.cell? ⟨gr,j*5,none⟩=some (.int .i64 k):=by simpa using hcs 0 _ rfl
   have x1:wr.cell? ⟨gr,j*5+1,none⟩=some (.int .i64 nn):=by simpa using hcs 1 _ rfl
   have x2:wr.cell? ⟨gr,j*5+2,none⟩=some (.string (strOf nm)):=by simpa using hcs 2 _ rfl
   have x3:wr.cell? ⟨gr,j*5+3,none⟩=some (.slice a' ys.length cap'):=by simpa using hcs 3 _ rfl
   have x4:wr.cell? ⟨gr,j*5+4,none⟩=some (.int .i64 p):=by simpa using hcs 4 _ rfl
   have hev2:=EsV.of_parts hc' hx'
   obtain ⟨L,hL⟩:∃ L,L=ys.length:=⟨_,rfl⟩
   rw [← hL] at x3 hev2 hwk
   obtain ⟨Y,hY⟩:∃ Y,Y=sizeL ys:=⟨_,rfl⟩
   obtain ⟨T,hT⟩:∃ T,T=sizeL (xs.take j):=⟨_,rfl⟩
   obtain ⟨X,hX⟩:∃ X,X=sizeL xs:=⟨_,rfl⟩
   obtain ⟨T',hT'⟩:∃ T',T'=sizeL (xs.take (j+1)):=⟨_,rfl⟩
   rw [← hY,← hT,← hT'] at hT1
   rw [← hT',← hX] at hT2
   have hlf1:=HLF.out
   rw [← hT] at hlf1
   rw [← hX] at hN hle
   obtain ⟨l0,hl0⟩:∃ l0,lf - T=l0+1+Y∧lf - T'=l0:=⟨lf - T',by omega,rfl⟩
   rw [hl0.1] at hlf1
   have hYN:sizeL ys < N:=by rw [← hY];omega
   have HT':=Hd (And.intro hT' hl0.2)
   have hl1:l0+1+Y≤480:=by omega
   obtain ⟨z,hz⟩:∃ z:Int,z=((l0+1+Y:Nat):Int):=⟨_,rfl⟩
   obtain ⟨q,hq⟩:∃ q:Nat,q=l0+Y:=⟨_,rfl⟩
   have hw0:wrap64 (z - 1)=(q:Int):=by unfold wrap64;omega
   have hq0:¬ (q:Int) < 0:=by omega
   have hq480:q≤480:=by omega
   have hqY:Y≤q:=by omega
   have hql:q - Y=l0:=by omega
   unfold Left at hlf1
   rw [← hz] at hlf1
   have cl:wr.cell? ⟨g,0,none⟩=some (.int .i64 z):=cell_at 0 hlf1
   have KI:=fun W=>cisExpr_any W k nn p nm a' L cap' hwk
   have IS':=IS _ hYN
   obtain ⟨sn,hsn⟩:∃ sn,sn=strOf nm:=⟨_,rfl⟩
   rw [← hsn] at x2 KI
   have HEV:=Hd hev2
   have HLF1:=Hd hlf1
   have HY:=Hd hY
   have hgb:g < wr.heap.size:=lt_of_heap hlf1
   have HWL:=Hd hwl
   clear hev2 hcs he hsn hL hes hx' hY hT1 hT' hT2 hYN hN hlen hlf1 hT hX hl0 HLF hle hlf hwl hwk hwn hz hq hl1
   go_upto_region 4 with (fail)
   have o5:Only [] wr (wr.alloc (.cells #[.int .i64 k,.int .i64 nn,.string sn,.slice a' L cap',.int .i64 p] 74)):=(Only.refl _ _).alloc _
   have hY5:=heap_new wr (.cells #[.int .i64 k,.int .i64 nn,.string sn,.slice a' L cap',.int .i64 p] 74)
   generalize wr.alloc (.cells #[.int .i64 k,.int .i64 nn,.string sn,.slice a' L cap',.int .i64 p] 74)=w5 at o5 hY5⊢
   have cl5:w5.cell? ⟨g,0,none⟩=some (.int .i64 z):=cell_kept o5 cl (by simp)
   have hLF5:=o5.heap HLF1.out (by simp)
   have gl5:=free_at 0 hLF5
   have hgw:g≠wr.heap.size:=by omega
   go_upto_region 5 with (fail)
   have oz:Only [g] w5 (w5.setCell ⟨g,0,none⟩ (.int .i64 (q:Int))):=(Only.refl _ _).setCell (.inl (by simp)) _
   have hl6:Left (w5.setCell ⟨g,0,none⟩ (.int .i64 (q:Int))) g q:=heap_cell (i:=0) (.int .i64 (q:Int)) hLF5
   have hY6:=oz.heap hY5 (by simpa using fun e=>hgw e.symm)
   generalize w5.setCell ⟨g,0,none⟩ (.int .i64 (q:Int))=w6 at oz hl6 hY6⊢
   have cl6:w6.cell? ⟨g,0,none⟩=some (.int .i64 (q:Int)):=cell_at 0 hl6
   have y0:w6.cell? ⟨wr.heap.size,0,none⟩=some (.int .i64 k):=cell_at 0 hY6
   have y1:w6.cell? ⟨wr.heap.size,1,none⟩=some (.int .i64 nn):=cell_at 1 hY6
   have y2:w6.cell? ⟨wr.heap.size,2,none⟩=some (.string sn):=cell_at 2 hY6
   have y3:w6.cell? ⟨wr.heap.size,3,none⟩=some (.slice a' L cap'):=cell_at 3 hY6
   have y4:w6.cell? ⟨wr.heap.size,4,none⟩=some (.int .i64 p):=cell_at 4 hY6
   have HO6:=Hd ((HO.out.trans o5 (by simp)).trans oz (fun k hk=>.inl hk))
   have HL6:=Hd hl6
   have HY6:=Hd hY6
   have HEV6:=Hd ((HEV.out.quiet o5).kept oz (by simpa using hB) (fun _ h=>h))
   have KI6:=KI w6
   clear o5 hY5 cl5 hLF5 gl5 oz hl6 hY6 cl x0 x1 x2 x3 x4 KI
   go_wp2_with fail
   refine KI6.mono ?_
   rintro en w7 ⟨rfl,ho7⟩
   have HL7:=Hd (show Left w7 g q from ho7.heap HL6.out (by simp))
   have hY7:=ho7.heap HY6.out (by simp)
   have y3:w7.cell? ⟨wr.heap.size,3,none⟩=some (.slice a' L cap'):=cell_at 3 hY7
   have K7:=IS' ys (Nat.le_refl _) w7 g q _ B HL7.out (by rw [← HY.out];exact hqY) hq480 HWL.out (HEV6.out.quiet ho7) hB
   have HO7:=Hd (HO6.out.trans ho7 (by simp))
   clear ho7 hY7 KI6 y0 y1 y2 y4 cl6
   go_wp2_with fail
   refine K7.mono ?_
   rintro en w8 ⟨rfl,hl8,ho8⟩
   rw [← HY.out,hql] at hl8
   have HL8:=Hd hl8
   have HO8:=Hd (HO7.out.trans ho8 (fun k hk=>.inl hk))
   clear hl8 ho8 K7 y3
   go_wp2_with fail
   refine ⟨⟨j+1,by omega,rfl,Hd (by rw [← HT'.out.1,HT'.out.2];exact HL8.out),HO8⟩,?_⟩
   simp [intOf]
   omega
  ·obtain rfl:j=n:=by omega
   have hR:xs.take j=xs:=by rw [HN.out,List.take_length]
   have HR:=Hd hR
   clear hR
   go_wp2_with fail
   go_ret
   exact ⟨rfl,by have:=HLF.out;rw [HR.out] at this;exact this,HO.out⟩
end Go.Proofs.Ytagkbbcpbebapaa
