import Derived.Test.YtcebchffcmpfeaaGreatK9t
namespace Go.Proofs.YtcebchffcmpfeaaGreat
set_option linter.unusedVariables false
set_option linter.unusedSimpArgs false
set_option maxRecDepth 100000
set_option maxHeartbeats 16000000
open Go.RowKit Go.Maps
def isE (k:Int) (nm:Sec) (n:Nat):Prop:=(k=1∨k=2)∧n=0∨(k=3∨k=4∨k=5)∧n=1∨k=6∧n=2∧(opr nm).2≠0
def isS (k:Int) (n:Nat) (N:Int):Prop:=(k=1∨k=6)∧n=1∨(k=2∨k=3∨k=4∨k=5)∧n=2∨(k=7∨k=8)∧n=0∧0≤N
mutual
def wE:E→Prop | .mk k _ nm xs _=>isE k nm xs.length∧nm.length≤65536∧wL xs
def wL:List E→Prop | []=>True | x :: xs=>wE x∧wL xs
end
mutual
def wS:St→Prop | .mk k nm xs n bd els _=>isS k xs.length n∧nm.length≤65536∧wL xs∧wB bd∧wB els
def wB:List St→Prop | []=>True | x :: xs=>wS x∧wB xs
end
theorem jy:∀ {xs:List E} {j:Nat} {e:E},wL xs→xs[j]?=some e→wE e
 | [],j,e,_,h=>by simp at h
 | x :: xs,0,e,h,hj=>by unfold wL at h;simp at hj;subst hj;exact h.1
 | x :: xs,j+1,e,h,hj=>by unfold wL at h;exact jy h.2 (by simpa using hj)
theorem vd:∀ {xs:List St} {j:Nat} {e:St},wB xs→xs[j]?=some e→wS e
 | [],j,e,_,h=>by simp at h
 | x :: xs,0,e,h,hj=>by unfold wB at h;simp at hj;subst hj;exact h.1
 | x :: xs,j+1,e,h,hj=>by unfold wB at h;exact vd h.2 (by simpa using hj)
theorem pM (l:List St) (e:St):ah (l++[e])=ah l+bn e:=by
 induction l with
 | nil=>simp [ah]
 | cons x l ih=>simp [ah,ih];omega
theorem jz {xs:List St} {j:Nat} {e:St} (hj:xs[j]?=some e):ah (xs.take (j+1))=ah (xs.take j)+bn e:=by
 rw [List.take_add_one,hj,Option.toList_some,pM]
theorem dv (xs:List St) (j:Nat):ah (xs.take j)≤ah xs:=by
 induction xs generalizing j with
 | nil=>simp
 | cons x xs ih=>
  cases j with
  | zero=>simp [ah]
  | succ j=>have:=ih j;simp [ah];omega
theorem pN (w:World) (k n p:Int) (nm:Sec) (a:Option Addr) (L c:Nat) (h:isE k nm L) :
  Calls Tryz.prog 110 #[.agg #[.int .i64 k,.int .i64 n,.string (aj nm),.slice a L c,.int .i64 p]] w fun en w'=>en=.returned (.bool true)∧Only [] w w':=by
 rcases h with ⟨h,rfl⟩ | ⟨h,rfl⟩ | ⟨rfl,rfl,ho⟩
 ·rcases h with rfl | rfl<;>
  ·go_enter Tryz.func110,Tryz.ntmps110
   (go_wp2_with fail);go_ret;exact ⟨rfl,(Only.refl _ _).alloc _⟩
 ·rcases h with rfl | rfl | rfl<;>
  ·go_enter Tryz.func110,Tryz.ntmps110
   (go_wp2_with fail);go_ret;exact ⟨rfl,(Only.refl _ _).alloc _⟩
 ·obtain ⟨sn,hsn⟩:∃ sn,sn=aj nm:=⟨_,rfl⟩
  have KO:=fX sn;rw [show sn.data.toList=nm by rw [hsn];simp [aj]] at KO;rw [← hsn];obtain ⟨wh,hwh⟩:∃ wh,wh=(opr nm).2:=⟨_,rfl⟩
  rw [← hwh] at KO ho;generalize (opr nm).1=pa at KO;have ho':(wh != 0)=true:=by simpa using ho
  clear hsn hwh ho
  go_enter Tryz.func110,Tryz.ntmps110
  go_wp2_with fail
  refine (KO _).mono ?_;rintro en w' ⟨rfl,rfl⟩;go_wp2_with fail
  go_ret;exact ⟨rfl,(Only.refl _ _).alloc _⟩
theorem pO (w:World) (k N p:Int) (sn:ByteArray) (a a1 a2:Option Addr) (L c L1 c1 L2 c2:Nat) (h:isS k L N) :
  Calls Tryz.prog 111 #[.agg #[.int .i64 k,.string sn,.slice a L c,.int .i64 N,.slice a1 L1 c1,.slice a2 L2 c2,.int .i64 p]] w fun en w'=>en=.returned (.bool true)∧Only [] w w':=by
 rcases h with ⟨h,rfl⟩ | ⟨h,rfl⟩ | ⟨h,rfl,hN⟩
 ·rcases h with rfl | rfl<;>
  ·go_enter Tryz.func111,Tryz.ntmps111
   (go_wp2_with fail);go_ret;exact ⟨rfl,(Only.refl _ _).alloc _⟩
 ·rcases h with rfl | rfl | rfl | rfl<;>
  ·go_enter Tryz.func111,Tryz.ntmps111
   (go_wp2_with fail);go_ret;exact ⟨rfl,(Only.refl _ _).alloc _⟩
 ·rcases h with rfl | rfl<;>
  ·go_enter Tryz.func111,Tryz.ntmps111
   (go_wp2_with fail);go_ret;exact ⟨rfl,(Only.refl _ _).alloc _⟩
def Left (w:World) (g:Nat) (n:Nat):Prop:=w.heap[g]?=some (.cells #[.int .i64 (n:Int)] 150 (0,0))
def CWlP (N:Nat):Prop:=∀ (xs:List E),aq xs≤N→∀ (w:World) (g lf:Nat) (v:Value) (B:Nat→Prop),Left w g lf→aq xs≤lf→lf≤480→wL xs→EsV w B v xs→¬ B g→
 Calls Tryz.prog 92 #[.pointer (some ⟨g,0,none⟩),v] w fun en w'=>en=.returned (.bool true)∧Left w' g (lf - aq xs)∧Only [g] w w'
theorem cwl_step (N:Nat) (IS:∀ M,M < N→CWlP M):CWlP N:=by
 intro xs hN w g lf v B hL hle hlf hok hv hB;obtain ⟨a,cap,rfl,hcap,hx⟩:=hv;have hlen:xs.length≤aq xs:=by
  clear hN hcap hx hok hle
  induction xs with
  | nil=>exact Nat.le_refl _
  | cons e es ih=>
   have:1≤aC e:=by cases e;unfold aC;omega
   unfold aq;simp;omega
 have HX:=Hd hx;have HL:=Hd hL;have HOK:=Hd hok;obtain ⟨n,hn⟩:∃ n,n=xs.length:=⟨_,rfl⟩
 rw [← hn] at hlen⊢;have HN:=Hd hn;have hnb:n≤480:=by omega
 clear hx hn hcap hL hok
 go_enter Tryz.func92,Tryz.ntmps92
 go_wp2_with fail
 go_loopw [9] (fun ix wr=>∃ (j:Nat),j≤n∧ix=.int .i64 (j:Int)∧Hid (Left wr g (lf - aq (xs.take j)))∧Hid (Only [g] w wr)) (fun ix _=>n - (intOf ix).toNat)
 case atStart=>exact ⟨0,Nat.zero_le _,rfl,Hd (by simpa [aq] using HL.out),Hd (Only.refl _ _)⟩
 case round=>
  obtain ⟨j,hjn,rfl,HLF,HO⟩:=hrel
  by_cases hlt:j < n
  ·have hlt':(j:Int) < (n:Int):=by omega
   have j0:(0:Int)≤(j:Int):=by omega
   obtain ⟨e,he⟩:∃ e,xs[j]?=some e:=⟨_,List.getElem?_eq_getElem (by rw [← HN.out];exact hlt)⟩
   obtain ⟨gr,rfl,hgr,hes⟩:∃ gr,a=some ⟨gr,0,none⟩∧B gr∧EsAt w B gr 0 xs:=by
    rcases HX.out with hx | hx
    ·rw [hx] at he;simp at he
    ·exact hx
   obtain ⟨cs,hev,hcs⟩:=(EsAt.eso xs 0 0 rfl hes).kept HO.out (by simpa using hB) hgr j e he;have hwe:=jy HOK.out he;obtain ⟨k,nn,nm,ys,p⟩:=e;have hT1:=ce he;have hT2:=bj xs (j+1);unfold aC at hT1;unfold EV at hev;unfold wE at hwe;obtain ⟨hwk,hwn,hwl⟩:=hwe;obtain ⟨a',cap',rfl,hc',hx'⟩:=hev;have x0:wr.cell? ⟨gr,j*5,none⟩=some (.int .i64 k):=by simpa using hcs 0 _ rfl
   have x1:wr.cell? ⟨gr,j*5+1,none⟩=some (.int .i64 nn):=by simpa using hcs 1 _ rfl
   have x2:wr.cell? ⟨gr,j*5+2,none⟩=some (.string (aj nm)):=by simpa using hcs 2 _ rfl
   have x3:wr.cell? ⟨gr,j*5+3,none⟩=some (.slice a' ys.length cap'):=by simpa using hcs 3 _ rfl
   have x4:wr.cell? ⟨gr,j*5+4,none⟩=some (.int .i64 p):=by simpa using hcs 4 _ rfl
   have hev2:=EsV.of_parts hc' hx';obtain ⟨L,hL⟩:∃ L,L=ys.length:=⟨_,rfl⟩
   rw [← hL] at x3 hev2 hwk;obtain ⟨Y,hY⟩:∃ Y,Y=aq ys:=⟨_,rfl⟩
   obtain ⟨T,hT⟩:∃ T,T=aq (xs.take j):=⟨_,rfl⟩
   obtain ⟨X,hX⟩:∃ X,X=aq xs:=⟨_,rfl⟩
   obtain ⟨T',hT'⟩:∃ T',T'=aq (xs.take (j+1)):=⟨_,rfl⟩
   rw [← hY,← hT,← hT'] at hT1;rw [← hT',← hX] at hT2;have hlf1:=HLF.out;rw [← hT] at hlf1;rw [← hX] at hN hle;obtain ⟨l0,hl0⟩:∃ l0,lf - T=l0+1+Y∧lf - T'=l0:=⟨lf - T',by omega,rfl⟩
   rw [hl0.1] at hlf1;have hYN:aq ys < N:=by rw [← hY];omega
   have HT':=Hd (And.intro hT' hl0.2);have hl1:l0+1+Y≤480:=by omega
   obtain ⟨z,hz⟩:∃ z:Int,z=((l0+1+Y:Nat):Int):=⟨_,rfl⟩
   obtain ⟨q,hq⟩:∃ q:Nat,q=l0+Y:=⟨_,rfl⟩
   have hw0:wrap64 (z - 1)=(q:Int):=by unfold wrap64;omega
   have hq0:¬ (q:Int) < 0:=by omega
   have hq480:q≤480:=by omega
   have hqY:Y≤q:=by omega
   have hql:q - Y=l0:=by omega
   unfold Left at hlf1;rw [← hz] at hlf1;have cl:wr.cell? ⟨g,0,none⟩=some (.int .i64 z):=ab 0 hlf1;have KI:=fun W=>pN W k nn p nm a' L cap' hwk;have IS':=IS _ hYN;obtain ⟨sn,hsn⟩:∃ sn,sn=aj nm:=⟨_,rfl⟩
   rw [← hsn] at x2 KI;have HEV:=Hd hev2;have HLF1:=Hd hlf1;have HY:=Hd hY;have hgb:g < wr.heap.size:=ak hlf1;have HWL:=Hd hwl;clear hev2 hcs he hsn hL hes hx' hY hT1 hT' hT2 hYN hN hlen hlf1 hT hX hl0 HLF hle hlf hwl hwk hwn hz hq hl1;(go_upto_region 4 with (fail));obtain ⟨w5,q9,o5,hY5,-⟩:=nb wr (.cells #[.int .i64 k,.int .i64 nn,.string sn,.slice a' L cap',.int .i64 p] 95);rw [← q9];clear q9;have cl5:w5.cell? ⟨g,0,none⟩=some (.int .i64 z):=ac o5 cl (by simp);have hLF5:=o5.heap HLF1.out (by simp);have gl5:=ae 0 hLF5;have hgw:g≠wr.heap.size:=by omega
   (go_upto_region 5 with (fail));have oz:Only [g] w5 (w5.setCell ⟨g,0,none⟩ (.int .i64 (q:Int))):=oc;have hl6:Left (w5.setCell ⟨g,0,none⟩ (.int .i64 (q:Int))) g q:=af (i:=0) (.int .i64 (q:Int)) hLF5;have hY6:=oz.heap hY5 (by simpa using fun e=>hgw e.symm);generalize w5.setCell ⟨g,0,none⟩ (.int .i64 (q:Int))=w6 at oz hl6 hY6⊢;have cl6:w6.cell? ⟨g,0,none⟩=some (.int .i64 (q:Int)):=ab 0 hl6;have y0:w6.cell? ⟨wr.heap.size,0,none⟩=some (.int .i64 k):=ab 0 hY6;have y1:w6.cell? ⟨wr.heap.size,1,none⟩=some (.int .i64 nn):=ab 1 hY6;have y2:w6.cell? ⟨wr.heap.size,2,none⟩=some (.string sn):=ab 2 hY6;have y3:w6.cell? ⟨wr.heap.size,3,none⟩=some (.slice a' L cap'):=ab 3 hY6;have y4:w6.cell? ⟨wr.heap.size,4,none⟩=some (.int .i64 p):=ab 4 hY6;have HO6:=Hd ((HO.out.trans o5 (by simp)).trans oz (fun k hk=>.inl hk));have HL6:=Hd hl6;have HY6:=Hd hY6;have HEV6:=Hd ((HEV.out.quiet o5).kept oz (by simpa using hB) (fun _ h=>h));have KI6:=KI w6;clear o5 hY5 cl5 hLF5 gl5 oz hl6 hY6 cl x0 x1 x2 x3 x4 KI;(go_wp2_with fail);refine KI6.mono ?_;rintro en w7 ⟨rfl,ho7⟩;have HL7:=Hd (show Left w7 g q from ho7.heap HL6.out (by simp));have hY7:=ho7.heap HY6.out (by simp);have y3:w7.cell? ⟨wr.heap.size,3,none⟩=some (.slice a' L cap'):=ab 3 hY7;have K7:=IS' ys (Nat.le_refl _) w7 g q _ B HL7.out (by rw [← HY.out];exact hqY) hq480 HWL.out (HEV6.out.quiet ho7) hB;have HO7:=Hd (HO6.out.trans ho7 (by simp));clear ho7 hY7 KI6 y0 y1 y2 y4 cl6;(go_wp2_with fail);refine K7.mono ?_;rintro en w8 ⟨rfl,hl8,ho8⟩;rw [← HY.out,hql] at hl8;have HL8:=Hd hl8;have HO8:=Hd (HO7.out.trans ho8 (fun k hk=>.inl hk));clear hl8 ho8 K7 y3;(go_wp2_with fail);refine ⟨⟨j+1,by omega,rfl,Hd (by rw [← HT'.out.1,HT'.out.2];exact HL8.out),HO8⟩,?_⟩;simp [intOf];omega
  ·obtain rfl:j=n:=by omega
   have hR:xs.take j=xs:=by rw [HN.out,List.take_length]
   have HR:=Hd hR;clear hR;(go_wp2_with fail);go_ret;exact ⟨rfl,by have:=HLF.out;rw [HR.out] at this;exact this,HO.out⟩
theorem pP (N:Nat):CWlP N:=by
 induction N using Nat.strongRecOn with
 | _ N ih=>exact cwl_step N ih
def CWsP (N:Nat):Prop:=∀ (xs:List St),ah xs≤N→∀ (w:World) (g lf:Nat) (v:Value) (B:Nat→Prop),Left w g lf→ah xs≤lf→lf≤480→wB xs→SsV w B v xs→¬ B g→
 Calls Tryz.prog 93 #[.pointer (some ⟨g,0,none⟩),v] w fun en w'=>en=.returned (.bool true)∧Left w' g (lf - ah xs)∧Only [g] w w'
theorem cws_step (N:Nat) (IS:∀ M,M < N→CWsP M):CWsP N:=by
 intro xs hN w g lf v B hL hle hlf hok hv hB;obtain ⟨a,cap,rfl,hcap,hx⟩:=hv;have hlen:=cI xs;have HX:=Hd hx;have HL:=Hd hL;have HOK:=Hd hok;obtain ⟨n,hn⟩:∃ n,n=xs.length:=⟨_,rfl⟩
 rw [← hn] at hlen⊢;have HN:=Hd hn;have hnb:n≤480:=by omega
 clear hx hn hcap hL hok
 go_enter Tryz.func93,Tryz.ntmps93
 go_wp2_with fail
 go_loopw [9] (fun ix wr=>∃ (j:Nat),j≤n∧ix=.int .i64 (j:Int)∧Hid (Left wr g (lf - ah (xs.take j)))∧Hid (Only [g] w wr)) (fun ix _=>n - (intOf ix).toNat)
 case atStart=>exact ⟨0,Nat.zero_le _,rfl,Hd (by simpa [ah] using HL.out),Hd (Only.refl _ _)⟩
 case round=>
  obtain ⟨j,hjn,rfl,HLF,HO⟩:=hrel
  by_cases hlt:j < n
  ·have hlt':(j:Int) < (n:Int):=by omega
   have j0:(0:Int)≤(j:Int):=by omega
   obtain ⟨e,he⟩:∃ e,xs[j]?=some e:=⟨_,List.getElem?_eq_getElem (by rw [← HN.out];exact hlt)⟩
   obtain ⟨gr,rfl,hgr,hes⟩:∃ gr,a=some ⟨gr,0,none⟩∧B gr∧SsAt w B gr 0 xs:=by
    rcases HX.out with hx | hx
    ·rw [hx] at he;simp at he
    ·exact hx
   obtain ⟨cs,hev,hcs⟩:=SsAt.get xs 0 (SsAt.kept HO.out (by simpa using hB) (fun _ h=>h) hgr 0 xs hes) j e he;have hwe:=vd HOK.out he;obtain ⟨k,nm,ys,nn,bd,els,p⟩:=e;have hT1:=jz he;have hT2:=dv xs (j+1);unfold bn at hT1;unfold SV at hev;unfold wS at hwe;obtain ⟨hwk,hwn,hwl,hwb,hwe⟩:=hwe;obtain ⟨va,a1,c1,a2,c2,rfl,hxs,hb,hels⟩:=hev;have hvb:SsV wr B (.slice a1 bd.length c1) bd:=⟨a1,c1,rfl,hb⟩
   have hve:SsV wr B (.slice a2 els.length c2) els:=⟨a2,c2,rfl,hels⟩
   obtain ⟨a0,c0,rfl,hx0⟩:=hxs;have hvy:EsV wr B (.slice a0 ys.length c0) ys:=⟨a0,c0,rfl,hx0⟩
   have x0:wr.cell? ⟨gr,j*7,none⟩=some (.int .i64 k):=by simpa using hcs 0 _ rfl
   have x1:wr.cell? ⟨gr,j*7+1,none⟩=some (.string (aj nm)):=by simpa using hcs 1 _ rfl
   have x2:wr.cell? ⟨gr,j*7+2,none⟩=some (.slice a0 ys.length c0):=by simpa using hcs 2 _ rfl
   have x3:wr.cell? ⟨gr,j*7+3,none⟩=some (.int .i64 nn):=by simpa using hcs 3 _ rfl
   have x4:wr.cell? ⟨gr,j*7+4,none⟩=some (.slice a1 bd.length c1):=by simpa using hcs 4 _ rfl
   have x5:wr.cell? ⟨gr,j*7+5,none⟩=some (.slice a2 els.length c2):=by simpa using hcs 5 _ rfl
   have x6:wr.cell? ⟨gr,j*7+6,none⟩=some (.int .i64 p):=by simpa using hcs 6 _ rfl
   obtain ⟨sn,hsn⟩:∃ sn,sn=aj nm:=⟨_,rfl⟩
   obtain ⟨L0,hL0⟩:∃ L,L=ys.length:=⟨_,rfl⟩
   obtain ⟨L1,hL1⟩:∃ L,L=bd.length:=⟨_,rfl⟩
   obtain ⟨L2,hL2⟩:∃ L,L=els.length:=⟨_,rfl⟩
   rw [← hsn] at x1;rw [← hL0] at x2 hvy hwk;rw [← hL1] at x4 hvb;rw [← hL2] at x5 hve;obtain ⟨Y0,hY0⟩:∃ Y,Y=aq ys:=⟨_,rfl⟩
   obtain ⟨Y1,hY1⟩:∃ Y,Y=ah bd:=⟨_,rfl⟩
   obtain ⟨Y2,hY2⟩:∃ Y,Y=ah els:=⟨_,rfl⟩
   obtain ⟨T,hT⟩:∃ T,T=ah (xs.take j):=⟨_,rfl⟩
   obtain ⟨X,hX⟩:∃ X,X=ah xs:=⟨_,rfl⟩
   obtain ⟨T',hT'⟩:∃ T',T'=ah (xs.take (j+1)):=⟨_,rfl⟩
   rw [← hY0,← hY1,← hY2,← hT,← hT'] at hT1;rw [← hT',← hX] at hT2;have hlf1:=HLF.out;rw [← hT] at hlf1;rw [← hX] at hN hle;obtain ⟨l0,hl0⟩:∃ l0,lf - T=l0+1+(Y0+Y1+Y2)∧lf - T'=l0:=⟨lf - T',by omega,rfl⟩
   rw [hl0.1] at hlf1;have hN1:ah bd < N:=by rw [← hY1];omega
   have hN2:ah els < N:=by rw [← hY2];omega
   have HT':=Hd (And.intro hT' hl0.2);obtain ⟨z,hz⟩:∃ z:Int,z=((l0+1+(Y0+Y1+Y2):Nat):Int):=⟨_,rfl⟩
   obtain ⟨q,hq⟩:∃ q:Nat,q=l0+(Y0+Y1+Y2):=⟨_,rfl⟩
   have hw0:wrap64 (z - 1)=(q:Int):=by unfold wrap64;omega
   have hq0:¬ (q:Int) < 0:=by omega
   have HQ:=Hd (show q≤480∧Y0≤q∧Y1≤q - Y0∧Y2≤q - Y0 - Y1∧q - Y0 - Y1 - Y2=l0 by omega);unfold Left at hlf1;rw [← hz] at hlf1;have cl:wr.cell? ⟨g,0,none⟩=some (.int .i64 z):=ab 0 hlf1;have KI:=fun W=>pO W k nn p sn a0 a1 a2 L0 c0 L1 c1 L2 c2 hwk;have IS1:=IS _ hN1;have IS2:=IS _ hN2;have HVY:=Hd hvy;have HVB:=Hd hvb;have HVE:=Hd hve;have HLF1:=Hd hlf1;have HY0:=Hd hY0;have HY1:=Hd hY1;have HY2:=Hd hY2;have hgb:g < wr.heap.size:=ak hlf1;have HWL:=Hd (And.intro hwl (And.intro hwb hwe));clear hvy hvb hve hx0 hb hels hcs he hsn hL0 hL1 hL2 hes hY0 hY1 hY2 hT1 hT' hT2 hN1 hN2 hN hlen hlf1 hT hX hl0 HLF hle hlf hwl hwk hwn hwb hwe hz hq;(go_upto_region 4 with (fail));obtain ⟨w5,q9,o5,hY5,-⟩:=nb wr (.cells #[.int .i64 k,.string sn,.slice a0 L0 c0,.int .i64 nn,.slice a1 L1 c1,.slice a2 L2 c2,.int .i64 p] 113);rw [← q9];clear q9;have cl5:w5.cell? ⟨g,0,none⟩=some (.int .i64 z):=ac o5 cl (by simp);have hLF5:=o5.heap HLF1.out (by simp);have gl5:=ae 0 hLF5;have hgw:g≠wr.heap.size:=by omega
   (go_upto_region 5 with (fail));have oz:Only [g] w5 (w5.setCell ⟨g,0,none⟩ (.int .i64 (q:Int))):=oc;have hl6:Left (w5.setCell ⟨g,0,none⟩ (.int .i64 (q:Int))) g q:=af (i:=0) (.int .i64 (q:Int)) hLF5;have hY6:=oz.heap hY5 (by simpa using fun e=>hgw e.symm);generalize w5.setCell ⟨g,0,none⟩ (.int .i64 (q:Int))=w6 at oz hl6 hY6⊢;have cl6:w6.cell? ⟨g,0,none⟩=some (.int .i64 (q:Int)):=ab 0 hl6;have y0:w6.cell? ⟨wr.heap.size,0,none⟩=some (.int .i64 k):=ab 0 hY6;have y1:w6.cell? ⟨wr.heap.size,1,none⟩=some (.string sn):=ab 1 hY6;have y2:w6.cell? ⟨wr.heap.size,2,none⟩=some (.slice a0 L0 c0):=ab 2 hY6;have y3:w6.cell? ⟨wr.heap.size,3,none⟩=some (.int .i64 nn):=ab 3 hY6;have y4:w6.cell? ⟨wr.heap.size,4,none⟩=some (.slice a1 L1 c1):=ab 4 hY6;have y5:w6.cell? ⟨wr.heap.size,5,none⟩=some (.slice a2 L2 c2):=ab 5 hY6;have y6:w6.cell? ⟨wr.heap.size,6,none⟩=some (.int .i64 p):=ab 6 hY6;have o56:Only [g] wr w6:=(o5.mono (T:=[g]) (by simp)).trans oz (fun k hk=>.inl hk);have HO6:=Hd (HO.out.trans o56 (fun k hk=>.inl hk));have HL6:=Hd hl6;have HY6:=Hd hY6;replace HVY:=Hd (HVY.out.kept o56 (by simpa using hB) (fun _ h=>h));replace HVB:=Hd (HVB.out.kept o56 (by simpa using hB) (fun _ h=>h));replace HVE:=Hd (HVE.out.kept o56 (by simpa using hB) (fun _ h=>h));have KI6:=KI w6;clear o5 hY5 cl5 hLF5 gl5 oz hl6 hY6 cl x0 x1 x2 x3 x4 x5 x6 KI o56;(go_wp2_with fail);refine KI6.mono ?_;rintro en w7 ⟨rfl,ho7⟩;have HL7:=Hd (show Left w7 g q from ho7.heap HL6.out (by simp));have HY7:=Hd (ho7.heap HY6.out (by simp));replace HVY:=Hd (HVY.out.quiet ho7);replace HVB:=Hd (HVB.out.quiet ho7);replace HVE:=Hd (HVE.out.quiet ho7);have y2:w7.cell? ⟨wr.heap.size,2,none⟩=some (.slice a0 L0 c0):=ab 2 HY7.out;have K7:=pP _ ys (Nat.le_refl _) w7 g q _ B HL7.out (by rw [← HY0.out];exact HQ.out.2.1) HQ.out.1 HWL.out.1 HVY.out hB;have HO7:=Hd (HO6.out.trans ho7 (by simp));clear ho7 KI6 y0 y1 y3 y4 y5 y6 cl6;(go_wp2_with fail);refine K7.mono ?_;rintro en w8 ⟨rfl,hl8,ho8⟩;rw [← HY0.out] at hl8;have HL8:=Hd hl8;have HY8:=Hd (ho8.heap HY7.out (by simpa using fun e=>hgw e.symm));replace HVB:=Hd (HVB.out.kept ho8 (by simpa using hB) (fun _ h=>h));replace HVE:=Hd (HVE.out.kept ho8 (by simpa using hB) (fun _ h=>h));have y4:w8.cell? ⟨wr.heap.size,4,none⟩=some (.slice a1 L1 c1):=ab 4 HY8.out;have K8:=IS1 bd (Nat.le_refl _) w8 g (q - Y0) _ B hl8 (by rw [← HY1.out];exact HQ.out.2.2.1) (by have:=HQ.out.1;omega) HWL.out.2.1 HVB.out hB;have HO8:=Hd (HO7.out.trans ho8 (fun k hk=>.inl hk));clear ho8 hl8 K7 y2;(go_wp2_with fail);refine K8.mono ?_;rintro en w9 ⟨rfl,hl9,ho9⟩;rw [← HY1.out] at hl9;have HY9:=Hd (ho9.heap HY8.out (by simpa using fun e=>hgw e.symm));replace HVE:=Hd (HVE.out.kept ho9 (by simpa using hB) (fun _ h=>h));have y5:w9.cell? ⟨wr.heap.size,5,none⟩=some (.slice a2 L2 c2):=ab 5 HY9.out;have K9:=IS2 els (Nat.le_refl _) w9 g (q - Y0 - Y1) _ B hl9 (by rw [← HY2.out];exact HQ.out.2.2.2.1) (by have:=HQ.out.1;omega) HWL.out.2.2 HVE.out hB;have HO9:=Hd (HO8.out.trans ho9 (fun k hk=>.inl hk));clear ho9 hl9 K8 y4;(go_wp2_with fail);refine K9.mono ?_;rintro en w10 ⟨rfl,hl10,ho10⟩;rw [← HY2.out,HQ.out.2.2.2.2] at hl10;have HL10:=Hd hl10;have HO10:=Hd (HO9.out.trans ho10 (fun k hk=>.inl hk));clear hl10 ho10 K9 y5;(go_wp2_with fail);refine ⟨⟨j+1,by omega,rfl,Hd (by rw [← HT'.out.1,HT'.out.2];exact HL10.out),HO10⟩,?_⟩;simp [intOf];omega
  ·obtain rfl:j=n:=by omega
   have hR:xs.take j=xs:=by rw [HN.out,List.take_length]
   have HR:=Hd hR;clear hR;(go_wp2_with fail);go_ret;exact ⟨rfl,by have:=HLF.out;rw [HR.out] at this;exact this,HO.out⟩
theorem cws_all (N:Nat):CWsP N:=by
 induction N using Nat.strongRecOn with
 | _ N ih=>exact cws_step N ih
theorem SsV.lt {w:World} {B:Nat→Prop} {v:Value} {l:List St} (h:SsV w B v l):SsV w (fun b=>B b∧b < w.heap.size) v l:=by
 obtain ⟨a,cap,h1,h2,h3⟩:=h;refine ⟨a,cap,h1,h2,?_⟩
 by_cases hx:l=[]
 ·exact .inl hx
 ·rcases h3 with h3 | ⟨g,h4,h5,h6⟩
  ·exact .inl h3
  ·exact .inr ⟨g,h4,⟨h5,SsAt.here hx h6⟩,SsAt.lt g 0 l h6⟩
theorem NmV.lt {w:World} {B:Nat→Prop} {v:Value} {l:List Sec} (h:NmV w B v l):NmV w (fun b=>B b∧b < w.heap.size) v l:=by
 obtain ⟨a,cap,h1,h2,h3⟩:=h;refine ⟨a,cap,h1,h2,?_⟩;cases l with
 | nil=>exact .inl rfl
 | cons x l=>
  rcases h3 with h3 | ⟨g,h4,h5,h6⟩
  ·cases h3
  ·exact .inr ⟨g,h4,⟨h5,World.block_lt_of_cell? _ _ (h6 0 x rfl)⟩,h6⟩
theorem DV.lt {w:World} {B:Nat→Prop} {d:Df} {cs:List Value} (h:DV w B d cs):DV w (fun b=>B b∧b < w.heap.size) d cs:=by
 obtain ⟨v1,v2,v3,v4,h0,h1,h2,h3,h4⟩:=h;exact ⟨v1,v2,v3,v4,h0,h1.lt,h2.lt,h3.lt,h4.lt⟩
structure Whole (d:Df):Prop where
 needs:wL d.needs
 body:wB d.body
 give:wL d.give
 one:d.give.length≤1
 size:aq d.needs+ah d.body+aq d.give≤480
 params:∀ nm∈d.params,nm.length≤65536
 plen:d.params.length≤480
theorem sH {w:World} {B:Nat→Prop} {d:Df} {cs:List Value} (hd:DV w B d cs) (hw:Whole d):Calls Tryz.prog 62 #[.agg cs.toArray] w fun en w'=>en=.returned (.bool true)∧Only [] w w':=by
 obtain ⟨v1,v2,v3,v4,rfl,hv1,hv2,hv3,hv4⟩:=hd.lt;obtain ⟨a1,c1,rfl,-⟩:=hv1;have HV2:=Hd hv2;have HV3:=Hd hv3;have HV4:=Hd hv4;obtain ⟨a2,c2,rfl,-⟩:=hv2;obtain ⟨a3,c3,rfl,-⟩:=hv3;obtain ⟨a4,c4,rfl,-⟩:=hv4;obtain ⟨sn,hsn⟩:∃ sn,sn=aj d.name:=⟨_,rfl⟩
 obtain ⟨L1,hL1⟩:∃ L,L=d.params.length:=⟨_,rfl⟩
 obtain ⟨L2,hL2⟩:∃ L,L=d.needs.length:=⟨_,rfl⟩
 obtain ⟨L3,hL3⟩:∃ L,L=d.body.length:=⟨_,rfl⟩
 obtain ⟨L4,hL4⟩:∃ L,L=d.give.length:=⟨_,rfl⟩
 have hone:=hw.one;rw [← hL2] at HV2;rw [← hL3] at HV3;rw [← hL4] at HV4 hone;rw [← hsn,← hL1,← hL2,← hL3,← hL4];have H:=Hd hw;clear hsn hL1 hL2 hL3 hL4 hw
 go_enter Tryz.func62,Tryz.ntmps62
 go_upto_region 2 with (fail)
 obtain ⟨w2,hw2⟩:∃ w2,w2=(w.alloc (.cells #[.string sn,.slice a1 L1 c1,.slice a2 L2 c2,.slice a3 L3 c3,.slice a4 L4 c4] 60)).alloc (.cells #[.int .i64 480] 150):=⟨_,rfl⟩
 have s1:(w.alloc (.cells #[.string sn,.slice a1 L1 c1,.slice a2 L2 c2,.slice a3 L3 c3,.slice a4 L4 c4] 60)).heap.size=w.heap.size+1:=Array.size_push _;have hA:w2.heap[w.heap.size]?=some (.cells #[.string sn,.slice a1 L1 c1,.slice a2 L2 c2,.slice a3 L3 c3,.slice a4 L4 c4] 60 (0,0)):=by rw [hw2];exact ax _ (ag w _)
 have hLf:Left w2 (w.heap.size+1) 480:=by
  have:=ag (w.alloc (.cells #[.string sn,.slice a1 L1 c1,.slice a2 L2 c2,.slice a3 L3 c3,.slice a4 L4 c4] 60)) (.cells #[.int .i64 480] 150);rw [s1] at this;rw [hw2];exact this
 have o2:Only [] w w2:=by rw [hw2];exact ((Only.refl [] w).alloc _).alloc _
 rw [← hw2];have HA:=Hd hA;replace HV2:=Hd (HV2.out.quiet o2);replace HV3:=Hd (HV3.out.quiet o2);replace HV4:=Hd (HV4.out.quiet o2);have hB:¬ (B (w.heap.size+1)∧w.heap.size+1 < w.heap.size):=fun e=>by omega
 have hg:w.heap.size+1≠w.heap.size:=by omega
 have HO2:=Hd o2;have hsz:=H.out.size;have K2:=pP _ d.needs (Nat.le_refl _) w2 (w.heap.size+1) 480 _ (fun b=>B b∧b < w.heap.size) hLf (by omega) (Nat.le_refl _) H.out.needs HV2.out hB;have y2:w2.cell? ⟨w.heap.size,2,none⟩=some (.slice a2 L2 c2):=ab 2 HA.out;obtain ⟨X2,hX2⟩:∃ X,X=aq d.needs:=⟨_,rfl⟩
 obtain ⟨X3,hX3⟩:∃ X,X=ah d.body:=⟨_,rfl⟩
 obtain ⟨X4,hX4⟩:∃ X,X=aq d.give:=⟨_,rfl⟩
 rw [← hX2,← hX3,← hX4] at hsz;rw [← hX2] at K2;have HSZ:=Hd hsz;have HX3:=Hd hX3;have HX4:=Hd hX4;clear hA hLf o2 hw2 s1 hsz hX2 hX3 hX4;go_wp2_with fail
 refine K2.mono ?_;rintro en w3 ⟨rfl,hl3,ho3⟩;have HA3:=Hd (ho3.heap HA.out (by simp));replace HV3:=Hd (HV3.out.kept ho3 (by simp) (fun _ h=>h));replace HV4:=Hd (HV4.out.kept ho3 (by simp) (fun _ h=>h));have HO3:=Hd (HO2.out.trans (T:=[w.heap.size+1]) ho3 (fun k hk=>.inr (by rw [List.mem_singleton.1 hk];omega)));have K3:=cws_all _ d.body (Nat.le_refl _) w3 (w.heap.size+1) _ _ (fun b=>B b∧b < w.heap.size) hl3 (by have:=HSZ.out;have:=HX3.out;omega) (by omega) H.out.body HV3.out hB;have y3:w3.cell? ⟨w.heap.size,3,none⟩=some (.slice a3 L3 c3):=ab 3 HA3.out;rw [← HX3.out] at K3;clear hl3 ho3 K2 y2;go_wp2_with fail
 refine K3.mono ?_;rintro en w4 ⟨rfl,hl4,ho4⟩;have HA4:=Hd (ho4.heap HA3.out (by simp));replace HV4:=Hd (HV4.out.kept ho4 (by simp) (fun _ h=>h));have HO4:=Hd (HO3.out.trans (T:=[w.heap.size+1]) ho4 (fun k hk=>.inr (by rw [List.mem_singleton.1 hk];omega)));have K4:=pP _ d.give (Nat.le_refl _) w4 (w.heap.size+1) _ _ (fun b=>B b∧b < w.heap.size) hl4 (by have:=HSZ.out;have:=HX4.out;omega) (by omega) H.out.give HV4.out hB;have y4:w4.cell? ⟨w.heap.size,4,none⟩=some (.slice a4 L4 c4):=ab 4 HA4.out;clear hl4 ho4 K3 y3;go_wp2_with fail
 refine K4.mono ?_;rintro en w5 ⟨rfl,hl5,ho5⟩;have HA5:=Hd (ho5.heap HA4.out (by simp));have HO5:=Hd (HO4.out.trans (T:=[w.heap.size+1]) ho5 (fun k hk=>.inr (by rw [List.mem_singleton.1 hk];omega)));have y4:w5.cell? ⟨w.heap.size,4,none⟩=some (.slice a4 L4 c4):=ab 4 HA5.out;have h1:(L4:Int)≤1:=by omega
 clear hl5 ho5 K4;go_wp2_with fail
 go_ret;exact ⟨by simp [h1],HO5.out⟩
end Go.Proofs.YtcebchffcmpfeaaGreat
