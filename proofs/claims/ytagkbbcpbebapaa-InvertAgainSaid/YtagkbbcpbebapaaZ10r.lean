import Derived.Test.YtagkbbcpbebapaaZ9r
namespace Go.Proofs.Ytagkbbcpbebapaa
open Go.RowKit Go.Maps
set_option linter.unusedSimpArgs false
set_option linter.unusedVariables false
set_option maxRecDepth 100000 in
set_option maxHeartbeats 4000000 in
theorem pround_any (N:Nat) (IB:BPr N) {w:World} {g b:Nat} {L:List Sec} {C:Nat} {n:Int} {s:PS} {cs:List Value} {B:Nat→Prop} {k:Int} {nm:Sec} {ys:List E} {nn:Int} {bd els:List St} {p:Int}
  (hsz:sizeSs bd≤N) (h:RM w g b L C n s) (hok:OkB L bd) (hnm:nm.length≤65536) (hin:nm∈L) (hev:SV w B (.mk k nm ys nn bd els p) cs) (hg:¬ B g) (hb:¬ B b) (i:Int) (hi:n64 i) :
  Calls Try.prog 72 #[.pointer (some ⟨g,0,none⟩),.agg cs.toArray,.int .i64 i] w fun en w'=>en=.returned (.tuple #[])∧RM w' g b L C n (pgB bd ⟨s.c,nput s.m nm i⟩)∧Only [g,b] w w':=by
 unfold SV at hev
 obtain ⟨va,a1,c1,a2,c2,rfl,⟨a0,c0,rfl,-⟩,hbd,-⟩:=hev
 have hv:SsV w B (.slice a1 bd.length c1) bd:=⟨a1,c1,rfl,hbd⟩
 obtain ⟨sn,hsn⟩:∃ sn,sn=strOf nm:=⟨_,rfl⟩
 obtain ⟨L0,hL0⟩:∃ L,L=ys.length:=⟨_,rfl⟩
 obtain ⟨L1,hL1⟩:∃ L,L=bd.length:=⟨_,rfl⟩
 obtain ⟨L2,hL2⟩:∃ L,L=els.length:=⟨_,rfl⟩
 rw [← hsn,← hL0,← hL1,← hL2]
 rw [← hL1] at hv
 have HV:=Hd hv
 have H:=Hd h
 have HOK:=Hd hok
 have HSN:=Hd hsn
 have HIN:=Hd hin
 have HI:=Hd hi
 clear hbd hv h hok hsn hL0 hL1 hL2 hin hi
 go_enter Try.func72,Try.ntmps72
 go_upto_region 1 with (fail)
 have o5:Only [] w (w.alloc (.cells #[.int .i64 k,.string sn,.slice a0 L0 c0,.int .i64 nn,.slice a1 L1 c1,.slice a2 L2 c2,.int .i64 p] 61)):=(Only.refl _ _).alloc _
 have hY:=heap_new w (.cells #[.int .i64 k,.string sn,.slice a0 L0 c0,.int .i64 nn,.slice a1 L1 c1,.slice a2 L2 c2,.int .i64 p] 61)
 generalize w.alloc (.cells #[.int .i64 k,.string sn,.slice a0 L0 c0,.int .i64 nn,.slice a1 L1 c1,.slice a2 L2 c2,.int .i64 p] 61)=w1 at o5 hY⊢
 have oD:=o5.drew
 have hY':=(Only.refl [] w1).drew.heap hY (by simp)
 have hR:=H.out.quiet oD
 obtain ⟨cnt,hmap,hcnt⟩:=hR.names
 have hlim:=hR.lim
 have y1:w1.drew.cell? ⟨w.heap.size,1,none⟩=some (.string sn):=cell_at 1 hY'
 have y4:w1.drew.cell? ⟨w.heap.size,4,none⟩=some (.slice a1 L1 c1):=cell_at 4 hY'
 have y61:=hR.map
 have hwb:w.heap.size≠b:=by have:=H.out.b_lt;omega
 refine wp_region_held_drew (S:=fun w'=>w'.cell? ⟨w.heap.size,1,none⟩=some (.string sn)∧w'.cell? ⟨g,61,none⟩=some (.map (some b))) (by kernel_rfl) ⟨y1,y61⟩ (fun hH=>?_)
 have HR:=Hd hR
 have HM:=Hd hmap
 have HO:=Hd oD
 clear o5 hY hY' hR hmap oD y1 y61
 generalize w1.drew=wd at HR HM HO y4 hH⊢
 refine tk 0 hH ?_
 refine tk 1 hH ?_
 refine tk 2 hH ?_
 refine tk 3 hH ?_
 refine tk 4 hH ?_
 refine tk 5 hH ?_
 refine tk 6 hH ?_
 refine rd 7 (fun K hK=>?_)
 refine step_nmap_store (by rfl) (.tmp 9) (.tmp 11) (.tmp 12) (by rfl) Try.underlying70 Try.underlying3 (by rfl) HM.out (by omega) nm (by rw [← HSN.out];rfl) hnm i (by rfl) (n64_wf HI.out) (fun w2 hm2 o2=>?_)
 have HR2:=Hd (HR.out.put HIN.out HI.out hcnt hm2 o2)
 have HO2:=Hd ((HO.out.mono (T:=[b]) (by simp)).trans o2 (fun k hk=>.inl hk))
 have y4':=cell_kept o2 y4 (by simpa using hwb)
 refine hK.out _ _ ⟨cell_kept o2 hH.1 (by simpa using hwb),cell_kept o2 hH.2 (by simpa using HR.out.ne.symm)⟩ (fun hH=>?_)
 have hv2:SsV w2 B (.slice a1 L1 c1) bd:=(HV.out.kept HO2.out (by simpa using hb) (fun _ h=>h))
 have KX:=IB bd hsz w2 g b L C n _ _ B HR2.out HOK.out hv2 hg hb
 clear hK K y4 o2 hm2 HM
 refine wpAnyH_done (by kernel_rfl) ?_ _
 clear hH
 go_wp2_with fail
 refine KX.mono ?_
 rintro en w3 ⟨rfl,hk3,ho3⟩
 have HK3:=Hd hk3
 have HO3:=Hd ((HO2.out.mono (T:=[g,b]) (by simp)).trans ho3 (fun k hk=>.inl hk))
 clear hk3 ho3 KX y4'
 go_wp2_with fail
 go_end0
 exact ⟨rfl,HK3.out,HO3.out⟩
set_option maxRecDepth 100000 in
set_option maxHeartbeats 16000000 in
theorem pstmt_step (N:Nat) (IB:BPr N):SPr (N+1):=by
 intro x hN w g b L C n s cs B h hok hev hg hb
 obtain ⟨k,nm,ys,nn,bd,els,p⟩:=x
 obtain ⟨hi,hnm,hwl,hgl,okb,oke,hfew,hin⟩:=hok.parts
 have hs1:sizeSs bd≤N∧sizeSs els≤N:=by unfold sizeS at hN;omega
 have hev0:=hev
 unfold SV at hev
 obtain ⟨va,a1,c1,a2,c2,rfl,⟨a0,c0,rfl,-,hx⟩,hbd,hels⟩:=hev
 have hvb:SsV w B (.slice a1 bd.length c1) bd:=⟨a1,c1,rfl,hbd⟩
 have hve:SsV w B (.slice a2 els.length c2) els:=⟨a2,c2,rfl,hels⟩
 obtain ⟨R,hR⟩:∃ R,R=pgS (.mk k nm ys nn bd els p) s:=⟨_,rfl⟩
 rw [← hR]
 unfold pgS at hR
 obtain ⟨sn,hsn⟩:∃ sn,sn=strOf nm:=⟨_,rfl⟩
 obtain ⟨L0,hL0⟩:∃ L,L=ys.length:=⟨_,rfl⟩
 obtain ⟨L1,hL1⟩:∃ L,L=bd.length:=⟨_,rfl⟩
 obtain ⟨L2,hL2⟩:∃ L,L=els.length:=⟨_,rfl⟩
 rw [← hsn,← hL0,← hL1,← hL2] at hev0⊢
 rw [← hL1] at hvb
 rw [← hL2] at hve
 have HX:=Hd hx
 have HVB:=Hd hvb
 have HVE:=Hd hve
 have HSV:=Hd hev0
 have HSN:=Hd hsn
 have HL0:=Hd hL0
 have o1:Only [] w (w.alloc (.cells #[.int .i64 k,.string sn,.slice a0 L0 c0,.int .i64 nn,.slice a1 L1 c1,.slice a2 L2 c2,.int .i64 p] 61)):=(Only.refl _ _).alloc _
 have HY:=Hd (heap_new w (.cells #[.int .i64 k,.string sn,.slice a0 L0 c0,.int .i64 nn,.slice a1 L1 c1,.slice a2 L2 c2,.int .i64 p] 61))
 obtain ⟨w1,hw1⟩:∃ w1,w1=w.alloc (.cells #[.int .i64 k,.string sn,.slice a0 L0 c0,.int .i64 nn,.slice a1 L1 c1,.slice a2 L2 c2,.int .i64 p] 61):=⟨_,rfl⟩
 rw [← hw1] at o1 HY
 have HO1:=Hd o1
 have HW:=Hd hw1
 have HH:=Hd (h.quiet o1)
 have hwg:w.heap.size≠g:=by have:=h.g_lt;omega
 have hwb:w.heap.size≠b:=by have:=h.b_lt;omega
 clear h hx hsn hL0 hL1 hL2 hN o1 hw1 hok hbd hels hvb hve hev0
 by_cases h1:k=1
 ·subst h1
  rw [if_pos rfl] at hR
  have hlen:ys.length=1:=by rcases hi with hi | hi | hi<;>omega
  clear hi
  obtain ⟨y,rfl⟩:∃ y,ys=[y]:=by
   rcases ys with _ | ⟨y,_ | ⟨z,zs⟩⟩
   ·simp at hlen
   ·exact ⟨y,rfl⟩
   ·simp at hlen
  obtain ⟨gr,rfl,hgr,hes⟩:∃ gr,a0=some ⟨gr,0,none⟩∧B gr∧EsO w B gr 0 [y]:=by
   rcases HX.out with hx | ⟨gr,h1,h2,h3⟩
   ·cases hx
   ·exact ⟨gr,h1,h2,EsAt.eso [y] 0 0 rfl h3⟩
  obtain ⟨k1,n1,sn1,b1,l1,d1,p1,hev1,hat1⟩:=hes.at5 (j:=0) rfl
  have hat:=hat1.kept HO1.out (by simp)
  have hl1:L0=1:=by rw [HL0.out];rfl
  subst hl1
  have z0:w1.cell? ⟨gr,0,none⟩=some (.int .i64 k1):=hat.c0
  have z1:w1.cell? ⟨gr,1,none⟩=some (.int .i64 n1):=hat.c1
  have z2:w1.cell? ⟨gr,2,none⟩=some (.string sn1):=hat.c2
  have z3:w1.cell? ⟨gr,3,none⟩=some (.slice b1 l1 d1):=hat.c3
  have z4:w1.cell? ⟨gr,4,none⟩=some (.int .i64 p1):=hat.c4
  have y1:w1.cell? ⟨w.heap.size,1,none⟩=some (.string sn):=cell_at 1 HY.out
  have y2:w1.cell? ⟨w.heap.size,2,none⟩=some (.slice (some ⟨gr,0,none⟩) 1 c0):=cell_at 2 HY.out
  have wy:wE y:=by unfold wL at hwl;exact hwl.1
  have gy:gE y:=by unfold gL at hgl;exact hgl.1
  have hev2:EV w1 B y [.int .i64 k1,.int .i64 n1,.string sn1,.slice b1 l1 d1,.int .i64 p1]:=hev1.quiet HO1.out
  have KX:=fun (w2:World) (o2:Only [] w1 w2)=>pexpr_any (HH.out.quiet o2) wy gy (hev2.quiet o2)
  rw [exVs_one] at hR
  have HR:=Hd hR
  have HV:=Hd (exV_n64 HH.out.sw.1 HH.out.sw.2 y gy)
  generalize exV s.c s.m y=V at KX HR HV
  have HKX:=Hd KX
  have hgb:gr≠b:=fun e=>hb (e ▸ hgr)
  have hgg:gr≠g:=fun e=>hg (e ▸ hgr)
  clear hR hat hat1 hev1 hev2 hes hwl hgl wy gy KX
  obtain ⟨cnt,hmap,hcnt⟩:=HH.out.names
  have hlim:=HH.out.lim
  have y61:=HH.out.map
  go_enter Try.func50,Try.ntmps50
  go_upto_region 4 with (fail)
  rw [← HW.out]
  have oD:Only [] w1 w1.drew:=(Only.refl [] w1).drew
  refine wp_region_held_drew (S:=fun w1=>w1.cell? ⟨w.heap.size,1,none⟩=some (.string sn)∧w1.cell? ⟨w.heap.size,2,none⟩=some (.slice (some ⟨gr,0,none⟩) 1 c0)∧w1.cell? ⟨g,61,none⟩=some (.map (some b))∧w1.cell? ⟨gr,0,none⟩=some (.int .i64 k1)∧w1.cell? ⟨gr,1,none⟩=some (.int .i64 n1)∧w1.cell? ⟨gr,2,none⟩=some (.string sn1)∧w1.cell? ⟨gr,3,none⟩=some (.slice b1 l1 d1)∧w1.cell? ⟨gr,4,none⟩=some (.int .i64 p1)) (by kernel_rfl) ⟨cell_kept oD y1 (by simp),cell_kept oD y2 (by simp),cell_kept oD y61 (by simp),cell_kept oD z0 (by simp),cell_kept oD z1 (by simp),cell_kept oD z2 (by simp),cell_kept oD z3 (by simp),cell_kept oD z4 (by simp)⟩ (fun hH=>?_)
  have HO2:=Hd oD
  have HM:=Hd hmap
  clear oD y1 y2 y61 z0 z1 z2 z3 z4 hmap
  generalize w1.drew=wd at HO2 hH⊢
  refine tk 0 hH ?_
  refine tk 1 hH ?_
  refine tk 2 hH ?_
  refine tk 3 hH ?_
  refine tk 4 hH ?_
  refine tk 5 hH ?_
  refine tk 6 hH ?_
  refine tk 7 hH ?_
  refine tk 8 hH ?_
  refine tk 9 hH ?_
  refine tk 10 hH ?_
  refine rd 11 (fun K hK=>?_)
  go_simp
  refine (HKX.out wd HO2.out).mono ?_
  rintro e w3 ⟨rfl,o3⟩
  replace HO2:=Hd (HO2.out.trans o3 (by simp))
  refine hK.out _ _ ⟨cell_kept o3 hH.1 (by simp),cell_kept o3 hH.2.1 (by simp),cell_kept o3 hH.2.2.1 (by simp),cell_kept o3 hH.2.2.2.1 (by simp),cell_kept o3 hH.2.2.2.2.1 (by simp),cell_kept o3 hH.2.2.2.2.2.1 (by simp),cell_kept o3 hH.2.2.2.2.2.2.1 (by simp),cell_kept o3 hH.2.2.2.2.2.2.2 (by simp)⟩ (fun hH=>?_)
  clear hK K o3
  refine rd 12 (fun K hK=>?_)
  refine step_nmap_store (by rfl) (.tmp 30) (.tmp 32) (.tmp 38) (by rfl) Try.underlying70 Try.underlying3 (by rfl) (HM.out.kept HO2.out (by simp)) (by omega) nm (by rw [← HSN.out];rfl) hnm V (by rfl) (n64_wf HV.out) (fun w4 hm4 o4=>?_)
  have HR4:=Hd ((HH.out.quiet HO2.out).put (hin (.inl rfl)) HV.out hcnt hm4 o4)
  have HO4:=Hd (((HO1.out.trans HO2.out (by simp)).mono (T:=[b]) (by simp)).trans o4 (fun k hk=>.inl hk))
  refine hK.out _ _ ⟨cell_kept o4 hH.1 (by simpa using hwb),cell_kept o4 hH.2.1 (by simpa using hwb),cell_kept o4 hH.2.2.1 (by simpa using HH.out.ne.symm),cell_kept o4 hH.2.2.2.1 (by simpa using hgb),cell_kept o4 hH.2.2.2.2.1 (by simpa using hgb),cell_kept o4 hH.2.2.2.2.2.1 (by simpa using hgb),cell_kept o4 hH.2.2.2.2.2.2.1 (by simpa using hgb),cell_kept o4 hH.2.2.2.2.2.2.2 (by simpa using hgb)⟩ (fun hH=>?_)
  clear hK K o4 hm4
  refine wpAnyH_done (by kernel_rfl) ?_ _
  clear hH
  go_wp2_with fail
  go_end0
  rw [HR.out]
  exact ⟨rfl,HR4.out,HO4.out.mono (by simp)⟩
 ·rw [if_neg h1] at hR
  by_cases h6:k=6
  ·subst h6
   rw [if_pos rfl] at hR
   have hlen:ys.length=1:=by rcases hi with hi | hi | hi<;>omega
   clear hi
   obtain ⟨y,rfl⟩:∃ y,ys=[y]:=by
    rcases ys with _ | ⟨y,_ | ⟨z,zs⟩⟩
    ·simp at hlen
    ·exact ⟨y,rfl⟩
    ·simp at hlen
   obtain ⟨gr,rfl,hgr,hes⟩:∃ gr,a0=some ⟨gr,0,none⟩∧B gr∧EsO w B gr 0 [y]:=by
    rcases HX.out with hx | ⟨gr,h1,h2,h3⟩
    ·cases hx
    ·exact ⟨gr,h1,h2,EsAt.eso [y] 0 0 rfl h3⟩
   obtain ⟨k1,n1,sn1,b1,l1,d1,p1,hev1,hat1⟩:=hes.at5 (j:=0) rfl
   have hat:=hat1.kept HO1.out (by simp)
   have hl1:L0=1:=by rw [HL0.out];rfl
   subst hl1
   have z0:w1.cell? ⟨gr,0,none⟩=some (.int .i64 k1):=hat.c0
   have z1:w1.cell? ⟨gr,1,none⟩=some (.int .i64 n1):=hat.c1
   have z2:w1.cell? ⟨gr,2,none⟩=some (.string sn1):=hat.c2
   have z3:w1.cell? ⟨gr,3,none⟩=some (.slice b1 l1 d1):=hat.c3
   have z4:w1.cell? ⟨gr,4,none⟩=some (.int .i64 p1):=hat.c4
   have y1:w1.cell? ⟨w.heap.size,1,none⟩=some (.string sn):=cell_at 1 HY.out
   have y2:w1.cell? ⟨w.heap.size,2,none⟩=some (.slice (some ⟨gr,0,none⟩) 1 c0):=cell_at 2 HY.out
   have wy:wE y:=by unfold wL at hwl;exact hwl.1
   have gy:gE y:=by unfold gL at hgl;exact hgl.1
   have hev2:EV w1 B y [.int .i64 k1,.int .i64 n1,.string sn1,.slice b1 l1 d1,.int .i64 p1]:=hev1.quiet HO1.out
   have KX:=fun (w2:World) (o2:Only [] w1 w2)=>pexpr_any (HH.out.quiet o2) wy gy (hev2.quiet o2)
   rw [exVs_one] at hR
   have HR:=Hd hR
   have HV:=Hd (exV_n64 HH.out.sw.1 HH.out.sw.2 y gy)
   generalize exV s.c s.m y=V at KX HR HV
   have HKX:=Hd KX
   have hgb:gr≠b:=fun e=>hb (e ▸ hgr)
   have hgg:gr≠g:=fun e=>hg (e ▸ hgr)
   clear hR hat hat1 hev1 hev2 hes hwl hgl wy gy KX
   have y4:w1.cell? ⟨w.heap.size,4,none⟩=some (.slice a1 L1 c1):=cell_at 4 HY.out
   have y5:w1.cell? ⟨w.heap.size,5,none⟩=some (.slice a2 L2 c2):=cell_at 5 HY.out
   go_enter Try.func50,Try.ntmps50
   go_upto_region 6 with (fail)
   rw [← HW.out]
   go_wp2_with fail
   refine (HKX.out w1 (Only.refl _ _)).mono ?_
   rintro e w2 ⟨rfl,o2⟩
   have HOQ:=Hd o2
   have y4:=cell_kept o2 y4 (by simp)
   have y5:=cell_kept o2 y5 (by simp)
   clear o2 y1 y2 z0 z1 z2 z3 z4
   by_cases hV:V=0
   ·subst hV
    have hR:=HR.out
    rw [if_neg (by simp)] at hR
    replace HR:=Hd hR
    clear hR
    go_wp2_with fail
    refine (IB els hs1.2 w2 g b L C n _ _ B (HH.out.quiet HOQ.out) oke (HVE.out.kept (HO1.out.trans HOQ.out (by simp)) (by simp) (fun _ h=>h)) hg hb).mono ?_
    rintro en w3 ⟨rfl,hk3,ho3⟩
    have HK3:=Hd hk3
    have HO3:=Hd (((HO1.out.trans HOQ.out (by simp)).mono (T:=[g,b]) (by simp)).trans ho3 (fun k hk=>.inl hk))
    clear hk3 ho3
    go_wp2_with fail
    go_end0
    rw [HR.out]
    exact ⟨rfl,HK3.out,HO3.out⟩
   ·have hV':(V != 0)=true:=by simpa using hV
    have hR:=HR.out
    rw [if_pos hV] at hR
    replace HR:=Hd hR
    clear hR
    go_wp2_with fail
    refine (IB bd hs1.1 w2 g b L C n _ _ B (HH.out.quiet HOQ.out) okb (HVB.out.kept (HO1.out.trans HOQ.out (by simp)) (by simp) (fun _ h=>h)) hg hb).mono ?_
    rintro en w3 ⟨rfl,hk3,ho3⟩
    have HK3:=Hd hk3
    have HO3:=Hd (((HO1.out.trans HOQ.out (by simp)).mono (T:=[g,b]) (by simp)).trans ho3 (fun k hk=>.inl hk))
    clear hk3 ho3
    go_wp2_with fail
    go_end0
    rw [HR.out]
    exact ⟨rfl,HK3.out,HO3.out⟩
  ·rw [if_neg h6] at hR
   have e1:(k == 1)=false:=by simpa using h1
   have e6:(k == 6)=false:=by simpa using h6
   by_cases h7:k=7
   ·subst h7
    rw [if_pos rfl] at hR
    have hnn:=hfew (.inl rfl)
    obtain ⟨q,rfl⟩:∃ q:Nat,nn=(q:Int):=⟨nn.toNat,by omega⟩
    have hq:q≤64:=by omega
    rw [show ((q:Int)).toNat=q from rfl] at hR
    have HR:=Hd hR
    have hnl:=hin (.inr (.inl rfl))
    have y3:w1.cell? ⟨w.heap.size,3,none⟩=some (.int .i64 (q:Int)):=cell_at 3 HY.out
    clear hR hnn hi
    go_enter Try.func50,Try.ntmps50
    go_upto_region 10 with (fail)
    rw [← HW.out]
    go_wp2_with fail
    go_loopw [4,60] (fun ia ib wr=>∃ j:Nat,j≤q∧ib=.int .i64 (j:Int)∧Hid (RM wr g b L C n (loopA (fun i s=>pgB bd ⟨s.c,nput s.m nm (i:Int)⟩) j s))∧Hid (Only [g,b] w1 wr)) (fun ia ib _=>q - (intOf ib).toNat)
    case atStart=>exact ⟨0,Nat.zero_le _,rfl,HH,Hd (Only.refl _ _)⟩
    case round=>
     obtain ⟨j,hjq,rfl,HK,HO⟩:=hrel
     by_cases hlt:j < q
     ·have hlt':(j:Int) < (q:Int):=by omega
      have hNB:=two_notB (B:=fun k=>k=w.heap.size) (g:=g) (b:=b) hwg.symm hwb.symm
      have hns:w.heap.size∉[g,b]:=fun hm=>hNB _ hm rfl
      have y0:wr.cell? ⟨w.heap.size,0,none⟩=some (.int .i64 7):=cell_kept HO.out (cell_at 0 HY.out) hns
      have y1:wr.cell? ⟨w.heap.size,1,none⟩=some (.string sn):=cell_kept HO.out (cell_at 1 HY.out) hns
      have y2:wr.cell? ⟨w.heap.size,2,none⟩=some (.slice a0 L0 c0):=cell_kept HO.out (cell_at 2 HY.out) hns
      have y3:wr.cell? ⟨w.heap.size,3,none⟩=some (.int .i64 (q:Int)):=cell_kept HO.out (cell_at 3 HY.out) hns
      have y4:wr.cell? ⟨w.heap.size,4,none⟩=some (.slice a1 L1 c1):=cell_kept HO.out (cell_at 4 HY.out) hns
      have y5:wr.cell? ⟨w.heap.size,5,none⟩=some (.slice a2 L2 c2):=cell_kept HO.out (cell_at 5 HY.out) hns
      have y6:wr.cell? ⟨w.heap.size,6,none⟩=some (.int .i64 p):=cell_kept HO.out (cell_at 6 HY.out) hns
      have ho01:Only [g,b] w wr:=(HO1.out.mono (T:=[g,b]) (by simp)).trans HO.out (fun k hk=>.inl hk)
      have KX:=pround_any N IB hs1.1 HK.out okb hnm hnl (SV.kept ho01 (two_notB hg hb) (fun _ h=>h) _ _ HSV.out) hg hb (j:Int) (by unfold n64;omega)
      have hEQ:=trivial
      clear hNB hns ho01
      go_wp2_with fail
      refine KX.mono ?_
      rintro en w3 ⟨rfl,hk3,ho3⟩
      have HK3:=Hd hk3
      have HO3:=Hd (HO.out.trans ho3 (fun k hk=>.inl hk))
      clear hk3 ho3 KX y0 y1 y2 y3 y4 y5 y6
      go_wp2_with fail
      refine ⟨⟨j+1,by omega,by go_num,HK3,HO3⟩,?_⟩
      simp [intOf]
      omega
     ·obtain rfl:j=q:=by omega
      have HO3:=Hd ((HO1.out.mono (T:=[g,b]) (by simp)).trans HO.out (fun k hk=>.inl hk))
      go_wp2_with fail
      go_end0
      rw [HR.out]
      exact ⟨rfl,HK.out,HO3.out⟩
   ·rw [if_neg h7] at hR
    have e7:(k == 7)=false:=by simpa using h7
    by_cases h8:k=8
    ·subst h8
     rw [if_pos rfl] at hR
     have hnn:=hfew (.inr rfl)
     obtain ⟨q,rfl⟩:∃ q:Nat,nn=(q:Int):=⟨nn.toNat,by omega⟩
     have hq:q≤64:=by omega
     rw [show ((q:Int)).toNat=q from rfl] at hR
     have HR:=Hd hR
     have hnl:=hin (.inr (.inr rfl))
     have y3:w1.cell? ⟨w.heap.size,3,none⟩=some (.int .i64 (q:Int)):=cell_at 3 HY.out
     clear hR hnn hi
     go_enter Try.func50,Try.ntmps50
     go_upto_region 16 with (fail)
     rw [← HW.out]
     go_wp2_with fail
     go_loopw [5,72] (fun ia ib wr=>∃ j:Nat,j≤q∧ib=.int .i64 (j:Int)∧Hid (RM wr g b L C n (loopA (fun i s=>pgB bd ⟨s.c,nput s.m nm ((q:Int) - 1 - (i:Int))⟩) j s))∧Hid (Only [g,b] w1 wr)) (fun ia ib _=>q - (intOf ib).toNat)
     case atStart=>exact ⟨0,Nat.zero_le _,rfl,HH,Hd (Only.refl _ _)⟩
     case round=>
      obtain ⟨j,hjq,rfl,HK,HO⟩:=hrel
      by_cases hlt:j < q
      ·have hlt':(j:Int) < (q:Int):=by omega
       have hNB:=two_notB (B:=fun k=>k=w.heap.size) (g:=g) (b:=b) hwg.symm hwb.symm
       have hns:w.heap.size∉[g,b]:=fun hm=>hNB _ hm rfl
       have y0:wr.cell? ⟨w.heap.size,0,none⟩=some (.int .i64 8):=cell_kept HO.out (cell_at 0 HY.out) hns
       have y1:wr.cell? ⟨w.heap.size,1,none⟩=some (.string sn):=cell_kept HO.out (cell_at 1 HY.out) hns
       have y2:wr.cell? ⟨w.heap.size,2,none⟩=some (.slice a0 L0 c0):=cell_kept HO.out (cell_at 2 HY.out) hns
       have y3:wr.cell? ⟨w.heap.size,3,none⟩=some (.int .i64 (q:Int)):=cell_kept HO.out (cell_at 3 HY.out) hns
       have y4:wr.cell? ⟨w.heap.size,4,none⟩=some (.slice a1 L1 c1):=cell_kept HO.out (cell_at 4 HY.out) hns
       have y5:wr.cell? ⟨w.heap.size,5,none⟩=some (.slice a2 L2 c2):=cell_kept HO.out (cell_at 5 HY.out) hns
       have y6:wr.cell? ⟨w.heap.size,6,none⟩=some (.int .i64 p):=cell_kept HO.out (cell_at 6 HY.out) hns
       have ho01:Only [g,b] w wr:=(HO1.out.mono (T:=[g,b]) (by simp)).trans HO.out (fun k hk=>.inl hk)
       have KX:=pround_any N IB hs1.1 HK.out okb hnm hnl (SV.kept ho01 (two_notB hg hb) (fun _ h=>h) _ _ HSV.out) hg hb ((q:Int) - 1 - (j:Int)) (by unfold n64;omega)
       have hEQ:wrap64 (wrap64 ((q:Int) - 1) - (j:Int))=(q:Int) - 1 - (j:Int):=by unfold wrap64;omega
       clear hNB hns ho01
       go_wp2_with fail
       refine KX.mono ?_
       rintro en w3 ⟨rfl,hk3,ho3⟩
       have HK3:=Hd hk3
       have HO3:=Hd (HO.out.trans ho3 (fun k hk=>.inl hk))
       clear hk3 ho3 KX y0 y1 y2 y3 y4 y5 y6
       go_wp2_with fail
       refine ⟨⟨j+1,by omega,by go_num,HK3,HO3⟩,?_⟩
       simp [intOf]
       omega
      ·obtain rfl:j=q:=by omega
       have HO3:=Hd ((HO1.out.mono (T:=[g,b]) (by simp)).trans HO.out (fun k hk=>.inl hk))
       go_wp2_with fail
       go_end0
       rw [HR.out]
       exact ⟨rfl,HK.out,HO3.out⟩
    ·rw [if_neg h8] at hR
     have e8:(k == 8)=false:=by simpa using h8
     have hlen:ys.length=2:=by rcases hi with hi | hi | hi<;>omega
     clear hi
     by_cases h5:k=5
     ·subst h5
      rw [if_pos rfl] at hR
      obtain ⟨y,z,rfl⟩:∃ y z,ys=[y,z]:=by
       rcases ys with _ | ⟨y,_ | ⟨z,_ | ⟨u,us⟩⟩⟩
       ·simp at hlen
       ·simp at hlen
       ·exact ⟨y,z,rfl⟩
       ·simp at hlen
      obtain ⟨gr,rfl,hgr,hes⟩:∃ gr,a0=some ⟨gr,0,none⟩∧B gr∧EsO w B gr 0 [y,z]:=by
       rcases HX.out with hx | ⟨gr,h1,h2,h3⟩
       ·cases hx
       ·exact ⟨gr,h1,h2,EsAt.eso [y,z] 0 0 rfl h3⟩
      obtain ⟨k1,n1,sn1,b1,l1,d1,p1,hev1,hat1⟩:=hes.at5 (j:=0) rfl
      obtain ⟨k2,n2,sn2,b2,l2,d2,p2,hev2,hat2⟩:=hes.at5 (j:=1) rfl
      have q1:=hat1.kept HO1.out (by simp)
      have q2:=hat2.kept HO1.out (by simp)
      have hl1:L0=2:=by rw [HL0.out];rfl
      subst hl1
      have hZ:w1.cell? ⟨w.heap.size,0,none⟩=some (.int .i64 5)∧w1.cell? ⟨w.heap.size,2,none⟩=some (.slice (some ⟨gr,0,none⟩) 2 c0)∧w1.cell? ⟨gr,0,none⟩=some (.int .i64 k1)∧w1.cell? ⟨gr,1,none⟩=some (.int .i64 n1)∧w1.cell? ⟨gr,2,none⟩=some (.string sn1)∧w1.cell? ⟨gr,3,none⟩=some (.slice b1 l1 d1)∧w1.cell? ⟨gr,4,none⟩=some (.int .i64 p1)∧w1.cell? ⟨gr,5,none⟩=some (.int .i64 k2)∧w1.cell? ⟨gr,6,none⟩=some (.int .i64 n2)∧w1.cell? ⟨gr,7,none⟩=some (.string sn2)∧w1.cell? ⟨gr,8,none⟩=some (.slice b2 l2 d2)∧w1.cell? ⟨gr,9,none⟩=some (.int .i64 p2):=
       ⟨cell_at 0 HY.out,cell_at 2 HY.out,q1.c0,q1.c1,q1.c2,q1.c3,q1.c4,q2.c0,q2.c1,q2.c2,q2.c3,q2.c4⟩
      have HZ:=Hd hZ
      have wy:wE y∧wE z:=by unfold wL at hwl;unfold wL at hwl;exact ⟨hwl.1,hwl.2.1⟩
      have gy:gE y∧gE z:=by unfold gL at hgl;unfold gL at hgl;exact ⟨hgl.1,hgl.2.1⟩
      have HEV1:=Hd (hev1.quiet HO1.out)
      have HEV2:=Hd (hev2.quiet HO1.out)
      have HKX:=Hd (fun (w2:World) (o2:Only [] w1 w2)=>pexpr_any (HH.out.quiet o2) wy.1 gy.1 (HEV1.out.quiet o2))
      have HKY:=Hd (fun (w2:World) (o2:Only [] w1 w2)=>pexpr_any (HH.out.quiet o2) wy.2 gy.2 (HEV2.out.quiet o2))
      rw [exVs_one,exVs_two] at hR
      have HR:=Hd hR
      have HV1:=Hd (exV_n64 HH.out.sw.1 HH.out.sw.2 y gy.1)
      have HV2:=Hd (exV_n64 HH.out.sw.1 HH.out.sw.2 z gy.2)
      generalize exV s.c s.m y=V1 at HKX HR HV1
      generalize exV s.c s.m z=V2 at HKY HR HV2
      clear hR hat1 hat2 hev1 hev2 hes hwl hgl wy gy q1 q2 hZ
      have hgg:gr≠g:=fun e=>hg (e ▸ hgr)
      go_enter Try.func50,Try.ntmps50
      go_upto_region 22 with (fail)
      rw [← HW.out]
      have hZ:=HZ.out
      have oD:Only [] w1 w1.drew:=(Only.refl [] w1).drew
      refine wp_region_held_drew (S:=fun w1=>w1.cell? ⟨w.heap.size,0,none⟩=some (.int .i64 5)∧w1.cell? ⟨w.heap.size,2,none⟩=some (.slice (some ⟨gr,0,none⟩) 2 c0)∧w1.cell? ⟨gr,0,none⟩=some (.int .i64 k1)∧w1.cell? ⟨gr,1,none⟩=some (.int .i64 n1)∧w1.cell? ⟨gr,2,none⟩=some (.string sn1)∧w1.cell? ⟨gr,3,none⟩=some (.slice b1 l1 d1)∧w1.cell? ⟨gr,4,none⟩=some (.int .i64 p1)∧w1.cell? ⟨gr,5,none⟩=some (.int .i64 k2)∧w1.cell? ⟨gr,6,none⟩=some (.int .i64 n2)∧w1.cell? ⟨gr,7,none⟩=some (.string sn2)∧w1.cell? ⟨gr,8,none⟩=some (.slice b2 l2 d2)∧w1.cell? ⟨gr,9,none⟩=some (.int .i64 p2)) (by kernel_rfl) ⟨cell_kept oD hZ.1 (by simp),cell_kept oD hZ.2.1 (by simp),cell_kept oD hZ.2.2.1 (by simp),cell_kept oD hZ.2.2.2.1 (by simp),cell_kept oD hZ.2.2.2.2.1 (by simp),cell_kept oD hZ.2.2.2.2.2.1 (by simp),cell_kept oD hZ.2.2.2.2.2.2.1 (by simp),cell_kept oD hZ.2.2.2.2.2.2.2.1 (by simp),cell_kept oD hZ.2.2.2.2.2.2.2.2.1 (by simp),cell_kept oD hZ.2.2.2.2.2.2.2.2.2.1 (by simp),cell_kept oD hZ.2.2.2.2.2.2.2.2.2.2.1 (by simp),cell_kept oD hZ.2.2.2.2.2.2.2.2.2.2.2 (by simp)⟩ (fun hH=>?_)
      have HO2:=Hd oD
      clear oD hZ
      generalize w1.drew=wd at HO2 hH⊢
      refine tk 0 hH ?_
      refine tk 1 hH ?_
      refine tk 2 hH ?_
      refine tk 3 hH ?_
      refine tk 4 hH ?_
      refine tk 5 hH ?_
      refine tk 8 hH ?_
      refine tk 9 hH ?_
      refine tk 10 hH ?_
      refine tk 11 hH ?_
      refine tk 12 hH ?_
      refine tk 13 hH ?_
      refine rd 6 (fun K hK=>?_)
      go_simp
      refine (HKX.out wd HO2.out).mono ?_
      rintro e w3 ⟨rfl,o3⟩
      replace HO2:=Hd (HO2.out.trans o3 (by simp))
      refine hK.out _ _ ⟨cell_kept o3 hH.1 (by simp),cell_kept o3 hH.2.1 (by simp),cell_kept o3 hH.2.2.1 (by simp),cell_kept o3 hH.2.2.2.1 (by simp),cell_kept o3 hH.2.2.2.2.1 (by simp),cell_kept o3 hH.2.2.2.2.2.1 (by simp),cell_kept o3 hH.2.2.2.2.2.2.1 (by simp),cell_kept o3 hH.2.2.2.2.2.2.2.1 (by simp),cell_kept o3 hH.2.2.2.2.2.2.2.2.1 (by simp),cell_kept o3 hH.2.2.2.2.2.2.2.2.2.1 (by simp),cell_kept o3 hH.2.2.2.2.2.2.2.2.2.2.1 (by simp),cell_kept o3 hH.2.2.2.2.2.2.2.2.2.2.2 (by simp)⟩ (fun hH=>?_)
      clear hK K o3
      have KC:=pcell_any (HH.out.quiet HO2.out) V1 HV1.out
      refine rd 7 (fun K hK=>?_)
      go_simp
      refine KC.mono ?_
      rintro e w4 ⟨rfl,o3⟩
      replace HO2:=Hd (HO2.out.trans o3 (by simp))
      refine hK.out _ _ ⟨cell_kept o3 hH.1 (by simp),cell_kept o3 hH.2.1 (by simp),cell_kept o3 hH.2.2.1 (by simp),cell_kept o3 hH.2.2.2.1 (by simp),cell_kept o3 hH.2.2.2.2.1 (by simp),cell_kept o3 hH.2.2.2.2.2.1 (by simp),cell_kept o3 hH.2.2.2.2.2.2.1 (by simp),cell_kept o3 hH.2.2.2.2.2.2.2.1 (by simp),cell_kept o3 hH.2.2.2.2.2.2.2.2.1 (by simp),cell_kept o3 hH.2.2.2.2.2.2.2.2.2.1 (by simp),cell_kept o3 hH.2.2.2.2.2.2.2.2.2.2.1 (by simp),cell_kept o3 hH.2.2.2.2.2.2.2.2.2.2.2 (by simp)⟩ (fun hH=>?_)
      clear hK K o3 KC
      refine rd 14 (fun K hK=>?_)
      go_simp
      refine (HKY.out w4 HO2.out).mono ?_
      rintro e w5 ⟨rfl,o3⟩
      replace HO2:=Hd (HO2.out.trans o3 (by simp))
      refine hK.out _ _ ⟨cell_kept o3 hH.1 (by simp),cell_kept o3 hH.2.1 (by simp),cell_kept o3 hH.2.2.1 (by simp),cell_kept o3 hH.2.2.2.1 (by simp),cell_kept o3 hH.2.2.2.2.1 (by simp),cell_kept o3 hH.2.2.2.2.2.1 (by simp),cell_kept o3 hH.2.2.2.2.2.2.1 (by simp),cell_kept o3 hH.2.2.2.2.2.2.2.1 (by simp),cell_kept o3 hH.2.2.2.2.2.2.2.2.1 (by simp),cell_kept o3 hH.2.2.2.2.2.2.2.2.2.1 (by simp),cell_kept o3 hH.2.2.2.2.2.2.2.2.2.2.1 (by simp),cell_kept o3 hH.2.2.2.2.2.2.2.2.2.2.2 (by simp)⟩ (fun hH=>?_)
      clear hK K o3
      have KC:=pcell_any (HH.out.quiet HO2.out) V2 HV2.out
      refine rd 15 (fun K hK=>?_)
      go_simp
      refine KC.mono ?_
      rintro e w6 ⟨rfl,o3⟩
      replace HO2:=Hd (HO2.out.trans o3 (by simp))
      refine hK.out _ _ ⟨cell_kept o3 hH.1 (by simp),cell_kept o3 hH.2.1 (by simp),cell_kept o3 hH.2.2.1 (by simp),cell_kept o3 hH.2.2.2.1 (by simp),cell_kept o3 hH.2.2.2.2.1 (by simp),cell_kept o3 hH.2.2.2.2.2.1 (by simp),cell_kept o3 hH.2.2.2.2.2.2.1 (by simp),cell_kept o3 hH.2.2.2.2.2.2.2.1 (by simp),cell_kept o3 hH.2.2.2.2.2.2.2.2.1 (by simp),cell_kept o3 hH.2.2.2.2.2.2.2.2.2.1 (by simp),cell_kept o3 hH.2.2.2.2.2.2.2.2.2.2.1 (by simp),cell_kept o3 hH.2.2.2.2.2.2.2.2.2.2.2 (by simp)⟩ (fun hH=>?_)
      clear hK K o3 KC
      have KC:=swap_any (HH.out.quiet HO2.out) V1 V2
      refine rd 16 (fun K hK=>?_)
      go_simp
      refine KC.mono ?_
      rintro e w7 ⟨rfl,h7,o7⟩
      have H7:=Hd h7
      have HO7:=Hd (((HO1.out.trans HO2.out (by simp)).mono (T:=[g]) (by simp)).trans o7 (fun k hk=>.inl hk))
      refine hK.out _ _ ⟨cell_kept o7 hH.1 (by simpa using hwg),cell_kept o7 hH.2.1 (by simpa using hwg),cell_kept o7 hH.2.2.1 (by simpa using hgg),cell_kept o7 hH.2.2.2.1 (by simpa using hgg),cell_kept o7 hH.2.2.2.2.1 (by simpa using hgg),cell_kept o7 hH.2.2.2.2.2.1 (by simpa using hgg),cell_kept o7 hH.2.2.2.2.2.2.1 (by simpa using hgg),cell_kept o7 hH.2.2.2.2.2.2.2.1 (by simpa using hgg),cell_kept o7 hH.2.2.2.2.2.2.2.2.1 (by simpa using hgg),cell_kept o7 hH.2.2.2.2.2.2.2.2.2.1 (by simpa using hgg),cell_kept o7 hH.2.2.2.2.2.2.2.2.2.2.1 (by simpa using hgg),cell_kept o7 hH.2.2.2.2.2.2.2.2.2.2.2 (by simpa using hgg)⟩ (fun hH=>?_)
      clear hK K o7 h7 KC
      refine wpAnyH_done (by kernel_rfl) ?_ _
      clear hH
      go_wp2_with fail
      go_end0
      rw [HR.out]
      exact ⟨rfl,H7.out,HO7.out.mono (by simp)⟩
     ·rw [if_neg h5] at hR
      have e5:(k == 5)=false:=by simpa using h5
      obtain ⟨y,z,rfl⟩:∃ y z,ys=[y,z]:=by
       rcases ys with _ | ⟨y,_ | ⟨z,_ | ⟨u,us⟩⟩⟩
       ·simp at hlen
       ·simp at hlen
       ·exact ⟨y,z,rfl⟩
       ·simp at hlen
      obtain ⟨gr,rfl,hgr,hes⟩:∃ gr,a0=some ⟨gr,0,none⟩∧B gr∧EsO w B gr 0 [y,z]:=by
       rcases HX.out with hx | ⟨gr,h1,h2,h3⟩
       ·cases hx
       ·exact ⟨gr,h1,h2,EsAt.eso [y,z] 0 0 rfl h3⟩
      obtain ⟨k1,n1,sn1,b1,l1,d1,p1,hev1,hat1⟩:=hes.at5 (j:=0) rfl
      obtain ⟨k2,n2,sn2,b2,l2,d2,p2,hev2,hat2⟩:=hes.at5 (j:=1) rfl
      have q1:=hat1.kept HO1.out (by simp)
      have q2:=hat2.kept HO1.out (by simp)
      have hl1:L0=2:=by rw [HL0.out];rfl
      subst hl1
      have hZ:w1.cell? ⟨w.heap.size,0,none⟩=some (.int .i64 k)∧w1.cell? ⟨w.heap.size,2,none⟩=some (.slice (some ⟨gr,0,none⟩) 2 c0)∧w1.cell? ⟨gr,0,none⟩=some (.int .i64 k1)∧w1.cell? ⟨gr,1,none⟩=some (.int .i64 n1)∧w1.cell? ⟨gr,2,none⟩=some (.string sn1)∧w1.cell? ⟨gr,3,none⟩=some (.slice b1 l1 d1)∧w1.cell? ⟨gr,4,none⟩=some (.int .i64 p1)∧w1.cell? ⟨gr,5,none⟩=some (.int .i64 k2)∧w1.cell? ⟨gr,6,none⟩=some (.int .i64 n2)∧w1.cell? ⟨gr,7,none⟩=some (.string sn2)∧w1.cell? ⟨gr,8,none⟩=some (.slice b2 l2 d2)∧w1.cell? ⟨gr,9,none⟩=some (.int .i64 p2):=
       ⟨cell_at 0 HY.out,cell_at 2 HY.out,q1.c0,q1.c1,q1.c2,q1.c3,q1.c4,q2.c0,q2.c1,q2.c2,q2.c3,q2.c4⟩
      have HZ:=Hd hZ
      have wy:wE y∧wE z:=by unfold wL at hwl;unfold wL at hwl;exact ⟨hwl.1,hwl.2.1⟩
      have gy:gE y∧gE z:=by unfold gL at hgl;unfold gL at hgl;exact ⟨hgl.1,hgl.2.1⟩
      have HEV1:=Hd (hev1.quiet HO1.out)
      have HEV2:=Hd (hev2.quiet HO1.out)
      have HKX:=Hd (fun (w2:World) (o2:Only [] w1 w2)=>pexpr_any (HH.out.quiet o2) wy.1 gy.1 (HEV1.out.quiet o2))
      have HKY:=Hd (fun (w2:World) (o2:Only [] w1 w2)=>pexpr_any (HH.out.quiet o2) wy.2 gy.2 (HEV2.out.quiet o2))
      rw [exVs_one,exVs_two] at hR
      have HR:=Hd hR
      have HV1:=Hd (exV_n64 HH.out.sw.1 HH.out.sw.2 y gy.1)
      have HV2:=Hd (exV_n64 HH.out.sw.1 HH.out.sw.2 z gy.2)
      generalize exV s.c s.m y=V1 at HKX HR HV1
      generalize exV s.c s.m z=V2 at HKY HR HV2
      clear hR hat1 hat2 hev1 hev2 hes hwl hgl wy gy q1 q2 hZ
      have hgg:gr≠g:=fun e=>hg (e ▸ hgr)
      go_enter Try.func50,Try.ntmps50
      go_upto_region 2 with (fail)
      rw [← HW.out]
      have hZ:=HZ.out
      have oD:Only [] w1 w1.drew:=(Only.refl [] w1).drew
      refine wp_region_held_drew (S:=fun w1=>w1.cell? ⟨w.heap.size,0,none⟩=some (.int .i64 k)∧w1.cell? ⟨w.heap.size,2,none⟩=some (.slice (some ⟨gr,0,none⟩) 2 c0)∧w1.cell? ⟨gr,0,none⟩=some (.int .i64 k1)∧w1.cell? ⟨gr,1,none⟩=some (.int .i64 n1)∧w1.cell? ⟨gr,2,none⟩=some (.string sn1)∧w1.cell? ⟨gr,3,none⟩=some (.slice b1 l1 d1)∧w1.cell? ⟨gr,4,none⟩=some (.int .i64 p1)∧w1.cell? ⟨gr,5,none⟩=some (.int .i64 k2)∧w1.cell? ⟨gr,6,none⟩=some (.int .i64 n2)∧w1.cell? ⟨gr,7,none⟩=some (.string sn2)∧w1.cell? ⟨gr,8,none⟩=some (.slice b2 l2 d2)∧w1.cell? ⟨gr,9,none⟩=some (.int .i64 p2)) (by kernel_rfl) ⟨cell_kept oD hZ.1 (by simp),cell_kept oD hZ.2.1 (by simp),cell_kept oD hZ.2.2.1 (by simp),cell_kept oD hZ.2.2.2.1 (by simp),cell_kept oD hZ.2.2.2.2.1 (by simp),cell_kept oD hZ.2.2.2.2.2.1 (by simp),cell_kept oD hZ.2.2.2.2.2.2.1 (by simp),cell_kept oD hZ.2.2.2.2.2.2.2.1 (by simp),cell_kept oD hZ.2.2.2.2.2.2.2.2.1 (by simp),cell_kept oD hZ.2.2.2.2.2.2.2.2.2.1 (by simp),cell_kept oD hZ.2.2.2.2.2.2.2.2.2.2.1 (by simp),cell_kept oD hZ.2.2.2.2.2.2.2.2.2.2.2 (by simp)⟩ (fun hH=>?_)
      have HO2:=Hd oD
      clear oD hZ
      generalize w1.drew=wd at HO2 hH⊢
      refine tk 0 hH ?_
      refine tk 1 hH ?_
      refine tk 2 hH ?_
      refine tk 3 hH ?_
      refine tk 4 hH ?_
      refine tk 5 hH ?_
      refine tk 6 hH ?_
      refine tk 7 hH ?_
      refine tk 10 hH ?_
      refine tk 11 hH ?_
      refine tk 12 hH ?_
      refine tk 13 hH ?_
      refine tk 14 hH ?_
      refine rd 8 (fun K hK=>?_)
      go_simp
      refine (HKX.out wd HO2.out).mono ?_
      rintro e w3 ⟨rfl,o3⟩
      replace HO2:=Hd (HO2.out.trans o3 (by simp))
      refine hK.out _ _ ⟨cell_kept o3 hH.1 (by simp),cell_kept o3 hH.2.1 (by simp),cell_kept o3 hH.2.2.1 (by simp),cell_kept o3 hH.2.2.2.1 (by simp),cell_kept o3 hH.2.2.2.2.1 (by simp),cell_kept o3 hH.2.2.2.2.2.1 (by simp),cell_kept o3 hH.2.2.2.2.2.2.1 (by simp),cell_kept o3 hH.2.2.2.2.2.2.2.1 (by simp),cell_kept o3 hH.2.2.2.2.2.2.2.2.1 (by simp),cell_kept o3 hH.2.2.2.2.2.2.2.2.2.1 (by simp),cell_kept o3 hH.2.2.2.2.2.2.2.2.2.2.1 (by simp),cell_kept o3 hH.2.2.2.2.2.2.2.2.2.2.2 (by simp)⟩ (fun hH=>?_)
      clear hK K o3
      have KC:=pcell_any (HH.out.quiet HO2.out) V1 HV1.out
      refine rd 9 (fun K hK=>?_)
      go_simp
      refine KC.mono ?_
      rintro e w4 ⟨rfl,o3⟩
      replace HO2:=Hd (HO2.out.trans o3 (by simp))
      refine hK.out _ _ ⟨cell_kept o3 hH.1 (by simp),cell_kept o3 hH.2.1 (by simp),cell_kept o3 hH.2.2.1 (by simp),cell_kept o3 hH.2.2.2.1 (by simp),cell_kept o3 hH.2.2.2.2.1 (by simp),cell_kept o3 hH.2.2.2.2.2.1 (by simp),cell_kept o3 hH.2.2.2.2.2.2.1 (by simp),cell_kept o3 hH.2.2.2.2.2.2.2.1 (by simp),cell_kept o3 hH.2.2.2.2.2.2.2.2.1 (by simp),cell_kept o3 hH.2.2.2.2.2.2.2.2.2.1 (by simp),cell_kept o3 hH.2.2.2.2.2.2.2.2.2.2.1 (by simp),cell_kept o3 hH.2.2.2.2.2.2.2.2.2.2.2 (by simp)⟩ (fun hH=>?_)
      clear hK K o3 KC
      refine rd 15 (fun K hK=>?_)
      go_simp
      refine (HKY.out w4 HO2.out).mono ?_
      rintro e w5 ⟨rfl,o3⟩
      replace HO2:=Hd (HO2.out.trans o3 (by simp))
      refine hK.out _ _ ⟨cell_kept o3 hH.1 (by simp),cell_kept o3 hH.2.1 (by simp),cell_kept o3 hH.2.2.1 (by simp),cell_kept o3 hH.2.2.2.1 (by simp),cell_kept o3 hH.2.2.2.2.1 (by simp),cell_kept o3 hH.2.2.2.2.2.1 (by simp),cell_kept o3 hH.2.2.2.2.2.2.1 (by simp),cell_kept o3 hH.2.2.2.2.2.2.2.1 (by simp),cell_kept o3 hH.2.2.2.2.2.2.2.2.1 (by simp),cell_kept o3 hH.2.2.2.2.2.2.2.2.2.1 (by simp),cell_kept o3 hH.2.2.2.2.2.2.2.2.2.2.1 (by simp),cell_kept o3 hH.2.2.2.2.2.2.2.2.2.2.2 (by simp)⟩ (fun hH=>?_)
      clear hK K o3
      have KC:=change_any (HH.out.quiet HO2.out) k V1 V2 HV2.out
      refine rd 16 (fun K hK=>?_)
      go_simp
      refine KC.mono ?_
      rintro e w7 ⟨rfl,h7,o7⟩
      have H7:=Hd h7
      have HO7:=Hd (((HO1.out.trans HO2.out (by simp)).mono (T:=[g]) (by simp)).trans o7 (fun k hk=>.inl hk))
      refine hK.out _ _ ⟨cell_kept o7 hH.1 (by simpa using hwg),cell_kept o7 hH.2.1 (by simpa using hwg),cell_kept o7 hH.2.2.1 (by simpa using hgg),cell_kept o7 hH.2.2.2.1 (by simpa using hgg),cell_kept o7 hH.2.2.2.2.1 (by simpa using hgg),cell_kept o7 hH.2.2.2.2.2.1 (by simpa using hgg),cell_kept o7 hH.2.2.2.2.2.2.1 (by simpa using hgg),cell_kept o7 hH.2.2.2.2.2.2.2.1 (by simpa using hgg),cell_kept o7 hH.2.2.2.2.2.2.2.2.1 (by simpa using hgg),cell_kept o7 hH.2.2.2.2.2.2.2.2.2.1 (by simpa using hgg),cell_kept o7 hH.2.2.2.2.2.2.2.2.2.2.1 (by simpa using hgg),cell_kept o7 hH.2.2.2.2.2.2.2.2.2.2.2 (by simpa using hgg)⟩ (fun hH=>?_)
      clear hK K o7 h7 KC
      refine wpAnyH_done (by kernel_rfl) ?_ _
      clear hH
      go_wp2_with fail
      go_end0
      rw [HR.out]
      exact ⟨rfl,H7.out,HO7.out.mono (by simp)⟩
theorem prun_all (N:Nat) (hN:N≤1000000):SPr N∧BPr N:=by
 induction N with
 | zero=>
  have h0:SPr 0:=fun e he=>by cases e;unfold sizeS at he;omega
  exact ⟨h0,pblock_step 0 hN h0⟩
 | succ N ih=>
  obtain ⟨h1,h2⟩:=ih (by omega)
  have h3:=pstmt_step N h2
  exact ⟨h3,pblock_step (N+1) hN h3⟩
theorem pblock_any {w:World} {g b:Nat} {L:List Sec} {C:Nat} {n:Int} {s:PS} {v:Value} {B:Nat→Prop} {xs:List St} (h:RM w g b L C n s) (hok:OkB L xs) (hsz:sizeSs xs≤1000000) (hv:SsV w B v xs) (hg:¬ B g) (hb:¬ B b) :
  Calls Try.prog 30 #[.pointer (some ⟨g,0,none⟩),v] w fun en w'=>en=.returned (.tuple #[])∧RM w' g b L C n (pgB xs s)∧Only [g,b] w w':=
 (prun_all _ hsz).2 xs (Nat.le_refl _) w g b L C n s v B h hok hv hg hb
end Go.Proofs.Ytagkbbcpbebapaa
