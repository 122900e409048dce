import Derived.Test.YtiaeagpepfmfgaaK6q
namespace Go.Proofs.Ytiaeagpepfmfgaa
open Go.RowKit Go.Maps
set_option linter.unusedSimpArgs false
set_option linter.unusedVariables false
theorem opr_wf (x:Sec):(Lit.int .i64 (opr x).2).wf=true:=by
 unfold opr
 repeat' split
 all_goals decide
theorem wf0:(Lit.int .i64 0).wf=true:=by decide
theorem wf1:(Lit.int .i64 1).wf=true:=by decide
theorem wf2:(Lit.int .i64 2).wf=true:=by decide
theorem exprC_wf {s:CS} (hk:∀ z t,s.known z=some t→(Lit.int .i64 t).wf=true) (e:E):(Lit.int .i64 (exprC s e).1).wf=true:=by
 obtain ⟨k,n,nm,xs,p⟩:=e
 unfold exprC
 split
 ·unfold CS.look
  split
  ·exact wf2
  ·split
   ·rename_i t ht
    exact hk _ _ ht
   ·exact wf0
 ·split
  ·exact wf1
  ·split
   ·exact wf1
   ·split
    ·exact wf2
    ·split
     ·split
      ·exact opr_wf nm
      ·exact opr_wf nm
     ·exact wf1
section
variable {w w':World} {g b1 b2:Nat} {s:CS} {B:Nat→Prop} {N:Nat}
theorem CK.wf (h:CK w g b1 b2 s):∀ z t,s.known z=some t→(Lit.int .i64 t).wf=true:=by
 obtain ⟨c,D,_,hr,_⟩:=h.known
 exact hr.wf
set_option maxRecDepth 100000 in
set_option maxHeartbeats 4000000 in
theorem cblock_any (IS:CStmtsP N) {l:List St} (hN:sizeSs l≤N) {v:Value} (h:CK w g b1 b2 s) (hok:okSs l) (hv:SsV w B v l) (hB:∀ k∈[g,b1,b2],¬ B k) :
  Calls Try.prog 88 #[.pointer (some ⟨g,0,none⟩),v] w fun en w'=>en=.returned (.tuple #[])∧CK w' g b1 b2 ((stmtsC s l).forget s.decl.length)∧Only [g,b1,b2] w w':=by
 have K1:=IS l hN w g b1 b2 s v B h hok hv hB
 obtain ⟨a,cap,rfl,-⟩:=hv
 obtain ⟨fv,h1,h2⟩:=h.row
 have c1:w.cell? ⟨g,1,none⟩=some (.map (some b2)):=cell_at 1 h1
 have hlen:=fun ty=>h.decl.len Try.underlying66 ty
 obtain ⟨L,hL⟩:∃ L,L=s.decl.length:=⟨_,rfl⟩
 rw [← hL] at hlen⊢
 clear h1 h2 hL h
 go_enter Try.func88,Try.ntmps88
 go_wp2_with fail
 refine K1.mono ?_
 rintro en w2 ⟨rfl,hk2,ho2⟩
 have K2:=cforget_any hk2 (L:Int)
 have HO2:=Lib.hid ho2
 clear hk2 ho2 K1 c1 hlen
 go_wp2_with fail
 refine K2.mono ?_
 rintro en w3 ⟨rfl,hk3,ho3⟩
 have HK3:=Lib.hid (And.intro hk3 (HO2.out.trans ho3 (fun k hk=>.inl hk)))
 clear hk3 ho3 K2
 go_wp2_with fail
 go_end0
 exact ⟨rfl,HK3.out.1,HK3.out.2⟩
set_option maxRecDepth 100000 in
set_option maxHeartbeats 4000000 in
theorem cloop_any (IS:CStmtsP N) {k nn p:Int} {nm:Sec} {bd:List St} {a0 a1 a2:Option Addr} {L0 L2 c0 c1 c2:Nat} (hN:sizeSs bd≤N) (h:CK w g b1 b2 s) (hnm:nm.length≤65536) (hok:okSs bd) (hv:SsV w B (.slice a1 bd.length c1) bd) (hB:∀ k∈[g,b1,b2],¬ B k) :
  Calls Try.prog 89 #[.pointer (some ⟨g,0,none⟩),.agg #[.int .i64 k,.string (strOf nm),.slice a0 L0 c0,.int .i64 nn,.slice a1 bd.length c1,.slice a2 L2 c2,.int .i64 p]] w
   fun en w'=>en=.returned (.tuple #[])∧CK w' g b1 b2 ((stmtsC (if 64 < nn then (s.declare nm 1 p).fail 11 p else s.declare nm 1 p) bd).forget s.decl.length)∧Only [g,b1,b2] w w':=by
 obtain ⟨sn,hsn⟩:∃ sn,sn=strOf nm:=⟨_,rfl⟩
 obtain ⟨L1,hL1⟩:∃ L,L=bd.length:=⟨_,rfl⟩
 rw [← hsn,← hL1]
 rw [← hL1] at hv
 have o1:Only [] w (w.alloc (.cells #[.int .i64 k,.string sn,.slice a0 L0 c0,.int .i64 nn,.slice a1 L1 c1,.slice a2 L2 c2,.int .i64 p] 102)):=(Only.refl _ _).alloc _
 have HY:=Lib.hid (heap_new w (.cells #[.int .i64 k,.string sn,.slice a0 L0 c0,.int .i64 nn,.slice a1 L1 c1,.slice a2 L2 c2,.int .i64 p] 102))
 have hgw:w.heap.size∉[g,b1,b2]:=by
  have h3:=h.g_lt
  have h4:=h.b1_lt
  have h5:=h.b2_lt
  simp only [List.mem_cons,List.not_mem_nil,or_false,not_or]
  omega
 obtain ⟨w1,hw1⟩:∃ w1,w1=w.alloc (.cells #[.int .i64 k,.string sn,.slice a0 L0 c0,.int .i64 nn,.slice a1 L1 c1,.slice a2 L2 c2,.int .i64 p] 102):=⟨_,rfl⟩
 rw [← hw1] at o1 HY
 have HO1:=Lib.hid o1
 have HW:=Lib.hid hw1
 have HH:=Lib.hid (h.quiet o1)
 have HB:=Lib.hid hB
 have HV:=Lib.hid (hv.quiet o1)
 have HOK:=Lib.hid hok
 have HSN:=Lib.hid hsn
 obtain ⟨fv,h1,h2⟩:=HH.out.row
 have c1':w1.cell? ⟨g,1,none⟩=some (.map (some b2)):=cell_at 1 h1
 have hlen:=fun ty=>HH.out.decl.len Try.underlying66 ty
 obtain ⟨D,hD⟩:∃ D,D=s.decl.length:=⟨_,rfl⟩
 rw [← hD] at hlen⊢
 have K1:=cdeclare_any HH.out nm hnm 1 p (by decide)
 rw [← hsn] at K1
 have y1:w1.cell? ⟨w.heap.size,1,none⟩=some (.string sn):=cell_at 1 HY.out
 have y6:w1.cell? ⟨w.heap.size,6,none⟩=some (.int .i64 p):=cell_at 6 HY.out
 clear h hv hok hsn hL1 hD h1 h2 o1 hw1 hB
 go_enter Try.func89,Try.ntmps89
 go_upto_region 1 with (fail)
 rw [← HW.out]
 go_wp2_with fail
 refine K1.mono ?_
 rintro en w2 ⟨rfl,hk2,ho2⟩
 have HY2:=Lib.hid (ho2.heap HY.out hgw)
 have HK2:=Lib.hid hk2
 have HV2:=Lib.hid (HV.out.kept ho2 HB.out (fun _ h=>h))
 have HO2:=Lib.hid ((HO1.out.mono (T:=[g,b1,b2]) (by simp)).trans ho2 (fun k hk=>.inl hk))
 have y3:w2.cell? ⟨w.heap.size,3,none⟩=some (.int .i64 nn):=cell_at 3 HY2.out
 clear hk2 ho2 K1 y1 y6 c1' hlen HH HO1
 by_cases h64:64 < nn
 ·have y6:w2.cell? ⟨w.heap.size,6,none⟩=some (.int .i64 p):=cell_at 6 HY2.out
  have K2:=cfail_any HK2.out 11 p
  go_wp2_with fail
  refine K2.mono ?_
  rintro en w3 ⟨rfl,hk3,ho3⟩
  have hsub:Only [g,b1,b2] w2 w3:=ho3.mono (by simp)
  have HY3:=Lib.hid (hsub.heap HY2.out hgw)
  have K3:=IS bd hN w3 g b1 b2 _ _ B hk3 HOK.out (HV2.out.kept hsub HB.out (fun _ h=>h)) HB.out
  have HO3:=Lib.hid (HO2.out.trans hsub (fun k hk=>.inl hk))
  have y4:w3.cell? ⟨w.heap.size,4,none⟩=some (.slice a1 L1 c1):=cell_at 4 HY3.out
  clear hk3 ho3 hsub K2 y3 y6
  go_wp2_with fail
  refine K3.mono ?_
  rintro en w4 ⟨rfl,hk4,ho4⟩
  have K4:=cforget_any hk4 (D:Int)
  have HO4:=Lib.hid (HO3.out.trans ho4 (fun k hk=>.inl hk))
  clear hk4 ho4 K3 y4
  go_wp2_with fail
  refine K4.mono ?_
  rintro en w5 ⟨rfl,hk5,ho5⟩
  have HK5:=Lib.hid (And.intro hk5 (HO4.out.trans ho5 (fun k hk=>.inl hk)))
  clear hk5 ho5 K4
  go_wp2_with fail
  go_end0
  first | exact ⟨rfl,HK5.out.1,HK5.out.2⟩ | (rw [if_pos h64];exact ⟨rfl,HK5.out.1,HK5.out.2⟩)
 ·have K3:=IS bd hN w2 g b1 b2 _ _ B HK2.out HOK.out HV2.out HB.out
  have HO3:=HO2
  have y4:w2.cell? ⟨w.heap.size,4,none⟩=some (.slice a1 L1 c1):=cell_at 4 HY2.out
  go_wp2_with fail
  refine K3.mono ?_
  rintro en w4 ⟨rfl,hk4,ho4⟩
  have K4:=cforget_any hk4 (D:Int)
  have HO4:=Lib.hid (HO3.out.trans ho4 (fun k hk=>.inl hk))
  clear hk4 ho4 K3 y4
  go_wp2_with fail
  refine K4.mono ?_
  rintro en w5 ⟨rfl,hk5,ho5⟩
  have HK5:=Lib.hid (And.intro hk5 (HO4.out.trans ho5 (fun k hk=>.inl hk)))
  clear hk5 ho5 K4
  go_wp2_with fail
  go_end0
  first | exact ⟨rfl,HK5.out.1,HK5.out.2⟩ | (rw [if_neg (by omega)];exact ⟨rfl,HK5.out.1,HK5.out.2⟩)
set_option maxRecDepth 100000 in
set_option maxHeartbeats 8000000 in
theorem cstmt_step (N:Nat) (hN6:N≤1000000) (IS:CStmtsP N):CStmtP (N+1):=by
 intro e hN w g b1 b2 s cs B h hok hev hB
 obtain ⟨k,nm,ys,nn,bd,els,p⟩:=e
 unfold okS at hok
 obtain ⟨hk1,hk8,hnm,hne,hokl,hokb,hoke⟩:=hok
 have hsy:sizeL ys≤N:=by unfold sizeS at hN;omega
 have hsb:sizeSs bd≤N:=by unfold sizeS at hN;omega
 have hse:sizeSs els≤N:=by unfold sizeS at hN;omega
 obtain ⟨IE,IT⟩:=cexpr_all N hN6
 unfold SV at hev
 obtain ⟨va,a1,c1,a2,c2,rfl,hxs,hb,hels⟩:=hev
 obtain ⟨a0,c0,rfl,hc0,hx0⟩:=hxs
 obtain ⟨R,hR⟩:∃ R,R=stmtC s (.mk k nm ys nn bd els p):=⟨_,rfl⟩
 rw [← hR]
 unfold stmtC at hR
 have hvb:SsV w B (.slice a1 bd.length c1) bd:=⟨a1,c1,rfl,hb⟩
 have hve:SsV w B (.slice a2 els.length c2) els:=⟨a2,c2,rfl,hels⟩
 obtain ⟨sn,hsn⟩:∃ sn,sn=strOf nm:=⟨_,rfl⟩
 obtain ⟨L0,hL0⟩:∃ L,L=ys.length:=⟨_,rfl⟩
 obtain ⟨L1,hL1⟩:∃ L,L=bd.length:=⟨_,rfl⟩
 obtain ⟨L2,hL2⟩:∃ L,L=els.length:=⟨_,rfl⟩
 rw [← hsn,← hL0,← hL1,← hL2]
 have o1:Only [] w (w.alloc (.cells #[.int .i64 k,.string sn,.slice a0 L0 c0,.int .i64 nn,.slice a1 L1 c1,.slice a2 L2 c2,.int .i64 p] 102)):=(Only.refl _ _).alloc _
 have HY:=Lib.hid (heap_new w (.cells #[.int .i64 k,.string sn,.slice a0 L0 c0,.int .i64 nn,.slice a1 L1 c1,.slice a2 L2 c2,.int .i64 p] 102))
 have hgw:w.heap.size∉[g,b1,b2]:=by
  have h3:=h.g_lt
  have h4:=h.b1_lt
  have h5:=h.b2_lt
  simp only [List.mem_cons,List.not_mem_nil,or_false,not_or]
  omega
 obtain ⟨w1,hw1⟩:∃ w1,w1=w.alloc (.cells #[.int .i64 k,.string sn,.slice a0 L0 c0,.int .i64 nn,.slice a1 L1 c1,.slice a2 L2 c2,.int .i64 p] 102):=⟨_,rfl⟩
 rw [← hw1] at o1 HY
 have HO1:=Lib.hid o1
 have HW:=Lib.hid hw1
 have HH:=Lib.hid (h.quiet o1)
 have HB:=Lib.hid hB
 have HSN:=Lib.hid hsn
 have HL0:=Lib.hid hL0
 have HL1:=Lib.hid hL1
 have HL2:=Lib.hid hL2
 have HVB:=Lib.hid (hvb.quiet o1)
 have HVE:=Lib.hid (hve.quiet o1)
 have hvy:EsW w1 B (.slice a0 L0 c0) ys:=by
  refine ⟨a0,c0,by rw [hL0],hx0.imp id ?_⟩
  rintro ⟨gr,rfl,hb,h3⟩
  exact ⟨gr,0,rfl,hb,(EsAt.eso ys 0 0 rfl h3).kept o1 (by simp) hb⟩
 have HVY:=Lib.hid hvy
 have hBg:¬ B g:=hB g (by simp)
 clear h hvb hve hsn hL0 hL1 hL2 o1 hw1 hB hb hels hx0 hvy
 by_cases h1:k=1
 ·subst h1
  obtain ⟨e1,es,rfl⟩:∃ e1 es,ys=e1 :: es:=by
   cases ys with
   | nil=>exact absurd rfl (hne rfl)
   | cons e1 es=>exact ⟨e1,es,rfl⟩
  have hRR:R=(exprC s e1).2.declare nm (exprC s e1).1 p:=by rw [hR,if_pos rfl]
  obtain ⟨a0',cap',hsl,hx⟩:=HVY.out
  injection hsl with ea el ec
  rw [← ea] at hx
  clear ea el ec
  obtain ⟨gr,off,rfl,hgr,heo⟩:∃ gr off,a0=some ⟨gr,off,none⟩∧B gr∧EsO w1 B gr off (e1 :: es):=by
   rcases hx with hx | hx
   ·cases hx
   ·exact hx
  obtain ⟨cs,hev,hcs⟩:=heo 0 e1 rfl
  obtain ⟨k1,n1,nm1,ys1,p1⟩:=e1
  have hev':=hev
  unfold EV at hev'
  obtain ⟨aa,cap1,rfl,-,-⟩:=hev'
  obtain ⟨ee,hee⟩:∃ ee,ee=E.mk k1 n1 nm1 ys1 p1:=⟨_,rfl⟩
  obtain ⟨sn1,hsn1⟩:∃ sn1,sn1=strOf nm1:=⟨_,rfl⟩
  obtain ⟨M1,hM1⟩:∃ L1,L1=ys1.length:=⟨_,rfl⟩
  rw [← hee] at hev hsy hokl hRR
  have z0:w1.cell? ⟨gr,off,none⟩=some (.int .i64 k1):=by simpa using hcs 0 _ rfl
  have z1:w1.cell? ⟨gr,off+1,none⟩=some (.int .i64 n1):=by simpa using hcs 1 _ rfl
  have z2:w1.cell? ⟨gr,off+2,none⟩=some (.string (strOf nm1)):=by simpa using hcs 2 _ rfl
  have z3:w1.cell? ⟨gr,off+3,none⟩=some (.slice aa ys1.length cap1):=by simpa using hcs 3 _ rfl
  have z4:w1.cell? ⟨gr,off+4,none⟩=some (.int .i64 p1):=by simpa using hcs 4 _ rfl
  rw [← hsn1] at z2 hev
  rw [← hM1] at z3 hev
  have K1:=IE ee (by unfold sizeL at hsy;omega) w1 g b1 b2 s _ B HH.out (by unfold okL at hokl;exact hokl.1) hev hBg
  have hwf:=exprC_wf HH.out.wf ee
  have hL0':(0:Int) < (L0:Int):=by have:=HL0.out;simp at this;omega
  have y2:w1.cell? ⟨w.heap.size,2,none⟩=some (.slice (some ⟨gr,off,none⟩) L0 c0):=cell_at 2 HY.out
  obtain ⟨t,ht⟩:∃ t,t=(exprC s ee).1:=⟨_,rfl⟩
  obtain ⟨s1,hs1⟩:∃ s1,s1=(exprC s ee).2:=⟨_,rfl⟩
  rw [← ht,← hs1] at K1 hRR
  rw [← ht] at hwf
  have HRR:=Lib.hid hRR
  clear hRR ht hs1 hev hcs heo hx hsn1 hM1 hee
  clear hR
  go_enter Try.func82,Try.ntmps82
  go_upto_region 4 with (fail)
  rw [← HW.out]
  go_wp2_with fail
  refine K1.mono ?_
  rintro en w2 ⟨rfl,hk2,ho2⟩
  have hsub:Only [g,b1,b2] w1 w2:=ho2.mono (by simp)
  have HY2:=Lib.hid (hsub.heap HY.out hgw)
  have HO2:=Lib.hid ((HO1.out.mono (T:=[g,b1,b2]) (by simp)).trans hsub (fun k hk=>.inl hk))
  have K2:=cdeclare_any hk2 nm hnm t p hwf
  rw [← HSN.out] at K2
  have y1:w2.cell? ⟨w.heap.size,1,none⟩=some (.string sn):=cell_at 1 HY2.out
  have y6:w2.cell? ⟨w.heap.size,6,none⟩=some (.int .i64 p):=cell_at 6 HY2.out
  clear hk2 ho2 hsub K1 y2 z0 z1 z2 z3 z4
  go_wp2_with fail
  refine K2.mono ?_
  rintro en w4 ⟨rfl,hk4,ho4⟩
  have HK9:=Lib.hid (And.intro hk4 (HO2.out.trans ho4 (fun k hk=>.inl hk)))
  clear hk4 ho4 K2 y1 y6
  go_wp2_with fail
  go_end0
  rw [HRR.out]
  exact ⟨rfl,HK9.out.1,HK9.out.2⟩
 ·by_cases h6:k=6
  ·subst h6
   have hRR:R=(stmtsC ((stmtsC (typedC s 2 ys) bd).forget (typedC s 2 ys).decl.length) els).forget ((stmtsC (typedC s 2 ys) bd).forget (typedC s 2 ys).decl.length).decl.length:=by rw [hR,if_neg (by decide),if_pos rfl]
   have HRR:=Lib.hid hRR
   clear hRR
   have y2:w1.cell? ⟨w.heap.size,2,none⟩=some (.slice a0 L0 c0):=cell_at 2 HY.out
   have K1:=IT ys hsy w1 g b1 b2 s _ B 2 HH.out hokl HVY.out hBg
   clear hR
   go_enter Try.func82,Try.ntmps82
   go_upto_region 7 with (fail)
   rw [← HW.out]
   go_wp2_with fail
   refine K1.mono ?_
   rintro en w2 ⟨rfl,hk2,ho2⟩
   have hsub:Only [g,b1,b2] w1 w2:=ho2.mono (by simp)
   have HY2:=Lib.hid (hsub.heap HY.out hgw)
   have HVB2:=Lib.hid (HVB.out.kept hsub HB.out (fun _ h=>h))
   have HVE2:=Lib.hid (HVE.out.kept hsub HB.out (fun _ h=>h))
   have HO2:=Lib.hid ((HO1.out.mono (T:=[g,b1,b2]) (by simp)).trans hsub (fun k hk=>.inl hk))
   have K2:=cblock_any IS hsb hk2 hokb HVB2.out HB.out
   rw [← HL1.out] at K2
   have y4:w2.cell? ⟨w.heap.size,4,none⟩=some (.slice a1 L1 c1):=cell_at 4 HY2.out
   clear hk2 ho2 hsub K1 y2
   go_wp2_with fail
   refine K2.mono ?_
   rintro en w3 ⟨rfl,hk3,ho3⟩
   have HY3:=Lib.hid (ho3.heap HY2.out hgw)
   have HVE3:=Lib.hid (HVE2.out.kept ho3 HB.out (fun _ h=>h))
   have HO3:=Lib.hid (HO2.out.trans ho3 (fun k hk=>.inl hk))
   have K3:=cblock_any IS hse hk3 hoke HVE3.out HB.out
   rw [← HL2.out] at K3
   have y5:w3.cell? ⟨w.heap.size,5,none⟩=some (.slice a2 L2 c2):=cell_at 5 HY3.out
   clear hk3 ho3 K2 y4
   go_wp2_with fail
   refine K3.mono ?_
   rintro en w4 ⟨rfl,hk4,ho4⟩
   have HK9:=Lib.hid (And.intro hk4 (HO3.out.trans ho4 (fun k hk=>.inl hk)))
   clear hk4 ho4 K3 y5
   go_wp2_with fail
   go_end0
   rw [HRR.out]
   exact ⟨rfl,HK9.out.1,HK9.out.2⟩
  ·by_cases h78:k=7∨k=8
   ·have hRR:R=(stmtsC (if 64 < nn then (s.declare nm 1 p).fail 11 p else s.declare nm 1 p) bd).forget s.decl.length:=by rw [hR,if_neg h1,if_neg h6,if_pos h78]
    have HRR:=Lib.hid hRR
    have K1:=cloop_any (s:=s) IS (k:=k) (nn:=nn) (p:=p) (nm:=nm) (a0:=a0) (a2:=a2) (L0:=L0) (L2:=L2) (c0:=c0) (c2:=c2) hsb HH.out hnm hokb HVB.out HB.out
    rw [← HSN.out,← HL1.out] at K1
    have y0:w1.cell? ⟨w.heap.size,0,none⟩=some (.int .i64 k):=cell_at 0 HY.out
    have y1:w1.cell? ⟨w.heap.size,1,none⟩=some (.string sn):=cell_at 1 HY.out
    have y2:w1.cell? ⟨w.heap.size,2,none⟩=some (.slice a0 L0 c0):=cell_at 2 HY.out
    have y3:w1.cell? ⟨w.heap.size,3,none⟩=some (.int .i64 nn):=cell_at 3 HY.out
    have y4:w1.cell? ⟨w.heap.size,4,none⟩=some (.slice a1 L1 c1):=cell_at 4 HY.out
    have y5:w1.cell? ⟨w.heap.size,5,none⟩=some (.slice a2 L2 c2):=cell_at 5 HY.out
    have y6:w1.cell? ⟨w.heap.size,6,none⟩=some (.int .i64 p):=cell_at 6 HY.out
    clear hRR h1 h6
    rcases h78 with rfl | rfl<;>
    ·skip
     clear hR
     go_enter Try.func82,Try.ntmps82
     go_upto_region 12 with (fail)
     rw [← HW.out]
     go_wp2_with fail
     refine K1.mono ?_
     rintro en w4 ⟨rfl,hk4,ho4⟩
     have HK9:=Lib.hid (And.intro hk4 ((HO1.out.mono (T:=[g,b1,b2]) (by simp)).trans ho4 (fun k hk=>.inl hk)))
     clear hk4 ho4 K1
     go_wp2_with fail
     go_end0
     rw [HRR.out]
     exact ⟨rfl,HK9.out.1,HK9.out.2⟩
   ·have hRR:R=typedC s 1 ys:=by rw [hR,if_neg h1,if_neg h6,if_neg h78]
    have HRR:=Lib.hid hRR
    have e1:(k == 1)=false:=by simpa using h1
    have e6:(k == 6)=false:=by simpa using h6
    have e7:(k == 7)=false:=by simp only [beq_eq_false_iff_ne];exact fun e=>h78 (.inl e)
    have e8:(k == 8)=false:=by simp only [beq_eq_false_iff_ne];exact fun e=>h78 (.inr e)
    have y2:w1.cell? ⟨w.heap.size,2,none⟩=some (.slice a0 L0 c0):=cell_at 2 HY.out
    have K1:=IT ys hsy w1 g b1 b2 s _ B 1 HH.out hokl HVY.out hBg
    clear hRR
    clear hR
    go_enter Try.func82,Try.ntmps82
    go_upto_region 2 with (fail)
    rw [← HW.out]
    go_wp2_with fail
    refine K1.mono ?_
    rintro en w4 ⟨rfl,hk4,ho4⟩
    have HK9:=Lib.hid (And.intro hk4 ((HO1.out.mono (T:=[g,b1,b2]) (by simp)).trans (ho4.mono (T:=[g,b1,b2]) (by simp)) (fun k hk=>.inl hk)))
    clear hk4 ho4 K1
    go_wp2_with fail
    go_end0
    rw [HRR.out]
    exact ⟨rfl,HK9.out.1,HK9.out.2⟩
theorem cstmts_all (N:Nat) (hN:N≤1000000):CStmtP N∧CStmtsP N:=by
 induction N with
 | zero=>
  have h0:CStmtP 0:=fun e he=>by cases e;unfold sizeS at he;omega
  exact ⟨h0,cstmts_step 0 hN h0⟩
 | succ N ih=>
  obtain ⟨h1,h2⟩:=ih (by omega)
  have h3:=cstmt_step N (by omega) h2
  exact ⟨h3,cstmts_step (N+1) hN h3⟩
end
end Go.Proofs.Ytiaeagpepfmfgaa
