import Derived.Test.YtiaeagpepfmfgaaK4q
namespace Go.Proofs.Ytiaeagpepfmfgaa
open Go.RowKit Go.Maps
set_option linter.unusedSimpArgs false
set_option linter.unusedVariables false
theorem elem_exprs:Try.prog.underlying 27=some (.slice (Try.prog.elem 27)):=by kernel_rfl
theorem size_ex (w:World):(sizeOf (Try.prog.elem 27)).run Try.prog w=.ok 5 w:=by kernel_rfl
theorem slice_rest {a:Option Addr} (L cap:Nat) (hc:L+1≤cap) (w:World) :
  (Instr.sliceAt 27 (.slice a (L+1) cap) (some (.int .i64 1)) none none).run Try.prog w=.ok (.slice (if cap=1 then a else a.map (·.add (1*5))) L (cap - 1)) w:=by
 rw [run_sliceAt_slice w _ _ _ _ _ elem_exprs,run_slice_l w _ _ _ _ elem_exprs .i64 1 (by omega) (by omega),size_ex]
 simp [Result.andThen,sliced]
set_option maxRecDepth 100000 in
set_option maxHeartbeats 4000000 in
theorem cbinary_any (N:Nat) (IT:CTypedP N) (IE:CExprP N) {w:World} {g b1 b2:Nat} {s:CS} {B:Nat→Prop} {n p:Int} {nm:Sec} {ys:List E} {a:Option Addr} {cap:Nat} (h:CK w g b1 b2 s) (hnm:nm.length≤65536) (hne:ys≠[]) (hok:okL ys) (hsz:sizeL ys≤N)
  (hcap:ys.length≤cap) (hx:ys=[]∨∃ gr,a=some ⟨gr,0,none⟩∧B gr∧EsAt w B gr 0 ys) (hB:¬ B g) :
  Calls Try.prog 87 #[.pointer (some ⟨g,0,none⟩),.agg #[.int .i64 6,.int .i64 n,.string (strOf nm),.slice a ys.length cap,.int .i64 p]] w
   fun en w'=>en=.returned (.int .i64 (opr nm).2)∧CK w' g b1 b2 (if (opr nm).1=0 then alikeC s ys else typedC s (opr nm).1 ys)∧Only [g] w w':=by
 obtain ⟨gr,rfl,hgr,hes⟩:∃ gr,a=some ⟨gr,0,none⟩∧B gr∧EsAt w B gr 0 ys:=by
  rcases hx with hx | hx
  ·exact absurd hx hne
  ·exact hx
 have heo:=EsAt.eso ys 0 0 rfl hes
 obtain ⟨e1,es,rfl⟩:∃ e1 es,ys=e1 :: es:=by
  cases ys with
  | nil=>exact absurd rfl hne
  | cons e1 es=>exact ⟨e1,es,rfl⟩
 obtain ⟨cs,hev,hcs⟩:=heo 0 e1 rfl
 obtain ⟨k1,n1,nm1,ys1,p1⟩:=e1
 have hev':=hev
 unfold EV at hev'
 obtain ⟨a1,cap1,rfl,-,-⟩:=hev'
 obtain ⟨ee,hee⟩:∃ ee,ee=E.mk k1 n1 nm1 ys1 p1:=⟨_,rfl⟩
 rw [← hee] at hok hsz hev hcap heo⊢
 have hge:gr < w.heap.size:=World.block_lt_of_cell? _ _ (hcs 0 _ rfl)
 obtain ⟨sn,hsn⟩:∃ sn,sn=strOf nm:=⟨_,rfl⟩
 obtain ⟨sn1,hsn1⟩:∃ sn1,sn1=strOf nm1:=⟨_,rfl⟩
 obtain ⟨L1,hL1⟩:∃ L1,L1=ys1.length:=⟨_,rfl⟩
 obtain ⟨L,hL⟩:∃ L,L=es.length:=⟨_,rfl⟩
 have z0:w.cell? ⟨gr,0,none⟩=some (.int .i64 k1):=hcs 0 _ rfl
 have z1:w.cell? ⟨gr,1,none⟩=some (.int .i64 n1):=hcs 1 _ rfl
 have z2:w.cell? ⟨gr,2,none⟩=some (.string (strOf nm1)):=hcs 2 _ rfl
 have z3:w.cell? ⟨gr,3,none⟩=some (.slice a1 ys1.length cap1):=hcs 3 _ rfl
 have z4:w.cell? ⟨gr,4,none⟩=some (.int .i64 p1):=hcs 4 _ rfl
 rw [← hsn1] at z2 hev
 rw [← hL1] at z3 hev
 rw [show (ee :: es).length=L+1 by simp [hL]] at hcap⊢
 rw [← hsn]
 have KO:=coperator_any sn
 rw [show sn.data.toList=nm by rw [hsn];simp [strOf]] at KO
 have HZ:=Lib.hid (And.intro z0 (And.intro z1 (And.intro z2 (And.intro z3 z4))))
 have H:=Lib.hid h
 have HEV:=Lib.hid hev
 have HEO:=Lib.hid heo
 have HOK:=Lib.hid hok
 have HLL:=Lib.hid hL
 have HSZ:=Lib.hid hsz
 obtain ⟨pa,hpa⟩:∃ pa,pa=(opr nm).1:=⟨_,rfl⟩
 obtain ⟨wh,hwh⟩:∃ wh,wh=(opr nm).2:=⟨_,rfl⟩
 rw [← hpa,← hwh] at KO
 rw [← hpa,← hwh]
 obtain ⟨R,hR⟩:∃ R,R=if pa=0 then alikeC s (ee :: es) else typedC s pa (ee :: es):=⟨_,rfl⟩
 rw [← hR]
 have HR:=Lib.hid hR
 clear hR
 clear h hes hev heo hok hsz hcs hx hne hsn hsn1 hL1 hL z0 z1 z2 z3 z4 hee
 have HKO:=Lib.hid KO
 clear KO hwh hpa
 go_enter Try.func87,Try.ntmps87
 go_wp2_with fail
 have o1:Only [] w (w.alloc (.cells #[.int .i64 6,.int .i64 n,.string sn,.slice (some ⟨gr,0,none⟩) (L+1) cap,.int .i64 p] 70)):=(Only.refl _ _).alloc _
 have hY:=heap_new w (.cells #[.int .i64 6,.int .i64 n,.string sn,.slice (some ⟨gr,0,none⟩) (L+1) cap,.int .i64 p] 70)
 generalize w.alloc (.cells #[.int .i64 6,.int .i64 n,.string sn,.slice (some ⟨gr,0,none⟩) (L+1) cap,.int .i64 p] 70)=w1 at o1 hY⊢
 refine (HKO.out w1).mono ?_
 rintro en w' ⟨rfl,rfl⟩
 have y3:w1.cell? ⟨w.heap.size,3,none⟩=some (.slice (some ⟨gr,0,none⟩) (L+1) cap):=cell_at 3 hY
 have HO1:=Lib.hid o1
 have HY:=Lib.hid hY
 by_cases hz:pa=0
 ·subst hz
  have hRR:R=typedC (exprC s ee).2 (exprC s ee).1 es:=by
   rw [HR.out,if_pos rfl]
   unfold alikeC
   rfl
  have HRR:=Lib.hid hRR
  have hsl:=fun W=>slice_rest (a:=some ⟨gr,0,none⟩) L cap (by omega) W
  clear hRR
  have z0:w1.cell? ⟨gr,0,none⟩=some (.int .i64 k1):=cell_kept o1 HZ.out.1 (by simp)
  have z1:w1.cell? ⟨gr,1,none⟩=some (.int .i64 n1):=cell_kept o1 HZ.out.2.1 (by simp)
  have z2:w1.cell? ⟨gr,2,none⟩=some (.string sn1):=cell_kept o1 HZ.out.2.2.1 (by simp)
  have z3:w1.cell? ⟨gr,3,none⟩=some (.slice a1 L1 cap1):=cell_kept o1 HZ.out.2.2.2.1 (by simp)
  have z4:w1.cell? ⟨gr,4,none⟩=some (.int .i64 p1):=cell_kept o1 HZ.out.2.2.2.2 (by simp)
  have K1:=IE ee (by have:=HSZ.out;unfold sizeL at this;omega) w1 g b1 b2 s _ B (H.out.quiet o1) (by have:=HOK.out;unfold okL at this;exact this.1) (HEV.out.quiet o1) hB
  have hL0:(0:Int) < (L:Int)+1:=by omega
  clear o1 hY
  go_wp2_with fail
  refine K1.mono ?_
  rintro en w2 ⟨rfl,hk2,ho2⟩
  have hR2:EsW w2 B (.slice (if cap=1 then some ⟨gr,0,none⟩ else (some (⟨gr,0,none⟩:Addr)).map (·.add (1*5))) L (cap - 1)) es:=by
   refine ⟨_,_,by rw [HLL.out],?_⟩
   by_cases h1:cap=1
   ·left
    have:es.length=0:=by rw [← HLL.out];omega
    exact List.eq_nil_of_length_eq_zero this
   ·right
    refine ⟨gr,5,by rw [if_neg h1];rfl,hgr,fun j e hj=>?_⟩
    obtain ⟨cs',e1,e2⟩:=(HEO.out.kept (HO1.out.mono (T:=[g]) (by simp)) (by simpa using hB) hgr).kept ho2 (by simpa using hB) hgr (j+1) e (by simpa using hj)
    refine ⟨cs',e1,fun c u hc=>?_⟩
    have:=e2 c u hc
    rw [show 0+(j+1)*5+c=5+j*5+c by omega] at this
    exact this
  have y3':w2.cell? ⟨w.heap.size,3,none⟩=some (.slice (some ⟨gr,0,none⟩) (L+1) cap):=cell_kept ho2 y3 (by have:=H.out.g_lt;simp;omega)
  have K2:=IT es (by have:=HSZ.out;unfold sizeL at this;omega) w2 g b1 b2 _ _ B (exprC s ee).1 hk2 (by have:=HOK.out;unfold okL at this;exact this.2) hR2 hB
  have HO2:=Lib.hid ((HO1.out.mono (T:=[g]) (by simp)).trans ho2 (fun k hk=>.inl hk))
  generalize (if cap=1 then some ⟨gr,0,none⟩ else (some (⟨gr,0,none⟩:Addr)).map (·.add (1*5)))=ar at hsl K2
  clear hR2 hk2 ho2 z0 z1 z2 z3 z4 K1
  obtain ⟨t,ht⟩:∃ t,t=(exprC s ee).1:=⟨_,rfl⟩
  rw [← ht] at K2 HRR⊢
  have HK2:=Lib.hid K2
  clear K2 ht
  go_wp2_with fail
  refine HK2.out.mono ?_
  rintro en w3 ⟨rfl,hk3,ho3⟩
  have HK3:=Lib.hid (And.intro hk3 (HO2.out.trans ho3 (fun k hk=>.inl hk)))
  clear hk3 ho3
  go_wp2_with fail
  go_ret
  rw [HRR.out]
  exact ⟨rfl,HK3.out.1,HK3.out.2⟩
 ·have hRR:R=typedC s pa (ee :: es):=by rw [HR.out,if_neg hz]
  have HRR:=Lib.hid hRR
  have hz':(pa == 0)=false:=by simpa using hz
  have K2:=IT (ee :: es) HSZ.out w1 g b1 b2 s (.slice (some ⟨gr,0,none⟩) (L+1) cap) B pa (H.out.quiet HO1.out) HOK.out ⟨some ⟨gr,0,none⟩,cap,by simp [HLL.out],.inr ⟨gr,0,rfl,hgr,HEO.out.kept HO1.out (by simp) hgr⟩⟩ hB
  have HK2:=Lib.hid K2
  clear hRR K2
  go_wp2_with fail
  refine HK2.out.mono ?_
  rintro en w3 ⟨rfl,hk3,ho3⟩
  have HK3:=Lib.hid (And.intro hk3 ((HO1.out.mono (T:=[g]) (by simp)).trans ho3 (fun k hk=>.inl hk)))
  clear hk3 ho3
  go_wp2_with fail
  go_ret
  rw [HRR.out]
  exact ⟨rfl,HK3.out.1,HK3.out.2⟩
set_option maxRecDepth 100000 in
set_option maxHeartbeats 8000000 in
theorem cexpr_step (N:Nat) (IT:CTypedP N) (IE:CExprP N):CExprP (N+1):=by
 intro e hN w g b1 b2 s cs B h hok hev hB
 obtain ⟨k,n,nm,ys,p⟩:=e
 unfold okE at hok
 obtain ⟨hnm,hne,hokl⟩:=hok
 have hsz:sizeL ys≤N:=by unfold sizeE at hN;omega
 unfold EV at hev
 obtain ⟨a,cap,rfl,hcap,hx⟩:=hev
 obtain ⟨R,hR⟩:∃ R,R=exprC s (.mk k n nm ys p):=⟨_,rfl⟩
 rw [← hR]
 unfold exprC at hR
 obtain ⟨sn,hsn⟩:∃ sn,sn=strOf nm:=⟨_,rfl⟩
 obtain ⟨L,hL⟩:∃ L,L=ys.length:=⟨_,rfl⟩
 have H:=Lib.hid h
 have HX:=Lib.hid hx
 have HSN:=Lib.hid hsn
 have HL:=Lib.hid hL
 have HOK:=Lib.hid hokl
 rw [← hsn,← hL]
 have o1:Only [] w (w.alloc (.cells #[.int .i64 k,.int .i64 n,.string sn,.slice a L cap,.int .i64 p] 70)):=(Only.refl _ _).alloc _
 have HY:=Lib.hid (heap_new w (.cells #[.int .i64 k,.int .i64 n,.string sn,.slice a L cap,.int .i64 p] 70))
 have hgw:w.heap.size≠g:=by have:=h.g_lt;omega
 have hv:EsW (w.alloc (.cells #[.int .i64 k,.int .i64 n,.string sn,.slice a L cap,.int .i64 p] 70)) B (.slice a L cap) ys:=by
  refine ⟨a,cap,by rw [hL],hx.imp id ?_⟩
  rintro ⟨gr,rfl,hb,h3⟩
  exact ⟨gr,0,rfl,hb,(EsAt.eso ys 0 0 rfl h3).kept o1 (by simp) hb⟩
 obtain ⟨w1,hw1⟩:∃ w1,w1=w.alloc (.cells #[.int .i64 k,.int .i64 n,.string sn,.slice a L cap,.int .i64 p] 70):=⟨_,rfl⟩
 rw [← hw1] at o1 HY hv
 have HO1:=Lib.hid o1
 have HV:=Lib.hid hv
 have HW:=Lib.hid hw1
 have HH:=Lib.hid (h.quiet o1)
 clear h hx hv hsn hL hokl hN o1 hw1
 by_cases h2:k=2
 ·subst h2
  have K:=cname_any HH.out 2 n p nm hnm a L cap
  rw [← HSN.out] at K
  have hRR:R=s.look nm p:=by rw [hR,if_pos rfl]
  have HRR:=Lib.hid hRR
  clear hR hRR
  go_enter Try.func81,Try.ntmps81
  go_upto_region 3 with (fail)
  rw [← HW.out]
  have y0:w1.cell? ⟨w.heap.size,0,none⟩=some (.int .i64 2):=cell_at 0 HY.out
  have y1:w1.cell? ⟨w.heap.size,1,none⟩=some (.int .i64 n):=cell_at 1 HY.out
  have y2:w1.cell? ⟨w.heap.size,2,none⟩=some (.string sn):=cell_at 2 HY.out
  have y3:w1.cell? ⟨w.heap.size,3,none⟩=some (.slice a L cap):=cell_at 3 HY.out
  have y4:w1.cell? ⟨w.heap.size,4,none⟩=some (.int .i64 p):=cell_at 4 HY.out
  go_wp2_with fail
  refine K.mono ?_
  rintro en w3 ⟨rfl,hk3,ho3⟩
  have HK3:=Lib.hid (And.intro hk3 ((HO1.out.mono (T:=[g]) (by simp)).trans ho3 (fun k hk=>.inl hk)))
  clear hk3 ho3
  go_wp2_with fail
  go_ret
  rw [HRR.out]
  exact ⟨rfl,HK3.out.1,HK3.out.2⟩
 ·by_cases h3:k=3
  ·subst h3
   have hRR:R=(1,typedC {s with cells:=wrap64 (s.cells+1) } 1 ys):=by rw [hR,if_neg (by decide),if_pos rfl]
   have HRR:=Lib.hid hRR
   clear hR hRR
   obtain ⟨fv,h1,h2⟩:=HH.out.row
   have c11:w1.cell? ⟨g,11,none⟩=some (.int .i64 s.cells):=cell_at 11 h1
   have g11:=free_at 11 h1
   have H1:=Lib.hid h1
   have H2:=Lib.hid h2
   have y3:w1.cell? ⟨w.heap.size,3,none⟩=some (.slice a L cap):=cell_at 3 HY.out
   clear h1 h2
   go_enter Try.func81,Try.ntmps81
   go_upto_region 5 with (fail)
   rw [← HW.out]
   go_upto_region 6 with (fail)
   have oz:Only [g] w1 (w1.setCell ⟨g,11,none⟩ (.int .i64 (wrap64 (s.cells+1)))):=(Only.refl _ _).setCell (.inl (by simp)) _
   have hk:CK (w1.setCell ⟨g,11,none⟩ (.int .i64 (wrap64 (s.cells+1)))) g b1 b2 {s with cells:=wrap64 (s.cells+1) }:=HH.out.turn oz (heap_cell (i:=11) _ H1.out) (H2.out.kept oz (fun k hk=>HH.out.no_flt k (by simp only [List.mem_singleton] at hk;simp [hk]))) rfl rfl
   generalize w1.setCell ⟨g,11,none⟩ (.int .i64 (wrap64 (s.cells+1)))=w2 at oz hk⊢
   have hv2:EsW w2 B (.slice a L cap) ys:=by
    obtain ⟨a',cap',e1,e2⟩:=HV.out
    refine ⟨a',cap',e1,e2.imp id ?_⟩
    rintro ⟨gr,off,e3,e4,e5⟩
    exact ⟨gr,off,e3,e4,e5.kept oz (by simpa using hB) e4⟩
   have K:=IT ys hsz w2 g b1 b2 _ _ B 1 hk HOK.out hv2 hB
   have y3':w2.cell? ⟨w.heap.size,3,none⟩=some (.slice a L cap):=cell_kept oz y3 (by simpa using hgw)
   replace HO1:=Lib.hid ((HO1.out.mono (T:=[g]) (by simp)).trans oz (fun k hk=>.inl hk))
   clear c11 g11 y3 oz hk hv2
   go_wp2_with fail
   refine K.mono ?_
   rintro en w3 ⟨rfl,hk3,ho3⟩
   have HK3:=Lib.hid (And.intro hk3 (HO1.out.trans ho3 (fun k hk=>.inl hk)))
   clear hk3 ho3
   go_wp2_with fail
   go_ret
   rw [HRR.out]
   exact ⟨rfl,HK3.out.1,HK3.out.2⟩
  ·by_cases h5:k=5
   ·subst h5
    have hRR:R=(1,typedC s 1 ys):=by rw [hR,if_neg (by decide),if_neg (by decide),if_pos rfl]
    have HRR:=Lib.hid hRR
    have K:=IT ys hsz w1 g b1 b2 s _ B 1 HH.out HOK.out HV.out hB
    have y3:w1.cell? ⟨w.heap.size,3,none⟩=some (.slice a L cap):=cell_at 3 HY.out
    clear hR hRR
    go_enter Try.func81,Try.ntmps81
    go_upto_region 8 with (fail)
    rw [← HW.out]
    go_wp2_with fail
    refine K.mono ?_
    rintro en w3 ⟨rfl,hk3,ho3⟩
    have HK3:=Lib.hid (And.intro hk3 ((HO1.out.mono (T:=[g]) (by simp)).trans ho3 (fun k hk=>.inl hk)))
    clear hk3 ho3
    go_wp2_with fail
    go_ret
    rw [HRR.out]
    exact ⟨rfl,HK3.out.1,HK3.out.2⟩
   ·by_cases h4:k=4
    ·subst h4
     have hRR:R=(2,typedC s 2 ys):=by rw [hR,if_neg (by decide),if_neg (by decide),if_neg (by decide),if_pos rfl]
     have HRR:=Lib.hid hRR
     have K:=IT ys hsz w1 g b1 b2 s _ B 2 HH.out HOK.out HV.out hB
     have y3:w1.cell? ⟨w.heap.size,3,none⟩=some (.slice a L cap):=cell_at 3 HY.out
     clear hR hRR
     go_enter Try.func81,Try.ntmps81
     go_upto_region 10 with (fail)
     rw [← HW.out]
     go_wp2_with fail
     refine K.mono ?_
     rintro en w3 ⟨rfl,hk3,ho3⟩
     have HK3:=Lib.hid (And.intro hk3 ((HO1.out.mono (T:=[g]) (by simp)).trans ho3 (fun k hk=>.inl hk)))
     clear hk3 ho3
     go_wp2_with fail
     go_ret
     rw [HRR.out]
     exact ⟨rfl,HK3.out.1,HK3.out.2⟩
    ·by_cases h6:k=6
     ·subst h6
      have K:=cbinary_any N IT IE (w:=w1) (n:=n) (p:=p) (a:=a) (cap:=cap) HH.out hnm (hne rfl) HOK.out hsz hcap (HX.out.imp id (fun ⟨gr,e1,e2,e3⟩=>⟨gr,e1,e2,EsAt.kept HO1.out (by simp) (fun _ h=>h) e2 0 ys e3⟩)) hB
      rw [← HSN.out,← HL.out] at K
      have hRR:R=((opr nm).2,if (opr nm).1=0 then alikeC s ys else typedC s (opr nm).1 ys):=by
       rw [hR,if_neg (by decide),if_neg (by decide),if_neg (by decide),if_neg (by decide),if_pos rfl]
       split<;>rfl
      have HRR:=Lib.hid hRR
      have y0:w1.cell? ⟨w.heap.size,0,none⟩=some (.int .i64 6):=cell_at 0 HY.out
      have y1:w1.cell? ⟨w.heap.size,1,none⟩=some (.int .i64 n):=cell_at 1 HY.out
      have y2:w1.cell? ⟨w.heap.size,2,none⟩=some (.string sn):=cell_at 2 HY.out
      have y3:w1.cell? ⟨w.heap.size,3,none⟩=some (.slice a L cap):=cell_at 3 HY.out
      have y4:w1.cell? ⟨w.heap.size,4,none⟩=some (.int .i64 p):=cell_at 4 HY.out
      generalize (opr nm).2=wh at K HRR
      clear hR hRR
      go_enter Try.func81,Try.ntmps81
      go_upto_region 13 with (fail)
      rw [← HW.out]
      go_wp2_with fail
      refine K.mono ?_
      rintro en w3 ⟨rfl,hk3,ho3⟩
      have HK3:=Lib.hid (And.intro hk3 ((HO1.out.mono (T:=[g]) (by simp)).trans ho3 (fun k hk=>.inl hk)))
      clear hk3 ho3
      go_wp2_with fail
      go_ret
      rw [HRR.out]
      exact ⟨rfl,HK3.out.1,HK3.out.2⟩
     ·have hRR:R=(1,s):=by rw [hR,if_neg h2,if_neg h3,if_neg h5,if_neg h4,if_neg h6]
      have HRR:=Lib.hid hRR
      have e2:(k == 2)=false:=by simpa using h2
      have e3:(k == 3)=false:=by simpa using h3
      have e4:(k == 4)=false:=by simpa using h4
      have e5:(k == 5)=false:=by simpa using h5
      have e6:(k == 6)=false:=by simpa using h6
      clear hR hRR
      go_enter Try.func81,Try.ntmps81
      go_wp2_with fail
      go_ret
      rw [HRR.out]
      exact ⟨rfl,by have:=HH.out;rw [HW.out] at this;exact this,by have:=HO1.out;rw [HW.out] at this;exact this.mono (by simp)⟩
theorem cexpr_all (N:Nat) (hN:N≤1000000):CExprP N∧CTypedP N:=by
 induction N with
 | zero=>
  have h0:CExprP 0:=fun e he=>by cases e;unfold sizeE at he;omega
  exact ⟨h0,ctyped_step 0 hN h0⟩
 | succ N ih=>
  obtain ⟨h1,h2⟩:=ih (by omega)
  have h3:=cexpr_step N h2 h1
  exact ⟨h3,ctyped_step (N+1) hN h3⟩
end Go.Proofs.Ytiaeagpepfmfgaa
