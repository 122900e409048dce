/- EvalReads, for every input: it returns true, and its argument reads behind the call as it did: what only reads changes no cell, what is refused answers nothing, and a page's Lsn stays. No condition. -/
import Derived.Test.YtiaeagpepfmfgaaZdq
import Derived.Test.YtiaeagpepfmfgaaQcq
import Derived.ChangeMaps5
namespace Go.Proofs.Ytiaeagpepfmfgaa
open Go.ChangeShapes Go.WideShapes Go.ChangeAt Go.RowKit Go.Maps
set_option linter.unusedVariables false
set_option linter.unusedSimpArgs false
set_option maxRecDepth 100000 in
set_option maxHeartbeats 8000000 in
theorem ereads_walk (s:ByteArray) (bv cv:Value) (l m:List Int) (w:World) (hs:s.size≤maxLen) (hb:IntsV w bv l) (_:Fit bv) (hl:l.length≤maxLen) (hc:IntsV w cv m) (_:Fit cv) (hm:m.length≤maxLen) :
    Calls Try.prog 4 #[.agg #[.string s,bv,cv]] w fun e w'=>e=.returned (.bool true)∧Only [] w w':=by
  have hs':s.size≤9223372036854775807:=by unfold maxLen at hs;omega
  have hl':l.length≤9223372036854775807:=by unfold maxLen at hl;omega
  obtain ⟨ba,bcap,rfl,-⟩:=id hb
  obtain ⟨ca,ccap,rfl,-⟩:=id hc
  have HB:=Lib.hid hb
  have HC:=Lib.hid hc
  have HM:=Lib.hid hm
  have HL:=Lib.hid hl'
  have HCW:=Lib.hid (cw_fil (ints_n64 hb) 60)
  obtain ⟨c,hcd⟩:∃ c,c=filC l 60:=⟨_,rfl⟩
  rw [← hcd] at HCW
  have HCD:=Lib.hid hcd
  have H61:Hid ((5 :: c).length=61):=Lib.hid (by rw [List.length_cons,HCW.out.len])
  obtain ⟨ln,hln⟩:∃ n,n=l.length:=⟨_,rfl⟩
  obtain ⟨mn,hmn⟩:∃ n,n=m.length:=⟨_,rfl⟩
  rw [← hln] at HB⊢
  rw [← hmn] at HC⊢
  clear hs hb hl hc hm hcd hln hmn hl'
  have T1:=trivial
  have T2:=trivial
  go_enter Try.func4,Try.ntmps4
  go_upto_region 1 with (fail)
  have oX:=(Only.refl [] w).alloc (.cells #[.string s,.slice ba ln bcap,.slice ca mn ccap] 24)
  have hX:=heap_new w (.cells #[.string s,.slice ba ln bcap,.slice ca mn ccap] 24)
  obtain ⟨gx,hgx⟩:∃ g,g=w.heap.size:=⟨_,rfl⟩
  rw [← hgx] at hX⊢
  generalize w.alloc (.cells #[.string s,.slice ba ln bcap,.slice ca mn ccap] 24)=wx at oX hX⊢
  have HO:=Lib.hid oX
  have HX:=Lib.hid hX
  clear oX hX hgx
  go_wp2_with fail
  refine (alive9_any wx).mono ?_
  rintro e w0 ⟨rfl,o0⟩
  replace HO:=Lib.hid (HO.out.trans o0 (by simp))
  replace HX:=Lib.hid (o0.heap HX.out (by simp))
  have x0:w0.cell? ⟨gx,0,none⟩=some (.string s):=cell_at 0 HX.out
  clear o0
  obtain ⟨R,hR⟩:∃ R,R=parseS s.data.toList:=⟨_,rfl⟩
  have K1:=rparse_any s w0 hs'
  rw [← hR] at K1
  have HR:=Lib.hid hR
  clear hR
  go_wp2_with fail
  refine K1.mono ?_
  rintro e w1 ⟨sn,a1,a2,a3,a4,l1,l2,l3,l4,c1,c2,c3,c4,bc,bp,rfl,herr,hok,o1⟩
  replace HO:=Lib.hid (HO.out.trans o1 (by simp))
  replace HX:=Lib.hid (o1.heap HX.out (by simp))
  clear K1 o1 x0
  cases R with
  | error q=>
    obtain ⟨k,p0⟩:=q
    obtain ⟨rfl,rfl⟩:=herr k p0 rfl
    have hk:=parseS_code HR.out.symm
    have hk':((bc:Int) != 0)=true:=by simp;omega
    clear herr hok hk
    go_upto_region 4 with (fail)
    have o5:=(Only.refl [] w1).alloc (.cells #[.string sn,.slice a1 l1 c1,.slice a2 l2 c2,.slice a3 l3 c3,.slice a4 l4 c4] 30)
    generalize w1.alloc (.cells #[.string sn,.slice a1 l1 c1,.slice a2 l2 c2,.slice a3 l3 c3,.slice a4 l4 c4] 30)=w3 at o5⊢
    replace HO:=Lib.hid (HO.out.trans o5 (by simp))
    clear o5
    go_wp2_with fail
    go_ret
    exact ⟨rfl,HO.out⟩
  | ok d=>
    obtain ⟨rfl,rfl,hdv⟩:=hok d rfl
    have HDV:=Lib.hid hdv
    have HWH:=Lib.hid (parse_whole HR.out.symm)
    have HPL:=Lib.hid (parse_plain HR.out.symm)
    have HGD:=Lib.hid (parse_good HR.out.symm)
    have HL4:Hid (l4=d.give.length):=Lib.hid (by
      obtain ⟨-,-,-,⟨x1,x2,e,-⟩⟩:=hdv.parts
      cases e;rfl)
    clear herr hok hdv
    go_upto_region 4 with (fail)
    have oA:=(Only.refl [] w1).alloc (.cells #[.string sn,.slice a1 l1 c1,.slice a2 l2 c2,.slice a3 l3 c3,.slice a4 l4 c4] 30)
    have hA:=heap_new w1 (.cells #[.string sn,.slice a1 l1 c1,.slice a2 l2 c2,.slice a3 l3 c3,.slice a4 l4 c4] 30)
    obtain ⟨gd,hgd⟩:∃ g,g=w1.heap.size:=⟨_,rfl⟩
    rw [← hgd] at hA⊢
    generalize w1.alloc (.cells #[.string sn,.slice a1 l1 c1,.slice a2 l2 c2,.slice a3 l3 c3,.slice a4 l4 c4] 30)=w2 at oA hA⊢
    replace HO:=Lib.hid (HO.out.trans oA (by simp))
    replace HX:=Lib.hid (oA.heap HX.out (by simp))
    replace HDV:=Lib.hid (HDV.out.kept oA (by simp) (fun _ h=>h))
    have HA:=Lib.hid hA
    clear oA hA hgd
    have y0:w2.cell? ⟨gd,0,none⟩=some (.string sn):=cell_at 0 HA.out
    have y1:w2.cell? ⟨gd,1,none⟩=some (.slice a1 l1 c1):=cell_at 1 HA.out
    have y2:w2.cell? ⟨gd,2,none⟩=some (.slice a2 l2 c2):=cell_at 2 HA.out
    have y3:w2.cell? ⟨gd,3,none⟩=some (.slice a3 l3 c3):=cell_at 3 HA.out
    have y4:w2.cell? ⟨gd,4,none⟩=some (.slice a4 l4 c4):=cell_at 4 HA.out
    have K3:=rcheck_any HDV.out HWH.out HPL.out
    have hfl:=chkD_flt d
    obtain ⟨i0,cf,pf,hi⟩:∃ i c p,chkD d=(i,c,p):=⟨_,_,_,rfl⟩
    have HI:=Lib.hid hi
    rw [hi] at hfl K3
    obtain ⟨im,ist,inn,itu⟩:=i0
    unfold infoV at K3
    dsimp only at K3
    obtain ⟨st',hst⟩:∃ x:Int,x=ist:=⟨_,rfl⟩
    obtain ⟨nm',hnm⟩:∃ x:Int,x=inn:=⟨_,rfl⟩
    rw [← hst,← hnm] at K3
    have HFL:=Lib.hid hfl
    clear hi hfl hst hnm
    go_wp2_with fail
    refine K3.mono ?_
    rintro e w3 ⟨rfl,o3⟩
    replace HO:=Lib.hid (HO.out.trans o3 (by simp))
    replace HX:=Lib.hid (o3.heap HX.out (by simp))
    replace HDV:=Lib.hid (HDV.out.kept o3 (by simp) (fun _ h=>h))
    replace HA:=Lib.hid (o3.heap HA.out (by simp))
    clear K3 o3 y0 y1 y2 y3 y4
    go_upto_region 7 with (fail)
    have o4:=(Only.refl [] w3).alloc (.cells #[.int .i64 im,.int .i64 st',.int .i64 nm',.bool itu] 47)
    have h4:=heap_new w3 (.cells #[.int .i64 im,.int .i64 st',.int .i64 nm',.bool itu] 47)
    obtain ⟨gi,hgi⟩:∃ g,g=w3.heap.size:=⟨_,rfl⟩
    rw [← hgi] at h4⊢
    generalize w3.alloc (.cells #[.int .i64 im,.int .i64 st',.int .i64 nm',.bool itu] 47)=w4 at o4 h4⊢
    replace HO:=Lib.hid (HO.out.trans o4 (by simp))
    replace HX:=Lib.hid (o4.heap HX.out (by simp))
    replace HDV:=Lib.hid (HDV.out.kept o4 (by simp) (fun _ h=>h))
    replace HA:=Lib.hid (o4.heap HA.out (by simp))
    have HIN:=Lib.hid h4
    clear o4 h4 hgi
    have x1:w4.cell? ⟨gx,1,none⟩=some (.slice ba ln bcap):=cell_at 1 HX.out
    go_wp2_with fail
    refine (filled9_any _ l w4 (HB.out.kept HO.out (by intro a n c e h;simp)) HL.out).mono ?_
    rintro e w5 ⟨rfl,o5⟩
    rw [← HCD.out]
    replace HO:=Lib.hid (HO.out.trans o5 (by simp))
    replace HX:=Lib.hid (o5.heap HX.out (by simp))
    replace HDV:=Lib.hid (HDV.out.kept o5 (by simp) (fun _ h=>h))
    replace HA:=Lib.hid (o5.heap HA.out (by simp))
    replace HIN:=Lib.hid (o5.heap HIN.out (by simp))
    clear o5 x1
    go_upto_region 8 with (first
      | (clear T1
         refine wpList_new_page rfl rfl ?_
         intro w6 gp hbp hgp hop
         have HP6:=Lib.hid hbp
         have HOP:=Lib.hid hop
         have HGP:=Lib.hid hgp
         clear hbp hgp hop)
      | (refine wpList_store_page rfl _ _ rfl gp (5 :: c) (by rfl) (by rfl) H61.out _ HP6.out (by rfl) ?_
         intro w7 hb7 ho7))
    have o57:Only [] w5 w7:=HOP.out.trans ho7 (fun k hk=>.inr (by rw [List.mem_singleton.1 hk];exact HGP.out))
    replace HO:=Lib.hid (HO.out.trans o57 (by simp))
    replace HX:=Lib.hid (o57.heap HX.out (by simp))
    replace HDV:=Lib.hid (HDV.out.kept o57 (by simp) (fun _ h=>h))
    replace HA:=Lib.hid (o57.heap HA.out (by simp))
    replace HIN:=Lib.hid (o57.heap HIN.out (by simp))
    have HP:=Lib.hid hb7
    clear HP6 HOP HGP hb7 ho7 o57
    have y0:w7.cell? ⟨gd,0,none⟩=some (.string sn):=cell_at 0 HA.out
    have y1:w7.cell? ⟨gd,1,none⟩=some (.slice a1 l1 c1):=cell_at 1 HA.out
    have y2:w7.cell? ⟨gd,2,none⟩=some (.slice a2 l2 c2):=cell_at 2 HA.out
    have y3:w7.cell? ⟨gd,3,none⟩=some (.slice a3 l3 c3):=cell_at 3 HA.out
    have y4:w7.cell? ⟨gd,4,none⟩=some (.slice a4 l4 c4):=cell_at 4 HA.out
    have x2:w7.cell? ⟨gx,2,none⟩=some (.slice ca mn ccap):=cell_at 2 HX.out
    have KR:=run_any HDV.out HWH.out HPL.out HGD.out HCW.out (n:=5) (HC.out.kept HO.out (by intro a n c e h;simp)) HM.out
    obtain ⟨r,hr⟩:∃ r,r=runP d 5 c m:=⟨_,rfl⟩
    rw [← hr] at KR
    have HRR:=Lib.hid hr
    clear hr
    go_wp2_with (refine wpList_load_page rfl _ rfl gp (by rfl) (5 :: c) HP.out H61.out ?_)
    refine KR.mono ?_
    obtain ⟨⟨rn,rc⟩,rg,rk⟩:=r
    have hrc:rc.length=60:=by
      have h:=HRR.out
      rcases run_cases d 5 c m with ⟨k,-,h1,-⟩ | ⟨h2,-,h1⟩
      · rw [h1] at h;cases h;rfl
      · rw [h1] at h
        cases h
        exact (pgB_w d.body _ HWH.out.body HGD.out.body ⟨HCW.out,nw_last _ (zip_n64 (ints_n64 HC.out))⟩ (okB_of HWH.out HPL.out HGD.out h2).few).1.len
    have H60:=Lib.hid hrc
    have H612:Hid ((rn :: rc).length=61):=Lib.hid (by rw [List.length_cons,hrc])
    rintro e w8 ⟨rfl,oR⟩
    dsimp only
    replace HO:=Lib.hid (HO.out.trans oR (by simp))
    replace HA:=Lib.hid (oR.heap HA.out (by simp))
    replace HIN:=Lib.hid (oR.heap HIN.out (by simp))
    replace HP:=Lib.hid (HP.out.kept oR (by simp))
    clear KR oR y0 y1 y2 y3 y4 x2 hrc HX HDV HB HC
    go_upto_region 9 with (first
      | (clear T2
         refine wpList_new_page rfl rfl ?_
         intro w9 gq hbp hgp hop
         have HP6:=Lib.hid hbp
         have HOP:=Lib.hid hop
         have HGP:=Lib.hid hgp
         clear hbp hgp hop)
      | (refine wpList_store_page rfl _ _ rfl gq (rn :: rc) (by rfl) (by rfl) H612.out _ HP6.out (by rfl) ?_
         intro w10 hb10 ho10))
    have o810:Only [] w8 w10:=HOP.out.trans ho10 (fun k hk=>.inr (by rw [List.mem_singleton.1 hk];exact HGP.out))
    replace HO:=Lib.hid (HO.out.trans o810 (by simp))
    replace HA:=Lib.hid (o810.heap HA.out (by simp))
    replace HIN:=Lib.hid (o810.heap HIN.out (by simp))
    replace HP:=Lib.hid (HP.out.kept o810 (by simp))
    have HQ:=Lib.hid hb10
    clear HP6 HOP HGP hb10 ho10 o810
    have z0:w10.cell? ⟨gi,0,none⟩=some (.int .i64 im):=cell_at 0 HIN.out
    have z1:w10.cell? ⟨gq,0,none⟩=some (.int .i64 rn):=HQ.out.cell (by rfl)
    have z4:w10.cell? ⟨gd,4,none⟩=some (.slice a4 l4 c4):=cell_at 4 HA.out
    rcases run_cases d 5 c m with ⟨k,hk0,h1,-⟩ | ⟨h2,-,h1⟩
    · have h:=HRR.out
      rw [h1] at h
      cases h
      rw [errV_ne hk0]
      have q1:=fun w=>neq_err rk w
      have d2:(decide ((0:Int)=0) && decide (blankP=blankP))=true:=by decide
      have D2:=Lib.hid d2
      clear h1 hk0 z0 z1 z4 d2
      by_cases hcf:cf=0
      · have hcf':(cf != 0)=false:=by simp [hcf]
        clear hcf
        go_simp
        repeat (first
          | (guard_target =~ Oper.wp _ (Oper.mk (some 48) _ _ _ _ _) _ _ _ _;refine wp_page_load (.tmp 10) rfl gq (by rfl) (0 :: blankP) HQ.out H612.out ?_;simp only [Act.put,List.setIfInBounds_toArray,List.set_cons_zero,List.set_cons_succ])
          | (guard_target =~ Oper.wp _ (Oper.mk (some 49) _ _ _ _ _) _ _ _ _;refine wp_page_built [] rfl (0 :: blankP) built_none ?_;simp only [Act.put,List.setIfInBounds_toArray,List.set_cons_zero,List.set_cons_succ])
          | (guard_target =~ Oper.wp _ (Oper.mk (some 50) _ _ _ _ _) _ _ _ _;refine wp_page_eql (.tmp 48) (.tmp 49) rfl 0 0 blankP blankP (by rfl) (by rfl) (by rfl) (by rfl) ?_;rw [D2.out];simp only [Act.put,List.setIfInBounds_toArray,List.set_cons_zero,List.set_cons_succ])
          | go_values | go_skip | go_guarded | go_step | go_upon)
        go_ret
        exact ⟨rfl,HO.out⟩
      · have hcf':(cf != 0)=true:=by simpa using hcf
        clear hcf
        go_simp
        repeat (first
          | (guard_target =~ Oper.wp _ (Oper.mk (some 48) _ _ _ _ _) _ _ _ _;refine wp_page_load (.tmp 10) rfl gq (by rfl) (0 :: blankP) HQ.out H612.out ?_;simp only [Act.put,List.setIfInBounds_toArray,List.set_cons_zero,List.set_cons_succ])
          | (guard_target =~ Oper.wp _ (Oper.mk (some 49) _ _ _ _ _) _ _ _ _;refine wp_page_built [] rfl (0 :: blankP) built_none ?_;simp only [Act.put,List.setIfInBounds_toArray,List.set_cons_zero,List.set_cons_succ])
          | (guard_target =~ Oper.wp _ (Oper.mk (some 50) _ _ _ _ _) _ _ _ _;refine wp_page_eql (.tmp 48) (.tmp 49) rfl 0 0 blankP blankP (by rfl) (by rfl) (by rfl) (by rfl) ?_;rw [D2.out];simp only [Act.put,List.setIfInBounds_toArray,List.set_cons_zero,List.set_cons_succ])
          | go_values | go_skip | go_guarded | go_step | go_upon)
        go_ret
        exact ⟨rfl,HO.out⟩
    · have h:=HRR.out
      rw [h1] at h
      have hcf:cf=0:=by
        have h:=HFL.out
        rw [h2] at h
        exact (congrArg Prod.fst h).symm
      subst hcf
      have hmode:im=1→(pgB d.body ⟨c,mP d.params m⟩).c=c:=fun e=>by
        have hi:=HI.out
        unfold chkD at hi
        rw [h2] at hi
        have hi2:=congrArg (fun x=>x.1.mode) hi
        dsimp only at hi2
        rw [(info_of HWH.out HPL.out h2).1,e] at hi2
        have hno:hasB 2 5 d.body=false:=by
          cases hb:hasB 2 5 d.body with
          | false=>rfl
          | true=>
            exfalso
            dsimp only at hi2
            unfold modeF at hi2
            rw [hb,if_neg (by decide)] at hi2
            split at hi2<;>omega
        exact still_B d.body _ hno
      have hgv:l4=0→(exVs (pgB d.body ⟨c,mP d.params m⟩).c (pgB d.body ⟨c,mP d.params m⟩).m d.give).getD 0 0=0:=fun e=>by
        have:d.give=[]:=List.eq_nil_of_length_eq_zero (by rw [← HL4.out];exact e)
        rw [this]
        unfold exVs
        rfl
      generalize (exVs (pgB d.body ⟨c,mP d.params m⟩).c (pgB d.body ⟨c,mP d.params m⟩).m d.give).getD 0 0=gv at h hgv
      generalize (pgB d.body ⟨c,mP d.params m⟩).c=c2 at h hmode
      cases h
      rw [errV0]
      have q1:=neq_nil
      have HGV:=Lib.hid hgv
      have HMO:=Lib.hid hmode
      clear hgv hmode h1 h2
      by_cases hm1:im=1
      · obtain rfl:=HMO.out hm1
        have hm1':(im != 1)=false:=by simp [hm1]
        have D2:=Lib.hid (show (decide ((5:Int)=5) && decide (rc=rc))=true by simp)
        clear hm1
        by_cases h4:l4=0
        · have hg0:=HGV.out h4
          subst hg0
          have h4':¬ (0:Int) < (l4:Int):=by omega
          clear h4
          go_simp
          repeat (first
            | (guard_target =~ Oper.wp _ (Oper.mk (some 67) _ _ _ _ _) _ _ _ _;refine wp_page_load (.tmp 10) rfl gq (by rfl) (5 :: rc) HQ.out H612.out ?_;simp only [Act.put,List.setIfInBounds_toArray,List.set_cons_zero,List.set_cons_succ])
            | (guard_target =~ Oper.wp _ (Oper.mk (some 68) _ _ _ _ _) _ _ _ _;refine wp_page_load (.tmp 9) rfl gp (by rfl) (5 :: rc) HP.out H612.out ?_;simp only [Act.put,List.setIfInBounds_toArray,List.set_cons_zero,List.set_cons_succ])
            | (guard_target =~ Oper.wp _ (Oper.mk (some 69) _ _ _ _ _) _ _ _ _;refine wp_page_eql (.tmp 67) (.tmp 68) rfl 5 5 rc rc (by rfl) (by rfl) H60.out H60.out ?_;rw [D2.out];simp only [Act.put,List.setIfInBounds_toArray,List.set_cons_zero,List.set_cons_succ])
            | go_values | go_skip | go_guarded | go_step | go_upon)
          go_ret
          exact ⟨rfl,HO.out⟩
        · have h4':(0:Int) < (l4:Int):=by omega
          clear h4
          go_simp
          repeat (first
            | (guard_target =~ Oper.wp _ (Oper.mk (some 67) _ _ _ _ _) _ _ _ _;refine wp_page_load (.tmp 10) rfl gq (by rfl) (5 :: rc) HQ.out H612.out ?_;simp only [Act.put,List.setIfInBounds_toArray,List.set_cons_zero,List.set_cons_succ])
            | (guard_target =~ Oper.wp _ (Oper.mk (some 68) _ _ _ _ _) _ _ _ _;refine wp_page_load (.tmp 9) rfl gp (by rfl) (5 :: rc) HP.out H612.out ?_;simp only [Act.put,List.setIfInBounds_toArray,List.set_cons_zero,List.set_cons_succ])
            | (guard_target =~ Oper.wp _ (Oper.mk (some 69) _ _ _ _ _) _ _ _ _;refine wp_page_eql (.tmp 67) (.tmp 68) rfl 5 5 rc rc (by rfl) (by rfl) H60.out H60.out ?_;rw [D2.out];simp only [Act.put,List.setIfInBounds_toArray,List.set_cons_zero,List.set_cons_succ])
            | go_values | go_skip | go_guarded | go_step | go_upon)
          go_ret
          exact ⟨rfl,HO.out⟩
      · have hm1':(im != 1)=true:=by simpa using hm1
        clear hm1
        by_cases h4:l4=0
        · have hg0:=HGV.out h4
          subst hg0
          have h4':¬ (0:Int) < (l4:Int):=by omega
          clear h4
          go_simp
          repeat (first
            | (guard_target =~ Oper.wp _ (Oper.mk (some 67) _ _ _ _ _) _ _ _ _;refine wp_page_load (.tmp 10) rfl gq (by rfl) (5 :: rc) HQ.out H612.out ?_;simp only [Act.put,List.setIfInBounds_toArray,List.set_cons_zero,List.set_cons_succ])
            | (guard_target =~ Oper.wp _ (Oper.mk (some 68) _ _ _ _ _) _ _ _ _;refine wp_page_load (.tmp 9) rfl gp (by rfl) (5 :: rc) HP.out H612.out ?_;simp only [Act.put,List.setIfInBounds_toArray,List.set_cons_zero,List.set_cons_succ])
            | (guard_target =~ Oper.wp _ (Oper.mk (some 69) _ _ _ _ _) _ _ _ _;refine wp_page_eql (.tmp 67) (.tmp 68) rfl 5 5 rc rc (by rfl) (by rfl) H60.out H60.out ?_;rw [D2.out];simp only [Act.put,List.setIfInBounds_toArray,List.set_cons_zero,List.set_cons_succ])
            | go_values | go_skip | go_guarded | go_step | go_upon)
          go_ret
          exact ⟨rfl,HO.out⟩
        · have h4':(0:Int) < (l4:Int):=by omega
          clear h4
          go_simp
          repeat (first
            | (guard_target =~ Oper.wp _ (Oper.mk (some 67) _ _ _ _ _) _ _ _ _;refine wp_page_load (.tmp 10) rfl gq (by rfl) (5 :: rc) HQ.out H612.out ?_;simp only [Act.put,List.setIfInBounds_toArray,List.set_cons_zero,List.set_cons_succ])
            | (guard_target =~ Oper.wp _ (Oper.mk (some 68) _ _ _ _ _) _ _ _ _;refine wp_page_load (.tmp 9) rfl gp (by rfl) (5 :: rc) HP.out H612.out ?_;simp only [Act.put,List.setIfInBounds_toArray,List.set_cons_zero,List.set_cons_succ])
            | (guard_target =~ Oper.wp _ (Oper.mk (some 69) _ _ _ _ _) _ _ _ _;refine wp_page_eql (.tmp 67) (.tmp 68) rfl 5 5 rc rc (by rfl) (by rfl) H60.out H60.out ?_;rw [D2.out];simp only [Act.put,List.setIfInBounds_toArray,List.set_cons_zero,List.set_cons_succ])
            | go_values | go_skip | go_guarded | go_step | go_upon)
          go_ret
          exact ⟨rfl,HO.out⟩
set_option maxRecDepth 100000 in
theorem ereads_lifted (os:Os) (started:os.Started) (H:Type) (enc:TypeId×Value→H) :
  ReturnsInHanded {} Try.checked os 4 .any (Rows.evalReadsSpec.pre6 enc Try.prog Try.f4 Rows.evalReadsRow.domain false) (Rows.evalReadsSpec.post enc Try.prog Try.f4 false true false false):=by
 refine returnsInHanded_of_change (C:=Try.checked) law_own started (by kernel_rfl) Try.func4
  (ChangeSpec.witness6 (enc:=enc) (C:=Try.checked) false ⟨#[],#[.agg #[.string ⟨#[]⟩,.slice none 0 0,.slice none 0 0]],[]⟩ 8 (by kernel_rfl) (by kernel_rfl) (by kernel_rfl) (by kernel_rfl)) ?_
 intro W base args ds gs before hval0 hW hcnd _
 have hval:∀ (j:Nat) t v,Try.f4.params[j]?=some t→args[j]?=some v→Value.okWide Try.prog W .any base t v:=hval0
 have hW':=hW
 obtain ⟨p,q,hA0,hV,rfl,hfz,hnd⟩:=hW
 have hA:DataW.TrodAll enc Try.prog W 0 (fun _=>true) true Try.f4.params.toList args.toList ds p:=hA0
 rw [Try.params4] at hA hval
 obtain ⟨v0,vs0,d0,ds0,p0,q0,hargs,rfl,rfl,h0,r0⟩:=trodAll_cons hA
 obtain ⟨rfl,rfl,rfl⟩:=trodAll_nil r0
 obtain rfl:args=#[v0]:=by cases args;simp_all
 obtain ⟨rfl,rfl⟩:=trodVars_none hV
 have h0':=h0
 obtain ⟨s0,b0,l0,c0,m0,rfl,hs0,hb0,hg0,hl0,hc0,hk0,hm0⟩:=open_case9 (hval 0 24 v0 rfl rfl) h0
 have hlt0:∀ x∈p0,x.block < W.heap.size:=fun x hx=>hW'.lt x (by simp [hx])
 clear hA0 hval0
 refine (ereads_walk s0 b0 c0 l0 m0 W hs0 hb0 hg0 hl0 hc0 hk0 hm0).mono fun e W' ⟨he,hg⟩=>?_
 subst he
 exact ⟨_,rfl,post_quiet (pa:=(p0++[])) (pv:=[]) hW' hg (fun _ _ _=>(trodAll_cons_mk (shut_bool Try.underlying4 _) trodAll_mk0)) (fun sp hsp=>(trodAll_cons_mk (arg_stays (by kernel_rfl) (of_decide_eq_true (by kernel_rfl)) h0' hg hlt0 (fun x hx=>hsp x (by simp [hx]))) trodAll_mk0)) (fun _ _=>rfl) (by simp) (ok_one (by kernel_rfl) rfl (okWide_bool_mk Try.underlying4 _))⟩
theorem ereads_over:Rows.evalReadsRow.holds Try.pinned (OpenSpec.ofChange Rows.evalReadsSpec):=
 OpenClaim.holds_of_wide 4 Try.f4 rfl rfl rfl rfl rfl rfl rfl ⟨rfl,rfl,rfl,rfl,rfl⟩ rfl rfl rfl rfl rfl (by kernel_rfl) Try.func4 (by kernel_rfl)
  (of_decide_eq_true (by kernel_rfl)) (by unfold Func.isWrapper;first | (rw [if_pos (by decide +kernel)];kernel_rfl) | (rw [if_neg (by decide +kernel)];exact ⟨rfl,rfl⟩))
  (fun os started H enc _=>ereads_lifted os started H enc)
theorem ereads_holds:Rows.EvalReadsSaid:=
 ereads_over
#print axioms ereads_holds
end Go.Proofs.Ytiaeagpepfmfgaa
