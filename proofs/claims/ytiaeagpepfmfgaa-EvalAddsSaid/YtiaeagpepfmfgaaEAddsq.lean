/- EvalAdds, for every input: it returns true, and its arguments read behind the call as they did: operations that add come to the same cells in either order. No condition. -/
import Derived.Test.YtiaeagpepfmfgaaZdq
import Derived.Test.YtiaeagpepfmfgaaQcq
import Derived.ChangeMaps5
namespace Go.Proofs.Ytiaeagpepfmfgaa
open Go.ChangeShapes Go.WideShapes Go.ChangeAt Go.RowKit Go.Maps
set_option linter.unusedVariables false
set_option linter.unusedSimpArgs false
set_option maxRecDepth 100000 in
set_option maxHeartbeats 16000000 in
theorem eadds_walk (s1:ByteArray) (bv1 cv1:Value) (s2:ByteArray) (bv2 cv2:Value) (l1 m1 l2 m2:List Int) (w:World) (hs1:s1.size≤maxLen) (hb1:IntsV w bv1 l1) (_:Fit bv1) (hl1:l1.length≤maxLen) (hc1:IntsV w cv1 m1) (_:Fit cv1) (hm1:m1.length≤maxLen)
    (hs2:s2.size≤maxLen) (hb2:IntsV w bv2 l2) (_:Fit bv2) (hl2:l2.length≤maxLen) (hc2:IntsV w cv2 m2) (_:Fit cv2) (hm2:m2.length≤maxLen) :
    Calls Try.prog 5 #[.agg #[.string s1,bv1,cv1],.agg #[.string s2,bv2,cv2]] w fun e w'=>e=.returned (.bool true)∧Only [] w w':=by
  have hs1':s1.size≤9223372036854775807:=by unfold maxLen at hs1;omega
  have hs2':s2.size≤9223372036854775807:=by unfold maxLen at hs2;omega
  have hl':l1.length≤9223372036854775807:=by unfold maxLen at hl1;omega
  obtain ⟨ba1,bc1,rfl,-⟩:=id hb1
  obtain ⟨ca1,cc1,rfl,-⟩:=id hc1
  obtain ⟨ba2,bc2,rfl,-⟩:=id hb2
  obtain ⟨ca2,cc2,rfl,-⟩:=id hc2
  have HB:=Lib.hid hb1
  have HC1:=Lib.hid hc1
  have HC2:=Lib.hid hc2
  have HM1:=Lib.hid hm1
  have HM2:=Lib.hid hm2
  have HL:=Lib.hid hl'
  have HCW:=Lib.hid (cw_fil (ints_n64 hb1) 60)
  obtain ⟨c,hcd⟩:∃ c,c=filC l1 60:=⟨_,rfl⟩
  rw [← hcd] at HCW
  have HCD:=Lib.hid hcd
  have H61:Hid ((5 :: c).length=61):=Lib.hid (by rw [List.length_cons,HCW.out.len])
  obtain ⟨ln,hln⟩:∃ n,n=l1.length:=⟨_,rfl⟩
  obtain ⟨mn1,hmn1⟩:∃ n,n=m1.length:=⟨_,rfl⟩
  obtain ⟨mn2,hmn2⟩:∃ n,n=m2.length:=⟨_,rfl⟩
  obtain ⟨ln2,hln2⟩:∃ n,n=l2.length:=⟨_,rfl⟩
  rw [← hln] at HB⊢
  rw [← hmn1] at HC1⊢
  rw [← hmn2] at HC2⊢
  rw [← hln2]
  have HN1:=Lib.hid hmn1
  have HN2:=Lib.hid hmn2
  clear hs1 hb1 hl1 hc1 hm1 hs2 hb2 hl2 hc2 hm2 hcd hln hmn1 hmn2 hln2 hl'
  have T1:=trivial
  have T2:=trivial
  have T3:=trivial
  have T4:=trivial
  have T5:=trivial
  go_enter Try.func5,Try.ntmps5
  go_upto_region 1 with (fail)
  have oX1:=(Only.refl [] w).alloc (.cells #[.string s1,.slice ba1 ln bc1,.slice ca1 mn1 cc1] 24)
  have hX1:=heap_new w (.cells #[.string s1,.slice ba1 ln bc1,.slice ca1 mn1 cc1] 24)
  obtain ⟨gx1,hgx1⟩:∃ g,g=w.heap.size:=⟨_,rfl⟩
  have hsy:(w.alloc (.cells #[.string s1,.slice ba1 ln bc1,.slice ca1 mn1 cc1] 24)).heap.size=w.heap.size+1:=Array.size_push _
  rw [← hgx1] at hX1 hsy⊢
  generalize w.alloc (.cells #[.string s1,.slice ba1 ln bc1,.slice ca1 mn1 cc1] 24)=wy at oX1 hX1 hsy⊢
  have oX2:=(Only.refl [] wy).alloc (.cells #[.string s2,.slice ba2 ln2 bc2,.slice ca2 mn2 cc2] 24)
  have hX2:=heap_new wy (.cells #[.string s2,.slice ba2 ln2 bc2,.slice ca2 mn2 cc2] 24)
  obtain ⟨gx2,hgx2⟩:∃ g,g=gx1+1:=⟨_,rfl⟩
  rw [hsy,← hgx2] at hX2
  rw [← hgx2]
  generalize wy.alloc (.cells #[.string s2,.slice ba2 ln2 bc2,.slice ca2 mn2 cc2] 24)=wx at oX2 hX2⊢
  have HO:=Lib.hid (oX1.trans oX2 (by simp))
  have HX1:=Lib.hid (oX2.heap hX1 (by simp))
  have HX2:=Lib.hid hX2
  clear oX1 hX1 hgx1 oX2 hX2 hgx2 hsy
  go_wp2_with fail
  refine (alive9_any wx).mono ?_
  rintro e w0 ⟨rfl,o0⟩
  replace HO:=Lib.hid (HO.out.trans o0 (by simp))
  replace HX1:=Lib.hid (o0.heap HX1.out (by simp))
  replace HX2:=Lib.hid (o0.heap HX2.out (by simp))
  have x0:w0.cell? ⟨gx1,0,none⟩=some (.string s1):=cell_at 0 HX1.out
  clear o0
  obtain ⟨R1,hR1⟩:∃ R,R=parseS s1.data.toList:=⟨_,rfl⟩
  have K1:=rparse_any s1 w0 hs1'
  rw [← hR1] at K1
  have HR1:=Lib.hid hR1
  clear hR1
  go_wp2_with fail
  refine K1.mono ?_
  rintro e w1 ⟨sn1,a11,a21,a31,a41,l11,l21,l31,l41,c11,c21,c31,c41,pc1,pp1,rfl,herr1,hok1,o1⟩
  replace HO:=Lib.hid (HO.out.trans o1 (by simp))
  replace HX1:=Lib.hid (o1.heap HX1.out (by simp))
  replace HX2:=Lib.hid (o1.heap HX2.out (by simp))
  have HOK1:=Lib.hid hok1
  have HER1:=Lib.hid herr1
  clear K1 o1 x0 hok1 herr1
  go_upto_region 4 with (fail)
  have oA:=(Only.refl [] w1).alloc (.cells #[.string sn1,.slice a11 l11 c11,.slice a21 l21 c21,.slice a31 l31 c31,.slice a41 l41 c41] 30)
  have hA:=heap_new w1 (.cells #[.string sn1,.slice a11 l11 c11,.slice a21 l21 c21,.slice a31 l31 c31,.slice a41 l41 c41] 30)
  obtain ⟨gd1,hgd⟩:∃ g,g=w1.heap.size:=⟨_,rfl⟩
  rw [← hgd] at hA⊢
  generalize w1.alloc (.cells #[.string sn1,.slice a11 l11 c11,.slice a21 l21 c21,.slice a31 l31 c31,.slice a41 l41 c41] 30)=w2 at oA hA⊢
  replace HO:=Lib.hid (HO.out.trans oA (by simp))
  replace HX1:=Lib.hid (oA.heap HX1.out (by simp))
  replace HX2:=Lib.hid (oA.heap HX2.out (by simp))
  have HA1:=Lib.hid hA
  have HOA:=Lib.hid oA
  have x0:w2.cell? ⟨gx2,0,none⟩=some (.string s2):=cell_at 0 HX2.out
  obtain ⟨R2,hR2⟩:∃ R,R=parseS s2.data.toList:=⟨_,rfl⟩
  have K1:=rparse_any s2 w2 hs2'
  rw [← hR2] at K1
  have HR2:=Lib.hid hR2
  clear hR2 oA hA hgd
  go_wp2_with fail
  refine K1.mono ?_
  rintro e w3 ⟨sn2,a12,a22,a32,a42,l12,l22,l32,l42,c12,c22,c32,c42,pc2,pp2,rfl,herr2,hok2,o1⟩
  replace HO:=Lib.hid (HO.out.trans o1 (by simp))
  replace HX1:=Lib.hid (o1.heap HX1.out (by simp))
  replace HX2:=Lib.hid (o1.heap HX2.out (by simp))
  replace HA1:=Lib.hid (o1.heap HA1.out (by simp))
  replace HOA:=Lib.hid (HOA.out.trans o1 (by simp))
  have HOK2:=Lib.hid hok2
  have HER2:=Lib.hid herr2
  clear K1 o1 x0 hok2 herr2
  go_upto_region 5 with (fail)
  have oA:=(Only.refl [] w3).alloc (.cells #[.string sn2,.slice a12 l12 c12,.slice a22 l22 c22,.slice a32 l32 c32,.slice a42 l42 c42] 30)
  have hA:=heap_new w3 (.cells #[.string sn2,.slice a12 l12 c12,.slice a22 l22 c22,.slice a32 l32 c32,.slice a42 l42 c42] 30)
  obtain ⟨gd2,hgd⟩:∃ g,g=w3.heap.size:=⟨_,rfl⟩
  rw [← hgd] at hA⊢
  generalize w3.alloc (.cells #[.string sn2,.slice a12 l12 c12,.slice a22 l22 c22,.slice a32 l32 c32,.slice a42 l42 c42] 30)=w4 at oA hA⊢
  replace HO:=Lib.hid (HO.out.trans oA (by simp))
  replace HX1:=Lib.hid (oA.heap HX1.out (by simp))
  replace HX2:=Lib.hid (oA.heap HX2.out (by simp))
  replace HA1:=Lib.hid (oA.heap HA1.out (by simp))
  replace HOA:=Lib.hid (HOA.out.trans oA (by simp))
  have HA2:=Lib.hid hA
  have HOB:=Lib.hid oA
  clear oA hA hgd
  cases R1 with
  | error q=>
    obtain ⟨k,p0⟩:=q
    obtain ⟨rfl,rfl⟩:=HER1.out k p0 rfl
    have hk:=parseS_code HR1.out.symm
    have hk':((pc1:Int) != 0)=true:=by simp;omega
    clear hk
    go_wp2_with fail
    go_ret
    exact ⟨rfl,HO.out⟩
  | ok d1=>
    obtain ⟨rfl,rfl,hdv1⟩:=HOK1.out d1 rfl
    cases R2 with
    | error q=>
      obtain ⟨k,p0⟩:=q
      obtain ⟨rfl,rfl⟩:=HER2.out k p0 rfl
      have hk:=parseS_code HR2.out.symm
      have hk':((pc2:Int) != 0)=true:=by simp;omega
      clear hk hdv1
      go_wp2_with fail
      go_ret
      exact ⟨rfl,HO.out⟩
    | ok d2=>
      obtain ⟨rfl,rfl,hdv2⟩:=HOK2.out d2 rfl
      have HDV1:=Lib.hid (hdv1.kept HOA.out (by simp) (fun _ h=>h))
      have HDV2:=Lib.hid (hdv2.kept HOB.out (by simp) (fun _ h=>h))
      have HWH1:=Lib.hid (parse_whole HR1.out.symm)
      have HPL1:=Lib.hid (parse_plain HR1.out.symm)
      have HGD1:=Lib.hid (parse_good HR1.out.symm)
      have HWH2:=Lib.hid (parse_whole HR2.out.symm)
      have HPL2:=Lib.hid (parse_plain HR2.out.symm)
      have HGD2:=Lib.hid (parse_good HR2.out.symm)
      have HLP1:Hid (l11=d1.params.length):=Lib.hid (by
        obtain ⟨⟨x1,x2,e,-⟩,-⟩:=hdv1.parts
        cases e;rfl)
      have HLP2:Hid (l12=d2.params.length):=Lib.hid (by
        obtain ⟨⟨x1,x2,e,-⟩,-⟩:=hdv2.parts
        cases e;rfl)
      clear hdv1 hdv2 HOK1 HOK2 HER1 HER2 HOA HOB HR1 HR2
      have y0:w4.cell? ⟨gd1,0,none⟩=some (.string sn1):=cell_at 0 HA1.out
      have y1:w4.cell? ⟨gd1,1,none⟩=some (.slice a11 l11 c11):=cell_at 1 HA1.out
      have y2:w4.cell? ⟨gd1,2,none⟩=some (.slice a21 l21 c21):=cell_at 2 HA1.out
      have y3:w4.cell? ⟨gd1,3,none⟩=some (.slice a31 l31 c31):=cell_at 3 HA1.out
      have y4:w4.cell? ⟨gd1,4,none⟩=some (.slice a41 l41 c41):=cell_at 4 HA1.out
      have K3:=rcheck_any HDV1.out HWH1.out HPL1.out
      obtain ⟨i0,cf1,pf1,hi1⟩:∃ i c p,chkD d1=(i,c,p):=⟨_,_,_,rfl⟩
      rw [hi1] at K3
      obtain ⟨im1,ist1,inn1,itu1⟩:=i0
      unfold infoV at K3
      dsimp only at K3
      have HMD1:=Lib.hid (fun h=>mode_of HWH1.out HPL1.out hi1 h)
      obtain ⟨st1,hst⟩:∃ x:Int,x=ist1:=⟨_,rfl⟩
      obtain ⟨nm1,hnm⟩:∃ x:Int,x=inn1:=⟨_,rfl⟩
      rw [← hst,← hnm] at K3
      clear hi1 hst hnm
      go_wp2_with fail
      refine K3.mono ?_
      rintro e w5 ⟨rfl,o3⟩
      replace HO:=Lib.hid (HO.out.trans o3 (by simp))
      replace HX1:=Lib.hid (o3.heap HX1.out (by simp))
      replace HX2:=Lib.hid (o3.heap HX2.out (by simp))
      replace HDV1:=Lib.hid (HDV1.out.kept o3 (by simp) (fun _ h=>h))
      replace HDV2:=Lib.hid (HDV2.out.kept o3 (by simp) (fun _ h=>h))
      replace HA1:=Lib.hid (o3.heap HA1.out (by simp))
      replace HA2:=Lib.hid (o3.heap HA2.out (by simp))
      clear K3 o3 y0 y1 y2 y3 y4
      go_upto_region 8 with (fail)
      have o4:=(Only.refl [] w5).alloc (.cells #[.int .i64 im1,.int .i64 st1,.int .i64 nm1,.bool itu1] 47)
      have h4:=heap_new w5 (.cells #[.int .i64 im1,.int .i64 st1,.int .i64 nm1,.bool itu1] 47)
      obtain ⟨gi1,hgi⟩:∃ g,g=w5.heap.size:=⟨_,rfl⟩
      rw [← hgi] at h4⊢
      generalize w5.alloc (.cells #[.int .i64 im1,.int .i64 st1,.int .i64 nm1,.bool itu1] 47)=w6 at o4 h4⊢
      replace HO:=Lib.hid (HO.out.trans o4 (by simp))
      replace HX1:=Lib.hid (o4.heap HX1.out (by simp))
      replace HX2:=Lib.hid (o4.heap HX2.out (by simp))
      replace HDV1:=Lib.hid (HDV1.out.kept o4 (by simp) (fun _ h=>h))
      replace HDV2:=Lib.hid (HDV2.out.kept o4 (by simp) (fun _ h=>h))
      replace HA1:=Lib.hid (o4.heap HA1.out (by simp))
      replace HA2:=Lib.hid (o4.heap HA2.out (by simp))
      have HIN1:=Lib.hid h4
      clear o4 h4 hgi
      have y0:w6.cell? ⟨gd2,0,none⟩=some (.string sn2):=cell_at 0 HA2.out
      have y1:w6.cell? ⟨gd2,1,none⟩=some (.slice a12 l12 c12):=cell_at 1 HA2.out
      have y2:w6.cell? ⟨gd2,2,none⟩=some (.slice a22 l22 c22):=cell_at 2 HA2.out
      have y3:w6.cell? ⟨gd2,3,none⟩=some (.slice a32 l32 c32):=cell_at 3 HA2.out
      have y4:w6.cell? ⟨gd2,4,none⟩=some (.slice a42 l42 c42):=cell_at 4 HA2.out
      have K3:=rcheck_any HDV2.out HWH2.out HPL2.out
      obtain ⟨i0,cf2,pf2,hi2⟩:∃ i c p,chkD d2=(i,c,p):=⟨_,_,_,rfl⟩
      rw [hi2] at K3
      obtain ⟨im2,ist2,inn2,itu2⟩:=i0
      unfold infoV at K3
      dsimp only at K3
      have HMD2:=Lib.hid (fun h=>mode_of HWH2.out HPL2.out hi2 h)
      obtain ⟨st2,hst⟩:∃ x:Int,x=ist2:=⟨_,rfl⟩
      obtain ⟨nm2,hnm⟩:∃ x:Int,x=inn2:=⟨_,rfl⟩
      rw [← hst,← hnm] at K3
      clear hi2 hst hnm
      go_wp2_with fail
      refine K3.mono ?_
      rintro e w7 ⟨rfl,o3⟩
      replace HO:=Lib.hid (HO.out.trans o3 (by simp))
      replace HX1:=Lib.hid (o3.heap HX1.out (by simp))
      replace HX2:=Lib.hid (o3.heap HX2.out (by simp))
      replace HDV1:=Lib.hid (HDV1.out.kept o3 (by simp) (fun _ h=>h))
      replace HDV2:=Lib.hid (HDV2.out.kept o3 (by simp) (fun _ h=>h))
      replace HA1:=Lib.hid (o3.heap HA1.out (by simp))
      replace HA2:=Lib.hid (o3.heap HA2.out (by simp))
      replace HIN1:=Lib.hid (o3.heap HIN1.out (by simp))
      clear K3 o3 y0 y1 y2 y3 y4
      go_upto_region 9 with (fail)
      have o4:=(Only.refl [] w7).alloc (.cells #[.int .i64 im2,.int .i64 st2,.int .i64 nm2,.bool itu2] 47)
      have h4:=heap_new w7 (.cells #[.int .i64 im2,.int .i64 st2,.int .i64 nm2,.bool itu2] 47)
      obtain ⟨gi2,hgi⟩:∃ g,g=w7.heap.size:=⟨_,rfl⟩
      rw [← hgi] at h4⊢
      generalize w7.alloc (.cells #[.int .i64 im2,.int .i64 st2,.int .i64 nm2,.bool itu2] 47)=w8 at o4 h4⊢
      replace HO:=Lib.hid (HO.out.trans o4 (by simp))
      replace HX1:=Lib.hid (o4.heap HX1.out (by simp))
      replace HX2:=Lib.hid (o4.heap HX2.out (by simp))
      replace HDV1:=Lib.hid (HDV1.out.kept o4 (by simp) (fun _ h=>h))
      replace HDV2:=Lib.hid (HDV2.out.kept o4 (by simp) (fun _ h=>h))
      replace HA1:=Lib.hid (o4.heap HA1.out (by simp))
      replace HA2:=Lib.hid (o4.heap HA2.out (by simp))
      have HIN2:=Lib.hid h4
      replace HIN1:=Lib.hid (o4.heap HIN1.out (by simp))
      clear o4 h4 hgi
      have z1:w8.cell? ⟨gi1,0,none⟩=some (.int .i64 im1):=cell_at 0 HIN1.out
      have z2:w8.cell? ⟨gi2,0,none⟩=some (.int .i64 im2):=cell_at 0 HIN2.out
      have z3:w8.cell? ⟨gx1,2,none⟩=some (.slice ca1 mn1 cc1):=cell_at 2 HX1.out
      have z4:w8.cell? ⟨gx2,2,none⟩=some (.slice ca2 mn2 cc2):=cell_at 2 HX2.out
      have z5:w8.cell? ⟨gd1,1,none⟩=some (.slice a11 l11 c11):=cell_at 1 HA1.out
      have z6:w8.cell? ⟨gd2,1,none⟩=some (.slice a12 l12 c12):=cell_at 1 HA2.out
      by_cases f1:cf1=0
      · have f1':(cf1 != 0)=false:=by simp [f1]
        by_cases f2:cf2=0
        · have f2':(cf2 != 0)=false:=by simp [f2]
          by_cases g1:im1=2
          · have g1':(im1 != 2)=false:=by simp [g1]
            by_cases g2:im2=2
            · have g2':(im2 != 2)=false:=by simp [g2]
              by_cases n1:mn1=l11
              · have n1':((mn1:Int) != (l11:Int))=false:=by simp [n1]
                by_cases n2:mn2=l12
                · have n2':((mn2:Int) != (l12:Int))=false:=by simp [n2]
                  obtain ⟨hfl1,hmd1⟩:=HMD1.out f1
                  obtain ⟨hfl2,hmd2⟩:=HMD2.out f2
                  obtain ⟨ok1,D1,gv1,hrun1⟩:=adds_run hfl1 (hmd1.trans g1) (av:=m1) (by rw [← HN1.out,n1];exact HLP1.out)
                  obtain ⟨ok2,D2,gv2,hrun2⟩:=adds_run hfl2 (hmd2.trans g2) (av:=m2) (by rw [← HN2.out,n2];exact HLP2.out)
                  have HRU1:=Lib.hid hrun1
                  have HRU2:=Lib.hid hrun2
                  clear f1 f2 g1 g2 n1 n2 hfl1 hfl2 hmd1 hmd2 hrun1 hrun2 HMD1 HMD2 HLP1 HLP2 HN1 HN2
                  have xb:w8.cell? ⟨gx1,1,none⟩=some (.slice ba1 ln bc1):=cell_at 1 HX1.out
                  go_wp2_with fail
                  refine (filled9_any _ l1 w8 (HB.out.kept HO.out (by intro a n c e h;simp)) HL.out).mono ?_
                  rintro e w9 ⟨rfl,o9⟩
                  rw [← HCD.out]
                  replace HO:=Lib.hid (HO.out.trans o9 (by simp))
                  replace HX1:=Lib.hid (o9.heap HX1.out (by simp))
                  replace HX2:=Lib.hid (o9.heap HX2.out (by simp))
                  replace HDV1:=Lib.hid (HDV1.out.kept o9 (by simp) (fun _ h=>h))
                  replace HDV2:=Lib.hid (HDV2.out.kept o9 (by simp) (fun _ h=>h))
                  replace HA1:=Lib.hid (o9.heap HA1.out (by simp))
                  replace HA2:=Lib.hid (o9.heap HA2.out (by simp))
                  clear o9 xb z1 z2 z3 z4 z5 z6 f1' f2' g1' g2' n1' n2' HB HL HCD HIN1 HIN2
                  go_upto_region 12 with (first
                    | (clear T1
                       refine wpList_new_page rfl rfl ?_
                       intro wn gp hbp hgp hop
                       have HP6:=Lib.hid hbp
                       have HOP:=Lib.hid hop
                       have HGP:=Lib.hid hgp
                       clear hbp hgp hop)
                    | (refine wpList_store_page rfl _ _ rfl gp (5 :: c) (by rfl) (by rfl) H61.out _ HP6.out (by rfl) ?_
                       intro w10 hb7 ho7))
                  have oPP:Only [] w9 w10:=HOP.out.trans ho7 (fun k hk=>.inr (by rw [List.mem_singleton.1 hk];exact HGP.out))
                  replace HO:=Lib.hid (HO.out.trans oPP (by simp))
                  replace HX1:=Lib.hid (oPP.heap HX1.out (by simp))
                  replace HX2:=Lib.hid (oPP.heap HX2.out (by simp))
                  replace HDV1:=Lib.hid (HDV1.out.kept oPP (by simp) (fun _ h=>h))
                  replace HDV2:=Lib.hid (HDV2.out.kept oPP (by simp) (fun _ h=>h))
                  replace HA1:=Lib.hid (oPP.heap HA1.out (by simp))
                  replace HA2:=Lib.hid (oPP.heap HA2.out (by simp))
                  have HP:=Lib.hid hb7
                  clear HP6 HOP HGP hb7 ho7 oPP
                  obtain ⟨P1,hP1⟩:∃ P,P=(if ok1=true then ((5,plusC c D1),gv1,0) else ((0,blankP),0,12):(Int×List Int)×Int×Int):=⟨_,rfl⟩
                  obtain ⟨P2,hP2⟩:∃ P,P=(if ok2=true then ((5,plusC c D2),gv2,0) else ((0,blankP),0,12):(Int×List Int)×Int×Int):=⟨_,rfl⟩
                  have HP1:=Lib.hid hP1
                  have HP2:=Lib.hid hP2
                  have hlen:∀ (b:Bool) (D:Nat→Int) (g:Int) (P:(Int×List Int)×Int×Int),P=(if b=true then ((5,plusC c D),g,0) else ((0,blankP),0,12))→(P.1.1 :: P.1.2).length=61:=fun b D g P e=>by
                    cases b
                    · rw [e];rfl
                    · rw [e]
                      show (5 :: plusC c D).length=61
                      rw [List.length_cons,plusC_len,HCW.out.len]
                  have HL1:=Lib.hid (hlen ok1 D1 gv1 P1 hP1)
                  have HL2:=Lib.hid (hlen ok2 D2 gv2 P2 hP2)
                  clear hP1 hP2 hlen
                  have y0:w10.cell? ⟨gd1,0,none⟩=some (.string sn1):=cell_at 0 HA1.out
                  have y1:w10.cell? ⟨gd1,1,none⟩=some (.slice a11 l11 c11):=cell_at 1 HA1.out
                  have y2:w10.cell? ⟨gd1,2,none⟩=some (.slice a21 l21 c21):=cell_at 2 HA1.out
                  have y3:w10.cell? ⟨gd1,3,none⟩=some (.slice a31 l31 c31):=cell_at 3 HA1.out
                  have y4:w10.cell? ⟨gd1,4,none⟩=some (.slice a41 l41 c41):=cell_at 4 HA1.out
                  have xx:w10.cell? ⟨gx1,2,none⟩=some (.slice ca1 mn1 cc1):=cell_at 2 HX1.out
                  have KR:=run_any HDV1.out HWH1.out HPL1.out HGD1.out HCW.out (n:=5) (HC1.out.kept HO.out (by intro a n c e h;simp)) HM1.out
                  rw [HRU1.out 5 _ HCW.out] at KR
                  rw [← HP1.out] at KR
                  go_wp2_with (refine wpList_load_page rfl _ rfl gp (by rfl) (5 :: c) HP.out H61.out ?_)
                  refine KR.mono ?_
                  rintro e w11 ⟨rfl,oR⟩
                  replace HO:=Lib.hid (HO.out.trans oR (by simp))
                  replace HX1:=Lib.hid (oR.heap HX1.out (by simp))
                  replace HX2:=Lib.hid (oR.heap HX2.out (by simp))
                  replace HDV1:=Lib.hid (HDV1.out.kept oR (by simp) (fun _ h=>h))
                  replace HDV2:=Lib.hid (HDV2.out.kept oR (by simp) (fun _ h=>h))
                  replace HA1:=Lib.hid (oR.heap HA1.out (by simp))
                  replace HA2:=Lib.hid (oR.heap HA2.out (by simp))
                  replace HP:=Lib.hid (HP.out.kept oR (by simp))
                  clear KR oR y0 y1 y2 y3 y4 xx
                  go_upto_region 13 with (first
                    | (clear T2
                       refine wpList_new_page rfl rfl ?_
                       intro wn gq1 hbp hgp hop
                       have HP6:=Lib.hid hbp
                       have HOP:=Lib.hid hop
                       have HGP:=Lib.hid hgp
                       clear hbp hgp hop)
                    | (refine wpList_store_page rfl _ _ rfl gq1 (P1.1.1 :: P1.1.2) (by rfl) (by rfl) HL1.out _ HP6.out (by rfl) ?_
                       intro w12 hb7 ho7))
                  have oPP:Only [] w11 w12:=HOP.out.trans ho7 (fun k hk=>.inr (by rw [List.mem_singleton.1 hk];exact HGP.out))
                  replace HO:=Lib.hid (HO.out.trans oPP (by simp))
                  replace HX1:=Lib.hid (oPP.heap HX1.out (by simp))
                  replace HX2:=Lib.hid (oPP.heap HX2.out (by simp))
                  replace HDV1:=Lib.hid (HDV1.out.kept oPP (by simp) (fun _ h=>h))
                  replace HDV2:=Lib.hid (HDV2.out.kept oPP (by simp) (fun _ h=>h))
                  replace HA1:=Lib.hid (oPP.heap HA1.out (by simp))
                  replace HA2:=Lib.hid (oPP.heap HA2.out (by simp))
                  replace HP:=Lib.hid (HP.out.kept oPP (by simp))
                  have HQ1:=Lib.hid hb7
                  clear HP6 HOP HGP hb7 ho7 oPP
                  have y0:w12.cell? ⟨gd2,0,none⟩=some (.string sn2):=cell_at 0 HA2.out
                  have y1:w12.cell? ⟨gd2,1,none⟩=some (.slice a12 l12 c12):=cell_at 1 HA2.out
                  have y2:w12.cell? ⟨gd2,2,none⟩=some (.slice a22 l22 c22):=cell_at 2 HA2.out
                  have y3:w12.cell? ⟨gd2,3,none⟩=some (.slice a32 l32 c32):=cell_at 3 HA2.out
                  have y4:w12.cell? ⟨gd2,4,none⟩=some (.slice a42 l42 c42):=cell_at 4 HA2.out
                  have xx:w12.cell? ⟨gx2,2,none⟩=some (.slice ca2 mn2 cc2):=cell_at 2 HX2.out
                  have KR:=run_any HDV2.out HWH2.out HPL2.out HGD2.out HCW.out (n:=5) (HC2.out.kept HO.out (by intro a n c e h;simp)) HM2.out
                  rw [HRU2.out 5 _ HCW.out] at KR
                  rw [← HP2.out] at KR
                  go_wp2_with (refine wpList_load_page rfl _ rfl gp (by rfl) (5 :: c) HP.out H61.out ?_)
                  refine KR.mono ?_
                  rintro e w13 ⟨rfl,oR⟩
                  replace HO:=Lib.hid (HO.out.trans oR (by simp))
                  replace HX1:=Lib.hid (oR.heap HX1.out (by simp))
                  replace HX2:=Lib.hid (oR.heap HX2.out (by simp))
                  replace HDV1:=Lib.hid (HDV1.out.kept oR (by simp) (fun _ h=>h))
                  replace HDV2:=Lib.hid (HDV2.out.kept oR (by simp) (fun _ h=>h))
                  replace HA1:=Lib.hid (oR.heap HA1.out (by simp))
                  replace HA2:=Lib.hid (oR.heap HA2.out (by simp))
                  replace HQ1:=Lib.hid (HQ1.out.kept oR (by simp))
                  clear KR oR y0 y1 y2 y3 y4 xx HP
                  go_upto_region 14 with (first
                    | (clear T3
                       refine wpList_new_page rfl rfl ?_
                       intro wn gq2 hbp hgp hop
                       have HP6:=Lib.hid hbp
                       have HOP:=Lib.hid hop
                       have HGP:=Lib.hid hgp
                       clear hbp hgp hop)
                    | (refine wpList_store_page rfl _ _ rfl gq2 (P2.1.1 :: P2.1.2) (by rfl) (by rfl) HL2.out _ HP6.out (by rfl) ?_
                       intro w14 hb7 ho7))
                  have oPP:Only [] w13 w14:=HOP.out.trans ho7 (fun k hk=>.inr (by rw [List.mem_singleton.1 hk];exact HGP.out))
                  replace HO:=Lib.hid (HO.out.trans oPP (by simp))
                  replace HX1:=Lib.hid (oPP.heap HX1.out (by simp))
                  replace HX2:=Lib.hid (oPP.heap HX2.out (by simp))
                  replace HDV1:=Lib.hid (HDV1.out.kept oPP (by simp) (fun _ h=>h))
                  replace HDV2:=Lib.hid (HDV2.out.kept oPP (by simp) (fun _ h=>h))
                  replace HA1:=Lib.hid (oPP.heap HA1.out (by simp))
                  replace HA2:=Lib.hid (oPP.heap HA2.out (by simp))
                  replace HQ1:=Lib.hid (HQ1.out.kept oPP (by simp))
                  have HQ2:=Lib.hid hb7
                  clear HP6 HOP HGP hb7 ho7 oPP
                  have q1:=neq_nil
                  have q2:=neq_err 12
                  have q3:=nil_nil9
                  have q4:=eql_err 12
                  have q5:=e12_e12
                  cases ok1 with
                  | false=>
                    obtain rfl:P1=((0,blankP),0,12):=HP1.out.trans (if_neg (by decide))
                    dsimp only
                    rw [errV12]
                    cases ok2 with
                    | false=>
                      obtain rfl:P2=((0,blankP),0,12):=HP2.out.trans (if_neg (by decide))
                      dsimp only
                      try rw [errV12]
                      go_wp2_with fail
                      go_ret
                      exact ⟨rfl,HO.out⟩
                    | true=>
                      obtain rfl:P2=((5,plusC c D2),gv2,0):=HP2.out.trans (if_pos rfl)
                      dsimp only
                      rw [errV0]
                      go_wp2_with fail
                      go_ret
                      exact ⟨rfl,HO.out⟩
                  | true=>
                    obtain rfl:P1=((5,plusC c D1),gv1,0):=HP1.out.trans (if_pos rfl)
                    dsimp only
                    rw [errV0]
                    cases ok2 with
                    | false=>
                      obtain rfl:P2=((0,blankP),0,12):=HP2.out.trans (if_neg (by decide))
                      dsimp only
                      rw [errV12]
                      go_wp2_with fail
                      go_ret
                      exact ⟨rfl,HO.out⟩
                    | true=>
                      obtain rfl:P2=((5,plusC c D2),gv2,0):=HP2.out.trans (if_pos rfl)
                      dsimp only
                      try rw [errV0]
                      have HCW1:=Lib.hid (plusC_cw HCW.out D1)
                      have HCW2:=Lib.hid (plusC_cw HCW.out D2)
                      have HCC:Hid (plusC (plusC c D1) D2=plusC (plusC c D2) D1):=Lib.hid (plusC_comm c D1 D2)
                      have HL12:Hid ((5 :: plusC (plusC c D2) D1).length=61):=Lib.hid (by rw [List.length_cons,plusC_len,plusC_len,HCW.out.len])
                      have HL60:Hid ((plusC (plusC c D2) D1).length=60):=Lib.hid (by rw [plusC_len,plusC_len,HCW.out.len])
                      have y0:w14.cell? ⟨gd2,0,none⟩=some (.string sn2):=cell_at 0 HA2.out
                      have y1:w14.cell? ⟨gd2,1,none⟩=some (.slice a12 l12 c12):=cell_at 1 HA2.out
                      have y2:w14.cell? ⟨gd2,2,none⟩=some (.slice a22 l22 c22):=cell_at 2 HA2.out
                      have y3:w14.cell? ⟨gd2,3,none⟩=some (.slice a32 l32 c32):=cell_at 3 HA2.out
                      have y4:w14.cell? ⟨gd2,4,none⟩=some (.slice a42 l42 c42):=cell_at 4 HA2.out
                      have xx:w14.cell? ⟨gx2,2,none⟩=some (.slice ca2 mn2 cc2):=cell_at 2 HX2.out
                      have KR:=run_any HDV2.out HWH2.out HPL2.out HGD2.out HCW1.out (n:=5) (HC2.out.kept HO.out (by intro a n c e h;simp)) HM2.out
                      rw [HRU2.out 5 _ HCW1.out] at KR
                      first | rw [if_pos rfl,HCC.out] at KR | rw [if_pos trivial,HCC.out] at KR
                      go_wp2_with (refine wpList_load_page rfl _ rfl gq1 (by rfl) (5 :: plusC c D1) HQ1.out HL1.out ?_)
                      refine KR.mono ?_
                      rintro e w15 ⟨rfl,oR⟩
                      dsimp only
                      try rw [errV0]
                      replace HO:=Lib.hid (HO.out.trans oR (by simp))
                      replace HX1:=Lib.hid (oR.heap HX1.out (by simp))
                      replace HX2:=Lib.hid (oR.heap HX2.out (by simp))
                      replace HDV1:=Lib.hid (HDV1.out.kept oR (by simp) (fun _ h=>h))
                      replace HDV2:=Lib.hid (HDV2.out.kept oR (by simp) (fun _ h=>h))
                      replace HA1:=Lib.hid (oR.heap HA1.out (by simp))
                      replace HA2:=Lib.hid (oR.heap HA2.out (by simp))
                      replace HQ2:=Lib.hid (HQ2.out.kept oR (by simp))
                      clear KR oR y0 y1 y2 y3 y4 xx HQ1
                      go_upto_region 17 with (first
                        | (clear T4
                           refine wpList_new_page rfl rfl ?_
                           intro wn gr1 hbp hgp hop
                           have HP6:=Lib.hid hbp
                           have HOP:=Lib.hid hop
                           have HGP:=Lib.hid hgp
                           clear hbp hgp hop)
                        | (refine wpList_store_page rfl _ _ rfl gr1 (5 :: plusC (plusC c D2) D1) (by rfl) (by rfl) HL12.out _ HP6.out (by rfl) ?_
                           intro w16 hb7 ho7))
                      have oPP:Only [] w15 w16:=HOP.out.trans ho7 (fun k hk=>.inr (by rw [List.mem_singleton.1 hk];exact HGP.out))
                      replace HO:=Lib.hid (HO.out.trans oPP (by simp))
                      replace HX1:=Lib.hid (oPP.heap HX1.out (by simp))
                      replace HX2:=Lib.hid (oPP.heap HX2.out (by simp))
                      replace HDV1:=Lib.hid (HDV1.out.kept oPP (by simp) (fun _ h=>h))
                      replace HDV2:=Lib.hid (HDV2.out.kept oPP (by simp) (fun _ h=>h))
                      replace HA1:=Lib.hid (oPP.heap HA1.out (by simp))
                      replace HA2:=Lib.hid (oPP.heap HA2.out (by simp))
                      replace HQ2:=Lib.hid (HQ2.out.kept oPP (by simp))
                      have HR1:=Lib.hid hb7
                      clear HP6 HOP HGP hb7 ho7 oPP
                      have y0:w16.cell? ⟨gd1,0,none⟩=some (.string sn1):=cell_at 0 HA1.out
                      have y1:w16.cell? ⟨gd1,1,none⟩=some (.slice a11 l11 c11):=cell_at 1 HA1.out
                      have y2:w16.cell? ⟨gd1,2,none⟩=some (.slice a21 l21 c21):=cell_at 2 HA1.out
                      have y3:w16.cell? ⟨gd1,3,none⟩=some (.slice a31 l31 c31):=cell_at 3 HA1.out
                      have y4:w16.cell? ⟨gd1,4,none⟩=some (.slice a41 l41 c41):=cell_at 4 HA1.out
                      have xx:w16.cell? ⟨gx1,2,none⟩=some (.slice ca1 mn1 cc1):=cell_at 2 HX1.out
                      have KR:=run_any HDV1.out HWH1.out HPL1.out HGD1.out HCW2.out (n:=5) (HC1.out.kept HO.out (by intro a n c e h;simp)) HM1.out
                      rw [HRU1.out 5 _ HCW2.out] at KR
                      first | rw [if_pos rfl] at KR | rw [if_pos trivial] at KR
                      go_wp2_with (refine wpList_load_page rfl _ rfl gq2 (by rfl) (5 :: plusC c D2) HQ2.out HL2.out ?_)
                      refine KR.mono ?_
                      rintro e w17 ⟨rfl,oR⟩
                      dsimp only
                      try rw [errV0]
                      replace HR1:=Lib.hid (HR1.out.kept oR (by simp))
                      replace HO:=Lib.hid (HO.out.trans oR (by simp))
                      replace HX1:=Lib.hid (oR.heap HX1.out (by simp))
                      replace HX2:=Lib.hid (oR.heap HX2.out (by simp))
                      replace HDV1:=Lib.hid (HDV1.out.kept oR (by simp) (fun _ h=>h))
                      replace HDV2:=Lib.hid (HDV2.out.kept oR (by simp) (fun _ h=>h))
                      replace HA1:=Lib.hid (oR.heap HA1.out (by simp))
                      replace HA2:=Lib.hid (oR.heap HA2.out (by simp))
                      clear KR oR y0 y1 y2 y3 y4 xx HQ2
                      go_upto_region 18 with (first
                        | (clear T5
                           refine wpList_new_page rfl rfl ?_
                           intro wn gr2 hbp hgp hop
                           have HP6:=Lib.hid hbp
                           have HOP:=Lib.hid hop
                           have HGP:=Lib.hid hgp
                           clear hbp hgp hop)
                        | (refine wpList_store_page rfl _ _ rfl gr2 (5 :: plusC (plusC c D2) D1) (by rfl) (by rfl) HL12.out _ HP6.out (by rfl) ?_
                           intro w18 hb7 ho7))
                      have oPP:Only [] w17 w18:=HOP.out.trans ho7 (fun k hk=>.inr (by rw [List.mem_singleton.1 hk];exact HGP.out))
                      replace HO:=Lib.hid (HO.out.trans oPP (by simp))
                      replace HX1:=Lib.hid (oPP.heap HX1.out (by simp))
                      replace HX2:=Lib.hid (oPP.heap HX2.out (by simp))
                      replace HDV1:=Lib.hid (HDV1.out.kept oPP (by simp) (fun _ h=>h))
                      replace HDV2:=Lib.hid (HDV2.out.kept oPP (by simp) (fun _ h=>h))
                      replace HA1:=Lib.hid (oPP.heap HA1.out (by simp))
                      replace HA2:=Lib.hid (oPP.heap HA2.out (by simp))
                      replace HR1:=Lib.hid (HR1.out.kept oPP (by simp))
                      have HR2:=Lib.hid hb7
                      clear HP6 HOP HGP hb7 ho7 oPP HDV1 HDV2 HA1 HA2 HX1 HX2 q2 q4 q5
                      have v1:(gv1 == gv1)=true:=by simp
                      have v2:(gv2 == gv2)=true:=by simp
                      have D3:=Lib.hid (show (decide ((5:Int)=5) && decide (plusC (plusC c D2) D1=plusC (plusC c D2) D1))=true by simp)
                      go_simp
                      repeat (first
                        | (guard_target =~ Oper.wp _ (Oper.mk (some 164) _ _ _ _ _) _ _ _ _;refine wp_page_load (.tmp 24) rfl gr1 (by rfl) (5 :: plusC (plusC c D2) D1) HR1.out HL12.out ?_;simp only [Act.put,List.setIfInBounds_toArray,List.set_cons_zero,List.set_cons_succ])
                        | (guard_target =~ Oper.wp _ (Oper.mk (some 165) _ _ _ _ _) _ _ _ _;refine wp_page_load (.tmp 26) rfl gr2 (by rfl) (5 :: plusC (plusC c D2) D1) HR2.out HL12.out ?_;simp only [Act.put,List.setIfInBounds_toArray,List.set_cons_zero,List.set_cons_succ])
                        | (guard_target =~ Oper.wp _ (Oper.mk (some 166) _ _ _ _ _) _ _ _ _;refine wp_page_eql (.tmp 164) (.tmp 165) rfl 5 5 (plusC (plusC c D2) D1) (plusC (plusC c D2) D1) (by rfl) (by rfl) HL60.out HL60.out ?_;rw [D3.out];simp only [Act.put,List.setIfInBounds_toArray,List.set_cons_zero,List.set_cons_succ])
                        | go_values | go_skip | go_guarded | go_step | go_upon)
                      go_ret
                      exact ⟨rfl,HO.out⟩
                · have n2':((mn2:Int) != (l12:Int))=true:=by simp;omega
                  clear f1 f2 g1 g2 n1 n2
                  go_wp2_with fail
                  go_ret
                  exact ⟨rfl,HO.out⟩
              · have n1':((mn1:Int) != (l11:Int))=true:=by simp;omega
                clear f1 f2 g1 g2 n1
                go_wp2_with fail
                go_ret
                exact ⟨rfl,HO.out⟩
            · have g2':(im2 != 2)=true:=by simpa using g2
              clear f1 f2 g1 g2
              go_wp2_with fail
              go_ret
              exact ⟨rfl,HO.out⟩
          · have g1':(im1 != 2)=true:=by simpa using g1
            clear f1 f2 g1
            go_wp2_with fail
            go_ret
            exact ⟨rfl,HO.out⟩
        · have f2':(cf2 != 0)=true:=by simpa using f2
          clear f1 f2
          go_wp2_with fail
          go_ret
          exact ⟨rfl,HO.out⟩
      · have f1':(cf1 != 0)=true:=by simpa using f1
        clear f1
        go_wp2_with fail
        go_ret
        exact ⟨rfl,HO.out⟩
set_option maxRecDepth 100000 in
theorem eadds_lifted (os:Os) (started:os.Started) (H:Type) (enc:TypeId×Value→H) :
  ReturnsInHanded {} Try.checked os 5 .any (Rows.evalAddsSpec.pre6 enc Try.prog Try.f5 Rows.evalAddsRow.domain false) (Rows.evalAddsSpec.post enc Try.prog Try.f5 false true false false):=by
 refine returnsInHanded_of_change (C:=Try.checked) law_own started (by kernel_rfl) Try.func5
  (ChangeSpec.witness6 (enc:=enc) (C:=Try.checked) false ⟨#[],#[.agg #[.string ⟨#[]⟩,.slice none 0 0,.slice none 0 0],.agg #[.string ⟨#[]⟩,.slice none 0 0,.slice none 0 0]],[]⟩ 8 (by kernel_rfl) (by kernel_rfl) (by kernel_rfl) (by kernel_rfl)) ?_
 intro W base args ds gs before hval0 hW hcnd _
 have hval:∀ (j:Nat) t v,Try.f5.params[j]?=some t→args[j]?=some v→Value.okWide Try.prog W .any base t v:=hval0
 have hW':=hW
 obtain ⟨p,q,hA0,hV,rfl,hfz,hnd⟩:=hW
 have hA:DataW.TrodAll enc Try.prog W 0 (fun _=>true) true Try.f5.params.toList args.toList ds p:=hA0
 rw [Try.params5] at hA hval
 obtain ⟨v0,vs0,d0,ds0,p0,q0,hargs,rfl,rfl,h0,r0⟩:=trodAll_cons hA
 obtain ⟨v1,vs1,d1,ds1,p1,q1,rfl,rfl,rfl,h1,r1⟩:=trodAll_cons r0
 obtain ⟨rfl,rfl,rfl⟩:=trodAll_nil r1
 obtain rfl:args=#[v0,v1]:=by cases args;simp_all
 obtain ⟨rfl,rfl⟩:=trodVars_none hV
 have h0':=h0
 obtain ⟨s0,b0,l0,c0,m0,rfl,hs0,hb0,hg0,hl0,hc0,hk0,hm0⟩:=open_case9 (hval 0 24 v0 rfl rfl) h0
 have hlt0:∀ x∈p0,x.block < W.heap.size:=fun x hx=>hW'.lt x (by simp [hx])
 have h1':=h1
 obtain ⟨s1,b1,l1,c1,m1,rfl,hs1,hb1,hg1,hl1,hc1,hk1,hm1⟩:=open_case9 (hval 1 24 v1 rfl rfl) h1
 have hlt1:∀ x∈p1,x.block < W.heap.size:=fun x hx=>hW'.lt x (by simp [hx])
 clear hA0 hval0
 refine (eadds_walk s0 b0 c0 s1 b1 c1 l0 m0 l1 m1 W hs0 hb0 hg0 hl0 hc0 hk0 hm0 hs1 hb1 hg1 hl1 hc1 hk1 hm1).mono fun e W' ⟨he,hg⟩=>?_
 subst he
 exact ⟨_,rfl,post_quiet (pa:=(p0++(p1++[]))) (pv:=[]) hW' hg (fun _ _ _=>(trodAll_cons_mk (shut_bool Try.underlying4 _) trodAll_mk0)) (fun sp hsp=>(trodAll_cons_mk (arg_stays (by kernel_rfl) (of_decide_eq_true (by kernel_rfl)) h0' hg hlt0 (fun x hx=>hsp x (by simp [hx]))) (trodAll_cons_mk (arg_stays (by kernel_rfl) (of_decide_eq_true (by kernel_rfl)) h1' hg hlt1 (fun x hx=>hsp x (by simp [hx]))) trodAll_mk0))) (fun _ _=>rfl) (by simp) (ok_one (by kernel_rfl) rfl (okWide_bool_mk Try.underlying4 _))⟩
theorem eadds_over:Rows.evalAddsRow.holds Try.pinned (OpenSpec.ofChange Rows.evalAddsSpec):=
 OpenClaim.holds_of_wide 5 Try.f5 rfl rfl rfl rfl rfl rfl rfl ⟨rfl,rfl,rfl,rfl,rfl⟩ rfl rfl rfl rfl rfl (by kernel_rfl) Try.func5 (by kernel_rfl)
  (of_decide_eq_true (by kernel_rfl)) (by unfold Func.isWrapper;first | (rw [if_pos (by decide +kernel)];kernel_rfl) | (rw [if_neg (by decide +kernel)];exact ⟨rfl,rfl⟩))
  (fun os started H enc _=>eadds_lifted os started H enc)
theorem eadds_holds:Rows.EvalAddsSaid:=
 eadds_over
#print axioms eadds_holds
end Go.Proofs.Ytiaeagpepfmfgaa
