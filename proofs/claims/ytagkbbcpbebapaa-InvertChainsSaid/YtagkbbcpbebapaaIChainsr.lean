/- InvertChains, for every input: it returns true, and its arguments read behind the call as they did: of operations one behind the other the undoing is that of the last one first. No condition. -/
import Derived.Test.YtagkbbcpbebapaaIfr
import Derived.Test.YtagkbbcpbebapaaWar
import Derived.Test.YtagkbbcpbebapaaZgr
import Derived.ChangeMaps5
namespace Go.Proofs.Ytagkbbcpbebapaa
open Go.ChangeShapes Go.WideShapes Go.ChangeAt Go.RowKit Go.Maps
set_option linter.unusedVariables false
set_option linter.unusedSimpArgs false
theorem neq_pages (c:List Int):(!(decide ((5:Int)=5) && decide (c=c)))=false:=by simp
set_option maxRecDepth 100000 in
set_option maxHeartbeats 16000000 in
theorem ichains_walk (s1:ByteArray) (bv1 cv1:Value) (s2:ByteArray) (bv2 cv2:Value) (l1 m1 l2 m2:List Int) (w:World) (hs1:s1.size≤maxLen) (hb1:IntsV w bv1 l1) (_:Fit bv1) (hl1:l1.length≤maxLen) (hc1:IntsV w cv1 m1) (_:Fit cv1) (hm1:m1.length≤maxLen)
    (hs2:s2.size≤maxLen) (hb2:IntsV w bv2 l2) (_:Fit bv2) (hl2:l2.length≤maxLen) (hc2:IntsV w cv2 m2) (_:Fit cv2) (hm2:m2.length≤maxLen) :
    Calls Try.prog 8 #[.agg #[.string s1,bv1,cv1],.agg #[.string s2,bv2,cv2]] w fun e w'=>e=.returned (.bool true)∧Only [] w w':=by
  have hs1':s1.size≤9223372036854775807:=by unfold maxLen at hs1;omega
  have hl':l1.length≤9223372036854775807:=by unfold maxLen at hl1;omega
  obtain ⟨ba1,bc1,rfl,-⟩:=id hb1
  obtain ⟨ca1,cc1,rfl,-⟩:=id hc1
  have HB:=Hd hb1
  have HC1:=Hd hc1
  have HM1:=Hd hm1
  have HL:=Hd hl'
  have HCW:=Hd (cw_fil (ints_n64 hb1) 60)
  obtain ⟨c,hcd⟩:∃ c,c=filC l1 60:=⟨_,rfl⟩
  rw [← hcd] at HCW
  have HCD:=Hd hcd
  have H61:Hid ((5 :: c).length=61):=Hd (by rw [List.length_cons,HCW.out.len])
  obtain ⟨ln1,hln⟩:∃ n,n=l1.length:=⟨_,rfl⟩
  obtain ⟨mn1,hmn⟩:∃ n,n=m1.length:=⟨_,rfl⟩
  rw [← hln] at HB⊢
  rw [← hmn] at HC1⊢
  clear hs1 hb1 hl1 hc1 hm1 hcd hln hmn hl'
  have T1:=trivial
  have T2:=trivial
  have T3:=trivial
  have T4:=trivial
  have T5:=trivial
  have hs2':s2.size≤9223372036854775807:=by unfold maxLen at hs2;omega
  obtain ⟨ba2,bc2,rfl,-⟩:=id hb2
  obtain ⟨ca2,cc2,rfl,-⟩:=id hc2
  have HC2:=Hd hc2
  have HM2:=Hd hm2
  obtain ⟨ln2,hln⟩:∃ n,n=l2.length:=⟨_,rfl⟩
  obtain ⟨mn2,hmn⟩:∃ n,n=m2.length:=⟨_,rfl⟩
  rw [← hln]
  rw [← hmn] at HC2⊢
  clear hs2 hb2 hl2 hc2 hm2 hln hmn
  go_enter Try.func8,Try.ntmps8
  go_upto_region 1 with (fail)
  have oX1:=(Only.refl [] w).alloc (.cells #[.string s1,.slice ba1 ln1 bc1,.slice ca1 mn1 cc1] 41)
  have hX1:=heap_new w (.cells #[.string s1,.slice ba1 ln1 bc1,.slice ca1 mn1 cc1] 41)
  obtain ⟨gx1,hgx1⟩:∃ g,g=w.heap.size:=⟨_,rfl⟩
  have hsy:(w.alloc (.cells #[.string s1,.slice ba1 ln1 bc1,.slice ca1 mn1 cc1] 41)).heap.size=w.heap.size+1:=Array.size_push _
  rw [← hgx1] at hX1 hsy⊢
  generalize w.alloc (.cells #[.string s1,.slice ba1 ln1 bc1,.slice ca1 mn1 cc1] 41)=wy at oX1 hX1 hsy⊢
  have oX2:=(Only.refl [] wy).alloc (.cells #[.string s2,.slice ba2 ln2 bc2,.slice ca2 mn2 cc2] 41)
  have hX2:=heap_new wy (.cells #[.string s2,.slice ba2 ln2 bc2,.slice ca2 mn2 cc2] 41)
  obtain ⟨gx2,hgx2⟩:∃ g,g=gx1+1:=⟨_,rfl⟩
  rw [hsy,← hgx2] at hX2
  rw [← hgx2]
  generalize wy.alloc (.cells #[.string s2,.slice ba2 ln2 bc2,.slice ca2 mn2 cc2] 41)=wx at oX2 hX2⊢
  have HO:=Hd (oX1.trans oX2 (by simp))
  have HX1:=Hd (oX2.heap hX1 (by simp))
  have HX2:=Hd hX2
  clear oX1 hX1 hgx1 oX2 hX2 hgx2 hsy
  go_wp2_with fail
  refine (alive10_any wx).mono ?_
  rintro e w0 ⟨rfl,o0⟩
  replace HO:=Hd (HO.out.trans o0 (by simp))
  (try replace HX1:=Hd (o0.heap HX1.out (by simp)))
  (try replace HX2:=Hd (o0.heap HX2.out (by simp)))
  (try replace HOK1:=Hd (fun d h=>(HOK1.out d h).kept o0 (by simp) (fun _ h=>h)))
  (try replace HOK2:=Hd (fun d h=>(HOK2.out d h).kept o0 (by simp) (fun _ h=>h)))
  (try replace HDV1:=Hd (HDV1.out.kept o0 (by simp) (fun _ h=>h)))
  (try replace HDV2:=Hd (HDV2.out.kept o0 (by simp) (fun _ h=>h)))
  (try replace HDV3:=Hd (HDV3.out.kept o0 (by simp) (fun _ h=>h)))
  (try replace HDV4:=Hd (HDV4.out.kept o0 (by simp) (fun _ h=>h)))
  (try replace HA1:=Hd (o0.heap HA1.out (by simp)))
  (try replace HA2:=Hd (o0.heap HA2.out (by simp)))
  (try replace HA3:=Hd (o0.heap HA3.out (by simp)))
  (try replace HA4:=Hd (o0.heap HA4.out (by simp)))
  (try replace HI1:=Hd (o0.heap HI1.out (by simp)))
  (try replace HI2:=Hd (o0.heap HI2.out (by simp)))
  (try replace HP1:=Hd (HP1.out.kept o0 (by simp)))
  (try replace HP2:=Hd (HP2.out.kept o0 (by simp)))
  (try replace HP3:=Hd (HP3.out.kept o0 (by simp)))
  (try replace HP4:=Hd (HP4.out.kept o0 (by simp)))
  (try replace HP5:=Hd (HP5.out.kept o0 (by simp)))
  clear o0
  have x0:w0.cell? ⟨gx1,0,none⟩=some (.string s1):=cell_at 0 HX1.out
  obtain ⟨R1,hR⟩:∃ R,R=parseS s1.data.toList:=⟨_,rfl⟩
  have K1:=parsed_any s1 w0 hs1'
  rw [← hR] at K1
  have HR1:=Hd hR
  clear hR
  go_wp2_with fail
  refine K1.mono ?_
  rintro e w0a ⟨sn1,a11,a21,a31,a41,l11,l21,l31,l41,c11,c21,c31,c41,rfl,hok,o1⟩
  replace HO:=Hd (HO.out.trans o1 (by simp))
  (try replace HX1:=Hd (o1.heap HX1.out (by simp)))
  (try replace HX2:=Hd (o1.heap HX2.out (by simp)))
  (try replace HOK1:=Hd (fun d h=>(HOK1.out d h).kept o1 (by simp) (fun _ h=>h)))
  (try replace HOK2:=Hd (fun d h=>(HOK2.out d h).kept o1 (by simp) (fun _ h=>h)))
  (try replace HDV1:=Hd (HDV1.out.kept o1 (by simp) (fun _ h=>h)))
  (try replace HDV2:=Hd (HDV2.out.kept o1 (by simp) (fun _ h=>h)))
  (try replace HDV3:=Hd (HDV3.out.kept o1 (by simp) (fun _ h=>h)))
  (try replace HDV4:=Hd (HDV4.out.kept o1 (by simp) (fun _ h=>h)))
  (try replace HA1:=Hd (o1.heap HA1.out (by simp)))
  (try replace HA2:=Hd (o1.heap HA2.out (by simp)))
  (try replace HA3:=Hd (o1.heap HA3.out (by simp)))
  (try replace HA4:=Hd (o1.heap HA4.out (by simp)))
  (try replace HI1:=Hd (o1.heap HI1.out (by simp)))
  (try replace HI2:=Hd (o1.heap HI2.out (by simp)))
  (try replace HP1:=Hd (HP1.out.kept o1 (by simp)))
  (try replace HP2:=Hd (HP2.out.kept o1 (by simp)))
  (try replace HP3:=Hd (HP3.out.kept o1 (by simp)))
  (try replace HP4:=Hd (HP4.out.kept o1 (by simp)))
  (try replace HP5:=Hd (HP5.out.kept o1 (by simp)))
  have HOK1:=Hd hok
  clear K1 o1 x0 hok
  go_upto_region 4 with (fail)
  have oA:=(Only.refl [] w0a).alloc (.cells #[.string sn1,.slice a11 l11 c11,.slice a21 l21 c21,.slice a31 l31 c31,.slice a41 l41 c41] 27)
  have hA:=heap_new w0a (.cells #[.string sn1,.slice a11 l11 c11,.slice a21 l21 c21,.slice a31 l31 c31,.slice a41 l41 c41] 27)
  obtain ⟨gd1,hgd⟩:∃ g,g=w0a.heap.size:=⟨_,rfl⟩
  rw [← hgd] at hA⊢
  generalize w0a.alloc (.cells #[.string sn1,.slice a11 l11 c11,.slice a21 l21 c21,.slice a31 l31 c31,.slice a41 l41 c41] 27)=w1 at oA hA⊢
  replace HO:=Hd (HO.out.trans oA (by simp))
  (try replace HX1:=Hd (oA.heap HX1.out (by simp)))
  (try replace HX2:=Hd (oA.heap HX2.out (by simp)))
  (try replace HOK1:=Hd (fun d h=>(HOK1.out d h).kept oA (by simp) (fun _ h=>h)))
  (try replace HOK2:=Hd (fun d h=>(HOK2.out d h).kept oA (by simp) (fun _ h=>h)))
  (try replace HDV1:=Hd (HDV1.out.kept oA (by simp) (fun _ h=>h)))
  (try replace HDV2:=Hd (HDV2.out.kept oA (by simp) (fun _ h=>h)))
  (try replace HDV3:=Hd (HDV3.out.kept oA (by simp) (fun _ h=>h)))
  (try replace HDV4:=Hd (HDV4.out.kept oA (by simp) (fun _ h=>h)))
  (try replace HA1:=Hd (oA.heap HA1.out (by simp)))
  (try replace HA2:=Hd (oA.heap HA2.out (by simp)))
  (try replace HA3:=Hd (oA.heap HA3.out (by simp)))
  (try replace HA4:=Hd (oA.heap HA4.out (by simp)))
  (try replace HI1:=Hd (oA.heap HI1.out (by simp)))
  (try replace HI2:=Hd (oA.heap HI2.out (by simp)))
  (try replace HP1:=Hd (HP1.out.kept oA (by simp)))
  (try replace HP2:=Hd (HP2.out.kept oA (by simp)))
  (try replace HP3:=Hd (HP3.out.kept oA (by simp)))
  (try replace HP4:=Hd (HP4.out.kept oA (by simp)))
  (try replace HP5:=Hd (HP5.out.kept oA (by simp)))
  have HA1:=Hd hA
  clear oA hA hgd
  have x0:w1.cell? ⟨gx2,0,none⟩=some (.string s2):=cell_at 0 HX2.out
  obtain ⟨R2,hR⟩:∃ R,R=parseS s2.data.toList:=⟨_,rfl⟩
  have K1:=parsed_any s2 w1 hs2'
  rw [← hR] at K1
  have HR2:=Hd hR
  clear hR
  go_wp2_with fail
  refine K1.mono ?_
  rintro e w1a ⟨sn2,a12,a22,a32,a42,l12,l22,l32,l42,c12,c22,c32,c42,rfl,hok,o1⟩
  replace HO:=Hd (HO.out.trans o1 (by simp))
  (try replace HX1:=Hd (o1.heap HX1.out (by simp)))
  (try replace HX2:=Hd (o1.heap HX2.out (by simp)))
  (try replace HOK1:=Hd (fun d h=>(HOK1.out d h).kept o1 (by simp) (fun _ h=>h)))
  (try replace HOK2:=Hd (fun d h=>(HOK2.out d h).kept o1 (by simp) (fun _ h=>h)))
  (try replace HDV1:=Hd (HDV1.out.kept o1 (by simp) (fun _ h=>h)))
  (try replace HDV2:=Hd (HDV2.out.kept o1 (by simp) (fun _ h=>h)))
  (try replace HDV3:=Hd (HDV3.out.kept o1 (by simp) (fun _ h=>h)))
  (try replace HDV4:=Hd (HDV4.out.kept o1 (by simp) (fun _ h=>h)))
  (try replace HA1:=Hd (o1.heap HA1.out (by simp)))
  (try replace HA2:=Hd (o1.heap HA2.out (by simp)))
  (try replace HA3:=Hd (o1.heap HA3.out (by simp)))
  (try replace HA4:=Hd (o1.heap HA4.out (by simp)))
  (try replace HI1:=Hd (o1.heap HI1.out (by simp)))
  (try replace HI2:=Hd (o1.heap HI2.out (by simp)))
  (try replace HP1:=Hd (HP1.out.kept o1 (by simp)))
  (try replace HP2:=Hd (HP2.out.kept o1 (by simp)))
  (try replace HP3:=Hd (HP3.out.kept o1 (by simp)))
  (try replace HP4:=Hd (HP4.out.kept o1 (by simp)))
  (try replace HP5:=Hd (HP5.out.kept o1 (by simp)))
  have HOK2:=Hd hok
  clear K1 o1 x0 hok
  go_upto_region 5 with (fail)
  have oA:=(Only.refl [] w1a).alloc (.cells #[.string sn2,.slice a12 l12 c12,.slice a22 l22 c22,.slice a32 l32 c32,.slice a42 l42 c42] 27)
  have hA:=heap_new w1a (.cells #[.string sn2,.slice a12 l12 c12,.slice a22 l22 c22,.slice a32 l32 c32,.slice a42 l42 c42] 27)
  obtain ⟨gd2,hgd⟩:∃ g,g=w1a.heap.size:=⟨_,rfl⟩
  rw [← hgd] at hA⊢
  generalize w1a.alloc (.cells #[.string sn2,.slice a12 l12 c12,.slice a22 l22 c22,.slice a32 l32 c32,.slice a42 l42 c42] 27)=w2 at oA hA⊢
  replace HO:=Hd (HO.out.trans oA (by simp))
  (try replace HX1:=Hd (oA.heap HX1.out (by simp)))
  (try replace HX2:=Hd (oA.heap HX2.out (by simp)))
  (try replace HOK1:=Hd (fun d h=>(HOK1.out d h).kept oA (by simp) (fun _ h=>h)))
  (try replace HOK2:=Hd (fun d h=>(HOK2.out d h).kept oA (by simp) (fun _ h=>h)))
  (try replace HDV1:=Hd (HDV1.out.kept oA (by simp) (fun _ h=>h)))
  (try replace HDV2:=Hd (HDV2.out.kept oA (by simp) (fun _ h=>h)))
  (try replace HDV3:=Hd (HDV3.out.kept oA (by simp) (fun _ h=>h)))
  (try replace HDV4:=Hd (HDV4.out.kept oA (by simp) (fun _ h=>h)))
  (try replace HA1:=Hd (oA.heap HA1.out (by simp)))
  (try replace HA2:=Hd (oA.heap HA2.out (by simp)))
  (try replace HA3:=Hd (oA.heap HA3.out (by simp)))
  (try replace HA4:=Hd (oA.heap HA4.out (by simp)))
  (try replace HI1:=Hd (oA.heap HI1.out (by simp)))
  (try replace HI2:=Hd (oA.heap HI2.out (by simp)))
  (try replace HP1:=Hd (HP1.out.kept oA (by simp)))
  (try replace HP2:=Hd (HP2.out.kept oA (by simp)))
  (try replace HP3:=Hd (HP3.out.kept oA (by simp)))
  (try replace HP4:=Hd (HP4.out.kept oA (by simp)))
  (try replace HP5:=Hd (HP5.out.kept oA (by simp)))
  have HA2:=Hd hA
  clear oA hA hgd
  cases R1 with
  | error q=>
    rw [show isOk (Except.error q:Except (Nat×Nat) Df)=false from rfl]
    generalize isOk R2=bo
    go_wp2_with fail
    go_ret
    exact ⟨rfl,HO.out⟩
  | ok d1=>
    rw [show isOk (Except.ok d1:Except (Nat×Nat) Df)=true from rfl]
    cases R2 with
    | error q=>
      rw [show isOk (Except.error q:Except (Nat×Nat) Df)=false from rfl]
      go_wp2_with fail
      go_ret
      exact ⟨rfl,HO.out⟩
    | ok d2=>
      rw [show isOk (Except.ok d2:Except (Nat×Nat) Df)=true from rfl]
      have HDV1:=Hd (HOK1.out d1 rfl)
      have HWH1:=Hd (parse_whole HR1.out.symm)
      have HPL1:=Hd (parse_plain HR1.out.symm)
      have HGD1:=Hd (parse_good HR1.out.symm)
      clear HOK1 HR1
      have HDV2:=Hd (HOK2.out d2 rfl)
      have HWH2:=Hd (parse_whole HR2.out.symm)
      have HPL2:=Hd (parse_plain HR2.out.symm)
      have HGD2:=Hd (parse_good HR2.out.symm)
      clear HOK2 HR2
      go_upto_region 7 with (fail)
      have y0:w2.cell? ⟨gd1,0,none⟩=some (.string sn1):=cell_at 0 HA1.out
      have y1:w2.cell? ⟨gd1,1,none⟩=some (.slice a11 l11 c11):=cell_at 1 HA1.out
      have y2:w2.cell? ⟨gd1,2,none⟩=some (.slice a21 l21 c21):=cell_at 2 HA1.out
      have y3:w2.cell? ⟨gd1,3,none⟩=some (.slice a31 l31 c31):=cell_at 3 HA1.out
      have y4:w2.cell? ⟨gd1,4,none⟩=some (.slice a41 l41 c41):=cell_at 4 HA1.out
      have KT:=iturn_any HDV1.out HWH1.out HPL1.out
      go_wp2_with fail
      refine KT.mono ?_
      rintro e w2a ⟨sn3,a13,a23,a33,a43,l13,l23,l33,l43,c13,c23,c33,c43,rfl,hdv,o1⟩
      replace HO:=Hd (HO.out.trans o1 (by simp))
      (try replace HX1:=Hd (o1.heap HX1.out (by simp)))
      (try replace HX2:=Hd (o1.heap HX2.out (by simp)))
      (try replace HOK1:=Hd (fun d h=>(HOK1.out d h).kept o1 (by simp) (fun _ h=>h)))
      (try replace HOK2:=Hd (fun d h=>(HOK2.out d h).kept o1 (by simp) (fun _ h=>h)))
      (try replace HDV1:=Hd (HDV1.out.kept o1 (by simp) (fun _ h=>h)))
      (try replace HDV2:=Hd (HDV2.out.kept o1 (by simp) (fun _ h=>h)))
      (try replace HDV3:=Hd (HDV3.out.kept o1 (by simp) (fun _ h=>h)))
      (try replace HDV4:=Hd (HDV4.out.kept o1 (by simp) (fun _ h=>h)))
      (try replace HA1:=Hd (o1.heap HA1.out (by simp)))
      (try replace HA2:=Hd (o1.heap HA2.out (by simp)))
      (try replace HA3:=Hd (o1.heap HA3.out (by simp)))
      (try replace HA4:=Hd (o1.heap HA4.out (by simp)))
      (try replace HI1:=Hd (o1.heap HI1.out (by simp)))
      (try replace HI2:=Hd (o1.heap HI2.out (by simp)))
      (try replace HP1:=Hd (HP1.out.kept o1 (by simp)))
      (try replace HP2:=Hd (HP2.out.kept o1 (by simp)))
      (try replace HP3:=Hd (HP3.out.kept o1 (by simp)))
      (try replace HP4:=Hd (HP4.out.kept o1 (by simp)))
      (try replace HP5:=Hd (HP5.out.kept o1 (by simp)))
      have HDV3:=Hd hdv
      obtain ⟨ev3,hev⟩:∃ v,v=(if okT d1=true then Value.nilIface else err 13):=⟨_,rfl⟩
      rw [← hev]
      have HEV3:=Hd hev
      clear KT hdv o1 y0 y1 y2 y3 y4 hev
      go_upto_region 8 with (fail)
      have oA:=(Only.refl [] w2a).alloc (.cells #[.string sn3,.slice a13 l13 c13,.slice a23 l23 c23,.slice a33 l33 c33,.slice a43 l43 c43] 27)
      have hA:=heap_new w2a (.cells #[.string sn3,.slice a13 l13 c13,.slice a23 l23 c23,.slice a33 l33 c33,.slice a43 l43 c43] 27)
      obtain ⟨gd3,hgd⟩:∃ g,g=w2a.heap.size:=⟨_,rfl⟩
      rw [← hgd] at hA⊢
      generalize w2a.alloc (.cells #[.string sn3,.slice a13 l13 c13,.slice a23 l23 c23,.slice a33 l33 c33,.slice a43 l43 c43] 27)=w3 at oA hA⊢
      replace HO:=Hd (HO.out.trans oA (by simp))
      (try replace HX1:=Hd (oA.heap HX1.out (by simp)))
      (try replace HX2:=Hd (oA.heap HX2.out (by simp)))
      (try replace HOK1:=Hd (fun d h=>(HOK1.out d h).kept oA (by simp) (fun _ h=>h)))
      (try replace HOK2:=Hd (fun d h=>(HOK2.out d h).kept oA (by simp) (fun _ h=>h)))
      (try replace HDV1:=Hd (HDV1.out.kept oA (by simp) (fun _ h=>h)))
      (try replace HDV2:=Hd (HDV2.out.kept oA (by simp) (fun _ h=>h)))
      (try replace HDV3:=Hd (HDV3.out.kept oA (by simp) (fun _ h=>h)))
      (try replace HDV4:=Hd (HDV4.out.kept oA (by simp) (fun _ h=>h)))
      (try replace HA1:=Hd (oA.heap HA1.out (by simp)))
      (try replace HA2:=Hd (oA.heap HA2.out (by simp)))
      (try replace HA3:=Hd (oA.heap HA3.out (by simp)))
      (try replace HA4:=Hd (oA.heap HA4.out (by simp)))
      (try replace HI1:=Hd (oA.heap HI1.out (by simp)))
      (try replace HI2:=Hd (oA.heap HI2.out (by simp)))
      (try replace HP1:=Hd (HP1.out.kept oA (by simp)))
      (try replace HP2:=Hd (HP2.out.kept oA (by simp)))
      (try replace HP3:=Hd (HP3.out.kept oA (by simp)))
      (try replace HP4:=Hd (HP4.out.kept oA (by simp)))
      (try replace HP5:=Hd (HP5.out.kept oA (by simp)))
      have HA3:=Hd hA
      clear oA hA hgd
      have y0:w3.cell? ⟨gd2,0,none⟩=some (.string sn2):=cell_at 0 HA2.out
      have y1:w3.cell? ⟨gd2,1,none⟩=some (.slice a12 l12 c12):=cell_at 1 HA2.out
      have y2:w3.cell? ⟨gd2,2,none⟩=some (.slice a22 l22 c22):=cell_at 2 HA2.out
      have y3:w3.cell? ⟨gd2,3,none⟩=some (.slice a32 l32 c32):=cell_at 3 HA2.out
      have y4:w3.cell? ⟨gd2,4,none⟩=some (.slice a42 l42 c42):=cell_at 4 HA2.out
      have KT:=iturn_any HDV2.out HWH2.out HPL2.out
      go_wp2_with fail
      refine KT.mono ?_
      rintro e w3a ⟨sn4,a14,a24,a34,a44,l14,l24,l34,l44,c14,c24,c34,c44,rfl,hdv,o1⟩
      replace HO:=Hd (HO.out.trans o1 (by simp))
      (try replace HX1:=Hd (o1.heap HX1.out (by simp)))
      (try replace HX2:=Hd (o1.heap HX2.out (by simp)))
      (try replace HOK1:=Hd (fun d h=>(HOK1.out d h).kept o1 (by simp) (fun _ h=>h)))
      (try replace HOK2:=Hd (fun d h=>(HOK2.out d h).kept o1 (by simp) (fun _ h=>h)))
      (try replace HDV1:=Hd (HDV1.out.kept o1 (by simp) (fun _ h=>h)))
      (try replace HDV2:=Hd (HDV2.out.kept o1 (by simp) (fun _ h=>h)))
      (try replace HDV3:=Hd (HDV3.out.kept o1 (by simp) (fun _ h=>h)))
      (try replace HDV4:=Hd (HDV4.out.kept o1 (by simp) (fun _ h=>h)))
      (try replace HA1:=Hd (o1.heap HA1.out (by simp)))
      (try replace HA2:=Hd (o1.heap HA2.out (by simp)))
      (try replace HA3:=Hd (o1.heap HA3.out (by simp)))
      (try replace HA4:=Hd (o1.heap HA4.out (by simp)))
      (try replace HI1:=Hd (o1.heap HI1.out (by simp)))
      (try replace HI2:=Hd (o1.heap HI2.out (by simp)))
      (try replace HP1:=Hd (HP1.out.kept o1 (by simp)))
      (try replace HP2:=Hd (HP2.out.kept o1 (by simp)))
      (try replace HP3:=Hd (HP3.out.kept o1 (by simp)))
      (try replace HP4:=Hd (HP4.out.kept o1 (by simp)))
      (try replace HP5:=Hd (HP5.out.kept o1 (by simp)))
      have HDV4:=Hd hdv
      obtain ⟨ev4,hev⟩:∃ v,v=(if okT d2=true then Value.nilIface else err 13):=⟨_,rfl⟩
      rw [← hev]
      have HEV4:=Hd hev
      clear KT hdv o1 y0 y1 y2 y3 y4 hev
      go_upto_region 9 with (fail)
      have oA:=(Only.refl [] w3a).alloc (.cells #[.string sn4,.slice a14 l14 c14,.slice a24 l24 c24,.slice a34 l34 c34,.slice a44 l44 c44] 27)
      have hA:=heap_new w3a (.cells #[.string sn4,.slice a14 l14 c14,.slice a24 l24 c24,.slice a34 l34 c34,.slice a44 l44 c44] 27)
      obtain ⟨gd4,hgd⟩:∃ g,g=w3a.heap.size:=⟨_,rfl⟩
      rw [← hgd] at hA⊢
      generalize w3a.alloc (.cells #[.string sn4,.slice a14 l14 c14,.slice a24 l24 c24,.slice a34 l34 c34,.slice a44 l44 c44] 27)=w4 at oA hA⊢
      replace HO:=Hd (HO.out.trans oA (by simp))
      (try replace HX1:=Hd (oA.heap HX1.out (by simp)))
      (try replace HX2:=Hd (oA.heap HX2.out (by simp)))
      (try replace HOK1:=Hd (fun d h=>(HOK1.out d h).kept oA (by simp) (fun _ h=>h)))
      (try replace HOK2:=Hd (fun d h=>(HOK2.out d h).kept oA (by simp) (fun _ h=>h)))
      (try replace HDV1:=Hd (HDV1.out.kept oA (by simp) (fun _ h=>h)))
      (try replace HDV2:=Hd (HDV2.out.kept oA (by simp) (fun _ h=>h)))
      (try replace HDV3:=Hd (HDV3.out.kept oA (by simp) (fun _ h=>h)))
      (try replace HDV4:=Hd (HDV4.out.kept oA (by simp) (fun _ h=>h)))
      (try replace HA1:=Hd (oA.heap HA1.out (by simp)))
      (try replace HA2:=Hd (oA.heap HA2.out (by simp)))
      (try replace HA3:=Hd (oA.heap HA3.out (by simp)))
      (try replace HA4:=Hd (oA.heap HA4.out (by simp)))
      (try replace HI1:=Hd (oA.heap HI1.out (by simp)))
      (try replace HI2:=Hd (oA.heap HI2.out (by simp)))
      (try replace HP1:=Hd (HP1.out.kept oA (by simp)))
      (try replace HP2:=Hd (HP2.out.kept oA (by simp)))
      (try replace HP3:=Hd (HP3.out.kept oA (by simp)))
      (try replace HP4:=Hd (HP4.out.kept oA (by simp)))
      (try replace HP5:=Hd (HP5.out.kept oA (by simp)))
      have HA4:=Hd hA
      clear oA hA hgd
      cases hT:okT d1 with
      | false=>
        obtain rfl:ev3=err 13:=by have h:=HEV3.out;rw [hT,if_neg (by decide)] at h;exact h
        clear hT HEV3
        have q1:=fun w=>neq_err 13 w
        go_wp2_with fail
        go_ret
        exact ⟨rfl,HO.out⟩
      | true=>
        have HTU1:=Hd ((okT_iff HWH1.out HPL1.out).1 hT)
        have HWH3:=Hd (turn_whole HWH1.out)
        have HPL3:=Hd (turn_plain HPL1.out)
        have HGD3:=Hd (turn_good HGD1.out)
        replace HDV3:=Hd (show DV _ _ (turnD d1) _ from by have h:=HDV3.out;rw [hT,if_pos rfl] at h;exact h)
        obtain rfl:ev3=.nilIface:=by have h:=HEV3.out;rw [hT,if_pos rfl] at h;exact h
        clear hT HEV3
        cases hT:okT d2 with
        | false=>
          obtain rfl:ev4=err 13:=by have h:=HEV4.out;rw [hT,if_neg (by decide)] at h;exact h
          clear hT HEV4
          have q1:=fun w=>neq_err 13 w
          have q2:=neq_nil
          go_wp2_with fail
          go_ret
          exact ⟨rfl,HO.out⟩
        | true=>
          have HTU2:=Hd ((okT_iff HWH2.out HPL2.out).1 hT)
          have HWH4:=Hd (turn_whole HWH2.out)
          have HPL4:=Hd (turn_plain HPL2.out)
          have HGD4:=Hd (turn_good HGD2.out)
          replace HDV4:=Hd (show DV _ _ (turnD d2) _ from by have h:=HDV4.out;rw [hT,if_pos rfl] at h;exact h)
          obtain rfl:ev4=.nilIface:=by have h:=HEV4.out;rw [hT,if_pos rfl] at h;exact h
          clear hT HEV4
          have q1:=neq_nil
          go_upto_region 11 with (fail)
          have xb:w4.cell? ⟨gx1,1,none⟩=some (.slice ba1 ln1 bc1):=cell_at 1 HX1.out
          go_wp2_with fail
          refine (filled9_any _ l1 w4 (HB.out.kept HO.out (by intro a n c e h;simp)) HL.out).mono ?_
          rintro e w4a ⟨rfl,o9⟩
          rw [← HCD.out]
          replace HO:=Hd (HO.out.trans o9 (by simp))
          (try replace HX1:=Hd (o9.heap HX1.out (by simp)))
          (try replace HX2:=Hd (o9.heap HX2.out (by simp)))
          (try replace HOK1:=Hd (fun d h=>(HOK1.out d h).kept o9 (by simp) (fun _ h=>h)))
          (try replace HOK2:=Hd (fun d h=>(HOK2.out d h).kept o9 (by simp) (fun _ h=>h)))
          (try replace HDV1:=Hd (HDV1.out.kept o9 (by simp) (fun _ h=>h)))
          (try replace HDV2:=Hd (HDV2.out.kept o9 (by simp) (fun _ h=>h)))
          (try replace HDV3:=Hd (HDV3.out.kept o9 (by simp) (fun _ h=>h)))
          (try replace HDV4:=Hd (HDV4.out.kept o9 (by simp) (fun _ h=>h)))
          (try replace HA1:=Hd (o9.heap HA1.out (by simp)))
          (try replace HA2:=Hd (o9.heap HA2.out (by simp)))
          (try replace HA3:=Hd (o9.heap HA3.out (by simp)))
          (try replace HA4:=Hd (o9.heap HA4.out (by simp)))
          (try replace HI1:=Hd (o9.heap HI1.out (by simp)))
          (try replace HI2:=Hd (o9.heap HI2.out (by simp)))
          (try replace HP1:=Hd (HP1.out.kept o9 (by simp)))
          (try replace HP2:=Hd (HP2.out.kept o9 (by simp)))
          (try replace HP3:=Hd (HP3.out.kept o9 (by simp)))
          (try replace HP4:=Hd (HP4.out.kept o9 (by simp)))
          (try replace HP5:=Hd (HP5.out.kept o9 (by simp)))
          clear o9 xb HB HL HCD
          go_upto_region 12 with (first
            | (clear T1
               refine wpList_new_page rfl rfl ?_
               intro wn gp1 hbp hgp hop
               have HNP:=Hd hbp
               have HOP:=Hd hop
               have HGP:=Hd hgp
               clear hbp hgp hop)
            | (refine wpList_store_page rfl _ _ rfl gp1 (5 :: c) (by rfl) (by rfl) H61.out _ HNP.out (by rfl) ?_
               intro w5 hb7 ho7))
          have oPP:Only [] w4a w5:=HOP.out.trans ho7 (fun k hk=>.inr (by rw [List.mem_singleton.1 hk];exact HGP.out))
          replace HO:=Hd (HO.out.trans oPP (by simp))
          (try replace HX1:=Hd (oPP.heap HX1.out (by simp)))
          (try replace HX2:=Hd (oPP.heap HX2.out (by simp)))
          (try replace HOK1:=Hd (fun d h=>(HOK1.out d h).kept oPP (by simp) (fun _ h=>h)))
          (try replace HOK2:=Hd (fun d h=>(HOK2.out d h).kept oPP (by simp) (fun _ h=>h)))
          (try replace HDV1:=Hd (HDV1.out.kept oPP (by simp) (fun _ h=>h)))
          (try replace HDV2:=Hd (HDV2.out.kept oPP (by simp) (fun _ h=>h)))
          (try replace HDV3:=Hd (HDV3.out.kept oPP (by simp) (fun _ h=>h)))
          (try replace HDV4:=Hd (HDV4.out.kept oPP (by simp) (fun _ h=>h)))
          (try replace HA1:=Hd (oPP.heap HA1.out (by simp)))
          (try replace HA2:=Hd (oPP.heap HA2.out (by simp)))
          (try replace HA3:=Hd (oPP.heap HA3.out (by simp)))
          (try replace HA4:=Hd (oPP.heap HA4.out (by simp)))
          (try replace HI1:=Hd (oPP.heap HI1.out (by simp)))
          (try replace HI2:=Hd (oPP.heap HI2.out (by simp)))
          (try replace HP1:=Hd (HP1.out.kept oPP (by simp)))
          (try replace HP2:=Hd (HP2.out.kept oPP (by simp)))
          (try replace HP3:=Hd (HP3.out.kept oPP (by simp)))
          (try replace HP4:=Hd (HP4.out.kept oPP (by simp)))
          (try replace HP5:=Hd (HP5.out.kept oPP (by simp)))
          have HP1:=Hd hb7
          clear HNP HOP HGP hb7 ho7 oPP
          have y0:w5.cell? ⟨gd1,0,none⟩=some (.string sn1):=cell_at 0 HA1.out
          have y1:w5.cell? ⟨gd1,1,none⟩=some (.slice a11 l11 c11):=cell_at 1 HA1.out
          have y2:w5.cell? ⟨gd1,2,none⟩=some (.slice a21 l21 c21):=cell_at 2 HA1.out
          have y3:w5.cell? ⟨gd1,3,none⟩=some (.slice a31 l31 c31):=cell_at 3 HA1.out
          have y4:w5.cell? ⟨gd1,4,none⟩=some (.slice a41 l41 c41):=cell_at 4 HA1.out
          have xx:w5.cell? ⟨gx1,2,none⟩=some (.slice ca1 mn1 cc1):=cell_at 2 HX1.out
          have KR:=run_any HDV1.out HWH1.out HPL1.out HGD1.out HCW.out (n:=5) (HC1.out.kept HO.out (by intro a n c e h;simp)) HM1.out
          rcases run_turns (d:=d1) (n:=5) (c:=c) (av:=m1) with ⟨k,hk,hr⟩ | ⟨rg,hr⟩
          · rw [hr] at KR
            go_wp2_with (refine wpList_load_page rfl _ rfl gp1 (by rfl) (5 :: c) HP1.out H61.out ?_)
            refine KR.mono ?_
            rintro e w5a ⟨rfl,oR⟩
            dsimp only
            replace HO:=Hd (HO.out.trans oR (by simp))
            (try replace HX1:=Hd (oR.heap HX1.out (by simp)))
            (try replace HX2:=Hd (oR.heap HX2.out (by simp)))
            (try replace HOK1:=Hd (fun d h=>(HOK1.out d h).kept oR (by simp) (fun _ h=>h)))
            (try replace HOK2:=Hd (fun d h=>(HOK2.out d h).kept oR (by simp) (fun _ h=>h)))
            (try replace HDV1:=Hd (HDV1.out.kept oR (by simp) (fun _ h=>h)))
            (try replace HDV2:=Hd (HDV2.out.kept oR (by simp) (fun _ h=>h)))
            (try replace HDV3:=Hd (HDV3.out.kept oR (by simp) (fun _ h=>h)))
            (try replace HDV4:=Hd (HDV4.out.kept oR (by simp) (fun _ h=>h)))
            (try replace HA1:=Hd (oR.heap HA1.out (by simp)))
            (try replace HA2:=Hd (oR.heap HA2.out (by simp)))
            (try replace HA3:=Hd (oR.heap HA3.out (by simp)))
            (try replace HA4:=Hd (oR.heap HA4.out (by simp)))
            (try replace HI1:=Hd (oR.heap HI1.out (by simp)))
            (try replace HI2:=Hd (oR.heap HI2.out (by simp)))
            (try replace HP1:=Hd (HP1.out.kept oR (by simp)))
            (try replace HP2:=Hd (HP2.out.kept oR (by simp)))
            (try replace HP3:=Hd (HP3.out.kept oR (by simp)))
            (try replace HP4:=Hd (HP4.out.kept oR (by simp)))
            (try replace HP5:=Hd (HP5.out.kept oR (by simp)))
            clear KR oR y0 y1 y2 y3 y4 xx
            rw [errV_ne hk]
            have q2:=fun w=>neq_err k w
            clear hr hk
            go_upto_region 13 with (first
              | (clear T2
                 refine wpList_new_page rfl rfl ?_
                 intro wn gp2 hbp hgp hop
                 have HNP:=Hd hbp
                 have HOP:=Hd hop
                 have HGP:=Hd hgp
                 clear hbp hgp hop)
              | (refine wpList_store_page rfl _ _ rfl gp2 (0 :: blankP) (by rfl) (by rfl) (by rfl) _ HNP.out (by rfl) ?_
                 intro w6 hb7 ho7))
            have oPP:Only [] w5a w6:=HOP.out.trans ho7 (fun k hk=>.inr (by rw [List.mem_singleton.1 hk];exact HGP.out))
            replace HO:=Hd (HO.out.trans oPP (by simp))
            (try replace HX1:=Hd (oPP.heap HX1.out (by simp)))
            (try replace HX2:=Hd (oPP.heap HX2.out (by simp)))
            (try replace HOK1:=Hd (fun d h=>(HOK1.out d h).kept oPP (by simp) (fun _ h=>h)))
            (try replace HOK2:=Hd (fun d h=>(HOK2.out d h).kept oPP (by simp) (fun _ h=>h)))
            (try replace HDV1:=Hd (HDV1.out.kept oPP (by simp) (fun _ h=>h)))
            (try replace HDV2:=Hd (HDV2.out.kept oPP (by simp) (fun _ h=>h)))
            (try replace HDV3:=Hd (HDV3.out.kept oPP (by simp) (fun _ h=>h)))
            (try replace HDV4:=Hd (HDV4.out.kept oPP (by simp) (fun _ h=>h)))
            (try replace HA1:=Hd (oPP.heap HA1.out (by simp)))
            (try replace HA2:=Hd (oPP.heap HA2.out (by simp)))
            (try replace HA3:=Hd (oPP.heap HA3.out (by simp)))
            (try replace HA4:=Hd (oPP.heap HA4.out (by simp)))
            (try replace HI1:=Hd (oPP.heap HI1.out (by simp)))
            (try replace HI2:=Hd (oPP.heap HI2.out (by simp)))
            (try replace HP1:=Hd (HP1.out.kept oPP (by simp)))
            (try replace HP2:=Hd (HP2.out.kept oPP (by simp)))
            (try replace HP3:=Hd (HP3.out.kept oPP (by simp)))
            (try replace HP4:=Hd (HP4.out.kept oPP (by simp)))
            (try replace HP5:=Hd (HP5.out.kept oPP (by simp)))
            have HP2:=Hd hb7
            clear HNP HOP HGP hb7 ho7 oPP
            go_wp2_with fail
            go_ret
            exact ⟨rfl,HO.out⟩
          · have HBK1:=Hd (run_back HWH1.out HTU1.out HCW.out hr)
            have HCW2:=Hd (ranC_w HWH1.out HTU1.out HCW.out m1)
            rw [hr] at KR
            clear hr
            generalize ranC d1 c m1=c2 at KR HBK1 HCW2
            have H612:Hid ((5 :: c2).length=61):=Hd (by rw [List.length_cons,HCW2.out.len])
            go_wp2_with (refine wpList_load_page rfl _ rfl gp1 (by rfl) (5 :: c) HP1.out H61.out ?_)
            refine KR.mono ?_
            rintro e w5a ⟨rfl,oR⟩
            dsimp only
            replace HO:=Hd (HO.out.trans oR (by simp))
            (try replace HX1:=Hd (oR.heap HX1.out (by simp)))
            (try replace HX2:=Hd (oR.heap HX2.out (by simp)))
            (try replace HOK1:=Hd (fun d h=>(HOK1.out d h).kept oR (by simp) (fun _ h=>h)))
            (try replace HOK2:=Hd (fun d h=>(HOK2.out d h).kept oR (by simp) (fun _ h=>h)))
            (try replace HDV1:=Hd (HDV1.out.kept oR (by simp) (fun _ h=>h)))
            (try replace HDV2:=Hd (HDV2.out.kept oR (by simp) (fun _ h=>h)))
            (try replace HDV3:=Hd (HDV3.out.kept oR (by simp) (fun _ h=>h)))
            (try replace HDV4:=Hd (HDV4.out.kept oR (by simp) (fun _ h=>h)))
            (try replace HA1:=Hd (oR.heap HA1.out (by simp)))
            (try replace HA2:=Hd (oR.heap HA2.out (by simp)))
            (try replace HA3:=Hd (oR.heap HA3.out (by simp)))
            (try replace HA4:=Hd (oR.heap HA4.out (by simp)))
            (try replace HI1:=Hd (oR.heap HI1.out (by simp)))
            (try replace HI2:=Hd (oR.heap HI2.out (by simp)))
            (try replace HP1:=Hd (HP1.out.kept oR (by simp)))
            (try replace HP2:=Hd (HP2.out.kept oR (by simp)))
            (try replace HP3:=Hd (HP3.out.kept oR (by simp)))
            (try replace HP4:=Hd (HP4.out.kept oR (by simp)))
            (try replace HP5:=Hd (HP5.out.kept oR (by simp)))
            clear KR oR y0 y1 y2 y3 y4 xx
            rw [errV0]
            go_upto_region 13 with (first
              | (clear T2
                 refine wpList_new_page rfl rfl ?_
                 intro wn gp2 hbp hgp hop
                 have HNP:=Hd hbp
                 have HOP:=Hd hop
                 have HGP:=Hd hgp
                 clear hbp hgp hop)
              | (refine wpList_store_page rfl _ _ rfl gp2 (5 :: c2) (by rfl) (by rfl) H612.out _ HNP.out (by rfl) ?_
                 intro w6 hb7 ho7))
            have oPP:Only [] w5a w6:=HOP.out.trans ho7 (fun k hk=>.inr (by rw [List.mem_singleton.1 hk];exact HGP.out))
            replace HO:=Hd (HO.out.trans oPP (by simp))
            (try replace HX1:=Hd (oPP.heap HX1.out (by simp)))
            (try replace HX2:=Hd (oPP.heap HX2.out (by simp)))
            (try replace HOK1:=Hd (fun d h=>(HOK1.out d h).kept oPP (by simp) (fun _ h=>h)))
            (try replace HOK2:=Hd (fun d h=>(HOK2.out d h).kept oPP (by simp) (fun _ h=>h)))
            (try replace HDV1:=Hd (HDV1.out.kept oPP (by simp) (fun _ h=>h)))
            (try replace HDV2:=Hd (HDV2.out.kept oPP (by simp) (fun _ h=>h)))
            (try replace HDV3:=Hd (HDV3.out.kept oPP (by simp) (fun _ h=>h)))
            (try replace HDV4:=Hd (HDV4.out.kept oPP (by simp) (fun _ h=>h)))
            (try replace HA1:=Hd (oPP.heap HA1.out (by simp)))
            (try replace HA2:=Hd (oPP.heap HA2.out (by simp)))
            (try replace HA3:=Hd (oPP.heap HA3.out (by simp)))
            (try replace HA4:=Hd (oPP.heap HA4.out (by simp)))
            (try replace HI1:=Hd (oPP.heap HI1.out (by simp)))
            (try replace HI2:=Hd (oPP.heap HI2.out (by simp)))
            (try replace HP1:=Hd (HP1.out.kept oPP (by simp)))
            (try replace HP2:=Hd (HP2.out.kept oPP (by simp)))
            (try replace HP3:=Hd (HP3.out.kept oPP (by simp)))
            (try replace HP4:=Hd (HP4.out.kept oPP (by simp)))
            (try replace HP5:=Hd (HP5.out.kept oPP (by simp)))
            have HP2:=Hd hb7
            clear HNP HOP HGP hb7 ho7 oPP
            go_upto_region 15 with (fail)
            have y0:w6.cell? ⟨gd2,0,none⟩=some (.string sn2):=cell_at 0 HA2.out
            have y1:w6.cell? ⟨gd2,1,none⟩=some (.slice a12 l12 c12):=cell_at 1 HA2.out
            have y2:w6.cell? ⟨gd2,2,none⟩=some (.slice a22 l22 c22):=cell_at 2 HA2.out
            have y3:w6.cell? ⟨gd2,3,none⟩=some (.slice a32 l32 c32):=cell_at 3 HA2.out
            have y4:w6.cell? ⟨gd2,4,none⟩=some (.slice a42 l42 c42):=cell_at 4 HA2.out
            have xx:w6.cell? ⟨gx2,2,none⟩=some (.slice ca2 mn2 cc2):=cell_at 2 HX2.out
            have KR:=run_any HDV2.out HWH2.out HPL2.out HGD2.out HCW2.out (n:=5) (HC2.out.kept HO.out (by intro a n c e h;simp)) HM2.out
            rcases run_turns (d:=d2) (n:=5) (c:=c2) (av:=m2) with ⟨k,hk,hr⟩ | ⟨rg2,hr⟩
            · rw [hr] at KR
              go_wp2_with (refine wpList_load_page rfl _ rfl gp2 (by rfl) (5 :: c2) HP2.out H612.out ?_)
              refine KR.mono ?_
              rintro e w6a ⟨rfl,oR⟩
              dsimp only
              replace HO:=Hd (HO.out.trans oR (by simp))
              (try replace HX1:=Hd (oR.heap HX1.out (by simp)))
              (try replace HX2:=Hd (oR.heap HX2.out (by simp)))
              (try replace HOK1:=Hd (fun d h=>(HOK1.out d h).kept oR (by simp) (fun _ h=>h)))
              (try replace HOK2:=Hd (fun d h=>(HOK2.out d h).kept oR (by simp) (fun _ h=>h)))
              (try replace HDV1:=Hd (HDV1.out.kept oR (by simp) (fun _ h=>h)))
              (try replace HDV2:=Hd (HDV2.out.kept oR (by simp) (fun _ h=>h)))
              (try replace HDV3:=Hd (HDV3.out.kept oR (by simp) (fun _ h=>h)))
              (try replace HDV4:=Hd (HDV4.out.kept oR (by simp) (fun _ h=>h)))
              (try replace HA1:=Hd (oR.heap HA1.out (by simp)))
              (try replace HA2:=Hd (oR.heap HA2.out (by simp)))
              (try replace HA3:=Hd (oR.heap HA3.out (by simp)))
              (try replace HA4:=Hd (oR.heap HA4.out (by simp)))
              (try replace HI1:=Hd (oR.heap HI1.out (by simp)))
              (try replace HI2:=Hd (oR.heap HI2.out (by simp)))
              (try replace HP1:=Hd (HP1.out.kept oR (by simp)))
              (try replace HP2:=Hd (HP2.out.kept oR (by simp)))
              (try replace HP3:=Hd (HP3.out.kept oR (by simp)))
              (try replace HP4:=Hd (HP4.out.kept oR (by simp)))
              (try replace HP5:=Hd (HP5.out.kept oR (by simp)))
              clear KR oR y0 y1 y2 y3 y4 xx
              rw [errV_ne hk]
              have q2:=fun w=>neq_err k w
              clear hr hk
              go_upto_region 16 with (first
                | (clear T3
                   refine wpList_new_page rfl rfl ?_
                   intro wn gp3 hbp hgp hop
                   have HNP:=Hd hbp
                   have HOP:=Hd hop
                   have HGP:=Hd hgp
                   clear hbp hgp hop)
                | (refine wpList_store_page rfl _ _ rfl gp3 (0 :: blankP) (by rfl) (by rfl) (by rfl) _ HNP.out (by rfl) ?_
                   intro w7 hb7 ho7))
              have oPP:Only [] w6a w7:=HOP.out.trans ho7 (fun k hk=>.inr (by rw [List.mem_singleton.1 hk];exact HGP.out))
              replace HO:=Hd (HO.out.trans oPP (by simp))
              (try replace HX1:=Hd (oPP.heap HX1.out (by simp)))
              (try replace HX2:=Hd (oPP.heap HX2.out (by simp)))
              (try replace HOK1:=Hd (fun d h=>(HOK1.out d h).kept oPP (by simp) (fun _ h=>h)))
              (try replace HOK2:=Hd (fun d h=>(HOK2.out d h).kept oPP (by simp) (fun _ h=>h)))
              (try replace HDV1:=Hd (HDV1.out.kept oPP (by simp) (fun _ h=>h)))
              (try replace HDV2:=Hd (HDV2.out.kept oPP (by simp) (fun _ h=>h)))
              (try replace HDV3:=Hd (HDV3.out.kept oPP (by simp) (fun _ h=>h)))
              (try replace HDV4:=Hd (HDV4.out.kept oPP (by simp) (fun _ h=>h)))
              (try replace HA1:=Hd (oPP.heap HA1.out (by simp)))
              (try replace HA2:=Hd (oPP.heap HA2.out (by simp)))
              (try replace HA3:=Hd (oPP.heap HA3.out (by simp)))
              (try replace HA4:=Hd (oPP.heap HA4.out (by simp)))
              (try replace HI1:=Hd (oPP.heap HI1.out (by simp)))
              (try replace HI2:=Hd (oPP.heap HI2.out (by simp)))
              (try replace HP1:=Hd (HP1.out.kept oPP (by simp)))
              (try replace HP2:=Hd (HP2.out.kept oPP (by simp)))
              (try replace HP3:=Hd (HP3.out.kept oPP (by simp)))
              (try replace HP4:=Hd (HP4.out.kept oPP (by simp)))
              (try replace HP5:=Hd (HP5.out.kept oPP (by simp)))
              have HP3:=Hd hb7
              clear HNP HOP HGP hb7 ho7 oPP
              go_wp2_with fail
              go_ret
              exact ⟨rfl,HO.out⟩
            · have HBK2:=Hd (run_back HWH2.out HTU2.out HCW2.out hr)
              have HCW3:=Hd (ranC_w HWH2.out HTU2.out HCW2.out m2)
              rw [hr] at KR
              clear hr
              generalize ranC d2 c2 m2=c3 at KR HBK2 HCW3
              have H613:Hid ((5 :: c3).length=61):=Hd (by rw [List.length_cons,HCW3.out.len])
              go_wp2_with (refine wpList_load_page rfl _ rfl gp2 (by rfl) (5 :: c2) HP2.out H612.out ?_)
              refine KR.mono ?_
              rintro e w6a ⟨rfl,oR⟩
              dsimp only
              replace HO:=Hd (HO.out.trans oR (by simp))
              (try replace HX1:=Hd (oR.heap HX1.out (by simp)))
              (try replace HX2:=Hd (oR.heap HX2.out (by simp)))
              (try replace HOK1:=Hd (fun d h=>(HOK1.out d h).kept oR (by simp) (fun _ h=>h)))
              (try replace HOK2:=Hd (fun d h=>(HOK2.out d h).kept oR (by simp) (fun _ h=>h)))
              (try replace HDV1:=Hd (HDV1.out.kept oR (by simp) (fun _ h=>h)))
              (try replace HDV2:=Hd (HDV2.out.kept oR (by simp) (fun _ h=>h)))
              (try replace HDV3:=Hd (HDV3.out.kept oR (by simp) (fun _ h=>h)))
              (try replace HDV4:=Hd (HDV4.out.kept oR (by simp) (fun _ h=>h)))
              (try replace HA1:=Hd (oR.heap HA1.out (by simp)))
              (try replace HA2:=Hd (oR.heap HA2.out (by simp)))
              (try replace HA3:=Hd (oR.heap HA3.out (by simp)))
              (try replace HA4:=Hd (oR.heap HA4.out (by simp)))
              (try replace HI1:=Hd (oR.heap HI1.out (by simp)))
              (try replace HI2:=Hd (oR.heap HI2.out (by simp)))
              (try replace HP1:=Hd (HP1.out.kept oR (by simp)))
              (try replace HP2:=Hd (HP2.out.kept oR (by simp)))
              (try replace HP3:=Hd (HP3.out.kept oR (by simp)))
              (try replace HP4:=Hd (HP4.out.kept oR (by simp)))
              (try replace HP5:=Hd (HP5.out.kept oR (by simp)))
              clear KR oR y0 y1 y2 y3 y4 xx
              rw [errV0]
              go_upto_region 16 with (first
                | (clear T3
                   refine wpList_new_page rfl rfl ?_
                   intro wn gp3 hbp hgp hop
                   have HNP:=Hd hbp
                   have HOP:=Hd hop
                   have HGP:=Hd hgp
                   clear hbp hgp hop)
                | (refine wpList_store_page rfl _ _ rfl gp3 (5 :: c3) (by rfl) (by rfl) H613.out _ HNP.out (by rfl) ?_
                   intro w7 hb7 ho7))
              have oPP:Only [] w6a w7:=HOP.out.trans ho7 (fun k hk=>.inr (by rw [List.mem_singleton.1 hk];exact HGP.out))
              replace HO:=Hd (HO.out.trans oPP (by simp))
              (try replace HX1:=Hd (oPP.heap HX1.out (by simp)))
              (try replace HX2:=Hd (oPP.heap HX2.out (by simp)))
              (try replace HOK1:=Hd (fun d h=>(HOK1.out d h).kept oPP (by simp) (fun _ h=>h)))
              (try replace HOK2:=Hd (fun d h=>(HOK2.out d h).kept oPP (by simp) (fun _ h=>h)))
              (try replace HDV1:=Hd (HDV1.out.kept oPP (by simp) (fun _ h=>h)))
              (try replace HDV2:=Hd (HDV2.out.kept oPP (by simp) (fun _ h=>h)))
              (try replace HDV3:=Hd (HDV3.out.kept oPP (by simp) (fun _ h=>h)))
              (try replace HDV4:=Hd (HDV4.out.kept oPP (by simp) (fun _ h=>h)))
              (try replace HA1:=Hd (oPP.heap HA1.out (by simp)))
              (try replace HA2:=Hd (oPP.heap HA2.out (by simp)))
              (try replace HA3:=Hd (oPP.heap HA3.out (by simp)))
              (try replace HA4:=Hd (oPP.heap HA4.out (by simp)))
              (try replace HI1:=Hd (oPP.heap HI1.out (by simp)))
              (try replace HI2:=Hd (oPP.heap HI2.out (by simp)))
              (try replace HP1:=Hd (HP1.out.kept oPP (by simp)))
              (try replace HP2:=Hd (HP2.out.kept oPP (by simp)))
              (try replace HP3:=Hd (HP3.out.kept oPP (by simp)))
              (try replace HP4:=Hd (HP4.out.kept oPP (by simp)))
              (try replace HP5:=Hd (HP5.out.kept oPP (by simp)))
              have HP3:=Hd hb7
              clear HNP HOP HGP hb7 ho7 oPP
              go_upto_region 18 with (fail)
              have y0:w7.cell? ⟨gd4,0,none⟩=some (.string sn4):=cell_at 0 HA4.out
              have y1:w7.cell? ⟨gd4,1,none⟩=some (.slice a14 l14 c14):=cell_at 1 HA4.out
              have y2:w7.cell? ⟨gd4,2,none⟩=some (.slice a24 l24 c24):=cell_at 2 HA4.out
              have y3:w7.cell? ⟨gd4,3,none⟩=some (.slice a34 l34 c34):=cell_at 3 HA4.out
              have y4:w7.cell? ⟨gd4,4,none⟩=some (.slice a44 l44 c44):=cell_at 4 HA4.out
              have xx:w7.cell? ⟨gx2,2,none⟩=some (.slice ca2 mn2 cc2):=cell_at 2 HX2.out
              have KR:=run_any HDV4.out HWH4.out HPL4.out HGD4.out HCW3.out (n:=5) (HC2.out.kept HO.out (by intro a n c e h;simp)) HM2.out
              rw [HBK2.out] at KR
              go_wp2_with (refine wpList_load_page rfl _ rfl gp3 (by rfl) (5 :: c3) HP3.out H613.out ?_)
              refine KR.mono ?_
              rintro e w7a ⟨rfl,oR⟩
              dsimp only
              replace HO:=Hd (HO.out.trans oR (by simp))
              (try replace HX1:=Hd (oR.heap HX1.out (by simp)))
              (try replace HX2:=Hd (oR.heap HX2.out (by simp)))
              (try replace HOK1:=Hd (fun d h=>(HOK1.out d h).kept oR (by simp) (fun _ h=>h)))
              (try replace HOK2:=Hd (fun d h=>(HOK2.out d h).kept oR (by simp) (fun _ h=>h)))
              (try replace HDV1:=Hd (HDV1.out.kept oR (by simp) (fun _ h=>h)))
              (try replace HDV2:=Hd (HDV2.out.kept oR (by simp) (fun _ h=>h)))
              (try replace HDV3:=Hd (HDV3.out.kept oR (by simp) (fun _ h=>h)))
              (try replace HDV4:=Hd (HDV4.out.kept oR (by simp) (fun _ h=>h)))
              (try replace HA1:=Hd (oR.heap HA1.out (by simp)))
              (try replace HA2:=Hd (oR.heap HA2.out (by simp)))
              (try replace HA3:=Hd (oR.heap HA3.out (by simp)))
              (try replace HA4:=Hd (oR.heap HA4.out (by simp)))
              (try replace HI1:=Hd (oR.heap HI1.out (by simp)))
              (try replace HI2:=Hd (oR.heap HI2.out (by simp)))
              (try replace HP1:=Hd (HP1.out.kept oR (by simp)))
              (try replace HP2:=Hd (HP2.out.kept oR (by simp)))
              (try replace HP3:=Hd (HP3.out.kept oR (by simp)))
              (try replace HP4:=Hd (HP4.out.kept oR (by simp)))
              (try replace HP5:=Hd (HP5.out.kept oR (by simp)))
              clear KR oR y0 y1 y2 y3 y4 xx
              rw [errV0]
              go_upto_region 19 with (first
                | (clear T4
                   refine wpList_new_page rfl rfl ?_
                   intro wn gp4 hbp hgp hop
                   have HNP:=Hd hbp
                   have HOP:=Hd hop
                   have HGP:=Hd hgp
                   clear hbp hgp hop)
                | (refine wpList_store_page rfl _ _ rfl gp4 (5 :: c2) (by rfl) (by rfl) H612.out _ HNP.out (by rfl) ?_
                   intro w8 hb7 ho7))
              have oPP:Only [] w7a w8:=HOP.out.trans ho7 (fun k hk=>.inr (by rw [List.mem_singleton.1 hk];exact HGP.out))
              replace HO:=Hd (HO.out.trans oPP (by simp))
              (try replace HX1:=Hd (oPP.heap HX1.out (by simp)))
              (try replace HX2:=Hd (oPP.heap HX2.out (by simp)))
              (try replace HOK1:=Hd (fun d h=>(HOK1.out d h).kept oPP (by simp) (fun _ h=>h)))
              (try replace HOK2:=Hd (fun d h=>(HOK2.out d h).kept oPP (by simp) (fun _ h=>h)))
              (try replace HDV1:=Hd (HDV1.out.kept oPP (by simp) (fun _ h=>h)))
              (try replace HDV2:=Hd (HDV2.out.kept oPP (by simp) (fun _ h=>h)))
              (try replace HDV3:=Hd (HDV3.out.kept oPP (by simp) (fun _ h=>h)))
              (try replace HDV4:=Hd (HDV4.out.kept oPP (by simp) (fun _ h=>h)))
              (try replace HA1:=Hd (oPP.heap HA1.out (by simp)))
              (try replace HA2:=Hd (oPP.heap HA2.out (by simp)))
              (try replace HA3:=Hd (oPP.heap HA3.out (by simp)))
              (try replace HA4:=Hd (oPP.heap HA4.out (by simp)))
              (try replace HI1:=Hd (oPP.heap HI1.out (by simp)))
              (try replace HI2:=Hd (oPP.heap HI2.out (by simp)))
              (try replace HP1:=Hd (HP1.out.kept oPP (by simp)))
              (try replace HP2:=Hd (HP2.out.kept oPP (by simp)))
              (try replace HP3:=Hd (HP3.out.kept oPP (by simp)))
              (try replace HP4:=Hd (HP4.out.kept oPP (by simp)))
              (try replace HP5:=Hd (HP5.out.kept oPP (by simp)))
              have HP4:=Hd hb7
              clear HNP HOP HGP hb7 ho7 oPP
              clear HDV1 HDV2 HDV4 HA1 HA2 HA4 HX2 HP3
              have H602:=Hd HCW2.out.len
              have HEQ:=Hd (neq_pages c2)
              have y0:w8.cell? ⟨gd3,0,none⟩=some (.string sn3):=cell_at 0 HA3.out
              have y1:w8.cell? ⟨gd3,1,none⟩=some (.slice a13 l13 c13):=cell_at 1 HA3.out
              have y2:w8.cell? ⟨gd3,2,none⟩=some (.slice a23 l23 c23):=cell_at 2 HA3.out
              have y3:w8.cell? ⟨gd3,3,none⟩=some (.slice a33 l33 c33):=cell_at 3 HA3.out
              have y4:w8.cell? ⟨gd3,4,none⟩=some (.slice a43 l43 c43):=cell_at 4 HA3.out
              have xx:w8.cell? ⟨gx1,2,none⟩=some (.slice ca1 mn1 cc1):=cell_at 2 HX1.out
              have KR:=run_any HDV3.out HWH3.out HPL3.out HGD3.out HCW2.out (n:=5) (HC1.out.kept HO.out (by intro a n c e h;simp)) HM1.out
              rw [HBK1.out] at KR
              go_simp
              repeat (first
                | (guard_target =~ Oper.wp _ (Oper.mk (some 95) _ _ _ _ _) _ _ _ _;refine wp_page_load (.tmp 18) rfl gp4 (by rfl) (5 :: c2) HP4.out H612.out ?_;simp only [Act.put,List.setIfInBounds_toArray,List.set_cons_zero,List.set_cons_succ])
                | (guard_target =~ Oper.wp _ (Oper.mk (some 96) _ _ _ _ _) _ _ _ _;refine wp_page_load (.tmp 14) rfl gp2 (by rfl) (5 :: c2) HP2.out H612.out ?_;simp only [Act.put,List.setIfInBounds_toArray,List.set_cons_zero,List.set_cons_succ])
                | (guard_target =~ Oper.wp _ (Oper.mk (some 97) _ _ _ _ _) _ _ _ _;refine wp_page_neq (.tmp 95) (.tmp 96) rfl 5 5 c2 c2 (by rfl) (by rfl) H602.out H602.out ?_;rw [HEQ.out];simp only [Act.put,List.setIfInBounds_toArray,List.set_cons_zero,List.set_cons_succ])
                | (guard_target =~ Oper.wp _ (Oper.mk (some 101) _ _ _ _ _) _ _ _ _;refine wp_page_load (.tmp 18) rfl gp4 (by rfl) (5 :: c2) HP4.out H612.out ?_;simp only [Act.put,List.setIfInBounds_toArray,List.set_cons_zero,List.set_cons_succ])
                | go_values | go_skip | go_guarded | go_step | go_upon)
              clear HEQ
              refine KR.mono ?_
              rintro e w8a ⟨rfl,oR⟩
              dsimp only
              replace HO:=Hd (HO.out.trans oR (by simp))
              (try replace HX1:=Hd (oR.heap HX1.out (by simp)))
              (try replace HX2:=Hd (oR.heap HX2.out (by simp)))
              (try replace HOK1:=Hd (fun d h=>(HOK1.out d h).kept oR (by simp) (fun _ h=>h)))
              (try replace HOK2:=Hd (fun d h=>(HOK2.out d h).kept oR (by simp) (fun _ h=>h)))
              (try replace HDV1:=Hd (HDV1.out.kept oR (by simp) (fun _ h=>h)))
              (try replace HDV2:=Hd (HDV2.out.kept oR (by simp) (fun _ h=>h)))
              (try replace HDV3:=Hd (HDV3.out.kept oR (by simp) (fun _ h=>h)))
              (try replace HDV4:=Hd (HDV4.out.kept oR (by simp) (fun _ h=>h)))
              (try replace HA1:=Hd (oR.heap HA1.out (by simp)))
              (try replace HA2:=Hd (oR.heap HA2.out (by simp)))
              (try replace HA3:=Hd (oR.heap HA3.out (by simp)))
              (try replace HA4:=Hd (oR.heap HA4.out (by simp)))
              (try replace HI1:=Hd (oR.heap HI1.out (by simp)))
              (try replace HI2:=Hd (oR.heap HI2.out (by simp)))
              (try replace HP1:=Hd (HP1.out.kept oR (by simp)))
              (try replace HP2:=Hd (HP2.out.kept oR (by simp)))
              (try replace HP3:=Hd (HP3.out.kept oR (by simp)))
              (try replace HP4:=Hd (HP4.out.kept oR (by simp)))
              (try replace HP5:=Hd (HP5.out.kept oR (by simp)))
              clear KR oR y0 y1 y2 y3 y4 xx
              rw [errV0]
              go_upto_region 22 with (first
                | (clear T5
                   refine wpList_new_page rfl rfl ?_
                   intro wn gp5 hbp hgp hop
                   have HNP:=Hd hbp
                   have HOP:=Hd hop
                   have HGP:=Hd hgp
                   clear hbp hgp hop)
                | (refine wpList_store_page rfl _ _ rfl gp5 (5 :: c) (by rfl) (by rfl) H61.out _ HNP.out (by rfl) ?_
                   intro w9 hb7 ho7))
              have oPP:Only [] w8a w9:=HOP.out.trans ho7 (fun k hk=>.inr (by rw [List.mem_singleton.1 hk];exact HGP.out))
              replace HO:=Hd (HO.out.trans oPP (by simp))
              (try replace HX1:=Hd (oPP.heap HX1.out (by simp)))
              (try replace HX2:=Hd (oPP.heap HX2.out (by simp)))
              (try replace HOK1:=Hd (fun d h=>(HOK1.out d h).kept oPP (by simp) (fun _ h=>h)))
              (try replace HOK2:=Hd (fun d h=>(HOK2.out d h).kept oPP (by simp) (fun _ h=>h)))
              (try replace HDV1:=Hd (HDV1.out.kept oPP (by simp) (fun _ h=>h)))
              (try replace HDV2:=Hd (HDV2.out.kept oPP (by simp) (fun _ h=>h)))
              (try replace HDV3:=Hd (HDV3.out.kept oPP (by simp) (fun _ h=>h)))
              (try replace HDV4:=Hd (HDV4.out.kept oPP (by simp) (fun _ h=>h)))
              (try replace HA1:=Hd (oPP.heap HA1.out (by simp)))
              (try replace HA2:=Hd (oPP.heap HA2.out (by simp)))
              (try replace HA3:=Hd (oPP.heap HA3.out (by simp)))
              (try replace HA4:=Hd (oPP.heap HA4.out (by simp)))
              (try replace HI1:=Hd (oPP.heap HI1.out (by simp)))
              (try replace HI2:=Hd (oPP.heap HI2.out (by simp)))
              (try replace HP1:=Hd (HP1.out.kept oPP (by simp)))
              (try replace HP2:=Hd (HP2.out.kept oPP (by simp)))
              (try replace HP3:=Hd (HP3.out.kept oPP (by simp)))
              (try replace HP4:=Hd (HP4.out.kept oPP (by simp)))
              (try replace HP5:=Hd (HP5.out.kept oPP (by simp)))
              have HP5:=Hd hb7
              clear HNP HOP HGP hb7 ho7 oPP
              have HEQ:=Hd (eq_pages c)
              have q3:=nil_nil9
              have H60:=Hd HCW.out.len
              clear HX1 HDV3 HA3 HP2 HP4
              go_simp
              repeat (first
                | (guard_target =~ Oper.wp _ (Oper.mk (some 111) _ _ _ _ _) _ _ _ _;refine wp_page_load (.tmp 20) rfl gp5 (by rfl) (5 :: c) HP5.out H61.out ?_;simp only [Act.put,List.setIfInBounds_toArray,List.set_cons_zero,List.set_cons_succ])
                | (guard_target =~ Oper.wp _ (Oper.mk (some 112) _ _ _ _ _) _ _ _ _;refine wp_page_load (.tmp 13) rfl gp1 (by rfl) (5 :: c) HP1.out H61.out ?_;simp only [Act.put,List.setIfInBounds_toArray,List.set_cons_zero,List.set_cons_succ])
                | (guard_target =~ Oper.wp _ (Oper.mk (some 113) _ _ _ _ _) _ _ _ _;refine wp_page_eql (.tmp 111) (.tmp 112) rfl 5 5 c c (by rfl) (by rfl) H60.out H60.out ?_;rw [HEQ.out];simp only [Act.put,List.setIfInBounds_toArray,List.set_cons_zero,List.set_cons_succ])
                | go_values | go_skip | go_guarded | go_step | go_upon)
              go_ret
              exact ⟨rfl,HO.out⟩
set_option maxRecDepth 100000 in
theorem ichains_lifted (os:Os) (started:os.Started) (H:Type) (enc:TypeId×Value→H) :
  ReturnsInHanded {} Try.checked os 8 .any (Rows.invertChainsSpec.pre6 enc Try.prog Try.f8 Rows.invertChainsRow.domain false) (Rows.invertChainsSpec.post enc Try.prog Try.f8 false true false false):=by
 refine returnsInHanded_of_change (C:=Try.checked) law_own started (by kernel_rfl) Try.func8
  (ChangeSpec.witness6 (enc:=enc) (C:=Try.checked) false ⟨#[],#[.agg #[.string ⟨#[]⟩,.slice none 0 0,.slice none 0 0],.agg #[.string ⟨#[]⟩,.slice none 0 0,.slice none 0 0]],[]⟩ 8 (by kernel_rfl) (by kernel_rfl) (by kernel_rfl) (by kernel_rfl)) ?_
 intro W base args ds gs before hval0 hW hcnd _
 have hval:∀ (j:Nat) t v,Try.f8.params[j]?=some t→args[j]?=some v→Value.okWide Try.prog W .any base t v:=hval0
 have hW':=hW
 obtain ⟨p,q,hA0,hV,rfl,hfz,hnd⟩:=hW
 have hA:DataW.TrodAll enc Try.prog W 0 (fun _=>true) true Try.f8.params.toList args.toList ds p:=hA0
 rw [Try.params8] at hA hval
 obtain ⟨v0,vs0,d0,ds0,p0,q0,hargs,rfl,rfl,h0,r0⟩:=trodAll_cons hA
 obtain ⟨v1,vs1,d1,ds1,p1,q1,rfl,rfl,rfl,h1,r1⟩:=trodAll_cons r0
 obtain ⟨rfl,rfl,rfl⟩:=trodAll_nil r1
 obtain rfl:args=#[v0,v1]:=by cases args;simp_all
 obtain ⟨rfl,rfl⟩:=trodVars_none hV
 have h0':=h0
 obtain ⟨s0,b0,l0,c0,m0,rfl,hs0,hb0,hg0,hl0,hc0,hk0,hm0⟩:=open_case9 (hval 0 41 v0 rfl rfl) h0
 have hlt0:∀ x∈p0,x.block < W.heap.size:=fun x hx=>hW'.lt x (by simp [hx])
 have h1':=h1
 obtain ⟨s1,b1,l1,c1,m1,rfl,hs1,hb1,hg1,hl1,hc1,hk1,hm1⟩:=open_case9 (hval 1 41 v1 rfl rfl) h1
 have hlt1:∀ x∈p1,x.block < W.heap.size:=fun x hx=>hW'.lt x (by simp [hx])
 clear hA0 hval0
 refine (ichains_walk s0 b0 c0 s1 b1 c1 l0 m0 l1 m1 W hs0 hb0 hg0 hl0 hc0 hk0 hm0 hs1 hb1 hg1 hl1 hc1 hk1 hm1).mono fun e W' ⟨he,hg⟩=>?_
 subst he
 exact ⟨_,rfl,post_quiet (pa:=(p0++(p1++[]))) (pv:=[]) hW' hg (fun _ _ _=>(trodAll_cons_mk (shut_bool Try.underlying4 _) trodAll_mk0)) (fun sp hsp=>(trodAll_cons_mk (arg_stays (by kernel_rfl) (of_decide_eq_true (by kernel_rfl)) h0' hg hlt0 (fun x hx=>hsp x (by simp [hx]))) (trodAll_cons_mk (arg_stays (by kernel_rfl) (of_decide_eq_true (by kernel_rfl)) h1' hg hlt1 (fun x hx=>hsp x (by simp [hx]))) trodAll_mk0))) (fun _ _=>rfl) (by simp) (ok_one (by kernel_rfl) rfl (okWide_bool_mk Try.underlying4 _))⟩
theorem ichains_over:Rows.invertChainsRow.holds Try.pinned (OpenSpec.ofChange Rows.invertChainsSpec):=
 OpenClaim.holds_of_wide 8 Try.f8 rfl rfl rfl rfl rfl rfl rfl ⟨rfl,rfl,rfl,rfl,rfl⟩ rfl rfl rfl rfl rfl (by kernel_rfl) Try.func8 (by kernel_rfl)
  (of_decide_eq_true (by kernel_rfl)) (by unfold Func.isWrapper;first | (rw [if_pos (by decide +kernel)];kernel_rfl) | (rw [if_neg (by decide +kernel)];exact ⟨rfl,rfl⟩))
  (fun os started H enc _=>ichains_lifted os started H enc)
theorem ichains_holds:Rows.InvertChainsSaid:=
 ichains_over
#print axioms ichains_holds
end Go.Proofs.Ytagkbbcpbebapaa
