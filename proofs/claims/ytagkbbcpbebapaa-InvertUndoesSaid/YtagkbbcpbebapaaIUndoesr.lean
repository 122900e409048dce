/- InvertUndoes, for every input: it returns true, and its argument reads behind the call as it did: the turned operation, run behind the operation with the same numbers, comes back to the page. No condition. -/
import Derived.Test.YtagkbbcpbebapaaIfr
import Derived.Test.YtagkbbcpbebapaaWar
import Derived.Test.YtagkbbcpbebapaaZgr
import Derived.ChangeMaps5
namespace Go.Proofs.Ytagkbbcpbebapaa
open Go.ChangeShapes Go.WideShapes Go.ChangeAt Go.RowKit Go.Maps
set_option linter.unusedVariables false
set_option linter.unusedSimpArgs false
set_option maxRecDepth 100000 in
set_option maxHeartbeats 16000000 in
theorem iundoes_walk (s1:ByteArray) (bv1 cv1:Value) (l1 m1:List Int) (w:World) (hs1:s1.size≤maxLen) (hb1:IntsV w bv1 l1) (_:Fit bv1) (hl1:l1.length≤maxLen) (hc1:IntsV w cv1 m1) (_:Fit cv1) (hm1:m1.length≤maxLen) :
    Calls Try.prog 4 #[.agg #[.string s1,bv1,cv1]] w fun e w'=>e=.returned (.bool true)∧Only [] w w':=by
  have hs1':s1.size≤9223372036854775807:=by unfold maxLen at hs1;omega
  have hl':l1.length≤9223372036854775807:=by unfold maxLen at hl1;omega
  obtain ⟨ba1,bc1,rfl,-⟩:=id hb1
  obtain ⟨ca1,cc1,rfl,-⟩:=id hc1
  have HB:=Hd hb1
  have HC1:=Hd hc1
  have HM1:=Hd hm1
  have HL:=Hd hl'
  have HCW:=Hd (cw_fil (ints_n64 hb1) 60)
  obtain ⟨c,hcd⟩:∃ c,c=filC l1 60:=⟨_,rfl⟩
  rw [← hcd] at HCW
  have HCD:=Hd hcd
  have H61:Hid ((5 :: c).length=61):=Hd (by rw [List.length_cons,HCW.out.len])
  obtain ⟨ln1,hln⟩:∃ n,n=l1.length:=⟨_,rfl⟩
  obtain ⟨mn1,hmn⟩:∃ n,n=m1.length:=⟨_,rfl⟩
  rw [← hln] at HB⊢
  rw [← hmn] at HC1⊢
  clear hs1 hb1 hl1 hc1 hm1 hcd hln hmn hl'
  have T1:=trivial
  have T2:=trivial
  have T3:=trivial
  have T4:=trivial
  have T5:=trivial
  go_enter Try.func4,Try.ntmps4
  go_upto_region 1 with (fail)
  have oX:=(Only.refl [] w).alloc (.cells #[.string s1,.slice ba1 ln1 bc1,.slice ca1 mn1 cc1] 41)
  have hX:=heap_new w (.cells #[.string s1,.slice ba1 ln1 bc1,.slice ca1 mn1 cc1] 41)
  obtain ⟨gx1,hgx⟩:∃ g,g=w.heap.size:=⟨_,rfl⟩
  rw [← hgx] at hX⊢
  generalize w.alloc (.cells #[.string s1,.slice ba1 ln1 bc1,.slice ca1 mn1 cc1] 41)=wx at oX hX⊢
  have HO:=Hd oX
  have HX1:=Hd hX
  clear oX hX hgx
  go_wp2_with fail
  refine (alive10_any wx).mono ?_
  rintro e w0 ⟨rfl,o0⟩
  replace HO:=Hd (HO.out.trans o0 (by simp))
  (try replace HX1:=Hd (o0.heap HX1.out (by simp)))
  (try replace HX2:=Hd (o0.heap HX2.out (by simp)))
  (try replace HOK1:=Hd (fun d h=>(HOK1.out d h).kept o0 (by simp) (fun _ h=>h)))
  (try replace HOK2:=Hd (fun d h=>(HOK2.out d h).kept o0 (by simp) (fun _ h=>h)))
  (try replace HDV1:=Hd (HDV1.out.kept o0 (by simp) (fun _ h=>h)))
  (try replace HDV2:=Hd (HDV2.out.kept o0 (by simp) (fun _ h=>h)))
  (try replace HDV3:=Hd (HDV3.out.kept o0 (by simp) (fun _ h=>h)))
  (try replace HDV4:=Hd (HDV4.out.kept o0 (by simp) (fun _ h=>h)))
  (try replace HA1:=Hd (o0.heap HA1.out (by simp)))
  (try replace HA2:=Hd (o0.heap HA2.out (by simp)))
  (try replace HA3:=Hd (o0.heap HA3.out (by simp)))
  (try replace HA4:=Hd (o0.heap HA4.out (by simp)))
  (try replace HI1:=Hd (o0.heap HI1.out (by simp)))
  (try replace HI2:=Hd (o0.heap HI2.out (by simp)))
  (try replace HP1:=Hd (HP1.out.kept o0 (by simp)))
  (try replace HP2:=Hd (HP2.out.kept o0 (by simp)))
  (try replace HP3:=Hd (HP3.out.kept o0 (by simp)))
  (try replace HP4:=Hd (HP4.out.kept o0 (by simp)))
  (try replace HP5:=Hd (HP5.out.kept o0 (by simp)))
  clear o0
  have x0:w0.cell? ⟨gx1,0,none⟩=some (.string s1):=cell_at 0 HX1.out
  obtain ⟨R1,hR⟩:∃ R,R=parseS s1.data.toList:=⟨_,rfl⟩
  have K1:=parsed_any s1 w0 hs1'
  rw [← hR] at K1
  have HR1:=Hd hR
  clear hR
  go_wp2_with fail
  refine K1.mono ?_
  rintro e w0a ⟨sn1,a11,a21,a31,a41,l11,l21,l31,l41,c11,c21,c31,c41,rfl,hok,o1⟩
  replace HO:=Hd (HO.out.trans o1 (by simp))
  (try replace HX1:=Hd (o1.heap HX1.out (by simp)))
  (try replace HX2:=Hd (o1.heap HX2.out (by simp)))
  (try replace HOK1:=Hd (fun d h=>(HOK1.out d h).kept o1 (by simp) (fun _ h=>h)))
  (try replace HOK2:=Hd (fun d h=>(HOK2.out d h).kept o1 (by simp) (fun _ h=>h)))
  (try replace HDV1:=Hd (HDV1.out.kept o1 (by simp) (fun _ h=>h)))
  (try replace HDV2:=Hd (HDV2.out.kept o1 (by simp) (fun _ h=>h)))
  (try replace HDV3:=Hd (HDV3.out.kept o1 (by simp) (fun _ h=>h)))
  (try replace HDV4:=Hd (HDV4.out.kept o1 (by simp) (fun _ h=>h)))
  (try replace HA1:=Hd (o1.heap HA1.out (by simp)))
  (try replace HA2:=Hd (o1.heap HA2.out (by simp)))
  (try replace HA3:=Hd (o1.heap HA3.out (by simp)))
  (try replace HA4:=Hd (o1.heap HA4.out (by simp)))
  (try replace HI1:=Hd (o1.heap HI1.out (by simp)))
  (try replace HI2:=Hd (o1.heap HI2.out (by simp)))
  (try replace HP1:=Hd (HP1.out.kept o1 (by simp)))
  (try replace HP2:=Hd (HP2.out.kept o1 (by simp)))
  (try replace HP3:=Hd (HP3.out.kept o1 (by simp)))
  (try replace HP4:=Hd (HP4.out.kept o1 (by simp)))
  (try replace HP5:=Hd (HP5.out.kept o1 (by simp)))
  have HOK1:=Hd hok
  clear K1 o1 x0 hok
  go_upto_region 4 with (fail)
  have oA:=(Only.refl [] w0a).alloc (.cells #[.string sn1,.slice a11 l11 c11,.slice a21 l21 c21,.slice a31 l31 c31,.slice a41 l41 c41] 27)
  have hA:=heap_new w0a (.cells #[.string sn1,.slice a11 l11 c11,.slice a21 l21 c21,.slice a31 l31 c31,.slice a41 l41 c41] 27)
  obtain ⟨gd1,hgd⟩:∃ g,g=w0a.heap.size:=⟨_,rfl⟩
  rw [← hgd] at hA⊢
  generalize w0a.alloc (.cells #[.string sn1,.slice a11 l11 c11,.slice a21 l21 c21,.slice a31 l31 c31,.slice a41 l41 c41] 27)=w1 at oA hA⊢
  replace HO:=Hd (HO.out.trans oA (by simp))
  (try replace HX1:=Hd (oA.heap HX1.out (by simp)))
  (try replace HX2:=Hd (oA.heap HX2.out (by simp)))
  (try replace HOK1:=Hd (fun d h=>(HOK1.out d h).kept oA (by simp) (fun _ h=>h)))
  (try replace HOK2:=Hd (fun d h=>(HOK2.out d h).kept oA (by simp) (fun _ h=>h)))
  (try replace HDV1:=Hd (HDV1.out.kept oA (by simp) (fun _ h=>h)))
  (try replace HDV2:=Hd (HDV2.out.kept oA (by simp) (fun _ h=>h)))
  (try replace HDV3:=Hd (HDV3.out.kept oA (by simp) (fun _ h=>h)))
  (try replace HDV4:=Hd (HDV4.out.kept oA (by simp) (fun _ h=>h)))
  (try replace HA1:=Hd (oA.heap HA1.out (by simp)))
  (try replace HA2:=Hd (oA.heap HA2.out (by simp)))
  (try replace HA3:=Hd (oA.heap HA3.out (by simp)))
  (try replace HA4:=Hd (oA.heap HA4.out (by simp)))
  (try replace HI1:=Hd (oA.heap HI1.out (by simp)))
  (try replace HI2:=Hd (oA.heap HI2.out (by simp)))
  (try replace HP1:=Hd (HP1.out.kept oA (by simp)))
  (try replace HP2:=Hd (HP2.out.kept oA (by simp)))
  (try replace HP3:=Hd (HP3.out.kept oA (by simp)))
  (try replace HP4:=Hd (HP4.out.kept oA (by simp)))
  (try replace HP5:=Hd (HP5.out.kept oA (by simp)))
  have HA1:=Hd hA
  clear oA hA hgd
  cases R1 with
  | error q=>
    have hne:isOk (Except.error q:Except (Nat×Nat) Df)=false:=rfl
    rw [hne]
    go_wp2_with fail
    go_ret
    exact ⟨rfl,HO.out⟩
  | ok d1=>
    rw [show isOk (Except.ok d1:Except (Nat×Nat) Df)=true from rfl]
    have HDV1:=Hd (HOK1.out d1 rfl)
    have HWH1:=Hd (parse_whole HR1.out.symm)
    have HPL1:=Hd (parse_plain HR1.out.symm)
    have HGD1:=Hd (parse_good HR1.out.symm)
    clear HOK1 HR1
    go_upto_region 6 with (fail)
    have y0:w1.cell? ⟨gd1,0,none⟩=some (.string sn1):=cell_at 0 HA1.out
    have y1:w1.cell? ⟨gd1,1,none⟩=some (.slice a11 l11 c11):=cell_at 1 HA1.out
    have y2:w1.cell? ⟨gd1,2,none⟩=some (.slice a21 l21 c21):=cell_at 2 HA1.out
    have y3:w1.cell? ⟨gd1,3,none⟩=some (.slice a31 l31 c31):=cell_at 3 HA1.out
    have y4:w1.cell? ⟨gd1,4,none⟩=some (.slice a41 l41 c41):=cell_at 4 HA1.out
    have KT:=iturn_any HDV1.out HWH1.out HPL1.out
    go_wp2_with fail
    refine KT.mono ?_
    rintro e w1a ⟨sn2,a12,a22,a32,a42,l12,l22,l32,l42,c12,c22,c32,c42,rfl,hdv,o1⟩
    replace HO:=Hd (HO.out.trans o1 (by simp))
    (try replace HX1:=Hd (o1.heap HX1.out (by simp)))
    (try replace HX2:=Hd (o1.heap HX2.out (by simp)))
    (try replace HOK1:=Hd (fun d h=>(HOK1.out d h).kept o1 (by simp) (fun _ h=>h)))
    (try replace HOK2:=Hd (fun d h=>(HOK2.out d h).kept o1 (by simp) (fun _ h=>h)))
    (try replace HDV1:=Hd (HDV1.out.kept o1 (by simp) (fun _ h=>h)))
    (try replace HDV2:=Hd (HDV2.out.kept o1 (by simp) (fun _ h=>h)))
    (try replace HDV3:=Hd (HDV3.out.kept o1 (by simp) (fun _ h=>h)))
    (try replace HDV4:=Hd (HDV4.out.kept o1 (by simp) (fun _ h=>h)))
    (try replace HA1:=Hd (o1.heap HA1.out (by simp)))
    (try replace HA2:=Hd (o1.heap HA2.out (by simp)))
    (try replace HA3:=Hd (o1.heap HA3.out (by simp)))
    (try replace HA4:=Hd (o1.heap HA4.out (by simp)))
    (try replace HI1:=Hd (o1.heap HI1.out (by simp)))
    (try replace HI2:=Hd (o1.heap HI2.out (by simp)))
    (try replace HP1:=Hd (HP1.out.kept o1 (by simp)))
    (try replace HP2:=Hd (HP2.out.kept o1 (by simp)))
    (try replace HP3:=Hd (HP3.out.kept o1 (by simp)))
    (try replace HP4:=Hd (HP4.out.kept o1 (by simp)))
    (try replace HP5:=Hd (HP5.out.kept o1 (by simp)))
    have HDV2:=Hd hdv
    obtain ⟨ev2,hev⟩:∃ v,v=(if okT d1=true then Value.nilIface else err 13):=⟨_,rfl⟩
    rw [← hev]
    have HEV2:=Hd hev
    clear KT hdv o1 y0 y1 y2 y3 y4 hev
    go_upto_region 7 with (fail)
    have oA:=(Only.refl [] w1a).alloc (.cells #[.string sn2,.slice a12 l12 c12,.slice a22 l22 c22,.slice a32 l32 c32,.slice a42 l42 c42] 27)
    have hA:=heap_new w1a (.cells #[.string sn2,.slice a12 l12 c12,.slice a22 l22 c22,.slice a32 l32 c32,.slice a42 l42 c42] 27)
    obtain ⟨gd2,hgd⟩:∃ g,g=w1a.heap.size:=⟨_,rfl⟩
    rw [← hgd] at hA⊢
    generalize w1a.alloc (.cells #[.string sn2,.slice a12 l12 c12,.slice a22 l22 c22,.slice a32 l32 c32,.slice a42 l42 c42] 27)=w2 at oA hA⊢
    replace HO:=Hd (HO.out.trans oA (by simp))
    (try replace HX1:=Hd (oA.heap HX1.out (by simp)))
    (try replace HX2:=Hd (oA.heap HX2.out (by simp)))
    (try replace HOK1:=Hd (fun d h=>(HOK1.out d h).kept oA (by simp) (fun _ h=>h)))
    (try replace HOK2:=Hd (fun d h=>(HOK2.out d h).kept oA (by simp) (fun _ h=>h)))
    (try replace HDV1:=Hd (HDV1.out.kept oA (by simp) (fun _ h=>h)))
    (try replace HDV2:=Hd (HDV2.out.kept oA (by simp) (fun _ h=>h)))
    (try replace HDV3:=Hd (HDV3.out.kept oA (by simp) (fun _ h=>h)))
    (try replace HDV4:=Hd (HDV4.out.kept oA (by simp) (fun _ h=>h)))
    (try replace HA1:=Hd (oA.heap HA1.out (by simp)))
    (try replace HA2:=Hd (oA.heap HA2.out (by simp)))
    (try replace HA3:=Hd (oA.heap HA3.out (by simp)))
    (try replace HA4:=Hd (oA.heap HA4.out (by simp)))
    (try replace HI1:=Hd (oA.heap HI1.out (by simp)))
    (try replace HI2:=Hd (oA.heap HI2.out (by simp)))
    (try replace HP1:=Hd (HP1.out.kept oA (by simp)))
    (try replace HP2:=Hd (HP2.out.kept oA (by simp)))
    (try replace HP3:=Hd (HP3.out.kept oA (by simp)))
    (try replace HP4:=Hd (HP4.out.kept oA (by simp)))
    (try replace HP5:=Hd (HP5.out.kept oA (by simp)))
    have HA2:=Hd hA
    clear oA hA hgd
    cases hT:okT d1 with
    | false=>
      obtain rfl:ev2=err 13:=by have h:=HEV2.out;rw [hT,if_neg (by decide)] at h;exact h
      clear hT HEV2
      have q1:=fun w=>neq_err 13 w
      have q2:=e13_e13
      go_wp2_with fail
      go_ret
      exact ⟨rfl,HO.out⟩
    | true=>
      have HTU1:=Hd ((okT_iff HWH1.out HPL1.out).1 hT)
      have HWH2:=Hd (turn_whole HWH1.out)
      have HPL2:=Hd (turn_plain HPL1.out)
      have HGD2:=Hd (turn_good HGD1.out)
      replace HDV2:=Hd (show DV _ _ (turnD d1) _ from by have h:=HDV2.out;rw [hT,if_pos rfl] at h;exact h)
      obtain rfl:ev2=.nilIface:=by have h:=HEV2.out;rw [hT,if_pos rfl] at h;exact h
      clear hT HEV2
      have q1:=neq_nil
      go_upto_region 9 with (fail)
      have xb:w2.cell? ⟨gx1,1,none⟩=some (.slice ba1 ln1 bc1):=cell_at 1 HX1.out
      go_wp2_with fail
      refine (filled9_any _ l1 w2 (HB.out.kept HO.out (by intro a n c e h;simp)) HL.out).mono ?_
      rintro e w2a ⟨rfl,o9⟩
      rw [← HCD.out]
      replace HO:=Hd (HO.out.trans o9 (by simp))
      (try replace HX1:=Hd (o9.heap HX1.out (by simp)))
      (try replace HX2:=Hd (o9.heap HX2.out (by simp)))
      (try replace HOK1:=Hd (fun d h=>(HOK1.out d h).kept o9 (by simp) (fun _ h=>h)))
      (try replace HOK2:=Hd (fun d h=>(HOK2.out d h).kept o9 (by simp) (fun _ h=>h)))
      (try replace HDV1:=Hd (HDV1.out.kept o9 (by simp) (fun _ h=>h)))
      (try replace HDV2:=Hd (HDV2.out.kept o9 (by simp) (fun _ h=>h)))
      (try replace HDV3:=Hd (HDV3.out.kept o9 (by simp) (fun _ h=>h)))
      (try replace HDV4:=Hd (HDV4.out.kept o9 (by simp) (fun _ h=>h)))
      (try replace HA1:=Hd (o9.heap HA1.out (by simp)))
      (try replace HA2:=Hd (o9.heap HA2.out (by simp)))
      (try replace HA3:=Hd (o9.heap HA3.out (by simp)))
      (try replace HA4:=Hd (o9.heap HA4.out (by simp)))
      (try replace HI1:=Hd (o9.heap HI1.out (by simp)))
      (try replace HI2:=Hd (o9.heap HI2.out (by simp)))
      (try replace HP1:=Hd (HP1.out.kept o9 (by simp)))
      (try replace HP2:=Hd (HP2.out.kept o9 (by simp)))
      (try replace HP3:=Hd (HP3.out.kept o9 (by simp)))
      (try replace HP4:=Hd (HP4.out.kept o9 (by simp)))
      (try replace HP5:=Hd (HP5.out.kept o9 (by simp)))
      clear o9 xb HB HL HCD
      go_upto_region 10 with (first
        | (clear T1
           refine wpList_new_page rfl rfl ?_
           intro wn gp1 hbp hgp hop
           have HNP:=Hd hbp
           have HOP:=Hd hop
           have HGP:=Hd hgp
           clear hbp hgp hop)
        | (refine wpList_store_page rfl _ _ rfl gp1 (5 :: c) (by rfl) (by rfl) H61.out _ HNP.out (by rfl) ?_
           intro w3 hb7 ho7))
      have oPP:Only [] w2a w3:=HOP.out.trans ho7 (fun k hk=>.inr (by rw [List.mem_singleton.1 hk];exact HGP.out))
      replace HO:=Hd (HO.out.trans oPP (by simp))
      (try replace HX1:=Hd (oPP.heap HX1.out (by simp)))
      (try replace HX2:=Hd (oPP.heap HX2.out (by simp)))
      (try replace HOK1:=Hd (fun d h=>(HOK1.out d h).kept oPP (by simp) (fun _ h=>h)))
      (try replace HOK2:=Hd (fun d h=>(HOK2.out d h).kept oPP (by simp) (fun _ h=>h)))
      (try replace HDV1:=Hd (HDV1.out.kept oPP (by simp) (fun _ h=>h)))
      (try replace HDV2:=Hd (HDV2.out.kept oPP (by simp) (fun _ h=>h)))
      (try replace HDV3:=Hd (HDV3.out.kept oPP (by simp) (fun _ h=>h)))
      (try replace HDV4:=Hd (HDV4.out.kept oPP (by simp) (fun _ h=>h)))
      (try replace HA1:=Hd (oPP.heap HA1.out (by simp)))
      (try replace HA2:=Hd (oPP.heap HA2.out (by simp)))
      (try replace HA3:=Hd (oPP.heap HA3.out (by simp)))
      (try replace HA4:=Hd (oPP.heap HA4.out (by simp)))
      (try replace HI1:=Hd (oPP.heap HI1.out (by simp)))
      (try replace HI2:=Hd (oPP.heap HI2.out (by simp)))
      (try replace HP1:=Hd (HP1.out.kept oPP (by simp)))
      (try replace HP2:=Hd (HP2.out.kept oPP (by simp)))
      (try replace HP3:=Hd (HP3.out.kept oPP (by simp)))
      (try replace HP4:=Hd (HP4.out.kept oPP (by simp)))
      (try replace HP5:=Hd (HP5.out.kept oPP (by simp)))
      have HP1:=Hd hb7
      clear HNP HOP HGP hb7 ho7 oPP
      have y0:w3.cell? ⟨gd1,0,none⟩=some (.string sn1):=cell_at 0 HA1.out
      have y1:w3.cell? ⟨gd1,1,none⟩=some (.slice a11 l11 c11):=cell_at 1 HA1.out
      have y2:w3.cell? ⟨gd1,2,none⟩=some (.slice a21 l21 c21):=cell_at 2 HA1.out
      have y3:w3.cell? ⟨gd1,3,none⟩=some (.slice a31 l31 c31):=cell_at 3 HA1.out
      have y4:w3.cell? ⟨gd1,4,none⟩=some (.slice a41 l41 c41):=cell_at 4 HA1.out
      have xx:w3.cell? ⟨gx1,2,none⟩=some (.slice ca1 mn1 cc1):=cell_at 2 HX1.out
      have KR:=run_any HDV1.out HWH1.out HPL1.out HGD1.out HCW.out (n:=5) (HC1.out.kept HO.out (by intro a n c e h;simp)) HM1.out
      rcases run_turns (d:=d1) (n:=5) (c:=c) (av:=m1) with ⟨k,hk,hr⟩ | ⟨rg,hr⟩
      · rw [hr] at KR
        go_wp2_with (refine wpList_load_page rfl _ rfl gp1 (by rfl) (5 :: c) HP1.out H61.out ?_)
        refine KR.mono ?_
        rintro e w3a ⟨rfl,oR⟩
        dsimp only
        replace HO:=Hd (HO.out.trans oR (by simp))
        (try replace HX1:=Hd (oR.heap HX1.out (by simp)))
        (try replace HX2:=Hd (oR.heap HX2.out (by simp)))
        (try replace HOK1:=Hd (fun d h=>(HOK1.out d h).kept oR (by simp) (fun _ h=>h)))
        (try replace HOK2:=Hd (fun d h=>(HOK2.out d h).kept oR (by simp) (fun _ h=>h)))
        (try replace HDV1:=Hd (HDV1.out.kept oR (by simp) (fun _ h=>h)))
        (try replace HDV2:=Hd (HDV2.out.kept oR (by simp) (fun _ h=>h)))
        (try replace HDV3:=Hd (HDV3.out.kept oR (by simp) (fun _ h=>h)))
        (try replace HDV4:=Hd (HDV4.out.kept oR (by simp) (fun _ h=>h)))
        (try replace HA1:=Hd (oR.heap HA1.out (by simp)))
        (try replace HA2:=Hd (oR.heap HA2.out (by simp)))
        (try replace HA3:=Hd (oR.heap HA3.out (by simp)))
        (try replace HA4:=Hd (oR.heap HA4.out (by simp)))
        (try replace HI1:=Hd (oR.heap HI1.out (by simp)))
        (try replace HI2:=Hd (oR.heap HI2.out (by simp)))
        (try replace HP1:=Hd (HP1.out.kept oR (by simp)))
        (try replace HP2:=Hd (HP2.out.kept oR (by simp)))
        (try replace HP3:=Hd (HP3.out.kept oR (by simp)))
        (try replace HP4:=Hd (HP4.out.kept oR (by simp)))
        (try replace HP5:=Hd (HP5.out.kept oR (by simp)))
        clear KR oR y0 y1 y2 y3 y4 xx
        rw [errV_ne hk]
        have q2:=fun w=>neq_err k w
        clear hr hk
        go_upto_region 11 with (first
          | (clear T2
             refine wpList_new_page rfl rfl ?_
             intro wn gp2 hbp hgp hop
             have HNP:=Hd hbp
             have HOP:=Hd hop
             have HGP:=Hd hgp
             clear hbp hgp hop)
          | (refine wpList_store_page rfl _ _ rfl gp2 (0 :: blankP) (by rfl) (by rfl) (by rfl) _ HNP.out (by rfl) ?_
             intro w4 hb7 ho7))
        have oPP:Only [] w3a w4:=HOP.out.trans ho7 (fun k hk=>.inr (by rw [List.mem_singleton.1 hk];exact HGP.out))
        replace HO:=Hd (HO.out.trans oPP (by simp))
        (try replace HX1:=Hd (oPP.heap HX1.out (by simp)))
        (try replace HX2:=Hd (oPP.heap HX2.out (by simp)))
        (try replace HOK1:=Hd (fun d h=>(HOK1.out d h).kept oPP (by simp) (fun _ h=>h)))
        (try replace HOK2:=Hd (fun d h=>(HOK2.out d h).kept oPP (by simp) (fun _ h=>h)))
        (try replace HDV1:=Hd (HDV1.out.kept oPP (by simp) (fun _ h=>h)))
        (try replace HDV2:=Hd (HDV2.out.kept oPP (by simp) (fun _ h=>h)))
        (try replace HDV3:=Hd (HDV3.out.kept oPP (by simp) (fun _ h=>h)))
        (try replace HDV4:=Hd (HDV4.out.kept oPP (by simp) (fun _ h=>h)))
        (try replace HA1:=Hd (oPP.heap HA1.out (by simp)))
        (try replace HA2:=Hd (oPP.heap HA2.out (by simp)))
        (try replace HA3:=Hd (oPP.heap HA3.out (by simp)))
        (try replace HA4:=Hd (oPP.heap HA4.out (by simp)))
        (try replace HI1:=Hd (oPP.heap HI1.out (by simp)))
        (try replace HI2:=Hd (oPP.heap HI2.out (by simp)))
        (try replace HP1:=Hd (HP1.out.kept oPP (by simp)))
        (try replace HP2:=Hd (HP2.out.kept oPP (by simp)))
        (try replace HP3:=Hd (HP3.out.kept oPP (by simp)))
        (try replace HP4:=Hd (HP4.out.kept oPP (by simp)))
        (try replace HP5:=Hd (HP5.out.kept oPP (by simp)))
        have HP2:=Hd hb7
        clear HNP HOP HGP hb7 ho7 oPP
        go_wp2_with fail
        go_ret
        exact ⟨rfl,HO.out⟩
      · have HBK:=Hd (run_back HWH1.out HTU1.out HCW.out hr)
        have HCW2:=Hd (ranC_w HWH1.out HTU1.out HCW.out m1)
        rw [hr] at KR
        clear hr
        generalize ranC d1 c m1=c2 at KR HBK HCW2
        have H612:Hid ((5 :: c2).length=61):=Hd (by rw [List.length_cons,HCW2.out.len])
        go_wp2_with (refine wpList_load_page rfl _ rfl gp1 (by rfl) (5 :: c) HP1.out H61.out ?_)
        refine KR.mono ?_
        rintro e w3a ⟨rfl,oR⟩
        dsimp only
        replace HO:=Hd (HO.out.trans oR (by simp))
        (try replace HX1:=Hd (oR.heap HX1.out (by simp)))
        (try replace HX2:=Hd (oR.heap HX2.out (by simp)))
        (try replace HOK1:=Hd (fun d h=>(HOK1.out d h).kept oR (by simp) (fun _ h=>h)))
        (try replace HOK2:=Hd (fun d h=>(HOK2.out d h).kept oR (by simp) (fun _ h=>h)))
        (try replace HDV1:=Hd (HDV1.out.kept oR (by simp) (fun _ h=>h)))
        (try replace HDV2:=Hd (HDV2.out.kept oR (by simp) (fun _ h=>h)))
        (try replace HDV3:=Hd (HDV3.out.kept oR (by simp) (fun _ h=>h)))
        (try replace HDV4:=Hd (HDV4.out.kept oR (by simp) (fun _ h=>h)))
        (try replace HA1:=Hd (oR.heap HA1.out (by simp)))
        (try replace HA2:=Hd (oR.heap HA2.out (by simp)))
        (try replace HA3:=Hd (oR.heap HA3.out (by simp)))
        (try replace HA4:=Hd (oR.heap HA4.out (by simp)))
        (try replace HI1:=Hd (oR.heap HI1.out (by simp)))
        (try replace HI2:=Hd (oR.heap HI2.out (by simp)))
        (try replace HP1:=Hd (HP1.out.kept oR (by simp)))
        (try replace HP2:=Hd (HP2.out.kept oR (by simp)))
        (try replace HP3:=Hd (HP3.out.kept oR (by simp)))
        (try replace HP4:=Hd (HP4.out.kept oR (by simp)))
        (try replace HP5:=Hd (HP5.out.kept oR (by simp)))
        clear KR oR y0 y1 y2 y3 y4 xx
        rw [errV0]
        go_upto_region 11 with (first
          | (clear T2
             refine wpList_new_page rfl rfl ?_
             intro wn gp2 hbp hgp hop
             have HNP:=Hd hbp
             have HOP:=Hd hop
             have HGP:=Hd hgp
             clear hbp hgp hop)
          | (refine wpList_store_page rfl _ _ rfl gp2 (5 :: c2) (by rfl) (by rfl) H612.out _ HNP.out (by rfl) ?_
             intro w4 hb7 ho7))
        have oPP:Only [] w3a w4:=HOP.out.trans ho7 (fun k hk=>.inr (by rw [List.mem_singleton.1 hk];exact HGP.out))
        replace HO:=Hd (HO.out.trans oPP (by simp))
        (try replace HX1:=Hd (oPP.heap HX1.out (by simp)))
        (try replace HX2:=Hd (oPP.heap HX2.out (by simp)))
        (try replace HOK1:=Hd (fun d h=>(HOK1.out d h).kept oPP (by simp) (fun _ h=>h)))
        (try replace HOK2:=Hd (fun d h=>(HOK2.out d h).kept oPP (by simp) (fun _ h=>h)))
        (try replace HDV1:=Hd (HDV1.out.kept oPP (by simp) (fun _ h=>h)))
        (try replace HDV2:=Hd (HDV2.out.kept oPP (by simp) (fun _ h=>h)))
        (try replace HDV3:=Hd (HDV3.out.kept oPP (by simp) (fun _ h=>h)))
        (try replace HDV4:=Hd (HDV4.out.kept oPP (by simp) (fun _ h=>h)))
        (try replace HA1:=Hd (oPP.heap HA1.out (by simp)))
        (try replace HA2:=Hd (oPP.heap HA2.out (by simp)))
        (try replace HA3:=Hd (oPP.heap HA3.out (by simp)))
        (try replace HA4:=Hd (oPP.heap HA4.out (by simp)))
        (try replace HI1:=Hd (oPP.heap HI1.out (by simp)))
        (try replace HI2:=Hd (oPP.heap HI2.out (by simp)))
        (try replace HP1:=Hd (HP1.out.kept oPP (by simp)))
        (try replace HP2:=Hd (HP2.out.kept oPP (by simp)))
        (try replace HP3:=Hd (HP3.out.kept oPP (by simp)))
        (try replace HP4:=Hd (HP4.out.kept oPP (by simp)))
        (try replace HP5:=Hd (HP5.out.kept oPP (by simp)))
        have HP2:=Hd hb7
        clear HNP HOP HGP hb7 ho7 oPP
        go_upto_region 13 with (fail)
        have y0:w4.cell? ⟨gd2,0,none⟩=some (.string sn2):=cell_at 0 HA2.out
        have y1:w4.cell? ⟨gd2,1,none⟩=some (.slice a12 l12 c12):=cell_at 1 HA2.out
        have y2:w4.cell? ⟨gd2,2,none⟩=some (.slice a22 l22 c22):=cell_at 2 HA2.out
        have y3:w4.cell? ⟨gd2,3,none⟩=some (.slice a32 l32 c32):=cell_at 3 HA2.out
        have y4:w4.cell? ⟨gd2,4,none⟩=some (.slice a42 l42 c42):=cell_at 4 HA2.out
        have xx:w4.cell? ⟨gx1,2,none⟩=some (.slice ca1 mn1 cc1):=cell_at 2 HX1.out
        have KR:=run_any HDV2.out HWH2.out HPL2.out HGD2.out HCW2.out (n:=5) (HC1.out.kept HO.out (by intro a n c e h;simp)) HM1.out
        rw [HBK.out] at KR
        go_wp2_with (refine wpList_load_page rfl _ rfl gp2 (by rfl) (5 :: c2) HP2.out H612.out ?_)
        refine KR.mono ?_
        rintro e w4a ⟨rfl,oR⟩
        dsimp only
        replace HO:=Hd (HO.out.trans oR (by simp))
        (try replace HX1:=Hd (oR.heap HX1.out (by simp)))
        (try replace HX2:=Hd (oR.heap HX2.out (by simp)))
        (try replace HOK1:=Hd (fun d h=>(HOK1.out d h).kept oR (by simp) (fun _ h=>h)))
        (try replace HOK2:=Hd (fun d h=>(HOK2.out d h).kept oR (by simp) (fun _ h=>h)))
        (try replace HDV1:=Hd (HDV1.out.kept oR (by simp) (fun _ h=>h)))
        (try replace HDV2:=Hd (HDV2.out.kept oR (by simp) (fun _ h=>h)))
        (try replace HDV3:=Hd (HDV3.out.kept oR (by simp) (fun _ h=>h)))
        (try replace HDV4:=Hd (HDV4.out.kept oR (by simp) (fun _ h=>h)))
        (try replace HA1:=Hd (oR.heap HA1.out (by simp)))
        (try replace HA2:=Hd (oR.heap HA2.out (by simp)))
        (try replace HA3:=Hd (oR.heap HA3.out (by simp)))
        (try replace HA4:=Hd (oR.heap HA4.out (by simp)))
        (try replace HI1:=Hd (oR.heap HI1.out (by simp)))
        (try replace HI2:=Hd (oR.heap HI2.out (by simp)))
        (try replace HP1:=Hd (HP1.out.kept oR (by simp)))
        (try replace HP2:=Hd (HP2.out.kept oR (by simp)))
        (try replace HP3:=Hd (HP3.out.kept oR (by simp)))
        (try replace HP4:=Hd (HP4.out.kept oR (by simp)))
        (try replace HP5:=Hd (HP5.out.kept oR (by simp)))
        clear KR oR y0 y1 y2 y3 y4 xx
        rw [errV0]
        go_upto_region 14 with (first
          | (clear T3
             refine wpList_new_page rfl rfl ?_
             intro wn gp3 hbp hgp hop
             have HNP:=Hd hbp
             have HOP:=Hd hop
             have HGP:=Hd hgp
             clear hbp hgp hop)
          | (refine wpList_store_page rfl _ _ rfl gp3 (5 :: c) (by rfl) (by rfl) H61.out _ HNP.out (by rfl) ?_
             intro w5 hb7 ho7))
        have oPP:Only [] w4a w5:=HOP.out.trans ho7 (fun k hk=>.inr (by rw [List.mem_singleton.1 hk];exact HGP.out))
        replace HO:=Hd (HO.out.trans oPP (by simp))
        (try replace HX1:=Hd (oPP.heap HX1.out (by simp)))
        (try replace HX2:=Hd (oPP.heap HX2.out (by simp)))
        (try replace HOK1:=Hd (fun d h=>(HOK1.out d h).kept oPP (by simp) (fun _ h=>h)))
        (try replace HOK2:=Hd (fun d h=>(HOK2.out d h).kept oPP (by simp) (fun _ h=>h)))
        (try replace HDV1:=Hd (HDV1.out.kept oPP (by simp) (fun _ h=>h)))
        (try replace HDV2:=Hd (HDV2.out.kept oPP (by simp) (fun _ h=>h)))
        (try replace HDV3:=Hd (HDV3.out.kept oPP (by simp) (fun _ h=>h)))
        (try replace HDV4:=Hd (HDV4.out.kept oPP (by simp) (fun _ h=>h)))
        (try replace HA1:=Hd (oPP.heap HA1.out (by simp)))
        (try replace HA2:=Hd (oPP.heap HA2.out (by simp)))
        (try replace HA3:=Hd (oPP.heap HA3.out (by simp)))
        (try replace HA4:=Hd (oPP.heap HA4.out (by simp)))
        (try replace HI1:=Hd (oPP.heap HI1.out (by simp)))
        (try replace HI2:=Hd (oPP.heap HI2.out (by simp)))
        (try replace HP1:=Hd (HP1.out.kept oPP (by simp)))
        (try replace HP2:=Hd (HP2.out.kept oPP (by simp)))
        (try replace HP3:=Hd (HP3.out.kept oPP (by simp)))
        (try replace HP4:=Hd (HP4.out.kept oPP (by simp)))
        (try replace HP5:=Hd (HP5.out.kept oPP (by simp)))
        have HP3:=Hd hb7
        clear HNP HOP HGP hb7 ho7 oPP
        have HEQ:=Hd (eq_pages c)
        have q3:=nil_nil9
        have H60:=Hd HCW.out.len
        clear HX1 HDV1 HDV2 HA1 HA2 HP2
        go_simp
        repeat (first
          | (guard_target =~ Oper.wp _ (Oper.mk (some 58) _ _ _ _ _) _ _ _ _;refine wp_page_load (.tmp 10) rfl gp3 (by rfl) (5 :: c) HP3.out H61.out ?_;simp only [Act.put,List.setIfInBounds_toArray,List.set_cons_zero,List.set_cons_succ])
          | (guard_target =~ Oper.wp _ (Oper.mk (some 59) _ _ _ _ _) _ _ _ _;refine wp_page_load (.tmp 7) rfl gp1 (by rfl) (5 :: c) HP1.out H61.out ?_;simp only [Act.put,List.setIfInBounds_toArray,List.set_cons_zero,List.set_cons_succ])
          | (guard_target =~ Oper.wp _ (Oper.mk (some 60) _ _ _ _ _) _ _ _ _;refine wp_page_eql (.tmp 58) (.tmp 59) rfl 5 5 c c (by rfl) (by rfl) H60.out H60.out ?_;rw [HEQ.out];simp only [Act.put,List.setIfInBounds_toArray,List.set_cons_zero,List.set_cons_succ])
          | go_values | go_skip | go_guarded | go_step | go_upon)
        go_ret
        exact ⟨rfl,HO.out⟩
set_option maxRecDepth 100000 in
theorem iundoes_lifted (os:Os) (started:os.Started) (H:Type) (enc:TypeId×Value→H) :
  ReturnsInHanded {} Try.checked os 4 .any (Rows.invertUndoesSpec.pre6 enc Try.prog Try.f4 Rows.invertUndoesRow.domain false) (Rows.invertUndoesSpec.post enc Try.prog Try.f4 false true false false):=by
 refine returnsInHanded_of_change (C:=Try.checked) law_own started (by kernel_rfl) Try.func4
  (ChangeSpec.witness6 (enc:=enc) (C:=Try.checked) false ⟨#[],#[.agg #[.string ⟨#[]⟩,.slice none 0 0,.slice none 0 0]],[]⟩ 8 (by kernel_rfl) (by kernel_rfl) (by kernel_rfl) (by kernel_rfl)) ?_
 intro W base args ds gs before hval0 hW hcnd _
 have hval:∀ (j:Nat) t v,Try.f4.params[j]?=some t→args[j]?=some v→Value.okWide Try.prog W .any base t v:=hval0
 have hW':=hW
 obtain ⟨p,q,hA0,hV,rfl,hfz,hnd⟩:=hW
 have hA:DataW.TrodAll enc Try.prog W 0 (fun _=>true) true Try.f4.params.toList args.toList ds p:=hA0
 rw [Try.params4] at hA hval
 obtain ⟨v0,vs0,d0,ds0,p0,q0,hargs,rfl,rfl,h0,r0⟩:=trodAll_cons hA
 obtain ⟨rfl,rfl,rfl⟩:=trodAll_nil r0
 obtain rfl:args=#[v0]:=by cases args;simp_all
 obtain ⟨rfl,rfl⟩:=trodVars_none hV
 have h0':=h0
 obtain ⟨s0,b0,l0,c0,m0,rfl,hs0,hb0,hg0,hl0,hc0,hk0,hm0⟩:=open_case9 (hval 0 41 v0 rfl rfl) h0
 have hlt0:∀ x∈p0,x.block < W.heap.size:=fun x hx=>hW'.lt x (by simp [hx])
 clear hA0 hval0
 refine (iundoes_walk s0 b0 c0 l0 m0 W hs0 hb0 hg0 hl0 hc0 hk0 hm0).mono fun e W' ⟨he,hg⟩=>?_
 subst he
 exact ⟨_,rfl,post_quiet (pa:=(p0++[])) (pv:=[]) hW' hg (fun _ _ _=>(trodAll_cons_mk (shut_bool Try.underlying4 _) trodAll_mk0)) (fun sp hsp=>(trodAll_cons_mk (arg_stays (by kernel_rfl) (of_decide_eq_true (by kernel_rfl)) h0' hg hlt0 (fun x hx=>hsp x (by simp [hx]))) trodAll_mk0)) (fun _ _=>rfl) (by simp) (ok_one (by kernel_rfl) rfl (okWide_bool_mk Try.underlying4 _))⟩
theorem iundoes_over:Rows.invertUndoesRow.holds Try.pinned (OpenSpec.ofChange Rows.invertUndoesSpec):=
 OpenClaim.holds_of_wide 4 Try.f4 rfl rfl rfl rfl rfl rfl rfl ⟨rfl,rfl,rfl,rfl,rfl⟩ rfl rfl rfl rfl rfl (by kernel_rfl) Try.func4 (by kernel_rfl)
  (of_decide_eq_true (by kernel_rfl)) (by unfold Func.isWrapper;first | (rw [if_pos (by decide +kernel)];kernel_rfl) | (rw [if_neg (by decide +kernel)];exact ⟨rfl,rfl⟩))
  (fun os started H enc _=>iundoes_lifted os started H enc)
theorem iundoes_holds:Rows.InvertUndoesSaid:=
 iundoes_over
#print axioms iundoes_holds
end Go.Proofs.Ytagkbbcpbebapaa
